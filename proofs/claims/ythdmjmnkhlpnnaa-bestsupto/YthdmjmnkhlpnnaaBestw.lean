/-
  The walk of balelaw.Bests: it answers true, and nothing that was there has turned.
-/
import Derived.Test.YthdmjmnkhlpnnaaBbest
import Derived.Test.YthdmjmnkhlpnnaaSumw
namespace Go.Proofs.Ythdmjmnkhlpnnaa
open Go.RowKit

set_option maxRecDepth 20000 in
set_option maxHeartbeats 1000000 in
theorem bests_walk (m : Int) (la : Option Addr) (lc : Nat) (ls : List (Option Addr × Nat × List Int)) (w : World) (hl : Lists w la ls) :
    Calls Try.prog 4 #[.slice la ls.length lc, .int .i64 m] w fun e w' => e = .returned (.bool true) ∧ Below w.heap.size w w' := by
  have HL := hid hl
  have hfew := hl.few
  clear hl
  go_enter Try.func4, Try.ntmps4
  go_wp2
  go_loopw [6] (fun i wr => ∃ k : Nat, k ≤ ls.length ∧ i = .int .i64 k ∧ Hid (∃ L lv mv gv gs, L.length = 8 * k ∧ Book wr w.heap.size L (-2 * (k : Int)) lv mv gv gs ∧ Below w.heap.size w wr)) (fun i _ => ls.length - (intOf i).toNat)
  case atStart => exact ⟨0, by omega, rfl, [], _, _, _, _, rfl, book_new w, (Below.refl _ _).alloc (Nat.le_refl _) _⟩
  case round =>
    obtain ⟨k, hk, rfl, HR⟩ := hrel
    by_cases hlt : k < ls.length
    · obtain ⟨L, lv, mv, gv, gs, hLl, hB, hbel⟩ := HR.out
      obtain ⟨b, off, rfl, hc⟩ := HL.out.cells (by omega)
      obtain ⟨hseg, hnone, hz⟩ := HL.out.segs ls[k] (List.getElem_mem hlt)
      obtain ⟨⟨ao, c, zs⟩, hp⟩ : ∃ p, p = ls[k] := ⟨_, rfl⟩
      have hck : w.cell? ⟨b, off + k, none⟩ = some (.slice ao zs.length c) := by rw [hc k hlt, ← hp]
      rw [← hp] at hseg hnone hz
      have hbl : b < w.heap.size := World.block_lt_of_cell? w _ hck
      have hcell : wr.cell? ⟨b, off + k, none⟩ = some (.slice ao zs.length c) := (hbel.cell (p := ⟨b, off + k, none⟩) hbl).trans hck
      have HB := hid hB
      have Hbel := hid hbel
      have Hseg := hid hseg
      have Hnone := hid hnone
      have HLl := hid hLl
      have hlen : L.length ≤ 80000000 := by omega
      clear hB hbel hseg hnone hc hp hck HR hLl
      go_wp2_with fail
      refine (bbest_any m HB.out (by omega) (by omega) (by omega) ao c Hseg.out Hbel.out (Nat.le_refl _) Hnone.out hz).mono ?_
      rintro e w1 ⟨rfl, L1, lv1, mv1, gv1, gs1, l1, B1, b1⟩
      have HB1 := hid B1
      have Hb1 := hid b1
      have Hl1 := hid l1
      clear B1 b1 l1
      go_wp2_with fail
      refine (looks_any HB1.out (by rw [Hl1.out]; omega)).mono ?_
      rintro e w2 ⟨rfl, q, hw2⟩
      have Hb2 : Hid (Below w1.heap.size w1 w2) := by rw [hw2]; exact below_N q
      clear hw2
      go_wp2
      go_roundw
      case rel =>
        refine ⟨k + 1, by omega, by go_num, L1, lv1, mv1, gv1, gs1, by rw [Hl1.out, HLl.out]; omega, ?_, ?_⟩
        · have := HB1.out.below Hb2.out
          rw [show -2 * (k : Int) - 2 = -2 * ((k + 1 : Nat) : Int) by omega] at this
          exact this
        · exact Hbel.out.trans (Hb1.out.trans (Hb2.out.mono (Nat.le_of_lt HB1.out.lt)))
      case measure => simp [intOf]; omega
    · go_wp2
      go_ret
      obtain ⟨L, lv, mv, gv, gs, _, _, hbel⟩ := HR.out
      exact ⟨rfl, hbel⟩
end Go.Proofs.Ythdmjmnkhlpnnaa
