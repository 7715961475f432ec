/-
  The walk of balelaw.Sums: it answers true, and nothing that was there has turned.
-/
import Derived.Test.YthdmjmnkhlpnnaaBcodes
import Derived.Test.YthdmjmnkhlpnnaaAdler
namespace Go.Proofs.Ythdmjmnkhlpnnaa
open Go.RowKit

/-- lists of numbers that came in -/
structure Lists (w : World) (la : Option Addr) (ls : List (Option Addr × Nat × List Int)) : Prop where
  cells : 0 < ls.length → ∃ b off, la = some ⟨b, off, none⟩ ∧ ∀ j (h : j < ls.length), w.cell? ⟨b, off + j, none⟩ = some (.slice ls[j].1 ls[j].2.2.length ls[j].2.1)
  segs : ∀ p ∈ ls, Seg w p.1 p.2.2 ∧ (p.1 = none → p.2.2.length = 0 ∧ p.2.1 = 0) ∧ p.2.2.length ≤ 1048576
  few : ls.length ≤ 1048576

theorem book_new (w : World) : Book (w.alloc (.cells #[.slice none 0 0, .slice none 0 0, .int .i64 0, .slice none 0 0] 29)) w.heap.size [] 0 (.slice none 0 0) (.slice none 0 0) (.slice none 0 0) [] :=
  ⟨heap_alloc_new w _, World.ownsRow_nil _ _ _ _, World.ownsRow_nil _ _ _ _, World.ownsRow_nil _ _ _ _, fun k h => by simp [Value.ownBlock] at h, fun p hp => by cases hp⟩

theorem adl_bound (l : List UInt8) : 0 ≤ (65536 : Int) * (adl l).2 + (adl l).1 ∧ (65536 : Int) * (adl l).2 + (adl l).1 ≤ 4294967295 := by
  have := adl_lt l
  omega

set_option maxRecDepth 20000 in
set_option maxHeartbeats 1000000 in
theorem sums_walk (s : ByteArray) (hs : s.size ≤ maxLen) (la : Option Addr) (lc : Nat) (ls : List (Option Addr × Nat × List Int)) (w : World) (hl : Lists w la ls) :
    Calls Try.prog 3 #[.string s, .slice la ls.length lc] w fun e w' => e = .returned (.bool true) ∧ Below w.heap.size w w' := by
  have HL := hid hl
  have hfew := hl.few
  clear hl
  obtain ⟨X, hX⟩ : ∃ X : Int, X = 65536 * ((adl s.data.toList).2 : Int) + (adl s.data.toList).1 := ⟨_, rfl⟩
  have hXb := adl_bound s.data.toList
  rw [← hX] at hXb
  have HX := hid hX
  clear hX
  go_enter Try.func3, Try.ntmps3
  go_wp2_with (first | (go_at_call 6; refine (sum_any _ _ hs).mono ?_; rintro e w' ⟨rfl, rfl⟩; rw [← HX.out]) | (go_at_call 7; refine (refsum_any _ _ hs).mono ?_; rintro e w' ⟨rfl, rfl⟩; rw [← HX.out]))
  go_loopw [7] (fun i wr => ∃ k : Nat, k ≤ ls.length ∧ i = .int .i64 k ∧ Hid (∃ L lv mv gv gs, L.length = 8 * k ∧ Book wr w.heap.size L (-2 * (k : Int)) lv mv gv gs ∧ Below w.heap.size w wr)) (fun i _ => ls.length - (intOf i).toNat)
  case atStart => exact ⟨0, by omega, rfl, [], _, _, _, _, rfl, book_new w, (Below.refl _ _).alloc (Nat.le_refl _) _⟩
  case round =>
    obtain ⟨k, hk, rfl, HR⟩ := hrel
    by_cases hlt : k < ls.length
    · obtain ⟨L, lv, mv, gv, gs, hLl, hB, hbel⟩ := HR.out
      obtain ⟨b, off, rfl, hc⟩ := HL.out.cells (by omega)
      obtain ⟨hseg, hnone, hz⟩ := HL.out.segs ls[k] (List.getElem_mem hlt)
      obtain ⟨⟨ao, c, zs⟩, hp⟩ : ∃ p, p = ls[k] := ⟨_, rfl⟩
      have hck : w.cell? ⟨b, off + k, none⟩ = some (.slice ao zs.length c) := by rw [hc k hlt, ← hp]
      rw [← hp] at hseg hnone hz
      have hbl : b < w.heap.size := World.block_lt_of_cell? w _ hck
      have hcell : wr.cell? ⟨b, off + k, none⟩ = some (.slice ao zs.length c) := (hbel.cell (p := ⟨b, off + k, none⟩) hbl).trans hck
      have HB := hid hB
      have Hbel := hid hbel
      have Hseg := hid hseg
      have Hnone := hid hnone
      have HLl := hid hLl
      have hlen : L.length ≤ 80000000 := by omega
      clear hB hbel hseg hnone hc hp hck HR hLl
      go_wp2_with fail
      refine (bcodes_any HB.out (by omega) (by omega) (by omega) ao c Hseg.out Hbel.out (Nat.le_refl _) Hnone.out hz).mono ?_
      rintro e w1 ⟨rfl, L1, lv1, mv1, gv1, gs1, l1, B1, b1⟩
      have HB1 := hid B1
      have Hb1 := hid b1
      have Hl1 := hid l1
      clear B1 b1 l1
      go_wp2_with fail
      refine (looks_any HB1.out (by rw [Hl1.out]; omega)).mono ?_
      rintro e w2 ⟨rfl, q, hw2⟩
      have Hb2 : Hid (Below w1.heap.size w1 w2) := by rw [hw2]; exact below_N q
      clear hw2
      go_wp2
      go_roundw
      case rel =>
        refine ⟨k + 1, by omega, by go_num, L1, lv1, mv1, gv1, gs1, by rw [Hl1.out, HLl.out]; omega, ?_, ?_⟩
        · have := HB1.out.below Hb2.out
          rw [show -2 * (k : Int) - 2 = -2 * ((k + 1 : Nat) : Int) by omega] at this
          exact this
        · exact Hbel.out.trans (Hb1.out.trans (Hb2.out.mono (Nat.le_of_lt HB1.out.lt)))
      case measure => simp [intOf]; omega
    · go_wp2
      go_ret
      obtain ⟨L, lv, mv, gv, gs, _, _, hbel⟩ := HR.out
      exact ⟨rfl, hbel⟩
end Go.Proofs.Ythdmjmnkhlpnnaa
