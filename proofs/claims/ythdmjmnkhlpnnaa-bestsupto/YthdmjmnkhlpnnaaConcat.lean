/-
  What slices.Grow and slices.Concat do, of two lists that are not empty.
-/
import Derived.Test.YthdmjmnkhlpnnaaBcodes
import Derived.Lib.AppendZeros
namespace Go.Proofs.Ythdmjmnkhlpnnaa
open Go.RowKit

set_option maxHeartbeats 800000 in
theorem grow_any (k : Nat) (h0 : 0 < k) (hk : k ≤ 100000000) (w : World) :
    Calls Try.prog 49 #[.slice none 0 0, .int .i64 k] w fun e w' => ∃ g cap, e = .returned (.slice (some ⟨g, 0, none⟩) 0 cap) ∧ w'.ownsRow w.heap.size 3 1 (.slice (some ⟨g, 0, none⟩) 0 cap) 0 [] ∧ k ≤ cap ∧ Below w.heap.size w w' := by
  have hb8 : Try.t3.bytes = 8 := by kernel_rfl
  have hnc : Builtin.nextslicecap k 0 = k := nextslicecap_zero h0
  go_enter Try.func49, Try.ntmps49
  go_wp2
  go_ret
  have hge := grownCap_ge w k 0 3
  have hle := grownCap_le_maxLen w k 0 3 (by unfold maxLen; omega)
  refine ⟨w.heap.size, grownCap w k 0 3, rfl, ?_, hge, ?_⟩
  · refine ⟨rfl, .inr ⟨w.heap.size, grownCap w k 0 3, _, rfl, Nat.le_refl _, heap_alloc_new w.drew _, by omega, hle, ?_, by simp⟩⟩
    simp [size_zeroCells]
    unfold grownCap at hge ⊢
    omega
  · exact ((Below.refl _ _).drew).alloc (Nat.le_refl _) _

set_option maxRecDepth 20000 in
set_option maxHeartbeats 2000000 in
theorem concat_any {w : World} {b : Nat} (a1 a2 : Addr) (c1 c2 : Nat) (xs ys : List Int) (h1 : Seg w (some a1) xs) (h2 : Seg w (some a2) ys) (hx : 0 < xs.length) (hxl : xs.length ≤ 10000000) (hyl : ys.length ≤ 10000000)
    (k0 : w.cell? ⟨b, 0, none⟩ = some (.slice (some a1) xs.length c1)) (k1 : w.cell? ⟨b, 1, none⟩ = some (.slice (some a2) ys.length c2)) :
    Calls Try.prog 44 #[.slice (some ⟨b, 0, none⟩) 2 2] w fun e w' => ∃ g cap, e = .returned (.slice (some ⟨g, 0, none⟩) (xs.length + ys.length) cap) ∧ w.heap.size ≤ g ∧ w'.ownsRow w.heap.size 3 1 (.slice (some ⟨g, 0, none⟩) (xs.length + ys.length) cap) (xs.length + ys.length) ((xs ++ ys).map (Value.int .i64)) ∧ Below w.heap.size w w' := by
  obtain ⟨i0, hi, hz0, hz1, hz2⟩ := info_parts info3
  have H1 := hid h1
  have H2 := hid h2
  clear h1 h2
  go_enter Try.func44, Try.ntmps44
  go_wp2
  refine wp_loop_rounds 3 ?_
  rw [rounds_succ]
  go_wp2_with fail
  rw [rounds_succ]
  go_wp2_with fail
  rw [rounds_succ]
  go_wp2_with fail
  have hk : (xs.length : Int) + (ys.length : Int) = ((xs.length + ys.length : Nat) : Int) := by omega
  rw [hk]
  clear hk
  refine (grow_any (xs.length + ys.length) (by omega) (by omega) _).mono ?_
  rintro e w1 ⟨g, cap, rfl, hown, hcap, hb1⟩
  have HO := hid hown
  have Hb1 := hid hb1
  have hbl : b < w.heap.size := World.block_lt_of_cell? w _ k0
  have k0' : w1.cell? ⟨b, 0, none⟩ = some (.slice (some a1) xs.length c1) := (hb1.cell (p := ⟨b, 0, none⟩) hbl).trans k0
  have k1' : w1.cell? ⟨b, 1, none⟩ = some (.slice (some a2) ys.length c2) := (hb1.cell (p := ⟨b, 1, none⟩) hbl).trans k1
  have hg0 := (hown.lt g rfl).1
  clear hown hb1 k0 k1
  go_wp2
  refine wp_loop_rounds 3 ?_
  rw [rounds_succ]
  go_wp2_with (at_builtin; refine wpList_append_fits _ rfl (.tmp 31) (.tmp 32) 27 rfl w.heap.size 3 i0 1 Try.underlying27 hi hz1 g 0 cap [] rfl HO.out a1 xs.length c1 (xs.map (Value.int .i64)) rfl ?p1 (seg_news (H1.out.below Hb1.out)) (nums_oneCell xs) ?p2 ?_)
  case p1 => simp
  case p2 => omega
  intro w2 hown2 hgrow2
  have hb2 : Below w.heap.size w w2 := Hb1.out.grown hgrow2 Hb1.out.size (fun k hk => by injection hk with hk; omega)
  have Hb2 := hid hb2
  have k1'' : w2.cell? ⟨b, 1, none⟩ = some (.slice (some a2) ys.length c2) := (hb2.cell (p := ⟨b, 1, none⟩) hbl).trans ((Hb1.out.cell (p := ⟨b, 1, none⟩) hbl).symm.trans k1')
  have HO2 : Hid (w2.ownsRow w.heap.size 3 1 (.slice (some ⟨g, 0, none⟩) xs.length cap) xs.length (xs.map (Value.int .i64))) := by
    exact hown2
  clear hown2 hgrow2 hb2 k0' k1'
  go_wp2_with fail
  rw [rounds_succ]
  go_wp2_with (at_builtin; refine wpList_append_fits _ rfl (.tmp 31) (.tmp 32) 27 rfl w.heap.size 3 i0 1 Try.underlying27 hi hz1 g xs.length cap (xs.map (Value.int .i64)) rfl HO2.out a2 ys.length c2 (ys.map (Value.int .i64)) rfl ?p3 (seg_news (H2.out.below Hb2.out)) (nums_oneCell ys) ?p4 ?_)
  case p3 => simp
  case p4 => omega
  intro w3 hown3 hgrow3
  have Hb3 : Hid (Below w.heap.size w w3) := Hb2.out.grown hgrow3 Hb2.out.size (fun k hk => by injection hk with hk; omega)
  have HO3 : Hid (w3.ownsRow w.heap.size 3 1 (.slice (some ⟨g, 0, none⟩) (xs.length + ys.length) cap) (xs.length + ys.length) ((xs ++ ys).map (Value.int .i64))) := by
    rw [List.map_append]; exact hown3
  clear hown3 hgrow3 k1''
  go_wp2_with fail
  rw [rounds_succ]
  go_wp2
  go_ret
  exact ⟨g, cap, rfl, hg0, HO3.out, Hb3.out⟩
end Go.Proofs.Ythdmjmnkhlpnnaa
