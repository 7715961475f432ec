/-
  Four lists as one: slices.Grow and slices.Concat; the lengths of the fixed letters.
-/
import Derived.Test.YthdmjmnkhlpnnaaDoorRep
import Derived.Lib.AppendZeros
namespace Go.Proofs.YthdmjmnkhlpnnaaDoor
open Go.RowKit

theorem seg_news {w : World} {a : Addr} {zs : List Int} (h : Seg w (some a) zs) : ∀ j u, (zs.map (Value.int .i64))[j]? = some u → w.cell? (a.add j) = some u := by
  intro j u hu
  have hj : j < zs.length := by
    rcases Nat.lt_or_ge j zs.length with h | h
    · exact h
    · rw [List.getElem?_eq_none (by simpa using h)] at hu; cases hu
  obtain ⟨b, off, e, hc⟩ := h (by omega)
  injection e with e
  subst e
  have e2 : (⟨b, off, none⟩ : Addr).add j = ⟨b, off + j, none⟩ := by unfold Addr.add; split <;> simp_all
  rw [e2, hc j hj]
  simp [hj] at hu
  simp [hj, hu]
theorem nums_oneCell (zs : List Int) : ∀ u ∈ zs.map (Value.int .i64), u.oneCell' = true := by
  intro u hu
  simp at hu
  obtain ⟨z, _, rfl⟩ := hu
  rfl
set_option maxHeartbeats 800000 in
theorem grow_any (k : Nat) (h0 : 0 < k) (hk : k ≤ 100000000) (w : World) :
    Calls Tryd.prog 126 #[.slice none 0 0, .int .i64 k] w fun e w' => ∃ g cap, e = .returned (.slice (some ⟨g, 0, none⟩) 0 cap) ∧ w'.ownsRow w.heap.size 3 1 (.slice (some ⟨g, 0, none⟩) 0 cap) 0 [] ∧ k ≤ cap ∧ Below w.heap.size w w' := by
  have hb8 : Tryd.t3.bytes = 8 := by kernel_rfl
  have hnc : Builtin.nextslicecap k 0 = k := nextslicecap_zero h0
  go_enter Tryd.func126, Tryd.ntmps126
  go_wp2
  go_ret
  have hge := grownCap_ge w k 0 3
  have hle := grownCap_le_maxLen w k 0 3 (by unfold maxLen; omega)
  refine ⟨w.heap.size, grownCap w k 0 3, rfl, ?_, hge, ?_⟩
  · refine ⟨rfl, .inr ⟨w.heap.size, grownCap w k 0 3, _, rfl, Nat.le_refl _, heap_alloc_new w.drew _, by omega, hle, ?_, by simp⟩⟩
    simp [size_zeroCells]
    unfold grownCap at hge ⊢
    omega
  · exact ((Below.refl _ _).drew).alloc (Nat.le_refl _) _


set_option maxRecDepth 20000 in
set_option maxHeartbeats 4000000 in
theorem concat4_any {w : World} {b : Nat} (a1 a2 a3 a4 : Addr) (c1 c2 c3 c4 : Nat) (x1 x2 x3 x4 : List Int) (h1 : Seg w (some a1) x1) (h2 : Seg w (some a2) x2) (h3 : Seg w (some a3) x3) (h4 : Seg w (some a4) x4) (hx : 0 < x1.length) (l1 : x1.length ≤ 1000) (l2 : x2.length ≤ 1000) (l3 : x3.length ≤ 1000) (l4 : x4.length ≤ 1000)
    (k0 : w.cell? ⟨b, 0, none⟩ = some (.slice (some a1) x1.length c1)) (k1 : w.cell? ⟨b, 1, none⟩ = some (.slice (some a2) x2.length c2)) (k2 : w.cell? ⟨b, 2, none⟩ = some (.slice (some a3) x3.length c3)) (k3 : w.cell? ⟨b, 3, none⟩ = some (.slice (some a4) x4.length c4)) :
    Calls Tryd.prog 103 #[.slice (some ⟨b, 0, none⟩) 4 4] w fun e w' => ∃ v, e = .returned v ∧ w'.ownsRow w.heap.size 3 1 v (x1.length + x2.length + x3.length + x4.length) (ivs (x1 ++ x2 ++ x3 ++ x4)) ∧ Below w.heap.size w w' := by
  obtain ⟨i0, hi, hz0, hz1, hz2⟩ := info_parts info3
  have H1 := hid h1
  have H2 := hid h2
  have H3 := hid h3
  have H4 := hid h4
  clear h1 h2 h3 h4
  go_enter Tryd.func103, Tryd.ntmps103
  go_wp2
  refine wp_loop_rounds 5 ?_
  rw [rounds_succ]
  go_wp2_with fail
  rw [rounds_succ]
  go_wp2_with fail
  rw [rounds_succ]
  go_wp2_with fail
  rw [rounds_succ]
  go_wp2_with fail
  rw [rounds_succ]
  go_wp2_with fail
  have hk : (x1.length : Int) + (x2.length : Int) + (x3.length : Int) + (x4.length : Int) = ((x1.length + x2.length + x3.length + x4.length : Nat) : Int) := by omega
  rw [hk]
  clear hk
  refine (grow_any (x1.length + x2.length + x3.length + x4.length) (by omega) (by omega) _).mono ?_
  rintro e w1 ⟨g, cap, rfl, hown, hcap, hb1⟩
  have HO0 := hid hown
  have Hb0 := hid hb1
  have hbl : b < w.heap.size := World.block_lt_of_cell? w _ k0
  have hg0 := (hown.lt g rfl).1
  have KK : Hid (∀ u : World, Below w.heap.size w u → u.cell? ⟨b, 0, none⟩ = some (.slice (some a1) x1.length c1) ∧ u.cell? ⟨b, 1, none⟩ = some (.slice (some a2) x2.length c2) ∧ u.cell? ⟨b, 2, none⟩ = some (.slice (some a3) x3.length c3) ∧ u.cell? ⟨b, 3, none⟩ = some (.slice (some a4) x4.length c4)) := fun u hu => ⟨(hu.cell (p := ⟨b, 0, none⟩) hbl).trans k0, (hu.cell (p := ⟨b, 1, none⟩) hbl).trans k1, (hu.cell (p := ⟨b, 2, none⟩) hbl).trans k2, (hu.cell (p := ⟨b, 3, none⟩) hbl).trans k3⟩
  obtain ⟨q0, q1, q2, q3⟩ := KK.out _ hb1
  clear hown hb1 k0 k1 k2 k3 q1 q2 q3
  go_wp2
  refine wp_loop_rounds 5 ?_
  rw [rounds_succ]
  go_wp2_with (at_builtin; refine wpList_append_fits _ rfl (.tmp 31) (.tmp 32) 45 rfl w.heap.size 3 i0 1 Tryd.underlying45 hi hz1 g (0) cap ([]) rfl HO0.out a1 x1.length c1 (x1.map (Value.int .i64)) rfl ?p11 (seg_news (H1.out.below Hb0.out)) (nums_oneCell x1) ?p12 ?_)
  case p11 => simp
  case p12 => omega
  intro w2 hown2 hgrow2
  have hb2 : Below w.heap.size w w2 := Hb0.out.grown hgrow2 Hb0.out.size (fun k hk => by injection hk with hk; omega)
  have Hb1 := hid hb2
  have HO1 : Hid (w2.ownsRow w.heap.size 3 1 (.slice (some ⟨g, 0, none⟩) (x1.length) cap) (x1.length) (ivs x1)) := by
    show World.ownsRow _ _ _ _ _ _ _
    exact hown2
  obtain ⟨r0, r1, r2, r3⟩ := KK.out _ hb2
  clear hown2 hgrow2 hb2 q0
  have s1 := r1
  clear r0 r1 r2 r3
  go_wp2_with fail
  rw [rounds_succ]
  go_wp2_with (at_builtin; refine wpList_append_fits _ rfl (.tmp 31) (.tmp 32) 45 rfl w.heap.size 3 i0 1 Tryd.underlying45 hi hz1 g (x1.length) cap (ivs x1) rfl HO1.out a2 x2.length c2 (x2.map (Value.int .i64)) rfl ?p21 (seg_news (H2.out.below Hb1.out)) (nums_oneCell x2) ?p22 ?_)
  case p21 => simp
  case p22 => omega
  intro w3 hown3 hgrow3
  have hb3 : Below w.heap.size w w3 := Hb1.out.grown hgrow3 Hb1.out.size (fun k hk => by injection hk with hk; omega)
  have Hb2 := hid hb3
  have HO2 : Hid (w3.ownsRow w.heap.size 3 1 (.slice (some ⟨g, 0, none⟩) (x1.length + x2.length) cap) (x1.length + x2.length) (ivs (x1 ++ x2))) := by
    show World.ownsRow _ _ _ _ _ _ _
    rw [show ivs (x1 ++ x2) = ivs x1 ++ List.map (Value.int .i64) x2 from List.map_append]
    exact hown3
  obtain ⟨r0, r1, r2, r3⟩ := KK.out _ hb3
  clear hown3 hgrow3 hb3 s1
  have s2 := r2
  clear r0 r1 r2 r3
  go_wp2_with fail
  rw [rounds_succ]
  go_wp2_with (at_builtin; refine wpList_append_fits _ rfl (.tmp 31) (.tmp 32) 45 rfl w.heap.size 3 i0 1 Tryd.underlying45 hi hz1 g (x1.length + x2.length) cap (ivs (x1 ++ x2)) rfl HO2.out a3 x3.length c3 (x3.map (Value.int .i64)) rfl ?p31 (seg_news (H3.out.below Hb2.out)) (nums_oneCell x3) ?p32 ?_)
  case p31 => simp
  case p32 => omega
  intro w4 hown4 hgrow4
  have hb4 : Below w.heap.size w w4 := Hb2.out.grown hgrow4 Hb2.out.size (fun k hk => by injection hk with hk; omega)
  have Hb3 := hid hb4
  have HO3 : Hid (w4.ownsRow w.heap.size 3 1 (.slice (some ⟨g, 0, none⟩) (x1.length + x2.length + x3.length) cap) (x1.length + x2.length + x3.length) (ivs (x1 ++ x2 ++ x3))) := by
    show World.ownsRow _ _ _ _ _ _ _
    rw [show ivs (x1 ++ x2 ++ x3) = List.map (Value.int .i64) x1 ++ (List.map (Value.int .i64) x2 ++ List.map (Value.int .i64) x3) by simp only [ivs, List.map_append, List.append_assoc]]
    exact hown4
  obtain ⟨r0, r1, r2, r3⟩ := KK.out _ hb4
  clear hown4 hgrow4 hb4 s2
  have s3 := r3
  clear r0 r1 r2 r3
  go_wp2_with fail
  rw [rounds_succ]
  go_wp2_with (at_builtin; refine wpList_append_fits _ rfl (.tmp 31) (.tmp 32) 45 rfl w.heap.size 3 i0 1 Tryd.underlying45 hi hz1 g (x1.length + x2.length + x3.length) cap (ivs (x1 ++ x2 ++ x3)) rfl HO3.out a4 x4.length c4 (x4.map (Value.int .i64)) rfl ?p41 (seg_news (H4.out.below Hb3.out)) (nums_oneCell x4) ?p42 ?_)
  case p41 => simp
  case p42 => omega
  intro w5 hown5 hgrow5
  have hb5 : Below w.heap.size w w5 := Hb3.out.grown hgrow5 Hb3.out.size (fun k hk => by injection hk with hk; omega)
  have Hb4 := hid hb5
  have HO4 : Hid (w5.ownsRow w.heap.size 3 1 (.slice (some ⟨g, 0, none⟩) (x1.length + x2.length + x3.length + x4.length) cap) (x1.length + x2.length + x3.length + x4.length) (ivs (x1 ++ x2 ++ x3 ++ x4))) := by
    show World.ownsRow _ _ _ _ _ _ _
    rw [show ivs (x1 ++ x2 ++ x3 ++ x4) = List.map (Value.int .i64) x1 ++ (List.map (Value.int .i64) x2 ++ (List.map (Value.int .i64) x3 ++ List.map (Value.int .i64) x4)) by simp only [ivs, List.map_append, List.append_assoc]]
    exact hown5
  clear hown5 hgrow5 hb5 s3
  go_wp2_with fail
  rw [rounds_succ]
  go_wp2
  go_ret
  exact ⟨_, rfl, HO4.out, Hb4.out⟩

theorem Row.below {w w' : World} {g : Nat} {l : List Int} (h : Row w g l) (hb : Below w.heap.size w w') : Row w' g l := by
  unfold Row
  rw [hb.block g h.lt]
  exact h
theorem zfa_length : zfa.length = 288 := by unfold zfa; rw [List.length_append, List.length_append, List.length_append, List.length_replicate, List.length_replicate, List.length_replicate, List.length_replicate]
theorem zfb_length : zfb.length = 32 := by unfold zfb; rw [List.length_replicate]
theorem zfa_ok : zfa.any nl = false := by decide +kernel
theorem zfb_ok : zfb.any nl = false := by decide +kernel

theorem concat4_at {w : World} {b : Nat} (a1 a2 a3 a4 : Addr) (c1 c2 c3 c4 n1 n2 n3 n4 : Nat) (x1 x2 x3 x4 : List Int) (e1 : x1.length = n1) (e2 : x2.length = n2) (e3 : x3.length = n3) (e4 : x4.length = n4) (h1 : Seg w (some a1) x1) (h2 : Seg w (some a2) x2) (h3 : Seg w (some a3) x3) (h4 : Seg w (some a4) x4) (hx : 0 < n1) (l1 : n1 ≤ 1000) (l2 : n2 ≤ 1000) (l3 : n3 ≤ 1000) (l4 : n4 ≤ 1000)
    (k0 : w.cell? ⟨b, 0, none⟩ = some (.slice (some a1) n1 c1)) (k1 : w.cell? ⟨b, 1, none⟩ = some (.slice (some a2) n2 c2)) (k2 : w.cell? ⟨b, 2, none⟩ = some (.slice (some a3) n3 c3)) (k3 : w.cell? ⟨b, 3, none⟩ = some (.slice (some a4) n4 c4)) :
    Calls Tryd.prog 103 #[.slice (some ⟨b, 0, none⟩) 4 4] w fun e w' => ∃ v, e = .returned v ∧ w'.ownsRow w.heap.size 3 1 v (n1 + n2 + n3 + n4) (ivs (x1 ++ x2 ++ x3 ++ x4)) ∧ Below w.heap.size w w' := by
  subst e1 e2 e3 e4
  exact concat4_any a1 a2 a3 a4 c1 c2 c3 c4 x1 x2 x3 x4 h1 h2 h3 h4 hx l1 l2 l3 l4 k0 k1 k2 k3
theorem own_mono {w : World} {base base' n : Nat} {e size : Nat} {v : Value} {xs : List Value} (h : w.ownsRow base e size v n xs) (hb : base' ≤ base) : w.ownsRow base' e size v n xs := by
  obtain ⟨h1, h2⟩ := h
  refine ⟨h1, ?_⟩
  rcases h2 with h2 | ⟨g, cap, cur, hv, hg, r⟩
  · exact Or.inl h2
  · exact Or.inr ⟨g, cap, cur, hv, by omega, r⟩

set_option maxRecDepth 20000 in
set_option maxHeartbeats 1600000 in
theorem fixedLetters_any (w : World) :
    Calls Tryd.prog 76 #[] w fun e w' => ∃ v, e = .returned v ∧ w'.ownsRow w.heap.size 3 1 v 288 (ivs zfa) ∧ Below w.heap.size w w' := by
  have HR := hid (fun u N z h1 h2 => rep_any u N z h1 h2)
  go_enter Tryd.func76, Tryd.ntmps76
  go_wp2_with (first
    | (go_at_call 104; have f1 := r3; refine (HR.out _ 8 8 (by omega) (by omega)).mono ?_; rintro e w4 ⟨g4, rfl, hg4, r4, hb4⟩)
    | (go_at_call 104; have f1 := r2; refine (HR.out _ 24 7 (by omega) (by omega)).mono ?_; rintro e w3 ⟨g3, rfl, hg3, r3, hb3⟩; clear f1)
    | (go_at_call 104; have f1 := r1; refine (HR.out _ 112 9 (by omega) (by omega)).mono ?_; rintro e w2 ⟨g2, rfl, hg2, r2, hb2⟩; clear f1)
    | (go_at_call 104; refine (HR.out _ 144 8 (by omega) (by omega)).mono ?_; rintro e w1 ⟨g1, rfl, hg1, r1, hb1⟩))
  have b12 : Below w.heap.size w w2 := hb1.trans (hb2.mono hb1.size)
  have b13 : Below w.heap.size w w3 := b12.trans (hb3.mono b12.size)
  have b14 : Below w.heap.size w w4 := b13.trans (hb4.mono b13.size)
  obtain ⟨o, ho⟩ : ∃ o : Obj, o = Obj.cells #[Value.slice (some { block := g1, off := 0 }) 144 144, Value.slice (some { block := g2, off := 0 }) 112 112, Value.slice (some { block := g3, off := 0 }) 24 24, Value.slice (some { block := g4, off := 0 }) 8 8] 45 := ⟨_, rfl⟩
  rw [← ho]
  have R4 := (r4.below ((Below.refl _ _).alloc (Nat.le_refl _) o)).seg
  have R3 := ((r3.below hb4).below ((Below.refl _ _).alloc (Nat.le_refl _) o)).seg
  have R2 := (((r2.below hb3).below hb4).below ((Below.refl _ _).alloc (Nat.le_refl _) o)).seg
  have R1 := ((((r1.below hb2).below hb3).below hb4).below ((Below.refl _ _).alloc (Nat.le_refl _) o)).seg
  refine (concat4_at ⟨g1, 0, none⟩ ⟨g2, 0, none⟩ ⟨g3, 0, none⟩ ⟨g4, 0, none⟩ 144 112 24 8 144 112 24 8 _ _ _ _ List.length_replicate List.length_replicate List.length_replicate List.length_replicate R1 R2 R3 R4 (by omega) (by omega) (by omega) (by omega) (by omega) (by rw [ho]; simp) (by rw [ho]; simp) (by rw [ho]; simp) (by rw [ho]; simp)).mono ?_
  rintro e w5 ⟨v, rfl, hown, hb5⟩
  have HOWN := hid hown
  have hz : (w4.alloc o).heap.size = w4.heap.size + 1 := by simp
  have b15 : Below w.heap.size w w5 := (b14.alloc b14.size o).trans (hb5.mono (by rw [hz]; have := b14.size; omega))
  have hs4 := b14.size
  clear R1 R2 R3 R4 r1 r2 r3 r4 hb1 hb2 hb3 hb4 hb5 hown ho f1
  go_wp2
  go_ret
  exact ⟨v, rfl, own_mono HOWN.out (by rw [hz]; omega), b15⟩
end Go.Proofs.YthdmjmnkhlpnnaaDoor
