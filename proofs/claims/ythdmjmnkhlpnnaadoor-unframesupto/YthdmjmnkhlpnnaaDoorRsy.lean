/-
  The document's reader: the next symbol of a code.
-/
import Derived.Test.YthdmjmnkhlpnnaaDoorCdw
namespace Go.Proofs.YthdmjmnkhlpnnaaDoor
open Go.RowKit

/-- a code's value, and its symbols in memory -/
def Coder (w : World) (zs : List Int) (v : Value) : Prop := ∃ sv base, v = .agg (cd4 (cF zs) (fun j => cnt zs j) (cA zs) sv) ∧ w.ownsRow base 3 1 sv (plc zs 15) (ivs (st zs 15))
theorem Coder.kp {B : Nat} {w w' : World} {zs : List Int} {v : Value} (h : Coder w zs v) (hk : Kp 42 B w w') : Coder w' zs v := by
  obtain ⟨sv, base, h1, h2⟩ := h
  exact ⟨sv, base, h1, own_kp h2 hk (.inr rfl)⟩
theorem Coder.below {w w' : World} {zs : List Int} {v : Value} (h : Coder w zs v) (hb : Below w.heap.size w w') : Coder w' zs v := by
  obtain ⟨sv, base, h1, h2⟩ := h
  obtain ⟨g1, g2⟩ := h2
  refine ⟨sv, base, h1, g1, ?_⟩
  rcases g2 with h2 | ⟨g, cap, cur, hv, hg, hh, r⟩
  · exact Or.inl h2
  · exact Or.inr ⟨g, cap, cur, hv, hg, (hb.block g (Array.getElem?_eq_some_iff.1 hh).1).trans hh, r⟩

/-- what the reading of a symbol comes to -/
def Rtd (B : Nat) (s : ByteArray) (tv : Value) (t : List UInt8) (M : Int) (r : Rs) (w : World) (e : Ending) (w' : World) : Prop :=
  match r with
  | .ok v q => e = .returned (.int .i64 v) ∧ Rf w' B s q tv t M 0 ∧ Kp 42 B w w'
  | .no k => e = .returned (.int .i64 0) ∧ (∃ p', Rf w' B s p' tv t M k) ∧ Kp 42 B w w'

set_option maxRecDepth 20000 in
set_option maxHeartbeats 3200000 in
theorem rsym_any (w : World) (B : Nat) (s : ByteArray) (p : Nat) (tv : Value) (t : List UInt8) (M : Int) (zs : List Int) (sv : Value) (base : Nat) (h : Rf w B s p tv t M 0) (ho : w.ownsRow base 3 1 sv (plc zs 15) (ivs (st zs 15))) (hm : zs.length ≤ 320) :
    Calls Tryd.prog 38 #[.pointer (some ⟨B, 0, none⟩), .agg (cd4 (cF zs) (fun j => cnt zs j) (cA zs) sv)] w fun e w' => Rtd B s tv t M (sym zs s p) w e w' := by
  have HR := hid h
  have HO := hid ho
  have hfit := h.fit
  have hlt := h.lt
  obtain ⟨so, sc, rfl⟩ := own_shape ho
  clear h ho
  obtain ⟨o, ho⟩ : ∃ o : Obj, o = Obj.cells (cd4 (cF zs) (fun j => (cnt zs j : Int)) (cA zs) (.slice so (plc zs 15) sc)) 47 := ⟨_, rfl⟩
  have HBX : Hid ((w.alloc o).heap[w.heap.size]? = some (.cells (cd4 (cF zs) (fun j => (cnt zs j : Int)) (cA zs) (.slice so (plc zs 15) sc)) 47 (0, 0))) := by show _ = _; rw [heap_alloc_new w o, ho]
  have HR0 := hid (HR.out.alloc o)
  have HO0 := hid (HO.out.alloc o)
  have HK0 : Hid (Kp 42 B w (w.alloc o)) := (Kp.refl _ _ _).alloc (Nat.le_of_lt hlt) o
  have hfs : ∀ j, j ≤ 15 → fst zs j ≤ 20971520 := fun j hj => fst_le' zs hm j hj
  have HFS := hid hfs
  clear hfs HR HO
  go_enter Tryd.func38, Tryd.ntmps38
  go_wp2
  rw [← ho]
  clear ho
  go_loopw [5, 6] (fun vv nv wr => ∃ (k ab q : Nat), k ≤ 15 ∧ ab < 2 ^ k ∧ q ≤ 8 * s.size ∧ nv = .int .i64 ((k + 1 : Nat) : Int) ∧ vv = .int .i64 ((fst zs k + cnt zs k + ab : Nat) : Int) ∧ Hid (sym zs s p = symF zs s (15 - k) k ab q) ∧ Hid (Rf wr B s q tv t M 0) ∧ Kp 42 B (w.alloc o) wr) (fun _ nv _ => 17 - (intOf nv).toNat)
  case atStart => exact ⟨0, 0, p, by omega, by omega, hfit, rfl, rfl, rfl, HR0, Kp.refl _ _ _⟩
  case round =>
    obtain ⟨k, ab, q, hk, hab, hq, rfl, rfl, hS, hr, hK⟩ := hrel
    have hpw : 2 ^ k ≤ 2 ^ 15 := Nat.pow_le_pow_right (by omega) hk
    have hpe : (2 : Nat) ^ 15 = 32768 := by decide
    have habb : ab < 32768 := by omega
    have hps : 2 ^ (k + 1) = 2 * 2 ^ k := by rw [Nat.pow_succ]; omega
    obtain ⟨n, hn⟩ : ∃ n, n = k + 1 := ⟨_, rfl⟩
    obtain ⟨v, hv⟩ : ∃ v, v = fst zs k + cnt zs k + ab := ⟨_, rfl⟩
    have hvb : v ≤ 22000000 := by have h1 := HFS.out k hk; have h2 := cnt_le zs k; omega
    rw [← hn, ← hv]
    have HNN := hid hn
    have HV := hid hv
    have HPS := hid hps
    clear hpw hpe hv hps
    by_cases hlt15 : k < 15
    · have hn15 : n ≤ 15 := by omega
      have hn1 : 1 ≤ n := by omega
      clear hn
      by_cases hbit : q < 8 * s.size
      · obtain ⟨d, hd⟩ : ∃ d, d = bitAt s q := ⟨_, rfl⟩
        have hd2 : d < 2 := by rw [hd]; exact bitAt_lt _ _
        have HD := hid hd
        obtain ⟨y, hy⟩ : ∃ y : Nat, y = cnt zs n := ⟨_, rfl⟩
        obtain ⟨f, hf⟩ : ∃ f : Nat, f = fst zs n := ⟨_, rfl⟩
        have hfv : f + (2 * ab + d) = 2 * v + d := by rw [hf, HNN.out, HV.out, fst]; omega
        have hfb : f ≤ 20971520 := by rw [hf]; exact HFS.out n hn15
        have hyb : y ≤ 320 := by rw [hy]; have := cnt_le zs n; omega
        have HY := hid hy
        have HF := hid hf
        clear hd hy hf
        go_wp2_with (go_at_call 17; refine (rbit_ok _ _ _ _ _ _ _ hr.out hbit).mono ?_; rintro e w2 ⟨rfl, hr2, hk2⟩; rw [← HD.out]; have e4 := hr2.cell.2.2.2.2.1; have HR2 := hid hr2; clear hr2)
        have hcd : Cd4 w2 w.heap.size (cF zs) (fun j => (cnt zs j : Int)) (cA zs) (.slice so (plc zs 15) sc) := (hK.trans hk2).cells HBX.out (by decide) (by decide)
        obtain ⟨cf, cm, ca, cs, -⟩ := hcd.cell
        have cm' := cm n (by omega)
        have cf' := cf n (by omega)
        have ca' := ca n (by omega)
        rw [← HY.out] at cm'
        unfold cA at ca'
        rw [if_neg (by omega)] at ca'
        unfold cF at cf'
        rw [← HY.out, ← HF.out] at cf'
        clear cf cm ca hcd
        have HFV := hid hfv
        clear hfv
        have HSF : Hid (15 - k = (15 - (k + 1)) + 1) := by show _ = _; omega
        have HMISS : Hid (¬ 2 * ab + d < y → sym zs s p = symF zs s (15 - n) n (2 * ab + d - y) (q + 1)) := fun hm' => by
          have hy := HY.out
          have hnn := HNN.out
          have hd := HD.out
          subst hnn hy hd
          rw [hS.out, HSF.out, symF_miss zs s _ k ab q hbit hm']
        have HKT : Hid (Kp 42 B (w.alloc o) w2) := hK.trans hk2
        clear hk2
        by_cases hy0 : 0 < y
        · rw [if_pos hy0] at cf'
          have b1 : decide ((0 : Int) < (y : Int)) = true := by simp; omega
          have b2 : decide ((f : Int) ≤ 2 * (v : Int) + (d : Int)) = true := by simp; have := HFV.out; omega
          by_cases hhit : 2 * ab + d < y
          · have b3 : decide (2 * (v : Int) + (d : Int) < (f : Int) + (y : Int)) = true := by simp; have := HFV.out; omega
            obtain ⟨P, hP⟩ : ∃ P, P = plc zs (n - 1) := ⟨_, rfl⟩
            obtain ⟨N, hN⟩ : ∃ N, N = plc zs 15 := ⟨_, rfl⟩
            obtain ⟨I, hI⟩ : ∃ I, I = P + (2 * ab + d) := ⟨_, rfl⟩
            have hIN : I < N := by rw [hI, hP, hN]; exact plc_lt zs n _ (by omega) hn15 (by rw [← HY.out]; exact hhit)
            have hN3 : N ≤ 320 := by rw [hN]; exact Nat.le_trans (plc_le zs 15) hm
            obtain ⟨so', sc', he, hsg⟩ := owns_seg (own_kp HO0.out HKT.out (.inr rfl))
            injection he with e1 _ _
            subst e1
            obtain ⟨g, off, rfl, hcl⟩ := hsg (by rw [st_length]; omega)
            have ci := hcl I (by rw [st_length]; omega)
            rw [hI, hP, st_get zs 15 n (2 * ab + d) (by omega) hn15 (by rw [← HY.out]; exact hhit), ← hP, ← hI] at ci
            rw [← hP] at ca'
            rw [← hN] at cs
            obtain ⟨z, hz⟩ : ∃ z, z = sy zs n (2 * ab + d) := ⟨_, rfl⟩
            rw [← hz] at ci
            have w1' : IntKind.i64.wrap ((P : Int) + (2 * (v : Int) + (d : Int))) = (P : Int) + (2 * (v : Int) + (d : Int)) := by rw [IntKind.wrap_i64]; omega
            have w2' : IntKind.i64.wrap ((P : Int) + (2 * (v : Int) + (d : Int)) - (f : Int)) = (I : Int) := by rw [IntKind.wrap_i64]; have := HFV.out; omega
            have w3' : IntKind.i64.wrap ((f : Int) + (y : Int)) = (f : Int) + (y : Int) := by rw [IntKind.wrap_i64]; omega
            have HIT : Hid (sym zs s p = .ok z (q + 1)) := by
              have hy := HY.out
              have hnn := HNN.out
              have hd := HD.out
              show _ = _
              rw [hz, hS.out, HSF.out, symF_hit zs s _ k ab q hbit (by rw [← hd, ← hnn, ← hy]; exact hhit), ← hd, ← hnn]
            clear hP hN hI hcl hsg hz e4
            go_wp2
            go_quiet (fail)
            go_wp2
            go_quiet (fail)
            go_wp2
            go_ret
            rw [HIT.out]
            exact ⟨rfl, (HR2.out.drewN _).drewN _, ((HK0.out.trans HKT.out).drewN _).drewN _⟩
          · have b3 : decide (2 * (v : Int) + (d : Int) < (f : Int) + (y : Int)) = false := by simp; have := HFV.out; omega
            have w3' : IntKind.i64.wrap ((f : Int) + (y : Int)) = (f : Int) + (y : Int) := by rw [IntKind.wrap_i64]; omega
            clear e4 ca' cs
            go_wp2
            go_quiet (fail)
            go_wp2
            refine ⟨⟨k + 1, 2 * ab + d - y, q + 1, by omega, by have := HPS.out; omega, by omega, by rw [← HNN.out]; go_num, int_eq ?_, ?_, HR2.out.drewN _, HKT.out.drewN _⟩, by simp [intOf]; omega⟩
            · rw [← HNN.out, ← HY.out, ← HF.out]; have := HFV.out; omega
            · rw [← HNN.out]; exact HMISS.out hhit
        · have b1 : decide ((0 : Int) < (y : Int)) = false := by simp; omega
          have hhit : ¬ 2 * ab + d < y := by omega
          clear e4 ca' cs cf'
          go_wp2
          go_quiet (fail)
          go_wp2
          refine ⟨⟨k + 1, 2 * ab + d - y, q + 1, by omega, by have := HPS.out; omega, by omega, by rw [← HNN.out]; go_num, int_eq ?_, ?_, HR2.out.drewN _, HKT.out.drewN _⟩, by simp [intOf]; omega⟩
          · rw [← HNN.out, ← HY.out, ← HF.out]; have := HFV.out; omega
          · rw [← HNN.out]; exact HMISS.out hhit
      · have HN : Hid (sym zs s p = .no 1) := by show _ = _; rw [hS.out, show 15 - k = (15 - (k + 1)) + 1 by omega, symF_end zs s _ k ab q hbit]
        go_wp2_with (go_at_call 17; refine (rbit_no _ _ _ _ _ _ _ hr.out hbit).mono ?_; rintro e w2 ⟨rfl, hr2, hk2⟩; have e4 := hr2.cell.2.2.2.2.1; have HR2 := hid hr2; clear hr2)
        go_ret
        rw [HN.out]
        exact ⟨rfl, ⟨_, HR2.out⟩, (HK0.out.trans hK).trans hk2⟩
    · obtain rfl : k = 15 := by omega
      have HN : Hid (sym zs s p = .no 4) := by show _ = _; rw [hS.out]; rfl
      subst hn
      go_wp2_with (go_at_call 23; refine (stop_any _ B s q tv t M 4 hr.out).mono ?_; rintro e w2 ⟨rfl, hr2, hk2⟩)
      go_ret
      rw [HN.out]
      exact ⟨rfl, ⟨_, hr2⟩, (HK0.out.trans hK).trans hk2⟩
end Go.Proofs.YthdmjmnkhlpnnaaDoor
