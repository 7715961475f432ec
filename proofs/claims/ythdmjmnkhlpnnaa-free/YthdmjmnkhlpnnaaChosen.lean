/-
  What codes.chosen answers: the first pairs of the last level.
-/
import Derived.Test.YthdmjmnkhlpnnaaLevels
namespace Go.Proofs.Ythdmjmnkhlpnnaa
open Go.RowKit

theorem Pars.cut {w : World} {ao : Option Addr} {c m : Nat} {Q : List Pc} (h : Pars w (.slice ao Q.length c) Q) (hm : m ≤ Q.length) : Pars w (.slice ao m c) (Q.take m) := by
  obtain ⟨ao', c', e, hc, h⟩ := h
  injection e with e1 e2 e3
  subst e1 e3
  have hl : (Q.take m).length = m := by simp; omega
  refine ⟨ao, c, by rw [hl], by omega, fun h0 => ?_⟩
  obtain ⟨g, cur, e, hg, ht⟩ := h (by omega)
  refine ⟨g, cur, e, hg, ?_⟩
  rw [hl, ← flat_take, ← ht, List.take_take]
  congr 1
  omega

theorem pow_bd (M k : Nat) (x : Int) (h : x ≤ (M : Int) * 2 ^ k) (hk : k ≤ 15) : x ≤ (M : Int) * 32768 := by
  have h4 : 2 ^ k ≤ 2 ^ 15 := Nat.pow_le_pow_right (by omega) hk
  have h5 : M * 2 ^ k ≤ M * 2 ^ 15 := Nat.mul_le_mul_left _ h4
  have h7 : (M : Int) * 2 ^ k = ((M * 2 ^ k : Nat) : Int) := by push_cast; rfl
  rw [h7] at h
  omega

/-- level k, as it comes out of the heap -/
def LevD (S : List Ab) : Nat → List Ab → Prop
  | 0, Q => Q = []
  | k + 1, Q => ∃ P La, LevD S k P ∧ Made (Prod.fst : Ab → Int) ((0, []) : Ab) (S ++ P) La ∧ Q = pairsOf La
theorem LevD.det {S : List Ab} : ∀ {k : Nat} {Q Q' : List Ab}, LevD S k Q → LevD S k Q' → Q = Q'
  | 0, Q, Q', h, h' => by have e : Q = [] := h; have e' : Q' = [] := h'; rw [e, e']
  | k + 1, Q, Q', h, h' => by
    obtain ⟨P, La, h1, h2, h3⟩ := h
    obtain ⟨P', La', h1', h2', h3'⟩ := h'
    have e := LevD.det h1 h1'
    subst e
    rw [h3, h3', h2.det _ _ h2']
theorem levd_step {S Q Q2 La rs : List Pc} {k : Nat} (h : LevD (S.map pabs) k (Q.map pabs)) (h1 : PutsP [] (S ++ Q) rs) (h2 : DrP rs La []) (h4 : Q2.map pabs = pairsOf (La.map pabs)) : LevD (S.map pabs) (k + 1) (Q2.map pabs) := by
  refine ⟨Q.map pabs, La.map pabs, h, ?_, h4⟩
  rw [← List.map_append]
  exact Made.map (f := Pc.wt) (z := Pc.zero) (g := pabs) (fun _ => rfl) ⟨rs, h1, h2⟩

theorem lev_step {S Q Q2 La rs : List Pc} {k : Nat} (h : Lev (S.map pabs) k (Q.map pabs)) (h1 : rs.Perm (S ++ Q)) (h2 : La.Perm rs) (h3 : Srt La) (h4 : Q2.map pabs = pairsOf (La.map pabs)) : Lev (S.map pabs) (k + 1) (Q2.map pabs) := by
  refine ⟨Q.map pabs, La.map pabs, h, ?_, ?_, h4⟩
  · rw [← List.map_append]; exact (h2.trans h1).map pabs
  · exact List.pairwise_map.2 h3

set_option maxRecDepth 20000 in
set_option maxHeartbeats 2000000 in
theorem chosen_any {w : World} {v : Value} {S : List Pc} (hv : Pars w v S) (hok : ∀ p ∈ S, PcOk w p) (most : Nat) (h1 : 1 ≤ most) (h15 : most ≤ 15) (h2 : 2 ≤ S.length) (h320 : S.length ≤ 320) (hn : S.length ≤ 2 ^ most) (hS : ∀ x ∈ S.map pabs, 0 < x.1 ∧ x.1 ≤ (1000000000 : Nat) ∧ x.2.length = 1) :
    Calls Try.prog 33 #[v, .int .i64 most] w fun e w' => ∃ v' Q Qf, e = .returned v' ∧ Pars w' v' Q ∧ (∀ p ∈ Q, PcOk w' p ∧ ∀ a, p.ao = some a → w.heap.size ≤ a.block) ∧ Lev (S.map pabs) most Qf ∧ Q.map pabs = Qf.take (S.length - 1) ∧ Q.length = S.length - 1 ∧ Below w.heap.size w w' ∧ LevD (S.map pabs) most Qf := by
  have HV := hid hv
  have HOK := hid hok
  have HN := hid hn
  have HS := hid hS
  obtain ⟨ao, c, hve, _, _⟩ := hv
  subst hve
  have H0 : Hid (Pars w (.slice none 0 0) [] ∧ (∀ p ∈ ([] : List Pc), PcOk w p ∧ ∀ a, p.ao = some a → w.heap.size ≤ a.block) ∧ Lev (S.map pabs) 0 (([] : List Pc).map pabs) ∧ Below w.heap.size w w ∧ LevD (S.map pabs) 0 (([] : List Pc).map pabs)) := ⟨⟨none, 0, rfl, by simp, fun h => by simp at h⟩, fun p hp => (by cases hp), rfl, Below.refl _ _, rfl⟩
  clear hok hn hS
  go_enter Try.func33, Try.ntmps33
  go_wp2
  go_loopw [5, 11] (fun v i wr => ∃ (k : Nat) (Q : List Pc), k ≤ most ∧ i = .int .i64 k ∧ Hid (Pars wr v Q ∧ (∀ p ∈ Q, PcOk wr p ∧ ∀ a, p.ao = some a → w.heap.size ≤ a.block) ∧ Lev (S.map pabs) k (Q.map pabs) ∧ Below w.heap.size w wr ∧ LevD (S.map pabs) k (Q.map pabs))) (fun _ i _ => most - (intOf i).toNat)
  case atStart => exact ⟨0, [], by omega, rfl, H0.out⟩
  case round =>
    clear H0
    obtain ⟨k, Q, hk, rfl, HR⟩ := hrel
    by_cases hlt : k < most
    · have hql : Q.length ≤ 320 := by have := lev_le HR.out.2.2.1; simp at this; omega
      have BD := hid (lev_bound HS.out HR.out.2.2.1)
      have hM : Hid (∀ x ∈ S ++ Q, 0 < x.wt ∧ x.wt ≤ 70368744177664 ∧ x.sy.length ≤ 1000000) := fun x hx => by
        have h3 := BD.out (pabs x) (by rw [← List.map_append]; exact List.mem_map.2 ⟨x, hx, rfl⟩)
        have h4 : 2 ^ k ≤ 2 ^ 15 := Nat.pow_le_pow_right (by omega) (by omega)
        have h6 := pow_bd _ k _ h3.2.1 (by omega)
        have h8 := h3.2.2.2
        have h9 := h3.1
        simp only [pabs] at h6 h8 h9
        exact ⟨h9, by omega, by omega⟩
      go_wp2_with fail
      refine (row_any (HV.out.below HR.out.2.2.2.1) HR.out.1 (by omega) (by omega)).mono ?_
      rintro e w1 ⟨iv, rs, rfl, hh, hp, ho, hb, hpt⟩
      have R := hid (show _ ∧ _ ∧ _ ∧ _ from ⟨hh, hp, ho, hb⟩)
      have RP := hid hpt
      clear hh hp ho hb hpt
      go_wp2_with fail
      refine (pairUp_any R.out.1 R.out.2.2.1 ?_ ?_ ?_ ?_).mono ?_
      · intro x hx
        have hx' := R.out.2.1.subset hx
        have hw : PcOk wr x := by
          rcases List.mem_append.1 hx' with h | h
          · exact (HOK.out x h).below HR.out.2.2.2.1
          · exact (HR.out.2.1 x h).1
        exact hw.below R.out.2.2.2
      · have := R.out.2.1.length_eq; simp at this; omega
      · intro x hx; have := hM.out x (R.out.2.1.subset hx); exact ⟨this.1, this.2.1⟩
      · intro x hx; exact (hM.out x (R.out.2.1.subset hx)).2.2
      rintro e w2 ⟨v2, rfl, Q2, La, o1, o2, o3, o4, o5, o7, o6⟩
      have P := hid (show _ ∧ _ ∧ _ ∧ _ ∧ _ ∧ _ from ⟨o1, o2, o3, o4, o5, o6⟩)
      have P7 := hid o7
      clear o1 o2 o3 o4 o5 o6 o7
      go_wp2
      go_roundw
      case rel =>
        refine ⟨k + 1, Q2, by omega, by go_num, Pars.own P.out.1, fun x hx => ⟨P.out.2.2.2.2.1 x hx, fun a ha => by have h1 := P7.out x hx a ha; have h2 := HR.out.2.2.2.1.size; have h3 := R.out.2.2.2.size; omega⟩, lev_step HR.out.2.2.1 R.out.2.1 P.out.2.1 P.out.2.2.1.1 P.out.2.2.2.1, ?_, levd_step HR.out.2.2.2.2 RP.out P.out.2.2.1.2 P.out.2.2.2.1⟩
        have b2 := P.out.2.2.2.2.2.to R.out.1
        have z := HR.out.2.2.2.1.size
        exact HR.out.2.2.2.1.trans ((R.out.2.2.2.mono z).trans (b2.mono z))
      case measure => simp [intOf]; omega
    · have ek : k = most := by omega
      subst ek
      have hq : S.length ≤ Q.length + 1 := by
        have := lev_many k (by simpa using HN.out) (Nat.le_refl _) HR.out.2.2.1
        simpa using this
      have hq2 : Q.length ≤ S.length := by have := lev_le HR.out.2.2.1; simpa using this
      obtain ⟨qo, qc, hve, hqc, _⟩ := HR.out.1
      subst hve
      go_wp2
      go_ret
      refine ⟨_, Q.take (S.length - 1), Q.map pabs, rfl, HR.out.1.cut (by omega), fun x hx => HR.out.2.1 x (List.mem_of_mem_take hx), HR.out.2.2.1, by rw [List.map_take], by simp; omega, HR.out.2.2.2.1, HR.out.2.2.2.2⟩
end Go.Proofs.Ythdmjmnkhlpnnaa
