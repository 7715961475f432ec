/-
  The walk of codes.Lengths, of right counts.
-/
import Derived.Test.YthdmjmnkhlpnnaaLenw
namespace Go.Proofs.Ythdmjmnkhlpnnaa
open Go.RowKit

theorem pow_int (m : Nat) (h : m ≤ 15) : 1 ≤ (2 : Int) ^ m ∧ (2 : Int) ^ m ≤ 32768 := by
  have h1 := pow_le15 m h
  have e : ((2 ^ m : Nat) : Int) = (2 : Int) ^ m := by simp
  rw [← e]
  omega

set_option maxRecDepth 20000 in
set_option maxHeartbeats 1000000 in
theorem lengths_many (ao : Option Addr) (c : Nat) (cs : List Int) (m : Nat) (w : World) (hs : Seg w ao cs) (h320 : cs.length ≤ 320) (hok : cs.any nc = false) (h1 : 1 ≤ m) (h15 : m ≤ 15) (hmany : 2 ^ m < (sing cs).length) :
    Calls Try.prog 24 #[.slice ao cs.length c, .int .i64 m] w fun e w' => e = .returned (.tuple #[.slice none 0 0, .int .i64 9]) ∧ Below w.heap.size w w' := by
  have hl : cs.length ≤ maxLen := by unfold maxLen; omega
  have HM := hid hmany
  clear hmany
  go_enter Try.func24, Try.ntmps24
  go_wp2_with fail
  refine (containsc_any _ _ _ _ hs hl).mono ?_
  rintro e w' ⟨rfl, rfl⟩
  go_wp2_with fail
  refine (singles_any _ _ _ _ hs h320).mono ?_
  rintro e w1 ⟨v, S, rfl, hown, hb, hS, hP⟩
  have hSl : S.length = (sing cs).length := by rw [← hS]; simp
  have hlt : 2 ^ m < S.length := by rw [hSl]; exact HM.out
  have hSb : S.length ≤ 320 := by rw [hSl]; have := sing_len 0 cs; unfold sing; omega
  have hlt' : (2 : Int) ^ m < (S.length : Int) := by
    have : ((2 ^ m : Nat) : Int) < (S.length : Int) := by omega
    simpa using this
  have HB := hid hb
  obtain ⟨va, vc, rfl, _⟩ := owns_shape hown
  have hpw := pow_int m h15
  clear hown hS hP hb hSl hlt
  go_wp2
  go_ret2
  exact ⟨rfl, HB.out⟩

theorem take_sum (Q : List Pc) (k : Nat) (h : k < Q.length) : ((Q.take k).flatMap Pc.sy).length + (Q.getD k Pc.zero).sy.length ≤ (Q.flatMap Pc.sy).length := by
  have e : Q = Q.take k ++ (Q.getD k Pc.zero :: Q.drop (k + 1)) := by
    simp [List.getD, h]
  have h2 := congrArg (fun l => (l.flatMap Pc.sy).length) e
  simp only [List.flatMap_append, List.flatMap_cons, List.length_append] at h2
  omega

/-- the chosen parcels, as they come out of the heap -/
def ChsD (S : List Ab) (m : Nat) (C : List Ab) : Prop := (S.length < 2 ∧ C = S) ∨ (2 ≤ S.length ∧ ∃ Qf, LevD S m Qf ∧ C = Qf.take (S.length - 1))
theorem ChsD.det {S : List Ab} {m : Nat} {C C' : List Ab} (h : ChsD S m C) (h' : ChsD S m C') : C = C' := by
  rcases h with ⟨h0, e⟩ | ⟨h0, Q, h1, e⟩
  · rcases h' with ⟨_, e'⟩ | ⟨h2, _⟩
    · rw [e, e']
    · omega
  · rcases h' with ⟨h2, _⟩ | ⟨_, Q', h1', e'⟩
    · omega
    · rw [e, e', h1.det h1']
/-- what holds while lengths are counted -/
structure LS (w wr : World) (g n : Nat) (v : Value) (Q : List Pc) (dn : List Int) : Prop where
  row : Row wr g (lens n dn)
  pars : Pars wr v Q
  ok : ∀ p ∈ Q, PcOk wr p
  ne : ∀ p ∈ Q, ∀ a, p.ao = some a → a.block ≠ g
  bel : Below w.heap.size w wr
theorem LS.alloc {w wr : World} {g n : Nat} {v : Value} {Q : List Pc} {dn : List Int} (h : LS w wr g n v Q dn) (o : Obj) : LS w (wr.alloc o) g n v Q dn := by
  have b : Below wr.heap.size wr (wr.alloc o) := (Below.refl _ _).alloc (Nat.le_refl _) o
  exact ⟨h.row.below b, h.pars.below b, fun p hp => (h.ok p hp).below b, h.ne, h.bel.alloc h.bel.size o⟩
theorem LS.count {w wr : World} {g n : Nat} {v : Value} {Q : List Pc} {dn : List Int} (h : LS w wr g n v Q dn) (hg : w.heap.size ≤ g) {t : Nat} (ht : t < n) : LS w (wr.setCell ⟨g, t, none⟩ (.int .i64 ((dn.count (t : Int) : Nat) + 1))) g n v Q (dn ++ [(t : Int)]) := by
  refine ⟨?_, h.pars.set h.row _ _, fun p hp => (h.ok p hp).set (h.ne p hp) _ _, h.ne, h.bel.setCell (by exact hg) _⟩
  rw [← lens_snoc n dn t ht]
  exact h.row.set _ _

set_option maxRecDepth 20000 in
set_option maxHeartbeats 4000000 in
theorem lengths_det (ao : Option Addr) (c : Nat) (cs : List Int) (m : Nat) (w : World) (hs : Seg w ao cs) (h320 : cs.length ≤ 320) (hok : cs.any nc = false) (h1 : 1 ≤ m) (h15 : m ≤ 15) (hfew : (sing cs).length ≤ 2 ^ m) :
    Calls Try.prog 24 #[.slice ao cs.length c, .int .i64 m] w fun e w' => ∃ g C, e = .returned (.tuple #[.slice (some ⟨g, 0, none⟩) cs.length cs.length, .int .i64 0]) ∧ w.heap.size ≤ g ∧ Row w' g (lens cs.length (C.flatMap Prod.snd)) ∧ Chs (sing cs) m C ∧ Below w.heap.size w w' ∧ ChsD (sing cs) m C := by
  have hl : cs.length ≤ maxLen := by unfold maxLen; omega
  have HM := hid hfew
  have HC := hid hok
  obtain ⟨i0, hi, hz0, hz1, hz2⟩ := info_parts info3
  have hmk : ∀ u : World, (Instr.makeSlice 27 (.int .i64 (cs.length : Int)) (.int .i64 (cs.length : Int))).run Try.prog u =
      .ok (.slice (some ⟨u.heap.size, 0, none⟩) cs.length cs.length) (u.alloc (.cells (nums (List.replicate cs.length 0)) 3)) := fun u => by
    have h := run_make (P := Try.prog) u 27 3 i0 (.int .i64 0) Try.underlying27 hi hz0 .i64 .i64 (cs.length : Int) (cs.length : Int) (by omega) (Int.le_refl _) (by rw [hz2]; omega) (by omega)
    rw [hz1, Nat.mul_one, show (Value.int IntKind.i64 0).cells = #[Value.int .i64 0] from rfl, show ((cs.length : Int)).toNat = cs.length by omega, nums_made] at h
    exact h
  clear hfew hi hz0 hz1 hz2
  go_enter Try.func24, Try.ntmps24
  go_wp2_with fail
  refine (containsc_any _ _ _ _ hs hl).mono ?_
  rintro e w' ⟨rfl, rfl⟩
  go_wp2_with fail
  refine (singles_any _ _ _ _ hs h320).mono ?_
  rintro e w1 ⟨v, S, rfl, hown, hb, hS, hP⟩
  have hSl : S.length = (sing cs).length := by rw [← hS]; simp
  have hSb : S.length ≤ 320 := by rw [hSl]; have := sing_len 0 cs; unfold sing; omega
  have hlt' : (S.length : Int) ≤ (2 : Int) ^ m := by
    have : (S.length : Int) ≤ ((2 ^ m : Nat) : Int) := by have := HM.out; omega
    simpa using this
  have HB := hid hb
  have HO := hid hown
  have HSA := hid hS
  have HP := hid hP
  have HSL := hid hSl
  obtain ⟨va, vc, rfl, _⟩ := owns_shape hown
  have hpw := pow_int m h15
  clear hown hS hP hb hSl hok hs
  go_wp2_with fail
  have CH : Calls Try.prog 33 #[.slice va S.length vc, .int .i64 m] (w1.alloc (.cells (nums (List.replicate cs.length 0)) 3)) fun e w2 => ∃ v2 Q, e = .returned v2 ∧ Pars w2 v2 Q ∧ (∀ p ∈ Q, PcOk w2 p ∧ ∀ a, p.ao = some a → a.block ≠ w1.heap.size) ∧ Chs (sing cs) m (Q.map pabs) ∧ Below (w1.heap.size + 1) (w1.alloc (.cells (nums (List.replicate cs.length 0)) 3)) w2 ∧ ChsD (sing cs) m (Q.map pabs) := by
    have ba : Below w1.heap.size w1 (w1.alloc (.cells (nums (List.replicate cs.length 0)) 3)) := (Below.refl _ _).alloc (Nat.le_refl _) _
    have pv := (Pars.own HO.out).below ba
    have pok : ∀ p ∈ S, PcOk (w1.alloc (.cells (nums (List.replicate cs.length 0)) 3)) p := fun p hp => (HP.out p hp).below ba
    by_cases h2 : S.length < 2
    · refine (chosen_few pv m h2).mono ?_
      rintro e w2 ⟨rfl, rfl⟩
      refine ⟨_, S, rfl, pv, fun p hp => ⟨pok p hp, fun a ha => ?_⟩, .inl ⟨by rw [← HSL.out]; exact h2, HSA.out⟩, Below.refl _ _, .inl ⟨by rw [← HSL.out]; exact h2, HSA.out⟩⟩
      obtain ⟨g, cur, e, hg, _⟩ := HP.out p hp
      rw [e] at ha
      injection ha with ha
      subst ha
      have := (Array.getElem?_eq_some_iff.1 hg).1
      show g ≠ _
      omega
    · refine (chosen_any pv pok m h1 h15 (by omega) hSb (by rw [HSL.out]; exact HM.out) (by rw [HSA.out]; exact sing_bound HC.out)).mono ?_
      rintro e w2 ⟨v2, Q, Qf, rfl, q1, q2, q3, q4, q5, q6, q7⟩
      rw [HSA.out] at q3 q7
      refine ⟨v2, Q, rfl, q1, fun p hp => ⟨(q2 p hp).1, fun a ha => ?_⟩, .inr ⟨by rw [← HSL.out]; omega, Qf, q3, by rw [q4, HSL.out]⟩, q6.mono (by simp), .inr ⟨by rw [← HSL.out]; omega, Qf, q7, by rw [q4, HSL.out]⟩⟩
      have := (q2 p hp).2 a ha
      simp at this
      omega
  refine CH.mono ?_
  rintro e w2 ⟨v2, Q, rfl, q1, q2, q3, q4, q5⟩
  have HQ5 := hid q5
  clear q5
  have R0 : Hid (Row w2 w1.heap.size (lens cs.length [])) := by
    rw [lens_nil]
    show w2.heap[_]? = _
    rw [q4.block _ (by omega)]
    exact heap_alloc_new w1 _
  have HQ := hid (show _ ∧ _ ∧ _ ∧ _ from ⟨q1, q2, q3, q4⟩)
  have hsum := chs_sum HC.out q3 h15 (by rw [← HSL.out]; exact hSb)
  have hQl : Q.length ≤ 320 := by have := chs_len q3; rw [List.length_map, ← HSL.out] at this; omega
  obtain ⟨qo, qc, hq, hqc, _⟩ := q1
  subst hq
  have hsy := chs_syms q3
  have HSY : Hid (∀ p ∈ Q, ∀ s ∈ p.sy, ∃ j : Nat, j < cs.length ∧ s = (j : Int)) := fun p hp s hsp => hsy (pabs p) (List.mem_map.2 ⟨p, hp, rfl⟩) s hsp
  have hflat : (Q.map pabs).flatMap Prod.snd = Q.flatMap Pc.sy := by rw [List.flatMap_map]; rfl
  have HFL := hid hflat
  have hsum' : (Q.flatMap Pc.sy).length ≤ 10485760 := by rw [← hflat]; exact hsum
  have hgw : w.heap.size ≤ w1.heap.size := HB.out.size
  have HL0 : Hid (LS w w2 w1.heap.size cs.length (.slice qo Q.length qc) Q []) :=
    ⟨R0.out, HQ.out.1, fun p hp => (HQ.out.2.1 p hp).1, fun p hp => (HQ.out.2.1 p hp).2, (HB.out.alloc hgw _).trans (HQ.out.2.2.2.mono (by omega))⟩
  clear q2 q3 q4 CH hmk hqc hsy hflat hsum R0
  go_wp2
  go_loopw [41] (fun i wr => ∃ k : Nat, k ≤ Q.length ∧ i = .int .i64 k ∧ Hid (LS w wr w1.heap.size cs.length (.slice qo Q.length qc) Q ((Q.take k).flatMap Pc.sy))) (fun i _ => Q.length - (intOf i).toNat)
  case atStart => exact ⟨0, by omega, rfl, HL0.out⟩
  case round =>
    clear HL0
    obtain ⟨k, hk, rfl, HL⟩ := hrel
    by_cases hlt : k < Q.length
    · obtain ⟨ao', c', e', _, hrow⟩ := HL.out.pars
      injection e' with e1 e2 e3
      subst e1 e3
      obtain ⟨gq, cur, rfl, hg, ht⟩ := hrow (by omega)
      obtain ⟨x1, x2, _, _⟩ := row_get hg ht hlt
      obtain ⟨p, hp⟩ : ∃ p, p = Q.getD k Pc.zero := ⟨_, rfl⟩
      have hpQ : p ∈ Q := by rw [hp]; simp [List.getD, hlt]
      rw [← hp] at x1 x2
      have HPE := hid hp
      have hdl : ((Q.take k).flatMap Pc.sy).length + p.sy.length ≤ 10485760 := by
        have h5 := take_sum Q k hlt
        rw [← hp] at h5
        omega
      obtain ⟨dn, hdn⟩ : ∃ dn, dn = (Q.take k).flatMap Pc.sy := ⟨_, rfl⟩
      have HDN : Hid (dn ++ p.sy = (Q.take (k + 1)).flatMap Pc.sy) := by
        show _ = _
        rw [take_pc Q k hlt, ← hp, hdn]
        simp
      rw [← hdn] at HL hdl
      have HPQ := hid hpQ
      clear hg ht hp hrow hdn hpQ
      obtain ⟨pao, pc, pw, psy⟩ := p
      dsimp only at x1 x2 hdl HDN
      go_wp2
      go_loopw [48] (fun i wi => ∃ j : Nat, j ≤ psy.length ∧ i = .int .i64 j ∧ Hid (LS w wi w1.heap.size cs.length (.slice (some ⟨gq, 0, none⟩) Q.length qc) Q (dn ++ psy.take j))) (fun i _ => psy.length - (intOf i).toNat)
      case atStart => exact ⟨0, by omega, rfl, by show LS _ _ _ _ _ _ _; rw [List.take_zero, List.append_nil]; exact HL.out.alloc _⟩
      case round =>
        clear HL x1 x2
        obtain ⟨j, hj, rfl, HL⟩ := hrel
        by_cases hjl : j < psy.length
        · obtain ⟨gp, e1, hsg, _⟩ := (HL.out.ok _ HPQ.out).seg
          dsimp only at e1 hsg
          subst e1
          obtain ⟨b, off, e2, hcs⟩ := hsg (by omega)
          injection e2 with e2
          injection e2 with e2 e3
          subst e2 e3
          obtain ⟨t, htn, hts⟩ := HSY.out _ HPQ.out (psy.getD j 0) (by simp [List.getD, hjl])
          have hc1 : wr.cell? ⟨gp, j, none⟩ = some (.int .i64 (t : Int)) := by rw [← hts]; have := hcs j hjl; rw [Nat.zero_add] at this; exact this
          obtain ⟨y, hy⟩ : ∃ y : Nat, y = (dn ++ psy.take j).count (t : Int) := ⟨_, rfl⟩
          have hyb : y ≤ 10485760 := by
            rw [hy]
            have h5 := List.count_le_length (a := (t : Int)) (l := dn ++ psy.take j)
            rw [List.length_append, List.length_take] at h5
            omega
          have hc2 : wr.cell? ⟨w1.heap.size, t, none⟩ = some (.int .i64 (y : Int)) := by
            have h5 := HL.out.row.cell (j := t) (by rw [lens_length]; exact htn)
            rw [lens_getD _ _ _ htn, ← hy] at h5
            exact h5
          have hf2 : wr.frozen? ⟨w1.heap.size, t, none⟩ = false := HL.out.row.free t
          have HN : Hid (LS w (wr.setCell ⟨w1.heap.size, t, none⟩ (.int .i64 ((y : Int) + 1))) w1.heap.size cs.length (.slice (some ⟨gq, 0, none⟩) Q.length qc) Q (dn ++ psy.take (j + 1))) := by
            have h5 := HL.out.count hgw htn
            rw [← hy, List.append_assoc, ← hts, ← take_snocI psy j hjl] at h5
            exact h5
          clear hcs hts hy HL
          go_wp2
          go_roundw
          case rel => exact ⟨j + 1, by omega, by go_num, HN⟩
          case measure => simp [intOf]; omega
        · have HE : Hid (LS w wr w1.heap.size cs.length (.slice (some ⟨gq, 0, none⟩) Q.length qc) Q ((Q.take (k + 1)).flatMap Pc.sy)) := by
            have h5 := HL.out
            rw [List.take_of_length_le (by omega), HDN.out] at h5
            exact h5
          clear HL
          go_wp2
          go_roundw
          case rel => exact ⟨k + 1, by omega, by go_num, HE⟩
          case measure => simp [intOf]; omega
    · have HE : Hid (LS w wr w1.heap.size cs.length (.slice qo Q.length qc) Q (Q.flatMap Pc.sy)) := by
        have h5 := HL.out
        rw [List.take_of_length_le (l := Q) (by omega)] at h5
        exact h5
      clear HL
      go_wp2
      go_ret2
      exact ⟨w1.heap.size, Q.map pabs, rfl, hgw, by rw [HFL.out]; exact HE.out.row, HQ.out.2.2.1, HE.out.bel, HQ5.out⟩
theorem lengths_ok (ao : Option Addr) (c : Nat) (cs : List Int) (m : Nat) (w : World) (hs : Seg w ao cs) (h320 : cs.length ≤ 320) (hok : cs.any nc = false) (h1 : 1 ≤ m) (h15 : m ≤ 15) (hfew : (sing cs).length ≤ 2 ^ m) :
    Calls Try.prog 24 #[.slice ao cs.length c, .int .i64 m] w fun e w' => ∃ g C, e = .returned (.tuple #[.slice (some ⟨g, 0, none⟩) cs.length cs.length, .int .i64 0]) ∧ w.heap.size ≤ g ∧ Row w' g (lens cs.length (C.flatMap Prod.snd)) ∧ Chs (sing cs) m C ∧ Below w.heap.size w w' := by
  refine (lengths_det ao c cs m w hs h320 hok h1 h15 hfew).mono ?_
  rintro e w' ⟨g, C, x1, x2, x3, x4, x5, _⟩
  exact ⟨g, C, x1, x2, x3, x4, x5⟩
end Go.Proofs.Ythdmjmnkhlpnnaa
