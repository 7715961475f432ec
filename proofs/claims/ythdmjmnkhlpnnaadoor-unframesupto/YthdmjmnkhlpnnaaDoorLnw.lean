/-
  The lengths of letters and steps: the program's Reader.lengths.
-/
import Derived.Test.YthdmjmnkhlpnnaaDoorLns
namespace Go.Proofs.YthdmjmnkhlpnnaaDoor
open Go.RowKit

/-- numbers as values -/
abbrev ivs (l : List Int) : List Value := l.map (Value.int .i64)
/-- how long a slice is -/
def lenOf : Value → Nat | .slice _ n _ => n | _ => 0

theorem Kp.grownNew {X : TypeId} {B : Nat} {a w w' : World} {v : Value} {n e size : Nat} {xs : List Value} {base : Nat} (h : Kp X B a w) (hg : w.grownBy w' v.ownBlock) (ho : w.ownsRow base e size v n xs) (hb : a.heap.size ≤ base) (hB : B ≤ a.heap.size) : Kp X B a w' := by
  have hr : ∀ k, v.ownBlock = some k → base ≤ k := fun k hk => (ho.lt k hk).1
  have hz := h.size
  refine ⟨h.below.grown hg (by omega) (fun k hk => by have := hr k hk; omega), fun k cs T fr hk h1 h2 => ?_⟩
  have hka : k < a.heap.size := (Array.getElem?_eq_some_iff.1 hk).1
  exact (hg.block k (by omega) (fun e => by have := hr k e.symm; omega)).trans (h.other k cs T fr hk h1 h2)
theorem Rd.grownInts {w w' : World} {B : Nat} {s : ByteArray} {p : Nat} {tv : Value} {t : List UInt8} {M : Int} {fx : Option Addr} {v : Value} {n base : Nat} {xs : List Value} (h : Rd w B s p tv t M fx) (hg : w.grownBy w' v.ownBlock) (ho : w.ownsRow base 3 1 v n xs) : Rd w' B s p tv t M fx := by
  have hT : ∀ (k : Nat) (cs : Array Value) (T : TypeId) (fr : Nat × Nat), w.heap[k]? = some (.cells cs T fr) → T ≠ 3 → w'.heap[k]? = w.heap[k]? := fun k cs T fr hk hT => hg.block k (Array.getElem?_eq_some_iff.1 hk).1 (fun e => by
    rcases ho with ⟨_, ⟨rfl, _⟩ | ⟨g, cap, cur, rfl, _, hh, _⟩⟩
    · simp [Value.ownBlock] at e
    · simp [Value.ownBlock] at e
      subst e
      rw [hh] at hk; injection hk with hk; injection hk with _ hk _; exact hT hk.symm)
  refine ⟨(hT B _ _ _ h.blk (by decide)).trans h.blk, ?_, h.sml, h.fit, h.len, h.rom⟩
  obtain ⟨h1, h2⟩ := h.own
  refine ⟨h1, ?_⟩
  rcases h2 with h2 | ⟨gg, cap, cur, hv, hgg, hh, r⟩
  · exact Or.inl h2
  · exact Or.inr ⟨gg, cap, cur, hv, hgg, (hT gg _ _ _ hh (by decide)).trans hh, r⟩
theorem own_kp {X : TypeId} {B : Nat} {w w' : World} {base n : Nat} {v : Value} {xs : List Value} (h : w.ownsRow base 3 1 v n xs) (hk : Kp X B w w') (hX : X = 63 ∨ X = 42) : w'.ownsRow base 3 1 v n xs := by
  obtain ⟨h1, h2⟩ := h
  refine ⟨h1, ?_⟩
  rcases h2 with h2 | ⟨g, cap, cur, hv, hg, hh, r⟩
  · exact Or.inl h2
  · exact Or.inr ⟨g, cap, cur, hv, hg, hk.cells hh (by rcases hX with rfl | rfl <;> decide) (by decide), r⟩
theorem own_shape {w : World} {base n e : Nat} {v : Value} {xs : List Value} (h : w.ownsRow base e 1 v n xs) : ∃ ao c, v = .slice ao n c := by
  obtain ⟨_, ⟨rfl, h0⟩ | ⟨g, cap, cur, rfl, _⟩⟩ := h
  · exact ⟨none, 0, by rw [h0]⟩
  · exact ⟨_, _, rfl⟩
theorem start_len (w : World) (N : Nat) (hN : N ≤ 1000) : (w.alloc (.cells (nums (List.replicate N 0)) 3)).ownsRow w.heap.size 3 1 (.slice (some ⟨w.heap.size, 0, none⟩) 0 N) 0 [] := by
  refine ⟨by simp, Or.inr ⟨w.heap.size, N, nums (List.replicate N 0), rfl, Nat.le_refl _, heap_alloc_new w _, by omega, by unfold maxLen; omega, by rw [nums_size]; simp, by simp⟩⟩

/-- what the reading of lengths comes to -/
def Lnd (B : Nat) (s : ByteArray) (tv : Value) (t : List UInt8) (M : Int) (fx : Option Addr) (r : Ls) (w : World) (e : Ending) (w' : World) : Prop :=
  match r with
  | .ok l q => ∃ v, e = .returned v ∧ w'.ownsRow w.heap.size 3 1 v l.length (ivs l) ∧ Rd w' B s q tv t M fx ∧ Kp 63 B w w'
  | .no k => Gave B s tv t M fx k w e w'

theorem lnF_done {zc : List Int} {s : ByteArray} {N f : Nat} {l : List Int} {p : Nat} (h : ¬ l.length < N) : lnF zc s N (f + 1) l p = .ok l p := by rw [lnF, if_neg h]
theorem lnF_sym {zc : List Int} {s : ByteArray} {N f : Nat} {l : List Int} {p e : Nat} (h : l.length < N) (hs : sym zc s p = .no e) : lnF zc s N (f + 1) l p = .no e := by rw [lnF, if_pos h, hs]
theorem lnF_16 {zc : List Int} {s : ByteArray} {N f : Nat} {l : List Int} {p q : Nat} {v : Int} (h : l.length < N) (hs : sym zc s p = .ok v q) (h16 : v = 16 ∧ l.length = 0) : lnF zc s N (f + 1) l p = .no 3 := by rw [lnF, if_pos h, hs]; simp only; rw [if_pos h16]
theorem lnF_bits {zc : List Int} {s : ByteArray} {N f : Nat} {l : List Int} {p q : Nat} {v : Int} (h : l.length < N) (hs : sym zc s p = .ok v q) (h16 : ¬ (v = 16 ∧ l.length = 0)) (hb : ¬ q + (tms v.toNat).2 ≤ 8 * s.size) : lnF zc s N (f + 1) l p = .no 1 := by rw [lnF, if_pos h, hs]; simp only; rw [if_neg h16, if_neg hb]
theorem lnF_past {zc : List Int} {s : ByteArray} {N f : Nat} {l : List Int} {p q : Nat} {v : Int} (h : l.length < N) (hs : sym zc s p = .ok v q) (h16 : ¬ (v = 16 ∧ l.length = 0)) (hb : q + (tms v.toNat).2 ≤ 8 * s.size) (hp : N - l.length < (tms v.toNat).1 + val s q (tms v.toNat).2) : lnF zc s N (f + 1) l p = .no 3 := by rw [lnF, if_pos h, hs]; simp only; rw [if_neg h16, if_pos hb, if_pos hp]
theorem lnF_more {zc : List Int} {s : ByteArray} {N f : Nat} {l : List Int} {p q : Nat} {v : Int} (h : l.length < N) (hs : sym zc s p = .ok v q) (h16 : ¬ (v = 16 ∧ l.length = 0)) (hb : q + (tms v.toNat).2 ≤ 8 * s.size) (hp : ¬ N - l.length < (tms v.toNat).1 + val s q (tms v.toNat).2) :
    lnF zc s N (f + 1) l p = lnF zc s N f (l ++ List.replicate ((tms v.toNat).1 + val s q (tms v.toNat).2) (tol v l)) (q + (tms v.toNat).2) := by rw [lnF, if_pos h, hs]; simp only; rw [if_neg h16, if_pos hb, if_neg hp]

set_option maxRecDepth 20000 in
set_option maxHeartbeats 1600000 in
theorem lengths_any (w : World) (B : Nat) (s : ByteArray) (p : Nat) (tv : Value) (t : List UInt8) (M : Int) (fx : Option Addr) (b : Nat) (zc : List Int) (N : Nat) (h : Rd w B s p tv t M fx) (hc : Cod w b zc) (hm : zc.length = 19) (hN : N ≤ 400) :
    Calls Tryd.prog 78 #[.pointer (some ⟨B, 0, none⟩), .pointer (some ⟨b, 0, none⟩), .int .i64 N] w fun e w' => Lnd B s tv t M fx (lnF zc s N (N + 1) [] p) w e w' := by
  have hlt := h.lt
  have hfi := h.fit
  have HR0 := hid (h.alloc (.cells (nums (List.replicate N 0)) 3))
  have HK0 := hid ((Kp.refl 63 B w).alloc (Nat.le_of_lt hlt) (.cells (nums (List.replicate N 0)) 3))
  have HO0 := hid (start_len w N (by omega))
  have HC := hid hc
  have HM := hid hm
  clear h hc hm
  obtain ⟨i0, hi, hz0, hz1, hz2⟩ := info_parts info3
  have hmk : ∀ u : World, (Instr.makeSlice 45 (.int .i64 0) (.int .i64 (N : Int))).run Tryd.prog u =
      .ok (.slice (some ⟨u.heap.size, 0, none⟩) 0 N) (u.alloc (.cells (nums (List.replicate N 0)) 3)) := fun u => by
    have h := run_make (P := Tryd.prog) u 45 3 i0 (.int .i64 0) Tryd.underlying45 hi hz0 .i64 .i64 0 (N : Int) (by omega) (by omega) (by rw [hz2]; omega) (by omega)
    rw [hz1, Nat.mul_one, show (Value.int IntKind.i64 0).cells = #[Value.int .i64 0] from rfl, show ((N : Int)).toNat = N by omega, nums_made] at h
    exact h
  obtain ⟨L, hL⟩ : ∃ L, L = lnF zc s N (N + 1) [] p := ⟨_, rfl⟩
  rw [← hL]
  have HL0 := hid hL
  clear hL
  have HI := hid hi
  have HZ := hid (And.intro hz0 (And.intro hz1 hz2))
  clear hi hz0 hz1 hz2
  go_enter Tryd.func78, Tryd.ntmps78
  go_wp2
  clear hmk
  go_loopw [7] (fun lv wr => ∃ (f q : Nat) (l : List Int), l.length ≤ N ∧ q ≤ 8 * s.size ∧ N < f + l.length ∧ Hid (L = lnF zc s N f l q) ∧ Hid (l.any nl = false) ∧ Hid (wr.ownsRow w.heap.size 3 1 lv l.length (ivs l)) ∧ Hid (Rd wr B s q tv t M fx) ∧ Kp 63 B w wr) (fun lv _ => N - lenOf lv)
  case atStart => exact ⟨N + 1, p, [], by simp, hfi, by simp, HL0, rfl, HO0.out, HR0, HK0.out⟩
  case round =>
    clear HL0 HR0 HK0 HO0
    obtain ⟨f0, q, l, hl, hq, hf0, hL, hA, hO, hR, hK⟩ := hrel
    obtain ⟨f, rfl⟩ : ∃ f, f0 = f + 1 := ⟨f0 - 1, by omega⟩
    obtain ⟨ao, c, rfl⟩ := own_shape hO.out
    by_cases hlN : l.length < N
    · have HSY := hid (symbol_any wr B s q tv t M fx b zc hR.out (HC.out.kp hK (.inl rfl)) (by rw [HM.out]; omega))
      cases hs : sym zc s q with
      | no e =>
        rw [hs] at HSY
        have HN : Hid (L = .no e) := by show _ = _; rw [hL.out, lnF_sym hlN hs]
        clear hs
        go_wp2_with (go_at_call 71; refine HSY.out.mono ?_; rintro e1 w1 ⟨rfl, hr1, hk1⟩)
        rw [HN.out]
        exact ⟨rfl, rfl, hr1, hK.trans hk1⟩
      | ok v r =>
        rw [hs] at HSY
        have hv := sym_ok hs
        rw [HM.out] at hv
        by_cases h16 : v = 16 ∧ l.length = 0
        · have HN : Hid (L = .no 3) := by show _ = _; rw [hL.out, lnF_16 hlN hs h16]
          obtain ⟨rfl, h0⟩ := h16
          have h0' : l = [] := List.eq_nil_of_length_eq_zero h0
          subst h0'
          clear hs h0
          go_wp2_with (first | (go_at_call 71; refine HSY.out.mono ?_; rintro e1 w1 ⟨rfl, hr1, hk1⟩) | (go_at_call 105; refine (told_no _ _ _).mono ?_; rintro e w' ⟨rfl, rfl⟩))
          rw [HN.out]
          exact ⟨rfl, rfl, ⟨_, hr1⟩, hK.trans hk1⟩
        · obtain ⟨tl, htl⟩ : ∃ tl, tl = (tms v.toNat).1 := ⟨_, rfl⟩
          obtain ⟨m, hml⟩ : ∃ m, m = (tms v.toNat).2 := ⟨_, rfl⟩
          have htm := tms_le v.toNat
          rw [← htl, ← hml] at htm
          have HT := hid htl
          have HMm := hid hml
          have H16 := hid h16
          have HTOL := hid (tol_ok (l := l) hv.2.2.1 hA.out)
          have HARM : Hid (∀ w1, Kp 63 B wr w1 → Seg w1 ao l) := fun w1 hk1 => by
            obtain ⟨ao', c', he, hseg⟩ := owns_seg (own_kp hO.out hk1 (.inl rfl))
            injection he with e1 e2 e3
            rw [e1]; exact hseg
          clear h16
          by_cases hbits : r + m ≤ 8 * s.size
          · obtain ⟨T, hT⟩ : ∃ T, T = tl + val s r m := ⟨_, rfl⟩
            have hvl := val_lt s r m
            have hv2 : 2 ^ m ≤ 2 ^ 7 := Nat.pow_le_pow_right (by omega) (by omega)
            have hv3 : (2 : Nat) ^ 7 = 128 := by decide
            have hTl : T ≤ 140 := by omega
            have hT1 : 1 ≤ T := by omega
            have HTT := hid hT
            obtain ⟨z, hz⟩ : ∃ z, z = tol v l := ⟨_, rfl⟩
            have HZ1 := hid hz
            by_cases hpast : N - l.length < T
            · have HN : Hid (L = .no 3) := by show _ = _; rw [hL.out, lnF_past hlN hs H16.out (by rw [← hml]; exact hbits) (by rw [← hml, ← htl, ← hT]; exact hpast)]
              have hdec : decide ((N : Int) - (l.length : Int) < (T : Int)) = true := by simp; omega
              clear hs htl hml hT hvl hv2 hv3 hz
              go_wp2_with (first | (go_at_call 71; refine HSY.out.mono ?_; rintro e1 w1 ⟨rfl, hr1, hk1⟩; have HR1 := hid hr1; clear hr1) | (go_at_call 105; refine (told_ok _ v ao c l (HARM.out _ hk1) (by omega) (by omega) (by omega) H16.out).mono ?_; rintro e w' ⟨rfl, rfl⟩; rw [← HZ1.out]))
              go_region_with (first | (go_at_call 106; refine (times_any _ (by omega) (by omega) _).mono ?_; rintro e w2 ⟨rfl, hb2⟩; rw [← HT.out, ← HMm.out]) | (go_at_call 73; refine (within_ok _ B s r tv t M fx (by exact (HR1.out.drew.below hb2)) tl m (by omega) (by omega) hbits).mono ?_; rintro e w3 ⟨rfl, hr3, hk3⟩; rw [← HTT.out]))
              have hk3' : Kp 63 B wr w3 := ((hk1.drew).trans (Kp.ofBelow hb2 (Nat.le_of_lt HR1.out.drew.lt))).trans hk3
              have HR3 := hid hr3
              clear hr3 hk3 hb2 hk1 HR1
              go_wp2_with (go_at_call 54; refine (give_any _ _).mono ?_; rintro e w' ⟨rfl, rfl⟩)
              rw [HN.out]
              exact ⟨rfl, rfl, ⟨_, HR3.out⟩, hK.trans hk3'⟩
            · have HN : Hid (L = lnF zc s N f (l ++ List.replicate T z) (r + m)) := by show _ = _; rw [hL.out, lnF_more hlN hs H16.out (by rw [← hml]; exact hbits) (by rw [← hml, ← htl, ← hT]; exact hpast), ← hml, ← htl, ← hT, ← hz]
              have hdec : decide ((N : Int) - (l.length : Int) < (T : Int)) = false := by simp; omega
              have HAN : Hid ((l ++ List.replicate T z).any nl = false) := any_rep _ _ _ hA.out (by rw [hz]; exact HTOL.out)
              clear hs htl hml hT hvl hv2 hv3 hz
              go_wp2_with (first | (go_at_call 71; refine HSY.out.mono ?_; rintro e1 w1 ⟨rfl, hr1, hk1⟩; have HR1 := hid hr1; clear hr1) | (go_at_call 105; refine (told_ok _ v ao c l (HARM.out _ hk1) (by omega) (by omega) (by omega) H16.out).mono ?_; rintro e w' ⟨rfl, rfl⟩; rw [← HZ1.out]))
              go_region_with (first | (go_at_call 106; refine (times_any _ (by omega) (by omega) _).mono ?_; rintro e w2 ⟨rfl, hb2⟩; rw [← HT.out, ← HMm.out]) | (go_at_call 73; refine (within_ok _ B s r tv t M fx (by exact (HR1.out.drew.below hb2)) tl m (by omega) (by omega) hbits).mono ?_; rintro e w3 ⟨rfl, hr3, hk3⟩; rw [← HTT.out]))
              have hk3' : Kp 63 B wr w3 := ((hk1.drew).trans (Kp.ofBelow hb2 (Nat.le_of_lt HR1.out.drew.lt))).trans hk3
              have HR3 := hid hr3
              clear hr3 hk3 hb2 hk1 HR1
              go_wp2
              go_loopw [7, 39] (fun lv i wi => ∃ k : Nat, k ≤ T ∧ i = .int .i64 k ∧ Hid (wi.ownsRow w.heap.size 3 1 lv (l.length + k) (ivs (l ++ List.replicate k z))) ∧ Hid (Rd wi B s (r + m) tv t M fx) ∧ Kp 63 B w wi) (fun _ i _ => T - (intOf i).toNat)
              case atStart => exact ⟨0, by omega, rfl, by simp only [List.replicate_zero, List.append_nil]; exact own_kp hO.out hk3' (.inl rfl), HR3, hK.trans hk3'⟩
              case round =>
                clear HR3 hk3'
                obtain ⟨k, hk, rfl, hOi, hRi, hKi⟩ := hrel
                obtain ⟨ai, ci, rfl⟩ := own_shape hOi.out
                by_cases hkT : k < T
                · have hszi := hKi.size
                  go_wp2_with (at_builtin; refine wpList_append_lies _ rfl (.tmp 41) (.tmp 43) 45 rfl w.heap.size 3 i0 (.int .i64 0) 1 8 Tryd.underlying45 HI.out HZ.out.1 HZ.out.2.1 HZ.out.2.2 rfl (by decide) (.slice ai (l.length + k) ci) (l.length + k) (ivs (l ++ List.replicate k z)) rfl (hOi.out.alloc _) ⟨_, 0, none⟩ 1 1 [.int .i64 z] rfl rfl (cell_one_new _ _ _) ?c2 (by decide) ?c3 ?c4 ?c5 _ rfl ?_)
                  case c2 => intro u hu; simp at hu; subst hu; rfl
                  case c3 => unfold maxLen; omega
                  case c4 => omega
                  case c5 => simp; omega
                  intro g cap w5 hown hgrow hat hlt5
                  have e : List.map (Value.int .i64) l ++ (List.replicate k (Value.int .i64 z) ++ [Value.int .i64 z]) = ivs (l ++ List.replicate (k + 1) z) := by
                    unfold ivs
                    rw [List.map_append, List.map_replicate, List.replicate_succ']
                  rw [e] at hown
                  have HOW := hid hown
                  clear e
                  have HRD := hid ((hRi.out.alloc _).grownInts hgrow (hOi.out.alloc _))
                  have HKP := hid (((hKi.alloc (by have := hRi.out.lt; omega) _).grownNew hgrow (hOi.out.alloc _) (Nat.le_refl _) (Nat.le_of_lt hlt)))
                  clear hown hgrow hat hlt5
                  go_wp2
                  exact ⟨⟨k + 1, by omega, by go_num, HOW, HRD, HKP.out⟩, by simp [intOf]; omega⟩
                · obtain rfl : k = T := by omega
                  go_wp2
                  refine ⟨⟨f, r + m, l ++ List.replicate k z, by simp; omega, hbits, by simp; omega, HN, HAN, ?_, hRi, hKi⟩, by simp only [lenOf]; omega⟩
                  rw [List.length_append, List.length_replicate]
                  exact hOi
          · have HN : Hid (L = .no 1) := by show _ = _; rw [hL.out, lnF_bits hlN hs H16.out (by rw [← hml]; exact hbits)]
            clear hs htl hml
            go_wp2_with (first | (go_at_call 71; refine HSY.out.mono ?_; rintro e1 w1 ⟨rfl, hr1, hk1⟩; have HR1 := hid hr1; clear hr1) | (go_at_call 105; refine (told_ok _ v ao c l (HARM.out _ hk1) (by omega) (by omega) (by omega) H16.out).mono ?_; rintro e w' ⟨rfl, rfl⟩))
            go_region_with (first | (go_at_call 106; refine (times_any _ (by omega) (by omega) _).mono ?_; rintro e w2 ⟨rfl, hb2⟩; rw [← HT.out, ← HMm.out]) | (go_at_call 73; refine (within_no _ B s r tv t M fx (by exact (HR1.out.drew.below hb2)) tl m (by omega) hbits).mono ?_; rintro e w3 ⟨rfl, hr3, hk3⟩; have HD : Hid (Lnd B s tv t M fx L w (gone 1) w3) := (by rw [HN.out]; exact ⟨rfl, hr3, (((hK.trans hk1).drew).trans (Kp.ofBelow hb2 (Nat.le_of_lt HR1.out.drew.lt))).trans hk3⟩); go_wp2; refine dead (P := Tryd.prog) (by exact ⟨rfl, HD.out⟩) w ?_))
            all_goals trivial
    · have HN : Hid (L = .ok l q) := by show _ = _; rw [hL.out, lnF_done hlN]
      go_wp2
      go_ret
      rw [HN.out]
      exact ⟨_, rfl, hO.out, hR.out, hK⟩
end Go.Proofs.YthdmjmnkhlpnnaaDoor
