/-
  Bytes again: the program's Reader.again.
-/
import Derived.Test.YthdmjmnkhlpnnaaDoorDec
namespace Go.Proofs.YthdmjmnkhlpnnaaDoor
open Go.RowKit

/-- what a reading that adds to the text comes to -/
def Did (B : Nat) (s : ByteArray) (M : Int) (fx : Option Addr) (r : Tx) (w : World) (e : Ending) (w' : World) : Prop :=
  match r with
  | .ok p t => e = .returned (.tuple #[]) ∧ (∃ tv, Rd w' B s p tv t M fx) ∧ Kp 63 B w w'
  | .no k t => e = gone k ∧ (∃ p' tv, Rd w' B s p' tv t M fx) ∧ Kp 63 B w w'

theorem Rd.shape {w : World} {B : Nat} {s : ByteArray} {p : Nat} {tv : Value} {t : List UInt8} {M : Int} {fx : Option Addr} (h : Rd w B s p tv t M fx) : ∃ ao c, tv = .slice ao t.length c := by
  obtain ⟨_, ⟨rfl, h0⟩ | ⟨g, cap, cur, rfl, _⟩⟩ := h.own
  · exact ⟨none, 0, by rw [h0]⟩
  · exact ⟨_, _, rfl⟩
/-- a byte of the text -/
theorem Rd.byte {w : World} {B : Nat} {s : ByteArray} {p : Nat} {tv : Value} {t : List UInt8} {M : Int} {fx : Option Addr} (h : Rd w B s p tv t M fx) (i : Nat) (hi : i < t.length) :
    ∃ g c, tv = .slice (some ⟨g, 0, none⟩) t.length c ∧ w.cell? ⟨g, i, none⟩ = some (.int .u8 (t.getD i 0).toNat) := by
  obtain ⟨_, ⟨rfl, h0⟩ | ⟨g, cap, cur, rfl, hg, hh, h1, h2, h3, h4⟩⟩ := h.own
  · omega
  · refine ⟨g, cap, rfl, ?_⟩
    rw [cell_of_row w g i cur 5 (0, 0) hh]
    have e : cur.toList[i]? = (bys t)[i]? := by
      rw [← h4, List.getElem?_take, if_pos (by omega)]
    rw [← Array.getElem?_toList, e]
    simp [bys, hi]

theorem agF_no {M : Int} {zb : List Int} {s : ByteArray} {n p : Nat} {t : List UInt8} {e : Nat} (h : sym zb s p = .no e) : agF M zb s n p t = .no e t := by unfold agF; rw [h]
theorem agF_big {M : Int} {zb : List Int} {s : ByteArray} {n p : Nat} {t : List UInt8} {v : Int} {q : Nat} (h : sym zb s p = .ok v q) (hv : 30 ≤ v) : agF M zb s n p t = .no 4 t := by unfold agF; rw [h]; simp only; rw [if_pos hv]
theorem agF_bits {M : Int} {zb : List Int} {s : ByteArray} {n p : Nat} {t : List UInt8} {v : Int} {q : Nat} (h : sym zb s p = .ok v q) (hv : ¬ 30 ≤ v) (hb : ¬ q + (bck v.toNat).2 ≤ 8 * s.size) : agF M zb s n p t = .no 1 t := by unfold agF; rw [h]; simp only; rw [if_neg hv, if_neg hb]
theorem agF_far {M : Int} {zb : List Int} {s : ByteArray} {n p : Nat} {t : List UInt8} {v : Int} {q : Nat} (h : sym zb s p = .ok v q) (hv : ¬ 30 ≤ v) (hb : q + (bck v.toNat).2 ≤ 8 * s.size) (hf : t.length < (bck v.toNat).1 + val s q (bck v.toNat).2) : agF M zb s n p t = .no 5 t := by unfold agF; rw [h]; simp only; rw [if_neg hv, if_pos hb, if_pos hf]
theorem agF_ok {M : Int} {zb : List Int} {s : ByteArray} {n p : Nat} {t : List UInt8} {v : Int} {q : Nat} (h : sym zb s p = .ok v q) (hv : ¬ 30 ≤ v) (hb : q + (bck v.toNat).2 ≤ 8 * s.size) (hf : ¬ t.length < (bck v.toNat).1 + val s q (bck v.toNat).2) : agF M zb s n p t = cpy M ((bck v.toNat).1 + val s q (bck v.toNat).2) (q + (bck v.toNat).2) n t := by unfold agF; rw [h]; simp only; rw [if_neg hv, if_pos hb, if_neg hf]

theorem Kp.ofBelow {X : TypeId} {B : Nat} {w w' : World} (h : Below w.heap.size w w') (hB : B ≤ w.heap.size) : Kp X B w w' :=
  ⟨h.mono hB, fun k _ _ _ hk _ _ => h.block k (Array.getElem?_eq_some_iff.1 hk).1⟩
theorem Rd.below {w w' : World} {B : Nat} {s : ByteArray} {p : Nat} {tv : Value} {t : List UInt8} {M : Int} {fx : Option Addr} (h : Rd w B s p tv t M fx) (hb : Below w.heap.size w w') : Rd w' B s p tv t M fx := by
  refine ⟨(hb.block B h.lt).trans h.blk, ?_, h.sml, h.fit, h.len, h.rom⟩
  obtain ⟨h1, h2⟩ := h.own
  refine ⟨h1, ?_⟩
  rcases h2 with h2 | ⟨g, cap, cur, hv, hg, hh, r⟩
  · exact Or.inl h2
  · exact Or.inr ⟨g, cap, cur, hv, hg, (hb.block g (Array.getElem?_eq_some_iff.1 hh).1).trans hh, r⟩

set_option maxRecDepth 20000 in
set_option maxHeartbeats 1600000 in
theorem again_any (w : World) (B : Nat) (s : ByteArray) (p : Nat) (tv : Value) (t : List UInt8) (M : Int) (fx : Option Addr) (b : Nat) (zb : List Int) (n : Nat) (h : Rd w B s p tv t M fx) (hc : Cod w b zb) (hm : zb.length ≤ 320) (hn : n ≤ 258) (hrm : t.length + n ≤ 258 * p) :
    Calls Tryd.prog 72 #[.pointer (some ⟨B, 0, none⟩), .int .i64 n, .pointer (some ⟨b, 0, none⟩)] w fun e w' => Did B s M fx (agF M zb s n p t) w e w' := by
  have hsy := symbol_any w B s p tv t M fx b zb h hc hm
  have hbo := h.rom
  have HSH := hid h.shape
  have hfi := h.fit
  have hsm := h.sml
  clear h hc
  cases hr : sym zb s p with
  | no e =>
    rw [hr] at hsy
    have HS := hid hsy
    rw [agF_no hr]
    clear hsy hr
    go_enter Tryd.func72, Tryd.ntmps72
    go_wp2_with (go_at_call 71; refine HS.out.mono ?_; rintro e w' ⟨rfl, hr1, hk1⟩)
    obtain ⟨p', hr1⟩ := hr1
    exact ⟨rfl, rfl, ⟨p', tv, hr1⟩, hk1⟩
  | ok v q =>
    rw [hr] at hsy
    have HS := hid hsy
    have hv := sym_ok hr
    clear hsy
    by_cases h30 : 30 ≤ v
    · rw [agF_big hr h30]
      clear hr
      go_enter Tryd.func72, Tryd.ntmps72
      go_wp2_with (first | (go_at_call 71; refine HS.out.mono ?_; rintro e w' ⟨rfl, hr1, hk1⟩) | (go_at_call 54; refine (give_any _ _).mono ?_; rintro e w' ⟨rfl, rfl⟩))
      exact ⟨rfl, rfl, ⟨q, tv, hr1⟩, hk1⟩
    · obtain ⟨l, hl⟩ : ∃ l, l = (bck v.toNat).1 := ⟨_, rfl⟩
      obtain ⟨m, hml⟩ : ∃ m, m = (bck v.toNat).2 := ⟨_, rfl⟩
      have hbk := bck_le v.toNat (by omega)
      rw [← hl, ← hml] at hbk
      have HL := hid hl
      have HM := hid hml
      by_cases hbits : q + m ≤ 8 * s.size
      · obtain ⟨ao, c, htv⟩ : ∃ ao c, tv = .slice ao t.length c := HSH.out
        subst htv
        obtain ⟨bb, hbb⟩ : ∃ bb, bb = l + val s q m := ⟨_, rfl⟩
        have hvl := val_lt s q m
        have hv2 : 2 ^ m ≤ 2 ^ 13 := Nat.pow_le_pow_right (by omega) (by omega)
        have hv3 : (2 : Nat) ^ 13 = 8192 := by decide
        have hbbl : bb ≤ 40000 := by omega
        have hbb1 : 1 ≤ bb := by omega
        have HBB := hid hbb
        have htl : t.length ≤ 4294967296 := by omega
        by_cases hfar : t.length < bb
        · rw [agF_far hr h30 (by rw [← hml]; exact hbits) (by rw [← hl, ← hml, ← hbb]; exact hfar)]
          clear hr hl hml hbb hvl hv2 hv3
          go_enter Tryd.func72, Tryd.ntmps72
          go_wp2_with (first | (go_at_call 71; refine HS.out.mono ?_; rintro e w1 ⟨rfl, hr1, hk1⟩; have HR1 := hid hr1; clear hr1))
          go_region_with (first | (go_at_call 89; refine (back_any _ (by omega) (by omega) _).mono ?_; rintro e w2 ⟨rfl, hb2⟩; rw [← HL.out, ← HM.out]) | (go_at_call 73; refine (within_ok _ B s q _ t M fx (by exact (HR1.out.drew.below hb2)) l m (by omega) (by omega) hbits).mono ?_; rintro e w3 ⟨rfl, hr3, hk3⟩; rw [← HBB.out]))
          have c3 := hr3.cell.2.2.2.1
          have hk : Kp 63 B w w3 := ((hk1.drew).trans (Kp.ofBelow hb2 (Nat.le_of_lt HR1.out.drew.lt))).trans hk3
          have HR3 := hid hr3
          clear hr3 hk3 hb2 hk1
          go_wp2_with (go_at_call 54; refine (give_any _ _).mono ?_; rintro e w' ⟨rfl, rfl⟩)
          exact ⟨rfl, rfl, ⟨_, _, HR3.out⟩, hk⟩
        · rw [agF_ok hr h30 (by rw [← hml]; exact hbits) (by rw [← hl, ← hml, ← hbb]; exact hfar), ← hl, ← hml, ← hbb]
          clear hr hl hml hbb hvl hv2 hv3
          go_enter Tryd.func72, Tryd.ntmps72
          go_wp2_with (first | (go_at_call 71; refine HS.out.mono ?_; rintro e w1 ⟨rfl, hr1, hk1⟩; have HR1 := hid hr1; clear hr1))
          go_region_with (first | (go_at_call 89; refine (back_any _ (by omega) (by omega) _).mono ?_; rintro e w2 ⟨rfl, hb2⟩; rw [← HL.out, ← HM.out]) | (go_at_call 73; refine (within_ok _ B s q _ t M fx (by exact (HR1.out.drew.below hb2)) l m (by omega) (by omega) hbits).mono ?_; rintro e w3 ⟨rfl, hr3, hk3⟩; rw [← HBB.out]))
          have c3 := hr3.cell.2.2.2.1
          have hk : Kp 63 B w w3 := ((hk1.drew).trans (Kp.ofBelow hb2 (Nat.le_of_lt HR1.out.drew.lt))).trans hk3
          have HR3 := hid hr3
          clear hr3 hk3 hb2 hk1
          go_wp2
          go_loopw [31] (fun i wr => ∃ (k : Nat) (u : List UInt8), k ≤ n ∧ i = .int .i64 k ∧ u.length = t.length + k ∧ Hid (cpy M bb (q + m) n t = cpy M bb (q + m) (n - k) u) ∧ Hid (∃ tv', Rd wr B s (q + m) tv' u M fx) ∧ Kp 63 B w wr) (fun i _ => n - (intOf i).toNat)
          case atStart => exact ⟨0, t, by omega, rfl, rfl, rfl, ⟨_, HR3.out⟩, hk⟩
          case round =>
            clear c3 hk HR3
            obtain ⟨k, u, hk, rfl, hul, hcp, hR, hK⟩ := hrel
            obtain ⟨tv', hR⟩ := hR.out
            by_cases hlt : k < n
            · obtain ⟨g, cc, rfl, hby⟩ := hR.byte (u.length - bb) (by omega)
              obtain ⟨d, hd⟩ : ∃ d, d = u.getD (u.length - bb) 0 := ⟨_, rfl⟩
              obtain ⟨U, hU⟩ : ∃ U, U = u.length := ⟨_, rfl⟩
              rw [← hd, ← hU] at hby
              have c3 := hR.cell.2.2.2.1
              rw [← hU] at c3
              obtain ⟨x, hx⟩ : ∃ x : Nat, x = U - bb := ⟨_, rfl⟩
              rw [← hx] at hby
              have i1 : x < U := by omega
              have i2 : IntKind.i64.wrap ((U : Int) - (bb : Int)) = (x : Int) := by rw [IntKind.wrap_i64]; omega
              clear hx
              have hUb : U ≤ 4294967555 := by omega
              have HD := hid hd
              have HU := hid hU
              have HUL := hid hul
              have HR := hid hR
              have HF : Hid (n - k = (n - (k + 1)) + 1) := by show _ = _; omega
              clear hul hd hU hR
              by_cases hM : (u.length : Int) < M
              · go_wp2
                go_region_with ((go_at_call 69; refine (add_ok _ B s (q + m) _ u M fx d (by exact HR.out.drew) hM (by have := HUL.out; omega)).mono ?_; rintro e w4 ⟨rfl, hr4, hk4⟩))
                all_goals
                  go_wp2
                  go_roundw
                  case rel =>
                    refine ⟨k + 1, u ++ [d], by omega, by go_num, by have := HUL.out; simp; omega, ?_, hr4, hK.drew.trans hk4⟩
                    show _ = _
                    rw [hcp.out, HF.out, cpy, if_pos hM, ← HD.out]
                  case measure => simp [intOf]; omega
              · go_wp2
                go_region_dies
                all_goals
                  refine (add_no _ B s (q + m) _ u M fx d (by exact HR.out.drew) (by have := HR.out.len; omega)).mono ?_
                  rintro e w4 ⟨rfl, ⟨p4, hr4⟩, hk4⟩
                  have hdid : Did B s M fx (cpy M bb (q + m) n t) w (gone 6) w4 := by
                    rw [show cpy M bb (q + m) n t = .no 6 u by rw [hcp.out, HF.out, cpy, if_neg (by omega)]]
                    exact ⟨rfl, ⟨_, _, hr4⟩, hK.drew.trans hk4⟩
                  have HD4 := hid hdid
                  clear hdid
                  go_wp2
                  exact ⟨rfl, HD4.out⟩
            · obtain rfl : k = n := by omega
              go_wp2
              go_end0
              rw [show cpy M bb (q + m) k t = .ok (q + m) u by rw [hcp.out, Nat.sub_self]; rfl]
              exact ⟨rfl, ⟨_, hR⟩, hK⟩
      · rw [agF_bits hr h30 (by rw [← hml]; exact hbits)]
        clear hr hl hml
        go_enter Tryd.func72, Tryd.ntmps72
        go_wp2_with (first | (go_at_call 71; refine HS.out.mono ?_; rintro e w1 ⟨rfl, hr1, hk1⟩; have HR1 := hid hr1; clear hr1))
        go_region_with (first | (go_at_call 89; refine (back_any _ (by omega) (by omega) _).mono ?_; rintro e w2 ⟨rfl, hb2⟩; rw [← HL.out, ← HM.out]) | (go_at_call 73; refine (within_no _ B s q tv t M fx (by exact (HR1.out.drew.below hb2)) l m (by omega) hbits).mono ?_; rintro e w3 ⟨rfl, ⟨p3, hr3⟩, hk3⟩; refine dead (P := Tryd.prog) (by exact ⟨rfl, rfl, ⟨p3, tv, hr3⟩, ((hk1.drew).trans (Kp.ofBelow hb2 (Nat.le_of_lt HR1.out.drew.lt))).trans hk3⟩) w ?_))
        all_goals trivial
end Go.Proofs.YthdmjmnkhlpnnaaDoor
