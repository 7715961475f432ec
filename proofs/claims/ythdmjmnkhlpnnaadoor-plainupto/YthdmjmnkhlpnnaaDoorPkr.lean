/-
  The packer in memory; a block of level 0.
-/
import Derived.Test.YthdmjmnkhlpnnaaDoorWrc
namespace Go.Proofs.YthdmjmnkhlpnnaaDoor
open Go.RowKit

/-- a packer: what is written, and the piece that waits -/
structure Pk (w : World) (B : Nat) (V L : Nat) (t : List UInt8) (sv : Value) : Prop where
  st : ∃ ov pv, Wb w B ov V L pv sv ∧ w.ownsRow (B + 1) 5 1 pv t.length (bys t) ∧ (pv.ownBlock = none ∨ pv.ownBlock ≠ ov.ownBlock)
/-- what a packer's functions leave as it was: all that there was but its block and its bytes -/
structure Kk (B : Nat) (w w' : World) : Prop where
  below : Below B w w'
  cells : ∀ (k : Nat) (cs : Array Value) (T : TypeId) (fr : Nat × Nat), w.heap[k]? = some (.cells cs T fr) → T ≠ 81 → T ≠ 5 → w'.heap[k]? = w.heap[k]?

theorem bytes_run {w : World} {base : Nat} {pv : Value} {t : List UInt8} (h : w.ownsRow base 5 1 pv t.length (bys t)) : (convert 33 9 pv).run Tryd.prog w = .ok (.string ⟨t.toArray⟩) w := by
  obtain ⟨hl, ⟨rfl, h0⟩ | ⟨g, cap, cur, rfl, hg, hh, h1, h2, h3, h4⟩⟩ := h
  · have ht : t = [] := List.eq_nil_of_length_eq_zero h0
    subst ht
    exact run_convert_bytes_nil w 33 5 Tryd.underlying33 Tryd.underlying5 0 0 9 Tryd.underlying9
  · refine run_convert_bytes_back w 33 9 5 ⟨g, 0, none⟩ cap t Tryd.underlying33 Tryd.underlying5 Tryd.underlying9 (fun j hj => ?_)
    have e2 : (⟨g, 0, none⟩ : Addr).add j = ⟨g, j, none⟩ := by unfold Addr.add; split <;> simp_all
    rw [e2, cell_of_row w g j cur 5 (0, 0) hh]
    have e : cur.toList[j]? = (bys t)[j]? := by rw [← h4, List.getElem?_take, if_pos (by omega)]
    rw [← Array.getElem?_toList, e]
    simp [bys, hj]
theorem Wb.setp {w : World} {B : Nat} {ov : Value} {V L : Nat} {pv sv : Value} (h : Wb w B ov V L pv sv) (u : Value) : Wb (w.setCell ⟨B, 3, none⟩ u) B ov V L u sv := by
  obtain ⟨o, g, c, hWr, r⟩ := h.st
  exact ⟨o, g, c, ⟨by rw [blk_set hWr.blk]; rfl, own_set hWr.own rfl _⟩, r⟩
theorem Wb.drewN {w : World} {B : Nat} {ov : Value} {V L : Nat} {pv sv : Value} (h : Wb w B ov V L pv sv) (n : Nat) : Wb (w.drewN n) B ov V L pv sv := by
  obtain ⟨o, g, c, hWr, r⟩ := h.st
  exact ⟨o, g, c, hWr.drewN n, r⟩
theorem Wb.srch {w : World} {B : Nat} {ov : Value} {V L : Nat} {pv sv : Value} (h : Wb w B ov V L pv sv) : w.cell? ⟨B, 4, none⟩ = some sv := by
  obtain ⟨o, g, c, hWr, r⟩ := h.st
  exact hWr.cell.2.2.2.2
theorem Wb.lt {w : World} {B : Nat} {ov : Value} {V L : Nat} {pv sv : Value} (h : Wb w B ov V L pv sv) : B < w.heap.size := by
  obtain ⟨o, g, c, hWr, r⟩ := h.st
  exact hWr.lt
theorem own_below {w w' : World} {base n : Nat} {v : Value} {xs : List Value} (h : w.ownsRow base 5 1 v n xs) (hb : Below w.heap.size w w') : w'.ownsRow base 5 1 v n xs := by
  obtain ⟨g1, g2⟩ := h
  refine ⟨g1, ?_⟩
  rcases g2 with h2 | ⟨g, cap, cur, hv, hg, hh, r⟩
  · exact Or.inl h2
  · exact Or.inr ⟨g, cap, cur, hv, hg, (hb.block g (Array.getElem?_eq_some_iff.1 hh).1).trans hh, r⟩
theorem Wb.below {w w' : World} {B : Nat} {ov : Value} {V L : Nat} {pv sv : Value} (h : Wb w B ov V L pv sv) (hb : Below w.heap.size w w') : Wb w' B ov V L pv sv := by
  obtain ⟨o, g, c, hWr, r⟩ := h.st
  exact ⟨o, g, c, ⟨(hb.block B hWr.lt).trans hWr.blk, own_below hWr.own hb⟩, r⟩
theorem Kw.below {a w w' : World} {B : Nat} {ov : Value} (h : Kw B ov a w) (hb : Below w.heap.size w w') : Kw B ov a w' :=
  ⟨h.env.trans (hb.mono (by omega)), fun k hk hB ho => (hb.block k (by have := h.env.size; omega)).trans (h.blk k hk hB ho)⟩
theorem row_zero {w : World} {base n pc : Nat} {pa : Option Addr} {xs : List Value} (h : w.ownsRow base 5 1 (.slice pa n pc) n xs) : w.ownsRow base 5 1 (.slice pa 0 pc) 0 [] := by
  obtain ⟨_, ⟨hv, h0⟩ | ⟨g, cap, cur, hv, hg, hh, h1, h2, h3, h4⟩⟩ := h
  · injection hv with e1 e2 e3
    subst e1 e3
    exact ⟨rfl, Or.inl ⟨rfl, rfl⟩⟩
  · injection hv with e1 e2 e3
    subst e1 e3
    exact ⟨rfl, Or.inr ⟨g, pc, cur, rfl, hg, hh, by omega, h2, h3, rfl⟩⟩
theorem own_kw {w w' : World} {B n : Nat} {ov pv : Value} {xs : List Value} (h : w.ownsRow (B + 1) 5 1 pv n xs) (hk : Kw B ov w w') (hne : pv.ownBlock = none ∨ pv.ownBlock ≠ ov.ownBlock) : w'.ownsRow (B + 1) 5 1 pv n xs := by
  obtain ⟨g1, g2⟩ := h
  refine ⟨g1, ?_⟩
  rcases g2 with h2 | ⟨g, cap, cur, rfl, hg, hh, r⟩
  · exact Or.inl h2
  · refine Or.inr ⟨g, cap, cur, rfl, hg, (hk.blk g (Array.getElem?_eq_some_iff.1 hh).1 (by omega) (fun e => ?_)).trans hh, r⟩
    rcases hne with hne | hne
    · simp [Value.ownBlock] at hne
    · exact hne e
theorem ne_moved {w : World} {base n : Nat} {ov ov' pv : Value} {xs : List Value} (h : w.ownsRow base 5 1 pv n xs) (hm : Moved ov ov' w) (hne : pv.ownBlock = none ∨ pv.ownBlock ≠ ov.ownBlock) : pv.ownBlock = none ∨ pv.ownBlock ≠ ov'.ownBlock := by
  rcases hne with hne | hne
  · exact .inl hne
  · refine .inr fun e => ?_
    rcases hm with hm | ⟨q, hq, hm⟩
    · exact hne (e.trans hm)
    · have := (h.lt q (e.trans hm)).2
      omega
theorem Kk.refl (B : Nat) (w : World) : Kk B w w := ⟨Below.refl _ _, fun _ _ _ _ _ _ _ => rfl⟩
theorem Kk.trans {B : Nat} {a b c : World} (h : Kk B a b) (k : Kk B b c) : Kk B a c :=
  ⟨h.below.trans k.below, fun i cs T fr hi h1 h2 => (k.cells i cs T fr ((h.cells i cs T fr hi h1 h2).trans hi) h1 h2).trans (h.cells i cs T fr hi h1 h2)⟩
theorem Kk.ofBelow {B : Nat} {w w' : World} (h : Below w.heap.size w w') (hB : B ≤ w.heap.size) : Kk B w w' :=
  ⟨h.mono hB, fun k _ _ _ hk _ _ => h.block k (Array.getElem?_eq_some_iff.1 hk).1⟩
theorem Kw.kk {w w' : World} {B : Nat} {ov : Value} {V L : Nat} {pv sv : Value} (hk : Kw B ov w w') (h : Wb w B ov V L pv sv) : Kk B w w' := by
  refine ⟨⟨hk.env.os, hk.env.tape, hk.env.output, hk.env.size, fun k hkB => hk.blk k (by have := h.lt; omega) (by omega) (fun e => ?_)⟩, fun k cs T fr hq h1 h2 => (hk.cells h hq h1 h2).trans hq.symm⟩
  obtain ⟨o, g, c, hW, -⟩ := h.st
  have := hW.own.lt k e.symm
  omega
set_option maxRecDepth 20000 in
set_option maxHeartbeats 1600000 in
theorem block0_any (w : World) (B : Nat) (V L : Nat) (t : List UInt8) (b : Bool) (h : Pk w B V L t (.pointer none)) (ht : t.length ≤ 65535) (hL : L ≤ 8589934592) :
    Calls Tryd.prog 47 #[.pointer (some ⟨B, 0, none⟩), .bool b] w fun e w' => e = .returned (.tuple #[]) ∧ Pk w' B (V + 2 ^ L * b.toNat + 2 ^ (L + 3 + lft (L + 3)) * (t.length + 65536 * (65535 - t.length) + 4294967296 * leN t)) (L + 3 + lft (L + 3) + 32 + 8 * t.length) [] (.pointer none) ∧ Kk B w w' := by
  obtain ⟨ov, pv, hWb, hpo, hne⟩ := h.st
  obtain ⟨o, g, c, hWr, hc, hg, rfl, rfl⟩ := hWb.st
  obtain ⟨-, -, -, c3, c4⟩ := hWr.cell
  have f3 := hWr.free 3
  have hcv := bytes_run hpo
  have HWb := hid hWb
  have HPO := hid hpo
  obtain ⟨pa, pc, rfl⟩ := row_shape hpo
  clear h hWb hpo hWr
  go_enter Tryd.func47, Tryd.ntmps47
  go_upto_region 2 with fail
  have HW1 := hid (HWb.out.setp (.slice pa 0 pc))
  have HP1 : Hid ((w.setCell ⟨B, 3, none⟩ (.slice pa 0 pc)).ownsRow (B + 1) 5 1 (.slice pa 0 pc) 0 []) := own_set (row_zero HPO.out) rfl _
  have HK1 : Hid (Kw B ov w (w.setCell ⟨B, 3, none⟩ (.slice pa 0 pc))) := (Kw.refl _ _ _).set 3 _
  generalize w.setCell ⟨B, 3, none⟩ (.slice pa 0 pc) = w1 at HW1 HP1 HK1 ⊢
  obtain ⟨V, hV⟩ : ∃ V, V = leN o + 256 ^ o.length * g := ⟨_, rfl⟩
  obtain ⟨L, hLL⟩ : ∃ L, L = 8 * o.length + c := ⟨_, rfl⟩
  rw [← hV, ← hLL] at HW1
  have HV := hid hV
  have HLL := hid hLL
  have hL2 : L ≤ 8589934592 := by omega
  obtain ⟨S, hS⟩ : ∃ S : ByteArray, S = ⟨t.toArray⟩ := ⟨_, rfl⟩
  have hSs : S.size = t.length := by rw [hS]; show t.toArray.size = _; simp
  rw [← hS]
  have HS := hid hS
  have HSS := hid hSs
  have hS5 : S.size ≤ 65535 := by omega
  clear hV hLL c3 c4 f3 hcv hS hSs hg hc hL
  go_upto_region 4 with (first | (go_at_call 59; refine (wflag_any _ B ov V L _ _ b HW1.out (by omega)).mono ?_; rintro e w2 ⟨rfl, o2, hb2, hk2, hm2⟩; have cc := hb2.count; have c4 : w2.cell? ⟨B, 4, none⟩ = some (.pointer none) := hb2.srch; have HW2 := hid hb2; have HK2 := hid hk2; have HM2 := hid hm2; clear hb2 hk2 hm2) | (go_at_call 60; refine (asIs_any w2 S ((L + 1) % 8) (by omega) hS5).mono ?_; rintro e w3 ⟨q, rfl, hq, hqb, hb3⟩; have HQ := hid hqb; have HB3 := hid hb3; obtain ⟨X, hX⟩ : ∃ X : Array Value, X = #[.int .i64 (2 + lft ((L + 1) % 8 + 2) + 32 + 8 * S.size : Nat), .func (.func 84) #[] #[.pointer (some ⟨q, 0, none⟩)]] := ⟨_, rfl⟩; have HX1 : Hid ((Tryd.prog.info? 100).map (·.size) = some X.size) := (by show _ = _; rw [hX]; kernel_rfl); have HX2 : Hid (X.all (·.oneCell') = true) := (by show _ = _; rw [hX]; simp [Value.oneCell']); have HX3 : Hid (#[Value.int .i64 0, Value.nilFunc].size = X.size) := (by show _ = _; rw [hX]; rfl); have HX4 : Hid (X[1]? = some (.func (.func 84) #[] #[.pointer (some ⟨q, 0, none⟩)])) := (by show _ = _; rw [hX]; rfl); rw [← hX]; clear hqb hb3 hX) | (refine wpList_store_row rfl 100 _ _ rfl w3.heap.size X rfl rfl 100 _ (by exact heap_alloc_new w3 _) HX1.out HX3.out HX2.out ?_))
  have hb5 : Below w3.heap.size w3 ((w3.alloc (.cells #[.int .i64 0, .nilFunc] 100)).setRow w3.heap.size X) := below_row ((Below.refl _ _).alloc (Nat.le_refl _) _) (Nat.le_refl _) _
  have h5x : ((w3.alloc (.cells #[.int .i64 0, .nilFunc] 100)).setRow w3.heap.size X).heap[w3.heap.size]? = some (.cells X 100 (0, 0)) := setRow_heap _ _ _ _ _ _ (heap_alloc_new w3 _)
  generalize (w3.alloc (.cells #[.int .i64 0, .nilFunc] 100)).setRow w3.heap.size X = W5 at hb5 h5x ⊢
  have HW5 := hid ((HW2.out.below HB3.out).below hb5)
  have c4' := HW5.out.srch
  have cX : W5.cell? ⟨w3.heap.size, 1, none⟩ = some (.func (.func 84) #[] #[.pointer (some ⟨q, 0, none⟩)]) := by rw [cell_of_row W5 w3.heap.size 1 _ 100 (0, 0) h5x]; exact HX4.out
  have HQ5 : Hid (W5.heap[q]? = some (.cells #[.string S] 9 (0, 0))) := (hb5.block q (Array.getElem?_eq_some_iff.1 HQ.out).1).trans HQ.out
  have HB5 := hid hb5
  clear hb5 h5x c4 cc
  go_wp2
  have HW5d : Hid (Wb W5.drew B o2 (V + 2 ^ L * b.toNat) (L + 1) (.slice pa 0 pc) (.pointer none)) := HW5.out.drewN 1
  go_region_with (go_at_call 84; refine (asIs1_any W5.drew B o2 _ _ _ _ q S HW5d.out HQ5.out hS5 (by omega)).mono ?_; rintro e w6 ⟨rfl, o6, hb6, hk6, hm6⟩; have HW6 := hid hb6; have HK6 := hid hk6; have HM6 := hid hm6; clear hb6 hk6 hm6)
  all_goals
    go_wp2
    go_end0
    have eo : (Value.slice pa t.length pc).ownBlock = (Value.slice pa 0 pc).ownBlock := by cases pa <;> rfl
    rw [eo] at hne
    have hp2 := own_kw HP1.out HK2.out hne
    have hn2 := ne_moved HP1.out HM2.out hne
    have hp4 : W5.ownsRow (B + 1) 5 1 (.slice pa 0 pc) 0 [] := own_below (own_below hp2 HB3.out) HB5.out
    have hp5 : W5.drew.ownsRow (B + 1) 5 1 (.slice pa 0 pc) 0 [] := hp4
    refine ⟨rfl, ⟨o6, .slice pa 0 pc, ?_, own_kw hp5 HK6.out hn2, ne_moved hp5 HM6.out hn2⟩, ?_⟩
    · have h6 := HW6.out
      rw [HSS.out, show S.data.toList = t by rw [HS.out]] at h6
      rw [← HV.out, ← HLL.out]
      exact h6
    · have z2 := HW2.out.lt
      have k0 : Kk B w w1 := HK1.out.kk HWb.out
      have k1 : Kk B w1 w2 := HK2.out.kk HW1.out
      have k2 : Kk B w2 w3 := Kk.ofBelow HB3.out (Nat.le_of_lt z2)
      have k3 : Kk B w3 W5.drew := Kk.ofBelow ⟨HB5.out.os, HB5.out.tape, HB5.out.output, HB5.out.size, HB5.out.block⟩ (by have := HB3.out.size; omega)
      exact (((k0.trans k1).trans k2).trans k3).trans (HK6.out.kk HW5d.out)
end Go.Proofs.YthdmjmnkhlpnnaaDoor
