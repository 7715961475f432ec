/-
  The packer's Add at level 0.
-/
import Derived.Test.YthdmjmnkhlpnnaaDoorPkr
namespace Go.Proofs.YthdmjmnkhlpnnaaDoor
open Go.RowKit

/-- how many bits there are behind a block as it is -/
def blL (L n : Nat) : Nat := L + 3 + lft (L + 3) + 32 + 8 * n
/-- what is written behind a block as it is -/
def blV (V L : Nat) (t : List UInt8) (b : Bool) : Nat := V + 2 ^ L * b.toNat + 2 ^ (L + 3 + lft (L + 3)) * (t.length + 65536 * (65535 - t.length) + 4294967296 * leN t)
/-- a text more: what is written, how many bits, what waits -/
def adF : Nat → Nat → Nat → List UInt8 → List UInt8 → Nat × Nat × List UInt8
  | 0, V, L, t, u => (V, L, t ++ u)
  | f + 1, V, L, t, u => if 65535 < t.length + u.length then adF f (blV V L (t ++ u.take (65535 - t.length)) false) (blL L 65535) [] (u.drop (65535 - t.length)) else (V, L, t ++ u)
/-- how much waits, in memory -/
def waitOf (w : World) (B : Nat) : Nat := match w.cell? ⟨B, 3, none⟩ with | some (.slice _ n _) => n | _ => 0
def sizeOfS : Value → Nat | .string s => s.size | _ => 0

theorem Wb.grownP {w w1 : World} {B : Nat} {ov pv : Value} {V L n : Nat} {sv : Value} {xs : List Value} (h : Wb w B ov V L pv sv) (ho : w.ownsRow (B + 1) 5 1 pv n xs) (hne : pv.ownBlock = none ∨ pv.ownBlock ≠ ov.ownBlock) (hg : w.grownBy w1 pv.ownBlock) : Wb w1 B ov V L pv sv := by
  obtain ⟨o, g, c, hW, r⟩ := h.st
  refine ⟨o, g, c, ⟨?_, ?_⟩, r⟩
  · rw [hg.block B hW.lt (fun e => by have := ho.lt B e.symm; omega)]
    exact hW.blk
  · obtain ⟨g1, g2⟩ := hW.own
    refine ⟨g1, ?_⟩
    rcases g2 with h2 | ⟨k, cap, cur, rfl, hk, hh, r⟩
    · exact Or.inl h2
    · refine Or.inr ⟨k, cap, cur, rfl, hk, (hg.block k (Array.getElem?_eq_some_iff.1 hh).1 (fun e => ?_)).trans hh, r⟩
      rcases hne with hne | hne
      · rw [hne] at e; cases e
      · exact hne e.symm
theorem Kk.grownP {w w1 : World} {B : Nat} {pv : Value} {n : Nat} {xs : List Value} (ho : w.ownsRow (B + 1) 5 1 pv n xs) (hB : B < w.heap.size) (hg : w.grownBy w1 pv.ownBlock) : Kk B w w1 := by
  refine ⟨(Below.refl _ _).grown hg (by omega) (fun k hk => by have := ho.lt k hk; omega), fun k cs T fr hk h1 h2 => hg.block k (Array.getElem?_eq_some_iff.1 hk).1 (fun e => ?_)⟩
  obtain ⟨_, ⟨rfl, _⟩ | ⟨q, cap, cur, rfl, _, hh, _⟩⟩ := ho
  · simp [Value.ownBlock] at e
  · simp [Value.ownBlock] at e
    subst e
    rw [hk] at hh
    injection hh with hh; injection hh with _ hh _; exact h2 hh
theorem Kk.setp {w : World} {B : Nat} {ov : Value} {V L : Nat} {pv sv : Value} (h : Wb w B ov V L pv sv) (u : Value) : Kk B w (w.setCell ⟨B, 3, none⟩ u) := by
  obtain ⟨o, g, c, hW, r⟩ := h.st
  refine ⟨(Below.refl _ _).setCell (Nat.le_refl B) u, fun k cs T fr hk h1 _ => Below.heap_setCell _ _ _ _ (fun e => ?_)⟩
  have e' : k = B := e
  subst e'
  rw [hW.blk] at hk
  injection hk with hk; injection hk with _ hk _; exact h1 hk.symm
/-- the piece is longer -/
theorem Pk.app {w w1 : World} {B : Nat} {ov pv v' : Value} {V L n : Nat} {t u : List UInt8} {sv : Value} (h : Wb w B ov V L pv sv) (ho : w.ownsRow (B + 1) 5 1 pv t.length (bys t)) (hne : pv.ownBlock = none ∨ pv.ownBlock ≠ ov.ownBlock)
    (hn : n = t.length + u.length) (hown : w1.ownsRow (B + 1) 5 1 v' n (bys t ++ bys u)) (hg : w.grownBy w1 pv.ownBlock) (hat : v'.ownBlock = pv.ownBlock ∨ v'.ownBlock = some w.heap.size) : Pk (w1.setCell ⟨B, 3, none⟩ v') B V L (t ++ u) sv := by
  have h1 := (h.grownP ho hne hg).setp v'
  refine ⟨ov, v', h1, ?_, ?_⟩
  · rw [show bys (t ++ u) = bys t ++ bys u by simp [bys], List.length_append, ← hn]
    exact own_set hown rfl _
  · obtain ⟨o, g, c, hW, r⟩ := h.st
    rcases hat with e | e
    · rcases hne with hne | hne
      · exact .inl (e.trans hne)
      · exact .inr (fun x => hne (e.symm.trans x))
    · refine .inr (fun x => ?_)
      have := (hW.own.lt w.heap.size (x.symm.trans e)).2
      omega

theorem Wb.wait {w : World} {B : Nat} {ov : Value} {V L : Nat} {pv sv : Value} (h : Wb w B ov V L pv sv) : w.cell? ⟨B, 3, none⟩ = some pv := by
  obtain ⟨o, g, c, hWr, r⟩ := h.st
  exact hWr.cell.2.2.2.1
theorem Wb.free3 {w : World} {B : Nat} {ov : Value} {V L : Nat} {pv sv : Value} (h : Wb w B ov V L pv sv) : w.frozen? ⟨B, 3, none⟩ = false := by
  obtain ⟨o, g, c, hWr, r⟩ := h.st
  exact hWr.free 3
theorem Pk.waitOf {w : World} {B V L : Nat} {t : List UInt8} {sv : Value} (h : Pk w B V L t sv) : waitOf w B = t.length := by
  obtain ⟨ov, pv, hWb, hpo, hne⟩ := h.st
  obtain ⟨pa, pc, rfl⟩ := row_shape hpo
  unfold Go.Proofs.YthdmjmnkhlpnnaaDoor.waitOf
  rw [hWb.wait]
theorem extract_take (S : ByteArray) (r : Nat) : (S.extract 0 r).data.toList = S.data.toList.take r := by
  rw [ByteArray.data_extract, Array.toList_extract]
  simp [List.extract_eq_take_drop]
theorem extract_drop (S : ByteArray) (r : Nat) : (S.extract r S.size).data.toList = S.data.toList.drop r := by
  have hs : S.data.size = S.size := rfl
  rw [ByteArray.data_extract, Array.toList_extract]
  simp [List.extract_eq_take_drop]
  apply List.take_of_length_le
  simp
set_option maxRecDepth 20000 in
set_option maxHeartbeats 3200000 in
theorem add0_any (w : World) (B : Nat) (V L : Nat) (t : List UInt8) (S : ByteArray) (f : Nat) (h : Pk w B V L t (.pointer none)) (ht : t.length ≤ 65535) (hS : S.size ≤ 1048576) (hL : L ≤ 4294967296) (hf : S.size + t.length < f) :
    Calls Tryd.prog 29 #[.pointer (some ⟨B, 0, none⟩), .string S] w fun e w' => e = .returned (.tuple #[]) ∧ Pk w' B (adF f V L t S.data.toList).1 (adF f V L t S.data.toList).2.1 (adF f V L t S.data.toList).2.2 (.pointer none) ∧ Kk B w w' := by
  obtain ⟨R, hR⟩ : ∃ R, R = adF f V L t S.data.toList := ⟨_, rfl⟩
  rw [← hR]
  have HP := hid h
  have HR := hid hR
  clear h hR
  go_enter Tryd.func29, Tryd.ntmps29
  go_wp2
  go_loopw [1] (fun v wr => ∃ (f V L : Nat) (t : List UInt8) (S : ByteArray), v = .string S ∧ t.length ≤ 65535 ∧ S.size ≤ 1048576 ∧ L + 16 * (t.length + S.size) ≤ 5000000000 ∧ S.size + t.length < f ∧ Hid (Pk wr B V L t (.pointer none)) ∧ Hid (R = adF f V L t S.data.toList) ∧ Hid (Kk B w wr)) (fun v wr => sizeOfS v + waitOf wr B)
  case atStart => exact ⟨f, V, L, t, S, rfl, ht, hS, by omega, by omega, HP, HR, Kk.refl _ _⟩
  case round =>
    clear HP HR hf hL hS ht
    obtain ⟨f0, V, L, t, S, rfl, ht, hS, hC, hf, hP, hR, hK⟩ := hrel
    obtain ⟨f, rfl⟩ : ∃ f, f0 = f + 1 := ⟨f0 - 1, by omega⟩
    obtain ⟨ov, pv, hWb, hpo, hne⟩ := hP.out.st
    obtain ⟨o, g, c, hWr, hrest⟩ := hWb.st
    have c3 := hWr.cell.2.2.2.1
    have f3 := hWr.free 3
    have hBl := hWr.lt
    have HWb := hid hWb
    have HPO := hid hpo
    have HNE := hid hne
    obtain ⟨pa, pc, rfl⟩ := row_shape hpo
    clear hWb hpo hne hWr hrest
    have hsl : S.data.toList.length = S.size := by rw [Array.length_toList]; rfl
    have HSL := hid hsl
    clear hsl
    by_cases hbig : 65535 < t.length + S.size
    · obtain ⟨r, hr⟩ : ∃ r, r = 65535 - t.length := ⟨_, rfl⟩
      have hrs : r ≤ S.size := by omega
      have hri : (65535 : Int) - (t.length : Int) = (r : Int) := by omega
      have hrc : (r : Int) ≤ (S.size : Int) := by omega
      have HRR := hid hr
      have htr : t.length + r = 65535 := by omega
      clear hr
      obtain ⟨S1, hS1⟩ : ∃ S1, S1 = S.extract 0 r := ⟨_, rfl⟩
      have hS1z : S1.size = r := by rw [hS1, ByteArray.size_extract]; omega
      have hS1l : S1.data.toList = S.data.toList.take r := by rw [hS1]; exact extract_take S r
      have HS1 := hid hS1
      have HS1Z := hid hS1z
      have HS1L := hid hS1l
      have HC1 : Hid (wr.drew.ownsRow (B + 1) 5 1 (.slice pa t.length pc) t.length (bys t)) := HPO.out
      have HC3 : Hid (t.length + S1.size ≤ maxLen) := by show _ ≤ _; unfold maxLen; omega
      have HC5 : Hid (t.length + S1.size ≤ 140737488355328) := by show _ ≤ _; omega
      have HC4 : Hid (B + 1 ≤ wr.drew.heap.size) := by show _ ≤ _; simp; omega
      have HC6 : Hid (.string (S.extract 0 r) = Value.string S1) := by show _ = _; rw [hS1]
      clear hS1 hS1z hS1l
      go_upto_region 2 with fail
      go_cut [28] (fun _ wx => Hid (Pk wx B V L (t ++ S.data.toList.take r) (.pointer none)) ∧ Hid (Kk B wr wx))
      case first =>
        go_region_law
          ((refine step_append_string _ (by rfl) _ _ (by rfl) (B + 1) (.slice pa t.length pc) t.length (bys t) (by rfl) HC1.out S1 (by exact HC6.out) HC3.out HC5.out HC4.out ?_; intro v' w5 hown5 hgrow hat; obtain ⟨va, vc, rfl⟩ := row_shape hown5; have hgw : wr.grownBy w5 (Value.slice pa t.length pc).ownBlock := ⟨hgrow.os, hgrow.tape, hgrow.output, hgrow.size, hgrow.block⟩; have hwb := HWb.out.grownP HPO.out HNE.out hgw; have c3' : w5.cell? ⟨B, 3, none⟩ = some (.slice pa t.length pc) := hwb.wait; have f3' : w5.frozen? ⟨B, 3, none⟩ = false := hwb.free3; clear hwb))
        all_goals
          have hpk := Pk.app (n := t.length + S1.size) (u := S.data.toList.take r) HWb.out HPO.out HNE.out (by rw [List.length_take, HSL.out, HS1Z.out]; omega) (by rw [← HS1L.out]; exact hown5) hgw hat
          have hkk := (Kk.grownP HPO.out hBl hgw).trans (Kk.setp (HWb.out.grownP HPO.out HNE.out hgw) (.slice va (t.length + S1.size) vc))
          have HPK := hid hpk
          have HKK := hid hkk
          clear hpk hkk c3 c3' f3'
          go_wp2
          go_meet
          exact ⟨HPK, HKK⟩
      case rest =>
      obtain ⟨HP2, HK2⟩ := hcut
      clear c3 f3 HC1 HC3 HC4 HC5
      have hS2i : (r : Int) ≤ (S.size : Int) := by omega
      obtain ⟨t', ht'⟩ : ∃ t', t' = t ++ S.data.toList.take r := ⟨_, rfl⟩
      have htl : t'.length = 65535 := by rw [ht', List.length_append, List.length_take, HSL.out]; omega
      rw [← ht'] at HP2
      have HBK := hid (block0_any wc B V L t' false HP2.out (by omega) (by omega))
      have HT := hid ht'
      have HTL := hid htl
      clear ht' htl
      go_wp2_with (go_at_call 47; refine HBK.out.mono ?_; rintro e w6 ⟨rfl, hp6, hk6⟩; have HP6 := hid hp6; have HK6 := hid hk6; clear hp6 hk6)
      have hS2z : (S.extract r S.size).size = S.size - r := by rw [ByteArray.size_extract]; omega
      have hl42 : blL L 65535 ≤ L + 524330 := by unfold blL lft; omega
      have hP6 : Pk w6 B (blV V L t' false) (blL L 65535) [] (.pointer none) := by
        have h6 : Pk w6 B (blV V L t' false) (blL L t'.length) [] (.pointer none) := HP6.out
        rw [HTL.out] at h6
        exact h6
      refine ⟨⟨f, blV V L t' false, blL L 65535, [], S.extract r S.size, rfl, by simp, by omega, by rw [hS2z]; simp; omega, by rw [hS2z]; simp; omega, hP6, ?_, (hK.out.trans HK2.out).trans HK6.out⟩, ?_⟩
      · show R = _
        rw [hR.out, adF, if_pos (by rw [HSL.out]; exact hbig), ← HRR.out, extract_drop, ← HT.out]
      · rw [hP6.waitOf, hP.out.waitOf]
        show (S.extract r S.size).size + 0 < S.size + t.length
        omega
    · have HRE : Hid (R = (V, L, t ++ S.data.toList)) := by show R = _; rw [hR.out, adF, if_neg (by rw [HSL.out]; exact hbig)]
      have HC3 : Hid (t.length + S.size ≤ maxLen) := by show _ ≤ _; unfold maxLen; omega
      have HC5 : Hid (t.length + S.size ≤ 140737488355328) := by show _ ≤ _; omega
      have HC4 : Hid (B + 1 ≤ wr.heap.size) := by show _ ≤ _; omega
      go_wp2_with (at_builtin; refine wpList_append_string wr rfl (.tmp 40) (.tmp 41) rfl (B + 1) (.slice pa t.length pc) t.length (bys t) rfl HPO.out S rfl HC3.out HC5.out HC4.out ?_; intro v' w5 hown5 hgrow hat; obtain ⟨va, vc, rfl⟩ := row_shape hown5; have hwb := HWb.out.grownP HPO.out HNE.out hgrow; have c3' : w5.cell? ⟨B, 3, none⟩ = some (.slice pa t.length pc) := hwb.wait; have f3' : w5.frozen? ⟨B, 3, none⟩ = false := hwb.free3; clear hwb)
      have hpk := Pk.app (n := t.length + S.size) (u := S.data.toList) HWb.out HPO.out HNE.out (by rw [HSL.out]) hown5 hgrow hat
      have hkk := (Kk.grownP HPO.out hBl hgrow).trans (Kk.setp (HWb.out.grownP HPO.out HNE.out hgrow) (.slice va (t.length + S.size) vc))
      go_end0
      rw [HRE.out]
      exact ⟨rfl, hpk, hK.out.trans hkk⟩
end Go.Proofs.YthdmjmnkhlpnnaaDoor
