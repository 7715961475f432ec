/-
  balekeep.Pieces: a text cut into pieces, some with a Flush behind.
-/
import Derived.Test.YthdmjmnkhlpnnabGreatDoorPstC
import Derived.Test.YthdmjmnkhlpnnabGreatDoorZ34
namespace Go.Proofs.YthdmjmnkhlpnnabGreatDoor
open Go.RowKit Go.Maps

/-- a slice of strings in memory -/
def Strs (w : World) (ao : Option Addr) (ts : List ByteArray) : Prop := 0 < ts.length → ∃ b off, ao = some ⟨b, off, none⟩ ∧ b < w.heap.size ∧ ∀ j, j < ts.length → w.cell? ⟨b, off + j, none⟩ = some (.string (ts.getD j .empty))
/-- a slice of integers in memory -/
def Ints (w : World) (ao : Option Addr) (fs : List Int) : Prop := 0 < fs.length → ∃ b off, ao = some ⟨b, off, none⟩ ∧ b < w.heap.size ∧ ∀ j, j < fs.length → w.cell? ⟨b, off + j, none⟩ = some (.int .i64 (fs.getD j 0))
/-- how many bytes -/
def sumL : List ByteArray → Nat
  | [] => 0
  | x :: r => x.size + sumL r
theorem sumL_drop (ts : List ByteArray) (k : Nat) (hk : k < ts.length) : sumL (ts.drop k) = (ts.getD k .empty).size + sumL (ts.drop (k + 1)) := by
  rw [List.drop_eq_getElem_cons hk, sumL]
  simp [List.getD, hk]
theorem nil_str (X : ByteArray) (x : List UInt8) (hX : X = ⟨x.toArray⟩) (h : x = []) : X.toList.isEmpty = true := by
  rw [ByteArray.toList_eq, hX, h]
  rfl
set_option maxRecDepth 20000 in
set_option maxHeartbeats 1600000 in
theorem pieces_walk (w : World) (ao bo : Option Addr) (ca cb : Nat) (ts : List ByteArray) (fs : List Int) (lev : Int) (hl : -9223372036854775808 ≤ lev ∧ lev ≤ 9223372036854775807) (hts : Strs w ao ts) (hfs : Ints w bo fs) (hfi : ∀ z ∈ fs, -9223372036854775808 ≤ z ∧ z ≤ 9223372036854775807) (hsz : sumL ts ≤ 1048576) (hn : ts.length ≤ 1048576) (hm : fs.length ≤ 1048576) (hg : Gl2 w) :
    Calls Tryz.prog 3 #[.slice ao ts.length ca, .slice bo fs.length cb, .int .i64 lev] w fun e w' => e = .returned (.bool true) ∧ Below w.heap.size w w' := by
  have HG := hid hg
  have HPI := hid (pickn_any lev 10 w (by omega) (by omega) hl)
  have HTS := hid hts
  have HFS := hid hfs
  have HFI := hid hfi
  have HSZ := hid hsz
  clear hg hts hfs hfi hsz
  go_enter Tryz.func3, Tryz.ntmps3
  go_wp2_with (first
    | (go_at_call 6; refine (psnew_any w lv (by omega) HG.out).mono ?_; rintro e w1 ⟨Z, O1, rfl, hp1, hb1, ho1, hg1⟩; have HP1 := hid hp1; have HB1 := hid hb1; have HOO := hid ho1; have HG0 := hid hg1; clear hp1 hb1 ho1 hg1)
    | (go_at_call 7; refine HPI.out.mono ?_; rintro e w' ⟨lv, hlv, rfl, rfl⟩))
  go_loopw [8, 9, 10, 11] (fun v5 v6 v7 v8 wr => ∃ (k : Nat) (Wr By : ByteArray) (f : Nat), k ≤ ts.length ∧ v8 = .int .i64 k ∧ v5 = .int .i64 0 ∧ v6 = .string Wr ∧ v7 = .string By ∧ f ≤ k ∧ Wr.size + sumL (ts.drop k) ≤ 1048576 ∧ Hid (∃ (fl fr : Bool) (O : Nat → Prop), Ps wr O Z lv Wr.data.toList By.data.toList f fl fr ∧ Gk wr O ∧ To O1 O w1 wr)) (fun _ _ _ v8 _ => ts.length - (intOf v8).toNat)
  case atStart => exact ⟨0, .empty, .empty, 0, by omega, rfl, rfl, rfl, rfl, by omega, by have := HSZ.out; simpa using this, true, true, O1, HP1.out, HG0.out, To.refl _ _⟩
  case round =>
    clear HP1 HG0 HPI hlv hl HSZ HG
    obtain ⟨k, Wr, By, f, hk, rfl, rfl, rfl, rfl, hf, hW, hPP⟩ := hrel
    obtain ⟨fl, fr, O, hP, hG, hK⟩ := hPP.out
    have HP := hid hP
    have HG := hid hG
    have HK := hid hK
    have HBW := hid (To.under HB1.out HOO.out hK)
    clear hPP hP hG hK
    have HWL := hid (szl Wr)
    by_cases hlt : k < ts.length
    · obtain ⟨b, off, rfl, hbl, hc⟩ := HTS.out (by omega)
      have hsd := sumL_drop ts k hlt
      have q0 := hc k hlt
      obtain ⟨S, hS⟩ : ∃ S, S = ts.getD k .empty := ⟨_, rfl⟩
      rw [← hS] at hsd q0
      have q1 : wr.cell? ⟨b, off + k, none⟩ = some (.string S) := by rw [← q0]; exact HBW.out.cell (p := ⟨b, off + k, none⟩) hbl
      have hWS : Wr.size + S.size ≤ 1048576 := by omega
      have HHD := hid (And.intro hsd hW)
      clear hsd hW hS hc q0
      by_cases hfl : 0 < fs.length
      · obtain ⟨b2, off2, rfl, hb2, hc2⟩ := HFS.out hfl
        obtain ⟨j, hj⟩ : ∃ j, j = k % fs.length := ⟨_, rfl⟩
        have hjl : j < fs.length := by rw [hj]; exact Nat.mod_lt _ hfl
        have hmod : (k : Int) % (fs.length : Int) = (j : Int) := by rw [hj]; rfl
        have q3 := hc2 j hjl
        obtain ⟨z, hz⟩ : ∃ z, z = fs.getD j 0 := ⟨_, rfl⟩
        rw [← hz] at q3
        have HZR : Hid (-9223372036854775808 ≤ z ∧ z ≤ 9223372036854775807) := HFI.out z (by rw [hz]; simp [List.getD, hjl])
        have HQ3 := hid q3
        clear hj hz hc2 q3
        go_wp2_with (first
          | (go_at_call 8; refine (pswrite_any wr O Z lv _ _ f fl fr S HP.out (by omega) (by rw [HWL.out]; omega) (by omega) HG.out).mono ?_; rintro e w2 ⟨rfl, O2, hp2, hk2⟩; have HP2 := hid hp2; have HG2 := hid (HG.out.to hk2); have HK2 := hid (HK.out.trans hk2); have HB2 := hid (To.under HB1.out HOO.out (HK.out.trans hk2)); have q2 : w2.cell? ⟨b, off + k, none⟩ = some (.string S) := ((HB2.out.cell (p := ⟨b, off + k, none⟩) hbl).trans ((HBW.out.cell (p := ⟨b, off + k, none⟩) hbl).symm.trans q1)); have q3 : w2.cell? ⟨b2, off2 + j, none⟩ = some (.int .i64 z) := (HB2.out.cell (p := ⟨b2, off2 + j, none⟩) hb2).trans HQ3.out; clear hp2 hk2)
          | (go_at_call 7; refine (pickn_any z 4 w2 (by omega) (by omega) HZR.out).mono ?_; rintro e w' ⟨p, hp4, rfl, rfl⟩; obtain ⟨W2, hW2⟩ : ∃ W2, W2 = Wr ++ S := ⟨_, rfl⟩; rw [← hW2]; have hWz : W2.size ≤ 1048576 := (by rw [hW2, ByteArray.size_append]; exact hWS); have HWE := hid hW2; have hWW : (W2.toList == W2.toList) = true := beq_self_eq_true _; rw [← ba_app, ← hW2] at HP2; have HWL2 := hid (szl W2); clear hW2)
          | (go_at_call 9; refine (psflush_any w2 O2 Z lv _ _ f false false _ HP2.out (by rw [HWL2.out]; omega) (by omega) HG2.out).mono ?_; rintro e w3 ⟨rfl, O3, hp3, hk3⟩; have HP3 := hid hp3; have HG3 := hid (HG2.out.to hk3); have HK3 := hid (HK2.out.trans hk3); clear hp3 hk3)
          | (go_at_call 10; refine (pstake_any w3 O3 Z lv _ _ _ _ _ HP3.out).mono ?_; rintro e w4 ⟨x, O4, rfl, hp4', hk4, hou4⟩; obtain ⟨X, hX⟩ : ∃ X : ByteArray, X = ⟨x.toArray⟩ := ⟨_, rfl⟩; rw [← hX]; obtain ⟨D, hD⟩ : ∃ D, D = By ++ X := ⟨_, rfl⟩; have hDl : D.data.toList = By.data.toList ++ x := (by rw [hD, ba_app, hX, ba_of]); have hDz : By.size + X.size ≤ 16777216 := (by have := hp4'.len; rw [← hDl, szl, szl, hD, ByteArray.size_append] at this; omega); have HOU : Hid (ou D (W2.size : Int) = (W2, 0, 1)) := (by have h5 := (hou4 rfl).1 W2.size (by rw [szl]; exact Int.le_refl _); rw [← hDl, ← ba_self, ← ba_self] at h5; exact h5); have HP4 := hid hp4'; rw [← hDl] at HP4; have HG4 := hid (HG3.out.to hk4); have HK4 := hid (HK3.out.trans hk4); have HDE := hid hD; clear hp4' hk4 hou4 hX hDl hD)
          | (go_at_call 11; rw [← HDE.out]; refine (inf_ou w4 D W2 W2.size 0 1 HOU.out (by rw [HDE.out, ByteArray.size_append]; exact hDz) HG4.out.glo).mono ?_; rintro e w5 ⟨rfl, hb5⟩; have HB5 := hid hb5; clear hb5))
        · refine ⟨⟨k + 1, W2, D, f + 1, by omega, rfl, rfl, rfl, by rw [HDE.out], by omega, ?_, _, _, O4, HP4.out.below HB5.out, ?_, HK4.out.below HB5.out⟩, by simp [intOf]; omega⟩
          · have := HHD.out
            rw [HWE.out, ByteArray.size_append]
            omega
          · exact HG4.out.to (To.ofBelow HB5.out)
        · refine ⟨⟨k + 1, W2, By, f, by omega, rfl, rfl, rfl, rfl, by omega, ?_, _, _, O2, HP2.out, HG2.out, HK2.out⟩, by simp [intOf]; omega⟩
          have := HHD.out
          rw [HWE.out, ByteArray.size_append]
          omega
      · obtain ⟨nf, hnf⟩ : ∃ nf, nf = fs.length := ⟨_, rfl⟩
        have HNF : Hid (nf = 0) := by show _ = _; omega
        rw [← hnf]
        clear hnf hfl
        go_wp2_with (go_at_call 8; refine (pswrite_any wr O Z lv _ _ f fl fr S HP.out (by omega) (by rw [HWL.out]; omega) (by omega) HG.out).mono ?_; rintro e w2 ⟨rfl, O2, hp2, hk2⟩; have HP2 := hid hp2; have HG2 := hid (HG.out.to hk2); have HK2 := hid (HK.out.trans hk2); have HB2 := hid (To.under HB1.out HOO.out (HK.out.trans hk2)); have q2 : w2.cell? ⟨b, off + k, none⟩ = some (.string S) := ((HB2.out.cell (p := ⟨b, off + k, none⟩) hbl).trans ((HBW.out.cell (p := ⟨b, off + k, none⟩) hbl).symm.trans q1)); clear hp2 hk2)
        · exfalso
          have := HNF.out
          omega
        refine ⟨⟨k + 1, Wr ++ S, By, f, by omega, rfl, rfl, rfl, rfl, by omega, ?_, false, false, O2, ?_, HG2.out, HK2.out⟩, by simp [intOf]; omega⟩
        · have := HHD.out
          rw [ByteArray.size_append]
          omega
        · rw [ba_app]
          exact HP2.out
    · have hWb : Wr.size ≤ 1048576 := by omega
      have hWW : (Wr.toList == Wr.toList) = true := beq_self_eq_true _
      clear hW
      go_wp2_with (first
        | (go_at_call 10; refine (pctake_any w9 O9 Z _ _ _ _ HP9.out).mono ?_; rintro e w10 ⟨x3, O10, rfl, hp10, hk10, hx10, -⟩; obtain ⟨X3, hX3⟩ : ∃ X : ByteArray, X = ⟨x3.toArray⟩ := ⟨_, rfl⟩; rw [← hX3]; have hE3 := nil_str X3 x3 hX3 (hx10 rfl); have HK10 := hid (HK9.out.trans hk10); clear hp10 hk10 hx10 hX3)
        | (go_at_call 12; refine (pcclose_any w8 O8 Z _ _ _ _ HP8.out).mono ?_; rintro e w9 ⟨rfl, hp9, hk9⟩; obtain ⟨O9, hO9⟩ : ∃ O9 : Nat → Prop, O9 = O8 := ⟨_, rfl⟩; rw [← hO9] at hp9; have HP9 := hid hp9; have HK9 : Hid (To O1 O9 w1 w9) := (by rw [hO9]; exact HK8.out.trans hk9); clear hp9 hk9 hO9)
        | (go_at_call 9; refine (pcflush_any w7 O7 Z _ _ _ _ _ HP7.out).mono ?_; rintro e w8 ⟨rfl, hp8, hk8⟩; obtain ⟨O8, hO8⟩ : ∃ O8 : Nat → Prop, O8 = O7 := ⟨_, rfl⟩; rw [← hO8] at hp8; have HP8 := hid hp8; have HK8 : Hid (To O1 O8 w1 w8) := (by rw [hO8]; exact HK7.out.trans hk8); clear hp8 hk8 hO8)
        | (go_at_call 8; refine (pcwrite_any w6 O6 Z _ _ _ _ _ HP6.out).mono ?_; rintro e w7 ⟨rfl, hp7, hk7⟩; obtain ⟨O7, hO7⟩ : ∃ O7 : Nat → Prop, O7 = O6 := ⟨_, rfl⟩; rw [← hO7] at hp7; have HP7 := hid hp7; have HK7 : Hid (To O1 O7 w1 w7) := (by rw [hO7]; exact HK6.out.trans hk7); clear hp7 hk7 hO7)
        | (go_at_call 10; refine (pctake_any w5 O4 Z _ _ _ _ (HP4.out.below HB5.out)).mono ?_; rintro e w6 ⟨x2, O6, rfl, hp6, hk6, hx6, -⟩; obtain ⟨X2, hX2⟩ : ∃ X : ByteArray, X = ⟨x2.toArray⟩ := ⟨_, rfl⟩; rw [← hX2]; have hE2 := nil_str X2 x2 hX2 (hx6 rfl); have HP6 := hid hp6; have HK6 := hid ((HK4.out.below HB5.out).trans hk6); clear hp6 hk6 hx6 hX2)
        | (go_at_call 11; rw [← HDE.out]; refine (inf_ou w4 D Wr Wr.size D.size 0 HOU.out (by rw [HDE.out, ByteArray.size_append]; exact hDz) HG4.out.glo).mono ?_; rintro e w5 ⟨rfl, hb5⟩; have HB5 := hid hb5; clear hb5)
        | (go_at_call 10; refine (pctake_any w3 O3 Z _ _ _ _ HP3.out).mono ?_; rintro e w4 ⟨x, O4, rfl, hp4', hk4, -, hou4⟩; obtain ⟨X, hX⟩ : ∃ X : ByteArray, X = ⟨x.toArray⟩ := ⟨_, rfl⟩; rw [← hX]; obtain ⟨D, hD⟩ : ∃ D, D = By ++ X := ⟨_, rfl⟩; have hDl : D.data.toList = By.data.toList ++ x := (by rw [hD, ba_app, hX, ba_of]); have hDz : By.size + X.size ≤ 16777216 := (by have := hp4'.len; rw [← hDl, szl, szl, hD, ByteArray.size_append] at this; omega); have HOU : Hid (ou D (Wr.size : Int) = (Wr, D.size, 0)) := (by have h5 := hou4 Wr.size (by rw [szl]; exact Int.le_refl _); rw [← hDl, ← ba_self, ← ba_self, szl] at h5; exact h5); have HP4 := hid hp4'; rw [← hDl] at HP4; have HG4 := hid (HG3.out.to hk4); have HK4 := hid (HK3.out.trans hk4); have HDE := hid hD; clear hp4' hk4 hou4 hX hDl hD)
        | (go_at_call 12; refine (psclose_any wr O Z lv _ _ _ _ _ HP.out (by rw [HWL.out]; omega) (by omega) HG.out).mono ?_; rintro e w3 ⟨rfl, O3, hp3, hk3⟩; have HP3 := hid hp3; have HG3 := hid (HG.out.to hk3); have HK3 := hid (HK.out.trans hk3); clear hp3 hk3))
      go_ret
      exact ⟨rfl, To.under HB1.out HOO.out HK10.out⟩
end Go.Proofs.YthdmjmnkhlpnnabGreatDoor
