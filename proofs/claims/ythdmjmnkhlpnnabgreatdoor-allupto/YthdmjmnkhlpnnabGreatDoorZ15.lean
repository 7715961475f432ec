import Derived.Test.YthdmjmnkhlpnnabGreatDoorZ06
import Derived.Test.YthdmjmnkhlpnnabGreatDoorZ14
import Derived.Deep.DeepMust
import Derived.Test.YthdmjmnkhlpnnabGreatDoorZ07
import Derived.Test.YthdmjmnkhlpnnabGreatDoorZ13
namespace Go.Proofs.YthdmjmnkhlpnnabGreatDoor
open Go.RowKit
def Owd (B:Nat) (s:ByteArray) (tv:Value) (t:List UInt8) (M:Int) (fx:Option Addr) (r:Cs) (w:World) (e:Ending) (w':World):Prop :=
 match r with
 | .ok za zb q => ∃ b,e = .returned (.pointer (some ⟨b,0,none⟩)) /\ Cds w' b za zb /\ Rd w' B s q tv t M fx /\ Kp 90 B w w'
 | .no k => Gave B s tv t M fx k w e w'
theorem new_at (ao:Option Addr) (n c:Nat) (zs:List Int) (w:World) (hn:zs.length=n) (hs:Seg w ao zs) (hm:n<=320) (hok:zs.any nl=false) :
  Calls Tryz.prog 129 #[.slice ao n c] w fun e w' => ∃ b,e = .returned (.pointer (some ⟨b,0,none⟩)) /\ w.heap.size<=b /\ Cod w' b zs /\ Below w.heap.size w w':=by
 subst hn
 exact new_any ao c zs w hs hm hok
theorem owF_end {s:ByteArray} {p:Nat} (h:¬ p+14<=8*s.size):owF s p = .no 1:=by unfold owF;rw [if_neg h]
theorem owF_many {s:ByteArray} {p:Nat} (h:p+14<=8*s.size) (h2:286 < 257+val s p 5 ∨ 30 < 1+val s (p+5) 5):owF s p = .no 3:=by unfold owF;rw [if_pos h,if_pos h2]
theorem owF_col {s:ByteArray} {p:Nat} (h:p+14<=8*s.size) (h2:¬ (286 < 257+val s p 5 ∨ 30 < 1+val s (p+5) 5)) (h3:¬ p+14+3*(4+val s (p+10) 4)<=8*s.size):owF s p = .no 1:=by unfold owF;rw [if_pos h,if_neg h2,if_neg h3]
theorem owF_wt {s:ByteArray} {p:Nat} (h:p+14<=8*s.size) (h2:¬ (286 < 257+val s p 5 ∨ 30 < 1+val s (p+5) 5)) (h3:p+14+3*(4+val s (p+10) 4)<=8*s.size) (h4:¬ wt (clF s (p+14) (4+val s (p+10) 4))=32768):owF s p = .no 3:=by unfold owF;rw [if_pos h,if_neg h2,if_pos h3,if_neg h4]
theorem owF_rest {s:ByteArray} {p:Nat} (h:p+14<=8*s.size) (h2:¬ (286 < 257+val s p 5 ∨ 30 < 1+val s (p+5) 5)) (h3:p+14+3*(4+val s (p+10) 4)<=8*s.size) (h4:wt (clF s (p+14) (4+val s (p+10) 4))=32768):owF s p =
  match lnF (clF s (p+14) (4+val s (p+10) 4)) s (257+val s p 5+(1+val s (p+5) 5)) (257+val s p 5+(1+val s (p+5) 5)+1) [] (p+14+3*(4+val s (p+10) 4)) with
  | .no e => .no e
  | .ok l q => if l.getD 256 0 ≠ 0 /\ mayL (l.take (257+val s p 5))=true /\ mayS (l.drop (257+val s p 5))=true then .ok (l.take (257+val s p 5)) (l.drop (257+val s p 5)) q else .no 3:=by
 unfold owF;rw [if_pos h,if_neg h2,if_pos h3,if_pos h4]
 generalize lnF _ _ _ _ _ _=r
 cases r <;> rfl
theorem col_end (w:World) (B:Nat) (s:ByteArray) (p:Nat) (tv:Value) (t:List UInt8) (M:Int) (fx:Option Addr) (n:Nat) (z:Int) (hz:z=n) (h:Rd w B s p tv t M fx) (hg:Glo w) (hB:1 < B) (hn:n<=19) (h3:¬ p+3*n<=8*s.size) :
  Calls Tryz.prog 131 #[.pointer (some ⟨B,0,none⟩),.int .i64 z] w fun e w' => Gave B s tv t M fx 1 w e w':=by
 subst hz
 refine (col_any w B s p tv t M fx n h hg hB hn).mono fun e w' hc => ?_
 unfold Col at hc
 rw [if_neg h3] at hc
 exact hc
theorem col_wt (w:World) (B:Nat) (s:ByteArray) (p:Nat) (tv:Value) (t:List UInt8) (M:Int) (fx:Option Addr) (n:Nat) (z:Int) (hz:z=n) (h:Rd w B s p tv t M fx) (hg:Glo w) (hB:1 < B) (hn:n<=19) (h3:p+3*n<=8*s.size) (h4:¬ wt (clF s p n)=32768) :
  Calls Tryz.prog 131 #[.pointer (some ⟨B,0,none⟩),.int .i64 z] w fun e w' => Gave B s tv t M fx 3 w e w':=by
 subst hz
 refine (col_any w B s p tv t M fx n h hg hB hn).mono fun e w' hc => ?_
 unfold Col at hc
 rw [if_pos h3,if_neg h4] at hc
 exact hc
theorem col_ok (w:World) (B:Nat) (s:ByteArray) (p:Nat) (tv:Value) (t:List UInt8) (M:Int) (fx:Option Addr) (n:Nat) (z:Int) (hz:z=n) (h:Rd w B s p tv t M fx) (hg:Glo w) (hB:1 < B) (hn:n<=19) (h3:p+3*n<=8*s.size) (h4:wt (clF s p n)=32768) :
  Calls Tryz.prog 131 #[.pointer (some ⟨B,0,none⟩),.int .i64 z] w fun e w' => ∃ b,e = .returned (.pointer (some ⟨b,0,none⟩)) /\ Cod w' b (clF s p n) /\ Rd w' B s (p+3*n) tv t M fx /\ Kp 90 B w w':=by
 subst hz
 refine (col_any w B s p tv t M fx n h hg hB hn).mono fun e w' hc => ?_
 unfold Col at hc
 rw [if_pos h3,if_pos h4] at hc
 exact hc
theorem lengths_at (w:World) (B:Nat) (s:ByteArray) (p:Nat) (tv:Value) (t:List UInt8) (M:Int) (fx:Option Addr) (b:Nat) (zc:List Int) (N:Nat) (z:Int) (hz:z=N) (h:Rd w B s p tv t M fx) (hc:Cod w b zc) (hm:zc.length=19) (hN:N<=400) :
  Calls Tryz.prog 130 #[.pointer (some ⟨B,0,none⟩),.pointer (some ⟨b,0,none⟩),.int .i64 z] w fun e w' => Lnd B s tv t M fx (lnF zc s N (N+1) [] p) w e w':=by
 subst hz
 exact lengths_any w B s p tv t M fx b zc N h hc hm hN
theorem seg_take {w:World} {g off:Nat} {l:List Int} (h:∀ j,j < l.length->w.cell? ⟨g,off+j,none⟩=some (.int .i64 (l.getD j 0))) (k:Nat):Seg w (some ⟨g,off,none⟩) (l.take k):=by
 intro _
 refine ⟨g,off,rfl,fun j hj => ?_⟩
 simp at hj
 rw [h j (by omega)]
 simp [List.getD_eq_getElem?_getD,show j < k by omega]
theorem seg_drop {w:World} {g off:Nat} {l:List Int} (h:∀ j,j < l.length->w.cell? ⟨g,off+j,none⟩=some (.int .i64 (l.getD j 0))) (k:Nat):Seg w (some ⟨g,off+k,none⟩) (l.drop k):=by
 intro _
 refine ⟨g,off+k,rfl,fun j hj => ?_⟩
 simp at hj
 rw [Nat.add_assoc,h (k+j) (by omega)]
 simp [List.getD_eq_getElem?_getD,List.getElem?_drop]
theorem any_take {l:List Int} (h:l.any nl=false) (k:Nat):(l.take k).any nl=false:=by
 rw [List.any_eq_false] at h ⊢
 exact fun x hx => h x (List.mem_of_mem_take hx)
theorem any_drop {l:List Int} (h:l.any nl=false) (k:Nat):(l.drop k).any nl=false:=by
 rw [List.any_eq_false] at h ⊢
 exact fun x hx => h x (List.mem_of_mem_drop hx)
theorem own_open {w:World} {base:Nat} {v:Value} {l:List Int} (h:w.ownsRow base 3 1 v l.length (ivs l)) (h0:0 < l.length):∃ g cap,v = .slice (some ⟨g,0,none⟩) l.length cap /\ l.length<=cap /\ cap<=maxLen /\ g < w.heap.size /\ ∀ j,j < l.length->w.cell? ⟨g,0+j,none⟩=some (.int .i64 (l.getD j 0)):=by
 obtain ⟨_,⟨rfl,h1⟩ | ⟨g,cap,cur,rfl,hb,hg,hnc,hcm,hcs,htake⟩⟩:=h
 ·omega
 ·refine ⟨g,cap,rfl,hnc,hcm,(Array.getElem?_eq_some_iff.1 hg).1,fun j hj => ?_⟩
  rw [Nat.zero_add,cell_of_row w g j cur 3 (0,0) hg]
  have h1:(cur.toList.take (l.length*1))[j]? = some (Value.int .i64 (l.getD j 0)):=by rw [htake];simp [hj]
  rw [List.getElem?_take] at h1
  split at h1
  ·simpa using h1
  ·cases h1
theorem cells_below {w w':World} {g:Nat} {l:List Int} (h:∀ j,j < l.length->w.cell? ⟨g,0+j,none⟩=some (.int .i64 (l.getD j 0))) (hb:Below w.heap.size w w') (hg:g < w.heap.size):∀ j,j < l.length->w'.cell? ⟨g,0+j,none⟩=some (.int .i64 (l.getD j 0)) :=
 fun j hj => (hb.cell (p:=⟨g,0+j,none⟩) hg).trans (h j hj)
set_option maxRecDepth 20000 in
set_option maxHeartbeats 1600000 in
theorem own_any (w:World) (B:Nat) (s:ByteArray) (p:Nat) (tv:Value) (t:List UInt8) (M:Int) (fx:Option Addr) (h:Rd w B s p tv t M fx) (hg:Glo w) (hB:1 < B) :
  Calls Tryz.prog 81 #[.pointer (some ⟨B,0,none⟩)] w fun e w' => Owd B s tv t M fx (owF s p) w e w':=by
 have HR:=hid h
 have HG:=hid hg
 clear h hg
 by_cases h5:p+5<=8*s.size
 ·obtain ⟨x1,hx1⟩:∃ x,x=val s p 5:=⟨_,rfl⟩
  have hl1:x1 < 32:=by have:=val_lt s p 5;rw [hx1];exact this
  have HX1:=hid hx1
  by_cases h10:p+5+5<=8*s.size
  ·obtain ⟨x2,hx2⟩:∃ x,x=val s (p+5) 5:=⟨_,rfl⟩
   have hl2:x2 < 32:=by have:=val_lt s (p+5) 5;rw [hx2];exact this
   have HX2:=hid hx2
   by_cases h14:p+5+5+4<=8*s.size
   ·obtain ⟨x3,hx3⟩:∃ x,x=val s (p+5+5) 4:=⟨_,rfl⟩
    have hl3:x3 < 16:=by have:=val_lt s (p+5+5) 4;rw [hx3];exact this
    have HX3:=hid hx3
    have e10:p+5+5=p+10:=by omega
    by_cases hmany:286 < 257+x1 ∨ 30 < 1+x2
    ·have HO:Hid (owF s p = .no 3):=owF_many (by omega) (by rw [<- hx1,<- hx2];exact hmany)
     rw [HO.out]
     clear hx1 hx2 hx3
     rcases (Decidable.em (286 < 257+x1)) with hA | hA
     ·have d1:decide ((286:Int) < 257+(x1:Int))=true:=by simp;omega
      go_enter Tryz.func81,Tryz.ntmps81
      go_wp2_with (first | (go_at_call 43;first | (refine (number_ok _ _ _ _ _ _ _ _ HR2.out 4 (by omega) h14).mono ?_;rintro e w3 ⟨rfl,hr3,hk3⟩;rw [<- HX3.out];have HR3:=hid hr3;clear hr3) | (refine (number_ok _ _ _ _ _ _ _ _ HR1.out 5 (by omega) h10).mono ?_;rintro e w2 ⟨rfl,hr2,hk2⟩;rw [<- HX2.out];have HR2:=hid hr2;clear hr2) | (refine (number_ok _ _ _ _ _ _ _ _ HR.out 5 (by omega) h5).mono ?_;rintro e w1 ⟨rfl,hr1,hk1⟩;rw [<- HX1.out];have HR1:=hid hr1;clear hr1)) | (go_at_call 82;refine (give_any _ _).mono ?_;rintro e w' ⟨rfl,rfl⟩))
      exact ⟨rfl,rfl,⟨_,HR3.out⟩,(hk1.trans hk2).trans hk3⟩
     ·have d1:decide ((286:Int) < 257+(x1:Int))=false:=by simp;omega
      have d2:decide ((30:Int) < 1+(x2:Int))=true:=by simp;omega
      go_enter Tryz.func81,Tryz.ntmps81
      go_wp2_with (first | (go_at_call 43;first | (refine (number_ok _ _ _ _ _ _ _ _ HR2.out 4 (by omega) h14).mono ?_;rintro e w3 ⟨rfl,hr3,hk3⟩;rw [<- HX3.out];have HR3:=hid hr3;clear hr3) | (refine (number_ok _ _ _ _ _ _ _ _ HR1.out 5 (by omega) h10).mono ?_;rintro e w2 ⟨rfl,hr2,hk2⟩;rw [<- HX2.out];have HR2:=hid hr2;clear hr2) | (refine (number_ok _ _ _ _ _ _ _ _ HR.out 5 (by omega) h5).mono ?_;rintro e w1 ⟨rfl,hr1,hk1⟩;rw [<- HX1.out];have HR1:=hid hr1;clear hr1)) | (go_at_call 82;refine (give_any _ _).mono ?_;rintro e w' ⟨rfl,rfl⟩))
      exact ⟨rfl,rfl,⟨_,HR3.out⟩,(hk1.trans hk2).trans hk3⟩
    ·have d1:decide ((286:Int) < 257+(x1:Int))=false:=by simp;omega
     have d2:decide ((30:Int) < 1+(x2:Int))=false:=by simp;omega
     have hmn:¬ (286 < 257+val s p 5 ∨ 30 < 1+val s (p+5) 5):=by rw [<- hx1,<- hx2];exact hmany
     have h14':p+14<=8*s.size:=by omega
     rw [e10] at hx3
     by_cases hcl:p+14+3*(4+x3)<=8*s.size
     ·by_cases hwt:wt (clF s (p+14) (4+x3))=32768
      ·have HO:=owF_rest h14' hmn (by rw [<- hx3];exact hcl) (by rw [<- hx3];exact hwt)
       rw [<- hx1,<- hx2,<- hx3] at HO
       have HO:=hid HO
       obtain ⟨zc,hzc⟩:∃ zc,zc=clF s (p+14) (4+x3):=⟨_,rfl⟩
       have hz19:zc.length=19:=by rw [hzc];exact clF_length _ _ _
       have HZC:=hid hzc
       have HZ19:=hid hz19
       have HWT:=hid hwt
       rw [<- hzc] at HO
       clear hx1 hx2 hx3 hwt hzc hz19 hmn
       cases hln:lnF zc s (257+x1+(1+x2)) (257+x1+(1+x2)+1) [] (p+14+3*(4+x3)) with
       | no e7 =>
        rw [hln] at HO
        have HLN:=hid hln
        rw [HO.out]
        clear hln
        go_enter Tryz.func81,Tryz.ntmps81
        go_wp2_with (first | (go_at_call 43;first | (refine (number_ok _ _ _ _ _ _ _ _ HR2.out 4 (by omega) h14).mono ?_;rintro e w3 ⟨rfl,hr3,hk3⟩;rw [<- HX3.out];rw [show p+5+5+4=p+14 by omega] at hr3;have HR3:=hid hr3;clear hr3) | (refine (number_ok _ _ _ _ _ _ _ _ HR1.out 5 (by omega) h10).mono ?_;rintro e w2 ⟨rfl,hr2,hk2⟩;rw [<- HX2.out];have HR2:=hid hr2;clear hr2) | (refine (number_ok _ _ _ _ _ _ _ _ HR.out 5 (by omega) h5).mono ?_;rintro e w1 ⟨rfl,hr1,hk1⟩;rw [<- HX1.out];have HR1:=hid hr1;clear hr1)) | (go_at_call 131;refine (col_ok _ B s (p+14) tv t M fx (4+x3) _ (by omega) HR3.out (((HG.out.kp hk1 hB).kp hk2 hB).kp hk3 hB) hB (by omega) hcl HWT.out).mono ?_;rintro e w4 ⟨b4,rfl,hcod4,hr4,hk4⟩;rw [<- HZC.out] at hcod4;have HR4:=hid hr4;have HC4:=hid hcod4;clear hr4 hcod4) | (go_at_call 130;refine (lengths_at _ B s _ tv t M fx b4 zc (257+x1+(1+x2)) _ (by omega) HR4.out HC4.out HZ19.out (by omega)).mono ?_;rw [HLN.out];rintro e w5 ⟨rfl,hr5,hk5⟩))
        exact ⟨rfl,rfl,hr5,(((hk1.trans hk2).trans hk3).trans hk4).trans hk5⟩
       | ok l q =>
        rw [hln] at HO
        have HLN:=hid hln
        have hlo:=lnF_ok hln (by simp) (by simp) rfl hcl
        obtain ⟨hl1',hl2',hl3',hl4'⟩:=hlo
        have HLL:=hid hl1'
        have HLA:=hid hl2'
        clear hln hl1' hl2'
        obtain ⟨R,hR⟩:∃ R,R=owF s p:=⟨_,rfl⟩
        rw [<- hR]
        have HRR:=hid hR
        clear hR
        go_enter Tryz.func81,Tryz.ntmps81
        go_wp2_with (first | (go_at_call 43;first | (refine (number_ok _ _ _ _ _ _ _ _ HR2.out 4 (by omega) h14).mono ?_;rintro e w3 ⟨rfl,hr3,hk3⟩;rw [<- HX3.out];rw [show p+5+5+4=p+14 by omega] at hr3;have HR3:=hid hr3;clear hr3) | (refine (number_ok _ _ _ _ _ _ _ _ HR1.out 5 (by omega) h10).mono ?_;rintro e w2 ⟨rfl,hr2,hk2⟩;rw [<- HX2.out];have HR2:=hid hr2;clear hr2) | (refine (number_ok _ _ _ _ _ _ _ _ HR.out 5 (by omega) h5).mono ?_;rintro e w1 ⟨rfl,hr1,hk1⟩;rw [<- HX1.out];have HR1:=hid hr1;clear hr1)) | (go_at_call 131;refine (col_ok _ B s (p+14) tv t M fx (4+x3) _ (by omega) HR3.out (((HG.out.kp hk1 hB).kp hk2 hB).kp hk3 hB) hB (by omega) hcl HWT.out).mono ?_;rintro e w4 ⟨b4,rfl,hcod4,hr4,hk4⟩;rw [<- HZC.out] at hcod4;have HR4:=hid hr4;have HC4:=hid hcod4;clear hr4 hcod4) | (go_at_call 130;refine (lengths_at _ B s _ tv t M fx b4 zc (257+x1+(1+x2)) _ (by omega) HR4.out HC4.out HZ19.out (by omega)).mono ?_;rw [HLN.out];rintro e w5 ⟨v5,rfl,hown5,hr5,hk5⟩;obtain ⟨g,cap,rfl,hnc,hcm,hgs,hcl5⟩:=own_open hown5 (by rw [HLL.out];omega);rw [HLL.out] at hnc;have HR5:=hid hr5;have HCL5:=hid hcl5;clear hr5 hcl5 hown5;rw [HLL.out]))
        have hkk:Kp 90 B w w5:=(((hk1.trans hk2).trans hk3).trans hk4).trans hk5
        clear hk1 hk2 hk3 hk4 hk5 HR1 HR2 HR3 HR4 HC4 e10
        unfold maxLen at hcm
        have s0:(0:Int)<=257+(x1:Int):=by omega
        have s1:257+(x1:Int)<=(cap:Int):=by omega
        have s2:257+(x1:Int)<=((257+x1+(1+x2):Nat):Int):=by omega
        have s3:(257+(x1:Int)).toNat=257+x1:=by omega
        have HF1:Hid True:=trivial
        go_region_with (first | (go_at_call 129;have hflag:=HF1;go_must (refine (new_at (some ⟨g,0,none⟩) (257+x1) _ (l.take (257+x1)) _ (by rw [List.length_take,HLL.out];omega) (by exact seg_take (w:=w5.drew) HCL5.out _) (by omega) (any_take HLA.out _)).mono ?_;rintro e w6 ⟨b6,rfl,hb6',hc6,hb6⟩;have HC6:=hid hc6;clear hc6 HF1 hflag)) | (go_at_call 129;go_must (refine (new_at (some ⟨g,257+x1,none⟩) (1+x2) _ (l.drop (257+x1)) _ (by rw [List.length_drop,HLL.out];omega) (by have hsg:=seg_drop (cells_below (w:=w5.drew) HCL5.out hb6 hgs) (257+x1);rw [Nat.zero_add] at hsg;exact hsg) (by omega) (any_drop HLA.out _)).mono ?_;rintro e w7 ⟨b7,rfl,hb7',hc7,hb7⟩;have HC7:=hid hc7;clear hc7)))
        all_goals
         have hbb:Below w5.heap.size w5 w7:=((Below.refl _ _).drew).trans ((hb6.mono (Nat.le_refl _)).trans (hb7.mono hb6.size))
         have hzz:=hbb.size
         have HR7:=hid (HR5.out.below hbb)
         have HCL7:=hid (cells_below HCL5.out hbb hgs)
         have HC6':=hid (HC6.out.below hb7)
         have hk7:Kp 90 B w w7:=hkk.trans (Kp.ofBelow hbb (Nat.le_of_lt HR5.out.lt))
         have HCDS:Hid (Cds (w7.alloc (.cells #[.pointer (some ⟨b6,0,none⟩),.pointer (some ⟨b7,0,none⟩)] 187)) w7.heap.size (l.take (257+x1)) (l.drop (257+x1))):=⟨b6,b7,heap_alloc_new w7 _,HC6'.out.below ((Below.refl _ _).alloc (Nat.le_refl _) _),HC7.out.below ((Below.refl _ _).alloc (Nat.le_refl _) _)⟩
         have HRA:=hid (HR7.out.alloc (.cells #[.pointer (some ⟨b6,0,none⟩),.pointer (some ⟨b7,0,none⟩)] 187))
         have HKA:=hid (hk7.alloc (Nat.le_of_lt HR7.out.lt) (.cells #[.pointer (some ⟨b6,0,none⟩),.pointer (some ⟨b7,0,none⟩)] 187))
         have HML:=hid (mayL_any _ b6 _ (HC6'.out.below ((Below.refl _ _).alloc (Nat.le_refl _) (.cells #[.pointer (some ⟨b6,0,none⟩),.pointer (some ⟨b7,0,none⟩)] 187))))
         have HMS:=hid (mayS_any _ b7 _ (HC7.out.below ((Below.refl _ _).alloc (Nat.le_refl _) (.cells #[.pointer (some ⟨b6,0,none⟩),.pointer (some ⟨b7,0,none⟩)] 187))))
         obtain ⟨z,hz⟩:∃ z,z=l.getD 256 0:=⟨_,rfl⟩
         have cz:w7.cell? ⟨g,256,none⟩=some (.int .i64 z):=by rw [hz];have:=HCL7.out 256 (by rw [HLL.out];omega);rw [Nat.zero_add] at this;exact this
         have hg7:g < w7.heap.size:=by omega
         obtain ⟨ml,hml⟩:∃ ml,ml=mayL (l.take (257+x1)):=⟨_,rfl⟩
         obtain ⟨ms,hms⟩:∃ ms,ms=mayS (l.drop (257+x1)):=⟨_,rfl⟩
         have HO2:R=if z ≠ 0 /\ ml=true /\ ms=true then .ok (l.take (257+x1)) (l.drop (257+x1)) q else .no 3:=by rw [hz,hml,hms];exact HRR.out.trans HO.out
         rw [<- hml] at HML
         rw [<- hms] at HMS
         have HO3:=hid HO2
         clear hz hml hms HO2 hbb hb6 hb7 hb6' hb7' hkk hk7
         by_cases hz0:z=0
         ·have HN:Hid (R = .no 3):=by show _=_;rw [HO3.out,if_neg (by simp [hz0])]
          have bz:(z == 0)=true:=beq_iff_eq.2 hz0
          clear hz0
          go_wp2_with (go_at_call 82;refine (give_any _ _).mono ?_;rintro e w' ⟨rfl,rfl⟩)
          rw [HN.out]
          exact ⟨rfl,rfl,⟨_,HRA.out⟩,HKA.out⟩
         ·have bz:(z == 0)=false:=beq_eq_false_iff_ne.2 hz0
          have HZ0:=hid hz0
          clear hz0
          cases ml
          ·have HN:Hid (R = .no 3):=by show _=_;rw [HO3.out,if_neg (by simp)]
           go_wp2_with (first | (go_at_call 132;refine HML.out.mono ?_;rintro e w' ⟨rfl,rfl⟩) | (go_at_call 82;refine (give_any _ _).mono ?_;rintro e w' ⟨rfl,rfl⟩))
           rw [HN.out]
           exact ⟨rfl,rfl,⟨_,HRA.out⟩,HKA.out⟩
          ·cases ms
           ·have HN:Hid (R = .no 3):=by show _=_;rw [HO3.out,if_neg (by simp)]
            go_wp2_with (first | (go_at_call 132;refine HML.out.mono ?_;rintro e w' ⟨rfl,rfl⟩) | (go_at_call 133;refine HMS.out.mono ?_;rintro e w' ⟨rfl,rfl⟩) | (go_at_call 82;refine (give_any _ _).mono ?_;rintro e w' ⟨rfl,rfl⟩))
            rw [HN.out]
            exact ⟨rfl,rfl,⟨_,HRA.out⟩,HKA.out⟩
           ·have HN:Hid (R = .ok (l.take (257+x1)) (l.drop (257+x1)) q):=by show _=_;rw [HO3.out,if_pos ⟨HZ0.out,rfl,rfl⟩]
            go_wp2_with (first | (go_at_call 132;refine HML.out.mono ?_;rintro e w' ⟨rfl,rfl⟩) | (go_at_call 133;refine HMS.out.mono ?_;rintro e w' ⟨rfl,rfl⟩))
            go_ret
            rw [HN.out]
            exact ⟨_,rfl,HCDS.out,HRA.out,HKA.out⟩
      ·have HO:Hid (owF s p = .no 3):=owF_wt h14' hmn (by rw [<- hx3];exact hcl) (by rw [<- hx3];exact hwt)
       rw [HO.out]
       have HWT:=hid hwt
       clear hx1 hx2 hx3 hwt
       go_enter Tryz.func81,Tryz.ntmps81
       go_wp2_with (first | (go_at_call 43;first | (refine (number_ok _ _ _ _ _ _ _ _ HR2.out 4 (by omega) h14).mono ?_;rintro e w3 ⟨rfl,hr3,hk3⟩;rw [<- HX3.out];rw [show p+5+5+4=p+14 by omega] at hr3;have HR3:=hid hr3;clear hr3) | (refine (number_ok _ _ _ _ _ _ _ _ HR1.out 5 (by omega) h10).mono ?_;rintro e w2 ⟨rfl,hr2,hk2⟩;rw [<- HX2.out];have HR2:=hid hr2;clear hr2) | (refine (number_ok _ _ _ _ _ _ _ _ HR.out 5 (by omega) h5).mono ?_;rintro e w1 ⟨rfl,hr1,hk1⟩;rw [<- HX1.out];have HR1:=hid hr1;clear hr1)) | (go_at_call 131;refine (col_wt _ B s (p+14) tv t M fx (4+x3) _ (by omega) HR3.out (((HG.out.kp hk1 hB).kp hk2 hB).kp hk3 hB) hB (by omega) hcl HWT.out).mono ?_;rintro e w4 ⟨rfl,hr4,hk4⟩))
       exact ⟨rfl,rfl,hr4,((hk1.trans hk2).trans hk3).trans hk4⟩
     ·have HO:Hid (owF s p = .no 1):=owF_col h14' hmn (by rw [<- hx3];exact hcl)
      rw [HO.out]
      clear hx1 hx2 hx3
      go_enter Tryz.func81,Tryz.ntmps81
      go_wp2_with (first | (go_at_call 43;first | (refine (number_ok _ _ _ _ _ _ _ _ HR2.out 4 (by omega) h14).mono ?_;rintro e w3 ⟨rfl,hr3,hk3⟩;rw [<- HX3.out];rw [show p+5+5+4=p+14 by omega] at hr3;have HR3:=hid hr3;clear hr3) | (refine (number_ok _ _ _ _ _ _ _ _ HR1.out 5 (by omega) h10).mono ?_;rintro e w2 ⟨rfl,hr2,hk2⟩;rw [<- HX2.out];have HR2:=hid hr2;clear hr2) | (refine (number_ok _ _ _ _ _ _ _ _ HR.out 5 (by omega) h5).mono ?_;rintro e w1 ⟨rfl,hr1,hk1⟩;rw [<- HX1.out];have HR1:=hid hr1;clear hr1)) | (go_at_call 131;refine (col_end _ B s (p+14) tv t M fx (4+x3) _ (by omega) HR3.out (((HG.out.kp hk1 hB).kp hk2 hB).kp hk3 hB) hB (by omega) hcl).mono ?_;rintro e w4 ⟨rfl,hr4,hk4⟩))
      exact ⟨rfl,rfl,hr4,((hk1.trans hk2).trans hk3).trans hk4⟩
   ·rw [owF_end (by omega)]
    clear hx1 hx2
    go_enter Tryz.func81,Tryz.ntmps81
    go_wp2_with (first | (go_at_call 43;first | (refine (number_no _ _ _ _ _ _ _ _ HR2.out 4 (by omega) h14).mono ?_;rintro e w3 ⟨rfl,hr3,hk3⟩) | (refine (number_ok _ _ _ _ _ _ _ _ HR1.out 5 (by omega) h10).mono ?_;rintro e w2 ⟨rfl,hr2,hk2⟩;rw [<- HX2.out];have HR2:=hid hr2;clear hr2) | (refine (number_ok _ _ _ _ _ _ _ _ HR.out 5 (by omega) h5).mono ?_;rintro e w1 ⟨rfl,hr1,hk1⟩;rw [<- HX1.out];have HR1:=hid hr1;clear hr1)))
    exact ⟨rfl,rfl,hr3,(hk1.trans hk2).trans hk3⟩
  ·rw [owF_end (by omega)]
   clear hx1
   go_enter Tryz.func81,Tryz.ntmps81
   go_wp2_with (first | (go_at_call 43;first | (refine (number_no _ _ _ _ _ _ _ _ HR1.out 5 (by omega) h10).mono ?_;rintro e w2 ⟨rfl,hr2,hk2⟩) | (refine (number_ok _ _ _ _ _ _ _ _ HR.out 5 (by omega) h5).mono ?_;rintro e w1 ⟨rfl,hr1,hk1⟩;rw [<- HX1.out];have HR1:=hid hr1;clear hr1)))
   exact ⟨rfl,rfl,hr2,hk1.trans hk2⟩
 ·rw [owF_end (by omega)]
  go_enter Tryz.func81,Tryz.ntmps81
  go_wp2_with (first | (go_at_call 43;refine (number_no _ _ _ _ _ _ _ _ HR.out 5 (by omega) h5).mono ?_;rintro e w1 ⟨rfl,hr1,hk1⟩))
  exact ⟨rfl,rfl,hr1,hk1⟩
end Go.Proofs.YthdmjmnkhlpnnabGreatDoor
namespace Go.Proofs.YthdmjmnkhlpnnabGreatDoor
open Go.RowKit
def FxOk (w:World) (fx:Option Addr):Prop:=fx=none ∨ ∃ F,fx=some ⟨F,0,none⟩ /\ Cds w F zfa zfb
theorem FxOk.kp {X:TypeId} {B:Nat} {w w':World} {fx:Option Addr} (h:FxOk w fx) (hk:Kp X B w w') (hX:X=90 ∨ X=143):FxOk w' fx:=by
 rcases h with h | ⟨F,h1,h2⟩
 ·exact .inl h
 ·exact .inr ⟨F,h1,h2.kp hk hX⟩
theorem Cds.below {w w':World} {b:Nat} {za zb:List Int} (h:Cds w b za zb) (hb:Below w.heap.size w w'):Cds w' b za zb:=by
 obtain ⟨x,y,h1,h2,h3⟩:=h
 exact ⟨x,y,(hb.block b (Array.getElem?_eq_some_iff.1 h1).1).trans h1,h2.below hb,h3.below hb⟩
set_option maxRecDepth 20000 in
set_option maxHeartbeats 1600000 in
theorem fixed_any (w:World) (B:Nat) (s:ByteArray) (p:Nat) (tv:Value) (t:List UInt8) (M:Int) (fx:Option Addr) (h:Rd w B s p tv t M fx) (hf:FxOk w fx) :
  Calls Tryz.prog 80 #[.pointer (some ⟨B,0,none⟩)] w fun e w' => ∃ F,e = .returned (.pointer (some ⟨F,0,none⟩)) /\ Cds w' F zfa zfb /\ Rd w' B s p tv t M (some ⟨F,0,none⟩) /\ Kp 90 B w w':=by
 obtain ⟨-,-,-,-,-,c5⟩:=h.cell
 have f5:=h.free 5
 have HR:=hid h
 have hlt:=h.lt
 clear h
 rcases hf with rfl | ⟨F,rfl,hc⟩
 ·have HFL:=hid (fixedLetters_any w)
  have HFS:=hid (fun u => fixedSteps_any u)
  go_enter Tryz.func80,Tryz.ntmps80
  go_wp2_with (first
    | (go_at_call 112;refine HFL.out.mono ?_;rintro e w1 ⟨v1,rfl,ho1,hb1⟩;obtain ⟨ao,c,rfl,hseg1⟩:=owns_seg ho1;rw [zfa_length];have HB1:=hid hb1;have HS1:=hid hseg1;clear ho1 hseg1 hb1)
    | (go_at_call 113;refine (HFS.out _).mono ?_;rintro e w3 ⟨g3,rfl,hg3,r3,hb3⟩;have HR3:=hid r3;have HB3:=hid hb3;clear r3 hb3)
    | (go_at_call 129;have f3:=HR3;refine (new_at (some ⟨g3,0,none⟩) 32 _ zfb _ zfb_length (by exact HR3.out.seg) (by omega) zfb_ok).mono ?_;rintro e w4 ⟨b4,rfl,hg4,hc4,hb4⟩;have HC4:=hid hc4;have HB4:=hid hb4;clear hc4 hb4 f3;have hb14:Below w.heap.size w w4:=((HB1.out.trans (HB2.out.mono HB1.out.size)).trans (HB3.out.mono (Nat.le_trans HB1.out.size HB2.out.size))).trans (HB4.out.mono (Nat.le_trans (Nat.le_trans HB1.out.size HB2.out.size) HB3.out.size));have m5:w4.cell? ⟨B,5,none⟩=some (.pointer none):=(hb14.cell (p:=⟨B,5,none⟩) hlt).trans c5;have m6:w4.frozen? ⟨B,5,none⟩=false:=(hb14.frozen (p:=⟨B,5,none⟩) hlt).trans f5;have z4:B < w4.heap.size:=Nat.lt_of_lt_of_le hlt hb14.size;have HB14:=hid hb14;clear hb14)
    | (go_at_call 129;refine (new_at ao 288 _ zfa _ zfa_length (by exact HS1.out) (by omega) zfa_ok).mono ?_;rintro e w2 ⟨b2,rfl,hg2,hc2,hb2⟩;have HC2:=hid hc2;have HB2:=hid hb2;clear hc2 hb2))
  go_ret
  have R4:=HR.out.below HB14.out
  obtain ⟨W,hW⟩:∃ W,W=w4.setCell ⟨B,5,none⟩ (.pointer (some ⟨w4.heap.size,0,none⟩)):=⟨_,rfl⟩
  have hsz:W.heap.size=w4.heap.size:=by rw [hW];simp [World.setCell]
  have RW:Rd W B s p tv t M (some ⟨w4.heap.size,0,none⟩):=by
   rw [hW]
   exact ⟨by rw [blk_set R4.blk];rfl,own_set R4.own rfl _,R4.sml,R4.fit,R4.len,R4.rom⟩
  have hkW:Kp 90 B w4 W:=by rw [hW];exact (Kp.refl 90 B w4).setCell R4.blk rfl _
  have C2:=((HC2.out.below HB3.out).below HB4.out).kp hkW (.inl rfl)
  have C4:=HC4.out.kp hkW (.inl rfl)
  rw [<- hW]
  obtain ⟨o,ho⟩:∃ o:Obj,o=Obj.cells #[.pointer (some ⟨b2,0,none⟩),.pointer (some ⟨b4,0,none⟩)] 187:=⟨_,rfl⟩
  have hba:Below W.heap.size W (W.alloc o):=(Below.refl _ _).alloc (Nat.le_refl _) o
  have hnew:=heap_alloc_new W o
  rw [hsz] at hnew
  have hk1:Kp 90 B w w4:=Kp.ofBelow HB14.out (Nat.le_of_lt hlt)
  rw [<- ho]
  refine ⟨w4.heap.size,rfl,⟨b2,b4,?_,C2.below hba,C4.below hba⟩,RW.alloc o,(hk1.trans hkW).alloc (Nat.le_of_lt RW.lt) o⟩
  rw [hnew,ho]
 ·have HC:=hid hc
  clear hc
  go_enter Tryz.func80,Tryz.ntmps80
  go_wp2
  go_ret
  exact ⟨F,rfl,HC.out,HR.out,Kp.refl _ _ _⟩
end Go.Proofs.YthdmjmnkhlpnnabGreatDoor
namespace Go.Proofs.YthdmjmnkhlpnnabGreatDoor
open Go.RowKit
theorem owF_len {s:ByteArray} {p:Nat} {za zb:List Int} {q:Nat} (h:owF s p = .ok za zb q):za.length<=320 /\ zb.length<=320 /\ p < q /\ q<=8*s.size:=by
 unfold owF at h
 split at h
 ·split at h
  ·simp at h
  ·rename_i hmany
   split at h
   ·split at h
    ·split at h
     ·simp at h
     ·rename_i l r hln
      have hl:=lnF_ok hln (by simp) (by simp) rfl (by assumption)
      split at h
      ·injection h with h1 h2 h3
       subst h1 h2 h3
       simp only [List.length_take,List.length_drop]
       omega
      ·simp at h
    ·simp at h
   ·simp at h
 ·simp at h
theorem rawF_end {M:Int} {s:ByteArray} {n a:Nat} {t t':List UInt8} {q:Nat} (h:rawF M s n a t = .ok q t') (ha:a<=s.size):8*a<=q /\ q<=8*s.size:=by
 induction n generalizing a t with
 | zero => simp [rawF] at h;omega
 | succ n ih =>
  rw [rawF] at h
  split at h
  ·split at h
   ·have:=ih h (by omega);omega
   ·simp at h
  ·simp at h
theorem ltF_stop {M:Int} {za zb:List Int} {s:ByteArray} {f p:Nat} {t t':List UInt8} {q:Nat} (h:ltF M za zb s f p t = .ok q t') (hp:p<=8*s.size):p<=q /\ q<=8*s.size:=by
 induction f generalizing p t with
 | zero => simp [ltF] at h;omega
 | succ f ih =>
  rw [ltF] at h
  split at h
  ·simp at h
  ·rename_i v r hs
   have hv:=sym_ok hs
   split at h
   ·split at h
    ·have:=ih h (by omega);omega
    ·simp at h
   ·split at h
    ·injection h with h1 h2;omega
    ·split at h
     ·split at h
      ·split at h
       ·rename_i p' t'' ha
        have:=agF_end ha
        have:=ih h (by omega)
        omega
       ·simp at h
      ·simp at h
     ·simp at h
theorem bkF_end {M:Int} {s:ByteArray} {k p:Nat} {t t':List UInt8} {q:Nat} (h:bkF M s k p t = .ok q t') (hp:p<=8*s.size):p<=q /\ q<=8*s.size:=by
 unfold bkF at h
 split at h
 ·unfold asF at h
  split at h
  ·split at h
   ·have:=rawF_end h (by omega);omega
   ·simp at h
  ·simp at h
 ·split at h
  ·exact ltF_stop h hp
  ·split at h
   ·split at h
    ·simp at h
    ·rename_i za zb r ho
     have:=owF_len ho
     have:=ltF_stop h (by omega)
     omega
   ·simp at h
theorem blF_end {M:Int} {s:ByteArray} {f p:Nat} {t:List UInt8} (h:¬ p+3<=8*s.size):blF M s (f+1) p t = .no 1 t:=by rw [blF,if_neg h]
theorem blF_no {M:Int} {s:ByteArray} {f p:Nat} {t t':List UInt8} {e:Nat} (h:p+3<=8*s.size) (hb:bkF M s (val s (p+1) 2) (p+3) t = .no e t'):blF M s (f+1) p t = .no e t':=by rw [blF,if_pos h,hb]
theorem blF_ok {M:Int} {s:ByteArray} {f p:Nat} {t t':List UInt8} {q:Nat} (h:p+3<=8*s.size) (hb:bkF M s (val s (p+1) 2) (p+3) t = .ok q t'):blF M s (f+1) p t=if bitAt s p=1 then .ok q t' else blF M s f q t':=by rw [blF,if_pos h,hb]
theorem val_one (s:ByteArray) (p:Nat):val s p 1=bitAt s p:=by simp [val]
end Go.Proofs.YthdmjmnkhlpnnabGreatDoor
namespace Go.Proofs.YthdmjmnkhlpnnabGreatDoor
open Go.RowKit
def Dix (B:Nat) (s:ByteArray) (M:Int) (r:Tx) (w:World) (e:Ending) (w':World):Prop :=
 match r with
 | .ok p t => e = .returned (.tuple #[]) /\ (∃ tv fx,Rd w' B s p tv t M fx /\ FxOk w' fx) /\ Kp 90 B w w'
 | .no k t => e=gone k /\ (∃ p' tv fx,Rd w' B s p' tv t M fx) /\ Kp 90 B w w'
theorem Did.dix {B:Nat} {s:ByteArray} {M:Int} {fx:Option Addr} {r:Tx} {w0 w:World} {e:Ending} {w':World} (h:Did B s M fx r w e w') (hf:FxOk w fx) (hk:Kp 90 B w0 w):Dix B s M r w0 e w':=by
 cases r with
 | ok p t => obtain ⟨h1,⟨tv,h2⟩,h3⟩:=h;exact ⟨h1,⟨tv,fx,h2,hf.kp h3 (.inl rfl)⟩,hk.trans h3⟩
 | no k t => obtain ⟨h1,⟨p',tv,h2⟩,h3⟩:=h;exact ⟨h1,⟨p',tv,fx,h2⟩,hk.trans h3⟩
set_option maxRecDepth 20000 in
set_option maxHeartbeats 1600000 in
theorem block_any (w:World) (B:Nat) (s:ByteArray) (p:Nat) (tv:Value) (t:List UInt8) (M:Int) (fx:Option Addr) (k:Nat) (h:Rd w B s p tv t M fx) (hf:FxOk w fx) (hg:Glo w) (hB:1 < B) :
  Calls Tryz.prog 44 #[.pointer (some ⟨B,0,none⟩),.int .i64 k] w fun e w' => Dix B s M (bkF M s k p t) w e w':=by
 have HR:=hid h
 have HF:=hid hf
 have HG:=hid hg
 clear h hf hg
 by_cases k0:k=0
 ·subst k0
  have HA:=hid (asItIs_any w B s p tv t M fx HR.out)
  rw [show bkF M s 0 p t=asF M s p t from rfl]
  have HD:Hid (∀ e w',Did B s M fx (asF M s p t) w e w'->Dix B s M (asF M s p t) w e w'):=fun e w' h => h.dix HF.out (Kp.refl _ _ _)
  obtain ⟨r,hr⟩:∃ r,r=asF M s p t:=⟨_,rfl⟩
  rw [<- hr] at HA HD ⊢
  clear hr
  cases r with
  | ok q u =>
   go_enter Tryz.func44,Tryz.ntmps44
   go_wp2_with (go_at_call 78;refine HA.out.mono ?_;intro e w' hd;obtain ⟨rfl,hx⟩:e = .returned (.tuple #[]) /\ Did B s M fx (.ok q u) w e w':=⟨hd.1,hd⟩;have HX:=hid (HD.out _ _ hx);clear hd hx)
   first | go_end0 | refine bodyPost_ret (results_none rfl _ _ _) rfl ?_
   exact HX.out
  | no e1 u =>
   go_enter Tryz.func44,Tryz.ntmps44
   go_wp2_with (go_at_call 78;refine HA.out.mono ?_;intro e w' hd;obtain ⟨rfl,hx⟩:e=gone e1 /\ Did B s M fx (.no e1 u) w e w':=⟨hd.1,hd⟩;have HX:=hid (HD.out _ _ hx);clear hd hx)
   exact ⟨rfl,HX.out⟩
 ·have b0:((k:Int) == 0)=false:=beq_eq_false_iff_ne.2 (by omega)
  by_cases k1:k=1
  ·subst k1
   have HFX:=hid (fixed_any w B s p tv t M fx HR.out HF.out)
   rw [show bkF M s 1 p t=ltF M zfa zfb s (8*s.size+1) p t from rfl]
   obtain ⟨r,hr⟩:∃ r,r=ltF M zfa zfb s (8*s.size+1) p t:=⟨_,rfl⟩
   rw [<- hr]
   have HRr:=hid hr
   clear hr
   cases r with
   | ok q9 u9 =>
    go_enter Tryz.func44,Tryz.ntmps44
    go_wp2_with (first | (go_at_call 80;refine HFX.out.mono ?_;rintro e w1 ⟨F,rfl,hc1,hr1,hk1⟩;have HC1:=hid hc1;have HR1:=hid hr1;clear hc1 hr1) | (go_at_call 79;refine (letters_any w1 B s p tv t M (some ⟨F,0,none⟩) F zfa zfb HR1.out HC1.out (by rw [zfa_length];omega) (by rw [zfb_length];omega)).mono ?_;intro e w' hd;rw [<- HRr.out] at hd;obtain ⟨rfl,hx⟩:e = .returned (.tuple #[]) /\ Did B s M (some ⟨F,0,none⟩) (.ok q9 u9) w1 e w':=⟨hd.1,hd⟩;have HX:=hid (hx.dix (.inr ⟨F,rfl,HC1.out⟩) hk1);clear hd hx))
    first | go_end0 | refine bodyPost_ret (results_none rfl _ _ _) rfl ?_
    exact HX.out
   | no e9 u9 =>
    go_enter Tryz.func44,Tryz.ntmps44
    go_wp2_with (first | (go_at_call 80;refine HFX.out.mono ?_;rintro e w1 ⟨F,rfl,hc1,hr1,hk1⟩;have HC1:=hid hc1;have HR1:=hid hr1;clear hc1 hr1) | (go_at_call 79;refine (letters_any w1 B s p tv t M (some ⟨F,0,none⟩) F zfa zfb HR1.out HC1.out (by rw [zfa_length];omega) (by rw [zfb_length];omega)).mono ?_;intro e w' hd;rw [<- HRr.out] at hd;obtain ⟨rfl,hx⟩:e=gone e9 /\ Did B s M (some ⟨F,0,none⟩) (.no e9 u9) w1 e w':=⟨hd.1,hd⟩;have HX:=hid (hx.dix (.inr ⟨F,rfl,HC1.out⟩) hk1);clear hd hx))
    exact ⟨rfl,HX.out⟩
  ·have b1:((k:Int) == 1)=false:=beq_eq_false_iff_ne.2 (by omega)
   by_cases k2:k=2
   ·subst k2
    have HOW:=hid (own_any w B s p tv t M fx HR.out HG.out hB)
    cases ho:owF s p with
    | no e7 =>
     rw [ho] at HOW
     have HK:Hid (bkF M s 2 p t = .no e7 t):=by show _=_;unfold bkF;rw [if_neg (by omega),if_neg (by omega),if_pos rfl,ho]
     rw [HK.out]
     clear ho
     go_enter Tryz.func44,Tryz.ntmps44
     go_wp2_with (go_at_call 81;refine HOW.out.mono ?_;rintro e w1 ⟨rfl,⟨p1,hr1⟩,hk1⟩)
     exact ⟨rfl,rfl,⟨p1,tv,fx,hr1⟩,hk1⟩
    | ok za zb q =>
     rw [ho] at HOW
     have hln:=owF_len ho
     have HK:Hid (bkF M s 2 p t=ltF M za zb s (8*s.size+1) q t):=by show _=_;unfold bkF;rw [if_neg (by omega),if_neg (by omega),if_pos rfl,ho]
     rw [HK.out]
     obtain ⟨r,hr⟩:∃ r,r=ltF M za zb s (8*s.size+1) q t:=⟨_,rfl⟩
     rw [<- hr]
     have HRr:=hid hr
     clear hr ho
     cases r with
     | ok q9 u9 =>
      go_enter Tryz.func44,Tryz.ntmps44
      go_wp2_with (first | (go_at_call 81;refine HOW.out.mono ?_;rintro e w1 ⟨F,rfl,hc1,hr1,hk1⟩;have HC1:=hid hc1;have HR1:=hid hr1;clear hc1 hr1) | (go_at_call 79;refine (letters_any w1 B s q tv t M fx F za zb HR1.out HC1.out hln.1 hln.2.1).mono ?_;intro e w' hd;rw [<- HRr.out] at hd;obtain ⟨rfl,hx⟩:e = .returned (.tuple #[]) /\ Did B s M fx (.ok q9 u9) w1 e w':=⟨hd.1,hd⟩;have HX:=hid (hx.dix (HF.out.kp hk1 (.inl rfl)) hk1);clear hd hx))
      first | go_end0 | refine bodyPost_ret (results_none rfl _ _ _) rfl ?_
      exact HX.out
     | no e9 u9 =>
      go_enter Tryz.func44,Tryz.ntmps44
      go_wp2_with (first | (go_at_call 81;refine HOW.out.mono ?_;rintro e w1 ⟨F,rfl,hc1,hr1,hk1⟩;have HC1:=hid hc1;have HR1:=hid hr1;clear hc1 hr1) | (go_at_call 79;refine (letters_any w1 B s q tv t M fx F za zb HR1.out HC1.out hln.1 hln.2.1).mono ?_;intro e w' hd;rw [<- HRr.out] at hd;obtain ⟨rfl,hx⟩:e=gone e9 /\ Did B s M fx (.no e9 u9) w1 e w':=⟨hd.1,hd⟩;have HX:=hid (hx.dix (HF.out.kp hk1 (.inl rfl)) hk1);clear hd hx))
      exact ⟨rfl,HX.out⟩
   ·have b2:((k:Int) == 2)=false:=beq_eq_false_iff_ne.2 (by omega)
    have HK:Hid (bkF M s k p t = .no 2 t):=by show _=_;unfold bkF;rw [if_neg k0,if_neg k1,if_neg k2]
    rw [HK.out]
    go_enter Tryz.func44,Tryz.ntmps44
    go_wp2_with (go_at_call 82;refine (give_any _ _).mono ?_;rintro e w' ⟨rfl,rfl⟩)
    exact ⟨rfl,rfl,⟨p,tv,fx,HR.out⟩,Kp.refl _ _ _⟩
set_option maxRecDepth 20000 in
set_option maxHeartbeats 1600000 in
theorem blocks_any (w:World) (B:Nat) (s:ByteArray) (M:Int) (fx:Option Addr) (tv:Value) (h:Rd w B s 0 tv [] M fx) (hf:FxOk w fx) (hg:Glo w) (hB:1 < B) :
  Calls Tryz.prog 23 #[.pointer (some ⟨B,0,none⟩)] w fun e w' => Dix B s M (inF s M) w e w':=by
 have HR:=hid h
 have HF:=hid hf
 have HG:=hid hg
 clear h hf hg
 obtain ⟨L,hL⟩:∃ L,L=inF s M:=⟨_,rfl⟩
 rw [<- hL]
 have HL0:=hid hL
 clear hL
 go_enter Tryz.func23,Tryz.ntmps23
 go_wp2
 go_loopw [2] (fun lv wr => ∃ (f q:Nat) (u:List UInt8) (l:Bool),lv = .bool l /\ q<=8*s.size /\ 8*s.size < f+q /\ Hid (L=if l=true then .ok q u else blF M s f q u) /\ Hid (∃ tv fx,Rd wr B s q tv u M fx /\ FxOk wr fx) /\ Kp 90 B w wr) (fun _ wr => 8*s.size+1 - posOf wr B)
 case atStart => exact ⟨8*s.size+1,0,[],false,rfl,by omega,by omega,HL0,⟨_,_,HR.out,HF.out⟩,Kp.refl _ _ _⟩
 case round =>
  clear HL0
  obtain ⟨f0,q,u,l,rfl,hq,hf0,hL,hR,hK⟩:=hrel
  obtain ⟨tv1,fx1,hR1,hF1⟩:=hR.out
  have HR1:=hid hR1
  have HF1:=hid hF1
  have HP:Hid (posOf wr B=q):=hR1.pos
  clear hR1 hF1 hR
  cases l
  ·have hL':=hL.out
   rw [if_neg (by simp)] at hL'
   have HL:=hid hL'
   clear hL hL'
   obtain ⟨f,rfl⟩:∃ f,f0=f+1:=⟨f0 - 1,by omega⟩
   by_cases h1:q+1<=8*s.size
   ·obtain ⟨x,hx⟩:∃ x,x=val s q 1:=⟨_,rfl⟩
    have HX:=hid hx
    clear hx
    by_cases h3:q+1+2<=8*s.size
    ·obtain ⟨k,hk⟩:∃ k,k=val s (q+1) 2:=⟨_,rfl⟩
     have HKK:=hid hk
     clear hk
     have hx1:(((x:Int) == 1)=decide (bitAt s q=1)):=by
      have:=HX.out
      rw [val_one] at this
      rw [<- this]
      by_cases hh:x=1
      ·subst hh;rfl
      ·rw [decide_eq_false hh];exact beq_eq_false_iff_ne.2 (by omega)
     obtain ⟨lb,hlb⟩:∃ lb,lb=decide (bitAt s q=1):=⟨_,rfl⟩
     rw [<- hlb] at hx1
     have HLB:=hid hlb
     clear hlb
     obtain ⟨r,hr⟩:∃ r,r=bkF M s k (q+1+2) u:=⟨_,rfl⟩
     have HRr:=hid hr
     have HG1:=hid (HG.out.kp hK hB)
     clear hr
     cases r with
     | no e7 u7 =>
      have HN:Hid (L = .no e7 u7):=by show _=_;rw [HL.out,blF_no (by omega) (by rw [<- HKK.out];exact HRr.out.symm)]
      go_wp2_with (first | (go_at_call 43;first | (refine (number_ok _ _ _ _ _ _ _ _ HR2.out 2 (by omega) h3).mono ?_;rintro e w3 ⟨rfl,hr3,hk3⟩;rw [<- HKK.out];have HR3:=hid hr3;clear hr3) | (refine (number_ok _ _ _ _ _ _ _ _ HR1.out 1 (by omega) h1).mono ?_;rintro e w2 ⟨rfl,hr2,hk2⟩;rw [<- HX.out];have HR2:=hid hr2;clear hr2)) | (go_at_call 44;refine (block_any w3 B s _ tv1 u M fx1 k HR3.out ((HF1.out.kp hk2 (.inl rfl)).kp hk3 (.inl rfl)) ((HG1.out.kp hk2 hB).kp hk3 hB) hB).mono ?_;intro e w4 hd;rw [<- HRr.out] at hd;obtain ⟨rfl,hd1,hd2⟩:=hd))
      rw [HN.out]
      exact ⟨rfl,rfl,hd1,((hK.trans hk2).trans hk3).trans hd2⟩
     | ok q7 u7 =>
      have hend:=bkF_end HRr.out.symm h3
      have HN:Hid (L=if lb=true then .ok q7 u7 else blF M s f q7 u7):=by
       show _=_
       rw [HL.out,blF_ok (by omega) (by rw [<- HKK.out];exact HRr.out.symm),HLB.out]
       simp
      go_wp2_with (first | (go_at_call 43;first | (refine (number_ok _ _ _ _ _ _ _ _ HR2.out 2 (by omega) h3).mono ?_;rintro e w3 ⟨rfl,hr3,hk3⟩;rw [<- HKK.out];have HR3:=hid hr3;clear hr3) | (refine (number_ok _ _ _ _ _ _ _ _ HR1.out 1 (by omega) h1).mono ?_;rintro e w2 ⟨rfl,hr2,hk2⟩;rw [<- HX.out];have HR2:=hid hr2;clear hr2)) | (go_at_call 44;refine (block_any w3 B s _ tv1 u M fx1 k HR3.out ((HF1.out.kp hk2 (.inl rfl)).kp hk3 (.inl rfl)) ((HG1.out.kp hk2 hB).kp hk3 hB) hB).mono ?_;intro e w4 hd;rw [<- HRr.out] at hd;obtain ⟨rfl,⟨tv4,fx4,hr4,hf4⟩,hd2⟩:=hd))
      refine ⟨⟨f,q7,u7,lb,rfl,hend.2,by omega,HN,⟨_,_,hr4,hf4⟩,((hK.trans hk2).trans hk3).trans hd2⟩,?_⟩
      rw [hr4.pos,HP.out]
      omega
    ·have HN:Hid (L = .no 1 u):=by show _=_;rw [HL.out,blF_end (by omega)]
     go_wp2_with (go_at_call 43;first | (refine (number_no _ _ _ _ _ _ _ _ HR2.out 2 (by omega) h3).mono ?_;rintro e w3 ⟨rfl,⟨p3,hr3⟩,hk3⟩) | (refine (number_ok _ _ _ _ _ _ _ _ HR1.out 1 (by omega) h1).mono ?_;rintro e w2 ⟨rfl,hr2,hk2⟩;rw [<- HX.out];have HR2:=hid hr2;clear hr2))
     rw [HN.out]
     exact ⟨rfl,rfl,⟨_,_,_,hr3⟩,(hK.trans hk2).trans hk3⟩
   ·have HN:Hid (L = .no 1 u):=by show _=_;rw [HL.out,blF_end (by omega)]
    go_wp2_with (go_at_call 43;refine (number_no _ _ _ _ _ _ _ _ HR1.out 1 (by omega) h1).mono ?_;rintro e w3 ⟨rfl,⟨p3,hr3⟩,hk3⟩)
    rw [HN.out]
    exact ⟨rfl,rfl,⟨_,_,_,hr3⟩,hK.trans hk3⟩
  ·have hL':=hL.out
   rw [if_pos rfl] at hL'
   have HN:=hid hL'
   clear hL hL'
   go_wp2
   first | go_end0 | refine bodyPost_ret (results_none rfl _ _ _) rfl ?_
   rw [HN.out]
   exact ⟨rfl,⟨_,_,HR1.out,HF1.out⟩,hK⟩
end Go.Proofs.YthdmjmnkhlpnnabGreatDoor
