import Derived.Test.YthdmjmnkhlpnnabGreatDoorY04
import Derived.Deep.DeepCutAuto
namespace Go.Proofs.YthdmjmnkhlpnnabGreatDoor
open Go.RowKit
theorem sym_no {zs:List Int} {s:ByteArray} {p e:Nat} (h:sym zs s p = .no e):e ≠ 0:=by
 have:=symF_no _ _ _ _ _ _ _ h
 omega
def alF (M:Int) (zb:List Int) (s:ByteArray) (k p:Nat) (t:List UInt8):Tx :=
 if p+(agn k).2<=8*s.size then agF M zb s ((agn k).1+val s p (agn k).2) (p+(agn k).2) t else .no 1 t
set_option maxRecDepth 20000 in
set_option maxHeartbeats 6400000 in
theorem ragain_any (w:World) (B:Nat) (s:ByteArray) (p:Nat) (tv:Value) (t:List UInt8) (M:Int) (zb:List Int) (cv:Value) (k:Nat) (x:Int) (h:Rf w B s p tv t M 0) (hc:Coder w zb cv) (hm:zb.length<=320) (hk:k<=28) (hx:x=257+(k:Int)) (hrm:t.length+258<=258*p) :
  Calls Tryz.prog 137 #[.pointer (some ⟨B,0,none⟩),.int .i64 x,cv] w fun e w' => Rid B s M (alF M zb s k p t) w e w':=by
 obtain ⟨sv,base,rfl,ho⟩:=hc
 obtain ⟨so,sc,rfl⟩:=own_shape ho
 have hlt:=h.lt
 have hsm:=h.sml
 obtain ⟨o,ho'⟩:∃ o:Obj,o=Obj.cells (cd4 (cF zb) (fun j => (cnt zb j:Int)) (cA zb) (.slice so (plc zb 15) sc)) 146:=⟨_,rfl⟩
 have HBX:Hid ((w.alloc o).heap[w.heap.size]? = some (.cells (cd4 (cF zb) (fun j => (cnt zb j:Int)) (cA zb) (.slice so (plc zb 15) sc)) 146 (0,0))):=by show _=_;rw [heap_alloc_new w o,ho']
 have HR0:=hid (h.alloc o)
 have HO0:=hid (ho.alloc o)
 have HK0:Hid (Kp 143 B w (w.alloc o)):=(Kp.refl _ _ _).alloc (Nat.le_of_lt hlt) o
 obtain ⟨L,hL⟩:∃ L,L=alF M zb s k p t:=⟨_,rfl⟩
 rw [<- hL]
 have HL:=hid hL
 obtain ⟨f0,hf0⟩:∃ f0,f0=(agn k).1:=⟨_,rfl⟩
 obtain ⟨m0,hm0⟩:∃ m0,m0=(agn k).2:=⟨_,rfl⟩
 have hag:=agn_le k hk
 rw [<- hf0,<- hm0] at hag
 have HF0:=hid hf0
 have HM0:=hid hm0
 have i2:IntKind.i64.wrap (x - 257)=(k:Int):=by rw [IntKind.wrap_i64];omega
 have HX:=hid hx
 clear hx hf0 hm0 hL h ho
 go_enter Tryz.func137,Tryz.ntmps137
 go_upto_if 21 with (go_at_call 177;refine (spread_any _ k 4 3 (by omega) (.inr rfl) spr_le4).mono ?_;rintro e w2 ⟨rfl,rfl⟩)
 rw [<- ho']
 clear ho'
 go_cut [6,7] (fun a b wx => a = .int .i64 (f0:Int) /\ b = .int .i64 (m0:Int) /\ wx=w.alloc o)
 case first =>
  by_cases h28:k=28
  ·have d1:(x == 285)=true:=by rw [beq_iff_eq,HX.out];omega
   go_wp2
   go_meet
   refine ⟨?_,?_,rfl⟩
   ·rw [HF0.out,h28];rfl
   ·rw [HM0.out,h28];rfl
  ·have d1:(x == 285)=false:=by rw [beq_eq_false_iff_ne,HX.out];omega
   go_wp2
   go_meet
   refine ⟨?_,?_,rfl⟩
   ·rw [HF0.out,<- spr_agn k hk h28]
   ·rw [HM0.out,<- spr_agn k hk h28]
 case rest =>
 obtain ⟨rfl,rfl,rfl⟩:=hcut
 by_cases hb0:p+m0<=8*s.size
 ·obtain ⟨y,hy⟩:∃ y,y=val s p m0:=⟨_,rfl⟩
  have hyl:f0+y<=258:=by have:=val_lt s p m0;rw [<- hy] at this;omega
  have HY:=hid hy
  have HLA:Hid (L=agF M zb s (f0+y) (p+m0) t):=by
   show _=_
   rw [HL.out,alF,<- HF0.out,<- HM0.out,if_pos hb0,<- hy]
  clear hy
  cases hr:sym zb s (p+m0) with
  | no en =>
   have hen:=sym_no hr
   have hbe:((en:Int) == 0)=false:=by rw [beq_eq_false_iff_ne];omega
   have hbn:((en:Int) != 0)=true:=by rw [bne_iff_ne];omega
   have HLB:Hid (L = .no en t):=by show _=_;rw [HLA.out,agF_no hr]
   go_wp2_with (first | (refine wpList_load_row rfl 146 _ rfl w.heap.size rfl 146 (cd4 (cF zb) (fun j => (cnt zb j:Int)) (cA zb) (.slice so (plc zb 15) sc)) (0,0) _ (by exact HB2.out) Tryz.underlying146 rfl (info46' _ _ _ _) ?_) | (go_at_call 84;refine (rnum_ok _ _ _ _ _ _ _ HR0.out m0 (by omega) hb0).mono ?_;rintro e w2 ⟨rfl,hr2,hk2⟩;rw [<- HY.out];have HB2:=hid (hk2.cells HBX.out (by decide) (by decide));have HR2:=hid hr2;have HK2:=hid hk2;clear hr2 hk2) | (go_at_call 136;have hsy:=rsym_any _ B s (p+m0) tv t M zb (.slice so (plc zb 15) sc) base HR2.out (own_kp HO0.out HK2.out (.inr rfl)) hm;rw [hr] at hsy;refine hsy.mono ?_;clear hsy;rintro e w3 ⟨rfl,hr3,hk3⟩;obtain ⟨p3,hr3⟩:=hr3;have e4:=hr3.cell.2.2.2.2.1;have HR3:=hid hr3;clear hr3))
   go_end0
   refine ⟨rfl,?_,(HK0.out.trans HK2.out).trans hk3⟩
   rw [HLB.out]
   exact ⟨_,_,HR3.out⟩
  | ok v q =>
   have hv:=sym_ok hr
   by_cases h30:30<=v
   ·have HLB:Hid (L = .no 4 t):=by show _=_;rw [HLA.out,agF_big hr h30]
    have d1:decide (29 < v)=true:=by simp;omega
    go_wp2_with (first | (refine wpList_load_row rfl 146 _ rfl w.heap.size rfl 146 (cd4 (cF zb) (fun j => (cnt zb j:Int)) (cA zb) (.slice so (plc zb 15) sc)) (0,0) _ (by exact HB2.out) Tryz.underlying146 rfl (info46' _ _ _ _) ?_) | (go_at_call 84;refine (rnum_ok _ _ _ _ _ _ _ HR0.out m0 (by omega) hb0).mono ?_;rintro e w2 ⟨rfl,hr2,hk2⟩;rw [<- HY.out];have HB2:=hid (hk2.cells HBX.out (by decide) (by decide));have HR2:=hid hr2;have HK2:=hid hk2;clear hr2 hk2) | (go_at_call 136;have hsy:=rsym_any _ B s (p+m0) tv t M zb (.slice so (plc zb 15) sc) base HR2.out (own_kp HO0.out HK2.out (.inr rfl)) hm;rw [hr] at hsy;refine hsy.mono ?_;clear hsy;rintro e w3 ⟨rfl,hr3,hk3⟩;have e4:=hr3.cell.2.2.2.2.1;have HR3:=hid hr3;clear hr3) | (go_at_call 89;refine (stop_any _ _ _ _ _ _ _ 4 HR3.out).mono ?_;rintro e w4 ⟨rfl,hr4,hk4⟩;clear e4;have e4:=hr4.cell.2.2.2.2.1;have HR4:=hid hr4;clear hr4))
    go_end0
    refine ⟨rfl,?_,((HK0.out.trans HK2.out).trans hk3).trans hk4⟩
    rw [HLB.out]
    exact ⟨_,_,HR4.out⟩
   ·obtain ⟨uu,rfl⟩:∃ uu:Nat,v=(uu:Int):=⟨v.toNat,by omega⟩
    have d1:decide (29 < (uu:Int))=false:=by simp;omega
    obtain ⟨l,hl⟩:∃ l,l=(bck uu).1:=⟨_,rfl⟩
    obtain ⟨mm,hml⟩:∃ mm,mm=(bck uu).2:=⟨_,rfl⟩
    have hbk:=bck_le uu (by omega)
    rw [<- hl,<- hml] at hbk
    have HLL:=hid hl
    have HMM:=hid hml
    have hsb:spr 2 1 uu=(l,mm):=by rw [spr_bck uu (by omega),hl,hml]
    have HSB:=hid hsb
    have hqp:p < q:=by omega
    have h30':uu<=29:=by omega
    obtain ⟨ao,tc,rfl⟩:∃ ao c,tv = .slice ao t.length c:=HR0.out.shape
    clear hl hml hsb hv h30
    by_cases hb1:q+mm<=8*s.size
    ·obtain ⟨yy,hyy⟩:∃ yy,yy=val s q mm:=⟨_,rfl⟩
     have hyy8:yy < 8192:=by
      have h1:=val_lt s q mm
      have h2:2 ^ mm<=2 ^ 13:=Nat.pow_le_pow_right (by omega) (by omega)
      have h3:(2:Nat) ^ 13=8192:=by decide
      omega
     have HYY:=hid hyy
     clear hyy
     have htl:t.length<=68719476736:=by have:=HR0.out.rom;have:=HR0.out.fit;omega
     have w1:IntKind.i64.wrap ((l:Int)+(yy:Int))=(l:Int)+(yy:Int):=by rw [IntKind.wrap_i64];omega
     by_cases hfar:t.length < l+yy
     ·have HLB:Hid (L = .no 5 t):=by show _=_;rw [HLA.out,agF_far hr (by omega) (by rw [Int.toNat_natCast,<- HMM.out];exact hb1) (by rw [Int.toNat_natCast,<- HLL.out,<- HMM.out,<- HYY.out];exact hfar)]
      have d2:decide ((t.length:Int) < (l:Int)+(yy:Int))=true:=by simp;omega
      go_upto_if 76 with (first | (go_at_call 84;refine (rnum_ok _ _ _ _ _ _ _ HR3.out mm (by omega) hb1).mono ?_;rintro e w5 ⟨rfl,hr5,hk5⟩;rw [<- HYY.out];have e45:=hr5.cell.2.2.2.2.1;have e25:=hr5.cell.2.2.1;obtain ⟨far,e55⟩:=hr5.cell.2.2.2.2.2;have f55:=hr5.free 5;have HR5:=hid hr5;have HK5:=hid (((HK0.out.trans HK2.out).trans hk3).trans hk5);clear hr5 hk5 e4) | (refine wpList_load_row rfl 146 _ rfl w.heap.size rfl 146 (cd4 (cF zb) (fun j => (cnt zb j:Int)) (cA zb) (.slice so (plc zb 15) sc)) (0,0) _ (by exact HB2.out) Tryz.underlying146 rfl (info46' _ _ _ _) ?_) | (go_at_call 84;refine (rnum_ok _ _ _ _ _ _ _ HR0.out m0 (by omega) hb0).mono ?_;rintro e w2 ⟨rfl,hr2,hk2⟩;rw [<- HY.out];have HB2:=hid (hk2.cells HBX.out (by decide) (by decide));have HR2:=hid hr2;have HK2:=hid hk2;clear hr2 hk2) | (go_at_call 136;have hsy:=rsym_any _ B s (p+m0) _ t M zb (.slice so (plc zb 15) sc) base HR2.out (own_kp HO0.out HK2.out (.inr rfl)) hm;rw [hr] at hsy;refine hsy.mono ?_;clear hsy;rintro e w3 ⟨rfl,hr3,hk3⟩;have e4:=hr3.cell.2.2.2.2.1;have HR3:=hid hr3;clear hr3) | (go_at_call 177;refine (spread_any _ uu 2 1 h30' (.inl rfl) spr_le2).mono ?_;rintro e w4 ⟨rfl,rfl⟩;rw [HSB.out]) | (go_at_call 89;refine (stop_any _ _ _ _ _ _ _ 5 HR5.out).mono ?_;rintro e w6 ⟨rfl,hr6,hk6⟩;clear e45 e55 f55 e25;have e45:=hr6.cell.2.2.2.2.1;obtain ⟨far,e55⟩:=hr6.cell.2.2.2.2.2;have f55:=hr6.free 5;have HR6:=hid hr6;have HK6:=hid (HK5.out.trans hk6);clear hr6 hk6))
      go_cut [76] (fun _ wx => Hid (Rf wx B s (q+mm) (.slice ao t.length tc) t M 5) /\ Hid (Kp 143 B w wx))
      case first =>
       by_cases hq:far < (l:Int)+(yy:Int)
       ·have dd:decide (far < (l:Int)+(yy:Int))=true:=by simp;omega
        go_wp2
        go_meet
        exact ⟨HR6.out.setFar _,HK6.out.setRf HR6.out _ _⟩
       ·have dd:decide (far < (l:Int)+(yy:Int))=false:=by simp;omega
        go_wp2
        go_meet
        exact ⟨HR6,HK6⟩
      case rest =>
      obtain ⟨HR7,HK7⟩:=hcut
      have e47:=HR7.out.cell.2.2.2.2.1
      go_wp2
      go_loopw [13] (fun iv wi => iv = .int .i64 0 /\ wi=wc) (fun _ _ => 0)
      case atStart => exact ⟨rfl,rfl⟩
      case round =>
       obtain ⟨rfl,rfl⟩:=hrel
       go_wp2
       go_end0
       refine ⟨rfl,?_,HK7.out⟩
       rw [HLB.out]
       exact ⟨_,_,HR7.out⟩
     ·have HLB:Hid (L=cpy M (l+yy) (q+mm) (f0+y) t):=by show _=_;rw [HLA.out,agF_ok hr (by omega) (by rw [Int.toNat_natCast,<- HMM.out];exact hb1) (by rw [Int.toNat_natCast,<- HLL.out,<- HMM.out,<- HYY.out];exact hfar),Int.toNat_natCast,<- HLL.out,<- HMM.out,<- HYY.out]
      have d2:decide ((t.length:Int) < (l:Int)+(yy:Int))=false:=by simp;omega
      go_upto_if 76 with (first | (go_at_call 84;refine (rnum_ok _ _ _ _ _ _ _ HR3.out mm (by omega) hb1).mono ?_;rintro e w5 ⟨rfl,hr5,hk5⟩;rw [<- HYY.out];have e45:=hr5.cell.2.2.2.2.1;have e25:=hr5.cell.2.2.1;obtain ⟨far,e55⟩:=hr5.cell.2.2.2.2.2;have f55:=hr5.free 5;have HR5:=hid hr5;have HK5:=hid (((HK0.out.trans HK2.out).trans hk3).trans hk5);clear hr5 hk5 e4) | (refine wpList_load_row rfl 146 _ rfl w.heap.size rfl 146 (cd4 (cF zb) (fun j => (cnt zb j:Int)) (cA zb) (.slice so (plc zb 15) sc)) (0,0) _ (by exact HB2.out) Tryz.underlying146 rfl (info46' _ _ _ _) ?_) | (go_at_call 84;refine (rnum_ok _ _ _ _ _ _ _ HR0.out m0 (by omega) hb0).mono ?_;rintro e w2 ⟨rfl,hr2,hk2⟩;rw [<- HY.out];have HB2:=hid (hk2.cells HBX.out (by decide) (by decide));have HR2:=hid hr2;have HK2:=hid hk2;clear hr2 hk2) | (go_at_call 136;have hsy:=rsym_any _ B s (p+m0) _ t M zb (.slice so (plc zb 15) sc) base HR2.out (own_kp HO0.out HK2.out (.inr rfl)) hm;rw [hr] at hsy;refine hsy.mono ?_;clear hsy;rintro e w3 ⟨rfl,hr3,hk3⟩;have e4:=hr3.cell.2.2.2.2.1;have HR3:=hid hr3;clear hr3) | (go_at_call 177;refine (spread_any _ uu 2 1 h30' (.inl rfl) spr_le2).mono ?_;rintro e w4 ⟨rfl,rfl⟩;rw [HSB.out]))
      go_cut [76] (fun _ wx => Hid (Rf wx B s (q+mm) (.slice ao t.length tc) t M 0) /\ Hid (Kp 143 B w wx))
      case first =>
       by_cases hq:far < (l:Int)+(yy:Int)
       ·have dd:decide (far < (l:Int)+(yy:Int))=true:=by simp;omega
        go_wp2
        go_meet
        exact ⟨HR5.out.setFar _,HK5.out.setRf HR5.out _ _⟩
       ·have dd:decide (far < (l:Int)+(yy:Int))=false:=by simp;omega
        go_wp2
        go_meet
        exact ⟨HR5,HK5⟩
      case rest =>
      obtain ⟨HR7,HK7⟩:=hcut
      have e47:=HR7.out.cell.2.2.2.2.1
      go_wp2
      obtain ⟨n,hn⟩:∃ n,n=f0+y:=⟨_,rfl⟩
      rw [<- hn] at HLB
      have HN:=hid hn
      have wn:IntKind.i64.wrap ((f0:Int)+(y:Int))=(f0:Int)+(y:Int):=by rw [IntKind.wrap_i64];omega
      have hn258:n<=258:=by omega
      clear hn
      go_loopw [13] (fun iv wi => ∃ (i E:Nat) (u:List UInt8),i<=n /\ iv = .int .i64 i /\ u.length<=t.length+i /\ t.length<=u.length /\ Hid (∃ tv',Rf wi B s (q+mm) tv' u M E) /\ (E=0 /\ Hid (L=cpy M (l+yy) (q+mm) (n - i) u) ∨ E ≠ 0 /\ Hid (L = .no E u)) /\ Kp 143 B w wi) (fun iv _ => n - (intOf iv).toNat)
      case atStart => exact ⟨0,0,t,by omega,rfl,by omega,by omega,⟨_,HR7.out⟩,.inl ⟨rfl,HLB⟩,HK7.out⟩
      case round =>
       clear HLB HR7 HK7 e47
       obtain ⟨i,E,u,hi,rfl,hul,hul2,hR,hor,hKi⟩:=hrel
       obtain ⟨tv',hR⟩:=hR.out
       have c4:=hR.cell.2.2.2.2.1
       rcases hor with ⟨rfl,hL⟩ | ⟨hE,hL⟩
       ·by_cases hlt:i < n
        ·have bt:decide ((i:Int) < (f0:Int)+(y:Int))=true:=by simp;have:=HN.out;omega
         obtain ⟨g,cc,rfl,hby⟩:=hR.byte (u.length - (l+yy)) (by omega)
         obtain ⟨d,hd⟩:∃ d,d=u.getD (u.length - (l+yy)) 0:=⟨_,rfl⟩
         obtain ⟨U,hU⟩:∃ U,U=u.length:=⟨_,rfl⟩
         have c2:=hR.cell.2.2.1
         rw [<- hd,<- hU] at hby
         rw [<- hU] at c2
         obtain ⟨xx,hxx⟩:∃ xx:Nat,xx=U - (l+yy):=⟨_,rfl⟩
         rw [<- hxx] at hby
         have i1:xx < U:=by omega
         have i3:IntKind.i64.wrap ((U:Int) - ((l:Int)+(yy:Int)))=(xx:Int):=by rw [IntKind.wrap_i64];omega
         clear hxx
         have hUb:U<=68719476995:=by omega
         have HD:=hid hd
         have HU:=hid hU
         have HUL:=hid (And.intro hul hul2)
         have HR:=hid hR
         have HF:Hid (n - i=(n - (i+1))+1):=by show _=_;omega
         clear hd hU hR hul hul2
         by_cases hM:(u.length:Int) < M
         ·have HRW:Hid (L=cpy M (l+yy) (q+mm) (n - (i+1)) (u ++ [d])):=by
           show _=_
           rw [hL.out,HF.out,cpy,if_pos hM,<- HD.out]
          go_wp2
          go_region_with ((go_at_call 134;refine (put_ok _ B s (q+mm) _ u M d (by exact HR.out.drew) hM (by have:=HUL.out.1;omega)).mono ?_;rintro e w4 ⟨rfl,hr4,hk4⟩))
          all_goals
           go_wp2
           go_roundw
           case rel => exact ⟨i+1,0,u ++ [d],by omega,by go_num,by have:=HUL.out;simp;omega,by have:=HUL.out;simp;omega,hr4,.inl ⟨rfl,HRW⟩,hKi.drew.trans hk4⟩
           case measure => simp [intOf];omega
         ·have HRW:Hid (L = .no 6 u):=by
           show _=_
           rw [hL.out,HF.out,cpy,if_neg hM]
          go_wp2
          go_region_with ((go_at_call 134;refine (put_no _ B s (q+mm) _ u M d (by exact HR.out.drew) (by omega)).mono ?_;rintro e w4 ⟨rfl,hr4,hk4⟩))
          all_goals
           go_wp2
           go_roundw
           case rel => exact ⟨i+1,6,u,by omega,by go_num,by have:=HUL.out;omega,by have:=HUL.out;omega,⟨_,hr4⟩,.inr ⟨by omega,HRW⟩,hKi.drew.trans hk4⟩
           case measure => simp [intOf];omega
        ·obtain rfl:i=n:=by omega
         have bt:decide ((i:Int) < (f0:Int)+(y:Int))=false:=by simp;have:=HN.out;omega
         have HR:=hid hR
         clear hR
         go_wp2
         go_end0
         refine ⟨rfl,?_,hKi⟩
         have hL2:=hL.out
         rw [Nat.sub_self] at hL2
         rw [hL2]
         exact ⟨_,HR.out⟩
       ·have hb0':((E:Int) == 0)=false:=by rw [beq_eq_false_iff_ne];omega
        have HR:=hid hR
        clear hR
        by_cases hlt:i < n
        ·have bt:decide ((i:Int) < (f0:Int)+(y:Int))=true:=by simp;have:=HN.out;omega
         go_wp2
         go_end0
         refine ⟨rfl,?_,hKi⟩
         rw [hL.out]
         exact ⟨_,_,HR.out⟩
        ·have bt:decide ((i:Int) < (f0:Int)+(y:Int))=false:=by simp;have:=HN.out;omega
         go_wp2
         go_end0
         refine ⟨rfl,?_,hKi⟩
         rw [hL.out]
         exact ⟨_,_,HR.out⟩
    ·have HLB:Hid (L = .no 1 t):=by show _=_;rw [HLA.out,agF_bits hr (by omega) (by rw [Int.toNat_natCast,<- HMM.out];exact hb1)]
     go_upto_if 76 with (first | (go_at_call 84;refine (rnum_no _ _ _ _ _ _ _ HR3.out mm (by omega) hb1).mono ?_;rintro e w5 ⟨yy,p5,hyy,rfl,hr5,hk5⟩;have e45:=hr5.cell.2.2.2.2.1;have e25:=hr5.cell.2.2.1;obtain ⟨far,e55⟩:=hr5.cell.2.2.2.2.2;have f55:=hr5.free 5;have HR5:=hid hr5;have HK5:=hid (((HK0.out.trans HK2.out).trans hk3).trans hk5);clear hr5 hk5 e4) | (refine wpList_load_row rfl 146 _ rfl w.heap.size rfl 146 (cd4 (cF zb) (fun j => (cnt zb j:Int)) (cA zb) (.slice so (plc zb 15) sc)) (0,0) _ (by exact HB2.out) Tryz.underlying146 rfl (info46' _ _ _ _) ?_) | (go_at_call 84;refine (rnum_ok _ _ _ _ _ _ _ HR0.out m0 (by omega) hb0).mono ?_;rintro e w2 ⟨rfl,hr2,hk2⟩;rw [<- HY.out];have HB2:=hid (hk2.cells HBX.out (by decide) (by decide));have HR2:=hid hr2;have HK2:=hid hk2;clear hr2 hk2) | (go_at_call 136;have hsy:=rsym_any _ B s (p+m0) _ t M zb (.slice so (plc zb 15) sc) base HR2.out (own_kp HO0.out HK2.out (.inr rfl)) hm;rw [hr] at hsy;refine hsy.mono ?_;clear hsy;rintro e w3 ⟨rfl,hr3,hk3⟩;have e4:=hr3.cell.2.2.2.2.1;have HR3:=hid hr3;clear hr3) | (go_at_call 177;refine (spread_any _ uu 2 1 h30' (.inl rfl) spr_le2).mono ?_;rintro e w4 ⟨rfl,rfl⟩;rw [HSB.out]))
     go_cut [76] (fun _ wx => Hid (Rf wx B s p5 (.slice ao t.length tc) t M 1) /\ Hid (Kp 143 B w wx))
     case first =>
      by_cases hq:far < (l:Int)+(yy:Int)
      ·have dd:decide (far < (l:Int)+(yy:Int))=true:=by simp;omega
       go_wp2
       go_meet
       exact ⟨HR5.out.setFar _,HK5.out.setRf HR5.out _ _⟩
      ·have dd:decide (far < (l:Int)+(yy:Int))=false:=by simp;omega
       go_wp2
       go_meet
       exact ⟨HR5,HK5⟩
     case rest =>
     obtain ⟨HR7,HK7⟩:=hcut
     have e47:=HR7.out.cell.2.2.2.2.1
     go_wp2
     go_loopw [13] (fun iv wi => iv = .int .i64 0 /\ wi=wc) (fun _ _ => 0)
     case atStart => exact ⟨rfl,rfl⟩
     case round =>
      obtain ⟨rfl,rfl⟩:=hrel
      go_wp2
      go_end0
      refine ⟨rfl,?_,HK7.out⟩
      rw [HLB.out]
      exact ⟨_,_,HR7.out⟩
 ·have HLB:Hid (L = .no 1 t):=by
   show _=_
   rw [HL.out,alF,<- HM0.out,if_neg hb0]
  go_wp2_with (first | (refine wpList_load_row rfl 146 _ rfl w.heap.size rfl 146 (cd4 (cF zb) (fun j => (cnt zb j:Int)) (cA zb) (.slice so (plc zb 15) sc)) (0,0) _ (by exact HB2.out) Tryz.underlying146 rfl (info46' _ _ _ _) ?_) | (go_at_call 84;refine (rnum_no _ _ _ _ _ _ _ HR0.out m0 (by omega) hb0).mono ?_;rintro e w2 ⟨v2,p2,hv2,rfl,hr2,hk2⟩;have HB2:=hid (hk2.cells HBX.out (by decide) (by decide));have HR2:=hid hr2;have HK2:=hid hk2;clear hr2 hk2) | (go_at_call 136;refine (rsym_err _ B s p2 tv t M 1 zb so (plc zb 15) sc HR2.out (by omega)).mono ?_;rintro e w3 ⟨rfl,hr3,hk3⟩;have e4:=hr3.cell.2.2.2.2.1;have HR3:=hid hr3;clear hr3))
  go_end0
  refine ⟨rfl,?_,(HK0.out.trans HK2.out).trans hk3⟩
  rw [HLB.out]
  exact ⟨_,_,HR3.out⟩
end Go.Proofs.YthdmjmnkhlpnnabGreatDoor
