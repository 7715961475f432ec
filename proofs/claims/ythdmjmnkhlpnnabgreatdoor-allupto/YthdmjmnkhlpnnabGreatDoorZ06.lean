import Derived.Test.YthdmjmnkhlpnnabGreatDoorZ04
import Derived.Test.YthdmjmnkhlpnnabGreatDoorZ05
namespace Go.Proofs.YthdmjmnkhlpnnabGreatDoor
open Go.RowKit
def Did (B:Nat) (s:ByteArray) (M:Int) (fx:Option Addr) (r:Tx) (w:World) (e:Ending) (w':World):Prop :=
 match r with
 | .ok p t => e = .returned (.tuple #[]) /\ (∃ tv,Rd w' B s p tv t M fx) /\ Kp 90 B w w'
 | .no k t => e=gone k /\ (∃ p' tv,Rd w' B s p' tv t M fx) /\ Kp 90 B w w'
theorem Rd.shape {w:World} {B:Nat} {s:ByteArray} {p:Nat} {tv:Value} {t:List UInt8} {M:Int} {fx:Option Addr} (h:Rd w B s p tv t M fx):∃ ao c,tv = .slice ao t.length c:=by
 obtain ⟨_,⟨rfl,h0⟩ | ⟨g,cap,cur,rfl,_⟩⟩:=h.own
 ·exact ⟨none,0,by rw [h0]⟩
 ·exact ⟨_,_,rfl⟩
theorem Rd.byte {w:World} {B:Nat} {s:ByteArray} {p:Nat} {tv:Value} {t:List UInt8} {M:Int} {fx:Option Addr} (h:Rd w B s p tv t M fx) (i:Nat) (hi:i < t.length) :
  ∃ g c,tv = .slice (some ⟨g,0,none⟩) t.length c /\ w.cell? ⟨g,i,none⟩=some (.int .u8 (t.getD i 0).toNat):=by
 obtain ⟨_,⟨rfl,h0⟩ | ⟨g,cap,cur,rfl,hg,hh,h1,h2,h3,h4⟩⟩:=h.own
 ·omega
 ·refine ⟨g,cap,rfl,?_⟩
  rw [cell_of_row w g i cur 5 (0,0) hh]
  have e:cur.toList[i]? = (bys t)[i]?:=by
   rw [<- h4,List.getElem?_take,if_pos (by omega)]
  rw [<- Array.getElem?_toList,e]
  simp [bys,hi]
theorem agF_no {M:Int} {zb:List Int} {s:ByteArray} {n p:Nat} {t:List UInt8} {e:Nat} (h:sym zb s p = .no e):agF M zb s n p t = .no e t:=by unfold agF;rw [h]
theorem agF_big {M:Int} {zb:List Int} {s:ByteArray} {n p:Nat} {t:List UInt8} {v:Int} {q:Nat} (h:sym zb s p = .ok v q) (hv:30<=v):agF M zb s n p t = .no 4 t:=by unfold agF;rw [h];simp only;rw [if_pos hv]
theorem agF_bits {M:Int} {zb:List Int} {s:ByteArray} {n p:Nat} {t:List UInt8} {v:Int} {q:Nat} (h:sym zb s p = .ok v q) (hv:¬ 30<=v) (hb:¬ q+(bck v.toNat).2<=8*s.size):agF M zb s n p t = .no 1 t:=by unfold agF;rw [h];simp only;rw [if_neg hv,if_neg hb]
theorem agF_far {M:Int} {zb:List Int} {s:ByteArray} {n p:Nat} {t:List UInt8} {v:Int} {q:Nat} (h:sym zb s p = .ok v q) (hv:¬ 30<=v) (hb:q+(bck v.toNat).2<=8*s.size) (hf:t.length < (bck v.toNat).1+val s q (bck v.toNat).2):agF M zb s n p t = .no 5 t:=by unfold agF;rw [h];simp only;rw [if_neg hv,if_pos hb,if_pos hf]
theorem agF_ok {M:Int} {zb:List Int} {s:ByteArray} {n p:Nat} {t:List UInt8} {v:Int} {q:Nat} (h:sym zb s p = .ok v q) (hv:¬ 30<=v) (hb:q+(bck v.toNat).2<=8*s.size) (hf:¬ t.length < (bck v.toNat).1+val s q (bck v.toNat).2):agF M zb s n p t=cpy M ((bck v.toNat).1+val s q (bck v.toNat).2) (q+(bck v.toNat).2) n t:=by unfold agF;rw [h];simp only;rw [if_neg hv,if_pos hb,if_neg hf]
theorem Kp.ofBelow {X:TypeId} {B:Nat} {w w':World} (h:Below w.heap.size w w') (hB:B<=w.heap.size):Kp X B w w' :=
 ⟨h.mono hB,fun k _ _ _ hk _ _ => h.block k (Array.getElem?_eq_some_iff.1 hk).1⟩
theorem Rd.below {w w':World} {B:Nat} {s:ByteArray} {p:Nat} {tv:Value} {t:List UInt8} {M:Int} {fx:Option Addr} (h:Rd w B s p tv t M fx) (hb:Below w.heap.size w w'):Rd w' B s p tv t M fx:=by
 refine ⟨(hb.block B h.lt).trans h.blk,?_,h.sml,h.fit,h.len,h.rom⟩
 obtain ⟨h1,h2⟩:=h.own
 refine ⟨h1,?_⟩
 rcases h2 with h2 | ⟨g,cap,cur,hv,hg,hh,r⟩
 ·exact Or.inl h2
 ·exact Or.inr ⟨g,cap,cur,hv,hg,(hb.block g (Array.getElem?_eq_some_iff.1 hh).1).trans hh,r⟩
set_option maxRecDepth 20000 in
set_option maxHeartbeats 1600000 in
theorem again_any (w:World) (B:Nat) (s:ByteArray) (p:Nat) (tv:Value) (t:List UInt8) (M:Int) (fx:Option Addr) (b:Nat) (zb:List Int) (n:Nat) (h:Rd w B s p tv t M fx) (hc:Cod w b zb) (hm:zb.length<=320) (hn:n<=258) (hrm:t.length+n<=258*p) :
  Calls Tryz.prog 127 #[.pointer (some ⟨B,0,none⟩),.int .i64 n,.pointer (some ⟨b,0,none⟩)] w fun e w' => Did B s M fx (agF M zb s n p t) w e w':=by
 have hsy:=symbol_any w B s p tv t M fx b zb h hc hm
 have hbo:=h.rom
 have HSH:=hid h.shape
 have hfi:=h.fit
 have hsm:=h.sml
 clear h hc
 cases hr:sym zb s p with
 | no e =>
  rw [hr] at hsy
  have HS:=hid hsy
  rw [agF_no hr]
  clear hsy hr
  go_enter Tryz.func127,Tryz.ntmps127
  go_wp2_with (go_at_call 126;refine HS.out.mono ?_;rintro e w' ⟨rfl,hr1,hk1⟩)
  obtain ⟨p',hr1⟩:=hr1
  exact ⟨rfl,rfl,⟨p',tv,hr1⟩,hk1⟩
 | ok v q =>
  rw [hr] at hsy
  have HS:=hid hsy
  have hv:=sym_ok hr
  clear hsy
  by_cases h30:30<=v
  ·rw [agF_big hr h30]
   clear hr
   go_enter Tryz.func127,Tryz.ntmps127
   go_wp2_with (first | (go_at_call 126;refine HS.out.mono ?_;rintro e w' ⟨rfl,hr1,hk1⟩) | (go_at_call 82;refine (give_any _ _).mono ?_;rintro e w' ⟨rfl,rfl⟩))
   exact ⟨rfl,rfl,⟨q,tv,hr1⟩,hk1⟩
  ·obtain ⟨l,hl⟩:∃ l,l=(bck v.toNat).1:=⟨_,rfl⟩
   obtain ⟨m,hml⟩:∃ m,m=(bck v.toNat).2:=⟨_,rfl⟩
   have hbk:=bck_le v.toNat (by omega)
   rw [<- hl,<- hml] at hbk
   have HL:=hid hl
   have HM:=hid hml
   by_cases hbits:q+m<=8*s.size
   ·obtain ⟨ao,c,htv⟩:∃ ao c,tv = .slice ao t.length c:=HSH.out
    subst htv
    obtain ⟨bb,hbb⟩:∃ bb,bb=l+val s q m:=⟨_,rfl⟩
    have hvl:=val_lt s q m
    have hv2:2 ^ m<=2 ^ 13:=Nat.pow_le_pow_right (by omega) (by omega)
    have hv3:(2:Nat) ^ 13=8192:=by decide
    have hbbl:bb<=40000:=by omega
    have hbb1:1<=bb:=by omega
    have HBB:=hid hbb
    have htl:t.length<=68719476736:=by omega
    by_cases hfar:t.length < bb
    ·rw [agF_far hr h30 (by rw [<- hml];exact hbits) (by rw [<- hl,<- hml,<- hbb];exact hfar)]
     clear hr hl hml hbb hvl hv2 hv3
     go_enter Tryz.func127,Tryz.ntmps127
     go_wp2_with (first | (go_at_call 126;refine HS.out.mono ?_;rintro e w1 ⟨rfl,hr1,hk1⟩;have HR1:=hid hr1;clear hr1))
     go_region_with (first | (go_at_call 111;refine (back_any _ (by omega) (by omega) _).mono ?_;rintro e w2 ⟨rfl,hb2⟩;rw [<- HL.out,<- HM.out]) | (go_at_call 128;refine (within_ok _ B s q _ t M fx (by exact (HR1.out.drew.below hb2)) l m (by omega) (by omega) hbits).mono ?_;rintro e w3 ⟨rfl,hr3,hk3⟩;rw [<- HBB.out]))
     have c3:=hr3.cell.2.2.2.1
     have hk:Kp 90 B w w3:=((hk1.drew).trans (Kp.ofBelow hb2 (Nat.le_of_lt HR1.out.drew.lt))).trans hk3
     have HR3:=hid hr3
     clear hr3 hk3 hb2 hk1
     go_wp2_with (go_at_call 82;refine (give_any _ _).mono ?_;rintro e w' ⟨rfl,rfl⟩)
     exact ⟨rfl,rfl,⟨_,_,HR3.out⟩,hk⟩
    ·rw [agF_ok hr h30 (by rw [<- hml];exact hbits) (by rw [<- hl,<- hml,<- hbb];exact hfar),<- hl,<- hml,<- hbb]
     clear hr hl hml hbb hvl hv2 hv3
     go_enter Tryz.func127,Tryz.ntmps127
     go_wp2_with (first | (go_at_call 126;refine HS.out.mono ?_;rintro e w1 ⟨rfl,hr1,hk1⟩;have HR1:=hid hr1;clear hr1))
     go_region_with (first | (go_at_call 111;refine (back_any _ (by omega) (by omega) _).mono ?_;rintro e w2 ⟨rfl,hb2⟩;rw [<- HL.out,<- HM.out]) | (go_at_call 128;refine (within_ok _ B s q _ t M fx (by exact (HR1.out.drew.below hb2)) l m (by omega) (by omega) hbits).mono ?_;rintro e w3 ⟨rfl,hr3,hk3⟩;rw [<- HBB.out]))
     have c3:=hr3.cell.2.2.2.1
     have hk:Kp 90 B w w3:=((hk1.drew).trans (Kp.ofBelow hb2 (Nat.le_of_lt HR1.out.drew.lt))).trans hk3
     have HR3:=hid hr3
     clear hr3 hk3 hb2 hk1
     go_wp2
     go_loopw [31] (fun i wr => ∃ (k:Nat) (u:List UInt8),k<=n /\ i = .int .i64 k /\ u.length=t.length+k /\ Hid (cpy M bb (q+m) n t=cpy M bb (q+m) (n - k) u) /\ Hid (∃ tv',Rd wr B s (q+m) tv' u M fx) /\ Kp 90 B w wr) (fun i _ => n - (intOf i).toNat)
     case atStart => exact ⟨0,t,by omega,rfl,rfl,rfl,⟨_,HR3.out⟩,hk⟩
     case round =>
      clear c3 hk HR3
      obtain ⟨k,u,hk,rfl,hul,hcp,hR,hK⟩:=hrel
      obtain ⟨tv',hR⟩:=hR.out
      by_cases hlt:k < n
      ·obtain ⟨g,cc,rfl,hby⟩:=hR.byte (u.length - bb) (by omega)
       obtain ⟨d,hd⟩:∃ d,d=u.getD (u.length - bb) 0:=⟨_,rfl⟩
       obtain ⟨U,hU⟩:∃ U,U=u.length:=⟨_,rfl⟩
       rw [<- hd,<- hU] at hby
       have c3:=hR.cell.2.2.2.1
       rw [<- hU] at c3
       obtain ⟨x,hx⟩:∃ x:Nat,x=U - bb:=⟨_,rfl⟩
       rw [<- hx] at hby
       have i1:x < U:=by omega
       have i2:IntKind.i64.wrap ((U:Int) - (bb:Int))=(x:Int):=by rw [IntKind.wrap_i64];omega
       clear hx
       have hUb:U<=68719477000:=by omega
       have HD:=hid hd
       have HU:=hid hU
       have HUL:=hid hul
       have HR:=hid hR
       have HF:Hid (n - k=(n - (k+1))+1):=by show _=_;omega
       clear hul hd hU hR
       by_cases hM:(u.length:Int) < M
       ·go_wp2
        go_region_with ((go_at_call 124;refine (add_ok _ B s (q+m) _ u M fx d (by exact HR.out.drew) hM (by have:=HUL.out;omega)).mono ?_;rintro e w4 ⟨rfl,hr4,hk4⟩))
        all_goals
         go_wp2
         go_roundw
         case rel =>
          refine ⟨k+1,u ++ [d],by omega,by go_num,by have:=HUL.out;simp;omega,?_,hr4,hK.drew.trans hk4⟩
          show _=_
          rw [hcp.out,HF.out,cpy,if_pos hM,<- HD.out]
         case measure => simp [intOf];omega
       ·go_wp2
        go_region_dies
        all_goals
         refine (add_no _ B s (q+m) _ u M fx d (by exact HR.out.drew) (by have:=HR.out.len;omega)).mono ?_
         rintro e w4 ⟨rfl,⟨p4,hr4⟩,hk4⟩
         have hdid:Did B s M fx (cpy M bb (q+m) n t) w (gone 6) w4:=by
          rw [show cpy M bb (q+m) n t = .no 6 u by rw [hcp.out,HF.out,cpy,if_neg (by omega)]]
          exact ⟨rfl,⟨_,_,hr4⟩,hK.drew.trans hk4⟩
         have HD4:=hid hdid
         clear hdid
         go_wp2
         exact ⟨rfl,HD4.out⟩
      ·obtain rfl:k=n:=by omega
       go_wp2
       go_end0
       rw [show cpy M bb (q+m) k t = .ok (q+m) u by rw [hcp.out,Nat.sub_self];rfl]
       exact ⟨rfl,⟨_,hR⟩,hK⟩
   ·rw [agF_bits hr h30 (by rw [<- hml];exact hbits)]
    clear hr hl hml
    go_enter Tryz.func127,Tryz.ntmps127
    go_wp2_with (first | (go_at_call 126;refine HS.out.mono ?_;rintro e w1 ⟨rfl,hr1,hk1⟩;have HR1:=hid hr1;clear hr1))
    go_region_with (first | (go_at_call 111;refine (back_any _ (by omega) (by omega) _).mono ?_;rintro e w2 ⟨rfl,hb2⟩;rw [<- HL.out,<- HM.out]) | (go_at_call 128;refine (within_no _ B s q tv t M fx (by exact (HR1.out.drew.below hb2)) l m (by omega) hbits).mono ?_;rintro e w3 ⟨rfl,⟨p3,hr3⟩,hk3⟩;refine dead (P:=Tryz.prog) (by exact ⟨rfl,rfl,⟨p3,tv,hr3⟩,((hk1.drew).trans (Kp.ofBelow hb2 (Nat.le_of_lt HR1.out.drew.lt))).trans hk3⟩) w ?_))
    all_goals trivial
end Go.Proofs.YthdmjmnkhlpnnabGreatDoor
namespace Go.Proofs.YthdmjmnkhlpnnabGreatDoor
open Go.RowKit
set_option maxHeartbeats 800000 in
theorem isComplete_any (w:World) (b:Nat) (zs:List Int) (hc:Cod w b zs) :
  Calls Tryz.prog 174 #[.pointer (some ⟨b,0,none⟩)] w fun e w' => e = .returned (.bool (decide (wt zs=32768))) /\ w=w':=by
 obtain ⟨g,R,hb,hR,hS⟩:=hc
 obtain ⟨c0,-,-,-⟩:=cdc_cell hb
 clear hb hR hS
 obtain ⟨n,hn⟩:∃ n,n=wt zs:=⟨_,rfl⟩
 rw [<- hn] at c0 ⊢
 clear hn
 have hd:((n:Int) == 32768)=decide (n=32768):=by
  by_cases h:n=32768
  ·subst h;rfl
  ·rw [decide_eq_false h];exact beq_eq_false_iff_ne.2 (by omega)
 have HD:=hid hd
 clear hd
 go_enter Tryz.func174,Tryz.ntmps174
 go_wp2
 go_ret
 exact ⟨by rw [<- HD.out];rfl,rfl⟩
set_option maxHeartbeats 800000 in
theorem isEmpty_any (w:World) (b:Nat) (zs:List Int) (hc:Cod w b zs) :
  Calls Tryz.prog 176 #[.pointer (some ⟨b,0,none⟩)] w fun e w' => e = .returned (.bool (decide (plc zs 15=0))) /\ w=w':=by
 obtain ⟨g,R,hb,hR,hS⟩:=hc
 obtain ⟨-,-,c17,-⟩:=cdc_cell hb
 clear hb hR hS
 obtain ⟨n,hn⟩:∃ n,n=plc zs 15:=⟨_,rfl⟩
 rw [<- hn] at c17 ⊢
 clear hn
 have hd:((n:Int) == 0)=decide (n=0):=by
  by_cases h:n=0
  ·subst h;rfl
  ·rw [decide_eq_false h];exact beq_eq_false_iff_ne.2 (by omega)
 have HD:=hid hd
 clear hd
 go_enter Tryz.func176,Tryz.ntmps176
 go_wp2
 go_ret
 exact ⟨by rw [<- HD.out];rfl,rfl⟩
set_option maxHeartbeats 800000 in
theorem isAlone_any (w:World) (b:Nat) (zs:List Int) (hc:Cod w b zs) :
  Calls Tryz.prog 175 #[.pointer (some ⟨b,0,none⟩)] w fun e w' => e = .returned (.bool (decide (plc zs 15=1) && decide (cnt zs 1=1))) /\ w=w':=by
 obtain ⟨g,R,hb,hR,hS⟩:=hc
 obtain ⟨-,cp,c17,-⟩:=cdc_cell hb
 have c2:=cp 1 (by omega)
 clear hb hR hS cp
 obtain ⟨n,hn⟩:∃ n,n=plc zs 15:=⟨_,rfl⟩
 obtain ⟨k,hk⟩:∃ k,k=cnt zs 1:=⟨_,rfl⟩
 rw [<- hn] at c17 ⊢
 rw [<- hk] at c2 ⊢
 clear hn hk
 by_cases hn1:n=1
 ·subst hn1
  have hd:((k:Int) == 1)=decide (k=1):=by
   by_cases h:k=1
   ·subst h;rfl
   ·rw [decide_eq_false h];exact beq_eq_false_iff_ne.2 (by omega)
  have HD:=hid hd
  clear hd
  go_enter Tryz.func175,Tryz.ntmps175
  go_wp2
  go_ret
  exact ⟨by rw [<- HD.out];rfl,rfl⟩
 ·have hb:((n:Int) == 1)=false:=beq_eq_false_iff_ne.2 (by omega)
  have hb2:decide (n=1)=false:=decide_eq_false hn1
  rw [hb2]
  clear hb2
  go_enter Tryz.func175,Tryz.ntmps175
  go_wp2
  go_ret
  exact ⟨rfl,rfl⟩
set_option maxHeartbeats 800000 in
theorem mayL_any (w:World) (b:Nat) (zs:List Int) (hc:Cod w b zs) :
  Calls Tryz.prog 132 #[.pointer (some ⟨b,0,none⟩)] w fun e w' => e = .returned (.bool (mayL zs)) /\ w=w':=by
 have HC:=hid (isComplete_any w b zs hc)
 have HA:=hid (isAlone_any w b zs hc)
 obtain ⟨x,hx⟩:∃ x,x=decide (wt zs=32768):=⟨_,rfl⟩
 obtain ⟨y,hy⟩:∃ y,y=(decide (plc zs 15=1) && decide (cnt zs 1=1)):=⟨_,rfl⟩
 have e:mayL zs=(x || y):=by unfold mayL;rw [hx,hy]
 rw [<- hx] at HC
 rw [<- hy] at HA
 rw [e]
 clear e hx hy hc
 cases x
 all_goals
  go_enter Tryz.func132,Tryz.ntmps132
  go_wp2_with (first | (go_at_call 174;refine HC.out.mono ?_;rintro e w' ⟨rfl,rfl⟩) | (go_at_call 175;refine HA.out.mono ?_;rintro e w' ⟨rfl,rfl⟩))
  go_ret
  exact ⟨rfl,rfl⟩
set_option maxHeartbeats 800000 in
theorem mayS_any (w:World) (b:Nat) (zs:List Int) (hc:Cod w b zs) :
  Calls Tryz.prog 133 #[.pointer (some ⟨b,0,none⟩)] w fun e w' => e = .returned (.bool (mayS zs)) /\ w=w':=by
 have HC:=hid (isComplete_any w b zs hc)
 have HA:=hid (isAlone_any w b zs hc)
 have HE:=hid (isEmpty_any w b zs hc)
 obtain ⟨x,hx⟩:∃ x,x=decide (wt zs=32768):=⟨_,rfl⟩
 obtain ⟨y,hy⟩:∃ y,y=(decide (plc zs 15=1) && decide (cnt zs 1=1)):=⟨_,rfl⟩
 obtain ⟨z,hz⟩:∃ z,z=decide (plc zs 15=0):=⟨_,rfl⟩
 have e:mayS zs=(x || y || z):=by unfold mayS mayL;rw [hx,hy,hz]
 rw [<- hx] at HC
 rw [<- hy] at HA
 rw [<- hz] at HE
 rw [e]
 clear e hx hy hz hc
 cases x <;> cases y
 all_goals
  go_enter Tryz.func133,Tryz.ntmps133
  go_wp2_with (first | (go_at_call 174;refine HC.out.mono ?_;rintro e w' ⟨rfl,rfl⟩) | (go_at_call 175;refine HA.out.mono ?_;rintro e w' ⟨rfl,rfl⟩) | (go_at_call 176;refine HE.out.mono ?_;rintro e w' ⟨rfl,rfl⟩))
  go_ret
  exact ⟨rfl,rfl⟩
end Go.Proofs.YthdmjmnkhlpnnabGreatDoor
namespace Go.Proofs.YthdmjmnkhlpnnabGreatDoor
open Go.RowKit
def Glo (w:World):Prop:=∀ k,k < 19->w.cell? ⟨1,k,none⟩=some (.int .i64 (ord.getD k 0))
theorem Glo.below {B:Nat} {w w':World} (h:Glo w) (hb:Below B w w') (hB:1 < B):Glo w':=fun k hk => (hb.cell (p:=⟨1,k,none⟩) hB).trans (h k hk)
theorem Glo.kp {X:TypeId} {B:Nat} {w w':World} (h:Glo w) (hk:Kp X B w w') (hB:1 < B):Glo w':=h.below hk.below hB
theorem ord_lt (k:Nat) (h:k < 19):ord.getD k 0 < 19:=by
 have:∀ k,k < 19->ord.getD k 0 < 19:=by decide
 exact this k h
set_option maxHeartbeats 800000 in
theorem ordered_any (w:World) (k:Nat) (z:Int) (hk:k < 19) (hc:w.cell? ⟨1,k,none⟩=some (.int .i64 z)) :
  Calls Tryz.prog 173 #[.int .i64 k] w fun e w' => e = .returned (.int .i64 z) /\ w=w':=by
 go_enter Tryz.func173,Tryz.ntmps173
 go_wp2
 go_ret
 exact ⟨rfl,rfl⟩
theorem clF_length (s:ByteArray) (p k:Nat):(clF s p k).length=19:=by
 induction k with
 | zero => rfl
 | succ k ih => rw [clF,List.length_set,ih]
theorem any_set (l:List Int) (i:Nat) (z:Int) (h:l.any nl=false) (hz:nl z=false):(l.set i z).any nl=false:=by
 rw [List.any_eq_false] at h ⊢
 intro x hx
 rcases List.mem_or_eq_of_mem_set hx with h1 | rfl
 ·exact h x h1
 ·simp [hz]
theorem clF_ok (s:ByteArray) (p k:Nat):(clF s p k).any nl=false:=by
 induction k with
 | zero => rfl
 | succ k ih =>
  rw [clF]
  refine any_set _ _ _ ih ?_
  have:=val_lt s (p+3*k) 3
  unfold nl
  simp
  omega
def Col (B:Nat) (s:ByteArray) (p:Nat) (tv:Value) (t:List UInt8) (M:Int) (fx:Option Addr) (n:Nat) (w:World) (e:Ending) (w':World):Prop :=
 if p+3*n<=8*s.size then
  if wt (clF s p n)=32768 then ∃ b,e = .returned (.pointer (some ⟨b,0,none⟩)) /\ Cod w' b (clF s p n) /\ Rd w' B s (p+3*n) tv t M fx /\ Kp 90 B w w'
  else Gave B s tv t M fx 3 w e w'
 else Gave B s tv t M fx 1 w e w'
theorem start_col (w:World) (B N:Nat) (hB:B<=w.heap.size):Row (w.alloc (.cells (nums (List.replicate N 0)) 3)) w.heap.size (List.replicate N 0) /\ Kp 90 B w (w.alloc (.cells (nums (List.replicate N 0)) 3)) :=
 ⟨heap_alloc_new w _,(Kp.refl _ _ _).alloc hB _⟩
theorem Rd.setNew {w:World} {B:Nat} {s:ByteArray} {p:Nat} {tv:Value} {t:List UInt8} {M:Int} {fx:Option Addr} (h:Rd w B s p tv t M fx) {g:Nat} {l:List Int} (hr:Row w g l) (i:Nat) (u:Value):Rd (w.setCell ⟨g,i,none⟩ u) B s p tv t M fx:=by
 have hne:B ≠ g:=fun e => by
  have h1:=h.blk
  rw [e,show w.heap[g]? = _ from hr] at h1
  injection h1 with h1;injection h1 with _ h1 _;exact absurd h1 (by decide)
 refine ⟨?_,?_,h.sml,h.fit,h.len,h.rom⟩
 ·rw [Below.heap_setCell _ _ _ _ (by exact hne)];exact h.blk
 ·obtain ⟨h1,h2⟩:=h.own
  refine ⟨h1,?_⟩
  rcases h2 with h2 | ⟨gg,cap,cur,hv,hg,hh,r⟩
  ·exact Or.inl h2
  ·refine Or.inr ⟨gg,cap,cur,hv,hg,?_,r⟩
   rw [Below.heap_setCell _ _ _ _ (fun e => by
     have e':gg=g:=e
     rw [e',show w.heap[g]? = _ from hr] at hh
     injection hh with hh;injection hh with _ hh _;exact absurd hh (by decide))]
   exact hh
set_option maxRecDepth 20000 in
set_option maxHeartbeats 1600000 in
theorem col_any (w:World) (B:Nat) (s:ByteArray) (p:Nat) (tv:Value) (t:List UInt8) (M:Int) (fx:Option Addr) (n:Nat) (h:Rd w B s p tv t M fx) (hg:Glo w) (hB:1 < B) (hn:n<=19) :
  Calls Tryz.prog 131 #[.pointer (some ⟨B,0,none⟩),.int .i64 n] w fun e w' => Col B s p tv t M fx n w e w':=by
 have HG:=hid hg
 have hlt:=h.lt
 have hfi:=h.fit
 have HR0:=hid (h.alloc (.cells (nums (List.replicate 19 0)) 3))
 have HS0:=hid (start_col w B 19 (Nat.le_of_lt hlt))
 clear h hg
 obtain ⟨i0,hi,hz0,hz1,hz2⟩:=info_parts info3
 have hmk:∀ u:World,(Instr.makeSlice 23 (.int .i64 19) (.int .i64 19)).run Tryz.prog u =
   .ok (.slice (some ⟨u.heap.size,0,none⟩) 19 19) (u.alloc (.cells (nums (List.replicate 19 0)) 3)):=fun u => by
  have h:=run_make (P:=Tryz.prog) u 23 3 i0 (.int .i64 0) Tryz.underlying23 hi hz0 .i64 .i64 19 19 (by omega) (Int.le_refl _) (by rw [hz2];omega) (by omega)
  rw [hz1,Nat.mul_one,show (Value.int IntKind.i64 0).cells=#[Value.int .i64 0] from rfl,show ((19:Int)).toNat=19 by omega,nums_made] at h
  exact h
 clear hi hz0 hz1 hz2
 go_enter Tryz.func131,Tryz.ntmps131
 go_wp2
 clear hmk
 go_loopw [10] (fun i wr => ∃ k:Nat,k<=n /\ p+3*k<=8*s.size /\ i = .int .i64 k /\ Hid (Row wr w.heap.size (clF s p k)) /\ Hid (Rd wr B s (p+3*k) tv t M fx) /\ Kp 90 B w wr) (fun i _ => n - (intOf i).toNat)
 case atStart => exact ⟨0,by omega,by omega,rfl,HS0.out.1,HR0,HS0.out.2⟩
 case round =>
  clear HR0 HS0
  obtain ⟨k,hk,hpk,rfl,hRow,hR,hK⟩:=hrel
  by_cases hlk:k < n
  ·obtain ⟨o,ho⟩:∃ o,o=ord.getD k 0:=⟨_,rfl⟩
   have ho19:o < 19:=by rw [ho];exact ord_lt k (by omega)
   have hgc:wr.drew.cell? ⟨1,k,none⟩=some (.int .i64 (o:Int)):=by rw [ho];exact (HG.out.kp hK hB) k (by omega)
   have HO:=hid ho
   clear ho
   by_cases hb:p+3*k+3<=8*s.size
   ·obtain ⟨x,hx⟩:∃ x,x=val s (p+3*k) 3:=⟨_,rfl⟩
    have HX:=hid hx
    clear hx
    go_wp2
    go_region_with (first | (go_at_call 173;refine (ordered_any _ k o (by omega) hgc).mono ?_;rintro e w1 ⟨rfl,rfl⟩) | (go_at_call 43;refine (number_ok _ _ _ _ _ _ _ _ (by exact hR.out.drew) 3 (by omega) hb).mono ?_;rintro e w2 ⟨rfl,hr2,hk2⟩;rw [<- HX.out];have hrow2:Row w2 w.heap.size (clF s p k):=hk2.cells (w:=wr.drew) hRow.out (by decide) (by decide);have cc:w2.cell? ⟨w.heap.size,o,none⟩=some (.int .i64 ((clF s p k).getD o 0)):=hrow2.cell (by rw [clF_length];exact ho19);have cf:w2.frozen? ⟨w.heap.size,o,none⟩=false:=hrow2.free _;have HRow2:=hid hrow2;have HR2:=hid hr2;clear hr2 hrow2))
    all_goals
     go_wp2
     refine ⟨⟨k+1,by omega,by omega,by go_num,?_,?_,(hK.drew.trans hk2).setNew (Nat.le_of_lt hlt) (Nat.le_refl _) _⟩,by simp [intOf];omega⟩
     ·show Row _ _ _
      rw [clF,<- HO.out,<- HX.out]
      exact HRow2.out.set _ _
     ·have:=HR2.out.setNew HRow2.out o (.int .i64 x)
      rw [show p+3*(k+1)=p+3*k+3 by omega]
      exact this
   ·have HC:Hid (∀ e w',Gave B s tv t M fx 1 w e w'->Col B s p tv t M fx n w e w'):=fun e w' h => by unfold Col;rw [if_neg (by omega)];exact h
    go_wp2
    go_region_with (first | (go_at_call 173;refine (ordered_any _ k o (by omega) hgc).mono ?_;rintro e w1 ⟨rfl,rfl⟩) | (go_at_call 43;refine (number_no _ _ _ _ _ _ _ _ (by exact hR.out.drew) 3 (by omega) hb).mono ?_;rintro e w2 ⟨rfl,hr2,hk2⟩;have HD:=hid (HC.out _ w2 ⟨rfl,hr2,hK.drew.trans hk2⟩);go_wp2;refine dead (P:=Tryz.prog) (by exact ⟨rfl,HD.out⟩) w ?_))
    all_goals trivial
  ·obtain rfl:k=n:=by omega
   have HNEW:=new_any (some ⟨w.heap.size,0,none⟩) 19 (clF s p k) wr hRow.out.seg (by rw [clF_length];omega) (clF_ok s p k)
   rw [clF_length] at HNEW
   have HNW:=hid HNEW
   clear HNEW
   by_cases hw:wt (clF s p k)=32768
   ·have HD:Hid (decide (wt (clF s p k)=32768)=true):=by show _=_;simp [hw]
    have HC:Hid (∀ e w',(∃ b,e = .returned (.pointer (some ⟨b,0,none⟩)) /\ Cod w' b (clF s p k) /\ Rd w' B s (p+3*k) tv t M fx /\ Kp 90 B w w')->Col B s p tv t M fx k w e w'):=fun e w' h => by unfold Col;rw [if_pos hpk,if_pos hw];exact h
    clear hw
    go_wp2_with (first | (go_at_call 129;refine HNW.out.mono ?_;rintro e w3 ⟨b3,rfl,hb3,hcod,hbe⟩;have HCod:=hid hcod;clear hcod) | (go_at_call 174;refine (isComplete_any _ _ _ HCod.out).mono ?_;rintro e w4 ⟨rfl,rfl⟩;rw [HD.out]))
    go_ret
    exact HC.out _ _ ⟨b3,rfl,HCod.out,hR.out.below hbe,hK.trans (Kp.ofBelow hbe (Nat.le_of_lt hR.out.lt))⟩
   ·have HD:Hid (decide (wt (clF s p k)=32768)=false):=by show _=_;simp [hw]
    have HC:Hid (∀ e w',Gave B s tv t M fx 3 w e w'->Col B s p tv t M fx k w e w'):=fun e w' h => by unfold Col;rw [if_pos hpk,if_neg hw];exact h
    clear hw
    go_wp2_with (first | (go_at_call 129;refine HNW.out.mono ?_;rintro e w3 ⟨b3,rfl,hb3,hcod,hbe⟩;have HCod:=hid hcod;clear hcod) | (go_at_call 174;refine (isComplete_any _ _ _ HCod.out).mono ?_;rintro e w4 ⟨rfl,rfl⟩;rw [HD.out]) | (go_at_call 82;refine (give_any _ _).mono ?_;rintro e w' ⟨rfl,rfl⟩))
    exact ⟨rfl,HC.out _ _ ⟨rfl,⟨_,hR.out.below hbe⟩,hK.trans (Kp.ofBelow hbe (Nat.le_of_lt hR.out.lt))⟩⟩
end Go.Proofs.YthdmjmnkhlpnnabGreatDoor
namespace Go.Proofs.YthdmjmnkhlpnnabGreatDoor
open Go.RowKit
set_option maxHeartbeats 800000 in
theorem told_ok (w:World) (v:Int) (ao:Option Addr) (c:Nat) (l:List Int) (hs:Seg w ao l) (h0:0<=v) (h18:v<=18) (hl:l.length<=1000) (hne:¬ (v=16 /\ l.length=0)) :
  Calls Tryz.prog 172 #[.int .i64 v,.slice ao l.length c] w fun e w' => e = .returned (.int .i64 (tol v l)) /\ w=w':=by
 by_cases h1:v < 16
 ·have e:tol v l=v:=by unfold tol;rw [if_pos h1]
  rw [e]
  clear e hs
  go_enter Tryz.func172,Tryz.ntmps172
  go_wp2
  go_ret
  exact ⟨rfl,rfl⟩
 ·by_cases h2:16 < v
  ·have e:tol v l=0:=by unfold tol;rw [if_neg h1,if_pos h2]
   rw [e]
   clear e hs
   go_enter Tryz.func172,Tryz.ntmps172
   go_wp2
   go_ret
   exact ⟨rfl,rfl⟩
  ·obtain rfl:v=16:=by omega
   have hpos:0 < l.length:=by omega
   have e:tol 16 l=l.getD (l.length - 1) 0:=by unfold tol;rw [if_neg (by omega),if_neg (by omega)]
   obtain ⟨b,off,rfl,hc⟩:=hs hpos
   have hcell:=hc (l.length - 1) (by omega)
   obtain ⟨z,hz⟩:∃ z,z=l.getD (l.length - 1) 0:=⟨_,rfl⟩
   rw [e,<- hz]
   rw [<- hz] at hcell
   obtain ⟨N,hN⟩:∃ N,N=l.length:=⟨_,rfl⟩
   rw [<- hN] at hcell hl hpos ⊢
   have hb:((N:Int) == 0)=false:=beq_eq_false_iff_ne.2 (by omega)
   have i0:(0:Int)<=(N:Int) - 1:=by omega
   have i1:(N:Int) - 1 < (N:Int):=by omega
   have i2:((N:Int) - 1).toNat=N - 1:=by omega
   clear e hz hN hc hne h1 h2
   go_enter Tryz.func172,Tryz.ntmps172
   go_wp2
   go_ret
   exact ⟨rfl,rfl⟩
set_option maxHeartbeats 800000 in
theorem told_no (w:World) (ao:Option Addr) (c:Nat) :
  Calls Tryz.prog 172 #[.int .i64 16,.slice ao 0 c] w fun e w' => e=gone 3 /\ w=w':=by
 go_enter Tryz.func172,Tryz.ntmps172
 go_wp2_with (go_at_call 82;refine (give_any _ _).mono ?_;rintro e w' ⟨rfl,rfl⟩)
 exact ⟨rfl,rfl,rfl⟩
theorem tol_ok {v:Int} {l:List Int} (h0:0<=v) (hl:l.any nl=false):0<=tol v l /\ tol v l<=15:=by
 unfold tol
 split
 ·omega
 ·split
  ·omega
  ·exact ok_getD hl _
theorem any_rep (l:List Int) (k:Nat) (z:Int) (hl:l.any nl=false) (hz:0<=z /\ z<=15):(l ++ List.replicate k z).any nl=false:=by
 rw [List.any_append,hl,Bool.false_or,List.any_eq_false]
 intro x hx
 rw [(List.mem_replicate.1 hx).2]
 unfold nl
 simp
 omega
theorem lnF_ok {zc:List Int} {s:ByteArray} {N f:Nat} {l l':List Int} {p q:Nat} (h:lnF zc s N f l p = .ok l' q) (hl:l.length<=N) (hf:N < f+l.length) (ha:l.any nl=false) (hp:p<=8*s.size):l'.length=N /\ l'.any nl=false /\ q<=8*s.size /\ p<=q:=by
 induction f generalizing l p with
 | zero => omega
 | succ f ih =>
  rw [lnF] at h
  split at h
  ·split at h
   ·simp at h
   ·rename_i v r hs
    have hv:=sym_ok hs
    split at h
    ·simp at h
    ·split at h
     ·split at h
      ·simp at h
      ·have ht:=tms_le v.toNat
       have:=ih h (by simp;omega) (by simp;omega) (any_rep _ _ _ ha (tol_ok hv.2.2.1 ha)) (by omega)
       exact ⟨this.1,this.2.1,this.2.2.1,by omega⟩
     ·simp at h
  ·injection h with h1 h2
   subst h1 h2
   exact ⟨by omega,ha,hp,Nat.le_refl _⟩
theorem lnF_no {zc:List Int} {s:ByteArray} {N f:Nat} {l:List Int} {p e:Nat} (h:lnF zc s N f l p = .no e):e ≠ 0:=by
 induction f generalizing l p with
 | zero => simp [lnF] at h
 | succ f ih =>
  rw [lnF] at h
  split at h
  ·split at h
   ·rename_i e' hs
    have:=symF_no _ _ _ _ _ _ _ hs
    injection h with h
    omega
   ·split at h
    ·injection h with h;omega
    ·split at h
     ·split at h
      ·injection h with h;omega
      ·exact ih h
     ·injection h with h;omega
  ·simp at h
end Go.Proofs.YthdmjmnkhlpnnabGreatDoor
namespace Go.Proofs.YthdmjmnkhlpnnabGreatDoor
open Go.RowKit
abbrev ivs (l:List Int):List Value:=l.map (Value.int .i64)
def lenOf:Value->Nat | .slice _ n _ => n | _ => 0
theorem Kp.grownNew {X:TypeId} {B:Nat} {a w w':World} {v:Value} {n e size:Nat} {xs:List Value} {base:Nat} (h:Kp X B a w) (hg:w.grownBy w' v.ownBlock) (ho:w.ownsRow base e size v n xs) (hb:a.heap.size<=base) (hB:B<=a.heap.size):Kp X B a w':=by
 have hr:∀ k,v.ownBlock=some k->base<=k:=fun k hk => (ho.lt k hk).1
 have hz:=h.size
 refine ⟨h.below.grown hg (by omega) (fun k hk => by have:=hr k hk;omega),fun k cs T fr hk h1 h2 => ?_⟩
 have hka:k < a.heap.size:=(Array.getElem?_eq_some_iff.1 hk).1
 exact (hg.block k (by omega) (fun e => by have:=hr k e.symm;omega)).trans (h.other k cs T fr hk h1 h2)
theorem Rd.grownInts {w w':World} {B:Nat} {s:ByteArray} {p:Nat} {tv:Value} {t:List UInt8} {M:Int} {fx:Option Addr} {v:Value} {n base:Nat} {xs:List Value} (h:Rd w B s p tv t M fx) (hg:w.grownBy w' v.ownBlock) (ho:w.ownsRow base 3 1 v n xs):Rd w' B s p tv t M fx:=by
 have hT:∀ (k:Nat) (cs:Array Value) (T:TypeId) (fr:Nat × Nat),w.heap[k]? = some (.cells cs T fr)->T ≠ 3->w'.heap[k]? = w.heap[k]?:=fun k cs T fr hk hT => hg.block k (Array.getElem?_eq_some_iff.1 hk).1 (fun e => by
   rcases ho with ⟨_,⟨rfl,_⟩ | ⟨g,cap,cur,rfl,_,hh,_⟩⟩
   · simp [Value.ownBlock] at e
   · simp [Value.ownBlock] at e
     subst e
     rw [hh] at hk;injection hk with hk;injection hk with _ hk _;exact hT hk.symm)
 refine ⟨(hT B _ _ _ h.blk (by decide)).trans h.blk,?_,h.sml,h.fit,h.len,h.rom⟩
 obtain ⟨h1,h2⟩:=h.own
 refine ⟨h1,?_⟩
 rcases h2 with h2 | ⟨gg,cap,cur,hv,hgg,hh,r⟩
 ·exact Or.inl h2
 ·exact Or.inr ⟨gg,cap,cur,hv,hgg,(hT gg _ _ _ hh (by decide)).trans hh,r⟩
theorem own_kp {X:TypeId} {B:Nat} {w w':World} {base n:Nat} {v:Value} {xs:List Value} (h:w.ownsRow base 3 1 v n xs) (hk:Kp X B w w') (hX:X=90 ∨ X=143):w'.ownsRow base 3 1 v n xs:=by
 obtain ⟨h1,h2⟩:=h
 refine ⟨h1,?_⟩
 rcases h2 with h2 | ⟨g,cap,cur,hv,hg,hh,r⟩
 ·exact Or.inl h2
 ·exact Or.inr ⟨g,cap,cur,hv,hg,hk.cells hh (by rcases hX with rfl | rfl <;> decide) (by decide),r⟩
theorem own_shape {w:World} {base n e:Nat} {v:Value} {xs:List Value} (h:w.ownsRow base e 1 v n xs):∃ ao c,v = .slice ao n c:=by
 obtain ⟨_,⟨rfl,h0⟩ | ⟨g,cap,cur,rfl,_⟩⟩:=h
 ·exact ⟨none,0,by rw [h0]⟩
 ·exact ⟨_,_,rfl⟩
theorem start_len (w:World) (N:Nat) (hN:N<=1000):(w.alloc (.cells (nums (List.replicate N 0)) 3)).ownsRow w.heap.size 3 1 (.slice (some ⟨w.heap.size,0,none⟩) 0 N) 0 []:=by
 refine ⟨by simp,Or.inr ⟨w.heap.size,N,nums (List.replicate N 0),rfl,Nat.le_refl _,heap_alloc_new w _,by omega,by unfold maxLen;omega,by rw [nums_size];simp,by simp⟩⟩
def Lnd (B:Nat) (s:ByteArray) (tv:Value) (t:List UInt8) (M:Int) (fx:Option Addr) (r:Ls) (w:World) (e:Ending) (w':World):Prop :=
 match r with
 | .ok l q => ∃ v,e = .returned v /\ w'.ownsRow w.heap.size 3 1 v l.length (ivs l) /\ Rd w' B s q tv t M fx /\ Kp 90 B w w'
 | .no k => Gave B s tv t M fx k w e w'
theorem lnF_done {zc:List Int} {s:ByteArray} {N f:Nat} {l:List Int} {p:Nat} (h:¬ l.length < N):lnF zc s N (f+1) l p = .ok l p:=by rw [lnF,if_neg h]
theorem lnF_sym {zc:List Int} {s:ByteArray} {N f:Nat} {l:List Int} {p e:Nat} (h:l.length < N) (hs:sym zc s p = .no e):lnF zc s N (f+1) l p = .no e:=by rw [lnF,if_pos h,hs]
theorem lnF_16 {zc:List Int} {s:ByteArray} {N f:Nat} {l:List Int} {p q:Nat} {v:Int} (h:l.length < N) (hs:sym zc s p = .ok v q) (h16:v=16 /\ l.length=0):lnF zc s N (f+1) l p = .no 3:=by rw [lnF,if_pos h,hs];simp only;rw [if_pos h16]
theorem lnF_bits {zc:List Int} {s:ByteArray} {N f:Nat} {l:List Int} {p q:Nat} {v:Int} (h:l.length < N) (hs:sym zc s p = .ok v q) (h16:¬ (v=16 /\ l.length=0)) (hb:¬ q+(tms v.toNat).2<=8*s.size):lnF zc s N (f+1) l p = .no 1:=by rw [lnF,if_pos h,hs];simp only;rw [if_neg h16,if_neg hb]
theorem lnF_past {zc:List Int} {s:ByteArray} {N f:Nat} {l:List Int} {p q:Nat} {v:Int} (h:l.length < N) (hs:sym zc s p = .ok v q) (h16:¬ (v=16 /\ l.length=0)) (hb:q+(tms v.toNat).2<=8*s.size) (hp:N - l.length < (tms v.toNat).1+val s q (tms v.toNat).2):lnF zc s N (f+1) l p = .no 3:=by rw [lnF,if_pos h,hs];simp only;rw [if_neg h16,if_pos hb,if_pos hp]
theorem lnF_more {zc:List Int} {s:ByteArray} {N f:Nat} {l:List Int} {p q:Nat} {v:Int} (h:l.length < N) (hs:sym zc s p = .ok v q) (h16:¬ (v=16 /\ l.length=0)) (hb:q+(tms v.toNat).2<=8*s.size) (hp:¬ N - l.length < (tms v.toNat).1+val s q (tms v.toNat).2) :
  lnF zc s N (f+1) l p=lnF zc s N f (l ++ List.replicate ((tms v.toNat).1+val s q (tms v.toNat).2) (tol v l)) (q+(tms v.toNat).2):=by rw [lnF,if_pos h,hs];simp only;rw [if_neg h16,if_pos hb,if_neg hp]
set_option maxRecDepth 20000 in
set_option maxHeartbeats 1600000 in
theorem lengths_any (w:World) (B:Nat) (s:ByteArray) (p:Nat) (tv:Value) (t:List UInt8) (M:Int) (fx:Option Addr) (b:Nat) (zc:List Int) (N:Nat) (h:Rd w B s p tv t M fx) (hc:Cod w b zc) (hm:zc.length=19) (hN:N<=400) :
  Calls Tryz.prog 130 #[.pointer (some ⟨B,0,none⟩),.pointer (some ⟨b,0,none⟩),.int .i64 N] w fun e w' => Lnd B s tv t M fx (lnF zc s N (N+1) [] p) w e w':=by
 have hlt:=h.lt
 have hfi:=h.fit
 have HR0:=hid (h.alloc (.cells (nums (List.replicate N 0)) 3))
 have HK0:=hid ((Kp.refl 90 B w).alloc (Nat.le_of_lt hlt) (.cells (nums (List.replicate N 0)) 3))
 have HO0:=hid (start_len w N (by omega))
 have HC:=hid hc
 have HM:=hid hm
 clear h hc hm
 obtain ⟨i0,hi,hz0,hz1,hz2⟩:=info_parts info3
 have hmk:∀ u:World,(Instr.makeSlice 23 (.int .i64 0) (.int .i64 (N:Int))).run Tryz.prog u =
   .ok (.slice (some ⟨u.heap.size,0,none⟩) 0 N) (u.alloc (.cells (nums (List.replicate N 0)) 3)):=fun u => by
  have h:=run_make (P:=Tryz.prog) u 23 3 i0 (.int .i64 0) Tryz.underlying23 hi hz0 .i64 .i64 0 (N:Int) (by omega) (by omega) (by rw [hz2];omega) (by omega)
  rw [hz1,Nat.mul_one,show (Value.int IntKind.i64 0).cells=#[Value.int .i64 0] from rfl,show ((N:Int)).toNat=N by omega,nums_made] at h
  exact h
 obtain ⟨L,hL⟩:∃ L,L=lnF zc s N (N+1) [] p:=⟨_,rfl⟩
 rw [<- hL]
 have HL0:=hid hL
 clear hL
 have HI:=hid hi
 have HZ:=hid (And.intro hz0 (And.intro hz1 hz2))
 clear hi hz0 hz1 hz2
 go_enter Tryz.func130,Tryz.ntmps130
 go_wp2
 clear hmk
 go_loopw [7] (fun lv wr => ∃ (f q:Nat) (l:List Int),l.length<=N /\ q<=8*s.size /\ N < f+l.length /\ Hid (L=lnF zc s N f l q) /\ Hid (l.any nl=false) /\ Hid (wr.ownsRow w.heap.size 3 1 lv l.length (ivs l)) /\ Hid (Rd wr B s q tv t M fx) /\ Kp 90 B w wr) (fun lv _ => N - lenOf lv)
 case atStart => exact ⟨N+1,p,[],by simp,hfi,by simp,HL0,rfl,HO0.out,HR0,HK0.out⟩
 case round =>
  clear HL0 HR0 HK0 HO0
  obtain ⟨f0,q,l,hl,hq,hf0,hL,hA,hO,hR,hK⟩:=hrel
  obtain ⟨f,rfl⟩:∃ f,f0=f+1:=⟨f0 - 1,by omega⟩
  obtain ⟨ao,c,rfl⟩:=own_shape hO.out
  by_cases hlN:l.length < N
  ·have HSY:=hid (symbol_any wr B s q tv t M fx b zc hR.out (HC.out.kp hK (.inl rfl)) (by rw [HM.out];omega))
   cases hs:sym zc s q with
   | no e =>
    rw [hs] at HSY
    have HN:Hid (L = .no e):=by show _=_;rw [hL.out,lnF_sym hlN hs]
    clear hs
    go_wp2_with (go_at_call 126;refine HSY.out.mono ?_;rintro e1 w1 ⟨rfl,hr1,hk1⟩)
    rw [HN.out]
    exact ⟨rfl,rfl,hr1,hK.trans hk1⟩
   | ok v r =>
    rw [hs] at HSY
    have hv:=sym_ok hs
    rw [HM.out] at hv
    by_cases h16:v=16 /\ l.length=0
    ·have HN:Hid (L = .no 3):=by show _=_;rw [hL.out,lnF_16 hlN hs h16]
     obtain ⟨rfl,h0⟩:=h16
     have h0':l=[]:=List.eq_nil_of_length_eq_zero h0
     subst h0'
     clear hs h0
     go_wp2_with (first | (go_at_call 126;refine HSY.out.mono ?_;rintro e1 w1 ⟨rfl,hr1,hk1⟩) | (go_at_call 172;refine (told_no _ _ _).mono ?_;rintro e w' ⟨rfl,rfl⟩))
     rw [HN.out]
     exact ⟨rfl,rfl,⟨_,hr1⟩,hK.trans hk1⟩
    ·obtain ⟨tl,htl⟩:∃ tl,tl=(tms v.toNat).1:=⟨_,rfl⟩
     obtain ⟨m,hml⟩:∃ m,m=(tms v.toNat).2:=⟨_,rfl⟩
     have htm:=tms_le v.toNat
     rw [<- htl,<- hml] at htm
     have HT:=hid htl
     have HMm:=hid hml
     have H16:=hid h16
     have HTOL:=hid (tol_ok (l:=l) hv.2.2.1 hA.out)
     have HARM:Hid (∀ w1,Kp 90 B wr w1->Seg w1 ao l):=fun w1 hk1 => by
      obtain ⟨ao',c',he,hseg⟩:=owns_seg (own_kp hO.out hk1 (.inl rfl))
      injection he with e1 e2 e3
      rw [e1];exact hseg
     clear h16
     by_cases hbits:r+m<=8*s.size
     ·obtain ⟨T,hT⟩:∃ T,T=tl+val s r m:=⟨_,rfl⟩
      have hvl:=val_lt s r m
      have hv2:2 ^ m<=2 ^ 7:=Nat.pow_le_pow_right (by omega) (by omega)
      have hv3:(2:Nat) ^ 7=128:=by decide
      have hTl:T<=140:=by omega
      have hT1:1<=T:=by omega
      have HTT:=hid hT
      obtain ⟨z,hz⟩:∃ z,z=tol v l:=⟨_,rfl⟩
      have HZ1:=hid hz
      by_cases hpast:N - l.length < T
      ·have HN:Hid (L = .no 3):=by show _=_;rw [hL.out,lnF_past hlN hs H16.out (by rw [<- hml];exact hbits) (by rw [<- hml,<- htl,<- hT];exact hpast)]
       have hdec:decide ((N:Int) - (l.length:Int) < (T:Int))=true:=by simp;omega
       clear hs htl hml hT hvl hv2 hv3 hz
       go_wp2_with (first | (go_at_call 126;refine HSY.out.mono ?_;rintro e1 w1 ⟨rfl,hr1,hk1⟩;have HR1:=hid hr1;clear hr1) | (go_at_call 172;refine (told_ok _ v ao c l (HARM.out _ hk1) (by omega) (by omega) (by omega) H16.out).mono ?_;rintro e w' ⟨rfl,rfl⟩;rw [<- HZ1.out]))
       go_region_with (first | (go_at_call 169;refine (times_any _ (by omega) (by omega) _).mono ?_;rintro e w2 ⟨rfl,hb2⟩;rw [<- HT.out,<- HMm.out]) | (go_at_call 128;refine (within_ok _ B s r tv t M fx (by exact (HR1.out.drew.below hb2)) tl m (by omega) (by omega) hbits).mono ?_;rintro e w3 ⟨rfl,hr3,hk3⟩;rw [<- HTT.out]))
       have hk3':Kp 90 B wr w3:=((hk1.drew).trans (Kp.ofBelow hb2 (Nat.le_of_lt HR1.out.drew.lt))).trans hk3
       have HR3:=hid hr3
       clear hr3 hk3 hb2 hk1 HR1
       go_wp2_with (go_at_call 82;refine (give_any _ _).mono ?_;rintro e w' ⟨rfl,rfl⟩)
       rw [HN.out]
       exact ⟨rfl,rfl,⟨_,HR3.out⟩,hK.trans hk3'⟩
      ·have HN:Hid (L=lnF zc s N f (l ++ List.replicate T z) (r+m)):=by show _=_;rw [hL.out,lnF_more hlN hs H16.out (by rw [<- hml];exact hbits) (by rw [<- hml,<- htl,<- hT];exact hpast),<- hml,<- htl,<- hT,<- hz]
       have hdec:decide ((N:Int) - (l.length:Int) < (T:Int))=false:=by simp;omega
       have HAN:Hid ((l ++ List.replicate T z).any nl=false):=any_rep _ _ _ hA.out (by rw [hz];exact HTOL.out)
       clear hs htl hml hT hvl hv2 hv3 hz
       go_wp2_with (first | (go_at_call 126;refine HSY.out.mono ?_;rintro e1 w1 ⟨rfl,hr1,hk1⟩;have HR1:=hid hr1;clear hr1) | (go_at_call 172;refine (told_ok _ v ao c l (HARM.out _ hk1) (by omega) (by omega) (by omega) H16.out).mono ?_;rintro e w' ⟨rfl,rfl⟩;rw [<- HZ1.out]))
       go_region_with (first | (go_at_call 169;refine (times_any _ (by omega) (by omega) _).mono ?_;rintro e w2 ⟨rfl,hb2⟩;rw [<- HT.out,<- HMm.out]) | (go_at_call 128;refine (within_ok _ B s r tv t M fx (by exact (HR1.out.drew.below hb2)) tl m (by omega) (by omega) hbits).mono ?_;rintro e w3 ⟨rfl,hr3,hk3⟩;rw [<- HTT.out]))
       have hk3':Kp 90 B wr w3:=((hk1.drew).trans (Kp.ofBelow hb2 (Nat.le_of_lt HR1.out.drew.lt))).trans hk3
       have HR3:=hid hr3
       clear hr3 hk3 hb2 hk1 HR1
       go_wp2
       go_loopw [7,39] (fun lv i wi => ∃ k:Nat,k<=T /\ i = .int .i64 k /\ Hid (wi.ownsRow w.heap.size 3 1 lv (l.length+k) (ivs (l ++ List.replicate k z))) /\ Hid (Rd wi B s (r+m) tv t M fx) /\ Kp 90 B w wi) (fun _ i _ => T - (intOf i).toNat)
       case atStart => exact ⟨0,by omega,rfl,by simp only [List.replicate_zero,List.append_nil];exact own_kp hO.out hk3' (.inl rfl),HR3,hK.trans hk3'⟩
       case round =>
        clear HR3 hk3'
        obtain ⟨k,hk,rfl,hOi,hRi,hKi⟩:=hrel
        obtain ⟨ai,ci,rfl⟩:=own_shape hOi.out
        by_cases hkT:k < T
        ·have hszi:=hKi.size
         go_wp2_with (at_builtin;refine wpList_append_lies _ rfl (.tmp 41) (.tmp 43) 23 rfl w.heap.size 3 i0 (.int .i64 0) 1 8 Tryz.underlying23 HI.out HZ.out.1 HZ.out.2.1 HZ.out.2.2 rfl (by decide) (.slice ai (l.length+k) ci) (l.length+k) (ivs (l ++ List.replicate k z)) rfl (hOi.out.alloc _) ⟨_,0,none⟩ 1 1 [.int .i64 z] rfl rfl (cell_one_new _ _ _) ?c2 (by decide) ?c3 ?c4 ?c5 _ rfl ?_)
         case c2 => intro u hu;simp at hu;subst hu;rfl
         case c3 => unfold maxLen;omega
         case c4 => omega
         case c5 => simp;omega
         intro g cap w5 hown hgrow hat hlt5
         have e:List.map (Value.int .i64) l ++ (List.replicate k (Value.int .i64 z) ++ [Value.int .i64 z])=ivs (l ++ List.replicate (k+1) z):=by
          unfold ivs
          rw [List.map_append,List.map_replicate,List.replicate_succ']
         rw [e] at hown
         have HOW:=hid hown
         clear e
         have HRD:=hid ((hRi.out.alloc _).grownInts hgrow (hOi.out.alloc _))
         have HKP:=hid (((hKi.alloc (by have:=hRi.out.lt;omega) _).grownNew hgrow (hOi.out.alloc _) (Nat.le_refl _) (Nat.le_of_lt hlt)))
         clear hown hgrow hat hlt5
         go_wp2
         exact ⟨⟨k+1,by omega,by go_num,HOW,HRD,HKP.out⟩,by simp [intOf];omega⟩
        ·obtain rfl:k=T:=by omega
         go_wp2
         refine ⟨⟨f,r+m,l ++ List.replicate k z,by simp;omega,hbits,by simp;omega,HN,HAN,?_,hRi,hKi⟩,by simp only [lenOf];omega⟩
         rw [List.length_append,List.length_replicate]
         exact hOi
     ·have HN:Hid (L = .no 1):=by show _=_;rw [hL.out,lnF_bits hlN hs H16.out (by rw [<- hml];exact hbits)]
      clear hs htl hml
      go_wp2_with (first | (go_at_call 126;refine HSY.out.mono ?_;rintro e1 w1 ⟨rfl,hr1,hk1⟩;have HR1:=hid hr1;clear hr1) | (go_at_call 172;refine (told_ok _ v ao c l (HARM.out _ hk1) (by omega) (by omega) (by omega) H16.out).mono ?_;rintro e w' ⟨rfl,rfl⟩))
      go_region_with (first | (go_at_call 169;refine (times_any _ (by omega) (by omega) _).mono ?_;rintro e w2 ⟨rfl,hb2⟩;rw [<- HT.out,<- HMm.out]) | (go_at_call 128;refine (within_no _ B s r tv t M fx (by exact (HR1.out.drew.below hb2)) tl m (by omega) hbits).mono ?_;rintro e w3 ⟨rfl,hr3,hk3⟩;have HD:Hid (Lnd B s tv t M fx L w (gone 1) w3):=(by rw [HN.out];exact ⟨rfl,hr3,(((hK.trans hk1).drew).trans (Kp.ofBelow hb2 (Nat.le_of_lt HR1.out.drew.lt))).trans hk3⟩);go_wp2;refine dead (P:=Tryz.prog) (by exact ⟨rfl,HD.out⟩) w ?_))
      all_goals trivial
  ·have HN:Hid (L = .ok l q):=by show _=_;rw [hL.out,lnF_done hlN]
   go_wp2
   go_ret
   rw [HN.out]
   exact ⟨_,rfl,hO.out,hR.out,hK⟩
end Go.Proofs.YthdmjmnkhlpnnabGreatDoor
