import Derived.Test.YthdmjmnkhlpnnabGreatDoorZ26
namespace Go.Proofs.YthdmjmnkhlpnnabGreatDoor
open Go.RowKit
theorem rps_snoc (zc:List Int) (a:List (Nat × Nat)) (r:Nat × Nat):rps zc (a ++ [r])=rps zc a ++ [syp zc r.1,(r.2 - (tms r.1).1,(tms r.1).2)]:=by
 induction a with
 | nil => rfl
 | cons x a ih => rw [List.cons_append,rps,ih,rps,List.append_assoc]
theorem okr_get (zc:List Int):∀ (q:List (Nat × Nat)) (l:List Int) (j:Nat) (r:Nat × Nat),okr zc q l->q[j]? = some r->(tms r.1).1<=r.2 /\ r.2 < (tms r.1).1+2 ^ (tms r.1).2 /\ 0 < zc.getD r.1 0
 | [],_,_,_,_,h => by simp at h
 | x :: q,l,0,r,h,e => by simp at e;subst e;exact ⟨h.1,h.2.1,h.2.2.1⟩
 | x :: q,l,j+1,r,h,e => okr_get zc q _ j r h.2.2.2.2 (by simpa using e)
theorem rps_small (zc:List Int) (hz:∀ i,0<=zc.getD i 0 /\ zc.getD i 0<=7) (a:List (Nat × Nat)):pl (rps zc a)<=14*a.length:=by
 induction a with
 | nil => simp [rps,pl]
 | cons x a ih => have:=hz x.1;have:=tms_le x.1;rw [rps,pl_append,List.length_cons];simp only [pl,syp];omega
theorem cdi_rows {w:World} {lg ng:Nat} {zc:List Int} (lz:zc.length=19) (h1:Row w lg zc) (h2:Row w ng (rvs zc)):Cdi w (.agg #[.slice (some ⟨lg,0,none⟩) 19 19,.slice (some ⟨ng,0,none⟩) 19 19]) zc:=by
 refine ⟨some ⟨lg,0,none⟩,19,some ⟨ng,0,none⟩,19,by rw [lz],?_,?_⟩
 ·have:=h1.iseg zc.length
  rwa [List.take_length] at this
 ·have:=h2.iseg (rvs zc).length
  rwa [List.take_length] at this
set_option maxRecDepth 20000 in
set_option maxHeartbeats 1600000 in
theorem whead_any (w:World) (B:Nat) (ov:Value) (V L:Nat) (pv sv:Value) (hb na nb:Nat) (zc:List Int) (k:Nat) (q:List (Nat × Nat)) (h0:Wb w B ov V L pv sv) (h:Hed w hb na nb zc k q) (k1:4<=k) (k2:k<=19) (a1:257<=na) (a2:na<=286) (b1:1<=nb) (b2:nb<=30) (hq:okr zc q []) (hl:q.length<=320) (hz:∀ i,0<=zc.getD i 0 /\ zc.getD i 0<=7) (lz:zc.length=19) (hL:L<=17179869184) :
  Calls Tryz.prog 122 #[.pointer (some ⟨B,0,none⟩),.pointer (some ⟨hb,0,none⟩)] w fun e w' => e = .returned (.tuple #[]) /\ Wst w B ov w' (pw V L ([(na - 257,5),(nb - 1,5),(k - 4,4)] ++ ops zc k ++ rps zc q)) (L+pl ([(na - 257,5),(nb - 1,5),(k - 4,4)] ++ ops zc k ++ rps zc q)) pv sv:=by
 obtain ⟨og,lg,ng,ra,rc,h1,h2,h3,h4,h5⟩:=h.st
 have HH:=hid h
 have HX:=hid h1
 have HO:=hid h2
 have HL:=hid h3
 have HN:=hid h4
 have HR:=hid h5
 have HZ:=hid hz
 have HQ:=hid hq
 have c0:w.cell? ⟨hb,0,none⟩=some (.int .i64 na):=by rw [cell_of_row _ _ 0 _ _ _ h1];rfl
 have HS0:=hid (Wst.start h0)
 have e0:(na:Int) - 257=((na - 257:Nat):Int):=by omega
 have e1:(nb:Int) - 1=((nb - 1:Nat):Int):=by omega
 have e2:(k:Int) - 4=((k - 4:Nat):Int):=by omega
 obtain ⟨n0,hn0⟩:∃ x,x=na - 257:=⟨_,rfl⟩
 obtain ⟨n1,hn1⟩:∃ x,x=nb - 1:=⟨_,rfl⟩
 obtain ⟨n2,hn2⟩:∃ x,x=k - 4:=⟨_,rfl⟩
 rw [<- hn0] at e0 ⊢
 rw [<- hn1] at e1 ⊢
 rw [<- hn2] at e2 ⊢
 have s0:n0 < 2 ^ 5:=by omega
 have s1:n1 < 2 ^ 5:=by omega
 have s2:n2 < 2 ^ 4:=by omega
 clear h0 h h1 h2 h3 h4 h5 hz hq hn0 hn1 hn2
 go_enter Tryz.func122,Tryz.ntmps122
 go_wp2_with (first
   | (go_at_call 73;refine (wnum_st HS2.out n2 4 s2 (by omega) (by omega)).mono ?_;rintro e w3 ⟨rfl,hw3,ht3⟩;have HS3:=hid hw3;have HX3:=hid (ht3 _ _ _ _ HX2.out (by decide) (by decide));have c3:w3.cell? ⟨hb,2,none⟩=some (.slice (some ⟨og,0,none⟩) k 19):=(by rw [cell_of_row _ _ 2 _ _ _ HX3.out];rfl);clear hw3 ht3)
   | (go_at_call 73;refine (wnum_st HS1.out n1 5 s1 (by omega) (by omega)).mono ?_;rintro e w2 ⟨rfl,hw2,ht2⟩;have HS2:=hid hw2;have HX2:=hid (ht2 _ _ _ _ HX1.out (by decide) (by decide));have c2:w2.cell? ⟨hb,2,none⟩=some (.slice (some ⟨og,0,none⟩) k 19):=(by rw [cell_of_row _ _ 2 _ _ _ HX2.out];rfl);clear hw2 ht2)
   | (go_at_call 73;refine (wnum_st HS0.out n0 5 s0 (by omega) (by omega)).mono ?_;rintro e w1 ⟨rfl,hw1,ht1⟩;have HS1:=hid hw1;have HX1:=hid (ht1 _ _ _ _ HX.out (by decide) (by decide));have c1:w1.cell? ⟨hb,1,none⟩=some (.int .i64 nb):=(by rw [cell_of_row _ _ 1 _ _ _ HX1.out];rfl);clear hw1 ht1))
 obtain ⟨V3,hV3⟩:∃ x,x=V+2 ^ L*n0+2 ^ (L+5)*n1+2 ^ (L+5+5)*n2:=⟨_,rfl⟩
 have HV3:Hid (pw V L [(n0,5),(n1,5),(n2,4)]=V3):=by show _=_;rw [pw_cons,pw_cons,pw_cons,pw_nil,hV3]
 obtain ⟨L3,hL3⟩:∃ x,x=L+14:=⟨_,rfl⟩
 have HS3':Hid (Wst w B ov w3 V3 L3 pv sv):=by show Wst _ _ _ _ _ _ _ _;rw [hV3,hL3];exact HS3.out
 have HL3:=hid hL3
 have hL3b:L3<=17179870000:=by omega
 clear hV3 hL3 HS0 HS1 HS2 HS3 HX1 HX2 HX3 c0 c1 c2 c3 e0 e1 e2 s0 s1 s2
 go_loopw [35] (fun i wr => ∃ j:Nat,j<=k /\ i = .int .i64 j /\ Hid (Wst w B ov wr (pw V3 L3 (ops zc j)) (L3+3*j) pv sv)) (fun i _ => k - (intOf i).toNat)
 case atStart => exact ⟨0,by omega,rfl,by show Wst w B ov w3 (pw V3 L3 []) (L3+3*0) pv sv;rw [pw_nil];exact HS3'.out⟩
 case round =>
  clear HS3'
  obtain ⟨j,hj,rfl,HS⟩:=hrel
  by_cases hlt:j < k
  ·have hr:=HO.out.ty HS.out.ty
   have x1:=hr.cell (j:=j) (by rw [row_len];omega)
   rw [row_getD zc j (by omega)] at x1
   have hzz:=HZ.out (ord.getD j 0)
   obtain ⟨z,hz⟩:∃ z:Nat,z=(zc.getD (ord.getD j 0) 0).toNat:=⟨_,rfl⟩
   have hz2:zc.getD (ord.getD j 0) 0=(z:Int):=by omega
   rw [hz2] at x1
   have hz8:z < 2 ^ 3:=by omega
   have HE:Hid (ops zc (j+1)=ops zc j ++ [(z,3)]):=by show _=_;rw [ops_succ,<- hz]
   clear hr hzz hz hz2
   go_wp2_with (go_at_call 73;refine (wnum_st HS.out z 3 hz8 (by omega) (by omega)).mono ?_;rintro e w4 ⟨rfl,hw4,ht4⟩)
   go_roundw
   case rel =>
    refine ⟨j+1,by omega,int_eq (by omega),?_⟩
    show Wst w B ov w4 _ _ pv sv
    rw [HE.out,pw_append,pw_cons,pw_nil,ops_pl,show L3+3*(j+1)=L3+3*j+3 by omega]
    exact hw4
   case measure => simp [intOf];omega
  ·obtain rfl:j=k:=by omega
   have hX:=HS.out.ty _ _ _ _ HX.out (by decide) (by decide)
   have c5:wr.cell? ⟨hb,5,none⟩=some (.slice ra q.length rc):=by rw [cell_of_row _ _ 5 _ _ _ hX];rfl
   obtain ⟨V4,hV4⟩:∃ x,x=pw V3 L3 (ops zc j):=⟨_,rfl⟩
   obtain ⟨L4,hL4⟩:∃ x,x=L3+3*j:=⟨_,rfl⟩
   rw [<- hV4,<- hL4] at HS
   have HV4:=hid (And.intro hV4 hL4)
   have hL4b:L4<=17179880000:=by omega
   clear hV4 hL4 hX
   go_wp2
   go_loopw [48] (fun i wr => ∃ m:Nat,m<=q.length /\ i = .int .i64 m /\ Hid (Wst w B ov wr (pw V4 L4 (rps zc (q.take m))) (L4+pl (rps zc (q.take m))) pv sv)) (fun i _ => q.length - (intOf i).toNat)
   case atStart => exact ⟨0,by omega,rfl,by show Wst w B ov wr (pw V4 L4 []) (L4+0) pv sv;rw [pw_nil];exact HS.out⟩
   case round =>
    clear HS c5
    rename World => wq
    obtain ⟨m,hm,rfl,HS⟩:=hrel
    have hml:(q.take m).length<=320:=by rw [List.length_take];omega
    have hrs:=rps_small zc HZ.out (q.take m)
    by_cases hlt:m < q.length
    ·obtain ⟨b,cs,rfl,hcs,hcell⟩:=(HR.out.ty HS.out.ty) (by omega)
     obtain ⟨r,hr⟩:∃ r,r=q[m]:=⟨_,rfl⟩
     have hr':q[m]? = some r:=by rw [hr];exact List.getElem?_eq_getElem hlt
     obtain ⟨y1,y2⟩:=hcell m r hr'
     have q1:wq.cell? ⟨b,m*2,none⟩=some (.int .i64 r.1):=by rw [cell_of_row wq b _ cs _ (0,0) hcs];exact y1
     have q2:wq.cell? ⟨b,m*2+1,none⟩=some (.int .i64 r.2):=by rw [cell_of_row wq b _ cs _ (0,0) hcs];exact y2
     obtain ⟨o1,o2,o3⟩:=okr_get zc q [] m r HQ.out hr'
     have htr:=tms_le r.1
     have hr19:=getD_lt o3
     have HE:Hid (rps zc (q.take (m+1))=rps zc (q.take m) ++ [syp zc r.1,(r.2 - (tms r.1).1,(tms r.1).2)]):=by
      show _=_
      rw [List.take_add_one,hr',Option.toList_some,rps_snoc]
     obtain ⟨R1,hR1⟩:∃ x,x=r.1:=⟨_,rfl⟩
     obtain ⟨R2,hR2⟩:∃ x,x=r.2:=⟨_,rfl⟩
     rw [<- hR1] at q1 HE htr o1 o2 o3 hr19
     rw [<- hR2] at q2 HE o1 o2
     obtain ⟨T1,hT1⟩:∃ x,x=(tms R1).1:=⟨_,rfl⟩
     obtain ⟨T2,hT2⟩:∃ x,x=(tms R1).2:=⟨_,rfl⟩
     have HTM:Hid (∀ u:World,Calls Tryz.prog 169 #[.int .i64 R1] u fun e w' => e = .returned (.agg #[.int .i64 T1,.int .i64 T2]) /\ Below u.heap.size u w'):=fun u => by
      have:=times_any (R1:Int) (by omega) (by omega) u
      rw [Int.toNat_natCast,<- hT1,<- hT2] at this
      exact this
     rw [<- hT1] at o1
     rw [<- hT1,<- hT2] at HE o2 htr
     have h27:2 ^ T2<=2 ^ 7:=Nat.pow_le_pow_right (by omega) (by omega)
     have h128:(2:Nat) ^ 7=128:=by decide
     have o4:R2 - T1 < 2 ^ T2:=by omega
     have hR2s:R2<=1000:=by omega
     have hXq:=HS.out.ty _ _ _ _ HX.out (by decide) (by decide)
     have m3:wq.cell? ⟨hb,3,none⟩=some (.slice (some ⟨lg,0,none⟩) 19 19):=by rw [cell_of_row _ _ 3 _ _ _ hXq];rfl
     have m4:wq.cell? ⟨hb,4,none⟩=some (.slice (some ⟨ng,0,none⟩) 19 19):=by rw [cell_of_row _ _ 4 _ _ _ hXq];rfl
     have l3:=cell_in m3
     have HB3:=hid ((Below.refl wq.heap.size wq).alloc (Nat.le_refl _) (.cells #[.int .i64 R1,.int .i64 R2] 225))
     have HN3:Hid ((wq.alloc (.cells #[.int .i64 R1,.int .i64 R2] 225)).heap[wq.heap.size]? = some (.cells #[.int .i64 R1,.int .i64 R2] 225 (0,0))):=heap_alloc_new wq _
     have HW3:=hid ((HS.out.below HB3.out).below (below_drewN' (Below.refl _ _) 1))
     have HCD:=hid ((cdi_rows lz HL.out HN.out).ty HW3.out.ty)
     have hok:zc.any nl=false:=any_nl fun i => by have:=HZ.out i;omega
     have HOK:=hid (And.intro hok o3)
     obtain ⟨V5,hV5⟩:∃ x,x=pw V4 L4 (rps zc (q.take m)):=⟨_,rfl⟩
     obtain ⟨L5,hL5⟩:∃ x,x=L4+pl (rps zc (q.take m)):=⟨_,rfl⟩
     rw [<- hV5,<- hL5] at HW3
     have HV5:=hid (And.intro hV5 hL5)
     have hL5b:L5<=17179890000:=by omega
     have hsy:(syp zc R1).2<=7:=by have:=HZ.out R1;simp only [syp];omega
     obtain ⟨D,hD⟩:∃ D,D=wq.heap.size:=⟨_,rfl⟩
     have HDD:=hid hD
     clear hT1 hT2 hR1 hR2 hr hr' y1 y2 hcell hcs hXq hV5 hL5 hrs hml h27 h128 hok o3 hD
     go_upto_region 11 with fail
     go_cut [52] (fun _ wx => Hid (Wst w B ov wx (V5+2 ^ L5*(syp zc R1).1) (L5+(syp zc R1).2) pv sv) /\ Hid (wx.heap[wq.heap.size]? = some (.cells #[.int .i64 R1,.int .i64 R2] 225 (0,0))))
     case first =>
      go_region_with (go_at_call 162;refine (wsym_st HW3.out _ zc R1 HCD.out HOK.out.2 HOK.out.1 (by omega) (by omega)).mono ?_;rintro e w9 ⟨rfl,hw9,ht9⟩)
      all_goals
       go_wp2
       go_meet
       exact ⟨hw9,ht9 _ _ _ _ (show ((wq.alloc (.cells #[.int .i64 R1,.int .i64 R2] 225)).drewN 1).heap[wq.heap.size]? = _ from HN3.out) (by decide) (by decide)⟩
     case rest =>
     clear HW3 HN3 HB3 HCD m3 m4 l3 q1 q2
     obtain ⟨HS6,HN6⟩:=hcut
     obtain ⟨L6,hL6⟩:∃ x,x=L5+(syp zc R1).2:=⟨_,rfl⟩
     rw [<- hL6] at HS6
     have HL6:=hid hL6
     have hL6b:L6<=17179891000:=by omega
     rw [<- HDD.out] at HN6 ⊢
     clear hL6
     have n0':wc.cell? ⟨D,0,none⟩=some (.int .i64 R1):=by rw [cell_of_row _ _ 0 _ _ _ HN6.out];rfl
     have n1':wc.cell? ⟨D,1,none⟩=some (.int .i64 R2):=by rw [cell_of_row _ _ 1 _ _ _ HN6.out];rfl
     go_upto_region 12 with fail
     go_region_with (first | (go_at_call 163;refine (within_st HW8.out R2 T1 T2 (by omega) o4 (by omega) (by omega) (by omega)).mono ?_;rintro e w9 ⟨rfl,hw9,ht9⟩) | (go_at_call 169;refine (HTM.out _).mono ?_;rintro e w8 ⟨rfl,hb8⟩;have HW8:=hid ((HS6.out.below (below_drewN' (Below.refl _ _) 1)).below hb8);have HN8:=hid ((Ty.below hb8) _ _ _ _ (show (wc.drewN 1).heap[D]? = _ from HN6.out) (by decide) (by decide));have n0b:w8.cell? ⟨D,0,none⟩=some (.int .i64 R1):=(by rw [cell_of_row _ _ 0 _ _ _ HN8.out];rfl);have n1b:w8.cell? ⟨D,1,none⟩=some (.int .i64 R2):=(by rw [cell_of_row _ _ 1 _ _ _ HN8.out];rfl)))
     all_goals
      go_wp2
      go_roundw
      case rel =>
       refine ⟨m+1,by omega,int_eq (by omega),?_⟩
       show Wst w B ov w9 _ _ pv sv
       obtain ⟨e1,e2⟩:=HV5.out
       have e3:=HL6.out
       rw [HE.out,pw_append,pl_append,<- Nat.add_assoc,<- e1,<- e2,pw_cons,pw_cons,pw_nil,<- e3]
       have e5:L5+pl [syp zc R1,(R2 - T1,T2)]=L6+T2:=by rw [e3];simp only [pl];omega
       rw [e5]
       exact hw9
      case measure => simp [intOf];omega
    ·obtain rfl:m=q.length:=by omega
     have e9:q.take q.length=q:=List.take_length
     rw [e9] at HS
     go_wp2
     go_end0
     refine ⟨rfl,?_⟩
     obtain ⟨e1,e2⟩:=HV4.out
     show Wst w B ov wq (pw V L ([(n0,5),(n1,5),(n2,4)] ++ (ops zc j ++ rps zc q))) (L+pl ([(n0,5),(n1,5),(n2,4)] ++ (ops zc j ++ rps zc q))) pv sv
     have e4:L+pl [(n0,5),(n1,5),(n2,4)]=L3:=by rw [HL3.out];rfl
     rw [pw_append,pw_append,pl_append,pl_append,HV3.out,ops_pl,e4,<- Nat.add_assoc,<- Nat.add_assoc,e4,<- e2,<- e1]
     exact HS.out
end Go.Proofs.YthdmjmnkhlpnnabGreatDoor
