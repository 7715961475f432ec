import Derived.Test.YthdmjmnkhlpnnabGreatDoorZ26
namespace Go.Proofs.YthdmjmnkhlpnnabGreatDoor
open Go.RowKit
theorem rbits_snoc (zc:List Int) (a:List (Nat × Nat)) (r:Nat × Nat):rbits zc (a ++ [r])=rbits zc a+((zc.getD r.1 0).toNat+(tms r.1).2):=by
 induction a with
 | nil => simp [rbits]
 | cons x a ih => rw [List.cons_append,rbits,ih,rbits];omega
theorem rbits_le (zc:List Int) (hz:∀ i,0<=zc.getD i 0 /\ zc.getD i 0<=7) (a:List (Nat × Nat)):rbits zc a<=14*a.length:=by
 induction a with
 | nil => simp [rbits]
 | cons x a ih => have:=hz x.1;have:=tms_le x.1;rw [rbits,List.length_cons];omega
set_option maxRecDepth 20000 in
set_option maxHeartbeats 1600000 in
theorem hbits_any (w:World) (hb na nb:Nat) (zc:List Int) (k:Nat) (q:List (Nat × Nat)) (h:Hed w hb na nb zc k q) (hk:k<=19) (hq:∀ r,r ∈ q->r.1<=18) (hl:q.length<=320) (hz:∀ i,0<=zc.getD i 0 /\ zc.getD i 0<=7) (lz:zc.length=19) :
  Calls Tryz.prog 120 #[.pointer (some ⟨hb,0,none⟩)] w fun e w' => e = .returned (.int .i64 ((14+3*k+rbits zc q:Nat):Int)) /\ Below w.heap.size w w':=by
 obtain ⟨og,lg,ng,ra,rc,h1,h2,h3,h4,h5⟩:=h.st
 have HX:=hid h1
 have HL:=hid h3
 have HR:=hid h5
 have HZ:=hid hz
 have HQ:=hid hq
 have HBT:=hid (fun j => rbits_le zc hz (q.take j))
 have c2:w.cell? ⟨hb,2,none⟩=some (.slice (some ⟨og,0,none⟩) k 19):=by rw [cell_of_row _ _ 2 _ _ _ h1];rfl
 have c5:w.cell? ⟨hb,5,none⟩=some (.slice ra q.length rc):=by rw [cell_of_row _ _ 5 _ _ _ h1];rfl
 clear h1 h2 h3 h4 h5 h hz hq
 go_enter Tryz.func120,Tryz.ntmps120
 go_wp2
 clear c2 c5
 go_loopw [3,18] (fun a i wr => ∃ j:Nat,j<=q.length /\ i = .int .i64 j /\ a = .int .i64 ((14+3*k+rbits zc (q.take j):Nat):Int) /\ Hid (Below w.heap.size w wr)) (fun _ i _ => q.length - (intOf i).toNat)
 case atStart => exact ⟨0,by omega,rfl,int_eq (by simp [rbits]),Below.refl _ _⟩
 case round =>
  obtain ⟨j,hj,rfl,rfl,HB⟩:=hrel
  by_cases hlt:j < q.length
  ·obtain ⟨b,cs,rfl,hcs,hcell⟩:=(HR.out.ty (Ty.below HB.out)) (by omega)
   obtain ⟨r,hr⟩:∃ r,r=q[j]:=⟨_,rfl⟩
   have hr':q[j]? = some r:=by rw [hr];exact List.getElem?_eq_getElem hlt
   obtain ⟨y1,y2⟩:=hcell j r hr'
   have q1:wr.cell? ⟨b,j*2,none⟩=some (.int .i64 r.1):=by rw [cell_of_row wr b _ cs _ (0,0) hcs];exact y1
   have q2:wr.cell? ⟨b,j*2+1,none⟩=some (.int .i64 r.2):=by rw [cell_of_row wr b _ cs _ (0,0) hcs];exact y2
   have h18:=HQ.out r (by rw [hr];exact List.getElem_mem hlt)
   have hzr:=HZ.out r.1
   have htr:=tms_le r.1
   have HE:Hid (rbits zc (q.take (j+1))=rbits zc (q.take j)+((zc.getD r.1 0).toNat+(tms r.1).2)):=by
    show _=_
    rw [List.take_add_one,hr',Option.toList_some,rbits_snoc]
   obtain ⟨R1,hR1⟩:∃ x,x=r.1:=⟨_,rfl⟩
   obtain ⟨R2,hR2⟩:∃ x,x=r.2:=⟨_,rfl⟩
   rw [<- hR1] at q1 h18 HE hzr htr
   rw [<- hR2] at q2
   obtain ⟨T1,hT1⟩:∃ x,x=(tms R1).1:=⟨_,rfl⟩
   obtain ⟨T2,hT2⟩:∃ x,x=(tms R1).2:=⟨_,rfl⟩
   have HTM:Hid (∀ u:World,Calls Tryz.prog 169 #[.int .i64 R1] u fun e w' => e = .returned (.agg #[.int .i64 T1,.int .i64 T2]) /\ Below u.heap.size u w'):=fun u => by
    have:=times_any (R1:Int) (by omega) (by omega) u
    rw [Int.toNat_natCast,<- hT1,<- hT2] at this
    exact this
   obtain ⟨z,hz⟩:∃ z:Nat,(z:Int)=zc.getD R1 0:=⟨(zc.getD R1 0).toNat,by omega⟩
   have hz7:z<=7:=by omega
   have e1:(zc.getD R1 0).toNat=z:=by omega
   rw [e1,<- hT2] at HE
   have ht7:T2<=7:=by omega
   have hbt:=HBT.out j
   have hjl:(q.take j).length<=320:=by rw [List.length_take];omega
   obtain ⟨bb,hbb⟩:∃ x,x=14+3*k+rbits zc (q.take j):=⟨_,rfl⟩
   have hbb2:bb<=5000:=by omega
   have HBB:Hid (14+3*k+rbits zc (q.take (j+1))=bb+(z+T2)):=by show _=_;rw [HE.out,hbb];omega
   rw [<- hbb]
   have hXw:wr.heap[hb]? = _:=(HB.out.block hb (Array.getElem?_eq_some_iff.1 HX.out).1).trans HX.out
   have HXW:=hid hXw
   have hLw:Row wr lg zc:=HL.out.keepA HB.out
   have HLW:=hid hLw
   have m3:wr.cell? ⟨hb,3,none⟩=some (.slice (some ⟨lg,0,none⟩) 19 19):=by rw [cell_of_row _ _ 3 _ _ _ hXw];rfl
   have x3:=hLw.cell (j:=R1) (by omega)
   rw [<- hz] at x3
   have l3:=cell_in m3
   have l4:=cell_in x3
   have f1:=fun u => span_bits (.int .i64 T1) (.int .i64 T2) u
   have w1:IntKind.i64.wrap ((z:Int)+(T2:Int))=(z:Int)+(T2:Int):=by rw [IntKind.wrap_i64];omega
   have w2:IntKind.i64.wrap ((bb:Int)+((z:Int)+(T2:Int)))=(bb:Int)+((z:Int)+(T2:Int)):=by rw [IntKind.wrap_i64];omega
   have HB3:=hid ((Below.refl wr.heap.size wr).alloc (Nat.le_refl _) (.cells #[.int .i64 R1,.int .i64 R2] 225))
   clear hT1 hT2 hR1 hR2 hr hr' y1 y2 hcell hcs hz hXw hLw hbb hbt hjl e1 hzr
   go_upto_region 5 with fail
   go_region_with (go_at_call 169;refine (HTM.out _).mono ?_;rintro e w5 ⟨rfl,hb5⟩;have HW5:Hid (Below wr.heap.size wr w5):=((below_drewN' HB3.out 1).trans (hb5.mono (below_drewN' HB3.out 1).size));have m3':w5.cell? ⟨hb,3,none⟩=some (.slice (some ⟨lg,0,none⟩) 19 19):=((HW5.out.cell (p:=⟨hb,3,none⟩) l3).trans m3);have x3':w5.cell? ⟨lg,R1,none⟩=some (.int .i64 z):=((HW5.out.cell (p:=⟨lg,R1,none⟩) l4).trans x3);have n0:w5.cell? ⟨wr.heap.size,0,none⟩=some (.int .i64 R1):=((hb5.cell (p:=⟨wr.heap.size,0,none⟩) (by simp)).trans (by simp)))
   all_goals
    go_wp2
    go_roundw
    case rel =>
     refine ⟨j+1,by omega,int_eq (by omega),int_eq ?_,HB.out.trans (HW5.out.mono HB.out.size)⟩
     rw [HBB.out]
     push_cast
     rfl
    case measure => simp [intOf];omega
  ·obtain rfl:j=q.length:=by omega
   have e9:q.take q.length=q:=List.take_length
   rw [e9]
   go_wp2
   go_ret
   exact ⟨rfl,HB.out⟩
end Go.Proofs.YthdmjmnkhlpnnabGreatDoor
