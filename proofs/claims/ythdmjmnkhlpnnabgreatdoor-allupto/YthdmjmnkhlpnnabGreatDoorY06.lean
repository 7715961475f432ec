import Derived.Test.YthdmjmnkhlpnnabGreatDoorY05
import Derived.Test.YthdmjmnkhlpnnabGreatDoorZ14
namespace Go.Proofs.YthdmjmnkhlpnnabGreatDoor
open Go.RowKit
def mesR (w:World) (B:Nat) (s:ByteArray):Nat:=if intOf ((w.cell? ⟨B,4,none⟩).getD (.int .i64 0))=0 then 8*s.size+2 - posR w B else 0
theorem Rf.mes {w:World} {B:Nat} {s:ByteArray} {p:Nat} {tv:Value} {t:List UInt8} {M:Int} {E:Nat} (h:Rf w B s p tv t M E):mesR w B s=if E=0 then 8*s.size+2 - p else 0:=by
 have c4:=h.cell.2.2.2.2.1
 unfold mesR
 rw [c4,h.pos]
 simp [intOf]
theorem rcpy_no {M:Int} {b p n:Nat} {t t':List UInt8} {e:Nat} (h:cpy M b p n t = .no e t'):e ≠ 0:=by
 induction n generalizing t with
 | zero => simp [cpy] at h
 | succ n ih =>
  rw [cpy] at h
  split at h
  ·exact ih h
  ·simp at h;omega
theorem agF_ne {M:Int} {zb:List Int} {s:ByteArray} {n p:Nat} {t t':List UInt8} {e:Nat} (h:agF M zb s n p t = .no e t'):e ≠ 0:=by
 unfold agF at h
 split at h
 ·rename_i k hs
  simp at h
  have:=sym_no hs
  omega
 ·split at h
  ·simp at h;omega
  ·split at h
   ·split at h
    ·simp at h;omega
    ·exact rcpy_no h
   ·simp at h;omega
theorem alF_ne {M:Int} {zb:List Int} {s:ByteArray} {k p:Nat} {t t':List UInt8} {e:Nat} (h:alF M zb s k p t = .no e t'):e ≠ 0:=by
 unfold alF at h
 split at h
 ·exact agF_ne h
 ·simp at h;omega
theorem alF_end {M:Int} {zb:List Int} {s:ByteArray} {k p q:Nat} {t t':List UInt8} (h:alF M zb s k p t = .ok q t'):p < q /\ q<=8*s.size:=by
 unfold alF at h
 split at h
 ·have:=agF_end h
  omega
 ·simp at h
theorem ltF_al {M:Int} {za zb:List Int} {s:ByteArray} {f p:Nat} {t:List UInt8} {v:Int} {q:Nat} (h:sym za s p = .ok v q) (hv:257<=v) (hv2:v < 286):ltF M za zb s (f+1) p t =
  match alF M zb s (v - 257).toNat q t with
  | .ok p' t' => ltF M za zb s f p' t'
  | .no e t' => .no e t':=by
 by_cases hb:q+(agn (v - 257).toNat).2<=8*s.size
 ·rw [ltF_agn h hv hv2 hb,alF,if_pos hb]
  generalize agF M zb s _ _ t=r
  cases r <;> rfl
 ·rw [ltF_bits h hv hv2 hb,alF,if_neg hb]
set_option maxRecDepth 20000 in
set_option maxHeartbeats 3200000 in
theorem rcoded_any (w:World) (B:Nat) (s:ByteArray) (p:Nat) (tv:Value) (t:List UInt8) (M:Int) (za zb:List Int) (ca cb:Value) (h:Rf w B s p tv t M 0) (ha:Coder w za ca) (hb:Coder w zb cb) (hma:za.length<=320) (hmb:zb.length<=320) :
  Calls Tryz.prog 87 #[.pointer (some ⟨B,0,none⟩),ca,cb] w fun e w' => Rid B s M (ltF M za zb s (8*s.size+1) p t) w e w':=by
 obtain ⟨sa',basea,rfl,hoa⟩:=ha
 obtain ⟨sao,sac,rfl⟩:=own_shape hoa
 obtain ⟨sb',baseb,rfl,hob⟩:=hb
 obtain ⟨sbo,sbc,rfl⟩:=own_shape hob
 have hlt:=h.lt
 have hsm:=h.sml
 have hfi:=h.fit
 obtain ⟨oa,hA⟩:∃ o:Obj,o=Obj.cells (cd4 (cF za) (fun j => (cnt za j:Int)) (cA za) (.slice sao (plc za 15) sac)) 146:=⟨_,rfl⟩
 obtain ⟨ob,hB⟩:∃ o:Obj,o=Obj.cells (cd4 (cF zb) (fun j => (cnt zb j:Int)) (cA zb) (.slice sbo (plc zb 15) sbc)) 146:=⟨_,rfl⟩
 have hz1:(w.alloc oa).heap.size=w.heap.size+1:=by simp
 have HBA:Hid (((w.alloc oa).alloc ob).heap[w.heap.size]? = some (.cells (cd4 (cF za) (fun j => (cnt za j:Int)) (cA za) (.slice sao (plc za 15) sac)) 146 (0,0))):=by
  show _=_
  have h1:Below (w.alloc oa).heap.size (w.alloc oa) ((w.alloc oa).alloc ob):=(Below.refl _ _).alloc (Nat.le_refl _) ob
  rw [h1.block w.heap.size (by omega),heap_alloc_new w oa,hA]
 have HBB:Hid (((w.alloc oa).alloc ob).heap[w.heap.size+1]? = some (.cells (cd4 (cF zb) (fun j => (cnt zb j:Int)) (cA zb) (.slice sbo (plc zb 15) sbc)) 146 (0,0))):=by
  show _=_
  have:=heap_alloc_new (w.alloc oa) ob
  rw [hz1] at this
  rw [this,hB]
 have HR0:=hid ((h.alloc oa).alloc ob)
 have HOA:=hid ((hoa.alloc oa).alloc ob)
 have HOB:=hid ((hob.alloc oa).alloc ob)
 have HK0:Hid (Kp 143 B w ((w.alloc oa).alloc ob)):=((Kp.refl _ _ _).alloc (Nat.le_of_lt hlt) oa).alloc (by omega) ob
 obtain ⟨L,hL⟩:∃ L,L=ltF M za zb s (8*s.size+1) p t:=⟨_,rfl⟩
 rw [<- hL]
 have HL0:=hid hL
 clear hL h hoa hob
 go_enter Tryz.func87,Tryz.ntmps87
 go_wp2
 rw [<- hA,<- hB]
 clear hA hB
 go_loopw [6] (fun _ wr => ∃ (f q E:Nat) (u:List UInt8),Hid (∃ tv',Rf wr B s q tv' u M E) /\ (E=0 /\ 8*s.size < f+q /\ Hid (L=ltF M za zb s f q u) ∨ E ≠ 0 /\ Hid (L = .no E u)) /\ Kp 143 B ((w.alloc oa).alloc ob) wr) (fun _ wr => mesR wr B s)
 case atStart => exact ⟨8*s.size+1,p,0,t,⟨_,HR0.out⟩,.inl ⟨rfl,by omega,HL0⟩,Kp.refl _ _ _⟩
 case round =>
  clear HL0 HR0
  obtain ⟨f0,q,E,u,hR,hor,hK⟩:=hrel
  obtain ⟨tv',hR⟩:=hR.out
  have c4:=hR.cell.2.2.2.2.1
  have HMS:=hid hR.mes
  have hq:=hR.fit
  have hrom:=hR.rom
  have HRr:=hid hR
  clear hR
  rcases hor with ⟨rfl,hf0,hL⟩ | ⟨hE,hL⟩
  ·obtain ⟨f,rfl⟩:∃ f,f0=f+1:=⟨f0 - 1,by omega⟩
   have HA2:=hid (hK.cells HBA.out (by decide) (by decide))
   have HSY:=hid (rsym_any wr B s q tv' u M za (.slice sao (plc za 15) sac) basea HRr.out (own_kp HOA.out hK (.inr rfl)) hma)
   cases hr:sym za s q with
   | no en =>
    have hen:=sym_no hr
    have hbe:((en:Int) == 0)=false:=by rw [beq_eq_false_iff_ne];omega
    have hbn:((en:Int) != 0)=true:=by rw [bne_iff_ne];omega
    have HLB:Hid (L = .no en u):=by show _=_;rw [hL.out,ltF_no hr]
    rw [hr] at HSY
    go_wp2_with (first | (refine wpList_load_row rfl 146 _ rfl w.heap.size rfl 146 (cd4 (cF za) (fun j => (cnt za j:Int)) (cA za) (.slice sao (plc za 15) sac)) (0,0) _ (by exact HA2.out) Tryz.underlying146 rfl (info46' _ _ _ _) ?_) | (go_at_call 136;refine HSY.out.mono ?_;rintro e w3 ⟨rfl,hr3,hk3⟩;obtain ⟨p3,hr3⟩:=hr3;have e4:=hr3.cell.2.2.2.2.1;have HR3:=hid hr3;clear hr3))
    go_end0
    refine ⟨rfl,?_,(HK0.out.trans hK).trans hk3⟩
    rw [HLB.out]
    exact ⟨_,_,HR3.out⟩
   | ok v q2 =>
    have hv:=sym_ok hr
    rw [hr] at HSY
    by_cases h256:v=256
    ·have d1:(v == 256)=true:=beq_iff_eq.2 h256
     have HLB:Hid (L = .ok q2 u):=by show _=_;rw [hL.out,ltF_end hr h256]
     clear h256
     go_wp2_with (first | (refine wpList_load_row rfl 146 _ rfl w.heap.size rfl 146 (cd4 (cF za) (fun j => (cnt za j:Int)) (cA za) (.slice sao (plc za 15) sac)) (0,0) _ (by exact HA2.out) Tryz.underlying146 rfl (info46' _ _ _ _) ?_) | (go_at_call 136;refine HSY.out.mono ?_;rintro e w3 ⟨rfl,hr3,hk3⟩;have e4:=hr3.cell.2.2.2.2.1;have HB3:=hid ((hK.trans hk3).cells HBB.out (by decide) (by decide));have HK3:=hid (hK.trans hk3);have HR3:=hid hr3;clear hr3 hk3))
     go_end0
     refine ⟨rfl,?_,HK0.out.trans HK3.out⟩
     rw [HLB.out]
     exact ⟨_,HR3.out⟩
    ·have d1:(v == 256)=false:=beq_eq_false_iff_ne.2 h256
     by_cases h285:285 < v
     ·have d2:decide (285 < v)=true:=by simp;omega
      have HLB:Hid (L = .no 4 u):=by show _=_;rw [hL.out,ltF_not hr (by omega)]
      go_wp2_with (first | (refine wpList_load_row rfl 146 _ rfl w.heap.size rfl 146 (cd4 (cF za) (fun j => (cnt za j:Int)) (cA za) (.slice sao (plc za 15) sac)) (0,0) _ (by exact HA2.out) Tryz.underlying146 rfl (info46' _ _ _ _) ?_) | (go_at_call 136;refine HSY.out.mono ?_;rintro e w3 ⟨rfl,hr3,hk3⟩;have e4:=hr3.cell.2.2.2.2.1;have HB3:=hid ((hK.trans hk3).cells HBB.out (by decide) (by decide));have HK3:=hid (hK.trans hk3);have HR3:=hid hr3;clear hr3 hk3) | (go_at_call 89;refine (stop_any _ _ _ _ _ _ _ 4 HR3.out).mono ?_;rintro e w4 ⟨rfl,hr4,hk4⟩))
      refine ⟨⟨f,_,4,u,⟨_,hr4⟩,.inr ⟨by omega,HLB⟩,HK3.out.trans hk4⟩,?_⟩
      rw [hr4.mes,HMS.out]
      simp
      omega
     ·have d2:decide (285 < v)=false:=by simp;omega
      by_cases h257:256 < v
      ·have d3:decide (256 < v)=true:=by simp;omega
       obtain ⟨k,hk⟩:∃ k,k=(v - 257).toNat:=⟨_,rfl⟩
       have hk28:k<=28:=by omega
       have hvk:v=257+(k:Int):=by omega
       have HVK:=hid hvk
       have HLA:=hid (hL.out.trans (ltF_al hr (by omega) (by omega)))
       rw [<- hk] at HLA
       clear hk hvk hL
       cases hal:alF M zb s k q2 u with
       | no ea ua =>
        have hea:=alF_ne hal
        have HLB:Hid (L = .no ea ua):=by show _=_;rw [HLA.out,hal]
        go_wp2_with (first | (refine wpList_load_row rfl 146 _ rfl (w.heap.size+1) rfl 146 (cd4 (cF zb) (fun j => (cnt zb j:Int)) (cA zb) (.slice sbo (plc zb 15) sbc)) (0,0) _ (by exact HB3.out) Tryz.underlying146 rfl (info46' _ _ _ _) ?_) | (refine wpList_load_row rfl 146 _ rfl w.heap.size rfl 146 (cd4 (cF za) (fun j => (cnt za j:Int)) (cA za) (.slice sao (plc za 15) sac)) (0,0) _ (by exact HA2.out) Tryz.underlying146 rfl (info46' _ _ _ _) ?_) | (go_at_call 136;refine HSY.out.mono ?_;rintro e w3 ⟨rfl,hr3,hk3⟩;have e4:=hr3.cell.2.2.2.2.1;have HB3:=hid ((hK.trans hk3).cells HBB.out (by decide) (by decide));have HK3:=hid (hK.trans hk3);have HR3:=hid hr3;clear hr3 hk3) | (go_at_call 137;have hag:=ragain_any w3 B s q2 tv' u M zb _ k v HR3.out ⟨_,baseb,rfl,own_kp HOB.out HK3.out (.inr rfl)⟩ hmb hk28 HVK.out (by omega);rw [hal] at hag;refine hag.mono ?_;clear hag;rintro e w4 ⟨rfl,hr4,hk4⟩))
        obtain ⟨p4,tv4,hr4⟩:=hr4
        refine ⟨⟨f,_,ea,ua,⟨_,hr4⟩,.inr ⟨hea,HLB⟩,HK3.out.trans hk4⟩,?_⟩
        rw [hr4.mes,HMS.out,if_neg hea]
        simp
        omega
       | ok pa ua =>
        have hpa:=alF_end hal
        have HLB:Hid (L=ltF M za zb s f pa ua):=by show _=_;rw [HLA.out,hal]
        go_wp2_with (first | (refine wpList_load_row rfl 146 _ rfl (w.heap.size+1) rfl 146 (cd4 (cF zb) (fun j => (cnt zb j:Int)) (cA zb) (.slice sbo (plc zb 15) sbc)) (0,0) _ (by exact HB3.out) Tryz.underlying146 rfl (info46' _ _ _ _) ?_) | (refine wpList_load_row rfl 146 _ rfl w.heap.size rfl 146 (cd4 (cF za) (fun j => (cnt za j:Int)) (cA za) (.slice sao (plc za 15) sac)) (0,0) _ (by exact HA2.out) Tryz.underlying146 rfl (info46' _ _ _ _) ?_) | (go_at_call 136;refine HSY.out.mono ?_;rintro e w3 ⟨rfl,hr3,hk3⟩;have e4:=hr3.cell.2.2.2.2.1;have HB3:=hid ((hK.trans hk3).cells HBB.out (by decide) (by decide));have HK3:=hid (hK.trans hk3);have HR3:=hid hr3;clear hr3 hk3) | (go_at_call 137;have hag:=ragain_any w3 B s q2 tv' u M zb _ k v HR3.out ⟨_,baseb,rfl,own_kp HOB.out HK3.out (.inr rfl)⟩ hmb hk28 HVK.out (by omega);rw [hal] at hag;refine hag.mono ?_;clear hag;rintro e w4 ⟨rfl,hr4,hk4⟩))
        obtain ⟨tv4,hr4⟩:=hr4
        refine ⟨⟨f,pa,0,ua,⟨_,hr4⟩,.inl ⟨rfl,by omega,HLB⟩,HK3.out.trans hk4⟩,?_⟩
        rw [hr4.mes,HMS.out]
        simp
        omega
      ·have d3:decide (256 < v)=false:=by simp;omega
       have hu8:=u8_byte v (by omega) (by omega)
       have HU8:=hid hu8
       have hv256:v < 256:=by omega
       have hv0:0<=v:=hv.2.2.1
       clear hu8
       by_cases hM:(u.length:Int) < M
       ·have HLB:Hid (L=ltF M za zb s f q2 (u ++ [UInt8.ofNat v.toNat])):=by show _=_;rw [hL.out,ltF_lit hr (by omega) hM]
        go_wp2_with (first | (refine wpList_load_row rfl 146 _ rfl w.heap.size rfl 146 (cd4 (cF za) (fun j => (cnt za j:Int)) (cA za) (.slice sao (plc za 15) sac)) (0,0) _ (by exact HA2.out) Tryz.underlying146 rfl (info46' _ _ _ _) ?_) | (go_at_call 136;refine HSY.out.mono ?_;rintro e w3 ⟨rfl,hr3,hk3⟩;have e4:=hr3.cell.2.2.2.2.1;have HB3:=hid ((hK.trans hk3).cells HBB.out (by decide) (by decide));have HK3:=hid (hK.trans hk3);have HR3:=hid hr3;clear hr3 hk3) | (go_at_call 134;rw [<- HU8.out];refine (put_ok _ _ _ _ _ _ _ _ HR3.out hM (by omega)).mono ?_;rintro e w4 ⟨rfl,hr4,hk4⟩))
        obtain ⟨tv4,hr4⟩:=hr4
        refine ⟨⟨f,q2,0,_,⟨_,hr4⟩,.inl ⟨rfl,by omega,HLB⟩,HK3.out.trans hk4⟩,?_⟩
        rw [hr4.mes,HMS.out]
        simp
        omega
       ·have HLB:Hid (L = .no 6 u):=by show _=_;rw [hL.out,ltF_big hr (by omega) hM]
        go_wp2_with (first | (refine wpList_load_row rfl 146 _ rfl w.heap.size rfl 146 (cd4 (cF za) (fun j => (cnt za j:Int)) (cA za) (.slice sao (plc za 15) sac)) (0,0) _ (by exact HA2.out) Tryz.underlying146 rfl (info46' _ _ _ _) ?_) | (go_at_call 136;refine HSY.out.mono ?_;rintro e w3 ⟨rfl,hr3,hk3⟩;have e4:=hr3.cell.2.2.2.2.1;have HB3:=hid ((hK.trans hk3).cells HBB.out (by decide) (by decide));have HK3:=hid (hK.trans hk3);have HR3:=hid hr3;clear hr3 hk3) | (go_at_call 134;rw [<- HU8.out];refine (put_no _ _ _ _ _ _ _ _ HR3.out (by omega)).mono ?_;rintro e w4 ⟨rfl,hr4,hk4⟩))
        refine ⟨⟨f,q2,6,u,⟨_,hr4⟩,.inr ⟨by omega,HLB⟩,HK3.out.trans hk4⟩,?_⟩
        rw [hr4.mes,HMS.out]
        simp
        omega
  ·have hb0:((E:Int) == 0)=false:=by rw [beq_eq_false_iff_ne];omega
   go_wp2
   go_end0
   refine ⟨rfl,?_,HK0.out.trans hK⟩
   rw [hL.out]
   exact ⟨_,_,HRr.out⟩
end Go.Proofs.YthdmjmnkhlpnnabGreatDoor
namespace Go.Proofs.YthdmjmnkhlpnnabGreatDoor
open Go.RowKit
set_option maxRecDepth 20000 in
set_option maxHeartbeats 1600000 in
theorem rcoded_err (w:World) (B:Nat) (s:ByteArray) (p:Nat) (tv:Value) (t:List UInt8) (M:Int) (E:Nat) (f m a f' m' a':Nat->Int) (so so':Option Addr) (n c n' c':Nat) (h:Rf w B s p tv t M E) (hE:E ≠ 0) :
  Calls Tryz.prog 87 #[.pointer (some ⟨B,0,none⟩),.agg (cd4 f m a (.slice so n c)),.agg (cd4 f' m' a' (.slice so' n' c'))] w fun e w' => e = .returned (.tuple #[]) /\ Rf w' B s p tv t M E /\ Kp 143 B w w':=by
 have hlt:=h.lt
 obtain ⟨oa,hA⟩:∃ o:Obj,o=Obj.cells (cd4 f m a (.slice so n c)) 146:=⟨_,rfl⟩
 obtain ⟨ob,hB⟩:∃ o:Obj,o=Obj.cells (cd4 f' m' a' (.slice so' n' c')) 146:=⟨_,rfl⟩
 have HR0:=hid ((h.alloc oa).alloc ob)
 have HK0:Hid (Kp 143 B w ((w.alloc oa).alloc ob)):=((Kp.refl _ _ _).alloc (Nat.le_of_lt hlt) oa).alloc (by simp;omega) ob
 have hb0:((E:Int) == 0)=false:=by rw [beq_eq_false_iff_ne];omega
 have e4:=HR0.out.cell.2.2.2.2.1
 clear h
 go_enter Tryz.func87,Tryz.ntmps87
 go_wp2
 rw [<- hA,<- hB]
 clear hA hB
 go_loopw [6] (fun _ wr => wr=(w.alloc oa).alloc ob) (fun _ _ => 0)
 case atStart => rfl
 case round =>
  obtain rfl:=hrel
  go_wp2
  go_end0
  exact ⟨rfl,HR0.out,HK0.out⟩
end Go.Proofs.YthdmjmnkhlpnnabGreatDoor
