import Derived.Test.YthdmjmnkhlpnnabGreatDoorY09
import Derived.Test.YthdmjmnkhlpnnabGreatDoorY06
import Derived.Test.YthdmjmnkhlpnnabGreatDoorZ16
import Derived.Deep.DeepCutAuto
namespace Go.Proofs.YthdmjmnkhlpnnabGreatDoor
open Go.RowKit
theorem rf_new (w:World) (s:ByteArray) (M:Int) (hs:s.size<=16777216) (hM:0<=M):Rf (w.alloc (.cells #[.string s,.int .i64 0,.slice none 0 0,.int .i64 M,.int .i64 0,.int .i64 0] 143)) w.heap.size s 0 (.slice none 0 0) [] M 0 :=
 ⟨⟨0,heap_alloc_new w _⟩,⟨rfl,Or.inl ⟨rfl,rfl⟩⟩,hs,by omega,by simp;omega,by simp⟩
theorem rin_close {W wr w9:World} {B:Nat} {s:ByteArray} {M:Int} {L:Tx} {f q k lb:Nat} {u:List UInt8} (hL:L=blF M s (f+1) q u) (h3:q+3<=8*s.size) (hk:k=val s (q+1) 2) (hlb:lb=bitAt s q) (hf:8*s.size < f+1+q)
  (hm:match bkF M s k (q+3) u with | .ok p t => ∃ tv,Rf w9 B s p tv t M 0 | .no e t => ∃ p' tv,Rf w9 B s p' tv t M e) (hK:Kp 143 B W w9) (hms:mesR wr B s=8*s.size+2 - q) :
  (∃ (f q E l:Nat) (u:List UInt8) (tv:Value),Value.int .i64 lb = .int .i64 l /\ Hid (Rf w9 B s q tv u M E) /\ Hid (Kp 143 B W w9) /\ (E=0 /\ l=0 /\ 8*s.size < f+q /\ Hid (L=blF M s f q u) ∨ E=0 /\ l=1 /\ Hid (L = .ok q u) ∨ E ≠ 0 /\ Hid (L = .no E u))) /\ mesR w9 B s < mesR wr B s:=by
 have hl2:=bitAt_lt s q
 cases hr:bkF M s k (q+3) u with
 | ok q7 u7 =>
  rw [hr] at hm
  obtain ⟨tv,h9⟩:=hm
  have hend:=bkF_end hr h3
  rw [blF_ok h3 (by rw [<- hk];exact hr)] at hL
  refine ⟨⟨f,q7,0,lb,u7,tv,rfl,h9,hK,?_⟩,?_⟩
  ·by_cases h1:bitAt s q=1
   ·rw [if_pos h1] at hL
    exact .inr (.inl ⟨rfl,by omega,hL⟩)
   ·rw [if_neg h1] at hL
    exact .inl ⟨rfl,by omega,by omega,hL⟩
  ·rw [h9.mes,hms,if_pos rfl]
   omega
 | no e7 u7 =>
  rw [hr] at hm
  obtain ⟨p',tv,h9⟩:=hm
  have hne:=bkF_nz hr
  rw [blF_no h3 (by rw [<- hk];exact hr)] at hL
  refine ⟨⟨f,p',e7,lb,u7,tv,rfl,h9,hK,.inr (.inr ⟨hne,hL⟩)⟩,?_⟩
  rw [h9.mes,hms,if_neg hne]
  omega
theorem lay_two (w:World) (Z:Array Value) :
  ((w.alloc (.cells Z 146)).alloc (.cells Z 146)).heap[w.heap.size]? = some (.cells Z 146 (0,0)) /\
  (∀ ca,(((w.alloc (.cells Z 146)).alloc (.cells Z 146)).setRow w.heap.size ca).heap[w.heap.size+1]? = some (.cells Z 146 (0,0))) /\
  (∀ ca cb,((((w.alloc (.cells Z 146)).alloc (.cells Z 146)).setRow w.heap.size ca).setRow (w.heap.size+1) cb).heap[w.heap.size]? = some (.cells ca 146 (0,0))) /\
  (∀ ca cb,((((w.alloc (.cells Z 146)).alloc (.cells Z 146)).setRow w.heap.size ca).setRow (w.heap.size+1) cb).heap[w.heap.size+1]? = some (.cells cb 146 (0,0))) /\
  (∀ ca cb,Below w.heap.size w ((((w.alloc (.cells Z 146)).alloc (.cells Z 146)).setRow w.heap.size ca).setRow (w.heap.size+1) cb)):=by
 obtain ⟨o,ho⟩:∃ o:Obj,o = .cells Z 146:=⟨_,rfl⟩
 rw [<- ho]
 have s1:(w.alloc o).heap.size=w.heap.size+1:=by simp
 have b1:Below w.heap.size w (w.alloc o):=(Below.refl _ _).alloc (Nat.le_refl _) o
 have b2:Below (w.alloc o).heap.size (w.alloc o) ((w.alloc o).alloc o):=(Below.refl _ _).alloc (Nat.le_refl _) o
 have e1:=heap_alloc_new w o
 have e2:=heap_alloc_new (w.alloc o) o
 rw [s1] at e2
 have h1:((w.alloc o).alloc o).heap[w.heap.size]? = some (.cells Z 146 (0,0)):=by rw [b2.block _ (by omega),e1,ho]
 have h2:∀ ca,(((w.alloc o).alloc o).setRow w.heap.size ca).heap[w.heap.size+1]? = some (.cells Z 146 (0,0)):=fun ca => by rw [setRow_other _ _ _ _ (by omega),e2,ho]
 refine ⟨h1.trans (by rw [ho]),fun ca => (h2 ca).trans (by rw [ho]),fun ca cb => ?_,fun ca cb => ?_,fun ca cb => ?_⟩
 ·rw [setRow_other _ _ _ _ (by omega)]
  exact setRow_heap _ _ _ _ _ _ h1
 ·exact setRow_heap _ _ _ _ _ _ (h2 ca)
 ·exact below_row (below_row (b1.trans (b2.mono (by omega))) (Nat.le_refl _) _) (by omega) _
structure Cells (w:World) (zs:List Int) (C:Array Value):Prop where
 size:C.size=49
 one:C.all (·.oneCell')=true
 coder:Coder w zs (.agg C)
theorem Cells.info {w:World} {zs:List Int} {C:Array Value} (h:Cells w zs C):(Tryz.prog.info? 146).map (·.size)=some C.size:=by
 rw [h.size,<- cd0_size]
 exact cd0_info
theorem coder_cells {w:World} {zs:List Int} {v:Value} (h:Coder w zs v):∃ C,v = .agg C /\ Hid (Cells w zs C):=by
 have h':=h
 obtain ⟨sv,b,rfl,ho⟩:=h
 obtain ⟨so,sc,rfl⟩:=own_shape ho
 exact ⟨_,rfl,cd4_size _ _ _ _,cd4_one _ _ _ _ _ _,h'⟩
theorem lit_size (Z C:Array Value) (h:Z=cd0) (hC:C.size=49):Z.size=C.size:=by rw [h,hC,cd0_size]
theorem rcoded_none (w:World) (B:Nat) (s:ByteArray) (p:Nat) (tv:Value) (t:List UInt8) (M:Int) (E:Nat) (h:Rf w B s p tv t M E) (hE:E ≠ 0) (C:Array Value) (hC:C=cd0) :
  Calls Tryz.prog 87 #[.pointer (some ⟨B,0,none⟩),.agg C,.agg C] w fun e w' => e = .returned (.tuple #[]) /\ Rf w' B s p tv t M E /\ Kp 143 B w w':=by
 subst hC
 exact rcoded_err w B s p tv t M E _ _ _ _ _ _ _ _ _ _ _ _ h hE
theorem none_info {C:Array Value} (h:C=cd0):(Tryz.prog.info? 146).map (·.size)=some C.size:=by
 subst h
 exact cd0_info
theorem none_size {C:Array Value} (h:C=cd0):C.size=49:=by
 subst h
 exact cd0_size
theorem none_one {C:Array Value} (h:C=cd0):C.all (·.oneCell')=true:=by
 subst h
 exact cd0_one
structure None (C:Array Value):Prop where
 eq:C=cd0
theorem None.info {C:Array Value} (h:None C):(Tryz.prog.info? 146).map (·.size)=some C.size:=none_info h.eq
theorem None.size {C:Array Value} (h:None C):C.size=49:=none_size h.eq
theorem None.one {C:Array Value} (h:None C):C.all (·.oneCell')=true:=none_one h.eq
theorem rtext_run (w:World) (B:Nat) (s:ByteArray) (p:Nat) (tv:Value) (t:List UInt8) (M:Int) (E:Nat) (h:Rf w B s p tv t M E):(convert 72 9 tv).run Tryz.prog w = .ok (.string ⟨t.toArray⟩) w:=by
 by_cases h0:0 < t.length
 ·obtain ⟨g,c,rfl,-⟩:=h.byte 0 h0
  refine run_convert_bytes_back w 72 9 5 ⟨g,0,none⟩ c t Tryz.underlying72 Tryz.underlying5 Tryz.underlying9 (fun j hj => ?_)
  obtain ⟨g',c',he,hc⟩:=h.byte j hj
  injection he with e1 _ _
  injection e1 with e1
  injection e1 with e1 _ _
  subst e1
  have e2:(⟨g,0,none⟩:Addr).add j=⟨g,j,none⟩:=by unfold Addr.add;split <;> simp_all
  rw [e2,hc]
  simp [List.getD_eq_getElem?_getD,List.getElem?_eq_getElem hj]
 ·have ht:t=[]:=List.eq_nil_of_length_eq_zero (by omega)
  subst ht
  obtain ⟨_,⟨rfl,_⟩ | ⟨g,cap,cur,rfl,hg,hh,_⟩⟩:=h.own
  ·exact run_convert_bytes_nil w 72 5 Tryz.underlying72 Tryz.underlying5 0 0 9 Tryz.underlying9
  ·exact run_convert_bytes_back w 72 9 5 ⟨g,0,none⟩ cap [] Tryz.underlying72 Tryz.underlying5 Tryz.underlying9 (fun j hj => by simp at hj)
set_option maxRecDepth 20000 in
set_option maxHeartbeats 6400000 in
theorem rinflate_any (w:World) (s:ByteArray) (m:Int) (hs:s.size<=16777216) :
  Calls Tryz.prog 47 #[.string s,.int .i64 m] w fun e w' => e = .returned (.tuple #[.string (ou s (max m 0)).1,.int .i64 (ou s (max m 0)).2.1,.int .i64 (ou s (max m 0)).2.2]) /\ Below w.heap.size w w':=by
 obtain ⟨M,hM⟩:∃ M,M=max m 0:=⟨_,rfl⟩
 have hM0:0<=M:=by omega
 obtain ⟨L,hL⟩:∃ L,L=inF s M:=⟨_,rfl⟩
 have HR0:=hid (rf_new w s M hs hM0)
 have HB0:Hid (Below w.heap.size w (w.alloc (.cells #[.string s,.int .i64 0,.slice none 0 0,.int .i64 M,.int .i64 0,.int .i64 0] 143))):=(Below.refl _ _).alloc (Nat.le_refl _) _
 have HMM:=hid hM
 have HL0:=hid hL
 rw [<- hM]
 clear hM hL
 go_enter Tryz.func47,Tryz.ntmps47
 go_upto_if 15 with fail
 go_cut [1] (fun v wx => v = .int .i64 M /\ wx=w)
 case first =>
  by_cases hm:m < 0
  ·have d:decide (m < 0)=true:=by simp [hm]
   have HV:Hid (M=0):=by show M=0;rw [HMM.out];omega
   go_wp2
   go_meet
   exact ⟨by rw [HV.out],rfl⟩
  ·have d:decide (m < 0)=false:=by simp [hm]
   have HV:Hid (M=m):=by show M=m;rw [HMM.out];omega
   go_wp2
   go_meet
   exact ⟨by rw [HV.out],rfl⟩
 case rest =>
 obtain ⟨rfl,rfl⟩:=hcut
 go_wp2
 generalize hW:(wc.alloc (.cells #[.string s,.int .i64 0,.slice none 0 0,.int .i64 M,.int .i64 0,.int .i64 0] 143))=W at HR0 HB0 ⊢
 obtain ⟨B,hB⟩:∃ B,B=wc.heap.size:=⟨_,rfl⟩
 rw [<- hB] at HR0 ⊢
 have HBB:=hid hB
 clear hW hB
 go_loopw [8] (fun lv wr => ∃ (f q E l:Nat) (u:List UInt8) (tv:Value),lv = .int .i64 l /\ Hid (Rf wr B s q tv u M E) /\ Hid (Kp 143 B W wr) /\ (E=0 /\ l=0 /\ 8*s.size < f+q /\ Hid (L=blF M s f q u) ∨ E=0 /\ l=1 /\ Hid (L = .ok q u) ∨ E ≠ 0 /\ Hid (L = .no E u))) (fun _ wr => mesR wr B s)
 case atStart => exact ⟨8*s.size+1,0,0,0,[],_,rfl,HR0,Kp.refl _ _ _,.inl ⟨rfl,rfl,by omega,HL0⟩⟩
 case round =>
  have HLL:=HL0
  clear HL0 HR0
  obtain ⟨f0,q,E,l,u,tv,rfl,hR,hK,hcase⟩:=hrel
  have e4:=hR.out.cell.2.2.2.2.1
  have hq:=hR.out.fit
  have HMS:=hid hR.out.mes
  rcases hcase with ⟨rfl,rfl,hf0,hL⟩ | ⟨rfl,rfl,hL⟩ | ⟨hE,hL⟩
  ·obtain ⟨f,rfl⟩:∃ f,f0=f+1:=⟨f0 - 1,by omega⟩
   rw [if_pos rfl] at HMS
   by_cases h3:q+3<=8*s.size
   ·obtain ⟨k,hk⟩:∃ k,k=val s (q+1) 2:=⟨_,rfl⟩
    have hk4:k < 4:=by rw [hk];exact val_lt s (q+1) 2
    obtain ⟨lb,hlb⟩:∃ lb,lb=bitAt s q:=⟨_,rfl⟩
    have hlb2:lb < 2:=by rw [hlb];exact bitAt_lt _ _
    have HKK:=hid hk
    have HLB:=hid hlb
    clear hk hlb
    go_upto_region 9 with (first | (go_at_call 83;refine (rbit_ok _ _ _ _ _ _ _ hR.out (by omega)).mono ?_;rintro e w1 ⟨rfl,hr1,hk1⟩;rw [<- HLB.out];have HR1:=hid hr1;have HK1:=hid hk1;clear hr1 hk1) | (go_at_call 84;refine (rnum_ok _ _ _ _ _ _ _ HR1.out 2 (by omega) (by omega)).mono ?_;rintro e w2 ⟨rfl,hr2,hk2⟩;rw [<- HKK.out];have e5:=hr2.cell.2.2.2.2.1;have HR2:=hid hr2;have HK2:=hid hk2;clear hr2 hk2))
    have e3:q+1+2=q+3:=rfl
    rw [e3] at HR2
    clear e3
    have HK3:Hid (Kp 143 B W w2):=(hK.out.trans HK1.out).trans HK2.out
    obtain rfl | rfl | rfl | rfl:k=0 ∨ k=1 ∨ k=2 ∨ k=3:=by omega
    ·go_wp2_with (go_at_call 85;refine (plain_any _ _ _ _ _ _ _ HR2.out).mono ?_;rintro e w9 ⟨rfl,hm9,hk9⟩;have HM9:=hid hm9;have HK9:=hid (HK3.out.trans hk9);clear hm9 hk9)
     exact rin_close hL.out h3 HKK.out HLB.out (by omega) HM9.out HK9.out HMS.out
    ·obtain ⟨za,hza⟩:∃ za,za=zfa:=⟨_,rfl⟩
     obtain ⟨zb,hzb⟩:∃ zb,zb=zfb:=⟨_,rfl⟩
     have HZA:=hid hza
     have HZB:=hid hzb
     have HLA:Hid (za.length<=320):=by show _<=_;rw [hza,rzfa_len];omega
     have HLB2:Hid (zb.length<=320):=by show _<=_;rw [hzb,rzfb_len];omega
     have HBK:Hid (bkF M s 1 (q+3) u=ltF M za zb s (8*s.size+1) (q+3) u):=by show _=_;rw [hza,hzb];rfl
     clear hza hzb
     have HF1:Hid True:=trivial
     have HF2:Hid True:=trivial
     have HF3:Hid True:=trivial
     have HF4:Hid True:=trivial
     go_upto_region 14 with (first | (go_at_call 86;refine (rfixed_any _).mono ?_;rintro e w3 ⟨ca,cb,rfl,hca,hcb,hb3⟩;rw [<- HZA.out] at hca;rw [<- HZB.out] at hcb;obtain ⟨CA,rfl,HCA⟩:=coder_cells hca;obtain ⟨CB,rfl,HCB⟩:=coder_cells hcb;have HB3:=hid hb3;have HLT:=hid (lay_two w3);clear hca hcb hb3) | (have hflag:=HF1;refine wpList_store_row rfl 146 _ _ rfl w3.heap.size CA rfl rfl 146 _ (by exact (HLT.out _).1) HCA.out.info (lit_size _ _ cd4_zero HCA.out.size) HCA.out.one ?_;clear hflag HF1) | (have hflag:=HF2;refine wpList_store_row rfl 146 _ _ rfl (w3.heap.size+1) CB rfl rfl 146 _ (by exact (HLT.out _).2.1 _) HCB.out.info (lit_size _ _ cd4_zero HCB.out.size) HCB.out.one ?_;clear hflag HF2))
     rw [cd4_zero]
     have hx1:=(HLT.out (cd4 (fun _ => 0) (fun _ => 0) (fun _ => 0) (.slice none 0 0))).2.2.1 CA CB
     have hx2:=(HLT.out (cd4 (fun _ => 0) (fun _ => 0) (fun _ => 0) (.slice none 0 0))).2.2.2.1 CA CB
     have hx3:=(HLT.out (cd4 (fun _ => 0) (fun _ => 0) (fun _ => 0) (.slice none 0 0))).2.2.2.2 CA CB
     generalize ((((w3.alloc (.cells (cd4 (fun _ => 0) (fun _ => 0) (fun _ => 0) (.slice none 0 0)) 146)).alloc (.cells (cd4 (fun _ => 0) (fun _ => 0) (fun _ => 0) (.slice none 0 0)) 146)).setRow w3.heap.size CA).setRow (w3.heap.size+1) CB)=X at hx1 hx2 hx3 ⊢
     have HX1:=hid hx1
     have HX2:=hid hx2
     have HX3:=hid hx3
     clear hx1 hx2 hx3 HLT
     go_wp2_with (first | (have hflag:=HF3;refine wpList_load_row rfl 146 _ rfl w3.heap.size rfl 146 CA (0,0) _ (by exact HX1.out) Tryz.underlying146 rfl HCA.out.info ?_;clear hflag HF3) | (have hflag:=HF4;refine wpList_load_row rfl 146 _ rfl (w3.heap.size+1) rfl 146 CB (0,0) _ (by exact HX2.out) Tryz.underlying146 rfl HCB.out.info ?_;clear hflag HF4) | (go_at_call 87;refine (rcoded_any X B s (q+3) tv u M za zb _ _ ((HR2.out.below HB3.out).below HX3.out) (HCA.out.coder.below HX3.out) (HCB.out.coder.below HX3.out) HLA.out HLB2.out).mono ?_;rintro e w9 ⟨rfl,hm9,hk9⟩;rw [<- HBK.out] at hm9;have HM9:=hid hm9;have HK9:=hid (((HK3.out.trans (Kp.ofBelow HB3.out (Nat.le_of_lt HR2.out.lt))).trans (Kp.ofBelow HX3.out (Nat.le_trans (Nat.le_of_lt HR2.out.lt) HB3.out.size))).trans hk9);clear hm9 hk9))
     exact rin_close hL.out h3 HKK.out HLB.out (by omega) HM9.out HK9.out HMS.out
    ·have HOW:=hid (rown_any w2 B s (q+3) tv u M HR2.out)
     have HF1:Hid True:=trivial
     have HF2:Hid True:=trivial
     have HF3:Hid True:=trivial
     have HF4:Hid True:=trivial
     cases how:owF s (q+3) with
     | no e7 =>
      rw [how] at HOW
      have he7:=owF_nz how
      have HBK:Hid (bkF M s 2 (q+3) u = .no e7 u):=by show _=_;unfold bkF;rw [if_neg (by omega),if_neg (by omega),if_pos rfl,how]
      obtain ⟨C,hC⟩:∃ C,C=cd0:=⟨_,rfl⟩
      have HC:Hid (None C):=⟨hC⟩
      have HC0:=hid hC
      have HOW2:Hid (Calls Tryz.prog 88 #[.pointer (some ⟨B,0,none⟩)] w2 fun e w' => e = .returned (.tuple #[.agg C,.agg C]) /\ (∃ p',Rf w' B s p' tv u M e7) /\ Kp 143 B w2 w'):=by rw [hC];exact HOW.out
      clear hC how HOW
      go_upto_region 17 with (first | (go_at_call 88;refine HOW2.out.mono ?_;rintro e w3 ⟨rfl,⟨p3,hr3⟩,hk3⟩;have HR3:=hid hr3;have HKa:=hid hk3;have HLT:=hid (lay_two w3);clear hr3 hk3) | (have hflag:=HF1;refine wpList_store_row rfl 146 _ _ rfl w3.heap.size C rfl rfl 146 _ (by exact (HLT.out _).1) HC.out.info (lit_size _ _ cd4_zero HC.out.size) HC.out.one ?_;clear hflag HF1) | (have hflag:=HF2;refine wpList_store_row rfl 146 _ _ rfl (w3.heap.size+1) C rfl rfl 146 _ (by exact (HLT.out _).2.1 _) HC.out.info (lit_size _ _ cd4_zero HC.out.size) HC.out.one ?_;clear hflag HF2))
      rw [cd4_zero]
      have hx1:=(HLT.out (cd4 (fun _ => 0) (fun _ => 0) (fun _ => 0) (.slice none 0 0))).2.2.1 C C
      have hx2:=(HLT.out (cd4 (fun _ => 0) (fun _ => 0) (fun _ => 0) (.slice none 0 0))).2.2.2.1 C C
      have hx3:=(HLT.out (cd4 (fun _ => 0) (fun _ => 0) (fun _ => 0) (.slice none 0 0))).2.2.2.2 C C
      generalize ((((w3.alloc (.cells (cd4 (fun _ => 0) (fun _ => 0) (fun _ => 0) (.slice none 0 0)) 146)).alloc (.cells (cd4 (fun _ => 0) (fun _ => 0) (fun _ => 0) (.slice none 0 0)) 146)).setRow w3.heap.size C).setRow (w3.heap.size+1) C)=X at hx1 hx2 hx3 ⊢
      have HX1:=hid hx1
      have HX2:=hid hx2
      have HX3:=hid hx3
      clear hx1 hx2 hx3 HLT
      go_wp2_with (first | (have hflag:=HF3;refine wpList_load_row rfl 146 _ rfl w3.heap.size rfl 146 C (0,0) _ (by exact HX1.out) Tryz.underlying146 rfl HC.out.info ?_;clear hflag HF3) | (have hflag:=HF4;refine wpList_load_row rfl 146 _ rfl (w3.heap.size+1) rfl 146 C (0,0) _ (by exact HX2.out) Tryz.underlying146 rfl HC.out.info ?_;clear hflag HF4) | (go_at_call 87;refine (rcoded_none X B s p3 tv u M e7 (HR3.out.below HX3.out) he7 C HC0.out).mono ?_;rintro e w9 ⟨rfl,hr9,hk9⟩;have HM9:Hid (match bkF M s 2 (q+3) u with | .ok p t => ∃ tv,Rf w9 B s p tv t M 0 | .no e t => ∃ p' tv,Rf w9 B s p' tv t M e):=(by show (match bkF M s 2 (q+3) u with | .ok p t => ∃ tv,Rf w9 B s p tv t M 0 | .no e t => ∃ p' tv,Rf w9 B s p' tv t M e);rw [HBK.out];exact ⟨_,_,hr9⟩);have HK9:=hid (((HK3.out.trans HKa.out).trans (Kp.ofBelow HX3.out (Nat.le_of_lt HR3.out.lt))).trans hk9);clear hr9 hk9))
      exact rin_close hL.out h3 HKK.out HLB.out (by omega) HM9.out HK9.out HMS.out
     | ok za zb q7 =>
      rw [how] at HOW
      have hlen:=owF_len how
      have HLA:Hid (za.length<=320):=hlen.1
      have HLB2:Hid (zb.length<=320):=hlen.2.1
      have HBK:Hid (bkF M s 2 (q+3) u=ltF M za zb s (8*s.size+1) q7 u):=by show _=_;unfold bkF;rw [if_neg (by omega),if_neg (by omega),if_pos rfl,how]
      clear how hlen
      go_upto_region 17 with (first | (go_at_call 88;refine HOW.out.mono ?_;rintro e w3 ⟨ca,cb,rfl,hca,hcb,hr3,hk3⟩;obtain ⟨CA,rfl,HCA⟩:=coder_cells hca;obtain ⟨CB,rfl,HCB⟩:=coder_cells hcb;have HR3:=hid hr3;have HKa:=hid hk3;have HLT:=hid (lay_two w3);clear hca hcb hr3 hk3) | (have hflag:=HF1;refine wpList_store_row rfl 146 _ _ rfl w3.heap.size CA rfl rfl 146 _ (by exact (HLT.out _).1) HCA.out.info (lit_size _ _ cd4_zero HCA.out.size) HCA.out.one ?_;clear hflag HF1) | (have hflag:=HF2;refine wpList_store_row rfl 146 _ _ rfl (w3.heap.size+1) CB rfl rfl 146 _ (by exact (HLT.out _).2.1 _) HCB.out.info (lit_size _ _ cd4_zero HCB.out.size) HCB.out.one ?_;clear hflag HF2))
      rw [cd4_zero]
      have hx1:=(HLT.out (cd4 (fun _ => 0) (fun _ => 0) (fun _ => 0) (.slice none 0 0))).2.2.1 CA CB
      have hx2:=(HLT.out (cd4 (fun _ => 0) (fun _ => 0) (fun _ => 0) (.slice none 0 0))).2.2.2.1 CA CB
      have hx3:=(HLT.out (cd4 (fun _ => 0) (fun _ => 0) (fun _ => 0) (.slice none 0 0))).2.2.2.2 CA CB
      generalize ((((w3.alloc (.cells (cd4 (fun _ => 0) (fun _ => 0) (fun _ => 0) (.slice none 0 0)) 146)).alloc (.cells (cd4 (fun _ => 0) (fun _ => 0) (fun _ => 0) (.slice none 0 0)) 146)).setRow w3.heap.size CA).setRow (w3.heap.size+1) CB)=X at hx1 hx2 hx3 ⊢
      have HX1:=hid hx1
      have HX2:=hid hx2
      have HX3:=hid hx3
      clear hx1 hx2 hx3 HLT
      go_wp2_with (first | (have hflag:=HF3;refine wpList_load_row rfl 146 _ rfl w3.heap.size rfl 146 CA (0,0) _ (by exact HX1.out) Tryz.underlying146 rfl HCA.out.info ?_;clear hflag HF3) | (have hflag:=HF4;refine wpList_load_row rfl 146 _ rfl (w3.heap.size+1) rfl 146 CB (0,0) _ (by exact HX2.out) Tryz.underlying146 rfl HCB.out.info ?_;clear hflag HF4) | (go_at_call 87;refine (rcoded_any X B s q7 tv u M za zb _ _ (HR3.out.below HX3.out) (HCA.out.coder.below HX3.out) (HCB.out.coder.below HX3.out) HLA.out HLB2.out).mono ?_;rintro e w9 ⟨rfl,hm9,hk9⟩;rw [<- HBK.out] at hm9;have HM9:=hid hm9;have HK9:=hid (((HK3.out.trans HKa.out).trans (Kp.ofBelow HX3.out (Nat.le_of_lt HR3.out.lt))).trans hk9);clear hm9 hk9))
      exact rin_close hL.out h3 HKK.out HLB.out (by omega) HM9.out HK9.out HMS.out
    ·go_wp2_with (go_at_call 89;refine (stop_any _ _ _ _ _ _ _ 2 HR2.out).mono ?_;rintro e w9 ⟨rfl,hr9,hk9⟩;have HR9:=hid hr9;have HK9:=hid (HK3.out.trans hk9);clear hr9 hk9)
     exact rin_close hL.out h3 HKK.out HLB.out (by omega) ⟨_,_,HR9.out⟩ HK9.out HMS.out
   ·have HN:Hid (L = .no 1 u):=by show _=_;rw [hL.out,blF_end h3]
    by_cases h1:q < 8*s.size
    ·obtain ⟨lb,hlb⟩:∃ lb,lb=bitAt s q:=⟨_,rfl⟩
     have HLB:=hid hlb
     clear hlb
     go_wp2_with (first | (go_at_call 84;refine (rnum_no _ _ _ _ _ _ _ HR1.out 2 (by omega) (by omega)).mono ?_;rintro e w2 ⟨v2,p2,hv2,rfl,hr2,hk2⟩;have e5:=hr2.cell.2.2.2.2.1;have HR2:=hid hr2;have HK2:=hid hk2;clear hr2 hk2) | (go_at_call 83;refine (rbit_ok _ _ _ _ _ _ _ hR.out h1).mono ?_;rintro e w1 ⟨rfl,hr1,hk1⟩;rw [<- HLB.out];have HR1:=hid hr1;have HK1:=hid hk1;clear hr1 hk1))
     refine ⟨⟨f,p2,1,lb,u,tv,rfl,HR2,(hK.out.trans HK1.out).trans HK2.out,.inr (.inr ⟨by omega,HN⟩)⟩,?_⟩
     rw [HR2.out.mes,HMS.out,if_neg (by omega)]
     omega
    ·go_wp2_with (first | (go_at_call 84;refine (rnum_err _ _ _ _ _ _ _ 1 HR1.out (by omega) 2 (by omega)).mono ?_;rintro e w2 ⟨rfl,rfl⟩) | (go_at_call 83;refine (rbit_no _ _ _ _ _ _ _ hR.out h1).mono ?_;rintro e w1 ⟨rfl,hr1,hk1⟩;have e5:=hr1.cell.2.2.2.2.1;have HR1:=hid hr1;have HK1:=hid hk1;clear hr1 hk1))
     refine ⟨⟨f,q,1,0,u,tv,rfl,HR1,hK.out.trans HK1.out,.inr (.inr ⟨by omega,HN⟩)⟩,?_⟩
     rw [HR1.out.mes,HMS.out,if_neg (by omega)]
     omega
  ·have HOU:Hid (ou s M=(⟨u.toArray⟩,(q+7) / 8,0)):=by show _=_;unfold ou;rw [<- HLL.out,hL.out]
   obtain ⟨-,c1,c2,-,-,-⟩:=hR.out.cell
   have hcv:=fun n => rtext_run (wr.drewN n) B s q tv u M 0 (hR.out.drewN n)
   obtain ⟨ao,tc,rfl⟩:=hR.out.shape
   obtain ⟨us,hus⟩:∃ us,us=(q+7) / 8:=⟨_,rfl⟩
   have t7:((q:Int)+7).tdiv 8=(us:Int):=by rw [Int.tdiv_eq_ediv_of_nonneg (by omega)];omega
   have t8:((q:Int)+7) / 8=(us:Int):=by omega
   rw [<- hus] at HOU
   clear hus
   go_wp2
   go_quiet (fail)
   go_wp2
   go_ret3
   refine ⟨?_,HB0.out.trans ?_⟩
   ·rw [HOU.out]
    rfl
   ·rw [<- HBB.out]
    exact (hK.out.drewN _).below
  ·have HOU1:Hid (E=1->ou s M=(⟨u.toArray⟩,0,1)):=fun h => by unfold ou;rw [<- HLL.out,hL.out,h];rfl
   have HOU2:Hid (¬ E=1->ou s M=(⟨#[]⟩,0,E)):=fun h => by unfold ou;rw [<- HLL.out,hL.out];simp only;rw [if_neg h]
   obtain ⟨-,c1,c2,-,-,-⟩:=hR.out.cell
   have b0:((E:Int) == 0)=false:=beq_eq_false_iff_ne.2 (by omega)
   by_cases h1:E=1
   ·subst h1
    have hcv:=rtext_run wr B s q tv u M 1 hR.out
    obtain ⟨ao,tc,rfl⟩:=hR.out.shape
    cases hll:(((l:Int) == 0)) <;>
     (go_wp2
      go_ret3
      refine ⟨?_,HB0.out.trans ?_⟩
      · rw [HOU1.out (by trivial)]
        rfl
      · rw [<- HBB.out]
        exact hK.out.below)
   ·have b1:((E:Int) == 1)=false:=beq_eq_false_iff_ne.2 (by omega)
    cases hll:(((l:Int) == 0)) <;>
     (go_wp2
      go_quiet (fail)
      go_wp2
      go_ret3
      refine ⟨?_,HB0.out.trans ?_⟩
      · rw [HOU2.out h1]
        rfl
      · rw [<- HBB.out]
        exact (hK.out.drewN _).below)
end Go.Proofs.YthdmjmnkhlpnnabGreatDoor
