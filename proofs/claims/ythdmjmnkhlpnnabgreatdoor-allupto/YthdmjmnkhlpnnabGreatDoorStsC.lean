import Derived.Test.YthdmjmnkhlpnnabGreatDoorY14
import Derived.Test.YthdmjmnkhlpnnabGreatDoorSttC
import Derived.Deep.RegionHeld3
namespace Go.Proofs.YthdmjmnkhlpnnabGreatDoor
open Go.RowKit Go.Maps
theorem ba_emp {D:ByteArray} (h:D.size=0):D.toList.isEmpty=true:=by
 have e:=szl D
 rw [<- ByteArray.toList_eq,h] at e
 rw [List.eq_nil_of_length_eq_zero e]
 rfl
theorem ba_nemp {D:ByteArray} (h:0 < D.size):D.toList.isEmpty=false:=by
 have e:=szl D
 rw [<- ByteArray.toList_eq] at e
 cases hd:D.toList with
 | nil => rw [hd] at e;simp at e;omega
 | cons a b => rfl
structure W0 (w:World) (O:Nat->Prop) (X Q n f:Nat) (cs:Array Value) (w0:World):Prop where
 mm:Wmm w0 O X n f
 gk:Gk w0 O
 kt:To O O w w0
 qb:w0.heap[Q]? = some (.cells cs 66 (0,0))
theorem w0_of {w:World} {O:Nat->Prop} {X n f:Nat} (h:Wmm w O X n f) (hg:Gk w O) (cs:Array Value):W0 w O X w.heap.size n f cs (w.alloc (.cells cs 66)):=by
 have hba:=(Below.refl w.heap.size w).alloc (Nat.le_refl _) (.cells cs 66)
 exact ⟨h.below hba,hg.to (To.ofBelow hba),To.ofBelow hba,heap_alloc_new w _⟩
def Sted (w:World) (O:Nat->Prop) (X n f s:Nat) (w':World):Prop:=∃ (O':Nat->Prop) (n' f':Nat),Wmm w' O' X n' f' /\ n'<=n+s /\ f'<=f+1 /\ To O O' w w'
set_option maxRecDepth 20000 in
set_option maxHeartbeats 3200000 in
theorem wstepW_any (w:World) (O:Nat->Prop) (X n f:Nat) (h:Wmm w O X n f) (N:Int) (S:ByteArray) (Lv:Value) (hS:n+S.size<=1048576) (hf:f<=300000) (hg:Gk w O) :
  Calls Tryz.prog 32 #[.pointer (some ⟨X,0,none⟩),.agg #[.int .i64 1,.int .i64 N,.string S,Lv]] w fun e w' => e = .returned (.bool true) /\ Sted w O X n f S.size w':=by
 have HA:=hid (w0_of h hg #[.int .i64 1,.int .i64 N,.string S,Lv])
 obtain ⟨Q,hQ⟩:∃ Q,Q=w.heap.size:=⟨_,rfl⟩
 have HQ:=hid hQ
 rw [<- hQ] at HA
 clear h hg hQ
 go_enter Tryz.func32,Tryz.ntmps32
 go_upto_region 3 with fail
 rw [<- HQ.out]
 generalize w.alloc (.cells #[.int .i64 1,.int .i64 N,.string S,Lv] 66)=w0 at HA ⊢
 obtain ⟨Z,Wr,By,cl,to',fu,a,b,la,e,V,L,t,lv,hs,Op,rfl,hx,hsm,hps,hWn⟩:=(HA.out.mm.below (Below.refl _ _).drew).st
 obtain ⟨y0,-,-,-,-,-,-,-,-,-,-,-⟩:=wblk_cells (show w0.heap[X]? = _ from hx)
 have HX:=hid hx
 have HNX:=hid (wapart hsm hx)
 have HQ0:Hid (w0.heap[Q]? = _):=HA.out.qb
 have HNQ:=hid (hsm.apart (k:=Q) (show w0.drew.heap[Q]? = _ from HA.out.qb) (by decide) (by decide) (by decide) (by decide) (by decide) (by decide))
 have HKD:=hid (HA.out.kt.trans (To.ofBelow (O:=SmO X Op) (Below.refl w0.heap.size w0).drew))
 have HGD:Hid (Gk w0.drew Op):=⟨HA.out.gk.glo,fun q => HA.out.gk.out (.inr q)⟩
 have HXC:Hid (∀ Op' w1,To Op Op' w0.drew w1->w1.heap[X]? = w0.heap[X]? /\ w1.heap[Q]? = w0.heap[Q]?):=fun Op' w1 hk => ⟨hk.fr.blk X (Array.getElem?_eq_some_iff.1 HX.out).1 HNX.out,hk.fr.blk Q (Array.getElem?_eq_some_iff.1 HQ0.out).1 HNQ.out⟩
 have hQX:Q ≠ X:=fun q => by have h1:=HQ0.out;rw [q,show w0.heap[X]? = _ from hx] at h1;injection h1 with h1;injection h1 with _ h1;cases h1
 have hXQ:=hQX.symm
 have hWl:=szl Wr
 have HPS:=hid hps
 have HWN:=hid hWn
 have HSM:=hid hsm
 clear hx hsm hps hWn
 have q2:w0.cell? ⟨Q,2,none⟩=some (.string S):=by rw [cell_of_row w0 Q 2 _ _ (0,0) HQ0.out];rfl
 cases cl with
 | true =>
  have HT:=hid (smwriteC_any w0.drew Op Z V L t lv hs S HSM.out)
  go_region_held3 (fun w' => w'.cell? ⟨X,0,none⟩=some (.pointer (some ⟨Z,0,none⟩)) /\ w'.cell? ⟨Q,2,none⟩=some (.string S)) (go_keep) ((go_at_call 8;refine HT.out.mono ?_;rintro e' w1 ⟨rfl,hsm1,hk1⟩;have HSM1:=hid hsm1;have HK1:=hid hk1;have HX1:Hid (w1.heap[X]? = _):=(HXC.out _ w1 hk1).1.trans HX.out;have HQ1:Hid (w1.heap[Q]? = _):=(HXC.out _ w1 hk1).2.trans HQ0.out;have g1:w1.cell? ⟨X,0,none⟩=some (.pointer (some ⟨Z,0,none⟩)):=(wblk_cells HX1.out).1;have g2:w1.cell? ⟨Q,2,none⟩=some (.string S):=(by rw [cell_of_row w1 Q 2 _ _ (0,0) HQ1.out];rfl);clear hsm1 hk1))
  have x3:=(wblk_cells HX1.out).2.2.2.1
  go_wp2_with (go_at_call 46;refine (num_any _ _).mono ?_;rintro e' w2 ⟨rfl,rfl⟩)
  go_ret
  exact ⟨rfl,_,_,_,⟨Z,Wr,By,true,to',fu,a,b,la,e,V,L,t,lv,hs,Op,rfl,HX1.out,HSM1.out,HPS.out,rfl⟩,by rw [HWN.out];omega,by omega,HKD.out.trans (HK1.out.sm X)⟩
 | false =>
  obtain ⟨b1,b2,b3,b4⟩:=HPS.out.small (by have:=HWN.out;omega) hf
  have HT:=hid (smwrite_any w0.drew Op Z V L t lv hs S HSM.out b1 (by omega) b2 b3 HGD.out)
  have hWS:Wr.size+S.size<=9223372036854775807:=by have:=HWN.out;omega
  clear b1 b2 b3 b4 hWl
  go_region_held3 (fun w' => w'.cell? ⟨X,0,none⟩=some (.pointer (some ⟨Z,0,none⟩)) /\ w'.cell? ⟨Q,2,none⟩=some (.string S)) (go_keep) ((go_at_call 8;refine HT.out.mono ?_;rintro e' w1 ⟨rfl,V',L',t',hs',Op1,m,hsm1,hw1,ht1,hl1,hk1⟩;have HSM1:=hid hsm1;have HK1:=hid hk1;have HPS1:=hid (HPS.out.wrote hw1 ht1 hl1);clear hw1 ht1 hl1;have HX1:Hid (w1.heap[X]? = _):=(HXC.out _ w1 hk1).1.trans HX.out;have HQ1:Hid (w1.heap[Q]? = _):=(HXC.out _ w1 hk1).2.trans HQ0.out;have g1:w1.cell? ⟨X,0,none⟩=some (.pointer (some ⟨Z,0,none⟩)):=(wblk_cells HX1.out).1;have g2:w1.cell? ⟨Q,2,none⟩=some (.string S):=(by rw [cell_of_row w1 Q 2 _ _ (0,0) HQ1.out];rfl);clear hsm1 hk1))
  clear y0 q2 g1
  obtain ⟨-,x1,-,x3,-,-,-,-,-,-,-,xf⟩:=wblk_cells HX1.out
  have xf1:=xf 1
  go_upto_region 6 with fail
  go_region_with (fail)
  all_goals
   obtain ⟨s1,s2⟩:=wst_kept HSM1.out HX1.out (HKD.out.trans (HK1.out.sm X)) 1 (.string (Wr ++ S))
   have HX2:Hid ((w1.setCell ⟨X,1,none⟩ (.string (Wr ++ S))).drew.heap[X]? = some (.cells (wcells Z (Wr ++ S) By false to' fu a b f la e) 97 (0,0))):=(blk_set HX1.out 1 (.string (Wr ++ S))).trans rfl
   have HQ2:Hid ((w1.setCell ⟨X,1,none⟩ (.string (Wr ++ S))).drew.heap[Q]? = _):=(Below.heap_setCell w1 ⟨X,1,none⟩ _ Q hQX).trans HQ1.out
   have HS2:=hid (s1.below (Below.refl _ _).drew)
   have HK2:=hid (s2.below (Below.refl _ _).drew)
   generalize (w1.setCell ⟨X,1,none⟩ (.string (Wr ++ S))).drew=w2 at HX2 HQ2 HS2 HK2 ⊢
   clear s1 s2 x1 x3 xf xf1 g2
   have g2:w2.cell? ⟨Q,2,none⟩=some (.string S):=by rw [cell_of_row w2 Q 2 _ _ (0,0) HQ2.out];rfl
   by_cases h0:S.size=0
   ·have hSe:=ba_emp h0
    have hE:S.data.toList=[]:=List.eq_nil_of_length_eq_zero (by rw [szl];exact h0)
    have hp:=HPS1.out.2 hE
    rw [<- ba_app] at hp
    have HP2:=hid hp
    clear h0 hE hp
    go_wp2
    go_ret
    exact ⟨rfl,_,_,_,⟨Z,Wr ++ S,By,false,to',fu,a,b,la,e,V',L',t',lv,hs',Op1,rfl,HX2.out,HS2.out,HP2.out,rfl⟩,by rw [ByteArray.size_append,HWN.out];omega,by omega,HK2.out⟩
   ·have hSe:=ba_nemp (show 0 < S.size by omega)
    have hE:S.data.toList ≠ []:=fun q => h0 (by rw [<- szl,q];rfl)
    have hp:=HPS1.out.1 hE
    rw [<- ba_app] at hp
    have HP2:=hid hp
    obtain ⟨-,-,-,-,x4,x5,-,-,-,x9,-,xf⟩:=wblk_cells HX2.out
    have xf4:=xf 4
    have xf9:=xf 9
    have xf5:=xf 5
    clear h0 hE hp xf
    go_wp2
    go_ret
    obtain ⟨s3,s4⟩:=wst_kept HS2.out HX2.out HK2.out 4 (.bool false)
    obtain ⟨s5,s6⟩:=wst_kept s3 (blk_set HX2.out _ _) s4 9 (.bool false)
    obtain ⟨s7,s8⟩:=wst_kept s5 (blk_set (blk_set HX2.out _ _) _ _) s6 5 (.bool false)
    exact ⟨rfl,_,_,_,⟨Z,Wr ++ S,By,false,false,false,a,b,false,e,V',L',t',lv,hs',Op1,rfl,by rw [blk_set (blk_set (blk_set HX2.out _ _) _ _)];rfl,s7,HP2.out,rfl⟩,by rw [ByteArray.size_append,HWN.out];omega,by omega,s8⟩
set_option maxRecDepth 20000 in
set_option maxHeartbeats 3200000 in
theorem wstepF_any (w:World) (O:Nat->Prop) (X n f:Nat) (h:Wmm w O X n f) (N:Int) (S:ByteArray) (Lv:Value) (hS:n+S.size<=1048576) (hf:f<=300000) (hg:Gk w O) :
  Calls Tryz.prog 32 #[.pointer (some ⟨X,0,none⟩),.agg #[.int .i64 2,.int .i64 N,.string S,Lv]] w fun e w' => e = .returned (.bool true) /\ Sted w O X n f S.size w':=by
 have HA:=hid (w0_of h hg #[.int .i64 2,.int .i64 N,.string S,Lv])
 obtain ⟨Q,hQ⟩:∃ Q,Q=w.heap.size:=⟨_,rfl⟩
 have HQ:=hid hQ
 rw [<- hQ] at HA
 clear h hg hQ
 go_enter Tryz.func32,Tryz.ntmps32
 go_upto_region 13 with fail
 rw [<- HQ.out]
 generalize w.alloc (.cells #[.int .i64 2,.int .i64 N,.string S,Lv] 66)=w0 at HA ⊢
 obtain ⟨Z,Wr,By,cl,to',fu,a,b,la,e,V,L,t,lv,hs,Op,rfl,hx,hsm,hps,hWn⟩:=(HA.out.mm.below (Below.refl _ _).drew).st
 obtain ⟨y0,-,-,-,-,-,-,-,-,-,-,-⟩:=wblk_cells (show w0.heap[X]? = _ from hx)
 have HX:=hid hx
 have HNX:=hid (wapart hsm hx)
 have HQ0:Hid (w0.heap[Q]? = _):=HA.out.qb
 have HNQ:=hid (hsm.apart (k:=Q) (show w0.drew.heap[Q]? = _ from HA.out.qb) (by decide) (by decide) (by decide) (by decide) (by decide) (by decide))
 have HKD:=hid (HA.out.kt.trans (To.ofBelow (O:=SmO X Op) (Below.refl w0.heap.size w0).drew))
 have HGD:Hid (Gk w0.drew Op):=⟨HA.out.gk.glo,fun q => HA.out.gk.out (.inr q)⟩
 have HXC:Hid (∀ Op' w1,To Op Op' w0.drew w1->w1.heap[X]? = w0.heap[X]? /\ w1.heap[Q]? = w0.heap[Q]?):=fun Op' w1 hk => ⟨hk.fr.blk X (Array.getElem?_eq_some_iff.1 HX.out).1 HNX.out,hk.fr.blk Q (Array.getElem?_eq_some_iff.1 HQ0.out).1 HNQ.out⟩
 have hQX:Q ≠ X:=fun q => by have h1:=HQ0.out;rw [q,show w0.heap[X]? = _ from hx] at h1;injection h1 with h1;injection h1 with _ h1;cases h1
 have hXQ:=hQX.symm
 have hWl:=szl Wr
 have HPS:=hid hps
 have HWN:=hid hWn
 have HSM:=hid hsm
 clear hx hsm hps hWn
 have q2:w0.cell? ⟨Q,1,none⟩=some (.int .i64 N):=by rw [cell_of_row w0 Q 1 _ _ (0,0) HQ0.out];rfl
 cases cl with
 | true =>
  have HT:=hid (fun full => smflushC_any w0.drew Op Z V L t lv hs full HSM.out)
  go_region_held3 (fun w' => w'.cell? ⟨X,0,none⟩=some (.pointer (some ⟨Z,0,none⟩)) /\ w'.cell? ⟨Q,1,none⟩=some (.int .i64 N)) (go_keep) ((go_at_call 9;refine (HT.out _).mono ?_;rintro e' w1 ⟨rfl,hsm1,hk1⟩;have HSM1:=hid hsm1;have HK1:=hid hk1;have HX1:Hid (w1.heap[X]? = _):=(HXC.out _ w1 hk1).1.trans HX.out;have HQ1:Hid (w1.heap[Q]? = _):=(HXC.out _ w1 hk1).2.trans HQ0.out;have g1:w1.cell? ⟨X,0,none⟩=some (.pointer (some ⟨Z,0,none⟩)):=(wblk_cells HX1.out).1;have g2:w1.cell? ⟨Q,1,none⟩=some (.int .i64 N):=(by rw [cell_of_row w1 Q 1 _ _ (0,0) HQ1.out];rfl);clear hsm1 hk1))
  have x3:=(wblk_cells HX1.out).2.2.2.1
  go_wp2_with (go_at_call 46;refine (num_any _ _).mono ?_;rintro e' w2 ⟨rfl,rfl⟩)
  go_ret
  exact ⟨rfl,_,_,_,⟨Z,Wr,By,true,to',fu,a,b,la,e,V,L,t,lv,hs,Op,rfl,HX1.out,HSM1.out,HPS.out,rfl⟩,by rw [HWN.out];omega,by omega,HKD.out.trans (HK1.out.sm X)⟩
 | false =>
  obtain ⟨b1,b2,b3,b4⟩:=HPS.out.small (by have:=HWN.out;omega) hf
  have HT:=hid (fun full => smflush_any w0.drew Op Z V L t lv hs full HSM.out b1 b2 b3 HGD.out)
  clear b1 b2 b3 hWl
  go_region_held3 (fun w' => w'.cell? ⟨X,0,none⟩=some (.pointer (some ⟨Z,0,none⟩)) /\ w'.cell? ⟨Q,1,none⟩=some (.int .i64 N)) (go_keep) ((go_at_call 9;refine (HT.out _).mono ?_;rintro e' w1 ⟨rfl,V',L',Op1,hf1,hsm1,hk1⟩;have HSM1:=hid hsm1;have HK1:=hid hk1;have HPS1:=hid (HPS.out.flushed hf1);clear hf1;have HX1:Hid (w1.heap[X]? = _):=(HXC.out _ w1 hk1).1.trans HX.out;have HQ1:Hid (w1.heap[Q]? = _):=(HXC.out _ w1 hk1).2.trans HQ0.out;have g1:w1.cell? ⟨X,0,none⟩=some (.pointer (some ⟨Z,0,none⟩)):=(wblk_cells HX1.out).1;have g2:w1.cell? ⟨Q,1,none⟩=some (.int .i64 N):=(by rw [cell_of_row w1 Q 1 _ _ (0,0) HQ1.out];rfl);clear hsm1 hk1))
  clear y0 q2 g1
  obtain ⟨-,-,-,x3,x4,x5,-,-,x8,x9,x10,xf⟩:=wblk_cells HX1.out
  have xf4:=xf 4
  have xf5:=xf 5
  have xf8:=xf 8
  have xf9:=xf 9
  have xf10:=xf 10
  clear xf
  go_wp2
  go_ret
  obtain ⟨s1,s2⟩:=wst_kept HSM1.out HX1.out (HKD.out.trans (HK1.out.sm X)) 8 (.int .i64 ((f:Int)+1))
  obtain ⟨s3,s4⟩:=wst_kept s1 (blk_set HX1.out _ _) s2 10 (.int .i64 ((e:Int)+1))
  obtain ⟨s5,s6⟩:=wst_kept s3 (blk_set (blk_set HX1.out _ _) _ _) s4 4 (.bool true)
  obtain ⟨s7,s8⟩:=wst_kept s5 (blk_set (blk_set (blk_set HX1.out _ _) _ _) _ _) s6 9 (.bool true)
  obtain ⟨s9,s10⟩:=wst_kept s7 (blk_set (blk_set (blk_set (blk_set HX1.out _ _) _ _) _ _) _ _) s8 5 (.bool (bits BinOp.and IntKind.i64 N 1 == 1))
  exact ⟨rfl,_,n,f+1,⟨Z,Wr,By,false,true,_,a,b,true,e+1,V',L',[],lv,_,Op1,rfl,by rw [blk_set (blk_set (blk_set (blk_set (blk_set HX1.out _ _) _ _) _ _) _ _)];rfl,s9,HPS1.out _,HWN.out⟩,by omega,by omega,s10⟩
set_option maxRecDepth 20000 in
set_option maxHeartbeats 3200000 in
theorem wstepC_any (w:World) (O:Nat->Prop) (X n f:Nat) (h:Wmm w O X n f) (N:Int) (S:ByteArray) (Lv:Value) (hS:n+S.size<=1048576) (hf:f<=300000) (hg:Gk w O) :
  Calls Tryz.prog 32 #[.pointer (some ⟨X,0,none⟩),.agg #[.int .i64 3,.int .i64 N,.string S,Lv]] w fun e w' => e = .returned (.bool true) /\ Sted w O X n f S.size w':=by
 have HA:=hid (w0_of h hg #[.int .i64 3,.int .i64 N,.string S,Lv])
 obtain ⟨Q,hQ⟩:∃ Q,Q=w.heap.size:=⟨_,rfl⟩
 have HQ:=hid hQ
 rw [<- hQ] at HA
 clear h hg hQ
 go_enter Tryz.func32,Tryz.ntmps32
 go_upto_region 23 with fail
 rw [<- HQ.out]
 generalize w.alloc (.cells #[.int .i64 3,.int .i64 N,.string S,Lv] 66)=w0 at HA ⊢
 obtain ⟨Z,Wr,By,cl,to',fu,a,b,la,e,V,L,t,lv,hs,Op,rfl,hx,hsm,hps,hWn⟩:=(HA.out.mm.below (Below.refl _ _).drew).st
 obtain ⟨y0,-,-,-,-,-,-,-,-,-,-,-⟩:=wblk_cells (show w0.heap[X]? = _ from hx)
 have HX:=hid hx
 have HNX:=hid (wapart hsm hx)
 have HQ0:Hid (w0.heap[Q]? = _):=HA.out.qb
 have HNQ:=hid (hsm.apart (k:=Q) (show w0.drew.heap[Q]? = _ from HA.out.qb) (by decide) (by decide) (by decide) (by decide) (by decide) (by decide))
 have HKD:=hid (HA.out.kt.trans (To.ofBelow (O:=SmO X Op) (Below.refl w0.heap.size w0).drew))
 have HGD:Hid (Gk w0.drew Op):=⟨HA.out.gk.glo,fun q => HA.out.gk.out (.inr q)⟩
 have HXC:Hid (∀ Op' w1,To Op Op' w0.drew w1->w1.heap[X]? = w0.heap[X]? /\ w1.heap[Q]? = w0.heap[Q]?):=fun Op' w1 hk => ⟨hk.fr.blk X (Array.getElem?_eq_some_iff.1 HX.out).1 HNX.out,hk.fr.blk Q (Array.getElem?_eq_some_iff.1 HQ0.out).1 HNQ.out⟩
 have hQX:Q ≠ X:=fun q => by have h1:=HQ0.out;rw [q,show w0.heap[X]? = _ from hx] at h1;injection h1 with h1;injection h1 with _ h1;cases h1
 have hXQ:=hQX.symm
 have hWl:=szl Wr
 have HPS:=hid hps
 have HWN:=hid hWn
 have HSM:=hid hsm
 clear hx hsm hps hWn
 have HKZ:Hid (To (SmO X Op) (SmO X Op) w w0):=HA.out.kt
 have HSZ:=hid (show Sm w0 Op Z V L t lv hs cl from HSM.out.kept (fun _ _ => rfl) (Nat.le_refl _))
 have HXZ:Hid (∀ Op' w1,To Op Op' w0 w1->w1.heap[X]? = w0.heap[X]?):=fun Op' w1 hk => hk.fr.blk X (Array.getElem?_eq_some_iff.1 (show w0.heap[X]? = _ from HX.out)).1 HNX.out
 cases cl with
 | true =>
  have HT:=hid (smcloseC_any w0 Op Z V L t lv hs HSZ.out)
  go_wp2_with (first
    | (go_at_call 46;refine (num_any _ _).mono ?_;rintro e' w2 ⟨rfl,rfl⟩)
    | (go_at_call 12;refine HT.out.mono ?_;rintro e' w1 ⟨rfl,hsm1,hk1⟩;have HSM1:=hid hsm1;have HK1:=hid hk1;have HX1:Hid (w1.heap[X]? = _):=(HXZ.out _ w1 hk1).trans HX.out;have x3:=(wblk_cells HX1.out).2.2.2.1;clear hsm1 hk1))
  go_ret
  exact ⟨rfl,_,_,_,⟨Z,Wr,By,true,to',fu,a,b,la,e,V,L,t,lv,hs,Op,rfl,HX1.out,HSM1.out,HPS.out,rfl⟩,by rw [HWN.out];omega,by omega,HKZ.out.trans (HK1.out.sm X)⟩
 | false =>
  obtain ⟨b1,b2,b3,b4⟩:=HPS.out.small (by have:=HWN.out;omega) hf
  have HT:=hid (smclose_any w0 Op Z V L t lv hs HSZ.out b1 b2 b3 ⟨HA.out.gk.glo,fun q => HA.out.gk.out (.inr q)⟩)
  clear b1 b2 b3 b4 hWl
  go_wp2_with (go_at_call 12;refine HT.out.mono ?_;rintro e' w1 ⟨rfl,ps,Op1,hb1,hsm1,hk1⟩;have HSM1:=hid hsm1;have HK1:=hid hk1;have HPS1:=hid (HPS.out.ended hb1);have HX1:Hid (w1.heap[X]? = _):=(HXZ.out _ w1 hk1).trans HX.out;obtain ⟨-,-,-,x3,x4,-,-,-,x8,x9,-,xf⟩:=wblk_cells HX1.out;have xf3:=xf 3;have xf4:=xf 4;have xf8:=xf 8;have xf9:=xf 9;clear hsm1 hk1 hb1 xf y0)
  go_ret
  obtain ⟨s1,s2⟩:=wst_kept HSM1.out HX1.out (HKZ.out.trans (HK1.out.sm X)) 8 (.int .i64 ((f:Int)+1))
  obtain ⟨s3,s4⟩:=wst_kept s1 (blk_set HX1.out _ _) s2 3 (.bool true)
  obtain ⟨s5,s6⟩:=wst_kept s3 (blk_set (blk_set HX1.out _ _) _ _) s4 4 (.bool true)
  obtain ⟨s7,s8⟩:=wst_kept s5 (blk_set (blk_set (blk_set HX1.out _ _) _ _) _ _) s6 9 (.bool false)
  exact ⟨rfl,_,n,f+1,⟨Z,Wr,By,true,true,fu,a,b,false,e,_,_,[],0,[],Op1,rfl,by rw [blk_set (blk_set (blk_set (blk_set HX1.out _ _) _ _) _ _)];rfl,s7,HPS1.out,HWN.out⟩,by omega,by omega,s8⟩
set_option maxRecDepth 20000 in
set_option maxHeartbeats 3200000 in
theorem wstepT_any (w:World) (O:Nat->Prop) (X n f:Nat) (h:Wmm w O X n f) (N:Int) (S:ByteArray) (Lv:Value) (hS:n+S.size<=1048576) (hf:f<=300000) (hg:Gk w O) :
  Calls Tryz.prog 32 #[.pointer (some ⟨X,0,none⟩),.agg #[.int .i64 4,.int .i64 N,.string S,Lv]] w fun e w' => e = .returned (.bool true) /\ Sted w O X n f S.size w':=by
 have HA:=hid (w0_of h hg #[.int .i64 4,.int .i64 N,.string S,Lv])
 have HT:=hid (wtake_any _ O X n f HA.out.mm (by omega) hf)
 clear h hg
 go_enter Tryz.func32,Tryz.ntmps32
 go_wp2_with (go_at_call 34;refine HT.out.mono ?_;rintro e' w1 ⟨rfl,O1,hm1,hk1⟩;have HR:=hid (And.intro hm1 hk1);clear hm1 hk1)
 go_ret
 exact ⟨rfl,O1,n,f,HR.out.1,by omega,by omega,HA.out.kt.trans HR.out.2⟩
set_option maxRecDepth 20000 in
set_option maxHeartbeats 3200000 in
theorem wstepN_any (w:World) (O:Nat->Prop) (X n f:Nat) (h:Wmm w O X n f) (k N:Int) (S:ByteArray) (Lv:Value) (h1:k ≠ 1) (h2:k ≠ 2) (h3:k ≠ 3) (h4:k ≠ 4) (hg:Gk w O) :
  Calls Tryz.prog 32 #[.pointer (some ⟨X,0,none⟩),.agg #[.int .i64 k,.int .i64 N,.string S,Lv]] w fun e w' => e = .returned (.bool true) /\ Sted w O X n f S.size w':=by
 have HA:=hid (w0_of h hg #[.int .i64 k,.int .i64 N,.string S,Lv])
 have b1:(k == 1)=false:=beq_eq_false_iff_ne.2 h1
 have b2:(k == 2)=false:=beq_eq_false_iff_ne.2 h2
 have b3:(k == 3)=false:=beq_eq_false_iff_ne.2 h3
 have b4:(k == 4)=false:=beq_eq_false_iff_ne.2 h4
 clear h hg h1 h2 h3 h4
 go_enter Tryz.func32,Tryz.ntmps32
 go_wp2
 go_ret
 exact ⟨rfl,O,n,f,HA.out.mm,by omega,by omega,HA.out.kt⟩
theorem wstep_any (w:World) (O:Nat->Prop) (X n f:Nat) (h:Wmm w O X n f) (k N:Int) (S:ByteArray) (Lv:Value) (hS:n+S.size<=1048576) (hf:f<=300000) (hg:Gk w O) :
  Calls Tryz.prog 32 #[.pointer (some ⟨X,0,none⟩),.agg #[.int .i64 k,.int .i64 N,.string S,Lv]] w fun e w' => e = .returned (.bool true) /\ Sted w O X n f S.size w':=by
 by_cases h1:k=1
 ·subst h1;exact wstepW_any w O X n f h N S Lv hS hf hg
 ·by_cases h2:k=2
  ·subst h2;exact wstepF_any w O X n f h N S Lv hS hf hg
  ·by_cases h3:k=3
   ·subst h3;exact wstepC_any w O X n f h N S Lv hS hf hg
   ·by_cases h4:k=4
    ·subst h4;exact wstepT_any w O X n f h N S Lv hS hf hg
    ·exact wstepN_any w O X n f h k N S Lv h1 h2 h3 h4 hg
end Go.Proofs.YthdmjmnkhlpnnabGreatDoor
