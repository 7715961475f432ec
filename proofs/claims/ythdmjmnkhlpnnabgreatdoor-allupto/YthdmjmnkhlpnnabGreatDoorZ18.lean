import Derived.Test.YthdmjmnkhlpnnabGreatDoorZ17
import Derived.Test.YthdmjmnkhlpnnabGreatDoorZ10
import Derived.Test.YthdmjmnkhlpnnabGreatDoorZ13
import Derived.RangeFuncFrom
import Derived.Deep.RegionHeld3
import Derived.Deep.CutRange
namespace Go.Proofs.YthdmjmnkhlpnnabGreatDoor
open Go.RowKit Go.Maps Go.Shelf
attribute [local go_sem] Oper.semAt_some
variable {w:World} {S tr en:Nat} {X:ByteArray} {kn dr T M:Nat} {pv:Value}
theorem three_at (w:World) (ca cb cc:Array Value) (ta tb tc:TypeId):(((w.alloc (.cells ca ta)).alloc (.cells cb tb)).alloc (.cells cc tc)).heap[w.heap.size]? = some (.cells ca ta (0,0)) /\ (((w.alloc (.cells ca ta)).alloc (.cells cb tb)).alloc (.cells cc tc)).heap[w.heap.size+1]? = some (.cells cb tb (0,0)) /\ (((w.alloc (.cells ca ta)).alloc (.cells cb tb)).alloc (.cells cc tc)).heap[w.heap.size+1+1]? = some (.cells cc tc (0,0)) /\ Below w.heap.size w (((w.alloc (.cells ca ta)).alloc (.cells cb tb)).alloc (.cells cc tc)):=by
 have e1:(w.alloc (.cells ca ta)).heap.size=w.heap.size+1:=by simp
 have e:((w.alloc (.cells ca ta)).alloc (.cells cb tb)).heap.size=w.heap.size+1+1:=by simp
 refine ⟨?_,?_,by rw [<- e];exact heap_alloc_new _ _,(((Below.refl _ w).alloc (Nat.le_refl _) _).alloc (by simp) _).alloc (by simp;omega) _⟩
 ·rw [Below.heap_alloc _ _ _ (by rw [e];omega),Below.heap_alloc _ _ _ (by rw [e1];omega)]
  exact heap_alloc_new _ _
 ·rw [Below.heap_alloc _ _ _ (by rw [e];omega),<- e1]
  exact heap_alloc_new _ _
structure Lf (X:ByteArray) (a m c b:Nat):Prop where
 le:c<=m
 ok:c=0 ∨ (3<=c /\ 1<=b /\ b<=32768 /\ b<=a /\ ∀ j,j < c->byt X (a+j)=byt X (a - b+j))
def LI (wx:World) (N5 N7:Nat) (X:ByteArray) (a m:Nat) {K:Nat->Value} {kv:Value} {nx:Nat} (ex:Bool) (pre:List (Bk K kv nx)) (W:World):Prop :=
 Fr (fun k => k=N5 ∨ k=N7) wx W /\ ∃ c b t:Nat,W.heap[N5]? = some (.cells #[.int .u8 0,.int .i64 c,.int .i64 b] 158 (0,0)) /\ W.heap[N7]? = some (.cells #[.int .i64 t] 3 (0,0)) /\ t<=1000 /\ (ex=false->1<=t /\ c < m) /\ Lf X a m c b /\ (pre=[]->c=0) /\ (∀ (x:Bk K kv nx) (ys:List (Bk K kv nx)),pre=x :: ys->x.1=1->(∀ j,j < m->byt X (a+j)=byt X (a - 1+j))->ex=true /\ c=m /\ b=1)
theorem Fr.grownNew {O:Nat->Prop} {a w w':World} {row:Option Nat} (h:Fr O a w) (hg:w.grownBy w' row) (hr:∀ k,row=some k->a.heap.size<=k):Fr O a w' :=
 ⟨h.env.grown hg (by omega) (fun _ _ => by omega),fun k hk ho => (hg.block k (by have:=h.env.size;omega) (fun e => by have:=hr k e.symm;omega)).trans (h.blk k hk ho)⟩
theorem LI.own {wx:World} {N5 N7:Nat} {X:ByteArray} {a m:Nat} {K:Nat->Value} {kv:Value} {nx:Nat} {ex:Bool} (h5:N5 < wx.heap.size) (h7:N7 < wx.heap.size):OwnFrom wx.heap.size (LI wx N5 N7 X a m (K:=K) (kv:=kv) (nx:=nx) ex):=fun s W W' row hs hg hr => by
 obtain ⟨hf,c,b,t,g5,g7,rest⟩:=hs
 have hz:=hf.env.size
 exact ⟨hf.grownNew hg (fun r e => (hr r e).1),c,b,t,(hg.block N5 (by omega) (fun e => by have:=(hr N5 e.symm).1;omega)).trans g5,(hg.block N7 (by omega) (fun e => by have:=(hr N7 e.symm).1;omega)).trans g7,rest⟩
theorem kx_t {T M:Nat} {pv:Value} {B1 B2:Nat} {A B C:World} (h:Kx T M pv B1 B2 A B) (k:Kx T M pv B1 B2 B C):Kx T M pv B1 B2 A C:=Fr.trans h k
theorem kx_b {T M:Nat} {pv:Value} {B1 B2:Nat} {w:World} (hO:∀ k,TbO T M pv k ∨ k=B1 ∨ k=B2->k < w.heap.size) (W:World) (l:Nat) (o o':Obj) (hl:w.heap.size<=l) (_:W.heap[l]? = some o) (_:o.isCells=false) (_:o.isWalk=false):Kx T M pv B1 B2 W (W.putObj l o') :=
 (Fr.refl _ W).grown (grownBy_putObj' W l o') (fun k e h => by cases e;have:=hO _ h;omega)
theorem ky_inj {X:ByteArray} {a b:Nat} (h:ky X a=ky X b):byt X a=byt X b /\ byt X (a+1)=byt X (b+1) /\ byt X (a+2)=byt X (b+2):=by
 unfold ky k3 at h
 simp at h
 omega
theorem cells3w {W:World} {k:Nat} {x y z:Value} {t:TypeId} (h:W.heap[k]? = some (.cells #[x,y,z] t (0,0))):W.cell? ⟨k,0,none⟩=some x /\ W.cell? ⟨k,1,none⟩=some y /\ W.cell? ⟨k,2,none⟩=some z /\ ∀ j,W.frozen? ⟨k,j,none⟩=false:=by
 have e:=fun j => cell_of_row W k j _ t (0,0) h
 exact ⟨by rw [e];rfl,by rw [e];rfl,by rw [e];rfl,fun j => by simp [World.frozen?,h]⟩
def res3 (W:World) (R D1:Nat) (v0 v1 v2:Value):World:=(((W.setCell ⟨R,0,none⟩ v0).setCell ⟨R,1,none⟩ v1).setCell ⟨R,2,none⟩ v2).putObj D1 (.deferred none)
theorem res3_fin {wc W:World} {N5 N7 R D1:Nat} {v0 v1 v2:Value} {x0 x1 x2:Value} {t:TypeId} (hf:Fr (fun k => k=N5 ∨ k=N7) wc W) (hD:wc.heap.size<=D1) (hR:wc.heap[R]? = some (.cells #[x0,x1,x2] t (0,0))) (h5:R ≠ N5) (h7:R ≠ N7) (hKd:W.heap[D1]? = some (.deferred (some []))) :
  (((W.setCell ⟨R,0,none⟩ v0).setCell ⟨R,1,none⟩ v1).setCell ⟨R,2,none⟩ v2).heap[D1]? = some (.deferred (some [])) /\ Fr (fun k => k=N5 ∨ k=N7 ∨ k=R) wc (res3 W R D1 v0 v1 v2) /\ (res3 W R D1 v0 v1 v2).heap[R]? = some (.cells #[v0,v1,v2] t (0,0)):=by
 have hlt:=(Array.getElem?_eq_some_iff.1 hR).1
 have hW:W.heap[R]? = some (.cells #[x0,x1,x2] t (0,0)):=(hf.blk R hlt (fun e => e.elim h5 h7)).trans hR
 have e:∀ k,k ≠ R->(((W.setCell ⟨R,0,none⟩ v0).setCell ⟨R,1,none⟩ v1).setCell ⟨R,2,none⟩ v2).heap[k]? = W.heap[k]?:=fun k hk => by
  rw [Below.heap_setCell _ _ _ _ (by exact hk),Below.heap_setCell _ _ _ _ (by exact hk),Below.heap_setCell _ _ _ _ (by exact hk)]
 refine ⟨(e D1 (by omega)).trans hKd,?_,?_⟩
 ·have h1:Fr (fun k => k=N5 ∨ k=N7 ∨ k=R) wc W:=hf.mono (fun k hk => hk.elim .inl (fun e => .inr (.inl e)))
  exact (((h1.set ⟨R,0,none⟩ (.inr (.inr rfl)) v0).set ⟨R,1,none⟩ (.inr (.inr rfl)) v1).set ⟨R,2,none⟩ (.inr (.inr rfl)) v2).grownNew (grownBy_putObj' _ D1 _) (fun k e => by cases e;exact hD)
 ·unfold res3
  rw [World.putObj_heap_other (by omega),blk_set (blk_set (blk_set hW _ _) _ _) _ _]
  rfl
set_option maxRecDepth 20000 in
set_option maxHeartbeats 8000000 in
theorem longest_any (h:Sx w S tr en X kn dr T M pv) (hX:X.size<=1000000) (hd:dr<=100000000000000) (a:Nat) (ha:kn<=a) (ha2:a<=X.size) (hdr:dr=0 ∨ 32768<=a) (htr:1<=tr) (htr2:tr<=1000) :
  Calls Tryz.prog 107 #[.pointer (some ⟨S,0,none⟩),.int .i64 a] w fun e w' => ∃ c b pv',e = .returned (.agg #[.int .u8 0,.int .i64 (c:Nat),.int .i64 (b:Nat)]) /\ Lg X a c b /\ Sx w' S tr en X (min a (X.size - 2)) dr T M pv' /\ Fr (SxO S T M pv) w w' /\ Moved pv pv' w:=by
 have HH:=hid h
 clear h
 refine (callsIn_wide (n:=8)).1 ?_
 refine callsIn_of_wp_marks Tryz.func107 rfl trivial ?_ rfl
 simp only [Tryz.ntmps107,List.size_toArray,List.length_cons,List.length_nil,Nat.reduceAdd,Nat.reduceSub,Array.replicate_succ,Array.replicate_zero,List.push_toArray,List.append_toArray,List.nil_append,List.cons_append]
 refine wpIn_wide.2 ?_
 go_upto_region 1 with fail
 have H3:=hid (three_at w #[.pointer (some ⟨S,0,none⟩)] #[.int .i64 a] #[.int .u8 0,.int .i64 0,.int .i64 0] 76 3 158)
 obtain ⟨N0,hN0⟩:∃ N,N=w.heap.size:=⟨_,rfl⟩
 rw [<- hN0] at H3 ⊢
 have HN0:=hid hN0
 clear hN0
 generalize ((w.alloc (.cells #[.pointer (some ⟨S,0,none⟩)] 76)).alloc (.cells #[.int .i64 a] 3)).alloc (.cells #[.int .u8 0,.int .i64 0,.int .i64 0] 158)=W1 at H3 ⊢
 have HS1:Hid (Sx W1 S tr en X kn dr T M pv):=HH.out.below (by rw [<- HN0.out];exact H3.out.2.2.2)
 have a0:W1.cell? ⟨N0,0,none⟩=some (.pointer (some ⟨S,0,none⟩)):=by rw [cell_of_row _ _ 0 _ _ _ H3.out.1];rfl
 have a1:W1.cell? ⟨N0+1,0,none⟩=some (.int .i64 a):=by rw [cell_of_row _ _ 0 _ _ _ H3.out.2.1];rfl
 go_upto_region 2 with (go_at_call 153;refine (learn_any HS1.out hX hd a ha ha2).mono ?_;rintro e W2 ⟨rfl,pv1,hs2,hf2,hm2⟩;have HS2:=hid hs2;have HF2:=hid hf2;have HM2:=hid hm2;clear hs2 hf2 hm2)
 go_upto_region 3 with fail
 clear a0 a1
 have HO:Hid (∀ k,N0<=k -> ¬ SxO S T M pv k):=fun k hk e => by have:=HH.out.olt e;have:=HN0.out;omega
 have HA0:Hid (W2.heap[N0]? = some (.cells #[.pointer (some ⟨S,0,none⟩)] 76 (0,0))):=(HF2.out.blk N0 (Array.getElem?_eq_some_iff.1 H3.out.1).1 (HO.out _ (Nat.le_refl _))).trans H3.out.1
 have HA1:Hid (W2.heap[N0+1]? = some (.cells #[.int .i64 a] 3 (0,0))):=(HF2.out.blk (N0+1) (Array.getElem?_eq_some_iff.1 H3.out.2.1).1 (HO.out _ (by omega))).trans H3.out.2.1
 have HA2:Hid (W2.heap[N0+1+1]? = some (.cells #[.int .u8 0,.int .i64 0,.int .i64 0] 158 (0,0))):=(HF2.out.blk (N0+1+1) (Array.getElem?_eq_some_iff.1 H3.out.2.2.1).1 (HO.out _ (by omega))).trans H3.out.2.2.1
 have HB2:=hid ((Below.refl W2.heap.size W2).alloc (Nat.le_refl _) (.cells #[.int .u8 0,.int .i64 0,.int .i64 0] 158))
 have HA3:Hid ((W2.alloc (.cells #[.int .u8 0,.int .i64 0,.int .i64 0] 158)).heap[W2.heap.size]? = some (.cells #[.int .u8 0,.int .i64 0,.int .i64 0] 158 (0,0))):=heap_alloc_new _ _
 obtain ⟨N5,hN5⟩:∃ N,N=W2.heap.size:=⟨_,rfl⟩
 rw [<- hN5] at HA3 ⊢
 have HN5:=hid hN5
 clear hN5
 generalize W2.alloc (.cells #[.int .u8 0,.int .i64 0,.int .i64 0] 158)=W3 at HB2 HA3 ⊢
 have HS3:=hid (HS2.out.below HB2.out)
 obtain ⟨c0,c1,c2,c3,c4⟩:=HS3.out.cells
 have a0:W3.cell? ⟨N0,0,none⟩=some (.pointer (some ⟨S,0,none⟩)):=by rw [cell_of_row _ _ 0 _ _ _ ((HB2.out.block N0 (Array.getElem?_eq_some_iff.1 HA0.out).1).trans HA0.out)];rfl
 have a1:W3.cell? ⟨N0+1,0,none⟩=some (.int .i64 a):=by rw [cell_of_row _ _ 0 _ _ _ ((HB2.out.block (N0+1) (Array.getElem?_eq_some_iff.1 HA1.out).1).trans HA1.out)];rfl
 obtain ⟨q,hq⟩:∃ q,q=X.size - a:=⟨_,rfl⟩
 have jS:IntKind.i64.wrap ((X.size:Int) - (a:Int))=(q:Int):=by rw [IntKind.wrap_i64];omega
 have HQ:=hid hq
 clear c0 c1 c3 c4 hq
 have hl3:=HS3.out.lt
 have a0o:∀ o:Obj,(W3.alloc o).cell? ⟨N0,0,none⟩=some (.pointer (some ⟨S,0,none⟩)):=fun o => (((Below.refl W3.heap.size W3).alloc (Nat.le_refl _) o).cell (p:=⟨N0,0,none⟩) (cell_in' a0)).trans a0
 have a1o:∀ o:Obj,(W3.alloc o).cell? ⟨N0+1,0,none⟩=some (.int .i64 a):=fun o => (((Below.refl W3.heap.size W3).alloc (Nat.le_refl _) o).cell (p:=⟨N0+1,0,none⟩) (cell_in' a1)).trans a1
 have c2o:∀ o:Obj,(W3.alloc o).cell? ⟨S,2,none⟩=some (.string X):=fun o => (((Below.refl W3.heap.size W3).alloc (Nat.le_refl _) o).cell (p:=⟨S,2,none⟩) hl3).trans c2
 obtain ⟨N6,hN6⟩:∃ N,N=W3.heap.size:=⟨_,rfl⟩
 have HN6:=hid hN6
 clear hN6
 go_cut [6] from 13 to 20 (fun v wx => ∃ m:Nat,v = .pointer (some ⟨N6,0,none⟩) /\ Hid (m=min 258 (X.size - a)) /\ Hid (wx=(W3.alloc (.cells #[.int .i64 m] 3)).drew))
 case first =>
  refine wp_region_noPanic ?_
  go_region_with (fail)
  all_goals
   refine NoPanic.normal ?_
   go_wp2
  all_goals
   go_meet
   exact ⟨min 258 q,by rw [HN6.out],by have:=HQ.out;show _=_;omega,by show _=_;congr 5;first | (congr 1;omega) | (congr 1;split <;> omega)⟩
 case rest =>
 obtain ⟨m,rfl,HMm,hW4⟩:=hcut
 have HB4:Hid (Below W3.heap.size W3 wc):=by show Below _ _ _;rw [hW4.out];exact ((Below.refl W3.heap.size W3).alloc (Nat.le_refl _) _).drew
 have HA4:Hid (wc.heap[N6]? = some (.cells #[.int .i64 m] 3 (0,0))):=by show _=_;rw [hW4.out,HN6.out];exact heap_alloc_new W3 _
 clear hW4 a0 a1 c2 a0o a1o c2o jS HQ
 have HS4:=hid (HS3.out.below HB4.out)
 have m0:wc.cell? ⟨N6,0,none⟩=some (.int .i64 m):=by rw [cell_of_row _ _ 0 _ _ _ HA4.out];rfl
 have HX3:Hid (wc.heap[N5]? = some (.cells #[.int .u8 0,.int .i64 0,.int .i64 0] 158 (0,0))):=(HB4.out.block N5 (Array.getElem?_eq_some_iff.1 HA3.out).1).trans HA3.out
 have b0:wc.cell? ⟨N5,0,none⟩=some (.int .u8 0):=by rw [cell_of_row _ _ 0 _ _ _ HX3.out];rfl
 have b1:wc.cell? ⟨N5,1,none⟩=some (.int .i64 0):=by rw [cell_of_row _ _ 1 _ _ _ HX3.out];rfl
 have b2:wc.cell? ⟨N5,2,none⟩=some (.int .i64 0):=by rw [cell_of_row _ _ 2 _ _ _ HX3.out];rfl
 have HB24:=hid (HB2.out.trans (HB4.out.mono HB2.out.size))
 have HX0:Hid (wc.heap[N0]? = _):=(HB24.out.block N0 (Array.getElem?_eq_some_iff.1 HA0.out).1).trans HA0.out
 have HX1:Hid (wc.heap[N0+1]? = _):=(HB24.out.block (N0+1) (Array.getElem?_eq_some_iff.1 HA1.out).1).trans HA1.out
 have HX2:Hid (wc.heap[N0+1+1]? = _):=(HB24.out.block (N0+1+1) (Array.getElem?_eq_some_iff.1 HA2.out).1).trans HA2.out
 have HFw:Hid (Fr (SxO S T M pv) w wc):=(((Fr.refl _ w).below (by rw [<- HN0.out];exact H3.out.2.2.2)).trans HF2.out).below HB24.out
 have HMw:Hid (Moved pv pv1 w):=HM2.out.imp id (fun ⟨q,e1,e2⟩ => ⟨q,by have:=H3.out.2.2.2.size;have:=HN0.out;omega,e2⟩)
 obtain ⟨r0,r1,r2,rf⟩:=cells3w HX2.out
 by_cases hm3:m < 3
 ·have d3:decide ((m:Int) < 3)=true:=by simp;omega
  go_wp2
  have hr5:(((wc.setCell ⟨N0+1+1,0,none⟩ (.int .u8 0)).setCell ⟨N0+1+1,1,none⟩ (.int .i64 0)).setCell ⟨N0+1+1,2,none⟩ (.int .i64 0)).heap[N0+1+1]? = some (.cells #[.int .u8 0,.int .i64 0,.int .i64 0] 158 (0,0)):=by
   rw [blk_set (blk_set (blk_set HX2.out _ _) _ _) _ _];rfl
  obtain ⟨x0,x1,x2,-⟩:=cells3w hr5
  have hap:=SxO.apart HS4.out HX2.out (by decide) (by decide) (by decide)
  have hN:=HN0.out
  refine ⟨.agg #[.int .u8 0,.int .i64 0,.int .i64 0],by simp [results,Tryz.results107,go_sem,x0,x1,x2],0,0,pv1,rfl,⟨by omega,.inl rfl,fun h1 h2 _ => by have:=HMm.out;omega⟩,?_,?_,HMw.out⟩
  ·exact ((HS4.out.beside ⟨N0+1+1,0,none⟩ hap _).beside ⟨N0+1+1,1,none⟩ hap _).beside ⟨N0+1+1,2,none⟩ hap _
  ·exact ((HFw.out.setNew ⟨N0+1+1,0,none⟩ (by show _<=N0+1+1;omega) _).setNew ⟨N0+1+1,1,none⟩ (by show _<=N0+1+1;omega) _).setNew ⟨N0+1+1,2,none⟩ (by show _<=N0+1+1;omega) _
 ·have d3:decide ((m:Int) < 3)=false:=by simp;omega
  have e0:wc.cell? ⟨N0,0,none⟩=some (.pointer (some ⟨S,0,none⟩)):=by rw [cell_of_row _ _ 0 _ _ _ HX0.out];rfl
  have e1:wc.cell? ⟨N0+1,0,none⟩=some (.int .i64 a):=by rw [cell_of_row _ _ 0 _ _ _ HX1.out];rfl
  obtain ⟨c0,c1,c2,c3,c4⟩:=HS4.out.cells
  go_upto_region 7 with fail
  have HMA:Hid (a+3<=X.size):=by have:=HMm.out;show _<=_;omega
  rw [show min a (X.size - 2)=a by have:=HMA.out;omega] at HS4
  have HB5:=hid ((Below.refl wc.heap.size wc).alloc (Nat.le_refl _) (.cells #[.int .i64 tr] 3))
  have HA7:Hid ((wc.alloc (.cells #[.int .i64 tr] 3)).heap[wc.heap.size]? = some (.cells #[.int .i64 tr] 3 (0,0))):=heap_alloc_new _ _
  obtain ⟨N7,hN7⟩:∃ N,N=wc.heap.size:=⟨_,rfl⟩
  rw [<- hN7] at HA7 ⊢
  have HN7:=hid hN7
  have HOR:Hid (S < N0 /\ N0+1+1 < N5 /\ N5 < N6 /\ N6 < N7):=by
   have q1:=(Array.getElem?_eq_some_iff.1 HA2.out).1
   have q2:=(Array.getElem?_eq_some_iff.1 HA3.out).1
   have q3:=(Array.getElem?_eq_some_iff.1 HA4.out).1
   have q4:=HH.out.lt
   have q5:=HN0.out
   have q6:=HN5.out
   have q7:=HN6.out
   exact ⟨by omega,by omega,by omega,by omega⟩
  clear hN7 e0 e1 c0 c1 c2 c3 c4 r0 r1 r2 rf b0 b1 b2 m0 d3
  generalize wc.alloc (.cells #[.int .i64 tr] 3)=W5 at HB5 HA7 ⊢
  have HS5:=hid (HS4.out.below HB5.out)
  have e0:W5.cell? ⟨N0,0,none⟩=some (.pointer (some ⟨S,0,none⟩)):=by rw [cell_of_row _ _ 0 _ _ _ ((HB5.out.block N0 (Array.getElem?_eq_some_iff.1 HX0.out).1).trans HX0.out)];rfl
  have e1:W5.cell? ⟨N0+1,0,none⟩=some (.int .i64 a):=by rw [cell_of_row _ _ 0 _ _ _ ((HB5.out.block (N0+1) (Array.getElem?_eq_some_iff.1 HX1.out).1).trans HX1.out)];rfl
  obtain ⟨c0,c1,c2,c3,c4⟩:=HS5.out.cells
  have hl5:=HS5.out.lt
  have hn5:=cell_in' e0
  clear c0 c1 c4
  go_cut [39] from 29 to 38 (fun v wx => ∃ B1 B2:Nat,v = .func (.func 182) #[] #[.pointer (some ⟨B1,0,none⟩),.pointer (some ⟨B2,0,none⟩)] /\ Hid (wx.heap[B1]? = some (.cells #[.pointer (some ⟨T,0,none⟩)] 117 (0,0))) /\ Hid (wx.heap[B2]? = some (.cells #[.int .u8 (byt X a),.int .u8 (byt X (a+1)),.int .u8 (byt X (a+2))] 136 (0,0))) /\ Hid (Below W5.heap.size W5 wx))
  case first =>
   refine wp_region_noPanic ?_
   go_region_with (first | (go_at_call 154;refine (tbacks_any W6 T (byt X a) (byt X (a+1)) (byt X (a+2))).mono ?_;rintro e W7 ⟨rfl,rfl⟩) | (go_at_call 155;refine (keyAt_any X a _ HMA.out hX).mono ?_;rintro e W6 ⟨rfl,hb6⟩;have HB6:=hid (((Below.refl W5.heap.size W5).drew).trans hb6);have c3':W6.cell? ⟨S,3,none⟩=some (.pointer (some ⟨T,0,none⟩)):=(HB6.out.cell (p:=⟨S,3,none⟩) hl5).trans c3;have e0':W6.cell? ⟨N0,0,none⟩=some (.pointer (some ⟨S,0,none⟩)):=(HB6.out.cell (p:=⟨N0,0,none⟩) hn5).trans e0;clear hb6))
   all_goals
    refine NoPanic.normal ?_
    go_wp2
    go_meet
    refine ⟨_,_,rfl,?_,?_,?_⟩
    ·exact (Below.heap_alloc _ _ _ (by simp)).trans (heap_alloc_new W6 _)
    ·have:=heap_alloc_new (W6.alloc (.cells #[.pointer (some ⟨T,0,none⟩)] 117)) (.cells #[.int .u8 (byt X a),.int .u8 (byt X (a+1)),.int .u8 (byt X (a+2))] 136)
     rw [World.size_alloc] at this
     exact this
    ·exact HB6.out.trans (((Below.refl W5.heap.size W6).alloc HB6.out.size _).alloc (by have:=HB6.out.size;simp;omega) _)
  case rest =>
  obtain ⟨B1,B2,rfl,HV1,HV2,HB6⟩:=hcut
  clear c2 c3 e0 e1 hl5 hn5
  have HS6:=hid (HS5.out.below HB6.out)
  obtain ⟨base,ps,D,K,ht,hi,hbase,hK,hlst⟩:=HS6.out.sk.st
  obtain ⟨kl,hkl⟩:=key_of (byt X a) (byt X (a+1)) (byt X (a+2)) (byt_lt _ _) (byt_lt _ _) (byt_lt _ _)
  have HB56:=hid (HB5.out.trans (HB6.out.mono HB5.out.size))
  have HY5:Hid (wc.heap[N5]? = _):=(HB56.out.block N5 (Array.getElem?_eq_some_iff.1 HX3.out).1).trans HX3.out
  have HY7:Hid (wc.heap[N7]? = _):=(HB6.out.block N7 (Array.getElem?_eq_some_iff.1 HA7.out).1).trans HA7.out
  have HY0:Hid (wc.heap[N0]? = _):=(HB56.out.block N0 (Array.getElem?_eq_some_iff.1 HX0.out).1).trans HX0.out
  have HY1:Hid (wc.heap[N0+1]? = _):=(HB56.out.block (N0+1) (Array.getElem?_eq_some_iff.1 HX1.out).1).trans HX1.out
  have HY2:Hid (wc.heap[N0+1+1]? = _):=(HB56.out.block (N0+1+1) (Array.getElem?_eq_some_iff.1 HX2.out).1).trans HX2.out
  have HY6:Hid (wc.heap[N6]? = _):=(HB56.out.block N6 (Array.getElem?_eq_some_iff.1 HA4.out).1).trans HA4.out
  have h5:N5 < wc.heap.size:=(Array.getElem?_eq_some_iff.1 HY5.out).1
  have h7:N7 < wc.heap.size:=(Array.getElem?_eq_some_iff.1 HY7.out).1
  have hO:∀ k,TbO T M pv1 k ∨ k=B1 ∨ k=B2->k < wc.heap.size:=fun k hk => by
   rcases hk with e | e | e
   ·exact ht.olt e
   ·rw [e];exact (Array.getElem?_eq_some_iff.1 HV1.out).1
   ·rw [e];exact (Array.getElem?_eq_some_iff.1 HV2.out).1
  have hNO5:¬ (TbO T M pv1 N5 ∨ N5=B1 ∨ N5=B2):=fun hk => by
   rcases hk with e | e | e
   ·exact SxO.apart HS6.out HY5.out (by decide) (by decide) (by decide) (.inr e)
   ·have:=HV1.out;rw [<- e,HY5.out] at this;injection this with this;injection this with _ this;exact absurd this (by decide)
   ·have:=HV2.out;rw [<- e,HY5.out] at this;injection this with this;injection this with _ this;exact absurd this (by decide)
  have hNO7:¬ (TbO T M pv1 N7 ∨ N7=B1 ∨ N7=B2):=fun hk => by
   rcases hk with e | e | e
   ·exact SxO.apart HS6.out HY7.out (by decide) (by decide) (by decide) (.inr e)
   ·have:=HV1.out;rw [<- e,HY7.out] at this;injection this with this;injection this with _ this;exact absurd this (by decide)
   ·have:=HV2.out;rw [<- e,HY7.out] at this;injection this with this;injection this with _ this;exact absurd this (by decide)
  have hone:1<=a->(∀ j,j < m->byt X (a+j)=byt X (a - 1+j)) -> ∀ xs:List (Bk K (ky X a) (a+dr)),Fst (a+dr) D kl xs -> ∃ (x:Bk K (ky X a) (a+dr)) (ys:List (Bk K (ky X a) (a+dr))),xs=x :: ys /\ x.1=1:=fun h1 hall xs hS => by
   have e0:=hall 0 (by omega)
   have e1:=hall 1 (by omega)
   have e2:=hall 2 (by omega)
   have ek:ky X (a - 1)=ky X a:=by
    unfold ky
    rw [Nat.add_zero,Nat.add_zero] at e0
    rw [e0,e1,e2]
   obtain ⟨q1,q2⟩:=hlst (by omega) kl (by rw [ek];exact hkl)
   obtain ⟨x,ys,q3,q4⟩:=hS q1 _ q2 (by omega)
   exact ⟨x,ys,q3,by omega⟩
  go_wp2
  refine (wpIn_wide (n:=8)).1 ?_
  refine wpIn_rangeFunc_ownF (n:=8) rfl (by omega) (gf:=182) (lb:=#[.pointer (some ⟨B1,0,none⟩),.pointer (some ⟨B2,0,none⟩)]) rfl trivial (enters_of Tryz.func182 (by kernel_rfl) rfl)
   (tbacks_stops (kv:=ky X a) 7 (by omega) B1 B2 ht hi (by omega) HV1.out (byt X a) (byt X (a+1)) (byt X (a+2)) rfl kl hkl HV2.out) kx_t (kx_b hO) (Below.refl _ _) (fun _ => rfl)
   (LI wc N5 N7 X a m false) (fun c pre W => c = .exit 0 /\ LI wc N5 N7 X a m true pre W) (LI.own h5 h7) (fun c s A B row hs hg hr => ⟨hs.1,LI.own h5 h7 s A B row hs.2 hg hr⟩)
   ⟨Fr.refl _ _,0,0,tr,HY5.out,HY7.out,by omega,fun _ => ⟨htr,by omega⟩,⟨by omega,.inl rfl⟩,fun _ => rfl,fun x ys e => by cases e⟩ ?a1 ?assign ?body ?done ?stop
  case assign =>
   intro l x W K hK
   gi_wp2
   exact hK
  case body =>
   rintro l pre x W ⟨hf,c,b,t,g5,g7,ht1,ht2,hL,h00,hfst⟩ hlen
   obtain ⟨hx1,hx2,hx3,hx4⟩:=x.2
   obtain ⟨xv,hxv⟩:∃ xv,xv=x.1:=⟨_,rfl⟩
   rw [<- hxv] at hx1 hx2 hx3 hx4 ⊢
   have HXV:=hid hxv
   obtain ⟨o1,o2,o3,o4⟩:=HOR.out
   have hxa:xv<=a:=by omega
   obtain ⟨t1,ht3⟩:∃ t1,t=t1+1:=⟨t - 1,by have:=(ht2 rfl).1;omega⟩
   subst ht3
   have hcm:=(ht2 rfl).2
   have hkey:Hid (byt X a=byt X (a - xv) /\ byt X (a+1)=byt X (a - xv+1) /\ byt X (a+2)=byt X (a - xv+2)):=by
    have e:=hK (a - xv) (by omega)
    rw [show a - xv+dr=a+dr - xv by omega,hx4] at e
    exact ky_inj e
   have hW:∀ k,k < wc.heap.size->k ≠ N5->k ≠ N7->W.heap[k]? = wc.heap[k]?:=fun k h1 h2 h3 => hf.blk k h1 (fun e => e.elim h2 h3)
   have z0:=(hW N0 (Array.getElem?_eq_some_iff.1 HY0.out).1 (by omega) (by omega)).trans HY0.out
   have z1:=(hW (N0+1) (Array.getElem?_eq_some_iff.1 HY1.out).1 (by omega) (by omega)).trans HY1.out
   have z6:=(hW N6 (Array.getElem?_eq_some_iff.1 HY6.out).1 (by omega) (by omega)).trans HY6.out
   have HZS:Hid (W.heap[S]? = _):=(hW S HS6.out.lt (by omega) (by omega)).trans HS6.out.blk
   have e0:W.cell? ⟨N0,0,none⟩=some (.pointer (some ⟨S,0,none⟩)):=by rw [cell_of_row _ _ 0 _ _ _ z0];rfl
   have e1:W.cell? ⟨N0+1,0,none⟩=some (.int .i64 a):=by rw [cell_of_row _ _ 0 _ _ _ z1];rfl
   have m0:W.cell? ⟨N6,0,none⟩=some (.int .i64 m):=by rw [cell_of_row _ _ 0 _ _ _ z6];rfl
   obtain ⟨b0,b1,b2,-⟩:=cells3w g5
   have HZ6:=hid z6
   have HG5:=hid g5
   have HG7:=hid g7
   have HFF:=hid hf
   have HLf:=hid hL
   have HFS:=hid hfst
   have H00:=hid h00
   have HBD:=hid (And.intro hx1 (And.intro hx2 (And.intro hxa hcm)))
   have hma:a+m<=X.size:=by have:=HMm.out;omega
   clear hx1 hx2 hx3 hx4 hxv z0 z1 z6 g5 g7 hf hL hfst h00 ht2 hW
   gi_upto_region 10 with (refine ⟨trivial,?_⟩;gi_at_call 156;refine (CallsIn.inRound l (callsIn_wide.2 (same_any W S X _ _ _ _ a xv c m HZS.out HBD.out.2.2.1 hma HBD.out.2.2.2 hX))).mono ?_;rintro e W' ⟨r,rfl,hr1,hr2,hr3,hr4,hb'⟩;have HR:=hid (And.intro hr1 (And.intro hr2 (And.intro hr3 hr4)));have HBW:=hid hb';clear hr1 hr2 hr3 hr4 hb')
   have HV5:Hid (W'.heap[N5]? = _):=(HBW.out.block N5 (Array.getElem?_eq_some_iff.1 HG5.out).1).trans HG5.out
   have HV7:Hid (W'.heap[N7]? = _):=(HBW.out.block N7 (Array.getElem?_eq_some_iff.1 HG7.out).1).trans HG7.out
   have HV6:Hid (W'.heap[N6]? = _):=(HBW.out.block N6 (Array.getElem?_eq_some_iff.1 HZ6.out).1).trans HZ6.out
   clear e0 e1 m0 b0 b1 b2
   obtain ⟨b0,b1,b2,bf⟩:=cells3w HV5.out
   have HKO:Hid (KeepsOthers W W'):=⟨HBW.out.size,fun k o hk _ => (HBW.out.block k (Array.getElem?_eq_some_iff.1 hk).1).trans hk⟩
   have HFW:Hid (Fr (fun k => k=N5 ∨ k=N7) W W'):=(Fr.refl _ W).below HBW.out
   by_cases hrc:c < r
   case' pos =>
    have d1:decide ((c:Int) < (r:Int))=true:=by simp;omega
    gi_upto_region 12 with fail
    have HW5:Hid ((((W'.setCell ⟨N5,0,none⟩ (.int .u8 0)).setCell ⟨N5,1,none⟩ (.int .i64 r)).setCell ⟨N5,2,none⟩ (.int .i64 xv)).heap[N5]? = some (.cells #[.int .u8 0,.int .i64 r,.int .i64 xv] 158 (0,0))):=by
     show _=_
     rw [blk_set (blk_set (blk_set HV5.out _ _) _ _) _ _];rfl
    have HW6:Hid ((((W'.setCell ⟨N5,0,none⟩ (.int .u8 0)).setCell ⟨N5,1,none⟩ (.int .i64 r)).setCell ⟨N5,2,none⟩ (.int .i64 xv)).heap[N6]? = some (.cells #[.int .i64 m] 3 (0,0))):=by
     show _=_
     rw [Below.heap_setCell _ _ _ _ (by show N6 ≠ N5;omega),Below.heap_setCell _ _ _ _ (by show N6 ≠ N5;omega),Below.heap_setCell _ _ _ _ (by show N6 ≠ N5;omega)];exact HV6.out
    have HW7:Hid ((((W'.setCell ⟨N5,0,none⟩ (.int .u8 0)).setCell ⟨N5,1,none⟩ (.int .i64 r)).setCell ⟨N5,2,none⟩ (.int .i64 xv)).heap[N7]? = some (.cells #[.int .i64 (t1+1:Nat)] 3 (0,0))):=by
     show _=_
     rw [Below.heap_setCell _ _ _ _ (by show N7 ≠ N5;omega),Below.heap_setCell _ _ _ _ (by show N7 ≠ N5;omega),Below.heap_setCell _ _ _ _ (by show N7 ≠ N5;omega)];exact HV7.out
    have HKO2:Hid (KeepsOthers W (((W'.setCell ⟨N5,0,none⟩ (.int .u8 0)).setCell ⟨N5,1,none⟩ (.int .i64 r)).setCell ⟨N5,2,none⟩ (.int .i64 xv))):=((HKO.out.trans (KeepsOthers.setCell _ _ _)).trans (KeepsOthers.setCell _ _ _)).trans (KeepsOthers.setCell _ _ _)
    have HFW2:Hid (Fr (fun k => k=N5 ∨ k=N7) W (((W'.setCell ⟨N5,0,none⟩ (.int .u8 0)).setCell ⟨N5,1,none⟩ (.int .i64 r)).setCell ⟨N5,2,none⟩ (.int .i64 xv))):=((HFW.out.set ⟨N5,0,none⟩ (.inl rfl) _).set ⟨N5,1,none⟩ (.inl rfl) _).set ⟨N5,2,none⟩ (.inl rfl) _
    generalize ((W'.setCell ⟨N5,0,none⟩ (.int .u8 0)).setCell ⟨N5,1,none⟩ (.int .i64 r)).setCell ⟨N5,2,none⟩ (.int .i64 xv)=W7 at HW5 HW6 HW7 HKO2 HFW2 ⊢
    obtain ⟨c2,hc2⟩:∃ y,y=r:=⟨_,rfl⟩
    obtain ⟨b2',hb2⟩:∃ y,y=xv:=⟨_,rfl⟩
    have HLf2:Hid (Lf X a m c2 b2'):=by
     obtain ⟨k1,k2,k3⟩:=hkey.out
     obtain ⟨r1,r2,r3,r4⟩:=HR.out
     rw [hc2,hb2]
     refine ⟨r1,.inr ⟨?_,HBD.out.1,HBD.out.2.1,HBD.out.2.2.1,r2⟩⟩
     rcases r4 with r4 | r4 | r4
     ·omega
     ·omega
     ·rcases Nat.lt_or_ge r 3 with hlt | hge
      ·exfalso
       have q:r=0 ∨ r=1 ∨ r=2:=by omega
       rcases q with q | q | q
       ·rw [q] at r4;exact r4 k1
       ·rw [q] at r4;exact r4 k2
       ·rw [q] at r4;exact r4 k3
      ·exact hge
    have HF2c:Hid (pre=[]->xv=1->(∀ j,j < m->byt X (a+j)=byt X (a - 1+j))->c2=m /\ b2'=1):=fun _ h1 hall => by
     rw [hc2,hb2]
     exact ⟨HR.out.2.2.1 (by rw [h1];exact hall),h1⟩
    rw [<- hc2,<- hb2] at HW5
    clear hc2 hb2 b0 b1 b2 bf d1
   case' neg =>
    have d1:decide ((c:Int) < (r:Int))=false:=by simp;omega
    gi_upto_region 12 with fail
    have HW5:=HV5
    have HW6:=HV6
    have HW7:=HV7
    have HKO2:=HKO
    have HFW2:=HFW
    have HF2c:Hid (pre=[]->xv=1->(∀ j,j < m->byt X (a+j)=byt X (a - 1+j))->c=m /\ b=1):=fun h1 h2 hall => by
     have:=HR.out.2.2.1 (by rw [h2];exact hall)
     have:=H00.out h1
     omega
    have HLf2:=HLf
    clear b0 b1 b2 bf d1
    generalize W'=W7 at HW5 HW6 HW7 HKO2 HFW2 ⊢
    generalize c=c2 at HW5 HF2c HLf2
    generalize b=b2' at HW5 HF2c HLf2
   all_goals
    have n0:W7.cell? ⟨N5,1,none⟩=some (.int .i64 c2):=(cells3w HW5.out).2.1
    have n1:W7.cell? ⟨N6,0,none⟩=some (.int .i64 m):=by rw [cell_of_row _ _ 0 _ _ _ HW6.out];rfl
    have n2:W7.cell? ⟨N7,0,none⟩=some (.int .i64 (t1+1:Nat)):=by rw [cell_of_row _ _ 0 _ _ _ HW7.out];rfl
    have n3:W7.frozen? ⟨N7,0,none⟩=false:=by have:=HW7.out;simp [World.frozen?,this]
    have jT:IntKind.i64.wrap (((t1+1:Nat):Int) - 1)=(t1:Int):=by rw [IntKind.wrap_i64];omega
    gi_upto_region 13 with fail
    have HQ5:Hid ((W7.setCell ⟨N7,0,none⟩ (.int .i64 t1)).heap[N5]? = _):=(Below.heap_setCell _ _ _ _ (by show N5 ≠ N7;omega)).trans HW5.out
    have HQ6:Hid ((W7.setCell ⟨N7,0,none⟩ (.int .i64 t1)).heap[N6]? = _):=(Below.heap_setCell _ _ _ _ (by show N6 ≠ N7;omega)).trans HW6.out
    have HQ7:Hid ((W7.setCell ⟨N7,0,none⟩ (.int .i64 t1)).heap[N7]? = some (.cells #[.int .i64 t1] 3 (0,0))):=by show _=_;rw [blk_set HW7.out];rfl
    have HKO3:Hid (KeepsOthers W (W7.setCell ⟨N7,0,none⟩ (.int .i64 t1))):=HKO2.out.trans (KeepsOthers.setCell _ _ _)
    have HFW3:Hid (Fr (fun k => k=N5 ∨ k=N7) W (W7.setCell ⟨N7,0,none⟩ (.int .i64 t1))):=HFW2.out.set ⟨N7,0,none⟩ (.inr rfl) _
    clear n0 n1 n2 n3 jT
    generalize W7.setCell ⟨N7,0,none⟩ (.int .i64 t1)=W8 at HQ5 HQ6 HQ7 HKO3 HFW3 ⊢
    have n0:W8.cell? ⟨N5,1,none⟩=some (.int .i64 c2):=(cells3w HQ5.out).2.1
    have n1:W8.cell? ⟨N6,0,none⟩=some (.int .i64 m):=by rw [cell_of_row _ _ 0 _ _ _ HQ6.out];rfl
    have n2:W8.cell? ⟨N7,0,none⟩=some (.int .i64 t1):=by rw [cell_of_row _ _ 0 _ _ _ HQ7.out];rfl
    have HLI:Hid (∀ ex:Bool,(ex=false->1<=t1 /\ c2 < m)->LI wc N5 N7 X a m ex (pre ++ [x]) W8):=fun ex hex => by
     refine ⟨HFF.out.trans HFW3.out,c2,b2',t1,HQ5.out,HQ7.out,by omega,hex,HLf2.out,fun e => by simp at e,fun x' ys e h1 hall => ?_⟩
     cases pre with
     | nil =>
      injection e with e1 e2
      obtain ⟨q1,q2⟩:=HF2c.out rfl (by rw [HXV.out,e1];exact h1) hall
      cases ex with
      | true => exact ⟨rfl,q1,q2⟩
      | false => have:=(hex rfl).2;omega
     | cons y zs =>
      injection e with e1 e2
      have:=(HFS.out y zs rfl (by rw [e1];exact h1) hall).1
      cases this
    have HKX:Hid (Kx T M pv1 B1 B2 W W8):=HFW3.out.mono (fun k hk => hk.elim (fun e => by rw [e];exact hNO5) (fun e => by rw [e];exact hNO7))
    by_cases ht0:t1=0
    ·have d2:((t1:Int) == 0)=true:=by simp [ht0]
     gi_wp2
     exact ⟨HKO3.out,rfl,HLI.out true (fun e => by cases e)⟩
    ·have d2:((t1:Int) == 0)=false:=by simp;omega
     by_cases hcm2:c2=m
     ·have d3:((c2:Int) == (m:Int))=true:=by simp [hcm2]
      gi_wp2
      exact ⟨HKO3.out,rfl,HLI.out true (fun e => by cases e)⟩
     ·have d3:((c2:Int) == (m:Int))=false:=by simp;omega
      gi_wp2
      exact ⟨HKO3.out,HKX.out,HLI.out false (fun _ => ⟨by omega,by have:=HLf2.out.le;omega⟩)⟩
  case' done =>
   rintro D1 xs W hD hS ⟨hf,c,b,t,g5,g7,ht1,-,hL,-,hfst⟩ hKd
   have HAL:Hid (1<=a->(∀ j,j < m->byt X (a+j)=byt X (a - 1+j))->c=m /\ b=1):=fun h1 hall => by
    obtain ⟨x,ys,e1,e2⟩:=hone h1 hall xs hS
    have:=(hfst x ys e1 e2 hall).1
    cases this
   have HG5:=hid g5
   have HFF:=hid hf
   have HLf:=hid hL
   have HKd:=hid hKd
   clear hS hfst g5 g7 hf hL ht1 hKd
   go_upto_region 14 with fail
  case' stop =>
   rintro D1 cc xs W hD hS ⟨rfl,hf,c,b,t,g5,g7,ht1,-,hL,-,hfst⟩ hKd
   have HAL:Hid (1<=a->(∀ j,j < m->byt X (a+j)=byt X (a - 1+j))->c=m /\ b=1):=fun h1 hall => by
    obtain ⟨x,ys,e1,e2⟩:=hone h1 hall xs hS
    exact (hfst x ys e1 e2 hall).2
   have HG5:=hid g5
   have HFF:=hid hf
   have HLf:=hid hL
   have HKd:=hid hKd
   clear hS hfst g5 g7 hf hL ht1 hKd
   refine wpIn_wide.2 ?_
   go_upto_region 14 with fail
  all_goals
   obtain ⟨b0,b1,b2,bf⟩:=cells3w HG5.out
   obtain ⟨o1,o2,o3,o4⟩:=HOR.out
   have HR0:Hid (W.heap[N0+1+1]? = _):=(HFF.out.blk (N0+1+1) (Array.getElem?_eq_some_iff.1 HY2.out).1 (fun e => by omega)).trans HY2.out
   obtain ⟨r0,r1,r2,rf⟩:=cells3w HR0.out
   have HFIN:Hid (∀ c' b':Nat,Lg X a c' b' -> ∀ v,v=Value.agg #[.int .u8 0,.int .i64 c',.int .i64 b'] -> ∃ c b pv',Ending.returned v = .returned (.agg #[.int .u8 0,.int .i64 (c:Nat),.int .i64 (b:Nat)]) /\ Lg X a c b /\ Sx (res3 W (N0+1+1) D1 (.int .u8 0) (.int .i64 c') (.int .i64 b')) S tr en X (min a (X.size - 2)) dr T M pv' /\ Fr (SxO S T M pv) w (res3 W (N0+1+1) D1 (.int .u8 0) (.int .i64 c') (.int .i64 b')) /\ Moved pv pv' w):=fun c' b' hlg v hv => by
    have hfin:=res3_fin (v0:=.int .u8 0) (v1:=.int .i64 c') (v2:=.int .i64 b') HFF.out hD HY2.out (by omega) (by omega) HKd.out
    have hap:=SxO.apart HS6.out HY2.out (by decide) (by decide) (by decide)
    have hn0:=HN0.out
    refine ⟨c',b',pv1,by rw [hv],hlg,?_,?_,HMw.out⟩
    ·rw [show min a (X.size - 2)=a by have:=HMA.out;omega]
     refine HS6.out.kept (fun k hk => hfin.2.1.blk k (HS6.out.olt hk) (fun e => ?_)) hfin.2.1.env.size
     rcases e with e | e | e
     ·exact SxO.apart HS6.out HY5.out (by decide) (by decide) (by decide) (e ▸ hk)
     ·exact SxO.apart HS6.out HY7.out (by decide) (by decide) (by decide) (e ▸ hk)
     ·exact hap (e ▸ hk)
    ·exact (HFw.out.below HB56.out).next hfin.2.1 (fun k hk => .inr (by omega))
   have hL:=HLf.out
   have HLG:Hid (Lg X a c b):=⟨by have:=hL.le;have:=HMm.out;omega,hL.ok,fun h1 h2 h3 => by have:=HMm.out;rw [<- this] at h3 ⊢;exact HAL.out h1 h3⟩
   have HKc:Hid (∀ c' b':Nat,(((W.setCell ⟨N0+1+1,0,none⟩ (.int .u8 0)).setCell ⟨N0+1+1,1,none⟩ (.int .i64 c')).setCell ⟨N0+1+1,2,none⟩ (.int .i64 b')).heap[D1]? = some (.deferred (some [])) /\ (res3 W (N0+1+1) D1 (.int .u8 0) (.int .i64 c') (.int .i64 b')).heap[N0+1+1]? = some (.cells #[.int .u8 0,.int .i64 c',.int .i64 b'] 158 (0,0))):=fun c' b' => by
    have hfin:=res3_fin (v0:=.int .u8 0) (v1:=.int .i64 c') (v2:=.int .i64 b') HFF.out hD HY2.out (by omega) (by omega) HKd.out
    exact ⟨hfin.1,hfin.2.2⟩
   clear hL
   by_cases hq:c=3
   ·have d1:((c:Int) == 3)=true:=by simp [hq]
    clear hq
    by_cases hq2:4096 < b
    ·have d2:decide ((4096:Int) < (b:Int))=true:=by simp;omega
     go_wp2
     have hk:=HKc.out 0 0
     have hk0:(res3 W (N0+1+1) D1 (.int .u8 0) (.int .i64 0) (.int .i64 0)).heap[N0+1+1]? = some (.cells #[.int .u8 0,.int .i64 0,.int .i64 0] 158 (0,0)):=hk.2
     obtain ⟨x0,x1,x2,-⟩:=cells3w hk0
     refine ⟨by simp,.inl ⟨_,_,rfl,run_takeDeferred hk.1,?_⟩⟩
     refine ⟨.agg #[.int .u8 0,.int .i64 0,.int .i64 0],?_,HFIN.out 0 0 ⟨by omega,.inl rfl,fun h1 h2 h3 => ?_⟩ _ rfl⟩
     ·unfold res3 at x0 x1 x2
      simp [results,Tryz.results107,go_sem,x0,x1,x2]
     ·have:=HLG.out.al h1 h2 h3
      omega
    ·have d2:decide ((4096:Int) < (b:Int))=false:=by simp;omega
     go_wp2
     have hk:=HKc.out c b
     obtain ⟨x0,x1,x2,-⟩:=cells3w hk.2
     refine ⟨by simp,.inl ⟨_,_,rfl,run_takeDeferred hk.1,?_⟩⟩
     refine ⟨.agg #[.int .u8 0,.int .i64 c,.int .i64 b],?_,HFIN.out c b HLG.out _ rfl⟩
     unfold res3 at x0 x1 x2
     simp [results,Tryz.results107,go_sem,x0,x1,x2]
   ·have d1:((c:Int) == 3)=false:=by simp;omega
    go_wp2
    have hk:=HKc.out c b
    obtain ⟨x0,x1,x2,-⟩:=cells3w hk.2
    refine ⟨by simp,.inl ⟨_,_,rfl,run_takeDeferred hk.1,?_⟩⟩
    refine ⟨.agg #[.int .u8 0,.int .i64 c,.int .i64 b],?_,HFIN.out c b HLG.out _ rfl⟩
    unfold res3 at x0 x1 x2
    simp [results,Tryz.results107,go_sem,x0,x1,x2]
end Go.Proofs.YthdmjmnkhlpnnabGreatDoor
