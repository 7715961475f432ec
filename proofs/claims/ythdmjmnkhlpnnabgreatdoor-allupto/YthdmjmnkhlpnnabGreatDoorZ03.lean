import Derived.Test.YthdmjmnkhlpnnabGreatDoorZ01
import Derived.Lib.AppendStr
import Derived.Test.YthdmjmnkhlpnnabGreatDoorZ02
namespace Go.Proofs.YthdmjmnkhlpnnabGreatDoor
open Go.RowKit
theorem run_append_string (w:World) (base:Nat) (ty:TypeId) (v:Value) (n:Nat) (xs:List Value) (hown:w.ownsRow base 5 1 v n xs) (s:ByteArray)
  (h63:n+s.size<=maxLen) (hbytes:n+s.size<=140737488355328) (hbase:base<=w.heap.size) :
  ∃ v' w',(Builtin.append_ #[72,9] ty #[v,.string s]).run Tryz.prog w = .ok v' w' /\ w'.ownsRow base 5 1 v' (n+s.size) (xs ++ bys s.data.toList) /\ w.grownBy w' v.ownBlock /\
   (v'.ownBlock=v.ownBlock ∨ v'.ownBlock=some w.heap.size):=by
 obtain ⟨i0,hi,hz0,hz1,hz2⟩:=info_parts info5
 have ht:=Tryz.underlying72
 have hu:=Tryz.underlying9
 obtain ⟨v',w',hrun,ho',hg',hnil⟩:=Lib.run_append_own_string (P:=Tryz.prog) w base 72 9 ty 5 i0 ht hu hi hz0 hz1 hz2 v n xs hown s h63 hbytes hbase
 refine ⟨v',w',hrun,ho',hg',?_⟩
 have hxl:xs.length=n:=by simpa using hown.1
 unfold maxLen at h63
 rcases hown.2 with ⟨rfl,rfl⟩ | ⟨g,cap,cur,rfl,hbg,hg,hnc,hcm,hcs,htake⟩
 ·by_cases hm:s.size=0
  ·have e:=hnil.2 ⟨rfl,hm⟩
   subst e
   exact .inl rfl
  ·have hr:=run_append_nil_string (P:=Tryz.prog) w 72 9 ty 5 i0 (.int .u8 0) ht hu hi hz0 s (by omega) (by omega) (by rw [hz2];omega)
   rw [hr] at hrun
   injection hrun with e _
   subst e
   exact .inr rfl
 ·have hcs':cur.size=cap:=by simpa using hcs
  by_cases hroom:n+s.size<=cap
  ·have hr:=Lib.run_append_room_string (P:=Tryz.prog) w 72 9 ty 5 i0 ht hu hi hz1 g n cap cur hg s hroom (by omega)
   rw [hr] at hrun
   injection hrun with e _
   subst e
   exact .inl rfl
  ·have holds:∀ j u,xs[j]? = some u->w.cell? ((⟨g,0,none⟩:Addr).add j)=some u:=hown.cells (g:=g) rfl
   have hr:=Lib.run_append_grow_string (P:=Tryz.prog) w 72 9 ty 5 i0 (.int .u8 0) ht hu hi hz0 ⟨g,0,none⟩ n cap xs (by rw [hz1];simpa using hxl) holds s (by omega) (by omega) (by rw [hz2];exact growslice_fits (by omega) (by omega))
   rw [hr] at hrun
   injection hrun with e _
   subst e
   exact .inr rfl
theorem wp_append_string {o:Oper} {a:Act} {K:Act->World->Prop} {Q:Exit->Act->World->Prop} (w:World) (sl x:Operand)
  (ho:o.op = .call { callee:=.builtin .append,args:=#[sl,x],argTypes:=#[72,9] })
  (base:Nat) (v:Value) (n:Nat) (xs:List Value) (hs:a.eval sl=v) (hown:w.ownsRow base 5 1 v n xs) (s:ByteArray) (hx:a.eval x = .string s)
  (h63:n+s.size<=maxLen) (hbytes:n+s.size<=140737488355328) (hbase:base<=w.heap.size)
  (h:∀ v' w',w'.ownsRow base 5 1 v' (n+s.size) (xs ++ bys s.data.toList)->w.grownBy w' v.ownBlock->(v'.ownBlock=v.ownBlock ∨ v'.ownBlock=some w.heap.size)->K (a.put o.dst v') w'):Oper.wp Tryz.prog o a w K Q:=by
 obtain ⟨v',w',hr,h2,h3,h4⟩:=run_append_string w base o.type v n xs hown s h63 hbytes hbase
 unfold Oper.wp execOp
 simp only [ho,resolve,invoke,builtin,Sem.run_bind,Sem.run_pure,Result.andThen_ok,List.map_toArray,List.map_cons,List.map_nil,hs,hx,hr]
 exact h v' w' h2 h3 h4
theorem wpList_append_string {ops:Array Oper} {rest:List Oper} {o:Oper} {a:Act} {Q:Exit->Act->World->Prop} (w:World) (hgd:o.guard=none) (sl x:Operand)
  (ho:o.op = .call { callee:=.builtin .append,args:=#[sl,x],argTypes:=#[72,9] })
  (base:Nat) (v:Value) (n:Nat) (xs:List Value) (hs:a.eval sl=v) (hown:w.ownsRow base 5 1 v n xs) (s:ByteArray) (hx:a.eval x = .string s)
  (h63:n+s.size<=maxLen) (hbytes:n+s.size<=140737488355328) (hbase:base<=w.heap.size)
  (h:∀ v' w',w'.ownsRow base 5 1 v' (n+s.size) (xs ++ bys s.data.toList)->w.grownBy w' v.ownBlock->(v'.ownBlock=v.ownBlock ∨ v'.ownBlock=some w.heap.size)->wpList Tryz.prog ops Q rest (a.put o.dst v') w'):wpList Tryz.prog ops Q (o :: rest) a w :=
 wpList_plain hgd fun _ hK => wp_append_string w sl x ho base v n xs hs hown s hx h63 hbytes hbase fun v' w' h2 h3 h4 => hK _ _ (h v' w' h2 h3 h4)
theorem step_append_string {ops:Array Oper} {o:Oper} {a:Act} {K:Act->World->Prop} {Q:Exit->Act->World->Prop} {X:Prop} (w:World) (hgd:o.guard=none) (sl x:Operand)
  (ho:o.op = .call { callee:=.builtin .append,args:=#[sl,x],argTypes:=#[72,9] })
  (base:Nat) (v:Value) (n:Nat) (xs:List Value) (hs:a.eval sl=v) (hown:w.ownsRow base 5 1 v n xs) (s:ByteArray) (hx:a.eval x = .string s)
  (h63:n+s.size<=maxLen) (hbytes:n+s.size<=140737488355328) (hbase:base<=w.heap.size)
  (h:∀ v' w',w'.ownsRow base 5 1 v' (n+s.size) (xs ++ bys s.data.toList)->w.grownBy w' v.ownBlock->(v'.ownBlock=v.ownBlock ∨ v'.ownBlock=some w.heap.size)->K (a.put o.dst v') w') :
  if Region.wanted o (yielded ops a.tmps)=true then Oper.wp Tryz.prog o a w K Q else X:=by
 rw [if_pos (by simp [Region.wanted,hgd])]
 exact wp_append_string w sl x ho base v n xs hs hown s hx h63 hbytes hbase h
end Go.Proofs.YthdmjmnkhlpnnabGreatDoor
namespace Go.Proofs.YthdmjmnkhlpnnabGreatDoor
open Go.RowKit
theorem Kw.cells {w w':World} {B:Nat} {ov:Value} {V L:Nat} {pv sv:Value} (hk:Kw B ov w w') (h:Wb w B ov V L pv sv) {q T:Nat} {cs:Array Value} {fr:Nat × Nat} (hq:w.heap[q]? = some (.cells cs T fr)) (h1:T ≠ 78) (h2:T ≠ 5):w'.heap[q]? = some (.cells cs T fr):=by
 obtain ⟨o,g,c,hW,-⟩:=h.st
 rw [hk.blk q (Array.getElem?_eq_some_iff.1 hq).1 (fun e => ?_) (fun e => ?_)]
 ·exact hq
 ·have:=hW.blk
  rw [<- e,hq] at this
  injection this with this;injection this with _ this _;exact h1 this
 ·obtain ⟨_,⟨rfl,_⟩ | ⟨k,cap,cur,rfl,_,hh,_⟩⟩:=hW.own
  ·simp [Value.ownBlock] at e
  ·simp [Value.ownBlock] at e
   subst e
   rw [hq] at hh
   injection hh with hh;injection hh with _ hh _;exact h2 hh
theorem row_shape {w:World} {base n e:Nat} {v:Value} {xs:List Value} (h:w.ownsRow base e 1 v n xs):∃ ao c,v = .slice ao n c:=by
 obtain ⟨_,⟨rfl,h0⟩ | ⟨q,cap,cur,rfl,_⟩⟩:=h
 ·exact ⟨none,0,by rw [h0]⟩
 ·exact ⟨_,_,rfl⟩
theorem Wr.grown0 {w:World} {B:Nat} {ov:Value} {o:List UInt8} {g c:Nat} {pv sv:Value} (h:Wr w B ov o g c pv sv) {w1:World} (hg:w.grownBy w1 ov.ownBlock):w1.heap[B]? = some (.cells #[ov,.int .u64 g,.int .i64 c,pv,sv] 78 (0,0)):=by
 rw [hg.block B h.lt (fun e => by have:=h.own.lt B e.symm;omega)]
 exact h.blk
theorem Wr.apps {w:World} {B:Nat} {ov:Value} {o:List UInt8} {g c:Nat} {pv sv:Value} (h:Wr w B ov o g c pv sv) {w1:World} {nv:Value} {t:List UInt8} {n:Nat} (hn:n=o.length+t.length) (hown:w1.ownsRow (B+1) 5 1 nv n (bys o ++ bys t)) (hg:w.grownBy w1 ov.ownBlock):Wr (w1.setCell ⟨B,0,none⟩ nv) B nv (o ++ t) g c pv sv:=by
 refine ⟨?_,?_⟩
 ·rw [blk_set (h.grown0 hg)];rfl
 ·rw [show bys (o ++ t)=bys o ++ bys t by simp [bys],List.length_append,<- hn]
  exact own_set hown rfl _
theorem Kw.apps {a w:World} {B:Nat} {ov:Value} (hk:Kw B ov a w) {w1:World} (hg:w.grownBy w1 ov.ownBlock):Kw B ov a w1 :=
 ⟨hk.env.grown hg (by omega) (fun _ _ => by omega),fun k hk' hB' ho => by
  have hs:=hk.env.size
  rw [hg.block k (by omega) ho]
  exact hk.blk k hk' hB' ho⟩
set_option maxHeartbeats 1600000 in
theorem asIs1_any (w:World) (B:Nat) (ov:Value) (V L:Nat) (pv sv:Value) (q:Nat) (s:ByteArray) (h:Wb w B ov V L pv sv) (hq:w.heap[q]? = some (.cells #[.string s] 9 (0,0))) (hs:s.size<=65535) (hL:L<=17179869184) :
  Calls Tryz.prog 75 #[.pointer (some ⟨B,0,none⟩),.pointer (some ⟨q,0,none⟩)] w fun e w' => e = .returned (.tuple #[]) /\ ∃ ov',Wb w' B ov' (V+2 ^ (L+2+lft (L+2))*(s.size+65536*(65535 - s.size)+4294967296*leN s.data.toList)) (L+2+lft (L+2)+32+8*s.size) pv sv /\ Kw B ov w w' /\ Moved ov ov' w:=by
 have HW:=hid h
 have HQ:=hid hq
 clear h hq
 go_enter Tryz.func75,Tryz.ntmps75
 obtain ⟨P,hP⟩:∃ P,P=L+2+lft (L+2):=⟨_,rfl⟩
 have hP8:P % 8=0:=by rw [hP];unfold lft;omega
 have hPL:P<=L+9:=by rw [hP];unfold lft;omega
 have HP:=hid hP
 clear hP
 have e16:(2:Nat) ^ 16=65536:=by decide
 have HF1:Hid True:=trivial
 have HF3:Hid True:=trivial
 have HN1:Hid (Calls Tryz.prog 73 #[.pointer (some ⟨B,0,none⟩),.int .i64 0,.int .i64 2] w fun e w' => e = .returned (.tuple #[]) /\ ∃ ov',Wb w' B ov' V (L+2) pv sv /\ Kw B ov w w' /\ Moved ov ov' w):=by
  have:=wnum_any w B ov V L pv sv 0 2 HW.out (by decide) (by omega) (by omega)
  rw [Nat.mul_zero,Nat.add_zero] at this
  exact this
 go_upto_region 4 with (first | (go_at_call 73;have hflag:=HF1;refine HN1.out.mono ?_;rintro e w1 ⟨rfl,o1,hb1,hk1,hm1⟩;have HW1:=hid hb1;have HK1:=hid hk1;have HM1:=hid hm1;clear hb1 hk1 hm1 hflag HF1) | (go_at_call 45;refine (wend_any _ B o1 V (L+2) pv sv HW1.out (by omega)).mono ?_;rintro e w2 ⟨rfl,o2,hb2,hk2,hm2⟩;rw [<- HP.out] at hb2;have hq2:w2.heap[q]? = some (.cells #[.string s] 9 (0,0)):=hk2.cells HW1.out (HK1.out.cells HW.out HQ.out (by decide) (by decide)) (by decide) (by decide);have cq:w2.cell? ⟨q,0,none⟩=some (.string s):=(by rw [cell_of_row w2 q 0 _ 9 (0,0) hq2];rfl);have HW2:=hid hb2;have HK2:=hid hk2;have HM2:=hid hm2;have HQ2:=hid hq2;clear hb2 hk2 hm2 hq2) | (go_at_call 73;have hflag:=HF3;refine (wnum_any _ B o2 V P pv sv s.size 16 HW2.out (by omega) (by omega) (by omega)).mono ?_;rintro e w3 ⟨rfl,o3,hb3,hk3,hm3⟩;have hq3:w3.heap[q]? = some (.cells #[.string s] 9 (0,0)):=hk3.cells HW2.out HQ2.out (by decide) (by decide);have cq3:w3.cell? ⟨q,0,none⟩=some (.string s):=(by rw [cell_of_row w3 q 0 _ 9 (0,0) hq3];rfl);have HW3:=hid hb3;have HK3:=hid hk3;have HM3:=hid hm3;have HQ3:=hid hq3;clear hb3 hk3 hm3 hq3 hflag HF3) | (go_at_call 73;have h4:=wnum_any w3 B o3 _ _ pv sv (65535 - s.size) 16 HW3.out (by omega) (by omega) (by omega);rw [show ((65535 - s.size:Nat):Int)=65535 - (s.size:Int) by omega] at h4;refine h4.mono ?_;clear h4;rintro e w4 ⟨rfl,o4,hb4,hk4,hm4⟩;have hq4:w4.heap[q]? = some (.cells #[.string s] 9 (0,0)):=hk4.cells HW3.out HQ3.out (by decide) (by decide);have cq4:w4.cell? ⟨q,0,none⟩=some (.string s):=(by rw [cell_of_row w4 q 0 _ 9 (0,0) hq4];rfl);have HW4:=hid hb4;have HK4:=hid hk4;have HM4:=hid hm4;clear hb4 hk4 hm4 hq4))
 obtain ⟨o,g,c,hWr,hc,hg,hV,hLL⟩:=HW4.out.st
 obtain rfl:c=0:=by omega
 obtain rfl:g=0:=by have:(2:Nat) ^ 0=1:=rfl;omega
 obtain ⟨ao,cp,rfl⟩:=hWr.shape
 have hol:o.length<=4294967296:=by omega
 have HWr:=hid hWr
 have HV:=hid hV
 have HLL:=hid hLL
 have c0:=hWr.cell.1
 have hBl:=hWr.lt
 have HC1:Hid (w4.drew.ownsRow (B+1) 5 1 (.slice ao o.length cp) o.length (bys o)):=hWr.own
 have HC3:Hid (o.length+s.size<=maxLen):=by show _<=_;unfold maxLen;omega
 have HC4:Hid (B+1<=w4.drew.heap.size):=by show _<=_;simp;omega
 clear hWr hV hLL hg cq cq3
 go_region_law
  ((refine step_append_string _ (by rfl) _ _ (by rfl) (B+1) (.slice ao o.length cp) o.length (bys o) (by rfl) HC1.out s (by rfl) HC3.out (by omega) HC4.out ?_;intro v' w5 hown5 hgrow hat;obtain ⟨va,vc,rfl⟩:=row_shape hown5;have hgw:w4.grownBy w5 (Value.slice ao o.length cp).ownBlock:=⟨hgrow.os,hgrow.tape,hgrow.output,hgrow.size,hgrow.block⟩;have hblk:=HWr.out.grown0 hgw;have c0':w5.cell? ⟨B,0,none⟩=some (.slice ao o.length cp):=(by rw [cell_of_row w5 B 0 _ 78 (0,0) hblk];rfl);have f0':w5.frozen? ⟨B,0,none⟩=false:=(by simp [World.frozen?,hblk]);clear hblk))
 all_goals
  have hsl:s.data.toList.length=s.size:=by rw [Array.length_toList];rfl
  have hW5:=HWr.out.apps (t:=s.data.toList) (by rw [hsl]) hown5 hgw
  have HW5:=hid hW5
  clear hW5 c0 c0' f0'
  go_wp2
  go_end0
  refine ⟨rfl,.slice va (o.length+s.size) vc,⟨o ++ s.data.toList,0,0,HW5.out,by omega,by decide,?_,?_⟩,?_,?_⟩
  ·have hV:V+2 ^ P*s.size+2 ^ (P+16)*(65535 - s.size)=leN o:=by have:=HV.out;simpa using this
   have h256:256 ^ o.length=2 ^ (P+32):=by rw [pow256];congr 1;have:=HLL.out;omega
   have e32:(2:Nat) ^ 32=4294967296:=by decide
   rw [leN_append,<- HP.out,<- hV,h256,Nat.pow_add 2 P 16,Nat.pow_add 2 P 32,show (2:Nat) ^ 16=65536 by decide,e32]
   simp only [Nat.mul_add,Nat.mul_assoc,Nat.add_assoc,Nat.mul_zero,Nat.add_zero]
  ·have:=HLL.out
   rw [List.length_append,hsl,<- HP.out]
   omega
  ·exact (((HK1.out.trans HM1.out HK2.out).trans (HM1.out.trans HK1.out.env.size HM2.out) HK3.out).trans ((HM1.out.trans HK1.out.env.size HM2.out).trans (HK1.out.trans HM1.out HK2.out).env.size HM3.out) HK4.out).trans (((HM1.out.trans HK1.out.env.size HM2.out).trans (HK1.out.trans HM1.out HK2.out).env.size HM3.out).trans ((HK1.out.trans HM1.out HK2.out).trans (HM1.out.trans HK1.out.env.size HM2.out) HK3.out).env.size HM4.out) (((Kw.refl _ _ w4).apps hgw).set 0 _)
  ·refine ((((HM1.out.trans HK1.out.env.size HM2.out).trans (HK1.out.trans HM1.out HK2.out).env.size HM3.out).trans ((HK1.out.trans HM1.out HK2.out).trans (HM1.out.trans HK1.out.env.size HM2.out) HK3.out).env.size HM4.out)).trans (((HK1.out.trans HM1.out HK2.out).trans (HM1.out.trans HK1.out.env.size HM2.out) HK3.out).trans ((HM1.out.trans HK1.out.env.size HM2.out).trans (HK1.out.trans HM1.out HK2.out).env.size HM3.out) HK4.out).env.size ?_
   rcases hat with h | h
   ·exact .inl h
   ·exact .inr ⟨w4.heap.size,Nat.le_refl _,h⟩
end Go.Proofs.YthdmjmnkhlpnnabGreatDoor
namespace Go.Proofs.YthdmjmnkhlpnnabGreatDoor
open Go.RowKit
structure Pk (w:World) (B:Nat) (V L:Nat) (t:List UInt8) (sv:Value):Prop where
 st:∃ ov pv,Wb w B ov V L pv sv /\ w.ownsRow (B+1) 5 1 pv t.length (bys t) /\ (pv.ownBlock=none ∨ pv.ownBlock ≠ ov.ownBlock)
structure Kk (B:Nat) (w w':World):Prop where
 below:Below B w w'
 cells:∀ (k:Nat) (cs:Array Value) (T:TypeId) (fr:Nat × Nat),w.heap[k]? = some (.cells cs T fr)->T ≠ 78->T ≠ 5->w'.heap[k]? = w.heap[k]?
theorem bytes_run {w:World} {base:Nat} {pv:Value} {t:List UInt8} (h:w.ownsRow base 5 1 pv t.length (bys t)):(convert 72 9 pv).run Tryz.prog w = .ok (.string ⟨t.toArray⟩) w:=by
 obtain ⟨hl,⟨rfl,h0⟩ | ⟨g,cap,cur,rfl,hg,hh,h1,h2,h3,h4⟩⟩:=h
 ·have ht:t=[]:=List.eq_nil_of_length_eq_zero h0
  subst ht
  exact run_convert_bytes_nil w 72 5 Tryz.underlying72 Tryz.underlying5 0 0 9 Tryz.underlying9
 ·refine run_convert_bytes_back w 72 9 5 ⟨g,0,none⟩ cap t Tryz.underlying72 Tryz.underlying5 Tryz.underlying9 (fun j hj => ?_)
  have e2:(⟨g,0,none⟩:Addr).add j=⟨g,j,none⟩:=by unfold Addr.add;split <;> simp_all
  rw [e2,cell_of_row w g j cur 5 (0,0) hh]
  have e:cur.toList[j]? = (bys t)[j]?:=by rw [<- h4,List.getElem?_take,if_pos (by omega)]
  rw [<- Array.getElem?_toList,e]
  simp [bys,hj]
theorem Wb.setp {w:World} {B:Nat} {ov:Value} {V L:Nat} {pv sv:Value} (h:Wb w B ov V L pv sv) (u:Value):Wb (w.setCell ⟨B,3,none⟩ u) B ov V L u sv:=by
 obtain ⟨o,g,c,hWr,r⟩:=h.st
 exact ⟨o,g,c,⟨by rw [blk_set hWr.blk];rfl,own_set hWr.own rfl _⟩,r⟩
theorem Wb.drewN {w:World} {B:Nat} {ov:Value} {V L:Nat} {pv sv:Value} (h:Wb w B ov V L pv sv) (n:Nat):Wb (w.drewN n) B ov V L pv sv:=by
 obtain ⟨o,g,c,hWr,r⟩:=h.st
 exact ⟨o,g,c,hWr.drewN n,r⟩
theorem Wb.srch {w:World} {B:Nat} {ov:Value} {V L:Nat} {pv sv:Value} (h:Wb w B ov V L pv sv):w.cell? ⟨B,4,none⟩=some sv:=by
 obtain ⟨o,g,c,hWr,r⟩:=h.st
 exact hWr.cell.2.2.2.2
theorem Wb.lt {w:World} {B:Nat} {ov:Value} {V L:Nat} {pv sv:Value} (h:Wb w B ov V L pv sv):B < w.heap.size:=by
 obtain ⟨o,g,c,hWr,r⟩:=h.st
 exact hWr.lt
theorem own_below {w w':World} {base n:Nat} {v:Value} {xs:List Value} (h:w.ownsRow base 5 1 v n xs) (hb:Below w.heap.size w w'):w'.ownsRow base 5 1 v n xs:=by
 obtain ⟨g1,g2⟩:=h
 refine ⟨g1,?_⟩
 rcases g2 with h2 | ⟨g,cap,cur,hv,hg,hh,r⟩
 ·exact Or.inl h2
 ·exact Or.inr ⟨g,cap,cur,hv,hg,(hb.block g (Array.getElem?_eq_some_iff.1 hh).1).trans hh,r⟩
theorem Wb.below {w w':World} {B:Nat} {ov:Value} {V L:Nat} {pv sv:Value} (h:Wb w B ov V L pv sv) (hb:Below w.heap.size w w'):Wb w' B ov V L pv sv:=by
 obtain ⟨o,g,c,hWr,r⟩:=h.st
 exact ⟨o,g,c,⟨(hb.block B hWr.lt).trans hWr.blk,own_below hWr.own hb⟩,r⟩
theorem Kw.below {a w w':World} {B:Nat} {ov:Value} (h:Kw B ov a w) (hb:Below w.heap.size w w'):Kw B ov a w' :=
 ⟨h.env.trans (hb.mono (by omega)),fun k hk hB ho => (hb.block k (by have:=h.env.size;omega)).trans (h.blk k hk hB ho)⟩
theorem row_zero {w:World} {base n pc:Nat} {pa:Option Addr} {xs:List Value} (h:w.ownsRow base 5 1 (.slice pa n pc) n xs):w.ownsRow base 5 1 (.slice pa 0 pc) 0 []:=by
 obtain ⟨_,⟨hv,h0⟩ | ⟨g,cap,cur,hv,hg,hh,h1,h2,h3,h4⟩⟩:=h
 ·injection hv with e1 e2 e3
  subst e1 e3
  exact ⟨rfl,Or.inl ⟨rfl,rfl⟩⟩
 ·injection hv with e1 e2 e3
  subst e1 e3
  exact ⟨rfl,Or.inr ⟨g,pc,cur,rfl,hg,hh,by omega,h2,h3,rfl⟩⟩
theorem own_kw {w w':World} {B n:Nat} {ov pv:Value} {xs:List Value} (h:w.ownsRow (B+1) 5 1 pv n xs) (hk:Kw B ov w w') (hne:pv.ownBlock=none ∨ pv.ownBlock ≠ ov.ownBlock):w'.ownsRow (B+1) 5 1 pv n xs:=by
 obtain ⟨g1,g2⟩:=h
 refine ⟨g1,?_⟩
 rcases g2 with h2 | ⟨g,cap,cur,rfl,hg,hh,r⟩
 ·exact Or.inl h2
 ·refine Or.inr ⟨g,cap,cur,rfl,hg,(hk.blk g (Array.getElem?_eq_some_iff.1 hh).1 (by omega) (fun e => ?_)).trans hh,r⟩
  rcases hne with hne | hne
  ·simp [Value.ownBlock] at hne
  ·exact hne e
theorem ne_moved {w:World} {base n:Nat} {ov ov' pv:Value} {xs:List Value} (h:w.ownsRow base 5 1 pv n xs) (hm:Moved ov ov' w) (hne:pv.ownBlock=none ∨ pv.ownBlock ≠ ov.ownBlock):pv.ownBlock=none ∨ pv.ownBlock ≠ ov'.ownBlock:=by
 rcases hne with hne | hne
 ·exact .inl hne
 ·refine .inr fun e => ?_
  rcases hm with hm | ⟨q,hq,hm⟩
  ·exact hne (e.trans hm)
  ·have:=(h.lt q (e.trans hm)).2
   omega
theorem Kk.refl (B:Nat) (w:World):Kk B w w:=⟨Below.refl _ _,fun _ _ _ _ _ _ _ => rfl⟩
theorem Kk.trans {B:Nat} {a b c:World} (h:Kk B a b) (k:Kk B b c):Kk B a c :=
 ⟨h.below.trans k.below,fun i cs T fr hi h1 h2 => (k.cells i cs T fr ((h.cells i cs T fr hi h1 h2).trans hi) h1 h2).trans (h.cells i cs T fr hi h1 h2)⟩
theorem Kk.ofBelow {B:Nat} {w w':World} (h:Below w.heap.size w w') (hB:B<=w.heap.size):Kk B w w' :=
 ⟨h.mono hB,fun k _ _ _ hk _ _ => h.block k (Array.getElem?_eq_some_iff.1 hk).1⟩
end Go.Proofs.YthdmjmnkhlpnnabGreatDoor
namespace Go.Proofs.YthdmjmnkhlpnnabGreatDoor
open Go.RowKit
def blL (L n:Nat):Nat:=L+3+lft (L+3)+32+8*n
def blV (V L:Nat) (t:List UInt8) (b:Bool):Nat:=V+2 ^ L*b.toNat+2 ^ (L+3+lft (L+3))*(t.length+65536*(65535 - t.length)+4294967296*leN t)
def adF:Nat->Nat->Nat->List UInt8->List UInt8->Nat × Nat × List UInt8
 | 0,V,L,t,u => (V,L,t ++ u)
 | f+1,V,L,t,u => if 65535 < t.length+u.length then adF f (blV V L (t ++ u.take (65535 - t.length)) false) (blL L 65535) [] (u.drop (65535 - t.length)) else (V,L,t ++ u)
def waitOf (w:World) (B:Nat):Nat:=match w.cell? ⟨B,3,none⟩ with | some (.slice _ n _) => n | _ => 0
def sizeOfS:Value->Nat | .string s => s.size | _ => 0
theorem Wb.grownP {w w1:World} {B:Nat} {ov pv:Value} {V L n:Nat} {sv:Value} {xs:List Value} (h:Wb w B ov V L pv sv) (ho:w.ownsRow (B+1) 5 1 pv n xs) (hne:pv.ownBlock=none ∨ pv.ownBlock ≠ ov.ownBlock) (hg:w.grownBy w1 pv.ownBlock):Wb w1 B ov V L pv sv:=by
 obtain ⟨o,g,c,hW,r⟩:=h.st
 refine ⟨o,g,c,⟨?_,?_⟩,r⟩
 ·rw [hg.block B hW.lt (fun e => by have:=ho.lt B e.symm;omega)]
  exact hW.blk
 ·obtain ⟨g1,g2⟩:=hW.own
  refine ⟨g1,?_⟩
  rcases g2 with h2 | ⟨k,cap,cur,rfl,hk,hh,r⟩
  ·exact Or.inl h2
  ·refine Or.inr ⟨k,cap,cur,rfl,hk,(hg.block k (Array.getElem?_eq_some_iff.1 hh).1 (fun e => ?_)).trans hh,r⟩
   rcases hne with hne | hne
   ·rw [hne] at e;cases e
   ·exact hne e.symm
theorem Kk.grownP {w w1:World} {B:Nat} {pv:Value} {n:Nat} {xs:List Value} (ho:w.ownsRow (B+1) 5 1 pv n xs) (hB:B < w.heap.size) (hg:w.grownBy w1 pv.ownBlock):Kk B w w1:=by
 refine ⟨(Below.refl _ _).grown hg (by omega) (fun k hk => by have:=ho.lt k hk;omega),fun k cs T fr hk h1 h2 => hg.block k (Array.getElem?_eq_some_iff.1 hk).1 (fun e => ?_)⟩
 obtain ⟨_,⟨rfl,_⟩ | ⟨q,cap,cur,rfl,_,hh,_⟩⟩:=ho
 ·simp [Value.ownBlock] at e
 ·simp [Value.ownBlock] at e
  subst e
  rw [hk] at hh
  injection hh with hh;injection hh with _ hh _;exact h2 hh
theorem Kk.setp {w:World} {B:Nat} {ov:Value} {V L:Nat} {pv sv:Value} (h:Wb w B ov V L pv sv) (u:Value):Kk B w (w.setCell ⟨B,3,none⟩ u):=by
 obtain ⟨o,g,c,hW,r⟩:=h.st
 refine ⟨(Below.refl _ _).setCell (Nat.le_refl B) u,fun k cs T fr hk h1 _ => Below.heap_setCell _ _ _ _ (fun e => ?_)⟩
 have e':k=B:=e
 subst e'
 rw [hW.blk] at hk
 injection hk with hk;injection hk with _ hk _;exact h1 hk.symm
theorem Pk.app {w w1:World} {B:Nat} {ov pv v':Value} {V L n:Nat} {t u:List UInt8} {sv:Value} (h:Wb w B ov V L pv sv) (ho:w.ownsRow (B+1) 5 1 pv t.length (bys t)) (hne:pv.ownBlock=none ∨ pv.ownBlock ≠ ov.ownBlock)
  (hn:n=t.length+u.length) (hown:w1.ownsRow (B+1) 5 1 v' n (bys t ++ bys u)) (hg:w.grownBy w1 pv.ownBlock) (hat:v'.ownBlock=pv.ownBlock ∨ v'.ownBlock=some w.heap.size):Pk (w1.setCell ⟨B,3,none⟩ v') B V L (t ++ u) sv:=by
 have h1:=(h.grownP ho hne hg).setp v'
 refine ⟨ov,v',h1,?_,?_⟩
 ·rw [show bys (t ++ u)=bys t ++ bys u by simp [bys],List.length_append,<- hn]
  exact own_set hown rfl _
 ·obtain ⟨o,g,c,hW,r⟩:=h.st
  rcases hat with e | e
  ·rcases hne with hne | hne
   ·exact .inl (e.trans hne)
   ·exact .inr (fun x => hne (e.symm.trans x))
  ·refine .inr (fun x => ?_)
   have:=(hW.own.lt w.heap.size (x.symm.trans e)).2
   omega
theorem Wb.wait {w:World} {B:Nat} {ov:Value} {V L:Nat} {pv sv:Value} (h:Wb w B ov V L pv sv):w.cell? ⟨B,3,none⟩=some pv:=by
 obtain ⟨o,g,c,hWr,r⟩:=h.st
 exact hWr.cell.2.2.2.1
theorem Wb.free3 {w:World} {B:Nat} {ov:Value} {V L:Nat} {pv sv:Value} (h:Wb w B ov V L pv sv):w.frozen? ⟨B,3,none⟩=false:=by
 obtain ⟨o,g,c,hWr,r⟩:=h.st
 exact hWr.free 3
theorem Pk.waitOf {w:World} {B V L:Nat} {t:List UInt8} {sv:Value} (h:Pk w B V L t sv):waitOf w B=t.length:=by
 obtain ⟨ov,pv,hWb,hpo,hne⟩:=h.st
 obtain ⟨pa,pc,rfl⟩:=row_shape hpo
 unfold Go.Proofs.YthdmjmnkhlpnnabGreatDoor.waitOf
 rw [hWb.wait]
theorem extract_take (S:ByteArray) (r:Nat):(S.extract 0 r).data.toList=S.data.toList.take r:=by
 rw [ByteArray.data_extract,Array.toList_extract]
 simp [List.extract_eq_take_drop]
theorem extract_drop (S:ByteArray) (r:Nat):(S.extract r S.size).data.toList=S.data.toList.drop r:=by
 have hs:S.data.size=S.size:=rfl
 rw [ByteArray.data_extract,Array.toList_extract]
 simp [List.extract_eq_take_drop]
 apply List.take_of_length_le
 simp
end Go.Proofs.YthdmjmnkhlpnnabGreatDoor
namespace Go.Proofs.YthdmjmnkhlpnnabGreatDoor
open Go.RowKit
theorem Pk.drewN {w:World} {B V L:Nat} {t:List UInt8} {sv:Value} (h:Pk w B V L t sv) (n:Nat):Pk (w.drewN n) B V L t sv:=by
 obtain ⟨ov,pv,hWb,hpo,hne⟩:=h.st
 exact ⟨ov,pv,hWb.drewN n,hpo,hne⟩
theorem Pk.cells {w:World} {B V L:Nat} {t:List UInt8} {sv:Value} (h:Pk w B V L t sv):∃ ov pa pc,w.cell? ⟨B,0,none⟩=some ov /\ w.cell? ⟨B,3,none⟩=some (.slice pa t.length pc) /\ w.cell? ⟨B,4,none⟩=some sv /\ w.frozen? ⟨B,0,none⟩=false /\ w.frozen? ⟨B,3,none⟩=false /\ w.frozen? ⟨B,4,none⟩=false:=by
 obtain ⟨ov,pv,hWb,hpo,hne⟩:=h.st
 obtain ⟨o,g,c,hW,r⟩:=hWb.st
 obtain ⟨pa,pc,rfl⟩:=row_shape hpo
 exact ⟨ov,pa,pc,hW.cell.1,hW.cell.2.2.2.1,hW.cell.2.2.2.2,hW.free 0,hW.free 3,hW.free 4⟩
theorem Pk.lt {w:World} {B V L:Nat} {t:List UInt8} {sv:Value} (h:Pk w B V L t sv):B < w.heap.size:=by
 obtain ⟨ov,pv,hWb,hpo,hne⟩:=h.st
 exact hWb.lt
theorem Pk.nils {w:World} {B V L:Nat} {t:List UInt8} {sv:Value} (h:Pk w B V L t sv):Pk ((w.setCell ⟨B,3,none⟩ (.slice none 0 0)).setCell ⟨B,4,none⟩ (.pointer none)) B V L [] (.pointer none) /\ Kk B w ((w.setCell ⟨B,3,none⟩ (.slice none 0 0)).setCell ⟨B,4,none⟩ (.pointer none)):=by
 obtain ⟨ov,pv,hWb,hpo,hne⟩:=h.st
 obtain ⟨o,g,c,hW,r⟩:=hWb.st
 refine ⟨⟨ov,.slice none 0 0,⟨o,g,c,⟨?_,own_set (own_set hW.own rfl _) rfl _⟩,r⟩,⟨rfl,Or.inl ⟨rfl,rfl⟩⟩,.inl rfl⟩,?_⟩
 ·rw [blk_set (blk_set hW.blk _ _) _ _];rfl
 ·refine ⟨((Below.refl _ _).setCell (Nat.le_refl B) _).setCell (Nat.le_refl B) _,fun k cs T fr hk h1 _ => ?_⟩
  have hkB:k ≠ B:=fun e => by
   subst e
   rw [hW.blk] at hk
   injection hk with hk;injection hk with _ hk _;exact h1 hk.symm
  rw [Below.heap_setCell _ _ _ _ (by exact hkB),Below.heap_setCell _ _ _ _ (by exact hkB)]
theorem new0_any (w:World) :
  Calls Tryz.prog 15 #[.int .i64 0] w fun e w' => e = .returned (.pointer (some ⟨w.heap.size,0,none⟩)) /\ Pk w' w.heap.size 0 0 [] (.pointer none) /\ Below w.heap.size w w':=by
 have HN:Hid (Pk (w.alloc (.cells #[.slice none 0 0,.int .u64 0,.int .i64 0,.slice none 0 0,.pointer none] 78)) w.heap.size 0 0 [] (.pointer none)) :=
  ⟨.slice none 0 0,.slice none 0 0,⟨[],0,0,⟨heap_alloc_new w _,⟨rfl,Or.inl ⟨rfl,rfl⟩⟩⟩,by omega,by decide,by simp [leN],by simp⟩,⟨rfl,Or.inl ⟨rfl,rfl⟩⟩,.inl rfl⟩
 have HB:Hid (Below w.heap.size w (w.alloc (.cells #[.slice none 0 0,.int .u64 0,.int .i64 0,.slice none 0 0,.pointer none] 78))):=(Below.refl _ _).alloc (Nat.le_refl _) _
 go_enter Tryz.func15,Tryz.ntmps15
 go_wp2
 go_ret
 exact ⟨rfl,HN.out,HB.out⟩
end Go.Proofs.YthdmjmnkhlpnnabGreatDoor
namespace Go.Proofs.YthdmjmnkhlpnnabGreatDoor
open Go.RowKit
def nums (zs:List Int):Array Value:=(zs.map (Value.int .i64)).toArray
theorem nums_size (zs:List Int):(nums zs).size=zs.length:=by simp [nums]
theorem nums_get (zs:List Int) (j:Nat) (h:j < zs.length):(nums zs)[j]? = some (.int .i64 (zs.getD j 0)):=by simp [nums,h]
theorem nums_set (zs:List Int) (j:Nat) (v:Int):(nums zs).setIfInBounds j (.int .i64 v)=nums (zs.set j v):=by
 simp [nums,List.map_set]
theorem nums_made (n:Nat):madeCells #[Value.int .i64 0] n=nums (List.replicate n 0):=by
 apply Array.ext_getElem?
 intro i
 unfold madeCells nums
 by_cases h:i < n
 ·simp [h,Nat.mod_one]
 ·simp [h]
def Row (w:World) (g:Nat) (zs:List Int):Prop:=w.heap[g]? = some (.cells (nums zs) 3 (0,0))
theorem Row.cell {w:World} {g:Nat} {zs:List Int} (h:Row w g zs) {j:Nat} (hj:j < zs.length):w.cell? ⟨g,j,none⟩=some (.int .i64 (zs.getD j 0)):=by
 rw [cell_of_row w g j (nums zs) 3 (0,0) h,nums_get zs j hj]
theorem Row.free {w:World} {g:Nat} {zs:List Int} (h:Row w g zs) (j:Nat):w.frozen? ⟨g,j,none⟩=false:=by
 have h':w.heap[g]? = some (.cells (nums zs) 3 (0,0)):=h
 simp [World.frozen?,h']
theorem Row.set {w:World} {g:Nat} {zs:List Int} (h:Row w g zs) (j:Nat) (v:Int):Row (w.setCell ⟨g,j,none⟩ (.int .i64 v)) g (zs.set j v):=by
 unfold Row
 rw [setCell_eq_setRow w g j (nums zs) 3 (0,0) _ h,nums_set]
 exact setRow_heap w g (nums zs) _ 3 _ h
theorem Row.other {w:World} {g:Nat} {zs:List Int} (h:Row w g zs) {a:Addr} (hb:g ≠ a.block) (v:Value):Row (w.setCell a v) g zs:=by
 unfold Row
 rw [Below.heap_setCell w a v g hb]
 exact h
theorem Row.seg {w:World} {g:Nat} {zs:List Int} (h:Row w g zs):Seg w (some ⟨g,0,none⟩) zs :=
 fun _ => ⟨g,0,rfl,fun j hj => by rw [Nat.zero_add];exact h.cell hj⟩
theorem Row.lt {w:World} {g:Nat} {zs:List Int} (h:Row w g zs):g < w.heap.size:=(Array.getElem?_eq_some_iff.1 h).1
def bt (zs:List Int) (i:Nat):Nat:=if 0 < zs.getD i 0 then fst zs (zs.getD i 0).toNat+cnt (zs.take i) (zs.getD i 0).toNat else 0
def bts (zs:List Int):List Int:=(List.range zs.length).map fun i => (bt zs i:Int)
theorem bts_length (zs:List Int):(bts zs).length=zs.length:=by simp [bts]
theorem bts_getD (zs:List Int) (i:Nat) (h:i < zs.length):(bts zs).getD i 0=bt zs i:=by simp [bts,h]
theorem info3:(Tryz.prog.info? 3).map (fun i => (i.zero,i.size,i.bytes))=some (some (.int .i64 0),1,8):=by kernel_rfl
end Go.Proofs.YthdmjmnkhlpnnabGreatDoor
namespace Go.Proofs.YthdmjmnkhlpnnabGreatDoor
open Go.RowKit
def sa (zs:List Int) (n:Nat):Nat->List Int
 | 0 => []
 | k+1 => sa zs n k ++ (if zs.getD k 0=(n:Int) then [(k:Int)] else [])
theorem sa_length (zs:List Int) (n k:Nat) (hn:0 < n) (hk:k<=zs.length):(sa zs n k).length=cnt (zs.take k) n:=by
 induction k with
 | zero => simp [sa,cnt]
 | succ k ih =>
  rw [take_snocI zs k (by omega)]
  by_cases h0:0 < zs.getD k 0
  ·have e:=cnt_snoc (zs.take k) (zs.getD k 0) h0 n
   simp only [sa,List.length_append,ih (by omega)]
   by_cases hz:zs.getD k 0=(n:Int)
   ·rw [if_pos (by omega)] at e;rw [if_pos hz];simp only [List.length_cons,List.length_nil];omega
   ·rw [if_neg (by omega)] at e;rw [if_neg hz];simp only [List.length_nil];omega
  ·rw [cnt_skip _ _ (by omega)]
   simp only [sa,List.length_append,ih (by omega)]
   rw [if_neg (by omega)];simp only [List.length_nil];omega
theorem sa_prefix (zs:List Int) (n k m:Nat) (h:k<=m):∃ r,sa zs n m=sa zs n k ++ r:=by
 induction m with
 | zero => obtain rfl:k=0:=by omega
           exact ⟨[],by simp⟩
 | succ m ih =>
  by_cases e:k=m+1
  ·subst e;exact ⟨[],by simp⟩
  ·obtain ⟨r,hr⟩:=ih (by omega)
   exact ⟨r ++ (if zs.getD m 0=(n:Int) then [(m:Int)] else []),by rw [sa,hr,List.append_assoc]⟩
def sy (zs:List Int) (n i:Nat):Int:=(sa zs n zs.length).getD i 0
theorem sy_at (zs:List Int) (n k:Nat) (hk:k < zs.length) (hn:0 < n) (h:zs.getD k 0=(n:Int)):sy zs n (cnt (zs.take k) n)=k:=by
 obtain ⟨r,hr⟩:=sa_prefix zs n (k+1) zs.length (by omega)
 unfold sy
 rw [hr,sa,if_pos h,<- sa_length zs n k hn (by omega)]
 simp
theorem sa_mem (zs:List Int) (n k:Nat) (z:Int) (h:z ∈ sa zs n k):0<=z /\ z < k:=by
 induction k with
 | zero => simp [sa] at h
 | succ k ih =>
  simp only [sa,List.mem_append] at h
  rcases h with h | h
  ·have:=ih h;omega
  ·split at h
   ·simp at h;omega
   ·simp at h
theorem sy_lt (zs:List Int) (n i:Nat) (hn:0 < n) (hi:i < cnt zs n):0<=sy zs n i /\ sy zs n i < zs.length:=by
 have hl:=sa_length zs n zs.length hn (Nat.le_refl _)
 rw [List.take_of_length_le (Nat.le_refl _)] at hl
 unfold sy
 rw [List.getD_eq_getElem?_getD,List.getElem?_eq_getElem (by omega)]
 exact sa_mem zs n zs.length _ (List.getElem_mem _)
def plc (zs:List Int):Nat->Nat
 | 0 => 0
 | n+1 => plc zs n+cnt zs (n+1)
theorem plc_mono (zs:List Int) {a b:Nat} (h:a<=b):plc zs a<=plc zs b:=by
 induction b with
 | zero => obtain rfl:a=0:=by omega
           exact Nat.le_refl _
 | succ b ih =>
  by_cases e:a=b+1
  ·subst e;exact Nat.le_refl _
  ·have:=ih (by omega);simp only [plc];omega
theorem cnt_cons' (z:Int) (l:List Int) (j:Nat):cnt (z :: l) j=cnt l j+if 0 < z /\ z=(j:Int) then 1 else 0:=by
 unfold cnt
 by_cases h0:j=0
 ·subst h0;simp;omega
 ·simp only [h0,if_false,List.count_cons]
  by_cases hz:z=(j:Int)
  ·subst hz;rw [if_pos (by simp),if_pos (by omega)]
  ·rw [if_neg (by simp [hz]),if_neg (by omega)]
theorem plc_cons (z:Int) (l:List Int) (n:Nat):plc (z :: l) n=plc l n+if 0 < z /\ z<=(n:Int) then 1 else 0:=by
 induction n with
 | zero => simp only [plc];rw [if_neg (by omega)]
 | succ n ih =>
  simp only [plc,ih,cnt_cons']
  by_cases h1:0 < z /\ z<=(n:Int)
  ·rw [if_pos h1,if_neg (by omega),if_pos (by omega)];omega
  ·rw [if_neg h1]
   by_cases h2:0 < z /\ z=((n+1:Nat):Int)
   ·rw [if_pos h2,if_pos (by omega)];omega
   ·rw [if_neg h2,if_neg (by omega)];omega
theorem plc_le (zs:List Int) (n:Nat):plc zs n<=zs.length:=by
 induction zs with
 | nil => induction n with
  | zero => simp [plc]
  | succ n ih => simp [plc,cnt] at ih ⊢;omega
 | cons z l ih => rw [plc_cons];simp;split <;> omega
inductive Rs where
 | ok (v:Int) (p:Nat)
 | no (e:Nat)
def symF (zs:List Int) (s:ByteArray):Nat->Nat->Nat->Nat->Rs
 | 0,_,_,_ => .no 4
 | f+1,n,ab,p =>
  if p < 8*s.size then
   if 2*ab+bitAt s p < cnt zs (n+1) then .ok (sy zs (n+1) (2*ab+bitAt s p)) (p+1)
   else symF zs s f (n+1) (2*ab+bitAt s p - cnt zs (n+1)) (p+1)
  else .no 1
def sym (zs:List Int) (s:ByteArray) (p:Nat):Rs:=symF zs s 15 0 0 p
theorem symF_ok (zs:List Int) (s:ByteArray) (f n ab p:Nat) (v:Int) (q:Nat) (h:symF zs s f n ab p = .ok v q):p < q /\ q<=8*s.size /\ 0<=v /\ v < zs.length:=by
 induction f generalizing n ab p with
 | zero => simp [symF] at h
 | succ f ih =>
  rw [symF] at h
  split at h
  ·split at h
   ·rename_i hc
    injection h with h1 h2
    have:=sy_lt zs (n+1) _ (by omega) hc
    omega
   ·have:=ih _ _ _ h;omega
  ·simp at h
theorem symF_no (zs:List Int) (s:ByteArray) (f n ab p:Nat) (e:Nat) (h:symF zs s f n ab p = .no e):e=1 ∨ e=4:=by
 induction f generalizing n ab p with
 | zero => simp [symF] at h;omega
 | succ f ih =>
  rw [symF] at h
  split at h
  ·split at h
   ·simp at h
   ·exact ih _ _ _ h
  ·simp at h;omega
theorem sym_ok {zs:List Int} {s:ByteArray} {p:Nat} {v:Int} {q:Nat} (h:sym zs s p = .ok v q):p < q /\ q<=8*s.size /\ 0<=v /\ v < zs.length:=symF_ok _ _ _ _ _ _ _ _ h
end Go.Proofs.YthdmjmnkhlpnnabGreatDoor
namespace Go.Proofs.YthdmjmnkhlpnnabGreatDoor
open Go.RowKit
def cdc (n:Int) (f:Nat->Int) (sv:Value):Array Value:=#[.int .i64 n] ++ arr f ++ #[sv]
theorem cdc_built (n:Int) (f:Nat->Int):Tryz.prog.built 229 [(0,.int .i64 n),(1,.agg (arr f))]=some (cdc n f (.slice none 0 0)):=by kernel_rfl
theorem wpList_built2 {P:Program} {ops:Array Oper} {rest:List Oper} {o:Oper} {a:Act} {w:World} {Q:Exit->Act->World->Prop} (hg:o.guard=none) (t:TypeId) (i j:Nat) (x y:Operand) (ho:o.op = .build t #[(i,x),(j,y)])
  (vx vy:Value) (hx:a.eval x=vx) (hy:a.eval y=vy) (cells:Array Value) (hc:P.built t [(i,vx),(j,vy)]=some cells)
  (h:wpList P ops Q rest (a.put o.dst (.agg cells)) w):wpList P ops Q (o :: rest) a w:=by
 have e:(#[(i,x),(j,y)].map fun (i,x) => (i,a.eval x)).toList=[(i,vx),(j,vy)]:=by simp [hx,hy]
 exact wpList_build hg t _ ho (by rw [e,hc];rfl) (by rw [e,hc];exact h)
theorem cdc_size (n:Int) (f:Nat->Int) (sv:Value):(cdc n f sv).size=18:=by simp [cdc,arr_size]
theorem cdc_per (n:Int) (f:Nat->Int) (sv:Value) (j:Nat) (h:j < 16):(cdc n f sv)[1+j]? = some (.int .i64 (f j)):=by
 unfold cdc
 rw [Array.getElem?_append_left (by simp [arr_size];omega),Array.getElem?_append_right (by simp)]
 simp only [List.size_toArray,List.length_cons,List.length_nil,Nat.zero_add,Nat.add_sub_cancel_left]
 exact arr_get f j h
theorem cdc_wt (n:Int) (f:Nat->Int) (sv:Value):(cdc n f sv)[0]? = some (.int .i64 n):=by
 unfold cdc
 rw [Array.getElem?_append_left (by simp [arr_size]),Array.getElem?_append_left (by simp)]
 rfl
theorem cdc_sym (n:Int) (f:Nat->Int) (sv:Value):(cdc n f sv)[17]? = some sv:=by
 unfold cdc
 rw [Array.getElem?_append_right (by simp [arr_size])]
 simp [arr_size]
theorem cdc_set (n:Int) (f:Nat->Int) (sv sw:Value):(cdc n f sv).setIfInBounds 17 sw=cdc n f sw:=by
 apply Array.ext_getElem?
 intro i
 rw [Array.getElem?_setIfInBounds]
 by_cases h:17=i
 ·subst h;rw [if_pos rfl,if_pos (by rw [cdc_size];omega),cdc_sym]
 ·rw [if_neg h]
  unfold cdc
  by_cases h2:i < 17
  ·rw [Array.getElem?_append_left (xs:=#[Value.int .i64 n] ++ arr f) (ys:=#[sv]) (by simp [arr_size];omega),Array.getElem?_append_left (xs:=#[Value.int .i64 n] ++ arr f) (ys:=#[sw]) (by simp [arr_size];omega)]
  ·rw [Array.getElem?_eq_none (by simp [arr_size];omega),Array.getElem?_eq_none (by simp [arr_size];omega)]
theorem cnt_take_le (zs:List Int) (n k m:Nat) (hn:0 < n) (h:k<=m) (hm:m<=zs.length):cnt (zs.take k) n<=cnt (zs.take m) n:=by
 obtain ⟨r,hr⟩:=sa_prefix zs n k m h
 rw [<- sa_length zs n k hn (by omega),<- sa_length zs n m hn hm,hr]
 simp
theorem cnt_take_lt (zs:List Int) (k:Nat) (hk:k < zs.length) (hz:0 < zs.getD k 0):cnt (zs.take k) (zs.getD k 0).toNat < cnt zs (zs.getD k 0).toNat:=by
 have h1:=cnt_take_le zs (zs.getD k 0).toNat (k+1) zs.length (by omega) (by omega) (Nat.le_refl _)
 rw [List.take_of_length_le (Nat.le_refl _),take_snocI zs k hk] at h1
 have h2:=cnt_snoc (zs.take k) (zs.getD k 0) hz (zs.getD k 0).toNat
 rw [if_pos rfl] at h2
 omega
theorem plc_pred (zs:List Int) (n:Nat) (hn:0 < n):plc zs (n - 1)+cnt zs n=plc zs n:=by
 obtain ⟨m,rfl⟩:∃ m,n=m+1:=⟨n - 1,by omega⟩
 rfl
theorem plc_lt (zs:List Int) (n i:Nat) (hn:0 < n) (h15:n<=15) (hi:i < cnt zs n):plc zs (n - 1)+i < plc zs 15:=by
 have h1:=plc_pred zs n hn
 have h2:=plc_mono zs h15
 omega
theorem plc_inj (zs:List Int) (n m i j:Nat) (hn:0 < n) (hm:0 < m) (hi:i < cnt zs n) (hj:j < cnt zs m) (h:plc zs (n - 1)+i=plc zs (m - 1)+j):n=m /\ i=j:=by
 have h1:=plc_pred zs n hn
 have h2:=plc_pred zs m hm
 rcases Nat.lt_trichotomy n m with h3 | h3 | h3
 ·have:=plc_mono zs (show n<=m - 1 by omega);omega
 ·subst h3;exact ⟨rfl,by omega⟩
 ·have:=plc_mono zs (show m<=n - 1 by omega);omega
def Sorted (zs:List Int) (k:Nat) (R:List Int):Prop:=R.length=plc zs 15 /\ ∀ n i,0 < n->n<=15->i < cnt (zs.take k) n->R.getD (plc zs (n - 1)+i) 0=sy zs n i
theorem Sorted.skip {zs:List Int} {k:Nat} {R:List Int} (h:Sorted zs k R) (hk:k < zs.length) (hz:¬ 0 < zs.getD k 0):Sorted zs (k+1) R:=by
 refine ⟨h.1,fun n i hn h15 hi => h.2 n i hn h15 ?_⟩
 rw [take_snocI zs k hk,cnt_skip _ _ (by omega)] at hi
 exact hi
theorem Sorted.set {zs:List Int} {k:Nat} {R:List Int} (h:Sorted zs k R) (hk:k < zs.length) (hz:0 < zs.getD k 0) (h15:zs.getD k 0<=15) :
  Sorted zs (k+1) (R.set (plc zs ((zs.getD k 0).toNat - 1)+cnt (zs.take k) (zs.getD k 0).toNat) k):=by
 have hlt:=cnt_take_lt zs k hk hz
 refine ⟨by simp [h.1],fun n i hn hn15 hi => ?_⟩
 rw [List.getD_eq_getElem?_getD,List.getElem?_set]
 by_cases he:plc zs ((zs.getD k 0).toNat - 1)+cnt (zs.take k) (zs.getD k 0).toNat=plc zs (n - 1)+i
 ·rw [if_pos he,if_pos (by rw [h.1];exact plc_lt zs _ _ (by omega) (by omega) hlt)]
  have hin:i < cnt zs n:=by
   have:=cnt_take_le zs n (k+1) zs.length hn (by omega) (Nat.le_refl _)
   rw [List.take_of_length_le (Nat.le_refl _)] at this
   omega
  obtain ⟨e1,e2⟩:=plc_inj zs _ _ _ _ (by omega) hn hlt hin he
  subst e1
  rw [<- e2,sy_at zs _ k hk (by omega) (by omega)]
  rfl
 ·rw [if_neg he,<- List.getD_eq_getElem?_getD]
  refine h.2 n i hn hn15 ?_
  rw [take_snocI zs k hk] at hi
  have e:=cnt_snoc (zs.take k) (zs.getD k 0) hz n
  by_cases hn2:n=(zs.getD k 0).toNat
  ·rw [if_pos hn2] at e
   subst hn2
   have:i ≠ cnt (zs.take k) (zs.getD k 0).toNat:=fun e => he (by rw [e])
   omega
  ·rw [if_neg hn2] at e
   omega
theorem Arr.lt {w:World} {b:Nat} {f:Nat->Int} (h:Arr w b f):b < w.heap.size:=(Array.getElem?_eq_some_iff.1 h).1
def Cod (w:World) (b:Nat) (zs:List Int):Prop:=∃ g R,w.heap[b]? = some (.cells (cdc (wt zs) (fun j => cnt zs j) (.slice (some ⟨g,0,none⟩) (plc zs 15) (plc zs 15))) 229 (0,0)) /\ Row w g R /\ Sorted zs zs.length R
theorem cdc_cell {w:World} {b:Nat} {n:Int} {f:Nat->Int} {sv:Value} (h:w.heap[b]? = some (.cells (cdc n f sv) 229 (0,0))) :
  w.cell? ⟨b,0,none⟩=some (.int .i64 n) /\ (∀ j,j < 16->w.cell? ⟨b,1+j,none⟩=some (.int .i64 (f j))) /\ w.cell? ⟨b,17,none⟩=some sv /\ ∀ j,w.frozen? ⟨b,j,none⟩=false:=by
 refine ⟨?_,fun j hj => ?_,?_,fun j => by simp [World.frozen?,h]⟩
 ·rw [cell_of_row w b 0 _ 229 (0,0) h];exact cdc_wt _ _ _
 ·rw [cell_of_row w b (1+j) _ 229 (0,0) h];exact cdc_per _ _ _ _ hj
 ·rw [cell_of_row w b 17 _ 229 (0,0) h];exact cdc_sym _ _ _
theorem start_new (w1:World) (cs z:Array Value) (hz:z=arr fun _ => 0) :
  ((w1.alloc (.cells cs 229)).alloc (.cells z 144)).heap[w1.heap.size]? = some (.cells cs 229 (0,0)) /\ Arr ((w1.alloc (.cells cs 229)).alloc (.cells z 144)) (w1.heap.size+1) (fun _ => 0) /\ Below w1.heap.size w1 ((w1.alloc (.cells cs 229)).alloc (.cells z 144)):=by
 subst hz
 refine ⟨?_,?_,(((Below.refl _ _).alloc (Nat.le_refl _) _).alloc (by simp) _)⟩
 ·rw [Below.heap_alloc _ _ _ (by simp)]
  exact heap_alloc_new w1 _
 ·unfold Arr
  have:=heap_alloc_new (w1.alloc (.cells cs 229)) (.cells (arr fun _ => 0) 144)
  simpa using this
theorem start_syms {w1 wr:World} {n:Int} {f f':Nat->Int} {sv0 sv:Value} {N:Nat} (hC:wr.heap[w1.heap.size]? = some (.cells (cdc n f sv0) 229 (0,0))) (hA:Arr wr (w1.heap.size+1) f') (hB:Below w1.heap.size w1 wr) :
  (((wr.setCell ⟨w1.heap.size,17,none⟩ sv).alloc (.cells (nums (List.replicate N 0)) 3)).drew).heap[w1.heap.size]? = some (.cells (cdc n f sv) 229 (0,0)) /\
  Arr (((wr.setCell ⟨w1.heap.size,17,none⟩ sv).alloc (.cells (nums (List.replicate N 0)) 3)).drew) (w1.heap.size+1) f' /\
  Row (((wr.setCell ⟨w1.heap.size,17,none⟩ sv).alloc (.cells (nums (List.replicate N 0)) 3)).drew) wr.heap.size (List.replicate N 0) /\
  Below w1.heap.size w1 (((wr.setCell ⟨w1.heap.size,17,none⟩ sv).alloc (.cells (nums (List.replicate N 0)) 3)).drew):=by
 have z1:w1.heap.size+1 < wr.heap.size:=hA.lt
 have zs:(wr.setCell ⟨w1.heap.size,17,none⟩ sv).heap.size=wr.heap.size:=by simp [World.setCell]
 refine ⟨?_,?_,?_,((hB.setCell (by simp) _).alloc (by rw [zs];omega) _).drew⟩
 ·show ((wr.setCell ⟨w1.heap.size,17,none⟩ sv).alloc _).heap[_]? = _
  rw [Below.heap_alloc _ _ _ (by rw [zs];omega),blk_set hC,cdc_set]
 ·show ((wr.setCell ⟨w1.heap.size,17,none⟩ sv).alloc _).heap[_]? = _
  rw [Below.heap_alloc _ _ _ (by rw [zs];omega)]
  exact hA.other (by simp) _
 ·show ((wr.setCell ⟨w1.heap.size,17,none⟩ sv).alloc _).heap[_]? = _
  have:=heap_alloc_new (wr.setCell ⟨w1.heap.size,17,none⟩ sv) (.cells (nums (List.replicate N 0)) 3)
  rw [zs] at this
  exact this
theorem sorted_start (zs:List Int):Sorted zs 0 (List.replicate (plc zs 15) 0):=⟨by simp,fun n i hn _ hi => by simp [cnt] at hi⟩
set_option maxRecDepth 20000 in
set_option maxHeartbeats 1600000 in
theorem new_any (ao:Option Addr) (c:Nat) (zs:List Int) (w:World) (hs:Seg w ao zs) (hm:zs.length<=320) (hok:zs.any nl=false) :
  Calls Tryz.prog 129 #[.slice ao zs.length c] w fun e w' => ∃ b,e = .returned (.pointer (some ⟨b,0,none⟩)) /\ w.heap.size<=b /\ Cod w' b zs /\ Below w.heap.size w w':=by
 have HOK:Hid (zs.any nl=false):=hok
 have HS:Hid (Seg w ao zs):=hs
 obtain ⟨i0,hi,hz0,hz1,hz2⟩:=info_parts info3
 have hpl:plc zs 15<=320:=Nat.le_trans (plc_le zs 15) hm
 obtain ⟨N,hN⟩:∃ N,N=plc zs 15:=⟨_,rfl⟩
 rw [<- hN] at hpl
 have HN:Hid (N=plc zs 15):=hN
 have HMK:Hid (∀ u:World,(Instr.makeSlice 23 (.int .i64 (N:Int)) (.int .i64 (N:Int))).run Tryz.prog u =
     .ok (.slice (some ⟨u.heap.size,0,none⟩) N N) (u.alloc (.cells (nums (List.replicate N 0)) 3))):=fun u => by
  have h:=run_make (P:=Tryz.prog) u 23 3 i0 (.int .i64 0) Tryz.underlying23 hi hz0 .i64 .i64 (N:Int) (N:Int) (by omega) (Int.le_refl _) (by rw [hz2];omega) (by omega)
  rw [hz1,Nat.mul_one,show (Value.int IntKind.i64 0).cells=#[Value.int .i64 0] from rfl,show ((N:Int)).toNat=N by omega,nums_made] at h
  exact h
 clear hi hz0 hz1 hz2 hN
 go_enter Tryz.func129,Tryz.ntmps129
 go_wp2_with (first | (go_at_call 146;refine (weight_any _ _ _ _ hs hm hok).mono ?_;rintro e w' ⟨rfl,rfl⟩) | (go_at_call 171;refine (per_any _ _ _ _ hs hm hok).mono ?_;rintro e w1 ⟨rfl,hb1⟩) | (refine wpList_built2 rfl 229 0 1 (.tmp 9) (.tmp 11) rfl (.int .i64 (wt zs)) (.agg (arr fun j => (cnt zs j:Int))) rfl rfl _ (cdc_built _ _) ?_))
 clear hs hok
 have H0:=start_new w1 (cdc (wt zs) (fun j => cnt zs j) (.slice none 0 0)) _ arr_zero
 go_loopw [5] (fun i wr => ∃ k:Nat,1<=k /\ k<=15 /\ i = .int .i64 k /\ Hid (wr.heap[w1.heap.size]? = some (.cells (cdc (wt zs) (fun j => cnt zs j) (.slice none 0 0)) 229 (0,0))) /\ Arr wr (w1.heap.size+1) (fun j => if j<=k then (plc zs (j - 1):Int) else 0) /\ Below w1.heap.size w1 wr) (fun i _ => 16 - (intOf i).toNat)
 case atStart =>
  refine ⟨1,by omega,by omega,rfl,H0.1,H0.2.1.congr (fun j hj => ?_),H0.2.2⟩
  by_cases h:j<=1
  ·rw [if_pos h,show j - 1=0 by omega];rfl
  ·rw [if_neg h]
 case round =>
  clear H0
  obtain ⟨k,hk1,hk,rfl,hC,hA,hB⟩:=hrel
  obtain ⟨-,cp,c17,fc⟩:=cdc_cell hC.out
  by_cases hlt:k < 15
  ·obtain ⟨x,hx⟩:∃ x:Nat,x=plc zs (k - 1):=⟨_,rfl⟩
   obtain ⟨y,hy⟩:∃ y:Nat,y=cnt zs k:=⟨_,rfl⟩
   have hxb:x<=320:=by rw [hx];exact Nat.le_trans (plc_le zs _) hm
   have hyb:y<=320:=by rw [hy];have:=cnt_le zs k;omega
   have hcx:wr.cell? ⟨w1.heap.size+1,k,none⟩=some (.int .i64 x):=by rw [hA.cell (by omega),if_pos (by omega),hx]
   have hcy:wr.cell? ⟨w1.heap.size,1+k,none⟩=some (.int .i64 y):=by rw [cp k (by omega),hy]
   have hck:wr.cell? ⟨w1.heap.size+1,k+1,none⟩=some (.int .i64 0):=by rw [hA.cell (by omega),if_neg (by omega)]
   have hfr:wr.frozen? ⟨w1.heap.size+1,k+1,none⟩=false:=hA.free _
   have HX:Hid (x=plc zs (k - 1)):=hx
   have HY:Hid (y=cnt zs k):=hy
   clear hx hy cp c17 fc
   go_wp2
   go_region
   all_goals go_wp2
   all_goals go_roundw
   case rel =>
    refine ⟨k+1,by omega,by omega,by go_num,?_,(hA.set _ _).congr (fun j _ => ?_),(hB.setCell (by simp) _).drew⟩
    ·show (World.setCell _ _ _).heap[_]? = _
     rw [Below.heap_setCell _ _ _ _ (by simp)]
     exact hC.out
    ·by_cases hj:j=k+1
     ·rw [if_pos hj,if_pos (by omega),hj]
      have h1:=plc_pred zs k (by omega)
      have h2:=HX.out
      have h3:=HY.out
      rw [show k+1 - 1=k by omega]
      omega
     ·rw [if_neg hj]
      by_cases h2:j<=k
      ·rw [if_pos h2,if_pos (by omega)]
      ·rw [if_neg h2,if_neg (by omega)]
   case measure => simp [intOf];omega
  ·obtain rfl:k=15:=by omega
   obtain ⟨x,hx⟩:∃ x:Nat,x=plc zs 14:=⟨_,rfl⟩
   obtain ⟨y,hy⟩:∃ y:Nat,y=cnt zs 15:=⟨_,rfl⟩
   have hxy:x+y=N:=by rw [hx,hy,HN.out];rfl
   have hcx:wr.cell? ⟨w1.heap.size+1,15,none⟩=some (.int .i64 x):=by rw [hA.cell (by omega),if_pos (by omega),hx]
   have hcy:wr.cell? ⟨w1.heap.size,16,none⟩=some (.int .i64 y):=by have:=cp 15 (by omega);rw [hy];exact this
   have hfr:wr.frozen? ⟨w1.heap.size,17,none⟩=false:=fc 17
   have hxb:x+y<=320:=by omega
   have hmk:∀ u:World,(Instr.makeSlice 23 (.int .i64 ((x:Int)+(y:Int))) (.int .i64 ((x:Int)+(y:Int)))).run Tryz.prog u =
     .ok (.slice (some ⟨u.heap.size,0,none⟩) N N) (u.alloc (.cells (nums (List.replicate N 0)) 3)):=fun u => by
    rw [show ((x:Int)+(y:Int))=(N:Int) by omega];exact HMK.out u
   have z1:w1.heap.size+1 < wr.heap.size:=hA.lt
   have z0:w1.heap.size < wr.heap.size:=by omega
   have g17:(wr.alloc (.cells (nums (List.replicate N 0)) 3)).cell? ⟨w1.heap.size,17,none⟩=some (.slice none 0 0):=by
    rw [World.cell?_of_block (w:=wr) (Below.heap_alloc _ _ _ z0)];exact c17
   have gfr:(wr.alloc (.cells (nums (List.replicate N 0)) 3)).frozen? ⟨w1.heap.size,17,none⟩=false:=by
    rw [World.frozen?_of_block (w:=wr) (Below.heap_alloc _ _ _ z0)];exact hfr
   clear hx hy hxy cp fc
   go_wp2
   go_region
   all_goals go_wp2
   have H1:=start_syms (sv:=.slice (some ⟨wr.heap.size,0,none⟩) N N) (N:=N) hC.out hA hB
   have hgs:w1.heap.size+1 < wr.heap.size:=z1
   obtain ⟨G,hG⟩:∃ G,G=wr.heap.size:=⟨_,rfl⟩
   rw [<- hG] at H1 hgs ⊢
   clear hcx hcy hfr hmk z1 z0 g17 gfr hG c17 hC hA hB hk1 hk hlt
   go_loopw [45] (fun i wr => ∃ (k:Nat) (R:List Int),k<=zs.length /\ i = .int .i64 k /\ Hid (wr.heap[w1.heap.size]? = some (.cells (cdc (wt zs) (fun j => cnt zs j) (.slice (some ⟨G,0,none⟩) N N)) 229 (0,0))) /\ Arr wr (w1.heap.size+1) (fun j => if j<=15 then ((plc zs (j - 1)+cnt (zs.take k) j:Nat):Int) else 0) /\ Row wr G R /\ Hid (Sorted zs k R) /\ Below w1.heap.size w1 wr) (fun i _ => zs.length - (intOf i).toNat)
   case atStart =>
    refine ⟨0,List.replicate N 0,by omega,rfl,H1.1,H1.2.1.congr (fun j hj => ?_),H1.2.2.1,?_,H1.2.2.2⟩
    ·rw [if_pos (by omega),if_pos (by omega)];simp [cnt]
    ·rw [HN.out];exact sorted_start zs
   case round =>
    clear H1
    obtain ⟨k,R,hk,rfl,hC,hA,hR,hS,hB⟩:=hrel
    by_cases hlt:k < zs.length
    ·obtain ⟨b,off,rfl,hc⟩:=HS.out (by omega)
     obtain ⟨z,hz⟩:∃ z,z=zs.getD k 0:=⟨_,rfl⟩
     have hcw:w.cell? ⟨b,off+k,none⟩=some (.int .i64 z):=by rw [hz];exact hc k hlt
     have hbl:b < w.heap.size:=World.block_lt_of_cell? w _ hcw
     have hbl1:b < w1.heap.size:=Nat.lt_of_lt_of_le hbl hb1.size
     have hcell:wr.cell? ⟨b,off+k,none⟩=some (.int .i64 z):=(hB.cell (p:=⟨b,off+k,none⟩) hbl1).trans ((hb1.cell (p:=⟨b,off+k,none⟩) hbl).trans hcw)
     have hzb:=ok_getD HOK.out k
     rw [<- hz] at hzb
     have HZ:Hid (z=zs.getD k 0):=hz
     by_cases hp:0 < z
     ·obtain ⟨y,hy⟩:∃ y:Nat,y=plc zs (z.toNat - 1)+cnt (zs.take k) z.toNat:=⟨_,rfl⟩
      have hyN:y < N:=by
       rw [hy,HN.out,hz]
       exact plc_lt zs _ _ (by omega) (by omega) (cnt_take_lt zs k hlt (by omega))
      have hcy:wr.cell? ⟨w1.heap.size+1,z.toNat,none⟩=some (.int .i64 y):=by
       rw [hA.cell (by omega),if_pos (by omega),hy]
      have hfr:wr.frozen? ⟨w1.heap.size+1,z.toNat,none⟩=false:=hA.free _
      obtain ⟨-,-,c17,-⟩:=cdc_cell hC.out
      have hRl:R.length=N:=by rw [HN.out];exact hS.out.1
      obtain ⟨q,hcr⟩:∃ q,wr.cell? ⟨G,y,none⟩=some (.int .i64 q):=⟨_,hR.cell (by omega)⟩
      have hfr2:wr.frozen? ⟨G,y,none⟩=false:=hR.free _
      have HY:Hid (y=plc zs (z.toNat - 1)+cnt (zs.take k) z.toNat):=hy
      clear hy hz hc hcw hRl
      go_wp2
      go_region
      all_goals go_wp2
      all_goals go_roundw
      case rel =>
       refine ⟨k+1,R.set y k,by omega,by go_num,?_,?_,?_,?_,?_⟩
       ·show (World.setCell _ _ _).heap[_]? = _
        rw [Below.heap_setCell _ _ _ _ (by simp),Below.heap_setCell _ _ _ _ (by simp;omega)]
        exact hC.out
       ·refine ((hA.other (by simp;omega) _).set _ _).congr (fun j _ => ?_)
        rw [take_snocI zs k hlt,<- HZ.out]
        have e:=cnt_snoc (zs.take k) z hp j
        by_cases hj:j=z.toNat
        ·rw [if_pos hj] at e
         rw [if_pos hj,if_pos (by omega),HY.out,<- hj]
         omega
        ·rw [if_neg hj] at e
         rw [if_neg hj]
         split <;> omega
       ·exact (hR.set _ _).other (by simp;omega) _
       ·show Sorted _ _ _
        rw [HY.out,HZ.out]
        exact hS.out.set hlt (by rw [<- HZ.out];exact hp) (by rw [<- HZ.out];exact hzb.2)
       ·exact ((hB.setCell (by simp;omega) _).setCell (by simp) _).drew
      case measure => simp [intOf];omega
     ·clear hz hc hcw
      go_wp2
      go_roundw
      case rel =>
       refine ⟨k+1,R,by omega,by go_num,hC,hA.congr (fun j _ => ?_),hR,?_,hB⟩
       ·rw [take_snocI zs k hlt,<- HZ.out,cnt_skip _ z (by omega)]
       ·exact hS.out.skip hlt (by rw [<- HZ.out];exact hp)
      case measure => simp [intOf];omega
    ·obtain rfl:k=zs.length:=by omega
     go_wp2
     go_ret
     refine ⟨w1.heap.size,rfl,hb1.size,⟨G,R,?_,hR,hS.out⟩,hb1.trans (hB.mono hb1.size)⟩
     rw [<- HN.out]
     exact hC.out
end Go.Proofs.YthdmjmnkhlpnnabGreatDoor
