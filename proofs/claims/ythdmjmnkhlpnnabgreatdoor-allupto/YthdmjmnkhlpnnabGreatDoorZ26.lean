import Derived.Test.YthdmjmnkhlpnnabGreatDoorZ21
import Derived.Test.YthdmjmnkhlpnnabGreatDoorZ19
import Derived.Test.YthdmjmnkhlpnnabGreatDoorZ25
import Derived.Test.YthdmjmnkhlpnnabGreatDoorZ20
import Derived.Test.YthdmjmnkhlpnnabGreatDoorZ07
import Derived.Test.YthdmjmnkhlpnnabGreatDoorZ06
import Derived.Test.YthdmjmnkhlpnnabGreatDoorZ24
namespace Go.Proofs.YthdmjmnkhlpnnabGreatDoor
open Go.RowKit
theorem Cnt.segA {w:World} {q:Nat} {c:Cn} (h:Cnt w q c):Seg w (some ⟨q,0,none⟩) c.a:=fun _ => ⟨q,0,rfl,fun j hj => by rw [Nat.zero_add];exact h.ca j (by rw [<- h.la];exact hj)⟩
theorem Cnt.segB {w:World} {q:Nat} {c:Cn} (h:Cnt w q c):Seg w (some ⟨q,286,none⟩) c.b:=fun _ => ⟨q,286,rfl,fun j hj => h.cb j (by rw [<- h.lb];exact hj)⟩
set_option maxHeartbeats 800000 in
theorem cbits_any (w:World) (q:Nat) (c:Cn) (a1 a2:Option Addr) (c1 c2:Nat) (za zb:List Int) (k:Nat) (hk:k<=65536) (h:Cnt w q c) (hc:CnOk c k) (h1:Seg w a1 za) (h2:Seg w a2 zb) (l1:za.length<=320) (l2:zb.length<=320) (g1:∀ i,0<=za.getD i 0 /\ za.getD i 0<=15) (g2:∀ i,0<=zb.getD i 0 /\ zb.getD i 0<=15) :
  Calls Tryz.prog 114 #[.pointer (some ⟨q,0,none⟩),.slice a1 za.length c1,.slice a2 zb.length c2] w fun e w' => e = .returned (.int .i64 (c.n+dot c.a za+dot c.b zb)) /\ Below w.heap.size w w':=by
 have la:=hc.la
 have lb:=hc.lb
 have b1:=dot_bound c.a za 65536 (by omega) (fun i => by have:=hc.ba i;omega) g1
 have b2:=dot_bound c.b zb 65536 (by omega) (fun i => by have:=hc.bb i;omega) g2
 rw [la] at b1
 rw [lb] at b2
 have b3:=hc.bn
 have HD1:Hid (∀ u:World,Below w.heap.size w u->Calls Tryz.prog 161 #[.slice (some ⟨q,0,none⟩) 286 286,.slice a1 za.length c1] u fun e w' => e = .returned (.int .i64 (dot c.a za)) /\ Below u.heap.size u w'):=fun u hu => by
  have:=bitsOf_any (some ⟨q,0,none⟩) a1 286 c1 c.a za u (h.below hu).segA (h1.below hu) (by omega) l1 (fun i => by have:=hc.ba i;omega) g1
  rw [la] at this
  exact this
 have HD2:Hid (∀ u:World,Below w.heap.size w u->Calls Tryz.prog 161 #[.slice (some ⟨q,286,none⟩) 30 30,.slice a2 zb.length c2] u fun e w' => e = .returned (.int .i64 (dot c.b zb)) /\ Below u.heap.size u w'):=fun u hu => by
  have:=bitsOf_any (some ⟨q,286,none⟩) a2 30 c2 c.b zb u (h.below hu).segB (h2.below hu) (by omega) l2 (fun i => by have:=hc.bb i;omega) g2
  rw [lb] at this
  exact this
 obtain ⟨d1,hd1⟩:∃ d,d=dot c.a za:=⟨_,rfl⟩
 obtain ⟨d2,hd2⟩:∃ d,d=dot c.b zb:=⟨_,rfl⟩
 obtain ⟨N,hN⟩:∃ N:Nat,N=c.n:=⟨_,rfl⟩
 have r1:w.cell? ⟨q,316,none⟩=some (.int .i64 N):=by rw [hN];exact h.cn
 rw [<- hd1] at b1 HD1 ⊢
 rw [<- hd2] at b2 HD2 ⊢
 rw [<- hN] at b3 ⊢
 have HC:=hid h
 have l0:=h.lt
 clear hd1 hd2 hN la lb hc h1 h2 g1 g2 h
 go_enter Tryz.func114,Tryz.ntmps114
 go_wp2
 have w1:IntKind.i64.wrap ((N:Int)+d1)=(N:Int)+d1:=by rw [IntKind.wrap_i64];omega
 have w2:IntKind.i64.wrap ((N:Int)+d1+d2)=(N:Int)+d1+d2:=by rw [IntKind.wrap_i64];omega
 go_region_with (first | (go_at_call 161;refine (HD2.out _ HBB.out).mono ?_;rintro e u2 ⟨rfl,hb2⟩;have r3:u2.cell? ⟨q,316,none⟩=some (.int .i64 N):=((hb2.cell (p:=⟨q,316,none⟩) (by have:=HBB.out.size;show q < _;omega)).trans r2);have HB3:=hid (HBB.out.trans (hb2.mono HBB.out.size))) | (go_at_call 161;refine (HD1.out _ (below_drewN' (Below.refl _ _) 1)).mono ?_;rintro e u1 ⟨rfl,hb1⟩;have HBB:Hid (Below w.heap.size w u1):=((below_drewN' (Below.refl _ _) 1).trans hb1);have r2:u1.cell? ⟨q,316,none⟩=some (.int .i64 N):=((hb1.cell (p:=⟨q,316,none⟩) (by show q < _;exact l0)).trans r1)))
 all_goals
  go_wp2
  go_ret
  exact ⟨rfl,HB3.out⟩
theorem cut_row (n least:Nat) (u:World) (g:Nat) (l:List Int) (h:Row u g l) (hl:l.length=n) (h1:least<=n) (h0:0 < least) (hn:n<=320) :
  Calls Tryz.prog 165 #[.slice (some ⟨g,0,none⟩) n n,.int .i64 least] u fun e w' => ∃ k,e = .returned (.slice (some ⟨g,0,none⟩) k n) /\ least<=k /\ k<=n /\ Cutz l k /\ u=w':=by
 have:=withoutEnd_any (some ⟨g,0,none⟩) n l least u h.seg (by omega) (by omega) (by omega) h0
 rw [hl] at this
 exact this
set_option maxHeartbeats 800000 in
theorem clengths_any (w:World) (q:Nat) (c:Cn) (k:Nat) (hk:k<=65536) (h:Cnt w q c) (hc:CnOk c k) :
  Calls Tryz.prog 118 #[.pointer (some ⟨q,0,none⟩)] w fun e w' => ∃ g1 g2 la lb ka kb,e = .returned (.tuple #[.slice (some ⟨g1,0,none⟩) ka 286,.slice (some ⟨g2,0,none⟩) kb 30]) /\ w.heap.size<=g1 /\ w.heap.size<=g2 /\ Row w' g1 la /\ Row w' g2 lb /\ Best c.a 15 la /\ Best c.b 15 lb /\ 257<=ka /\ ka<=286 /\ Cutz la ka /\ 1<=kb /\ kb<=30 /\ Cutz lb kb /\ Below w.heap.size w w':=by
 have la:=hc.la
 have lb:=hc.lb
 have HD1:Hid (∀ u:World,Below w.heap.size w u->Calls Tryz.prog 97 #[.slice (some ⟨q,0,none⟩) 286 286,.int .i64 15] u fun e w' => ∃ g l,e = .returned (.tuple #[.slice (some ⟨g,0,none⟩) 286 286,.int .i64 0]) /\ u.heap.size<=g /\ Row w' g l /\ Best c.a 15 l /\ Below u.heap.size u w'):=fun u hu => by
  have:=lengths_best (some ⟨q,0,none⟩) 286 c.a 15 u (h.below hu).segA (by omega) (fun i => by have:=hc.ba i;omega) (by omega) (by omega) (by omega)
  rw [la] at this
  exact this
 have HD2:Hid (∀ u:World,Below w.heap.size w u->Calls Tryz.prog 97 #[.slice (some ⟨q,286,none⟩) 30 30,.int .i64 15] u fun e w' => ∃ g l,e = .returned (.tuple #[.slice (some ⟨g,0,none⟩) 30 30,.int .i64 0]) /\ u.heap.size<=g /\ Row w' g l /\ Best c.b 15 l /\ Below u.heap.size u w'):=fun u hu => by
  have:=lengths_best (some ⟨q,286,none⟩) 30 c.b 15 u (h.below hu).segB (by omega) (fun i => by have:=hc.bb i;omega) (by omega) (by omega) (by omega)
  rw [lb] at this
  exact this
 have HLN:=hid (And.intro la lb)
 have l0:=h.lt
 clear la lb hc h
 go_enter Tryz.func118,Tryz.ntmps118
 go_wp2_with (first
   | (go_at_call 165;have h1:=HF2.out;refine (cut_row 30 1 _ g2 l2 HR2.out HL2.out (by omega) (by omega) (by omega)).mono ?_;rintro e u4 ⟨kb,rfl,k1,k2,k3,rfl⟩;have HK2:=hid (And.intro k1 (And.intro k2 k3));clear k1 k2 k3)
   | (go_at_call 165;refine (cut_row 286 257 _ g1 l1 HR12.out HL1.out (by omega) (by omega) (by omega)).mono ?_;rintro e u3 ⟨ka,rfl,k1,k2,k3,rfl⟩;have HK1:=hid (And.intro k1 (And.intro k2 k3));have HF2:Hid True:=trivial;clear k1 k2 k3)
   | (go_at_call 97;refine (HD2.out _ HB1.out).mono ?_;rintro e u2 ⟨g2,l2,rfl,hg2,hr2,hb2,hbb⟩;have HR2:=hid hr2;have HR12:=hid (HR1.out.keepA hbb);have HL2:Hid (l2.length=30):=(hb2.len.trans HLN.out.2);have HBB:=hid (HB1.out.trans (hbb.mono HB1.out.size));have HBE2:=hid hb2;have HG2:Hid (w.heap.size<=g2):=(Nat.le_trans HB1.out.size hg2);clear hr2 hb2 hbb hg2)
   | (go_at_call 97;refine (HD1.out _ (Below.refl _ _)).mono ?_;rintro e u1 ⟨g1,l1,rfl,hg1,hr1,hb1,hbb⟩;have HR1:=hid hr1;have HB1:=hid hbb;have HL1:Hid (l1.length=286):=(hb1.len.trans HLN.out.1);have HBE1:=hid hb1;have HG1:=hid hg1;clear hr1 hb1 hbb hg1))
 go_ret2
 obtain ⟨a1,a2,a3⟩:=HK1.out
 obtain ⟨b1,b2,b3⟩:=HK2.out
 exact ⟨g1,g2,l1,l2,ka,kb,rfl,HG1.out,HG2.out,HR12.out,HR2.out,HBE1.out,HBE2.out,a1,a2,a3,b1,b2,b3,HBB.out⟩
end Go.Proofs.YthdmjmnkhlpnnabGreatDoor
namespace Go.Proofs.YthdmjmnkhlpnnabGreatDoor
open Go.RowKit
theorem infoRun:(Tryz.prog.info? 225).map (fun i => (i.zero,i.size,i.bytes))=some (some (.agg #[.int .i64 0,.int .i64 0]),2,16):=by kernel_rfl
def fl2 (q:List (Nat × Nat)):List Value:=q.flatMap fun r => [.int .i64 r.1,.int .i64 r.2]
theorem fl2_append (a b:List (Nat × Nat)):fl2 (a ++ b)=fl2 a ++ fl2 b:=by simp [fl2]
theorem fl2_get (q:List (Nat × Nat)) (j:Nat) (r:Nat × Nat) (h:q[j]? = some r):(fl2 q)[2*j]? = some (.int .i64 r.1) /\ (fl2 q)[2*j+1]? = some (.int .i64 r.2):=by
 induction q generalizing j with
 | nil => simp at h
 | cons x q ih =>
  cases j with
  | zero => simp at h;subst h;exact ⟨rfl,rfl⟩
  | succ j =>
   have:=ih j (by simpa using h)
   rw [show 2*(j+1)=2*j+2 by omega,show 2*j+2+1=2*j+1+2 by omega]
   exact this
def RSeg (w:World) (ao:Option Addr) (q:List (Nat × Nat)):Prop:=0 < q.length -> ∃ b cs,ao=some ⟨b,0,none⟩ /\ w.heap[b]? = some (.cells cs 225 (0,0)) /\ ∀ (j:Nat) (r:Nat × Nat),q[j]? = some r->cs[j*2]? = some (.int .i64 r.1) /\ cs[j*2+1]? = some (.int .i64 r.2)
theorem RSeg.ty {w w':World} {ao:Option Addr} {q:List (Nat × Nat)} (h:RSeg w ao q) (t:Ty w w'):RSeg w' ao q:=fun h0 => by
 obtain ⟨b,cs,e,hc,hj⟩:=h h0
 exact ⟨b,cs,e,t b _ cs _ hc (by decide) (by decide),hj⟩
theorem rseg_of {w:World} {base:Nat} {v:Value} {q:List (Nat × Nat)} (h:w.ownsRow base 225 2 v q.length (fl2 q)):∃ ao c,v = .slice ao q.length c /\ RSeg w ao q:=by
 obtain ⟨hl,⟨rfl,h0⟩ | ⟨g,cap,cur,rfl,hg,hh,h1,h2,h3,h4⟩⟩:=h
 ·exact ⟨none,0,by rw [h0],fun hp => by omega⟩
 ·refine ⟨some ⟨g,0,none⟩,cap,rfl,fun _ => ⟨g,cur,rfl,hh,fun j r hj => ?_⟩⟩
  have hjl:j < q.length:=(List.getElem?_eq_some_iff.1 hj).1
  obtain ⟨e1,e2⟩:=fl2_get q j r hj
  have k:∀ i,i < q.length*2->cur[i]? = (fl2 q)[i]?:=fun i hi => by
   rw [<- h4,List.getElem?_take,if_pos hi,Array.getElem?_toList]
  exact ⟨by rw [k _ (by omega),Nat.mul_comm];exact e1,by rw [k _ (by omega),Nat.mul_comm];exact e2⟩
set_option maxRecDepth 20000 in
set_option maxHeartbeats 2000000 in
theorem runsOf_any (ao:Option Addr) (c:Nat) (l:List Int) (w:World) (hs:Seg w ao l) (hm:l.length<=320) (hz:∀ i,0<=l.getD i 0 /\ l.getD i 0<=15) (hc:l.length<=c) :
  Calls Tryz.prog 166 #[.slice ao l.length c] w fun e w' => ∃ v,e = .returned v /\ w'.ownsRow w.heap.size 225 2 v (runs l).length (fl2 (runs l)) /\ Below w.heap.size w w':=by
 obtain ⟨i0,hi0,hz0,hz1,hz2⟩:=info_parts infoRun
 have HZ:=hid hz
 clear hz
 go_enter Tryz.func166,Tryz.ntmps166
 go_wp2
 go_loopw [3,4] (fun v i wr => ∃ (a f:Nat) (q:List (Nat × Nat)),a<=l.length /\ i = .int .i64 a /\ q.length<=a /\ Hid (wr.ownsRow w.heap.size 225 2 v q.length (fl2 q) /\ Below w.heap.size w wr /\ l.length<=f+a /\ q ++ rnF l f a=runs l)) (fun _ i _ => l.length - (intOf i).toNat)
 case atStart => exact ⟨0,l.length,[],by omega,rfl,by simp,World.ownsRow_nil _ _ _ _,Below.refl _ _,by omega,rfl⟩
 case round =>
  obtain ⟨a,f,q,ha,rfl,hq,HS⟩:=hrel
  by_cases hlt:a < l.length
  ·have hra:=rnA_ok l HZ.out a hlt
   have hsm:=sm_le (l.drop a)
   rw [List.length_drop] at hsm
   obtain ⟨R1,hR1⟩:∃ x,x=(rnA l a).1:=⟨_,rfl⟩
   obtain ⟨R2,hR2⟩:∃ x,x=(rnA l a).2:=⟨_,rfl⟩
   have HRA:Hid (Calls Tryz.prog 187 #[.slice ao l.length c,.int .i64 a] wr fun e w' => e = .returned (.agg #[.int .i64 R1,.int .i64 R2]) /\ Below wr.heap.size wr w'):=by
    rw [hR1,hR2]
    exact runAt_any ao c l a wr (hs.below HS.out.2.1) hm hlt HZ.out hc
   rw [<- hR1,<- hR2] at hra
   have hr1:1<=R2:=hra.1
   have hr2:a+R2<=l.length:=by omega
   have HF:Hid (rnF l f a=(R1,R2) :: rnF l (f - 1) (a+R2)):=by
    show _=_
    have h1:=HS.out.2.2.1
    obtain ⟨g,rfl⟩:∃ g,f=g+1:=⟨f - 1,by omega⟩
    rw [rnF,if_pos hlt,hR1,hR2]
    rfl
   have hsz:=HS.out.2.1.size
   clear hra hsm hR1 hR2
   go_wp2_with (first | (go_at_call 187;refine HRA.out.mono ?_;rintro e w2 ⟨rfl,hb2⟩;have HO2:=hid (owns_kept HS.out.1 (fun k hk => hb2.block k (HS.out.1.lt k hk).2));have HB2:=hid (HS.out.2.1.trans (hb2.mono hsz));have hsz2:=hb2.size;clear hb2) | (at_builtin;refine wpList_append_track _ rfl (.tmp 13) (.tmp 15) 219 rfl w.heap.size 225 i0 (.agg #[.int .i64 0,.int .i64 0]) 2 16 Tryz.underlying219 hi0 hz0 hz1 hz2 rfl (by decide) _ _ _ rfl ((HO2.out.alloc _).alloc _) ⟨w2.heap.size+1,0,none⟩ 1 1 [.int .i64 R1,.int .i64 R2] rfl rfl ?a1 ?a2 ?a3 ?a4 ?a5 ?_))
   case a1 => have:=cells_new (w2.alloc (.cells #[.int .i64 R1,.int .i64 R2] 225)) #[.int .i64 R1,.int .i64 R2] 225;simpa using this
   case a2 => intro u hu;simp at hu;rcases hu with rfl | rfl <;> rfl
   case a3 => unfold maxLen;omega
   case a4 => omega
   case a5 => simp;omega
   intro v' w1 hown' hgrow htr
   have hl1:=hown'.1
   obtain ⟨va,vc,rfl,_⟩:=owns_shape hown'
   have HB1:Hid (Below w.heap.size w w1):=((HB2.out.alloc HB2.out.size _).alloc (by simp;omega) _).grown hgrow (by simp;omega) (fun j hj => (HO2.out.lt j hj).1)
   have hbx:w1.heap[w2.heap.size]? = some (.cells #[.int .i64 R1,.int .i64 R2] 225 (0,0)):=by
    rw [hgrow.block w2.heap.size (by simp;omega) (fun e => by have:=(HO2.out.lt _ e.symm).2;omega),Below.heap_alloc _ _ _ (by simp)]
    exact heap_alloc_new w2 _
   have x0:w1.cell? ⟨w2.heap.size,0,none⟩=some (.int .i64 R1):=by rw [cell_of_row _ _ 0 _ _ _ hbx];rfl
   have x1:w1.cell? ⟨w2.heap.size,1,none⟩=some (.int .i64 R2):=by rw [cell_of_row _ _ 1 _ _ _ hbx];rfl
   have HOW:=hid hown'
   clear hown' hgrow htr hl1 hbx
   go_wp2
   go_roundw
   case rel =>
    refine ⟨a+R2,f - 1,q ++ [(R1,R2)],by omega,int_eq (by omega),by simp;omega,?_,HB1.out,by have:=HS.out.2.2.1;omega,?_⟩
    ·rw [fl2_append,List.length_append]
     exact HOW.out
    ·rw [List.append_assoc,List.singleton_append,<- HF.out]
     exact HS.out.2.2.2
   case measure => simp [intOf];omega
  ·have HE:Hid (q=runs l):=by
    show _=_
    have h1:=HS.out.2.2.2
    have h2:rnF l f a=[]:=by
     cases f with
     | zero => rfl
     | succ f => rw [rnF,if_neg hlt]
    rw [h2,List.append_nil] at h1
    exact h1
   go_wp2
   go_ret
   have h1:=HS.out.1
   rw [HE.out] at h1
   exact ⟨_,rfl,h1,HS.out.2.1⟩
end Go.Proofs.YthdmjmnkhlpnnabGreatDoor
namespace Go.Proofs.YthdmjmnkhlpnnabGreatDoor
open Go.RowKit
theorem make19 (u:World):(Instr.makeSlice 23 (.int .i64 19) (.int .i64 19)).run Tryz.prog u = .ok (.slice (some ⟨u.heap.size,0,none⟩) 19 19) (u.alloc (.cells (nums (List.replicate 19 0)) 3)):=by
 obtain ⟨i0,hi,hz0,hz1,hz2⟩:=info_parts info3
 have h:=run_make (P:=Tryz.prog) u 23 3 i0 (.int .i64 0) Tryz.underlying23 hi hz0 .i64 .i64 19 19 (by omega) (Int.le_refl _) (by rw [hz2];omega) (by omega)
 rw [hz1,Nat.mul_one,show (Value.int IntKind.i64 0).cells=#[Value.int .i64 0] from rfl,show ((19:Int)).toNat=19 by rfl,nums_made] at h
 exact h
set_option maxRecDepth 20000 in
set_option maxHeartbeats 1600000 in
theorem lengthsFor_any (ao:Option Addr) (c:Nat) (q:List (Nat × Nat)) (w:World) (hs:RSeg w ao q) (hm:q.length<=320) (hq:∀ r,r ∈ q->r.1<=18) :
  Calls Tryz.prog 167 #[.slice ao q.length c] w fun e w' => ∃ g zc,e = .returned (.slice (some ⟨g,0,none⟩) 19 19) /\ w.heap.size<=g /\ Row w' g zc /\ Best (rcn q) 7 zc /\ Below w.heap.size w w':=by
 have hmk:=make19
 have HQ:=hid hq
 have HR:=hid hs
 have H0:Hid (Row (w.alloc (.cells (nums (List.replicate 19 0)) 3)) w.heap.size (rcn [])):=heap_alloc_new w _
 have HB0:=hid ((Below.refl w.heap.size w).alloc (Nat.le_refl _) (.cells (nums (List.replicate 19 0)) 3))
 clear hs hq
 go_enter Tryz.func167,Tryz.ntmps167
 go_wp2
 clear hmk
 go_loopw [11] (fun i wr => ∃ k:Nat,k<=q.length /\ i = .int .i64 k /\ Hid (Row wr w.heap.size (rcn (q.take k))) /\ Hid (Below w.heap.size w wr)) (fun i _ => q.length - (intOf i).toNat)
 case atStart => exact ⟨0,by omega,rfl,H0,HB0⟩
 case round =>
  clear H0 HB0
  obtain ⟨k,hk,rfl,HW,HB⟩:=hrel
  have hlen:(rcn (q.take k)).length=19:=rcn_len _
  by_cases hlt:k < q.length
  ·obtain ⟨b,cs,rfl,hcs,hcell⟩:=(HR.out.ty (Ty.below HB.out)) (by omega)
   obtain ⟨r,hr⟩:∃ r,r=q[k]:=⟨_,rfl⟩
   have hr':q[k]? = some r:=by rw [hr];exact List.getElem?_eq_getElem hlt
   obtain ⟨y1,y2⟩:=hcell k r hr'
   have q1:wr.cell? ⟨b,k*2,none⟩=some (.int .i64 r.1):=by rw [cell_of_row wr b _ cs _ (0,0) hcs];exact y1
   have q2:wr.cell? ⟨b,k*2+1,none⟩=some (.int .i64 r.2):=by rw [cell_of_row wr b _ cs _ (0,0) hcs];exact y2
   have h18:=HQ.out r (by rw [hr];exact List.getElem_mem hlt)
   have hbd:=rcn_bd (q.take k) (fun r hr => HQ.out r (List.mem_of_mem_take hr)) r.1
   have hkl:(q.take k).length<=320:=by rw [List.length_take];omega
   have x1:=HW.out.cell (j:=r.1) (by omega)
   have f1:=HW.out.free r.1
   have l0:=HW.out.lt
   obtain ⟨z,hz⟩:∃ z,z=(rcn (q.take k)).getD r.1 0:=⟨_,rfl⟩
   rw [<- hz] at x1 hbd
   have HZ:=hid hz
   have HE:Hid (rcn (q.take (k+1))=inc (rcn (q.take k)) r.1):=by
    show _=_
    rw [List.take_add_one,hr',Option.toList_some,rcn_snoc]
   obtain ⟨R1,hR1⟩:∃ x,x=r.1:=⟨_,rfl⟩
   obtain ⟨R2,hR2⟩:∃ x,x=r.2:=⟨_,rfl⟩
   rw [<- hR1] at q1 h18 x1 f1 HZ HE
   rw [<- hR2] at q2
   clear hR1 hR2 hr hr' y1 y2 hcell hcs hz
   go_wp2
   go_roundw
   case rel =>
    refine ⟨k+1,by omega,int_eq (by omega),?_,?_⟩
    ·show Row _ w.heap.size _
     rw [HE.out]
     unfold inc
     rw [<- HZ.out]
     exact (HW.out.set R1 (z+1)).keepA ((Below.refl _ _).alloc (Nat.le_refl _) _)
    ·have hs:=HB.out.setCell (p:=⟨w.heap.size,R1,none⟩) (Nat.le_refl _) (.int .i64 (z+1))
     exact hs.alloc hs.size _
   case measure => simp [intOf];omega
  ·obtain rfl:k=q.length:=by omega
   have e9:q.take q.length=q:=List.take_length
   rw [e9] at HW
   have HLB:Hid (Calls Tryz.prog 97 #[.slice (some ⟨w.heap.size,0,none⟩) 19 19,.int .i64 7] wr fun e w' => ∃ g l,e = .returned (.tuple #[.slice (some ⟨g,0,none⟩) 19 19,.int .i64 0]) /\ wr.heap.size<=g /\ Row w' g l /\ Best (rcn q) 7 l /\ Below wr.heap.size wr w'):=by
    have h2:=rcn_len q
    have:=lengths_best (some ⟨w.heap.size,0,none⟩) 19 (rcn q) 7 wr HW.out.seg (by omega) (fun i => by have:=rcn_bd q HQ.out i;omega) (by omega) (by omega) (by omega)
    rw [h2] at this
    exact this
   go_wp2_with (go_at_call 97;refine HLB.out.mono ?_;rintro e w2 ⟨g,zc,rfl,hg,hr2,hb2,hbb⟩)
   go_ret
   exact ⟨g,zc,rfl,Nat.le_trans HB.out.size hg,hr2,hb2,HB.out.trans (hbb.mono HB.out.size)⟩
def rowK (zc:List Int) (k:Nat):List Int:=(row zc).take k ++ List.replicate (19 - k) 0
theorem rowK_zero (zc:List Int):rowK zc 0=List.replicate 19 0:=by simp [rowK]
theorem rowK_all (zc:List Int):rowK zc 19=row zc:=by
 unfold rowK
 rw [List.take_of_length_le (by rw [row_len];exact Nat.le_refl _)]
 simp
theorem rowK_length (zc:List Int) (k:Nat) (hk:k<=19):(rowK zc k).length=19:=by
 unfold rowK
 rw [List.length_append,List.length_take,row_len,List.length_replicate]
 omega
theorem rowK_set (zc:List Int) (k:Nat) (hk:k < 19):(rowK zc k).set k ((row zc).getD k 0)=rowK zc (k+1):=by
 unfold rowK
 have hl:((row zc).take k).length=k:=by rw [List.length_take,row_len];omega
 rw [List.set_append_right _ _ (by omega),hl,Nat.sub_self,show 19 - k=(19 - (k+1))+1 by omega,List.replicate_succ,List.set_cons_zero,take_snocI _ _ (by rw [row_len];exact hk),List.append_assoc]
 rfl
set_option maxRecDepth 20000 in
set_option maxHeartbeats 1600000 in
theorem ordered_list_any (w:World) (g:Nat) (zc:List Int) (h:Row w g zc) (hl:zc.length=19) (hg:Glo w) :
  Calls Tryz.prog 168 #[.slice (some ⟨g,0,none⟩) 19 19] w fun e w' => ∃ g2 k,e = .returned (.slice (some ⟨g2,0,none⟩) k 19) /\ w.heap.size<=g2 /\ Row w' g2 (row zc) /\ 4<=k /\ k<=19 /\ Cutz (row zc) k /\ Below w.heap.size w w':=by
 have hmk:=make19
 have HG:=hid hg
 have HR:=hid h
 have l0:=h.lt
 have H0:Hid (Row (w.alloc (.cells (nums (List.replicate 19 0)) 3)) w.heap.size (rowK zc 0)):=by show Row _ _ _;rw [rowK_zero];exact heap_alloc_new w _
 have HB0:=hid ((Below.refl w.heap.size w).alloc (Nat.le_refl _) (.cells (nums (List.replicate 19 0)) 3))
 clear hg h
 go_enter Tryz.func168,Tryz.ntmps168
 go_wp2
 clear hmk
 go_loopw [8] (fun i wr => ∃ k:Nat,k<=19 /\ i = .int .i64 k /\ Hid (Row wr w.heap.size (rowK zc k)) /\ Hid (Below w.heap.size w wr)) (fun i _ => 19 - (intOf i).toNat)
 case atStart => exact ⟨0,by omega,rfl,H0,HB0⟩
 case round =>
  clear H0 HB0
  obtain ⟨k,hk,rfl,HW,HB⟩:=hrel
  by_cases hlt:k < 19
  ·have hgk:=HG.out k hlt
   have gl:=cell_in hgk
   have g1:=(HB.out.cell (p:=⟨1,k,none⟩) gl).trans hgk
   have ho:ord.getD k 0 < 19:=by
    have:∀ k,k < 19->ord.getD k 0 < 19:=by decide
    exact this k hlt
   obtain ⟨o,hoo⟩:∃ o,o=ord.getD k 0:=⟨_,rfl⟩
   rw [<- hoo] at g1 ho
   have HOR:=hid (ordered_any wr k (o:Int) hlt g1)
   have hr:=(HR.out.keepA HB.out)
   have x1:=hr.cell (j:=o) (by omega)
   have HZ:Hid ((row zc).getD k 0=zc.getD o 0):=by show _=_;rw [row_getD zc k hlt,hoo]
   obtain ⟨z,hz⟩:∃ z,z=zc.getD o 0:=⟨_,rfl⟩
   rw [<- hz] at x1 HZ
   have hl:=rowK_length zc k hk
   have x2:=HW.out.cell (j:=k) (by omega)
   have f2:=HW.out.free k
   clear hz hoo hr hgk g1 hl
   go_wp2_with (go_at_call 173;refine HOR.out.mono ?_;rintro e w2 ⟨rfl,rfl⟩)
   refine ⟨⟨k+1,by omega,int_eq (by omega),?_,HB.out.setCell (p:=⟨w.heap.size,k,none⟩) (Nat.le_refl _) _⟩,by simp [intOf];omega⟩
   show Row _ w.heap.size _
   rw [<- rowK_set zc k hlt,HZ.out]
   exact HW.out.set k z
  ·obtain rfl:k=19:=by omega
   rw [rowK_all] at HW
   have HCR:=hid (cut_row 19 4 wr w.heap.size (row zc) HW.out (row_len zc) (by omega) (by omega) (by omega))
   go_wp2_with (go_at_call 165;refine HCR.out.mono ?_;rintro e w2 ⟨m,rfl,k1,k2,k3,rfl⟩)
   go_ret
   exact ⟨w.heap.size,m,rfl,Nat.le_refl _,HW.out,k1,k2,k3,HB.out⟩
end Go.Proofs.YthdmjmnkhlpnnabGreatDoor
namespace Go.Proofs.YthdmjmnkhlpnnabGreatDoor
open Go.RowKit
theorem Row.take {w:World} {g:Nat} {l:List Int} (h:Row w g l) (k:Nat):Seg w (some ⟨g,0,none⟩) (l.take k):=fun _ => ⟨g,0,rfl,fun j hj => by
 rw [List.length_take] at hj
 rw [Nat.zero_add,h.cell (by omega),List.getD_eq_getElem?_getD,List.getD_eq_getElem?_getD,List.getElem?_take,if_pos (by omega)]⟩
theorem Row.iseg {w:World} {g:Nat} {l:List Int} (h:Row w g l) (k:Nat):ISeg w (some ⟨g,0,none⟩) (l.take k):=fun _ => ⟨g,0,nums l,rfl,h,fun j hj => by
 rw [List.length_take] at hj
 rw [Nat.zero_add,nums_get l j (by omega),List.getD_eq_getElem?_getD,List.getD_eq_getElem?_getD,List.getElem?_take,if_pos (by omega)]⟩
theorem Row.ty {w w':World} {g:Nat} {l:List Int} (h:Row w g l) (t:Ty w w'):Row w' g l:=t g 3 _ _ h (by decide) (by decide)
structure Hed (w:World) (hb:Nat) (na nb:Nat) (zc:List Int) (k:Nat) (q:List (Nat × Nat)):Prop where
 st:∃ og lg ng ra rc,w.heap[hb]? = some (.cells #[.int .i64 na,.int .i64 nb,.slice (some ⟨og,0,none⟩) k 19,.slice (some ⟨lg,0,none⟩) 19 19,.slice (some ⟨ng,0,none⟩) 19 19,.slice ra q.length rc] 223 (0,0)) /\ Row w og (row zc) /\ Row w lg zc /\ Row w ng (rvs zc) /\ RSeg w ra q
theorem Hed.ty {w w':World} {hb na nb:Nat} {zc:List Int} {k:Nat} {q:List (Nat × Nat)} (h:Hed w hb na nb zc k q) (t:Ty w w'):Hed w' hb na nb zc k q:=by
 obtain ⟨og,lg,ng,ra,rc,h1,h2,h3,h4,h5⟩:=h.st
 exact ⟨og,lg,ng,ra,rc,t _ _ _ _ h1 (by decide) (by decide),h2.ty t,h3.ty t,h4.ty t,h5.ty t⟩
theorem own_seg2 {w:World} {base g n cap:Nat} {zs:List Int} (h:w.ownsRow base 3 1 (.slice (some ⟨g,0,none⟩) n cap) n (zs.map (Value.int .i64))):Seg w (some ⟨g,0,none⟩) zs:=by
 obtain ⟨ao,c,e,hs⟩:=owns_seg h
 injection e with e1 _ _
 rw [e1]
 exact hs
theorem own_cap2 {w:World} {base g n cap:Nat} {zs:List Int} (h:w.ownsRow base 3 1 (.slice (some ⟨g,0,none⟩) n cap) n (zs.map (Value.int .i64))) (hl:zs.length=n):zs.length<=cap:=by
 obtain ⟨_,⟨e,_⟩ | ⟨q,c,cur,e,_,_,h1,_⟩⟩:=h
 ·cases e
 ·injection e with _ _ e3
  omega
theorem take_bd {l:List Int} (h:∀ i,0<=l.getD i 0 /\ l.getD i 0<=15) (k:Nat):∀ i,0<=(l.take k).getD i 0 /\ (l.take k).getD i 0<=15:=fun i => by
 rw [List.getD_eq_getElem?_getD,List.getElem?_take]
 split
 ·rw [<- List.getD_eq_getElem?_getD];exact h i
 ·simp
theorem head_wt {zs zc:List Int} (hz:∀ i,0<=zs.getD i 0 /\ zs.getD i 0<=15) (hl:257<=zs.length) (he:0 < zs.getD 256 0) (h:Best (rcn (runs zs)) 7 zc):wt zc=32768 /\ zc.any nl=false /\ zc.length=19:=by
 have hq:∀ r,r ∈ runs zs->r.1<=18:=rnF_le zs hz _ _
 have hpos:=rcn_pos (runs zs) hq
 obtain ⟨r1,r2,m1,m2,hne⟩:=rnF_two zs hz hl he zs.length (Nat.le_refl _)
 exact ⟨h.whole ⟨r1.1,r2.1,hne,hpos r1 m1,hpos r2 m2⟩,any_nl fun i => by have:=h.bd i;omega,by rw [h.len,rcn_len]⟩
set_option maxRecDepth 20000 in
set_option maxHeartbeats 1600000 in
theorem headOf_any (w:World) (g1 g2:Nat) (la lb:List Int) (ka kb:Nat) (h1:Row w g1 la) (h2:Row w g2 lb) (l1:la.length=286) (l2:lb.length=30) (a1:257<=ka) (a2:ka<=286) (b1:1<=kb) (b2:kb<=30) (hg:Glo w)
  (z1:∀ i,0<=la.getD i 0 /\ la.getD i 0<=15) (z2:∀ i,0<=lb.getD i 0 /\ lb.getD i 0<=15) (hend:0 < la.getD 256 0) :
  Calls Tryz.prog 119 #[.slice (some ⟨g1,0,none⟩) ka 286,.slice (some ⟨g2,0,none⟩) kb 30] w fun e w' => ∃ hb zc k,e = .returned (.pointer (some ⟨hb,0,none⟩)) /\ w.heap.size<=hb /\ Hed w' hb ka kb zc k (runs (la.take ka ++ lb.take kb)) /\ Best (rcn (runs (la.take ka ++ lb.take kb))) 7 zc /\ 4<=k /\ k<=19 /\ Cutz (row zc) k /\ Below w.heap.size w w':=by
 obtain ⟨zs,hzs⟩:∃ zs,zs=la.take ka ++ lb.take kb:=⟨_,rfl⟩
 have lta:(la.take ka).length=ka:=by rw [List.length_take];omega
 have ltb:(lb.take kb).length=kb:=by rw [List.length_take];omega
 have lz:zs.length=ka+kb:=by rw [hzs,List.length_append];omega
 have hz:∀ i,0<=zs.getD i 0 /\ zs.getD i 0<=15:=fun i => by
  rw [hzs,app_getD]
  have q1:=take_bd z1 ka i
  have q2:=take_bd z2 kb (i - (la.take ka).length)
  split
  ·exact q1
  ·exact q2
 have he:0 < zs.getD 256 0:=by
  rw [hzs,app_getD,if_pos (by omega),List.getD_eq_getElem?_getD,List.getElem?_take,if_pos (by omega),<- List.getD_eq_getElem?_getD]
  exact hend
 have hql:(runs zs).length<=320:=by
  have h1:=exr_many (zc:=List.replicate 19 1) (runs zs) [] (by
    have:=rnF_ok zs (List.replicate 19 1) hz zs.length 0 (by omega) (fun r hr => by
      have:=rnF_le zs hz _ _ r hr
      rw [List.getD_eq_getElem?_getD,List.getElem?_replicate,if_pos (by omega)]
      simp)
    rw [List.take_zero] at this
    exact this)
  have h2:=rnF_says zs hz zs.length 0 (by omega) (by omega)
  rw [List.take_zero] at h2
  have h3:exr (runs zs) []=zs:=h2
  rw [h3] at h1
  simp only [List.length_nil] at h1
  omega
 have HC:Hid (∀ u:World,Below w.heap.size w u->u.cell? ⟨w.heap.size,0,none⟩=some (.slice (some ⟨g1,0,none⟩) ka 286)->u.cell? ⟨w.heap.size,1,none⟩=some (.slice (some ⟨g2,0,none⟩) kb 30)->Calls Tryz.prog 159 #[.slice (some ⟨w.heap.size,0,none⟩) 2 2] u fun e w' => ∃ g cap,e = .returned (.slice (some ⟨g,0,none⟩) (ka+kb) cap) /\ u.heap.size<=g /\ w'.ownsRow u.heap.size 3 1 (.slice (some ⟨g,0,none⟩) (ka+kb) cap) (ka+kb) (zs.map (Value.int .i64)) /\ Below u.heap.size u w'):=fun u hu k0 k1 => by
  have:=concat_any (w:=u) (b:=w.heap.size) ⟨g1,0,none⟩ ⟨g2,0,none⟩ 286 30 (la.take ka) (lb.take kb) ((h1.keepA hu).take ka) ((h2.keepA hu).take kb) (by omega) (by omega) (by omega) (by rw [lta];exact k0) (by rw [ltb];exact k1)
  rw [lta,ltb,<- hzs] at this
  exact this
 have HRO:Hid (∀ (u:World) (ao:Option Addr) (c:Nat),Seg u ao zs->zs.length<=c->Calls Tryz.prog 166 #[.slice ao (ka+kb) c] u fun e w' => ∃ v,e = .returned v /\ w'.ownsRow u.heap.size 225 2 v (runs zs).length (fl2 (runs zs)) /\ Below u.heap.size u w'):=fun u ao c hs hc => by
  have:=runsOf_any ao c zs u hs (by omega) hz hc
  rw [lz] at this
  exact this
 have HLF:Hid (∀ (u:World) (ao:Option Addr) (c:Nat),RSeg u ao (runs zs)->Calls Tryz.prog 167 #[.slice ao (runs zs).length c] u fun e w' => ∃ g zc,e = .returned (.slice (some ⟨g,0,none⟩) 19 19) /\ u.heap.size<=g /\ Row w' g zc /\ Best (rcn (runs zs)) 7 zc /\ Below u.heap.size u w'):=fun u ao c hs => lengthsFor_any ao c (runs zs) u hs hql (rnF_le zs hz _ _)
 have HNC:Hid (∀ (u:World) (g:Nat) (zc:List Int),Row u g zc->Best (rcn (runs zs)) 7 zc->Calls Tryz.prog 117 #[.slice (some ⟨g,0,none⟩) 19 19] u fun e w' => ∃ n,e = .returned (.agg #[.slice (some ⟨g,0,none⟩) 19 19,.slice (some ⟨n,0,none⟩) 19 19]) /\ u.heap.size<=n /\ Row w' n (rvs zc) /\ Below u.heap.size u w'):=fun u g zc hr hb => by
  obtain ⟨q1,q2,q3⟩:=head_wt hz (by omega) he hb
  have:=newCode_any (some ⟨g,0,none⟩) 19 zc u hr.seg (by omega) q2 (by omega)
  rw [q3] at this
  exact this
 have HGL:=hid hg
 have hgl:1 < w.heap.size:=cell_in (hg 0 (by omega))
 have HLZ:=hid lz
 rw [<- hzs]
 obtain ⟨rs,hrs⟩:∃ rs,rs=runs zs:=⟨_,rfl⟩
 rw [<- hrs] at HRO HLF HNC hql ⊢
 clear hzs lta ltb hz he z1 z2 hend h1 h2 hg lz hrs
 have HB0:=hid ((Below.refl w.heap.size w).alloc (Nat.le_refl _) (.cells #[Value.slice (some ⟨g1,0,none⟩) ka 286,Value.slice (some ⟨g2,0,none⟩) kb 30] 23))
 go_enter Tryz.func119,Tryz.ntmps119
 go_wp2_with (first
   | (go_at_call 117;refine (HNC.out _ _ _ (HR4.out.keepA HB5.out) HBE.out).mono ?_;rintro e w6 ⟨ng,rfl,hng,hr6,hb6⟩;have HR6:=hid hr6;have HB6:=hid hb6;clear hr6 hb6)
   | (go_at_call 168;refine (ordered_list_any _ _ zc HR4.out (HBE.out.len.trans (rcn_len _)) (HGL.out.below HB4.out hgl)).mono ?_;rintro e w5 ⟨og,kk,rfl,hog,hr5,k1,k2,k3,hb5⟩;have HR5:=hid hr5;have HB5:=hid hb5;have HK:=hid (And.intro k1 (And.intro k2 k3));clear hr5 hb5 k1 k2 k3)
   | (go_at_call 167;refine (HLF.out _ ra rc HS3.out).mono ?_;rintro e w4 ⟨lg,zc,rfl,hlg,hr4,hbe,hb4⟩;have HR4:=hid hr4;have HBE:=hid hbe;have HB4:=hid (HB3.out.trans (hb4.mono HB3.out.size));have HS4:=hid (HS3.out.ty (Ty.below hb4));clear hr4 hbe hb4)
   | (go_at_call 166;refine (HRO.out _ _ _ HS2.out HCP.out).mono ?_;rintro e w3 ⟨v,rfl,ho3,hb3⟩;have HB3:=hid (HB2.out.trans (hb3.mono HB2.out.size));obtain ⟨ra,rc,rfl,hs3⟩:=rseg_of ho3;have HS3:=hid hs3;clear ho3 hb3 hs3)
   | (go_at_call 159;refine (HC.out _ HB0.out (by simp) (by simp)).mono ?_;rintro e w2 ⟨cg,cap,rfl,hcg,ho2,hb2⟩;have HB2:=hid (HB0.out.trans (hb2.mono HB0.out.size));have HS2:=hid (own_seg2 ho2);have HCP:=hid (own_cap2 ho2 HLZ.out);clear ho2 hb2))
 go_ret
 obtain ⟨k1,k2,k3⟩:=HK.out
 have hA:=(Below.refl w6.heap.size w6).alloc (Nat.le_refl _) (.cells #[.int .i64 ka,.int .i64 kb,.slice (some ⟨og,0,none⟩) kk 19,.slice (some ⟨lg,0,none⟩) 19 19,.slice (some ⟨ng,0,none⟩) 19 19,.slice ra rs.length rc] 223)
 have hB5:=HB4.out.trans (HB5.out.mono HB4.out.size)
 have hB6:=hB5.trans (HB6.out.mono hB5.size)
 refine ⟨w6.heap.size,zc,kk,rfl,hB6.size,⟨og,lg,ng,ra,rc,heap_alloc_new w6 _,(HR5.out.keepA HB6.out).keepA hA,((HR4.out.keepA HB5.out).keepA HB6.out).keepA hA,HR6.out.keepA hA,((HS4.out.ty (Ty.below HB5.out)).ty (Ty.below HB6.out)).ty (Ty.below hA)⟩,HBE.out,k1,k2,k3,hB6.trans (hA.mono hB6.size)⟩
end Go.Proofs.YthdmjmnkhlpnnabGreatDoor
