/-
  balelaw.All is true at any level and all scripts of at most 1048576 values and letters: the streams' calls as in Streams, between them Inflate and Unframe of any bytes and Codes and Lengths of any numbers, each as the document says, the lists handed in unchanged and those that came out their owner's alone, to the script's end.
  Conditions: the bound of 'uptoSmall' (what is packed is longer than what came in, so without a bound it would outgrow memory), and what the card lists and ties: the package-level tables bale/format.order and bale/pack.efforts hold what their initialisers lay. No other.
-/
import Derived.Test.YthdmjmnkhlpnnabGreatDoorCards
import Derived.Test.YthdmjmnkhlpnnabGreatDoorTie
import Derived.Test.YthdmjmnkhlpnnabGreatDoorPlaC
import Derived.Test.YthdmjmnkhlpnnabGreatDoorZ34
import Derived.WalkKit
import Derived.ProofKit
import Derived.OpenShut
import Derived.Deep.Slices
import Derived.Deep.DeepHandedRow
import Derived.Lib.LaidTab
namespace Go.Proofs.YthdmjmnkhlpnnabGreatDoor.all0
open Go.ChangeShapes Go.WideShapes Go.ChangeAt Go.RowKit Go.Deep
open Go.ChangeMaps (open_string shut_string)
instance:Inhabited Opd:=⟨⟨0,0,.empty,none,[],0⟩⟩
theorem own:ownKnob Tryz.prog.godebug=none:=by kernel_rfl
theorem laidOut:laidOutB Tryz.prog=true:=by kernel_rfl
theorem cellsO:Tryz.prog.cellsOf 66=4:=by kernel_rfl
theorem cellsI:Tryz.prog.cellsOf 3=1:=by kernel_rfl
theorem cellsS:Tryz.prog.cellsOf 9=1:=by kernel_rfl
theorem cellsL:Tryz.prog.cellsOf 23=1:=by kernel_rfl
theorem one_le {H:Type} (d:DataW H):1<=Rows.uptoBulk d:=by
 cases d with
 | lit l => cases l <;> simp [Rows.uptoBulk]
 | _ => simp [Rows.uptoBulk]
theorem bulk_app {H:Type} (a b:List (DataW H)):Rows.uptoBulkAll (a ++ b)=Rows.uptoBulkAll a+Rows.uptoBulkAll b:=by
 induction a with
 | nil => simp [Rows.uptoBulkAll]
 | cons x r ih => rw [List.cons_append,Rows.uptoBulkAll,Rows.uptoBulkAll,ih];omega
theorem opL_app (a b:List Opd):opL (a ++ b)=opL a+opL b:=by
 induction a with
 | nil => simp [opL]
 | cons x r ih => rw [List.cons_append,opL,opL,ih];omega
theorem ops_le {H:Type} (o:Nat->Opd) (D:Nat->DataW H) (n:Nat) (h:∀ i,i < n->(o i).s.size+5<=Rows.uptoBulk (D i)):opL ((List.range n).map o)+5*n<=Rows.uptoBulkAll ((List.range n).map D):=by
 induction n with
 | zero => simp [opL,Rows.uptoBulkAll]
 | succ n ih =>
  have h1:=ih (fun i hi => h i (by omega))
  have h2:=h n (by omega)
  rw [List.range_succ,List.map_append,List.map_append,bulk_app,opL_app]
  simp only [List.map_cons,List.map_nil,opL,Rows.uptoBulkAll]
  omega
theorem add_plain (b off j:Nat):(⟨b,off,none⟩:Addr).add j=⟨b,off+j,none⟩:=by unfold Addr.add;split <;> simp_all
theorem four {α:Type} {l:List α} (h:l.length=4):∃ a b c d,l=[a,b,c,d]:=by
 match l,h with
 | [a,b,c,d],_ => exact ⟨a,b,c,d,rfl⟩
theorem many_le {H:Type} (l:List (DataW H)):l.length<=Rows.uptoBulkAll l:=by
 induction l with
 | nil => simp [Rows.uptoBulkAll]
 | cons x r ih => have:=one_le x;simp only [Rows.uptoBulkAll,List.length_cons];omega
theorem each_le {H:Type} {d:DataW H} {l:List (DataW H)} (h:d ∈ l):Rows.uptoBulk d<=Rows.uptoBulkAll l:=by
 induction l with
 | nil => cases h
 | cons x r ih =>
  simp only [Rows.uptoBulkAll]
  rcases List.mem_cons.1 h with e | e
  ·subst e;omega
  ·have:=ih e;omega
theorem list_at {H:Type} {enc:TypeId × Value->H} {W:World} {n:Nat} {v:Value} {x:DataW H × List MemPlace} (h:DataW.trod enc Tryz.prog W 0 (fun _ => true) true n 23 [v]=some x) :
  ∃ (la:Option Addr) (zs:List Int) (lc:Nat),v = .slice la zs.length lc /\ Seg W la zs /\ (la=none->zs.length=0 /\ lc=0) /\ zs.length<=Rows.uptoBulk x.1:=by
 rcases open_slice1 Tryz.underlying23 cellsI h with ⟨q,hx⟩ | ⟨a,len,cap,mm,nn,V,D,Pl,q,_,hl,hmx,hmm,hx,hat⟩
 ·exact ⟨none,[],0,by simpa using q,fun h => by simp at h,fun _ => ⟨rfl,rfl⟩,by simp⟩
 ·simp only [if_true] at hmm
  obtain ⟨z,hz⟩:=choose_lt (α:=Int) (n:=len) (p:=fun i z => W.cell? (a.add i)=some (.int .i64 z)) (fun i hi => by
    obtain ⟨h1,h2⟩:=hat i (by omega)
    obtain ⟨m0,r0,_,_⟩:=DataW.trod_int Tryz.underlying3 h2
    simp only [List.cons.injEq,and_true] at r0
    exact ⟨m0,by rw [h1,r0]⟩)
  refine ⟨some a,(List.range len).map z,cap,by simpa using q,fun h0 => ?_,nofun,?_⟩
  ·obtain ⟨b,off,spot⟩:=a
   have hspot:spot=none:=by simpa [Addr.add] using World.cell?_spot (hz 0 (by simpa using h0))
   subst hspot
   refine ⟨b,off,rfl,fun j hj => ?_⟩
   have hj':j < len:=by simpa using hj
   have:=hz j hj'
   rw [add_plain] at this
   rw [this]
   simp [hj']
  ·rw [hx]
   simp only [Rows.uptoBulk]
   have:=many_le ((List.range len).map D)
   simp at this ⊢
   omega
set_option maxRecDepth 100000 in
theorem op_at {H:Type} {enc:TypeId × Value->H} {W:World} {a:Addr} {i n:Nat} {cs:List Value} {d:DataW H} {pl:List MemPlace} (h1:W.cells? 0 (a.add (i*4)) 4=some cs) (h2:DataW.trod enc Tryz.prog W 0 (fun _ => true) true n 66 cs=some (d,pl)) :
  ∃ o:Opd,(W.cell? (a.add (i*4))=some (.int .i64 o.k) /\ W.cell? (a.add (i*4+1))=some (.int .i64 o.n) /\ W.cell? (a.add (i*4+2))=some (.string o.s) /\ W.cell? (a.add (i*4+3))=some (.slice o.a o.z.length o.c)) /\ o.s.size+5<=Rows.uptoBulk d /\ Seg W o.a o.z /\ (o.a=none->o.z.length=0 /\ o.c=0) /\ o.z.length<=Rows.uptoBulk d:=by
 obtain ⟨_,hlen,hcell⟩:=World.cells?_some h1
 obtain ⟨xs,k,hk,hxy,_,hxl,hf⟩:=DataW.trod_struct Tryz.underlying66 h2
 obtain ⟨y0,y1,y2,y3,rfl⟩:=four (l:=xs) hxl
 obtain ⟨v0,v1,v2,v3,rfl⟩:=four hlen
 have g0:=hf 0 _ rfl
 have g1:=hf 1 _ rfl
 have g2:=hf 2 _ rfl
 have g3:=hf 3 _ rfl
 simp [cellsI,cellsS,cellsL] at g0 g1 g2 g3
 have e0:=hcell 0 (by omega)
 have e1:=hcell 1 (by omega)
 have e2:=hcell 2 (by omega)
 have e3:=hcell 3 (by omega)
 rw [add_add] at e0 e1 e2 e3
 simp at e0 e1 e2 e3
 obtain ⟨m0,r0,s0,_⟩:=DataW.trod_int Tryz.underlying3 g0
 obtain ⟨m1,r1,s1,_⟩:=DataW.trod_int Tryz.underlying3 g1
 obtain ⟨m2,r2,s2,_⟩:=DataW.trod_string Tryz.underlying9 g2
 obtain ⟨la,zs,lc,r3,t1,t2,t3⟩:=list_at g3
 simp only [List.cons.injEq,and_true] at r0 r1 r2
 simp only [Prod.mk.injEq] at hxy
 have hz:=szl m2
 have h3:=one_le y3.1
 have hB:m2.size+5<=Rows.uptoBulk d /\ Rows.uptoBulk y3.1<=Rows.uptoBulk d:=by
  rw [hxy.1,s0,s1,s2]
  simp only [List.map_cons,List.map_nil,Rows.uptoBulk,Rows.uptoBulkAll]
  omega
 refine ⟨⟨m0,m1,m2,la,zs,lc⟩,⟨by rw [e0,r0],by rw [e1,r1],by rw [e2,r2],by rw [e3,r3]⟩,?_,t1,t2,?_⟩
 ·exact hB.1
 ·exact Nat.le_trans t3 hB.2
set_option maxRecDepth 100000 in
set_option maxHeartbeats 1000000 in
theorem contract (H:Type) (enc:TypeId × Value->H) (W:World) (base:Nat) (args:Array Value) (ds gs:List (DataW H)) (before:List MemPlace)
  (hval:∀ (j:Nat) t v,Tryz.f5.params[j]? = some t->args[j]? = some v->Value.okWide Tryz.prog W .any base t v)
  (hW:DataW.Whole enc Tryz.prog Tryz.f5.params.toList Rows.allSpec.vars false W args.toList ds gs before) (hL:laidMetH Tryz.prog Rows.allUptoRow.laid W) (hk:Rows.uptoSmall H (ds ++ gs)=true) :
  Calls Tryz.prog 5 args W fun e W' => ∃ v,e = .returned v /\ Rows.allSpec.post enc Tryz.prog Tryz.f5 false true false false W args v W':=by
 have hW':=hW
 obtain ⟨p,q,hA0,hV,rfl,hfz,hnd⟩:=hW
 have hA:DataW.TrodAll enc Tryz.prog W 0 (fun _ => true) true Tryz.f5.params.toList args.toList ds p:=hA0
 rw [Tryz.params5] at hA hval
 obtain ⟨v0,vs0,d0,ds0,p0,q0,hargs,rfl,rfl,h0,r0⟩:=trodAll_cons hA
 obtain ⟨v1,vs1,d1,ds1,p1,q1,rfl,rfl,rfl,h1,r1⟩:=trodAll_cons r0
 obtain ⟨rfl,rfl,rfl⟩:=trodAll_nil r1
 obtain rfl:args=#[v0,v1]:=by cases args;simp_all
 obtain ⟨rfl,rfl⟩:=trodVars_none hV
 obtain ⟨m,rfl,rfl,rfl,hwm⟩:=open_int Tryz.underlying3 (hval 0 3 v0 rfl rfl) h0
 obtain ⟨a1,len,cap,rfl⟩:=okWide_slice Tryz.underlying37 (hval 1 37 v1 rfl rfl)
 have h1k:=h1
 obtain ⟨fuel,hf⟩:=h1
 clear hA0
 simp only [List.append_nil] at hW' hk
 have hbulk:Rows.uptoBulkAll [DataW.lit (H:=H) (.int .i64 m),d1]<=1048576:=of_decide_eq_true hk
 simp only [Rows.uptoBulkAll] at hbulk
 have hlt:∀ x ∈ p1,x.block < W.heap.size:=fun x hx => by
  have:=hW'.lt x (by simp [hx])
  simpa using this
 have fin:∀ os:List Opd,os.length=len->Ops W a1 os->opL os+5*os.length<=1048576->Calls Tryz.prog 5 #[.int .i64 m,.slice a1 len cap] W fun e W' => ∃ v,e = .returned v /\ Rows.allSpec.post enc Tryz.prog Tryz.f5 false true false false W #[.int .i64 m,.slice a1 len cap] v W':=by
  intro os e0 ho hb
  subst e0
  refine (all_walk W m a1 cap os ho (by omega) (by omega) (gl2_of_laid hL)).mono fun e W' ⟨he,hb⟩ => ?_
  subst he
  refine ⟨_,rfl,_,_,_,[],[] ++ (p1 ++ []),[],hW',?_,?_,rfl,hb.frame _,fun h => by cases h⟩
  ·exact trodAll_cons_mk (shut_bool Tryz.underlying4 _) trodAll_mk0
  ·exact trodAll_cons_mk (shut_int Tryz.underlying3 hwm) (trodAll_cons_mk (Below.trod laidOut (by kernel_rfl) (of_decide_eq_true (by kernel_rfl)) h1k hb hlt) trodAll_mk0)
 rcases open_slice Tryz.underlying37 hf with ⟨hcs,hx⟩ | ⟨a,len',cap',mm,nn,D,Pl,hcs,_,hl,hmx,hmm,hx,hat⟩
 ·simp [Value.cells] at hcs
  obtain ⟨rfl,rfl,rfl⟩:=hcs
  exact fin [] rfl (fun j o h => by simp at h) (by simp [opL])
 ·simp [Value.cells] at hcs
  obtain ⟨rfl,rfl,rfl⟩:=hcs
  simp only [if_true] at hmm
  rw [cellsO] at hat
  obtain ⟨o,ho⟩:=choose_lt (α:=Opd) (n:=len) (p:=fun i o => (W.cell? (a.add (i*4))=some (.int .i64 o.k) /\ W.cell? (a.add (i*4+1))=some (.int .i64 o.n) /\ W.cell? (a.add (i*4+2))=some (.string o.s) /\ W.cell? (a.add (i*4+3))=some (.slice o.a o.z.length o.c)) /\ o.s.size+5<=Rows.uptoBulk (D i) /\ Seg W o.a o.z /\ (o.a=none->o.z.length=0 /\ o.c=0) /\ o.z.length<=Rows.uptoBulk (D i)) (fun i hi => by
    obtain ⟨cs',h1,h2⟩:=hat i (by omega)
    exact op_at h1 h2)
  have hbk:=ops_le o D len (fun i hi => (ho i hi).2.1)
  simp only [Prod.mk.injEq] at hx
  rw [hx.1] at hbulk
  simp only [Rows.uptoBulk] at hbulk
  refine fin ((List.range len).map o) (by simp) (fun j x hj => ?_) (by simp only [List.length_map,List.length_range];omega)
  have hjl:j < len:=by
   have:=(List.getElem?_eq_some_iff.1 hj).1
   simpa using this
  obtain rfl:x=o j:=by
   rw [List.getElem?_map,List.getElem?_range hjl] at hj
   simpa using hj.symm
  obtain ⟨⟨c0,c1,c2,c3⟩,_,t1,t2,t3⟩:=ho j hjl
  have hle:=each_le (d:=D j) (l:=(List.range len).map D) (List.mem_map.2 ⟨j,List.mem_range.2 hjl,rfl⟩)
  obtain ⟨b,off,spot⟩:=a
  have hspot:spot=none:=by simpa [Addr.add] using World.cell?_spot (ho 0 (by omega)).1.1
  subst hspot
  rw [add_plain] at c0 c1 c2 c3
  exact ⟨b,off,rfl,cell_in c0,c0,c1,c2,c3,t1,t2,by omega⟩
noncomputable def laidOne (os:Os):Array Obj:=(World.holding Tryz.prog os ⟨#[],#[],[]⟩).heap.modify 1 fun
      | .cells _ t frozen => .cells #[.int .i64 16,.int .i64 17,.int .i64 18,.int .i64 0,.int .i64 8,.int .i64 7,.int .i64 9,.int .i64 6,.int .i64 10,.int .i64 5,.int .i64 11,.int .i64 4,.int .i64 12,.int .i64 3,.int .i64 13,.int .i64 2,.int .i64 14,.int .i64 1,.int .i64 15] t frozen
      | o => o
noncomputable def laidWorld (os:Os):World :=
 { World.holding Tryz.prog os ⟨#[],#[],[]⟩ with heap:=(laidOne os).modify 0 fun
   | .cells _ t frozen => .cells #[.int .i64 4,.int .i64 1,.int .i64 8,.int .i64 1,.int .i64 16,.int .i64 1,.int .i64 16,.int .i64 8,.int .i64 32,.int .i64 16,.int .i64 64,.int .i64 32,.int .i64 128,.int .i64 64,.int .i64 256,.int .i64 128,.int .i64 512,.int .i64 258] t frozen
   | o => o }
theorem laid_met (os:Os):laidMet Tryz.prog Rows.allUptoRow.laid ((laidWorld os).forCall (fun _ _ => 0) ⟨#[],#[.int .i64 0,.slice none 0 0],[]⟩).memory :=
 laidMet_of_run' 8 (by kernel_rfl) (by kernel_rfl)
theorem reads (os:Os) {H:Type} (enc:TypeId × Value->H):∃ places,DataW.whole enc Tryz.prog ((laidWorld os).forCall (fun _ _ => 0) ⟨#[],#[.int .i64 0,.slice none 0 0],[]⟩).memory Tryz.f5.params.toList Rows.allSpec.vars false #[Value.int .i64 0,Value.slice none 0 0].toList 8=some ([.lit (.int .i64 0),.nil],[],places) :=
 ⟨[],by kernel_rfl⟩
set_option maxRecDepth 100000 in
theorem liftedUpto (os:Os) (started:os.Started) (H:Type) (enc:TypeId × Value->H) (F:Stop.Interp) :
  ReturnsInHanded {} Tryz.checked os 5 .any ((Rows.OpenSpec.upto Rows.allSpec).preRow enc Tryz.prog Tryz.f5 Rows.allUptoRow.domain false Rows.allUptoRow.laid) (((Rows.OpenSpec.upto Rows.allSpec).at F).post enc Tryz.prog Tryz.f5 false true false false):=by
 obtain ⟨places,hx⟩:=reads os enc
 refine returnsInHanded_of_row (C:=Tryz.checked) (s:=Rows.OpenSpec.upto Rows.allSpec) own started (by kernel_rfl) Tryz.func5
  (witness_row_at (enc:=enc) (C:=Tryz.checked) false (laidWorld os) #[.int .i64 0,.slice none 0 0] rfl (by kernel_rfl) (by kernel_rfl) (by kernel_rfl)
    (OpenSpec.preRow_of_cond 8 hx (by kernel_rfl) (fun k hk => by cases hk;kernel_rfl) (by kernel_rfl) (laid_met os))) ?_
 intro W base args ds gs before hval hW _ hcond _ hL _ _
 exact contract H enc W base args ds gs before hval hW hL (hcond _ rfl)
theorem saidUpto:Rows.AllUptoSaid :=
 OpenClaim.holds_of_cond 5 Tryz.f5 rfl rfl rfl rfl rfl rfl rfl ⟨rfl,rfl,rfl,rfl,rfl⟩ rfl rfl rfl rfl rfl (by kernel_rfl) Tryz.func5 (by kernel_rfl)
  (of_decide_eq_true (by kernel_rfl)) (by unfold Func.isWrapper;first | (rw [if_pos (by decide +kernel)];kernel_rfl) | (rw [if_neg (by decide +kernel)];exact ⟨rfl,rfl⟩))
  (fun os started H enc _ F => by rw [OpenClaim.pre_eq_preRow];exact liftedUpto os started H enc F)
theorem plain (f:FuncId) (fn:Func) (hf:Tryz.pinned.checked.prog.funcNamed "bale/balelaw.All" = some f) (hfn:Tryz.pinned.checked.prog.funcs[f]? = some fn) :
  true=Tryz.pinned.checked.prog.looks [] /\ ∀ (j:Nat) t,fn.params[j]? = some t->Tryz.pinned.checked.prog.wantsStandIn t=false:=by
 obtain rfl:f=5:=Option.some.inj ((show Tryz.prog.funcNamed "bale/balelaw.All" = some 5 by kernel_rfl).symm.trans hf) |>.symm
 obtain rfl:fn=Tryz.f5:=(Option.some.inj (Tryz.func5.symm.trans hfn)).symm
 refine ⟨by kernel_rfl,fun j t ht => ?_⟩
 rw [Tryz.params5] at ht
 rcases j with _ | _ | j
 ·obtain rfl:t=3:=by simpa using ht.symm
  exact (show Tryz.prog.wantsStandIn 3=false by kernel_rfl)
 ·obtain rfl:t=37:=by simpa using ht.symm
  exact (show Tryz.prog.wantsStandIn 37=false by kernel_rfl)
 ·simp at ht
theorem cardUpto:Rows.AllUptoCardSaid :=
 Claim7.holds_tied_plain_at .later [] _ _ _ _ saidUpto (fun _ h => by cases h) (by kernel_rfl) (fun _ h => by cases h) allUpto_row_tie rfl ⟨rfl,rfl⟩ (by kernel_rfl) rfl plain (by kernel_rfl)
end Go.Proofs.YthdmjmnkhlpnnabGreatDoor.all0
namespace Go.Proofs.YthdmjmnkhlpnnabGreatDoor
theorem all_upto:Rows.AllUptoCardSaid:=all0.cardUpto
end Go.Proofs.YthdmjmnkhlpnnabGreatDoor
