import Derived.Test.YthdmjmnkhlpnnabGreatDoorZ08
import Derived.RangeFuncNested
import Derived.RangeFuncBound
import Derived.RangeFuncCalls
import Derived.RangeFuncLeaves
import Derived.Shelf.Abstract
import Derived.Shelf.RegionOpen
import Derived.WalkKit
import Derived.OwnWalkIn
import Derived.TacticsInMore
import Derived.LoopNIn
import Derived.LoopIn
import Derived.Sort.QuietIn
import Derived.Sort.CutIn
namespace Go.Proofs.YthdmjmnkhlpnnabGreatDoor
open Go.RowKit Go.Maps Go.Shelf
attribute [local go_sem] Oper.semAt_some
variable {w:World} {T base nx:Nat} {ps:List Pl3} {M:Nat} {D:DataW Unit} {pv:Value} {K:Nat->Value} {kv:Value}
def Bk (K:Nat->Value) (kv:Value) (nx:Nat):Type:={ x:Nat // 1<=x /\ x<=32768 /\ x<=nx /\ K (nx - x)=kv }
theorem Tbl.kept {w':World} (h:Tbl w T base nx ps M D pv) (hk:∀ k,TbO T M pv k->w'.heap[k]? = w.heap[k]?):Tbl w' T base nx ps M D pv:=by
 refine ⟨(hk T (.inl rfl)).trans h.blk,owns_kept h.row (fun k e => hk k (.inr (.inr e.symm))),?_⟩
 obtain ⟨es,clock,hm,F,hs,hD⟩:=h.map
 exact ⟨es,clock,(hk M (.inr (.inl rfl))).trans hm,F,hs,hD⟩
theorem grownN (w:World) (n:Nat):w.grownBy (w.drewN n) none:=⟨rfl,rfl,rfl,Nat.le_refl _,fun _ _ _ => rfl⟩
theorem grown1 (w:World):w.grownBy w.drew none:=⟨rfl,rfl,rfl,Nat.le_refl _,fun _ _ _ => rfl⟩
theorem Tbl.look (h:Tbl w T base nx ps M D pv) (hi:Tin K nx ps D) {ka kb kc:Nat} {kl:Lit} (hkl:keyOf Tryz.prog 136 (k3 ka kb kc)=some kl):∃ c:Int,(∀ n,(Instr.lookup 178 (.map (some M)) (k3 ka kb kc) true).run Tryz.prog (w.drewN n) = .ok (.tuple #[.int .i64 c,.bool (has D kl)]) (w.drewN n)) /\ (has D kl=true->0<=c /\ c < nx /\ D.atKey kl (.lit (.int .i64 0)) = .lit (.int .i64 c) /\ K c.toNat=k3 ka kb kc):=by
 obtain ⟨v,pz,r1,r2⟩:=World.ownsMap.look_ok h.map keyLaw Tryz.underlying178 (zeroInt w) (plainElem_int Tryz.underlying3 (by decide)) hkl
 obtain ⟨c,rfl,r3,_⟩:=plainElem_int_inv Tryz.underlying3 r2
 refine ⟨c,fun n => ?_,fun hh => ?_⟩
 ·obtain ⟨v',pz',r1',r2'⟩:=World.ownsMap.look_ok (w:=w.drewN n) h.map keyLaw Tryz.underlying178 (zeroInt _) (plainElem_int Tryz.underlying3 (by decide)) hkl
  obtain ⟨c',rfl,r3',_⟩:=plainElem_int_inv Tryz.underlying3 r2'
  have e1:=congrArg Prod.fst r3
  have e2:=congrArg Prod.fst r3'
  simp only at e1 e2
  rw [e1] at e2
  simp at e2
  rw [r1',e2]
 ·obtain ⟨a,ha,hv,hw⟩:=hi.val kl hh
  have e1:=congrArg Prod.fst r3
  simp only at e1
  have e2:=e1
  rw [hv] at e2
  simp at e2
  refine ⟨by omega,by omega,e1,?_⟩
  rw [show c.toNat=a by omega]
  exact keyLaw.inj hw hkl
theorem Tbl.olt (h:Tbl w T base nx ps M D pv) {k:Nat} (hk:TbO T M pv k):k < w.heap.size:=by
 rcases hk with e | e | e
 ·rw [e];exact h.lt
 ·rw [e];exact h.map.lt
 ·exact (h.row.lt k e.symm).2
def Kx (T M:Nat) (pv:Value) (B1 B2:Nat) (W W':World):Prop:=Fr (fun k => ¬ (TbO T M pv k ∨ k=B1 ∨ k=B2)) W W'
def Hd1 (nx:Nat) (c:Int) (pre:List (Bk K kv nx)):Prop:=∃ x ys,pre=x :: ys /\ (x.1:Int)=nx - c
def atOf:Value->Nat
 | .int _ i => (i+1).toNat
 | _ => 0
theorem onebool {e:Ending} {A B:Prop} (h:(e = .returned (.bool true) /\ A) ∨ (e = .returned (.bool false) /\ B)):∃ b:Bool,e = .returned (.bool b) /\ (b=true->A) /\ (b=false->B):=by
 rcases h with ⟨a,b⟩ | ⟨a,b⟩
 ·exact ⟨true,a,fun _ => b,fun e => (by cases e)⟩
 ·exact ⟨false,a,fun e => (by cases e),fun _ => b⟩
def Hh (nx:Nat) (c a:Int) (pre:List (Bk K kv nx)):Prop:=(pre=[] /\ a=c) ∨ Hd1 nx c pre
set_option maxRecDepth 20000 in
set_option maxHeartbeats 2000000 in
theorem tbacks_in (n:Nat) (hn:1<=n) (l B1 B2:Nat) (J Jx:List (Bk K kv nx)->World->Prop) (W:World) (hJ:AbidesFrom W.heap.size J)
  (ht:Tbl W T base nx ps M D pv) (hi:Tin K nx ps D) (hnx:nx<=1000000000000000)
  (hB1:W.heap[B1]? = some (.cells #[.pointer (some ⟨T,0,none⟩)] 117 (0,0))) (ka kb kc:Nat) (hkv:kv=k3 ka kb kc) (kl:Lit) (hkl:keyOf Tryz.prog 136 (k3 ka kb kc)=some kl)
  (hB2:W.heap[B2]? = some (.cells #[.int .u8 ka,.int .u8 kb,.int .u8 kc] 136 (0,0)))
  (hY:∀ pre x W1,J pre W1->pre.length < nx->YieldAt Fence.wide (n - 1) Tryz.prog l #[.int .i64 (x.1:Nat)] W1 fun e W' =>
    (e = .returned (.bool true) /\ J (pre ++ [x]) W' /\ Kx T M pv B1 B2 W1 W') ∨ (e = .returned (.bool false) /\ Jx (pre ++ [x]) W'))
  (h0:J [] W) :
  CallsIn Fence.wide n Tryz.prog 182 #[.func (.yield l) #[] #[],.pointer (some ⟨B1,0,none⟩),.pointer (some ⟨B2,0,none⟩)] W fun e W' => (∃ v,e = .returned v) /\ ((∃ xs,(has D kl=true -> ∀ c:Int,D.atKey kl (.lit (.int .i64 0)) = .lit (.int .i64 c)->nx - c<=32768->Hd1 nx c xs) /\ J xs W') ∨ (∃ xs,(has D kl=true -> ∀ c:Int,D.atKey kl (.lit (.int .i64 0)) = .lit (.int .i64 c)->nx - c<=32768->Hd1 nx c xs) /\ Jx xs W')):=by
 have _:=hn
 have h1:B1 < W.heap.size:=(Array.getElem?_eq_some_iff.1 hB1).1
 have HT:=hid ht
 have HI:=hid hi
 have HB1:=hid hB1
 have HJ:=hid hJ
 have HY:=hid hY
 have HJ0:=hid h0
 obtain ⟨c,hc1,hc2⟩:=ht.look hi hkl
 rw [<- hkv] at hc2
 have HC2:=hid hc2
 unfold k3 at hc1
 obtain ⟨c0,c1,c2,c3⟩:=ht.cells
 have a1:W.cell? ⟨B1,0,none⟩=some (.pointer (some ⟨T,0,none⟩)):=by rw [cell_of_row _ _ 0 _ _ _ hB1];rfl
 have b0:W.cell? ⟨B2,0,none⟩=some (.int .u8 ka):=by rw [cell_of_row _ _ 0 _ _ _ hB2];rfl
 have b1:W.cell? ⟨B2,1,none⟩=some (.int .u8 kb):=by rw [cell_of_row _ _ 1 _ _ _ hB2];rfl
 have b2:W.cell? ⟨B2,2,none⟩=some (.int .u8 kc):=by rw [cell_of_row _ _ 2 _ _ _ hB2];rfl
 clear ht hi hB1 hB2 hkl hJ hY h0 hc2 hkv
 refine callsIn_of_wp Tryz.func182 rfl trivial ?_ rfl
 simp only [Tryz.ntmps182,List.size_toArray,List.length_cons,List.length_nil,Nat.reduceAdd,Nat.reduceSub,Array.replicate_succ,Array.replicate_zero,List.push_toArray,List.append_toArray,List.nil_append,List.cons_append]
 gi_upto_region 0 with fail
 gi_quiet (fail)
 have HB2:Hid (Kx T M pv B1 B2 W (W.drewN nq)):=(Fr.refl _ W).below (below_drewN' (Below.refl W.heap.size W) nq)
 have HJ2:=hid (HJ.out [] W _ none HJ0.out (grownN W nq) (fun r e => by cases e))
 clear c0 c1 c2 c3 a1 b0 b1 b2 hc1
 generalize W.drewN nq=W2 at HB2 HJ2 ⊢
 generalize hhb:has D kl=hb at HC2 ⊢
 have HHB:=hid hhb
 clear hhb
 cases hb with
 | false =>
  gi_wp2
  refine bodyPost_ret (results_none Tryz.results182 _ _ _) rfl ?_
  exact ⟨⟨_,rfl⟩,.inl ⟨[],fun e => absurd (HHB.out.symm.trans e) (by decide),HJ2.out⟩⟩
 | true =>
  obtain ⟨hq1,hq2,hq3,hq4⟩:=HC2.out rfl
  have HQ3:=hid hq3
  have HQ4:=hid hq4
  clear hq3 hq4
  gi_wp2
  gi_loopw [4] (fun v wr => ∃ (a:Int) (pre:List (Bk K kv nx)),v = .int .i64 a /\ -1<=a /\ a < nx /\ pre.length+a < nx /\ Hid (J pre wr) /\ Hid (Kx T M pv B1 B2 W wr) /\ Hid (Hh nx c a pre) /\ Hid (0<=a->K a.toNat=kv)) (fun v _ => atOf v)
  case atStart => exact ⟨c,[],rfl,by omega,hq2,by simpa using hq2,HJ2,HB2,.inl ⟨rfl,rfl⟩,fun _ => HQ4.out⟩
  case round =>
   obtain ⟨a,pre,rfl,ha1,ha2,ha3,HJr,HBr,HHr,HKr⟩:=hrel
   have HTr:=hid (HT.out.kept (fun k hk => HBr.out.blk k (HT.out.olt hk) (fun h => h (.inl hk))))
   obtain ⟨c0,c1,c2,c3⟩:=HTr.out.cells
   have a1:wr.cell? ⟨B1,0,none⟩=some (.pointer (some ⟨T,0,none⟩)):=by rw [cell_of_row _ _ 0 _ _ _ ((HBr.out.blk B1 h1 (fun h => h (.inr (.inl rfl)))).trans HB1.out)];rfl
   have HS:Hid (Hd1 nx c pre->has D kl=true -> ∀ c:Int,D.atKey kl (.lit (.int .i64 0)) = .lit (.int .i64 c)->nx - c<=32768->Hd1 nx c pre):=fun h _ c' hc' _ => by
    have:=HQ3.out.symm.trans hc'
    simp at this
    rw [<- this]
    exact h
   by_cases hc:a < 0
   ·obtain rfl:a = -1:=by omega
    gi_upto_region 2 with fail
    refine wpIn_region_quiet_lit rfl (by kernel_rfl) (by kernel_rfl) ?_
    repeat (gi_big_quiet_step (fail))
    refine BigFrame.wpQuietIn_skip (fun _ _ _ _ => trivial) rfl ?_
    simp [Act.put]
    repeat (gi_big_quiet_step (fail))
    refine wpQuietIn_nil ?_
    intro nq
    gi_wp2
    go_end0
    exact ⟨⟨_,rfl⟩,.inl ⟨pre,HS.out (HHr.out.resolve_left (fun h => by omega)),HJ.out pre wr _ none HJr.out (grownN wr nq) (fun r e => by cases e)⟩⟩
   ·obtain ⟨k,rfl⟩:∃ k:Nat,a=k:=⟨a.toNat,by omega⟩
    have d1:decide (0<=(k:Int))=true:=by simp
    have jK:IntKind.i64.wrap ((nx:Int) - (k:Int))=(nx:Int) - (k:Int):=by rw [IntKind.wrap_i64];omega
    by_cases hf:32768 < nx - k
    ·have d2:decide ((nx:Int) - (k:Int)<=32768)=false:=by simp;omega
     gi_upto_region 2 with fail
     refine wpIn_region_quiet_lit rfl (by kernel_rfl) (by kernel_rfl) ?_
     repeat (gi_big_quiet_step (fail))
     refine BigFrame.wpQuietIn_skip (fun _ _ _ _ => trivial) rfl ?_
     simp [Act.put]
     repeat (gi_big_quiet_step (fail))
     refine wpQuietIn_nil ?_
     intro nq
     gi_wp2
     go_end0
     exact ⟨⟨_,rfl⟩,.inl ⟨pre,HHr.out.elim (fun h _ c' hc' hle => by have:=HQ3.out.symm.trans hc';simp at this;omega) HS.out,HJ.out pre wr _ none HJr.out (grownN wr nq) (fun r e => by cases e)⟩⟩
    ·have d2:decide ((nx:Int) - (k:Int)<=32768)=true:=by simp;omega
     have hKk:K (nx - (nx - k))=kv:=by have:=HKr.out (by omega);rw [show nx - (nx - k)=k by omega];simpa using this
     have HKk:=hid hKk
     clear hKk
     gi_upto_region 2 with fail
     obtain ⟨fn,tmps,assign,body,hy,hR⟩:=HY.out pre ⟨nx - k,by omega,by omega,by omega,HKk.out⟩ wr.drew (HJ.out pre wr _ none HJr.out (grown1 wr) (fun r e => by cases e)) (by omega)
     have jX:((nx - k:Nat):Int)=(nx:Int) - (k:Int):=by omega
     rw [jX] at hy
     clear jX
     gi_region_with (refine hR.mono ?_;rintro e W3 h3;obtain ⟨bb,rfl,hbt,hbf⟩:=onebool h3;have HBT:=hid hbt;have HBF:=hid hbf;clear h3 hbt hbf)
     all_goals
      have HHd:Hid (Hd1 nx c (pre ++ [⟨nx - k,by omega,by omega,by omega,HKk.out⟩])):=by
       rcases HHr.out with ⟨h1,h2⟩ | ⟨x,ys,h1,h2⟩
       ·exact ⟨_,[],by rw [h1];rfl,by show ((nx - k:Nat):Int)=_;omega⟩
       ·exact ⟨x,_,by rw [h1];rfl,h2⟩
      clear c0 c1 c2 c3 a1 hy hR
      cases bb with
      | false =>
       gi_wp2
       go_end0
       exact ⟨⟨_,rfl⟩,.inr ⟨_,fun _ c' hc' _ => by have:=HQ3.out.symm.trans hc';simp at this;rw [<- this];exact HHd.out,HBF.out (by trivial)⟩⟩
      | true =>
       have HJ3:=hid (HBT.out rfl).1
       have HB3:Hid (Kx T M pv B1 B2 W W3):=(Fr.below HBr.out (Below.refl wr.heap.size wr).drew).trans (HBT.out rfl).2
       have HT3:=hid (HT.out.kept (fun k hk => HB3.out.blk k (HT.out.olt hk) (fun h => h (.inl hk))))
       have hlen:=HI.out.len
       obtain ⟨m,hm⟩:∃ m,m=k % 32768:=⟨_,rfl⟩
       have hm1:m < ps.length:=by omega
       obtain ⟨r,hr⟩:∃ r,ps[m]? = some r:=⟨_,List.getElem?_eq_getElem hm1⟩
       have hbf:=HI.out.bef k r (by omega) (by omega) (by rw [<- hm];exact hr)
       obtain ⟨g,cap,cur,hiv,hbg,hgb,hnc,hcm,hcs,htake⟩:=HT3.out.opened (by omega)
       obtain ⟨k0,k1,k2,k3⟩:=row_at hgb htake hr
       obtain ⟨c0,c1,c2,c3⟩:=HT3.out.cells
       rw [hiv] at c3
       have a1:W3.cell? ⟨B1,0,none⟩=some (.pointer (some ⟨T,0,none⟩)):=by rw [cell_of_row _ _ 0 _ _ _ ((HB3.out.blk B1 h1 (fun h => h (.inr (.inl rfl)))).trans HB1.out)];rfl
       have jM:Int.tmod (k:Int) 32768=(m:Int):=by rw [hm,Int.tmod_eq_emod_of_nonneg (by omega)];simp
       have d3:decide ((m:Int) < (ps.length:Int))=true:=by simp;omega
       have HL2:Hid (∀ x:Bk K kv nx,((pre ++ [x]).length:Int)+r.bf < nx):=fun x => by
        rw [List.length_append]
        show ((pre.length+1:Nat):Int)+r.bf < nx
        have:=hbf.2.1
        omega
       clear hm hr hiv hgb htake hcs hlen
       gi_upto_region 3 with fail
       simp [Act.put]
       gi_quiet (fail)
       gi_wp2
       go_roundw
       case rel => exact ⟨r.bf,_,rfl,hbf.1,by have:=hbf.2.1;omega,HL2.out _,HJ.out _ W3 _ none HJ3.out (grownN W3 nq) (fun r e => by cases e),Fr.below HB3.out (below_drewN' (Below.refl _ W3) nq),.inr HHd.out,fun h => (hbf.2.2 h).trans (by have:=HKr.out (by omega);simpa using this)⟩
       case measure => show (r.bf+1).toNat < ((k:Int)+1).toNat;have:=hbf.2.1;omega
end Go.Proofs.YthdmjmnkhlpnnabGreatDoor
