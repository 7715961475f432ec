import Derived.Test.YthdmjmnkhlpnnabGreatDoorZ24
import Derived.Test.YthdmjmnkhlpnnabGreatDoorZ05
namespace Go.Proofs.YthdmjmnkhlpnnabGreatDoor
open Go.RowKit
theorem Pars.cut {w:World} {ao:Option Addr} {c m:Nat} {Q:List Pc} (h:Pars w (.slice ao Q.length c) Q) (hm:m<=Q.length):Pars w (.slice ao m c) (Q.take m):=by
 obtain ⟨ao',c',e,hc,h⟩:=h
 injection e with e1 e2 e3
 subst e1 e3
 have hl:(Q.take m).length=m:=by simp;omega
 refine ⟨ao,c,by rw [hl],by omega,fun h0 => ?_⟩
 obtain ⟨g,cur,e,hg,ht⟩:=h (by omega)
 refine ⟨g,cur,e,hg,?_⟩
 rw [hl,<- flat_take,<- ht,List.take_take]
 congr 1
 omega
theorem pow_bd (M k:Nat) (x:Int) (h:x<=(M:Int)*2 ^ k) (hk:k<=15):x<=(M:Int)*32768:=by
 have h4:2 ^ k<=2 ^ 15:=Nat.pow_le_pow_right (by omega) hk
 have h5:M*2 ^ k<=M*2 ^ 15:=Nat.mul_le_mul_left _ h4
 have h7:(M:Int)*2 ^ k=((M*2 ^ k:Nat):Int):=by push_cast;rfl
 rw [h7] at h
 omega
def LevD (S:List Ab):Nat->List Ab->Prop
 | 0,Q => Q=[]
 | k+1,Q => ∃ P La,LevD S k P /\ Made (Prod.fst:Ab->Int) ((0,[]):Ab) (S ++ P) La /\ Q=pairsOf La
theorem LevD.det {S:List Ab}:∀ {k:Nat} {Q Q':List Ab},LevD S k Q->LevD S k Q'->Q=Q'
 | 0,Q,Q',h,h' => by have e:Q=[]:=h;have e':Q'=[]:=h';rw [e,e']
 | k+1,Q,Q',h,h' => by
  obtain ⟨P,La,h1,h2,h3⟩:=h
  obtain ⟨P',La',h1',h2',h3'⟩:=h'
  have e:=LevD.det h1 h1'
  subst e
  rw [h3,h3',h2.det _ _ h2']
theorem levd_step {S Q Q2 La rs:List Pc} {k:Nat} (h:LevD (S.map pabs) k (Q.map pabs)) (h1:PutsP [] (S ++ Q) rs) (h2:DrP rs La []) (h4:Q2.map pabs=pairsOf (La.map pabs)):LevD (S.map pabs) (k+1) (Q2.map pabs):=by
 refine ⟨Q.map pabs,La.map pabs,h,?_,h4⟩
 rw [<- List.map_append]
 exact Made.map (f:=Pc.wt) (z:=Pc.zero) (g:=pabs) (fun _ => rfl) ⟨rs,h1,h2⟩
theorem lev_step {S Q Q2 La rs:List Pc} {k:Nat} (h:Lev (S.map pabs) k (Q.map pabs)) (h1:rs.Perm (S ++ Q)) (h2:La.Perm rs) (h3:Srt La) (h4:Q2.map pabs=pairsOf (La.map pabs)):Lev (S.map pabs) (k+1) (Q2.map pabs):=by
 refine ⟨Q.map pabs,La.map pabs,h,?_,?_,h4⟩
 ·rw [<- List.map_append];exact (h2.trans h1).map pabs
 ·exact List.pairwise_map.2 h3
set_option maxRecDepth 20000 in
set_option maxHeartbeats 2000000 in
theorem chosen_any {w:World} {v:Value} {S:List Pc} (hv:Pars w v S) (hok:∀ p ∈ S,PcOk w p) (most:Nat) (h1:1<=most) (h15:most<=15) (h2:2<=S.length) (h320:S.length<=320) (hn:S.length<=2 ^ most) (hS:∀ x ∈ S.map pabs,0 < x.1 /\ x.1<=(1000000000:Nat) /\ x.2.length=1) :
  Calls Tryz.prog 150 #[v,.int .i64 most] w fun e w' => ∃ v' Q Qf,e = .returned v' /\ Pars w' v' Q /\ (∀ p ∈ Q,PcOk w' p /\ ∀ a,p.ao=some a->w.heap.size<=a.block) /\ Lev (S.map pabs) most Qf /\ Q.map pabs=Qf.take (S.length - 1) /\ Q.length=S.length - 1 /\ Below w.heap.size w w' /\ LevD (S.map pabs) most Qf:=by
 have HV:=hid hv
 have HOK:=hid hok
 have HN:=hid hn
 have HS:=hid hS
 obtain ⟨ao,c,hve,_,_⟩:=hv
 subst hve
 have H0:Hid (Pars w (.slice none 0 0) [] /\ (∀ p ∈ ([]:List Pc),PcOk w p /\ ∀ a,p.ao=some a->w.heap.size<=a.block) /\ Lev (S.map pabs) 0 (([]:List Pc).map pabs) /\ Below w.heap.size w w /\ LevD (S.map pabs) 0 (([]:List Pc).map pabs)):=⟨⟨none,0,rfl,by simp,fun h => by simp at h⟩,fun p hp => (by cases hp),rfl,Below.refl _ _,rfl⟩
 clear hok hn hS
 go_enter Tryz.func150,Tryz.ntmps150
 go_wp2
 go_loopw [5,11] (fun v i wr => ∃ (k:Nat) (Q:List Pc),k<=most /\ i = .int .i64 k /\ Hid (Pars wr v Q /\ (∀ p ∈ Q,PcOk wr p /\ ∀ a,p.ao=some a->w.heap.size<=a.block) /\ Lev (S.map pabs) k (Q.map pabs) /\ Below w.heap.size w wr /\ LevD (S.map pabs) k (Q.map pabs))) (fun _ i _ => most - (intOf i).toNat)
 case atStart => exact ⟨0,[],by omega,rfl,H0.out⟩
 case round =>
  clear H0
  obtain ⟨k,Q,hk,rfl,HR⟩:=hrel
  by_cases hlt:k < most
  ·have hql:Q.length<=320:=by have:=lev_le HR.out.2.2.1;simp at this;omega
   have BD:=hid (lev_bound HS.out HR.out.2.2.1)
   have hM:Hid (∀ x ∈ S ++ Q,0 < x.wt /\ x.wt<=70368744177664 /\ x.sy.length<=1000000):=fun x hx => by
    have h3:=BD.out (pabs x) (by rw [<- List.map_append];exact List.mem_map.2 ⟨x,hx,rfl⟩)
    have h4:2 ^ k<=2 ^ 15:=Nat.pow_le_pow_right (by omega) (by omega)
    have h6:=pow_bd _ k _ h3.2.1 (by omega)
    have h8:=h3.2.2.2
    have h9:=h3.1
    simp only [pabs] at h6 h8 h9
    exact ⟨h9,by omega,by omega⟩
   go_wp2_with fail
   refine (row_any (HV.out.below HR.out.2.2.2.1) HR.out.1 (by omega) (by omega)).mono ?_
   rintro e w1 ⟨iv,rs,rfl,hh,hp,ho,hb,hpt⟩
   have R:=hid (show _ /\ _ /\ _ /\ _ from ⟨hh,hp,ho,hb⟩)
   have RP:=hid hpt
   clear hh hp ho hb hpt
   go_wp2_with fail
   refine (pairUp_any R.out.1 R.out.2.2.1 ?_ ?_ ?_ ?_).mono ?_
   ·intro x hx
    have hx':=R.out.2.1.subset hx
    have hw:PcOk wr x:=by
     rcases List.mem_append.1 hx' with h | h
     ·exact (HOK.out x h).below HR.out.2.2.2.1
     ·exact (HR.out.2.1 x h).1
    exact hw.below R.out.2.2.2
   ·have:=R.out.2.1.length_eq;simp at this;omega
   ·intro x hx;have:=hM.out x (R.out.2.1.subset hx);exact ⟨this.1,this.2.1⟩
   ·intro x hx;exact (hM.out x (R.out.2.1.subset hx)).2.2
   rintro e w2 ⟨v2,rfl,Q2,La,o1,o2,o3,o4,o5,o7,o6⟩
   have P:=hid (show _ /\ _ /\ _ /\ _ /\ _ /\ _ from ⟨o1,o2,o3,o4,o5,o6⟩)
   have P7:=hid o7
   clear o1 o2 o3 o4 o5 o6 o7
   go_wp2
   go_roundw
   case rel =>
    refine ⟨k+1,Q2,by omega,by go_num,Pars.own P.out.1,fun x hx => ⟨P.out.2.2.2.2.1 x hx,fun a ha => by have h1:=P7.out x hx a ha;have h2:=HR.out.2.2.2.1.size;have h3:=R.out.2.2.2.size;omega⟩,lev_step HR.out.2.2.1 R.out.2.1 P.out.2.1 P.out.2.2.1.1 P.out.2.2.2.1,?_,levd_step HR.out.2.2.2.2 RP.out P.out.2.2.1.2 P.out.2.2.2.1⟩
    have b2:=P.out.2.2.2.2.2.to R.out.1
    have z:=HR.out.2.2.2.1.size
    exact HR.out.2.2.2.1.trans ((R.out.2.2.2.mono z).trans (b2.mono z))
   case measure => simp [intOf];omega
  ·have ek:k=most:=by omega
   subst ek
   have hq:S.length<=Q.length+1:=by
    have:=lev_many k (by simpa using HN.out) (Nat.le_refl _) HR.out.2.2.1
    simpa using this
   have hq2:Q.length<=S.length:=by have:=lev_le HR.out.2.2.1;simpa using this
   obtain ⟨qo,qc,hve,hqc,_⟩:=HR.out.1
   subst hve
   go_wp2
   go_ret
   refine ⟨_,Q.take (S.length - 1),Q.map pabs,rfl,HR.out.1.cut (by omega),fun x hx => HR.out.2.1 x (List.mem_of_mem_take hx),HR.out.2.2.1,by rw [List.map_take],by simp;omega,HR.out.2.2.2.1,HR.out.2.2.2.2⟩
end Go.Proofs.YthdmjmnkhlpnnabGreatDoor
namespace Go.Proofs.YthdmjmnkhlpnnabGreatDoor
open Go.RowKit
def nc (z:Int):Bool:=decide (z < 0) || decide (1000000000 < z)
set_option maxHeartbeats 400000 in
theorem isnc_any (z:Int) (w:World):Calls Tryz.prog 148 #[.int .i64 z] w fun e w' => e = .returned (.bool (nc z)) /\ w=w':=by
 by_cases h:z < 0
 ·go_enter Tryz.func148,Tryz.ntmps148
  go_wp2
  go_ret
  exact ⟨ret_bool (by simp [nc,h]),rfl⟩
 ·go_enter Tryz.func148,Tryz.ntmps148
  go_wp2
  all_goals go_ret
  all_goals refine ⟨ret_bool ?_,rfl⟩
  all_goals simp [nc]
  all_goals omega
set_option maxHeartbeats 400000 in
theorem indexc_any (ao:Option Addr) (c:Nat) (zs:List Int) (w:World) (hs:Seg w ao zs) (hm:zs.length<=maxLen) :
  Calls Tryz.prog 178 #[.slice ao zs.length c,.func (.func 148) #[] #[]] w fun e w' => (∃ r:Int,e = .returned (.int .i64 r) /\ (decide (0<=r)=zs.any nc)) /\ w=w':=by
 unfold maxLen at hm
 go_enter Tryz.func178,Tryz.ntmps178
 go_wp2
 go_loop [8] (fun i => ∃ k:Nat,k<=zs.length /\ i = .int .i64 k /\ Hid ((zs.take k).any nc=false)) (fun i => zs.length - (intOf i).toNat)
 case atStart => exact ⟨0,by omega,rfl,rfl⟩
 case round =>
  obtain ⟨k,hk,rfl,HA⟩:=hrel
  by_cases hlt:k < zs.length
  ·obtain ⟨b,off,rfl,hc⟩:=hs (by omega)
   obtain ⟨z,hz⟩:∃ z,z=zs.getD k 0:=⟨_,rfl⟩
   have hcell:w.cell? ⟨b,off+k,none⟩=some (.int .i64 z):=by rw [hz];exact hc k hlt
   have HZ:Hid (z=zs.getD k 0):=hz
   clear hz hc hs
   by_cases hn:nc z=true
   ·go_wp2_with (go_at_call 148;refine (isnc_any _ _).mono ?_;rintro e w' ⟨rfl,rfl⟩)
    go_ret
    refine ⟨⟨(k:Int),rfl,?_⟩,rfl⟩
    have h1:zs.any nc=true:=List.any_eq_true.2 ⟨z,by rw [HZ.out];simp [List.getD,hlt],hn⟩
    rw [h1];simp
   ·have hn':nc z=false:=by simpa using hn
    clear hn
    go_wp2_with (go_at_call 148;refine (isnc_any _ _).mono ?_;rintro e w' ⟨rfl,rfl⟩)
    go_round
    case rel => exact ⟨k+1,by omega,by go_num,by show _=_;rw [take_snocI zs k hlt,List.any_append,HA.out,<- HZ.out];simp [hn']⟩
    case measure => simp [intOf];omega
  ·go_wp2
   go_ret
   refine ⟨⟨-1,rfl,?_⟩,rfl⟩
   have:=HA.out
   rw [List.take_of_length_le (by omega)] at this
   rw [this];rfl
set_option maxHeartbeats 400000 in
theorem containsc_any (ao:Option Addr) (c:Nat) (zs:List Int) (w:World) (hs:Seg w ao zs) (hm:zs.length<=maxLen) :
  Calls Tryz.prog 144 #[.slice ao zs.length c,.func (.func 148) #[] #[]] w fun e w' => e = .returned (.bool (zs.any nc)) /\ w=w':=by
 go_enter Tryz.func144,Tryz.ntmps144
 go_wp2_with (go_at_call 178;refine (indexc_any _ _ _ _ hs hm).mono ?_;rintro e w' ⟨⟨r,rfl,hr⟩,rfl⟩)
 go_ret
 exact ⟨ret_bool rfl,rfl⟩
def lens (n:Nat) (ys:List Int):List Int:=(List.range n).map fun i:Nat => ((ys.count (i:Int):Nat):Int)
theorem lens_length (n:Nat) (ys:List Int):(lens n ys).length=n:=by simp [lens]
theorem lens_nil (n:Nat):lens n []=List.replicate n 0:=by
 apply List.ext_getElem?
 intro i
 by_cases h:i < n
 ·simp [lens,h]
 ·simp [lens,h]
theorem lens_snoc (n:Nat) (ys:List Int) (s:Nat) (hs:s < n):(lens n ys).set s ((ys.count (s:Int):Nat)+1:Int)=lens n (ys ++ [(s:Int)]):=by
 apply List.ext_getElem?
 intro i
 rw [List.getElem?_set]
 by_cases h:s=i
 ·subst h
  simp [lens,hs]
 ·rw [if_neg h]
  by_cases hi:i < n
  ·have:¬ (s:Int)=(i:Int):=by omega
   simp [lens,hi,List.count_append,this]
  ·simp [lens,hi]
theorem lens_getD (n:Nat) (ys:List Int) (i:Nat) (h:i < n):(lens n ys).getD i 0=(ys.count (i:Int):Nat):=by simp [lens,h]
end Go.Proofs.YthdmjmnkhlpnnabGreatDoor
namespace Go.Proofs.YthdmjmnkhlpnnabGreatDoor
open Go.RowKit
def Chs (S:List Ab) (m:Nat) (C:List Ab):Prop:=(S.length < 2 /\ C=S) ∨ (2<=S.length /\ ∃ Qf,Lev S m Qf /\ C=Qf.take (S.length - 1))
theorem lev_syms {S:List Ab}:∀ {k:Nat} {Q:List Ab},Lev S k Q -> ∀ x ∈ Q,∀ s ∈ x.2,∃ y ∈ S,s ∈ y.2
 | 0,Q,h,x,hx,s,hs => by have e:Q=[]:=h;rw [e] at hx;cases hx
 | k+1,Q,h,x,hx,s,hs => by
  obtain ⟨P,La,h1,h2,_,rfl⟩:=h
  obtain ⟨a,b,ha,hb,rfl⟩:=pairsOf_mem hx
  have one:∀ c ∈ La,s ∈ c.2 -> ∃ y ∈ S,s ∈ y.2:=fun c hc hsc => by
   rcases List.mem_append.1 (h2.subset hc) with h | h
   ·exact ⟨c,h,hsc⟩
   ·exact lev_syms h1 c h s hsc
  rcases List.mem_append.1 hs with h | h
  ·exact one a ha h
  ·exact one b hb h
theorem singAt_mem {x:Ab}:∀ {i:Nat} {cs:List Int},x ∈ singAt i cs -> ∃ j,j < cs.length /\ x=(cs.getD j 0,[((i+j:Nat):Int)]) /\ 0 < cs.getD j 0
 | _,[],h => by simp [singAt] at h
 | i,c :: r,h => by
  simp only [singAt] at h
  split at h
  ·rcases List.mem_cons.1 h with rfl | h
   ·exact ⟨0,by simp,by simp,by simpa⟩
   ·obtain ⟨j,h1,h2,h3⟩:=singAt_mem h
    exact ⟨j+1,by simpa using h1,by rw [h2];simp;omega,by simpa using h3⟩
  ·obtain ⟨j,h1,h2,h3⟩:=singAt_mem h
   exact ⟨j+1,by simpa using h1,by rw [h2];simp;omega,by simpa using h3⟩
theorem sing_mem {x:Ab} {cs:List Int} (h:x ∈ sing cs):∃ j:Nat,j < cs.length /\ x=(cs.getD j 0,[(j:Int)]) /\ 0 < cs.getD j 0:=by
 obtain ⟨j,h1,h2,h3⟩:=singAt_mem h
 exact ⟨j,h1,by simpa using h2,h3⟩
theorem nc_getD {zs:List Int} (h:zs.any nc=false) (k:Nat):0<=zs.getD k 0 /\ zs.getD k 0<=1000000000:=by
 by_cases hk:k < zs.length
 ·have:=List.any_eq_false.1 h (zs.getD k 0) (by simp [List.getD,hk])
  generalize zs.getD k 0=z at *
  simp [nc] at this
  omega
 ·simp [List.getD,List.getElem?_eq_none (Nat.le_of_not_lt hk)]
theorem sing_bound {cs:List Int} (h:cs.any nc=false):∀ x ∈ sing cs,0 < x.1 /\ x.1<=(1000000000:Nat) /\ x.2.length=1:=fun x hx => by
 obtain ⟨j,_,e,h0⟩:=sing_mem hx
 have:=nc_getD h j
 rw [e]
 exact ⟨h0,by simpa using this.2,rfl⟩
theorem chs_syms {cs:List Int} {m:Nat} {C:List Ab} (h:Chs (sing cs) m C):∀ x ∈ C,∀ s ∈ x.2,∃ j:Nat,j < cs.length /\ s=(j:Int):=by
 have one:∀ y ∈ sing cs,∀ s ∈ y.2,∃ j:Nat,j < cs.length /\ s=(j:Int):=fun y hy s hs => by
  obtain ⟨j,hj,e,_⟩:=sing_mem hy
  rw [e] at hs
  simp at hs
  exact ⟨j,hj,hs⟩
 intro x hx s hs
 rcases h with ⟨_,e⟩ | ⟨_,Qf,hl,e⟩
 ·rw [e] at hx;exact one x hx s hs
 ·rw [e] at hx
  obtain ⟨y,hy,hsy⟩:=lev_syms hl x (List.mem_of_mem_take hx) s hs
  exact one y hy s hsy
theorem chs_len {S:List Ab} {m:Nat} {C:List Ab} (h:Chs S m C):C.length<=S.length:=by
 rcases h with ⟨_,e⟩ | ⟨_,Qf,_,e⟩
 ·rw [e];exact Nat.le_refl _
 ·rw [e];simp;omega
theorem flat_bound {B:Nat}:∀ (C:List Ab),(∀ x ∈ C,x.2.length<=B)->(C.flatMap Prod.snd).length<=C.length*B
 | [],_ => by simp
 | x :: r,h => by
  have h1:=h x (by simp)
  have h2:=flat_bound r (fun y hy => h y (by simp [hy]))
  rw [List.flatMap_cons,List.length_append,List.length_cons,Nat.add_mul]
  omega
theorem chs_sum {cs:List Int} {m:Nat} {C:List Ab} (hc:cs.any nc=false) (h:Chs (sing cs) m C) (hm:m<=15) (h320:(sing cs).length<=320):(C.flatMap Prod.snd).length<=10485760:=by
 have hp:2 ^ m<=2 ^ 15:=Nat.pow_le_pow_right (by omega) hm
 have hb:∀ x ∈ C,x.2.length<=32768:=fun x hx => by
  rcases h with ⟨_,e⟩ | ⟨_,Qf,hl,e⟩
  ·rw [e] at hx;have:=(sing_bound hc x hx).2.2;omega
  ·rw [e] at hx
   have:=(lev_bound (sing_bound hc) hl x (List.mem_append.2 (.inr (List.mem_of_mem_take hx)))).2.2.2
   omega
 have h1:=flat_bound C hb
 have h2:=chs_len h
 have h3:C.length*32768<=320*32768:=Nat.mul_le_mul_right _ (by omega)
 omega
set_option maxHeartbeats 400000 in
theorem chosen_few {w:World} {v:Value} {S:List Pc} (hv:Pars w v S) (m:Int) (h2:S.length < 2) :
  Calls Tryz.prog 150 #[v,.int .i64 m] w fun e w' => e = .returned v /\ w=w':=by
 obtain ⟨ao,c,rfl,_,_⟩:=hv
 go_enter Tryz.func150,Tryz.ntmps150
 go_wp2
 go_ret
 exact ⟨rfl,rfl⟩
theorem Pars.set {w:World} {v:Value} {ps:List Pc} {g:Nat} {l:List Int} (h:Pars w v ps) (hr:Row w g l) (j:Nat) (x:Value):Pars (w.setCell ⟨g,j,none⟩ x) v ps:=by
 obtain ⟨ao,c,e,hc,h⟩:=h
 refine ⟨ao,c,e,hc,fun h0 => ?_⟩
 obtain ⟨g',cur,e1,hg,ht⟩:=h h0
 have hne:g' ≠ g:=fun e2 => by
  subst e2
  have hr':w.heap[g']? = some (.cells (nums l) 3 (0,0)):=hr
  rw [hg] at hr'
  injection hr' with hr'
  injection hr' with _ h2
  cases h2
 exact ⟨g',cur,e1,by rw [Below.heap_setCell _ _ _ _ hne];exact hg,ht⟩
theorem PcOk.set {w:World} {p:Pc} (h:PcOk w p) {g:Nat} (hn:∀ a,p.ao=some a->a.block ≠ g) (j:Nat) (x:Value):PcOk (w.setCell ⟨g,j,none⟩ x) p:=by
 obtain ⟨g',cur,e,hg,hc,h0⟩:=h
 exact ⟨g',cur,e,by rw [Below.heap_setCell _ _ _ _ (hn _ e)];exact hg,hc,h0⟩
set_option maxHeartbeats 800000 in
theorem lengths_number (ao:Option Addr) (c:Nat) (cs:List Int) (m:Int) (w:World) (hs:Seg w ao cs) (hl:cs.length<=maxLen) (hbad:320 < cs.length ∨ cs.any nc=true ∨ m < 1 ∨ 15 < m) :
  Calls Tryz.prog 97 #[.slice ao cs.length c,.int .i64 m] w fun e w' => e = .returned (.tuple #[.slice none 0 0,.int .i64 9]) /\ w=w':=by
 by_cases h1:320 < cs.length
 ·clear hbad
  unfold maxLen at hl
  go_enter Tryz.func97,Tryz.ntmps97
  go_wp2
  go_ret2
  exact ⟨rfl,rfl⟩
 ·by_cases h2:cs.any nc=true
  ·clear hbad
   go_enter Tryz.func97,Tryz.ntmps97
   go_wp2_with (go_at_call 144;refine (containsc_any _ _ _ _ hs hl).mono ?_;rintro e w' ⟨rfl,rfl⟩)
   go_ret2
   exact ⟨rfl,rfl⟩
  ·have h2':cs.any nc=false:=by simpa using h2
   clear h2
   by_cases h3:m < 1
   ·clear hbad
    go_enter Tryz.func97,Tryz.ntmps97
    go_wp2_with (go_at_call 144;refine (containsc_any _ _ _ _ hs hl).mono ?_;rintro e w' ⟨rfl,rfl⟩)
    go_ret2
    exact ⟨rfl,rfl⟩
   ·have h4:15 < m:=by
     rcases hbad with h | h | h | h
     ·exact absurd h h1
     ·rw [h2'] at h;cases h
     ·exact absurd h h3
     ·exact h
    clear hbad
    go_enter Tryz.func97,Tryz.ntmps97
    go_wp2_with (go_at_call 144;refine (containsc_any _ _ _ _ hs hl).mono ?_;rintro e w' ⟨rfl,rfl⟩)
    go_ret2
    exact ⟨rfl,rfl⟩
end Go.Proofs.YthdmjmnkhlpnnabGreatDoor
namespace Go.Proofs.YthdmjmnkhlpnnabGreatDoor
theorem singAt_ge:∀ {i:Nat} {cs:List Int} {x:Ab},x ∈ singAt i cs->((i:Nat):Int)<=absy x
 | i,cs,x,h => by
  obtain ⟨j,_,e,_⟩:=singAt_mem h
  rw [e]
  simp [absy]
  omega
theorem singAt_nodup:∀ (i:Nat) (cs:List Int),((singAt i cs).map absy).Nodup
 | _,[] => by simp [singAt]
 | i,c :: r => by
  simp only [singAt]
  split
  ·rw [List.map_cons,List.nodup_cons]
   refine ⟨fun hm => ?_,singAt_nodup (i+1) r⟩
   obtain ⟨x,hx,e⟩:=List.mem_map.1 hm
   have:=singAt_ge hx
   rw [e] at this
   simp [absy] at this
   omega
  ·exact singAt_nodup (i+1) r
def cwOf (cs:List Int) (s:Int):Int:=cs.getD s.toNat 0
theorem sing_sg (cs:List Int):Sg (sing cs) (cwOf cs):=by
 refine ⟨fun x hx => ?_,singAt_nodup 0 cs,fun x hx => ?_,fun x hx => ?_⟩
 ·obtain ⟨j,_,e,_⟩:=sing_mem hx;rw [e];rfl
 ·obtain ⟨j,_,e,_⟩:=sing_mem hx;rw [e];simp [cwOf,absy]
 ·obtain ⟨j,_,e,h0⟩:=sing_mem hx;rw [e];exact h0
theorem singAt_in:∀ {i:Nat} {cs:List Int} {j:Nat},j < cs.length->0 < cs.getD j 0->(cs.getD j 0,[((i+j:Nat):Int)]) ∈ singAt i cs
 | _,[],j,h,_ => by simp at h
 | i,c :: r,0,_,h0 => by
  simp only [singAt]
  rw [if_pos (by simpa using h0)]
  simp
 | i,c :: r,j+1,h,h0 => by
  have:=singAt_in (i:=i+1) (cs:=r) (j:=j) (by simpa using h) (by simpa using h0)
  simp only [singAt]
  have e:i+1+j=i+(j+1):=by omega
  rw [e] at this
  split
  ·exact List.mem_cons_of_mem _ (by simpa using this)
  ·simpa using this
theorem sing_in {cs:List Int} {j:Nat} (h:j < cs.length) (h0:0 < cs.getD j 0):(cs.getD j 0,[(j:Int)]) ∈ sing cs:=by
 have:=singAt_in (i:=0) h h0
 rw [Nat.zero_add] at this
 exact this
structure GoodC (cs:List Int) (m:Nat) (l:Nat->Nat):Prop where
 none:∀ j,j < cs.length->cs.getD j 0<=0->l j=0
 some:∀ j,j < cs.length->0 < cs.getD j 0->1<=l j /\ l j<=m
 order:∀ j k,j < cs.length->k < cs.length->0 < cs.getD j 0->cs.getD j 0 < cs.getD k 0->l k<=l j
 whole:2<=(sing cs).length->tot (fun x => 2 ^ (m - l (absy x).toNat)) (sing cs)=2 ^ m
 alone:(sing cs).length=1 -> ∀ j,j < cs.length->0 < cs.getD j 0->l j=1
theorem tot_sub {f:Ab->Nat} {c:Nat} {l:List Ab} (h:∀ x ∈ l,f x<=c):tot (fun x => c - f x) l+tot f l=c*l.length:=by
 induction l with
 | nil => simp [tot]
 | cons x r ih =>
  have:=ih (fun y hy => h y (by simp [hy]))
  have:=h x (by simp)
  simp only [tot,List.length_cons,Nat.mul_succ]
  omega
theorem tot_ge {f:Ab->Nat} {l:List Ab} (h:∀ x ∈ l,1<=f x):l.length<=tot f l:=by
 induction l with
 | nil => simp
 | cons x r ih =>
  have:=ih (fun y hy => h y (by simp [hy]))
  have:=h x (by simp)
  simp only [tot,List.length_cons]
  omega
theorem chs_occ0 {cs:List Int} {m:Nat} {C:List Ab} (h:Chs (sing cs) m C) {j:Nat} (hj:cs.getD j 0<=0):occ C (j:Int)=0:=by
 apply List.count_eq_zero.2
 intro hm
 obtain ⟨c,hc,hs⟩:=List.mem_flatMap.1 hm
 have one:∀ y ∈ sing cs,(j:Int) ∈ y.2->False:=fun y hy hs => by
  obtain ⟨i,_,e,h0⟩:=sing_mem hy
  rw [e] at hs
  simp at hs
  have hij:j=i:=by omega
  subst hij
  omega
 rcases h with ⟨_,e⟩ | ⟨_,Qf,hl,e⟩
 ·rw [e] at hc;exact one c hc hs
 ·rw [e] at hc
  obtain ⟨y,hy,hsy⟩:=lev_syms hl c (List.mem_of_mem_take hc) _ hs
  exact one y hy hsy
theorem good_of {cs:List Int} {m:Nat} {C:List Ab} (h1:1<=m) (hfew:(sing cs).length<=2 ^ m) (h:Chs (sing cs) m C):GoodC cs m fun j => occ C (j:Int):=by
 have hSg:=sing_sg cs
 have hsym:∀ x ∈ sing cs,(((absy x).toNat:Nat):Int)=absy x:=fun x hx => by
  obtain ⟨j,_,e,_⟩:=sing_mem hx
  rw [e];simp [absy]
 have hx:∀ j,j < cs.length->0 < cs.getD j 0 -> ∃ x ∈ sing cs,absy x=(j:Int) /\ x.1=cs.getD j 0:=fun j hj h0 => ⟨_,sing_in hj h0,rfl,rfl⟩
 have h0:∀ j,j < cs.length->cs.getD j 0<=0->occ C (j:Int)=0:=fun j _ hj => chs_occ0 h hj
 rcases h with ⟨hs,e⟩ | ⟨hs,Qf,hl,e⟩
 ·have h1':∀ x ∈ sing cs,occ C (absy x)=1:=fun x hx => by
   rw [e,occ_singles hSg.one,hSg.nodup.count,if_pos (List.mem_map.2 ⟨x,hx,rfl⟩)]
  refine ⟨h0,fun j hj hp => ?_,fun j k hj hk hp hlt => ?_,fun h2 => by omega,fun _ j hj hp => ?_⟩
  ·obtain ⟨x,hx1,hx2,_⟩:=hx j hj hp
   have:=h1' x hx1
   rw [hx2] at this
   rw [this];omega
  ·obtain ⟨x,hx1,hx2,_⟩:=hx j hj hp
   obtain ⟨y,hy1,hy2,_⟩:=hx k hk (by omega)
   have a:=h1' x hx1
   have b:=h1' y hy1
   rw [hx2] at a
   rw [hy2] at b
   rw [a,b];omega
  ·obtain ⟨x,hx1,hx2,_⟩:=hx j hj hp
   have:=h1' x hx1
   rw [hx2] at this
   exact this
 ·have hlen:C.length=(sing cs).length - 1:=by
   have:=lev_many m hfew (Nat.le_refl _) hl
   simp at this
   rw [e];simp;omega
  obtain ⟨k1,k2,k3⟩:=kraft hSg hl (down_take (lev_srt hl) ((sing cs).length - 1))
  rw [<- e] at k1 k2 k3
  have hle:∀ x ∈ sing cs,2 ^ (m - occ C (absy x))<=2 ^ m:=fun x hx => Nat.pow_le_pow_right (by omega) (by omega)
  have hsub:=tot_sub (f:=fun x => 2 ^ (m - occ C (absy x))) hle
  have hw:tot (fun x => 2 ^ (m - occ C (absy x))) (sing cs)=2 ^ m:=by
   rw [k3,hlen] at hsub
   have e2:2 ^ m*(sing cs).length=2 ^ m*((sing cs).length - 1)+2 ^ m:=by
    rw [<- Nat.mul_succ];congr 1;omega
   omega
  have hge:∀ x ∈ sing cs,1<=occ C (absy x):=fun x hx => by
   rcases Nat.eq_zero_or_pos (occ C (absy x)) with hz | hz
   ·exfalso
    obtain ⟨r,hr⟩:=mem_perm hx
    have e3:=tot_perm (f:=fun x => 2 ^ (m - occ C (absy x))) hr
    have e4:=hr.length_eq
    have e5:=tot_ge (f:=fun x => 2 ^ (m - occ C (absy x))) (l:=r) (fun y _ => Nat.one_le_two_pow)
    simp only [tot,hz,Nat.sub_zero,List.length_cons] at e3 e4
    omega
   ·exact hz
  refine ⟨h0,fun j hj hp => ?_,fun j k hj hk hp hlt => ?_,fun _ => ?_,fun h2 => by omega⟩
  ·obtain ⟨x,hx1,hx2,_⟩:=hx j hj hp
   have a:=hge x hx1
   have b:=k1 x hx1
   rw [hx2] at a b
   exact ⟨a,b⟩
  ·obtain ⟨x,hx1,hx2,hx3⟩:=hx j hj hp
   obtain ⟨y,hy1,hy2,hy3⟩:=hx k hk (by omega)
   have a:=k2 x hx1 y hy1 (by omega)
   rw [hx2,hy2] at a
   exact a
  ·rw [<- hw]
   exact tot_congr fun x hx => by rw [hsym x hx]
theorem tot_mul (f:Ab->Nat) (c:Nat) (l:List Ab):tot (fun x => c*f x) l=c*tot f l:=by
 induction l with
 | nil => simp [tot]
 | cons x r ih => simp [tot,ih,Nat.mul_add]
theorem wt_range (l:Nat->Nat):∀ (i:Nat) (cs:List Int),(∀ j,j < cs.length->cs.getD j 0<=0->l (i+j)=0)->(∀ j,j < cs.length->0 < cs.getD j 0->1<=l (i+j)) ->
  wt ((List.range' i cs.length).map fun j => (l j:Int))=tot (fun x => 2 ^ (15 - l (absy x).toNat)) (singAt i cs)
 | i,[],_,_ => rfl
 | i,c :: r,h0,h1 => by
  have ih:=wt_range l (i+1) r (fun j hj hc => by have:=h0 (j+1) (by simpa using hj) (by simpa using hc);rw [show i+1+j=i+(j+1) by omega];exact this)
   (fun j hj hc => by have:=h1 (j+1) (by simpa using hj) (by simpa using hc);rw [show i+1+j=i+(j+1) by omega];exact this)
  rw [List.length_cons,List.range'_succ,List.map_cons,wt,ih]
  simp only [singAt]
  by_cases hc:0 < c
  ·have:=h1 0 (by simp) (by simpa using hc)
   simp at this
   rw [if_pos hc,tot,if_pos (by omega)]
   simp [absy]
  ·have:=h0 0 (by simp) (by simpa using hc)
   simp at this
   rw [if_neg hc,if_neg (by omega)]
   omega
theorem good_wt {cs:List Int} {m:Nat} {l:Nat->Nat} (h15:m<=15) (g:GoodC cs m l) :
  (2<=(sing cs).length->wt ((List.range cs.length).map fun j => (l j:Int))=32768) /\ ((sing cs).length=1->wt ((List.range cs.length).map fun j => (l j:Int))=16384) /\ ((sing cs).length=0->wt ((List.range cs.length).map fun j => (l j:Int))=0):=by
 have e:=wt_range l 0 cs (fun j hj hc => by rw [Nat.zero_add];exact g.none j hj hc) (fun j hj hc => by rw [Nat.zero_add];exact (g.some j hj hc).1)
 rw [<- List.range_eq_range'] at e
 refine ⟨fun h2 => ?_,fun h1 => ?_,fun h0 => ?_⟩
 ·rw [e]
  have h3:=g.whole h2
  have e2:tot (fun x => 2 ^ (15 - l (absy x).toNat)) (singAt 0 cs)=tot (fun x => 2 ^ (15 - m)*2 ^ (m - l (absy x).toNat)) (singAt 0 cs):=tot_congr fun x hx => by
   obtain ⟨j,hj,ex,hp⟩:=sing_mem hx
   have hlj:=(g.some j hj hp).2
   have:(absy x).toNat=j:=by rw [ex];simp [absy]
   rw [this,<- Nat.pow_add]
   congr 1
   omega
  rw [e2,tot_mul]
  have h3':tot (fun x => 2 ^ (m - l (absy x).toNat)) (singAt 0 cs)=2 ^ m:=h3
  rw [h3',<- Nat.pow_add,show 15 - m+m=15 by omega]
 ·rw [e]
  have hs:(singAt 0 cs).length=1:=h1
  match hx:singAt 0 cs,hs with
  | [x],_ =>
   have hx':x ∈ sing cs:=by unfold sing;rw [hx];simp
   obtain ⟨j,hj,ex,hp⟩:=sing_mem hx'
   have:=g.alone h1 j hj hp
   have e3:(absy x).toNat=j:=by rw [ex];simp [absy]
   simp [tot,e3,this]
 ·rw [e]
  have hs:singAt 0 cs=[]:=List.eq_nil_of_length_eq_zero h0
  rw [hs];rfl
end Go.Proofs.YthdmjmnkhlpnnabGreatDoor
namespace Go.Proofs.YthdmjmnkhlpnnabGreatDoor
open Go.RowKit
theorem pow_int (m:Nat) (h:m<=15):1<=(2:Int) ^ m /\ (2:Int) ^ m<=32768:=by
 have h1:=pow_le15 m h
 have e:((2 ^ m:Nat):Int)=(2:Int) ^ m:=by simp
 rw [<- e]
 omega
set_option maxRecDepth 20000 in
set_option maxHeartbeats 1000000 in
theorem lengths_many (ao:Option Addr) (c:Nat) (cs:List Int) (m:Nat) (w:World) (hs:Seg w ao cs) (h320:cs.length<=320) (hok:cs.any nc=false) (h1:1<=m) (h15:m<=15) (hmany:2 ^ m < (sing cs).length) :
  Calls Tryz.prog 97 #[.slice ao cs.length c,.int .i64 m] w fun e w' => e = .returned (.tuple #[.slice none 0 0,.int .i64 9]) /\ Below w.heap.size w w':=by
 have hl:cs.length<=maxLen:=by unfold maxLen;omega
 have HM:=hid hmany
 clear hmany
 go_enter Tryz.func97,Tryz.ntmps97
 go_wp2_with fail
 refine (containsc_any _ _ _ _ hs hl).mono ?_
 rintro e w' ⟨rfl,rfl⟩
 go_wp2_with fail
 refine (singles_any _ _ _ _ hs h320).mono ?_
 rintro e w1 ⟨v,S,rfl,hown,hb,hS,hP⟩
 have hSl:S.length=(sing cs).length:=by rw [<- hS];simp
 have hlt:2 ^ m < S.length:=by rw [hSl];exact HM.out
 have hSb:S.length<=320:=by rw [hSl];have:=sing_len 0 cs;unfold sing;omega
 have hlt':(2:Int) ^ m < (S.length:Int):=by
  have:((2 ^ m:Nat):Int) < (S.length:Int):=by omega
  simpa using this
 have HB:=hid hb
 obtain ⟨va,vc,rfl,_⟩:=owns_shape hown
 have hpw:=pow_int m h15
 clear hown hS hP hb hSl hlt
 go_wp2
 go_ret2
 exact ⟨rfl,HB.out⟩
theorem take_sum (Q:List Pc) (k:Nat) (h:k < Q.length):((Q.take k).flatMap Pc.sy).length+(Q.getD k Pc.zero).sy.length<=(Q.flatMap Pc.sy).length:=by
 have e:Q=Q.take k ++ (Q.getD k Pc.zero :: Q.drop (k+1)):=by
  simp [List.getD,h]
 have h2:=congrArg (fun l => (l.flatMap Pc.sy).length) e
 simp only [List.flatMap_append,List.flatMap_cons,List.length_append] at h2
 omega
def ChsD (S:List Ab) (m:Nat) (C:List Ab):Prop:=(S.length < 2 /\ C=S) ∨ (2<=S.length /\ ∃ Qf,LevD S m Qf /\ C=Qf.take (S.length - 1))
theorem ChsD.det {S:List Ab} {m:Nat} {C C':List Ab} (h:ChsD S m C) (h':ChsD S m C'):C=C':=by
 rcases h with ⟨h0,e⟩ | ⟨h0,Q,h1,e⟩
 ·rcases h' with ⟨_,e'⟩ | ⟨h2,_⟩
  ·rw [e,e']
  ·omega
 ·rcases h' with ⟨h2,_⟩ | ⟨_,Q',h1',e'⟩
  ·omega
  ·rw [e,e',h1.det h1']
structure LS (w wr:World) (g n:Nat) (v:Value) (Q:List Pc) (dn:List Int):Prop where
 row:Row wr g (lens n dn)
 pars:Pars wr v Q
 ok:∀ p ∈ Q,PcOk wr p
 ne:∀ p ∈ Q,∀ a,p.ao=some a->a.block ≠ g
 bel:Below w.heap.size w wr
theorem LS.alloc {w wr:World} {g n:Nat} {v:Value} {Q:List Pc} {dn:List Int} (h:LS w wr g n v Q dn) (o:Obj):LS w (wr.alloc o) g n v Q dn:=by
 have b:Below wr.heap.size wr (wr.alloc o):=(Below.refl _ _).alloc (Nat.le_refl _) o
 exact ⟨h.row.below b,h.pars.below b,fun p hp => (h.ok p hp).below b,h.ne,h.bel.alloc h.bel.size o⟩
theorem LS.count {w wr:World} {g n:Nat} {v:Value} {Q:List Pc} {dn:List Int} (h:LS w wr g n v Q dn) (hg:w.heap.size<=g) {t:Nat} (ht:t < n):LS w (wr.setCell ⟨g,t,none⟩ (.int .i64 ((dn.count (t:Int):Nat)+1))) g n v Q (dn ++ [(t:Int)]):=by
 refine ⟨?_,h.pars.set h.row _ _,fun p hp => (h.ok p hp).set (h.ne p hp) _ _,h.ne,h.bel.setCell (by exact hg) _⟩
 rw [<- lens_snoc n dn t ht]
 exact h.row.set _ _
set_option maxRecDepth 20000 in
set_option maxHeartbeats 4000000 in
theorem lengths_det (ao:Option Addr) (c:Nat) (cs:List Int) (m:Nat) (w:World) (hs:Seg w ao cs) (h320:cs.length<=320) (hok:cs.any nc=false) (h1:1<=m) (h15:m<=15) (hfew:(sing cs).length<=2 ^ m) :
  Calls Tryz.prog 97 #[.slice ao cs.length c,.int .i64 m] w fun e w' => ∃ g C,e = .returned (.tuple #[.slice (some ⟨g,0,none⟩) cs.length cs.length,.int .i64 0]) /\ w.heap.size<=g /\ Row w' g (lens cs.length (C.flatMap Prod.snd)) /\ Chs (sing cs) m C /\ Below w.heap.size w w' /\ ChsD (sing cs) m C:=by
 have hl:cs.length<=maxLen:=by unfold maxLen;omega
 have HM:=hid hfew
 have HC:=hid hok
 obtain ⟨i0,hi,hz0,hz1,hz2⟩:=info_parts info3
 have hmk:∀ u:World,(Instr.makeSlice 23 (.int .i64 (cs.length:Int)) (.int .i64 (cs.length:Int))).run Tryz.prog u =
   .ok (.slice (some ⟨u.heap.size,0,none⟩) cs.length cs.length) (u.alloc (.cells (nums (List.replicate cs.length 0)) 3)):=fun u => by
  have h:=run_make (P:=Tryz.prog) u 23 3 i0 (.int .i64 0) Tryz.underlying23 hi hz0 .i64 .i64 (cs.length:Int) (cs.length:Int) (by omega) (Int.le_refl _) (by rw [hz2];omega) (by omega)
  rw [hz1,Nat.mul_one,show (Value.int IntKind.i64 0).cells=#[Value.int .i64 0] from rfl,show ((cs.length:Int)).toNat=cs.length by omega,nums_made] at h
  exact h
 clear hfew hi hz0 hz1 hz2
 go_enter Tryz.func97,Tryz.ntmps97
 go_wp2_with fail
 refine (containsc_any _ _ _ _ hs hl).mono ?_
 rintro e w' ⟨rfl,rfl⟩
 go_wp2_with fail
 refine (singles_any _ _ _ _ hs h320).mono ?_
 rintro e w1 ⟨v,S,rfl,hown,hb,hS,hP⟩
 have hSl:S.length=(sing cs).length:=by rw [<- hS];simp
 have hSb:S.length<=320:=by rw [hSl];have:=sing_len 0 cs;unfold sing;omega
 have hlt':(S.length:Int)<=(2:Int) ^ m:=by
  have:(S.length:Int)<=((2 ^ m:Nat):Int):=by have:=HM.out;omega
  simpa using this
 have HB:=hid hb
 have HO:=hid hown
 have HSA:=hid hS
 have HP:=hid hP
 have HSL:=hid hSl
 obtain ⟨va,vc,rfl,_⟩:=owns_shape hown
 have hpw:=pow_int m h15
 clear hown hS hP hb hSl hok hs
 go_wp2_with fail
 have CH:Calls Tryz.prog 150 #[.slice va S.length vc,.int .i64 m] (w1.alloc (.cells (nums (List.replicate cs.length 0)) 3)) fun e w2 => ∃ v2 Q,e = .returned v2 /\ Pars w2 v2 Q /\ (∀ p ∈ Q,PcOk w2 p /\ ∀ a,p.ao=some a->a.block ≠ w1.heap.size) /\ Chs (sing cs) m (Q.map pabs) /\ Below (w1.heap.size+1) (w1.alloc (.cells (nums (List.replicate cs.length 0)) 3)) w2 /\ ChsD (sing cs) m (Q.map pabs):=by
  have ba:Below w1.heap.size w1 (w1.alloc (.cells (nums (List.replicate cs.length 0)) 3)):=(Below.refl _ _).alloc (Nat.le_refl _) _
  have pv:=(Pars.own HO.out).below ba
  have pok:∀ p ∈ S,PcOk (w1.alloc (.cells (nums (List.replicate cs.length 0)) 3)) p:=fun p hp => (HP.out p hp).below ba
  by_cases h2:S.length < 2
  ·refine (chosen_few pv m h2).mono ?_
   rintro e w2 ⟨rfl,rfl⟩
   refine ⟨_,S,rfl,pv,fun p hp => ⟨pok p hp,fun a ha => ?_⟩,.inl ⟨by rw [<- HSL.out];exact h2,HSA.out⟩,Below.refl _ _,.inl ⟨by rw [<- HSL.out];exact h2,HSA.out⟩⟩
   obtain ⟨g,cur,e,hg,_⟩:=HP.out p hp
   rw [e] at ha
   injection ha with ha
   subst ha
   have:=(Array.getElem?_eq_some_iff.1 hg).1
   show g ≠ _
   omega
  ·refine (chosen_any pv pok m h1 h15 (by omega) hSb (by rw [HSL.out];exact HM.out) (by rw [HSA.out];exact sing_bound HC.out)).mono ?_
   rintro e w2 ⟨v2,Q,Qf,rfl,q1,q2,q3,q4,q5,q6,q7⟩
   rw [HSA.out] at q3 q7
   refine ⟨v2,Q,rfl,q1,fun p hp => ⟨(q2 p hp).1,fun a ha => ?_⟩,.inr ⟨by rw [<- HSL.out];omega,Qf,q3,by rw [q4,HSL.out]⟩,q6.mono (by simp),.inr ⟨by rw [<- HSL.out];omega,Qf,q7,by rw [q4,HSL.out]⟩⟩
   have:=(q2 p hp).2 a ha
   simp at this
   omega
 refine CH.mono ?_
 rintro e w2 ⟨v2,Q,rfl,q1,q2,q3,q4,q5⟩
 have HQ5:=hid q5
 clear q5
 have R0:Hid (Row w2 w1.heap.size (lens cs.length [])):=by
  rw [lens_nil]
  show w2.heap[_]? = _
  rw [q4.block _ (by omega)]
  exact heap_alloc_new w1 _
 have HQ:=hid (show _ /\ _ /\ _ /\ _ from ⟨q1,q2,q3,q4⟩)
 have hsum:=chs_sum HC.out q3 h15 (by rw [<- HSL.out];exact hSb)
 have hQl:Q.length<=320:=by have:=chs_len q3;rw [List.length_map,<- HSL.out] at this;omega
 obtain ⟨qo,qc,hq,hqc,_⟩:=q1
 subst hq
 have hsy:=chs_syms q3
 have HSY:Hid (∀ p ∈ Q,∀ s ∈ p.sy,∃ j:Nat,j < cs.length /\ s=(j:Int)):=fun p hp s hsp => hsy (pabs p) (List.mem_map.2 ⟨p,hp,rfl⟩) s hsp
 have hflat:(Q.map pabs).flatMap Prod.snd=Q.flatMap Pc.sy:=by rw [List.flatMap_map];rfl
 have HFL:=hid hflat
 have hsum':(Q.flatMap Pc.sy).length<=10485760:=by rw [<- hflat];exact hsum
 have hgw:w.heap.size<=w1.heap.size:=HB.out.size
 have HL0:Hid (LS w w2 w1.heap.size cs.length (.slice qo Q.length qc) Q []) :=
  ⟨R0.out,HQ.out.1,fun p hp => (HQ.out.2.1 p hp).1,fun p hp => (HQ.out.2.1 p hp).2,(HB.out.alloc hgw _).trans (HQ.out.2.2.2.mono (by omega))⟩
 clear q2 q3 q4 CH hmk hqc hsy hflat hsum R0
 go_wp2
 go_loopw [41] (fun i wr => ∃ k:Nat,k<=Q.length /\ i = .int .i64 k /\ Hid (LS w wr w1.heap.size cs.length (.slice qo Q.length qc) Q ((Q.take k).flatMap Pc.sy))) (fun i _ => Q.length - (intOf i).toNat)
 case atStart => exact ⟨0,by omega,rfl,HL0.out⟩
 case round =>
  clear HL0
  obtain ⟨k,hk,rfl,HL⟩:=hrel
  by_cases hlt:k < Q.length
  ·obtain ⟨ao',c',e',_,hrow⟩:=HL.out.pars
   injection e' with e1 e2 e3
   subst e1 e3
   obtain ⟨gq,cur,rfl,hg,ht⟩:=hrow (by omega)
   obtain ⟨x1,x2,_,_⟩:=row_get hg ht hlt
   obtain ⟨p,hp⟩:∃ p,p=Q.getD k Pc.zero:=⟨_,rfl⟩
   have hpQ:p ∈ Q:=by rw [hp];simp [List.getD,hlt]
   rw [<- hp] at x1 x2
   have HPE:=hid hp
   have hdl:((Q.take k).flatMap Pc.sy).length+p.sy.length<=10485760:=by
    have h5:=take_sum Q k hlt
    rw [<- hp] at h5
    omega
   obtain ⟨dn,hdn⟩:∃ dn,dn=(Q.take k).flatMap Pc.sy:=⟨_,rfl⟩
   have HDN:Hid (dn ++ p.sy=(Q.take (k+1)).flatMap Pc.sy):=by
    show _=_
    rw [take_pc Q k hlt,<- hp,hdn]
    simp
   rw [<- hdn] at HL hdl
   have HPQ:=hid hpQ
   clear hg ht hp hrow hdn hpQ
   obtain ⟨pao,pc,pw,psy⟩:=p
   dsimp only at x1 x2 hdl HDN
   go_wp2
   go_loopw [48] (fun i wi => ∃ j:Nat,j<=psy.length /\ i = .int .i64 j /\ Hid (LS w wi w1.heap.size cs.length (.slice (some ⟨gq,0,none⟩) Q.length qc) Q (dn ++ psy.take j))) (fun i _ => psy.length - (intOf i).toNat)
   case atStart => exact ⟨0,by omega,rfl,by show LS _ _ _ _ _ _ _;rw [List.take_zero,List.append_nil];exact HL.out.alloc _⟩
   case round =>
    clear HL x1 x2
    obtain ⟨j,hj,rfl,HL⟩:=hrel
    by_cases hjl:j < psy.length
    ·obtain ⟨gp,e1,hsg,_⟩:=(HL.out.ok _ HPQ.out).seg
     dsimp only at e1 hsg
     subst e1
     obtain ⟨b,off,e2,hcs⟩:=hsg (by omega)
     injection e2 with e2
     injection e2 with e2 e3
     subst e2 e3
     obtain ⟨t,htn,hts⟩:=HSY.out _ HPQ.out (psy.getD j 0) (by simp [List.getD,hjl])
     have hc1:wr.cell? ⟨gp,j,none⟩=some (.int .i64 (t:Int)):=by rw [<- hts];have:=hcs j hjl;rw [Nat.zero_add] at this;exact this
     obtain ⟨y,hy⟩:∃ y:Nat,y=(dn ++ psy.take j).count (t:Int):=⟨_,rfl⟩
     have hyb:y<=10485760:=by
      rw [hy]
      have h5:=List.count_le_length (a:=(t:Int)) (l:=dn ++ psy.take j)
      rw [List.length_append,List.length_take] at h5
      omega
     have hc2:wr.cell? ⟨w1.heap.size,t,none⟩=some (.int .i64 (y:Int)):=by
      have h5:=HL.out.row.cell (j:=t) (by rw [lens_length];exact htn)
      rw [lens_getD _ _ _ htn,<- hy] at h5
      exact h5
     have hf2:wr.frozen? ⟨w1.heap.size,t,none⟩=false:=HL.out.row.free t
     have HN:Hid (LS w (wr.setCell ⟨w1.heap.size,t,none⟩ (.int .i64 ((y:Int)+1))) w1.heap.size cs.length (.slice (some ⟨gq,0,none⟩) Q.length qc) Q (dn ++ psy.take (j+1))):=by
      have h5:=HL.out.count hgw htn
      rw [<- hy,List.append_assoc,<- hts,<- take_snocI psy j hjl] at h5
      exact h5
     clear hcs hts hy HL
     go_wp2
     go_roundw
     case rel => exact ⟨j+1,by omega,by go_num,HN⟩
     case measure => simp [intOf];omega
    ·have HE:Hid (LS w wr w1.heap.size cs.length (.slice (some ⟨gq,0,none⟩) Q.length qc) Q ((Q.take (k+1)).flatMap Pc.sy)):=by
      have h5:=HL.out
      rw [List.take_of_length_le (by omega),HDN.out] at h5
      exact h5
     clear HL
     go_wp2
     go_roundw
     case rel => exact ⟨k+1,by omega,by go_num,HE⟩
     case measure => simp [intOf];omega
  ·have HE:Hid (LS w wr w1.heap.size cs.length (.slice qo Q.length qc) Q (Q.flatMap Pc.sy)):=by
    have h5:=HL.out
    rw [List.take_of_length_le (l:=Q) (by omega)] at h5
    exact h5
   clear HL
   go_wp2
   go_ret2
   exact ⟨w1.heap.size,Q.map pabs,rfl,hgw,by rw [HFL.out];exact HE.out.row,HQ.out.2.2.1,HE.out.bel,HQ5.out⟩
theorem lengths_ok (ao:Option Addr) (c:Nat) (cs:List Int) (m:Nat) (w:World) (hs:Seg w ao cs) (h320:cs.length<=320) (hok:cs.any nc=false) (h1:1<=m) (h15:m<=15) (hfew:(sing cs).length<=2 ^ m) :
  Calls Tryz.prog 97 #[.slice ao cs.length c,.int .i64 m] w fun e w' => ∃ g C,e = .returned (.tuple #[.slice (some ⟨g,0,none⟩) cs.length cs.length,.int .i64 0]) /\ w.heap.size<=g /\ Row w' g (lens cs.length (C.flatMap Prod.snd)) /\ Chs (sing cs) m C /\ Below w.heap.size w w':=by
 refine (lengths_det ao c cs m w hs h320 hok h1 h15 hfew).mono ?_
 rintro e w' ⟨g,C,x1,x2,x3,x4,x5,_⟩
 exact ⟨g,C,x1,x2,x3,x4,x5⟩
end Go.Proofs.YthdmjmnkhlpnnabGreatDoor
namespace Go.Proofs.YthdmjmnkhlpnnabGreatDoor
open Go.RowKit
theorem lens_get0 (n:Nat) (ys:List Int) (i:Nat) (h:¬ i < n):(lens n ys).getD i 0=0:=by
 rw [List.getD_eq_getElem?_getD,List.getElem?_eq_none (by rw [lens_length];omega)]
 rfl
theorem getD_beyond {cs:List Int} {i:Nat} (h:¬ i < cs.length):cs.getD i 0=0:=by
 rw [List.getD_eq_getElem?_getD,List.getElem?_eq_none (by omega)]
 rfl
theorem sing_two {cs:List Int} {i j:Nat} (hne:i ≠ j) (hi:0 < cs.getD i 0) (hj:0 < cs.getD j 0):2<=(sing cs).length:=by
 have h1:=sing_in (getD_lt hi) hi
 have h2:=sing_in (getD_lt hj) hj
 rcases hs:sing cs with _ | ⟨x,_ | ⟨y,r⟩⟩
 ·rw [hs] at h1;simp at h1
 ·rw [hs] at h1 h2
  simp only [List.mem_singleton] at h1 h2
  rw [<- h1] at h2
  injection h2 with _ h3
  injection h3 with h3 _
  omega
 ·simp
theorem sing_one {cs:List Int} (h:∀ i j,0 < cs.getD i 0->0 < cs.getD j 0->i=j):(sing cs).length<=1:=by
 rcases hs:sing cs with _ | ⟨x,_ | ⟨y,r⟩⟩
 ·simp
 ·simp
 ·exfalso
  have hn:=singAt_nodup 0 cs
  have e:singAt 0 cs=sing cs:=rfl
  rw [e,hs] at hn
  obtain ⟨i,hi,ex,pi⟩:=sing_mem (show x ∈ sing cs by rw [hs];simp)
  obtain ⟨j,hj,ey,pj⟩:=sing_mem (show y ∈ sing cs by rw [hs];simp)
  have:=h i j pi pj
  subst this
  rw [ex,ey] at hn
  simp [absy] at hn
theorem best_of {cs:List Int} {m:Nat} {C:List Ab} (h1:1<=m) (h15:m<=15) (hfew:(sing cs).length<=2 ^ m) (h:Chs (sing cs) m C):Best cs m (lens cs.length (C.flatMap Prod.snd)):=by
 have g:=good_of h1 hfew h
 have hw:=good_wt h15 g
 have e:(List.range cs.length).map (fun j:Nat => ((occ C (j:Int):Nat):Int))=lens cs.length (C.flatMap Prod.snd):=rfl
 rw [e] at hw
 have hval:∀ i,i < cs.length->(lens cs.length (C.flatMap Prod.snd)).getD i 0=((occ C (i:Int):Nat):Int):=fun i hi => lens_getD _ _ _ hi
 have hpos:∀ i,i < cs.length->(0 < cs.getD i 0->1<=occ C (i:Int) /\ occ C (i:Int)<=m):=fun i hi hp => g.some i hi hp
 have hnon:∀ i,i < cs.length->(cs.getD i 0<=0->occ C (i:Int)=0):=fun i hi hp => g.none i hi hp
 refine ⟨lens_length _ _,fun i => ?_,fun i => ?_,fun ⟨i,j,hne,hi,hj⟩ => hw.1 (sing_two hne hi hj),fun hu i => ?_⟩
 ·by_cases hi:i < cs.length
  ·rw [hval i hi]
   by_cases hp:0 < cs.getD i 0
   ·have:=hpos i hi hp;omega
   ·have:=hnon i hi (by omega);omega
  ·rw [lens_get0 _ _ _ hi];omega
 ·by_cases hi:i < cs.length
  ·rw [hval i hi]
   by_cases hp:0 < cs.getD i 0
   ·have:=hpos i hi hp;omega
   ·have:=hnon i hi (by omega);omega
  ·rw [lens_get0 _ _ _ hi,getD_beyond hi]
 ·by_cases hi:i < cs.length
  ·rw [hval i hi]
   by_cases hp:0 < cs.getD i 0
   ·have h2:=sing_one hu
    have h3:=sing_in hi hp
    have h4:(sing cs).length=1:=by
     have:0 < (sing cs).length:=List.length_pos_of_mem h3
     omega
    have:=g.alone h4 i hi hp
    have e2:occ C (i:Int)=1:=this
    omega
   ·have:=hnon i hi (by omega);omega
  ·rw [lens_get0 _ _ _ hi];omega
theorem lengths_best (ao:Option Addr) (c:Nat) (cs:List Int) (m:Nat) (w:World) (hs:Seg w ao cs) (h320:cs.length<=320) (hok:∀ i,0<=cs.getD i 0 /\ cs.getD i 0<=1000000000) (h1:1<=m) (h15:m<=15) (hfew:cs.length<=2 ^ m) :
  Calls Tryz.prog 97 #[.slice ao cs.length c,.int .i64 m] w fun e w' => ∃ g l,e = .returned (.tuple #[.slice (some ⟨g,0,none⟩) cs.length cs.length,.int .i64 0]) /\ w.heap.size<=g /\ Row w' g l /\ Best cs m l /\ Below w.heap.size w w':=by
 have hany:cs.any nc=false:=by
  rw [List.any_eq_false]
  intro z hz
  obtain ⟨i,hi,rfl⟩:=List.mem_iff_getElem.1 hz
  have:=hok i
  rw [List.getD_eq_getElem?_getD,List.getElem?_eq_getElem hi] at this
  simp only [Option.getD_some] at this
  simp [nc]
  omega
 have hfew':(sing cs).length<=2 ^ m:=by
  have:∀ (i:Nat) (l:List Int),(singAt i l).length<=l.length:=fun i l => by
   induction l generalizing i with
   | nil => simp [singAt]
   | cons z l ih => have:=ih (i+1);simp only [singAt];split <;> simp <;> omega
  exact Nat.le_trans (this 0 cs) hfew
 refine (lengths_ok ao c cs m w hs h320 hany h1 h15 hfew').mono ?_
 rintro e w' ⟨g,C,x1,x2,x3,x4,x5⟩
 exact ⟨g,_,x1,x2,x3,best_of h1 h15 hfew' x4,x5⟩
end Go.Proofs.YthdmjmnkhlpnnabGreatDoor
