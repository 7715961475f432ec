import Derived.Test.YthdmjmnkhlpnnabGreatDoorZ25
import Derived.Test.YthdmjmnkhlpnnabGreatDoorZ05
import Derived.BigQuiet
import Derived.Deep.AppendLies
import Derived.Deep.RegionLaw
import Derived.Deep.DeepCutAuto
import Derived.Test.YthdmjmnkhlpnnabGreatDoorY12
namespace Go.Proofs.YthdmjmnkhlpnnabGreatDoor
def psum (f:Nat->Int):Nat->Int
 | 0 => 0
 | k+1 => psum f k+f k
theorem psum_congr {f g:Nat->Int} {n:Nat} (h:∀ i,i < n->f i=g i):psum f n=psum g n:=by
 induction n with
 | zero => rfl
 | succ n ih => simp only [psum];rw [ih (fun i hi => h i (by omega)),h n (by omega)]
theorem psum_add (f g:Nat->Int) (n:Nat):psum (fun i => f i+g i) n=psum f n+psum g n:=by
 induction n with
 | zero => rfl
 | succ n ih => simp only [psum,ih];omega
theorem psum_zero (n:Nat):psum (fun _ => 0) n=0:=by
 induction n with
 | zero => rfl
 | succ n ih => simp [psum,ih]
theorem psum_one (c:Nat->Int) (j:Nat):∀ (n:Nat),psum (fun i => if i=j then c i else 0) n=if j < n then c j else 0
 | 0 => by simp [psum]
 | n+1 => by
  simp only [psum,psum_one c j n]
  by_cases h1:n=j
  ·subst h1;simp
  ·rw [if_neg h1]
   by_cases h2:j < n
   ·rw [if_pos h2,if_pos (by omega)];omega
   ·rw [if_neg h2,if_neg (by omega)];omega
theorem cost_count (cs:List Int):∀ (ys:List Int),(∀ s ∈ ys,∃ j:Nat,j < cs.length /\ s=(j:Int))->psum (fun i => cs.getD i 0*((ys.count (i:Int):Nat):Int)) cs.length=isum (ys.map (cwOf cs))
 | [],_ => by simp [isum,psum_zero]
 | y :: r,h => by
  have ih:=cost_count cs r (fun s hs => h s (by simp [hs]))
  obtain ⟨j,hj,rfl⟩:=h y (by simp)
  have e:∀ i,i < cs.length->cs.getD i 0*((((j:Int) :: r).count (i:Int):Nat):Int)=cs.getD i 0*((r.count (i:Int):Nat):Int)+(if i=j then cs.getD i 0 else 0):=fun i _ => by
   rw [List.count_cons]
   by_cases h1:i=j
   ·subst h1;simp [Int.mul_add]
   ·have:¬ (j:Int)=(i:Int):=by omega
    simp [h1,this]
  rw [psum_congr e,psum_add,ih,psum_one,if_pos hj]
  simp [isum,cwOf]
  omega
theorem isum_flat {cw:Int->Int}:∀ {C:List Ab},(∀ x ∈ C,x.1=isum (x.2.map cw))->isum (C.map Prod.fst)=isum ((C.flatMap Prod.snd).map cw)
 | [],_ => rfl
 | x :: r,h => by
  have ih:=isum_flat (C:=r) (fun y hy => h y (by simp [hy]))
  rw [List.flatMap_cons,List.map_append,isum_append,<- ih,<- h x (by simp)]
  rfl
theorem chs_cost {cs:List Int} {m:Nat} {C:List Ab} (h:Chs (sing cs) m C):psum (fun i => cs.getD i 0*((occ C (i:Int):Nat):Int)) cs.length=isum (C.map Prod.fst):=by
 have h1:=cost_count cs (C.flatMap Prod.snd) (fun s hs => by
   obtain ⟨x,hx,hsx⟩:=List.mem_flatMap.1 hs
   exact chs_syms h x hx s hsx)
 refine Eq.trans h1 (isum_flat ?_).symm
 have hS:=sing_sg cs
 have one:∀ x ∈ sing cs,x.1=isum (x.2.map (cwOf cs)):=fun x hx => by
  rw [hS.one x hx];simp [isum];exact hS.wt x hx
 intro x hx
 rcases h with ⟨_,e⟩ | ⟨_,Qf,hl,e⟩
 ·rw [e] at hx;exact one x hx
 ·rw [e] at hx;exact (lev_wt hS hl x (List.mem_of_mem_take hx)).1
def Dom:List Ab->List Ab->Prop
 | [],_ => True
 | a :: A,b :: B => b.1<=a.1 /\ Dom A B
 | _ :: _,[] => False
def cntLe (t:Int):List Ab->Nat
 | [] => 0
 | x :: r => (if x.1<=t then 1 else 0)+cntLe t r
end Go.Proofs.YthdmjmnkhlpnnabGreatDoor
namespace Go.Proofs.YthdmjmnkhlpnnabGreatDoor
def SrtI (l:List Int):Prop:=l.Pairwise fun a b => a<=b
def mrg:List Int->List Int->List Int
 | [],ys => ys
 | a :: xs,[] => a :: xs
 | a :: xs,b :: ys => if a<=b then a :: mrg xs (b :: ys) else b :: mrg (a :: xs) ys
termination_by xs ys => xs.length+ys.length
theorem mrg_nil (xs:List Int):mrg xs []=xs:=by
 cases xs <;> simp [mrg]
theorem mrg_perm:∀ (xs ys:List Int),(mrg xs ys).Perm (xs ++ ys)
 | [],ys => by simp [mrg]
 | a :: xs,[] => by simp [mrg]
 | a :: xs,b :: ys => by
  rw [mrg]
  split
  ·exact List.Perm.cons _ (mrg_perm xs (b :: ys))
  ·exact (List.Perm.cons b (mrg_perm (a :: xs) ys)).trans List.perm_middle.symm
termination_by xs ys => xs.length+ys.length
theorem mrg_length (xs ys:List Int):(mrg xs ys).length=xs.length+ys.length:=by
 have:=(mrg_perm xs ys).length_eq
 simpa using this
theorem mrg_srt:∀ {xs ys:List Int},SrtI xs->SrtI ys->SrtI (mrg xs ys)
 | [],ys,_,h => by rw [mrg];exact h
 | a :: xs,[],h,_ => by rw [mrg];exact h
 | a :: xs,b :: ys,h,h' => by
  obtain ⟨h1,h2⟩:=List.pairwise_cons.1 h
  obtain ⟨h1',h2'⟩:=List.pairwise_cons.1 h'
  rw [mrg]
  split
  ·rename_i hab
   refine List.pairwise_cons.2 ⟨fun x hx => ?_,mrg_srt h2 h'⟩
   rcases List.mem_append.1 ((mrg_perm _ _).subset hx) with hx | hx
   ·exact h1 x hx
   ·rcases List.mem_cons.1 hx with rfl | hx
    ·exact hab
    ·have:=h1' x hx;omega
  ·rename_i hab
   refine List.pairwise_cons.2 ⟨fun x hx => ?_,mrg_srt h h2'⟩
   rcases List.mem_append.1 ((mrg_perm _ _).subset hx) with hx | hx
   ·rcases List.mem_cons.1 hx with rfl | hx
    ·omega
    ·have:=h1 x hx;omega
   ·exact h1' x hx
termination_by xs ys => xs.length+ys.length
theorem srt_uniq:∀ {xs ys:List Int},SrtI xs->SrtI ys->xs.Perm ys->xs=ys
 | [],ys,_,_,h => (List.nil_perm.1 h).symm
 | a :: xs,[],_,_,h => by have:=h.length_eq;simp at this
 | a :: xs,b :: ys,h,h',hp => by
  obtain ⟨h1,h2⟩:=List.pairwise_cons.1 h
  obtain ⟨h1',h2'⟩:=List.pairwise_cons.1 h'
  have hab:a=b:=by
   have ha:a ∈ b :: ys:=hp.subset (by simp)
   have hb:b ∈ a :: xs:=hp.symm.subset (by simp)
   have x1:b<=a:=by
    rcases List.mem_cons.1 ha with e | e
    ·omega
    ·exact h1' a e
   have x2:a<=b:=by
    rcases List.mem_cons.1 hb with e | e
    ·omega
    ·exact h1 b e
   omega
  subst hab
  rw [srt_uniq h2 h2' (List.Perm.cons_inv hp)]
def pairsI:List Int->List Int
 | a :: b :: r => (a+b) :: pairsI r
 | _ => []
theorem pairsI_map:∀ (l:List Ab),(pairsOf l).map Prod.fst=pairsI (l.map Prod.fst)
 | [] => rfl
 | [_] => rfl
 | a :: b :: r => by simp [pairsOf,pairsI,pairsI_map r]
theorem pairsI_length:∀ (l:List Int),(pairsI l).length=l.length / 2
 | [] => rfl
 | [_] => by simp [pairsI]
 | _ :: _ :: r => by simp [pairsI,pairsI_length r];omega
theorem pairsI_mem:∀ {l:List Int} {x:Int},x ∈ pairsI l -> ∃ a b,a ∈ l /\ b ∈ l /\ x=a+b
 | [],x,h => by simp [pairsI] at h
 | [_],x,h => by simp [pairsI] at h
 | a :: b :: r,x,h => by
  simp only [pairsI,List.mem_cons] at h
  rcases h with rfl | h
  ·exact ⟨a,b,by simp,by simp,rfl⟩
  ·obtain ⟨c,d,hc,hd,e⟩:=pairsI_mem h
   exact ⟨c,d,by simp [hc],by simp [hd],e⟩
theorem pairsI_srt:∀ {l:List Int},SrtI l->SrtI (pairsI l)
 | [],_ => List.Pairwise.nil
 | [_],_ => List.Pairwise.nil
 | a :: b :: r,h => by
  obtain ⟨h1,h2⟩:=List.pairwise_cons.1 h
  obtain ⟨h3,h4⟩:=List.pairwise_cons.1 h2
  refine List.pairwise_cons.2 ⟨fun x hx => ?_,pairsI_srt h4⟩
  obtain ⟨c,d,hc,hd,rfl⟩:=pairsI_mem hx
  have:=h1 c (by simp [hc])
  have:=h3 d hd
  omega
def lvI (own:List Int):Nat->List Int
 | 0 => []
 | k+1 => mrg own (pairsI (lvI own k))
theorem lvI_one (own:List Int):lvI own 1=own:=by
 show mrg own (pairsI [])=own
 exact mrg_nil own
theorem lvI_srt {own:List Int} (h:SrtI own):∀ k,SrtI (lvI own k)
 | 0 => List.Pairwise.nil
 | k+1 => mrg_srt h (pairsI_srt (lvI_srt h k))
theorem lvI_le (own:List Int):∀ k,(lvI own k).length<=2*own.length
 | 0 => by simp [lvI]
 | k+1 => by
  have:=lvI_le own k
  rw [lvI,mrg_length,pairsI_length]
  omega
theorem lvI_bound {own:List Int} {M:Nat} (h:∀ x ∈ own,0 < x /\ x<=M):∀ k,∀ x ∈ lvI own k,0 < x /\ x<=(M:Int)*2 ^ k
 | 0,x,hx => by simp [lvI] at hx
 | k+1,x,hx => by
  have e5:(M:Int)*2 ^ (k+1)=M*2 ^ k*2:=by rw [Int.pow_succ,Int.mul_assoc]
  have hp:(1:Int)<=2 ^ k:=by
   have h1:1<=2 ^ k:=Nat.one_le_two_pow
   have h2:((2 ^ k:Nat):Int)=(2:Int) ^ k:=by simp
   rw [<- h2];omega
  have hm:(M:Int)<=M*2 ^ k:=by
   have:=Int.mul_le_mul_of_nonneg_left hp (show (0:Int)<=M by omega)
   omega
  rcases List.mem_append.1 ((mrg_perm _ _).subset hx) with hx | hx
  ·have:=h x hx;omega
  ·obtain ⟨a,b,ha,hb,rfl⟩:=pairsI_mem hx
   have h1:=lvI_bound h k a ha
   have h2:=lvI_bound h k b hb
   omega
theorem lev_int {S:List Ab} {own:List Int} (hs:SrtI own) (hp:own.Perm (S.map Prod.fst)):∀ {k:Nat} {Q:List Ab},Lev S k Q->Q.map Prod.fst=pairsI (lvI own k)
 | 0,Q,h => by have e:Q=[]:=h;rw [e];rfl
 | k+1,Q,h => by
  obtain ⟨P,La,h1,h2,h3,rfl⟩:=h
  have ih:=lev_int hs hp h1
  rw [pairsI_map]
  congr 1
  refine srt_uniq (List.pairwise_map.2 h3) (lvI_srt hs (k+1)) ?_
  have e1:=h2.map Prod.fst
  rw [List.map_append,ih] at e1
  exact e1.trans ((List.Perm.append_right _ hp.symm).trans (mrg_perm _ _).symm)
theorem isum_perm {l r:List Int} (h:l.Perm r):isum l=isum r:=by
 induction h with
 | nil => rfl
 | cons x _ ih => simp [isum,ih]
 | swap x y l => simp [isum];omega
 | trans _ _ ih1 ih2 => exact ih1.trans ih2
theorem isum_pairs:∀ (l:List Int) (t:Nat),2*t<=l.length->isum ((pairsI l).take t)=isum (l.take (2*t))
 | _,0,_ => by simp [isum]
 | [],t+1,h => by simp at h
 | [_],t+1,h => by simp at h;omega
 | a :: b :: r,t+1,h => by
  have ih:=isum_pairs r t (by simp at h;omega)
  rw [show 2*(t+1)=2*t+1+1 by omega]
  simp only [pairsI,List.take_succ_cons,isum,ih]
  omega
def costI (own:List Int) (m:Nat):Int:=if own.length < 2 then isum own else isum ((lvI own m).take (2*own.length - 2))
theorem cost_eq {cs own:List Int} {m:Nat} {C:List Ab} (hs:SrtI own) (hp:own.Perm ((sing cs).map Prod.fst)) (hfew:(sing cs).length<=2 ^ m) (h:Chs (sing cs) m C):isum (C.map Prod.fst)=costI own m:=by
 have hl:own.length=(sing cs).length:=by have:=hp.length_eq;simpa using this
 unfold costI
 rcases h with ⟨h0,e⟩ | ⟨h0,Qf,hq,e⟩
 ·rw [if_pos (by omega),e]
  exact isum_perm hp.symm
 ·rw [if_neg (by omega),e,List.map_take,lev_int hs hp hq]
  have hm:=lev_many m hfew (Nat.le_refl _) hq
  have e2:=congrArg List.length (lev_int hs hp hq)
  rw [List.length_map,pairsI_length] at e2
  simp at hm
  rw [isum_pairs _ _ (by omega),hl]
  congr 2
  omega
theorem lvI_enough {cs own:List Int} {m:Nat} {C:List Ab} (hs:SrtI own) (hp:own.Perm ((sing cs).map Prod.fst)) (hfew:(sing cs).length<=2 ^ m) (h:Chs (sing cs) m C) (h2:2<=own.length):2*own.length - 2<=(lvI own m).length:=by
 have hl:own.length=(sing cs).length:=by have:=hp.length_eq;simpa using this
 rcases h with ⟨h0,e⟩ | ⟨h0,Qf,hq,e⟩
 ·omega
 ·have hm:=lev_many m hfew (Nat.le_refl _) hq
  have e2:=congrArg List.length (lev_int hs hp hq)
  rw [List.length_map,pairsI_length] at e2
  simp at hm
  omega
end Go.Proofs.YthdmjmnkhlpnnabGreatDoor
namespace Go.Proofs.YthdmjmnkhlpnnabGreatDoor
open Go.RowKit
theorem app_one {w0 wr w1:World} {B:Nat} {v v':Value} {l:List Int} {r:Int} {o:Obj} (hB:B=w0.heap.size)
  (hown:wr.ownsRow B 3 1 v l.length (l.map (Value.int .i64))) (hb:Below B w0 wr)
  (hown':w1.ownsRow B 3 1 v' (l.length+1) (l.map (Value.int .i64) ++ [Value.int .i64 r])) (hg:(wr.alloc o).grownBy w1 v.ownBlock) :
  w1.ownsRow B 3 1 v' (l ++ [r]).length ((l ++ [r]).map (Value.int .i64)) /\ Below B w0 w1:=by
 subst hB
 refine ⟨?_,(hb.alloc hb.size o).grown hg (by have:=hb.size;simp;omega) (fun k hk => (hown.lt k hk).1)⟩
 rw [List.length_append,List.map_append]
 exact hown'
theorem drop_none (l:List Int) (i:Nat) (h:l.length<=i):l.drop i=[]:=List.drop_eq_nil_of_le h
theorem drop_cons (l:List Int) (i:Nat) (h:i < l.length):l.drop i=l.getD i 0 :: l.drop (i+1):=by
 rw [List.drop_eq_getElem_cons h];simp [List.getD,h]
theorem mrg_left {a b o:List Int} {i k:Nat} (hi:i < a.length) (h:b.length<=k ∨ a.getD i 0<=b.getD k 0) (e:o ++ mrg (a.drop i) (b.drop k)=mrg a b):(o ++ [a.getD i 0]) ++ mrg (a.drop (i+1)) (b.drop k)=mrg a b:=by
 rw [<- e,drop_cons a i hi,List.append_assoc]
 congr 1
 by_cases hk:k < b.length
 ·rw [drop_cons b k hk,mrg,if_pos (by rcases h with h | h;omega;exact h)]
  rfl
 ·rw [drop_none b k (by omega),mrg_nil,mrg_nil]
  rfl
theorem mrg_right {a b o:List Int} {i k:Nat} (hk:k < b.length) (h:a.length<=i ∨ ¬ a.getD i 0<=b.getD k 0) (e:o ++ mrg (a.drop i) (b.drop k)=mrg a b):(o ++ [b.getD k 0]) ++ mrg (a.drop i) (b.drop (k+1))=mrg a b:=by
 rw [<- e,drop_cons b k hk,List.append_assoc]
 congr 1
 by_cases hi:i < a.length
 ·rw [drop_cons a i hi,mrg,if_neg (by rcases h with h | h;omega;exact h)]
  rfl
 ·rw [drop_none a i (by omega),mrg,mrg]
  rfl
set_option maxRecDepth 20000 in
set_option maxHeartbeats 2000000 in
theorem merged_any (a1 a2:Option Addr) (c1 c2:Nat) (a b:List Int) (w:World) (h1:Seg w a1 a) (h2:Seg w a2 b) (la:a.length<=100000) (lb:b.length<=100000) :
  Calls Tryz.prog 152 #[.slice a1 a.length c1,.slice a2 b.length c2] w fun e w' => ∃ ao c,e = .returned (.slice ao (mrg a b).length c) /\ Seg w' ao (mrg a b) /\ Below w.heap.size w w':=by
 obtain ⟨i0,hi,hz0,hz1,hz2⟩:=info_parts info3
 have H1:=hid h1
 have H2:=hid h2
 clear h1 h2
 go_enter Tryz.func152,Tryz.ntmps152
 go_wp2
 go_loopw [5,6,7] (fun v x y wr => ∃ (i k:Nat) (o:List Int),i<=a.length /\ k<=b.length /\ o.length=i+k /\ x = .int .i64 i /\ y = .int .i64 k /\ Hid (wr.ownsRow w.heap.size 3 1 v o.length (o.map (Value.int .i64)) /\ Below w.heap.size w wr /\ o ++ mrg (a.drop i) (b.drop k)=mrg a b)) (fun _ x y _ => (a.length - (intOf x).toNat)+(b.length - (intOf y).toNat))
 case atStart => exact ⟨0,0,[],by omega,by omega,rfl,rfl,rfl,World.ownsRow_nil _ _ _ _,Below.refl _ _,rfl⟩
 case round =>
  obtain ⟨i,k,o,hia,hkb,hol,rfl,rfl,HO⟩:=hrel
  have HOL:=hid hol
  have hob:o.length<=200000:=by omega
  clear hol
  have LEFT:Hid (i < a.length->(b.length<=k ∨ a.getD i 0<=b.getD k 0)->(o ++ [a.getD i 0]) ++ mrg (a.drop (i+1)) (b.drop k)=mrg a b):=fun hi h => mrg_left hi h HO.out.2.2
  have RIGHT:Hid (k < b.length->(a.length<=i ∨ ¬ a.getD i 0<=b.getD k 0)->(o ++ [b.getD k 0]) ++ mrg (a.drop i) (b.drop (k+1))=mrg a b):=fun hi h => mrg_right hi h HO.out.2.2
  by_cases hil:i < a.length
  ·obtain ⟨b1,o1,rfl,hc1⟩:=H1.out (by omega)
   obtain ⟨x,hx⟩:∃ z,z=a.getD i 0:=⟨_,rfl⟩
   have cx0:w.cell? ⟨b1,o1+i,none⟩=some (.int .i64 x):=by rw [hx];exact hc1 i hil
   have cx:wr.cell? ⟨b1,o1+i,none⟩=some (.int .i64 x):=(HO.out.2.1.cell (p:=⟨b1,o1+i,none⟩) (World.block_lt_of_cell? w _ cx0)).trans cx0
   rw [<- hx] at LEFT RIGHT
   clear hx cx0 hc1
   by_cases hkl:k < b.length
   ·obtain ⟨b2,o2,rfl,hc2⟩:=H2.out (by omega)
    obtain ⟨y,hy⟩:∃ z,z=b.getD k 0:=⟨_,rfl⟩
    have cy0:w.cell? ⟨b2,o2+k,none⟩=some (.int .i64 y):=by rw [hy];exact hc2 k hkl
    have cy:wr.cell? ⟨b2,o2+k,none⟩=some (.int .i64 y):=(HO.out.2.1.cell (p:=⟨b2,o2+k,none⟩) (World.block_lt_of_cell? w _ cy0)).trans cy0
    rw [<- hy] at LEFT RIGHT
    clear hy cy0 hc2
    have d1:decide (b.length<=k)=false:=by simp;omega
    have d2:decide (i < a.length)=true:=by simp;omega
    have d3:decide ((b.length:Int)<=(k:Int))=false:=by simp;omega
    have d4:decide ((i:Int) < (a.length:Int))=true:=by simp;omega
    by_cases hxy:x<=y
    ·have d5:decide (x<=y)=true:=by simp;omega
     go_wp2
     go_quiet (fail)
     go_wp2_with (at_builtin;refine wpList_append_own _ rfl (.tmp 39) (.tmp 44) 23 rfl w.heap.size 3 i0 (.int .i64 0) 1 8 Tryz.underlying23 hi hz0 hz1 hz2 rfl (by decide) _ _ _ rfl ((owns_drewN HO.out.1 _).alloc _) ⟨wr.heap.size,0,none⟩ 1 1 [.int .i64 x] rfl rfl (cell_one_new _ _ _) ?c2a ?c3a ?c4a ?c5a ?_)
     case c2a => intro u hu;simp at hu;subst hu;rfl
     case c3a => unfold maxLen;omega
     case c4a => omega
     case c5a => have:=HO.out.2.1.size;simp;omega
     intro v' w1 hown' hgrow hnn
     clear hnn
     have R:=hid (app_one (w0:=w) rfl (owns_drewN HO.out.1 _) (below_drewN' HO.out.2.1 _) hown' hgrow)
     clear hown' hgrow
     go_wp2
     go_roundw
     case rel => exact ⟨i+1,k,o ++ [x],by omega,by omega,by have:=HOL.out;simp;omega,by go_num,by go_num,R.out.1,R.out.2,LEFT.out hil (.inr hxy)⟩
     case measure => simp [intOf];omega
    ·have d5:decide (x<=y)=false:=by simp;omega
     go_wp2
     go_quiet (fail)
     go_wp2_with (at_builtin;refine wpList_append_own _ rfl (.tmp 48) (.tmp 53) 23 rfl w.heap.size 3 i0 (.int .i64 0) 1 8 Tryz.underlying23 hi hz0 hz1 hz2 rfl (by decide) _ _ _ rfl ((owns_drewN HO.out.1 _).alloc _) ⟨wr.heap.size,0,none⟩ 1 1 [.int .i64 y] rfl rfl (cell_one_new _ _ _) ?c2a ?c3a ?c4a ?c5a ?_)
     case c2a => intro u hu;simp at hu;subst hu;rfl
     case c3a => unfold maxLen;omega
     case c4a => omega
     case c5a => have:=HO.out.2.1.size;simp;omega
     intro v' w1 hown' hgrow hnn
     clear hnn
     have R:=hid (app_one (w0:=w) rfl (owns_drewN HO.out.1 _) (below_drewN' HO.out.2.1 _) hown' hgrow)
     clear hown' hgrow
     go_wp2
     go_roundw
     case rel => exact ⟨i,k+1,o ++ [y],by omega,by omega,by have:=HOL.out;simp;omega,by go_num,by go_num,R.out.1,R.out.2,RIGHT.out hkl (.inr hxy)⟩
     case measure => simp [intOf];omega
   ·have d1:decide (b.length<=k)=true:=by simp;omega
    have d3:decide ((b.length:Int)<=(k:Int))=true:=by simp;omega
    go_wp2
    go_quiet (fail)
    go_wp2_with (at_builtin;refine wpList_append_own _ rfl (.tmp 39) (.tmp 44) 23 rfl w.heap.size 3 i0 (.int .i64 0) 1 8 Tryz.underlying23 hi hz0 hz1 hz2 rfl (by decide) _ _ _ rfl ((owns_drewN HO.out.1 _).alloc _) ⟨wr.heap.size,0,none⟩ 1 1 [.int .i64 x] rfl rfl (cell_one_new _ _ _) ?c2a ?c3a ?c4a ?c5a ?_)
    case c2a => intro u hu;simp at hu;subst hu;rfl
    case c3a => unfold maxLen;omega
    case c4a => omega
    case c5a => have:=HO.out.2.1.size;simp;omega
    intro v' w1 hown' hgrow hnn
    clear hnn
    have R:=hid (app_one (w0:=w) rfl (owns_drewN HO.out.1 _) (below_drewN' HO.out.2.1 _) hown' hgrow)
    clear hown' hgrow
    go_wp2
    go_roundw
    case rel => exact ⟨i+1,k,o ++ [x],by omega,by omega,by have:=HOL.out;simp;omega,by go_num,by go_num,R.out.1,R.out.2,LEFT.out hil (.inl (by omega))⟩
    case measure => simp [intOf];omega
  ·by_cases hkl:k < b.length
   ·obtain ⟨b2,o2,rfl,hc2⟩:=H2.out (by omega)
    obtain ⟨y,hy⟩:∃ z,z=b.getD k 0:=⟨_,rfl⟩
    have cy0:w.cell? ⟨b2,o2+k,none⟩=some (.int .i64 y):=by rw [hy];exact hc2 k hkl
    have cy:wr.cell? ⟨b2,o2+k,none⟩=some (.int .i64 y):=(HO.out.2.1.cell (p:=⟨b2,o2+k,none⟩) (World.block_lt_of_cell? w _ cy0)).trans cy0
    rw [<- hy] at LEFT RIGHT
    clear hy cy0 hc2
    have d1:decide (b.length<=k)=false:=by simp;omega
    have d2:decide (i < a.length)=false:=by simp;omega
    have d3:decide ((b.length:Int)<=(k:Int))=false:=by simp;omega
    have d4:decide ((i:Int) < (a.length:Int))=false:=by simp;omega
    go_wp2
    go_quiet (fail)
    go_wp2_with (at_builtin;refine wpList_append_own _ rfl (.tmp 48) (.tmp 53) 23 rfl w.heap.size 3 i0 (.int .i64 0) 1 8 Tryz.underlying23 hi hz0 hz1 hz2 rfl (by decide) _ _ _ rfl ((owns_drewN HO.out.1 _).alloc _) ⟨wr.heap.size,0,none⟩ 1 1 [.int .i64 y] rfl rfl (cell_one_new _ _ _) ?c2a ?c3a ?c4a ?c5a ?_)
    case c2a => intro u hu;simp at hu;subst hu;rfl
    case c3a => unfold maxLen;omega
    case c4a => omega
    case c5a => have:=HO.out.2.1.size;simp;omega
    intro v' w1 hown' hgrow hnn
    clear hnn
    have R:=hid (app_one (w0:=w) rfl (owns_drewN HO.out.1 _) (below_drewN' HO.out.2.1 _) hown' hgrow)
    clear hown' hgrow
    go_wp2
    go_roundw
    case rel => exact ⟨i,k+1,o ++ [y],by omega,by omega,by have:=HOL.out;simp;omega,by go_num,by go_num,R.out.1,R.out.2,RIGHT.out hkl (.inl (by omega))⟩
    case measure => simp [intOf];omega
   ·have HE:Hid (wr.ownsRow w.heap.size 3 1 u5 o.length (o.map (Value.int .i64)) /\ Below w.heap.size w wr /\ o=mrg a b):=by
     have h:=HO.out
     rw [drop_none a i (by omega),drop_none b k (by omega),mrg_nil,List.append_nil] at h
     exact h
    go_wp2
    go_ret
    obtain ⟨e1,e2,e3⟩:=HE.out
    rw [e3] at e1
    obtain ⟨ao,c,e4,e5⟩:=owns_seg e1
    exact ⟨ao,⟨c,congrArg Ending.returned e4⟩,e5,e2⟩
end Go.Proofs.YthdmjmnkhlpnnabGreatDoor
namespace Go.Proofs.YthdmjmnkhlpnnabGreatDoor
open Go.RowKit
def insAt (l:List Int) (t:Nat) (c:Int) (j:Nat):List Int:=l.take t ++ [c] ++ (l.drop t).take (j - t)
theorem insAt_length (l:List Int) (t:Nat) (c:Int) (j:Nat) (ht:t<=j) (hj:j<=l.length):(insAt l t c j).length=j+1:=by
 simp [insAt];omega
theorem insAt_start (l:List Int) (t:Nat) (c:Int):insAt l t c t=l.take t ++ [c]:=by simp [insAt]
theorem insAt_snoc (l:List Int) (t:Nat) (c:Int) (j:Nat) (ht:t<=j) (hj:j < l.length):insAt l t c j ++ [l.getD j 0]=insAt l t c (j+1):=by
 unfold insAt
 rw [show j+1 - t=(j - t)+1 by omega,take_snocI (l.drop t) (j - t) (by simp;omega)]
 have e:(l.drop t).getD (j - t) 0=l.getD j 0:=by
  simp [List.getD,List.getElem?_drop,show t+(j - t)=j by omega]
 rw [e]
 simp
theorem insAt_all (l:List Int) (t:Nat) (c:Int):insAt l t c l.length=l.take t ++ c :: l.drop t:=by
 unfold insAt
 rw [List.take_of_length_le (l:=l.drop t) (by simp)]
 simp
theorem insAt_perm (l:List Int) (t:Nat) (c:Int):(insAt l t c l.length).Perm (l ++ [c]):=by
 rw [insAt_all]
 refine (List.perm_middle).trans ?_
 rw [List.take_append_drop]
 exact List.perm_append_comm (l₁:=[c])
theorem insAt_srt {l:List Int} {t:Nat} {c:Int} (h:SrtI l) (ht:t<=l.length) (h1:0 < t->l.getD (t - 1) 0<=c) (h2:∀ j,t<=j->j < l.length->c < l.getD j 0):SrtI (insAt l t c l.length):=by
 rw [insAt_all]
 have hl:SrtI (l.take t ++ l.drop t):=by rw [List.take_append_drop];exact h
 obtain ⟨k1,k2,k3⟩:=List.pairwise_append.1 hl
 have lo:∀ x ∈ l.take t,x<=c:=fun x hx => by
  obtain ⟨i,hi,e⟩:=List.getElem_of_mem hx
  simp at hi
  have h3:l.getD (t - 1) 0<=c:=h1 (by omega)
  have e2:x=l.getD i 0:=by rw [<- e];simp [List.getD,show i < l.length by omega]
  by_cases e3:i=t - 1
  ·rw [e2,e3];exact h3
  ·have h4:=List.pairwise_iff_getElem.1 h i (t - 1) (by omega) (by omega) (by omega)
   have e4:l.getD i 0=l[i]'(by omega):=by simp [List.getD,show i < l.length by omega]
   have e5:l.getD (t - 1) 0=l[t - 1]'(by omega):=by simp [List.getD,show t - 1 < l.length by omega]
   rw [e2,e4]
   rw [e5] at h3
   omega
 have up:∀ x ∈ l.drop t,c<=x:=fun x hx => by
  obtain ⟨i,hi,e⟩:=List.getElem_of_mem hx
  simp at hi
  have h3:=h2 (t+i) (by omega) (by omega)
  have e2:l.getD (t+i) 0=x:=by rw [<- e];simp [List.getD,show t+i < l.length by omega]
  omega
 refine List.pairwise_append.2 ⟨k1,List.pairwise_cons.2 ⟨up,k2⟩,fun x hx y hy => ?_⟩
 rcases List.mem_cons.1 hy with rfl | hy
 ·exact lo x hx
 ·exact k3 x hx y hy
theorem rise_step {cs l:List Int} {k t:Nat} {c:Int} (hk:k < cs.length) (hc:c=cs.getD k 0) (h0:0 < c) (hp:l.Perm ((sing (cs.take k)).map Prod.fst)):(insAt l t c l.length).Perm ((sing (cs.take (k+1))).map Prod.fst):=by
 rw [sing_take_succ cs k hk,<- hc,if_pos h0,List.map_append]
 exact (insAt_perm l t c).trans (List.Perm.append_right _ hp)
theorem rise_skip {cs l:List Int} {k:Nat} (hk:k < cs.length) (h0:cs.getD k 0=0) (hp:l.Perm ((sing (cs.take k)).map Prod.fst)):l.Perm ((sing (cs.take (k+1))).map Prod.fst):=by
 rw [sing_take_succ cs k hk,if_neg (by omega),List.append_nil]
 exact hp
set_option maxRecDepth 20000 in
set_option maxHeartbeats 4000000 in
theorem rising_any (ao:Option Addr) (c:Nat) (cs:List Int) (w:World) (hs:Seg w ao cs) (h320:cs.length<=320) (hok:cs.any nc=false) :
  Calls Tryz.prog 151 #[.slice ao cs.length c] w fun e w' => ∃ v,e = .returned v /\ ∃ l lo lc,v = .slice lo l.length lc /\ l.length<=cs.length /\ SrtI l /\ l.Perm ((sing cs).map Prod.fst) /\ Seg w' lo l /\ Below w.heap.size w w':=by
 obtain ⟨i0,hi,hz0,hz1,hz2⟩:=info_parts info3
 have HS:=hid hs
 have HC:=hid hok
 clear hs hok
 go_enter Tryz.func151,Tryz.ntmps151
 go_wp2
 go_loopw [3,4] (fun v i wr => ∃ (k:Nat) (l:List Int) (lo:Option Addr) (lc:Nat),k<=cs.length /\ l.length<=k /\ i = .int .i64 k /\ v = .slice lo l.length lc /\ Hid (SrtI l /\ l.Perm ((sing (cs.take k)).map Prod.fst) /\ Seg wr lo l /\ Below w.heap.size w wr)) (fun _ i _ => cs.length - (intOf i).toNat)
 case atStart => exact ⟨0,[],none,0,by omega,by simp,rfl,rfl,List.Pairwise.nil,by simp [sing,singAt],(fun h => by simp at h),Below.refl _ _⟩
 case round =>
  obtain ⟨k,l,lo,lc,hk,hlk,rfl,rfl,HR⟩:=hrel
  by_cases hlt:k < cs.length
  ·obtain ⟨b,off,rfl,hcc⟩:=HS.out (by omega)
   obtain ⟨x,hx⟩:∃ z,z=cs.getD k 0:=⟨_,rfl⟩
   have cx0:w.cell? ⟨b,off+k,none⟩=some (.int .i64 x):=by rw [hx];exact hcc k hlt
   have hbl:b < w.heap.size:=World.block_lt_of_cell? w _ cx0
   have cx:wr.cell? ⟨b,off+k,none⟩=some (.int .i64 x):=(HR.out.2.2.2.cell (p:=⟨b,off+k,none⟩) hbl).trans cx0
   have hxr:=nc_getD HC.out k
   rw [<- hx] at hxr
   have HX:=hid hx
   have HCX:=hid cx0
   clear hx cx0 hcc
   by_cases hx0:x=0
   ·have HN:Hid (l.Perm ((sing (cs.take (k+1))).map Prod.fst)):=rise_skip hlt (by rw [<- HX.out];exact hx0) HR.out.2.1
    subst hx0
    go_wp2
    go_roundw
    case rel => exact ⟨k+1,l,lo,lc,by omega,by omega,by go_num,rfl,HR.out.1,HN.out,HR.out.2.2.1,HR.out.2.2.2⟩
    case measure => simp [intOf];omega
   ·have hx1:0 < x:=by omega
    obtain ⟨w0,hw0⟩:∃ w0,w0=wr:=⟨_,rfl⟩
    subst hw0
    have H0:Hid (Below w0.heap.size w0 w0):=Below.refl _ _
    go_wp2
    go_loopw [5] (fun a wq => ∃ t:Nat,t<=l.length /\ a = .int .i64 t /\ Hid ((∀ j,t<=j->j < l.length->x < l.getD j 0) /\ Below w0.heap.size w0 wq)) (fun a _ => (intOf a).toNat)
    case atStart => exact ⟨l.length,by omega,rfl,fun j h1 h2 => by omega,H0.out⟩
    case round =>
     clear H0 cx
     obtain ⟨t,ht,rfl,HT⟩:=hrel
     have cx:wr.cell? ⟨b,off+k,none⟩=some (.int .i64 x):=(HT.out.2.cell (p:=⟨b,off+k,none⟩) (by have:=HR.out.2.2.2.size;show b < _;omega)).trans ((HR.out.2.2.2.cell (p:=⟨b,off+k,none⟩) hbl).trans HCX.out)
     by_cases ht0:0 < t
     ·obtain ⟨g,o,rfl,hlc⟩:=HR.out.2.2.1 (by omega)
      obtain ⟨y,hy⟩:∃ y,y=l.getD (t - 1) 0:=⟨_,rfl⟩
      have cy:wr.cell? ⟨g,o+(t - 1),none⟩=some (.int .i64 y):=by
       have h:=hlc (t - 1) (by omega)
       rw [<- hy] at h
       exact (HT.out.2.cell (p:=⟨g,o+(t - 1),none⟩) (World.block_lt_of_cell? w0 _ h)).trans h
      have e1:((t:Int) - 1).toNat=t - 1:=by omega
      have b1:(0:Int)<=(t:Int) - 1:=by omega
      have b2:(t:Int) - 1 < (l.length:Int):=by omega
      have d0:decide (0 < t)=true:=by simp;omega
      have d0':decide ((0:Int) < (t:Int))=true:=by simp;omega
      have HYE:=hid hy
      clear hy hlc
      by_cases hxy:x < y
      ·have d1:decide (x < y)=true:=by simp;omega
       have HT':Hid (∀ j,t - 1<=j->j < l.length->x < l.getD j 0):=fun j h1 h2 => by
        by_cases e:j=t - 1
        ·rw [e,<- HYE.out];exact hxy
        ·exact HT.out.1 j (by omega) h2
       go_wp2
       go_quiet (fail)
       go_wp2
       go_roundw
       case rel => exact ⟨t - 1,by omega,by go_num,HT'.out,below_drewN' HT.out.2 _⟩
       case measure => simp [intOf];omega
      ·have d1:decide (x < y)=false:=by simp;omega
       have HT1:Hid (0 < t->l.getD (t - 1) 0<=x):=fun _ => by rw [<- HYE.out];omega
       go_wp2
       go_quiet (fail)
       clear d0 d0' d1 cx cy e1 b1 b2
       go_wp2
       have HW:Hid (Below w0.heap.size w0 (wr.drewN nq)):=below_drewN' HT.out.2 _
       obtain ⟨wq,hwq⟩:∃ wq,wq=(wr.drewN nq):=⟨_,rfl⟩
       have LC:Hid (∀ j,j < l.length->g < w0.heap.size /\ w0.cell? ⟨g,o+j,none⟩=some (.int .i64 (l.getD j 0))):=fun j hj => by
        obtain ⟨_,_,e,hc⟩:=HR.out.2.2.1 (by omega)
        injection e with e
        injection e with e1 e2
        subst e1 e2
        exact ⟨World.block_lt_of_cell? w0 _ (hc j hj),hc j hj⟩
       rw [<- hwq] at HW
       try rw [<- hwq]
       clear hwq
       have HZ:Hid (Below wq.heap.size wq wq):=Below.refl _ _
       go_loopw [6,7] (fun v a wz => ∃ j:Nat,j<=t /\ a = .int .i64 j /\ Hid (wz.ownsRow wq.heap.size 3 1 v (l.take j).length ((l.take j).map (Value.int .i64)) /\ Below wq.heap.size wq wz)) (fun _ a _ => t - (intOf a).toNat)
       case atStart => exact ⟨0,by omega,rfl,World.ownsRow_nil _ _ _ _,HZ.out⟩
       case round =>
        clear HZ
        obtain ⟨j,hj,rfl,HO⟩:=hrel
        obtain ⟨q,hq⟩:∃ q,q=l.take j:=⟨_,rfl⟩
        have hql:q.length<=320:=by rw [hq,List.length_take];omega
        rw [<- hq] at HO
        have HQ:=hid hq
        clear hq
        by_cases hjt:j < t
        ·obtain ⟨hg,hc⟩:=LC.out j (by omega)
         obtain ⟨y,hy⟩:∃ y,y=l.getD j 0:=⟨_,rfl⟩
         have cy:wr.cell? ⟨g,o+j,none⟩=some (.int .i64 y):=by
          rw [hy]
          exact (HO.out.2.cell (p:=⟨g,o+j,none⟩) (by have:=HW.out.size;show g < _;omega)).trans ((HW.out.cell (p:=⟨g,o+j,none⟩) hg).trans hc)
         have HY:Hid (q ++ [y]=l.take (j+1)):=by show _=_;rw [take_snocI l j (by omega),hy,HQ.out]
         clear hy hc
         go_wp2_with (at_builtin;refine wpList_append_own _ rfl (.tmp 43) (.tmp 48) 23 rfl wq.heap.size 3 i0 (.int .i64 0) 1 8 Tryz.underlying23 hi hz0 hz1 hz2 rfl (by decide) _ _ _ rfl (HO.out.1.alloc _) ⟨wr.heap.size,0,none⟩ 1 1 [.int .i64 y] rfl rfl (cell_one_new _ _ _) ?c2a ?c3a ?c4a ?c5a ?_)
         case c2a => intro u hu;simp at hu;subst hu;rfl
         case c3a => unfold maxLen;omega
         case c4a => omega
         case c5a => have:=HO.out.2.size;simp;omega
         intro v' w1 hown' hgrow hnn
         clear hnn
         have R:=app_one (w0:=wq) rfl HO.out.1 HO.out.2 hown' hgrow
         rw [HY.out] at R
         have RH:=hid R
         clear R hown' hgrow cy
         go_wp2
         go_roundw
         case rel => exact ⟨j+1,by omega,by go_num,RH.out⟩
         case measure => simp [intOf];omega
        ·have ejt:j=t:=by omega
         subst ejt
         have cx2:wr.cell? ⟨b,off+k,none⟩=some (.int .i64 x):=(HO.out.2.cell (p:=⟨b,off+k,none⟩) (by have:=HW.out.size;have:=HR.out.2.2.2.size;show b < _;omega)).trans ((HW.out.cell (p:=⟨b,off+k,none⟩) (by have:=HR.out.2.2.2.size;show b < _;omega)).trans ((HR.out.2.2.2.cell (p:=⟨b,off+k,none⟩) hbl).trans HCX.out))
         go_wp2_with (at_builtin;refine wpList_append_own _ rfl (.tmp 50) (.tmp 55) 23 rfl wq.heap.size 3 i0 (.int .i64 0) 1 8 Tryz.underlying23 hi hz0 hz1 hz2 rfl (by decide) _ _ _ rfl (HO.out.1.alloc _) ⟨wr.heap.size,0,none⟩ 1 1 [.int .i64 x] rfl rfl (cell_one_new _ _ _) ?d2a ?d3a ?d4a ?d5a ?_)
         case d2a => intro u hu;simp at hu;subst hu;rfl
         case d3a => unfold maxLen;omega
         case d4a => omega
         case d5a => have:=HO.out.2.size;simp;omega
         intro v' w1 hown' hgrow hnn
         clear hnn
         have R:=app_one (w0:=wq) rfl HO.out.1 HO.out.2 hown' hgrow
         rw [HQ.out,<- insAt_start l j x] at R
         have RH:=hid R
         clear R hown' hgrow cx2
         go_wp2
         go_loopw [6,8] (fun v a wz => ∃ i:Nat,j<=i /\ i<=l.length /\ a = .int .i64 i /\ Hid (wz.ownsRow wq.heap.size 3 1 v (insAt l j x i).length ((insAt l j x i).map (Value.int .i64)) /\ Below wq.heap.size wq wz)) (fun _ a _ => l.length - (intOf a).toNat)
         case atStart => exact ⟨j,by omega,by omega,rfl,RH.out⟩
         case round =>
          clear RH HO
          obtain ⟨i,hji,hil,rfl,HO⟩:=hrel
          have hin:=insAt_length l j x i hji hil
          by_cases hilt:i < l.length
          ·obtain ⟨hg,hc⟩:=LC.out i hilt
           obtain ⟨y,hy⟩:∃ y,y=l.getD i 0:=⟨_,rfl⟩
           have cy:wr.cell? ⟨g,o+i,none⟩=some (.int .i64 y):=by
            rw [hy]
            exact (HO.out.2.cell (p:=⟨g,o+i,none⟩) (by have:=HW.out.size;show g < _;omega)).trans ((HW.out.cell (p:=⟨g,o+i,none⟩) hg).trans hc)
           have HY:Hid (insAt l j x i ++ [y]=insAt l j x (i+1)):=by show _=_;rw [hy,insAt_snoc l j x i hji hilt]
           have hjb:(insAt l j x i).length<=400:=by omega
           clear hy hc hin
           go_wp2_with (at_builtin;refine wpList_append_own _ rfl (.tmp 64) (.tmp 69) 23 rfl wq.heap.size 3 i0 (.int .i64 0) 1 8 Tryz.underlying23 hi hz0 hz1 hz2 rfl (by decide) _ _ _ rfl (HO.out.1.alloc _) ⟨wr.heap.size,0,none⟩ 1 1 [.int .i64 y] rfl rfl (cell_one_new _ _ _) ?e2a ?e3a ?e4a ?e5a ?_)
           case e2a => intro u hu;simp at hu;subst hu;rfl
           case e3a => unfold maxLen;omega
           case e4a => omega
           case e5a => have:=HO.out.2.size;simp;omega
           intro v' w1 hown' hgrow hnn
           clear hnn
           have R:=app_one (w0:=wq) rfl HO.out.1 HO.out.2 hown' hgrow
           rw [HY.out] at R
           have RH:=hid R
           clear R hown' hgrow cy
           go_wp2
           go_roundw
           case rel => exact ⟨i+1,by omega,by omega,by go_num,RH.out⟩
           case measure => simp [intOf];omega
          ·have ei:i=l.length:=by omega
           subst ei
           obtain ⟨no,nc',hv,hsg⟩:=owns_seg HO.out.1
           have hlen:(insAt l j x l.length).length<=k+1:=by omega
           have HN:Hid (SrtI (insAt l j x l.length) /\ (insAt l j x l.length).Perm ((sing (cs.take (k+1))).map Prod.fst) /\ Seg wr no (insAt l j x l.length) /\ Below w.heap.size w wr) :=
            ⟨insAt_srt HR.out.1 (by omega) HT1.out HT.out.1,rise_step hlt HX.out hx1 HR.out.2.1,hsg,HR.out.2.2.2.trans ((HW.out.mono HR.out.2.2.2.size).trans (HO.out.2.mono (by have:=HW.out.size;have:=HR.out.2.2.2.size;omega)))⟩
           have HLEN:=hid hlen
           have HV:=hid hv
           clear hin hsg hlen hv
           go_wp2
           go_roundw
           case rel => exact ⟨k+1,insAt l j x l.length,no,nc',by omega,HLEN.out,by go_num,HV.out,HN.out⟩
           case measure => simp [intOf];omega
     ·have HT1:Hid (0 < t->l.getD (t - 1) 0<=x):=fun h => absurd h ht0
      have d0:decide (0 < t)=false:=by simp;omega
      have d0':decide ((0:Int) < (t:Int))=false:=by simp;omega
      go_wp2
      go_quiet (fail)
      clear d0 d0' cx
      go_wp2
      have HW:Hid (Below w0.heap.size w0 (wr.drewN nq)):=below_drewN' HT.out.2 _
      obtain ⟨wq,hwq⟩:∃ wq,wq=(wr.drewN nq):=⟨_,rfl⟩
      have LC:Hid (∀ j,j < l.length -> ∃ g o,lo=some ⟨g,o,none⟩ /\ g < w0.heap.size /\ w0.cell? ⟨g,o+j,none⟩=some (.int .i64 (l.getD j 0))):=fun j hj => by
       obtain ⟨g,o,e,hc⟩:=HR.out.2.2.1 (by omega)
       exact ⟨g,o,e,World.block_lt_of_cell? w0 _ (hc j hj),hc j hj⟩
      rw [<- hwq] at HW
      try rw [<- hwq]
      clear hwq
      have HZ:Hid (Below wq.heap.size wq wq):=Below.refl _ _
      go_loopw [6,7] (fun v a wz => ∃ j:Nat,j<=t /\ a = .int .i64 j /\ Hid (wz.ownsRow wq.heap.size 3 1 v (l.take j).length ((l.take j).map (Value.int .i64)) /\ Below wq.heap.size wq wz)) (fun _ a _ => t - (intOf a).toNat)
      case atStart => exact ⟨0,by omega,rfl,World.ownsRow_nil _ _ _ _,HZ.out⟩
      case round =>
       clear HZ
       obtain ⟨j,hj,rfl,HO⟩:=hrel
       obtain ⟨q,hq⟩:∃ q,q=l.take j:=⟨_,rfl⟩
       have hql:q.length<=320:=by rw [hq,List.length_take];omega
       rw [<- hq] at HO
       have HQ:=hid hq
       clear hq
       by_cases hjt:j < t
       ·omega
       ·have ejt:j=t:=by omega
        subst ejt
        have cx2:wr.cell? ⟨b,off+k,none⟩=some (.int .i64 x):=(HO.out.2.cell (p:=⟨b,off+k,none⟩) (by have:=HW.out.size;have:=HR.out.2.2.2.size;show b < _;omega)).trans ((HW.out.cell (p:=⟨b,off+k,none⟩) (by have:=HR.out.2.2.2.size;show b < _;omega)).trans ((HR.out.2.2.2.cell (p:=⟨b,off+k,none⟩) hbl).trans HCX.out))
        go_wp2_with (at_builtin;refine wpList_append_own _ rfl (.tmp 50) (.tmp 55) 23 rfl wq.heap.size 3 i0 (.int .i64 0) 1 8 Tryz.underlying23 hi hz0 hz1 hz2 rfl (by decide) _ _ _ rfl (HO.out.1.alloc _) ⟨wr.heap.size,0,none⟩ 1 1 [.int .i64 x] rfl rfl (cell_one_new _ _ _) ?d2a ?d3a ?d4a ?d5a ?_)
        case d2a => intro u hu;simp at hu;subst hu;rfl
        case d3a => unfold maxLen;omega
        case d4a => omega
        case d5a => have:=HO.out.2.size;simp;omega
        intro v' w1 hown' hgrow hnn
        clear hnn
        have R:=app_one (w0:=wq) rfl HO.out.1 HO.out.2 hown' hgrow
        rw [HQ.out,<- insAt_start l j x] at R
        have RH:=hid R
        clear R hown' hgrow cx2
        go_wp2
        go_loopw [6,8] (fun v a wz => ∃ i:Nat,j<=i /\ i<=l.length /\ a = .int .i64 i /\ Hid (wz.ownsRow wq.heap.size 3 1 v (insAt l j x i).length ((insAt l j x i).map (Value.int .i64)) /\ Below wq.heap.size wq wz)) (fun _ a _ => l.length - (intOf a).toNat)
        case atStart => exact ⟨j,by omega,by omega,rfl,RH.out⟩
        case round =>
         clear RH HO
         obtain ⟨i,hji,hil,rfl,HO⟩:=hrel
         have hin:=insAt_length l j x i hji hil
         by_cases hilt:i < l.length
         ·obtain ⟨g,o,rfl,hg,hc⟩:=LC.out i hilt
          obtain ⟨y,hy⟩:∃ y,y=l.getD i 0:=⟨_,rfl⟩
          have cy:wr.cell? ⟨g,o+i,none⟩=some (.int .i64 y):=by
           rw [hy]
           exact (HO.out.2.cell (p:=⟨g,o+i,none⟩) (by have:=HW.out.size;show g < _;omega)).trans ((HW.out.cell (p:=⟨g,o+i,none⟩) hg).trans hc)
          have HY:Hid (insAt l j x i ++ [y]=insAt l j x (i+1)):=by show _=_;rw [hy,insAt_snoc l j x i hji hilt]
          have hjb:(insAt l j x i).length<=400:=by omega
          clear hy hc hin
          go_wp2_with (at_builtin;refine wpList_append_own _ rfl (.tmp 64) (.tmp 69) 23 rfl wq.heap.size 3 i0 (.int .i64 0) 1 8 Tryz.underlying23 hi hz0 hz1 hz2 rfl (by decide) _ _ _ rfl (HO.out.1.alloc _) ⟨wr.heap.size,0,none⟩ 1 1 [.int .i64 y] rfl rfl (cell_one_new _ _ _) ?e2a ?e3a ?e4a ?e5a ?_)
          case e2a => intro u hu;simp at hu;subst hu;rfl
          case e3a => unfold maxLen;omega
          case e4a => omega
          case e5a => have:=HO.out.2.size;simp;omega
          intro v' w1 hown' hgrow hnn
          clear hnn
          have R:=app_one (w0:=wq) rfl HO.out.1 HO.out.2 hown' hgrow
          rw [HY.out] at R
          have RH:=hid R
          clear R hown' hgrow cy
          go_wp2
          go_roundw
          case rel => exact ⟨i+1,by omega,by omega,by go_num,RH.out⟩
          case measure => simp [intOf];omega
         ·have ei:i=l.length:=by omega
          subst ei
          obtain ⟨no,nc',hv,hsg⟩:=owns_seg HO.out.1
          have hlen:(insAt l j x l.length).length<=k+1:=by omega
          have HN:Hid (SrtI (insAt l j x l.length) /\ (insAt l j x l.length).Perm ((sing (cs.take (k+1))).map Prod.fst) /\ Seg wr no (insAt l j x l.length) /\ Below w.heap.size w wr) :=
           ⟨insAt_srt HR.out.1 (by omega) HT1.out HT.out.1,rise_step hlt HX.out hx1 HR.out.2.1,hsg,HR.out.2.2.2.trans ((HW.out.mono HR.out.2.2.2.size).trans (HO.out.2.mono (by have:=HW.out.size;have:=HR.out.2.2.2.size;omega)))⟩
          have HLEN:=hid hlen
          have HV:=hid hv
          clear hin hsg hlen hv
          go_wp2
          go_roundw
          case rel => exact ⟨k+1,insAt l j x l.length,no,nc',by omega,HLEN.out,by go_num,HV.out,HN.out⟩
          case measure => simp [intOf];omega
  ·have HE:Hid (SrtI l /\ l.Perm ((sing cs).map Prod.fst) /\ Seg wr lo l /\ Below w.heap.size w wr):=by
    have h:=HR.out
    rw [List.take_of_length_le (by omega)] at h
    exact h
   go_wp2
   go_ret
   exact ⟨_,rfl,l,lo,lc,rfl,by omega,HE.out⟩
end Go.Proofs.YthdmjmnkhlpnnabGreatDoor
namespace Go.Proofs.YthdmjmnkhlpnnabGreatDoor
open Go.RowKit
attribute [local go_sem ↓] Go.wp_at_zero Go.wp_at_succ
theorem isum_take_succ (l:List Int) (k:Nat) (h:k < l.length):isum (l.take (k+1))=isum (l.take k)+l.getD k 0:=by
 rw [take_snocI l k h,isum_append]
 simp [isum]
theorem pairsI_getD:∀ (l:List Int) (t:Nat),2*t+1 < l.length->(pairsI l).getD t 0=l.getD (2*t) 0+l.getD (2*t+1) 0
 | [],t,h => by simp at h
 | [_],t,h => by simp at h
 | a :: b :: r,0,_ => by simp [pairsI]
 | a :: b :: r,t+1,h => by
  have ih:=pairsI_getD r t (by simp at h;omega)
  rw [show 2*(t+1)=2*t+1+1 by omega,show 2*t+1+1+1=(2*t+1)+1+1 by omega]
  simp only [pairsI,List.getD_cons_succ]
  exact ih
theorem lv_bd {own:List Int} (h:∀ x ∈ own,0 < x /\ x<=(1000000000:Nat)) {k:Nat} (hk:k<=15) {j:Nat} (hj:j < (lvI own k).length):0 < (lvI own k).getD j 0 /\ (lvI own k).getD j 0<=32768000000000:=by
 have h1:=lvI_bound h k ((lvI own k).getD j 0) (by simp [List.getD,hj])
 have h2:=pow_bd 1000000000 k _ h1.2 hk
 exact ⟨h1.1,by omega⟩
set_option maxRecDepth 20000 in
set_option maxHeartbeats 4000000 in
theorem cost_any (ao:Option Addr) (c:Nat) (cs:List Int) (m:Nat) (w:World) (hs:Seg w ao cs) (h320:cs.length<=320) (hok:cs.any nc=false) (h1:1<=m) (h15:m<=15) (hfew:(sing cs).length<=2 ^ m) {C:List Ab} (hC:Chs (sing cs) m C) :
  Calls Tryz.prog 98 #[.slice ao cs.length c,.int .i64 m] w fun e w' => ∃ r:Int,e = .returned (.int .i64 r) /\ r=isum (C.map Prod.fst) /\ Below w.heap.size w w':=by
 obtain ⟨i0,hi,hz0,hz1,hz2⟩:=info_parts info3
 have HF:=hid hfew
 have HC:=hid hC
 clear hfew hC
 go_enter Tryz.func98,Tryz.ntmps98
 go_wp2_with fail
 refine (rising_any _ _ _ _ hs h320 hok).mono ?_
 rintro e w1 ⟨v,rfl,own,lo,lc,rfl,hol,hsr,hpm,hsg,hb⟩
 have HOWN:Hid (∀ x ∈ own,0 < x /\ x<=(1000000000:Nat)):=fun x hx => by
  obtain ⟨y,hy,e⟩:=List.mem_map.1 (hpm.subset hx)
  have:=sing_bound hok y hy
  rw [<- e]
  exact ⟨this.1,this.2.1⟩
 have HEQ:Hid (isum (C.map Prod.fst)=costI own m):=cost_eq hsr hpm HF.out HC.out
 have HEN:Hid (2<=own.length->2*own.length - 2<=(lvI own m).length):=fun h => lvI_enough hsr hpm HF.out HC.out h
 have HSG:=hid hsg
 have HB:=hid hb
 have hol':own.length<=320:=by omega
 clear hs hsg hb hpm hsr hok hol HF HC
 by_cases h2:own.length < 2
 ·have HR:Hid (costI own m=isum own):=by show _=_;unfold costI;rw [if_pos h2]
  go_wp2
  go_loop [6,7] (fun p i => ∃ (k:Nat) (s:Int),k<=own.length /\ i = .int .i64 k /\ p = .int .i64 s /\ 0<=s /\ s<=1000000000*k /\ Hid (s=isum (own.take k))) (fun _ i => own.length - (intOf i).toNat)
  case atStart => exact ⟨0,0,by omega,rfl,rfl,by omega,by omega,rfl⟩
  case round =>
   obtain ⟨k,s,hk,rfl,rfl,hs0,hs1,HS⟩:=hrel
   by_cases hlt:k < own.length
   ·obtain ⟨b,off,rfl,hc⟩:=HSG.out (by omega)
    obtain ⟨x,hx⟩:∃ z,z=own.getD k 0:=⟨_,rfl⟩
    have cx:w1.cell? ⟨b,off+k,none⟩=some (.int .i64 x):=by rw [hx];exact hc k hlt
    have hxb:=HOWN.out x (by rw [hx];simp [List.getD,hlt])
    have HS':Hid (s+x=isum (own.take (k+1))):=by show _=_;rw [isum_take_succ own k hlt,HS.out,hx]
    clear hx hc
    go_wp2
    go_round
    case rel => exact ⟨k+1,s+x,by omega,by go_num,by go_num,by omega,by omega,HS'⟩
    case measure => simp [intOf];omega
   ·go_wp2
    go_ret
    refine ⟨s,rfl,?_,HB.out⟩
    rw [HEQ.out,HR.out,HS.out,List.take_of_length_le (by omega)]
 ·have HR:Hid (costI own m=isum ((lvI own m).take (2*own.length - 2))):=by show _=_;unfold costI;rw [if_neg h2]
  have hen:=HEN.out (by omega)
  have HEN':=hid hen
  have HL1:Hid (own.length=(lvI own 1).length /\ Seg w1 lo (lvI own 1) /\ Below w.heap.size w w1):=by rw [lvI_one];exact ⟨rfl,HSG.out,HB.out⟩
  clear hen
  go_wp2
  go_loopw [8,9] (fun v i wr => ∃ (k n:Nat) (lo:Option Addr) (lc:Nat),1<=k /\ k<=m /\ i = .int .i64 k /\ v = .slice lo n lc /\ n<=640 /\ Hid (n=(lvI own k).length /\ Seg wr lo (lvI own k) /\ Below w1.heap.size w1 wr)) (fun _ i _ => m - (intOf i).toNat)
  case atStart => exact ⟨1,own.length,lo,lc,by omega,h1,rfl,rfl,by omega,HL1.out.1,HL1.out.2.1,Below.refl _ _⟩
  case round =>
   obtain ⟨k,n,la,lc2,hk1,hkm,rfl,rfl,hn,HL⟩:=hrel
   obtain ⟨w2,hw2⟩:∃ w2,w2=wr:=⟨_,rfl⟩
   subst hw2
   by_cases hlt:k < m
   ·have H0:Hid (Below w2.heap.size w2 w2):=Below.refl _ _
    go_wp2
    go_loopw [10,11] (fun v i wr => ∃ t j:Nat,j<=n /\ i = .int .i64 j /\ Hid (j=2*t) /\ Hid (wr.ownsRow w2.heap.size 3 1 v ((pairsI (lvI own k)).take t).length (((pairsI (lvI own k)).take t).map (Value.int .i64)) /\ Below w2.heap.size w2 wr)) (fun _ i _ => n - (intOf i).toNat)
    case atStart => exact ⟨0,0,by omega,rfl,rfl,World.ownsRow_nil _ _ _ _,H0.out⟩
    case round =>
     clear H0
     obtain ⟨t,j,hj,rfl,HJ,HO⟩:=hrel
     obtain ⟨q,hq⟩:∃ q,q=(pairsI (lvI own k)).take t:=⟨_,rfl⟩
     rw [<- hq] at HO
     have hql:q.length<=640:=by have:=HJ.out;rw [hq,List.length_take];omega
     have HQ:=hid hq
     clear hq
     by_cases htn:j+1 < n
     ·obtain ⟨b,off,rfl,hc⟩:=HL.out.2.1 (by rw [<- HL.out.1];omega)
      obtain ⟨x,hx⟩:∃ z,z=(lvI own k).getD j 0:=⟨_,rfl⟩
      obtain ⟨y,hy⟩:∃ z,z=(lvI own k).getD (j+1) 0:=⟨_,rfl⟩
      have cx0:=hc j (by rw [<- HL.out.1];omega)
      have cy0:=hc (j+1) (by rw [<- HL.out.1];omega)
      have hbl:=World.block_lt_of_cell? w2 _ cx0
      rw [<- hx] at cx0
      rw [<- hy] at cy0
      have cx:wr.cell? ⟨b,off+j,none⟩=some (.int .i64 x):=(HO.out.2.cell (p:=⟨b,off+j,none⟩) hbl).trans cx0
      have cy:wr.cell? ⟨b,off+(j+1),none⟩=some (.int .i64 y):=(HO.out.2.cell (p:=⟨b,off+(j+1),none⟩) hbl).trans cy0
      have hxb:=lv_bd HOWN.out (show k<=15 by omega) (j:=j) (by rw [<- HL.out.1];omega)
      have hyb:=lv_bd HOWN.out (show k<=15 by omega) (j:=j+1) (by rw [<- HL.out.1];omega)
      rw [<- hx] at hxb
      rw [<- hy] at hyb
      have HY:Hid (q ++ [x+y]=(pairsI (lvI own k)).take (t+1)):=by
       show _=_
       have hjt:=HJ.out
       rw [take_snocI _ t (by rw [pairsI_length,<- HL.out.1];omega),pairsI_getD _ t (by rw [<- HL.out.1];omega),<- hjt,<- hx,<- hy,HQ.out]
      have b1:(0:Int)<=(j:Int):=by omega
      have b2:(j:Int) < (n:Int):=by omega
      have b3:(0:Int)<=(j:Int)+1:=by omega
      have b4:(j:Int)+1 < (n:Int):=by omega
      have e1:((j:Int)+1).toNat=j+1:=by omega
      have wr1:IntKind.i64.wrap ((j:Int)+1)=(j:Int)+1:=by rw [IntKind.wrap_i64];omega
      have wr2:IntKind.i64.wrap (x+y)=x+y:=by rw [IntKind.wrap_i64];omega
      have hown:=HO.out.1
      have hsz:=HO.out.2.size
      clear hx hy hc cx0 cy0
      go_wp2
      go_region_law
       ((refine step_append_lies _ (by rfl) _ _ _ (by rfl) w2.heap.size 3 i0 _ 1 8 Tryz.underlying23 hi hz0 hz1 hz2 rfl (by omega) u10 q.length (q.map (Value.int .i64)) (by rfl) ((hown.drew).alloc _)
           ⟨wr.heap.size,0,none⟩ 1 1 [.int .i64 (x+y)] (by rfl) (by rfl) (cell_one_new _ _ _) (by simp [Value.oneCell'])
           (by omega) (by unfold maxLen;omega) (by omega) (by simp;omega) (wr.heap.size+1) (by simp) ?_;intro gg cap wz hown1 hgrow hat hlt1))
      all_goals
       have R:=app_one (w0:=w2) rfl hown.drew HO.out.2.drew hown1 hgrow
       rw [HY.out] at R
       have RH:=hid R
       clear R hown1 hgrow hat hlt1 cx cy hown hsz wr1 wr2
       go_wp2
       go_roundw
       case rel => exact ⟨t+1,j+2,by omega,by go_num,by show _=_;have:=HJ.out;omega,RH.out⟩
       case measure => simp [intOf];omega
     ·have HE:Hid (q=pairsI (lvI own k)):=by
       show _=_
       have:=HJ.out
       rw [HQ.out,List.take_of_length_le]
       rw [pairsI_length,<- HL.out.1]
       omega
      obtain ⟨qa,qc,hv,hqs⟩:=owns_seg HO.out.1
      have HQS:=hid hqs
      clear hqs
      subst hv
      go_wp2_with fail
      refine (merged_any lo qa lc qc own q wr (HSG.out.below (HL.out.2.2.trans (HO.out.2.mono HL.out.2.2.size))) HQS.out (by omega) (by omega)).mono ?_
      rintro e w4 ⟨ra,rc,rfl,hrs,hrb⟩
      have hrl:(mrg own q).length<=640:=by
       rw [HE.out]
       have:=lvI_le own (k+1)
       rw [lvI] at this
       omega
      have HN:Hid ((mrg own q).length=(lvI own (k+1)).length /\ Seg w4 ra (lvI own (k+1)) /\ Below w1.heap.size w1 w4):=by
       have e:mrg own q=lvI own (k+1):=by rw [HE.out];rfl
       rw [<- e]
       exact ⟨rfl,hrs,(HL.out.2.2.trans (HO.out.2.mono HL.out.2.2.size)).trans (hrb.mono (Nat.le_trans HL.out.2.2.size HO.out.2.size))⟩
      obtain ⟨n2,hn2⟩:∃ n2,n2=(mrg own q).length:=⟨_,rfl⟩
      rw [<- hn2] at hrl HN ⊢
      clear hrs hrb hn2
      go_wp2
      go_roundw
      case rel => exact ⟨k+1,n2,ra,rc,by omega,by omega,by go_num,rfl,hrl,HN.out⟩
      case measure => simp [intOf];omega
   ·have ekm:k=m:=by omega
    subst ekm
    have hen:2*own.length - 2<=n:=by rw [HL.out.1];exact HEN'.out
    go_wp2
    go_loop [12,13] (fun p i => ∃ (j:Nat) (s:Int),j<=2*own.length - 2 /\ i = .int .i64 j /\ p = .int .i64 s /\ 0<=s /\ s<=32768000000000*j /\ Hid (s=isum ((lvI own k).take j))) (fun _ i => 2*own.length - 2 - (intOf i).toNat)
    case atStart => exact ⟨0,0,by omega,rfl,rfl,by omega,by omega,rfl⟩
    case round =>
     obtain ⟨j,s,hj,rfl,rfl,hs0,hs1,HS⟩:=hrel
     by_cases hlj:j < 2*own.length - 2
     ·obtain ⟨b,off,rfl,hc⟩:=HL.out.2.1 (by rw [<- HL.out.1];omega)
      obtain ⟨x,hx⟩:∃ z,z=(lvI own k).getD j 0:=⟨_,rfl⟩
      have cx:w2.cell? ⟨b,off+j,none⟩=some (.int .i64 x):=by rw [hx];exact hc j (by rw [<- HL.out.1];omega)
      have hxb:=lv_bd HOWN.out h15 (j:=j) (by rw [<- HL.out.1];omega)
      rw [<- hx] at hxb
      have HS':Hid (s+x=isum ((lvI own k).take (j+1))):=by show _=_;rw [isum_take_succ _ j (by rw [<- HL.out.1];omega),HS.out,hx]
      clear hx hc
      go_wp2
      go_round
      case rel => exact ⟨j+1,s+x,by omega,by go_num,by go_num,by omega,by omega,HS'⟩
      case measure => simp [intOf];omega
     ·have ej:j=2*own.length - 2:=by omega
      have HS2:Hid (s=isum ((lvI own k).take (2*own.length - 2))):=by show _=_;rw [HS.out,ej]
      clear ej
      go_wp2
      go_ret
      refine ⟨s,rfl,?_,HB.out.trans (HL.out.2.2.mono HB.out.size)⟩
      rw [HEQ.out,HR.out,HS2.out]
end Go.Proofs.YthdmjmnkhlpnnabGreatDoor
namespace Go.Proofs.YthdmjmnkhlpnnabGreatDoor
open Go.RowKit
def mayb (cs:List Int) (m:Int):Bool:=decide (cs.any nc=false /\ cs.length<=320 /\ 1<=m /\ m<=15 /\ (sing cs).length<=2 ^ m.toNat)
set_option maxRecDepth 20000 in
set_option maxHeartbeats 2000000 in
theorem may_any (ao:Option Addr) (c:Nat) (cs:List Int) (m:Int) (w:World) (hs:Seg w ao cs) (hl:cs.length<=1048576) :
  Calls Tryz.prog 57 #[.slice ao cs.length c,.int .i64 m] w fun e w' => e = .returned (.bool (mayb cs m)) /\ w=w':=by
 have HS:=hid hs
 clear hs
 go_enter Tryz.func57,Tryz.ntmps57
 go_wp2
 go_loop [5,6] (fun p i => ∃ k s:Nat,k<=cs.length /\ i = .int .i64 k /\ p = .int .i64 s /\ s<=k /\ Hid ((cs.take k).any nc=false) /\ Hid (s=(sing (cs.take k)).length)) (fun _ i => cs.length - (intOf i).toNat)
 case atStart => exact ⟨0,0,by omega,rfl,rfl,by omega,rfl,rfl⟩
 case round =>
  obtain ⟨k,s,hk,rfl,rfl,hsk,HN,HSG⟩:=hrel
  by_cases hlt:k < cs.length
  ·obtain ⟨b,off,rfl,hcc⟩:=HS.out (by omega)
   obtain ⟨x,hx⟩:∃ z,z=cs.getD k 0:=⟨_,rfl⟩
   have cx:w.cell? ⟨b,off+k,none⟩=some (.int .i64 x):=by rw [hx];exact hcc k hlt
   have HX:=hid hx
   clear hx hcc
   have BAD:Hid (nc x=true->mayb cs m=false):=fun h => by
    have h1:cs.any nc=true:=List.any_eq_true.2 ⟨x,by rw [HX.out];simp [List.getD,hlt],h⟩
    unfold mayb
    rw [h1]
    simp
   by_cases hx0:x < 0
   ·have HF:Hid (mayb cs m=false):=BAD.out (by simp [nc];omega)
    go_wp2
    go_ret
    exact ⟨ret_bool HF.out.symm,rfl⟩
   ·by_cases hx1:1000000000 < x
    ·have HF:Hid (mayb cs m=false):=BAD.out (by simp [nc];omega)
     go_wp2
     go_ret
     exact ⟨ret_bool HF.out.symm,rfl⟩
    ·have HN':Hid ((cs.take (k+1)).any nc=false):=by
      show _=_
      rw [take_snocI cs k hlt,List.any_append,HN.out,<- HX.out]
      simp [nc]
      omega
     by_cases hx2:0 < x
     ·have HS':Hid (s+1=(sing (cs.take (k+1))).length):=by show _=_;rw [sing_take_succ cs k hlt,<- HX.out,if_pos hx2,List.length_append,HSG.out];rfl
      go_wp2
      go_round
      case rel => exact ⟨k+1,s+1,by omega,by go_num,by go_num,by omega,HN',HS'⟩
      case measure => simp [intOf];omega
     ·have HS':Hid (s=(sing (cs.take (k+1))).length):=by show _=_;rw [sing_take_succ cs k hlt,<- HX.out,if_neg hx2,List.append_nil,HSG.out]
      go_wp2
      go_round
      case rel => exact ⟨k+1,s,by omega,by go_num,rfl,by omega,HN',HS'⟩
      case measure => simp [intOf];omega
  ·have HN':Hid (cs.any nc=false):=by have h:=HN.out;rw [List.take_of_length_le (by omega)] at h;exact h
   have HS':Hid (s=(sing cs).length):=by have h:=HSG.out;rw [List.take_of_length_le (by omega)] at h;exact h
   by_cases h1:cs.length<=320
   ·by_cases h2:1<=m
    ·by_cases h3:m<=15
     ·have hpw:=pow_le15 m.toNat (by omega)
      obtain ⟨pw,hpe⟩:∃ pw:Nat,pw=2 ^ m.toNat:=⟨_,rfl⟩
      rw [<- hpe] at hpw
      have HPE:=hid hpe
      clear hpe
      by_cases h4:s<=pw
      ·have HF:Hid (mayb cs m=true):=decide_eq_true ⟨HN'.out,h1,h2,h3,by rw [<- HS'.out,<- HPE.out];exact h4⟩
       go_wp2_with (go_at_call 96;refine (power_any _ _ (by omega) (by omega)).mono ?_;rintro e w' ⟨rfl,rfl⟩;rw [<- HPE.out])
       go_ret
       exact ⟨ret_bool HF.out.symm,rfl⟩
      ·have HF:Hid (mayb cs m=false):=decide_eq_false fun h => h4 (by rw [HS'.out,HPE.out];exact h.2.2.2.2)
       go_wp2_with (go_at_call 96;refine (power_any _ _ (by omega) (by omega)).mono ?_;rintro e w' ⟨rfl,rfl⟩;rw [<- HPE.out])
       go_ret
       exact ⟨ret_bool HF.out.symm,rfl⟩
     ·have HF:Hid (mayb cs m=false):=decide_eq_false fun h => h3 h.2.2.2.1
      go_wp2
      go_ret
      exact ⟨ret_bool HF.out.symm,rfl⟩
    ·have HF:Hid (mayb cs m=false):=decide_eq_false fun h => h2 h.2.2.1
     go_wp2
     go_ret
     exact ⟨ret_bool HF.out.symm,rfl⟩
   ·have HF:Hid (mayb cs m=false):=decide_eq_false fun h => h1 h.2.1
    go_wp2
    go_ret
    exact ⟨ret_bool HF.out.symm,rfl⟩
end Go.Proofs.YthdmjmnkhlpnnabGreatDoor
namespace Go.Proofs.YthdmjmnkhlpnnabGreatDoor
open Go.RowKit
set_option maxHeartbeats 400000 in
theorem blengths_number (ao:Option Addr) (c:Nat) (cs:List Int) (m:Int) (w:World) (hs:Seg w ao cs) (hl:cs.length<=maxLen) (hbad:320 < cs.length ∨ cs.any nc=true ∨ m < 1 ∨ 15 < m) :
  Calls Tryz.prog 56 #[.slice ao cs.length c,.int .i64 m] w fun e w' => e = .returned (.tuple #[.slice none 0 0,.int .i64 9]) /\ w=w':=by
 have HB:=hid hbad
 clear hbad
 go_enter Tryz.func56,Tryz.ntmps56
 go_wp2_with (go_at_call 97;refine (lengths_number _ _ _ _ _ hs hl HB.out).mono ?_;rintro e w' ⟨rfl,rfl⟩)
 go_ret2
 exact ⟨rfl,rfl⟩
set_option maxHeartbeats 400000 in
theorem blengths_many (ao:Option Addr) (c:Nat) (cs:List Int) (m:Nat) (w:World) (hs:Seg w ao cs) (h320:cs.length<=320) (hok:cs.any nc=false) (h1:1<=m) (h15:m<=15) (hmany:2 ^ m < (sing cs).length) :
  Calls Tryz.prog 56 #[.slice ao cs.length c,.int .i64 m] w fun e w' => e = .returned (.tuple #[.slice none 0 0,.int .i64 9]) /\ Below w.heap.size w w':=by
 have HM:=hid hmany
 clear hmany
 go_enter Tryz.func56,Tryz.ntmps56
 go_wp2_with (go_at_call 97;refine (lengths_many _ _ _ _ _ hs h320 hok h1 h15 HM.out).mono ?_;rintro e w' ⟨rfl,hb⟩)
 go_ret2
 exact ⟨rfl,hb⟩
set_option maxHeartbeats 400000 in
theorem blengths_det (ao:Option Addr) (c:Nat) (cs:List Int) (m:Nat) (w:World) (hs:Seg w ao cs) (h320:cs.length<=320) (hok:cs.any nc=false) (h1:1<=m) (h15:m<=15) (hfew:(sing cs).length<=2 ^ m) :
  Calls Tryz.prog 56 #[.slice ao cs.length c,.int .i64 m] w fun e w' => ∃ g C,e = .returned (.tuple #[.slice (some ⟨g,0,none⟩) cs.length cs.length,.int .i64 0]) /\ w.heap.size<=g /\ Row w' g (lens cs.length (C.flatMap Prod.snd)) /\ Chs (sing cs) m C /\ Below w.heap.size w w' /\ ChsD (sing cs) m C:=by
 have HM:=hid hfew
 clear hfew
 go_enter Tryz.func56,Tryz.ntmps56
 go_wp2_with (go_at_call 97;refine (lengths_det _ _ _ _ _ hs h320 hok h1 h15 HM.out).mono ?_;rintro e w' ⟨g,C,rfl,hg,hr,hc,hb,hd⟩)
 go_ret2
 exact ⟨g,C,rfl,hg,hr,hc,hb,hd⟩
def chl (cs:List Int) (C:List Ab):List Int:=lens cs.length (C.flatMap Prod.snd)
theorem chl_length (cs:List Int) (C:List Ab):(chl cs C).length=cs.length:=lens_length _ _
theorem chl_getD (cs:List Int) (C:List Ab) (i:Nat) (h:i < cs.length):(chl cs C).getD i 0=((occ C (i:Int):Nat):Int):=lens_getD _ _ _ h
theorem chl_eq (cs:List Int) (C:List Ab):chl cs C=(List.range cs.length).map fun j:Nat => ((occ C (j:Int):Nat):Int):=rfl
theorem chl_ok {cs:List Int} {m:Nat} {C:List Ab} (h1:1<=m) (h15:m<=15) (hfew:(sing cs).length<=2 ^ m) (h:Chs (sing cs) m C):(chl cs C).any nl=false /\ wt (chl cs C)<=32768:=by
 have g:=good_of h1 hfew h
 obtain ⟨w2,w1,w0⟩:=good_wt h15 g
 constructor
 ·cases e:(chl cs C).any nl with
  | false => rfl
  | true =>
   obtain ⟨z,hz,hn⟩:=List.any_eq_true.1 e
   rw [chl_eq] at hz
   obtain ⟨j,hj,rfl⟩:=List.mem_map.1 hz
   have hj':=List.mem_range.1 hj
   have:occ C (j:Int)<=15:=by
    by_cases h0:0 < cs.getD j 0
    ·have:=(g.some j hj' h0).2;omega
    ·have:=g.none j hj' (by omega);omega
   simp [nl] at hn
   omega
 ·rw [chl_eq]
  by_cases a:2<=(sing cs).length
  ·have:=w2 a;omega
  ·by_cases b:(sing cs).length=1
   ·have:=w1 b;omega
   ·have:=w0 (by omega);omega
end Go.Proofs.YthdmjmnkhlpnnabGreatDoor
namespace Go.Proofs.YthdmjmnkhlpnnabGreatDoor
open Go.RowKit
structure Pl (cs:List Int) (m:Nat) (C:List Ab) (k:Nat) (z L:Int):Prop where
 hz:cs.getD k 0=z
 hL:(chl cs C).getD k 0=L
 same:L=0 ↔ z=0
 lo:0<=L
 hi:L<=m
 z0:0<=z
 z1:z<=1000000000
theorem pl_of {cs:List Int} {m:Nat} {C:List Ab} (h1:1<=m) (hf:(sing cs).length<=2 ^ m) (hok:cs.any nc=false) (hc:Chs (sing cs) m C) {k:Nat} (hk:k < cs.length):Pl cs m C k (cs.getD k 0) ((chl cs C).getD k 0):=by
 have a:=good_of h1 hf hc
 have p1:=chl_getD cs C k hk
 have b:=nc_getD hok k
 refine ⟨rfl,rfl,?_,?_,?_,b.1,b.2⟩
 ·rw [p1]
  by_cases h0:0 < cs.getD k 0
  ·have:=a.some k hk h0;omega
  ·have:=a.none k hk (by omega);omega
 ·rw [p1];omega
 ·rw [p1]
  by_cases h0:0 < cs.getD k 0
  ·have:=a.some k hk h0;omega
  ·have:=a.none k hk (by omega);omega
theorem pl_order {cs:List Int} {m:Nat} {C:List Ab} (h1:1<=m) (hf:(sing cs).length<=2 ^ m) (hc:Chs (sing cs) m C) {j k:Nat} (hj:j < cs.length) (hk:k < cs.length) {z L z' L':Int} (a:Pl cs m C j z L) (b:Pl cs m C k z' L') (h0:0 < z) (hlt:z < z'):L'<=L:=by
 have h:=(good_of h1 hf hc).order j k hj hk (by rw [a.hz];exact h0) (by rw [a.hz,b.hz];exact hlt)
 have e1:=a.hL
 have e2:=b.hL
 rw [chl_getD cs C j hj] at e1
 rw [chl_getD cs C k hk] at e2
 omega
theorem chl_weight {cs:List Int} {m:Nat} {C:List Ab} (h1:1<=m) (h15:m<=15) (hf:(sing cs).length<=2 ^ m) (hc:Chs (sing cs) m C):(1 < (sing cs).length->wt (chl cs C)=32768) /\ ((sing cs).length=1->wt (chl cs C)=16384):=by
 obtain ⟨w2,w1,_⟩:=good_wt h15 (good_of h1 hf hc)
 exact ⟨fun h => w2 (by omega),w1⟩
theorem best_cost {cs:List Int} {m:Nat} {C:List Ab} (hc:Chs (sing cs) m C):psum (fun i => cs.getD i 0*(chl cs C).getD i 0) cs.length=isum (C.map Prod.fst):=by
 rw [psum_congr (g:=fun i => cs.getD i 0*((occ C (i:Int):Nat):Int)) (fun i hi => by rw [chl_getD cs C i hi])]
 exact chs_cost hc
set_option maxRecDepth 20000 in
set_option maxHeartbeats 4000000 in
theorem best_any (ao lo:Option Addr) (c lc:Nat) (cs:List Int) (m:Nat) (C:List Ab) (w:World) (hs:Seg w ao cs) (hls:Seg w lo (chl cs C)) (h320:cs.length<=320) (hok:cs.any nc=false) (h1:1<=m) (h15:m<=15) (hfew:(sing cs).length<=2 ^ m) (hC:Chs (sing cs) m C) :
  Calls Tryz.prog 58 #[.slice ao cs.length c,.int .i64 m,.slice lo cs.length lc] w fun e w' => e = .returned (.bool true) /\ Below w.heap.size w w':=by
 have HS:=hid hs
 have HLS:=hid hls
 have HOK:=hid hok
 have HF:=hid hfew
 have HC:=hid hC
 have HCH:=hid (chl_ok h1 h15 hfew hC)
 have HWT:=hid (chl_weight h1 h15 hfew hC)
 have H0:Hid (Below w.heap.size w w):=Below.refl _ _
 clear hs hls hok hfew hC
 go_enter Tryz.func58,Tryz.ntmps58
 go_wp2
 go_loopw [7,8,9] (fun p q i wr => ∃ (k s:Nat) (y:Int),k<=cs.length /\ s<=k /\ i = .int .i64 k /\ p = .int .i64 s /\ q = .int .i64 y /\ 0<=y /\ y<=15000000000*k /\ Hid (s=(sing (cs.take k)).length) /\ Hid (y=psum (fun i => cs.getD i 0*(chl cs C).getD i 0) k) /\ Hid (Below w.heap.size w wr)) (fun _ _ i _ => cs.length - (intOf i).toNat)
 case atStart => exact ⟨0,0,0,by omega,by omega,rfl,rfl,rfl,by omega,by omega,rfl,rfl,H0⟩
 case round =>
  clear H0
  obtain ⟨k,s,y,hk,hsk,rfl,rfl,rfl,hy0,hy1,HSN,HY,HK⟩:=hrel
  by_cases hlt:k < cs.length
  ·obtain ⟨z,L,hPl⟩:∃ z L,Pl cs m C k z L:=⟨_,_,pl_of h1 HF.out HOK.out HC.out hlt⟩
   have HPL:=hid hPl
   have hL0:=hPl.lo
   have hL1:=hPl.hi
   have hz0:=hPl.z0
   have hz1:=hPl.z1
   have hsame:=hPl.same
   obtain ⟨cb,co,rfl,hcc⟩:=HS.out (by omega)
   obtain ⟨lb,lf,rfl,hcl⟩:=HLS.out (by rw [chl_length];omega)
   have c1:wr.cell? ⟨cb,co+k,none⟩=some (.int .i64 z):=by
    have h:=hcc k hlt
    rw [hPl.hz] at h
    exact (HK.out.cell (p:=⟨cb,co+k,none⟩) (World.block_lt_of_cell? w _ h)).trans h
   have c2:wr.cell? ⟨lb,lf+k,none⟩=some (.int .i64 L):=by
    have h:=hcl k (by rw [chl_length];exact hlt)
    rw [hPl.hL] at h
    exact (HK.out.cell (p:=⟨lb,lf+k,none⟩) (World.block_lt_of_cell? w _ h)).trans h
   clear hPl hcc hcl
   have d3:decide (L < 0)=false:=by simp;omega
   have d4:decide ((m:Int) < L)=false:=by simp;omega
   have hzL:0<=z*L /\ z*L<=15000000000:=⟨Int.mul_nonneg (by omega) (by omega),by
    have a1:=Int.mul_le_mul_of_nonneg_left (show L<=15 by omega) hz0
    omega⟩
   have HSZ:Hid ((sing (cs.take (k+1))).length=s+if 0 < z then 1 else 0):=by
    show _=_
    rw [sing_take_succ cs k hlt,HPL.out.hz,List.length_append,<- HSN.out]
    split <;> rfl
   have HY':Hid (y+z*L=psum (fun i => cs.getD i 0*(chl cs C).getD i 0) (k+1)):=by
    show _=_
    rw [HY.out,<- HPL.out.hz,<- HPL.out.hL]
    rfl
   clear HY HSN
   go_upto_region 8 with fail
   go_cut [48] (fun s wx => s = .bool false /\ Hid (∃ q,wx=wr.drewN q))
   case first =>
    by_cases hzz:z=0
    ·have hLL:L=0:=by omega
     have d1:(L == 0)=true:=by simp;omega
     have d2:(z == 0)=true:=by simp;omega
     clear hsame
     go_quiet (fail)
     go_wp2
     go_meet
     exact ⟨rfl,_,rfl⟩
    ·have hLL:¬ L=0:=by omega
     have d1:(L == 0)=false:=by simp;omega
     have d2:(z == 0)=false:=by simp;omega
     clear hsame
     go_quiet (fail)
     go_wp2
     go_meet
     exact ⟨rfl,_,rfl⟩
   case rest =>
   obtain ⟨rfl,HQ⟩:=hcut
   obtain ⟨q,rfl⟩:=HQ.out
   clear d3 d4 HQ hsame
   go_upto_if 53 with fail
   go_cut [7] (fun s7 wx => s7 = .int .i64 ((s+if 0 < z then 1 else 0:Nat):Int) /\ wx=wr.drewN q)
   case first =>
    by_cases hzz:0 < z
    ·go_wp2
     go_meet
     exact ⟨by simp [hzz],rfl⟩
    ·go_wp2
     go_meet
     exact ⟨by rw [if_neg (show ¬ 0 < z by omega)];rfl,rfl⟩
   case rest =>
   obtain ⟨rfl,rfl⟩:=hcut
   obtain ⟨s2,hs2⟩:∃ s2:Nat,s2=s+if 0 < z then 1 else 0:=⟨_,rfl⟩
   have hs2k:s2<=k+1:=by rw [hs2];split <;> omega
   rw [<- hs2] at HSZ ⊢
   clear hs2
   go_wp2
   go_quiet (fail)
   clear c1 c2
   go_wp2
   go_loopw [10] (fun j wj => ∃ t:Nat,t<=k /\ j = .int .i64 t /\ Hid (Below w.heap.size w wj)) (fun j _ => k - (intOf j).toNat)
   case atStart => exact ⟨0,by omega,rfl,below_drewN' (below_drewN' HK.out _) _⟩
   case round =>
    clear HK
    obtain ⟨t,ht,rfl,HK⟩:=hrel
    by_cases htk:t < k
    ·obtain ⟨z',L',hPl⟩:∃ z L,Pl cs m C t z L:=⟨_,_,pl_of h1 HF.out HOK.out HC.out (by omega)⟩
     have hz0':=hPl.z0
     have c1:wr.cell? ⟨cb,co+k,none⟩=some (.int .i64 z):=by
      obtain ⟨_,_,e,hcc⟩:=HS.out (by omega)
      injection e with e
      injection e with e1 e2
      subst e1 e2
      have h:=hcc k hlt
      rw [HPL.out.hz] at h
      exact (HK.out.cell (p:=⟨cb,co+k,none⟩) (World.block_lt_of_cell? w _ h)).trans h
     have c2:wr.cell? ⟨lb,lf+k,none⟩=some (.int .i64 L):=by
      obtain ⟨_,_,e,hcc⟩:=HLS.out (by rw [chl_length];omega)
      injection e with e
      injection e with e1 e2
      subst e1 e2
      have h:=hcc k (by rw [chl_length];exact hlt)
      rw [HPL.out.hL] at h
      exact (HK.out.cell (p:=⟨lb,lf+k,none⟩) (World.block_lt_of_cell? w _ h)).trans h
     have c3:wr.cell? ⟨cb,co+t,none⟩=some (.int .i64 z'):=by
      obtain ⟨_,_,e,hcc⟩:=HS.out (by omega)
      injection e with e
      injection e with e1 e2
      subst e1 e2
      have h:=hcc t (by omega)
      rw [hPl.hz] at h
      exact (HK.out.cell (p:=⟨cb,co+t,none⟩) (World.block_lt_of_cell? w _ h)).trans h
     have c4:wr.cell? ⟨lb,lf+t,none⟩=some (.int .i64 L'):=by
      obtain ⟨_,_,e,hcc⟩:=HLS.out (by rw [chl_length];omega)
      injection e with e
      injection e with e1 e2
      subst e1 e2
      have h:=hcc t (by rw [chl_length];omega)
      rw [hPl.hL] at h
      exact (HK.out.cell (p:=⟨lb,lf+t,none⟩) (World.block_lt_of_cell? w _ h)).trans h
     have HO1:Hid (0 < z'->z' < z->L<=L'):=fun a b => pl_order h1 HF.out HC.out (by omega) hlt hPl HPL.out a b
     have HO2:Hid (0 < z->z < z'->L'<=L):=fun a b => pl_order h1 HF.out HC.out hlt (by omega) HPL.out hPl a b
     have htc:(t:Int) < (cs.length:Int):=by omega
     clear hPl
     go_upto_region 16 with fail
     go_cut [127] (fun s wx => s = .bool false /\ Hid (∃ q,wx=wr.drewN q))
     case first =>
      by_cases g1:z' < z
      ·have d1:decide (z' < z)=true:=by simp;omega
       have d4:decide (z < z')=false:=by simp;omega
       by_cases g2:0 < z'
       ·have d2:decide (0 < z')=true:=by simp;omega
        have d3:decide (L' < L)=false:=by have:=HO1.out g2 g1;simp;omega
        go_quiet (fail)
        go_wp2
        go_meet
        exact ⟨rfl,_,rfl⟩
       ·have d2:decide (0 < z')=false:=by simp;omega
        go_quiet (fail)
        go_wp2
        go_meet
        exact ⟨rfl,_,rfl⟩
      ·have d1:decide (z' < z)=false:=by simp;omega
       by_cases g3:z < z'
       ·have d4:decide (z < z')=true:=by simp;omega
        by_cases g4:0 < z
        ·have d5:decide (0 < z)=true:=by simp;omega
         have d6:decide (L < L')=false:=by have:=HO2.out g4 g3;simp;omega
         go_quiet (fail)
         go_wp2
         go_meet
         exact ⟨rfl,_,rfl⟩
        ·have d5:decide (0 < z)=false:=by simp;omega
         go_quiet (fail)
         go_wp2
         go_meet
         exact ⟨rfl,_,rfl⟩
       ·have d4:decide (z < z')=false:=by simp;omega
        go_quiet (fail)
        go_wp2
        go_meet
        exact ⟨rfl,_,rfl⟩
     case rest =>
     obtain ⟨rfl,HQ⟩:=hcut
     obtain ⟨q,rfl⟩:=HQ.out
     clear c1 c2 c3 c4 HQ
     go_wp2
     go_roundw
     case rel => exact ⟨t+1,by omega,by go_num,below_drewN' HK.out _⟩
     case measure => simp [intOf];omega
    ·have HSZ':Hid (s2=(sing (cs.take (k+1))).length):=HSZ.out.symm
     go_wp2
     go_roundw
     case rel => exact ⟨k+1,s2,y+z*L,by omega,hs2k,by go_num,rfl,by go_num,by omega,by omega,HSZ',HY',HK⟩
     case measure => simp [intOf];omega
  ·have HSN':Hid (s=(sing cs).length):=by have h:=HSN.out;rw [List.take_of_length_le (by omega)] at h;exact h
   have HYE:Hid (y=isum (C.map Prod.fst)):=by
    show _=_
    rw [HY.out,show k=cs.length by omega]
    exact best_cost HC.out
   obtain ⟨W,hW⟩:∃ W:Nat,W=wt (chl cs C):=⟨_,rfl⟩
   have hWs:(1 < s->W=32768) /\ (s=1->W=16384):=by rw [hW,HSN'.out];exact HWT.out
   have WC:Hid (Calls Tryz.prog 95 #[.slice lo cs.length lc] wr fun e w' => e = .returned (.int .i64 W) /\ wr=w'):=by
    have h:=refweight_any lo lc (chl cs C) wr (HLS.out.below HK.out) (by rw [chl_length];exact h320) HCH.out.1
    rw [chl_length,<- hW] at h
    exact h
   clear hW
   go_wp2_with fail
   refine WC.out.mono ?_
   rintro e w' ⟨rfl,rfl⟩
   clear WC
   by_cases s1:1 < s
   ·have hWe:W=32768:=hWs.1 s1
    subst hWe
    clear hWs
    go_wp2_with (first | (go_at_call 96;refine (power_any _ _ (by omega) (by omega)).mono ?_;rintro e w' ⟨rfl,rfl⟩) | (go_at_call 98;refine (cost_any _ _ _ _ _ (HS.out.below HK.out) h320 HOK.out h1 h15 HF.out HC.out).mono ?_;rintro e w5 ⟨r,rfl,hr,hb5⟩;rw [<- HYE.out] at hr;have HB5:=hid hb5;clear hb5;subst hr))
    go_ret
    exact ⟨rfl,HK.out.trans (HB5.out.mono HK.out.size)⟩
   ·by_cases s0:s=1
    ·have hWe:W=16384:=hWs.2 s0
     subst hWe
     clear hWs
     subst s0
     go_wp2_with (first | (go_at_call 96;refine (power_any _ _ (by omega) (by omega)).mono ?_;rintro e w' ⟨rfl,rfl⟩) | (go_at_call 98;refine (cost_any _ _ _ _ _ (HS.out.below HK.out) h320 HOK.out h1 h15 HF.out HC.out).mono ?_;rintro e w5 ⟨r,rfl,hr,hb5⟩;rw [<- HYE.out] at hr;have HB5:=hid hb5;clear hb5;subst hr))
     go_ret
     exact ⟨rfl,HK.out.trans (HB5.out.mono HK.out.size)⟩
    ·clear hWs
     have s00:s=0:=by omega
     subst s00
     go_wp2_with (first | (go_at_call 96;refine (power_any _ _ (by omega) (by omega)).mono ?_;rintro e w' ⟨rfl,rfl⟩) | (go_at_call 98;refine (cost_any _ _ _ _ _ (HS.out.below HK.out) h320 HOK.out h1 h15 HF.out HC.out).mono ?_;rintro e w5 ⟨r,rfl,hr,hb5⟩;rw [<- HYE.out] at hr;have HB5:=hid hb5;clear hb5;subst hr))
     go_ret
     exact ⟨rfl,HK.out.trans (HB5.out.mono HK.out.size)⟩
end Go.Proofs.YthdmjmnkhlpnnabGreatDoor
namespace Go.Proofs.YthdmjmnkhlpnnabGreatDoor
open Go.RowKit
def Ans (cs:List Int) (m:Int) (L:List Int):Prop :=
 (mayb cs m=true /\ ∃ C,L=chl cs C /\ Chs (sing cs) m.toNat C /\ ChsD (sing cs) m.toNat C) ∨ (mayb cs m=false /\ L=[])
theorem Ans.det {cs:List Int} {m:Int} {L L':List Int} (h:Ans cs m L) (h':Ans cs m L'):L=L':=by
 rcases h with ⟨h0,C,e,_,d⟩ | ⟨h0,e⟩
 ·rcases h' with ⟨_,C',e',_,d'⟩ | ⟨h1,_⟩
  ·rw [e,e',d.det d']
  ·rw [h0] at h1;cases h1
 ·rcases h' with ⟨h1,_⟩ | ⟨_,e'⟩
  ·rw [h0] at h1;cases h1
  ·rw [e,e']
theorem mayb_out {cs:List Int} {m:Int} (h:mayb cs m=true):cs.any nc=false /\ cs.length<=320 /\ 1<=m /\ m<=15 /\ (sing cs).length<=2 ^ m.toNat:=of_decide_eq_true h
theorem Ans.le {cs:List Int} {m:Int} {L:List Int} (h:Ans cs m L):L.length<=320:=by
 rcases h with ⟨h0,C,e,_,_⟩ | ⟨_,e⟩
 ·have:=mayb_out h0
  rw [e,chl_length]
  exact this.2.1
 ·rw [e];simp
def lerr (cs:List Int) (m:Int):Int:=if mayb cs m=true then 0 else 9
theorem blen_any (ao:Option Addr) (c:Nat) (cs:List Int) (m:Int) (w:World) (hs:Seg w ao cs) (hl:cs.length<=maxLen) :
  Calls Tryz.prog 56 #[.slice ao cs.length c,.int .i64 m] w fun e w' => ∃ v L,e = .returned (.tuple #[v,.int .i64 (lerr cs m)]) /\ New w w' v L /\ Ans cs m L /\ Below w.heap.size w w':=by
 by_cases hm:mayb cs m=true
 ·obtain ⟨m1,m2,m3,m4,m5⟩:=mayb_out hm
  have e:((m.toNat:Nat):Int)=m:=by omega
  have h:=blengths_det ao c cs m.toNat w hs m2 m1 (by omega) (by omega) m5
  rw [e] at h
  refine h.mono ?_
  rintro en w' ⟨g,C,rfl,hg,hr,hc,hb,hd⟩
  refine ⟨_,chl cs C,by unfold lerr;rw [if_pos hm],.inr ⟨g,by rw [chl_length],hg,hr⟩,.inl ⟨hm,C,rfl,hc,hd⟩,hb⟩
 ·have hm':mayb cs m=false:=by simpa using hm
  have e9:lerr cs m=9:=by unfold lerr;rw [if_neg hm]
  by_cases hbad:320 < cs.length ∨ cs.any nc=true ∨ m < 1 ∨ 15 < m
  ·refine (blengths_number ao c cs m w hs hl hbad).mono ?_
   rintro en w' ⟨rfl,rfl⟩
   exact ⟨_,[],by rw [e9],.inl ⟨rfl,rfl⟩,.inr ⟨hm',rfl⟩,Below.refl _ _⟩
  ·have h320:cs.length<=320:=by omega
   have hnc:cs.any nc=false:=by
    cases e:cs.any nc with
    | false => rfl
    | true => exact absurd (Or.inr (Or.inl e)) hbad
   have e:((m.toNat:Nat):Int)=m:=by omega
   have h:=blengths_many ao c cs m.toNat w hs h320 hnc (by omega) (by omega) (by
     rcases Nat.lt_or_ge (2 ^ m.toNat) (sing cs).length with h | h
     · exact h
     ·exact absurd (decide_eq_true ⟨hnc,h320,by omega,by omega,h⟩) hm)
   rw [e] at h
   refine h.mono ?_
   rintro en w' ⟨rfl,hb⟩
   exact ⟨_,[],by rw [e9],.inl ⟨rfl,rfl⟩,.inr ⟨hm',rfl⟩,hb⟩
set_option maxRecDepth 20000 in
set_option maxHeartbeats 4000000 in
theorem bbest_any {w0 w:World} {bk:Nat} {L:List (Value × Int)} {nx:Int} {lv mv gv:Value} {gs zs:List Int} (m:Int) (hB:Book w bk L nx lv mv gv gs) (hL:L.length<=90000000) (hx1:-900000000<=nx) (hx2:nx<=0)
  (ao:Option Addr) (c:Nat) (hseg:Seg w0 ao zs) (h0:Below w0.heap.size w0 w) (hbk:w0.heap.size<=bk) (hn:ao=none->zs.length=0 /\ c=0) (hz:zs.length<=1048576) :
  Calls Tryz.prog 31 #[.pointer (some ⟨bk,0,none⟩),.slice ao zs.length c,.int .i64 m] w fun e w' => e = .returned (.bool true) /\ ∃ L' lv' mv' gv' gs',L'.length=L.length+8 /\ Book w' bk L' (nx - 2) lv' mv' gv' gs' /\ To (Bo bk L lv mv gv) (Bo bk L' lv' mv' gv') w w':=by
 have HB:=hid hB
 have HS:=hid hseg
 have HN:=hid hn
 have H0:=hid h0
 clear hB hseg hn h0
 have hm:zs.length<=maxLen:=by unfold maxLen;omega
 obtain ⟨er,her⟩:∃ er,er=lerr zs m:=⟨_,rfl⟩
 have HER:=hid her
 clear her
 go_enter Tryz.func31,Tryz.ntmps31
 go_wp2_with fail
 refine (hands_any HB.out ao c (HS.out.below H0.out) HN.out hz).mono ?_
 rintro e w1 ⟨gv1,rfl,B1,b1⟩
 obtain ⟨ga,gc,rfl,S1⟩:=owns_seg B1.hg
 have HB1:=hid B1
 have HT1:=hid b1
 have Hb1:Hid (Below bk w w1):=HB.out.to b1
 have HS1:=hid S1
 clear B1 b1 S1
 go_wp2_with fail
 refine (blen_any ga gc zs m w1 HS1.out hm).mono ?_
 rintro e w2 ⟨v1,O,rfl,N1,A1,b2⟩
 obtain ⟨va1,rfl,n1,r1⟩:=N1.shape
 have Hb2:=hid b2
 have Hn1:=hid n1
 have Hr1:=hid r1
 have HA:=hid A1
 have hcl:=A1.le
 clear N1 b2 n1 r1 A1
 rw [<- HER.out]
 go_wp2_with fail
 refine (blen_any ga gc zs m w2 (HS1.out.below Hb2.out) hm).mono ?_
 rintro e w3 ⟨v2,O2,rfl,N2,A2,b3⟩
 have hOO:=Ans.det A2 HA.out
 subst hOO
 obtain ⟨va2,rfl,n2,r2⟩:=N2.shape
 have Hb3:=hid b3
 have Hn2:=hid n2
 have Hr2:=hid r2
 clear N2 b3 n2 r2 A2
 rw [<- HER.out]
 have hcm:O2.length<=maxLen:=by unfold maxLen;omega
 have H3:Hid (Below w0.heap.size w0 w3):=H0.out.trans ((Hb1.out.mono hbk).trans ((Hb2.out.mono (by have:=Hb1.out.size;have:=H0.out.size;omega)).trans (Hb3.out.mono (by have:=Hb2.out.size;have:=Hb1.out.size;have:=H0.out.size;omega))))
 have z1:=Hb1.out.size
 have z2:=Hb2.out.size
 have z3:=Hb3.out.size
 have HSa:Hid (Seg w3 va1 O2):=seg_of Hn1.out fun b hb => by
  obtain ⟨g,e,_,hr⟩:=Hr1.out b hb
  exact ⟨g,e,hr.below Hb3.out⟩
 have HSb:Hid (Seg w3 va2 O2):=seg_of Hn2.out fun b hb => by
  obtain ⟨g,e,_,hr⟩:=Hr2.out b hb
  exact ⟨g,e,hr⟩
 have HSg:Hid (Seg w3 ga zs):=(HS1.out.below Hb2.out).below Hb3.out
 have HSl:Hid (Seg w3 ao zs):=HS.out.below H3.out
 go_wp2_with fail
 refine (same_self va2 va1 _ _ O2 w3 HSb.out HSa.out hcm).mono ?_
 rintro e w5 ⟨rfl,q5,hw5⟩
 have Hb5:Hid (Below w3.heap.size w3 w5):=by rw [hw5];exact below_N q5
 clear hw5
 have z5:=Hb5.out.size
 go_wp2_with fail
 refine (may_any ao c zs m w5 (HSl.out.below Hb5.out) hz).mono ?_
 rintro e w6 ⟨rfl,hw6⟩
 subst hw6
 have HNO:Hid (mayb zs m=false->O2.length=0 /\ er=9):=fun h => by
  rcases HA.out with ⟨h1,_⟩ | ⟨_,h2⟩
  ·rw [h] at h1;cases h1
  ·refine ⟨by rw [h2];rfl,?_⟩
   rw [HER.out];unfold lerr;rw [h];rfl
 have HYES:Hid (mayb zs m=true->er=0 /\ Calls Tryz.prog 58 #[.slice ao zs.length c,.int .i64 m,.slice va1 O2.length O2.length] w5 fun e w' => e = .returned (.bool true) /\ Below w5.heap.size w5 w'):=fun h => by
  refine ⟨by rw [HER.out];unfold lerr;rw [if_pos h],?_⟩
  rcases HA.out with ⟨_,C,h2,h3,_⟩ | ⟨h1,_⟩
  ·obtain ⟨m1,m2,m3,m4,m5⟩:=mayb_out h
   have e:((m.toNat:Nat):Int)=m:=by omega
   have hsa:=HSa.out.below Hb5.out
   rw [h2] at hsa
   have hb:=best_any ao va1 c zs.length zs m.toNat C w5 (HSl.out.below Hb5.out) hsa m2 m1 (by omega) (by omega) m5 h3
   rw [e] at hb
   rw [h2,chl_length]
   exact hb
  ·rw [h] at h1;cases h1
 go_upto_region 6 with fail
 obtain ⟨ol,hol⟩:∃ ol,ol=O2.length:=⟨_,rfl⟩
 rw [<- hol] at HNO HYES hcl ⊢
 have HOL:=hid hol
 clear hol hcm
 go_cut [14] (fun s wx => ∃ b14:Bool,s = .bool b14 /\ Hid (mayb zs m=false->b14=true) /\ wx=w5)
 case first =>
  by_cases hO:ol=0
  ·by_cases h9:er=9
   ·have h9b:(er == 9)=true:=by simp [h9]
    have hOb:((ol:Int) == 0)=true:=by simp;omega
    clear h9 hO
    go_wp2_with (go_at_call 46;refine (num_any _ _).mono ?_;rintro e w' ⟨rfl,rfl⟩)
    go_meet
    exact ⟨true,rfl,fun _ => rfl,rfl⟩
   ·have h9b:(er == 9)=false:=by simp [h9]
    have hOb:((ol:Int) == 0)=true:=by simp;omega
    clear hO
    have HF:Hid (mayb zs m=false->(false:Bool)=true):=fun h => absurd (HNO.out h).2 h9
    go_wp2_with (go_at_call 46;refine (num_any _ _).mono ?_;rintro e w' ⟨rfl,rfl⟩)
    go_meet
    exact ⟨false,rfl,HF,rfl⟩
  ·have hOb:((ol:Int) == 0)=false:=by simp;omega
   have HF:Hid (mayb zs m=false->(false:Bool)=true):=fun h => absurd (HNO.out h).1 hO
   go_wp2_with (go_at_call 46;refine (num_any _ _).mono ?_;rintro e w' ⟨rfl,rfl⟩)
   go_meet
   exact ⟨false,rfl,HF,rfl⟩
 case rest =>
 obtain ⟨b14,rfl,HB14,rfl⟩:=hcut
 go_upto_if 46 with fail
 obtain ⟨w5,hw5⟩:∃ w5,w5=wc:=⟨_,rfl⟩
 subst hw5
 obtain ⟨mb,hmb⟩:∃ b,b=mayb zs m:=⟨_,rfl⟩
 rw [<- hmb] at HYES HB14 ⊢
 clear hmb
 go_cut [13,14,15] (fun _ s _ wx => s = .bool true /\ Hid (Below w5.heap.size w5 wx))
 case first =>
  cases mb with
  | true =>
   have he0:(er == 0)=true:=by simp [(HYES.out rfl).1]
   have HC:=hid (HYES.out rfl).2
   go_wp2_with (go_at_call 58;refine HC.out.mono ?_;rintro e w' ⟨rfl,hb⟩)
   go_meet
   exact ⟨rfl,hb⟩
  | false =>
   have h14:b14=true:=HB14.out rfl
   have HR:Hid (Below w5.heap.size w5 w5):=Below.refl _ _
   subst h14
   go_wp2
   go_meet
   exact ⟨rfl,HR⟩
 case rest =>
 obtain ⟨rfl,Hb6⟩:=hcut
 obtain ⟨w6,hw6⟩:∃ w6,w6=wc:=⟨_,rfl⟩
 subst hw6
 have z6:=Hb6.out.size
 have Hb36:Hid (Below w3.heap.size w3 w6):=Hb5.out.trans (Hb6.out.mono Hb5.out.size)
 clear HYES HNO HB14
 go_wp2_with fail
 refine (same_self ga ao _ _ zs w6 (HSg.out.below Hb36.out) (HSl.out.below Hb36.out) hm).mono ?_
 rintro e w7 ⟨rfl,q7,hw7⟩
 have Hb7:Hid (Below w3.heap.size w3 w7):=by rw [hw7];exact Hb36.out.trans ((below_N q7).mono Hb36.out.size)
 clear hw7
 have z7:=Hb7.out.size
 have HB7:Hid (Book w7 bk L nx lv mv (.slice ga zs.length gc) zs):=((HB1.out.below Hb2.out).below Hb3.out).below Hb7.out
 go_wp2_with fail
 refine (takes_any HB7.out hz).mono ?_
 rintro e w8 ⟨rfl,⟨gs8,B8⟩,b8,G8⟩
 have HB8:=hid B8
 have Hb8:=hid b8
 have HG8:=hid G8
 clear B8 b8 G8
 have z8:=Hb8.out.size
 have r1:Hid (∀ b,va1=some b -> ∃ g,b=⟨g,0,none⟩ /\ w1.heap.size<=g /\ g < w2.heap.size /\ Row w8 g O2):=fun b hb => by
  obtain ⟨g,e,hg,hr⟩:=Hr1.out b hb
  refine ⟨g,e,hg,hr.lt,?_⟩
  have hr7:=(hr.below Hb3.out).below Hb7.out
  unfold Row
  rw [HG8.out.block g hr7.lt (fun e => (HB1.out.fresh hg).2 (.inr (.inr (.inr (.inl e.symm)))))]
  exact hr7
 have r2:Hid (∀ b,va2=some b -> ∃ g,b=⟨g,0,none⟩ /\ w2.heap.size<=g /\ g < w3.heap.size /\ Row w8 g O2):=fun b hb => by
  obtain ⟨g,e,hg,hr⟩:=Hr2.out b hb
  refine ⟨g,e,hg,hr.lt,?_⟩
  have hr7:=hr.below Hb7.out
  unfold Row
  rw [HG8.out.block g hr7.lt (fun e => (HB1.out.fresh (g:=g) (by omega)).2 (.inr (.inr (.inr (.inl e.symm)))))]
  exact hr7
 have Hn1':Hid (va1=none->ol=0 /\ ol=0):=by rw [HOL.out];exact Hn1
 have Hn2':Hid (va2=none->ol=0 /\ ol=0):=by rw [HOL.out];exact Hn2
 have T8:Hid (To (Bo bk L lv mv gv) (Bo bk L lv mv (.slice ga zs.length gc)) w w8):=(((HT1.out.below Hb2.out).below Hb3.out).below Hb7.out).trans ⟨(Fr.refl _ w7).grown HG8.out (fun k hk => .inr (.inr (.inr (.inl hk)))),fun _ h => .inl h⟩
 have r1':Hid (∀ b,va1=some b -> ∃ g,b=⟨g,0,none⟩ /\ g < w2.heap.size):=fun b hb => by
  obtain ⟨g,e,_,h2,_⟩:=r1.out b hb
  exact ⟨g,e,h2⟩
 go_wp2_with fail
 refine (owns_any HB8.out va1 ol hcl (by omega) (by omega) hx2 Hn1'.out ?_ ?_ ?_).mono ?_
 ·intro b hb
  obtain ⟨g,e,_,_,hr⟩:=r1.out b hb
  exact ⟨g,_,e,HOL.out.symm,hr⟩
 ·intro g hg
  obtain ⟨g',e,h1,_,_⟩:=r1.out _ hg
  injection e with e
  subst e
  exact (HB1.out.fresh h1).1
 ·intro g hg
  obtain ⟨g',e,h1,_,_⟩:=r1.out _ hg
  injection e with e
  subst e
  exact (HB1.out.fresh h1).2
 rintro e w9 ⟨rfl,N9,lv9,mv9,l9,B9,k9⟩
 have HB9:=hid B9
 have Hk9:=hid k9
 have Hl9:=hid l9
 clear B9 k9 l9
 have R2:Hid (∀ b,va2=some b -> ∃ g,b=⟨g,0,none⟩ /\ w2.heap.size<=g /\ Row w9 g O2 /\ ¬ Bo bk (L ++ N9) lv9 mv9 (.slice ga zs.length gc) g):=fun b hb => by
  obtain ⟨g,e,h1,h2,hr⟩:=r2.out b hb
  obtain ⟨q1,q2⟩:=own_two Hk9.out (HB1.out.fresh (g:=g) (by omega)).2 hr r1'.out h1
  exact ⟨g,e,h1,q1,q2⟩
 go_wp2_with fail
 refine (owns_any HB9.out va2 ol hcl (by rw [List.length_append,Hl9.out];omega) (by omega) (by omega) Hn2'.out ?_ ?_ ?_).mono ?_
 ·intro b hb
  obtain ⟨g,e,_,hr,_⟩:=R2.out b hb
  exact ⟨g,_,e,HOL.out.symm,hr⟩
 ·intro g hg
  obtain ⟨g',e,h1,_,_⟩:=R2.out _ hg
  injection e with e
  subst e
  exact (HB1.out.fresh (g:=g) (by omega)).1
 ·intro g hg
  obtain ⟨g',e,_,_,h1⟩:=R2.out _ hg
  injection e with e
  subst e
  exact h1
 rintro e w10 ⟨rfl,N10,lv10,mv10,l10,B10,k10⟩
 have HB10:=hid B10
 have Hk10:=hid k10
 have Hl10:=hid l10
 clear B10 k10 l10
 go_wp2
 go_ret
 refine ⟨rfl,L ++ N9 ++ N10,lv10,mv10,.slice ga zs.length gc,gs8,by simp [Hl9.out,Hl10.out],?_,?_⟩
 ·have:=HB10.out
  rw [show nx - 1 - 1=nx - 2 by omega] at this
  exact this
 ·refine (((T8.out.more fun k hk => ?_).trans Hk9.out).more fun k hk => ?_).trans Hk10.out
  ·exact own_slice (P:=fun k => w.heap.size<=k) (fun b hb => by obtain ⟨g,e,h,_⟩:=r1.out b hb;exact ⟨g,e,by omega⟩) hk
  ·exact own_slice (P:=fun k => w.heap.size<=k) (fun b hb => by obtain ⟨g,e,h,_⟩:=r2.out b hb;exact ⟨g,e,by omega⟩) hk
end Go.Proofs.YthdmjmnkhlpnnabGreatDoor
