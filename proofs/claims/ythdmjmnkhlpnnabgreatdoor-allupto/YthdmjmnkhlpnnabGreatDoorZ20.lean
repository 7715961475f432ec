import Derived.Test.YthdmjmnkhlpnnabGreatDoorZ19
namespace Go.Proofs.YthdmjmnkhlpnnabGreatDoor
open Go.RowKit
theorem sm_eq (l:List Int) (k:Nat) (hk:k<=l.length) (h:∀ j,j < k->l.getD j 0=l.getD 0 0) (he:k=l.length ∨ l.getD k 0 ≠ l.getD 0 0):smR l=k:=by
 have h1:=sm_all l k hk h
 have h2:=sm_le l
 rcases he with he | he
 ·omega
 ·apply Classical.byContradiction
  intro hc
  exact he (sm_same l k (by omega))
set_option maxHeartbeats 800000 in
theorem sameFrom_any (ao:Option Addr) (c:Nat) (l:List Int) (w:World) (hs:Seg w ao l) (hm:l.length<=320) (h0:0 < l.length) :
  Calls Tryz.prog 196 #[.slice ao l.length c] w fun e w' => e = .returned (.int .i64 (smR l)) /\ Below w.heap.size w w':=by
 obtain ⟨b,off,rfl,hcell⟩:=hs h0
 go_enter Tryz.func196,Tryz.ntmps196
 go_wp2
 go_loopw [3] (fun i wr => ∃ k:Nat,0 < k /\ k<=l.length /\ i = .int .i64 k /\ Hid (∀ j,j < k->l.getD j 0=l.getD 0 0) /\ Hid (Below w.heap.size w wr)) (fun i _ => l.length - (intOf i).toNat)
 case atStart => exact ⟨1,by omega,by omega,rfl,fun j hj => by rw [show j=0 by omega],Below.refl _ _⟩
 case round =>
  obtain ⟨k,hk0,hk,rfl,HS,HB⟩:=hrel
  have cellw:∀ j,j < l.length->wr.cell? ⟨b,off+j,none⟩=some (.int .i64 (l.getD j 0)):=fun j hj => (HB.out.cell (p:=⟨b,off+j,none⟩) (cell_in (hcell j hj))).trans (hcell j hj)
  have x0:=cellw 0 h0
  rw [Nat.add_zero] at x0
  obtain ⟨z0,hz0⟩:∃ z,z=l.getD 0 0:=⟨_,rfl⟩
  by_cases hlt:k < l.length
  ·have x1:=cellw k hlt
   obtain ⟨z1,hz1⟩:∃ z,z=l.getD k 0:=⟨_,rfl⟩
   rw [<- hz0] at x0
   rw [<- hz1] at x1
   by_cases he:z1=z0
   ·have HE:Hid (l.getD k 0=l.getD 0 0):=(by show _=_;rw [<- hz1,<- hz0,he])
    subst he
    clear cellw hz0 hz1
    have d1:decide ((k:Int) < (l.length:Int))=true:=by simp;omega
    go_upto_region 2 with fail
    go_quiet (fail)
    go_wp2
    refine ⟨⟨k+1,by omega,by omega,by simp,fun j hj => ?_,below_drewN' HB.out _⟩,by simp [intOf];omega⟩
    by_cases e:j=k
    ·rw [e];exact HE.out
    ·exact HS.out j (by omega)
   ·have HE:Hid (l.getD k 0 ≠ l.getD 0 0):=(by show _ ≠ _;rw [<- hz1,<- hz0];exact he)
    have d2:(z1 == z0)=false:=by simp [he]
    clear cellw hz0 hz1
    have d1:decide ((k:Int) < (l.length:Int))=true:=by simp;omega
    go_upto_region 2 with fail
    go_quiet (fail)
    go_wp2
    go_ret
    rw [sm_eq l k hk HS.out (.inr HE.out)]
    exact ⟨rfl,below_drewN' HB.out _⟩
  ·have d1:decide ((k:Int) < (l.length:Int))=false:=by simp;omega
   rw [<- hz0] at x0
   clear cellw hz0
   go_upto_region 2 with fail
   go_quiet (fail)
   go_wp2
   go_ret
   rw [sm_eq l k hk HS.out (.inl (by omega))]
   exact ⟨rfl,below_drewN' HB.out _⟩
set_option maxHeartbeats 800000 in
theorem says_any (ao:Option Addr) (c:Nat) (l:List Int) (s a:Nat) (w:World) (hs:Seg w ao l) (hm:l.length<=320) (h0:a < l.length) (h1:16<=s) (h2:s<=18) :
  Calls Tryz.prog 197 #[.int .i64 s,.slice ao l.length c,.int .i64 a] w fun e w' => e = .returned (.bool (if s=16 then decide (0 < a /\ l.getD (a - 1) 0=l.getD a 0) else decide (l.getD a 0=0))) /\ Below w.heap.size w w':=by
 obtain ⟨b,off,rfl,hcell⟩:=hs (by omega)
 have x0:=hcell a h0
 obtain ⟨z,hz⟩:∃ z,z=l.getD a 0:=⟨_,rfl⟩
 rw [<- hz] at x0 ⊢
 by_cases h16:s=16
 ·subst h16
  rw [if_pos rfl]
  by_cases ha:0 < a
  ·have x1:=hcell (a - 1) (by omega)
   obtain ⟨y,hy⟩:∃ y,y=l.getD (a - 1) 0:=⟨_,rfl⟩
   rw [<- hy] at x1 ⊢
   have e1:(a:Int) - 1=((a - 1:Nat):Int):=by omega
   have d1:decide ((0:Int) < (a:Int))=true:=by simp;omega
   have e2:decide (0 < a /\ y=z)=(y == z):=by rw [Bool.eq_iff_iff];simp [ha]
   rw [e2]
   clear hcell hz hy e2
   have ha2:a - 1 < l.length:=by omega
   go_enter Tryz.func197,Tryz.ntmps197
   go_upto_region 2 with fail
   go_quiet (fail)
   go_wp2
   go_ret
   exact ⟨rfl,below_drewN' (Below.refl _ _) _⟩
  ·obtain rfl:a=0:=by omega
   clear hcell hz
   go_enter Tryz.func197,Tryz.ntmps197
   go_upto_region 2 with fail
   go_quiet (fail)
   go_wp2
   go_ret
   exact ⟨by simp,below_drewN' (Below.refl _ _) _⟩
 ·rw [if_neg h16]
  have d1:((s:Int) == 16)=false:=by simp;omega
  have e2:decide (z=0)=(z == 0):=by rw [Bool.eq_iff_iff];simp
  rw [e2]
  clear hcell hz e2
  go_enter Tryz.func197,Tryz.ntmps197
  go_wp2
  go_ret
  exact ⟨rfl,Below.refl _ _⟩
theorem most_any (l n:Nat) (w:World) (hl:l<=1000) (hn:n<=16) :
  Calls Tryz.prog 198 #[.agg #[.int .i64 l,.int .i64 n]] w fun e w' => e = .returned (.int .i64 ((l+2 ^ n - 1:Nat):Int)) /\ Below w.heap.size w w':=by
 have h1:2 ^ n<=2 ^ 16:=Nat.pow_le_pow_right (by omega) hn
 have h2:(2:Nat) ^ 16=65536:=by decide
 have h3:=Nat.two_pow_pos n
 obtain ⟨P,hP⟩:∃ P:Nat,P=2 ^ n:=⟨_,rfl⟩
 have e1:(2:Int) ^ n=(P:Int):=by rw [hP];push_cast;rfl
 have e2:(1:Int)*2 ^ n=(P:Int):=by rw [e1];omega
 rw [<- hP] at h1 h3 ⊢
 have w1:IntKind.i64.wrap (P:Int)=(P:Int):=by rw [IntKind.wrap_i64];omega
 clear hP h2
 go_enter Tryz.func198,Tryz.ntmps198
 go_wp2
 go_quiet (fail)
 go_wp2
 go_ret
 refine ⟨ret_int ?_,below_drewN' ((Below.refl _ _).alloc (Nat.le_refl _) _) _⟩
 omega
def sayB (l:List Int) (a s:Nat):Bool:=if s=16 then decide (0 < a /\ l.getD (a - 1) 0=l.getD a 0) else decide (l.getD a 0=0)
def hit (l:List Int) (a s:Nat):Prop:=(tms s).1<=smR (l.drop a) /\ sayB l a s=true
theorem rnA_hit (l:List Int) (a s:Nat) (h1:16<=s) (h2:s<=18) (hh:hit l a s) (hn:∀ t,s < t->t<=18 -> ¬ hit l a t):rnA l a=(s,min (smR (l.drop a)) ((tms s).1+2 ^ (tms s).2 - 1)):=by
 have e18:hit l a 18 ↔ (11<=smR (l.drop a) /\ l.getD a 0=0):=by simp [hit,sayB,tms]
 have e17:hit l a 17 ↔ (3<=smR (l.drop a) /\ l.getD a 0=0):=by simp [hit,sayB,tms]
 have e16:hit l a 16 ↔ (3<=smR (l.drop a) /\ 0 < a /\ l.getD (a - 1) 0=l.getD a 0):=by simp [hit,sayB,tms]
 unfold rnA
 have:s=16 ∨ s=17 ∨ s=18:=by omega
 rcases this with rfl | rfl | rfl
 ·rw [if_neg (fun h => hn 18 (by omega) (by omega) (e18.2 h)),if_neg (fun h => hn 17 (by omega) (by omega) (e17.2 h)),if_pos (e16.1 hh)];rfl
 ·rw [if_neg (fun h => hn 18 (by omega) (by omega) (e18.2 h)),if_pos (e17.1 hh)];rfl
 ·rw [if_pos (e18.1 hh)];rfl
theorem rnA_none (l:List Int) (a:Nat) (hn:∀ t,16<=t->t<=18 -> ¬ hit l a t):rnA l a=((l.getD a 0).toNat,1):=by
 have e18:hit l a 18 ↔ (11<=smR (l.drop a) /\ l.getD a 0=0):=by simp [hit,sayB,tms]
 have e17:hit l a 17 ↔ (3<=smR (l.drop a) /\ l.getD a 0=0):=by simp [hit,sayB,tms]
 have e16:hit l a 16 ↔ (3<=smR (l.drop a) /\ 0 < a /\ l.getD (a - 1) 0=l.getD a 0):=by simp [hit,sayB,tms]
 unfold rnA
 rw [if_neg (fun h => hn 18 (by omega) (by omega) (e18.2 h)),if_neg (fun h => hn 17 (by omega) (by omega) (e17.2 h)),if_neg (fun h => hn 16 (by omega) (by omega) (e16.2 h))]
theorem Seg.drop {w:World} {b off:Nat} {l:List Int} (h:∀ j,j < l.length->w.cell? ⟨b,off+j,none⟩=some (.int .i64 (l.getD j 0))) (a:Nat):Seg w (some ⟨b,off+a,none⟩) (l.drop a):=fun _ => ⟨b,off+a,rfl,fun j hj => by
 rw [List.length_drop] at hj
 rw [drop_getD,Nat.add_assoc]
 exact h (a+j) (by omega)⟩
set_option maxHeartbeats 1600000 in
theorem runAt_any (ao:Option Addr) (c:Nat) (l:List Int) (a:Nat) (w:World) (hs:Seg w ao l) (hm:l.length<=320) (h0:a < l.length) (hz:∀ i,0<=l.getD i 0 /\ l.getD i 0<=15) (hc:l.length<=c) :
  Calls Tryz.prog 187 #[.slice ao l.length c,.int .i64 a] w fun e w' => e = .returned (.agg #[.int .i64 (rnA l a).1,.int .i64 (rnA l a).2]) /\ Below w.heap.size w w':=by
 obtain ⟨b,off,rfl,hcell⟩:=hs (by omega)
 have HSF:Hid (∀ u:World,Below w.heap.size w u->Calls Tryz.prog 196 #[.slice (some ⟨b,off+a,none⟩) (l.length - a) (c - a)] u fun e w' => e = .returned (.int .i64 (smR (l.drop a))) /\ Below u.heap.size u w'):=fun u hu => by
  have:=sameFrom_any (some ⟨b,off+a,none⟩) (c - a) (l.drop a) u ((Seg.drop hcell a).below hu) (by rw [List.length_drop];omega) (by rw [List.length_drop];omega)
  rw [List.length_drop] at this
  exact this
 have HSY:Hid (∀ (s:Nat) (u:World),16<=s->s<=18->Below w.heap.size w u->Calls Tryz.prog 197 #[.int .i64 s,.slice (some ⟨b,off,none⟩) l.length c,.int .i64 a] u fun e w' => e = .returned (.bool (sayB l a s)) /\ Below u.heap.size u w'):=fun s u h1 h2 hu => says_any _ c l s a u (hs.below hu) hm h0 h1 h2
 have hsm:=sm_le (l.drop a)
 rw [List.length_drop] at hsm
 have hsp:=sm_pos l a h0
 have HZ:=hid hz
 have HCL:=hid hcell
 obtain ⟨sa,hsa⟩:∃ x,x=smR (l.drop a):=⟨_,rfl⟩
 rw [<- hsa] at HSF hsm hsp
 have HSA:=hid hsa
 have x0:=hcell a h0
 clear hsa hz hcell hs
 have HBX:Hid ((w.alloc (.cells #[.int .i64 0,.int .i64 0] 225)).heap[w.heap.size]? = some (.cells #[.int .i64 0,.int .i64 0] 225 (0,0))):=heap_alloc_new w _
 have HB0:=hid ((Below.refl w.heap.size w).alloc (Nat.le_refl _) (.cells #[.int .i64 0,.int .i64 0] 225))
 go_enter Tryz.func187,Tryz.ntmps187
 go_wp2_with (go_at_call 196;refine (HSF.out _ HB0.out).mono ?_;rintro e w1 ⟨rfl,hb1⟩;have HBX1:=hid ((hb1.block w.heap.size (by simp)).trans HBX.out);have HB1:=hid (HB0.out.trans (hb1.mono HB0.out.size));clear hb1)
 clear HBX HB0
 obtain ⟨D,hD⟩:∃ D,D=w.heap.size:=⟨_,rfl⟩
 have HDD:=hid hD
 rw [<- hD] at HBX1 ⊢
 clear hD
 go_loopw [6] (fun i wr => ∃ s:Nat,15<=s /\ s<=18 /\ i = .int .i64 s /\ Hid (∀ t,s < t->t<=18 -> ¬ hit l a t) /\ Hid (wr.heap[D]? = some (.cells #[.int .i64 0,.int .i64 0] 225 (0,0))) /\ Hid (Below w.heap.size w wr)) (fun i _ => (intOf i).toNat)
 case atStart => exact ⟨18,by omega,by omega,rfl,fun t h1 h2 => by omega,HBX1,HB1⟩
 case round =>
  clear HBX1 HB1
  obtain ⟨s,hs1,hs2,rfl,HN,HX,HB⟩:=hrel
  have c0:wr.cell? ⟨D,0,none⟩=some (.int .i64 0):=by rw [cell_of_row _ _ 0 _ _ _ HX.out];rfl
  have c1:wr.cell? ⟨D,1,none⟩=some (.int .i64 0):=by rw [cell_of_row _ _ 1 _ _ _ HX.out];rfl
  have lD:=cell_in c0
  by_cases h16:16<=s
  ·have ht:=tms_le s
   obtain ⟨T1,hT1⟩:∃ x,x=(tms s).1:=⟨_,rfl⟩
   obtain ⟨T2,hT2⟩:∃ x,x=(tms s).2:=⟨_,rfl⟩
   have HTM:Hid (Calls Tryz.prog 169 #[.int .i64 s] wr fun e w' => e = .returned (.agg #[.int .i64 T1,.int .i64 T2]) /\ Below wr.heap.size wr w'):=by
    have:=times_any (s:Int) (by omega) (by omega) wr
    rw [Int.toNat_natCast,<- hT1,<- hT2] at this
    exact this
   rw [<- hT1,<- hT2] at ht
   obtain ⟨B,hB⟩:∃ B,B=sayB l a s:=⟨_,rfl⟩
   have HBB:=hid hB
   have HSY1:Hid (∀ u:World,Below w.heap.size w u->Calls Tryz.prog 197 #[.int .i64 s,.slice (some ⟨b,off,none⟩) l.length c,.int .i64 a] u fun e w' => e = .returned (.bool B) /\ Below u.heap.size u w'):=fun u hu => by rw [hB];exact HSY.out s u h16 hs2 hu
   have HT:=hid (And.intro hT1 hT2)
   clear hT1 hT2 hB
   have HXD:Hid (∀ u:World,Below wr.heap.size wr u->u.heap[D]? = some (.cells #[.int .i64 0,.int .i64 0] 225 (0,0))):=fun u hu => (hu.block D lD).trans HX.out
   have HNX:Hid (¬ hit l a s -> ∀ t,s - 1 < t->t<=18 -> ¬ hit l a t):=fun h t h1 h2 => by
    by_cases e:t=s
    ·rw [e];exact h
    ·exact HN.out t (by omega) h2
   by_cases hsame:T1<=sa
   ·have d1:decide ((T1:Int)<=(sa:Int))=true:=by simp;omega
    cases B
    ·go_wp2_with (first | (go_at_call 197;refine (HSY1.out _ HB4.out).mono ?_;rintro e w5 ⟨rfl,hb5⟩;have HB5:=hid (HB4.out.trans (hb5.mono HB4.out.size));have HW5:=hid (HW4.out.trans (hb5.mono HW4.out.size))) | (go_at_call 169;refine HTM.out.mono ?_;rintro e w3 ⟨rfl,hb3⟩;have HW4:=hid (hb3.alloc hb3.size (.cells #[.int .i64 T1,.int .i64 T2] 165));have HB4:=hid (HB.out.trans (HW4.out.mono HB.out.size))))
     refine ⟨⟨s - 1,by omega,by omega,int_eq (by omega),HNX.out (fun h => ?_),HXD.out _ HW5.out,HB5.out⟩,by simp [intOf];omega⟩
     have h2:=h.2
     rw [<- HBB.out] at h2
     cases h2
    ·go_wp2_with (first | (go_at_call 198;refine (most_any T1 T2 _ (by omega) (by omega)).mono ?_;rintro e w6 ⟨rfl,hb6⟩;have HB6:=hid (HB5.out.trans (hb6.mono HB5.out.size));have HX6:=hid ((hb6.block D (by have:=HW5.out.size;omega)).trans (HXD.out _ HW5.out));have g0:w6.cell? ⟨D,0,none⟩=some (.int .i64 0):=(by rw [cell_of_row _ _ 0 _ _ _ HX6.out];rfl);have g1:w6.cell? ⟨D,1,none⟩=some (.int .i64 0):=(by rw [cell_of_row _ _ 1 _ _ _ HX6.out];rfl);have f0:w6.frozen? ⟨D,0,none⟩=false:=(by simp [World.frozen?,HX6.out]);have f1:w6.frozen? ⟨D,1,none⟩=false:=(by simp [World.frozen?,HX6.out])) | (go_at_call 197;refine (HSY1.out _ HB4.out).mono ?_;rintro e w5 ⟨rfl,hb5⟩;have HB5:=hid (HB4.out.trans (hb5.mono HB4.out.size));have HW5:=hid (HW4.out.trans (hb5.mono HW4.out.size));have HX5:=hid ((hb5.block w3.heap.size (by simp)).trans (heap_alloc_new w3 _));have m0:w5.cell? ⟨w3.heap.size,0,none⟩=some (.int .i64 T1):=(by rw [cell_of_row _ _ 0 _ _ _ HX5.out];rfl);have m1:w5.cell? ⟨w3.heap.size,1,none⟩=some (.int .i64 T2):=(by rw [cell_of_row _ _ 1 _ _ _ HX5.out];rfl)) | (go_at_call 169;refine HTM.out.mono ?_;rintro e w3 ⟨rfl,hb3⟩;have HW4:=hid (hb3.alloc hb3.size (.cells #[.int .i64 T1,.int .i64 T2] 165));have HB4:=hid (HB.out.trans (HW4.out.mono HB.out.size))))
     all_goals
      have hDw:D=w.heap.size:=HDD.out
      have hhit:hit l a s:=⟨by rw [<- HT.out.1,<- HSA.out];exact hsame,HBB.out.symm⟩
      have hr:=rnA_hit l a s h16 hs2 hhit HN.out
      rw [<- HT.out.1,<- HT.out.2,<- HSA.out] at hr
      rw [hr]
      first
       | (refine bodyPost_ret (v:=.agg #[.int .i64 s,.int .i64 ((T1+2 ^ T2 - 1:Nat):Int)]) (by simp [results,Tryz.results187,go_sem,g0,g1]) rfl ⟨?_,?_⟩
          · have e:min sa (T1+2 ^ T2 - 1)=T1+2 ^ T2 - 1:=by omega
            simp only [e]
          · rw [hDw]
            exact (HB6.out.setCell (p:=⟨w.heap.size,0,none⟩) (Nat.le_refl _) _).setCell (p:=⟨w.heap.size,1,none⟩) (Nat.le_refl _) _)
       | (refine bodyPost_ret (v:=.agg #[.int .i64 s,.int .i64 sa]) (by simp [results,Tryz.results187,go_sem,g0,g1]) rfl ⟨?_,?_⟩
          · have e:min sa (T1+2 ^ T2 - 1)=sa:=by omega
            simp only [e]
          · rw [hDw]
            exact (HB6.out.setCell (p:=⟨w.heap.size,0,none⟩) (Nat.le_refl _) _).setCell (p:=⟨w.heap.size,1,none⟩) (Nat.le_refl _) _)
   ·have d1:decide ((T1:Int)<=(sa:Int))=false:=by simp;omega
    go_wp2_with (go_at_call 169;refine HTM.out.mono ?_;rintro e w3 ⟨rfl,hb3⟩;have HW4:=hid (hb3.alloc hb3.size (.cells #[.int .i64 T1,.int .i64 T2] 165));have HB4:=hid (HB.out.trans (HW4.out.mono HB.out.size)))
    refine ⟨⟨s - 1,by omega,by omega,int_eq (by omega),HNX.out (fun h => ?_),HXD.out _ HW4.out,HB4.out⟩,by simp [intOf];omega⟩
    have h2:=h.1
    rw [<- HT.out.1,<- HSA.out] at h2
    omega
  ·obtain rfl:s=15:=by omega
   have f0:wr.frozen? ⟨D,0,none⟩=false:=by simp [World.frozen?,HX.out]
   have f1:wr.frozen? ⟨D,1,none⟩=false:=by simp [World.frozen?,HX.out]
   have x1:=(HB.out.cell (p:=⟨b,off+a,none⟩) (cell_in x0)).trans x0
   have hr:=rnA_none l a (fun t h1 h2 => HN.out t (by omega) h2)
   have hza:=HZ.out a
   obtain ⟨z,hz⟩:∃ z:Nat,(z:Int)=l.getD a 0:=⟨(l.getD a 0).toNat,by omega⟩
   rw [<- hz] at x1
   have e3:(l.getD a 0).toNat=z:=by omega
   have HR:=hid (hr.trans (by rw [e3]))
   clear x0 hr hza hz e3
   go_wp2
   have hDw:D=w.heap.size:=HDD.out
   rw [HR.out]
   refine bodyPost_ret (v:=.agg #[.int .i64 z,.int .i64 1]) (by simp [results,Tryz.results187,go_sem,c0,c1]) rfl ⟨rfl,?_⟩
   rw [hDw]
   exact (HB.out.setCell (p:=⟨w.heap.size,0,none⟩) (Nat.le_refl _) _).setCell (p:=⟨w.heap.size,1,none⟩) (Nat.le_refl _) _
end Go.Proofs.YthdmjmnkhlpnnabGreatDoor
