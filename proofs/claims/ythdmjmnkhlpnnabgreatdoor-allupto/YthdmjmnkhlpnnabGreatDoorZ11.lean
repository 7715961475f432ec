import Derived.Test.YthdmjmnkhlpnnabGreatDoorZ10
import Derived.Test.YthdmjmnkhlpnnabGreatDoorZ03
namespace Go.Proofs.YthdmjmnkhlpnnabGreatDoor
open Go.RowKit
def rvs (zs:List Int):List Int:=(List.range zs.length).map fun i => (rv (zs.getD i 0).toNat (bt zs i):Int)
theorem rvs_length (zs:List Int):(rvs zs).length=zs.length:=by simp [rvs]
theorem rvs_getD (zs:List Int) (i:Nat) (h:i < zs.length):(rvs zs).getD i 0=((syp zs i).1:Int):=by simp [rvs,h,syp]
structure Cde (w:World) (v:Value) (zs:List Int):Prop where
 st:∃ la ca na cb,v = .agg #[.slice la zs.length ca,.slice na zs.length cb] /\ Seg w la zs /\ Seg w na (rvs zs)
theorem Wb.alloc {w:World} {B:Nat} {ov:Value} {V L:Nat} {pv sv:Value} (h:Wb w B ov V L pv sv) (o:Obj):Wb (w.alloc o) B ov V L pv sv:=h.below ((Below.refl _ w).alloc (Nat.le_refl _) o)
theorem kw_from {w u w':World} {B:Nat} {ov ov':Value} (hb:Below w.heap.size w u) (hk:Kw B ov u w') (hm:Moved ov ov' u):Kw B ov w w' /\ Moved ov ov' w :=
 ⟨Kw.trans ((Kw.refl B ov w).below hb) (Moved.refl ov w) hk,Moved.trans (Moved.refl ov w) hb.size hm⟩
theorem kw_then {a w w':World} {B:Nat} {ov ov' ov'':Value} (h:Kw B ov a w) (hm:Moved ov ov' a) (hk:Kw B ov' w w') (hm2:Moved ov' ov'' w):Kw B ov a w' /\ Moved ov ov'' a :=
 ⟨h.trans hm hk,hm.trans h.env.size hm2⟩
theorem cell_in {w:World} {b o:Nat} {v:Value} (h:w.cell? ⟨b,o,none⟩=some v):b < w.heap.size:=by
 rcases Nat.lt_or_ge b w.heap.size with h2 | h2
 ·exact h2
 ·have h3:w.heap[b]? = none:=Array.getElem?_eq_none h2
  simp [World.cell?,h3] at h
set_option maxHeartbeats 800000 in
theorem wsym_any (w:World) (B:Nat) (ov:Value) (V L:Nat) (pv sv:Value) (cv:Value) (zs:List Int) (i:Nat) (h:Wb w B ov V L pv sv) (hc:Cde w cv zs) (hi:i < zs.length) (hok:zs.any nl=false) (hl:zs.length<=320) (hL:L<=34359738368) :
  Calls Tryz.prog 162 #[.pointer (some ⟨B,0,none⟩),.int .i64 i,cv] w fun e w' => e = .returned (.tuple #[]) /\ ∃ ov',Wb w' B ov' (V+2 ^ L*(syp zs i).1) (L+(syp zs i).2) pv sv /\ Kw B ov w w' /\ Moved ov ov' w:=by
 obtain ⟨la,ca,na,cb,rfl,h1,h2⟩:=hc.st
 obtain ⟨b1,o1,rfl,c1⟩:=h1 (by omega)
 obtain ⟨b2,o2,rfl,c2⟩:=h2 (by rw [rvs_length];omega)
 have x1:=c1 i hi
 have x2:=c2 i (by rw [rvs_length];exact hi)
 have hz:=ok_getD hok i
 rw [rvs_getD zs i hi] at x2
 have hv:=syp_fit zs i
 have e2:zs.getD i 0=((syp zs i).2:Int):=by simp only [syp];omega
 have h15:(syp zs i).2<=15:=by simp only [syp];omega
 rw [e2] at x1
 obtain ⟨v,hvv⟩:∃ v,v=(syp zs i).1:=⟨_,rfl⟩
 obtain ⟨n,hnn⟩:∃ n,n=(syp zs i).2:=⟨_,rfl⟩
 rw [<- hvv] at x2 hv ⊢
 rw [<- hnn] at x1 hv h15 ⊢
 have HN:Hid (∀ u:World,Wb u B ov V L pv sv->Calls Tryz.prog 73 #[.pointer (some ⟨B,0,none⟩),.int .i64 v,.int .i64 n] u fun e w' => e = .returned (.tuple #[]) /\ ∃ ov',Wb w' B ov' (V+2 ^ L*v) (L+n) pv sv /\ Kw B ov u w' /\ Moved ov ov' u):=fun u hu => wnum_any u B ov V L pv sv v n hu hv (by omega) hL
 have HW:=hid h
 clear h hc h1 h2 c1 c2 hz e2 hvv hnn hv
 go_enter Tryz.func162,Tryz.ntmps162
 have l1:=cell_in x1
 have l2:=cell_in x2
 go_upto_region 1 with fail
 have HB:=hid ((Below.refl w.heap.size w).alloc (Nat.le_refl _) (.cells #[Value.slice (some ⟨b1,o1,none⟩) zs.length ca,Value.slice (some ⟨b2,o2,none⟩) zs.length cb] 171))
 have HW1:=hid (HW.out.below HB.out)
 go_region_with (go_at_call 73;refine (HN.out _ (HW1.out.drewN 1)).mono ?_;rintro e w' ⟨rfl,hh⟩)
 all_goals
  go_end0
  obtain ⟨ov',a1,a2,a3⟩:=hh
  obtain ⟨b1,b2⟩:=kw_from (below_drewN' HB.out 1) a2 a3
  exact ⟨rfl,ov',a1,b1,b2⟩
set_option maxHeartbeats 800000 in
theorem within_any (w:World) (B:Nat) (ov:Value) (V L:Nat) (pv sv:Value) (x l n:Nat) (h:Wb w B ov V L pv sv) (hx:l<=x) (hx2:x - l < 2 ^ n) (hxx:x<=100000) (hn:n<=16) (hL:L<=34359738368) :
  Calls Tryz.prog 163 #[.pointer (some ⟨B,0,none⟩),.int .i64 x,.agg #[.int .i64 l,.int .i64 n]] w fun e w' => e = .returned (.tuple #[]) /\ ∃ ov',Wb w' B ov' (V+2 ^ L*(x - l)) (L+n) pv sv /\ Kw B ov w w' /\ Moved ov ov' w:=by
 obtain ⟨v,hv⟩:∃ v,v=x - l:=⟨_,rfl⟩
 have e1:(x:Int) - (l:Int)=(v:Int):=by omega
 rw [<- hv] at hx2 ⊢
 have HN:Hid (∀ u:World,Wb u B ov V L pv sv->Calls Tryz.prog 73 #[.pointer (some ⟨B,0,none⟩),.int .i64 v,.int .i64 n] u fun e w' => e = .returned (.tuple #[]) /\ ∃ ov',Wb w' B ov' (V+2 ^ L*v) (L+n) pv sv /\ Kw B ov u w' /\ Moved ov ov' u):=fun u hu => wnum_any u B ov V L pv sv v n hu hx2 hn hL
 have HB:=hid ((Below.refl w.heap.size w).alloc (Nat.le_refl _) (.cells #[.int .i64 l,.int .i64 n] 165))
 have HW1:=hid (h.below HB.out)
 clear h hv hx2
 go_enter Tryz.func163,Tryz.ntmps163
 go_wp2_with (go_at_call 73;refine (HN.out _ HW1.out).mono ?_;rintro e w' ⟨rfl,hh⟩)
 go_end0
 obtain ⟨ov',a1,a2,a3⟩:=hh
 obtain ⟨b1,b2⟩:=kw_from HB.out a2 a3
 exact ⟨rfl,ov',a1,b1,b2⟩
def mixR (zs:List Int) (k:Nat):List Int:=(rvs zs).take k ++ (bts zs).drop k
theorem mixR_length (zs:List Int) (k:Nat):(mixR zs k).length=zs.length:=by simp [mixR,rvs_length,bts_length];omega
theorem mixR_zero (zs:List Int):mixR zs 0=bts zs:=by simp [mixR]
theorem mixR_all (zs:List Int):mixR zs zs.length=rvs zs:=by
 unfold mixR
 rw [List.take_of_length_le (by rw [rvs_length];exact Nat.le_refl _),List.drop_of_length_le (by rw [bts_length];exact Nat.le_refl _),List.append_nil]
theorem mixR_get (zs:List Int) (k:Nat) (h:k < zs.length):(mixR zs k).getD k 0=(bt zs k:Int):=by
 unfold mixR
 have hl:((rvs zs).take k).length=k:=by rw [List.length_take,rvs_length];omega
 rw [List.getD_eq_getElem?_getD,List.getElem?_append_right (by omega),hl,List.getElem?_drop,Nat.sub_self,Nat.add_zero,<- List.getD_eq_getElem?_getD,bts_getD zs k h]
theorem mixR_set (zs:List Int) (k:Nat) (h:k < zs.length):(mixR zs k).set k ((syp zs k).1:Int)=mixR zs (k+1):=by
 have hl:((rvs zs).take k).length=k:=by rw [List.length_take,rvs_length];omega
 unfold mixR
 rw [List.set_append_right _ _ (by omega),hl,Nat.sub_self]
 have e1:(bts zs).drop k=(bts zs).getD k 0 :: (bts zs).drop (k+1):=by
  rw [List.drop_eq_getElem_cons (by rw [bts_length];exact h),List.getD_eq_getElem?_getD,List.getElem?_eq_getElem (by rw [bts_length];exact h)]
  rfl
 rw [e1,List.set_cons_zero,take_snocI (rvs zs) k (by rw [rvs_length];exact h),rvs_getD zs k h,List.append_assoc]
 rfl
theorem Row.keepA {w w':World} {g:Nat} {zs:List Int} (h:Row w g zs) (hb:Below w.heap.size w w'):Row w' g zs:=(hb.block g h.lt).trans h
set_option maxHeartbeats 1600000 in
theorem newCode_any (ao:Option Addr) (c:Nat) (zs:List Int) (w:World) (hs:Seg w ao zs) (hm:zs.length<=320) (hok:zs.any nl=false) (hw:wt zs<=32768) :
  Calls Tryz.prog 117 #[.slice ao zs.length c] w fun e w' => ∃ g,e = .returned (.agg #[.slice ao zs.length c,.slice (some ⟨g,0,none⟩) zs.length zs.length]) /\ w.heap.size<=g /\ Row w' g (rvs zs) /\ Below w.heap.size w w':=by
 have HB0:=hid ((Below.refl w.heap.size w).alloc (Nat.le_refl _) (.cells #[Value.slice none 0 0,Value.slice none 0 0] 171))
 have HC0:Hid ((w.alloc (.cells #[Value.slice none 0 0,Value.slice none 0 0] 171)).heap[w.heap.size]? = some (.cells #[Value.slice none 0 0,Value.slice none 0 0] 171 (0,0))):=heap_alloc_new w _
 have HS0:Hid (w.heap.size < (w.alloc (.cells #[Value.slice none 0 0,Value.slice none 0 0] 171)).heap.size):=by show _ < _;simp
 have HBI:=hid (bits_ok ao c zs _ (hs.below HB0.out) hm hok hw)
 have HWT:=hid (And.intro hok hw)
 clear hok hw
 go_enter Tryz.func117,Tryz.ntmps117
 go_wp2_with (go_at_call 93;refine HBI.out.mono ?_;rintro e w1 ⟨g,rfl,hg,hr,hb1⟩)
 obtain ⟨D,hD⟩:∃ D,D=(w.alloc (.cells #[Value.slice none 0 0,Value.slice none 0 0] 171)).heap.size:=⟨_,rfl⟩
 rw [<- hD] at hg hb1 HS0
 have HW0:Hid (w1.heap[w.heap.size]? = some (.cells #[Value.slice none 0 0,Value.slice none 0 0] 171 (0,0))):=(hb1.block _ HS0.out).trans HC0.out
 have HW1:Hid (Below w.heap.size w w1):=HB0.out.trans (hb1.mono (Nat.le_of_lt HS0.out))
 have hDw:w.heap.size < D:=HS0.out
 have HS1:Hid (Seg w ao zs):=hs
 clear hD hb1 HC0 HB0 HBI hs
 go_loopw [14] (fun i wr => ∃ k:Nat,k<=zs.length /\ i = .int .i64 k /\ Hid (Row wr g (mixR zs k)) /\ Hid (wr.heap[w.heap.size]? = some (.cells #[Value.slice none 0 0,Value.slice none 0 0] 171 (0,0))) /\ Hid (Below w.heap.size w wr)) (fun i _ => zs.length - (intOf i).toNat)
 case atStart => exact ⟨0,by omega,rfl,by rw [mixR_zero];exact hr,HW0,HW1⟩
 case round =>
  clear HW0 HW1 hr HS0
  obtain ⟨k,hk,rfl,HR,HC,HB⟩:=hrel
  by_cases hlt:k < zs.length
  ·have hsw:Seg wr ao zs:=HS1.out.below HB.out
   obtain ⟨b,off,rfl,hc⟩:=hsw (by omega)
   have x1:=hc k hlt
   have hz:=ok_getD HWT.out.1 k
   obtain ⟨n,hn⟩:∃ n,n=(zs.getD k 0).toNat:=⟨_,rfl⟩
   have e1:zs.getD k 0=(n:Int):=by omega
   rw [e1] at x1
   have hr':=HR.out
   have hlen:=mixR_length zs k
   have x2:=hr'.cell (j:=k) (by rw [hlen];exact hlt)
   rw [mixR_get zs k hlt] at x2
   obtain ⟨v,hv⟩:∃ v,v=bt zs k:=⟨_,rfl⟩
   rw [<- hv] at x2
   have hv2:v < 2 ^ n:=by
    rw [hv]
    by_cases h0:0 < zs.getD k 0
    ·have h1:=cnt_take_lt zs k hlt h0
     have h2:=fst_room zs (zs.getD k 0).toNat (by omega) HWT.out.2
     unfold bt
     rw [if_pos h0,hn]
     omega
    ·unfold bt
     rw [if_neg h0]
     exact Nat.two_pow_pos _
   have e2:(syp zs k).1=rv n v:=by simp only [syp];rw [<- hn,<- hv]
   have HE2:=hid e2
   have HRV:=hid (reversed_any v n wr hv2 (by omega))
   clear e1 e2 hn hv hc hz hv2 hr' hlen
   go_wp2_with (go_at_call 164;refine HRV.out.mono ?_;rintro e w2 ⟨rfl,hb2⟩;have hR2:=hid (HR.out.keepA hb2);have f2:=hR2.out.free k;have c2:=hR2.out.cell (j:=k) (by rw [mixR_length];exact hlt);rw [mixR_get zs k hlt] at c2;clear HRV)
   go_roundw
   case rel =>
    have hne:g ≠ w.heap.size:=by omega
    refine ⟨k+1,by omega,by simp,?_,?_,?_⟩
    ·show Row _ g _
     rw [<- mixR_set zs k hlt,HE2.out]
     exact hR2.out.set k _
    ·show _=_
     rw [Below.heap_setCell _ _ _ _ (by exact fun e => hne e.symm)]
     exact (hb2.block _ (by have:=HB.out.size;have:=(Array.getElem?_eq_some_iff.1 HC.out).1;omega)).trans HC.out
    ·exact (HB.out.trans (hb2.mono HB.out.size)).setCell (p:=⟨g,k,none⟩) (by show w.heap.size<=g;omega) _
   case measure => simp [intOf];omega
  ·obtain rfl:k=zs.length:=by omega
   have c0:wr.cell? ⟨w.heap.size,0,none⟩=some (.slice none 0 0):=by rw [cell_of_row _ _ 0 _ _ _ HC.out];rfl
   have c1:wr.cell? ⟨w.heap.size,1,none⟩=some (.slice none 0 0):=by rw [cell_of_row _ _ 1 _ _ _ HC.out];rfl
   have f0:∀ j,wr.frozen? ⟨w.heap.size,j,none⟩=false:=fun j => by simp [World.frozen?,HC.out]
   have f00:=f0 0
   have f01:=f0 1
   go_wp2
   refine bodyPost_ret (v:=.agg #[.slice ao zs.length c,.slice (some ⟨g,0,none⟩) zs.length zs.length]) (by simp [results,Tryz.results117,go_sem,c0,c1]) rfl ⟨g,rfl,by omega,?_,?_⟩
   ·have hne:g ≠ w.heap.size:=by omega
    rw [<- mixR_all]
    exact (HR.out.other (by exact hne) _).other (by exact hne) _
   ·exact (HB.out.setCell (p:=⟨w.heap.size,0,none⟩) (Nat.le_refl _) _).setCell (p:=⟨w.heap.size,1,none⟩) (Nat.le_refl _) _
end Go.Proofs.YthdmjmnkhlpnnabGreatDoor
