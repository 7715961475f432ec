import Derived.Test.YthdmjmnkhlpnnabGreatDoorZ07
import Derived.Deep.QuietTactic
import Derived.BigQuiet
import Derived.Test.YthdmjmnkhlpnnabGreatDoorZ10
import Derived.Test.YthdmjmnkhlpnnabGreatDoorZ05
import Derived.Test.YthdmjmnkhlpnnabGreatDoorZ13
import Derived.Laws.AppendOwnNone
namespace Go.Proofs.YthdmjmnkhlpnnabGreatDoor
open Go.RowKit
set_option maxHeartbeats 400000 in
theorem lsame_any (a1 a2:Option Addr) (c1 c2:Nat) (xs ys:List Int) (w:World) (h1:Seg w a1 xs) (h2:Seg w a2 ys) (hm1:xs.length<=maxLen) :
  Calls Tryz.prog 53 #[.slice a1 xs.length c1,.slice a2 ys.length c2] w fun e w' => e = .returned (.bool (decide (xs=ys))) /\ ∃ n,w'=w.drewN n:=by
 unfold maxLen at hm1
 by_cases hlen:xs.length=ys.length
 ·have hle:xs.length<=ys.length:=by omega
  have hge:ys.length<=xs.length:=by omega
  clear hlen
  go_enter Tryz.func53,Tryz.ntmps53
  go_wp2
  go_loopw [5] (fun i wr => ∃ k n:Nat,k<=xs.length /\ i = .int .i64 k /\ Hid (xs.take k=ys.take k) /\ wr=w.drewN n) (fun i _ => xs.length - (intOf i).toNat)
  case atStart => exact ⟨0,0,by omega,rfl,rfl,rfl⟩
  case round =>
   obtain ⟨k,n,hk,rfl,HA,rfl⟩:=hrel
   by_cases hlt:k < xs.length
   ·obtain ⟨b1,off1,rfl,hc1⟩:=h1.drewN n (by omega)
    obtain ⟨b2,off2,rfl,hc2⟩:=h2.drewN n (by omega)
    obtain ⟨x,hx⟩:∃ z,z=xs.getD k 0:=⟨_,rfl⟩
    obtain ⟨y,hy⟩:∃ z,z=ys.getD k 0:=⟨_,rfl⟩
    have hcell1:w.cell? ⟨b1,off1+k,none⟩=some (.int .i64 x):=by rw [hx];simpa using hc1 k hlt
    have hcell2:w.cell? ⟨b2,off2+k,none⟩=some (.int .i64 y):=by rw [hy];simpa using hc2 k (by omega)
    have HX:Hid (x=xs.getD k 0):=hx
    have HY:Hid (y=ys.getD k 0):=hy
    clear hx hy hc1 hc2 h1 h2
    by_cases hxy:x=y
    ·have hne:(x != y)=false:=by simp [hxy]
     have HXY:Hid (x=y):=hxy
     clear hxy
     go_wp2
     go_quiet (fail)
     go_wp2
     go_roundw
     case rel => exact ⟨k+1,_,by omega,by go_num,by show _=_;rw [take_snocI xs k hlt,take_snocI ys k (by omega),HA.out,<- HX.out,<- HY.out,HXY.out],rfl⟩
     case measure => simp [intOf];omega
    ·have hne:(x != y)=true:=by simp [hxy]
     have HXY:Hid (¬ x=y):=hxy
     clear hxy
     go_wp2
     go_quiet (fail)
     go_wp2
     go_ret
     refine ⟨ret_bool ?_,n+nq,by simp⟩
     have:¬ xs=ys:=fun e => HXY.out (by rw [HX.out,HY.out,e])
     simp [this]
   ·go_wp2
    go_ret
    refine ⟨ret_bool ?_,_,rfl⟩
    have:=HA.out
    rw [List.take_of_length_le (by omega),List.take_of_length_le (by omega)] at this
    simp [this]
 ·have hne:((xs.length:Int) != ys.length)=true:=by simp;omega
  have HL:Hid (¬ xs.length=ys.length):=hlen
  clear hlen
  go_enter Tryz.func53,Tryz.ntmps53
  go_wp2
  go_ret
  refine ⟨ret_bool ?_,0,rfl⟩
  have:¬ xs=ys:=fun e => HL.out (by rw [e])
  simp [this]
end Go.Proofs.YthdmjmnkhlpnnabGreatDoor
namespace Go.Proofs.YthdmjmnkhlpnnabGreatDoor
open Go.RowKit
set_option maxHeartbeats 800000 in
theorem bits_number (ao:Option Addr) (c:Nat) (zs:List Int) (w:World) (hs:Seg w ao zs) (hm:zs.length<=maxLen) (hbad:320 < zs.length ∨ zs.any nl=true) :
  Calls Tryz.prog 93 #[.slice ao zs.length c] w fun e w' => e = .returned (.tuple #[.slice none 0 0,.int .i64 9]) /\ w=w':=by
 by_cases h320:320 < zs.length
 ·clear hbad
  unfold maxLen at hm
  go_enter Tryz.func93,Tryz.ntmps93
  go_wp2
  go_ret2
  exact ⟨rfl,rfl⟩
 ·have hany:zs.any nl=true:=by rcases hbad with h | h;exact absurd h h320;exact h
  clear hbad
  go_enter Tryz.func93,Tryz.ntmps93
  go_wp2_with (go_at_call 144;refine (contains_any _ _ _ _ hs hm).mono ?_;rintro e w' ⟨rfl,rfl⟩)
  go_ret2
  exact ⟨rfl,rfl⟩
set_option maxHeartbeats 800000 in
theorem bits_code (ao:Option Addr) (c:Nat) (zs:List Int) (w:World) (hs:Seg w ao zs) (hm:zs.length<=320) (hok:zs.any nl=false) (hw:32768 < wt zs) :
  Calls Tryz.prog 93 #[.slice ao zs.length c] w fun e w' => e = .returned (.tuple #[.slice none 0 0,.int .i64 3]) /\ w=w':=by
 go_enter Tryz.func93,Tryz.ntmps93
 go_wp2_with (first | (go_at_call 144;refine (contains_any _ _ _ _ hs (by unfold maxLen;omega)).mono ?_;rintro e w' ⟨rfl,rfl⟩) | (go_at_call 146;refine (weight_any _ _ _ _ hs hm hok).mono ?_;rintro e w' ⟨rfl,rfl⟩))
 go_ret2
 exact ⟨rfl,rfl⟩
set_option maxHeartbeats 400000 in
theorem codes_any (ao:Option Addr) (c:Nat) (zs:List Int) (w:World) (hs:Seg w ao zs) (hm:zs.length<=maxLen) :
  Calls Tryz.prog 51 #[.slice ao zs.length c] w fun e w' => ∃ v,e = .returned (.tuple #[v,.int .i64 (cerr zs)]) /\ New w w' v (cout zs) /\ Below w.heap.size w w':=by
 by_cases hbad:320 < zs.length ∨ zs.any nl=true
 ·go_enter Tryz.func51,Tryz.ntmps51
  go_wp2_with (go_at_call 93;refine (bits_number _ _ _ _ hs hm hbad).mono ?_;rintro e w' ⟨rfl,rfl⟩)
  go_ret2
  exact ⟨.slice none 0 0,by simp only [cerr,if_pos hbad];rfl,.inl ⟨rfl,by simp only [cout,if_pos hbad]⟩,Below.refl _ _⟩
 ·have h320:zs.length<=320:=by omega
  have hok:zs.any nl=false:=by
   rcases h:zs.any nl with _ | _
   ·rfl
   ·exact absurd (Or.inr h) hbad
  by_cases hw:32768 < wt zs
  ·go_enter Tryz.func51,Tryz.ntmps51
   go_wp2_with (go_at_call 93;refine (bits_code _ _ _ _ hs h320 hok hw).mono ?_;rintro e w' ⟨rfl,rfl⟩)
   go_ret2
   exact ⟨.slice none 0 0,by simp only [cerr,if_neg hbad,if_pos hw];rfl,.inl ⟨rfl,by simp only [cout,if_neg hbad,if_pos hw]⟩,Below.refl _ _⟩
  ·have HB:Hid (¬ (320 < zs.length ∨ zs.any nl=true)):=hbad
   have HW:Hid (¬ 32768 < wt zs):=hw
   clear hbad
   go_enter Tryz.func51,Tryz.ntmps51
   go_wp2_with (go_at_call 93;refine (bits_ok _ _ _ _ hs h320 hok (by omega)).mono ?_;rintro e w' ⟨g,rfl,hg,hrow,hbel⟩)
   go_ret2
   have e1:cout zs=bts zs:=by simp only [cout,if_neg HB.out,if_neg HW.out]
   have e2:cerr zs=0:=by simp only [cerr,if_neg HB.out,if_neg HW.out]
   rw [e1,e2]
   exact ⟨_,rfl,.inr ⟨g,by rw [bts_length];rfl,hg,hrow⟩,hbel⟩
end Go.Proofs.YthdmjmnkhlpnnabGreatDoor
namespace Go.Proofs.YthdmjmnkhlpnnabGreatDoor
open Go.RowKit
def Mark (w:World) (bk:Nat) (mv gv v:Value) (m:Int):Prop :=
 v = .slice none 0 0 ∨ ∃ g n c cur,v = .slice (some ⟨g,0,none⟩) n c /\ bk < g /\ mv.ownBlock ≠ some g /\ gv.ownBlock ≠ some g /\ n<=400 /\ w.heap[g]? = some (.cells cur 3 (0,0)) /\ ∀ j,j < n->cur[j]? = some (.int .i64 m)
structure Book (w:World) (bk:Nat) (L:List (Value × Int)) (nx:Int) (lv mv gv:Value) (gs:List Int):Prop where
 blk:w.heap[bk]? = some (.cells #[lv,mv,.int .i64 nx,gv] 64 (0,0))
 hl:w.ownsRow (bk+1) 23 1 lv L.length (L.map Prod.fst)
 hm:w.ownsRow (bk+1) 3 1 mv L.length (L.map fun p => Value.int .i64 p.2)
 hg:w.ownsRow (bk+1) 3 1 gv gs.length (gs.map (Value.int .i64))
 dist:∀ k,mv.ownBlock=some k->gv.ownBlock ≠ some k
 marks:∀ p ∈ L,Mark w bk mv gv p.1 p.2
section
variable {w w':World} {bk:Nat} {L:List (Value × Int)} {nx:Int} {lv mv gv:Value} {gs:List Int}
theorem Book.lt (h:Book w bk L nx lv mv gv gs):bk < w.heap.size:=(Array.getElem?_eq_some_iff.1 h.blk).1
theorem Book.cell0 (h:Book w bk L nx lv mv gv gs):w.cell? ⟨bk,0,none⟩=some lv:=by rw [cell_of_row w bk 0 _ 64 (0,0) h.blk];rfl
theorem Book.cell1 (h:Book w bk L nx lv mv gv gs):w.cell? ⟨bk,1,none⟩=some mv:=by rw [cell_of_row w bk 1 _ 64 (0,0) h.blk];rfl
theorem Book.cell2 (h:Book w bk L nx lv mv gv gs):w.cell? ⟨bk,2,none⟩=some (.int .i64 nx):=by rw [cell_of_row w bk 2 _ 64 (0,0) h.blk];rfl
theorem Book.cell3 (h:Book w bk L nx lv mv gv gs):w.cell? ⟨bk,3,none⟩=some gv:=by rw [cell_of_row w bk 3 _ 64 (0,0) h.blk];rfl
theorem Book.free (h:Book w bk L nx lv mv gv gs) (j:Nat):w.frozen? ⟨bk,j,none⟩=false:=by
 have h':=h.blk
 simp [World.frozen?,h']
theorem Mark.kept {v:Value} {m:Int} (h:Mark w bk mv gv v m) (hk:∀ k,v.ownBlock=some k->w'.heap[k]? = w.heap[k]?):Mark w' bk mv gv v m:=by
 rcases h with h | ⟨g,n,c,cur,rfl,h1,h2,h3,h4,h5,h6⟩
 ·exact .inl h
 ·exact .inr ⟨g,n,c,cur,rfl,h1,h2,h3,h4,by rw [hk g rfl];exact h5,h6⟩
theorem Mark.lt {v:Value} {m:Int} (h:Mark w bk mv gv v m) {k:Nat} (hk:v.ownBlock=some k):k < w.heap.size:=by
 rcases h with rfl | ⟨g,n,c,cur,rfl,h1,h2,h3,h4,h5,h6⟩
 ·simp [Value.ownBlock] at hk
 ·simp [Value.ownBlock] at hk
  subst hk
  exact (Array.getElem?_eq_some_iff.1 h5).1
theorem Mark.type {v:Value} {m:Int} (h:Mark w bk mv gv v m) {k:Nat} {cur:Array Value} {e':TypeId} {fr:Nat × Nat} (hk:w.heap[k]? = some (.cells cur e' fr)) (hne:3 ≠ e'):v.ownBlock ≠ some k:=by
 intro hv
 rcases h with rfl | ⟨g,n,c,cur',rfl,h1,h2,h3,h4,h5,h6⟩
 ·simp [Value.ownBlock] at hv
 ·simp [Value.ownBlock] at hv
  subst hv
  rw [h5] at hk
  injection hk with hk
  injection hk with _ h2 _
  exact hne h2
theorem Mark.gt {v:Value} {m:Int} (h:Mark w bk mv gv v m) {k:Nat} (hk:v.ownBlock=some k):bk < k:=by
 rcases h with rfl | ⟨g,n,c,cur,rfl,h1,h2,h3,h4,h5,h6⟩
 ·simp [Value.ownBlock] at hk
 ·simp [Value.ownBlock] at hk
  omega
def Bo (bk:Nat) (L:List (Value × Int)) (lv mv gv:Value) (k:Nat):Prop:=k=bk ∨ lv.ownBlock=some k ∨ mv.ownBlock=some k ∨ gv.ownBlock=some k ∨ ∃ p ∈ L,p.1.ownBlock=some k
theorem Book.kept (h:Book w bk L nx lv mv gv gs) (hk:∀ k,Bo bk L lv mv gv k->w'.heap[k]? = w.heap[k]?):Book w' bk L nx lv mv gv gs :=
 ⟨(hk bk (.inl rfl)).trans h.blk,owns_kept h.hl fun k e => hk k (.inr (.inl e)),owns_kept h.hm fun k e => hk k (.inr (.inr (.inl e))),owns_kept h.hg fun k e => hk k (.inr (.inr (.inr (.inl e)))),h.dist,fun p hp => (h.marks p hp).kept fun k e => hk k (.inr (.inr (.inr (.inr ⟨p,hp,e⟩))))⟩
theorem Book.olt (h:Book w bk L nx lv mv gv gs) {k:Nat} (hk:Bo bk L lv mv gv k):bk<=k /\ k < w.heap.size:=by
 rcases hk with e | e | e | e | ⟨p,hp,e⟩
 ·have:=h.lt;omega
 ·have:=h.hl.lt k e;omega
 ·have:=h.hm.lt k e;omega
 ·have:=h.hg.lt k e;omega
 ·have:=(h.marks p hp).lt e;have:=(h.marks p hp).gt e;omega
theorem Book.to {O':Nat->Prop} (h:Book w bk L nx lv mv gv gs) (k:To (Bo bk L lv mv gv) O' w w'):Below bk w w' :=
 ⟨k.fr.env.os,k.fr.env.tape,k.fr.env.output,k.fr.env.size,fun i hi => k.fr.blk i (by have:=h.lt;omega) (fun e => by have:=(h.olt e).1;omega)⟩
theorem Bo.not {g:Nat} (h:¬ Bo bk L lv mv gv g):mv.ownBlock ≠ some g /\ gv.ownBlock ≠ some g /\ ∀ p ∈ L,p.1.ownBlock ≠ some g :=
 ⟨fun e => h (.inr (.inr (.inl e))),fun e => h (.inr (.inr (.inr (.inl e)))),fun p hp e => h (.inr (.inr (.inr (.inr ⟨p,hp,e⟩))))⟩
theorem To.more {O O' X:Nat->Prop} {a b:World} (h:To O O' a b) (hx:∀ k,X k->a.heap.size<=k):To O (fun k => O' k ∨ X k) a b :=
 ⟨h.fr,fun k hk => by
  rcases hk with e | e
  ·exact h.new k e
  ·exact .inr (hx k e)⟩
theorem Book.below (h:Book w bk L nx lv mv gv gs) (hb:Below w.heap.size w w'):Book w' bk L nx lv mv gv gs:=h.kept fun k e => hb.block k (h.olt e).2
theorem owns_at {base:Nat} {e:TypeId} {v:Value} {n:Nat} {xs:List Value} (h:w.ownsRow base e 1 v n xs) (h0:0 < n):∃ g c,v = .slice (some ⟨g,0,none⟩) n c /\ base<=g /\ g < w.heap.size /\ ∀ j,j < n->w.cell? ⟨g,j,none⟩=xs[j]?:=by
 rcases h.2 with ⟨rfl,rfl⟩ | ⟨g,cap,cur,rfl,hb,hgg,hnc,hcm,hcs,htake⟩
 ·omega
 ·refine ⟨g,cap,rfl,hb,(Array.getElem?_eq_some_iff.1 hgg).1,fun j hj => ?_⟩
  rw [cell_of_row w g j cur e (0,0) hgg,<- htake,Nat.mul_one,List.getElem?_take,if_pos hj]
  simp
end
theorem Mark.shape {w:World} {bk:Nat} {mv gv v:Value} {m:Int} (h:Mark w bk mv gv v m):∃ va ln vc,v = .slice va ln vc /\ ln<=400 /\ (0 < ln -> ∃ g,va=some ⟨g,0,none⟩ /\ ∀ k,k < ln->w.cell? ⟨g,k,none⟩=some (.int .i64 m)):=by
 rcases h with rfl | ⟨g,n,c,cur,rfl,h1,h2,h3,h4,h5,h6⟩
 ·exact ⟨none,0,0,rfl,by omega,fun h => by omega⟩
 ·exact ⟨_,n,c,rfl,h4,fun _ => ⟨g,rfl,fun k hk => by rw [cell_of_row w g k cur 3 (0,0) h5];exact h6 k hk⟩⟩
set_option maxRecDepth 20000 in
set_option maxHeartbeats 1000000 in
theorem looks_any {w:World} {bk:Nat} {L:List (Value × Int)} {nx:Int} {lv mv gv:Value} {gs:List Int} (hB:Book w bk L nx lv mv gv gs) (hL:L.length<=100000000) :
  Calls Tryz.prog 33 #[.pointer (some ⟨bk,0,none⟩)] w fun e w' => e = .returned (.bool true) /\ ∃ n,w'=w.drewN n:=by
 have HB:Hid (Book w bk L nx lv mv gv gs):=hB
 obtain ⟨la,lc,hlv,_⟩:=owns_shape hB.hl
 obtain ⟨ma,mc,hmv,_⟩:=owns_shape hB.hm
 have c0:w.cell? ⟨bk,0,none⟩=some (.slice la L.length lc):=by rw [hB.cell0,hlv]
 have c1:w.cell? ⟨bk,1,none⟩=some (.slice ma L.length mc):=by rw [hB.cell1,hmv]
 have HLV:Hid (lv = .slice la L.length lc):=hlv
 have HMV:Hid (mv = .slice ma L.length mc):=hmv
 clear hlv hmv hB
 go_enter Tryz.func33,Tryz.ntmps33
 go_wp2
 go_loopw [3] (fun i wr => ∃ k n:Nat,k<=L.length /\ i = .int .i64 k /\ wr=w.drewN n) (fun i _ => L.length - (intOf i).toNat)
 case atStart => exact ⟨0,0,by omega,rfl,rfl⟩
 case round =>
  obtain ⟨i,n,hi,rfl,rfl⟩:=hrel
  by_cases hlt:i < L.length
  ·obtain ⟨gl,lc',hv,_,_,hcl⟩:=owns_at HB.out.hl (by omega)
   rw [HLV.out] at hv
   injection hv with e1 e2 e3
   subst e1 e3
   obtain ⟨gm,mc',hv,_,_,hcm⟩:=owns_at HB.out.hm (by omega)
   rw [HMV.out] at hv
   injection hv with e1 e2 e3
   subst e1 e3
   obtain ⟨va,ln,vc,hv,hln,hseg⟩:=(HB.out.marks L[i] (List.getElem_mem hlt)).shape
   obtain ⟨m,hm⟩:∃ m,m=(L[i]).2:=⟨_,rfl⟩
   rw [<- hm] at hseg
   have ci:w.cell? ⟨gl,i,none⟩=some (.slice va ln vc):=by rw [hcl i hlt];simp [hlt,hv]
   have cm:w.cell? ⟨gm,i,none⟩=some (.int .i64 m):=by rw [hcm i hlt];simp [hlt,hm]
   have HS:Hid (0 < ln -> ∃ g,va=some ⟨g,0,none⟩ /\ ∀ k,k < ln->w.cell? ⟨g,k,none⟩=some (.int .i64 m)):=hseg
   clear hseg hv hm hcl hcm HLV HMV
   go_wp2
   go_loopw [4] (fun j wr => ∃ k n:Nat,k<=ln /\ j = .int .i64 k /\ wr=w.drewN n) (fun j _ => ln - (intOf j).toNat)
   case atStart => exact ⟨0,n,by omega,rfl,rfl⟩
   case round =>
    obtain ⟨k,n',hk,rfl,rfl⟩:=hrel
    by_cases hkl:k < ln
    ·obtain ⟨g,rfl,hc⟩:=HS.out (by omega)
     have cg:w.cell? ⟨g,k,none⟩=some (.int .i64 m):=hc k hkl
     clear hc
     go_wp2
     go_quiet (fail)
     go_wp2
     go_roundw
     case rel => exact ⟨k+1,_,by omega,by go_num,rfl⟩
     case measure => simp [intOf];omega
    ·go_wp2
     go_roundw
     case rel => exact ⟨i+1,_,by omega,by go_num,rfl⟩
     case measure => simp [intOf];omega
  ·go_wp2
   go_ret
   exact ⟨rfl,n,rfl⟩
end Go.Proofs.YthdmjmnkhlpnnabGreatDoor
namespace Go.Proofs.YthdmjmnkhlpnnabGreatDoor
open Go.RowKit
section
variable {P:Program} (w:World)
end
section
variable {w w1:World} {bk:Nat} {L:List (Value × Int)} {nx:Int} {lv mv gv gv':Value} {gs zs:List Int}
theorem Mark.regard {mv':Value} {v:Value} {m:Int} (h:Mark w bk mv gv v m) (h1:∀ g,v.ownBlock=some g->mv'.ownBlock ≠ some g) (h2:∀ g,v.ownBlock=some g->gv'.ownBlock ≠ some g):Mark w bk mv' gv' v m:=by
 rcases h with h | ⟨g,n,c,cur,rfl,a1,a2,a3,a4,a5,a6⟩
 ·exact .inl h
 ·exact .inr ⟨g,n,c,cur,rfl,a1,h1 g rfl,h2 g rfl,a4,a5,a6⟩
theorem Mark.notmv {v:Value} {m:Int} (h:Mark w bk mv gv v m) (g:Nat) (hg:v.ownBlock=some g):mv.ownBlock ≠ some g:=by
 rcases h with rfl | ⟨g',n,c,cur,rfl,a1,a2,a3,a4,a5,a6⟩
 ·simp [Value.ownBlock] at hg
 ·simp [Value.ownBlock] at hg;subst hg;exact a2
theorem Mark.notgv {v:Value} {m:Int} (h:Mark w bk mv gv v m) (g:Nat) (hg:v.ownBlock=some g):gv.ownBlock ≠ some g:=by
 rcases h with rfl | ⟨g',n,c,cur,rfl,a1,a2,a3,a4,a5,a6⟩
 ·simp [Value.ownBlock] at hg
 ·simp [Value.ownBlock] at hg;subst hg;exact a3
theorem Book.given (h:Book w bk L nx lv mv gv gs) (hg:w.grownBy w1 gv.ownBlock) (hown:w1.ownsRow (bk+1) 3 1 gv' zs.length (zs.map (Value.int .i64)))
  (ht:gv'.ownBlock=gv.ownBlock ∨ ∀ k,gv'.ownBlock=some k->w.heap.size<=k):Book (w1.setCell ⟨bk,3,none⟩ gv') bk L nx lv mv gv' zs:=by
 have hb:gv.ownBlock ≠ some bk:=owns_type h.hg h.blk (by decide)
 have e1:w1.heap[bk]? = w.heap[bk]?:=hg.block bk h.lt (fun e => hb e.symm)
 have same:∀ k,k < w.heap.size->k ≠ bk->gv.ownBlock ≠ some k->(w1.setCell ⟨bk,3,none⟩ gv').heap[k]? = w.heap[k]?:=fun k h1 h2 h3 => by
  rw [Below.heap_setCell _ _ _ _ h2]
  exact hg.block k h1 (fun e => h3 e.symm)
 have notg:∀ k,k < w.heap.size->gv.ownBlock ≠ some k->gv'.ownBlock ≠ some k:=fun k h1 h2 h3 => by
  rcases ht with e | e
  ·exact h2 (e ▸ h3)
  ·have:=e k h3;omega
 refine ⟨?_,?_,?_,?_,?_,?_⟩
 ·rw [setCell_eq_setRow w1 bk 3 #[lv,mv,.int .i64 nx,gv] 64 (0,0) _ (e1.trans h.blk)]
  exact setRow_heap w1 bk #[lv,mv,.int .i64 nx,gv] _ 64 _ (e1.trans h.blk)
 ·refine owns_kept h.hl fun k hk => same k (h.hl.lt k hk).2 (fun e => owns_type h.hl h.blk (by decide) (e ▸ hk)) ?_
  intro hgk
  obtain ⟨g,cap,cur,e,hh⟩:∃ g cap cur,lv = .slice (some ⟨g,0,none⟩) L.length cap /\ w.heap[g]? = some (.cells cur 23 (0,0)):=by
   rcases h.hl.2 with ⟨rfl,_⟩ | ⟨g,cap,cur,e,_,hh,_⟩
   ·simp [Value.ownBlock] at hk
   ·exact ⟨g,cap,cur,e,hh⟩
  subst e
  simp [Value.ownBlock] at hk
  subst hk
  exact owns_type h.hg hh (by decide) hgk
 ·exact owns_kept h.hm fun k hk => same k (h.hm.lt k hk).2 (fun e => owns_type h.hm h.blk (by decide) (e ▸ hk)) (h.dist k hk)
 ·refine owns_kept hown fun k hk => Below.heap_setCell _ _ _ _ ?_
  intro e
  simp at e
  subst e
  rcases ht with e | e
  ·exact hb (e ▸ hk)
  ·have:=e k hk;have:=h.lt;omega
 ·intro k hk
  exact notg k (h.hm.lt k hk).2 (h.dist k hk)
 ·intro p hp
  have hm:=h.marks p hp
  refine (hm.kept fun k hk => same k (hm.lt hk) ?_ (hm.notgv k hk)).regard hm.notmv fun k hk => notg k (hm.lt hk) (hm.notgv k hk)
  intro e
  exact hm.type h.blk (by decide) (e ▸ hk)
end
theorem owns_cut {w:World} {base:Nat} {e:TypeId} {ao:Option Addr} {n c:Nat} {xs:List Value} (h:w.ownsRow base e 1 (.slice ao n c) n xs):w.ownsRow base e 1 (.slice ao 0 c) 0 []:=by
 refine ⟨rfl,?_⟩
 rcases h.2 with ⟨e1,_⟩ | ⟨g,cap,cur,e1,hb,hg,hnc,hcm,hcs,htake⟩
 ·injection e1 with e1 e2 e3
  subst e1 e3
  exact .inl ⟨rfl,rfl⟩
 ·injection e1 with e1 e2 e3
  subst e1 e3
  exact .inr ⟨g,c,cur,rfl,hb,hg,by omega,hcm,hcs,by simp⟩
theorem Book.hands {w w1:World} {bk:Nat} {L:List (Value × Int)} {nx:Int} {lv mv gv gv':Value} {gs zs:List Int} {ga:Option Addr} {gc:Nat} (h:Book w bk L nx lv mv gv gs) (hgv:gv = .slice ga gs.length gc)
  (hown:w1.ownsRow (bk+1) 3 1 gv' (0+zs.length) ([] ++ zs.map (Value.int .i64))) (hg:w.grownBy w1 (Value.slice ga 0 gc).ownBlock)
  (ht:gv'.ownBlock=(Value.slice ga 0 gc).ownBlock ∨ ∀ k,gv'.ownBlock=some k->w.heap.size<=k) :
  Book (w1.setCell ⟨bk,3,none⟩ gv') bk L nx lv mv gv' zs /\ To (Bo bk L lv mv gv) (Bo bk L lv mv gv') w (w1.setCell ⟨bk,3,none⟩ gv') /\ w1.cell? ⟨bk,3,none⟩=some (.slice ga gs.length gc) /\ w1.frozen? ⟨bk,3,none⟩=false:=by
 have e:(Value.slice ga 0 gc).ownBlock=gv.ownBlock:=by rw [hgv];exact own_cut _ _ _ _ _
 rw [e] at hg ht
 rw [Nat.zero_add,List.nil_append] at hown
 have hb:gv.ownBlock ≠ some bk:=owns_type h.hg h.blk (by decide)
 have e1:w1.heap[bk]? = w.heap[bk]?:=hg.block bk h.lt (fun e => hb e.symm)
 refine ⟨h.given hg hown ht,⟨((Fr.refl _ w).grown hg (fun k hk => .inr (.inr (.inr (.inl hk))))).set _ (.inl rfl) _,fun k hk => ?_⟩,?_,?_⟩
 ·rcases hk with e | e | e | e | e
  ·exact .inl (.inl e)
  ·exact .inl (.inr (.inl e))
  ·exact .inl (.inr (.inr (.inl e)))
  ·rcases ht with t | t
   ·exact .inl (.inr (.inr (.inr (.inl (t ▸ e)))))
   ·exact .inr (t k e)
  ·exact .inl (.inr (.inr (.inr (.inr e))))
 ·rw [World.cell?_of_block (w:=w) e1,h.cell3,hgv]
 ·rw [World.frozen?_of_block (w:=w) e1,h.free 3]
set_option maxHeartbeats 1000000 in
theorem hands_some {w:World} {bk:Nat} {L:List (Value × Int)} {nx:Int} {lv mv gv:Value} {gs zs:List Int} (hB:Book w bk L nx lv mv gv gs) (a:Addr) (c:Nat) (hs:Seg w (some a) zs) (hz:zs.length<=1048576) :
  Calls Tryz.prog 50 #[.pointer (some ⟨bk,0,none⟩),.slice (some a) zs.length c] w fun e w' => ∃ gv',e = .returned gv' /\ Book w' bk L nx lv mv gv' zs /\ To (Bo bk L lv mv gv) (Bo bk L lv mv gv') w w':=by
 obtain ⟨i0,hi,hz0,hz1,hz2⟩:=info_parts info3
 have HB:Hid (Book w bk L nx lv mv gv gs):=hB
 obtain ⟨ga,gc,hgv,_⟩:=owns_shape hB.hg
 have c3:w.cell? ⟨bk,3,none⟩=some (.slice ga gs.length gc):=by rw [hB.cell3,hgv]
 have f3:w.frozen? ⟨bk,3,none⟩=false:=hB.free 3
 have HGV:Hid (gv = .slice ga gs.length gc):=hgv
 have hown:w.ownsRow (bk+1) 3 1 (.slice ga 0 gc) 0 []:=by have:=hB.hg;rw [hgv] at this;exact owns_cut this
 have hlt:bk < w.heap.size:=hB.lt
 clear hgv hB
 go_enter Tryz.func50,Tryz.ntmps50
 go_wp2_with (at_builtin;refine wpList_append_track _ rfl (.tmp 10) (.tmp 11) 23 rfl (bk+1) 3 i0 (.int .i64 0) 1 8 Tryz.underlying23 hi hz0 hz1 hz2 rfl (by decide) _ _ _ rfl hown a zs.length c (zs.map (Value.int .i64)) rfl ?c1 (seg_news hs) (nums_oneCell zs) ?c3 ?c4 ?c5 ?_)
 case c1 => simp
 case c3 => unfold maxLen;omega
 case c4 => omega
 case c5 => omega
 intro gv' w1 hown' hgrow htr
 obtain ⟨ga',gc',rfl,_⟩:=owns_shape hown'
 obtain ⟨R1,R2,c3',f3'⟩:=HB.out.hands HGV.out (by simpa using hown') hgrow htr
 have HR1:=hid R1
 have HR2:=hid R2
 clear R1 R2 hown' hgrow htr c3 f3 hown hs
 go_wp2
 go_ret
 exact ⟨_,rfl,HR1.out,HR2.out⟩
theorem Book.empty {w:World} {bk:Nat} {L:List (Value × Int)} {nx:Int} {lv mv gv:Value} {gs:List Int} {ga:Option Addr} {gc:Nat} (h:Book w bk L nx lv mv gv gs) (hgv:gv = .slice ga gs.length gc) :
  Book (w.setCell ⟨bk,3,none⟩ (.slice ga 0 gc)) bk L nx lv mv (.slice ga 0 gc) []:=by
 have hc:=h.hg
 rw [hgv] at hc
 exact h.given (gv':=.slice ga 0 gc) ⟨rfl,rfl,rfl,Nat.le_refl _,fun _ _ _ => rfl⟩ (owns_cut hc) (.inl (by rw [hgv];exact own_cut _ _ _ _ _))
set_option maxHeartbeats 1000000 in
theorem hands_none {w:World} {bk:Nat} {L:List (Value × Int)} {nx:Int} {lv mv gv:Value} {gs:List Int} (hB:Book w bk L nx lv mv gv gs) :
  Calls Tryz.prog 50 #[.pointer (some ⟨bk,0,none⟩),.slice none 0 0] w fun e w' => ∃ gv',e = .returned gv' /\ Book w' bk L nx lv mv gv' [] /\ To (Bo bk L lv mv gv) (Bo bk L lv mv gv') w w':=by
 obtain ⟨i0,hi,hz0,hz1,hz2⟩:=info_parts info3
 have HB:Hid (Book w bk L nx lv mv gv gs):=hB
 obtain ⟨ga,gc,hgv,_⟩:=owns_shape hB.hg
 have c3:w.cell? ⟨bk,3,none⟩=some (.slice ga gs.length gc):=by rw [hB.cell3,hgv]
 have f3:w.frozen? ⟨bk,3,none⟩=false:=hB.free 3
 have HGV:Hid (gv = .slice ga gs.length gc):=hgv
 have hown:w.ownsRow (bk+1) 3 1 (.slice ga 0 gc) 0 []:=by have:=hB.hg;rw [hgv] at this;exact owns_cut this
 clear hgv hB
 go_enter Tryz.func50,Tryz.ntmps50
 go_wp2_with (at_builtin;refine wpList_append_own_none rfl (.tmp 10) (.tmp 11) 23 rfl (bk+1) 3 i0 1 Tryz.underlying23 hi _ _ _ rfl hown rfl ?_)
 go_ret
 refine ⟨_,rfl,HB.out.empty HGV.out,(Fr.refl _ w).set ⟨bk,3,none⟩ (.inl rfl) _,fun k hk => .inl ?_⟩
 rcases hk with e | e | e | e | e
 ·exact .inl e
 ·exact .inr (.inl e)
 ·exact .inr (.inr (.inl e))
 ·exact .inr (.inr (.inr (.inl (by rw [HGV.out];exact (own_cut ga _ gc 0 gc).trans e))))
 ·exact .inr (.inr (.inr (.inr e)))
theorem hands_any {w:World} {bk:Nat} {L:List (Value × Int)} {nx:Int} {lv mv gv:Value} {gs zs:List Int} (hB:Book w bk L nx lv mv gv gs) (ao:Option Addr) (c:Nat) (hs:Seg w ao zs) (hn:ao=none->zs.length=0 /\ c=0) (hz:zs.length<=1048576) :
  Calls Tryz.prog 50 #[.pointer (some ⟨bk,0,none⟩),.slice ao zs.length c] w fun e w' => ∃ gv',e = .returned gv' /\ Book w' bk L nx lv mv gv' zs /\ To (Bo bk L lv mv gv) (Bo bk L lv mv gv') w w':=by
 cases ao with
 | some a => exact hands_some hB a c hs hz
 | none =>
  obtain ⟨h1,rfl⟩:=hn rfl
  obtain rfl:zs=[]:=List.eq_nil_of_length_eq_zero h1
  exact hands_none hB
theorem Book.write {w:World} {bk:Nat} {L:List (Value × Int)} {nx:Int} {lv mv gv:Value} {gs:List Int} {g gc:Nat} (h:Book w bk L nx lv mv gv gs) (hgv:gv = .slice (some ⟨g,0,none⟩) gs.length gc) (j:Nat) (v:Int) :
  Book (w.setCell ⟨g,j,none⟩ (.int .i64 v)) bk L nx lv mv gv (gs.set j v):=by
 have hob:gv.ownBlock=some g:=by rw [hgv];rfl
 have hb:g ≠ bk:=fun e => owns_type h.hg h.blk (by decide) (e ▸ hob)
 have same:∀ k,k ≠ g->(w.setCell ⟨g,j,none⟩ (.int .i64 v)).heap[k]? = w.heap[k]?:=fun k h2 => Below.heap_setCell _ _ _ _ h2
 refine ⟨?_,?_,?_,?_,h.dist,?_⟩
 ·rw [same bk (Ne.symm hb)];exact h.blk
 ·refine owns_kept h.hl fun k hk => same k ?_
  intro e
  subst e
  rcases h.hl.2 with ⟨rfl,_⟩ | ⟨g',cap,cur,rfl,_,hh,_⟩
  ·simp [Value.ownBlock] at hk
  ·simp [Value.ownBlock] at hk
   subst hk
   exact owns_type h.hg hh (by decide) hob
 ·exact owns_kept h.hm fun k hk => same k fun e => h.dist k hk (e ▸ hob)
 ·rcases h.hg.2 with ⟨e,_⟩ | ⟨g',cap,cur,e,hbb,hh,hnc,hcm,hcs,htake⟩
  ·rw [hgv] at e;cases e
  ·rw [hgv] at e
   injection e with e1 e2 e3
   injection e1 with e1
   injection e1 with e1
   subst e1 e3
   refine ⟨by simp,.inr ⟨g,gc,cur.setIfInBounds j (.int .i64 v),by rw [hgv];simp,hbb,?_,by simpa using hnc,hcm,by simpa using hcs,?_⟩⟩
   ·rw [setCell_eq_setRow w g j cur 3 (0,0) _ hh]
    exact setRow_heap w g cur _ 3 _ hh
   ·simp only [List.length_set,Nat.mul_one] at htake ⊢
    rw [Array.toList_setIfInBounds,List.take_set,htake,List.map_set]
 ·intro p hp
  have hm:=h.marks p hp
  exact hm.kept fun k hk => same k fun e => hm.notgv k hk (e ▸ hob)
set_option maxHeartbeats 1000000 in
theorem takes_any {w:World} {bk:Nat} {L:List (Value × Int)} {nx:Int} {lv mv gv:Value} {gs:List Int} (hB:Book w bk L nx lv mv gv gs) (hz:gs.length<=1048576) :
  Calls Tryz.prog 54 #[.pointer (some ⟨bk,0,none⟩)] w fun e w' => e = .returned (.tuple #[]) /\ (∃ gs',Book w' bk L nx lv mv gv gs') /\ Below bk w w' /\ w.grownBy w' gv.ownBlock:=by
 have HB0:Hid (Book w bk L nx lv mv gv gs):=hB
 obtain ⟨ga,gc,hgv,_⟩:=owns_shape hB.hg
 have HGV:Hid (gv = .slice ga gs.length gc):=hgv
 clear hgv
 go_enter Tryz.func54,Tryz.ntmps54
 go_wp2
 go_loopw [2] (fun i wr => ∃ (k:Nat) (gs':List Int),k<=gs.length /\ i = .int .i64 k /\ Hid (Book wr bk L nx lv mv gv gs' /\ gs'.length=gs.length /\ Below bk w wr /\ w.grownBy wr gv.ownBlock)) (fun i _ => gs.length - (intOf i).toNat)
 case atStart => exact ⟨0,gs,by omega,rfl,HB0.out,rfl,Below.refl _ _,⟨rfl,rfl,rfl,Nat.le_refl _,fun _ _ _ => rfl⟩⟩
 case round =>
  obtain ⟨k,gs',hk,rfl,HR⟩:=hrel
  have c3:wr.cell? ⟨bk,3,none⟩=some (.slice ga gs.length gc):=by rw [HR.out.1.cell3,HGV.out]
  clear hB
  by_cases hlt:k < gs.length
  ·obtain ⟨g,gc',hv,hbg,_,hc⟩:=owns_at HR.out.1.hg (by have:=HR.out.2.1;omega)
   have hv':=hv
   rw [HGV.out] at hv
   injection hv with e1 e2 e3
   subst e1 e3
   have hlen:=HR.out.2.1
   have cg:∃ q,wr.cell? ⟨g,k,none⟩=some (.int .i64 q):=⟨gs'.getD k 0,by rw [hc k (by omega)];simp [show k < gs'.length by omega]⟩
   obtain ⟨q,cg⟩:=cg
   have fg:wr.frozen? ⟨g,k,none⟩=false:=by
    rcases HR.out.1.hg.2 with ⟨e,_⟩ | ⟨g',cap,cur,e,_,hh,_⟩
    ·rw [HGV.out] at e;cases e
    ·rw [HGV.out] at e
     injection e with e1 e2 e3
     injection e1 with e1
     injection e1 with e1
     subst e1
     simp [World.frozen?,hh]
   have HV:Hid (gv = .slice (some ⟨g,0,none⟩) gs'.length gc):=hv'
   clear hc hv' hlen e2
   go_wp2
   go_roundw
   case rel =>
    refine ⟨k+1,gs'.set k (1+(k:Int) % 7),by omega,by go_num,HR.out.1.write HV.out k _,by rw [List.length_set];exact HR.out.2.1,HR.out.2.2.1.setCell (by show bk<=g;omega) _,?_⟩
    have h4:=HR.out.2.2.2
    have hob:gv.ownBlock=some g:=by rw [HV.out];rfl
    exact ⟨h4.os,h4.tape,h4.output,by simpa [World.setCell] using h4.size,fun k' h1 h2 => by rw [Below.heap_setCell _ _ _ _ (fun e => h2 (by rw [hob,e]))];exact h4.block k' h1 h2⟩
   case measure => simp [intOf];omega
  ·go_wp2
   go_end0
   exact ⟨rfl,⟨gs',HR.out.1⟩,HR.out.2.2.1,HR.out.2.2.2⟩
end Go.Proofs.YthdmjmnkhlpnnabGreatDoor
namespace Go.Proofs.YthdmjmnkhlpnnabGreatDoor
open Go.RowKit
def RowOf (w:World) (va:Option Addr) (n:Nat) (m:Int):Prop:=∀ b,va=some b -> ∃ g,b=⟨g,0,none⟩ /\ Row w g (List.replicate n m)
theorem RowOf.below {w w':World} {va:Option Addr} {n:Nat} {m:Int} (h:RowOf w va n m) (hb:Below w.heap.size w w'):RowOf w' va n m:=by
 intro b hv
 obtain ⟨g,e,hr⟩:=h b hv
 exact ⟨g,e,by unfold Row;rw [hb.block g hr.lt];exact hr⟩
theorem RowOf.holds {w:World} {va:Option Addr} {n:Nat} {m:Int} (h:RowOf w va n m):∀ b,va=some b -> ∀ j u,(List.replicate n (Value.int .i64 m))[j]? = some u->w.cell? (b.add j)=some u:=by
 intro b hv j u hu
 obtain ⟨g,rfl,hr⟩:=h b hv
 have hs:=seg_news hr.seg j u
 apply hs
 rw [List.map_replicate]
 exact hu
theorem grown_below {w w1:World} {o:Obj} (h:(w.alloc o).grownBy w1 none):Below w.heap.size w w1 :=
 ((Below.refl _ _).alloc (Nat.le_refl _) o).grown h (by simp) (fun k hk => by cases hk)
theorem mark_new {w w1:World} {bk:Nat} {L:List (Value × Int)} {nx:Int} {lv mv gv:Value} {gs:List Int} {o:Value} {n B:Nat} {m:Int} (h:Book w bk L nx lv mv gv gs) (hB:w.heap.size<=B) (hn:n<=400) (hown:w1.ownsRow B 3 1 o n (List.replicate n (Value.int .i64 m))) :
  Mark w1 bk mv gv o m /\ ∀ k,o.ownBlock=some k->w.heap.size<=k:=by
 refine ⟨?_,fun k hk => Nat.le_trans hB (hown.lt k hk).1⟩
 rcases hown.2 with ⟨e,_⟩ | ⟨g,cap,cur,e,hb,hh,hnc,hcm,hcs,htake⟩
 ·exact .inl e
 ·refine .inr ⟨g,n,cap,cur,e,by have:=h.lt;omega,fun e2 => ?_,fun e2 => ?_,hn,hh,fun j hj => ?_⟩
  ·have:=(h.hm.lt g e2).2;omega
  ·have:=(h.hg.lt g e2).2;omega
  ·have h1:(cur.toList.take (n*1))[j]? = some (Value.int .i64 m):=by rw [htake];simp [hj]
   rw [List.getElem?_take] at h1
   split at h1
   ·simpa using h1
   ·cases h1
theorem mark_row {w:World} {bk:Nat} {mv gv:Value} {va:Option Addr} {n c:Nat} {m:Int} (hn:n<=400) (hnone:va=none->n=0 /\ c=0) (h:RowOf w va n m)
  (hf:∀ g,va=some ⟨g,0,none⟩->bk < g /\ mv.ownBlock ≠ some g /\ gv.ownBlock ≠ some g):Mark w bk mv gv (.slice va n c) m:=by
 cases va with
 | none => obtain ⟨rfl,rfl⟩:=hnone rfl;exact .inl rfl
 | some b =>
  obtain ⟨g,rfl,hr⟩:=h b rfl
  obtain ⟨h1,h2,h3⟩:=hf g rfl
  exact .inr ⟨g,n,c,_,rfl,h1,h2,h3,hn,hr,fun j hj => by rw [nums_get _ j (by simpa using hj)];simp [hj]⟩
section
variable {w3 w4 w6:World} {bk:Nat} {L N:List (Value × Int)} {m:Int} {lv mv gv lv' mv':Value} {gs:List Int} {A1 A2:Obj}
theorem Book.mid (h:Book w3 bk L m lv mv gv gs) (hg1:(w3.alloc A1).grownBy w4 lv.ownBlock) (v':Value) :
  w4.heap[bk]? = w3.heap[bk]? /\ (w4.setCell ⟨bk,0,none⟩ v').heap[bk]? = some (.cells #[v',mv,.int .i64 m,gv] 64 (0,0)) /\ (w4.setCell ⟨bk,0,none⟩ v').ownsRow (bk+1) 3 1 mv L.length (L.map fun p => Value.int .i64 p.2):=by
 have hb:lv.ownBlock ≠ some bk:=owns_type h.hl h.blk (by decide)
 have e1:w4.heap[bk]? = w3.heap[bk]?:=(hg1.block bk (by have:=h.lt;simp;omega) (fun e => hb e.symm)).trans (Below.heap_alloc _ _ _ h.lt)
 refine ⟨e1,?_,?_⟩
 ·rw [setCell_eq_setRow w4 bk 0 #[lv,mv,.int .i64 m,gv] 64 (0,0) _ (e1.trans h.blk)]
  exact setRow_heap w4 bk #[lv,mv,.int .i64 m,gv] _ 64 _ (e1.trans h.blk)
 ·refine owns_kept h.hm fun k hk => ?_
  have hlt:=(h.hm.lt k hk).2
  have hne:k ≠ bk:=fun e => owns_type h.hm h.blk (by decide) (e ▸ hk)
  rw [Below.heap_setCell _ _ _ _ hne,hg1.block k (by simp;omega) ?_,Below.heap_alloc _ _ _ hlt]
  intro e
  rcases h.hm.2 with ⟨rfl,_⟩ | ⟨g,cap,cur,rfl,_,hh,_⟩
  ·simp [Value.ownBlock] at hk
  ·simp [Value.ownBlock] at hk
   subst hk
   exact owns_type h.hl hh (by decide) e.symm
theorem Book.final (h:Book w3 bk L m lv mv gv gs) (hg1:(w3.alloc A1).grownBy w4 lv.ownBlock)
  (hl':w4.ownsRow (bk+1) 23 1 lv' (L.length+N.length) (L.map Prod.fst ++ N.map Prod.fst)) (t1:lv'.ownBlock=lv.ownBlock ∨ ∀ k,lv'.ownBlock=some k->(w3.alloc A1).heap.size<=k)
  (hg2:((w4.setCell ⟨bk,0,none⟩ lv').alloc A2).grownBy w6 mv.ownBlock)
  (hm':w6.ownsRow (bk+1) 3 1 mv' (L.length+N.length) ((L.map fun p => Value.int .i64 p.2) ++ N.map fun p => Value.int .i64 p.2)) (t2:mv'.ownBlock=mv.ownBlock ∨ ∀ k,mv'.ownBlock=some k->((w4.setCell ⟨bk,0,none⟩ lv').alloc A2).heap.size<=k)
  (hN:∀ p ∈ N,Mark w3 bk mv gv p.1 p.2) :
  Book (w6.setCell ⟨bk,1,none⟩ mv') bk (L ++ N) m lv' mv' gv gs /\
   (∀ k,k < w3.heap.size->k ≠ bk->lv.ownBlock ≠ some k->mv.ownBlock ≠ some k->(w6.setCell ⟨bk,1,none⟩ mv').heap[k]? = w3.heap[k]?) /\
   (mv'.ownBlock=mv.ownBlock ∨ ∀ k,mv'.ownBlock=some k->w3.heap.size<=k) /\ Below bk w3 (w6.setCell ⟨bk,1,none⟩ mv'):=by
 obtain ⟨e1,e2,hmv⟩:=h.mid hg1 lv'
 have hbm:mv.ownBlock ≠ some bk:=owns_type h.hm h.blk (by decide)
 have s4:w3.heap.size < w4.heap.size:=by have:=hg1.size;simp at this;omega
 have s5:(w4.setCell ⟨bk,0,none⟩ lv').heap.size=w4.heap.size:=by simp [World.setCell]
 have s6:w4.heap.size < w6.heap.size:=by have:=hg2.size;simp [World.setCell] at this;omega
 have f6:w6.heap[bk]? = some (.cells #[lv',mv,.int .i64 m,gv] 64 (0,0)):=by
  rw [hg2.block bk (by have:=h.lt;rw [World.size_alloc,s5];omega) (fun e => hbm e.symm),Below.heap_alloc _ _ _ (by rw [s5];have:=h.lt;omega)]
  exact e2
 have k6:∀ k,k < w4.heap.size->k ≠ bk->mv.ownBlock ≠ some k->(w6.setCell ⟨bk,1,none⟩ mv').heap[k]? = w4.heap[k]?:=fun k h1 h2 h3 => by
  rw [Below.heap_setCell _ _ _ _ h2,hg2.block k (by rw [World.size_alloc,s5];omega) (fun e => h3 e.symm),Below.heap_alloc _ _ _ (by rw [s5];exact h1),Below.heap_setCell _ _ _ _ h2]
 have k3:∀ k,k < w3.heap.size->k ≠ bk->lv.ownBlock ≠ some k->mv.ownBlock ≠ some k->(w6.setCell ⟨bk,1,none⟩ mv').heap[k]? = w3.heap[k]?:=fun k h1 h2 h3 h4 => by
  rw [k6 k (by omega) h2 h4,hg1.block k (by simp;omega) (fun e => h3 e.symm),Below.heap_alloc _ _ _ h1]
 have t2':mv'.ownBlock=mv.ownBlock ∨ ∀ k,mv'.ownBlock=some k->w3.heap.size<=k:=by
  rcases t2 with t | t
  ·exact .inl t
  ·refine .inr fun k hk => ?_
   have:=t k hk
   rw [World.size_alloc,s5] at this
   omega
 have notm:∀ k,k < w3.heap.size->mv.ownBlock ≠ some k->mv'.ownBlock ≠ some k:=fun k h1 h2 h3 => by
  rcases t2' with e | e
  ·exact h2 (e ▸ h3)
  ·have:=e k h3;omega
 have lnot:∀ k,∀ cur,w3.heap[k]? = some (.cells cur 3 (0,0))->lv.ownBlock ≠ some k:=fun k cur hh => owns_type h.hl hh (by decide)
 have mk:∀ p:Value × Int,Mark w3 bk mv gv p.1 p.2->Mark (w6.setCell ⟨bk,1,none⟩ mv') bk mv' gv p.1 p.2:=fun p hm => by
  refine (hm.kept fun k hk => k3 k (hm.lt hk) (fun e => hm.type h.blk (by decide) (e ▸ hk)) ?_ (hm.notmv k hk)).regard (fun g hg => notm g (hm.lt hg) (hm.notmv g hg)) hm.notgv
  rcases hm with e | ⟨g,n,c,cur,e,_,_,_,_,hh,_⟩
  ·rw [e] at hk;simp [Value.ownBlock] at hk
  ·rw [e] at hk;simp [Value.ownBlock] at hk;subst hk;exact lnot _ _ hh
 refine ⟨⟨?_,?_,?_,?_,?_,?_⟩,k3,t2',?_⟩
 ·rw [setCell_eq_setRow w6 bk 1 #[lv',mv,.int .i64 m,gv] 64 (0,0) _ f6]
  exact setRow_heap w6 bk #[lv',mv,.int .i64 m,gv] _ 64 _ f6
 ·rw [List.length_append,List.map_append]
  refine owns_kept hl' fun k hk => k6 k (hl'.lt k hk).2 ?_ ?_
  ·intro e
   subst e
   exact owns_type hl' (e1.trans h.blk) (by decide) hk
  ·intro e
   rcases t1 with t | t
   ·rw [t] at hk
    rcases h.hm.2 with ⟨e3,_⟩ | ⟨g,cap,cur,e3,_,hh,_⟩
    ·rw [e3] at e;simp [Value.ownBlock] at e
    ·rw [e3] at e;simp [Value.ownBlock] at e;subst e;exact lnot _ _ hh hk
   ·have:=t k hk;have:=(h.hm.lt k e).2;simp at *;omega
 ·rw [List.length_append,List.map_append]
  refine owns_kept hm' fun k hk => Below.heap_setCell _ _ _ _ ?_
  intro e
  simp at e
  subst e
  rcases t2' with t | t
  ·exact hbm (t ▸ hk)
  ·have:=t k hk;have:=h.lt;omega
 ·refine owns_kept h.hg fun k hk => k3 k (h.hg.lt k hk).2 (fun e => owns_type h.hg h.blk (by decide) (e ▸ hk)) ?_ (fun e => h.dist k e hk)
  rcases h.hg.2 with ⟨e3,_⟩ | ⟨g,cap,cur,e3,_,hh,_⟩
  ·rw [e3] at hk;simp [Value.ownBlock] at hk
  ·rw [e3] at hk;simp [Value.ownBlock] at hk;subst hk;exact lnot _ _ hh
 ·intro k hk e
  rcases t2' with t | t
  ·exact h.dist k (t ▸ hk) e
  ·have:=t k hk;have:=(h.hg.lt k e).2;omega
 ·intro p hp
  rcases List.mem_append.1 hp with hp | hp
  ·exact mk p (h.marks p hp)
  ·exact mk p (hN p hp)
 ·have b1:Below bk w3 w4:=((Below.refl _ _).alloc (Nat.le_of_lt h.lt) A1).grown hg1 (by have:=h.lt;simp;omega) (fun k hk => by have:=(h.hl.lt k hk).1;omega)
  exact (((b1.setCell (Nat.le_refl _) _).alloc (by rw [s5];have:=h.lt;omega) A2).grown hg2 (by rw [World.size_alloc,s5];have:=h.lt;omega) (fun k hk => by have:=(h.hm.lt k hk).1;omega)).setCell (Nat.le_refl _) _
end
end Go.Proofs.YthdmjmnkhlpnnabGreatDoor
namespace Go.Proofs.YthdmjmnkhlpnnabGreatDoor
open Go.RowKit
section
variable {w w':World} {bk:Nat} {L:List (Value × Int)} {nx:Int} {lv mv gv:Value} {gs:List Int}
theorem Book.next (h:Book w bk L nx lv mv gv gs) (v:Int):Book (w.setCell ⟨bk,2,none⟩ (.int .i64 v)) bk L v lv mv gv gs:=by
 have same:∀ k,k ≠ bk->(w.setCell ⟨bk,2,none⟩ (.int .i64 v)).heap[k]? = w.heap[k]?:=fun k h2 => Below.heap_setCell _ _ _ _ h2
 refine ⟨?_,?_,?_,?_,h.dist,?_⟩
 ·rw [setCell_eq_setRow w bk 2 #[lv,mv,.int .i64 nx,gv] 64 (0,0) _ h.blk]
  exact setRow_heap w bk #[lv,mv,.int .i64 nx,gv] _ 64 _ h.blk
 ·exact owns_kept h.hl fun k hk => same k fun e => owns_type h.hl h.blk (by decide) (e ▸ hk)
 ·exact owns_kept h.hm fun k hk => same k fun e => owns_type h.hm h.blk (by decide) (e ▸ hk)
 ·exact owns_kept h.hg fun k hk => same k fun e => owns_type h.hg h.blk (by decide) (e ▸ hk)
 ·intro p hp
  have hm:=h.marks p hp
  exact hm.kept fun k hk => same k fun e => hm.type h.blk (by decide) (e ▸ hk)
theorem Book.mine (h:Book w bk L nx lv mv gv gs) {g:Nat} {l:List Int} (hr:Row w g l) (h1:bk < g) (h2:mv.ownBlock ≠ some g) (h3:gv.ownBlock ≠ some g) (h4:∀ p ∈ L,p.1.ownBlock ≠ some g) (j:Nat) (x:Value) :
  Book (w.setCell ⟨g,j,none⟩ x) bk L nx lv mv gv gs:=by
 have same:∀ k,k ≠ g->(w.setCell ⟨g,j,none⟩ x).heap[k]? = w.heap[k]?:=fun k h2 => Below.heap_setCell _ _ _ _ h2
 refine ⟨?_,?_,?_,?_,h.dist,?_⟩
 ·rw [same bk (by omega)];exact h.blk
 ·exact owns_kept h.hl fun k hk => same k fun e => owns_type h.hl hr (by decide) (e ▸ hk)
 ·exact owns_kept h.hm fun k hk => same k fun e => h2 (e ▸ hk)
 ·exact owns_kept h.hg fun k hk => same k fun e => h3 (e ▸ hk)
 ·intro p hp
  exact (h.marks p hp).kept fun k hk => same k fun e => h4 p hp (e ▸ hk)
end
structure Fill (w wr:World) (bk:Nat) (L:List (Value × Int)) (m:Int) (lv mv gv:Value) (gs:List Int) (va:Option Addr) (n k:Nat):Prop where
 book:Book wr bk L m lv mv gv gs
 row:∀ b,va=some b -> ∃ g l,b=⟨g,0,none⟩ /\ l.length=n /\ Row wr g l /\ ∀ j,j < k->l.getD j 0=m
 kept:∀ k',k' < w.heap.size->k' ≠ bk->(Value.slice va n n).ownBlock ≠ some k'->wr.heap[k']? = w.heap[k']?
 below:Below bk w wr
theorem Fill.full {w wr:World} {bk:Nat} {L:List (Value × Int)} {m:Int} {lv mv gv:Value} {gs:List Int} {va:Option Addr} {n k:Nat} (h:Fill w wr bk L m lv mv gv gs va n k) (hk:n<=k):RowOf wr va n m:=by
 intro b hv
 obtain ⟨g,l,e,hl,hr,hc⟩:=h.row b hv
 refine ⟨g,e,?_⟩
 have:l=List.replicate n m:=by
  apply List.ext_getElem?
  intro i
  by_cases hi:i < n
  ·have:=hc i (by omega)
   simp [hi,hl] at this ⊢
   exact this
  ·rw [List.getElem?_eq_none (by omega),List.getElem?_eq_none (by simp;omega)]
 rw [<- this]
 exact hr
theorem owns_step {wr w1:World} {bk:Nat} {L:List (Value × Int)} {m:Int} {lv mv gv o1:Value} {gs:List Int} {va:Option Addr} {n j B:Nat} {o:Obj} (hS:Book wr bk L m lv mv gv gs) (hR:RowOf wr va n m) (hgrow:(wr.alloc o).grownBy w1 none)
  (hown:w1.ownsRow B 3 1 o1 (n+j) (List.replicate n (Value.int .i64 m) ++ List.replicate j (Value.int .i64 m))) (hB:wr.heap.size<=B) (hn:n+j<=400) :
  Book w1 bk L m lv mv gv gs /\ RowOf w1 va n m /\ Below wr.heap.size wr w1 /\ Mark w1 bk mv gv o1 m /\ ∀ k,o1.ownBlock=some k->wr.heap.size<=k:=by
 have hb:=grown_below hgrow
 rw [List.replicate_append_replicate] at hown
 have hM:=mark_new hS hB hn hown
 exact ⟨hS.below hb,hR.below hb,hb,hM.1,hM.2⟩
theorem info27:(Tryz.prog.info? 23).map (fun i => (i.zero,i.size,i.bytes))=some (some (.slice none 0 0),1,24):=by kernel_rfl
theorem Book.mid2 {w3 w4 w6:World} {bk:Nat} {L:List (Value × Int)} {m:Int} {lv mv gv lv':Value} {gs:List Int} {A1 A2:Obj} (h:Book w3 bk L m lv mv gv gs) (hg1:(w3.alloc A1).grownBy w4 lv.ownBlock) (hg2:((w4.setCell ⟨bk,0,none⟩ lv').alloc A2).grownBy w6 mv.ownBlock) :
  w6.heap[bk]? = some (.cells #[lv',mv,.int .i64 m,gv] 64 (0,0)):=by
 obtain ⟨_,e2,_⟩:=h.mid hg1 lv'
 have hbm:mv.ownBlock ≠ some bk:=owns_type h.hm h.blk (by decide)
 have s4:w3.heap.size < w4.heap.size:=by have:=hg1.size;simp at this;omega
 have s5:(w4.setCell ⟨bk,0,none⟩ lv').heap.size=w4.heap.size:=by simp [World.setCell]
 rw [hg2.block bk (by have:=h.lt;rw [World.size_alloc,s5];omega) (fun e => hbm e.symm),Below.heap_alloc _ _ _ (by rw [s5];have:=h.lt;omega)]
 exact e2
theorem cell_at {w:World} {b j:Nat} {cs:Array Value} {t:TypeId} {v:Value} (h:w.heap[b]? = some (.cells cs t (0,0))) (hv:cs[j]? = some v):w.cell? ⟨b,j,none⟩=some v /\ w.frozen? ⟨b,j,none⟩=false :=
 ⟨by rw [cell_of_row w b j cs t (0,0) h,hv],by simp [World.frozen?,h]⟩
theorem owns_end {w wr w1 w2 w3 w4 w6:World} {bk n k:Nat} {L:List (Value × Int)} {m:Int} {lv mv gv o1 o2 o3 lv' mv':Value} {gs:List Int} {va:Option Addr} {A1 A2:Obj}
  (HS:Fill w wr bk L m lv mv gv gs va n k) (hn:n<=320) (hnone:va=none->n=0 /\ n=0)
  (hf:∀ g,va=some ⟨g,0,none⟩->bk < g /\ mv.ownBlock ≠ some g /\ gv.ownBlock ≠ some g /\ ∀ p ∈ L,p.1.ownBlock ≠ some g)
  (S1:Book w1 bk L m lv mv gv gs /\ RowOf w1 va n m /\ Below wr.heap.size wr w1 /\ Mark w1 bk mv gv o1 m /\ ∀ k,o1.ownBlock=some k->wr.heap.size<=k)
  (S2:Book w2 bk L m lv mv gv gs /\ RowOf w2 va n m /\ Below w1.heap.size w1 w2 /\ Mark w2 bk mv gv o2 m /\ ∀ k,o2.ownBlock=some k->w1.heap.size<=k)
  (S3:Book w3 bk L m lv mv gv gs /\ RowOf w3 va n m /\ Below w2.heap.size w2 w3 /\ Mark w3 bk mv gv o3 m /\ ∀ k,o3.ownBlock=some k->w2.heap.size<=k)
  (hg1:(w3.alloc A1).grownBy w4 lv.ownBlock)
  (hl':w4.ownsRow (bk+1) 23 1 lv' (L.length+4) (L.map Prod.fst ++ [.slice va n n,o1,o2,o3])) (t1:lv'.ownBlock=lv.ownBlock ∨ ∀ k,lv'.ownBlock=some k->w3.heap.size+1<=k)
  (hg2:((w4.setCell ⟨bk,0,none⟩ lv').alloc A2).grownBy w6 mv.ownBlock)
  (hm':w6.ownsRow (bk+1) 3 1 mv' (L.length+4) ((L.map fun p => Value.int .i64 p.2) ++ [.int .i64 m,.int .i64 m,.int .i64 m,.int .i64 m])) (t2:mv'.ownBlock=mv.ownBlock ∨ ∀ k,mv'.ownBlock=some k->w4.heap.size+1<=k) :
  ∃ N lv'' mv'',N.length=4 /\ Book (w6.setCell ⟨bk,1,none⟩ mv') bk (L ++ N) m lv'' mv'' gv gs /\ To (fun k => Bo bk L lv mv gv k ∨ (Value.slice va n n).ownBlock=some k) (Bo bk (L ++ N) lv'' mv'' gv) w (w6.setCell ⟨bk,1,none⟩ mv'):=by
 obtain ⟨B1,R1,b1,M1,g1⟩:=S1
 obtain ⟨B2,R2,b2,M2,g2⟩:=S2
 obtain ⟨B3,R3,b3,M3,g3⟩:=S3
 have z0:=HS.below.size
 have z1:=b1.size
 have z2:=b2.size
 have z3:=b3.size
 have hN:∀ p ∈ [((.slice va n n:Value),m),(o1,m),(o2,m),(o3,m)],Mark w3 bk mv gv p.1 p.2:=by
  intro p hp
  simp at hp
  rcases hp with rfl | rfl | rfl | rfl
  ·exact mark_row (by omega) hnone R3 fun g hg => ⟨(hf g hg).1,(hf g hg).2.1,(hf g hg).2.2.1⟩
  ·exact M1.kept fun k hk => (b3.block k (by have:=M1.lt hk;omega)).trans (b2.block k (M1.lt hk))
  ·exact M2.kept fun k hk => b3.block k (M2.lt hk)
  ·exact M3
 obtain ⟨F1,F2,F3,F4⟩:=B3.final (N:=[((.slice va n n:Value),m),(o1,m),(o2,m),(o3,m)]) hg1 hl' (by rw [World.size_alloc];exact t1) hg2 hm' (by rw [World.size_alloc,show (w4.setCell ⟨bk,0,none⟩ lv').heap.size=w4.heap.size by simp [World.setCell]];exact t2) hN
 have hlt:=HS.book.lt
 refine ⟨_,lv',mv',rfl,F1,⟨(HS.below.trans ((b1.mono (by omega)).trans ((b2.mono (by omega)).trans ((b3.mono (by omega)).trans F4)))).mono (Nat.zero_le _),fun k h1 h2 => ?_⟩,fun k hk => ?_⟩
 ·rw [F2 k (by omega) (fun e => h2 (.inl (.inl e))) (fun e => h2 (.inl (.inr (.inl e)))) (fun e => h2 (.inl (.inr (.inr (.inl e))))),b3.block k (by omega),b2.block k (by omega),b1.block k (by omega)]
  exact HS.kept k h1 (fun e => h2 (.inl (.inl e))) (fun e => h2 (.inr e))
 ·rcases hk with e | e | e | e | ⟨p,hp,e⟩
  ·exact .inl (.inl (.inl e))
  ·rcases t1 with t | t
   ·exact .inl (.inl (.inr (.inl (t ▸ e))))
   ·have:=t k e;exact .inr (by omega)
  ·rcases F3 with t | t
   ·exact .inl (.inl (.inr (.inr (.inl (t ▸ e)))))
   ·have:=t k e;exact .inr (by omega)
  ·exact .inl (.inl (.inr (.inr (.inr (.inl e)))))
  ·rcases List.mem_append.1 hp with hp | hp
   ·exact .inl (.inl (.inr (.inr (.inr (.inr ⟨p,hp,e⟩)))))
   ·simp at hp
    rcases hp with rfl | rfl | rfl | rfl
    ·exact .inl (.inr e)
    ·have:=g1 k e;exact .inr (by omega)
    ·have:=g2 k e;exact .inr (by omega)
    ·have:=g3 k e;exact .inr (by omega)
set_option maxRecDepth 20000 in
set_option maxHeartbeats 2000000 in
theorem owns_any {w:World} {bk:Nat} {L:List (Value × Int)} {nx:Int} {lv mv gv:Value} {gs:List Int} (hB:Book w bk L nx lv mv gv gs) (va:Option Addr) (n:Nat) (hn:n<=320) (hL:L.length<=100000000) (hx1:-1000000000<=nx) (hx2:nx<=0)
  (hnone:va=none->n=0 /\ n=0) (hrow:∀ b,va=some b -> ∃ g l,b=⟨g,0,none⟩ /\ l.length=n /\ Row w g l)
  (hbig:∀ g,va=some ⟨g,0,none⟩->bk < g) (hF:∀ g,va=some ⟨g,0,none⟩ -> ¬ Bo bk L lv mv gv g) :
  Calls Tryz.prog 55 #[.pointer (some ⟨bk,0,none⟩),.slice va n n] w fun e w' => e = .returned (.tuple #[]) /\ ∃ N lv' mv',N.length=4 /\ Book w' bk (L ++ N) (nx - 1) lv' mv' gv gs /\ To (fun k => Bo bk L lv mv gv k ∨ (Value.slice va n n).ownBlock=some k) (Bo bk (L ++ N) lv' mv' gv) w w':=by
 have hf:∀ g,va=some ⟨g,0,none⟩->bk < g /\ mv.ownBlock ≠ some g /\ gv.ownBlock ≠ some g /\ ∀ p ∈ L,p.1.ownBlock ≠ some g:=fun g hg => ⟨hbig g hg,Bo.not (hF g hg)⟩
 clear hF hbig
 obtain ⟨i0,hi,hz0,hz1,hz2⟩:=info_parts info3
 have c2:=hB.cell2
 have f2:=hB.free 2
 have HF:=hid hf
 have HN:=hid hnone
 have H0:Hid (Fill w (w.setCell ⟨bk,2,none⟩ (.int .i64 (nx - 1))) bk L (nx - 1) lv mv gv gs va n 0):=by
  refine ⟨hB.next _,fun b hv => ?_,fun k' _ h2 _ => Below.heap_setCell _ _ _ _ h2,(Below.refl bk w).setCell (p:=⟨bk,2,none⟩) (Nat.le_refl _) _⟩
  obtain ⟨g,l,e,hl,hr⟩:=hrow b hv
  subst e
  exact ⟨g,l,rfl,hl,hr.other (by have:=(hf g hv).1;simp;omega) _,fun j hj => by omega⟩
 clear hrow hf hnone hB
 go_enter Tryz.func55,Tryz.ntmps55
 go_wp2
 go_loopw [5] (fun i wr => ∃ k:Nat,k<=n /\ i = .int .i64 k /\ Hid (Fill w wr bk L (nx - 1) lv mv gv gs va n k)) (fun i _ => n - (intOf i).toNat)
 case atStart => exact ⟨0,by omega,rfl,H0.out⟩
 case round =>
  clear H0 c2 f2
  obtain ⟨k,hk,rfl,HS⟩:=hrel
  by_cases hlt:k < n
  ·cases va with
   | none => have:=(HN.out rfl).1;omega
   | some b =>
    obtain ⟨g,l,rfl,hl,hr,hc⟩:=HS.out.row b rfl
    have cg:∃ q,wr.cell? ⟨g,k,none⟩=some (.int .i64 q):=⟨_,hr.cell (by omega)⟩
    obtain ⟨q,cg⟩:=cg
    have fg:wr.frozen? ⟨g,k,none⟩=false:=hr.free k
    have R:Hid (Fill w (wr.setCell ⟨g,k,none⟩ (.int .i64 (nx - 1))) bk L (nx - 1) lv mv gv gs (some ⟨g,0,none⟩) n (k+1)):=by
     obtain ⟨h1,h2,h3,h4⟩:=HF.out g rfl
     refine ⟨HS.out.book.mine hr h1 h2 h3 h4 _ _,fun b hv => ?_,fun k' a1 a2 a3 => ?_,HS.out.below.setCell (by show bk<=g;omega) _⟩
     ·injection hv with hv
      subst hv
      refine ⟨g,l.set k (nx - 1),rfl,by simp [hl],hr.set _ _,fun j hj => ?_⟩
      by_cases hjk:j=k
      ·subst hjk;simp [hl,hlt]
      ·have:=hc j (by omega)
       simp [Ne.symm hjk] at this ⊢
       exact this
     ·have hne:k' ≠ g:=fun e => a3 (by rw [e];rfl)
      rw [Below.heap_setCell _ _ _ _ hne]
      exact HS.out.kept k' a1 a2 a3
    clear hl hr hc HS
    go_wp2
    go_roundw
    case rel => exact ⟨k+1,by omega,by go_num,R⟩
    case measure => simp [intOf];omega
  ·have HR:=hid (HS.out.full (by omega))
   have hb0:=HS.out.book.lt
   have HRa:Hid (∀ o:Obj,∀ b,va=some b -> ∀ j u,(List.replicate n (Value.int .i64 (nx - 1)))[j]? = some u->(wr.alloc o).cell? (b.add j)=some u):=fun o => (HR.out.below ((Below.refl _ _).alloc (Nat.le_refl _) o)).holds
   go_wp2_with (at_builtin;refine wpList_append_grows _ rfl (.tmp 30) (.tmp 32) 23 rfl 3 i0 (.int .i64 0) 1 8 Tryz.underlying23 hi hz0 hz1 hz2 rfl (by decide) va n n (List.replicate n (Value.int .i64 (nx - 1))) rfl HN.out ?a1 (HRa.out _) ⟨wr.heap.size,0,none⟩ 1 1 [.int .i64 (nx - 1)] rfl rfl (cell_one_new _ _ _) ?a2 ?a3 ?a4 ?a5 ?_)
   case a1 => simp
   case a2 => intro u hu;simp at hu;subst hu;rfl
   case a3 => omega
   case a4 => unfold maxLen;omega
   case a5 => omega
   intro o1 w1 hown1 hgrow1
   obtain ⟨a1,c1,rfl,_⟩:=owns_shape hown1
   have S1:=hid (owns_step (j:=1) HS.out.book HR.out hgrow1 (by exact hown1) (by simp) (by omega))
   clear hown1 hgrow1
   have HRb:Hid (∀ o:Obj,∀ b,va=some b -> ∀ j u,(List.replicate n (Value.int .i64 (nx - 1)))[j]? = some u->(w1.alloc o).cell? (b.add j)=some u):=fun o => (S1.out.2.1.below ((Below.refl _ _).alloc (Nat.le_refl _) o)).holds
   go_wp2_with (at_builtin;refine wpList_append_grows _ rfl (.tmp 34) (.tmp 37) 23 rfl 3 i0 (.int .i64 0) 1 8 Tryz.underlying23 hi hz0 hz1 hz2 rfl (by decide) va n n (List.replicate n (Value.int .i64 (nx - 1))) rfl HN.out ?b1 (HRb.out _) ⟨w1.heap.size,0,none⟩ 2 2 [.int .i64 (nx - 1),.int .i64 (nx - 1)] rfl rfl (cells_new _ _ _) ?b2 ?b3 ?b4 ?b5 ?_)
   case b1 => simp
   case b2 => intro u hu;simp at hu;subst hu;rfl
   case b3 => omega
   case b4 => unfold maxLen;omega
   case b5 => omega
   intro o2 w2 hown2 hgrow2
   obtain ⟨a2,c2,rfl,_⟩:=owns_shape hown2
   have S2:=hid (owns_step (j:=2) S1.out.1 S1.out.2.1 hgrow2 (by exact hown2) (by simp) (by omega))
   clear hown2 hgrow2
   have HRc:Hid (∀ o:Obj,∀ b,va=some b -> ∀ j u,(List.replicate n (Value.int .i64 (nx - 1)))[j]? = some u->(w2.alloc o).cell? (b.add j)=some u):=fun o => (S2.out.2.1.below ((Below.refl _ _).alloc (Nat.le_refl _) o)).holds
   go_wp2_with (at_builtin;refine wpList_append_grows _ rfl (.tmp 39) (.tmp 43) 23 rfl 3 i0 (.int .i64 0) 1 8 Tryz.underlying23 hi hz0 hz1 hz2 rfl (by decide) va n n (List.replicate n (Value.int .i64 (nx - 1))) rfl HN.out ?d1 (HRc.out _) ⟨w2.heap.size,0,none⟩ 3 3 [.int .i64 (nx - 1),.int .i64 (nx - 1),.int .i64 (nx - 1)] rfl rfl (cells_new _ _ _) ?d2 ?d3 ?d4 ?d5 ?_)
   case d1 => simp
   case d2 => intro u hu;simp at hu;subst hu;rfl
   case d3 => omega
   case d4 => unfold maxLen;omega
   case d5 => omega
   intro o3 w3 hown3 hgrow3
   obtain ⟨a3,c3,rfl,_⟩:=owns_shape hown3
   have S3:=hid (owns_step (j:=3) S2.out.1 S2.out.2.1 hgrow3 (by exact hown3) (by simp) (by omega))
   clear hown3 hgrow3 HRa HRb HRc
   obtain ⟨i27,hi27,hy0,hy1,hy2⟩:=info_parts info27
   have k0:=S3.out.1.cell0
   have hb3:=S3.out.1.lt
   go_wp2_with (at_builtin;refine wpList_append_track _ rfl (.tmp 49) (.tmp 54) 62 rfl (bk+1) 23 i27 (.slice none 0 0) 1 24 Tryz.underlying62 hi27 hy0 hy1 hy2 rfl (by decide) _ _ _ rfl (S3.out.1.hl.alloc _) ⟨w3.heap.size,0,none⟩ 4 4 [.slice va n n,.slice a1 (n+1) c1,.slice a2 (n+2) c2,.slice a3 (n+3) c3] rfl rfl (cells_new _ _ _) ?e2 ?e3 ?e4 ?e5 ?_)
   case e2 => intro u hu;simp at hu;rcases hu with rfl | rfl | rfl | rfl <;> rfl
   case e3 => unfold maxLen;omega
   case e4 => omega
   case e5 => simp;omega
   intro lv' w4 hl' hg1 t1
   obtain ⟨la',lc',rfl,_⟩:=owns_shape hl'
   have HL':=hid hl'
   have HG1:=hid hg1
   have HT1:=hid t1
   have mid:=S3.out.1.mid hg1 (.slice la' (L.length+4) lc')
   have k0':w4.cell? ⟨bk,0,none⟩=some lv:=(cell_at (mid.1.trans S3.out.1.blk) (j:=0) rfl).1
   have f0':=(cell_at (mid.1.trans S3.out.1.blk) (j:=0) rfl).2
   have k1':w4.cell? ⟨bk,1,none⟩=some mv:=(cell_at (mid.1.trans S3.out.1.blk) (j:=1) rfl).1
   have f1':=(cell_at (mid.1.trans S3.out.1.blk) (j:=1) rfl).2
   have HM':=hid mid.2.2
   clear hl' hg1 t1 mid k0
   go_wp2_with (at_builtin;refine wpList_append_track _ rfl (.tmp 62) (.tmp 67) 23 rfl (bk+1) 3 i0 (.int .i64 0) 1 8 Tryz.underlying23 hi hz0 hz1 hz2 rfl (by decide) _ _ _ rfl (HM'.out.alloc _) ⟨w4.heap.size,0,none⟩ 4 4 [.int .i64 (nx - 1),.int .i64 (nx - 1),.int .i64 (nx - 1),.int .i64 (nx - 1)] rfl rfl ?g1 ?g2 ?g3 ?g4 ?g5 ?_)
   case g1 => have:=cells_new (w4.setCell ⟨bk,0,none⟩ (.slice la' (L.length+4) lc')) #[.int .i64 (nx - 1),.int .i64 (nx - 1),.int .i64 (nx - 1),.int .i64 (nx - 1)] 3;simpa [World.setCell] using this
   case g2 => intro u hu;simp at hu;subst hu;rfl
   case g3 => unfold maxLen;omega
   case g4 => omega
   case g5 => have:=HG1.out.size;simp [World.setCell] at this ⊢;omega
   intro mv' w6 hm' hg2 t2
   obtain ⟨ma',mc',rfl,_⟩:=owns_shape hm'
   have HMM:=hid hm'
   have HG2:=hid hg2
   have HT2:=hid t2
   have k1'':w6.cell? ⟨bk,1,none⟩=some mv:=(cell_at (S3.out.1.mid2 HG1.out hg2) (j:=1) rfl).1
   have f1'':=(cell_at (S3.out.1.mid2 HG1.out hg2) (j:=1) rfl).2
   clear hm' hg2 t2
   go_wp2
   go_end0
   refine ⟨rfl,?_⟩
   exact owns_end HS.out hn HN.out HF.out S1.out S2.out S3.out HG1.out HL'.out HT1.out HG2.out HMM.out HT2.out
end Go.Proofs.YthdmjmnkhlpnnabGreatDoor
namespace Go.Proofs.YthdmjmnkhlpnnabGreatDoor
open Go.RowKit
theorem New.shape {w w':World} {v:Value} {l:List Int} (h:New w w' v l):∃ va,v = .slice va l.length l.length /\ (va=none->l.length=0 /\ l.length=0) /\ ∀ b,va=some b -> ∃ g,b=⟨g,0,none⟩ /\ w.heap.size<=g /\ Row w' g l:=by
 rcases h with ⟨rfl,rfl⟩ | ⟨g,rfl,hg,hr⟩
 ·exact ⟨none,rfl,fun _ => ⟨rfl,rfl⟩,fun b hb => by cases hb⟩
 ·exact ⟨some ⟨g,0,none⟩,rfl,fun e => (by cases e),fun b hb => (by injection hb with hb;exact ⟨g,hb.symm,hg,hr⟩)⟩
theorem seg_of {w:World} {va:Option Addr} {l:List Int} (hn:va=none->l.length=0 /\ l.length=0) (h:∀ b,va=some b -> ∃ g,b=⟨g,0,none⟩ /\ Row w g l):Seg w va l:=by
 cases va with
 | none => intro h0;have:=(hn rfl).1;omega
 | some b => obtain ⟨g,rfl,hr⟩:=h b rfl;exact hr.seg
theorem same_self (a1 a2:Option Addr) (c1 c2:Nat) (xs:List Int) (w:World) (h1:Seg w a1 xs) (h2:Seg w a2 xs) (hm1:xs.length<=maxLen) :
  Calls Tryz.prog 53 #[.slice a1 xs.length c1,.slice a2 xs.length c2] w fun e w' => e = .returned (.bool true) /\ ∃ n,w'=w.drewN n:=by
 refine (lsame_any a1 a2 c1 c2 xs xs w h1 h2 hm1).mono ?_
 rintro e w' ⟨rfl,h⟩
 exact ⟨ret_bool (by simp),h⟩
theorem refcodes_any (ao:Option Addr) (c:Nat) (zs:List Int) (w:World) (hs:Seg w ao zs) (hm:zs.length<=maxLen) :
  Calls Tryz.prog 52 #[.slice ao zs.length c] w fun e w' => ∃ ao' c',e = .returned (.tuple #[.slice ao' (cout zs).length c',.int .i64 (cerr zs)]) /\ Seg w' ao' (cout zs) /\ Below w.heap.size w w':=by
 by_cases hbad:320 < zs.length ∨ zs.any nl=true
 ·refine (refcodes_number ao c zs w hs hm hbad).mono ?_
  rintro e w' ⟨rfl,rfl⟩
  have e1:cout zs=[]:=by simp only [cout,if_pos hbad]
  have e2:cerr zs=9:=by simp only [cerr,if_pos hbad]
  rw [e1,e2]
  exact ⟨none,0,rfl,fun h => by simp at h,Below.refl _ _⟩
 ·have h320:zs.length<=320:=by omega
  have hok:zs.any nl=false:=by
   rcases h:zs.any nl with _ | _
   ·rfl
   ·exact absurd (Or.inr h) hbad
  by_cases hw:32768 < wt zs
  ·refine (refcodes_code ao c zs w hs h320 hok hw).mono ?_
   rintro e w' ⟨rfl,rfl⟩
   have e1:cout zs=[]:=by simp only [cout,if_neg hbad,if_pos hw]
   have e2:cerr zs=3:=by simp only [cerr,if_neg hbad,if_pos hw]
   rw [e1,e2]
   exact ⟨none,0,rfl,fun h => by simp at h,Below.refl _ _⟩
  ·refine (refcodes_ok ao c zs w hs h320 hok (by omega)).mono ?_
   rintro e w' ⟨ao',c',rfl,hseg,hb⟩
   have e1:cout zs=bts zs:=by simp only [cout,if_neg hbad,if_neg hw]
   have e2:cerr zs=0:=by simp only [cerr,if_neg hbad,if_neg hw]
   rw [e1,e2]
   exact ⟨ao',c',rfl,hseg,hb⟩
theorem Book.fresh {w:World} {bk:Nat} {L:List (Value × Int)} {nx:Int} {lv mv gv:Value} {gs:List Int} (h:Book w bk L nx lv mv gv gs) {g:Nat} (hg:w.heap.size<=g):bk < g /\ ¬ Bo bk L lv mv gv g :=
 ⟨by have:=h.lt;omega,fun e => by have:=(h.olt e).2;omega⟩
theorem own_two {w8 w9:World} {bk:Nat} {L N9:List (Value × Int)} {lv mv gv lv9 mv9:Value} {va1:Option Addr} {n g m1:Nat} {l:List Int} (k9:To (fun k => Bo bk L lv mv gv k ∨ (Value.slice va1 n n).ownBlock=some k) (Bo bk (L ++ N9) lv9 mv9 gv) w8 w9)
  (hf:¬ Bo bk L lv mv gv g) (hr:Row w8 g l) (h1:∀ b,va1=some b -> ∃ g,b=⟨g,0,none⟩ /\ g < m1) (h2:m1<=g):Row w9 g l /\ ¬ Bo bk (L ++ N9) lv9 mv9 gv g:=by
 have hv:¬ (Value.slice va1 n n).ownBlock=some g:=fun e2 => by
  cases va1 with
  | none => simp [Value.ownBlock] at e2
  | some b1 =>
   obtain ⟨g1,e3,h3⟩:=h1 b1 rfl
   subst e3
   simp [Value.ownBlock] at e2
   omega
 constructor
 ·unfold Row
  rw [k9.fr.blk g hr.lt (fun e => e.elim hf hv)]
  exact hr
 ·intro e
  rcases k9.new g e with e | e
  ·exact e.elim hf hv
  ·have:=hr.lt;omega
theorem own_slice {va:Option Addr} {n k:Nat} {P:Nat->Prop} (h:∀ b,va=some b -> ∃ g,b=⟨g,0,none⟩ /\ P g) (hk:(Value.slice va n n).ownBlock=some k):P k:=by
 cases va with
 | none => simp [Value.ownBlock] at hk
 | some b =>
  obtain ⟨g,rfl,hp⟩:=h b rfl
  simp [Value.ownBlock] at hk
  exact hk ▸ hp
set_option maxRecDepth 20000 in
set_option maxHeartbeats 2000000 in
theorem bcodes_any {w0 w:World} {bk:Nat} {L:List (Value × Int)} {nx:Int} {lv mv gv:Value} {gs zs:List Int} (hB:Book w bk L nx lv mv gv gs) (hL:L.length<=90000000) (hx1:-900000000<=nx) (hx2:nx<=0)
  (ao:Option Addr) (c:Nat) (hseg:Seg w0 ao zs) (h0:Below w0.heap.size w0 w) (hbk:w0.heap.size<=bk) (hn:ao=none->zs.length=0 /\ c=0) (hz:zs.length<=1048576) :
  Calls Tryz.prog 30 #[.pointer (some ⟨bk,0,none⟩),.slice ao zs.length c] w fun e w' => e = .returned (.bool true) /\ ∃ L' lv' mv' gv' gs',L'.length=L.length+8 /\ Book w' bk L' (nx - 2) lv' mv' gv' gs' /\ To (Bo bk L lv mv gv) (Bo bk L' lv' mv' gv') w w':=by
 have HB:=hid hB
 have HS:=hid hseg
 have HN:=hid hn
 have H0:=hid h0
 clear hB hseg hn h0
 have hm:zs.length<=maxLen:=by unfold maxLen;omega
 have hcl:=cout_le zs
 have hcm:(cout zs).length<=maxLen:=by unfold maxLen;omega
 go_enter Tryz.func30,Tryz.ntmps30
 go_wp2_with fail
 refine (hands_any HB.out ao c (HS.out.below H0.out) HN.out hz).mono ?_
 rintro e w1 ⟨gv1,rfl,B1,b1⟩
 obtain ⟨ga,gc,rfl,S1⟩:=owns_seg B1.hg
 have HB1:=hid B1
 have HT1:=hid b1
 have Hb1:Hid (Below bk w w1):=HB.out.to b1
 have HS1:=hid S1
 clear B1 b1 S1
 go_wp2_with fail
 refine (codes_any ga gc zs w1 HS1.out hm).mono ?_
 rintro e w2 ⟨v1,rfl,N1,b2⟩
 obtain ⟨va1,rfl,n1,r1⟩:=N1.shape
 have Hb2:=hid b2
 have Hn1:=hid n1
 have Hr1:=hid r1
 clear N1 b2 n1 r1
 go_wp2_with fail
 refine (codes_any ga gc zs w2 (HS1.out.below Hb2.out) hm).mono ?_
 rintro e w3 ⟨v2,rfl,N2,b3⟩
 obtain ⟨va2,rfl,n2,r2⟩:=N2.shape
 have Hb3:=hid b3
 have Hn2:=hid n2
 have Hr2:=hid r2
 clear N2 b3 n2 r2
 go_wp2_with fail
 have H3:Hid (Below w0.heap.size w0 w3):=H0.out.trans ((Hb1.out.mono hbk).trans ((Hb2.out.mono (by have:=Hb1.out.size;have:=H0.out.size;omega)).trans (Hb3.out.mono (by have:=Hb2.out.size;have:=Hb1.out.size;have:=H0.out.size;omega))))
 refine (refcodes_any ao c zs w3 (HS.out.below H3.out) hm).mono ?_
 rintro e w4 ⟨a3,c3,rfl,S3,b4⟩
 have HS3:=hid S3
 have Hb4:=hid b4
 clear S3 b4
 have z1:=Hb1.out.size
 have z2:=Hb2.out.size
 have z3:=Hb3.out.size
 have z4:=Hb4.out.size
 have HSa:Hid (Seg w4 va1 (cout zs)):=seg_of Hn1.out fun b hb => by
  obtain ⟨g,e,_,hr⟩:=Hr1.out b hb
  exact ⟨g,e,(hr.below Hb3.out).below Hb4.out⟩
 have HSb:Hid (Seg w4 va2 (cout zs)):=seg_of Hn2.out fun b hb => by
  obtain ⟨g,e,_,hr⟩:=Hr2.out b hb
  exact ⟨g,e,hr.below Hb4.out⟩
 have HSg:Hid (Seg w4 ga zs):=((HS1.out.below Hb2.out).below Hb3.out).below Hb4.out
 have HSl:Hid (Seg w4 ao zs):=HS.out.below (H3.out.trans (Hb4.out.mono H3.out.size))
 go_wp2_with fail
 refine (same_self va1 a3 _ _ (cout zs) w4 HSa.out HS3.out hcm).mono ?_
 rintro e w5 ⟨rfl,q5,hw5⟩
 have Hb5:Hid (Below w4.heap.size w4 w5):=by rw [hw5];exact below_N q5
 clear hw5
 have z5:=Hb5.out.size
 go_wp2_with fail
 refine (same_self va2 a3 _ _ (cout zs) w5 (HSb.out.below Hb5.out) (HS3.out.below Hb5.out) hcm).mono ?_
 rintro e w6 ⟨rfl,q6,hw6⟩
 have Hb6:Hid (Below w4.heap.size w4 w6):=by rw [hw6];exact Hb5.out.trans ((below_N q6).mono z5)
 clear hw6
 have z6:=Hb6.out.size
 go_wp2_with fail
 refine (same_self ga ao _ _ zs w6 (HSg.out.below Hb6.out) (HSl.out.below Hb6.out) hm).mono ?_
 rintro e w7 ⟨rfl,q7,hw7⟩
 have Hb7:Hid (Below w4.heap.size w4 w7):=by rw [hw7];exact Hb6.out.trans ((below_N q7).mono z6)
 clear hw7
 have z7:=Hb7.out.size
 have HB7:Hid (Book w7 bk L nx lv mv (.slice ga zs.length gc) zs):=(((HB1.out.below Hb2.out).below Hb3.out).below Hb4.out).below Hb7.out
 go_wp2_with fail
 refine (takes_any HB7.out hz).mono ?_
 rintro e w8 ⟨rfl,⟨gs8,B8⟩,b8,G8⟩
 have HB8:=hid B8
 have Hb8:=hid b8
 have HG8:=hid G8
 clear B8 b8 G8
 have z8:=Hb8.out.size
 have r1:Hid (∀ b,va1=some b -> ∃ g,b=⟨g,0,none⟩ /\ w1.heap.size<=g /\ g < w2.heap.size /\ Row w8 g (cout zs)):=fun b hb => by
  obtain ⟨g,e,hg,hr⟩:=Hr1.out b hb
  refine ⟨g,e,hg,hr.lt,?_⟩
  have hr7:=((hr.below Hb3.out).below Hb4.out).below Hb7.out
  unfold Row
  rw [HG8.out.block g hr7.lt (fun e => (HB1.out.fresh hg).2 (.inr (.inr (.inr (.inl e.symm)))))]
  exact hr7
 have r2:Hid (∀ b,va2=some b -> ∃ g,b=⟨g,0,none⟩ /\ w2.heap.size<=g /\ g < w3.heap.size /\ Row w8 g (cout zs)):=fun b hb => by
  obtain ⟨g,e,hg,hr⟩:=Hr2.out b hb
  refine ⟨g,e,hg,hr.lt,?_⟩
  have hr7:=(hr.below Hb4.out).below Hb7.out
  unfold Row
  rw [HG8.out.block g hr7.lt (fun e => (HB1.out.fresh (g:=g) (by omega)).2 (.inr (.inr (.inr (.inl e.symm)))))]
  exact hr7
 have T8:Hid (To (Bo bk L lv mv gv) (Bo bk L lv mv (.slice ga zs.length gc)) w w8):=((((HT1.out.below Hb2.out).below Hb3.out).below Hb4.out).below Hb7.out).trans ⟨(Fr.refl _ w7).grown HG8.out (fun k hk => .inr (.inr (.inr (.inl hk)))),fun _ h => .inl h⟩
 have r1':Hid (∀ b,va1=some b -> ∃ g,b=⟨g,0,none⟩ /\ g < w2.heap.size):=fun b hb => by
  obtain ⟨g,e,_,h2,_⟩:=r1.out b hb
  exact ⟨g,e,h2⟩
 go_wp2_with fail
 refine (owns_any HB8.out va1 (cout zs).length hcl (by omega) (by omega) hx2 Hn1.out ?_ ?_ ?_).mono ?_
 ·intro b hb
  obtain ⟨g,e,_,_,hr⟩:=r1.out b hb
  exact ⟨g,_,e,rfl,hr⟩
 ·intro g hg
  obtain ⟨g',e,h1,_,_⟩:=r1.out _ hg
  injection e with e
  subst e
  exact (HB1.out.fresh h1).1
 ·intro g hg
  obtain ⟨g',e,h1,_,_⟩:=r1.out _ hg
  injection e with e
  subst e
  exact (HB1.out.fresh h1).2
 rintro e w9 ⟨rfl,N9,lv9,mv9,l9,B9,k9⟩
 have HB9:=hid B9
 have Hk9:=hid k9
 have Hl9:=hid l9
 clear B9 k9 l9
 have R2:Hid (∀ b,va2=some b -> ∃ g,b=⟨g,0,none⟩ /\ w2.heap.size<=g /\ Row w9 g (cout zs) /\ ¬ Bo bk (L ++ N9) lv9 mv9 (.slice ga zs.length gc) g):=fun b hb => by
  obtain ⟨g,e,h1,h2,hr⟩:=r2.out b hb
  obtain ⟨q1,q2⟩:=own_two Hk9.out (HB1.out.fresh (g:=g) (by omega)).2 hr r1'.out h1
  exact ⟨g,e,h1,q1,q2⟩
 go_wp2_with fail
 refine (owns_any HB9.out va2 (cout zs).length hcl (by rw [List.length_append,Hl9.out];omega) (by omega) (by omega) Hn2.out ?_ ?_ ?_).mono ?_
 ·intro b hb
  obtain ⟨g,e,_,hr,_⟩:=R2.out b hb
  exact ⟨g,_,e,rfl,hr⟩
 ·intro g hg
  obtain ⟨g',e,h1,_,_⟩:=R2.out _ hg
  injection e with e
  subst e
  exact (HB1.out.fresh (g:=g) (by omega)).1
 ·intro g hg
  obtain ⟨g',e,_,_,h1⟩:=R2.out _ hg
  injection e with e
  subst e
  exact h1
 rintro e w10 ⟨rfl,N10,lv10,mv10,l10,B10,k10⟩
 have HB10:=hid B10
 have Hk10:=hid k10
 have Hl10:=hid l10
 clear B10 k10 l10
 go_wp2_with (go_at_call 46;refine (num_any _ _).mono ?_;rintro e w' ⟨rfl,rfl⟩)
 go_ret
 refine ⟨rfl,L ++ N9 ++ N10,lv10,mv10,.slice ga zs.length gc,gs8,by simp [Hl9.out,Hl10.out],?_,?_⟩
 ·have:=HB10.out
  rw [show nx - 1 - 1=nx - 2 by omega] at this
  exact this
 ·refine (((T8.out.more fun k hk => ?_).trans Hk9.out).more fun k hk => ?_).trans Hk10.out
  ·exact own_slice (P:=fun k => w.heap.size<=k) (fun b hb => by obtain ⟨g,e,h,_⟩:=r1.out b hb;exact ⟨g,e,by omega⟩) hk
  ·exact own_slice (P:=fun k => w.heap.size<=k) (fun b hb => by obtain ⟨g,e,h,_⟩:=r2.out b hb;exact ⟨g,e,by omega⟩) hk
end Go.Proofs.YthdmjmnkhlpnnabGreatDoor
