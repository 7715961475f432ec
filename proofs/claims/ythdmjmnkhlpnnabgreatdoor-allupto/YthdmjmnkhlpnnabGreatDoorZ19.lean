import Derived.Test.YthdmjmnkhlpnnabGreatDoorZ02
import Derived.Laws.EntriesVeiled
import Derived.Test.YthdmjmnkhlpnnabGreatDoorZ12
namespace Go.Proofs.YthdmjmnkhlpnnabGreatDoor
open Go.RowKit
theorem three_new (w:World) (a b c:Obj) (cs:Array Value) (t:TypeId) (hc:c = .cells cs t (0,0)):(((w.alloc a).alloc b).alloc c).heap[w.heap.size+1+1]? = some (.cells cs t (0,0)) /\ Below w.heap.size w (((w.alloc a).alloc b).alloc c):=by
 have e:((w.alloc a).alloc b).heap.size=w.heap.size+1+1:=by simp
 refine ⟨by rw [<- e,hc];exact heap_alloc_new _ _,(((Below.refl _ w).alloc (Nat.le_refl _) a).alloc (by simp) b).alloc (by simp;omega) c⟩
set_option maxRecDepth 20000 in
set_option maxHeartbeats 400000 in
theorem shorter_any (w:World) (x y:Int) (f g:Fn) (cf cg:Array Value) :
  Calls Tryz.prog 70 #[.agg #[.int .i64 x,.func f #[] cf],.agg #[.int .i64 y,.func g #[] cg]] w fun e w' => e = .returned (if y < x then .agg #[.int .i64 y,.func g #[] cg] else .agg #[.int .i64 x,.func f #[] cf]) /\ Below w.heap.size w w':=by
 by_cases hc:y < x
 ·rw [if_pos hc]
  go_enter Tryz.func70,Tryz.ntmps70
  go_wp2
  have hh:=three_new w (.cells #[.int .i64 x,.func f #[] cf] 83) (.cells #[.int .i64 y,.func g #[] cg] 83) (.cells #[.int .i64 y,.func g #[] cg] 83) _ _ rfl
  have x0:=cell_of_row _ _ 0 _ _ _ hh.1
  have x1:=cell_of_row _ _ 1 _ _ _ hh.1
  refine bodyPost_ret (v:=.agg #[.int .i64 y,.func g #[] cg]) (by simp [results,Tryz.results70,go_sem,x0,x1]) rfl ⟨rfl,hh.2⟩
 ·rw [if_neg hc]
  go_enter Tryz.func70,Tryz.ntmps70
  go_wp2
  have hh:=three_new w (.cells #[.int .i64 x,.func f #[] cf] 83) (.cells #[.int .i64 y,.func g #[] cg] 83) (.cells #[.int .i64 x,.func f #[] cf] 83) _ _ rfl
  have x0:=cell_of_row _ _ 0 _ _ _ hh.1
  have x1:=cell_of_row _ _ 1 _ _ _ hh.1
  refine bodyPost_ret (v:=.agg #[.int .i64 x,.func f #[] cf]) (by simp [results,Tryz.results70,go_sem,x0,x1]) rfl ⟨rfl,hh.2⟩
def Pck (x:Int) (f:Fn) (cf:Array Value) (y:Int) (g:Fn) (cg:Array Value) (z:Int) (h:Fn) (ch:Array Value):Prop:=(y < x /\ z=y /\ h=g /\ ch=cg) ∨ (x<=y /\ z=x /\ h=f /\ ch=cf)
theorem shorter2_any (w:World) (x y:Int) (f g:Fn) (cf cg:Array Value) :
  Calls Tryz.prog 70 #[.agg #[.int .i64 x,.func f #[] cf],.agg #[.int .i64 y,.func g #[] cg]] w fun e w' => ∃ (z:Int) (h:Fn) (ch:Array Value),e = .returned (.agg #[.int .i64 z,.func h #[] ch]) /\ Pck x f cf y g cg z h ch /\ Below w.heap.size w w' :=
 (shorter_any w x y f g cf cg).mono fun e w' ⟨h1,h2⟩ => by
  by_cases hc:y < x
  ·rw [if_pos hc] at h1
   exact ⟨y,g,cg,h1,.inl ⟨hc,rfl,rfl,rfl⟩,h2⟩
  ·rw [if_neg hc] at h1
   exact ⟨x,f,cf,h1,.inr ⟨by omega,rfl,rfl,rfl⟩,h2⟩
end Go.Proofs.YthdmjmnkhlpnnabGreatDoor
namespace Go.Proofs.YthdmjmnkhlpnnabGreatDoor
open Go.RowKit
def lenOfSl:Value->Nat
 | .slice _ n _ => n
 | _ => 0
theorem dot_take_succ (cs zs:List Int) (k:Nat) (h1:k < cs.length) (h2:k < zs.length):dot (cs.take (k+1)) zs=dot (cs.take k) zs+cs.getD k 0*zs.getD k 0:=by
 induction cs generalizing zs k with
 | nil => simp at h1
 | cons c cs ih =>
  cases zs with
  | nil => simp at h2
  | cons z zs =>
   cases k with
   | zero =>
    simp only [Nat.zero_add,List.take_succ_cons,List.take_zero,List.getD_cons_zero,dot,dot_nil]
    omega
   | succ k =>
    have:=ih zs k (by simpa using h1) (by simpa using h2)
    simp only [List.take_succ_cons,List.getD_cons_succ,dot,this]
    omega
theorem dot_take_end (cs zs:List Int) (k:Nat) (h:cs.length<=k ∨ zs.length<=k):dot (cs.take k) zs=dot cs zs:=by
 induction cs generalizing zs k with
 | nil => simp
 | cons c cs ih =>
  cases zs with
  | nil => rw [dot_nil',dot_nil']
  | cons z zs =>
   cases k with
   | zero => simp at h
   | succ k => simp only [List.take_succ_cons,dot,ih zs k (by simpa using h)]
theorem dot_bound (cs zs:List Int) (M:Int) (hM:0<=M) (h1:∀ i,0<=cs.getD i 0 /\ cs.getD i 0<=M) (h2:∀ i,0<=zs.getD i 0 /\ zs.getD i 0<=15):0<=dot cs zs /\ dot cs zs<=M*15*cs.length:=by
 induction cs generalizing zs with
 | nil => rw [dot_nil];simp
 | cons c cs ih =>
  cases zs with
  | nil => rw [dot_nil'];exact ⟨by omega,Int.mul_nonneg (by omega) (by omega)⟩
  | cons z zs =>
   have a:=ih zs (fun i => by have:=h1 (i+1);rwa [List.getD_cons_succ] at this) (fun i => by have:=h2 (i+1);rwa [List.getD_cons_succ] at this)
   have b1:=h1 0
   have b2:=h2 0
   rw [List.getD_cons_zero] at b1 b2
   have p1:0<=c*z:=Int.mul_nonneg b1.1 b2.1
   have p2:c*z<=M*15:=Int.mul_le_mul b1.2 b2.2 b2.1 hM
   simp only [dot,List.length_cons]
   have e:M*15*((cs.length+1:Nat):Int)=M*15*(cs.length:Int)+M*15:=by rw [Int.natCast_add,Int.mul_add];simp
   rw [e]
   omega
set_option maxHeartbeats 800000 in
theorem bitsOf_any (a1 a2:Option Addr) (c1 c2:Nat) (cs zs:List Int) (w:World) (h1:Seg w a1 cs) (h2:Seg w a2 zs) (l1:cs.length<=320) (l2:zs.length<=320) (b1:∀ i,0<=cs.getD i 0 /\ cs.getD i 0<=100000) (b2:∀ i,0<=zs.getD i 0 /\ zs.getD i 0<=15) :
  Calls Tryz.prog 161 #[.slice a1 cs.length c1,.slice a2 zs.length c2] w fun e w' => e = .returned (.int .i64 (dot cs zs)) /\ Below w.heap.size w w':=by
 have HB1:=hid b1
 have HB2:=hid b2
 have HD:=hid (fun k => dot_bound (cs.take k) zs 100000 (by omega) (fun i => by
   rw [List.getD_eq_getElem?_getD,List.getElem?_take]
   split
   · rw [<- List.getD_eq_getElem?_getD];exact b1 i
   ·simp) b2)
 clear b1 b2
 go_enter Tryz.func161,Tryz.ntmps161
 go_wp2
 all_goals
  go_loopw [5,12] (fun a i wr => ∃ k:Nat,k<=cs.length /\ k<=zs.length /\ i = .int .i64 k /\ a = .int .i64 (dot (cs.take k) zs) /\ Hid (Below w.heap.size w wr)) (fun _ i _ => cs.length - (intOf i).toNat)
  case atStart => exact ⟨0,by omega,by omega,rfl,by simp [dot_nil],Below.refl _ _⟩
  case round =>
   obtain ⟨k,hk1,hk2,rfl,rfl,HB⟩:=hrel
   have hd:=HD.out k
   have hlen:(cs.take k).length<=320:=by rw [List.length_take];omega
   by_cases hlt:k < cs.length /\ k < zs.length
   ·obtain ⟨g1,g2⟩:=hlt
    obtain ⟨x1,o1,rfl,f1⟩:=(h1.below HB.out) (by omega)
    obtain ⟨x2,o2,rfl,f2⟩:=(h2.below HB.out) (by omega)
    have y1:=f1 k g1
    have y2:=f2 k g2
    have HE:=hid (dot_take_succ cs zs k g1 g2)
    have u1:=HB1.out k
    have u2:=HB2.out k
    obtain ⟨p,hp⟩:∃ p,p=cs.getD k 0:=⟨_,rfl⟩
    obtain ⟨y,hy⟩:∃ y,y=zs.getD k 0:=⟨_,rfl⟩
    rw [<- hp] at u1 y1 HE
    rw [<- hy] at u2 y2 HE
    have p1:0<=p*y:=Int.mul_nonneg u1.1 u2.1
    have p2:p*y<=100000*15:=Int.mul_le_mul u1.2 u2.2 u2.1 (by omega)
    obtain ⟨P,hP⟩:∃ P,P=p*y:=⟨_,rfl⟩
    have HP:=hid hP
    rw [<- hP] at p1 p2
    have wp:IntKind.i64.wrap (p*y)=P:=by rw [<- hP,IntKind.wrap_i64];omega
    obtain ⟨dd,hdd⟩:∃ d,d=dot (cs.take k) zs:=⟨_,rfl⟩
    rw [<- hdd] at hd HE ⊢
    have hd2:dd<=480000000:=by
     have:(100000:Int)*15*((cs.take k).length:Int)<=100000*15*320:=Int.mul_le_mul_of_nonneg_left (by omega) (by omega)
     omega
    have wd:IntKind.i64.wrap (dd+P)=dd+P:=by rw [IntKind.wrap_i64];omega
    clear hP hp hy hdd f1 f2 u1 u2 hlen
    go_upto_region 5 with fail
    go_quiet (fail)
    go_wp2
    go_roundw
    case rel => exact ⟨k+1,by omega,by omega,by simp,by rw [HE.out,HP.out],below_drewN' HB.out _⟩
    case measure => simp [intOf];omega
   ·have he:=dot_take_end cs zs k (by omega)
    rw [he]
    go_wp2
    go_ret
    exact ⟨rfl,HB.out⟩
set_option maxHeartbeats 800000 in
theorem withoutEnd_any (ao:Option Addr) (c:Nat) (zs:List Int) (least:Nat) (w:World) (hs:Seg w ao zs) (hm:zs.length<=320) (hl:least<=zs.length) (hc:zs.length<=c) (h0:0 < least) :
  Calls Tryz.prog 165 #[.slice ao zs.length c,.int .i64 least] w fun e w' => ∃ k,e = .returned (.slice ao k c) /\ least<=k /\ k<=zs.length /\ Cutz zs k /\ w=w':=by
 go_enter Tryz.func165,Tryz.ntmps165
 go_wp2
 go_loopw [0] (fun v wr => ∃ k:Nat,v = .slice ao k c /\ least<=k /\ k<=zs.length /\ Hid (Cutz zs k) /\ w=wr) (fun v _ => lenOfSl v)
 case atStart => exact ⟨zs.length,rfl,hl,Nat.le_refl _,fun j hj => by rw [List.getD_eq_getElem?_getD,List.getElem?_eq_none hj];rfl,rfl⟩
 case round =>
  obtain ⟨k,rfl,hk1,hk2,HC,rfl⟩:=hrel
  by_cases hgt:least < k
  ·obtain ⟨b,off,rfl,hcell⟩:=hs (by omega)
   have x1:=hcell (k - 1) (by omega)
   have e1:((k:Int) - 1).toNat=k - 1:=by omega
   have e2:(k:Int) - 1=((k - 1:Nat):Int):=by omega
   have HZ:Hid (zs.getD (k - 1) 0=0->Cutz zs (k - 1)):=fun h j hj => by
    by_cases e:j=k - 1
    ·rw [e];exact h
    ·exact HC.out j (by omega)
   obtain ⟨z,hz⟩:∃ z,z=zs.getD (k - 1) 0:=⟨_,rfl⟩
   rw [<- hz] at x1 HZ
   clear hz
   by_cases h00:z=0
   ·subst h00
    go_wp2
    exact ⟨⟨k - 1,rfl,by omega,by omega,HZ.out rfl,trivial⟩,by show k - 1 < k;omega⟩
   ·have d0:(z == 0)=false:=by simp [h00]
    go_wp2
    go_ret
    exact ⟨k,rfl,hk1,hk2,HC.out,rfl⟩
  ·have d1:decide ((least:Int) < (k:Int))=false:=by simp;omega
   go_wp2
   go_ret
   exact ⟨k,rfl,hk1,hk2,HC.out,rfl⟩
end Go.Proofs.YthdmjmnkhlpnnabGreatDoor
