import Derived.Test.YthdmjmnkhlpnnabGreatDoorStsC
import Derived.Test.YthdmjmnkhlpnnabGreatDoorY13
import Derived.Test.YthdmjmnkhlpnnabGreatDoorY11
namespace Go.Proofs.YthdmjmnkhlpnnabGreatDoor
open Go.RowKit Go.Maps
theorem Wmm.init {w:World} {Op:Nat->Prop} {X Z lv:Nat} (hx:w.heap[X]? = some (.cells (wcells Z .empty .empty false true false 0 0 0 false 0) 97 (0,0))) (h:Sm w Op Z 0 0 [] lv [] false):Wmm w (SmO X Op) X 0 0 :=
 ⟨Z,.empty,.empty,false,true,false,0,0,false,0,0,0,[],lv,[],Op,rfl,hx,h,⟨fun _ => ⟨[],0,0,0,Gs.init,rfl,by simp,fun _ => ⟨rfl,rfl⟩,nofun,nofun⟩,nofun⟩,rfl⟩
set_option maxHeartbeats 800000 in
theorem begun_any (w:World) (lv:Nat) (h9:lv<=9) (hg:Gl2 w) :
  Calls Tryz.prog 27 #[.int .i64 lv] w fun e w' => ∃ X O,e = .returned (.tuple #[.pointer (some ⟨X,0,none⟩),.bool true]) /\ Wmm w' O X 0 0 /\ Below w.heap.size w w' /\ ∀ k,O k->w.heap.size<=k:=by
 have HN:=hid (smnew_any w lv h9 hg.eff)
 have d0:decide ((lv:Int) < 0)=false:=decide_eq_false (by omega)
 have d9:decide (9 < (lv:Int))=false:=decide_eq_false (by omega)
 clear hg
 go_enter Tryz.func27,Tryz.ntmps27
 go_wp2_with (go_at_call 6;refine HN.out.mono ?_;rintro e w1 ⟨Z,O,rfl,hs1,hb1,ho1⟩;have HS1:=hid hs1;have HB1:=hid hb1;have HO1:=hid ho1;clear hs1 hb1 ho1)
 go_ret2
 have hba:=(Below.refl w1.heap.size w1).alloc (Nat.le_refl _) (.cells (wcells Z .empty .empty false true false 0 0 0 false 0) 97)
 refine ⟨w1.heap.size,SmO w1.heap.size O,rfl,Wmm.init (heap_alloc_new w1 _) (HS1.out.below hba),HB1.out.trans (hba.mono HB1.out.size),fun k hk => ?_⟩
 have:=HB1.out.size
 rcases hk with e | e
 ·omega
 ·exact HO1.out k e
set_option maxHeartbeats 800000 in
theorem new_bad (w:World) (lev:Int) (h:lev < 0 ∨ 9 < lev) :
  Calls Tryz.prog 6 #[.int .i64 lev] w fun e w' => e = .returned (.tuple #[.pointer none,.int .i64 9]) /\ w=w':=by
 have HIL:Hid (∀ u:World,Calls Tryz.prog 14 #[.int .i64 lev] u fun e w' => e = .returned (.bool false) /\ u=w'):=fun u => (isLevel_any u lev).mono fun e w' ⟨h1,h2⟩ => ⟨by rw [h1];congr 2;rcases h with h | h <;> simp <;> omega,h2⟩
 go_enter Tryz.func6,Tryz.ntmps6
 go_wp2_with (go_at_call 14;refine (HIL.out _).mono ?_;rintro e w' ⟨rfl,rfl⟩)
 go_ret2
 exact ⟨rfl,rfl⟩
set_option maxHeartbeats 800000 in
theorem begun_bad (w:World) (lev:Int) (h:lev < 0 ∨ 9 < lev) :
  Calls Tryz.prog 27 #[.int .i64 lev] w fun e w' => e = .returned (.tuple #[.pointer none,.bool true]) /\ w=w':=by
 have HN:=hid (new_bad w lev h)
 rcases h with h | h
 all_goals
  go_enter Tryz.func27,Tryz.ntmps27
  go_wp2_with (first | (go_at_call 6;refine HN.out.mono ?_;rintro e w1 ⟨rfl,rfl⟩) | (go_at_call 46;refine (num_any _ _).mono ?_;rintro e' w2 ⟨rfl,rfl⟩))
  go_ret2
  exact ⟨rfl,rfl⟩
def bkcells:Array Value:=#[.slice none 0 0,.slice none 0 0,.int .i64 0,.slice none 0 0]
structure Opd where
 k:Int
 n:Int
 s:ByteArray
 a:Option Addr
 z:List Int
 c:Nat
def Ops (w:World) (ao:Option Addr) (os:List Opd):Prop:=∀ j o,os[j]? = some o -> ∃ b off,ao=some ⟨b,off,none⟩ /\ b < w.heap.size /\ w.cell? ⟨b,off+j*4,none⟩=some (.int .i64 o.k) /\ w.cell? ⟨b,off+j*4+1,none⟩=some (.int .i64 o.n) /\ w.cell? ⟨b,off+j*4+2,none⟩=some (.string o.s) /\ w.cell? ⟨b,off+j*4+3,none⟩=some (.slice o.a o.z.length o.c) /\ Seg w o.a o.z /\ (o.a=none->o.z.length=0 /\ o.c=0) /\ o.z.length<=1048576
def opL:List Opd->Nat
 | [] => 0
 | x :: r => x.s.size+opL r
theorem opL_drop (os:List Opd) (k:Nat) (o:Opd) (h:os[k]? = some o):opL (os.drop k)=o.s.size+opL (os.drop (k+1)):=by
 obtain ⟨hk,ho⟩:=List.getElem?_eq_some_iff.1 h
 rw [List.drop_eq_getElem_cons hk,opL,ho]
def Bks (w:World) (BB j:Nat) (Q:Nat->Prop):Prop:=∃ L nx lv mv gv gs,Book w BB L nx lv mv gv gs /\ Q=Bo BB L lv mv gv /\ L.length<=8*j /\ -(2*(j:Int))<=nx /\ nx<=0
theorem Bks.kept {w w':World} {BB j:Nat} {Q:Nat->Prop} (h:Bks w BB j Q) (hk:∀ k,Q k->w'.heap[k]? = w.heap[k]?):Bks w' BB j Q:=by
 obtain ⟨L,nx,lv,mv,gv,gs,h1,rfl,h2⟩:=h
 exact ⟨L,nx,lv,mv,gv,gs,h1.kept hk,rfl,h2⟩
theorem Bks.olt {w:World} {BB j:Nat} {Q:Nat->Prop} (h:Bks w BB j Q) {k:Nat} (hk:Q k):k < w.heap.size:=by
 obtain ⟨L,nx,lv,mv,gv,gs,h1,rfl,h2⟩:=h
 exact (h1.olt hk).2
theorem Bks.init {w:World}:Bks (w.alloc (.cells bkcells 64)) w.heap.size 0 (fun k => k=w.heap.size):=by
 refine ⟨[],0,.slice none 0 0,.slice none 0 0,.slice none 0 0,[],⟨heap_alloc_new w _,World.ownsRow_nil _ _ _ _,World.ownsRow_nil _ _ _ _,World.ownsRow_nil _ _ _ _,fun k hk => (by simp [Value.ownBlock] at hk),nofun⟩,?_,by simp,by simp,by simp⟩
 funext k
 simp [Bo,Value.ownBlock]
structure Trio (w0 w:World) (O P Q:Nat->Prop):Prop where
 op:∀ k,O k -> ¬ P k
 oq:∀ k,O k -> ¬ Q k
 pq:∀ k,P k -> ¬ Q k
 lo:∀ k,O k ∨ P k ∨ Q k->w0.heap.size<=k
 hi:∀ k,O k ∨ P k ∨ Q k->k < w.heap.size
 gl:Glo w
 gi:1 < w0.heap.size
 low:Below w0.heap.size w0 w
section
variable {w0 w w':World} {O P Q O':Nat->Prop}
theorem Trio.swap (h:Trio w0 w O P Q):Trio w0 w P O Q :=
 ⟨fun k a b => h.op k b a,h.pq,h.oq,fun k e => h.lo k (e.elim (fun a => .inr (.inl a)) fun e => e.elim .inl fun a => .inr (.inr a)),fun k e => h.hi k (e.elim (fun a => .inr (.inl a)) fun e => e.elim .inl fun a => .inr (.inr a)),h.gl,h.gi,h.low⟩
theorem Trio.rot (h:Trio w0 w O P Q):Trio w0 w Q O P :=
 ⟨fun k a b => h.oq k b a,fun k a b => h.pq k b a,h.op,fun k e => h.lo k (e.elim (fun a => .inr (.inr a)) fun e => e.elim .inl fun a => .inr (.inl a)),fun k e => h.hi k (e.elim (fun a => .inr (.inr a)) fun e => e.elim .inl fun a => .inr (.inl a)),h.gl,h.gi,h.low⟩
theorem Trio.gk (h:Trio w0 w O P Q):Gk w O:=⟨h.gl,fun e => by have:=h.lo _ (.inl e);have:=h.gi;omega⟩
theorem Trio.go (h:Trio w0 w O P Q) (hk:To O O' w w') (hz:∀ k,O' k->k < w'.heap.size):Trio w0 w' O' P Q:=by
 have hs:=hk.fr.env.size
 have hl:=h.low.size
 refine ⟨fun k a b => ?_,fun k a b => ?_,h.pq,fun k e => ?_,fun k e => ?_,(h.gk.to hk).glo,h.gi,h.low.trans ⟨hk.fr.env.os,hk.fr.env.tape,hk.fr.env.output,hk.fr.env.size,fun k hk' => hk.fr.blk k (by omega) (fun e => by have:=h.lo k (.inl e);omega)⟩⟩
 ·rcases hk.new k a with e | e
  ·exact h.op k e b
  ·have:=h.hi k (.inr (.inl b));omega
 ·rcases hk.new k a with e | e
  ·exact h.oq k e b
  ·have:=h.hi k (.inr (.inr b));omega
 ·rcases e with e | e
  ·rcases hk.new k e with e | e
   ·exact h.lo k (.inl e)
   ·omega
  ·exact h.lo k (.inr e)
 ·rcases e with e | e
  ·exact hz k e
  ·have:=h.hi k (.inr e);omega
theorem Trio.below (h:Trio w0 w O P Q) (hb:Below w.heap.size w w'):Trio w0 w' O P Q:=h.go (To.ofBelow hb) fun k e => by have:=h.hi k (.inl e);have:=hb.size;omega
end
def Two (w0 w:World) (BB X Y j n m f g:Nat):Prop:=∃ O P Q:Nat->Prop,Wmm w O X n f /\ Wmm w P Y m g /\ Bks w BB j Q /\ Trio w0 w O P Q
section
variable {w0 w w':World} {BB X Y j n m f g:Nat}
theorem Two.swap (h:Two w0 w BB X Y j n m f g):Two w0 w BB Y X j m n g f:=by
 obtain ⟨O,P,Q,h1,h2,h3,h4⟩:=h
 exact ⟨P,O,Q,h2,h1,h3,h4.swap⟩
theorem Two.below (h:Two w0 w BB X Y j n m f g) (hb:Below w.heap.size w w'):Two w0 w' BB X Y j n m f g:=by
 obtain ⟨O,P,Q,h1,h2,h3,h4⟩:=h
 exact ⟨O,P,Q,h1.below hb,h2.below hb,h3.kept fun k hk => hb.block k (h3.olt hk),h4.below hb⟩
theorem Two.low (h:Two w0 w BB X Y j n m f g):Below w0.heap.size w0 w:=by
 obtain ⟨O,P,Q,h1,h2,h3,h4⟩:=h
 exact h4.low
theorem Two.moved {n' f':Nat} {O P Q O':Nat->Prop} (h2:Wmm w P Y m g) (h3:Bks w BB j Q) (h4:Trio w0 w O P Q) (hm:Wmm w' O' X n' f') (hk:To O O' w w'):Two w0 w' BB X Y j n' m f' g :=
 ⟨O',P,Q,hm,h2.other hk (fun k a b => h4.op k b a),h3.kept (fun k e => hk.fr.blk k (h3.olt e) fun a => h4.oq k a e),h4.go hk fun _ e => hm.olt e⟩
theorem Two.step (h:Two w0 w BB X Y j n m f g) (k N:Int) (S:ByteArray) (Lv:Value) (hS:n+S.size<=1048576) (hf:f<=300000) :
  Calls Tryz.prog 32 #[.pointer (some ⟨X,0,none⟩),.agg #[.int .i64 k,.int .i64 N,.string S,Lv]] w fun e w' => e = .returned (.bool true) /\ ∃ n' f',Two w0 w' BB X Y j n' m f' g /\ n'<=n+S.size /\ f'<=f+1:=by
 obtain ⟨O,P,Q,h1,h2,h3,h4⟩:=h
 refine (wstep_any w O X n f h1 k N S Lv hS hf h4.gk).mono ?_
 rintro e w' ⟨rfl,O',n',f',hm,hn,hf',hk⟩
 exact ⟨rfl,n',f',Two.moved h2 h3 h4 hm hk,hn,hf'⟩
theorem Two.take (h:Two w0 w BB X Y j n m f g) (hn:n<=1048576) (hf:f<=300000) :
  Calls Tryz.prog 34 #[.pointer (some ⟨X,0,none⟩)] w fun e w' => e = .returned (.bool true) /\ Two w0 w' BB X Y j n m f g:=by
 obtain ⟨O,P,Q,h1,h2,h3,h4⟩:=h
 refine (wtake_any w O X n f h1 hn hf).mono ?_
 rintro e w' ⟨rfl,O',hm,hk⟩
 exact ⟨rfl,Two.moved h2 h3 h4 hm hk⟩
theorem Two.looks (h:Two w0 w BB X Y j n m f g) (hj:j<=1000000) :
  Calls Tryz.prog 33 #[.pointer (some ⟨BB,0,none⟩)] w fun e w' => e = .returned (.bool true) /\ Two w0 w' BB X Y j n m f g:=by
 have h':=h
 obtain ⟨O,P,Q,h1,h2,⟨L,nx,lv,mv,gv,gs,hb,hq,hl,_⟩,h4⟩:=h'
 refine (looks_any hb (by omega)).mono ?_
 rintro e w' ⟨rfl,q,rfl⟩
 exact ⟨rfl,h.below (below_N q)⟩
theorem Two.reads (h:Two w0 w BB X Y j n m f g) {F:Nat} {av:Array Value} (hc:∀ u:World,Glo u->1 < u.heap.size->Calls Tryz.prog F av u fun e w' => e = .returned (.bool true) /\ Below u.heap.size u w') :
  Calls Tryz.prog F av w fun e w' => e = .returned (.bool true) /\ Two w0 w' BB X Y j n m f g /\ Below w.heap.size w w':=by
 have h':=h
 obtain ⟨O,P,Q,h1,h2,h3,h4⟩:=h'
 refine (hc w h4.gl (by have:=h4.gi;have:=h4.low.size;omega)).mono ?_
 rintro e w' ⟨rfl,hb⟩
 exact ⟨rfl,h.below hb,hb⟩
theorem Two.book {w1:World} (h:Two w0 w BB X Y j n m f g) (hba:Below w.heap.size w w1) {F:Nat} {av:Array Value} (hj:j<=1000000)
  (hc:∀ (u:World) (L:List (Value × Int)) (nx:Int) (lv mv gv:Value) (gs:List Int),Book u BB L nx lv mv gv gs->L.length<=90000000 -> -900000000<=nx->nx<=0->Below w0.heap.size w0 u->w0.heap.size<=BB->Calls Tryz.prog F av u fun e w' => e = .returned (.bool true) /\ ∃ L' lv' mv' gv' gs',L'.length=L.length+8 /\ Book w' BB L' (nx - 2) lv' mv' gv' gs' /\ To (Bo BB L lv mv gv) (Bo BB L' lv' mv' gv') u w') :
  Calls Tryz.prog F av w1 fun e w' => e = .returned (.bool true) /\ Two w0 w' BB X Y (j+1) n m f g /\ ∀ k,w.heap.size<=k->k < w1.heap.size->w'.heap[k]? = w1.heap[k]?:=by
 obtain ⟨O,P,Q,h1,h2,h3,h4⟩:=h
 have h3':=h3.kept (w':=w1) fun k hk => hba.block k (h3.olt hk)
 obtain ⟨L,nx,lv,mv,gv,gs,hb,rfl,hl,hx1,hx2⟩:=h3'
 have h5:=h4.below hba
 refine (hc w1 L nx lv mv gv gs hb (by omega) (by omega) hx2 h5.low (h5.lo BB (.inr (.inr (.inl rfl))))).mono ?_
 rintro e w' ⟨rfl,L',lv',mv',gv',gs',hl',hb',hk⟩
 exact ⟨rfl,⟨O,P,Bo BB L' lv' mv' gv',(h1.below hba).other hk h5.oq,(h2.below hba).other hk h5.pq,⟨L',nx - 2,lv',mv',gv',gs',hb',rfl,by omega,by omega,by omega⟩,(h5.rot.go hk fun k e => (hb'.olt e).2).rot.rot⟩,fun k a b => hk.fr.blk k b fun e => by have:=h3.olt e;omega⟩
end
theorem Two.init {w w1 w2:World} {X Y:Nat} {O P:Nat->Prop} (hg:Gl2 w) (a:Wmm w1 O X 0 0 /\ Below w.heap.size w w1 /\ ∀ k,O k->w.heap.size<=k) (b:Wmm w2 P Y 0 0 /\ Below w1.heap.size w1 w2 /\ ∀ k,P k->w1.heap.size<=k):Two w (w2.alloc (.cells bkcells 64)) w2.heap.size X Y 0 0 0 0 0:=by
 obtain ⟨a1,a2,a3⟩:=a
 obtain ⟨b1,b2,b3⟩:=b
 have hba:=(Below.refl w2.heap.size w2).alloc (Nat.le_refl _) (.cells bkcells 64)
 have hb3:=a2.trans ((b2.mono a2.size).trans (hba.mono (by have:=a2.size;have:=b2.size;omega)))
 have z1:=a2.size
 have z2:=b2.size
 have a4:=(a1.below b2).below hba
 have b4:=b1.below hba
 refine ⟨O,P,_,a4,b4,Bks.init,⟨fun k p q => ?_,fun k p q => ?_,fun k p q => ?_,fun k p => ?_,fun k p => ?_,(hg.below hb3).ord,cell_in (hg.ord 0 (by omega)),hb3⟩⟩
 ·have:=a1.olt p
  have:=b3 k q
  omega
 ·have:=a1.olt p
  omega
 ·have:=b1.olt p
  omega
 ·rcases p with p | p | p
  ·exact a3 k p
  ·have:=b3 k p;omega
  ·omega
 ·rcases p with p | p | p
  ·exact a4.olt p
  ·exact b4.olt p
  ·simp;omega
set_option maxRecDepth 20000 in
set_option maxHeartbeats 1600000 in
theorem plays_walk (w:World) (lv:Nat) (h9:lv<=9) (ao:Option Addr) (ca:Nat) (os:List Opd) (ho:Ops w ao os) (hn:os.length<=300000) (hb:opL os<=1048576) (hg:Gl2 w) :
  Calls Tryz.prog 13 #[.int .i64 lv,.slice ao os.length ca,.int .i64 7] w fun e w' => e = .returned (.bool true) /\ Below w.heap.size w w':=by
 have HN:=hid (begun_any w lv h9 hg)
 have HG:=hid hg
 have HO:=hid ho
 have HB:=hid hb
 clear ho hb hg
 obtain ⟨u9,hu9⟩:∃ u:Nat,u=9 - lv:=⟨_,rfl⟩
 have hi9:(9:Int) - (lv:Int)=(u9:Int):=by omega
 have hu:u9<=9:=by omega
 have HN2:Hid (∀ w1,Gl2 w1->Calls Tryz.prog 27 #[.int .i64 u9] w1 fun e w' => ∃ X O,e = .returned (.tuple #[.pointer (some ⟨X,0,none⟩),.bool true]) /\ Wmm w' O X 0 0 /\ Below w1.heap.size w1 w' /\ ∀ k,O k->w1.heap.size<=k):=fun w1 h1 => begun_any w1 u9 hu h1
 clear hu9
 go_enter Tryz.func13,Tryz.ntmps13
 go_wp2_with (first
   | (go_at_call 27;refine (HN2.out w1 (HG.out.below HR1.out.2.1)).mono ?_;rintro e w2 ⟨Y,P,rfl,hm2,hb2,hp2⟩;have HR2:=hid (And.intro hm2 (And.intro hb2 hp2));clear hm2 hb2 hp2)
   | (go_at_call 27;refine HN.out.mono ?_;rintro e w1 ⟨X,O,rfl,hm1,hb1,ho1⟩;have HR1:=hid (And.intro hm1 (And.intro hb1 ho1));clear hm1 hb1 ho1))
 have HTW:Hid (Two w (w2.alloc (.cells #[.slice none 0 0,.slice none 0 0,.int .i64 0,.slice none 0 0] 64)) w2.heap.size X Y 0 0 0 0 0):=Two.init HG.out HR1.out HR2.out
 generalize w2.alloc (.cells #[.slice none 0 0,.slice none 0 0,.int .i64 0,.slice none 0 0] 64)=w3 at HTW ⊢
 generalize w2.heap.size=BB at HTW ⊢
 go_loopw [7,8,9,11] (fun v7 v8 v9 v11 wr => ∃ (k X Y j n m f g:Nat),k<=os.length /\ v11 = .int .i64 k /\ v8 = .bool true /\ v7 = .pointer (some ⟨X,0,none⟩) /\ v9 = .pointer (some ⟨Y,0,none⟩) /\ n+m+opL (os.drop k)<=1048576 /\ f+g<=k /\ j<=2*k /\ Hid (Two w wr BB X Y j n m f g)) (fun _ _ _ v11 _ => os.length - (intOf v11).toNat)
 case atStart => exact ⟨0,X,Y,0,0,0,0,0,by omega,rfl,rfl,rfl,rfl,by have:=HB.out;simpa using this,by omega,by omega,HTW⟩
 case round =>
  clear HTW HN HN2 HR1 HR2 HG HB hi9 hu
  obtain ⟨k,X,Y,j,n,m,f,g,hk,rfl,rfl,rfl,rfl,hnm,hfg,hjk,hT⟩:=hrel
  by_cases hlt:k < os.length
  ·obtain ⟨o,hok⟩:∃ o,os[k]? = some o:=⟨_,List.getElem?_eq_getElem hlt⟩
   obtain ⟨b,off,rfl,hbl,c0,c1,c2,c3,hsg,hno,hzl⟩:=HO.out k o hok
   have hL:=opL_drop os k o hok
   obtain ⟨kk,N,S,la,zs,lc⟩:=o
   simp only at c0 c1 c2 c3 hL hsg hno hzl
   have q0:wr.cell? ⟨b,off+k*4,none⟩=some (.int .i64 kk):=(hT.out.low.cell (p:=⟨b,off+k*4,none⟩) hbl).trans c0
   have q1:wr.cell? ⟨b,off+k*4+1,none⟩=some (.int .i64 N):=(hT.out.low.cell (p:=⟨b,off+k*4+1,none⟩) hbl).trans c1
   have q2:wr.cell? ⟨b,off+k*4+2,none⟩=some (.string S):=(hT.out.low.cell (p:=⟨b,off+k*4+2,none⟩) hbl).trans c2
   have q3:wr.cell? ⟨b,off+k*4+3,none⟩=some (.slice la zs.length lc):=(hT.out.low.cell (p:=⟨b,off+k*4+3,none⟩) hbl).trans c3
   have HBA:=hid ((Below.refl wr.heap.size wr).alloc (Nat.le_refl _) (.cells #[.int .i64 kk,.int .i64 N,.string S,.slice la zs.length lc] 66))
   have HB3:=hid (hT.out.below HBA.out)
   have HL:=hid hL
   have HSG:=hid hsg
   have HNO:=hid hno
   have HZL:=hid hzl
   have HEW:=hid (heap_alloc_new wr (.cells #[.int .i64 kk,.int .i64 N,.string S,.slice la zs.length lc] 66))
   clear c0 c1 c2 c3 hL hok hsg hno hzl
   by_cases hk5:kk=5
   ·subst hk5
    clear hT
    go_wp2_with (go_at_call 33;refine (HB3.out.looks (by omega)).mono ?_;rintro e0 w9 ⟨rfl,ht9⟩;have HT9:=hid ht9;clear ht9)
    exact ⟨⟨k+1,Y,X,j,m,n,g,f,by omega,rfl,rfl,rfl,rfl,by have:=HL.out;omega,by omega,by omega,HT9.out.swap⟩,by simp [intOf];omega⟩
   ·by_cases hk7:7 < kk
    ·have d5:(kk == 5)=false:=beq_eq_false_iff_ne.2 hk5
     have d6:decide (7 < kk)=true:=decide_eq_true hk7
     clear hk5 hk7 hT
     go_wp2_with (go_at_call 33;refine (HB3.out.looks (by omega)).mono ?_;rintro e0 w9 ⟨rfl,ht9⟩;have HT9:=hid ht9;clear ht9)
     exact ⟨⟨k+1,X,Y,j,n,m,f,g,by omega,rfl,rfl,rfl,rfl,by have:=HL.out;omega,by omega,by omega,HT9⟩,by simp [intOf];omega⟩
    ·by_cases hk6:kk=6
     ·subst hk6
      have hS:S.size<=16777216:=by have:=HL.out;omega
      have HI:=hid (HB3.out.reads fun u a b => inflates_walk S N u hS a b)
      have HU:Hid (∀ u,Two w u BB X Y j n m f g->Calls Tryz.prog 29 #[.string S,.int .i64 N] u fun e w' => e = .returned (.bool true) /\ Two w w' BB X Y j n m f g):=fun u hu => (hu.reads fun u a b => unframes_walk S N u hS a b).mono fun e w' ⟨a,b,_⟩ => ⟨a,b⟩
      clear hT hS hk5 hk7
      go_wp2_with (first
        | (go_at_call 28;refine HI.out.mono ?_;rintro e0 w4 ⟨rfl,ht4,hb4⟩;have HT4:=hid ht4;have hw4:=(hb4.block wr.heap.size (by simp)).trans HEW.out;have p1:w4.cell? ⟨wr.heap.size,1,none⟩=some (.int .i64 N):=(by rw [cell_of_row w4 _ 1 _ _ (0,0) hw4];rfl);have p2:w4.cell? ⟨wr.heap.size,2,none⟩=some (.string S):=(by rw [cell_of_row w4 _ 2 _ _ (0,0) hw4];rfl);clear ht4 hb4 hw4)
        | (go_at_call 29;refine (HU.out _ HT4.out).mono ?_;rintro e0 w5 ⟨rfl,ht5⟩;have HT5:=hid ht5;clear ht5)
        | (go_at_call 33;refine (HT5.out.looks (by omega)).mono ?_;rintro e0 w9 ⟨rfl,ht9⟩;have HT9:=hid ht9;clear ht9))
      exact ⟨⟨k+1,X,Y,j,n,m,f,g,by omega,rfl,rfl,rfl,rfl,by have:=HL.out;omega,by omega,by omega,HT9⟩,by simp [intOf];omega⟩
     ·by_cases hk8:kk=7
      ·subst hk8
       have HC:=hid (hT.out.book HBA.out (by omega) fun u L nx lv mv gv gs h1 h2 h3 h4 h5 h6 => bcodes_any h1 h2 h3 h4 la lc HSG.out h5 h6 HNO.out HZL.out)
       have HD:Hid (∀ u,Two w u BB X Y (j+1) n m f g->Calls Tryz.prog 31 #[.pointer (some ⟨BB,0,none⟩),.slice la zs.length lc,.int .i64 N] u fun e w' => e = .returned (.bool true) /\ Two w w' BB X Y (j+1+1) n m f g):=fun u hu => (hu.book (Below.refl _ _) (by omega) fun u L nx lv mv gv gs h1 h2 h3 h4 h5 h6 => bbest_any N h1 h2 h3 h4 la lc HSG.out h5 h6 HNO.out HZL.out).mono fun e w' ⟨a,b,_⟩ => ⟨a,b⟩
       clear hT hk5 hk7 hk6
       go_wp2_with (first
         | (go_at_call 30;refine HC.out.mono ?_;rintro e0 w4 ⟨rfl,ht4,hb4⟩;have HT4:=hid ht4;have hw4:=(hb4 wr.heap.size (Nat.le_refl _) (by simp)).trans HEW.out;have p1:w4.cell? ⟨wr.heap.size,1,none⟩=some (.int .i64 N):=(by rw [cell_of_row w4 _ 1 _ _ (0,0) hw4];rfl);have p3:w4.cell? ⟨wr.heap.size,3,none⟩=some (.slice la zs.length lc):=(by rw [cell_of_row w4 _ 3 _ _ (0,0) hw4];rfl);clear ht4 hb4 hw4)
         | (go_at_call 31;refine (HD.out _ HT4.out).mono ?_;rintro e0 w5 ⟨rfl,ht5⟩;have HT5:=hid ht5;clear ht5)
         | (go_at_call 33;refine (HT5.out.looks (by omega)).mono ?_;rintro e0 w9 ⟨rfl,ht9⟩;have HT9:=hid ht9;clear ht9))
       exact ⟨⟨k+1,X,Y,j+1+1,n,m,f,g,by omega,rfl,rfl,rfl,rfl,by have:=HL.out;omega,by omega,by omega,HT9⟩,by simp [intOf];omega⟩
      ·have d5:(kk == 5)=false:=beq_eq_false_iff_ne.2 hk5
       have d6:decide (7 < kk)=false:=decide_eq_false hk7
       have d7:(kk == 6)=false:=beq_eq_false_iff_ne.2 hk6
       have d8:(kk == 7)=false:=beq_eq_false_iff_ne.2 hk8
       have HST:=hid (HB3.out.step kk N S (.slice la zs.length lc) (by have:=HL.out;omega) (by omega))
       clear hk5 hk6 hk7 hk8 hT
       go_wp2_with (first | (go_at_call 33;refine (HT4.out.looks (by omega)).mono ?_;rintro e0 w9 ⟨rfl,ht9⟩;have HT9:=hid ht9;clear ht9) | (go_at_call 32;refine HST.out.mono ?_;rintro e0 w4 ⟨rfl,n',f',ht4,hn4,hf4⟩;have HT4:=hid ht4;clear ht4))
       exact ⟨⟨k+1,X,Y,j,n',m,f',g,by omega,rfl,rfl,rfl,rfl,by have:=HL.out;omega,by omega,by omega,HT9⟩,by simp [intOf];omega⟩
  ·have HT1:=hid (hT.out.take (by omega) (by omega))
   go_wp2_with (first | (go_at_call 34;refine (HT5.out.swap.take (by omega) (by omega)).mono ?_;rintro e0 w6 ⟨rfl,ht6⟩;have HT6:=hid ht6;clear ht6) | (go_at_call 34;refine HT1.out.mono ?_;rintro e0 w5 ⟨rfl,ht5⟩;have HT5:=hid ht5;clear ht5))
   go_ret
   exact ⟨rfl,HT6.out.low⟩
set_option maxHeartbeats 800000 in
theorem plays_bad (w:World) (lev:Int) (h:lev < 0 ∨ 9 < lev) (v:Value) :
  Calls Tryz.prog 13 #[.int .i64 lev,v,.int .i64 7] w fun e w' => e = .returned (.bool true) /\ w=w':=by
 have HN:=hid (begun_bad w lev h)
 clear h
 go_enter Tryz.func13,Tryz.ntmps13
 go_wp2_with (go_at_call 27;refine HN.out.mono ?_;rintro e w1 ⟨rfl,rfl⟩)
 go_ret
 exact ⟨rfl,rfl⟩
set_option maxHeartbeats 800000 in
theorem all_walk (w:World) (lev:Int) (ao:Option Addr) (ca:Nat) (os:List Opd) (ho:Ops w ao os) (hn:os.length<=300000) (hb:opL os<=1048576) (hg:Gl2 w) :
  Calls Tryz.prog 5 #[.int .i64 lev,.slice ao os.length ca] w fun e w' => e = .returned (.bool true) /\ Below w.heap.size w w':=by
 have HP:Hid (Calls Tryz.prog 13 #[.int .i64 lev,.slice ao os.length ca,.int .i64 7] w fun e w' => e = .returned (.bool true) /\ Below w.heap.size w w'):=by
  by_cases h0:lev < 0 ∨ 9 < lev
  ·exact (plays_bad w lev h0 _).mono fun e w' ⟨h1,h2⟩ => ⟨h1,h2 ▸ Below.refl _ _⟩
  ·obtain ⟨lv,rfl⟩:∃ lv:Nat,lev=(lv:Int):=⟨lev.toNat,by omega⟩
   exact plays_walk w lv (by omega) ao ca os ho hn hb hg
 clear ho hb hg hn
 go_enter Tryz.func5,Tryz.ntmps5
 go_wp2_with (go_at_call 13;refine HP.out.mono ?_;rintro e w1 ⟨rfl,hb1⟩;have HB1:=hid hb1;clear hb1)
 go_ret
 exact ⟨rfl,HB1.out⟩
end Go.Proofs.YthdmjmnkhlpnnabGreatDoor
