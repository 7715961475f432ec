import Derived.Test.YthdmjmnkhlpnnabGreatDoorZ05
import Derived.Test.YthdmjmnkhlpnnabGreatDoorZ12
import Derived.Test.YthdmjmnkhlpnnabGreatDoorZ03
import Derived.Test.YthdmjmnkhlpnnabGreatDoorZ10
import Derived.Test.YthdmjmnkhlpnnabGreatDoorZ04
import Derived.Test.YthdmjmnkhlpnnabGreatDoorZ06
namespace Go.Proofs.YthdmjmnkhlpnnabGreatDoor
structure Lg (X:ByteArray) (a c b:Nat):Prop where
 le:c<=min 258 (X.size - a)
 ok:c=0 ∨ (3<=c /\ 1<=b /\ b<=32768 /\ b<=a /\ ∀ j,j < c->byt X (a+j)=byt X (a - b+j))
 al:1<=a->a+3<=X.size->(∀ j,j < min 258 (X.size - a)->byt X (a+j)=byt X (a - 1+j))->c=min 258 (X.size - a) /\ b=1
def Alk (X:ByteArray) (a0:Nat):Prop:=∀ j,a0<=j->1<=j->j < X.size->byt X j=byt X (j - 1)
def tl3 (r:Nat):Nat:=if 3<=r then 0 else 18+9*(2 - r)
theorem tl3_mono (r s:Nat) (h:s<=r):tl3 r<=tl3 s:=by unfold tl3;split <;> split <;> omega
structure Ws (X:ByteArray) (a0 a:Nat) (ws:List Wd):Prop where
 lo:a0<=a
 hi:a<=X.size
 ok:okm ws a0
 ex:exw ws (X.data.toList.take a0)=X.data.toList.take a
 al:Alk X a0->258*pl (wpf zfa zfb ws)<=258*((if a=0 then 0 else 9)+tl3 (X.size - a))+13*(a - a0)
theorem szl (X:ByteArray):X.data.toList.length=X.size:=by rw [Array.length_toList];rfl
theorem Ws.wns {X:ByteArray} {a0 a:Nat} {ws:List Wd} (h:Ws X a0 a ws):a0+wns ws=a:=by
 have e:=congrArg List.length h.ex
 have h1:=h.lo
 have h2:=h.hi
 rw [exw_length,List.length_take,List.length_take,szl] at e
 omega
theorem Ws.start (X:ByteArray) (a0:Nat) (h:a0<=X.size):Ws X a0 a0 [] :=
 ⟨Nat.le_refl _,h,trivial,rfl,fun _ => by simp [wpf,pl]⟩
theorem byt_getD (X:ByteArray) (i j:Nat) (h:byt X i=byt X j):X.data.toList.getD i 0=X.data.toList.getD j 0:=UInt8.toNat_inj.1 h
theorem lit_bits:∀ x:Nat,x < 256->pl [syp zfa x]<=9:=by
 have h:∀ x:Nat,x < 256->(zfa.getD x 0).toNat<=9:=by decide +kernel
 intro x hx
 have:=h x hx
 simp only [pl,syp]
 omega
theorem mat_bits:∀ c:Nat,c < 259->3<=c->pl (wp1 zfa zfb (.mat c 1))<=18 /\ (c=258->pl (wp1 zfa zfb (.mat c 1))<=13):=by
 have h:∀ c:Nat,c < 259->3<=c->(zfa.getD (ltr c) 0).toNat+((agn (ltr c - 257)).2+((zfb.getD (stp 1) 0).toNat+(bck (stp 1)).2))<=18 /\ (c=258->(zfa.getD (ltr c) 0).toNat+((agn (ltr c - 257)).2+((zfb.getD (stp 1) 0).toNat+(bck (stp 1)).2))<=13):=by decide +kernel
 intro c hc h3
 have:=h c hc h3
 simp only [wp1,pl,syp,Nat.add_zero]
 exact this
theorem Alk.at {X:ByteArray} {a0 a:Nat} (h:Alk X a0) (ha:a0<=a) (h1:1<=a) (j:Nat) (hj:a+j < X.size):byt X (a+j)=byt X (a - 1+j):=by
 rw [h (a+j) (by omega) (by omega) hj,show a+j - 1=a - 1+j by omega]
theorem Ws.lit {X:ByteArray} {a0 a c b c' b':Nat} {ws:List Wd} (h:Ws X a0 a ws) (ha:a < X.size) (hl:Lg X a c b) (hn:c=0 ∨ (c < c' /\ Lg X (a+1) c' b')):Ws X a0 (a+1) (ws ++ [.lit (byu X a)]):=by
 have hw:=h.wns
 have hlo:=h.lo
 refine ⟨by omega,by omega,(okm_append _ _ _).2 ⟨h.ok,trivial,trivial⟩,?_,fun hA => ?_⟩
 ·rw [exw_append,h.ex,take_snocB _ _ (by rw [szl];exact ha)]
  rfl
 ·have h0:=h.al hA
  rw [wpf_snoc,pl_append]
  have h9:pl (wp1 zfa zfb (.lit (byu X a)))<=9:=lit_bits _ (UInt8.toNat_lt _)
  have hm:=tl3_mono (X.size - a) (X.size - (a+1)) (by omega)
  rw [if_neg (by omega:¬ a+1=0)]
  by_cases e0:a=0
  ·rw [if_pos e0] at h0
   omega
  ·rw [if_neg e0] at h0
   have hlt:X.size - a < 3:=by
    apply Classical.byContradiction
    intro hc
    obtain ⟨e1,_⟩:=hl.al (by omega) (by omega) (fun j hj => hA.at hlo (by omega) j (by omega))
    rcases hn with hn | ⟨hn,hn2⟩
    ·omega
    ·have:=hn2.le
     omega
   have e2:tl3 (X.size - (a+1))=tl3 (X.size - a)+9:=by
    unfold tl3
    rw [if_neg (by omega),if_neg (by omega)]
    omega
   omega
theorem Ws.mat {X:ByteArray} {a0 a c b:Nat} {ws:List Wd} (h:Ws X a0 a ws) (hl:Lg X a c b) (h0:c ≠ 0):Ws X a0 (a+c) (ws ++ [.mat c b]):=by
 have hw:=h.wns
 have hlo:=h.lo
 have hhi:=h.hi
 have hle:=hl.le
 obtain ⟨h3,hb1,hb2,hb3,hsame⟩:=hl.ok.resolve_left h0
 refine ⟨by omega,by omega,(okm_append _ _ _).2 ⟨h.ok,⟨h3,by omega,hb1,hb2,by omega⟩,trivial⟩,?_,fun hA => ?_⟩
 ·rw [exw_append,h.ex]
  exact cpL_same _ b c a hb1 hb3 (by rw [szl];omega) (fun j hj => byt_getD X _ _ (hsame j hj))
 ·have h0':=h.al hA
  rw [wpf_snoc,pl_append]
  have hm:=tl3_mono (X.size - a) (X.size - (a+c)) (by omega)
  obtain ⟨e1,e2⟩:=hl.al (by omega) (by omega) (fun j hj => hA.at hlo (by omega) j (by omega))
  subst e2
  have hb:=mat_bits c (by omega) h3
  rw [if_neg (by omega)] at h0' ⊢
  by_cases e:c=258
  ·have:=hb.2 e
   omega
  ·have e3:tl3 (X.size - a)=0:=by unfold tl3;rw [if_pos (by omega)]
   have e4:tl3 (X.size - (a+c))=36:=by unfold tl3;rw [if_neg (by omega)];omega
   have:=hb.1
   omega
theorem Ws.bits {X:ByteArray} {a0:Nat} {ws:List Wd} (h:Ws X a0 X.size ws) (hA:Alk X a0):258*pl (wps zfa zfb ws)<=258*52+13*(X.size - a0):=by
 have h0:=h.al hA
 have e:tl3 (X.size - X.size)=36:=by rw [Nat.sub_self];rfl
 have h7:pl [syp zfa 256]=7:=by decide +kernel
 rw [wps_wpf,pl_append,h7]
 rw [e] at h0
 have:(if X.size=0 then 0 else 9)<=9:=by split <;> omega
 omega
end Go.Proofs.YthdmjmnkhlpnnabGreatDoor
namespace Go.Proofs.YthdmjmnkhlpnnabGreatDoor
structure Bq (lv p:Nat) (t:List UInt8) (b:Bool) (u:List UInt8) (ps:List (Nat × Nat)):Prop where
 bl:Bl p t b u ps
 len:u.length<=65535
 raw:pl ps<=3+lft (p+3)+32+8*u.length
 al:1<=lv -> ∀ c,(∀ x,x ∈ t ++ u->x=c)->258*pl ps<=258*55+13*u.length
 pl0:lv=0->pl ps=3+lft (p+3)+32+8*u.length
inductive Wrt (lv:Nat) (V L:Nat) (t:List UInt8):Nat->Nat->List UInt8->Prop where
 | nil:Wrt lv V L t V L t
 | more (V' L':Nat) (t' u:List UInt8) (ps:List (Nat × Nat)) (h:Wrt lv V L t V' L' t') (hb:Bq lv L' t' false u ps):Wrt lv V L t (V'+2 ^ L'*pv ps) (L'+pl ps) (t' ++ u)
theorem Wrt.trans {lv V L V1 L1 V2 L2:Nat} {t t1 t2:List UInt8} (h:Wrt lv V L t V1 L1 t1) (k:Wrt lv V1 L1 t1 V2 L2 t2):Wrt lv V L t V2 L2 t2:=by
 induction k with
 | nil => exact h
 | more V' L' t' u ps _ hb ih => exact .more V' L' t' u ps ih hb
theorem Wrt.tells {lv V L V1 L1 n:Nat} {t t1:List UInt8} (h:Wrt lv V L t V1 L1 t1) (k:Tells n V L t):∃ n1,Tells n1 V1 L1 t1:=by
 induction h with
 | nil => exact ⟨n,k⟩
 | more V' L' t' u ps _ hb ih =>
  obtain ⟨m,hm⟩:=ih
  exact ⟨m+1,.more m V' L' t' u ps hm hb.bl⟩
structure Dfl (lv:Nat) (t o:List UInt8):Prop where
 st:∃ (V L:Nat) (t1 u:List UInt8) (ps:List (Nat × Nat)),Wrt lv 0 0 [] V L t1 /\ t=t1 ++ u /\ Bq lv L t1 true u ps /\ leN o=V+2 ^ L*pv ps /\ 8*o.length=L+pl ps+lft (L+pl ps) /\ (∃ m,t1.length=65535*m /\ (0 < m->0 < u.length) /\ L<=16*t1.length)
theorem nm_app (o x:List UInt8):nm ⟨(o ++ x).toArray⟩=leN o+2 ^ (8*o.length)*leN x:=by
 show leN (o ++ x).toArray.toList=_
 rw [List.toList_toArray,leN_append,pow256]
theorem put_lt {V L x k:Nat} (h:V < 2 ^ L) (hx:x < 2 ^ k):V+2 ^ L*x < 2 ^ (L+k):=by
 rw [Nat.pow_add]
 have h3:2 ^ L*(x+1)<=2 ^ L*2 ^ k:=Nat.mul_le_mul_left _ hx
 rw [Nat.mul_add] at h3
 omega
theorem Dfl.len {lv:Nat} {t o:List UInt8} (h:Dfl lv t o):o.length<=2*t.length+65546:=by
 obtain ⟨V,L,t1,u,ps,hw,rfl,hb,hV,hL,m,-,-,hm⟩:=h.st
 have h1:=hb.raw
 have h2:=hb.len
 have h3:lft (L+3)<=7:=by unfold lft;omega
 have h4:lft (L+pl ps)<=7:=by unfold lft;omega
 rw [List.length_append]
 omega
theorem Dfl.reads {lv:Nat} {t o:List UInt8} (h:Dfl lv t o) (x:List UInt8) (M:Int) (hM:(t.length:Int)<=M):∃ q,inF ⟨(o ++ x).toArray⟩ M = .ok q t /\ 8*o.length=q+lft q /\ 0 < q:=by
 obtain ⟨V,L,t1,u,ps,hw,rfl,hb,hV,hL,-⟩:=h.st
 obtain ⟨n,hn⟩:=hw.tells .nil
 have h3:=hb.bl.three
 refine ⟨L+pl ps,hn.ends hb.bl ⟨?_,?_⟩ (by rw [List.length_append] at hM;exact hM),hL,by omega⟩
 ·show _<=8*(o ++ x).toArray.size
  rw [List.size_toArray,List.length_append]
  omega
 ·rw [nm_app,hV,hL]
  have hlt:=put_lt hn.lt (pv_lt hb.bl.fit)
  rw [Nat.pow_add (m:=L+pl ps),Nat.mul_assoc,Nat.add_mul_mod_self_left,Nat.mod_eq_of_lt hlt]
end Go.Proofs.YthdmjmnkhlpnnabGreatDoor
namespace Go.Proofs.YthdmjmnkhlpnnabGreatDoor
open Go.RowKit Go.Maps
structure To (O O':Nat->Prop) (w w':World):Prop where
 fr:Fr O w w'
 new:∀ k,O' k->O k ∨ w.heap.size<=k
theorem To.refl (O:Nat->Prop) (w:World):To O O w w:=⟨Fr.refl O w,fun _ h => .inl h⟩
theorem To.trans {O O1 O2:Nat->Prop} {a b c:World} (h:To O O1 a b) (k:To O1 O2 b c):To O O2 a c :=
 ⟨h.fr.next k.fr h.new,fun i hi => by
  rcases k.new i hi with e | e
  ·exact h.new i e
  ·exact .inr (by have:=h.fr.env.size;omega)⟩
theorem To.below {O O':Nat->Prop} {a b c:World} (h:To O O' a b) (hb:Below b.heap.size b c):To O O' a c:=⟨h.fr.below hb,h.new⟩
theorem To.ofBelow {O:Nat->Prop} {a b:World} (hb:Below a.heap.size a b):To O O a b:=(To.refl O a).below hb
def eff (lv:Nat):Nat × Nat:=[(4,1),(8,1),(16,1),(16,8),(32,16),(64,32),(128,64),(256,128),(512,258)].getD (lv - 1) (0,0)
theorem eff_bd:∀ lv:Nat,lv < 10->1<=lv->1<=(eff lv).1 /\ (eff lv).1<=512 /\ 1<=(eff lv).2 /\ (eff lv).2<=258:=by decide
inductive Sv (w:World):Nat->List UInt8->Value->(Nat->Prop)->Prop where
 | none (hs:List UInt8):Sv w 0 hs (.pointer none) (fun _ => False)
 | some (lv:Nat) (hs:List UInt8) (S:Nat) (X:ByteArray) (dr T M:Nat) (tv:Value) (h1:1<=lv) (h9:lv<=9) (h:Sx w S (eff lv).1 (eff lv).2 X (X.size - 2) dr T M tv) (hX:X.data.toList=hs.drop dr) (hle:dr<=hs.length) (hdr:dr=0 ∨ 32768<=X.size) (hXs:X.size<=98303):Sv w lv hs (.pointer (some ⟨S,0,none⟩)) (SxO S T M tv)
theorem Sv.olt {w:World} {lv:Nat} {hs:List UInt8} {sv:Value} {Os:Nat->Prop} (h:Sv w lv hs sv Os) {k:Nat} (hk:Os k):k < w.heap.size:=by
 cases h with
 | none => exact hk.elim
 | some lv hs S X dr T M tv h1 h9 h hX hle hdr hXs => exact h.olt hk
theorem Sv.kept {w w':World} {lv:Nat} {hs:List UInt8} {sv:Value} {Os:Nat->Prop} (h:Sv w lv hs sv Os) (hk:∀ k,Os k->w'.heap[k]? = w.heap[k]?) (hz:w.heap.size<=w'.heap.size):Sv w' lv hs sv Os:=by
 cases h with
 | none => exact .none hs
 | some lv hs S X dr T M tv h1 h9 h hX hle hdr hXs => exact .some lv hs S X dr T M tv h1 h9 (h.kept hk hz) hX hle hdr hXs
theorem Sv.below {w w':World} {lv:Nat} {hs:List UInt8} {sv:Value} {Os:Nat->Prop} (h:Sv w lv hs sv Os) (hb:Below w.heap.size w w'):Sv w' lv hs sv Os:=h.kept (fun _ hk => hb.block _ (h.olt hk)) hb.size
theorem Sv.apart {w:World} {lv:Nat} {hs:List UInt8} {sv:Value} {Os:Nat->Prop} (h:Sv w lv hs sv Os) {k:Nat} {cs:Array Value} {t:TypeId} {fr:Nat × Nat} (hk:w.heap[k]? = Option.some (.cells cs t fr)) (h1:t ≠ 119) (h2:t ≠ 181) (h3:t ≠ 239):¬ Os k:=by
 cases h with
 | none => exact fun h => h
 | some lv hs S X dr T M tv _ _ h hX hle hdr hXs => exact SxO.apart h hk h1 h2 h3
def PqO (B:Nat) (ov pv:Value) (Os:Nat->Prop) (k:Nat):Prop:=k=B ∨ some k=ov.ownBlock ∨ some k=pv.ownBlock ∨ Os k
structure Pq (w:World) (O:Nat->Prop) (B V L:Nat) (t:List UInt8) (lv:Nat) (hs:List UInt8):Prop where
 st:∃ (ov pv sv:Value) (Os:Nat->Prop),Wb w B ov V L pv sv /\ w.ownsRow (B+1) 5 1 pv t.length (bys t) /\ (pv.ownBlock=none ∨ pv.ownBlock ≠ ov.ownBlock) /\ Sv w lv hs sv Os /\ O=PqO B ov pv Os
theorem row_cells {w:World} {base n:Nat} {v:Value} {xs:List Value} (h:w.ownsRow base 5 1 v n xs) {k:Nat} (hk:some k=v.ownBlock):∃ cs,w.heap[k]? = some (.cells cs 5 (0,0)):=by
 obtain ⟨_,⟨rfl,_⟩ | ⟨g,cap,cur,rfl,_,hh,_⟩⟩:=h
 ·simp [Value.ownBlock] at hk
 ·simp [Value.ownBlock] at hk
  subst hk
  exact ⟨cur,hh⟩
theorem Wb.row {w:World} {B:Nat} {ov:Value} {V L:Nat} {pv sv:Value} (h:Wb w B ov V L pv sv):∃ o:List UInt8,w.ownsRow (B+1) 5 1 ov o.length (bys o) /\ ∃ cs,w.heap[B]? = some (.cells cs 78 (0,0)):=by
 obtain ⟨o,g,c,hW,-⟩:=h.st
 exact ⟨o,hW.own,_,hW.blk⟩
theorem Wb.kept {w w':World} {B:Nat} {ov:Value} {V L:Nat} {pv sv:Value} (h:Wb w B ov V L pv sv) (hB:w'.heap[B]? = w.heap[B]?) (hk:∀ k,some k=ov.ownBlock->w'.heap[k]? = w.heap[k]?):Wb w' B ov V L pv sv:=by
 obtain ⟨o,g,c,hW,r⟩:=h.st
 exact ⟨o,g,c,⟨hB.trans hW.blk,owns_kept hW.own (fun k e => hk k e.symm)⟩,r⟩
theorem Pq.olt {w:World} {O:Nat->Prop} {B V L:Nat} {t:List UInt8} {lv:Nat} {hs:List UInt8} (h:Pq w O B V L t lv hs) {k:Nat} (hk:O k):k < w.heap.size:=by
 obtain ⟨ov,pv,sv,Os,hW,hp,hn,hv,rfl⟩:=h.st
 obtain ⟨o,ho,cs,hB⟩:=hW.row
 rcases hk with e | e | e | e
 ·rw [e];exact hW.lt
 ·exact (ho.lt k e.symm).2
 ·exact (hp.lt k e.symm).2
 ·exact hv.olt e
theorem Pq.kept {w w':World} {O:Nat->Prop} {B V L:Nat} {t:List UInt8} {lv:Nat} {hs:List UInt8} (h:Pq w O B V L t lv hs) (hk:∀ k,O k->w'.heap[k]? = w.heap[k]?) (hz:w.heap.size<=w'.heap.size):Pq w' O B V L t lv hs:=by
 obtain ⟨ov,pv,sv,Os,hW,hp,hn,hv,rfl⟩:=h.st
 exact ⟨ov,pv,sv,Os,hW.kept (hk B (.inl rfl)) (fun k e => hk k (.inr (.inl e))),owns_kept hp (fun k e => hk k (.inr (.inr (.inl e.symm)))),hn,hv.kept (fun k e => hk k (.inr (.inr (.inr e)))) hz,rfl⟩
theorem Pq.below {w w':World} {O:Nat->Prop} {B V L:Nat} {t:List UInt8} {lv:Nat} {hs:List UInt8} (h:Pq w O B V L t lv hs) (hb:Below w.heap.size w w'):Pq w' O B V L t lv hs:=h.kept (fun _ hk => hb.block _ (h.olt hk)) hb.size
theorem Kw.fr {B:Nat} {ov:Value} {w w':World} (h:Kw B ov w w') (O:Nat->Prop) (hB:O B) (hO:∀ k,some k=ov.ownBlock->O k):Fr O w w':=⟨h.env,fun k hk hn => h.blk k hk (fun e => hn (e ▸ hB)) (fun e => hn (hO k e))⟩
theorem Sv.kw {w w':World} {lv:Nat} {hs:List UInt8} {sv:Value} {Os:Nat->Prop} (h:Sv w lv hs sv Os) {B:Nat} {ov:Value} {V L:Nat} {pv sv':Value} (hW:Wb w B ov V L pv sv') (hk:Kw B ov w w'):Sv w' lv hs sv Os:=by
 obtain ⟨o,ho,cs,hB⟩:=hW.row
 refine h.kept (fun k e => hk.blk k (h.olt e) (fun e' => ?_) (fun e' => ?_)) hk.env.size
 ·subst e'
  exact h.apart hB (by decide) (by decide) (by decide) e
 ·obtain ⟨cs',hc⟩:=row_cells ho e'
  exact h.apart hc (by decide) (by decide) (by decide) e
end Go.Proofs.YthdmjmnkhlpnnabGreatDoor
namespace Go.Proofs.YthdmjmnkhlpnnabGreatDoor
/-! a text only grows -/
theorem cpy_grow {M:Int} {b p n:Nat} {t u:List UInt8} {q:Nat} (h:cpy M b p n t = .ok q u):t <+: u:=by
 induction n generalizing t with
 | zero => simp [cpy] at h;rw [h.2];exact List.prefix_rfl
 | succ n ih =>
  rw [cpy] at h
  split at h
  ·exact (List.prefix_append _ _).trans (ih h)
  ·simp at h
theorem agF_grow {M:Int} {zb:List Int} {s:ByteArray} {n p:Nat} {t u:List UInt8} {q:Nat} (h:agF M zb s n p t = .ok q u):t <+: u:=by
 unfold agF at h
 split at h
 ·simp at h
 ·split at h
  ·simp at h
  ·split at h
   ·split at h
    ·simp at h
    ·exact cpy_grow h
   ·simp at h
theorem ltF_grow {M:Int} {za zb:List Int} {s:ByteArray} {f p:Nat} {t u:List UInt8} {q:Nat} (h:ltF M za zb s f p t = .ok q u):t <+: u:=by
 induction f generalizing p t with
 | zero => simp [ltF] at h;rw [h.2];exact List.prefix_rfl
 | succ f ih =>
  rw [ltF] at h
  split at h
  ·simp at h
  ·split at h
   ·split at h
    ·exact (List.prefix_append _ _).trans (ih h)
    ·simp at h
   ·split at h
    ·simp at h;rw [h.2];exact List.prefix_rfl
    ·split at h
     ·split at h
      ·split at h
       ·rename_i hg;exact (agF_grow hg).trans (ih h)
       ·simp at h
      ·simp at h
     ·simp at h
theorem rawF_grow {M:Int} {s:ByteArray} {n a:Nat} {t u:List UInt8} {q:Nat} (h:rawF M s n a t = .ok q u):t <+: u /\ q=8*(a+n):=by
 induction n generalizing a t with
 | zero => simp [rawF] at h;rw [h.2];exact ⟨List.prefix_rfl,by omega⟩
 | succ n ih =>
  rw [rawF] at h
  split at h
  ·split at h
   ·have:=ih h;exact ⟨(List.prefix_append _ _).trans this.1,by omega⟩
   ·simp at h
  ·simp at h
theorem asF_grow {M:Int} {s:ByteArray} {p:Nat} {t u:List UInt8} {q:Nat} (h:asF M s p t = .ok q u):t <+: u /\ p+32<=q:=by
 unfold asF at h
 split at h
 ·split at h
  ·have:=rawF_grow h;exact ⟨this.1,by omega⟩
  ·simp at h
 ·simp at h
theorem bkF_grow {M:Int} {s:ByteArray} {k p:Nat} {t u:List UInt8} {q:Nat} (h:bkF M s k p t = .ok q u):t <+: u:=by
 unfold bkF at h
 split at h
 ·exact (asF_grow h).1
 ·split at h
  ·exact ltF_grow h
  ·split at h
   ·split at h
    ·simp at h
    ·exact ltF_grow h
   ·simp at h
theorem blF_grow {M:Int} {s:ByteArray} {f p:Nat} {t u:List UInt8} {q:Nat} (h:blF M s f p t = .ok q u):t <+: u:=by
 induction f generalizing p t with
 | zero => simp [blF] at h;rw [h.2];exact List.prefix_rfl
 | succ f ih =>
  rw [blF] at h
  split at h
  ·split at h
   ·simp at h
   ·rename_i hb
    split at h
    ·injection h with h1 h2;rw [<- h2];exact bkF_grow hb
    ·exact (bkF_grow hb).trans (ih h)
  ·simp at h
/-! less data -/
structure Beg (s' s:ByteArray):Prop where
 sz:s'.size<=s.size
 by':∀ a,a < s'.size->byu s' a=byu s a
variable {s s':ByteArray}
theorem Beg.bit (h:Beg s' s) {p:Nat} (hp:p < 8*s'.size):bitAt s' p=bitAt s p:=by
 have:=h.by' (p / 8) (by omega)
 unfold bitAt byt
 unfold byu at this
 rw [this]
theorem Beg.num (h:Beg s' s) {p n:Nat} (hp:p+n<=8*s'.size):val s' p n=val s p n:=by
 induction n with
 | zero => rfl
 | succ n ih => rw [val,val,ih (by omega),h.bit (by omega)]
theorem symF_cut (hb:Beg s' s) {zs:List Int} {f n ab p:Nat} {v:Int} {q:Nat} (h:symF zs s f n ab p = .ok v q):(q<=8*s'.size /\ symF zs s' f n ab p = .ok v q) ∨ (8*s'.size < q /\ symF zs s' f n ab p = .no 1):=by
 induction f generalizing n ab p with
 | zero => simp [symF] at h
 | succ f ih =>
  have h0:=symF_ok _ _ _ _ _ _ _ _ h
  by_cases hp:p < 8*s'.size
  ·have hs:p < 8*s.size:=by omega
   have e:=hb.bit hp
   by_cases hc:2*ab+bitAt s p < cnt zs (n+1)
   ·rw [symF_hit _ _ _ _ _ _ hs hc] at h
    rw [symF_hit _ _ _ _ _ _ hp (by rw [e];exact hc),e]
    injection h with h1 h2
    exact .inl ⟨by omega,by rw [h1,h2]⟩
   ·rw [symF_miss _ _ _ _ _ _ hs hc] at h
    rw [symF_miss _ _ _ _ _ _ hp (by rw [e];exact hc),e]
    exact ih h
  ·rw [symF_end _ _ _ _ _ _ hp]
   exact .inr ⟨by omega,rfl⟩
theorem sym_cut (hb:Beg s' s) {zs:List Int} {p:Nat} {v:Int} {q:Nat} (h:sym zs s p = .ok v q):(q<=8*s'.size /\ sym zs s' p = .ok v q) ∨ (8*s'.size < q /\ sym zs s' p = .no 1):=symF_cut hb h
def Ct (c q:Nat) (u:List UInt8) (r:Tx):Prop:=(q<=c /\ r = .ok q u) ∨ (c < q /\ ∃ t',r = .no 1 t' /\ t' <+: u)
theorem agF_cut (hb:Beg s' s) {M:Int} {zb:List Int} {n p:Nat} {t u:List UInt8} {q:Nat} (h:agF M zb s n p t = .ok q u):Ct (8*s'.size) q u (agF M zb s' n p t):=by
 have hg:=agF_grow h
 unfold agF at h ⊢
 split at h
 ·simp at h
 ·rename_i v r hs
  split at h
  ·simp at h
  ·rename_i h30
   split at h
   ·rename_i hin
    split at h
    ·simp at h
    ·rename_i hfar
     have hq:=cpy_end h
     rcases sym_cut hb hs with ⟨h1,h2⟩ | ⟨h1,h2⟩
     ·rw [h2]
      simp only
      rw [if_neg h30]
      by_cases hi:r+(bck v.toNat).2<=8*s'.size
      ·rw [if_pos hi,hb.num hi,if_neg hfar]
       exact .inl ⟨by omega,h⟩
      ·rw [if_neg hi]
       exact .inr ⟨by omega,t,rfl,hg⟩
     ·rw [h2]
      exact .inr ⟨by omega,t,rfl,hg⟩
   ·simp at h
theorem cltF_end {M:Int} {za zb:List Int} {s:ByteArray} {f p:Nat} {t u:List UInt8} {q:Nat} (h:ltF M za zb s f p t = .ok q u):p<=q:=by
 induction f generalizing p t with
 | zero => simp [ltF] at h;omega
 | succ f ih =>
  rw [ltF] at h
  split at h
  ·simp at h
  ·rename_i hs
   have hs:=sym_ok hs
   split at h
   ·split at h
    ·have:=ih h;omega
    ·simp at h
   ·split at h
    ·simp at h;omega
    ·split at h
     ·split at h
      ·split at h
       ·rename_i hg;have:=agF_end hg;have:=ih h;omega
       ·simp at h
      ·simp at h
     ·simp at h
theorem ltF_cut (hb:Beg s' s) {M:Int} {za zb:List Int} (f f' p:Nat) (t u:List UInt8) (q:Nat) (h:ltF M za zb s f p t = .ok q u) (hf:8*s.size < f+p) (hf':8*s'.size < f'+p) (hp:p<=8*s'.size):Ct (8*s'.size) q u (ltF M za zb s' f' p t):=by
 have hz:=hb.sz
 induction f generalizing f' p t with
 | zero => omega
 | succ f ih =>
  obtain ⟨f',rfl⟩:∃ g,f'=g+1:=⟨f' - 1,by omega⟩
  have hg:=ltF_grow h
  rw [ltF] at h ⊢
  split at h
  ·simp at h
  ·rename_i v r hs
   have hr:=sym_ok hs
   rcases sym_cut hb hs with ⟨h1,h2⟩ | ⟨h1,h2⟩
   ·rw [h2]
    simp only
    split at h
    ·rename_i hv
     rw [if_pos hv]
     split at h
     ·rename_i hm
      rw [if_pos hm]
      exact ih f' r _ h (by omega) (by omega) (by omega)
     ·simp at h
    ·rename_i hv
     rw [if_neg hv]
     split at h
     ·rename_i hv2
      rw [if_pos hv2]
      injection h with h3 h4
      exact .inl ⟨by omega,by rw [h3,h4]⟩
     ·rename_i hv2
      rw [if_neg hv2]
      split at h
      ·rename_i hv3
       rw [if_pos hv3]
       split at h
       ·rename_i hin
        split at h
        ·rename_i p' t' ha
         have he:=agF_end ha
         by_cases hi:r+(agn (v - 257).toNat).2<=8*s'.size
         ·rw [if_pos hi,hb.num hi]
          rcases agF_cut hb ha with ⟨k1,k2⟩ | ⟨k1,t2,k2,k3⟩
          ·rw [k2]
           exact ih f' p' t' h (by omega) (by omega) (by omega)
          ·rw [k2]
           have:=cltF_end h
           exact .inr ⟨by omega,t2,rfl,k3.trans (ltF_grow h)⟩
         ·rw [if_neg hi]
          have:=cltF_end h
          exact .inr ⟨by omega,t,rfl,hg⟩
        ·simp at h
       ·simp at h
      ·simp at h
   ·rw [h2]
    refine .inr ⟨?_,t,rfl,hg⟩
    have:r<=q:=by
     split at h
     ·split at h
      ·exact cltF_end h
      ·simp at h
     ·split at h
      ·simp at h;omega
      ·split at h
       ·split at h
        ·split at h
         ·rename_i ha;have:=agF_end ha;have:=cltF_end h;omega
         ·simp at h
        ·simp at h
       ·simp at h
    omega
theorem rawF_cut (hb:Beg s' s) {M:Int} (n a:Nat) (t u:List UInt8) (q:Nat) (h:rawF M s n a t = .ok q u) (ha:a<=s'.size):Ct (8*s'.size) q u (rawF M s' n a t):=by
 induction n generalizing a t with
 | zero =>
  simp [rawF] at h
  exact .inl ⟨by omega,by rw [rawF,h.1,h.2]⟩
 | succ n ih =>
  have hg:=rawF_grow h
  rw [rawF] at h ⊢
  split at h
  ·split at h
   ·rename_i hm
    by_cases hi:a < s'.size
    ·rw [if_pos hi,if_pos hm,hb.by' a hi]
     exact ih (a+1) _ h (by omega)
    ·rw [if_neg hi]
     exact .inr ⟨by omega,t,rfl,hg.1⟩
   ·simp at h
  ·simp at h
theorem asF_cut (hb:Beg s' s) {M:Int} {p:Nat} {t u:List UInt8} {q:Nat} (h:asF M s p t = .ok q u):Ct (8*s'.size) q u (asF M s' p t):=by
 have hg:=asF_grow h
 unfold asF at h ⊢
 split at h
 ·split at h
  ·rename_i hk
   have hr:=rawF_grow h
   by_cases hi:(p+7) / 8*8+32<=8*s'.size
   ·rw [if_pos hi,hb.num (by omega),hb.num (by omega),if_pos hk]
    exact rawF_cut hb _ _ _ _ _ h (by omega)
   ·rw [if_neg hi]
    exact .inr ⟨by omega,t,rfl,hg.1⟩
  ·simp at h
 ·simp at h
theorem clF_cut (hb:Beg s' s) {p k:Nat} (h:p+3*k<=8*s'.size):clF s' p k=clF s p k:=by
 induction k with
 | zero => rfl
 | succ k ih => rw [clF,clF,ih (by omega),hb.num (by omega)]
theorem lnF_end {zc:List Int} {s:ByteArray} {N f:Nat} {l l':List Int} {p q:Nat} (h:lnF zc s N f l p = .ok l' q):p<=q:=by
 induction f generalizing l p with
 | zero => simp [lnF] at h;omega
 | succ f ih =>
  rw [lnF] at h
  split at h
  ·split at h
   ·simp at h
   ·rename_i hs
    have:=sym_ok hs
    split at h
    ·simp at h
    ·split at h
     ·split at h
      ·simp at h
      ·have:=ih h;omega
     ·simp at h
  ·simp at h;omega
theorem lnF_cut (hb:Beg s' s) {zc:List Int} {N:Nat} (f:Nat) (l l':List Int) (p q:Nat) (h:lnF zc s N f l p = .ok l' q) (hp:p<=8*s'.size):(q<=8*s'.size /\ lnF zc s' N f l p = .ok l' q) ∨ (8*s'.size < q /\ lnF zc s' N f l p = .no 1):=by
 induction f generalizing l p with
 | zero => simp [lnF] at h;exact .inl ⟨by omega,by rw [lnF,h.1,h.2]⟩
 | succ f ih =>
  rw [lnF] at h ⊢
  split at h
  ·rename_i hN
   rw [if_pos hN]
   split at h
   ·simp at h
   ·rename_i v r hs
    split at h
    ·simp at h
    ·rename_i h16
     split at h
     ·split at h
      ·simp at h
      ·rename_i hN2
       have he:=lnF_end h
       rcases sym_cut hb hs with ⟨h1,h2⟩ | ⟨h1,h2⟩
       ·rw [h2]
        simp only
        rw [if_neg h16]
        by_cases hi:r+(tms v.toNat).2<=8*s'.size
        ·rw [if_pos hi,hb.num hi,if_neg hN2]
         exact ih _ _ h hi
        ·rw [if_neg hi]
         exact .inr ⟨by omega,rfl⟩
       ·rw [h2]
        exact .inr ⟨by omega,rfl⟩
     ·simp at h
  ·rename_i hN
   rw [if_neg hN]
   injection h with h1 h2
   exact .inl ⟨by omega,by rw [h1,h2]⟩
theorem owF_cut (hb:Beg s' s) {za zb:List Int} {p q:Nat} (h:owF s p = .ok za zb q):(q<=8*s'.size /\ owF s' p = .ok za zb q) ∨ (8*s'.size < q /\ owF s' p = .no 1):=by
 unfold owF at h ⊢
 split at h
 ·split at h
  ·simp at h
  ·rename_i hc
   split at h
   ·split at h
    ·rename_i hw
     split at h
     ·simp at h
     ·rename_i l r hl
      split at h
      ·rename_i hm
       injection h with h1 h2 h3
       have he:=lnF_end hl
       by_cases hi:p+14<=8*s'.size
       ·rw [if_pos hi,hb.num (by omega),hb.num (by omega),hb.num (by omega),if_neg hc]
        by_cases hi2:p+14+3*(4+val s (p+10) 4)<=8*s'.size
        ·rw [if_pos hi2,clF_cut hb hi2,if_pos hw]
         rcases lnF_cut hb _ _ _ _ _ hl hi2 with ⟨k1,k2⟩ | ⟨k1,k2⟩
         ·rw [k2]
          simp only
          rw [if_pos hm]
          exact .inl ⟨by omega,by rw [h1,h2,h3]⟩
         ·rw [k2]
          exact .inr ⟨by omega,rfl⟩
        ·rw [if_neg hi2]
         exact .inr ⟨by omega,rfl⟩
       ·rw [if_neg hi]
        exact .inr ⟨by omega,rfl⟩
      ·simp at h
    ·simp at h
   ·simp at h
 ·simp at h
theorem bkF_cut (hb:Beg s' s) {M:Int} {k p:Nat} {t u:List UInt8} {q:Nat} (h:bkF M s k p t = .ok q u) (hp:p<=8*s'.size):Ct (8*s'.size) q u (bkF M s' k p t):=by
 have hz:=hb.sz
 have hg:=bkF_grow h
 unfold bkF at h ⊢
 split at h
 ·rename_i hk
  rw [if_pos hk]
  exact asF_cut hb h
 ·rename_i hk
  rw [if_neg hk]
  split at h
  ·rename_i hk1
   rw [if_pos hk1]
   exact ltF_cut hb _ _ _ _ _ _ h (by omega) (by omega) hp
  ·rename_i hk1
   rw [if_neg hk1]
   split at h
   ·rename_i hk2
    rw [if_pos hk2]
    split at h
    ·simp at h
    ·rename_i za zb r ho
     rcases owF_cut hb ho with ⟨h1,h2⟩ | ⟨h1,h2⟩
     ·rw [h2]
      exact ltF_cut hb _ _ _ _ _ _ h (by omega) (by omega) h1
     ·rw [h2]
      have:=cltF_end h
      exact .inr ⟨by omega,t,rfl,hg⟩
   ·simp at h
theorem cbkF_end {M:Int} {s:ByteArray} {k p:Nat} {t u:List UInt8} {q:Nat} (h:bkF M s k p t = .ok q u):p<=q:=by
 unfold bkF at h
 split at h
 ·have:=asF_grow h;omega
 ·split at h
  ·exact cltF_end h
  ·split at h
   ·split at h
    ·simp at h
    ·rename_i za zb r ho
     have he:=cltF_end h
     have:p<=r:=by
      unfold owF at ho
      split at ho
      ·split at ho
       ·simp at ho
       ·split at ho
        ·split at ho
         ·split at ho
          ·simp at ho
          ·rename_i hl
           split at ho
           ·injection ho with _ _ h3;have:=lnF_end hl;omega
           ·simp at ho
         ·simp at ho
        ·simp at ho
      ·simp at ho
     omega
   ·simp at h
theorem cblF_end {M:Int} {s:ByteArray} {f p:Nat} {t u:List UInt8} {q:Nat} (h:blF M s f p t = .ok q u):p<=q:=by
 induction f generalizing p t with
 | zero => simp [blF] at h;omega
 | succ f ih =>
  rw [blF] at h
  split at h
  ·split at h
   ·simp at h
   ·rename_i hb
    have:=cbkF_end hb
    split at h
    ·injection h with h1 h2;omega
    ·have:=ih h;omega
  ·simp at h
theorem blF_cut (hb:Beg s' s) {M:Int} (f f' p:Nat) (t u:List UInt8) (q:Nat) (h:blF M s f p t = .ok q u) (hf:8*s.size < f+p) (hf':8*s'.size < f'+p) (hp:p<=8*s'.size):Ct (8*s'.size) q u (blF M s' f' p t):=by
 have hz:=hb.sz
 induction f generalizing f' p t with
 | zero => omega
 | succ f ih =>
  obtain ⟨f',rfl⟩:∃ g,f'=g+1:=⟨f' - 1,by omega⟩
  have hg:=blF_grow h
  rw [blF] at h ⊢
  split at h
  ·rename_i h3
   split at h
   ·simp at h
   ·rename_i r t1 hk
    have he:=cbkF_end hk
    have he2:r<=q:=by
     split at h
     ·injection h with h1 h2;omega
     ·exact cblF_end h
    by_cases hi:p+3<=8*s'.size
    ·rw [if_pos hi,hb.num (by omega),hb.bit (by omega)]
     rcases bkF_cut hb hk hi with ⟨k1,k2⟩ | ⟨k1,t2,k2,k3⟩
     ·rw [k2]
      simp only
      split at h
      ·rename_i hbit
       rw [if_pos hbit]
       injection h with h1 h2
       exact .inl ⟨by omega,by rw [h1,h2]⟩
      ·rename_i hbit
       rw [if_neg hbit]
       exact ih f' r t1 h (by omega) (by omega) (by omega)
     ·rw [k2]
      refine .inr ⟨by omega,t2,rfl,k3.trans ?_⟩
      split at h
      ·injection h with h1 h2;rw [<- h2];exact List.prefix_rfl
      ·exact blF_grow h
    ·rw [if_neg hi]
     exact .inr ⟨by omega,t,rfl,hg⟩
  ·simp at h
theorem inF_cut (hb:Beg s' s) {M:Int} {u:List UInt8} {q:Nat} (h:inF s M = .ok q u) (hq:8*s'.size < q):∃ t',inF s' M = .no 1 t' /\ t' <+: u:=by
 rcases blF_cut hb _ (8*s'.size+1) _ _ _ _ h (by omega) (by omega) (by omega) with ⟨h1,-⟩ | ⟨-,h2⟩
 ·omega
 ·exact h2
/-! less room -/
def Rm (q:Nat) (u:List UInt8) (r:Tx):Prop:=r = .ok q u ∨ ∃ t',r = .no 6 t'
variable {s:ByteArray} {M M':Int}
end Go.Proofs.YthdmjmnkhlpnnabGreatDoor
namespace Go.Proofs.YthdmjmnkhlpnnabGreatDoor
open Go.RowKit
theorem asF_end {M:Int} {s:ByteArray} {p:Nat} {t:List UInt8} (h:¬ (p+7) / 8*8+32<=8*s.size):asF M s p t = .no 1 t:=by unfold asF;rw [if_neg h]
theorem asF_bad {M:Int} {s:ByteArray} {p:Nat} {t:List UInt8} (h:(p+7) / 8*8+32<=8*s.size) (h2:¬ (val s ((p+7) / 8*8+16) 16:Int)=65535 - (val s ((p+7) / 8*8) 16:Int)):asF M s p t = .no 2 t:=by unfold asF;rw [if_pos h,if_neg h2]
theorem asF_ok {M:Int} {s:ByteArray} {p:Nat} {t:List UInt8} (h:(p+7) / 8*8+32<=8*s.size) (h2:(val s ((p+7) / 8*8+16) 16:Int)=65535 - (val s ((p+7) / 8*8) 16:Int)):asF M s p t=rawF M s (val s ((p+7) / 8*8) 16) ((p+7) / 8+4) t:=by unfold asF;rw [if_pos h,if_pos h2]
set_option maxRecDepth 20000 in
set_option maxHeartbeats 1600000 in
theorem asItIs_any (w:World) (B:Nat) (s:ByteArray) (p:Nat) (tv:Value) (t:List UInt8) (M:Int) (fx:Option Addr) (h:Rd w B s p tv t M fx) :
  Calls Tryz.prog 78 #[.pointer (some ⟨B,0,none⟩)] w fun e w' => Did B s M fx (asF M s p t) w e w':=by
 have HR:=hid h
 have hrm:=h.rom
 clear h
 obtain ⟨P,hP⟩:∃ P,P=(p+7) / 8*8:=⟨_,rfl⟩
 have HP:=hid hP
 by_cases h16:P+16<=8*s.size
 ·by_cases h32:P+16+16<=8*s.size
  ·obtain ⟨x,hx⟩:∃ x,x=val s P 16:=⟨_,rfl⟩
   obtain ⟨y,hy⟩:∃ y,y=val s (P+16) 16:=⟨_,rfl⟩
   have hxl:x < 65536:=by have:=val_lt s P 16;rw [hx];exact this
   have hyl:y < 65536:=by have:=val_lt s (P+16) 16;rw [hy];exact this
   have HX:=hid hx
   have HY:=hid hy
   by_cases heq:(y:Int)=65535 - (x:Int)
   ·have hb:((y:Int) != 65535 - (x:Int))=false:=by simp [heq]
    obtain ⟨A,hA⟩:∃ A,A=(p+7) / 8+4:=⟨_,rfl⟩
    have hPA:P+16+16=8*A:=by omega
    have HPA:=hid hPA
    rw [asF_ok (by omega) (by rw [<- hP,<- hx,<- hy];exact heq),<- hP,<- hx,<- hA]
    have HEQ:=hid heq
    clear hP hx hy heq hA hPA
    go_enter Tryz.func78,Tryz.ntmps78
    go_wp2_with (first | (go_at_call 123;refine (endByte_any _ _ _ _ _ _ _ _ HR.out).mono ?_;rintro e w1 ⟨rfl,hr1,hk1⟩;rw [<- HP.out] at hr1;have HR1:=hid hr1;clear hr1) | (go_at_call 43;first | (refine (number_ok _ _ _ _ _ _ _ _ HR2.out 16 (by omega) h32).mono ?_;rintro e w3 ⟨rfl,hr3,hk3⟩;rw [<- HY.out];have HR3:=hid hr3;clear hr3) | (refine (number_ok _ _ _ _ _ _ _ _ HR1.out 16 (by omega) h16).mono ?_;rintro e w2 ⟨rfl,hr2,hk2⟩;rw [<- HX.out];have HR2:=hid hr2;clear hr2)))
    have hk:Kp 90 B w w3:=(hk1.trans hk2).trans hk3
    have HR3':Hid (Rd w3 B s (8*A) tv t M fx):=by rw [<- HPA.out];exact HR3
    clear HR1 HR2 HR3 hk1 hk2 hk3
    go_loopw [20] (fun i wr => ∃ (k:Nat) (u:List UInt8),k<=x /\ i = .int .i64 k /\ Hid (rawF M s x A t=rawF M s (x - k) (A+k) u) /\ Hid (∃ tv',Rd wr B s (8*(A+k)) tv' u M fx) /\ Kp 90 B w wr) (fun i _ => x - (intOf i).toNat)
    case atStart => exact ⟨0,t,by omega,rfl,rfl,⟨_,HR3'.out⟩,hk⟩
    case round =>
     clear HR3' hk
     obtain ⟨k,u,hk,rfl,hcp,hR,hK⟩:=hrel
     obtain ⟨tv',hR⟩:=hR.out
     by_cases hlt:k < x
     ·have HF:Hid (x - k=(x - (k+1))+1):=by show _=_;omega
      have HRr:=hid hR
      have hrom:=hR.rom
      clear hR
      by_cases hby:A+k < s.size
      ·by_cases hM:(u.length:Int) < M
       ·have HRW:Hid (rawF M s x A t=rawF M s (x - (k+1)) (A+(k+1)) (u ++ [byu s (A+k)])):=by show _=_;rw [hcp.out,HF.out,rawF,if_pos hby,if_pos hM];rfl
        go_wp2_with (first | (go_at_call 125;refine (nextByte_ok _ _ _ _ _ _ _ _ HRr.out hby).mono ?_;rintro e w4 ⟨rfl,hr4,hk4⟩;have HR4:=hid hr4;clear hr4) | (go_at_call 124;refine (add_ok _ _ _ _ _ _ _ _ _ HR4.out hM (by omega)).mono ?_;rintro e w5 ⟨rfl,hr5,hk5⟩))
        exact ⟨⟨k+1,u ++ [byu s (A+k)],by omega,by go_num,HRW,hr5,(hK.trans hk4).trans hk5⟩,by simp [intOf];omega⟩
       ·have HRW:Hid (rawF M s x A t = .no 6 u):=by show _=_;rw [hcp.out,HF.out,rawF,if_pos hby,if_neg hM]
        have HLE:Hid ((u.length:Int)=M):=by show _=_;have:=HRr.out.len;omega
        go_wp2_with (first | (go_at_call 125;refine (nextByte_ok _ _ _ _ _ _ _ _ HRr.out hby).mono ?_;rintro e w4 ⟨rfl,hr4,hk4⟩;have HR4:=hid hr4;clear hr4) | (go_at_call 124;refine (add_no _ _ _ _ _ _ _ _ _ HR4.out HLE.out).mono ?_;rintro e w5 ⟨rfl,⟨p5,hr5⟩,hk5⟩))
        rw [HRW.out]
        exact ⟨rfl,rfl,⟨p5,_,hr5⟩,(hK.trans hk4).trans hk5⟩
      ·have HRW:Hid (rawF M s x A t = .no 1 u):=by show _=_;rw [hcp.out,HF.out,rawF,if_neg hby]
       go_wp2_with (first | (go_at_call 125;refine (nextByte_no _ _ _ _ _ _ _ _ HRr.out hby).mono ?_;rintro e w4 ⟨rfl,⟨p4,hr4⟩,hk4⟩))
       rw [HRW.out]
       exact ⟨rfl,rfl,⟨p4,_,hr4⟩,hK.trans hk4⟩
     ·obtain rfl:k=x:=by omega
      go_wp2
      go_end0
      rw [show rawF M s k A t = .ok (8*(A+k)) u by rw [hcp.out,Nat.sub_self];rfl]
      exact ⟨rfl,⟨_,hR⟩,hK⟩
   ·have hb:((y:Int) != 65535 - (x:Int))=true:=by simp [heq]
    rw [asF_bad (by omega) (by rw [<- hP,<- hx,<- hy];exact heq)]
    clear hP hx hy heq
    go_enter Tryz.func78,Tryz.ntmps78
    go_wp2_with (first | (go_at_call 123;refine (endByte_any _ _ _ _ _ _ _ _ HR.out).mono ?_;rintro e w1 ⟨rfl,hr1,hk1⟩;rw [<- HP.out] at hr1;have HR1:=hid hr1;clear hr1) | (go_at_call 43;first | (refine (number_ok _ _ _ _ _ _ _ _ HR2.out 16 (by omega) h32).mono ?_;rintro e w3 ⟨rfl,hr3,hk3⟩;rw [<- HY.out];have HR3:=hid hr3;clear hr3) | (refine (number_ok _ _ _ _ _ _ _ _ HR1.out 16 (by omega) h16).mono ?_;rintro e w2 ⟨rfl,hr2,hk2⟩;rw [<- HX.out];have HR2:=hid hr2;clear hr2)) | (go_at_call 82;refine (give_any _ _).mono ?_;rintro e w' ⟨rfl,rfl⟩))
    exact ⟨rfl,rfl,⟨_,_,HR3.out⟩,(hk1.trans hk2).trans hk3⟩
  ·rw [asF_end (by omega)]
   clear hP
   go_enter Tryz.func78,Tryz.ntmps78
   go_wp2_with (first | (go_at_call 123;refine (endByte_any _ _ _ _ _ _ _ _ HR.out).mono ?_;rintro e w1 ⟨rfl,hr1,hk1⟩;rw [<- HP.out] at hr1;have HR1:=hid hr1;clear hr1) | (go_at_call 43;first | (refine (number_no _ _ _ _ _ _ _ _ HR2.out 16 (by omega) h32).mono ?_;rintro e w3 ⟨rfl,⟨p3,hr3⟩,hk3⟩) | (refine (number_ok _ _ _ _ _ _ _ _ HR1.out 16 (by omega) h16).mono ?_;rintro e w2 ⟨rfl,hr2,hk2⟩;have HR2:=hid hr2;clear hr2)))
   exact ⟨rfl,rfl,⟨_,_,hr3⟩,(hk1.trans hk2).trans hk3⟩
 ·rw [asF_end (by omega)]
  clear hP
  go_enter Tryz.func78,Tryz.ntmps78
  go_wp2_with (first | (go_at_call 123;refine (endByte_any _ _ _ _ _ _ _ _ HR.out).mono ?_;rintro e w1 ⟨rfl,hr1,hk1⟩;rw [<- HP.out] at hr1;have HR1:=hid hr1;clear hr1) | (go_at_call 43;refine (number_no _ _ _ _ _ _ _ _ HR1.out 16 (by omega) h16).mono ?_;rintro e w3 ⟨rfl,⟨p3,hr3⟩,hk3⟩))
  exact ⟨rfl,rfl,⟨_,_,hr3⟩,hk1.trans hk3⟩
end Go.Proofs.YthdmjmnkhlpnnabGreatDoor
