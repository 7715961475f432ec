import Derived.Test.YthdmjmnkhlpnnabGreatDoorY01
import Derived.Test.YthdmjmnkhlpnnabGreatDoorY10
namespace Go.Proofs.YthdmjmnkhlpnnabGreatDoor
open Go.RowKit Go.Maps
def wcells (Z:Nat) (Wr By:ByteArray) (cl to' fu:Bool) (a b f:Nat) (la:Bool) (e:Nat):Array Value:=#[.pointer (some ⟨Z,0,none⟩),.string Wr,.string By,.bool cl,.bool to',.bool fu,.int .i64 a,.int .i64 b,.int .i64 f,.bool la,.int .i64 e]
structure Wps (W o:List UInt8) (cl to' fu:Bool) (a b f:Nat) (la:Bool) (e V L:Nat) (t hs:List UInt8):Prop where
 op:cl=false -> ∃ T m Vt Lt,Gs V L hs o T a b m f e Vt Lt /\ W=T ++ t /\ t.length<=65535 /\ (to'=true->t=[] /\ L % 8=0) /\ (la=true->to'=true /\ Lf4 Vt Lt) /\ (fu=true->hs=[] /\ t=[])
 clo:cl=true->la=false /\ to'=true /\ L % 8=0 /\ ∃ m Vt Lt,Gc V L o W a b m f e Vt Lt
structure Wmm (w:World) (O:Nat->Prop) (X n f:Nat):Prop where
 st:∃ (Z:Nat) (Wr By:ByteArray) (cl to' fu:Bool) (a b:Nat) (la:Bool) (e V L:Nat) (t:List UInt8) (lv:Nat) (hs:List UInt8) (Op:Nat->Prop),O=SmO X Op /\ w.heap[X]? = some (.cells (wcells Z Wr By cl to' fu a b f la e) 97 (0,0)) /\ Sm w Op Z V L t lv hs cl /\ Wps Wr.data.toList By.data.toList cl to' fu a b f la e V L t hs /\ Wr.size=n
theorem Sm.apart {w:World} {O:Nat->Prop} {Z V L:Nat} {t:List UInt8} {lv:Nat} {hs:List UInt8} {c:Bool} (h:Sm w O Z V L t lv hs c) {k:Nat} {cs:Array Value} {T:TypeId} {fr:Nat × Nat} (hk:w.heap[k]? = some (.cells cs T fr)) (h1:T ≠ 119) (h2:T ≠ 181) (h3:T ≠ 239) (h4:T ≠ 78) (h5:T ≠ 5) (h6:T ≠ 51):¬ O k:=by
 obtain ⟨B,Op,rfl,hz,hp⟩:=h.st
 rintro (e | e)
 ·rw [e,hz] at hk
  injection hk with hk;injection hk with _ hk;exact h6 hk.symm
 ·exact hp.apart hk h1 h2 h3 h4 h5 e
theorem wapart {w:World} {Op:Nat->Prop} {Z V L:Nat} {t:List UInt8} {lv:Nat} {hs:List UInt8} {c:Bool} (h:Sm w Op Z V L t lv hs c) {X:Nat} {cs:Array Value} (hx:w.heap[X]? = some (.cells cs 97 (0,0))):¬ Op X:=h.apart hx (by decide) (by decide) (by decide) (by decide) (by decide) (by decide)
theorem Sm.setx {w:World} {Op:Nat->Prop} {Z V L:Nat} {t:List UInt8} {lv:Nat} {hs:List UInt8} {c:Bool} (h:Sm w Op Z V L t lv hs c) {X:Nat} {cs:Array Value} (hx:w.heap[X]? = some (.cells cs 97 (0,0))) (j:Nat) (v:Value):Sm (w.setCell ⟨X,j,none⟩ v) Op Z V L t lv hs c :=
 h.kept (fun k hk => Below.heap_setCell _ _ _ _ (fun e => wapart h hx ((show k=X from e) ▸ hk))) (by simp)
theorem wblk_cells {w:World} {X Z:Nat} {Wr By:ByteArray} {cl to' fu:Bool} {a b f:Nat} {la:Bool} {e:Nat} (h:w.heap[X]? = some (.cells (wcells Z Wr By cl to' fu a b f la e) 97 (0,0))):w.cell? ⟨X,0,none⟩=some (.pointer (some ⟨Z,0,none⟩)) /\ w.cell? ⟨X,1,none⟩=some (.string Wr) /\ w.cell? ⟨X,2,none⟩=some (.string By) /\ w.cell? ⟨X,3,none⟩=some (.bool cl) /\ w.cell? ⟨X,4,none⟩=some (.bool to') /\ w.cell? ⟨X,5,none⟩=some (.bool fu) /\ w.cell? ⟨X,6,none⟩=some (.int .i64 a) /\ w.cell? ⟨X,7,none⟩=some (.int .i64 b) /\ w.cell? ⟨X,8,none⟩=some (.int .i64 f) /\ w.cell? ⟨X,9,none⟩=some (.bool la) /\ w.cell? ⟨X,10,none⟩=some (.int .i64 e) /\ ∀ j,w.frozen? ⟨X,j,none⟩=false:=by
 have g:=fun j => cell_of_row w X j _ _ (0,0) h
 exact ⟨by rw [g];rfl,by rw [g];rfl,by rw [g];rfl,by rw [g];rfl,by rw [g];rfl,by rw [g];rfl,by rw [g];rfl,by rw [g];rfl,by rw [g];rfl,by rw [g];rfl,by rw [g];rfl,fun j => by simp [World.frozen?,h]⟩
theorem begins_any (w:World) (s x:ByteArray) (h:x.data.toList <+: s.data.toList) :
  Calls Tryz.prog 59 #[.string s,.string x] w fun e w' => e = .returned (.bool true) /\ w=w':=by
 have hl:x.size<=s.size:=by have:=h.length_le;rw [szl,szl] at this;exact this
 have he:s.extract 0 x.size=x:=ba_ext (by rw [ba_ext_list,List.drop_zero,<- szl x];exact (List.prefix_iff_eq_take.1 h).symm)
 have hbq:(x.toList == x.toList)=true:=beq_self_eq_true _
 go_enter Tryz.func59,Tryz.ntmps59
 go_wp2
 go_ret
 exact ⟨rfl,rfl⟩
theorem Wps.taken {W o:List UInt8} {cl to' fu:Bool} {a b f:Nat} {la:Bool} {e V L:Nat} {t hs x:List UInt8} {g c:Nat} (h:Wps W o cl to' fu a b f la e V L t hs) (hV:V=leN x+256 ^ x.length*g) (hL:L=8*x.length+c) (hc:c < 8):4*e<=x.length /\ e<=L /\ Wps W (o ++ x) cl to' fu a b f la 0 g c t hs:=by
 cases cl with
 | true =>
  obtain ⟨h1,h2,h3,m,Vt,Lt,hg⟩:=h.clo rfl
  have h4:=hg.em
  exact ⟨by omega,by omega,⟨fun h => by simp at h,fun _ => ⟨h1,h2,by omega,m,Vt,Lt,hg.take hV hL⟩⟩⟩
 | false =>
  obtain ⟨T,m,Vt,Lt,hg,h1,h2,h3,h4,h5⟩:=h.op rfl
  have h6:=hg.em
  exact ⟨by omega,by omega,⟨fun _ => ⟨T,m,Vt,Lt,hg.take hV hL,h1,h2,fun q => ⟨(h3 q).1,by have:=(h3 q).2;omega⟩,h4,h5⟩,fun h => by simp at h⟩⟩
theorem Wps.all {W o:List UInt8} {cl to' fu:Bool} {a b f:Nat} {la:Bool} {e V L:Nat} {t hs:List UInt8} (h:Wps W o cl to' fu a b f la e V L t hs) (hL:L < 8) (hV:V < 2 ^ L):∃ t1 n1 e1,ou ⟨o.toArray⟩ W.length=(⟨t1.toArray⟩,n1,e1) /\ (cl=true->t1=W /\ n1=o.length /\ e1=0) /\ (cl=false->e1=1 /\ t1 <+: W /\ (to'=true->t1=W)):=by
 cases cl with
 | true =>
  obtain ⟨h1,h2,h3,m,Vt,Lt,hg⟩:=h.clo rfl
  obtain rfl:L=0:=by omega
  exact ⟨_,_,_,hg.all rfl (by simpa using hV) _ (Int.le_refl _),fun _ => ⟨rfl,rfl,rfl⟩,fun h => by simp at h⟩
 | false =>
  obtain ⟨T,m,Vt,Lt,hg,rfl,h2,h3,h4,h5⟩:=h.op rfl
  obtain ⟨t1,h6,h7,h8⟩:=hg.all ((T ++ t).length:Nat) (by rw [List.length_append];omega)
  refine ⟨t1,_,_,h6,fun h => by simp at h,fun _ => ⟨rfl,h7.trans (List.prefix_append _ _),fun q => ?_⟩⟩
  obtain ⟨rfl,h9⟩:=h3 q
  rw [List.append_nil]
  exact h8 (by omega)
theorem Wps.bnd {W o:List UInt8} {cl to' fu:Bool} {a b f:Nat} {la:Bool} {e V L:Nat} {t hs:List UInt8} (h:Wps W o cl to' fu a b f la e V L t hs):a<=o.length /\ b<=W.length /\ o.length<=W.length+5*((W.length+65534) / 65535)+10*f /\ L<=8*(W.length+5*((W.length+65534) / 65535)+10*f) /\ t.length<=65535 /\ hs.length<=W.length ∨ cl=true /\ a<=o.length /\ b<=W.length /\ o.length<=W.length+5*((W.length+65534) / 65535)+10*f /\ L<=8*(W.length+5*((W.length+65534) / 65535)+10*f):=by
 cases cl with
 | true =>
  obtain ⟨h1,h2,h3,m,Vt,Lt,hg⟩:=h.clo rfl
  have h4:=hg.len
  have h5:=hg.aa
  have h6:=hg.lt
  have h7:=hg.ln
  have h8:=hg.fm
  obtain ⟨n,V0,V1,L1,t1,u,ps,q0,q1,q2,q3,q4⟩:=hg.e1.st
  exact .inr ⟨rfl,h5,q3,by omega,by omega⟩
 | false =>
  obtain ⟨T,m,Vt,Lt,hg,rfl,h2,h3,h4,h5⟩:=h.op rfl
  have h4:=hg.len
  have h5:=hg.aa
  have h6:=hg.lt
  have h7:=hg.ln
  have h8:=hg.fm
  have h9:=hg.t1.le
  have h10:=hg.sf.length_le
  rw [List.length_drop] at h10
  exact .inl ⟨h5,by rw [List.length_append];omega,by rw [List.length_append];omega,by rw [List.length_append];omega,h2,by rw [List.length_append];omega⟩
theorem Wps.four {W o:List UInt8} {to' fu:Bool} {a b f:Nat} {e V L:Nat} {t hs:List UInt8} (h:Wps W o false to' fu a b f true e V L t hs) (hL:L < 8) (hV:V < 2 ^ L):4<=o.length /\ o.drop (o.length - 4)=[0,0,255,255]:=by
 obtain ⟨T,m,Vt,Lt,hg,rfl,h2,h3,h4,h5⟩:=h.op rfl
 obtain ⟨h6,h7⟩:=h4 rfl
 obtain rfl:L=0:=by have:=(h3 h6).2;omega
 exact hg.four rfl (by simpa using hV) h7
theorem Wps.base {W o:List UInt8} {to':Bool} {a b f:Nat} {e V L:Nat} {t hs:List UInt8} (h:Wps W o false to' true a b f true e V L t hs) (hL:L < 8):Wps W o false to' false o.length W.length f true e V L t hs:=by
 obtain ⟨T,m,Vt,Lt,hg,rfl,h2,h3,h4,h5⟩:=h.op rfl
 obtain ⟨h6,h7⟩:=h4 rfl
 obtain rfl:L=0:=by have:=(h3 h6).2;omega
 obtain ⟨rfl,rfl⟩:=h5 rfl
 rw [List.append_nil]
 exact ⟨fun _ => ⟨T,m,Vt,Lt,hg.base rfl,by rw [List.append_nil],h2,h3,h4,fun h => by simp at h⟩,fun h => by simp at h⟩
theorem Wps.some {W o:List UInt8} {cl to' fu:Bool} {a b f:Nat} {la:Bool} {e V L:Nat} {t hs:List UInt8} (h:Wps W o cl to' fu a b f la e V L t hs) (hL:L < 8) (hV:V < 2 ^ L):∃ t1 n1 e1,ou ⟨(o.drop a).toArray⟩ W.length=(⟨t1.toArray⟩,n1,e1) /\ (cl=true->t1=W.drop b /\ e1=0) /\ (cl=false->e1=1 /\ t1 <+: W.drop b /\ (to'=true->t1=W.drop b)):=by
 cases cl with
 | true =>
  obtain ⟨h1,h2,h3,m,Vt,Lt,hg⟩:=h.clo rfl
  obtain rfl:L=0:=by omega
  exact ⟨_,_,_,hg.some rfl (by simpa using hV) _ (Int.le_refl _),fun _ => ⟨rfl,rfl⟩,fun h => by simp at h⟩
 | false =>
  obtain ⟨T,m,Vt,Lt,hg,rfl,h2,h3,h4,h5⟩:=h.op rfl
  obtain ⟨t1,h6,h7,h8⟩:=hg.some ((T ++ t).length:Nat) (by rw [List.length_append];omega)
  refine ⟨t1,_,_,h6,fun h => by simp at h,fun _ => ⟨rfl,?_,fun q => ?_⟩⟩
  ·rw [List.drop_append_of_le_length hg.t1.le]
   exact h7.trans (List.prefix_append _ _)
  ·obtain ⟨rfl,h9⟩:=h3 q
   rw [List.append_nil]
   exact h8 (by omega)
theorem Wmm.own {w:World} {O:Nat->Prop} {X n f:Nat} (h:Wmm w O X n f):O X:=by
 obtain ⟨Z,Wr,By,cl,to',fu,a,b,la,e,V,L,t,lv,hs,Op,rfl,hx,hsm,hps,hn⟩:=h.st
 exact .inl rfl
theorem Wmm.olt {w:World} {O:Nat->Prop} {X n f:Nat} (h:Wmm w O X n f) {k:Nat} (hk:O k):k < w.heap.size:=by
 obtain ⟨Z,Wr,By,cl,to',fu,a,b,la,e,V,L,t,lv,hs,Op,rfl,hx,hsm,hps,hn⟩:=h.st
 rcases hk with e | e
 ·rw [e];exact (Array.getElem?_eq_some_iff.1 hx).1
 ·exact hsm.olt e
theorem Wmm.kept {w w':World} {O:Nat->Prop} {X n f:Nat} (h:Wmm w O X n f) (hk:∀ k,O k->w'.heap[k]? = w.heap[k]?) (hz:w.heap.size<=w'.heap.size):Wmm w' O X n f:=by
 obtain ⟨Z,Wr,By,cl,to',fu,a,b,la,e,V,L,t,lv,hs,Op,rfl,hx,hsm,hps,hn⟩:=h.st
 exact ⟨Z,Wr,By,cl,to',fu,a,b,la,e,V,L,t,lv,hs,Op,rfl,(hk X (.inl rfl)).trans hx,hsm.kept (fun k q => hk k (.inr q)) hz,hps,hn⟩
theorem Wmm.below {w w':World} {O:Nat->Prop} {X n f:Nat} (h:Wmm w O X n f) (hb:Below w.heap.size w w'):Wmm w' O X n f:=h.kept (fun _ hk => hb.block _ (h.olt hk)) hb.size
theorem Wmm.other {w w':World} {O P P':Nat->Prop} {X n f:Nat} (h:Wmm w O X n f) (hk:To P P' w w') (hd:∀ k,O k -> ¬ P k):Wmm w' O X n f :=
 h.kept (fun k hk' => hk.fr.blk k (h.olt hk') (hd k hk')) hk.fr.env.size
theorem Wmm.apart {w w':World} {O P P':Nat->Prop} {X n f:Nat} (h:Wmm w O X n f) (hk:To P P' w w') (hd:∀ k,O k -> ¬ P k):∀ k,O k -> ¬ P' k:=fun k ho hp => by
 rcases hk.new k hp with q | q
 ·exact hd k ho q
 ·have:=h.olt ho
  omega
end Go.Proofs.YthdmjmnkhlpnnabGreatDoor
namespace Go.Proofs.YthdmjmnkhlpnnabGreatDoor
open Go.RowKit Go.Maps
theorem Wfl.none {lv V L V' L':Nat} {t t':List UInt8} (h:Wfl lv V L t 0 V' L' t'):V'=V /\ L'=L /\ t'=t:=by
 generalize hm:0=m at h
 cases h with
 | nil => exact ⟨rfl,rfl,rfl⟩
 | more m V' L' t' u ps _ _ _ => omega
theorem Wps.wrote {lv m V' L':Nat} {hs' t' S W o:List UInt8} {to' fu:Bool} {a b f:Nat} {la:Bool} {e V L:Nat} {t hs:List UInt8} (h:Wps W o false to' fu a b f la e V L t hs) (hw:Wfl lv V L hs m V' L' hs') (ht:hs' ++ t'=hs ++ t ++ S) (hl:t'.length<=65535):(S ≠ []->Wps (W ++ S) o false false false a b f false e V' L' t' hs') /\ (S=[]->Wps (W ++ S) o false to' fu a b f la e V' L' t' hs'):=by
 obtain ⟨T,m0,Vt,Lt,hg,rfl,h2,h3,h4,h5⟩:=h.op rfl
 obtain ⟨x,Vt',Lt',rfl,hg'⟩:=hg.wfl hw
 have hW:T ++ t ++ S=T ++ x ++ t':=by
  rw [List.append_assoc,List.append_assoc] at ht
  rw [List.append_assoc,List.append_assoc,List.append_cancel_left ht]
 refine ⟨fun _ => ⟨fun _ => ⟨T ++ x,_,Vt',Lt',hg',hW,hl,nofun,nofun,nofun⟩,nofun⟩,fun hS => ?_⟩
 subst hS
 by_cases hq:t=[]
 ·subst hq
  have hlen:=hw.len
  rw [List.append_nil,List.append_nil] at ht
  have hlen2:=congrArg List.length ht
  rw [List.length_append] at hlen2
  obtain rfl:m=0:=by omega
  obtain ⟨rfl,rfl,hx⟩:=hw.none
  obtain rfl:x=[]:=by
   have:=congrArg List.length hx
   rw [List.length_append] at this
   exact List.eq_nil_of_length_eq_zero (by omega)
  obtain rfl:t'=[]:=List.eq_nil_of_length_eq_zero (by rw [hx] at hlen2;omega)
  rw [hx,List.append_nil]
  exact h
 ·have e1:to'=false:=by
   cases to' with
   | false => rfl
   | true => exact absurd (h3 rfl).1 hq
  have e2:la=false:=by
   cases la with
   | false => rfl
   | true => have:=(h4 rfl).1;rw [e1] at this;cases this
  have e3:fu=false:=by
   cases fu with
   | false => rfl
   | true => exact absurd (h5 rfl).2 hq
  subst e1
  subst e2
  subst e3
  exact ⟨fun _ => ⟨T ++ x,_,Vt',Lt',hg',hW,hl,nofun,nofun,nofun⟩,nofun⟩
theorem Wps.flushed {lv V' L':Nat} {W o:List UInt8} {to' fu:Bool} {a b f:Nat} {la:Bool} {e V L:Nat} {t hs:List UInt8} (h:Wps W o false to' fu a b f la e V L t hs) (hf:Fls lv V L hs t V' L') (full:Bool):Wps W o false true full a b (f+1) true (e+1) V' L' [] (if full then [] else hs ++ t):=by
 obtain ⟨T,m0,Vt,Lt,hg,rfl,h2,h3,h4,h5⟩:=h.op rfl
 obtain ⟨Vt',Lt',g1,g2,g3⟩:=hg.fls hf
 cases full with
 | true => exact ⟨fun _ => ⟨T ++ t,m0,Vt',Lt',by simpa using g1.forget,(List.append_nil _).symm,by simp,fun _ => ⟨rfl,g2⟩,fun _ => ⟨rfl,g3⟩,fun _ => by simp⟩,nofun⟩
 | false => exact ⟨fun _ => ⟨T ++ t,m0,Vt',Lt',by simpa using g1,(List.append_nil _).symm,by simp,fun _ => ⟨rfl,g2⟩,fun _ => ⟨rfl,g3⟩,nofun⟩,nofun⟩
theorem Wps.ended {lv:Nat} {ps:List (Nat × Nat)} {W o:List UInt8} {to' fu:Bool} {a b f:Nat} {la:Bool} {e V L:Nat} {t hs:List UInt8} (h:Wps W o false to' fu a b f la e V L t hs) (hb:Bq lv L hs true t ps):Wps W o true true fu a b (f+1) false e (V+2 ^ L*pv ps) (L+pl ps+lft (L+pl ps)) [] []:=by
 obtain ⟨T,m0,Vt,Lt,hg,rfl,h2,h3,h4,h5⟩:=h.op rfl
 exact ⟨nofun,fun _ => ⟨rfl,rfl,by unfold lft;omega,m0,_,_,hg.close hb⟩⟩
theorem Wps.small {W o:List UInt8} {to' fu:Bool} {a b f:Nat} {la:Bool} {e V L:Nat} {t hs:List UInt8} (h:Wps W o false to' fu a b f la e V L t hs) (hW:W.length<=1048576) (hf:f<=300000):t.length<=65535 /\ L<=4294967296 /\ hs.length<=100000000000 /\ e<=100000000:=by
 have h1:=h.bnd
 obtain ⟨T,m,Vt,Lt,hg,h4⟩:=h.op rfl
 have h2:=hg.em
 rcases h1 with h1 | h1
 ·omega
 ·cases h1.1
theorem wst_kept {w:World} {Op Op':Nat->Prop} {Z V L:Nat} {t:List UInt8} {lv:Nat} {hs:List UInt8} {c:Bool} {X:Nat} {cs:Array Value} {w0:World} (hs1:Sm w Op' Z V L t lv hs c) (hx:w.heap[X]? = some (.cells cs 97 (0,0))) (hk:To (SmO X Op) (SmO X Op') w0 w) (j:Nat) (v:Value):Sm (w.setCell ⟨X,j,none⟩ v) Op' Z V L t lv hs c /\ To (SmO X Op) (SmO X Op') w0 (w.setCell ⟨X,j,none⟩ v) :=
 ⟨hs1.setx hx j v,⟨hk.fr.set ⟨X,j,none⟩ (.inl rfl) v,hk.new⟩⟩
end Go.Proofs.YthdmjmnkhlpnnabGreatDoor
