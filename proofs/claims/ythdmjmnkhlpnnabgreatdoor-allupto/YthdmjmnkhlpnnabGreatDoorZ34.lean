import Derived.Test.YthdmjmnkhlpnnabGreatDoorZ33
import Derived.Test.YthdmjmnkhlpnnabGreatDoorZ13
import Derived.Test.YthdmjmnkhlpnnabGreatDoorRows
import Derived.Lib.LaidTab
import Derived.ChangeSame
import Derived.Test.YthdmjmnkhlpnnabGreatDoorZ02
namespace Go.Proofs.YthdmjmnkhlpnnabGreatDoor
open Go.RowKit Go.Maps
theorem Pq.waitOf {w:World} {O:Nat->Prop} {B V L:Nat} {t:List UInt8} {lv:Nat} {hs:List UInt8} (h:Pq w O B V L t lv hs):Go.Proofs.YthdmjmnkhlpnnabGreatDoor.waitOf w B=t.length:=by
 obtain ⟨ov,pv,sv,Os,hWb,hpo,hne,hv,hO⟩:=h.st
 obtain ⟨pa,pc,rfl⟩:=row_shape hpo
 unfold Go.Proofs.YthdmjmnkhlpnnabGreatDoor.waitOf
 rw [hWb.wait]
theorem Pq.app {w w1:World} {O:Nat->Prop} {B:Nat} {ov pv v':Value} {V L n:Nat} {t u:List UInt8} {sv:Value} {lv:Nat} {hs:List UInt8} {Os:Nat->Prop} (h:Wb w B ov V L pv sv) (ho:w.ownsRow (B+1) 5 1 pv t.length (bys t)) (hne:pv.ownBlock=none ∨ pv.ownBlock ≠ ov.ownBlock) (hv:Sv w lv hs sv Os) (hO:O=PqO B ov pv Os)
  (hn:n=t.length+u.length) (hown:w1.ownsRow (B+1) 5 1 v' n (bys t ++ bys u)) (hg:w.grownBy w1 pv.ownBlock) (hat:v'.ownBlock=pv.ownBlock ∨ v'.ownBlock=some w.heap.size):∃ O',Pq (w1.setCell ⟨B,3,none⟩ v') O' B V L (t ++ u) lv hs /\ To O O' w (w1.setCell ⟨B,3,none⟩ v'):=by
 have h1:=(h.grownP ho hne hg).setp v'
 have hB:=h.lt
 refine ⟨PqO B ov v' Os,⟨ov,v',sv,Os,h1,?_,?_,?_,rfl⟩,?_⟩
 ·rw [show bys (t ++ u)=bys t ++ bys u by simp [bys],List.length_append,<- hn]
  exact own_set hown rfl _
 ·obtain ⟨o,g,c,hW,r⟩:=h.st
  rcases hat with e | e
  ·rcases hne with hne | hne
   ·exact .inl (e.trans hne)
   ·exact .inr (fun x => hne (e.symm.trans x))
  ·refine .inr (fun x => ?_)
   have:=(hW.own.lt w.heap.size (x.symm.trans e)).2
   omega
 ·obtain ⟨o,_,cs,hcB⟩:=h.row
  have hz:=hg.size
  refine hv.kept (fun k hk => ?_) (by simp;omega)
  have hkB:k ≠ B:=fun e => hv.apart hcB (by decide) (by decide) (by decide) (e ▸ hk)
  rw [Below.heap_setCell _ _ _ _ (by exact hkB)]
  exact hg.block k (hv.olt hk) (fun e => by
    obtain ⟨cs',hc⟩:=row_cells ho e
    exact hv.apart hc (by decide) (by decide) (by decide) hk)
 ·refine ⟨((Fr.refl O w).grown hg (fun k e => by rw [hO];exact .inr (.inr (.inl e.symm)))).set ⟨B,3,none⟩ (by rw [hO];exact .inl rfl) v',fun k hk => ?_⟩
  rcases hk with e | e | e | e
  ·exact .inl (by rw [hO];exact .inl e)
  ·exact .inl (by rw [hO];exact .inr (.inl e))
  ·rcases hat with e' | e'
   ·exact .inl (by rw [hO];exact .inr (.inr (.inl (e.trans e'))))
   ·rw [e'] at e;injection e with e;exact .inr (by omega)
  ·exact .inl (by rw [hO];exact .inr (.inr (.inr e)))
structure Gk (w:World) (O:Nat->Prop):Prop where
 glo:Glo w
 out:¬ O 1
theorem Gk.to {w w':World} {O O':Nat->Prop} (h:Gk w O) (k:To O O' w w'):Gk w' O' :=
 ⟨h.glo.fr k.fr h.out,fun e => by
  have:=cell_in (h.glo 0 (by omega))
  rcases k.new _ e with e | e
  ·exact h.out e
  ·omega⟩
end Go.Proofs.YthdmjmnkhlpnnabGreatDoor
namespace Go.Proofs.YthdmjmnkhlpnnabGreatDoor
open Go.RowKit Go.Maps
def Glf (w:World):Prop:=∀ k,k < 9->w.cell? ⟨0,k*2,none⟩=some (.int .i64 (eff (k+1)).1) /\ w.cell? ⟨0,k*2+1,none⟩=some (.int .i64 (eff (k+1)).2)
set_option maxRecDepth 20000 in
set_option maxHeartbeats 1000000 in
theorem nsearch_any (w:World) (lv:Nat) (h1:1<=lv) (h9:lv<=9) (hg:Glf w) :
  Calls Tryz.prog 35 #[.int .i64 lv] w fun e w' => ∃ S T M,e = .returned (.pointer (some ⟨S,0,none⟩)) /\ Sx w' S (eff lv).1 (eff lv).2 ⟨#[]⟩ 0 0 T M (.slice none 0 0) /\ Below w.heap.size w w' /\ w.heap.size<=S /\ w.heap.size<=T /\ w.heap.size<=M:=by
 obtain ⟨k,rfl⟩:∃ k,lv=k+1:=⟨lv - 1,by omega⟩
 obtain ⟨e0,e1⟩:=hg k (by omega)
 obtain ⟨tr,htr⟩:∃ x,x=(eff (k+1)).1:=⟨_,rfl⟩
 obtain ⟨en,hen⟩:∃ x,x=(eff (k+1)).2:=⟨_,rfl⟩
 rw [<- htr] at e0
 rw [<- hen] at e1
 rw [<- htr,<- hen]
 have jK:IntKind.i64.wrap (((k+1:Nat):Int) - 1)=(k:Int):=by rw [IntKind.wrap_i64];omega
 have hk9:k < 9:=by omega
 clear htr hen hg h1 h9
 go_enter Tryz.func35,Tryz.ntmps35
 go_wp2_with (go_at_call 41;refine (forget_any _ _ tr en 0 ⟨#[]⟩ (.pointer none) (heap_alloc_new w _)).mono ?_;rintro e w2 ⟨rfl,T,M,hb2,ht2,hi2,hf2,hT2,hM2⟩)
 go_ret
 have hz:(w.alloc (.cells #[.int .i64 tr,.int .i64 en,.string ⟨#[]⟩,.pointer none,.int .i64 0] 119)).heap.size=w.heap.size+1:=by simp
 have hz2:=hf2.env.size
 refine ⟨w.heap.size,T,M,rfl,Sx.nothing hb2 ht2 hi2 hz2,?_,Nat.le_refl _,by omega,by omega⟩
 exact ((Below.refl w.heap.size w).alloc (Nat.le_refl _) _).trans ⟨hf2.env.os,hf2.env.tape,hf2.env.output,hf2.env.size,fun k hk => hf2.blk k (by omega) (by omega)⟩
set_option maxHeartbeats 1000000 in
theorem pnew_any (w:World) (lv:Nat) (h9:lv<=9) (hg:Glf w) :
  Calls Tryz.prog 15 #[.int .i64 lv] w fun e w' => ∃ B O,e = .returned (.pointer (some ⟨B,0,none⟩)) /\ Pq w' O B 0 0 [] lv [] /\ Below w.heap.size w w' /\ w.heap.size<=B /\ ∀ k,O k->w.heap.size<=k:=by
 by_cases h0:lv=0
 ·subst h0
  refine (new0_any w).mono ?_
  rintro e w' ⟨rfl,hp,hb⟩
  obtain ⟨ov,pv,hW,hr,hn⟩:=hp.st
  refine ⟨w.heap.size,PqO w.heap.size ov pv (fun _ => False),rfl,⟨ov,pv,_,_,hW,hr,hn,.none [],rfl⟩,hb,Nat.le_refl _,fun k hk => ?_⟩
  obtain ⟨o,ho,-⟩:=hW.row
  rcases hk with e | e | e | e
  ·omega
  ·have:=(ho.lt k e.symm).1;omega
  ·have:=(hr.lt k e.symm).1;omega
  ·exact e.elim
 ·have d0:((lv:Int) == 0)=false:=by simp;omega
  have HN:=hid (nsearch_any w lv (by omega) h9 hg)
  go_enter Tryz.func15,Tryz.ntmps15
  go_wp2_with (go_at_call 35;refine HN.out.mono ?_;rintro e w1 ⟨S,T,M,rfl,hs1,hb1,hS,hT,hM⟩;have HS1:=hid hs1;have HB1:=hid hb1;clear hs1 hb1)
  go_ret
  have hba:=(Below.refl w1.heap.size w1).alloc (Nat.le_refl _) (.cells #[.slice none 0 0,.int .u64 0,.int .i64 0,.slice none 0 0,.pointer (some ⟨S,0,none⟩)] 78)
  have hz:=HB1.out.size
  refine ⟨w1.heap.size,PqO w1.heap.size (.slice none 0 0) (.slice none 0 0) (SxO S T M (.slice none 0 0)),rfl,⟨.slice none 0 0,.slice none 0 0,_,_,⟨[],0,0,⟨heap_alloc_new w1 _,⟨rfl,Or.inl ⟨rfl,rfl⟩⟩⟩,by omega,by decide,by simp [leN],by simp⟩,⟨rfl,Or.inl ⟨rfl,rfl⟩⟩,.inl rfl,.some lv [] S ⟨#[]⟩ 0 T M (.slice none 0 0) (by omega) h9 (HS1.out.below hba) rfl (Nat.le_refl _) (.inl rfl) (by decide),rfl⟩,HB1.out.trans (hba.mono hz),hz,fun k hk => ?_⟩
  rcases hk with e | e | e | e | e | e | e
  ·omega
  ·simp [Value.ownBlock] at e
  ·simp [Value.ownBlock] at e
  ·omega
  ·omega
  ·omega
  ·simp [Value.ownBlock] at e
end Go.Proofs.YthdmjmnkhlpnnabGreatDoor
namespace Go.Proofs.YthdmjmnkhlpnnabGreatDoor
open Go.RowKit Go.Maps
theorem Pq.wrote {w w':World} {O:Nat->Prop} {B V L V' L':Nat} {t:List UInt8} {lv:Nat} {hs:List UInt8} {ov pv sv:Value} {Os:Nat->Prop} {ov':Value} (hW:Wb w B ov V L pv sv) (hp:w.ownsRow (B+1) 5 1 pv t.length (bys t)) (hn:pv.ownBlock=none ∨ pv.ownBlock ≠ ov.ownBlock) (hv:Sv w lv hs sv Os) (hO:O=PqO B ov pv Os) (hw':Wb w' B ov' V' L' pv sv) (hk:Kw B ov w w') (hm:Moved ov ov' w):∃ O',Pq w' O' B V' L' t lv hs /\ To O O' w w':=by
 refine ⟨PqO B ov' pv Os,⟨ov',pv,sv,Os,hw',own_kw hp hk hn,ne_moved hp hm hn,hv.kw hW hk,rfl⟩,hk.fr O (by rw [hO];exact .inl rfl) (fun k e => by rw [hO];exact .inr (.inl e)),fun k hk' => ?_⟩
 rcases hk' with e | e | e | e
 ·exact .inl (by rw [hO];exact .inl e)
 ·rcases hm with m | ⟨q',hq',m⟩
  ·exact .inl (by rw [hO];exact .inr (.inl (e.trans m)))
  ·rw [m] at e;injection e with e;exact .inr (by omega)
 ·exact .inl (by rw [hO];exact .inr (.inr (.inl e)))
 ·exact .inl (by rw [hO];exact .inr (.inr (.inr e)))
theorem qend_any (w:World) (O:Nat->Prop) (B:Nat) (V L:Nat) (t:List UInt8) (lv:Nat) (hs:List UInt8) (h:Pq w O B V L t lv hs) (hL:L<=34359738368) :
  Calls Tryz.prog 45 #[.pointer (some ⟨B,0,none⟩)] w fun e w' => e = .returned (.tuple #[]) /\ ∃ O',Pq w' O' B V (L+lft L) t lv hs /\ To O O' w w':=by
 obtain ⟨ov,pv,sv,Os,hW,hp,hn,hv,hO⟩:=h.st
 refine (wend_any w B ov V L pv sv hW hL).mono ?_
 rintro e w' ⟨rfl,ov',hb,hk,hm⟩
 exact ⟨rfl,Pq.wrote hW hp hn hv hO hb hk hm⟩
theorem Pq.cells {w:World} {O:Nat->Prop} {B V L:Nat} {t:List UInt8} {lv:Nat} {hs:List UInt8} (h:Pq w O B V L t lv hs):∃ ov pa pc sp,w.cell? ⟨B,0,none⟩=some ov /\ w.cell? ⟨B,3,none⟩=some (.slice pa t.length pc) /\ w.cell? ⟨B,4,none⟩=some (.pointer sp) /\ (∀ j,w.frozen? ⟨B,j,none⟩=false):=by
 obtain ⟨ov,pv,sv,Os,hW,hp,hn,hv,hO⟩:=h.st
 obtain ⟨o,g,c,hWr,r⟩:=hW.st
 obtain ⟨pa,pc,rfl⟩:=row_shape hp
 obtain ⟨sp,rfl⟩:∃ sp,sv = .pointer sp:=by
  cases hv with
  | none => exact ⟨_,rfl⟩
  | some lv hs S X dr T M tv h1 h9 h hX hle hdr hXs => exact ⟨_,rfl⟩
 exact ⟨ov,pa,pc,sp,hWr.cell.1,hWr.cell.2.2.2.1,hWr.cell.2.2.2.2,fun j => hWr.free j⟩
theorem Pq.nils {w:World} {O:Nat->Prop} {B V L:Nat} {t:List UInt8} {lv:Nat} {hs:List UInt8} (h:Pq w O B V L t lv hs):∃ O',Pq ((w.setCell ⟨B,3,none⟩ (.slice none 0 0)).setCell ⟨B,4,none⟩ (.pointer none)) O' B V L [] 0 [] /\ To O O' w ((w.setCell ⟨B,3,none⟩ (.slice none 0 0)).setCell ⟨B,4,none⟩ (.pointer none)):=by
 obtain ⟨ov,pv,sv,Os,hW,hp,hn,hv,hO⟩:=h.st
 obtain ⟨o,g,c,hWr,r⟩:=hW.st
 refine ⟨PqO B ov (.slice none 0 0) (fun _ => False),⟨ov,.slice none 0 0,_,_,⟨o,g,c,⟨?_,own_set (own_set hWr.own rfl _) rfl _⟩,r⟩,⟨rfl,Or.inl ⟨rfl,rfl⟩⟩,.inl rfl,.none [],rfl⟩,((Fr.refl O w).set ⟨B,3,none⟩ (by rw [hO];exact .inl rfl) _).set ⟨B,4,none⟩ (by rw [hO];exact .inl rfl) _,fun k hk => ?_⟩
 ·rw [blk_set (blk_set hWr.blk _ _) _ _];rfl
 ·rcases hk with e | e | e | e
  ·exact .inl (by rw [hO];exact .inl e)
  ·exact .inl (by rw [hO];exact .inr (.inl e))
  ·simp [Value.ownBlock] at e
  ·exact e.elim
set_option maxRecDepth 20000 in
set_option maxHeartbeats 1600000 in
theorem pend2_any (w:World) (O:Nat->Prop) (B V L:Nat) (t:List UInt8) (lv:Nat) (hs:List UInt8) (h:Pq w O B V L t lv hs) (ht:t.length<=65535) (hL:L<=8589934592) (hsl:hs.length<=1000000000000) (hg:Gk w O) :
  Calls Tryz.prog 26 #[.pointer (some ⟨B,0,none⟩)] w fun e w' => e = .returned (.tuple #[]) /\ ∃ ps O',Bq lv L hs true t ps /\ Pq w' O' B (V+2 ^ L*pv ps) (L+pl ps+lft (L+pl ps)) [] 0 [] /\ To O O' w w':=by
 have HB:=hid (pblock_any w O B V L t true lv hs h ht hL hsl hg.glo hg.out)
 clear h
 go_enter Tryz.func26,Tryz.ntmps26
 go_wp2_with (first | (go_at_call 45;refine (qend_any w1 O1 B V1 L1 [] lv _ HP1.out hL1).mono ?_;rintro e w2 ⟨rfl,O2,hp2,hk2⟩;have HP2:=hid hp2;have HK2:=hid hk2;obtain ⟨ov2,pa2,pc2,sp2,c0,c3,c4,f⟩:=hp2.cells;clear hp2 hk2) | (go_at_call 38;refine HB.out.mono ?_;rintro e w1 ⟨rfl,ps,O1,hbq,hp1,hk1⟩;have HBQ:=hid hbq;have HK1:=hid hk1;obtain ⟨V1,hV1⟩:∃ x,x=V+2 ^ L*pv ps:=⟨_,rfl⟩;obtain ⟨L1,hL1e⟩:∃ x,x=L+pl ps:=⟨_,rfl⟩;have hL1:L1<=34359738368:=(by have:=hbq.raw;have:lft (L+3)<=7:=(by unfold lft;omega);omega);rw [<- hV1,<- hL1e] at hp1;have HP1:=hid hp1;have HVL:=hid (And.intro hV1 hL1e);clear hbq hp1 hk1 hV1 hL1e))
 go_end0
 obtain ⟨O3,hp3,hk3⟩:=HP2.out.nils
 rw [HVL.out.1,HVL.out.2] at hp3
 exact ⟨rfl,ps,O3,HBQ.out,hp3,(HK1.out.trans HK2.out).trans hk3⟩
set_option maxHeartbeats 800000 in
theorem ptake_any (w:World) (O:Nat->Prop) (B V L:Nat) (t:List UInt8) (lv:Nat) (hs:List UInt8) (h:Pq w O B V L t lv hs) :
  Calls Tryz.prog 20 #[.pointer (some ⟨B,0,none⟩)] w fun e w' => ∃ (o:List UInt8) (g c:Nat),e = .returned (.string ⟨o.toArray⟩) /\ c < 8 /\ g < 2 ^ c /\ V=leN o+256 ^ o.length*g /\ L=8*o.length+c /\ ∃ O',Pq w' O' B g c t lv hs /\ To O O' w w':=by
 obtain ⟨ov,pv,sv,Os,hWb,hpo,hne,hv,hO⟩:=h.st
 obtain ⟨o,g,c,hW,hc,hg,hV,hL⟩:=hWb.st
 have c0:=hW.cell.1
 have f0:=hW.free 0
 have hcv:=bytes_run hW.own
 have HFIN:Hid (∃ O',Pq (w.setCell ⟨B,0,none⟩ (.slice none 0 0)) O' B g c t lv hs /\ To O O' w (w.setCell ⟨B,0,none⟩ (.slice none 0 0))):=by
  refine ⟨PqO B (.slice none 0 0) pv Os,⟨.slice none 0 0,pv,sv,Os,⟨[],g,c,⟨by rw [blk_set hW.blk];rfl,⟨rfl,Or.inl ⟨rfl,rfl⟩⟩⟩,hc,hg,by simp [leN],by simp⟩,own_set hpo rfl _,?_,?_,rfl⟩,(Fr.refl O w).set ⟨B,0,none⟩ (by rw [hO];exact .inl rfl) _,fun k hk => ?_⟩
  ·cases hb:pv.ownBlock with
   | none => exact .inl rfl
   | some k => exact .inr (by simp [Value.ownBlock])
  ·refine hv.kept (fun k hk => Below.heap_setCell _ _ _ _ (fun e => ?_)) (by simp)
   exact hv.apart hW.blk (by decide) (by decide) (by decide) ((show k=B from e) ▸ hk)
  ·rcases hk with e | e | e | e
   ·exact .inl (by rw [hO];exact .inl e)
   ·simp [Value.ownBlock] at e
   ·exact .inl (by rw [hO];exact .inr (.inr (.inl e)))
   ·exact .inl (by rw [hO];exact .inr (.inr (.inr e)))
 have HRE:=hid (And.intro hc (And.intro hg (And.intro hV hL)))
 obtain ⟨ao,cp,rfl⟩:=hW.shape
 clear h hWb hpo hne hW hc hg hV hL hv hO
 go_enter Tryz.func20,Tryz.ntmps20
 go_wp2
 go_ret
 exact ⟨o,g,c,rfl,HRE.out.1,HRE.out.2.1,HRE.out.2.2.1,HRE.out.2.2.2,HFIN.out⟩
structure Gl2 (w:World):Prop where
 ord:Glo w
 eff:Glf w
theorem Gl2.below {w w':World} (h:Gl2 w) (hb:Below w.heap.size w w'):Gl2 w' :=
 ⟨h.ord.below hb (cell_in (h.ord 0 (by omega))),fun k hk => ⟨(hb.cell (p:=⟨0,k*2,none⟩) (cell_in (h.eff k hk).1)).trans (h.eff k hk).1,(hb.cell (p:=⟨0,k*2+1,none⟩) (cell_in (h.eff k hk).2)).trans (h.eff k hk).2⟩⟩
end Go.Proofs.YthdmjmnkhlpnnabGreatDoor
namespace Go.Proofs.YthdmjmnkhlpnnabGreatDoor
open Go.ChangeShapes Go.RowKit Go.ChangeShapes
theorem cells_of_pairs {H:Type} {enc:TypeId × Value->H} {P:Program} {w:World} {base:Nat} {sp:Nat->Bool} {held:Bool} {fuel:Nat} {t e i:TypeId} {n:Nat} {k:IntKind} {f0 f1:Field} {cs:List Value} {zs:List (Int × Int)} {p:List MemPlace}
  (ht:P.underlying t=some (.array n e)) (he:P.underlying e=some (.struct #[f0,f1])) (h0:f0.type=i) (h1:f1.type=i) (o0:f0.offset=0) (o1:f1.offset=1) (hi:P.underlying i=some (.int k)) (hci:P.cellsOf i=1) (hce:P.cellsOf e=2)
  (h:DataW.trod enc P w base sp held fuel t cs=some (.agg (zs.map fun z => .agg [.lit (.int k z.1),.lit (.int k z.2)]),p)) (j:Nat) (z:Int × Int) (hz:zs[j]? = some z):cs[j*2]? = some (.int k z.1) /\ cs[j*2+1]? = some (.int k z.2):=by
 cases fuel with
 | zero => simp [DataW.trod] at h
 | succ fuel =>
  simp only [DataW.trod,ht,hce] at h
  split at h
  ·obtain ⟨xs,hm,hx⟩:=Option.map_eq_some_iff.1 h
   have hxs:xs.map (·.1)=zs.map fun z => (DataW.agg [.lit (.int k z.1),.lit (.int k z.2)]:DataW H):=by
    have:=congrArg Prod.fst hx
    simpa using this
   have hxl:xs.length=n:=by simpa using Lib.mapM_length hm
   have hzl:zs.length=xs.length:=by
    have:=congrArg List.length hxs
    simp at this
    omega
   have hj:j < n:=by have:=(List.getElem?_eq_some_iff.1 hz).1;omega
   obtain ⟨b,hb,hf⟩:=Lib.mapM_at hm j j (by simp [hj])
   obtain ⟨y0,y1,m,e1,e2,e3,e4⟩:=trod_struct2 he hf
   rw [h0,hci,o0] at e3
   rw [h1,hci,o1] at e4
   obtain ⟨a0,q0,rfl,_⟩:=DataW.trod_int hi e3
   obtain ⟨a1,q1,rfl,_⟩:=DataW.trod_int hi e4
   have r2:(xs.map (·.1))[j]? = some b.1:=by simp [hb]
   rw [hxs,List.getElem?_map,hz,e1] at r2
   simp at r2
   obtain ⟨r3,r4⟩:=r2
   rw [r3,r4]
   have s0:=congrArg (·[0]?) q0
   have s1:=congrArg (·[0]?) q1
   simp [List.getElem?_drop] at s0 s1
   exact ⟨s0,s1⟩
  ·cases h
theorem gOrd:Tryz.prog.globalNamed "bale/format.order" = some 1:=by kernel_rfl
theorem gOrdType:(Tryz.prog.globals[1]?).map (·.type)=some 244:=by kernel_rfl
theorem gOrdCells:Tryz.prog.cellsOf 244=19:=by kernel_rfl
theorem gIntCells:Tryz.prog.cellsOf 3=1:=by kernel_rfl
theorem gEff:Tryz.prog.globalNamed "bale/pack.efforts" = some 0:=by kernel_rfl
theorem gEffType:(Tryz.prog.globals[0]?).map (·.type)=some 116:=by kernel_rfl
theorem gEffCells:Tryz.prog.cellsOf 115=2:=by kernel_rfl
def ordJ:List Int:=ord.map Int.ofNat
theorem ordJ_get:∀ k,k < 19->ordJ.getD k 0=((ord.getD k 0:Nat):Int):=by decide
def effI:List (Int × Int):=[(4,1),(8,1),(16,1),(16,8),(32,16),(64,32),(128,64),(256,128),(512,258)]
theorem gl2_of_laid {W:World} (h:laidMetH Tryz.prog Rows.aloneUptoRow.laid W):Gl2 W:=by
 have hm:laidMet Tryz.prog [("bale/format.order",Rows.laid_bale_format_order),("bale/pack.efforts",Rows.laid_bale_pack_efforts)] W:=h
 refine ⟨fun k hk => ?_,fun k hk => ?_⟩
 ·have ht:Lib.TabIs Tryz.prog W "bale/format.order" .i64 ordJ:=Lib.tabIs_of_head gOrd gOrdType Tryz.underlying244 Tryz.underlying3 gIntCells gOrdCells hm
  have h1:=ht.cell gOrd k (by exact hk)
  have h2:=ordJ_get k hk
  rw [<- h2]
  first | exact h1 | simpa using h1
 ·obtain ⟨ps,⟨g1,t1,cs1,fuel1,p1,q1,hg1,ht1,hvar1,hd1,⟨g2,t2,cs,fuel,p,q,hg,ht,hvar,hd,_,_⟩,_⟩,_⟩:=hm
  obtain rfl:=Option.some.inj (gEff.symm.trans hg)
  obtain rfl:=Option.some.inj (gEffType.symm.trans ht)
  have hc:=fun j z hz => cells_of_pairs (k:=.i64) (zs:=effI) Tryz.underlying116 Tryz.underlying115 rfl rfl rfl rfl Tryz.underlying3 gIntCells gEffCells hd j z hz
  have hv:=fun i => World.var?_cell gEff hvar i
  have hk':k=0 ∨ k=1 ∨ k=2 ∨ k=3 ∨ k=4 ∨ k=5 ∨ k=6 ∨ k=7 ∨ k=8:=by omega
  have hz:∃ z,effI[k]? = some z /\ z.1=((eff (k+1)).1:Int) /\ z.2=((eff (k+1)).2:Int):=by
   rcases hk' with rfl | rfl | rfl | rfl | rfl | rfl | rfl | rfl | rfl <;> exact ⟨_,rfl,rfl,rfl⟩
  obtain ⟨z,e1,e2,e3⟩:=hz
  obtain ⟨r1,r2⟩:=hc k z e1
  rw [<- e2,<- e3]
  exact ⟨by rw [hv];simpa using r1,by rw [hv];simpa using r2⟩
end Go.Proofs.YthdmjmnkhlpnnabGreatDoor
namespace Go.Proofs.YthdmjmnkhlpnnabGreatDoor
open Go.RowKit
theorem isLevel_any (w:World) (n:Int) :
  Calls Tryz.prog 14 #[.int .i64 n] w fun e w' => e = .returned (.bool (decide (0<=n) && decide (n<=9))) /\ w=w':=by
 by_cases h0:0<=n
 ·have d0:decide (0<=n)=true:=by simp [h0]
  rw [d0,Bool.true_and]
  go_enter Tryz.func14,Tryz.ntmps14
  go_wp2
  go_ret
  exact ⟨rfl,rfl⟩
 ·have d0:decide (0<=n)=false:=by simp;omega
  rw [d0,Bool.false_and]
  go_enter Tryz.func14,Tryz.ntmps14
  go_wp2
  go_ret
  exact ⟨rfl,rfl⟩
end Go.Proofs.YthdmjmnkhlpnnabGreatDoor
namespace Go.Proofs.YthdmjmnkhlpnnabGreatDoor
open Go.RowKit
end Go.Proofs.YthdmjmnkhlpnnabGreatDoor
namespace Go.Proofs.YthdmjmnkhlpnnabGreatDoor
inductive Wfl (lv:Nat) (V L:Nat) (t:List UInt8):Nat->Nat->Nat->List UInt8->Prop where
 | nil:Wfl lv V L t 0 V L t
 | more (m V' L':Nat) (t' u:List UInt8) (ps:List (Nat × Nat)) (h:Wfl lv V L t m V' L' t') (hb:Bq lv L' t' false u ps) (hu:u.length=65535):Wfl lv V L t (m+1) (V'+2 ^ L'*pv ps) (L'+pl ps) (t' ++ u)
theorem Wfl.len {lv V L m V' L':Nat} {t t':List UInt8} (h:Wfl lv V L t m V' L' t'):t'.length=t.length+65535*m:=by
 induction h with
 | nil => omega
 | more m V' L' t' u ps _ hb hu ih => rw [List.length_append,hu,ih];omega
end Go.Proofs.YthdmjmnkhlpnnabGreatDoor
namespace Go.Proofs.YthdmjmnkhlpnnabGreatDoor
open Go.RowKit Go.Maps
set_option maxRecDepth 20000 in
set_option maxHeartbeats 3200000 in
theorem paddf_any (w:World) (O:Nat->Prop) (B V L:Nat) (t:List UInt8) (lv:Nat) (hs:List UInt8) (S:ByteArray) (h:Pq w O B V L t lv hs) (ht:t.length<=65535) (hS:S.size<=16777216) (hL:L<=4294967296) (hsl:hs.length<=100000000000) (hg:Gk w O) :
  Calls Tryz.prog 18 #[.pointer (some ⟨B,0,none⟩),.string S] w fun e w' => e = .returned (.tuple #[]) /\ ∃ V' L' t' hs' O' m,Pq w' O' B V' L' t' lv hs' /\ Wfl lv V L hs m V' L' hs' /\ hs' ++ t'=hs ++ t ++ S.data.toList /\ t'.length<=65535 /\ L'+16*t'.length<=L+16*(t.length+S.size) /\ hs'.length=hs.length+65535*m /\ (0 < m->0 < t'.length) /\ To O O' w w':=by
 have HP:=hid h
 have HG:=hid hg
 obtain ⟨C,hC⟩:∃ C,C=L+16*(t.length+S.size):=⟨_,rfl⟩
 obtain ⟨TX,hTX⟩:∃ TX,TX=hs ++ t ++ S.data.toList:=⟨_,rfl⟩
 obtain ⟨h0,hh0⟩:∃ x,x=hs.length:=⟨_,rfl⟩
 have hC5:C<=5000000000:=by omega
 have hh1:h0<=100000000000:=by omega
 have HST:Hid (L+16*(t.length+S.size)<=C /\ hs ++ t ++ S.data.toList=TX /\ hs.length=h0+65535*0):=⟨by omega,hTX.symm,by omega⟩
 have htx:TX.length<=200000000000:=by rw [hTX,List.length_append,List.length_append,szl];omega
 rw [<- hTX,<- hC,<- hh0]
 clear h hg hTX hC hh0
 go_enter Tryz.func18,Tryz.ntmps18
 go_wp2
 go_loopw [1] (fun v wr => ∃ (V' L':Nat) (t' hs':List UInt8) (O':Nat->Prop) (m:Nat) (S':ByteArray),v = .string S' /\ t'.length<=65535 /\ S'.size<=16777216 /\ L'+16*(t'.length+S'.size)<=C /\ Hid (Pq wr O' B V' L' t' lv hs') /\ Hid (Wfl lv V L hs m V' L' hs') /\ Hid (hs' ++ t' ++ S'.data.toList=TX /\ hs'.length=h0+65535*m /\ (0 < m->0 < t'.length+S'.size)) /\ Hid (To O O' w wr)) (fun v wr => sizeOfS v+waitOf wr B)
 case atStart => exact ⟨V,L,t,hs,O,0,S,rfl,ht,hS,HST.out.1,HP,Wfl.nil,⟨HST.out.2.1,HST.out.2.2,fun h => by omega⟩,To.refl _ _⟩
 case round =>
  clear HP HST hL hS ht hsl
  obtain ⟨V',L',t,hs',O',m,S,rfl,ht,hS,hC,hP,hR,hTm,hK⟩:=hrel
  obtain ⟨ov,pv,sv,Os,hWb,hpo,hne,hv,hO⟩:=hP.out.st
  have c3:=hWb.wait
  have f3:=hWb.free3
  have hBl:=hWb.lt
  have HWb:=hid hWb
  have HPO:=hid hpo
  have HNE:=hid hne
  have HSV:=hid hv
  have HOO:=hid hO
  obtain ⟨pa,pc,rfl⟩:=row_shape hpo
  clear hWb hpo hne hv hO
  have hsl:S.data.toList.length=S.size:=szl S
  have HSL:=hid hsl
  clear hsl
  by_cases hbig:65535 < t.length+S.size
  ·obtain ⟨r,hr⟩:∃ r,r=65535 - t.length:=⟨_,rfl⟩
   have hrs:r<=S.size:=by omega
   have hri:(65535:Int) - (t.length:Int)=(r:Int):=by omega
   have hrc:(r:Int)<=(S.size:Int):=by omega
   have HRR:=hid hr
   have htr:t.length+r=65535:=by omega
   clear hr
   obtain ⟨S1,hS1⟩:∃ S1,S1=S.extract 0 r:=⟨_,rfl⟩
   have hS1z:S1.size=r:=by rw [hS1,ByteArray.size_extract];omega
   have hS1l:S1.data.toList=S.data.toList.take r:=by rw [hS1];exact extract_take S r
   have HS1:=hid hS1
   have HS1Z:=hid hS1z
   have HS1L:=hid hS1l
   have HC1:Hid (wr.drew.ownsRow (B+1) 5 1 (.slice pa t.length pc) t.length (bys t)):=HPO.out
   have HC3:Hid (t.length+S1.size<=maxLen):=by show _<=_;unfold maxLen;omega
   have HC5:Hid (t.length+S1.size<=140737488355328):=by show _<=_;omega
   have HC4:Hid (B+1<=wr.drew.heap.size):=by show _<=_;simp;omega
   have HC6:Hid (.string (S.extract 0 r)=Value.string S1):=by show _=_;rw [hS1]
   clear hS1 hS1z hS1l
   go_upto_region 2 with fail
   go_cut [28] (fun _ wx => ∃ O2:Nat->Prop,Hid (Pq wx O2 B V' L' (t ++ S.data.toList.take r) lv hs') /\ Hid (To O' O2 wr wx))
   case first =>
    go_region_law
     ((refine step_append_string _ (by rfl) _ _ (by rfl) (B+1) (.slice pa t.length pc) t.length (bys t) (by rfl) HC1.out S1 (by exact HC6.out) HC3.out HC5.out HC4.out ?_;intro v' w5 hown5 hgrow hat;obtain ⟨va,vc,rfl⟩:=row_shape hown5;have hgw:wr.grownBy w5 (Value.slice pa t.length pc).ownBlock:=⟨hgrow.os,hgrow.tape,hgrow.output,hgrow.size,hgrow.block⟩;have hwb:=HWb.out.grownP HPO.out HNE.out hgw;have c3':w5.cell? ⟨B,3,none⟩=some (.slice pa t.length pc):=hwb.wait;have f3':w5.frozen? ⟨B,3,none⟩=false:=hwb.free3;clear hwb))
    all_goals
     obtain ⟨O2,hpk,hto⟩:=Pq.app (n:=t.length+S1.size) (u:=S.data.toList.take r) HWb.out HPO.out HNE.out HSV.out HOO.out (by rw [List.length_take,HSL.out,HS1Z.out];omega) (by rw [<- HS1L.out];exact hown5) hgw hat
     have HPK:=hid hpk
     have HKK:=hid hto
     clear hpk hto c3 c3' f3'
     go_wp2
     go_meet
     exact ⟨O2,HPK,HKK⟩
   case rest =>
   obtain ⟨O2,HP2,HK2⟩:=hcut
   clear c3 f3 HC1 HC3 HC4 HC5
   have hS2i:(r:Int)<=(S.size:Int):=by omega
   obtain ⟨t',ht'⟩:∃ t',t'=t ++ S.data.toList.take r:=⟨_,rfl⟩
   have htl:t'.length=65535:=by rw [ht',List.length_append,List.length_take,HSL.out];omega
   rw [<- ht'] at HP2
   have HG2:=hid (HG.out.to (hK.out.trans HK2.out))
   have hsz:hs'.length<=1000000000000:=by
    have:=congrArg List.length hTm.out.1
    rw [List.length_append,List.length_append] at this
    omega
   have HBK:=hid (pblock_any wc O2 B V' L' t' false lv hs' HP2.out (by omega) (by omega) hsz HG2.out.glo HG2.out.out)
   have HT:=hid ht'
   have HTL:=hid htl
   clear ht' htl hsz
   go_wp2_with (go_at_call 38;refine HBK.out.mono ?_;rintro e w6 ⟨rfl,ps,O3,hbq,hp6,hk6⟩;have HBQ:=hid hbq;have HP6:=hid hp6;have HK6:=hid hk6;clear hbq hp6 hk6)
   have hS2z:(S.extract r S.size).size=S.size - r:=by rw [ByteArray.size_extract];omega
   have hraw:=HBQ.out.raw
   rw [HTL.out] at hraw
   have hl8:lft (L'+3)<=7:=by unfold lft;omega
   refine ⟨⟨_,_,[],hs' ++ t',O3,m+1,S.extract r S.size,rfl,by simp,by omega,by rw [hS2z];simp;omega,HP6,Wfl.more _ _ _ _ _ _ hR.out HBQ.out HTL.out,⟨?_,?_,fun _ => ?_⟩,(hK.out.trans HK2.out).trans HK6.out⟩,?_⟩
   ·rw [<- hTm.out.1,List.append_nil,extract_drop,HT.out]
    simp only [List.append_assoc,List.take_append_drop]
   ·rw [List.length_append,HTL.out,hTm.out.2.1]
    omega
   ·rw [hS2z];simp;omega
   ·rw [HP6.out.waitOf,hP.out.waitOf]
    show (S.extract r S.size).size+0 < S.size+t.length
    omega
  ·have HC3:Hid (t.length+S.size<=maxLen):=by show _<=_;unfold maxLen;omega
   have HC5:Hid (t.length+S.size<=140737488355328):=by show _<=_;omega
   have HC4:Hid (B+1<=wr.heap.size):=by show _<=_;omega
   go_wp2_with (at_builtin;refine wpList_append_string wr rfl (.tmp 40) (.tmp 41) rfl (B+1) (.slice pa t.length pc) t.length (bys t) rfl HPO.out S rfl HC3.out HC5.out HC4.out ?_;intro v' w5 hown5 hgrow hat;obtain ⟨va,vc,rfl⟩:=row_shape hown5;have hwb:=HWb.out.grownP HPO.out HNE.out hgrow;have c3':w5.cell? ⟨B,3,none⟩=some (.slice pa t.length pc):=hwb.wait;have f3':w5.frozen? ⟨B,3,none⟩=false:=hwb.free3;clear hwb)
   obtain ⟨O2,hpk,hto⟩:=Pq.app (n:=t.length+S.size) (u:=S.data.toList) HWb.out HPO.out HNE.out HSV.out HOO.out (by rw [HSL.out]) hown5 hgrow hat
   go_end0
   have hl:(t ++ S.data.toList).length=t.length+S.size:=by rw [List.length_append,HSL.out]
   exact ⟨rfl,V',L',t ++ S.data.toList,hs',O2,m,hpk,hR.out,by rw [<- hTm.out.1,List.append_assoc],by omega,by omega,hTm.out.2.1,fun h => by have:=hTm.out.2.2 h;omega,hK.out.trans hto⟩
end Go.Proofs.YthdmjmnkhlpnnabGreatDoor
