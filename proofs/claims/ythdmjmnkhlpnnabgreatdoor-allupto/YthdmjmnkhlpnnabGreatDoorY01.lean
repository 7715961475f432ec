import Derived.Test.YthdmjmnkhlpnnabGreatDoorZ01
import Derived.Conc.MuLone
import Derived.KernelRfl
import Derived.Test.YthdmjmnkhlpnnabGreatDoorZ34
import Derived.Test.YthdmjmnkhlpnnabGreatDoorZ16
namespace Go.Proofs.YthdmjmnkhlpnnabGreatDoor
abbrev muLink:Go.Conc.Locks.MuLink:={ lock:=16,unlock:=17,ilock:=36,iunlock:=37,lockSlow:=64,unlockSlow:=67,disable:=60,enable:=62,acquire:=63,relMerge:=65,cas32:=61,add32:=66,tMutex:=49,tIMutex:=47,tPMutex:=80,tPIMutex:=120,tPI32:=122,tUP:=124,tNoCopy:=44,tU32:=45 }
theorem muLib:Go.Conc.Locks.MuLib Tryz.prog muLink :=
 ⟨Tryz.func16,Tryz.func17,Tryz.func36,Tryz.func37,Tryz.func60,Tryz.func62,Tryz.func63,Tryz.func65,Tryz.func61,Tryz.func66,Tryz.underlying47,Tryz.runUnderlying47,Tryz.sizeOf47,Tryz.isAgg47,Tryz.zeroValue47,Tryz.underlying49,Tryz.runUnderlying49,Tryz.sizeOf49,Tryz.isAgg49,Tryz.zeroValue49,Tryz.underlying80,Tryz.runUnderlying80,Tryz.sizeOf80,Tryz.isAgg80,Tryz.zeroValue80,Tryz.underlying120,Tryz.runUnderlying120,Tryz.sizeOf120,Tryz.isAgg120,Tryz.zeroValue120,Tryz.underlying122,Tryz.runUnderlying122,Tryz.sizeOf122,Tryz.isAgg122,Tryz.zeroValue122,Tryz.underlying124,Tryz.runUnderlying124,Tryz.sizeOf124,Tryz.isAgg124,Tryz.zeroValue124,Tryz.underlying44,Tryz.runUnderlying44,Tryz.sizeOf44,Tryz.isAgg44,Tryz.zeroValue44,Tryz.underlying21,Tryz.runUnderlying21,Tryz.sizeOf21,Tryz.isAgg21,Tryz.zeroValue21,(by kernel_rfl)⟩
end Go.Proofs.YthdmjmnkhlpnnabGreatDoor
namespace Go.Proofs.YthdmjmnkhlpnnabGreatDoor
open Go.RowKit Go.Maps
def eb (p:Nat):List (Nat × Nat):=[(0,1),(0,2)] ++ asp (p+3) []
theorem eb_pl (p:Nat):pl (eb p)=3+lft (p+3)+32:=by
 unfold eb
 rw [pl_append,asp_pl]
 simp only [pl,List.length_nil]
 omega
theorem eb_bl (p:Nat) (t:List UInt8):Bl p t false [] (eb p):=.raw p t false [] (by simp)
structure Fls (lv V L:Nat) (hs t:List UInt8) (V' L':Nat):Prop where
 st:∃ V1 L1,((t=[] /\ V1=V /\ L1=L) ∨ (0 < t.length /\ ∃ ps,Bq lv L hs false t ps /\ V1=V+2 ^ L*pv ps /\ L1=L+pl ps)) /\ V'=V1+2 ^ L1*pv (eb L1) /\ L'=L1+pl (eb L1)
theorem qflag_any (w:World) (O:Nat->Prop) (B V L:Nat) (t:List UInt8) (lv:Nat) (hs:List UInt8) (b:Bool) (h:Pq w O B V L t lv hs) (hL:L<=34359738368) :
  Calls Tryz.prog 39 #[.pointer (some ⟨B,0,none⟩),.bool b] w fun e w' => e = .returned (.tuple #[]) /\ ∃ O',Pq w' O' B (V+2 ^ L*b.toNat) (L+1) t lv hs /\ To O O' w w':=by
 obtain ⟨ov,pv,sv,Os,hW,hp,hn,hv,hO⟩:=h.st
 refine (wflag_any w B ov V L pv sv b hW hL).mono ?_
 rintro e w' ⟨rfl,ov',hb,hk,hm⟩
 exact ⟨rfl,Pq.wrote hW hp hn hv hO hb hk hm⟩
theorem qasis_any (w:World) (O:Nat->Prop) (B V L:Nat) (t:List UInt8) (lv:Nat) (hs:List UInt8) (h:Pq w O B V L t lv hs) (hL:L<=8589934592) (q:Nat) (hq:w.heap[q]? = some (.cells #[.string .empty] 9 (0,0))) :
  Calls Tryz.prog 75 #[.pointer (some ⟨B,0,none⟩),.pointer (some ⟨q,0,none⟩)] w fun e w' => e = .returned (.tuple #[]) /\ ∃ O',Pq w' O' B (pw V L ((0,2) :: asp (L+2) [])) (L+pl ((0,2) :: asp (L+2) [])) t lv hs /\ To O O' w w':=by
 obtain ⟨ov,pv,sv,Os,hW,hp,hn,hv,hO⟩:=h.st
 refine (asIs1_any w B ov V L pv sv q .empty hW hq (by decide) (by omega)).mono ?_
 rintro e w' ⟨rfl,ov',hb,hk,hm⟩
 have e1:=asis_pw V L []
 have e2:=asis_pl L []
 have hb':Wb w' B ov' (pw V L ((0,2) :: asp (L+2) [])) (L+pl ((0,2) :: asp (L+2) [])) pv sv:=by
  rw [<- e1,<- e2]
  exact hb
 exact ⟨rfl,Pq.wrote hW hp hn hv hO hb' hk hm⟩
theorem Pq.blkp {w:World} {O:Nat->Prop} {B V L:Nat} {t:List UInt8} {lv:Nat} {hs:List UInt8} (h:Pq w O B V L t lv hs):∃ ov g c pv sv,w.heap[B]? = some (.cells #[ov,.int .u64 g,.int .i64 (c:Nat),pv,sv] 78 (0,0)) /\ c=L % 8:=by
 obtain ⟨ov,pv,sv,Os,hW,hp,hn,hv,hO⟩:=h.st
 obtain ⟨o,g,c,hWr,hc,hg,hV,hL⟩:=hW.st
 exact ⟨ov,g,c,pv,sv,hWr.blk,by omega⟩
theorem pforget_any (w:World) (O:Nat->Prop) (B V L:Nat) (t:List UInt8) (lv:Nat) (hs:List UInt8) (h:Pq w O B V L t lv hs) (a:Addr) (ha:w.cell? ⟨B,4,none⟩=some (.pointer (some a))) :
  Calls Tryz.prog 41 #[.pointer (some a)] w fun e w' => e = .returned (.tuple #[]) /\ ∃ O',Pq w' O' B V L t lv [] /\ To O O' w w':=by
 obtain ⟨ov,pv,sv,Os,hW,hp,hn,hv,hO⟩:=h.st
 have hs4:=hW.srch
 rw [ha] at hs4
 injection hs4 with hs4
 subst hs4
 cases hv with
 | some lv hs S X dr T M tv h1 h9 hx hX hle hdr hXs =>
  refine (forget_any w S _ _ _ X _ hx.blk).mono ?_
  rintro e w' ⟨rfl,T',M',hb,ht,hi,hf,hT,hM⟩
  have hz:=hf.env.size
  have hsx:=Sx.nothing hb ht hi hz
  obtain ⟨o,ho,cs,hB⟩:=hW.row
  have hBS:B ≠ S:=fun e => by
   have:=hx.blk
   rw [<- e,hB] at this
   injection this with this;injection this with _ this;exact absurd this (by decide)
  have hrow:∀ {v:Value} {n:Nat} {xs:List Value},w.ownsRow (B+1) 5 1 v n xs -> ∀ k,some k=v.ownBlock->w'.heap[k]? = w.heap[k]?:=fun hr k e => by
   obtain ⟨cs',hc⟩:=row_cells hr e
   refine hf.blk k (Array.getElem?_eq_some_iff.1 hc).1 (fun e' => ?_)
   rw [e',hx.blk] at hc
   injection hc with hc;injection hc with _ hc;exact absurd hc (by decide)
  refine ⟨rfl,PqO B ov pv (SxO S T' M' (.slice none 0 0)),⟨ov,pv,_,_,hW.kept (hf.blk B hW.lt hBS) (hrow ho),owns_kept hp (fun k e => hrow hp k e.symm),hn,.some lv [] S ⟨#[]⟩ 0 T' M' (.slice none 0 0) h1 h9 hsx rfl (Nat.le_refl _) (.inl rfl) (by decide),rfl⟩,hf.mono (fun k e => by rw [hO];exact .inr (.inr (.inr (.inl e)))),fun k hk => ?_⟩
  rcases hk with e | e | e | e | e | e | e
  ·exact .inl (by rw [hO];exact .inl e)
  ·exact .inl (by rw [hO];exact .inr (.inl e))
  ·exact .inl (by rw [hO];exact .inr (.inr (.inl e)))
  ·exact .inl (by rw [hO];exact .inr (.inr (.inr (.inl e))))
  ·exact .inr (by omega)
  ·exact .inr (by omega)
  ·simp [Value.ownBlock] at e
theorem Pq.nosearch {w:World} {O:Nat->Prop} {B V L:Nat} {t:List UInt8} {lv:Nat} {hs:List UInt8} (h:Pq w O B V L t lv hs) (ha:w.cell? ⟨B,4,none⟩=some (.pointer none)) (hs':List UInt8):Pq w O B V L t lv hs':=by
 obtain ⟨ov,pv,sv,Os,hW,hp,hn,hv,hO⟩:=h.st
 have hs4:=hW.srch
 rw [ha] at hs4
 injection hs4 with hs4
 subst hs4
 cases hv with
 | none => exact ⟨ov,pv,_,_,hW,hp,hn,.none hs',hO⟩
theorem body_write (a b:Value) (u:World):(Instr.field 83 (.agg #[a,b]) 1).run Tryz.prog u = .ok b u:=by
 cases a <;> cases b <;> kernel_rfl
set_option maxRecDepth 20000 in
set_option maxHeartbeats 3200000 in
theorem pflush_any (w:World) (O:Nat->Prop) (B V L:Nat) (t:List UInt8) (lv:Nat) (hs:List UInt8) (full:Bool) (h:Pq w O B V L t lv hs) (ht:t.length<=65535) (hL:L<=4294967296) (hsl:hs.length<=100000000000) (hg:Gk w O) :
  Calls Tryz.prog 19 #[.pointer (some ⟨B,0,none⟩),.bool full] w fun e w' => e = .returned (.tuple #[]) /\ ∃ V' L' O',Fls lv V L hs t V' L' /\ Pq w' O' B V' L' [] lv (if full then [] else hs ++ t) /\ To O O' w w':=by
 obtain ⟨ov,pa,pc,sp,c0,c3,c4,f⟩:=h.cells
 have HP:=hid h
 have HG:=hid hg
 clear h hg c0 c4 f
 go_enter Tryz.func19,Tryz.ntmps19
 go_upto_if 9 with fail
 go_cut [9] (fun _ wx => ∃ (V1 L1:Nat) (O1:Nat->Prop),L1<=4294967296+600000 /\ Hid ((t=[] /\ V1=V /\ L1=L) ∨ (0 < t.length /\ ∃ ps,Bq lv L hs false t ps /\ V1=V+2 ^ L*pv ps /\ L1=L+pl ps)) /\ Hid (Pq wx O1 B V1 L1 [] lv (hs ++ t)) /\ Hid (To O O1 w wx))
 case first =>
  by_cases h0:t=[]
  ·subst h0
   go_wp2
   go_meet
   exact ⟨V,L,O,by omega,.inl ⟨trivial,rfl,rfl⟩,by rw [List.append_nil];exact HP,To.refl _ _⟩
  ·have hl:0 < t.length:=by cases t with
    | nil => exact absurd rfl h0
    | cons a b => simp
   have d0:decide ((0:Int) < (t.length:Int))=true:=by simp;omega
   have HBK:=hid (pblock_any w O B V L t false lv hs HP.out ht (by omega) (by omega) HG.out.glo HG.out.out)
   go_wp2_with (go_at_call 38;refine HBK.out.mono ?_;rintro e w6 ⟨rfl,ps,O3,hbq,hp6,hk6⟩)
   go_meet
   refine ⟨_,_,O3,?_,.inr ⟨hl,ps,hbq,rfl,rfl⟩,hp6,hk6⟩
   have:=hbq.raw
   have:lft (L+3)<=7:=by unfold lft;omega
   omega
 case rest =>
  obtain ⟨V1,L1,O1,hL1,HV,HP1,HK1⟩:=hcut
  clear c3 HP
  go_upto_region 3 with (go_at_call 39;refine (qflag_any wc O1 B V1 L1 [] lv _ false HP1.out (by omega)).mono ?_;rintro e w2 ⟨rfl,O2,hp2,hk2⟩;have HP2:=hid hp2;have HK2:=hid hk2;clear hp2 hk2)
  obtain ⟨ov2,g2,c2,pv2,sv2,hb2,hc2⟩:=HP2.out.blkp
  have cc:w2.cell? ⟨B,2,none⟩=some (.int .i64 (c2:Nat)):=by rw [cell_of_row _ _ 2 _ _ _ hb2];rfl
  have hc8:c2 < 8:=by omega
  have hfd:=body_write
  have HPD:Hid (Pq w2.drew O2 B (V1+2 ^ L1*false.toNat) (L1+1) [] lv (hs ++ t)):=HP2.out.below (Below.refl _ w2).drew
  clear hb2 hc2
  go_region_with (first | (go_at_call 75;refine (qasis_any w3 O2 B _ _ _ _ _ HP3.out (by omega) q HQ.out).mono ?_;rintro e w4 ⟨rfl,O4,hp4,hk4⟩;have HP4:=hid hp4;have HK4:=hid hk4;clear hp4 hk4) | (go_at_call 40;refine (asIs_any w2.drew .empty c2 hc8 (by decide)).mono ?_;rintro e w3 ⟨q,rfl,hq,hqb,hb3⟩;have HQ:=hid hqb;have HP3:=hid (HPD.out.below hb3);have HB3:=hid hb3;clear hqb hb3))
  all_goals
   clear cc hfd
   obtain ⟨ov4,pa4,pc4,sp4,c0,c3,c4,f4⟩:=HP4.out.cells
   clear c0 c3 f4
   have HP5:Hid (Pq w4 O4 B (V1+2 ^ L1*pv (eb L1)) (L1+pl (eb L1)) [] lv (hs ++ t)):=by
    have h4:=HP4.out
    rw [pw_two,pl_two L1 (false.toNat)] at h4
    exact h4
   have HKA:=hid (((HK1.out.trans HK2.out).below ((Below.refl _ w2).drew.trans HB3.out)).trans HK4.out)
   cases full with
   | false =>
    go_wp2
    go_end0
    exact ⟨rfl,_,_,⟨V1,L1,HV.out,rfl,rfl⟩,O4,HP5.out,HKA.out⟩
   | true =>
    cases sp4 with
    | none =>
     go_wp2
     go_end0
     exact ⟨rfl,_,_,⟨V1,L1,HV.out,rfl,rfl⟩,O4,HP5.out.nosearch c4 [],HKA.out⟩
    | some a =>
     have HFG:=hid (pforget_any w4 O4 B _ _ _ _ _ HP5.out a c4)
     go_wp2_with (go_at_call 41;refine HFG.out.mono ?_;rintro e w5 ⟨rfl,O5,hp5,hk5⟩)
     go_end0
     exact ⟨rfl,_,_,⟨V1,L1,HV.out,rfl,rfl⟩,O5,hp5,HKA.out.trans hk5⟩
end Go.Proofs.YthdmjmnkhlpnnabGreatDoor
namespace Go.Proofs.YthdmjmnkhlpnnabGreatDoor
open Go.RowKit Go.Maps Go.MuLone
theorem Pq.apart {w:World} {O:Nat->Prop} {B V L:Nat} {t:List UInt8} {lv:Nat} {hs:List UInt8} (h:Pq w O B V L t lv hs) {k:Nat} {cs:Array Value} {T:TypeId} {fr:Nat × Nat} (hk:w.heap[k]? = some (.cells cs T fr)) (h1:T ≠ 119) (h2:T ≠ 181) (h3:T ≠ 239) (h4:T ≠ 78) (h5:T ≠ 5):¬ O k:=by
 obtain ⟨ov,pv,sv,Os,hW,hp,hn,hv,rfl⟩:=h.st
 obtain ⟨o,ho,cs',hB⟩:=hW.row
 rintro (e | e | e | e)
 ·rw [e,hB] at hk
  injection hk with hk;injection hk with _ hk;exact h4 hk.symm
 ·obtain ⟨c2,hc⟩:=row_cells ho e
  rw [hc] at hk
  injection hk with hk;injection hk with _ hk;exact h5 hk.symm
 ·obtain ⟨c2,hc⟩:=row_cells hp e
  rw [hc] at hk
  injection hk with hk;injection hk with _ hk;exact h5 hk.symm
 ·exact hv.apart hk h1 h2 h3 e
def zcells (s:Int) (B:Nat) (c:Bool):Array Value:=#[.int .i32 s,.int .u32 0,.pointer (some ⟨B,0,none⟩),.bool c]
def SmO (Z:Nat) (O:Nat->Prop) (k:Nat):Prop:=k=Z ∨ O k
structure Sm (w:World) (O:Nat->Prop) (Z V L:Nat) (t:List UInt8) (lv:Nat) (hs:List UInt8) (c:Bool):Prop where
 st:∃ (B:Nat) (Op:Nat->Prop),O=SmO Z Op /\ w.heap[Z]? = some (.cells (zcells 0 B c) 51 (0,0)) /\ Pq w Op B V L t lv hs
theorem Sm.olt {w:World} {O:Nat->Prop} {Z V L:Nat} {t:List UInt8} {lv:Nat} {hs:List UInt8} {c:Bool} (h:Sm w O Z V L t lv hs c) {k:Nat} (hk:O k):k < w.heap.size:=by
 obtain ⟨B,Op,rfl,hz,hp⟩:=h.st
 rcases hk with e | e
 ·rw [e];exact (Array.getElem?_eq_some_iff.1 hz).1
 ·exact hp.olt e
theorem Sm.kept {w w':World} {O:Nat->Prop} {Z V L:Nat} {t:List UInt8} {lv:Nat} {hs:List UInt8} {c:Bool} (h:Sm w O Z V L t lv hs c) (hk:∀ k,O k->w'.heap[k]? = w.heap[k]?) (hz:w.heap.size<=w'.heap.size):Sm w' O Z V L t lv hs c:=by
 obtain ⟨B,Op,rfl,hb,hp⟩:=h.st
 exact ⟨B,Op,rfl,(hk Z (.inl rfl)).trans hb,hp.kept (fun k e => hk k (.inr e)) hz⟩
theorem Sm.below {w w':World} {O:Nat->Prop} {Z V L:Nat} {t:List UInt8} {lv:Nat} {hs:List UInt8} {c:Bool} (h:Sm w O Z V L t lv hs c) (hb:Below w.heap.size w w'):Sm w' O Z V L t lv hs c:=h.kept (fun _ hk => hb.block _ (h.olt hk)) hb.size
structure Lkd (w:World) (Z B:Nat) (Op:Nat->Prop) (c:Bool) (V L:Nat) (t:List UInt8) (lv:Nat) (hs:List UInt8) (w1:World):Prop where
 blk:w1.heap[Z]? = some (.cells (zcells 1 B c) 51 (0,0))
 pk:Pq w1 Op B V L t lv hs
 kt:To (SmO Z Op) (SmO Z Op) w w1
theorem zblk_cells {w:World} {Z B:Nat} {s:Int} {c:Bool} (h:w.heap[Z]? = some (.cells (zcells s B c) 51 (0,0))):w.cell? ⟨Z,0,none⟩=some (.int .i32 s) /\ w.cell? ⟨Z,2,none⟩=some (.pointer (some ⟨B,0,none⟩)) /\ w.cell? ⟨Z,3,none⟩=some (.bool c) /\ ∀ j,w.frozen? ⟨Z,j,none⟩=false :=
 ⟨by rw [cell_of_row _ _ 0 _ _ _ h];rfl,by rw [cell_of_row _ _ 2 _ _ _ h];rfl,by rw [cell_of_row _ _ 3 _ _ _ h];rfl,fun j => by simp [World.frozen?,h]⟩
theorem zapart {w:World} {Op:Nat->Prop} {B V L:Nat} {t:List UInt8} {lv:Nat} {hs:List UInt8} (h:Pq w Op B V L t lv hs) {Z:Nat} {cs:Array Value} (hz:w.heap[Z]? = some (.cells cs 51 (0,0))):¬ Op Z:=h.apart hz (by decide) (by decide) (by decide) (by decide) (by decide)
theorem Pq.setz {w:World} {Op:Nat->Prop} {B V L:Nat} {t:List UInt8} {lv:Nat} {hs:List UInt8} (h:Pq w Op B V L t lv hs) {Z:Nat} {cs:Array Value} (hz:w.heap[Z]? = some (.cells cs 51 (0,0))) (j:Nat) (v:Value):Pq (w.setCell ⟨Z,j,none⟩ v) Op B V L t lv hs :=
 h.kept (fun k hk => Below.heap_setCell _ _ _ _ (fun e => zapart h hz ((show k=Z from e) ▸ hk))) (by simp)
theorem lkd_of {w:World} {Z B:Nat} {Op:Nat->Prop} {c:Bool} {V L:Nat} {t:List UInt8} {lv:Nat} {hs:List UInt8} (hz:w.heap[Z]? = some (.cells (zcells 0 B c) 51 (0,0))) (hp:Pq w Op B V L t lv hs):Lkd w Z B Op c V L t lv hs (w.setCell ⟨Z,0,none⟩ (.int .i32 1)) :=
 ⟨by rw [blk_set hz];rfl,hp.setz hz 0 _,⟨(Fr.refl _ w).set ⟨Z,0,none⟩ (.inl rfl) _,fun k hk => .inl hk⟩⟩
theorem To.sm {Op Op':Nat->Prop} {w w':World} (Z:Nat) (h:To Op Op' w w'):To (SmO Z Op) (SmO Z Op') w w' :=
 ⟨h.fr.mono (fun k e => .inr e),fun k hk => by
  rcases hk with e | e
  ·exact .inl (.inl e)
  ·rcases h.new k e with e | e
   ·exact .inl (.inr e)
   ·exact .inr e⟩
theorem Gk.sm {w w1:World} {Z:Nat} {Op:Nat->Prop} (h:Gk w (SmO Z Op)) (k:To (SmO Z Op) (SmO Z Op) w w1):Gk w1 Op :=
 ⟨(h.to k).glo,fun e => h.out (.inr e)⟩
theorem To.zblk {Op Op':Nat->Prop} {w w':World} (h:To Op Op' w w') {B V L:Nat} {t:List UInt8} {lv:Nat} {hs:List UInt8} (hp:Pq w Op B V L t lv hs) {Z:Nat} {cs:Array Value} (hz:w.heap[Z]? = some (.cells cs 51 (0,0))):w'.heap[Z]? = some (.cells cs 51 (0,0)) :=
 (h.fr.blk Z (Array.getElem?_eq_some_iff.1 hz).1 (zapart hp hz)).trans hz
theorem sm_of {w w2:World} {Z B:Nat} {Op Op':Nat->Prop} {c:Bool} {V L:Nat} {t:List UInt8} {lv:Nat} {hs:List UInt8} (hz:w2.heap[Z]? = some (.cells (zcells 1 B c) 51 (0,0))) (hp:Pq w2 Op' B V L t lv hs) (hk:To (SmO Z Op) (SmO Z Op') w w2):Sm (w2.setCell ⟨Z,0,none⟩ (.int .i32 0)) (SmO Z Op') Z V L t lv hs c /\ To (SmO Z Op) (SmO Z Op') w (w2.setCell ⟨Z,0,none⟩ (.int .i32 0)) :=
 ⟨⟨B,Op',rfl,by rw [blk_set hz];rfl,hp.setz hz 0 _⟩,⟨hk.fr.set ⟨Z,0,none⟩ (.inl rfl) _,hk.new⟩⟩
set_option maxRecDepth 20000 in
set_option maxHeartbeats 1600000 in
theorem smwrite_any (w:World) (O:Nat->Prop) (Z V L:Nat) (t:List UInt8) (lv:Nat) (hs:List UInt8) (S:ByteArray) (h:Sm w O Z V L t lv hs false) (ht:t.length<=65535) (hS:S.size<=16777216) (hL:L<=4294967296) (hsl:hs.length<=100000000000) (hg:Gk w O) :
  Calls Tryz.prog 8 #[.pointer (some ⟨Z,0,none⟩),.string S] w fun e w' => e = .returned (.int .i64 0) /\ ∃ V' L' t' hs' O' m,Sm w' O' Z V' L' t' lv hs' false /\ Wfl lv V L hs m V' L' hs' /\ hs' ++ t'=hs ++ t ++ S.data.toList /\ t'.length<=65535 /\ To O O' w w':=by
 obtain ⟨B,Op,rfl,hz,hp⟩:=h.st
 obtain ⟨c0,-,-,f0⟩:=zblk_cells hz
 have hlk:=lkd_of hz hp
 obtain ⟨k0,k2,k3,kf⟩:=zblk_cells hlk.blk
 have HLK:=hid hlk
 have HA:=hid (paddf_any _ Op B V L t lv hs S hlk.pk ht hS hL hsl (hg.sm hlk.kt))
 have fz:=f0 0
 clear h hz hp hlk hg f0 kf k0
 go_enter_defers Tryz.func8,Tryz.ntmps8
 go_wp2_with (first
   | (go_at_call 16;refine (lock_free muLib ⟨Z,0,none⟩ _ c0 fz).mono ?_;rintro e w' ⟨rfl,rfl⟩)
   | (go_at_call 18;refine HA.out.mono ?_;rintro e w2 ⟨rfl,V',L',t',hs',Op',m,hp2,hw2,ht2,hl2,-,-,-,hk2⟩;have HZ2:=hid (hk2.zblk HLK.out.pk HLK.out.blk);have HP2:=hid hp2;have HR2:=hid (And.intro hw2 (And.intro ht2 hl2));have HK2:=hid (HLK.out.kt.trans (hk2.sm Z));clear hp2 hw2 ht2 hl2 hk2))
 refine leaves_cons (f:=17) (args:=#[.pointer (some ⟨Z,0,none⟩)]) (by simp) (by simp [go_sem]) ?_
 refine (unlock_deferred muLib ⟨Z,0,none⟩ .returning _ (zblk_cells HZ2.out).1 ((zblk_cells HZ2.out).2.2.2 0)).mono ?_
 rintro e u' w'' ⟨rfl,rfl,rfl⟩
 obtain ⟨h1,h2⟩:=sm_of HZ2.out HP2.out HK2.out
 exact ⟨_,results_tmp rfl _ _ _,rfl,_,_,_,_,_,m,h1,HR2.out.1,HR2.out.2.1,HR2.out.2.2,h2⟩
set_option maxRecDepth 20000 in
set_option maxHeartbeats 1600000 in
theorem smflush_any (w:World) (O:Nat->Prop) (Z V L:Nat) (t:List UInt8) (lv:Nat) (hs:List UInt8) (full:Bool) (h:Sm w O Z V L t lv hs false) (ht:t.length<=65535) (hL:L<=4294967296) (hsl:hs.length<=100000000000) (hg:Gk w O) :
  Calls Tryz.prog 9 #[.pointer (some ⟨Z,0,none⟩),.bool full] w fun e w' => e = .returned (.int .i64 0) /\ ∃ V' L' O',Fls lv V L hs t V' L' /\ Sm w' O' Z V' L' [] lv (if full then [] else hs ++ t) false /\ To O O' w w':=by
 obtain ⟨B,Op,rfl,hz,hp⟩:=h.st
 obtain ⟨c0,-,-,f0⟩:=zblk_cells hz
 have hlk:=lkd_of hz hp
 obtain ⟨k0,k2,k3,kf⟩:=zblk_cells hlk.blk
 have HLK:=hid hlk
 have HA:=hid (pflush_any _ Op B V L t lv hs full hlk.pk ht hL hsl (hg.sm hlk.kt))
 obtain ⟨hx,hhx⟩:∃ x:List UInt8,x=if full then [] else hs ++ t:=⟨_,rfl⟩
 rw [<- hhx] at HA ⊢
 clear hhx
 have fz:=f0 0
 clear h hz hp hlk hg f0 kf k0
 go_enter_defers Tryz.func9,Tryz.ntmps9
 go_wp2_with (first
   | (go_at_call 16;refine (lock_free muLib ⟨Z,0,none⟩ _ c0 fz).mono ?_;rintro e w' ⟨rfl,rfl⟩)
   | (go_at_call 19;refine HA.out.mono ?_;rintro e w2 ⟨rfl,V',L',Op',hf2,hp2,hk2⟩;have HZ2:=hid (hk2.zblk HLK.out.pk HLK.out.blk);have HP2:=hid hp2;have HR2:=hid hf2;have HK2:=hid (HLK.out.kt.trans (hk2.sm Z));clear hp2 hf2 hk2))
 refine leaves_cons (f:=17) (args:=#[.pointer (some ⟨Z,0,none⟩)]) (by simp) (by simp [go_sem]) ?_
 refine (unlock_deferred muLib ⟨Z,0,none⟩ .returning _ (zblk_cells HZ2.out).1 ((zblk_cells HZ2.out).2.2.2 0)).mono ?_
 rintro e u' w'' ⟨rfl,rfl,rfl⟩
 obtain ⟨h1,h2⟩:=sm_of HZ2.out HP2.out HK2.out
 exact ⟨_,results_tmp rfl _ _ _,rfl,_,_,_,HR2.out,h1,h2⟩
set_option maxRecDepth 20000 in
set_option maxHeartbeats 1600000 in
theorem smclose_any (w:World) (O:Nat->Prop) (Z V L:Nat) (t:List UInt8) (lv:Nat) (hs:List UInt8) (h:Sm w O Z V L t lv hs false) (ht:t.length<=65535) (hL:L<=4294967296) (hsl:hs.length<=100000000000) (hg:Gk w O) :
  Calls Tryz.prog 12 #[.pointer (some ⟨Z,0,none⟩)] w fun e w' => e = .returned (.int .i64 0) /\ ∃ ps O',Bq lv L hs true t ps /\ Sm w' O' Z (V+2 ^ L*pv ps) (L+pl ps+lft (L+pl ps)) [] 0 [] true /\ To O O' w w':=by
 obtain ⟨B,Op,rfl,hz,hp⟩:=h.st
 obtain ⟨c0,-,-,f0⟩:=zblk_cells hz
 have hlk:=lkd_of hz hp
 have hc2:((w.setCell ⟨Z,0,none⟩ (.int .i32 1)).setCell ⟨Z,3,none⟩ (.bool true)).heap[Z]? = some (.cells (zcells 1 B true) 51 (0,0)):=by rw [blk_set hlk.blk];rfl
 have hp2:=hlk.pk.setz hlk.blk 3 (.bool true)
 have hk2:To (SmO Z Op) (SmO Z Op) w ((w.setCell ⟨Z,0,none⟩ (.int .i32 1)).setCell ⟨Z,3,none⟩ (.bool true)):=⟨hlk.kt.fr.set ⟨Z,3,none⟩ (.inl rfl) _,hlk.kt.new⟩
 obtain ⟨-,j2,-,-⟩:=zblk_cells hc2
 have HC2:=hid (And.intro hc2 (And.intro hp2 hk2))
 obtain ⟨k0,k2,k3,kf⟩:=zblk_cells hlk.blk
 have HLK:=hid hlk
 have HA:=hid (pend2_any _ Op B V L t lv hs hp2 ht (by omega) (by omega) (hg.sm hk2))
 have fz:=f0 0
 have fz3:=kf 3
 clear h hz hp hlk hg f0 kf k0 hc2 hp2 hk2
 go_enter_defers Tryz.func12,Tryz.ntmps12
 go_wp2_with (first
   | (go_at_call 16;refine (lock_free muLib ⟨Z,0,none⟩ _ c0 fz).mono ?_;rintro e w' ⟨rfl,rfl⟩)
   | (go_at_call 26;refine HA.out.mono ?_;rintro e w2 ⟨rfl,ps,Op',hb2,hp2,hk2⟩;have HZ2:=hid (hk2.zblk HC2.out.2.1 HC2.out.1);have HP2:=hid hp2;have HR2:=hid hb2;have HK2:=hid (HC2.out.2.2.trans (hk2.sm Z));clear hp2 hb2 hk2))
 refine leaves_cons (f:=17) (args:=#[.pointer (some ⟨Z,0,none⟩)]) (by simp) (by simp [go_sem]) ?_
 refine (unlock_deferred muLib ⟨Z,0,none⟩ .returning _ (zblk_cells HZ2.out).1 ((zblk_cells HZ2.out).2.2.2 0)).mono ?_
 rintro e u' w'' ⟨rfl,rfl,rfl⟩
 obtain ⟨h1,h2⟩:=sm_of HZ2.out HP2.out HK2.out
 exact ⟨_,results_tmp rfl _ _ _,rfl,_,_,HR2.out,h1,h2⟩
set_option maxRecDepth 20000 in
set_option maxHeartbeats 1600000 in
theorem smtake_any (w:World) (O:Nat->Prop) (Z V L:Nat) (t:List UInt8) (lv:Nat) (hs:List UInt8) (c:Bool) (h:Sm w O Z V L t lv hs c) :
  Calls Tryz.prog 10 #[.pointer (some ⟨Z,0,none⟩)] w fun e w' => ∃ (o:List UInt8) (g k:Nat),e = .returned (.string ⟨o.toArray⟩) /\ k < 8 /\ g < 2 ^ k /\ V=leN o+256 ^ o.length*g /\ L=8*o.length+k /\ ∃ O',Sm w' O' Z g k t lv hs c /\ To O O' w w':=by
 obtain ⟨B,Op,rfl,hz,hp⟩:=h.st
 obtain ⟨c0,-,-,f0⟩:=zblk_cells hz
 have hlk:=lkd_of hz hp
 obtain ⟨k0,k2,k3,kf⟩:=zblk_cells hlk.blk
 have HLK:=hid hlk
 have HA:=hid (ptake_any _ Op B V L t lv hs hlk.pk)
 have fz:=f0 0
 clear h hz hp hlk f0 kf k0
 go_enter_defers Tryz.func10,Tryz.ntmps10
 go_wp2_with (first
   | (go_at_call 16;refine (lock_free muLib ⟨Z,0,none⟩ _ c0 fz).mono ?_;rintro e w' ⟨rfl,rfl⟩)
   | (go_at_call 20;refine HA.out.mono ?_;rintro e w2 ⟨o,g,k,rfl,h1,h2,h3,h4,Op',hp2,hk2⟩;have HZ2:=hid (hk2.zblk HLK.out.pk HLK.out.blk);have HP2:=hid hp2;have HR2:=hid (And.intro h1 (And.intro h2 (And.intro h3 h4)));have HK2:=hid (HLK.out.kt.trans (hk2.sm Z));clear hp2 h1 h2 h3 h4 hk2))
 refine leaves_cons (f:=17) (args:=#[.pointer (some ⟨Z,0,none⟩)]) (by simp) (by simp [go_sem]) ?_
 refine (unlock_deferred muLib ⟨Z,0,none⟩ .returning _ (zblk_cells HZ2.out).1 ((zblk_cells HZ2.out).2.2.2 0)).mono ?_
 rintro e u' w'' ⟨rfl,rfl,rfl⟩
 obtain ⟨h1,h2⟩:=sm_of HZ2.out HP2.out HK2.out
 exact ⟨_,results_tmp rfl _ _ _,o,g,k,rfl,HR2.out.1,HR2.out.2.1,HR2.out.2.2.1,HR2.out.2.2.2,_,h1,h2⟩
set_option maxRecDepth 20000 in
set_option maxHeartbeats 1600000 in
theorem smwriteC_any (w:World) (O:Nat->Prop) (Z V L:Nat) (t:List UInt8) (lv:Nat) (hs:List UInt8) (S:ByteArray) (h:Sm w O Z V L t lv hs true) :
  Calls Tryz.prog 8 #[.pointer (some ⟨Z,0,none⟩),.string S] w fun e w' => e = .returned (.int .i64 10) /\ Sm w' O Z V L t lv hs true /\ To O O w w':=by
 obtain ⟨B,Op,rfl,hz,hp⟩:=h.st
 obtain ⟨c0,-,-,f0⟩:=zblk_cells hz
 have hlk:=lkd_of hz hp
 obtain ⟨k0,k2,k3,kf⟩:=zblk_cells hlk.blk
 have HLK:=hid hlk
 have HZ2:=hid hlk.blk
 have fz:=f0 0
 clear h hz hp hlk f0 kf k0 k2
 go_enter_defers Tryz.func8,Tryz.ntmps8
 go_wp2_with (go_at_call 16;refine (lock_free muLib ⟨Z,0,none⟩ _ c0 fz).mono ?_;rintro e w' ⟨rfl,rfl⟩)
 refine leaves_cons (f:=17) (args:=#[.pointer (some ⟨Z,0,none⟩)]) (by simp) (by simp [go_sem]) ?_
 refine (unlock_deferred muLib ⟨Z,0,none⟩ .returning _ (zblk_cells HZ2.out).1 ((zblk_cells HZ2.out).2.2.2 0)).mono ?_
 rintro e u' w'' ⟨rfl,rfl,rfl⟩
 obtain ⟨h1,h2⟩:=sm_of HZ2.out HLK.out.pk HLK.out.kt
 exact ⟨_,results_tmp rfl _ _ _,rfl,h1,h2⟩
set_option maxRecDepth 20000 in
set_option maxHeartbeats 1600000 in
theorem smflushC_any (w:World) (O:Nat->Prop) (Z V L:Nat) (t:List UInt8) (lv:Nat) (hs:List UInt8) (full:Bool) (h:Sm w O Z V L t lv hs true) :
  Calls Tryz.prog 9 #[.pointer (some ⟨Z,0,none⟩),.bool full] w fun e w' => e = .returned (.int .i64 10) /\ Sm w' O Z V L t lv hs true /\ To O O w w':=by
 obtain ⟨B,Op,rfl,hz,hp⟩:=h.st
 obtain ⟨c0,-,-,f0⟩:=zblk_cells hz
 have hlk:=lkd_of hz hp
 obtain ⟨k0,k2,k3,kf⟩:=zblk_cells hlk.blk
 have HLK:=hid hlk
 have HZ2:=hid hlk.blk
 have fz:=f0 0
 clear h hz hp hlk f0 kf k0 k2
 go_enter_defers Tryz.func9,Tryz.ntmps9
 go_wp2_with (go_at_call 16;refine (lock_free muLib ⟨Z,0,none⟩ _ c0 fz).mono ?_;rintro e w' ⟨rfl,rfl⟩)
 refine leaves_cons (f:=17) (args:=#[.pointer (some ⟨Z,0,none⟩)]) (by simp) (by simp [go_sem]) ?_
 refine (unlock_deferred muLib ⟨Z,0,none⟩ .returning _ (zblk_cells HZ2.out).1 ((zblk_cells HZ2.out).2.2.2 0)).mono ?_
 rintro e u' w'' ⟨rfl,rfl,rfl⟩
 obtain ⟨h1,h2⟩:=sm_of HZ2.out HLK.out.pk HLK.out.kt
 exact ⟨_,results_tmp rfl _ _ _,rfl,h1,h2⟩
set_option maxRecDepth 20000 in
set_option maxHeartbeats 1600000 in
theorem smcloseC_any (w:World) (O:Nat->Prop) (Z V L:Nat) (t:List UInt8) (lv:Nat) (hs:List UInt8) (h:Sm w O Z V L t lv hs true) :
  Calls Tryz.prog 12 #[.pointer (some ⟨Z,0,none⟩)] w fun e w' => e = .returned (.int .i64 10) /\ Sm w' O Z V L t lv hs true /\ To O O w w':=by
 obtain ⟨B,Op,rfl,hz,hp⟩:=h.st
 obtain ⟨c0,-,-,f0⟩:=zblk_cells hz
 have hlk:=lkd_of hz hp
 obtain ⟨k0,k2,k3,kf⟩:=zblk_cells hlk.blk
 have HLK:=hid hlk
 have HZ2:=hid hlk.blk
 have fz:=f0 0
 clear h hz hp hlk f0 kf k0 k2
 go_enter_defers Tryz.func12,Tryz.ntmps12
 go_wp2_with (go_at_call 16;refine (lock_free muLib ⟨Z,0,none⟩ _ c0 fz).mono ?_;rintro e w' ⟨rfl,rfl⟩)
 refine leaves_cons (f:=17) (args:=#[.pointer (some ⟨Z,0,none⟩)]) (by simp) (by simp [go_sem]) ?_
 refine (unlock_deferred muLib ⟨Z,0,none⟩ .returning _ (zblk_cells HZ2.out).1 ((zblk_cells HZ2.out).2.2.2 0)).mono ?_
 rintro e u' w'' ⟨rfl,rfl,rfl⟩
 obtain ⟨h1,h2⟩:=sm_of HZ2.out HLK.out.pk HLK.out.kt
 exact ⟨_,results_tmp rfl _ _ _,rfl,h1,h2⟩
set_option maxRecDepth 20000 in
set_option maxHeartbeats 1600000 in
theorem smnew_any (w:World) (lv:Nat) (h9:lv<=9) (hg:Glf w) :
  Calls Tryz.prog 6 #[.int .i64 lv] w fun e w' => ∃ Z O,e = .returned (.tuple #[.pointer (some ⟨Z,0,none⟩),.int .i64 0]) /\ Sm w' O Z 0 0 [] lv [] false /\ Below w.heap.size w w' /\ ∀ k,O k->w.heap.size<=k:=by
 have HNW:=hid (pnew_any w lv h9 hg)
 have d0:decide ((0:Int)<=(lv:Int))=true:=by simp
 have d9:decide ((lv:Int)<=9)=true:=by simp;omega
 have HIL:Hid (∀ u:World,Calls Tryz.prog 14 #[.int .i64 lv] u fun e w' => e = .returned (.bool true) /\ u=w'):=fun u => (isLevel_any u lv).mono fun e w' ⟨h1,h2⟩ => ⟨by rw [h1,d0,d9];rfl,h2⟩
 clear hg
 go_enter Tryz.func6,Tryz.ntmps6
 go_wp2_with (first
   | (go_at_call 15;refine HNW.out.mono ?_;rintro e w1 ⟨B,O1,rfl,hp1,hb1,hB1,ho1⟩;have HP1:=hid hp1;have HB1:=hid hb1;have HO1:=hid ho1;clear hp1 hb1 ho1)
   | (go_at_call 14;refine (HIL.out _).mono ?_;rintro e w' ⟨rfl,rfl⟩))
 go_ret2
 have hba:=(Below.refl w1.heap.size w1).alloc (Nat.le_refl _) (.cells #[.int .i32 0,.int .u32 0,.pointer (some ⟨B,0,none⟩),.bool false] 51)
 refine ⟨w1.heap.size,SmO w1.heap.size O1,rfl,⟨B,O1,rfl,heap_alloc_new w1 _,HP1.out.below hba⟩,HB1.out.trans (hba.mono HB1.out.size),fun k hk => ?_⟩
 have:=HB1.out.size
 rcases hk with e | e
 ·omega
 ·exact HO1.out k e
end Go.Proofs.YthdmjmnkhlpnnabGreatDoor
namespace Go.Proofs.YthdmjmnkhlpnnabGreatDoor
theorem okw_mono {za zb:List Int} {ws:List Wd} {n m:Nat} (h:okw za zb ws n) (hm:n<=m):okw za zb ws m:=by
 induction ws generalizing n m with
 | nil => exact h
 | cons x r ih =>
  refine ⟨?_,ih h.2 (by omega)⟩
  have h1:=h.1
  cases x with
  | lit b => exact h1
  | mat c b => obtain ⟨a1,a2,a3,a4,a5,a6,a7⟩:=h1;exact ⟨a1,a2,a3,a4,by omega,a6,a7⟩
theorem okw_okm {za zb:List Int} {ws:List Wd} {n:Nat} (h:okw za zb ws n):okm ws n:=by
 induction ws generalizing n with
 | nil => trivial
 | cons x r ih =>
  refine ⟨?_,ih h.2⟩
  have h1:=h.1
  cases x with
  | lit b => trivial
  | mat c b => obtain ⟨a1,a2,a3,a4,a5,a6,a7⟩:=h1;exact ⟨a1,a2,a3,a4,a5⟩
theorem Bl.behind {p p':Nat} {t P:List UInt8} {b:Bool} {u:List UInt8} {ps:List (Nat × Nat)} (h:Bl p t b u ps) (hp:p % 8=p' % 8):Bl p' (P ++ t) b u ps:=by
 cases h with
 | raw h =>
  have e:lft (p+3)=lft (p'+3):=by unfold lft;omega
  have e2:asp (p+3) u=asp (p'+3) u:=by unfold asp;rw [e]
  rw [e2]
  exact .raw p' (P ++ t) b u h
 | fix ws h hx => exact .fix p' (P ++ t) b u ws (okw_mono h (by rw [List.length_append];omega)) (by rw [exw_pre ws P t (okw_okm h),hx,List.append_assoc])
 | own ws za zb zc k q H ga gb h hx => exact .own p' (P ++ t) b u ws za zb zc k q H ga gb (okw_mono h (by rw [List.length_append];omega)) (by rw [exw_pre ws P t (okw_okm h),hx,List.append_assoc])
structure Tl (a b Vt Lt:Nat) (T:List UInt8):Prop where
 st:∃ n V0 Vf Lf,V0 < 2 ^ (8*a) /\ Vt=V0+2 ^ (8*a)*Vf /\ Lt=8*a+Lf /\ b<=T.length /\ Tells n Vf Lf (T.drop b)
theorem Tl.nil:Tl 0 0 0 0 []:=⟨0,0,0,0,by decide,by omega,rfl,Nat.le_refl _,.nil⟩
theorem Tl.here {a Vt Lt:Nat} {T:List UInt8} (hV:Vt < 2 ^ Lt) (h8:Lt=8*a):Tl a T.length Vt Lt T :=
 ⟨0,Vt,0,0,by rw [<- h8];exact hV,by omega,h8,Nat.le_refl _,by rw [List.drop_length];exact .nil⟩
theorem Tl.lt {a b Vt Lt:Nat} {T:List UInt8} (h:Tl a b Vt Lt T):Vt < 2 ^ Lt:=by
 obtain ⟨n,V0,Vf,Lf,h0,rfl,rfl,hb,ht⟩:=h.st
 exact put_lt h0 ht.lt
theorem Tl.more {a b Vt Lt p:Nat} {T hs u:List UInt8} {ps:List (Nat × Nat)} (h:Tl a b Vt Lt T) (hb:Bl p hs false u ps) (hp:p % 8=Lt % 8) (hs':hs <:+ T.drop b):Tl a b (Vt+2 ^ Lt*pv ps) (Lt+pl ps) (T ++ u):=by
 obtain ⟨n,V0,Vf,Lf,h0,rfl,rfl,hbl,ht⟩:=h.st
 obtain ⟨P,hP⟩:=hs'
 have hb2:Bl Lf (T.drop b) false u ps:=by rw [<- hP];exact hb.behind (by omega)
 refine ⟨n+1,V0,Vf+2 ^ Lf*pv ps,Lf+pl ps,h0,?_,by omega,by rw [List.length_append];omega,?_⟩
 ·rw [Nat.mul_add,<- Nat.mul_assoc,<- Nat.pow_add,Nat.add_assoc]
 ·rw [List.drop_append_of_le_length hbl]
  exact .more n Vf Lf _ u ps ht hb2
structure En (a b Vt Lt:Nat) (W:List UInt8):Prop where
 st:∃ n V0 V1 L1 t1 u ps,V0 < 2 ^ (8*a) /\ Vt=V0+2 ^ (8*a)*(V1+2 ^ L1*pv ps) /\ Lt=8*a+(L1+pl ps+lft (L1+pl ps)) /\ b<=W.length /\ Tells n V1 L1 t1 /\ Bl L1 t1 true u ps /\ W.drop b=t1 ++ u
theorem Tl.last {a b Vt Lt p:Nat} {T hs u:List UInt8} {ps:List (Nat × Nat)} (h:Tl a b Vt Lt T) (hb:Bl p hs true u ps) (hp:p % 8=Lt % 8) (hs':hs <:+ T.drop b):En a b (Vt+2 ^ Lt*pv ps) (Lt+pl ps+lft (Lt+pl ps)) (T ++ u):=by
 obtain ⟨n,V0,Vf,Lf,h0,rfl,rfl,hbl,ht⟩:=h.st
 obtain ⟨P,hP⟩:=hs'
 have hb2:Bl Lf (T.drop b) true u ps:=by rw [<- hP];exact hb.behind (by omega)
 have e:lft (8*a+Lf+pl ps)=lft (Lf+pl ps):=by unfold lft;omega
 refine ⟨n,V0,Vf,Lf,T.drop b,u,ps,h0,?_,by rw [e];omega,by rw [List.length_append];omega,ht,hb2,List.drop_append_of_le_length hbl⟩
 rw [Nat.mul_add,<- Nat.mul_assoc,<- Nat.pow_add,Nat.add_assoc]
theorem leN_drop (o:List UInt8) (a:Nat) (ha:a<=o.length):leN (o.drop a)=leN o / 2 ^ (8*a):=by
 have e:=leN_append (o.take a) (o.drop a)
 rw [List.take_append_drop,List.length_take,Nat.min_eq_left ha,pow256] at e
 have hl:=leN_lt (o.take a)
 rw [List.length_take,Nat.min_eq_left ha,pow256] at hl
 rw [e,Nat.add_mul_div_left _ _ (Nat.two_pow_pos _),Nat.div_eq_of_lt hl,Nat.zero_add]
theorem leN_rest {o:List UInt8} {a V0 Vf:Nat} (ha:a<=o.length) (h0:V0 < 2 ^ (8*a)) (ho:leN o=(V0+2 ^ (8*a)*Vf) % 2 ^ (8*o.length)):leN (o.drop a)=Vf % 2 ^ (8*(o.length - a)):=by
 rw [leN_drop o a ha,ho,show 8*o.length=8*a+8*(o.length - a) by omega,Nat.pow_add,Nat.mod_mul,Nat.add_mul_div_left _ _ (Nat.two_pow_pos _),Nat.add_mul_mod_self_left,Nat.mod_eq_of_lt h0,Nat.div_eq_of_lt h0,Nat.zero_add,Nat.add_mul_div_left _ _ (Nat.two_pow_pos _),Nat.div_eq_of_lt h0,Nat.zero_add]
theorem Tl.open {a b Vt Lt:Nat} {T o:List UInt8} (h:Tl a b Vt Lt T) (hl:8*o.length<=Lt) (ho:leN o=Vt % 2 ^ (8*o.length)) (ha:a<=o.length) (M:Int) (hM:((T.length - b:Nat):Int)<=M):∃ t',ou ⟨(o.drop a).toArray⟩ M=(⟨t'.toArray⟩,0,1) /\ t' <+: T.drop b /\ (8*o.length=Lt->t'=T.drop b):=by
 obtain ⟨n,V0,Vf,Lf,h0,rfl,rfl,hbl,ht⟩:=h.st
 have hr:=leN_rest ha h0 ho
 have hdl:(o.drop a).length=o.length - a:=List.length_drop
 have hTl:(T.drop b).length=T.length - b:=List.length_drop
 have key:∀ t',inF ⟨(o.drop a).toArray⟩ M = .no 1 t'->ou ⟨(o.drop a).toArray⟩ M=(⟨t'.toArray⟩,0,1):=fun t' e => by
  unfold Go.Proofs.YthdmjmnkhlpnnabGreatDoor.ou
  rw [e]
  rfl
 by_cases he:8*o.length=8*a+Lf
 ·refine ⟨T.drop b,key _ ?_,List.prefix_refl _,fun _ => rfl⟩
  have hp:Pre ⟨(o.drop a).toArray⟩ Vf Lf:=by
   refine ⟨by rw [ba_size,hdl];omega,?_⟩
   show leN (o.drop a) % 2 ^ Lf=Vf
   rw [hr,show 8*(o.length - a)=Lf by omega,Nat.mod_mod,Nat.mod_eq_of_lt ht.lt]
  have h3:=ht.many
  unfold inF
  rw [ba_size,hdl]
  obtain ⟨f,hf⟩:∃ f,8*(o.length - a)+1=(f+1)+n:=⟨8*(o.length - a) - n,by omega⟩
  rw [hf,ht.reads hp (by rw [hTl];exact hM),blF,if_neg (by rw [ba_size,hdl];omega)]
 ·obtain ⟨ps,hps⟩:∃ ps,ps=[(1,1),(0,2)] ++ asp (Lf+3) []:=⟨_,rfl⟩
  have hb:Bl Lf (T.drop b) true [] ps:=by rw [hps];exact .raw Lf (T.drop b) true [] (by simp)
  have hpl:pl ps=3+lft (Lf+3)+32:=by
   rw [hps,pl_append,asp_pl]
   simp only [pl,List.length_nil]
   omega
  obtain ⟨K,hK⟩:∃ K,Lf+pl ps=8*K:=⟨(Lf+pl ps) / 8,by rw [hpl];unfold lft;omega⟩
  obtain ⟨Y,hY⟩:∃ Y,Y=Vf+2 ^ Lf*pv ps:=⟨_,rfl⟩
  have hYl:Y < 2 ^ (8*K):=by rw [<- hK,hY];exact put_lt ht.lt (pv_lt hb.fit)
  obtain ⟨s2,hs2⟩:∃ s2:ByteArray,s2=⟨(byF Y K).toArray⟩:=⟨_,rfl⟩
  have hz2:s2.size=K:=by rw [hs2,ba_size,byF_length]
  have hn2:nm s2=Y:=by
   rw [hs2]
   show leN (byF Y K)=Y
   rw [leN_byF,pow256,Nat.mod_eq_of_lt hYl]
  have hin:inF s2 M = .ok (Lf+pl ps) (T.drop b ++ []):=by
   refine ht.ends hb ⟨by rw [hz2];omega,?_⟩ (by rw [hTl];simpa using hM)
   rw [hn2,hK,Nat.mod_eq_of_lt hYl,hY]
  have hbg:Beg ⟨(o.drop a).toArray⟩ s2:=by
   refine ⟨by rw [ba_size,hdl,hz2];omega,fun i hi => ?_⟩
   rw [ba_size,hdl] at hi
   unfold byu
   apply UInt8.toNat_inj.1
   rw [leN_get,leN_get]
   show leN (o.drop a) / _ % _=nm s2 / _ % _
   rw [hr,hn2,hY,pow256,show 8*(o.length - a)=8*i+(8+8*(o.length - a - i - 1)) by omega]
   have e256:(256:Nat)=2 ^ 8:=by decide
   rw [Nat.pow_add,Nat.mod_mul_right_div_self,e256,Nat.pow_add,Nat.mod_mul_right_mod]
   rw [show Lf=8*i+(8+(Lf - 8*i - 8)) by omega,Nat.pow_add 2 (8*i),Nat.mul_assoc,Nat.add_mul_div_left _ _ (Nat.two_pow_pos _),Nat.pow_add,Nat.mul_assoc,Nat.add_mul_mod_self_left]
  obtain ⟨t',h1,h2⟩:=inF_cut hbg hin (by rw [ba_size,hdl,hpl];omega)
  rw [List.append_nil] at h2
  exact ⟨t',key t' h1,h2,fun e => absurd e he⟩
theorem En.read {a b Vt Lt:Nat} {W o:List UInt8} (h:En a b Vt Lt W) (hl:8*o.length=Lt) (ho:leN o=Vt) (M:Int) (hM:((W.length - b:Nat):Int)<=M):ou ⟨(o.drop a).toArray⟩ M=(⟨(W.drop b).toArray⟩,o.length - a,0):=by
 obtain ⟨n,V0,V1,L1,t1,u,ps,h0,hV,hL,hbl,ht,hb,hW⟩:=h.st
 have ha:a<=o.length:=by omega
 have hlt:V1+2 ^ L1*pv ps < 2 ^ (L1+pl ps):=put_lt ht.lt (pv_lt hb.fit)
 have hdl:(o.drop a).length=o.length - a:=List.length_drop
 have hWl:(W.drop b).length=W.length - b:=List.length_drop
 have hr:leN (o.drop a)=V1+2 ^ L1*pv ps:=by
  rw [leN_drop o a ha,ho,hV,Nat.add_mul_div_left _ _ (Nat.two_pow_pos _),Nat.div_eq_of_lt h0,Nat.zero_add]
 have hin:inF ⟨(o.drop a).toArray⟩ M = .ok (L1+pl ps) (t1 ++ u):=by
  refine ht.ends hb ⟨by rw [ba_size,hdl];omega,?_⟩ (by rw [<- List.length_append,<- hW,hWl];exact hM)
  show leN (o.drop a) % _=_
  rw [hr,Nat.mod_eq_of_lt hlt]
 unfold Go.Proofs.YthdmjmnkhlpnnabGreatDoor.ou
 rw [hin,hW]
 simp only
 rw [lft_div (n:=o.length - a) (by omega)]
theorem vt_step {o:List UInt8} {V L x:Nat}:leN o+2 ^ (8*o.length)*(V+2 ^ L*x)=leN o+2 ^ (8*o.length)*V+2 ^ (8*o.length+L)*x:=by
 rw [Nat.mul_add,<- Nat.mul_assoc,<- Nat.pow_add,Nat.add_assoc]
structure Gs (V L:Nat) (hs o T:List UInt8) (a b m f e Vt Lt:Nat):Prop where
 vt:Vt=leN o+2 ^ (8*o.length)*V
 lt:Lt=8*o.length+L
 t0:Tl 0 0 Vt Lt T
 t1:Tl a b Vt Lt T
 sf:hs <:+ T.drop b
 ln:Lt<=8*(T.length+5*m+10*f)
 fm:65535*m<=T.length
 em:32*e<=L
 aa:a<=o.length
theorem Gs.init:Gs 0 0 [] [] [] 0 0 0 0 0 0 0:=⟨rfl,rfl,Tl.nil,Tl.nil,List.suffix_refl _,by decide,by decide,by decide,by decide⟩
theorem suf_drop {hs T:List UInt8} {b:Nat} (h:hs <:+ T.drop b):hs <:+ T.drop 0:=by
 rw [List.drop_zero]
 exact h.trans (List.drop_suffix _ _)
theorem suf_app {hs T u:List UInt8} {b:Nat} (h:hs <:+ T.drop b) (hb:b<=T.length):hs ++ u <:+ (T ++ u).drop b:=by
 obtain ⟨P,hP⟩:=h
 rw [List.drop_append_of_le_length hb]
 exact ⟨P,by rw [<- List.append_assoc,hP]⟩
theorem Tl.le {a b Vt Lt:Nat} {T:List UInt8} (h:Tl a b Vt Lt T):b<=T.length:=by
 obtain ⟨n,V0,Vf,Lf,h0,h1,h2,hbl,ht⟩:=h.st
 exact hbl
theorem Gs.step {V L:Nat} {hs o T:List UInt8} {a b m f e Vt Lt:Nat} (h:Gs V L hs o T a b m f e Vt Lt) {u:List UInt8} {ps:List (Nat × Nat)} (hb:Bl L hs false u ps) {m' f' e':Nat} (hl:Lt+pl ps<=8*(T.length+u.length+5*m'+10*f')) (hm:65535*m'<=T.length+u.length) (he:32*e'<=L+pl ps):Gs (V+2 ^ L*pv ps) (L+pl ps) (hs ++ u) o (T ++ u) a b m' f' e' (Vt+2 ^ Lt*pv ps) (Lt+pl ps) :=
 ⟨by rw [vt_step,<- h.vt,<- h.lt],by rw [h.lt];omega,h.t0.more hb (by rw [h.lt];omega) (suf_drop h.sf),h.t1.more hb (by rw [h.lt];omega) h.sf,suf_app h.sf h.t1.le,by rw [List.length_append];exact hl,by rw [List.length_append];exact hm,he,h.aa⟩
theorem Gs.full {lv V L:Nat} {hs o T:List UInt8} {a b m f e Vt Lt:Nat} (h:Gs V L hs o T a b m f e Vt Lt) {u:List UInt8} {ps:List (Nat × Nat)} (hb:Bq lv L hs false u ps) (hu:u.length=65535):Gs (V+2 ^ L*pv ps) (L+pl ps) (hs ++ u) o (T ++ u) a b (m+1) f e (Vt+2 ^ Lt*pv ps) (Lt+pl ps):=by
 have h1:=hb.raw
 have h2:=h.lt
 have h3:=h.ln
 have h4:=h.fm
 have h5:=h.em
 unfold lft at h1
 exact h.step hb.bl (by omega) (by omega) (by omega)
theorem Gs.wfl {lv V L k V' L':Nat} {hs hs' o T:List UInt8} {a b m f e Vt Lt:Nat} (h:Gs V L hs o T a b m f e Vt Lt) (hw:Wfl lv V L hs k V' L' hs'):∃ x Vt' Lt',hs'=hs ++ x /\ Gs V' L' hs' o (T ++ x) a b (m+k) f e Vt' Lt':=by
 induction hw with
 | nil => exact ⟨[],Vt,Lt,by rw [List.append_nil],by rw [List.append_nil];exact h⟩
 | more k V' L' t' u ps _ hb hu ih =>
  obtain ⟨x,Vt',Lt',rfl,hg⟩:=ih
  have:=hg.full hb hu
  rw [List.append_assoc T x u] at this
  exact ⟨x ++ u,_,_,by rw [List.append_assoc],this⟩
structure Lf4 (Vt Lt:Nat):Prop where
 st:∃ X,32<=Lt /\ X < 2 ^ (Lt - 32) /\ Vt=X+2 ^ (Lt - 32)*4294901760
theorem eb_pv (p:Nat):pv (eb p)=2 ^ (3+lft (p+3))*4294901760:=by
 unfold eb
 rw [pv_append,pv_asp]
 simp only [pv,pl,leN,List.length_nil,Nat.mul_zero,Nat.add_zero,Nat.zero_add,Nat.sub_zero]
 rw [Nat.pow_add 2 3,Nat.mul_assoc]
theorem Gs.empty {V L:Nat} {hs o T:List UInt8} {a b m f e Vt Lt:Nat} (h:Gs V L hs o T a b m f e Vt Lt) {f':Nat} (hl:Lt+40<=8*(T.length+5*m+10*f') ∨ (f'=f+1)):Gs (V+2 ^ L*pv (eb L)) (L+pl (eb L)) hs o T a b m f' (e+1) (Vt+2 ^ Lt*pv (eb L)) (Lt+pl (eb L)) /\ (L+pl (eb L)) % 8=0 /\ Lf4 (Vt+2 ^ Lt*pv (eb L)) (Lt+pl (eb L)):=by
 have hp:=eb_pl L
 have h2:=h.lt
 have h3:=h.ln
 have h4:=h.fm
 have h5:=h.em
 have hV:=h.t0.lt
 have e1:lft (L+3)=lft (Lt+3):=by unfold lft;omega
 have e2:lft (L+3)<=7:=by unfold lft;omega
 have hq:pl (eb L)<=45 /\ 35<=pl (eb L):=by omega
 have h8:(L+pl (eb L)) % 8=0:=by rw [hp];unfold lft;omega
 refine ⟨?_,h8,Vt,by omega,?_,?_⟩
 ·have:=h.step (eb_bl L hs) (m':=m) (f':=f') (e':=e+1) ?_ (by simpa using h4) (by omega)
  ·rw [List.append_nil,List.append_nil] at this
   exact this
  ·rw [List.length_nil,Nat.add_zero,hp]
   unfold lft
   rcases hl with hl | hl <;> omega
 ·exact Nat.lt_of_lt_of_le hV (Nat.pow_le_pow_right (by omega) (by omega))
 ·rw [eb_pv,<- Nat.mul_assoc,<- Nat.pow_add,hp,show Lt+(3+lft (L+3)+32) - 32=Lt+(3+lft (L+3)) by omega]
theorem Gs.fls {lv V L V' L':Nat} {hs o T t:List UInt8} {a b m f e Vt Lt:Nat} (h:Gs V L hs o T a b m f e Vt Lt) (hf:Fls lv V L hs t V' L'):∃ Vt' Lt',Gs V' L' (hs ++ t) o (T ++ t) a b m (f+1) (e+1) Vt' Lt' /\ L' % 8=0 /\ Lf4 Vt' Lt':=by
 obtain ⟨V1,L1,hc,rfl,rfl⟩:=hf.st
 rcases hc with ⟨rfl,rfl,rfl⟩ | ⟨ht,ps,hb,rfl,rfl⟩
 ·rw [List.append_nil,List.append_nil]
  exact ⟨_,_,h.empty (.inr rfl)⟩
 ·have h1:=hb.raw
  have h2:=h.lt
  have h3:=h.ln
  have h4:=h.fm
  have h5:=h.em
  unfold lft at h1
  have hs1:=h.step hb.bl (m':=m) (f':=f+1) (e':=e) (by omega) (by omega) (by omega)
  refine ⟨_,_,hs1.empty (.inl ?_)⟩
  rw [List.length_append]
  omega
theorem Gs.forget {V L:Nat} {hs o T:List UInt8} {a b m f e Vt Lt:Nat} (h:Gs V L hs o T a b m f e Vt Lt):Gs V L [] o T a b m f e Vt Lt:=⟨h.vt,h.lt,h.t0,h.t1,List.nil_suffix,h.ln,h.fm,h.em,h.aa⟩
theorem vt_take {o x:List UInt8} {g:Nat}:leN o+2 ^ (8*o.length)*(leN x+256 ^ x.length*g)=leN (o ++ x)+2 ^ (8*(o ++ x).length)*g:=by
 rw [leN_append,pow256,pow256,List.length_append,Nat.mul_add 8,Nat.pow_add,Nat.mul_add,Nat.add_assoc,Nat.mul_assoc]
theorem Gs.take {V L:Nat} {hs o T x:List UInt8} {a b m f e Vt Lt g c:Nat} (h:Gs V L hs o T a b m f e Vt Lt) (hV:V=leN x+256 ^ x.length*g) (hL:L=8*x.length+c):Gs g c hs (o ++ x) T a b m f 0 Vt Lt:=by
 have h2:=h.lt
 have h3:=h.aa
 exact ⟨by rw [h.vt,hV,vt_take],by rw [List.length_append];omega,h.t0,h.t1,h.sf,h.ln,h.fm,by omega,by rw [List.length_append];omega⟩
theorem vt_mod {o:List UInt8} {g:Nat}:(leN o+2 ^ (8*o.length)*g) % 2 ^ (8*o.length)=leN o:=by
 rw [Nat.add_mul_mod_self_left,Nat.mod_eq_of_lt]
 have:=leN_lt o
 rw [pow256] at this
 exact this
theorem Gs.all {V L:Nat} {hs o T:List UInt8} {a b m f e Vt Lt:Nat} (h:Gs V L hs o T a b m f e Vt Lt) (M:Int) (hM:(T.length:Int)<=M):∃ t',ou ⟨o.toArray⟩ M=(⟨t'.toArray⟩,0,1) /\ t' <+: T /\ (L=0->t'=T):=by
 have h2:=h.lt
 obtain ⟨t',h3,h4,h5⟩:=h.t0.open (o:=o) (by omega) (by rw [h.vt];exact vt_mod.symm) (by omega) M (by simpa using hM)
 rw [List.drop_zero] at h3 h4 h5
 exact ⟨t',h3,h4,fun e => h5 (by omega)⟩
theorem Gs.some {V L:Nat} {hs o T:List UInt8} {a b m f e Vt Lt:Nat} (h:Gs V L hs o T a b m f e Vt Lt) (M:Int) (hM:(T.length:Int)<=M):∃ t',ou ⟨(o.drop a).toArray⟩ M=(⟨t'.toArray⟩,0,1) /\ t' <+: T.drop b /\ (L=0->t'=T.drop b):=by
 have h2:=h.lt
 obtain ⟨t',h3,h4,h5⟩:=h.t1.open (o:=o) (by omega) (by rw [h.vt];exact vt_mod.symm) h.aa M (by omega)
 exact ⟨t',h3,h4,fun e => h5 (by omega)⟩
theorem Gs.base {V L:Nat} {o T:List UInt8} {a b m f e Vt Lt:Nat} (h:Gs V L [] o T a b m f e Vt Lt) (hL:L=0):Gs V L [] o T o.length T.length m f e Vt Lt :=
 ⟨h.vt,h.lt,h.t0,Tl.here h.t0.lt (by have:=h.lt;omega),List.nil_suffix,h.ln,h.fm,h.em,Nat.le_refl _⟩
theorem leN_inj2:∀ (a b:List UInt8),a.length=b.length->leN a=leN b->a=b
 | [],[],_,_ => rfl
 | [],_ :: _,h,_ => by simp at h
 | _ :: _,[],h,_ => by simp at h
 | x :: a,y :: b,h,e => by
  simp only [leN] at e
  have hx:=UInt8.toNat_lt x
  have hy:=UInt8.toNat_lt y
  have h1:x.toNat=y.toNat:=by omega
  rw [UInt8.toNat_inj.1 h1,leN_inj2 a b (by simpa using h) (by omega)]
theorem Gs.four {V L:Nat} {hs o T:List UInt8} {a b m f e Vt Lt:Nat} (h:Gs V L hs o T a b m f e Vt Lt) (hL:L=0) (hV:V=0) (h4:Lf4 Vt Lt):4<=o.length /\ o.drop (o.length - 4)=[0,0,255,255]:=by
 obtain ⟨X,h5,h6,h7⟩:=h4.st
 have h2:=h.lt
 have h3:=h.vt
 rw [hV,Nat.mul_zero,Nat.add_zero] at h3
 refine ⟨by omega,leN_inj2 _ _ (by rw [List.length_drop];simp;omega) ?_⟩
 rw [leN_drop _ _ (by omega),<- h3,h7,show Lt - 32=8*(o.length - 4) by omega,Nat.add_mul_div_left _ _ (Nat.two_pow_pos _),Nat.div_eq_of_lt (by rw [show 8*(o.length - 4)=Lt - 32 by omega];exact h6)]
 decide
theorem Gs.len {V L:Nat} {hs o T:List UInt8} {a b m f e Vt Lt:Nat} (h:Gs V L hs o T a b m f e Vt Lt):o.length<=T.length+5*(T.length / 65535)+10*f:=by
 have h2:=h.lt
 have h3:=h.ln
 have h4:=h.fm
 omega
structure Gc (V L:Nat) (o W:List UInt8) (a b m f e Vt Lt:Nat):Prop where
 vt:Vt=leN o+2 ^ (8*o.length)*V
 lt:Lt=8*o.length+L
 e0:En 0 0 Vt Lt W
 e1:En a b Vt Lt W
 ln:Lt<=8*(W.length+5*m+10*f)
 fm:65535*m<=W.length
 em:32*e<=L
 aa:a<=o.length
 l8:Lt % 8=0
theorem Gs.close {lv V L:Nat} {hs o T t:List UInt8} {a b m f e Vt Lt:Nat} (h:Gs V L hs o T a b m f e Vt Lt) {ps:List (Nat × Nat)} (hb:Bq lv L hs true t ps):Gc (V+2 ^ L*pv ps) (L+pl ps+lft (L+pl ps)) o (T ++ t) a b m (f+1) e (Vt+2 ^ Lt*pv ps) (Lt+pl ps+lft (Lt+pl ps)):=by
 have h1:=hb.raw
 have h2:=h.lt
 have h3:=h.ln
 have h4:=h.fm
 have h5:=h.em
 have e1:lft (L+pl ps)=lft (Lt+pl ps):=by unfold lft;omega
 have e2:lft (L+pl ps)<=7:=by unfold lft;omega
 have e3:lft (L+3)<=7:=by unfold lft;omega
 refine ⟨by rw [vt_step,<- h.vt,<- h.lt],by rw [e1];omega,h.t0.last hb.bl (by omega) (suf_drop h.sf),h.t1.last hb.bl (by omega) h.sf,?_,by rw [List.length_append];omega,by omega,h.aa,by unfold lft;omega⟩
 rw [List.length_append]
 omega
theorem Gc.take {V L:Nat} {o W x:List UInt8} {a b m f e Vt Lt g c:Nat} (h:Gc V L o W a b m f e Vt Lt) (hV:V=leN x+256 ^ x.length*g) (hL:L=8*x.length+c):Gc g c (o ++ x) W a b m f 0 Vt Lt:=by
 have h2:=h.lt
 have h3:=h.aa
 exact ⟨by rw [h.vt,hV,vt_take],by rw [List.length_append];omega,h.e0,h.e1,h.ln,h.fm,by omega,by rw [List.length_append];omega,h.l8⟩
theorem Gc.all {V L:Nat} {o W:List UInt8} {a b m f e Vt Lt:Nat} (h:Gc V L o W a b m f e Vt Lt) (hL:L=0) (hV:V=0) (M:Int) (hM:(W.length:Int)<=M):ou ⟨o.toArray⟩ M=(⟨W.toArray⟩,o.length,0):=by
 have h2:=h.lt
 have h3:=h.vt
 rw [hV,Nat.mul_zero,Nat.add_zero] at h3
 have:=h.e0.read (o:=o) (by omega) h3.symm M (by simpa using hM)
 rw [List.drop_zero,List.drop_zero,Nat.sub_zero] at this
 exact this
theorem Gc.some {V L:Nat} {o W:List UInt8} {a b m f e Vt Lt:Nat} (h:Gc V L o W a b m f e Vt Lt) (hL:L=0) (hV:V=0) (M:Int) (hM:(W.length:Int)<=M):ou ⟨(o.drop a).toArray⟩ M=(⟨(W.drop b).toArray⟩,o.length - a,0):=by
 have h2:=h.lt
 have h3:=h.vt
 rw [hV,Nat.mul_zero,Nat.add_zero] at h3
 exact h.e1.read (o:=o) (by omega) h3.symm M (by omega)
theorem Gc.len {V L:Nat} {o W:List UInt8} {a b m f e Vt Lt:Nat} (h:Gc V L o W a b m f e Vt Lt):o.length<=W.length+5*(W.length / 65535)+10*f:=by
 have h2:=h.lt
 have h3:=h.ln
 have h4:=h.fm
 omega
end Go.Proofs.YthdmjmnkhlpnnabGreatDoor
