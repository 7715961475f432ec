import Derived.Test.YthdmjmnkhlpnnabGreatDoorZ01
import Derived.Laws.BitsAllLaws
import Derived.Deep.DeepCutAuto
import Derived.Deep.AppendLies
import Derived.Deep.RegionLaw
import Derived.Deep.DrawnRows
import Derived.WalkKit
import Derived.WalkSpells
import Derived.WalkLawsBesides
import Derived.Deep.QuietTactic
import Derived.BigQuiet
namespace Go.Proofs.YthdmjmnkhlpnnabGreatDoor
open Go.RowKit
structure Wr (w:World) (B:Nat) (ov:Value) (o:List UInt8) (g c:Nat) (pv sv:Value):Prop where
 blk:w.heap[B]? = some (.cells #[ov,.int .u64 g,.int .i64 c,pv,sv] 78 (0,0))
 own:w.ownsRow (B+1) 5 1 ov o.length (bys o)
structure Kw (B:Nat) (ov:Value) (w w':World):Prop where
 env:Below 0 w w'
 blk:∀ k,k < w.heap.size->k ≠ B->some k ≠ ov.ownBlock->w'.heap[k]? = w.heap[k]?
def Moved (ov ov':Value) (w:World):Prop:=ov'.ownBlock=ov.ownBlock ∨ ∃ q,w.heap.size<=q /\ ov'.ownBlock=some q
theorem Moved.refl (ov:Value) (w:World):Moved ov ov w:=.inl rfl
theorem Kw.refl (B:Nat) (ov:Value) (w:World):Kw B ov w w:=⟨Below.refl _ _,fun _ _ _ _ => rfl⟩
theorem Kw.trans {B:Nat} {ov ov':Value} {a b c:World} (h:Kw B ov a b) (hm:Moved ov ov' a) (k:Kw B ov' b c):Kw B ov a c :=
 ⟨h.env.trans k.env,fun i hi hB ho => (k.blk i (Nat.lt_of_lt_of_le hi h.env.size) hB (fun e => by
   rcases hm with hm | ⟨q,hq,hm⟩
   · exact ho (e.trans hm)
   ·rw [hm] at e;injection e with e;omega)).trans (h.blk i hi hB ho)⟩
theorem Moved.trans {ov ov' ov'':Value} {a b:World} (h:Moved ov ov' a) (hs:a.heap.size<=b.heap.size) (k:Moved ov' ov'' b):Moved ov ov'' a:=by
 rcases k with k | ⟨q,hq,k⟩
 ·rcases h with h | ⟨q,hq,h⟩
  ·exact .inl (k.trans h)
  ·exact .inr ⟨q,hq,k.trans h⟩
 ·exact .inr ⟨q,by omega,k⟩
variable {w:World} {B:Nat} {ov:Value} {o:List UInt8} {g c:Nat} {pv sv:Value}
theorem Wr.lt (h:Wr w B ov o g c pv sv):B < w.heap.size:=(Array.getElem?_eq_some_iff.1 h.blk).1
theorem Wr.cell (h:Wr w B ov o g c pv sv):w.cell? ⟨B,0,none⟩=some ov /\ w.cell? ⟨B,1,none⟩=some (.int .u64 g) /\ w.cell? ⟨B,2,none⟩=some (.int .i64 c) /\ w.cell? ⟨B,3,none⟩=some pv /\ w.cell? ⟨B,4,none⟩=some sv:=by
 have e:=fun j => cell_of_row w B j _ 78 (0,0) h.blk
 exact ⟨by rw [e];rfl,by rw [e];rfl,by rw [e];rfl,by rw [e];rfl,by rw [e];rfl⟩
theorem Wr.free (h:Wr w B ov o g c pv sv) (j:Nat):w.frozen? ⟨B,j,none⟩=false:=by
 have h':=h.blk
 simp [World.frozen?,h']
theorem Wr.shape (h:Wr w B ov o g c pv sv):∃ ao cp,ov = .slice ao o.length cp:=by
 obtain ⟨_,⟨rfl,h0⟩ | ⟨q,cap,cur,rfl,_⟩⟩:=h.own
 ·exact ⟨none,0,by rw [h0]⟩
 ·exact ⟨_,_,rfl⟩
theorem Wr.setg (h:Wr w B ov o g c pv sv) (x:Nat):Wr (w.setCell ⟨B,1,none⟩ (.int .u64 x)) B ov o x c pv sv:=⟨by rw [blk_set h.blk];rfl,own_set h.own rfl _⟩
theorem Wr.setc (h:Wr w B ov o g c pv sv) (x:Nat):Wr (w.setCell ⟨B,2,none⟩ (.int .i64 x)) B ov o g x pv sv:=⟨by rw [blk_set h.blk];rfl,own_set h.own rfl _⟩
theorem Kw.set {a:World} (h:Kw B ov a w) (j:Nat) (u:Value):Kw B ov a (w.setCell ⟨B,j,none⟩ u) :=
 ⟨h.env.setCell (by omega) u,fun k hk hB ho => by rw [Below.heap_setCell _ _ _ _ (by exact hB)];exact h.blk k hk hB ho⟩
theorem Wr.drewN (h:Wr w B ov o g c pv sv) (n:Nat):Wr (w.drewN n) B ov o g c pv sv:=⟨h.blk,h.own⟩
theorem Kw.drewN {a:World} (h:Kw B ov a w) (n:Nat):Kw B ov a (w.drewN n):=⟨⟨h.env.os,h.env.tape,h.env.output,h.env.size,h.env.block⟩,h.blk⟩
theorem Wr.grown (h:Wr w B ov o g c pv sv) {w1:World} {ob:Obj} (hg:(w.alloc ob).grownBy w1 ov.ownBlock):w1.heap[B]? = some (.cells #[ov,.int .u64 g,.int .i64 c,pv,sv] 78 (0,0)):=by
 have hlt:=h.lt
 rw [hg.block B (by simp;omega) (fun e => by have:=h.own.lt B e.symm;omega)]
 exact (Below.heap_alloc _ _ _ hlt).trans h.blk
theorem Wr.app (h:Wr w B ov o g c pv sv) {w1:World} {ob:Obj} {nv:Value} {b:UInt8} (hown:w1.ownsRow (B+1) 5 1 nv (o.length+1) (bys o ++ [.int .u8 b.toNat])) (hg:(w.alloc ob).grownBy w1 ov.ownBlock):Wr (w1.setCell ⟨B,0,none⟩ nv) B nv (o ++ [b]) g c pv sv:=by
 refine ⟨?_,?_⟩
 ·rw [blk_set (h.grown hg)];rfl
 ·rw [bys_snoc,List.length_append]
  exact own_set hown rfl _
theorem Kw.app {a:World} (hk:Kw B ov a w) {w1:World} {ob:Obj} (hg:(w.alloc ob).grownBy w1 ov.ownBlock):Kw B ov a w1 :=
 ⟨(hk.env.alloc (by omega) ob).grown hg (by omega) (fun _ _ => by omega),fun k hk' hB' ho => by
  have hs:=hk.env.size
  rw [hg.block k (by simp;omega) ho,Below.heap_alloc _ _ _ (by omega)]
  exact hk.blk k hk' hB' ho⟩
def byF (T:Nat):Nat->List UInt8
 | 0 => []
 | k+1 => byF T k ++ [UInt8.ofNat (T / 256 ^ k % 256)]
theorem byF_length (T k:Nat):(byF T k).length=k:=by
 induction k with
 | zero => rfl
 | succ k ih => rw [byF,List.length_append,ih];rfl
theorem or_u64 (g x:Nat) (c:Nat) (hc:c<=8) (hg:g < 2 ^ c) (hx:x < 65536):bits BinOp.or IntKind.u64 (g:Int) ((x:Int)*2 ^ c)=((g+x*2 ^ c:Nat):Int):=by
 have h1:2 ^ c<=2 ^ 8:=Nat.pow_le_pow_right (by omega) hc
 have h2:(2:Nat) ^ 8=256:=by decide
 have h3:x*2 ^ c<=65536*256:=Nat.mul_le_mul (by omega) (by omega)
 have h:=u64_or_nat g (x*2 ^ c) (by omega) (by omega)
 have e:g ||| x*2 ^ c=g+x*2 ^ c:=by
  rw [Nat.or_comm,Nat.mul_comm,Nat.add_comm,Nat.two_pow_add_eq_or_of_lt hg]
 rw [e] at h
 have e4:((x*2 ^ c:Nat):Int)=(x:Int)*2 ^ c:=by push_cast;rfl
 rw [e4] at h
 exact h
set_option maxRecDepth 20000 in
set_option maxHeartbeats 1600000 in
theorem wnum_raw (w:World) (B:Nat) (ov:Value) (o:List UInt8) (g c:Nat) (pv sv:Value) (v n:Nat) (h:Wr w B ov o g c pv sv) (hc:c < 8) (hg:g < 2 ^ c) (hv:v < 65536) (hn:n<=16) (ho:o.length<=4294967296) :
  Calls Tryz.prog 73 #[.pointer (some ⟨B,0,none⟩),.int .i64 v,.int .i64 n] w fun e w' => e = .returned (.tuple #[]) /\ ∃ ov',Wr w' B ov' (o ++ byF (g+v*2 ^ c) ((c+n) / 8)) ((g+v*2 ^ c) / 256 ^ ((c+n) / 8)) ((c+n) % 8) pv sv /\ Kw B ov w w' /\ Moved ov ov' w:=by
 obtain ⟨c0,c1,c2,-,-⟩:=h.cell
 have f1:=h.free 1
 have f2:=h.free 2
 have HW:=hid h
 have b1:=or_u64 g v c (by omega) hg hv
 clear h
 go_enter Tryz.func73,Tryz.ntmps73
 obtain ⟨T,hT⟩:∃ T,T=g+v*2 ^ c:=⟨_,rfl⟩
 rw [<- hT] at b1 ⊢
 have hT2:T < 16777216:=by
  have h1:2 ^ c<=2 ^ 7:=Nat.pow_le_pow_right (by omega) (by omega)
  have h2:(2:Nat) ^ 7=128:=by decide
  have h3:v*2 ^ c<=65535*128:=Nat.mul_le_mul (by omega) (by omega)
  omega
 have w1:IntKind.u64.wrap (v:Int)=v:=by rw [IntKind.wrap_u64];omega
 have w2:IntKind.u64.wrap ((v:Int)*2 ^ c)=(v:Int)*2 ^ c:=by
  have h1:2 ^ c<=2 ^ 7:=Nat.pow_le_pow_right (by omega) (by omega)
  have h2:(2:Nat) ^ 7=128:=by decide
  have h3:v*2 ^ c<=65535*128:=Nat.mul_le_mul (by omega) (by omega)
  have e4:((v*2 ^ c:Nat):Int)=(v:Int)*2 ^ c:=by push_cast;rfl
  rw [<- e4,IntKind.wrap_u64]
  omega
 clear hT hg
 go_upto_region 0 with fail
 go_cut [17] (fun _ wx => Hid (Wr wx B ov o T c pv sv) /\ Hid (Kw B ov w wx))
 case first =>
  go_region_with (fail)
  all_goals
   go_wp2
   go_meet
   exact ⟨(HW.out.setg T).drewN 1,((Kw.refl B ov w).set 1 _).drewN 1⟩
 case rest =>
 obtain ⟨HW1,HK1⟩:=hcut
 clear HW c0 c1 c2 f1 f2 b1 w1 w2
 obtain ⟨c0,c1,c2,-,-⟩:=HW1.out.cell
 have f1:=HW1.out.free 1
 have f2:=HW1.out.free 2
 go_wp2
 have e0:((c:Int)+(n:Int))=((c+n:Nat):Int):=by push_cast;rfl
 rw [e0]
 have HW2:=hid (HW1.out.setc (c+n))
 have HK2:=hid (HK1.out.set 2 (.int .i64 ((c+n:Nat):Int)))
 generalize wc.setCell ⟨B,2,none⟩ (.int .i64 ((c+n:Nat):Int))=W at HW2 HK2 ⊢
 clear HW1 HK1 c0 c1 c2 f1 f2 e0
 obtain ⟨i0,hi,hz0,hz1,hz2⟩:=info_parts info5
 have HZ:=hid (And.intro hi (And.intro hz0 (And.intro hz1 hz2)))
 clear hi hz0 hz1 hz2
 obtain ⟨L,hL⟩:∃ L,L=c+n:=⟨_,rfl⟩
 rw [<- hL] at HW2 ⊢
 have hL24:L < 24:=by omega
 have HLL:=hid hL
 clear hL
 go_loopw [28] (fun _ wr => ∃ (k:Nat) (ov':Value),8*k<=L /\ Hid (Wr wr B ov' (o ++ byF T k) (T / 256 ^ k) (L - 8*k) pv sv) /\ Hid (Kw B ov w wr) /\ Hid (Moved ov ov' w)) (fun _ wr => (intOf ((wr.cell? ⟨B,2,none⟩).getD (.int .i64 0))).toNat)
 case atStart => exact ⟨0,ov,by omega,by simpa [byF] using HW2,HK2,Moved.refl _ _⟩
 case round =>
  clear HW2 HK2
  obtain ⟨k,ov',hk,hW,hK,hM⟩:=hrel
  obtain ⟨O,hO⟩:∃ O,O=o ++ byF T k:=⟨_,rfl⟩
  rw [<- hO] at hW
  have HO:=hid hO
  have hOl:O.length<=4294967300:=by rw [hO,List.length_append,byF_length];omega
  clear hO
  obtain ⟨c0,c1,c2,-,-⟩:=hW.out.cell
  obtain ⟨ao,cp,rfl⟩:=hW.out.shape
  obtain ⟨G,hG⟩:∃ G,G=T / 256 ^ k:=⟨_,rfl⟩
  rw [<- hG] at c1
  have hG2:G < 16777216:=by rw [hG];exact Nat.lt_of_le_of_lt (Nat.div_le_self _ _) hT2
  have HG:=hid hG
  clear hG
  by_cases h8:8<=L - 8*k
  ·obtain ⟨b,hb⟩:∃ b:UInt8,b=UInt8.ofNat (T / 256 ^ k % 256):=⟨_,rfl⟩
   have wb:IntKind.u8.wrap (G:Int)=(b.toNat:Int):=by
    rw [hb,<- HG.out,UInt8.toNat_ofNat',IntKind.wrap_u8]
    omega
   have HBB:=hid hb
   clear hb
   go_wp2
   have hBl:=hW.out.lt
   have HC1:Hid (∀ j u,[Value.int .u8 b.toNat][j]? = some u->((wr.alloc (.cells #[.int .u8 b.toNat] 5)).drew).cell? (Addr.add ⟨wr.heap.size,0,none⟩ j)=some u):=cell_one_new wr (.int .u8 b.toNat) 5
   have HC2:Hid (∀ u ∈ [Value.int .u8 b.toNat],u.oneCell'=true):=fun u hu => by simp at hu;subst hu;rfl
   have HC3:Hid (O.length+1<=maxLen):=by show _<=_;unfold maxLen;omega
   have HC4:Hid (B+1<=((wr.alloc (.cells #[.int .u8 b.toNat] 5)).drew).heap.size):=by show _<=_;simp;omega
   have HC5:Hid (((wr.alloc (.cells #[.int .u8 b.toNat] 5)).drew).heap.size=wr.heap.size+1):=by show _=_;simp
   go_region_law
    ((refine step_append_lies _ (by rfl) _ _ _ (by rfl) (B+1) 5 i0 (.int .u8 0) 1 1 Tryz.underlying72 HZ.out.1 HZ.out.2.1 HZ.out.2.2.1 HZ.out.2.2.2 rfl (by decide) (.slice ao O.length cp) O.length (bys O) (by rfl) ((hW.out.own.alloc _).drew)
        ⟨wr.heap.size,0,none⟩ 1 1 [.int .u8 b.toNat] (by rfl) (by rfl) HC1.out HC2.out
        (by omega) HC3.out (by omega) HC4.out (wr.heap.size+1) HC5.out ?_;intro gg cap w1 hown1 hgrow hat hlt1;have hgw:(wr.alloc (.cells #[.int .u8 b.toNat] 5)).grownBy w1 (Value.slice ao O.length cp).ownBlock:=⟨hgrow.os,hgrow.tape,hgrow.output,hgrow.size,hgrow.block⟩;have hblk:=hW.out.grown hgw;have c0':w1.cell? ⟨B,0,none⟩=some (.slice ao O.length cp):=(by rw [cell_of_row w1 B 0 _ 78 (0,0) hblk];rfl);have f0':w1.frozen? ⟨B,0,none⟩=false:=(by simp [World.frozen?,hblk]);clear hblk))
   all_goals
    have HA:=hid (hW.out.app hown1 hgw)
    have HK':Hid (Kw B ov w (w1.setCell ⟨B,0,none⟩ (.slice (some ⟨gg,0,none⟩) (O.length+1) cap))):=hK.out.trans hM.out (((Kw.refl B (.slice ao O.length cp) wr).app hgw).set 0 _)
    have HM':Hid (Moved ov (.slice (some ⟨gg,0,none⟩) (O.length+1) cap) w):=hM.out.trans hK.out.env.size (by
      rcases hat with h | h
      · exact .inl h.symm
      ·exact .inr ⟨gg,by omega,rfl⟩)
    generalize w1.setCell ⟨B,0,none⟩ (.slice (some ⟨gg,0,none⟩) (O.length+1) cap)=W1 at HA HK' ⊢
    clear c0 c1 c2 c0' f0' hown1 hgrow hgw hat hlt1
    obtain ⟨-,c1,c2,-,-⟩:=HA.out.cell
    have f1:=HA.out.free 1
    have f2:=HA.out.free 2
    have g1:(G:Int) / 256=((G / 256:Nat):Int):=by omega
    have g2:((L - 8*k:Nat):Int) - 8=((L - 8*(k+1):Nat):Int):=by omega
    go_wp2
    have e1:((T:Int) / 256 ^ k / 256)=((T / 256 ^ (k+1):Nat):Int):=by
     rw [Nat.pow_succ,<- Nat.div_div_eq_div_mul]
     push_cast
     rfl
    rw [e1]
    have hWn:=(HA.out.setg (T / 256 ^ (k+1))).setc (L - 8*(k+1))
    have eO:O ++ [b]=o ++ byF T (k+1):=by rw [HO.out,byF,HBB.out,List.append_assoc]
    rw [eO] at hWn
    refine ⟨⟨k+1,_,by omega,hWn,(HK'.out.set 1 _).set 2 _,HM'⟩,?_⟩
    rw [hWn.cell.2.2.1,hW.out.cell.2.2.1]
    simp [intOf]
    omega
  ·have hk8:k=L / 8:=by omega
   have hm8:L - 8*k=L % 8:=by omega
   have HK8:=hid hk8
   have HM8:=hid hm8
   clear hk8 hm8
   go_wp2
   go_end0
   refine ⟨rfl,.slice ao O.length cp,?_,hK.out,hM.out⟩
   have h2:Wr wr B (.slice ao O.length cp) O (T / 256 ^ k) (L - 8*k) pv sv:=hW.out
   have eO:o ++ byF T (L / 8)=O:=by rw [HO.out,<- HK8.out]
   rw [HM8.out,HK8.out] at h2
   rw [<- HLL.out,eO]
   exact h2
end Go.Proofs.YthdmjmnkhlpnnabGreatDoor
namespace Go.Proofs.YthdmjmnkhlpnnabGreatDoor
open Go.RowKit
def leN:List UInt8->Nat
 | [] => 0
 | b :: r => b.toNat+256*leN r
theorem leN_append (a b:List UInt8):leN (a ++ b)=leN a+256 ^ a.length*leN b:=by
 induction a with
 | nil => simp [leN]
 | cons x a ih =>
  rw [List.cons_append,leN,leN,ih,List.length_cons,Nat.pow_succ,Nat.mul_add,Nat.mul_comm (256 ^ a.length) 256,Nat.mul_assoc]
  omega
theorem leN_lt (a:List UInt8):leN a < 256 ^ a.length:=by
 induction a with
 | nil => simp [leN]
 | cons x a ih =>
  have:=x.toNat_lt
  rw [leN,List.length_cons,Nat.pow_succ]
  omega
theorem leN_byF (T k:Nat):leN (byF T k)=T % 256 ^ k:=by
 induction k with
 | zero => simp [byF,leN,Nat.mod_one]
 | succ k ih =>
  rw [byF,leN_append,ih,byF_length]
  simp only [leN,Nat.mul_zero,Nat.add_zero,UInt8.toNat_ofNat']
  rw [Nat.mod_eq_of_lt (a:=T / 256 ^ k % 256) (by have:=Nat.mod_lt (T / 256 ^ k) (show 0 < 256 by omega);omega),Nat.pow_succ,Nat.mod_mul]
structure Wb (w:World) (B:Nat) (ov:Value) (V L:Nat) (pv sv:Value):Prop where
 st:∃ (o:List UInt8) (g c:Nat),Wr w B ov o g c pv sv /\ c < 8 /\ g < 2 ^ c /\ V=leN o+256 ^ o.length*g /\ L=8*o.length+c
theorem pow256 (n:Nat):256 ^ n=2 ^ (8*n):=by rw [Nat.pow_mul]
theorem wnum_any (w:World) (B:Nat) (ov:Value) (V L:Nat) (pv sv:Value) (v n:Nat) (h:Wb w B ov V L pv sv) (hv:v < 2 ^ n) (hn:n<=16) (hL:L<=34359738368) :
  Calls Tryz.prog 73 #[.pointer (some ⟨B,0,none⟩),.int .i64 v,.int .i64 n] w fun e w' => e = .returned (.tuple #[]) /\ ∃ ov',Wb w' B ov' (V+2 ^ L*v) (L+n) pv sv /\ Kw B ov w w' /\ Moved ov ov' w:=by
 obtain ⟨o,g,c,hW,hc,hg,rfl,rfl⟩:=h.st
 have h16:2 ^ n<=2 ^ 16:=Nat.pow_le_pow_right (by omega) hn
 have e16:(2:Nat) ^ 16=65536:=by decide
 refine (wnum_raw w B ov o g c pv sv v n hW hc hg (by omega) hn (by omega)).mono ?_
 rintro e w' ⟨rfl,ov',hW',hK,hM⟩
 refine ⟨rfl,ov',⟨_,_,_,hW',by omega,?_,?_,?_⟩,hK,hM⟩
 ·have hT:g+v*2 ^ c < 2 ^ (c+n):=by
   have h1:v*2 ^ c<=(2 ^ n - 1)*2 ^ c:=Nat.mul_le_mul_right _ (by omega)
   have h2:(2 ^ n - 1)*2 ^ c+2 ^ c=2 ^ n*2 ^ c:=by
    have:=Nat.two_pow_pos n
    rw [<- Nat.succ_mul]
    congr 1
    omega
   rw [Nat.add_comm c n,Nat.pow_add]
   omega
  rw [pow256]
  apply Nat.div_lt_of_lt_mul
  rw [<- Nat.pow_add]
  rw [show 8*((c+n) / 8)+(c+n) % 8=c+n by omega]
  exact hT
 ·rw [leN_append,leN_byF,List.length_append,byF_length]
  have e2:2 ^ (8*o.length+c)*v=256 ^ o.length*(v*2 ^ c):=by rw [Nat.pow_add,<- pow256,Nat.mul_assoc,Nat.mul_comm v]
  rw [e2,Nat.add_assoc,<- Nat.mul_add]
  generalize g+v*2 ^ c=T
  generalize (c+n) / 8=k
  rw [Nat.pow_add,Nat.mul_assoc,Nat.add_assoc,<- Nat.mul_add,Nat.mod_add_div]
 ·rw [List.length_append,byF_length]
  omega
set_option maxHeartbeats 400000 in
theorem wflag_any (w:World) (B:Nat) (ov:Value) (V L:Nat) (pv sv:Value) (b:Bool) (h:Wb w B ov V L pv sv) (hL:L<=34359738368) :
  Calls Tryz.prog 39 #[.pointer (some ⟨B,0,none⟩),.bool b] w fun e w' => e = .returned (.tuple #[]) /\ ∃ ov',Wb w' B ov' (V+2 ^ L*b.toNat) (L+1) pv sv /\ Kw B ov w w' /\ Moved ov ov' w:=by
 have HN:=hid (wnum_any w B ov V L pv sv b.toNat 1 h (by cases b <;> decide) (by omega) hL)
 clear h
 cases b
 ·go_enter Tryz.func39,Tryz.ntmps39
  go_wp2_with (go_at_call 73;refine HN.out.mono ?_;rintro e w' ⟨rfl,hh⟩)
  go_end0
  exact ⟨rfl,hh⟩
 ·go_enter Tryz.func39,Tryz.ntmps39
  go_wp2_with (go_at_call 73;refine HN.out.mono ?_;rintro e w' ⟨rfl,hh⟩)
  go_end0
  exact ⟨rfl,hh⟩
theorem left_bits:∀ c:Nat,c < 16->bits BinOp.and IntKind.i64 (-(c:Int)) 7=(((8 - c % 8) % 8:Nat):Int):=by decide
theorem left_any (w:World) (c:Nat) (hc:c < 16) :
  Calls Tryz.prog 74 #[.int .i64 c] w fun e w' => e = .returned (.int .i64 ((8 - c % 8) % 8:Nat)) /\ w=w':=by
 have hb:=left_bits c hc
 obtain ⟨x,hx⟩:∃ x,x=(8 - c % 8) % 8:=⟨_,rfl⟩
 rw [<- hx] at hb ⊢
 clear hx
 go_enter Tryz.func74,Tryz.ntmps74
 go_wp2
 go_ret
 exact ⟨rfl,rfl⟩
theorem Wb.count {w:World} {B:Nat} {ov:Value} {V L:Nat} {pv sv:Value} (h:Wb w B ov V L pv sv):w.cell? ⟨B,2,none⟩=some (.int .i64 ((L % 8:Nat):Int)):=by
 obtain ⟨o,g,c,hW,hc,hg,rfl,rfl⟩:=h.st
 rw [hW.cell.2.2.1,show (8*o.length+c) % 8=c by omega]
def lft (L:Nat):Nat:=(8 - L % 8) % 8
set_option maxHeartbeats 400000 in
theorem wend_any (w:World) (B:Nat) (ov:Value) (V L:Nat) (pv sv:Value) (h:Wb w B ov V L pv sv) (hL:L<=34359738368) :
  Calls Tryz.prog 45 #[.pointer (some ⟨B,0,none⟩)] w fun e w' => e = .returned (.tuple #[]) /\ ∃ ov',Wb w' B ov' V (L+lft L) pv sv /\ Kw B ov w w' /\ Moved ov ov' w:=by
 have c2:=h.count
 have HN:=wnum_any w B ov V L pv sv 0 (lft L) h (Nat.two_pow_pos _) (by unfold lft;omega) hL
 rw [Nat.mul_zero,Nat.add_zero] at HN
 have HN:=hid HN
 have HL:=left_any w (L % 8) (by omega)
 rw [show (8 - L % 8 % 8) % 8=lft L by unfold lft;omega] at HL
 have HLF:=hid HL
 clear h HL
 obtain ⟨x,hx⟩:∃ x,x=lft L:=⟨_,rfl⟩
 obtain ⟨y,hy⟩:∃ y,y=L % 8:=⟨_,rfl⟩
 rw [<- hx] at HN HLF ⊢
 rw [<- hy] at HLF c2
 clear hx hy
 go_enter Tryz.func45,Tryz.ntmps45
 go_wp2_with (first | (go_at_call 74;refine HLF.out.mono ?_;rintro e w' ⟨rfl,rfl⟩) | (go_at_call 73;refine HN.out.mono ?_;rintro e w' ⟨rfl,hh⟩))
 go_end0
 exact ⟨rfl,hh⟩
end Go.Proofs.YthdmjmnkhlpnnabGreatDoor
namespace Go.Proofs.YthdmjmnkhlpnnabGreatDoor
open Go.RowKit
def Seg (w:World) (ao:Option Addr) (zs:List Int):Prop :=
 0 < zs.length -> ∃ b off,ao=some ⟨b,off,none⟩ /\ ∀ j,j < zs.length->w.cell? ⟨b,off+j,none⟩=some (.int .i64 (zs.getD j 0))
theorem ret_int' {k:IntKind} {a b:Int} (h:a=b):Ending.returned (.int k a) = .returned (.int k b):=by rw [h]
theorem ret_bool {a b:Bool} (h:a=b):Ending.returned (.bool a) = .returned (.bool b):=by rw [h]
theorem pow_le15 (n:Nat) (h:n<=15):1<=2 ^ n /\ 2 ^ n<=32768 :=
 ⟨Nat.one_le_two_pow,Nat.pow_le_pow_right (by omega) h⟩
set_option maxHeartbeats 400000 in
theorem num_any (n:Int) (w:World):Calls Tryz.prog 46 #[.int .i64 n] w fun e w' => e = .returned (.int .i64 n) /\ w=w':=by
 go_enter Tryz.func46,Tryz.ntmps46
 go_wp2
 go_ret
 exact ⟨rfl,rfl⟩
set_option maxHeartbeats 400000 in
theorem power_any (n:Int) (w:World) (h0:0<=n) (h1:n<=15) :
  Calls Tryz.prog 96 #[.int .i64 n] w fun e w' => e = .returned (.int .i64 ((2 ^ n.toNat:Nat):Int)) /\ w=w':=by
 go_enter Tryz.func96,Tryz.ntmps96
 go_wp2
 go_loop [3,4] (fun p i => ∃ k q:Nat,(k:Int)<=n /\ i = .int .i64 k /\ q<=32768 /\ Hid (q=2 ^ k) /\ p = .int .i64 q) (fun _ i => n.toNat - (intOf i).toNat)
 case atStart => exact ⟨0,1,by omega,rfl,by omega,rfl,rfl⟩
 case round =>
  obtain ⟨k,q,hk,rfl,hq,HQ,rfl⟩:=hrel
  by_cases hlt:(k:Int) < n
  ·have hp:=(pow_le15 (k+1) (by omega)).2
   have HQ':Hid (2*q=2 ^ (k+1)):=by show _=_;rw [HQ.out,Nat.pow_succ];omega
   have hq2:2*q<=32768:=by rw [HQ'.out];exact hp
   clear hp
   go_wp2
   go_round
   case rel => exact ⟨k+1,2*q,by omega,by go_num,hq2,HQ',by go_num⟩
   case measure => simp [intOf];omega
  ·go_wp2
   go_ret
   refine ⟨ret_int' ?_,rfl⟩
   rw [HQ.out,show n.toNat=k by omega]
   simp
def nl (z:Int):Bool:=decide (z < 0) || decide (15 < z)
theorem take_snocI (zs:List Int) (k:Nat) (h:k < zs.length):zs.take (k+1)=zs.take k ++ [zs.getD k 0]:=by
 rw [List.take_succ_eq_append_getElem h];simp [List.getD,h]
def wt:List Int->Nat
 | [] => 0
 | z :: r => (if 0 < z then 2 ^ (15 - z.toNat) else 0)+wt r
theorem wt_append (l r:List Int):wt (l ++ r)=wt l+wt r:=by
 induction l with
 | nil => simp [wt]
 | cons z l ih => simp only [List.cons_append,wt,ih];omega
theorem wt_take_succ (zs:List Int) (k:Nat) (h:k < zs.length):wt (zs.take (k+1))=wt (zs.take k)+(if 0 < zs.getD k 0 then 2 ^ (15 - (zs.getD k 0).toNat) else 0):=by
 rw [take_snocI zs k h,wt_append];simp [wt]
theorem ok_getD {zs:List Int} (h:zs.any nl=false) (k:Nat):0<=zs.getD k 0 /\ zs.getD k 0<=15:=by
 by_cases hk:k < zs.length
 ·have:=List.any_eq_false.1 h (zs.getD k 0) (by simp [List.getD,hk])
  generalize zs.getD k 0=z at *
  simp [nl] at this
  omega
 ·simp [List.getD,List.getElem?_eq_none (Nat.le_of_not_lt hk)]
theorem shr_eq (n:Nat) (h:n<=15):(32768:Int) / 2 ^ n=((2 ^ (15 - n):Nat):Int):=by
 have h1:=Nat.pow_div h (show 0 < 2 by omega)
 have h2:(32768:Int) / 2 ^ n=((2 ^ 15 / 2 ^ n:Nat):Int):=by simp
 rw [h2,h1]
set_option maxHeartbeats 400000 in
theorem weight_any (ao:Option Addr) (c:Nat) (zs:List Int) (w:World) (hs:Seg w ao zs) (hm:zs.length<=320) (hok:zs.any nl=false) :
  Calls Tryz.prog 146 #[.slice ao zs.length c] w fun e w' => e = .returned (.int .i64 (wt zs)) /\ w=w':=by
 have HOK:Hid (zs.any nl=false):=hok
 clear hok
 go_enter Tryz.func146,Tryz.ntmps146
 go_wp2
 go_loop [3,8] (fun t i => ∃ k q:Nat,k<=zs.length /\ i = .int .i64 k /\ Hid (q=wt (zs.take k)) /\ q<=16384*k /\ t = .int .i64 q) (fun _ i => zs.length - (intOf i).toNat)
 case atStart => exact ⟨0,0,by omega,rfl,rfl,by omega,rfl⟩
 case round =>
  obtain ⟨k,q,hk,rfl,HQ,hq,rfl⟩:=hrel
  by_cases hlt:k < zs.length
  ·obtain ⟨b,off,rfl,hc⟩:=hs (by omega)
   obtain ⟨z,hz⟩:∃ z,z=zs.getD k 0:=⟨_,rfl⟩
   have hcell:w.cell? ⟨b,off+k,none⟩=some (.int .i64 z):=by rw [hz];exact hc k hlt
   have hzb:=ok_getD HOK.out k
   rw [<- hz] at hzb
   have HZ:Hid (z=zs.getD k 0):=hz
   clear hz hc hs
   by_cases hp:0 < z
   ·have hsh:=shr_eq z.toNat (by omega)
    have hb1:(2:Nat) ^ (15 - z.toNat)<=2 ^ 14:=Nat.pow_le_pow_right (by omega) (by omega)
    have hb2:0<=(32768:Int) / 2 ^ z.toNat /\ (32768:Int) / 2 ^ z.toNat<=16384:=by
     rw [hsh];generalize (2:Nat) ^ (15 - z.toNat)=p at *;omega
    have HSH:Hid ((32768:Int) / 2 ^ z.toNat=((2 ^ (15 - z.toNat):Nat):Int)):=hsh
    clear hsh
    go_wp2
    go_round
    case rel => exact ⟨k+1,q+2 ^ (15 - z.toNat),by omega,by go_num,by show _=_;rw [wt_take_succ zs k hlt,<- HZ.out,if_pos hp,HQ.out],by omega,by rw [HSH.out];go_num⟩
    case measure => simp [intOf];omega
   ·go_wp2
    go_round
    case rel => exact ⟨k+1,q,by omega,by go_num,by show _=_;rw [wt_take_succ zs k hlt,<- HZ.out,if_neg hp,HQ.out];rfl,by omega,by go_num⟩
    case measure => simp [intOf];omega
  ·go_wp2
   go_ret
   refine ⟨ret_int' ?_,rfl⟩
   have:=HQ.out
   rw [List.take_of_length_le (by omega)] at this
   rw [this]
set_option maxHeartbeats 400000 in
theorem right_any (ao:Option Addr) (c:Nat) (zs:List Int) (w:World) (hs:Seg w ao zs) (hm:zs.length<=maxLen) :
  Calls Tryz.prog 94 #[.slice ao zs.length c] w fun e w' => e = .returned (.bool (!zs.any nl && decide (zs.length<=320))) /\ w=w':=by
 unfold maxLen at hm
 go_enter Tryz.func94,Tryz.ntmps94
 go_wp2
 go_loop [3] (fun i => ∃ k:Nat,k<=zs.length /\ i = .int .i64 k /\ Hid ((zs.take k).any nl=false)) (fun i => zs.length - (intOf i).toNat)
 case atStart => exact ⟨0,by omega,rfl,rfl⟩
 case round =>
  obtain ⟨k,hk,rfl,HA⟩:=hrel
  by_cases hlt:k < zs.length
  ·obtain ⟨b,off,rfl,hc⟩:=hs (by omega)
   obtain ⟨z,hz⟩:∃ z,z=zs.getD k 0:=⟨_,rfl⟩
   have hcell:w.cell? ⟨b,off+k,none⟩=some (.int .i64 z):=by rw [hz];exact hc k hlt
   have HZ:Hid (z=zs.getD k 0):=hz
   clear hz hc hs
   have HY:Hid (nl z=true->zs.any nl=true):=fun hn => List.any_eq_true.2 ⟨z,by rw [HZ.out];simp [List.getD,hlt],hn⟩
   by_cases h0:z < 0
   ·go_wp2
    go_ret
    exact ⟨ret_bool (by rw [HY.out (by simp [nl];omega)];rfl),rfl⟩
   by_cases h1:15 < z
   ·go_wp2
    go_ret
    exact ⟨ret_bool (by rw [HY.out (by simp [nl];omega)];rfl),rfl⟩
   ·have HN:Hid (nl z=false):=by show _=_;simp [nl];omega
    go_wp2
    go_round
    case rel => exact ⟨k+1,by omega,by go_num,by show _=_;rw [take_snocI zs k hlt,List.any_append,HA.out,<- HZ.out];simp [HN.out]⟩
    case measure => simp [intOf];omega
  ·go_wp2
   go_ret
   have:=HA.out
   rw [List.take_of_length_le (by omega)] at this
   refine ⟨ret_bool ?_,rfl⟩
   rw [this]
   simp
   omega
set_option maxHeartbeats 400000 in
theorem refweight_any (ao:Option Addr) (c:Nat) (zs:List Int) (w:World) (hs:Seg w ao zs) (hm:zs.length<=320) (hok:zs.any nl=false) :
  Calls Tryz.prog 95 #[.slice ao zs.length c] w fun e w' => e = .returned (.int .i64 (wt zs)) /\ w=w':=by
 have HOK:Hid (zs.any nl=false):=hok
 clear hok
 go_enter Tryz.func95,Tryz.ntmps95
 go_wp2
 go_loop [3,4] (fun t i => ∃ k q:Nat,k<=zs.length /\ i = .int .i64 k /\ Hid (q=wt (zs.take k)) /\ q<=16384*k /\ t = .int .i64 q) (fun _ i => zs.length - (intOf i).toNat)
 case atStart => exact ⟨0,0,by omega,rfl,rfl,by omega,rfl⟩
 case round =>
  obtain ⟨k,q,hk,rfl,HQ,hq,rfl⟩:=hrel
  by_cases hlt:k < zs.length
  ·obtain ⟨b,off,rfl,hc⟩:=hs (by omega)
   obtain ⟨z,hz⟩:∃ z,z=zs.getD k 0:=⟨_,rfl⟩
   have hcell:w.cell? ⟨b,off+k,none⟩=some (.int .i64 z):=by rw [hz];exact hc k hlt
   have hzb:=ok_getD HOK.out k
   rw [<- hz] at hzb
   have HZ:Hid (z=zs.getD k 0):=hz
   clear hz hc hs
   by_cases hp:0 < z
   ·obtain ⟨p,hpw⟩:∃ p:Nat,p=2 ^ (15 - z.toNat):=⟨_,rfl⟩
    have hb1:(2:Nat) ^ (15 - z.toNat)<=2 ^ 14:=Nat.pow_le_pow_right (by omega) (by omega)
    rw [<- hpw] at hb1
    have HP:Hid (p=2 ^ (15 - z.toNat)):=hpw
    have HP2:Hid (((2 ^ (15 - z).toNat:Nat):Int)=(p:Int)):=by show _=_;rw [hpw,show (15 - z).toNat=15 - z.toNat by omega]
    clear hpw
    go_wp2_with (go_at_call 96;refine (power_any _ _ (by omega) (by omega)).mono ?_;rintro e w' ⟨rfl,rfl⟩;rw [HP2.out])
    go_round
    case rel => exact ⟨k+1,q+p,by omega,by go_num,by show _=_;rw [wt_take_succ zs k hlt,<- HZ.out,if_pos hp,HQ.out,HP.out],by omega,by go_num⟩
    case measure => simp [intOf];omega
   ·go_wp2
    go_round
    case rel => exact ⟨k+1,q,by omega,by go_num,by show _=_;rw [wt_take_succ zs k hlt,<- HZ.out,if_neg hp,HQ.out];rfl,by omega,by go_num⟩
    case measure => simp [intOf];omega
  ·go_wp2
   go_ret
   refine ⟨ret_int' ?_,rfl⟩
   have:=HQ.out
   rw [List.take_of_length_le (by omega)] at this
   rw [this]
end Go.Proofs.YthdmjmnkhlpnnabGreatDoor
namespace Go.Proofs.YthdmjmnkhlpnnabGreatDoor
open Go.RowKit
def arr (f:Nat->Int):Array Value:=((List.range 16).map fun j => Value.int .i64 (f j)).toArray
theorem arr_size (f:Nat->Int):(arr f).size=16:=by simp [arr]
theorem arr_get (f:Nat->Int) (j:Nat) (h:j < 16):(arr f)[j]? = some (.int .i64 (f j)):=by simp [arr,h]
theorem arr_congr {f g:Nat->Int} (h:∀ j,j < 16->f j=g j):arr f=arr g:=by
 unfold arr
 congr 1
 apply List.map_congr_left
 intro j hj
 rw [h j (by simpa using hj)]
theorem arr_one (f:Nat->Int):(arr f).all (·.oneCell')=true:=by
 rw [Array.all_eq_true_iff_forall_mem]
 intro v hv
 simp [arr] at hv
 obtain ⟨j,_,rfl⟩:=hv
 rfl
theorem arr_zero:#[Value.int IntKind.i64 0,Value.int IntKind.i64 0,Value.int IntKind.i64 0,Value.int IntKind.i64 0,Value.int IntKind.i64 0,Value.int IntKind.i64 0,Value.int IntKind.i64 0,Value.int IntKind.i64 0,Value.int IntKind.i64 0,Value.int IntKind.i64 0,Value.int IntKind.i64 0,Value.int IntKind.i64 0,Value.int IntKind.i64 0,Value.int IntKind.i64 0,Value.int IntKind.i64 0,Value.int IntKind.i64 0]=arr fun _ => 0:=by rfl
theorem arr_set (f:Nat->Int) (j:Nat) (v:Int):(arr f).setIfInBounds j (.int .i64 v)=arr fun i => if i=j then v else f i:=by
 apply Array.ext_getElem?
 intro i
 rw [Array.getElem?_setIfInBounds,arr_size]
 by_cases hi:i < 16
 ·rw [arr_get (fun i => if i=j then v else f i) i hi]
  by_cases hj:j=i
  ·subst hj;simp [hi]
  ·rw [if_neg hj,arr_get f i hi,if_neg (by omega)]
 ·have h1:(arr f)[i]? = none:=by rw [Array.getElem?_eq_none];rw [arr_size];omega
  have h2:(arr fun i => if i=j then v else f i)[i]? = none:=by rw [Array.getElem?_eq_none];rw [arr_size];omega
  rw [h1,h2]
  split
  ·rw [if_neg (by omega)]
  ·rfl
def Arr (w:World) (b:Nat) (f:Nat->Int):Prop:=w.heap[b]? = some (.cells (arr f) 144 (0,0))
theorem Arr.cell {w:World} {b:Nat} {f:Nat->Int} (h:Arr w b f) {j:Nat} (hj:j < 16):w.cell? ⟨b,j,none⟩=some (.int .i64 (f j)):=by
 rw [cell_of_row w b j (arr f) 144 (0,0) h,arr_get f j hj]
theorem Arr.free {w:World} {b:Nat} {f:Nat->Int} (h:Arr w b f) (j:Nat):w.frozen? ⟨b,j,none⟩=false:=by
 have h':w.heap[b]? = some (.cells (arr f) 144 (0,0)):=h
 simp [World.frozen?,h']
theorem Arr.set {w:World} {b:Nat} {f:Nat->Int} (h:Arr w b f) (j:Nat) (v:Int):Arr (w.setCell ⟨b,j,none⟩ (.int .i64 v)) b fun i => if i=j then v else f i:=by
 unfold Arr
 rw [setCell_eq_setRow w b j (arr f) 144 (0,0) _ h,arr_set]
 exact setRow_heap w b (arr f) _ 144 _ h
theorem Arr.other {w:World} {b:Nat} {f:Nat->Int} (h:Arr w b f) {a:Addr} (hb:b ≠ a.block) (v:Value):Arr (w.setCell a v) b f:=by
 unfold Arr
 rw [Below.heap_setCell w a v b hb]
 exact h
theorem Arr.congr {w:World} {b:Nat} {f g:Nat->Int} (h:Arr w b f) (e:∀ j,j < 16->f j=g j):Arr w b g:=by
 unfold Arr
 rw [<- arr_congr e]
 exact h
def cnt (l:List Int) (j:Nat):Nat:=if j=0 then 0 else l.count (j:Int)
theorem cnt_le (l:List Int) (j:Nat):cnt l j<=l.length:=by
 unfold cnt
 split
 ·omega
 ·exact List.count_le_length
theorem cnt_snoc (l:List Int) (z:Int) (hz:0 < z) (j:Nat):((cnt (l ++ [z]) j:Nat):Int)=if j=z.toNat then (cnt l j:Int)+1 else cnt l j:=by
 unfold cnt
 by_cases h0:j=0
 ·subst h0;simp only [if_true];rw [if_neg (by omega)]
 ·simp only [h0,if_false,List.count_append,List.count_singleton]
  by_cases hj:j=z.toNat
  ·have hz':z=(j:Int):=by omega
   subst hz';simp
  ·have:¬ z=(j:Int):=by omega
   simp [hj,this]
theorem cnt_skip (l:List Int) (z:Int) (hz:z<=0) (j:Nat):cnt (l ++ [z]) j=cnt l j:=by
 unfold cnt
 by_cases h0:j=0
 ·simp [h0]
 ·have:¬ z=(j:Int):=by omega
  simp [h0,List.count_append,this]
def fst (l:List Int):Nat->Nat
 | 0 => 0
 | j+1 => 2*(fst l j+cnt l j)
theorem fst_le (l:List Int) (h:l.length<=320) (j:Nat):fst l j+640<=640*2 ^ j:=by
 induction j with
 | zero => simp [fst]
 | succ j ih => have:=cnt_le l j;simp only [fst,Nat.pow_succ];omega
theorem fst_le' (l:List Int) (h:l.length<=320) (j:Nat) (hj:j<=15):fst l j<=20971520:=by
 have h1:=fst_le l h j
 have h2:2 ^ j<=2 ^ 15:=Nat.pow_le_pow_right (by omega) hj
 omega
theorem Seg.below {w w':World} {ao:Option Addr} {zs:List Int} (h:Seg w ao zs) (hb:Below w.heap.size w w'):Seg w' ao zs:=by
 intro h0
 obtain ⟨b,off,e,hc⟩:=h h0
 refine ⟨b,off,e,fun j hj => ?_⟩
 have hbl:b < w.heap.size:=World.block_lt_of_cell? w _ (hc j hj)
 exact (hb.cell (p:=⟨b,off+j,none⟩) hbl).trans (hc j hj)
theorem start2 (w:World) (z:Array Value) (hz:z=arr fun _ => 0) :
  Arr ((w.alloc (.cells z 144)).alloc (.cells z 144)) (w.heap.size+1) (fun _ => 0) /\ Arr ((w.alloc (.cells z 144)).alloc (.cells z 144)) w.heap.size (fun _ => 0) /\
  Below w.heap.size w ((w.alloc (.cells z 144)).alloc (.cells z 144)):=by
 subst hz
 have s1:∀ (u:World) (o:Obj),(u.alloc o).heap.size=u.heap.size+1:=fun u o => by simp
 refine ⟨?_,?_,(((Below.refl _ _).alloc (Nat.le_refl _) _).alloc (by simp) _)⟩
 ·unfold Arr
  have:=heap_alloc_new (w.alloc (.cells (arr fun _ => 0) 144)) (.cells (arr fun _ => 0) 144)
  rw [s1] at this
  exact this
 ·unfold Arr
  rw [Below.heap_alloc _ _ _ (by rw [s1];omega)]
  exact heap_alloc_new w _
theorem info43:(Tryz.prog.info? 144).map (·.size)=some 16:=by kernel_rfl
theorem info43' (f:Nat->Int):(Tryz.prog.info? 144).map (·.size)=some (arr f).size:=by rw [arr_size];exact info43
theorem below_row {B:Nat} {a w:World} (h:Below B a w) {g:Nat} (hg:B<=g) (cs:Array Value):Below B a (w.setRow g cs) :=
 h.trans ⟨rfl,rfl,rfl,by simp,fun k hk => setRow_other _ _ _ _ (by omega)⟩
theorem Arr.row {w:World} {b:Nat} {f:Nat->Int} (h:Arr w b f) (g:Nat->Int):(w.setRow b (arr g)).heap[b]? = some (.cells (arr g) 144 (0,0)) :=
 setRow_heap w b (arr f) _ 144 _ h
theorem Arr.keep {w w1:World} {b B:Nat} {f:Nat->Int} (h:Arr w b f) (hb:Below B w w1) (hl:b < B):Arr w1 b f:=by
 unfold Arr
 exact (hb.block b hl).trans h
set_option maxHeartbeats 800000 in
theorem per_any (ao:Option Addr) (c:Nat) (zs:List Int) (w:World) (hs:Seg w ao zs) (hm:zs.length<=320) (hok:zs.any nl=false) :
  Calls Tryz.prog 171 #[.slice ao zs.length c] w fun e w' => e = .returned (.agg (arr fun j => cnt zs j)) /\ Below w.heap.size w w':=by
 have HOK:Hid (zs.any nl=false):=hok
 clear hok
 go_enter Tryz.func171,Tryz.ntmps171
 go_wp2
 go_loopw [8] (fun i wr => ∃ k:Nat,k<=zs.length /\ i = .int .i64 k /\ Arr wr (w.heap.size+1) (fun j => cnt (zs.take k) j) /\ Arr wr w.heap.size (fun _ => 0) /\ Below w.heap.size w wr) (fun i _ => zs.length - (intOf i).toNat)
 case atStart =>
  have H:=start2 w _ arr_zero
  exact ⟨0,by omega,rfl,H.1.congr (fun j _ => by simp [cnt]),H.2.1,H.2.2⟩
 case round =>
  obtain ⟨k,hk,rfl,hA1,hA0,hB⟩:=hrel
  by_cases hlt:k < zs.length
  ·obtain ⟨b,off,rfl,hc⟩:=hs (by omega)
   obtain ⟨z,hz⟩:∃ z,z=zs.getD k 0:=⟨_,rfl⟩
   have hcw:w.cell? ⟨b,off+k,none⟩=some (.int .i64 z):=by rw [hz];exact hc k hlt
   have hbl:b < w.heap.size:=World.block_lt_of_cell? w _ hcw
   have hcell:wr.cell? ⟨b,off+k,none⟩=some (.int .i64 z):=(hB.cell (p:=⟨b,off+k,none⟩) hbl).trans hcw
   have hzb:=ok_getD HOK.out k
   rw [<- hz] at hzb
   have HZ:Hid (z=zs.getD k 0):=hz
   clear hz hc hs hcw
   by_cases hp:0 < z
   ·obtain ⟨y,hy⟩:∃ y:Nat,y=cnt (zs.take k) z.toNat:=⟨_,rfl⟩
    have hyb:y<=320:=by rw [hy];have:=cnt_le (zs.take k) z.toNat;simp at this;omega
    have hcy:wr.cell? ⟨w.heap.size+1,z.toNat,none⟩=some (.int .i64 y):=by rw [hy];exact hA1.cell (by omega)
    have hfr:wr.frozen? ⟨w.heap.size+1,z.toNat,none⟩=false:=hA1.free _
    have HY:Hid (y=cnt (zs.take k) z.toNat):=hy
    clear hy
    go_wp2
    go_roundw
    case rel =>
     refine ⟨k+1,by omega,by go_num,(hA1.set _ _).congr (fun j _ => ?_),hA0.other (by simp) _,hB.setCell (by simp) _⟩
     rw [take_snocI zs k hlt,<- HZ.out,cnt_snoc _ z hp,HY.out]
     by_cases hj:j=z.toNat
     ·simp [hj]
     ·simp [hj]
    case measure => simp [intOf];omega
   ·go_wp2
    go_roundw
    case rel =>
     refine ⟨k+1,by omega,by go_num,hA1.congr (fun j _ => ?_),hA0,hB⟩
     rw [take_snocI zs k hlt,<- HZ.out,cnt_skip _ z (by omega)]
    case measure => simp [intOf];omega
  ·rw [List.take_of_length_le (by omega)] at hA1
   clear hs
   go_wp2_with (first | (refine wpList_load_row rfl 144 _ rfl (w.heap.size+1) rfl 144 (arr fun j => (cnt zs j:Int)) (0,0) _ (by exact hA1) Tryz.underlying144 rfl (info43' _) ?_) | (refine wpList_store_row rfl 144 _ _ rfl w.heap.size (arr fun j => (cnt zs j:Int)) rfl rfl 144 _ (by exact hA0) (info43' _) (by rw [arr_size,arr_size]) (arr_one _) ?_))
   exact bodyPost_ret (v:=.agg (arr fun j => (cnt zs j:Int))) (results_cell_row Tryz.results171 _ _ w.heap.size 144 _ (0,0) _ (by rfl) (hA0.row _) Tryz.underlying144 rfl (info43' _)) rfl ⟨rfl,below_row hB (Nat.le_refl _) _⟩
end Go.Proofs.YthdmjmnkhlpnnabGreatDoor
namespace Go.Proofs.YthdmjmnkhlpnnabGreatDoor
open Go.RowKit
theorem start_asis (w:World) (s:ByteArray) :
  (∀ n cs,((((w.alloc (.cells #[.string s] 9)).alloc (.cells #[.int .i64 0,.nilFunc] 83)).drewN n).setRow (w.heap.size+1) cs).heap[w.heap.size]? = some (.cells #[.string s] 9 (0,0))) /\
  (∀ n,(((w.alloc (.cells #[.string s] 9)).alloc (.cells #[.int .i64 0,.nilFunc] 83)).drewN n).heap[w.heap.size+1]? = some (.cells #[.int .i64 0,.nilFunc] 83 (0,0))) /\
  (∀ n cs,((((w.alloc (.cells #[.string s] 9)).alloc (.cells #[.int .i64 0,.nilFunc] 83)).drewN n).setRow (w.heap.size+1) cs).heap[w.heap.size+1]? = some (.cells cs 83 (0,0))) /\
  (∀ n cs,Below w.heap.size w ((((w.alloc (.cells #[.string s] 9)).alloc (.cells #[.int .i64 0,.nilFunc] 83)).drewN n).setRow (w.heap.size+1) cs)):=by
 obtain ⟨o,ho⟩:∃ o:Obj,o = .cells #[.string s] 9:=⟨_,rfl⟩
 obtain ⟨o2,ho2⟩:∃ o:Obj,o = .cells #[.int .i64 0,.nilFunc] 83:=⟨_,rfl⟩
 rw [<- ho,<- ho2]
 have s1:(w.alloc o).heap.size=w.heap.size+1:=by simp
 have b1:Below w.heap.size w (w.alloc o):=(Below.refl _ _).alloc (Nat.le_refl _) o
 have b2:Below (w.alloc o).heap.size (w.alloc o) ((w.alloc o).alloc o2):=(Below.refl _ _).alloc (Nat.le_refl _) o2
 have e1:=heap_alloc_new w o
 have e2:=heap_alloc_new (w.alloc o) o2
 rw [s1] at e2
 have e3:((w.alloc o).alloc o2).heap[w.heap.size]? = some o:=by rw [b2.block _ (by omega),e1]
 refine ⟨fun n cs => ?_,fun n => e2,fun n cs => ?_,fun n cs => ?_⟩
 ·rw [setRow_other _ _ _ _ (by omega)]
  exact e3
 ·refine setRow_heap _ _ #[.int .i64 0,.nilFunc] _ _ _ ?_
  rw [<- ho2]
  exact e2
 ·have b3:Below w.heap.size w (((w.alloc o).alloc o2).drewN n):=by
   have:=b1.trans (b2.mono (by omega))
   exact ⟨this.os,this.tape,this.output,this.size,this.block⟩
  exact below_row b3 (by omega) _
set_option maxHeartbeats 800000 in
theorem asIs_any (w:World) (s:ByteArray) (c:Nat) (hc:c < 8) (hs:s.size<=65535) :
  Calls Tryz.prog 40 #[.string s,.int .i64 c] w fun e w' => ∃ q,e = .returned (.agg #[.int .i64 (2+lft (c+2)+32+8*s.size:Nat),.func (.func 75) #[] #[.pointer (some ⟨q,0,none⟩)]]) /\ w.heap.size<=q /\ w'.heap[q]? = some (.cells #[.string s] 9 (0,0)) /\ Below w.heap.size w w':=by
 have hmf:∀ (fn:Fn) (first cap:Array Value) (w:World),(Instr.makeFunc fn first cap).run Tryz.prog w = .ok (.func fn first cap) w:=fun _ _ _ _ => rfl
 have HL:Hid (∀ u:World,Calls Tryz.prog 74 #[.int .i64 ((c:Int)+2)] u fun e w' => e = .returned (.int .i64 (lft (c+2):Nat)) /\ w'=u):=fun u => (left_any u (c+2) (by omega)).mono fun e w' ⟨h1,h2⟩ => ⟨by rw [h1];rfl,h2.symm⟩
 obtain ⟨x,hx⟩:∃ x,x=lft (c+2):=⟨_,rfl⟩
 have hx8:x < 8:=by rw [hx];unfold lft;omega
 rw [<- hx] at HL ⊢
 clear hx
 go_enter Tryz.func40,Tryz.ntmps40
 go_wp2
 go_quiet ((go_at_call 74;refine Calls.quiet_of_same (HL.out _)))
 obtain ⟨X,hX⟩:∃ X:Array Value,X=#[.int .i64 (2+x+32+8*s.size:Nat),.func (.func 75) #[] #[.pointer (some ⟨w.heap.size,0,none⟩)]]:=⟨_,rfl⟩
 have HX1:Hid ((Tryz.prog.info? 83).map (·.size)=some X.size):=by show _=_;rw [hX];kernel_rfl
 have HX2:Hid (X.all (·.oneCell')=true):=by show _=_;rw [hX];simp [Value.oneCell']
 have HX3:Hid (#[Value.int .i64 0,Value.nilFunc].size=X.size):=by show _=_;rw [hX];rfl
 have HXV:Hid (Value.agg #[.int .i64 (2+(x:Int)+32+8*(s.size:Int)),.func (.func 75) #[] #[.pointer (some ⟨w.heap.size,0,none⟩)]] = .agg X):=by
  show _=_
  rw [hX]
  congr 3
 have HS0:=hid (start_asis w s)
 go_wp2_with (refine wpList_store_row rfl 83 _ _ rfl (w.heap.size+1) X rfl HXV.out 83 _ (by exact HS0.out.2.1 _) HX1.out HX3.out HX2.out ?_)
 have hR:=HS0.out.2.2.1 nq X
 have hQ:=HS0.out.1 nq X
 have hBe:=HS0.out.2.2.2 nq X
 refine bodyPost_ret (v:=.agg X) (results_cell_row Tryz.results40 _ _ (w.heap.size+1) 83 X (0,0) _ rfl hR Tryz.underlying83 rfl HX1.out) rfl ?_
 exact ⟨w.heap.size,by rw [hX],Nat.le_refl _,hQ,hBe⟩
end Go.Proofs.YthdmjmnkhlpnnabGreatDoor
