import Derived.Test.YthdmjmnkhlpnnabGreatDoorZ11
import Derived.Test.YthdmjmnkhlpnnabGreatDoorZ05
namespace Go.Proofs.YthdmjmnkhlpnnabGreatDoor
open Go.RowKit
def wdL:Wd->Nat
 | .lit x => x.toNat
 | .mat _ _ => 0
def wdC:Wd->Nat
 | .lit _ => 0
 | .mat c _ => c
def wdB:Wd->Nat
 | .lit _ => 0
 | .mat _ b => b
def WSeg (w:World) (ao:Option Addr) (ws:List Wd):Prop:=0 < ws.length -> ∃ b off cs,ao=some ⟨b,off,none⟩ /\ w.heap[b]? = some (.cells cs 158 (0,0)) /\ ∀ (j:Nat) (x:Wd),ws[j]? = some x->cs[off+j*3]? = some (.int .u8 (wdL x)) /\ cs[off+j*3+1]? = some (.int .i64 (wdC x)) /\ cs[off+j*3+2]? = some (.int .i64 (wdB x))
def ISeg (w:World) (ao:Option Addr) (zs:List Int):Prop:=0 < zs.length -> ∃ b off cs,ao=some ⟨b,off,none⟩ /\ w.heap[b]? = some (.cells cs 3 (0,0)) /\ ∀ j,j < zs.length->cs[off+j]? = some (.int .i64 (zs.getD j 0))
theorem ISeg.seg {w:World} {ao:Option Addr} {zs:List Int} (h:ISeg w ao zs):Seg w ao zs:=fun h0 => by
 obtain ⟨b,off,cs,e,hc,hj⟩:=h h0
 exact ⟨b,off,e,fun j h1 => by rw [cell_of_row w b _ cs 3 (0,0) hc];exact hj j h1⟩
def Ty (w w':World):Prop:=∀ (q T:Nat) (cs:Array Value) (fr:Nat × Nat),w.heap[q]? = some (.cells cs T fr)->T ≠ 78->T ≠ 5->w'.heap[q]? = some (.cells cs T fr)
theorem Ty.refl (w:World):Ty w w:=fun _ _ _ _ h _ _ => h
theorem Ty.trans {a b c:World} (h:Ty a b) (k:Ty b c):Ty a c:=fun q T cs fr x y z => k q T cs fr (h q T cs fr x y z) y z
theorem Ty.below {w w':World} (h:Below w.heap.size w w'):Ty w w':=fun q _ _ _ x _ _ => (h.block q (Array.getElem?_eq_some_iff.1 x).1).trans x
theorem Ty.kw {w w':World} {B:Nat} {ov:Value} {V L:Nat} {pv sv:Value} (hk:Kw B ov w w') (h:Wb w B ov V L pv sv):Ty w w':=fun _ _ _ _ x y z => hk.cells h x y z
theorem WSeg.ty {w w':World} {ao:Option Addr} {ws:List Wd} (h:WSeg w ao ws) (t:Ty w w'):WSeg w' ao ws:=fun h0 => by
 obtain ⟨b,off,cs,e,hc,hj⟩:=h h0
 exact ⟨b,off,cs,e,t b _ cs _ hc (by decide) (by decide),hj⟩
theorem ISeg.ty {w w':World} {ao:Option Addr} {zs:List Int} (h:ISeg w ao zs) (t:Ty w w'):ISeg w' ao zs:=fun h0 => by
 obtain ⟨b,off,cs,e,hc,hj⟩:=h h0
 exact ⟨b,off,cs,e,t b _ cs _ hc (by decide) (by decide),hj⟩
structure Cdi (w:World) (v:Value) (zs:List Int):Prop where
 st:∃ la ca na cb,v = .agg #[.slice la zs.length ca,.slice na zs.length cb] /\ ISeg w la zs /\ ISeg w na (rvs zs)
theorem Cdi.cde {w:World} {v:Value} {zs:List Int} (h:Cdi w v zs):Cde w v zs:=by
 obtain ⟨la,ca,na,cb,e,h1,h2⟩:=h.st
 exact ⟨la,ca,na,cb,e,h1.seg,h2.seg⟩
theorem Cdi.ty {w w':World} {v:Value} {zs:List Int} (h:Cdi w v zs) (t:Ty w w'):Cdi w' v zs:=by
 obtain ⟨la,ca,na,cb,e,h1,h2⟩:=h.st
 exact ⟨la,ca,na,cb,e,h1.ty t,h2.ty t⟩
structure Wst (w0:World) (B:Nat) (ov0:Value) (w:World) (V L:Nat) (pv sv:Value):Prop where
 st:∃ ov,Wb w B ov V L pv sv /\ Kw B ov0 w0 w /\ Moved ov0 ov w0
 ty:Ty w0 w
theorem Wst.start {w:World} {B:Nat} {ov:Value} {V L:Nat} {pv sv:Value} (h:Wb w B ov V L pv sv):Wst w B ov w V L pv sv:=⟨⟨ov,h,Kw.refl B ov w,Moved.refl ov w⟩,Ty.refl w⟩
theorem Wst.below {w0 w w':World} {B:Nat} {ov:Value} {V L:Nat} {pv sv:Value} (h:Wst w0 B ov w V L pv sv) (hb:Below w.heap.size w w'):Wst w0 B ov w' V L pv sv:=by
 obtain ⟨ov',a1,a2,a3⟩:=h.st
 exact ⟨⟨ov',a1.below hb,a2.below hb,a3⟩,h.ty.trans (Ty.below hb)⟩
def Wd1 (B:Nat) (ov:Value) (V L:Nat) (pv sv:Value) (w:World) (e:Ending) (w':World):Prop:=e = .returned (.tuple #[]) /\ ∃ ov',Wb w' B ov' V L pv sv /\ Kw B ov w w' /\ Moved ov ov' w
theorem Wst.then {w0 w w':World} {B:Nat} {ov ov1:Value} {V L V' L':Nat} {pv sv:Value} (h1:Wb w B ov1 V L pv sv) (h2:Kw B ov w0 w) (h3:Moved ov ov1 w0) (ht:Ty w0 w) (k:∃ ov',Wb w' B ov' V' L' pv sv /\ Kw B ov1 w w' /\ Moved ov1 ov' w):Wst w0 B ov w' V' L' pv sv:=by
 obtain ⟨ov',a1,a2,a3⟩:=k
 obtain ⟨b1,b2⟩:=kw_then h2 h3 a2 a3
 exact ⟨⟨ov',a1,b1,b2⟩,ht.trans (Ty.kw a2 h1)⟩
theorem wsym_st {w0 w:World} {B:Nat} {ov:Value} {V L:Nat} {pv sv:Value} (h:Wst w0 B ov w V L pv sv) (cv:Value) (zs:List Int) (i:Nat) (hc:Cdi w cv zs) (hi:0 < zs.getD i 0) (hok:zs.any nl=false) (hl:zs.length<=320) (hL:L<=34359738368) :
  Calls Tryz.prog 162 #[.pointer (some ⟨B,0,none⟩),.int .i64 i,cv] w fun e w' => e = .returned (.tuple #[]) /\ Wst w0 B ov w' (V+2 ^ L*(syp zs i).1) (L+(syp zs i).2) pv sv /\ Ty w w':=by
 obtain ⟨ov1,a1,a2,a3⟩:=h.st
 refine (wsym_any w B ov1 V L pv sv cv zs i a1 hc.cde (getD_lt hi) hok hl hL).mono ?_
 rintro e w' ⟨rfl,ov',b1,b2,b3⟩
 exact ⟨rfl,Wst.then a1 a2 a3 h.ty ⟨ov',b1,b2,b3⟩,Ty.kw b2 a1⟩
theorem within_st {w0 w:World} {B:Nat} {ov:Value} {V L:Nat} {pv sv:Value} (h:Wst w0 B ov w V L pv sv) (x l n:Nat) (hx:l<=x) (hx2:x - l < 2 ^ n) (hxx:x<=100000) (hn:n<=16) (hL:L<=34359738368) :
  Calls Tryz.prog 163 #[.pointer (some ⟨B,0,none⟩),.int .i64 x,.agg #[.int .i64 l,.int .i64 n]] w fun e w' => e = .returned (.tuple #[]) /\ Wst w0 B ov w' (V+2 ^ L*(x - l)) (L+n) pv sv /\ Ty w w':=by
 obtain ⟨ov1,a1,a2,a3⟩:=h.st
 refine (within_any w B ov1 V L pv sv x l n a1 hx hx2 hxx hn hL).mono ?_
 rintro e w' ⟨rfl,ov',b1,b2,b3⟩
 exact ⟨rfl,Wst.then a1 a2 a3 h.ty ⟨ov',b1,b2,b3⟩,Ty.kw b2 a1⟩
theorem wnum_st {w0 w:World} {B:Nat} {ov:Value} {V L:Nat} {pv sv:Value} (h:Wst w0 B ov w V L pv sv) (v n:Nat) (hv:v < 2 ^ n) (hn:n<=16) (hL:L<=34359738368) :
  Calls Tryz.prog 73 #[.pointer (some ⟨B,0,none⟩),.int .i64 v,.int .i64 n] w fun e w' => e = .returned (.tuple #[]) /\ Wst w0 B ov w' (V+2 ^ L*v) (L+n) pv sv /\ Ty w w':=by
 obtain ⟨ov1,a1,a2,a3⟩:=h.st
 refine (wnum_any w B ov1 V L pv sv v n a1 hv hn hL).mono ?_
 rintro e w' ⟨rfl,ov',b1,b2,b3⟩
 exact ⟨rfl,Wst.then a1 a2 a3 h.ty ⟨ov',b1,b2,b3⟩,Ty.kw b2 a1⟩
def pw (V L:Nat) (l:List (Nat × Nat)):Nat:=V+2 ^ L*pv l
theorem pw_nil (V L:Nat):pw V L []=V:=by simp [pw,pv]
theorem pw_cons (V L:Nat) (x:Nat × Nat) (l:List (Nat × Nat)):pw V L (x :: l)=pw (V+2 ^ L*x.1) (L+x.2) l:=by
 simp only [pw,pv,Nat.pow_add,Nat.mul_add,Nat.mul_assoc,Nat.add_assoc]
theorem pw_append (V L:Nat) (a b:List (Nat × Nat)):pw V L (a ++ b)=pw (pw V L a) (L+pl a) b:=by
 simp only [pw,pv_append,Nat.pow_add,Nat.mul_add,Nat.mul_assoc,Nat.add_assoc]
def wpf (za zb:List Int) (ws:List Wd):List (Nat × Nat):=ws.flatMap (wp1 za zb)
theorem wps_wpf (za zb:List Int) (ws:List Wd):wps za zb ws=wpf za zb ws ++ [syp za 256]:=by
 induction ws with
 | nil => rfl
 | cons x r ih => rw [wps,ih];simp [wpf]
theorem wpf_snoc (za zb:List Int) (ws:List Wd) (x:Wd):wpf za zb (ws ++ [x])=wpf za zb ws ++ wp1 za zb x:=by simp [wpf]
theorem wp1_small {za zb:List Int} {n:Nat} {x:Wd} (h:ok1 za zb n x) (oka:za.any nl=false) (okb:zb.any nl=false):pl (wp1 za zb x)<=48:=by
 cases x with
 | lit b => have:=ok_getD oka b.toNat;simp only [wp1,pl,syp];omega
 | mat c b =>
  obtain ⟨k1,k2,k3,k4,k5,k6,k7⟩:=h
  have a1:=ltr_any c (by omega) k1
  have a2:=stp_le b k3 k4
  have a3:=agn_le (ltr c - 257) (by omega)
  have a4:=bck_le (stp b) a2
  have:=ok_getD oka (ltr c)
  have:=ok_getD okb (stp b)
  simp only [wp1,pl,syp]
  omega
theorem okw_take {za zb:List Int}:∀ (ws:List Wd) (n k:Nat) (x:Wd),okw za zb ws n->ws[k]? = some x -> ∃ m,ok1 za zb m x
 | [],_,_,_,_,h => by simp at h
 | y :: r,n,0,x,h,e => by simp at e;subst e;exact ⟨n,h.1⟩
 | y :: r,n,k+1,x,h,e => okw_take r _ k x h.2 (by simpa using e)
theorem okw_end {za zb:List Int}:∀ (ws:List Wd) (n:Nat),okw za zb ws n->0 < za.getD 256 0
 | [],_,h => h
 | _ :: r,_,h => okw_end r _ h.2
theorem wpf_small {za zb:List Int} (ws:List Wd) (n:Nat) (h:okw za zb ws n) (oka:za.any nl=false) (okb:zb.any nl=false) (k:Nat):pl (wpf za zb (ws.take k))<=48*k:=by
 induction k with
 | zero => simp [wpf,pl]
 | succ k ih =>
  rw [List.take_add_one]
  cases e:ws[k]? with
  | none => simp only [Option.toList_none,List.append_nil];omega
  | some x =>
   obtain ⟨m,hm⟩:=okw_take ws n k x h e
   have:=wp1_small hm oka okb
   simp only [Option.toList_some]
   rw [wpf_snoc,pl_append]
   omega
set_option maxRecDepth 20000 in
set_option maxHeartbeats 1600000 in
theorem wwords_any (w:World) (B:Nat) (ov:Value) (V L:Nat) (pv sv:Value) (ao:Option Addr) (c:Nat) (ws:List Wd) (va vb:Value) (za zb:List Int) (n:Nat) (h:Wb w B ov V L pv sv)
  (hs:WSeg w ao ws) (ha:Cdi w va za) (hb:Cdi w vb zb) (hk:okw za zb ws n) (oka:za.any nl=false) (okb:zb.any nl=false) (la:za.length<=320) (lb:zb.length<=320) (hw:ws.length<=65535) (hL:L<=17179869184) :
  Calls Tryz.prog 116 #[.pointer (some ⟨B,0,none⟩),.slice ao ws.length c,va,vb] w fun e w' => e = .returned (.tuple #[]) /\ Wst w B ov w' (pw V L (wps za zb ws)) (L+pl (wps za zb ws)) pv sv:=by
 obtain ⟨a1,a2,a3,a4,rfl,-⟩:=ha.st
 obtain ⟨b1,b2,b3,b4,rfl,-⟩:=hb.st
 have HB0:=hid (((Below.refl w.heap.size w).alloc (Nat.le_refl _) (.cells #[Value.slice a1 za.length a2,Value.slice a3 za.length a4] 171)).alloc (by simp) (.cells #[Value.slice b1 zb.length b2,Value.slice b3 zb.length b4] 171))
 have HX6:Hid (((w.alloc (.cells #[Value.slice a1 za.length a2,Value.slice a3 za.length a4] 171)).alloc (.cells #[Value.slice b1 zb.length b2,Value.slice b3 zb.length b4] 171)).heap[w.heap.size]? = some (.cells #[Value.slice a1 za.length a2,Value.slice a3 za.length a4] 171 (0,0))):=(Below.heap_alloc _ _ _ (by simp)).trans (heap_alloc_new w _)
 have HX7:Hid (((w.alloc (.cells #[Value.slice a1 za.length a2,Value.slice a3 za.length a4] 171)).alloc (.cells #[Value.slice b1 zb.length b2,Value.slice b3 zb.length b4] 171)).heap[w.heap.size+1]? = some (.cells #[Value.slice b1 zb.length b2,Value.slice b3 zb.length b4] 171 (0,0))):=by
  have:=heap_alloc_new (w.alloc (.cells #[Value.slice a1 za.length a2,Value.slice a3 za.length a4] 171)) (.cells #[Value.slice b1 zb.length b2,Value.slice b3 zb.length b4] 171)
  rw [World.size_alloc] at this
  exact this
 have HSG:=hid hs
 have HCA:=hid ha
 have HCB:=hid hb
 have HWK:=hid hk
 have HOA:=hid oka
 have HOB:=hid okb
 have HW0:=hid (Wst.start h)
 clear hs ha hb hk oka okb h
 go_enter Tryz.func116,Tryz.ntmps116
 go_wp2
 go_loopw [14] (fun i wr => ∃ k:Nat,k<=ws.length /\ i = .int .i64 k /\ Hid (Wst w B ov wr (pw V L (wpf za zb (ws.take k))) (L+pl (wpf za zb (ws.take k))) pv sv) /\ Hid (wr.heap[w.heap.size]? = some (.cells #[Value.slice a1 za.length a2,Value.slice a3 za.length a4] 171 (0,0))) /\ Hid (wr.heap[w.heap.size+1]? = some (.cells #[Value.slice b1 zb.length b2,Value.slice b3 zb.length b4] 171 (0,0)))) (fun i _ => ws.length - (intOf i).toNat)
 case atStart => exact ⟨0,by omega,rfl,by show Wst w B ov _ (pw V L []) (L+0) pv sv;rw [pw_nil];exact HW0.out.below HB0.out,HX6,HX7⟩
 case round =>
  clear HW0 HB0 HX6 HX7
  obtain ⟨k,hk,rfl,HW,HX6,HX7⟩:=hrel
  have c60:wr.cell? ⟨w.heap.size,0,none⟩=some (.slice a1 za.length a2):=by rw [cell_of_row _ _ 0 _ _ _ HX6.out];rfl
  have c61:wr.cell? ⟨w.heap.size,1,none⟩=some (.slice a3 za.length a4):=by rw [cell_of_row _ _ 1 _ _ _ HX6.out];rfl
  have l6:=cell_in c60
  have HSM:=hid (wpf_small ws n HWK.out HOA.out HOB.out k)
  by_cases hlt:k < ws.length
  ·obtain ⟨b,off,cs,rfl,hcs,hcell⟩:=(HSG.out.ty HW.out.ty) (by omega)
   obtain ⟨x,hx⟩:∃ x,x=ws[k]:=⟨_,rfl⟩
   have hx':ws[k]? = some x:=by rw [hx];exact List.getElem?_eq_getElem hlt
   obtain ⟨y1,y2,y3⟩:=hcell k x hx'
   have q1:wr.cell? ⟨b,off+k*3,none⟩=some (.int .u8 (wdL x)):=by rw [cell_of_row wr b _ cs _ (0,0) hcs];exact y1
   have q2:wr.cell? ⟨b,off+k*3+1,none⟩=some (.int .i64 (wdC x)):=by rw [cell_of_row wr b _ cs _ (0,0) hcs];exact y2
   have q3:wr.cell? ⟨b,off+k*3+2,none⟩=some (.int .i64 (wdB x)):=by rw [cell_of_row wr b _ cs _ (0,0) hcs];exact y3
   obtain ⟨m,hm⟩:=okw_take ws n k x HWK.out hx'
   have HOK:=hid hm
   have HXX:=hid hx'
   clear y1 y2 y3 hcell hcs hx hx' hm
   have HB3:=hid ((Below.refl wr.heap.size wr).alloc (Nat.le_refl _) (.cells #[.int .u8 (wdL x),.int .i64 (wdC x),.int .i64 (wdB x)] 158))
   have HN3:Hid ((wr.alloc (.cells #[.int .u8 (wdL x),.int .i64 (wdC x),.int .i64 (wdB x)] 158)).heap[wr.heap.size]? = some (.cells #[.int .u8 (wdL x),.int .i64 (wdC x),.int .i64 (wdB x)] 158 (0,0))):=heap_alloc_new wr _
   have HT3:=hid (Ty.below HB3.out)
   have HW3:=hid (HW.out.below HB3.out)
   cases x with
   | lit v =>
    replace q1:wr.cell? ⟨b,off+k*3,none⟩=some (.int .u8 v.toNat):=q1
    replace q2:wr.cell? ⟨b,off+k*3+1,none⟩=some (.int .i64 0):=q2
    replace q3:wr.cell? ⟨b,off+k*3+2,none⟩=some (.int .i64 0):=q3
    have hv:=v.toNat_lt
    have w1:IntKind.i64.wrap (v.toNat:Int)=(v.toNat:Int):=by rw [IntKind.wrap_i64];omega
    go_wp2_with (go_at_call 162;refine (wsym_st HW3.out _ za v.toNat (HCA.out.ty (HW.out.ty.trans HT3.out)) HOK.out HOA.out la (by have:=HSM.out;omega)).mono ?_;rintro e w4 ⟨rfl,hw4,ht4⟩)
    go_roundw
    case rel =>
     refine ⟨k+1,by omega,by simp,?_,ht4 _ _ _ _ (HT3.out _ _ _ _ HX6.out (by decide) (by decide)) (by decide) (by decide),ht4 _ _ _ _ (HT3.out _ _ _ _ HX7.out (by decide) (by decide)) (by decide) (by decide)⟩
     show Wst w B ov w4 _ _ pv sv
     rw [List.take_add_one,HXX.out,Option.toList_some,wpf_snoc,pw_append,pl_append,<- Nat.add_assoc]
     show Wst w B ov w4 (pw _ _ [syp za v.toNat]) (_+pl [syp za v.toNat]) pv sv
     rw [pw_cons,pw_nil]
     exact hw4
    case measure => simp [intOf];omega
   | mat cc bk =>
    replace q1:wr.cell? ⟨b,off+k*3,none⟩=some (.int .u8 0):=q1
    replace q2:wr.cell? ⟨b,off+k*3+1,none⟩=some (.int .i64 cc):=q2
    replace q3:wr.cell? ⟨b,off+k*3+2,none⟩=some (.int .i64 bk):=q3
    obtain ⟨k1,k2,k3,k4,k5,k6,k7⟩:=HOK.out
    have t1:=ltr_any cc (by omega) k1
    have t2:=stp_any bk k3
    have t3:=stp_le bk k3 k4
    have t4:=agn_le (ltr cc - 257) (by omega)
    have t5:=bck_le (stp bk) t3
    have d:((cc:Int) == 0)=false:=by simp;omega
    have HLT:=hid (letter_any cc · k1 k2)
    have HST:=hid (step_any bk · k3 k4)
    obtain ⟨A1,hA1⟩:∃ x,x=(agn (ltr cc - 257)).1:=⟨_,rfl⟩
    obtain ⟨A2,hA2⟩:∃ x,x=(agn (ltr cc - 257)).2:=⟨_,rfl⟩
    obtain ⟨B1,hB1⟩:∃ x,x=(bck (stp bk)).1:=⟨_,rfl⟩
    obtain ⟨B2,hB2⟩:∃ x,x=(bck (stp bk)).2:=⟨_,rfl⟩
    have HE:Hid (wp1 za zb (.mat cc bk)=[syp za (ltr cc),(cc - A1,A2),syp zb (stp bk),(bk - B1,B2)]):=by show _=_;rw [hA1,hA2,hB1,hB2];rfl
    have HSZ:=hid (wp1_small HOK.out HOA.out HOB.out)
    have HAG:Hid (∀ u:World,Calls Tryz.prog 110 #[.int .i64 (ltr cc:Nat)] u fun e w' => e = .returned (.agg #[.int .i64 A1,.int .i64 A2]) /\ Below u.heap.size u w'):=fun u => by
     have:=again_span (ltr cc:Int) (by omega) (by omega) u
     rw [show ((ltr cc:Int) - 257).toNat=ltr cc - 257 by omega,<- hA1,<- hA2] at this
     exact this
    have HBK:Hid (∀ u:World,Calls Tryz.prog 111 #[.int .i64 (stp bk:Nat)] u fun e w' => e = .returned (.agg #[.int .i64 B1,.int .i64 B2]) /\ Below u.heap.size u w'):=fun u => by
     have:=back_any (stp bk:Int) (by omega) (by omega) u
     rw [Int.toNat_natCast,<- hB1,<- hB2] at this
     exact this
    rw [<- hA1,<- hA2] at t1
    rw [<- hB1,<- hB2] at t2
    rw [<- hA2] at t4
    rw [<- hB2] at t5
    clear hA1 hA2 hB1 hB2
    obtain ⟨lt,hlt2⟩:∃ x,x=ltr cc:=⟨_,rfl⟩
    obtain ⟨st,hst⟩:∃ x,x=stp bk:=⟨_,rfl⟩
    rw [<- hlt2] at k6 t1 HLT HE HAG
    rw [<- hst] at k7 HST HE HBK t3
    clear hlt2 hst
    have HKK:=hid (And.intro k6 k7)
    clear k6 k7
    go_upto_region 6 with fail
    go_cut [10,11] (fun a b wx => a = .int .i64 lt /\ b = .int .i64 st /\ Hid (wx=(wr.alloc (.cells #[.int .u8 (wdL (.mat cc bk)),.int .i64 (wdC (.mat cc bk)),.int .i64 (wdB (.mat cc bk))] 158)).drewN 1))
    case first =>
     go_region_with (first | (go_at_call 108;refine (HLT.out _).mono ?_;rintro e w' ⟨rfl,rfl⟩) | (go_at_call 109;refine (HST.out _).mono ?_;rintro e w' ⟨rfl,rfl⟩))
     all_goals
      go_wp2
      go_meet
      exact ⟨rfl,rfl,rfl⟩
    case rest =>
    obtain ⟨rfl,rfl,hwx⟩:=hcut
    obtain ⟨V0,hV0⟩:∃ x,x=pw V L (wpf za zb (ws.take k)):=⟨_,rfl⟩
    obtain ⟨L0,hL0⟩:∃ x,x=L+pl (wpf za zb (ws.take k)):=⟨_,rfl⟩
    rw [<- hV0,<- hL0] at HW3
    have HVL:=hid (And.intro hV0 hL0)
    have hL1:L0<=34359738000:=by rw [hL0];have:=HSM.out;omega
    have hsy1:(syp za lt).2<=15:=by have:=ok_getD HOA.out lt;simp only [syp];omega
    have hsy2:(syp zb st).2<=15:=by have:=ok_getD HOB.out st;simp only [syp];omega
    clear hV0 hL0 HLT HST
    have HW6:Hid (Wst w B ov wc V0 L0 pv sv):=by
     show Wst w B ov wc V0 L0 pv sv
     rw [hwx.out]
     exact HW3.out.below (below_drewN' (Below.refl _ _) 1)
    have HT6:Hid (Ty wr wc):=by
     show Ty wr wc
     rw [hwx.out]
     exact HT3.out.trans (Ty.below (below_drewN' (Below.refl _ _) 1))
    have HN6:Hid (wc.heap[wr.heap.size]? = some (.cells #[.int .u8 (wdL (.mat cc bk)),.int .i64 (wdC (.mat cc bk)),.int .i64 (wdB (.mat cc bk))] 158 (0,0))):=by
     show _=_
     rw [hwx.out]
     exact HN3.out
    obtain ⟨D,hD⟩:∃ D,D=wr.heap.size:=⟨_,rfl⟩
    rw [<- hD] at HN6 ⊢
    have HDD:=hid hD
    clear hD hwx HW3 HT3 HN3 HB3 c60 c61 l6 q1 q2 q3 d
    have c60:wc.cell? ⟨w.heap.size,0,none⟩=some (.slice a1 za.length a2):=by rw [cell_of_row _ _ 0 _ _ _ (HT6.out _ _ _ _ HX6.out (by decide) (by decide))];rfl
    have c61:wc.cell? ⟨w.heap.size,1,none⟩=some (.slice a3 za.length a4):=by rw [cell_of_row _ _ 1 _ _ _ (HT6.out _ _ _ _ HX6.out (by decide) (by decide))];rfl
    go_upto_region 8 with (go_at_call 162;refine (wsym_st HW6.out _ za lt (HCA.out.ty HW6.out.ty) HKK.out.1 HOA.out la (by omega)).mono ?_;rintro e w7 ⟨rfl,hw7,ht7⟩;have HW7:=hid hw7;have HT7:=hid (HT6.out.trans ht7);have HN7:=hid (ht7 _ _ _ _ HN6.out (by decide) (by decide));clear hw7 ht7)
    clear HW6 HT6 HN6 c60 c61
    have c9:w7.cell? ⟨D,1,none⟩=some (.int .i64 cc):=by rw [cell_of_row _ _ 1 _ _ _ HN7.out];rfl
    go_cut [10] (fun _ wx => Hid (Wst w B ov wx (V0+2 ^ L0*(syp za lt).1+2 ^ (L0+(syp za lt).2)*(cc - A1)) (L0+(syp za lt).2+A2) pv sv) /\ Hid (Ty wr wx) /\ Hid (wx.heap[D]? = some (.cells #[.int .u8 (wdL (.mat cc bk)),.int .i64 (wdC (.mat cc bk)),.int .i64 (wdB (.mat cc bk))] 158 (0,0))))
    case first =>
     go_region_with (first | (go_at_call 163;refine (within_st HW8.out cc A1 A2 (by omega) (by omega) (by omega) (by omega) (by omega)).mono ?_;rintro e w9 ⟨rfl,hw9,ht9⟩) | (go_at_call 110;refine (HAG.out _).mono ?_;rintro e w8 ⟨rfl,hb8⟩;have HW8:=hid ((HW7.out.below (below_drewN' (Below.refl _ _) 1)).below hb8);have HT8:=hid ((HT7.out.trans (Ty.below (below_drewN' (Below.refl _ _) 1))).trans (Ty.below hb8));have HN8:=hid ((Ty.below hb8) _ _ _ _ (show (w7.drewN 1).heap[D]? = _ from HN7.out) (by decide) (by decide));have c9':w8.cell? ⟨D,1,none⟩=some (.int .i64 cc):=(by rw [cell_of_row _ _ 1 _ _ _ HN8.out];rfl)))
     all_goals
      go_wp2
      go_meet
      exact ⟨hw9,HT8.out.trans ht9,ht9 _ _ _ _ HN8.out (by decide) (by decide)⟩
    case rest =>
    clear HW7 HT7 HN7 c9 HAG
    rename World => wd
    obtain ⟨HW9,HT9,HN9⟩:=hcut
    obtain ⟨V1,hV1⟩:∃ x,x=V0+2 ^ L0*(syp za lt).1+2 ^ (L0+(syp za lt).2)*(cc - A1):=⟨_,rfl⟩
    obtain ⟨L1,hL1'⟩:∃ x,x=L0+(syp za lt).2+A2:=⟨_,rfl⟩
    rw [<- hV1,<- hL1'] at HW9
    have HVL1:=hid (And.intro hV1 hL1')
    have hL2:L1<=34359738100:=by omega
    clear hV1 hL1'
    have c70:wd.cell? ⟨w.heap.size+1,0,none⟩=some (.slice b1 zb.length b2):=by rw [cell_of_row _ _ 0 _ _ _ (HT9.out _ _ _ _ HX7.out (by decide) (by decide))];rfl
    have c71:wd.cell? ⟨w.heap.size+1,1,none⟩=some (.slice b3 zb.length b4):=by rw [cell_of_row _ _ 1 _ _ _ (HT9.out _ _ _ _ HX7.out (by decide) (by decide))];rfl
    go_upto_region 10 with (go_at_call 162;refine (wsym_st HW9.out _ zb st (HCB.out.ty HW9.out.ty) HKK.out.2 HOB.out lb (by omega)).mono ?_;rintro e w7 ⟨rfl,hw7,ht7⟩;have HW7:=hid hw7;have HT7:=hid (HT9.out.trans ht7);have HN7:=hid (ht7 _ _ _ _ HN9.out (by decide) (by decide));clear hw7 ht7)
    clear HW9 HT9 HN9 c70 c71
    have c9:w7.cell? ⟨D,2,none⟩=some (.int .i64 bk):=by rw [cell_of_row _ _ 2 _ _ _ HN7.out];rfl
    go_region_with (first | (go_at_call 163;refine (within_st HW8.out bk B1 B2 (by omega) (by omega) (by omega) (by omega) (by omega)).mono ?_;rintro e w9 ⟨rfl,hw9,ht9⟩) | (go_at_call 111;refine (HBK.out _).mono ?_;rintro e w8 ⟨rfl,hb8⟩;have HW8:=hid ((HW7.out.below (below_drewN' (Below.refl _ _) 1)).below hb8);have HT8:=hid ((HT7.out.trans (Ty.below (below_drewN' (Below.refl _ _) 1))).trans (Ty.below hb8));have HN8:=hid ((Ty.below hb8) _ _ _ _ (show (w7.drewN 1).heap[D]? = _ from HN7.out) (by decide) (by decide));have c9':w8.cell? ⟨D,2,none⟩=some (.int .i64 bk):=(by rw [cell_of_row _ _ 2 _ _ _ HN8.out];rfl)))
    all_goals
     go_wp2
     go_roundw
     case rel =>
      have HT10:Ty wr w9:=HT8.out.trans ht9
      refine ⟨k+1,by omega,by simp,?_,HT10 _ _ _ _ HX6.out (by decide) (by decide),HT10 _ _ _ _ HX7.out (by decide) (by decide)⟩
      show Wst w B ov w9 _ _ pv sv
      obtain ⟨e1,e2⟩:=HVL.out
      obtain ⟨e3,e4⟩:=HVL1.out
      rw [List.take_add_one,HXX.out,Option.toList_some,wpf_snoc,pw_append,pl_append,<- Nat.add_assoc,HE.out,<- e1,<- e2,pw_cons,pw_cons,pw_cons,pw_cons,pw_nil]
      have e5:L0+pl [syp za lt,(cc - A1,A2),syp zb st,(bk - B1,B2)]=L1+(syp zb st).2+B2:=by rw [e4];simp only [pl];omega
      rw [e5,<- e3,<- e4]
      exact hw9
     case measure => simp [intOf];omega
  ·obtain rfl:k=ws.length:=by omega
   have e9:ws.take ws.length=ws:=List.take_length
   rw [e9] at HW HSM
   go_wp2_with (go_at_call 162;refine (wsym_st HW.out _ za 256 (HCA.out.ty HW.out.ty) (okw_end ws n HWK.out) HOA.out la (by have:=HSM.out;omega)).mono ?_;rintro e w4 ⟨rfl,hw4,ht4⟩)
   go_end0
   refine ⟨rfl,?_⟩
   rw [wps_wpf,pw_append,pl_append,<- Nat.add_assoc]
   rw [pw_cons,pw_nil]
   exact hw4
end Go.Proofs.YthdmjmnkhlpnnabGreatDoor
