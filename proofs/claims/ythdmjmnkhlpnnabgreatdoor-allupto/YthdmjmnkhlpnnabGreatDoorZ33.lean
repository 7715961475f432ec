import Derived.Test.YthdmjmnkhlpnnabGreatDoorZ18
import Derived.Test.YthdmjmnkhlpnnabGreatDoorZ16
import Derived.Test.YthdmjmnkhlpnnabGreatDoorZ13
import Derived.Test.YthdmjmnkhlpnnabGreatDoorZ19
import Derived.Test.YthdmjmnkhlpnnabGreatDoorZ30
import Derived.Test.YthdmjmnkhlpnnabGreatDoorZ32
import Derived.Deep.RegionHeld3
namespace Go.Proofs.YthdmjmnkhlpnnabGreatDoor
open Go.RowKit Go.Maps
variable {w:World} {S tr en:Nat} {X:ByteArray} {kn dr T M:Nat} {pv:Value}
theorem infoWord:(Tryz.prog.info? 158).map (fun i => (i.zero,i.size,i.bytes))=some (some (.agg #[.int .u8 0,.int .i64 0,.int .i64 0]),3,24):=by kernel_rfl
def wc3 (x:Wd):List Value:=[.int .u8 (wdL x),.int .i64 (wdC x),.int .i64 (wdB x)]
def wcs (ws:List Wd):List Value:=ws.flatMap wc3
theorem wcs_snoc (ws:List Wd) (x:Wd):wcs (ws ++ [x])=wcs ws ++ wc3 x:=by simp [wcs]
theorem wcs_get (ws:List Wd) (j:Nat) (x:Wd) (h:ws[j]? = some x):(wcs ws)[j*3]? = some (.int .u8 (wdL x)) /\ (wcs ws)[j*3+1]? = some (.int .i64 (wdC x)) /\ (wcs ws)[j*3+2]? = some (.int .i64 (wdB x)):=by
 induction ws generalizing j with
 | nil => simp at h
 | cons y r ih =>
  cases j with
  | zero => simp at h;subst h;exact ⟨rfl,rfl,rfl⟩
  | succ j =>
   have:=ih j (by simpa using h)
   rw [show (j+1)*3=j*3+3 by omega,show j*3+3+1=j*3+1+3 by omega,show j*3+3+2=j*3+2+3 by omega]
   exact this
theorem own_wseg {base:Nat} {v:Value} {ws:List Wd} (h:w.ownsRow base 158 3 v ws.length (wcs ws)):∃ ao c,v = .slice ao ws.length c /\ WSeg w ao ws:=by
 obtain ⟨_,⟨rfl,h0⟩ | ⟨g,cap,cur,rfl,hg,hh,h1,h2,h3,h4⟩⟩:=h
 ·exact ⟨none,0,by rw [h0],fun hp => by omega⟩
 ·refine ⟨some ⟨g,0,none⟩,cap,rfl,fun _ => ⟨g,0,cur,rfl,hh,fun j x hx => ?_⟩⟩
  have hj:j < ws.length:=(List.getElem?_eq_some_iff.1 hx).1
  obtain ⟨e0,e1,e2⟩:=wcs_get ws j x hx
  have e:∀ i,i < ws.length*3->cur[i]? = (wcs ws)[i]?:=fun i hi => by rw [<- h4,List.getElem?_take,if_pos (by omega),Array.getElem?_toList]
  simp only [Nat.zero_add]
  exact ⟨by rw [e _ (by omega),e0],by rw [e _ (by omega),e1],by rw [e _ (by omega),e2]⟩
theorem okm_len (ws:List Wd) (n:Nat) (h:okm ws n):ws.length<=wns ws:=by
 induction ws generalizing n with
 | nil => exact Nat.le_refl _
 | cons x r ih =>
  have h2:=ih _ h.2
  have h1:=h.1
  rw [List.length_cons,wns]
  cases x with
  | lit y => simp only [wn];omega
  | mat c b => have:=h1.1;simp only [wn];omega
structure Wl (w wr:World) (S tr en:Nat) (X:ByteArray) (dr T M:Nat) (pv:Value) (ws:List Wd) (wv:Value) (H c b kn:Nat) (pv':Value):Prop where
 here:wr.heap[H]? = some (.cells #[.int .u8 0,.int .i64 c,.int .i64 b] 158 (0,0))
 hnew:w.heap.size<=H
 row:wr.ownsRow w.heap.size 158 3 wv ws.length (wcs ws)
 apart:wv.ownBlock ≠ some H
 sx:Sx wr S tr en X kn dr T M pv'
 fr:Fr (SxO S T M pv) w wr
 mv:Moved pv pv' w
section
variable {wr:World} {ws:List Wd} {wv:Value} {H c b:Nat} {pv':Value}
theorem row_word {base n:Nat} {v:Value} {xs:List Value} (h:wr.ownsRow base 158 3 v n xs) {k:Nat} (hk:v.ownBlock=some k):∃ cs,wr.heap[k]? = some (.cells cs 158 (0,0)):=by
 obtain ⟨_,⟨rfl,_⟩ | ⟨g,cap,cur,rfl,_,hh,_⟩⟩:=h
 ·simp [Value.ownBlock] at hk
 ·simp [Value.ownBlock] at hk
  subst hk
  exact ⟨cur,hh⟩
theorem Wl.step {W2:World} {kn2:Nat} {pv2:Value} (h:Wl w wr S tr en X dr T M pv ws wv H c b kn pv') (hs:Sx W2 S tr en X kn2 dr T M pv2) (hf:Fr (SxO S T M pv') wr W2) (hm:Moved pv' pv2 wr):Wl w W2 S tr en X dr T M pv ws wv H c b kn2 pv2 :=
 ⟨(hf.blk H (Array.getElem?_eq_some_iff.1 h.here).1 (SxO.apart h.sx h.here (by decide) (by decide) (by decide))).trans h.here,h.hnew,owns_kept h.row (fun k e => by
   obtain ⟨cs,hc⟩:=row_word h.row e
   exact hf.blk k (Array.getElem?_eq_some_iff.1 hc).1 (SxO.apart h.sx hc (by decide) (by decide) (by decide))),h.apart,hs,h.fr.next hf (fun k hk => SxO.moved h.mv k hk),h.mv.trans h.fr.env.size hm⟩
theorem Wl.below {W2:World} (h:Wl w wr S tr en X dr T M pv ws wv H c b kn pv') (hb:Below wr.heap.size wr W2):Wl w W2 S tr en X dr T M pv ws wv H c b kn pv' :=
 ⟨(hb.block H (Array.getElem?_eq_some_iff.1 h.here).1).trans h.here,h.hnew,owns_kept h.row (fun k e => hb.block k (h.row.lt k e).2),h.apart,h.sx.below hb,h.fr.below hb,h.mv⟩
theorem Wl.setHere (h:Wl w wr S tr en X dr T M pv ws wv H c b kn pv') (c2 b2:Nat):Wl w (((wr.setCell ⟨H,0,none⟩ (.int .u8 0)).setCell ⟨H,1,none⟩ (.int .i64 c2)).setCell ⟨H,2,none⟩ (.int .i64 b2)) S tr en X dr T M pv ws wv H c2 b2 kn pv':=by
 have hap:=SxO.apart h.sx h.here (by decide) (by decide) (by decide)
 have hn:=h.hnew
 refine ⟨by rw [blk_set (blk_set (blk_set h.here _ _) _ _) _ _];rfl,h.hnew,owns_kept h.row (fun k e => ?_),h.apart,((h.sx.beside ⟨H,0,none⟩ hap _).beside ⟨H,1,none⟩ hap _).beside ⟨H,2,none⟩ hap _,((h.fr.setNew ⟨H,0,none⟩ hn _).setNew ⟨H,1,none⟩ hn _).setNew ⟨H,2,none⟩ hn _,h.mv⟩
 have hk:k ≠ H:=fun e' => h.apart (by rw [e,e'])
 rw [Below.heap_setCell _ _ _ _ (by exact hk),Below.heap_setCell _ _ _ _ (by exact hk),Below.heap_setCell _ _ _ _ (by exact hk)]
theorem Wl.beside {N:Nat} (h:Wl w wr S tr en X dr T M pv ws wv H c b kn pv') (hN:N ≠ H) (h2:w.heap.size<=N) (h3:wv.ownBlock ≠ some N) (h4:¬ SxO S T M pv' N) (j:Nat) (v:Value):Wl w (wr.setCell ⟨N,j,none⟩ v) S tr en X dr T M pv ws wv H c b kn pv' :=
 ⟨(Below.heap_setCell _ _ _ _ (by exact Ne.symm hN)).trans h.here,h.hnew,owns_kept h.row (fun _ e => Below.heap_setCell _ _ _ _ (fun e' => h3 (by rw [e,e']))),h.apart,h.sx.beside ⟨N,j,none⟩ h4 v,h.fr.setNew ⟨N,j,none⟩ h2 v,h.mv⟩
theorem Wl.move (h:Wl w wr S tr en X dr T M pv ws wv H c b kn pv'):Wl w (wr.alloc (.cells #[.int .u8 0,.int .i64 c,.int .i64 b] 158)) S tr en X dr T M pv ws wv wr.heap.size c b kn pv':=by
 have h2:=h.below ((Below.refl wr.heap.size wr).alloc (Nat.le_refl _) (.cells #[.int .u8 0,.int .i64 c,.int .i64 b] 158))
 exact ⟨heap_alloc_new _ _,h.fr.env.size,h2.row,fun e => by have:=(h.row.lt _ e).2;omega,h2.sx,h2.fr,h2.mv⟩
theorem Wl.push {W1:World} {g cap:Nat} {ob:Obj} {x:Wd} (h:Wl w wr S tr en X dr T M pv ws wv H c b kn pv') (hown:W1.ownsRow w.heap.size 158 3 (.slice (some ⟨g,0,none⟩) (ws.length+1) cap) (ws.length+1) (wcs ws ++ wc3 x)) (hg:(wr.alloc ob).grownBy W1 wv.ownBlock) (hat:wv.ownBlock=some g ∨ g=wr.heap.size+1):Wl w W1 S tr en X dr T M pv (ws ++ [x]) (.slice (some ⟨g,0,none⟩) (ws.length+1) cap) H c b kn pv':=by
 have h2:=h.below ((Below.refl wr.heap.size wr).alloc (Nat.le_refl _) ob)
 have hH:=(Array.getElem?_eq_some_iff.1 h.here).1
 have hr:∀ r,wv.ownBlock=some r->w.heap.size<=r:=fun r e => (h.row.lt r e).1
 refine ⟨(hg.block H (Array.getElem?_eq_some_iff.1 h2.here).1 (fun e => h.apart e.symm)).trans h2.here,h.hnew,by rw [wcs_snoc,List.length_append];exact hown,?_,?_,h2.fr.grownNew hg hr,h.mv⟩
 ·simp only [Value.ownBlock]
  rcases hat with e | e
  ·intro e2;injection e2 with e2;exact h.apart (by rw [e,e2])
  ·intro e2;injection e2 with e2;omega
 ·refine h2.sx.kept (fun k hk => hg.block k (h2.sx.olt hk) (fun e => ?_)) hg.size
  obtain ⟨cs,hc⟩:=row_word h2.row e.symm
  exact SxO.apart h2.sx hc (by decide) (by decide) (by decide) hk
end
set_option maxRecDepth 20000 in
set_option maxHeartbeats 1000000 in
theorem words_any (h:Sx w S tr en X kn dr T M pv) (hkn:kn=X.size - 2) (hX:X.size<=98303) (Y:ByteArray) (hY:Y.size<=65535) (hdr:dr=0 ∨ 32768<=X.size) (hd:dr<=10000000000000) (htr:1<=tr) (htr2:tr<=1000) (hen:1<=en) (hen2:en<=1000) :
  Calls Tryz.prog 68 #[.pointer (some ⟨S,0,none⟩),.string Y] w fun e w' => ∃ (ao:Option Addr) (c:Nat) (ws:List Wd) (pv':Value),e = .returned (.slice ao ws.length c) /\ WSeg w' ao ws /\ Ws (X.extract (X.size - 32768) X.size ++ Y) (X.size - (X.size - 32768)) (X.extract (X.size - 32768) X.size ++ Y).size ws /\ Sx w' S tr en (X.extract (X.size - 32768) X.size ++ Y) ((X.extract (X.size - 32768) X.size ++ Y).size - 2) (dr+(X.size - 32768)) T M pv' /\ Fr (SxO S T M pv) w w' /\ Moved pv pv' w:=by
 have HH:=hid h
 obtain ⟨o,ho⟩:∃ o,o=X.size - 32768:=⟨_,rfl⟩
 rw [<- ho]
 have hBG:=sbegin_any w S tr en kn X Y (.pointer (some ⟨T,0,none⟩)) o ho (by omega) (by omega) (by omega) (by omega) h.blk
 obtain ⟨X',hX'⟩:∃ X',X'=X.extract o X.size ++ Y:=⟨_,rfl⟩
 obtain ⟨a0,ha0⟩:∃ a0,a0=X.size - o:=⟨_,rfl⟩
 obtain ⟨dr',hdr'⟩:∃ d,d=dr+o:=⟨_,rfl⟩
 have hXs:X'.size=a0+Y.size:=by rw [hX',ByteArray.size_append,ByteArray.size_extract];omega
 have hXl:X'.size<=1000000:=by omega
 have ha0l:a0<=X'.size:=by omega
 have hdl:dr'<=100000000000000:=by omega
 have hdd:dr'=0 ∨ 32768<=a0:=by omega
 have hk1:kn - o<=a0:=by omega
 rw [<- hX',<- ha0,<- hdr']
 have HBG:Hid (Calls Tryz.prog 106 #[.pointer (some ⟨S,0,none⟩),.string Y] w fun e w' => e = .returned (.int .i64 a0) /\ Sx w' S tr en X' (kn - o) dr' T M pv /\ Fr (SxO S T M pv) w w'):=hBG.mono fun e w' ⟨h1,h2,h3⟩ => ⟨by rw [h1,ha0],by rw [hX',hdr'];exact h.began Y o (by omega) h3 h2,h3.mono (fun _ e => .inl e)⟩
 obtain ⟨k1,hkk⟩:∃ k1,k1=kn - o:=⟨_,rfl⟩
 rw [<- hkk] at HBG hk1
 have HXs:=hid hXs
 obtain ⟨i0,hi,hz0,hz1,hz2⟩:=info_parts infoWord
 clear h hBG hX' ha0 hdr' ho hkk hkn hXs hdr hd hX hY
 go_enter Tryz.func68,Tryz.ntmps68
 go_upto_region 2 with (go_at_call 106;refine HBG.out.mono ?_;rintro e W1 ⟨rfl,hb1,hf1⟩;have HS1:=hid hb1;have HF1:=hid hf1;clear hb1 hf1)
 go_upto_region 4 with (go_at_call 107;refine (longest_any HS1.out hXl hdl a0 hk1 ha0l hdd htr htr2).mono ?_;rintro e W2 ⟨c,b,pv2,rfl,hlg,hs2,hf2,hm2⟩;have HLG:=hid hlg;have HS2:=hid hs2;have HF2:=hid hf2;have HM2:=hid hm2;clear hlg hs2 hf2 hm2)
 have HWL0:Hid (Wl w (W2.alloc (.cells #[.int .u8 0,.int .i64 c,.int .i64 b] 158)) S tr en X' dr' T M pv [] (.slice none 0 0) W2.heap.size c b (min a0 (X'.size - 2)) pv2):=by
  have hz:=HF1.out.env.size
  have hz2:=HF2.out.env.size
  have hb:=(Below.refl W2.heap.size W2).alloc (Nat.le_refl _) (.cells #[.int .u8 0,.int .i64 c,.int .i64 b] 158)
  exact ⟨heap_alloc_new _ _,by omega,World.ownsRow_nil _ _ _ _,by simp [Value.ownBlock],HS2.out.below hb,(HF1.out.trans HF2.out).below hb,HM2.out.imp id (fun ⟨q,e1,e2⟩ => ⟨q,by omega,e2⟩)⟩
 have HW0:Hid (Ws X' a0 a0 []):=Ws.start X' a0 ha0l
 go_loopw [5,6,7] (fun v5 v6 v7 wr => ∃ (a:Nat) (ws:List Wd) (H c b:Nat) (pv':Value),v5 = .int .i64 a /\ v7 = .pointer (some ⟨H,0,none⟩) /\ a0<=a /\ a<=X'.size /\ Hid (Wl w wr S tr en X' dr' T M pv ws v6 H c b (min a (X'.size - 2)) pv') /\ Hid (Ws X' a0 a ws) /\ Hid (Lg X' a c b)) (fun v5 _ _ _ => X'.size - (intOf v5).toNat)
 case atStart => exact ⟨a0,[],_,c,b,pv2,rfl,rfl,Nat.le_refl _,ha0l,HWL0,HW0,HLG⟩
 case round =>
  clear HWL0 HW0 HLG HS2 HF2 HM2 HS1 HF1 HBG hk1
  obtain ⟨a,ws,H,c,b,pv',rfl,rfl,ha1,ha2,HWL,HWS,HLG⟩:=hrel
  have hlen:ws.length<=1000000:=by have:=okm_len ws a0 HWS.out.ok;have:=HWS.out.wns;omega
  obtain ⟨c0,c1,c2,c3,c4⟩:=HWL.out.sx.cells
  clear c0 c3 c4
  obtain ⟨h0,h1,h2,hf⟩:=cells3w HWL.out.here
  clear h0 h2 hf
  by_cases hlt:a < X'.size
  ·have d1:decide ((a:Int) < (X'.size:Int))=true:=by simp;omega
   go_upto_region 6 with fail
   have HB1:=hid ((Below.refl wr.heap.size wr).alloc (Nat.le_refl _) (.cells #[.int .u8 0,.int .i64 0,.int .i64 0] 158))
   have HX1:Hid ((wr.alloc (.cells #[.int .u8 0,.int .i64 0,.int .i64 0] 158)).heap[wr.heap.size]? = some (.cells #[.int .u8 0,.int .i64 0,.int .i64 0] 158 (0,0))):=heap_alloc_new _ _
   obtain ⟨N,hN⟩:∃ N,N=wr.heap.size:=⟨_,rfl⟩
   rw [<- hN] at HX1 ⊢
   have HN:=hid hN
   clear hN c1 c2 h1 d1
   generalize wr.alloc (.cells #[.int .u8 0,.int .i64 0,.int .i64 0] 158)=W1' at HB1 HX1 ⊢
   have HWL1:=hid (HWL.out.below HB1.out)
   have HNe:Hid (N ≠ H /\ w.heap.size<=N /\ u6.ownBlock ≠ some N):=by
    have q1:=(Array.getElem?_eq_some_iff.1 HWL.out.here).1
    have q2:=HN.out
    have q3:=HWL.out.fr.env.size
    exact ⟨by omega,by omega,fun e => by have:=(HWL.out.row.lt _ e).2;omega⟩
   obtain ⟨c0,c1,c2,c3,c4⟩:=HWL1.out.sx.cells
   clear c0 c2 c3 c4
   obtain ⟨h0,h1,h2,hf⟩:=cells3w HWL1.out.here
   clear h0 h2 hf
   go_quiet (fail)
   clear c1 h1
   have HB2:=hid (below_drewN' (Below.refl W1'.heap.size W1') nq)
   have HX2:Hid ((W1'.drewN nq).heap[N]? = _):=HX1
   generalize W1'.drewN nq=W2' at HB2 HX2 ⊢
   have HWL2:=hid (HWL1.out.below HB2.out)
   clear HWL1 HX1 HB1 HB2 HWL
   by_cases hce:c < en
   case' pos =>
    have d2:decide ((c:Int) < (en:Int))=true:=by simp;omega
    obtain ⟨a1,hae⟩:∃ a1,a1=a+1:=⟨_,rfl⟩
    have jA:IntKind.i64.wrap ((a:Int)+1)=(a1:Int):=by rw [IntKind.wrap_i64];omega
    have ha1l:a1<=X'.size:=by omega
    have hkk:min a (X'.size - 2)<=a1:=by omega
    have hdd1:dr'=0 ∨ 32768<=a1:=by omega
    have HA1:=hid hae
    clear hae
    go_upto_region 8 with (go_at_call 107;refine (longest_any HWL2.out.sx hXl hdl a1 hkk ha1l hdd1 htr htr2).mono ?_;rintro e W3 ⟨c',b',pv3,rfl,hlg,hs3,hf3,hm3⟩;have HLG3:=hid hlg;have HWL3:=hid (HWL2.out.step hs3 hf3 hm3);have hx3:W3.heap[N]? = _:=(hf3.blk N (Array.getElem?_eq_some_iff.1 HX2.out).1 (SxO.apart HWL2.out.sx HX2.out (by decide) (by decide) (by decide))).trans HX2.out;obtain ⟨x0,x1,x2,xf⟩:=cells3w hx3;have HX3:=hid hx3;clear hlg hs3 hf3 hm3 hx3)
    obtain ⟨kn4,hk4⟩:∃ k,k=min a1 (X'.size - 2):=⟨_,rfl⟩
    rw [<- hk4] at HWL3
    have HNX:Hid ((c'=0 /\ c ≠ 0 /\ kn4=min a (X'.size - 2)) ∨ (Lg X' (a+1) c' b' /\ kn4=min (a+1) (X'.size - 2))):=.inr ⟨by rw [<- HA1.out];exact HLG3.out,by rw [<- HA1.out];exact hk4⟩
    have HX4:Hid ((((W3.setCell ⟨N,0,none⟩ (.int .u8 0)).setCell ⟨N,1,none⟩ (.int .i64 c')).setCell ⟨N,2,none⟩ (.int .i64 b')).heap[N]? = some (.cells #[.int .u8 0,.int .i64 c',.int .i64 b'] 158 (0,0))):=by
     show _=_
     rw [blk_set (blk_set (blk_set HX3.out _ _) _ _) _ _];rfl
    have HWL4:Hid (Wl w (((W3.setCell ⟨N,0,none⟩ (.int .u8 0)).setCell ⟨N,1,none⟩ (.int .i64 c')).setCell ⟨N,2,none⟩ (.int .i64 b')) S tr en X' dr' T M pv ws u6 H c b kn4 pv3):=by
     obtain ⟨n1,n2,n3⟩:=HNe.out
     have hap:=SxO.apart HWL3.out.sx HX3.out (by decide) (by decide) (by decide)
     exact ((HWL3.out.beside n1 n2 n3 hap 0 _).beside n1 n2 n3 hap 1 _).beside n1 n2 n3 hap 2 _
    clear hce hk4 x0 x1 x2 xf HX3 HWL3 HLG3 HX2 HWL2 d2 jA ha1l hkk hdd1 HA1
    generalize ((W3.setCell ⟨N,0,none⟩ (.int .u8 0)).setCell ⟨N,1,none⟩ (.int .i64 c')).setCell ⟨N,2,none⟩ (.int .i64 b')=W4 at HX4 HWL4 ⊢
   case' neg =>
    have d2:decide ((c:Int) < (en:Int))=false:=by simp;omega
    have HCE:=hid hce
    clear hce
    go_upto_region 8 with fail
    obtain ⟨c',hc'⟩:∃ c':Nat,c'=0:=⟨_,rfl⟩
    obtain ⟨b',hb'⟩:∃ b':Nat,b'=0:=⟨_,rfl⟩
    obtain ⟨kn4,hk4⟩:∃ k,k=min a (X'.size - 2):=⟨_,rfl⟩
    rw [<- hk4] at HWL2
    have HNX:Hid ((c'=0 /\ c ≠ 0 /\ kn4=min a (X'.size - 2)) ∨ (Lg X' (a+1) c' b' /\ kn4=min (a+1) (X'.size - 2))):=.inl ⟨hc',by have:=HCE.out;omega,hk4⟩
    have HX4:Hid (W2'.heap[N]? = some (.cells #[.int .u8 0,.int .i64 c',.int .i64 b'] 158 (0,0))):=by rw [hc',hb'];exact HX2
    have HWL4:=HWL2
    clear hk4 hc' hb' HX2 HWL2 d2 HCE
    generalize W2'=W4 at HX4 HWL4 ⊢
    generalize pv'=pv3 at HWL4
   all_goals
    obtain ⟨h0,h1,h2,hf⟩:=cells3w HWL4.out.here
    obtain ⟨x0,x1,x2,xf⟩:=cells3w HX4.out
    obtain ⟨ia,ic,hiv,-⟩:=owns_shape HWL4.out.row
    subst hiv
    have hbase:=HWL4.out.fr.env.size
    have HRW:=hid HWL4.out.row
    by_cases hlet:c=0 ∨ c < c'
    ·have HNX2:Hid (Lg X' (a+1) c' b' /\ kn4=min (a+1) (X'.size - 2)):=by
      rcases HNX.out with ⟨e1,e2,e3⟩ | e
      ·exfalso;omega
      ·exact e
     obtain ⟨y,hy⟩:∃ y,y=byt X' a:=⟨_,rfl⟩
     have i1:=fun u => idx_str X' a hlt u
     rw [<- hy] at i1
     have HY:=hid hy
     clear hy
     obtain ⟨c0,c1,c2,c3,c4⟩:=HWL4.out.sx.cells
     clear c0 c1 c3 c4
     have HHL:Hid (c=0 ∨ (c < c' /\ Lg X' (a+1) c' b')):=hlet.imp id (fun e => ⟨e,HNX2.out.1⟩)
     by_cases hc0:(c:Int)=0
     case' pos =>
      have d3:((c:Int) == 0)=true:=by simp [hc0]
      clear hc0 hlet
      go_upto_region 9 with fail
     case' neg =>
      have d3:((c:Int) == 0)=false:=by simp;omega
      have d4:c < c':=by omega
      clear hc0 hlet
      go_upto_region 9 with fail
     all_goals
      go_upto_region 10 with (at_builtin;refine wpList_append_lies _ rfl (.tmp 44) (.tmp 52) 127 rfl w.heap.size 158 i0 (.agg #[.int .u8 0,.int .i64 0,.int .i64 0]) 3 24 Tryz.underlying127 hi hz0 hz1 hz2 rfl (by decide) (.slice ia ws.length ic) ws.length (wcs ws) rfl (HRW.out.alloc _) ⟨W4.heap.size,0,none⟩ 1 1 [.int .u8 y,.int .i64 0,.int .i64 0] rfl rfl (by simpa using cells_new W4 #[.int .u8 y,.int .i64 0,.int .i64 0] 158) (by simp [Value.oneCell']) (by omega) (by unfold maxLen;omega) (by omega) (by simp;omega) (W4.heap.size+1) (by simp) ?_;intro g cap W5 hown hgrow hat hlt5)
      have hwx:wc3 (.lit (byu X' a))=[.int .u8 y,.int .i64 0,.int .i64 0]:=by rw [HY.out];rfl
      have HWL5:=hid (HWL4.out.push (x:=.lit (byu X' a)) (by rw [hwx];exact hown) hgrow hat)
      have HX5:Hid (W5.heap[N]? = _):=(hgrow.block N (by have:=(Array.getElem?_eq_some_iff.1 HX4.out).1;simp;omega) (fun e => HNe.out.2.2 e.symm)).trans ((Below.heap_alloc _ _ _ (Array.getElem?_eq_some_iff.1 HX4.out).1).trans HX4.out)
      clear h0 h1 h2 hf x0 x1 x2 xf c2 d3 i1 hown hgrow hat hlt5 hwx
      obtain ⟨h0,h1,h2,hf⟩:=cells3w HWL5.out.here
      obtain ⟨x0,x1,x2,xf⟩:=cells3w HX5.out
      obtain ⟨a1,hae⟩:∃ a1,a1=a+1:=⟨_,rfl⟩
      have jA:IntKind.i64.wrap ((a:Int)+1)=(a1:Int):=by rw [IntKind.wrap_i64];omega
      have HA1:=hid hae
      clear hae
      go_region_with (fail)
     all_goals
      have HWL6:=hid ((HWL5.out.setHere c' b').below ((Below.refl _ _).drew))
      clear h0 h1 h2 hf x0 x1 x2 xf
      generalize (((W5.setCell ⟨H,0,none⟩ (.int .u8 0)).setCell ⟨H,1,none⟩ (.int .i64 c')).setCell ⟨H,2,none⟩ (.int .i64 b')).drew=W6 at HWL6 ⊢
      obtain ⟨h0,h1,h2,hf⟩:=cells3w HWL6.out.here
      go_wp2
      have e1:=HA1.out
      refine ⟨⟨a1,ws ++ [Wd.lit (byu X' a)],_,c',b',pv3,rfl,rfl,by omega,by omega,?_,?_,?_⟩,by simp [intOf];omega⟩
      ·have:=HWL6.out.move
       rw [HNX2.out.2,<- e1] at this
       exact this
      ·rw [e1]
       exact HWS.out.lit hlt HLG.out HHL.out
      ·rw [e1]
       exact HNX2.out.1
    ·have hne:c ≠ 0:=by omega
     have d3:((c:Int) == 0)=false:=by simp;omega
     have d4:¬ c < c':=by omega
     have hl3:3<=c:=by have:=HLG.out.ok;omega
     have hle:=HLG.out.le
     clear hlet
     have HKN:Hid (kn4<=a+c):=by
      rcases HNX.out with ⟨e1,e2,e3⟩ | ⟨e1,e2⟩
      ·show _<=_;omega
      ·show _<=_;omega
     go_upto_region 12 with (at_builtin;refine wpList_append_lies _ rfl (.tmp 57) (.tmp 59) 127 rfl w.heap.size 158 i0 (.agg #[.int .u8 0,.int .i64 0,.int .i64 0]) 3 24 Tryz.underlying127 hi hz0 hz1 hz2 rfl (by decide) (.slice ia ws.length ic) ws.length (wcs ws) rfl (HRW.out.alloc _) ⟨W4.heap.size,0,none⟩ 1 1 [.int .u8 0,.int .i64 c,.int .i64 b] rfl rfl (by simpa using cells_new W4 #[.int .u8 0,.int .i64 c,.int .i64 b] 158) (by simp [Value.oneCell']) (by omega) (by unfold maxLen;omega) (by omega) (by simp;omega) (W4.heap.size+1) (by simp) ?_;intro g cap W5 hown hgrow hat hlt5)
     have HWL5:=hid (HWL4.out.push (x:=.mat c b) hown hgrow hat)
     clear h0 h1 h2 hf x0 x1 x2 xf d3 d4 hown hgrow hat hlt5
     obtain ⟨h0,h1,h2,hf⟩:=cells3w HWL5.out.here
     obtain ⟨a2,hae⟩:∃ a2,a2=a+c:=⟨_,rfl⟩
     have jA:IntKind.i64.wrap ((a:Int)+(c:Int))=(a2:Int):=by rw [IntKind.wrap_i64];omega
     have ha2l:a2<=X'.size:=by omega
     have hkk:kn4<=a2:=by have:=HKN.out;omega
     have hdd2:dr'=0 ∨ 32768<=a2:=by omega
     have HA2:=hid hae
     clear hae
     go_upto_region 14 with (go_at_call 107;refine (longest_any HWL5.out.sx hXl hdl a2 hkk ha2l hdd2 htr htr2).mono ?_;rintro e W6 ⟨c3,b3,pv6,rfl,hlg,hs6,hf6,hm6⟩;have HLG6:=hid hlg;have HWL6:=hid (HWL5.out.step hs6 hf6 hm6);clear h0 h1 h2 hf;obtain ⟨h0,h1,h2,hf⟩:=cells3w HWL6.out.here;clear hlg hs6 hf6 hm6)
     have HWL7:=hid (HWL6.out.setHere c3 b3)
     clear h0 h1 h2 hf
     generalize ((W6.setCell ⟨H,0,none⟩ (.int .u8 0)).setCell ⟨H,1,none⟩ (.int .i64 c3)).setCell ⟨H,2,none⟩ (.int .i64 b3)=W7 at HWL7 ⊢
     obtain ⟨h0,h1,h2,hf⟩:=cells3w HWL7.out.here
     go_wp2
     have e1:=HA2.out
     refine ⟨⟨a2,ws ++ [Wd.mat c b],_,c3,b3,pv6,rfl,rfl,by omega,by omega,hid HWL7.out.move,?_,HLG6⟩,by simp [intOf];omega⟩
     rw [e1]
     exact HWS.out.mat HLG.out hne
  ·have d1:decide ((a:Int) < (X'.size:Int))=false:=by simp;omega
   obtain rfl:a=X'.size:=by omega
   go_wp2
   obtain ⟨ao,cp,e1,e2⟩:=own_wseg HWL.out.row
   subst e1
   go_ret
   refine ⟨ao,cp,ws,pv',rfl,e2,HWS.out,?_,HWL.out.fr,HWL.out.mv⟩
   rw [show X'.size - 2=min X'.size (X'.size - 2) by omega]
   exact HWL.out.sx
end Go.Proofs.YthdmjmnkhlpnnabGreatDoor
namespace Go.Proofs.YthdmjmnkhlpnnabGreatDoor
theorem pv_asp (p:Nat) (t:List UInt8):pv (asp p t)=2 ^ lft p*(t.length+65536*(65535 - t.length)+4294967296*leN t):=by
 have e16:(2:Nat) ^ 16=65536:=by decide
 unfold asp
 rw [pv_append,byp_pv]
 simp only [pv,pl,Nat.mul_zero,Nat.add_zero,Nat.zero_add,e16]
 have e:(2:Nat) ^ (lft p+(16+16))=2 ^ lft p*4294967296:=by rw [Nat.pow_add]
 rw [e,Nat.mul_add,Nat.mul_add,Nat.mul_add,Nat.mul_assoc]
theorem asis_pw (V L:Nat) (t:List UInt8):V+2 ^ (L+2+lft (L+2))*(t.length+65536*(65535 - t.length)+4294967296*leN t)=pw V L ((0,2) :: asp (L+2) t):=by
 rw [pw_cons,pw,pv_asp,<- Nat.mul_assoc,<- Nat.pow_add]
 simp only [Nat.mul_zero,Nat.add_zero]
theorem asis_pl (L:Nat) (t:List UInt8):L+2+lft (L+2)+32+8*t.length=L+pl ((0,2) :: asp (L+2) t):=by
 show _=L+(2+pl (asp (L+2) t))
 rw [asp_pl]
 omega
structure Wok (hs t:List UInt8) (ws:List Wd) (n:Nat):Prop where
 ok:okm ws n
 le:n<=hs.length
 ex:exw ws hs=hs ++ t
 len:ws.length<=65535
 al:∀ c,(∀ x,x ∈ hs ++ t->x=c)->258*pl (wps zfa zfb ws)<=258*52+13*t.length
theorem Ws.wok {X:ByteArray} {hs t:List UInt8} {dr o:Nat} {ws:List Wd} (hX:X.data.toList=hs.drop dr) (hle:dr<=hs.length) (ho:o<=X.size) (ht:t.length<=65535) (h:Ws (X.extract o X.size ++ ⟨t.toArray⟩) (X.size - o) (X.extract o X.size ++ ⟨t.toArray⟩).size ws) :
  Wok hs t ws (X.size - o) /\ (X.extract o X.size ++ ⟨t.toArray⟩).data.toList=(hs ++ t).drop (dr+o) /\ dr+o<=hs.length /\ (X.extract o X.size ++ ⟨t.toArray⟩:ByteArray).size=X.size - o+t.length:=by
 have hxl:X.size=hs.length - dr:=by rw [<- szl,hX,List.length_drop]
 have e1:(X.extract o X.size ++ ⟨t.toArray⟩:ByteArray).data.toList=hs.drop (dr+o) ++ t:=by
  rw [ba_app,ba_ext_list,hX,ba_of,hxl,List.take_of_length_le (by rw [List.length_drop];omega),List.drop_drop]
 have e2:(X.extract o X.size ++ ⟨t.toArray⟩:ByteArray).size=X.size - o+t.length:=by
  rw [<- szl,e1,List.length_append,List.length_drop]
  omega
 have e3:(hs.drop (dr+o)).length=X.size - o:=by rw [List.length_drop];omega
 have hw:=h.wns
 have hl:=okm_len ws _ h.ok
 have hex:exw ws (hs.drop (dr+o))=hs.drop (dr+o) ++ t:=by
  have:=h.ex
  rw [e1,List.take_left' e3,List.take_of_length_le (by rw [List.length_append,e3,e2];omega)] at this
  exact this
 refine ⟨⟨h.ok,by omega,?_,by omega,fun c hc => ?_⟩,?_,by omega,e2⟩
 ·have e4:hs=hs.take (dr+o) ++ hs.drop (dr+o):=(List.take_append_drop _ _).symm
  have:=exw_pre ws (hs.take (dr+o)) (hs.drop (dr+o)) (by rw [e3];exact h.ok)
  rw [<- e4,hex,<- List.append_assoc,<- e4] at this
  exact this
 ·have hal:Alk (X.extract o X.size ++ ⟨t.toArray⟩) (X.size - o):=fun j _ h1 h2 => by
   have hm:∀ i,i < (X.extract o X.size ++ ⟨t.toArray⟩:ByteArray).size->(X.extract o X.size ++ ⟨t.toArray⟩:ByteArray).data.toList.getD i 0=c:=fun i hi => by
    rw [<- szl,e1] at hi
    rw [e1,List.getD_eq_getElem?_getD,List.getElem?_eq_getElem hi,Option.getD_some]
    apply hc
    have hmem:=List.getElem_mem hi
    rcases List.mem_append.1 hmem with q | q
    ·exact List.mem_append.2 (.inl (List.mem_of_mem_drop q))
    ·exact List.mem_append.2 (.inr q)
   unfold byt
   rw [hm j h2,hm (j - 1) (by omega)]
  have:=h.bits hal
  rw [e2] at this
  omega
 ·rw [e1,List.drop_append_of_le_length (by omega)]
end Go.Proofs.YthdmjmnkhlpnnabGreatDoor
namespace Go.Proofs.YthdmjmnkhlpnnabGreatDoor
open Go.RowKit Go.Maps
theorem Glo.fr {O:Nat->Prop} {w w':World} (h:Glo w) (hf:Fr O w w') (hO:¬ O 1):Glo w':=fun k hk => by
 have h1:=h k hk
 have hlt:=cell_in h1
 rw [<- h1]
 exact World.cell?_of_block (a:=⟨1,k,none⟩) (hf.blk _ hlt hO)
theorem Box.tb {w w':World} {q T:Nat} {v:Value} (h:Box w q T v) (t:Tb w w') (h1:T ≠ 83):Box w' q T v:=t _ _ _ _ h h1
theorem Caught.tb {w w':World} {qw qa qb:Nat} {ws:List Wd} {za zb:List Int} (h:Caught w qw qa qb ws za zb) (t:Tb w w'):Caught w' qw qa qb ws za zb:=by
 obtain ⟨ao,a1,a2,c,c1,c2,h1,h2,h3,h4,h5,h6⟩:=h.st
 exact ⟨ao,a1,a2,c,c1,c2,h1.tb t (by decide),h2.tb t,h3.tb t (by decide),h4.tb t,h5.tb t (by decide),h6.tb t⟩
theorem tb_two {a w:World} (hb:Below a.heap.size a w) {D:Nat} {cs:Array Value} (hD:a.heap[D]? = some (.cells cs 83 (0,0))) (x y:Value):Tb a ((w.setCell ⟨D,0,none⟩ x).setCell ⟨D,1,none⟩ y) :=
 ((Tb.below hb).set hD ⟨D,0,none⟩ rfl x).set hD ⟨D,1,none⟩ rfl y
inductive Chn (w:World) (q:Nat) (hs t:List UInt8) (n0:Nat):Nat->Fn->Array Value->Prop where
 | raw:Chn w q hs t n0 n0 (.func 75) #[.pointer (some ⟨q,0,none⟩)]
 | fix (ws:List Wd) (n qw qa qb:Nat) (hc:Caught w qw qa qb ws zfa zfb) (hw:Wok hs t ws n):Chn w q hs t n0 (2+pl (wps zfa zfb ws)) (.func 115) #[.pointer (some ⟨qw,0,none⟩),.pointer (some ⟨qa,0,none⟩),.pointer (some ⟨qb,0,none⟩)]
 | own (ws:List Wd) (n qh qw qa qb hb:Nat) (za zb zc:List Int) (k:Nat) (rs:List (Nat × Nat)) (hc:Caught w qw qa qb ws za zb) (hw:Wok hs t ws n) (hx:Box w qh 175 (.pointer (some ⟨hb,0,none⟩))) (hh:Hed w hb za.length zb.length zc k rs) (H:Head za zb zc k rs) (ga:Good za) (gb:Good zb) (hl:rs.length<=320) (hk:∀ m,n<=m->okw za zb ws m):Chn w q hs t n0 (2+pl (hps za zb zc k rs)+pl (wps za zb ws)) (.func 121) #[.pointer (some ⟨qh,0,none⟩),.pointer (some ⟨qw,0,none⟩),.pointer (some ⟨qa,0,none⟩),.pointer (some ⟨qb,0,none⟩)]
structure Cho (w:World) (q:Nat) (lv:Nat) (hs t:List UInt8) (n0 z:Nat) (h:Fn) (ch:Array Value):Prop where
 one:Chn w q hs t n0 z h ch
 raw:z<=n0
 zero:lv=0->z=n0
 fix:1<=lv -> ∃ ws n,Wok hs t ws n /\ z<=2+pl (wps zfa zfb ws)
structure Chd (w5 w:World) (D q:Nat) (lv:Nat) (hs t:List UInt8) (n0:Nat) (sv:Value) (Os:Nat->Prop) (z:Nat) (h:Fn) (ch:Array Value) (Os':Nat->Prop):Prop where
 best:w.heap[D]? = some (.cells #[.int .i64 z,.func h #[] ch] 83 (0,0))
 cho:Cho w q lv hs t n0 z h ch
 srch:Sv w lv (hs ++ t) sv Os'
 fr:Fr (fun k => Os k ∨ k=D) w5 w
 new:∀ k,Os' k->Os k ∨ w5.heap.size<=k
theorem pw_two (V L b:Nat) (r:List (Nat × Nat)):pw (V+2 ^ L*b) (L+1) r=V+2 ^ L*pv ((b,1) :: r):=(pw_cons V L (b,1) r).symm
theorem pl_two (L b:Nat) (r:List (Nat × Nat)):L+1+pl r=L+pl ((b,1) :: r):=by
 show _=L+(1+pl r)
 omega
set_option maxRecDepth 20000 in
set_option maxHeartbeats 4000000 in
theorem pblock_any (w:World) (O:Nat->Prop) (B V L:Nat) (t:List UInt8) (b:Bool) (lv:Nat) (hs:List UInt8) (h:Pq w O B V L t lv hs) (ht:t.length<=65535) (hL:L<=8589934592) (hsl:hs.length<=1000000000000) (hg:Glo w) (hgO:¬ O 1) :
  Calls Tryz.prog 38 #[.pointer (some ⟨B,0,none⟩),.bool b] w fun e w' => e = .returned (.tuple #[]) /\ ∃ ps O',Bq lv L hs b t ps /\ Pq w' O' B (V+2 ^ L*pv ps) (L+pl ps) [] lv (hs ++ t) /\ To O O' w w':=by
 obtain ⟨ov,pv1,sv,Os,hW,hp,hne,hv,hO⟩:=h.st
 have c3:=hW.wait
 have f3:=hW.free3
 have hcv:=bytes_run hp
 have HWb:=hid hW
 have HPO:=hid hp
 have HSV:=hid hv
 have HOO:=hid hO
 have HG:=hid hg
 have HGO:=hid hgO
 have HNE:=hid hne
 obtain ⟨pa,pc,rfl⟩:=row_shape hp
 clear h hW hp hv hO hg hgO hne
 go_enter Tryz.func38,Tryz.ntmps38
 go_upto_region 2 with fail
 have HW1:=hid (HWb.out.setp (.slice pa 0 pc))
 have HP1:Hid ((w.setCell ⟨B,3,none⟩ (.slice pa 0 pc)).ownsRow (B+1) 5 1 (.slice pa 0 pc) 0 []):=own_set (row_zero HPO.out) rfl _
 have HK1:Hid (Kw B ov w (w.setCell ⟨B,3,none⟩ (.slice pa 0 pc))):=(Kw.refl _ _ _).set 3 _
 generalize w.setCell ⟨B,3,none⟩ (.slice pa 0 pc)=w1 at HW1 HP1 HK1 ⊢
 have HSV1:=hid (HSV.out.kw HWb.out HK1.out)
 obtain ⟨Y,hY⟩:∃ Y:ByteArray,Y=⟨t.toArray⟩:=⟨_,rfl⟩
 have hYs:Y.size=t.length:=by rw [hY];show t.toArray.size=_;simp
 rw [<- hY]
 have HY:=hid hY
 have HYS:=hid hYs
 have hY5:Y.size<=65535:=by omega
 clear c3 f3 hcv hY hYs
 go_upto_region 4 with (first | (go_at_call 39;refine (wflag_any _ B ov V L _ _ b HW1.out (by omega)).mono ?_;rintro e w2 ⟨rfl,o2,hb2,hk2,hm2⟩;have cc:=hb2.count;have HW2:=hid hb2;have HK2:=hid hk2;have HM2:=hid hm2;clear hb2 hk2 hm2) | (go_at_call 40;refine (asIs_any w2 Y ((L+1) % 8) (by omega) hY5).mono ?_;rintro e w3 ⟨q,rfl,hq,hqb,hb3⟩;have HQ:=hid hqb;have HB3:=hid hb3;obtain ⟨XX,hX⟩:∃ X:Array Value,X=#[.int .i64 (2+lft ((L+1) % 8+2)+32+8*Y.size:Nat),.func (.func 75) #[] #[.pointer (some ⟨q,0,none⟩)]]:=⟨_,rfl⟩;have HX1:Hid ((Tryz.prog.info? 83).map (·.size)=some XX.size):=(by show _=_;rw [hX];kernel_rfl);have HX2:Hid (XX.all (·.oneCell')=true):=(by show _=_;rw [hX];simp [Value.oneCell']);have HX3:Hid (#[Value.int .i64 0,Value.nilFunc].size=XX.size):=(by show _=_;rw [hX];rfl);rw [<- hX];have HXX:=hid hX;clear hqb hb3 hX) | (refine wpList_store_row rfl 83 _ _ rfl w3.heap.size XX rfl rfl 83 _ (by exact heap_alloc_new w3 _) HX1.out HX3.out HX2.out ?_))
 have hb5:Below w3.heap.size w3 ((w3.alloc (.cells #[.int .i64 0,.nilFunc] 83)).setRow w3.heap.size XX):=below_row ((Below.refl _ _).alloc (Nat.le_refl _) _) (Nat.le_refl _) _
 have h5x:((w3.alloc (.cells #[.int .i64 0,.nilFunc] 83)).setRow w3.heap.size XX).heap[w3.heap.size]? = some (.cells XX 83 (0,0)):=setRow_heap _ _ _ _ _ _ (heap_alloc_new w3 _)
 generalize (w3.alloc (.cells #[.int .i64 0,.nilFunc] 83)).setRow w3.heap.size XX=W5 at hb5 h5x ⊢
 obtain ⟨n0,hn0⟩:∃ n0,n0=2+lft ((L+1) % 8+2)+32+8*Y.size:=⟨_,rfl⟩
 rw [HXX.out,<- hn0] at h5x
 obtain ⟨D,hD⟩:∃ D,D=w3.heap.size:=⟨_,rfl⟩
 rw [<- hD] at h5x ⊢
 have HB35:=hid (HB3.out.trans (hb5.mono HB3.out.size))
 have HW5:=hid (HW2.out.below HB35.out)
 have HSV5:=hid ((HSV1.out.kw HW1.out HK2.out).below HB35.out)
 have HQ5:Hid (W5.heap[q]? = some (.cells #[.string Y] 9 (0,0))):=(hb5.block q (Array.getElem?_eq_some_iff.1 HQ.out).1).trans HQ.out
 have HD5:=hid h5x
 have HN0:=hid hn0
 have HDD:=hid hD
 clear hb5 h5x hn0 hD cc HX1 HX2 HX3
 obtain ⟨sp,hsp⟩:∃ sp,sv = .pointer sp:=by
  cases HSV.out with
  | none => exact ⟨_,rfl⟩
  | some lv hs S X dr T M tv h1 h9 h hX hle hdr hXs => exact ⟨_,rfl⟩
 subst hsp
 have c4:=HW5.out.srch
 go_upto_if 37 with fail
 go_cut [6] (fun _ wx => ∃ (z:Nat) (hh:Fn) (ch:Array Value) (Os':Nat->Prop),Hid (Chd W5 wx D q lv hs t n0 (.pointer sp) Os z hh ch Os'))
 case first =>
  have hv5:=HSV5.out
  clear HSV5 HSV1 HSV
  cases hv5 with
  | none =>
   go_wp2
   go_meet
   exact ⟨n0,_,_,fun _ => False,⟨HD5.out,⟨.raw,Nat.le_refl _,fun _ => rfl,fun h => by omega⟩,.none _,Fr.refl _ _,fun k hk => hk.elim⟩⟩
  | some _ _ S X dr T M tv h1 h9 hsx hX hle hdr hXs =>
   have HSX:=hid hsx
   have HXL:=hid (And.intro hX hle)
   have hef:=eff_bd lv (by omega) h1
   obtain ⟨tr,htr⟩:∃ x,x=(eff lv).1:=⟨_,rfl⟩
   obtain ⟨en,hen⟩:∃ x,x=(eff lv).2:=⟨_,rfl⟩
   rw [<- htr,<- hen] at hef HSX
   have HEF:=hid (And.intro htr hen)
   clear hsx hX hle htr hen
   have hdl:dr<=10000000000000:=by have:=HXL.out.2;omega
   go_upto_region 6 with (go_at_call 68;refine (words_any HSX.out rfl hXs Y hY5 hdr hdl hef.1 (by omega) hef.2.2.1 (by omega)).mono ?_;rintro e W6 ⟨ao,cw,ws,tv6,rfl,hsg,hws,hs6,hf6,hm6⟩;have HSG6:=hid hsg;have HWS:=hid hws;have HS6:=hid hs6;have HF6:=hid hf6;have HM6:=hid hm6;clear hsg hws hs6 hf6 hm6)
   obtain ⟨o,ho⟩:∃ o,o=X.size - 32768:=⟨_,rfl⟩
   have hwk:=HWS.out
   have hs6:=HS6.out
   rw [<- ho] at hwk hs6
   rw [HY.out] at hwk hs6
   obtain ⟨hok,hxl,hdo,hxz⟩:=hwk.wok HXL.out.1 HXL.out.2 (by omega) ht
   obtain ⟨n,hn⟩:∃ n,n=X.size - o:=⟨_,rfl⟩
   rw [<- hn] at hok hxz
   have HOK:=hid hok
   have HSV6:Hid (Sv W6 lv (hs ++ t) (.pointer (some ⟨S,0,none⟩)) (SxO S T M tv6)):=by
    rw [HEF.out.1,HEF.out.2] at hs6
    exact .some lv (hs ++ t) S _ (dr+o) T M tv6 h1 h9 hs6 hxl (by rw [List.length_append];omega) (by rw [hxz];omega) (by rw [hxz];omega)
   have hwl:=hok.len
   clear hwk hs6 hok hxl hdo hxz HWS HS6 hn ho
   have HD6:Hid (W6.heap[D]? = _):=(HF6.out.blk D (Array.getElem?_eq_some_iff.1 HD5.out).1 (SxO.apart HSX.out HD5.out (by decide) (by decide) (by decide))).trans HD5.out
   go_upto_region 7 with (go_at_call 69;refine (countsOf_any W6 ao cw ws n HSG6.out HOK.out.ok hwl).mono ?_;rintro e W7 ⟨qc,rfl,-,hct,hb7⟩;have HCT:=hid hct;have HB7:=hid hb7;clear hct hb7)
   have HD7:Hid (W7.heap[D]? = some (.cells #[.int .i64 n0,.func (.func 75) #[] #[.pointer (some ⟨q,0,none⟩)]] 83 (0,0))):=(HB7.out.block D (Array.getElem?_eq_some_iff.1 HD6.out).1).trans HD6.out
   have HFO:Hid (Fr O w W7):=by
    have hO:=HOO.out
    have k1:Fr O w w1:=HK1.out.fr O (by rw [hO];exact .inl rfl) (fun k e => by rw [hO];exact .inr (.inl e))
    have k2:Fr O w1 w2:=HK2.out.fr O (by rw [hO];exact .inl rfl) (fun k e => by rw [hO];exact .inr (.inl e))
    exact (((k1.trans k2).below HB35.out).trans (HF6.out.mono (fun k e => by rw [hO];exact .inr (.inr (.inr e))))).below HB7.out
   have HG7:=hid (HG.out.fr HFO.out HGO.out)
   have HSG7d:Hid (WSeg W7.drew ao ws):=(HSG6.out.ty (Ty.below HB7.out)).ty (Ty.below (Below.refl _ W7).drew)
   have HCT7d:Hid (Cnt W7.drew qc ⟨inc (cnw ws).a 256,(cnw ws).b,(cnw ws).n⟩):=HCT.out.below (Below.refl _ W7).drew
   have d7a:W7.cell? ⟨D,0,none⟩=some (.int .i64 n0):=by rw [cell_of_row _ _ 0 _ _ _ HD7.out];rfl
   have d7b:W7.cell? ⟨D,1,none⟩=some (.func (.func 75) #[] #[.pointer (some ⟨q,0,none⟩)]):=by rw [cell_of_row _ _ 1 _ _ _ HD7.out];rfl
   have hDl:D < W7.heap.size:=(Array.getElem?_eq_some_iff.1 HD7.out).1
   clear c4
   go_region_with (first
     | (go_at_call 70;refine (shorter2_any W10 n0 z1 (.func 75) h1f #[.pointer (some ⟨q,0,none⟩)] ch1).mono ?_;rintro e W11 ⟨z2,h2f,ch2,rfl,hpk2,hb11⟩;have HPK2:=hid hpk2;have HBZ:=hid hb11;have HB11:=hid (HB10.out.trans (hb11.mono HB10.out.size));have d11a:W11.cell? ⟨D,0,none⟩=some (.int .i64 n0):=(HB11.out.cell (p:=⟨D,0,none⟩) hDl).trans d7a;have d11b:W11.cell? ⟨D,1,none⟩=some (.func (.func 75) #[] #[.pointer (some ⟨q,0,none⟩)]):=(HB11.out.cell (p:=⟨D,1,none⟩) hDl).trans d7b;have f11:∀ j,W11.frozen? ⟨D,j,none⟩=false:=(fun j => by have:=(HB11.out.block D hDl).trans HD7.out;simp [World.frozen?,this]);clear hpk2 hb11)
     | (go_at_call 70;refine (shorter2_any W9 fb ob (.func 115) (.func 121) #[.pointer (some ⟨qw,0,none⟩),.pointer (some ⟨qa,0,none⟩),.pointer (some ⟨qb,0,none⟩)] #[.pointer (some ⟨qh,0,none⟩),.pointer (some ⟨qw2,0,none⟩),.pointer (some ⟨qa2,0,none⟩),.pointer (some ⟨qb2,0,none⟩)]).mono ?_;rintro e W10 ⟨z1,h1f,ch1,rfl,hpk1,hb10⟩;have HPK1:=hid hpk1;have HB10:=hid (HB9.out.trans (hb10.mono HB9.out.size));have HBX:=hid hb10;have d10a:W10.cell? ⟨D,0,none⟩=some (.int .i64 n0):=(HB10.out.cell (p:=⟨D,0,none⟩) hDl).trans d7a;have d10b:W10.cell? ⟨D,1,none⟩=some (.func (.func 75) #[] #[.pointer (some ⟨q,0,none⟩)]):=(HB10.out.cell (p:=⟨D,1,none⟩) hDl).trans d7b;clear hpk1 hb10)
     | (go_at_call 72;refine (powner_any W8 ao cw qc ws n HSG8.out HOK.out.ok hwl HCT8.out HG8.out).mono ?_;rintro e W9 ⟨qh,qw2,qa2,qb2,hb,za,zb,zc,kk,rs,rfl,g1,g2,g3,g4,g5,g6,g7,g8,hb9⟩;have HOW:=hid (And.intro g1 (And.intro g2 (And.intro g3 (And.intro g4 (And.intro g5 (And.intro g6 (And.intro g7 g8)))))));have HB9:=hid (HB8.out.trans (hb9.mono HB8.out.size));have HBY:=hid hb9;obtain ⟨ob,hob⟩:∃ x,x=2+pl (hps za zb zc kk rs)+pl (wps za zb ws):=⟨_,rfl⟩;rw [<- hob];have HOB:=hid hob;have d9a:W9.cell? ⟨D,0,none⟩=some (.int .i64 n0):=(HB9.out.cell (p:=⟨D,0,none⟩) hDl).trans d7a;have d9b:W9.cell? ⟨D,1,none⟩=some (.func (.func 75) #[] #[.pointer (some ⟨q,0,none⟩)]):=(HB9.out.cell (p:=⟨D,1,none⟩) hDl).trans d7b;clear hob hb9 g1 g2 g3 g4 g5 g6 g7 g8)
     | (go_at_call 71;refine (pfixed_any W7.drew ao cw qc ws n HSG7d.out HOK.out.ok hwl HCT7d.out).mono ?_;rintro e W8 ⟨qw,qa,qb,rfl,hcg,hb8⟩;have HCG:=hid hcg;have HB8:=hid (((Below.refl W7.heap.size W7).drew).trans hb8);have HSG8:=hid (HSG7d.out.ty (Ty.below hb8));have HCT8:=hid (HCT7d.out.below hb8);have HG8:=hid (HG7.out.below HB8.out (cell_in (HG7.out 0 (by omega))));obtain ⟨fb,hfb⟩:∃ x,x=2+pl (wps zfa zfb ws):=⟨_,rfl⟩;rw [<- hfb];have HFB:=hid hfb;have d8a:W8.cell? ⟨D,0,none⟩=some (.int .i64 n0):=(HB8.out.cell (p:=⟨D,0,none⟩) hDl).trans d7a;have d8b:W8.cell? ⟨D,1,none⟩=some (.func (.func 75) #[] #[.pointer (some ⟨q,0,none⟩)]):=(HB8.out.cell (p:=⟨D,1,none⟩) hDl).trans d7b;clear hfb hcg hb8))
   all_goals
    have HDx:Hid (∀ u,Below W7.heap.size W7 u->u.heap[D]? = some (.cells #[.int .i64 n0,.func (.func 75) #[] #[.pointer (some ⟨q,0,none⟩)]] 83 (0,0))):=fun u hu => (hu.block D hDl).trans HD7.out
    have HCHO:Hid (∃ z:Nat,z2=(z:Int) /\ Cho ((W11.setCell ⟨D,0,none⟩ (.int .i64 z2)).setCell ⟨D,1,none⟩ (.func h2f #[] ch2)) q lv hs t n0 z h2f ch2):=by
     have e9:=HB9.out
     have b89:Below W8.heap.size W8 W11:=(HBY.out.trans (HBX.out.mono HBY.out.size)).trans (HBZ.out.mono (by have:=HBY.out.size;have:=HBX.out.size;omega))
     have b9:Below W9.heap.size W9 W11:=HBX.out.trans (HBZ.out.mono HBX.out.size)
     have t8:=tb_two b89 (HDx.out W8 HB8.out) (.int .i64 z2) (.func h2f #[] ch2)
     have t9:=tb_two b9 (HDx.out W9 HB9.out) (.int .i64 z2) (.func h2f #[] ch2)
     obtain ⟨g1,g2,g3,g4,g5,g6,g7,g8⟩:=HOW.out
     have efb:=HFB.out
     have eob:=HOB.out
     rcases HPK2.out with ⟨a1,a2,a3,a4⟩ | ⟨a1,a2,a3,a4⟩
     ·rcases HPK1.out with ⟨c1,c2,c3,c4⟩ | ⟨c1,c2,c3,c4⟩
      ·refine ⟨ob,by omega,?_⟩
       have hone:=Chn.own (q:=q) (n0:=n0) ws n qh qw2 qa2 qb2 hb za zb zc kk rs (g1.tb t9) HOK.out (g2.tb t9 (by decide)) (g3.tb t9) g4 g5 g6 g7 g8
       rw [<- eob,<- c3,<- c4,<- a3,<- a4] at hone
       exact ⟨hone,by omega,fun h0 => by omega,fun _ => ⟨ws,n,HOK.out,by omega⟩⟩
      ·refine ⟨fb,by omega,?_⟩
       have hone:=Chn.fix (q:=q) (n0:=n0) ws n qw qa qb (HCG.out.tb t8) HOK.out
       rw [<- efb,<- c3,<- c4,<- a3,<- a4] at hone
       exact ⟨hone,by omega,fun h0 => by omega,fun _ => ⟨ws,n,HOK.out,by omega⟩⟩
     ·refine ⟨n0,by omega,?_⟩
      have hone:Chn ((W11.setCell ⟨D,0,none⟩ (.int .i64 z2)).setCell ⟨D,1,none⟩ (.func h2f #[] ch2)) q hs t n0 n0 _ _:=Chn.raw
      rw [<- a3,<- a4] at hone
      refine ⟨hone,Nat.le_refl _,fun _ => rfl,fun _ => ⟨ws,n,HOK.out,?_⟩⟩
      rcases HPK1.out with ⟨c1,c2,c3,c4⟩ | ⟨c1,c2,c3,c4⟩ <;> omega
    have HSVx:Hid (Sv ((W11.setCell ⟨D,0,none⟩ (.int .i64 z2)).setCell ⟨D,1,none⟩ (.func h2f #[] ch2)) lv (hs ++ t) (.pointer (some ⟨S,0,none⟩)) (SxO S T M tv6)):=by
     have s11:=(HSV6.out.below HB7.out).below HB11.out
     have hap:=s11.apart (HDx.out W11 HB11.out) (by decide) (by decide) (by decide)
     exact s11.kept (fun k hk => by
       have hk':k ≠ D:=fun e => hap (e ▸ hk)
       rw [Below.heap_setCell _ _ _ _ (by exact hk'),Below.heap_setCell _ _ _ _ (by exact hk')]) (by simp)
    have HBEST:Hid (((W11.setCell ⟨D,0,none⟩ (.int .i64 z2)).setCell ⟨D,1,none⟩ (.func h2f #[] ch2)).heap[D]? = some (.cells #[.int .i64 z2,.func h2f #[] ch2] 83 (0,0))):=by
     show _=_
     rw [blk_set (blk_set (HDx.out W11 HB11.out) _ _) _ _];rfl
    have HFRx:Hid (Fr (fun k => SxO S T M tv k ∨ k=D) W5 ((W11.setCell ⟨D,0,none⟩ (.int .i64 z2)).setCell ⟨D,1,none⟩ (.func h2f #[] ch2))):=((((HF6.out.mono (fun _ e => .inl e)).below HB7.out).below HB11.out).set ⟨D,0,none⟩ (.inr rfl) _).set ⟨D,1,none⟩ (.inr rfl) _
    go_wp2
    go_meet
    obtain ⟨z,hz,hcho⟩:=HCHO.out
    have hbest:=HBEST.out
    have hsvx:=HSVx.out
    have hfrx:=HFRx.out
    rw [hz] at hcho hbest hsvx hfrx ⊢
    exact ⟨z,h2f,ch2,SxO S T M tv6,⟨hbest,hcho,hsvx,hfrx,fun k hk => SxO.moved HM6.out k hk⟩⟩
 case rest =>
  obtain ⟨z,hh,ch,Os',HCD⟩:=hcut
  clear c4
  obtain ⟨ro,hro,csB,hcB⟩:=HW5.out.row
  have HAPB:=hid (HSV5.out.apart hcB (by decide) (by decide) (by decide))
  have hBD:B ≠ D:=fun e => by
   have h1:=hcB
   rw [e,HD5.out] at h1
   injection h1 with h1;injection h1 with _ h1;exact absurd h1 (by decide)
  have HFC:=hid HCD.out.fr
  have hrow:∀ {v:Value} {n:Nat} {xs:List Value},W5.ownsRow (B+1) 5 1 v n xs -> ∀ k,some k=v.ownBlock->wc.heap[k]? = W5.heap[k]?:=fun hr k e => by
   obtain ⟨cs,hc⟩:=row_cells hr e
   refine HFC.out.blk k (Array.getElem?_eq_some_iff.1 hc).1 (fun e' => ?_)
   rcases e' with e' | e'
   ·exact HSV5.out.apart hc (by decide) (by decide) (by decide) e'
   ·rw [e',HD5.out] at hc
    injection hc with hc;injection hc with _ hc;exact absurd hc (by decide)
  have HWc:Hid (Wb wc B o2 (V+2 ^ L*b.toNat) (L+1) (.slice pa 0 pc) (.pointer sp)):=HW5.out.kept (HFC.out.blk B HW5.out.lt (fun e => e.elim HAPB.out hBD)) (hrow hro)
  have eo:(Value.slice pa t.length pc).ownBlock=(Value.slice pa 0 pc).ownBlock:=by cases pa <;> rfl
  have hne1:=HNE.out
  rw [eo] at hne1
  have hp2:=own_kw HP1.out HK2.out hne1
  have hn2:=ne_moved HP1.out HM2.out hne1
  have hp5:W5.ownsRow (B+1) 5 1 (.slice pa 0 pc) 0 []:=own_below hp2 HB35.out
  have HPc:Hid (wc.ownsRow (B+1) 5 1 (.slice pa 0 pc) 0 []):=owns_kept hp5 (fun k e => hrow hp5 k e.symm)
  have HNc:=hid hn2
  have HQc:Hid (wc.heap[q]? = some (.cells #[.string Y] 9 (0,0))):=(HFC.out.blk q (Array.getElem?_eq_some_iff.1 HQ5.out).1 (fun e => by
    rcases e with e | e
    · exact HSV5.out.apart HQ5.out (by decide) (by decide) (by decide) e
    · have h1:=HQ5.out
      rw [e,HD5.out] at h1
      injection h1 with h1;injection h1 with _ h1;exact absurd h1 (by decide))).trans HQ5.out
  have HWd:Hid (Wb wc.drew B o2 (V+2 ^ L*b.toNat) (L+1) (.slice pa 0 pc) (.pointer sp)):=HWc.out.drewN 1
  have HBQ:Hid (∀ ps,Bl L hs b t ps->pl ps=1+z->Bq lv L hs b t ps):=fun ps hbl hpl => by
   have e0:=HN0.out
   have e1:=HYS.out
   have e2:lft ((L+1) % 8+2)=lft (L+3):=by unfold lft;omega
   refine ⟨hbl,ht,?_,fun h1 c hc => ?_,fun h0 => ?_⟩
   ·have:=HCD.out.cho.raw
    omega
   ·obtain ⟨ws,n,hw,hz⟩:=HCD.out.cho.fix h1
    have:=hw.al c hc
    omega
   ·have:=HCD.out.cho.zero h0
    omega
  have HFIN:Hid (∀ (W9:World) (o9:Value) (ps:List (Nat × Nat)),Wb W9 B o9 (V+2 ^ L*pv ps) (L+pl ps) (.slice pa 0 pc) (.pointer sp)->Kw B o2 wc.drew W9->Moved o2 o9 wc.drew->Bq lv L hs b t ps -> ∃ ps O',Bq lv L hs b t ps /\ Pq W9 O' B (V+2 ^ L*pv ps) (L+pl ps) [] lv (hs ++ t) /\ To O O' w W9):=fun W9 o9 ps hw9 hk9 hm9 hbq => by
   have hsv:Sv wc.drew lv (hs ++ t) (.pointer sp) Os':=HCD.out.srch.below (Below.refl _ wc).drew
   have hpd:wc.drew.ownsRow (B+1) 5 1 (.slice pa 0 pc) 0 []:=HPc.out
   refine ⟨ps,PqO B o9 (.slice pa 0 pc) Os',hbq,⟨o9,.slice pa 0 pc,.pointer sp,Os',hw9,own_kw hpd hk9 HNc.out,ne_moved hpd hm9 HNc.out,hsv.kw HWd.out hk9,rfl⟩,?_⟩
   have hO:=HOO.out
   have z1:=HK1.out.env.size
   have z2:=HK2.out.env.size
   have z3:=HB35.out.size
   have z5:=HCD.out.fr.env.size
   have k1:Fr O w w1:=HK1.out.fr O (by rw [hO];exact .inl rfl) (fun k e => by rw [hO];exact .inr (.inl e))
   have k2:Fr O w1 w2:=HK2.out.fr O (by rw [hO];exact .inl rfl) (fun k e => by rw [hO];exact .inr (.inl e))
   have k5:Fr O w W5:=(k1.trans k2).below HB35.out
   have zD:w.heap.size<=D:=by have:=HB3.out.size;have:=HDD.out;omega
   have kc:Fr O w wc.drew:=(k5.next HCD.out.fr (fun k e => by
     rcases e with e | e
     · exact .inl (by rw [hO];exact .inr (.inr (.inr e)))
     ·exact .inr (by omega))).below (Below.refl _ wc).drew
   have mo2:∀ k,some k=o2.ownBlock->O k ∨ w.heap.size<=k:=fun k e => by
    rcases HM2.out with m | ⟨q',hq',m⟩
    ·exact .inl (by rw [hO];exact .inr (.inl (e.trans m)))
    ·rw [m] at e;injection e with e;exact .inr (by omega)
   refine ⟨kc.next (hk9.fr (fun k => k=B ∨ some k=o2.ownBlock) (.inl rfl) (fun k e => .inr e)) (fun k e => ?_),fun k e => ?_⟩
   ·rcases e with e | e
    ·exact .inl (by rw [hO];exact .inl e)
    ·exact mo2 k e
   ·rcases e with e | e | e | e
    ·exact .inl (by rw [hO];exact .inl e)
    ·rcases hm9 with m | ⟨q',hq',m⟩
     ·exact mo2 k (e.trans m)
     ·rw [m] at e;injection e with e
      have:wc.drew.heap.size=wc.heap.size:=rfl
      exact .inr (by omega)
    ·exact .inl (by rw [hO];exact .inr (.inr (.inl (by rw [eo];exact e))))
    ·rcases HCD.out.new k e with e | e
     ·exact .inl (by rw [hO];exact .inr (.inr (.inr e)))
     ·exact .inr (by omega)
  have cX:wc.cell? ⟨D,1,none⟩=some (.func hh #[] ch):=by rw [cell_of_row _ _ 1 _ _ _ HCD.out.best];rfl
  have hone:=HCD.out.cho.one
  clear hrow hro hcB hBD hne1 hp2 hn2 hp5 eo
  obtain ⟨V1,hV1⟩:∃ x,x=V+2 ^ L*b.toNat:=⟨_,rfl⟩
  obtain ⟨L1,hL1⟩:∃ x,x=L+1:=⟨_,rfl⟩
  rw [<- hV1,<- hL1] at HWd
  have HVL:=hid (And.intro hV1 hL1)
  have hL1l:L1<=8589934593:=by omega
  clear hV1 hL1
  cases hone with
  | raw =>
   go_wp2
   go_region_with (go_at_call 75;refine (asIs1_any wc.drew B o2 _ _ _ _ q Y HWd.out HQc.out hY5 (by omega)).mono ?_;rintro e w6 ⟨rfl,o6,hb6,hk6,hm6⟩;have HW6:=hid hb6;have HK6:=hid hk6;have HM6:=hid hm6;clear hb6 hk6 hm6)
   all_goals
    go_wp2
    go_end0
    have hw:=HW6.out
    rw [HYS.out,show Y.data.toList=t by rw [HY.out],asis_pw,asis_pl,HVL.out.1,HVL.out.2,pw_two,pl_two L b.toNat] at hw
    refine ⟨rfl,HFIN.out _ o6 ((b.toNat,1) :: (0,2) :: asp (L+1+2) t) hw HK6.out HM6.out (HBQ.out _ (Bl.raw L hs b t ht) ?_)⟩
    show 1+(2+pl (asp (L+3) t))=1+n0
    have e1:=HYS.out
    have e2:lft ((L+1) % 8+2)=lft (L+3):=by unfold lft;omega
    rw [asp_pl,HN0.out,e1,e2]
    omega
  | fix ws n qw qa qb hcg hwk =>
   have HCGd:Hid (Caught wc.drew qw qa qb ws zfa zfb):=hcg.ty (Ty.below (Below.refl _ wc).drew)
   have HWK:=hid hwk
   have hwl:=hwk.len
   have HOKW:=hid (fix_okw ws n hs.length hwk.ok hwk.le)
   have h288:zfa.length<=320:=by rw [zfa_len];omega
   have h32:zfb.length<=320:=by rw [zfb_len];omega
   clear hcg hwk
   go_wp2
   go_region_with (go_at_call 115;refine (fixed1_any wc.drew B qw qa qb _ _ _ _ o2 ws zfa zfb hs.length HWd.out HCGd.out HOKW.out zfa_good zfb_good h288 h32 hwl (by omega)).mono ?_;rintro e w6 ⟨rfl,hst⟩;have HST:=hid hst;clear hst)
   all_goals
    go_wp2
    go_end0
    obtain ⟨o6,hw,hk6,hm6⟩:=HST.out.st
    rw [HVL.out.1,HVL.out.2,pw_two,pl_two L b.toNat] at hw
    exact ⟨rfl,HFIN.out _ o6 _ hw hk6 hm6 (HBQ.out _ (Bl.fix L hs b t ws HOKW.out HWK.out.ex) rfl)⟩
  | own ws n qh qw qa qb hb za zb zc k rs hcg hwk hx hed H ga gb hl hk =>
   have HCGd:Hid (Caught wc.drew qw qa qb ws za zb):=hcg.ty (Ty.below (Below.refl _ wc).drew)
   have HBXd:Hid (Box wc.drew qh 175 (.pointer (some ⟨hb,0,none⟩))):=hx
   have HEDd:Hid (Hed wc.drew hb za.length zb.length zc k rs):=hed.tb (Tb.below (Below.refl _ wc).drew)
   have HWK:=hid hwk
   have HHD:=hid H
   have HGAB:=hid (And.intro ga gb)
   have hwl:=hwk.len
   have HOKW:=hid (hk hs.length hwk.le)
   clear hcg hwk hx hed H ga gb hk
   go_wp2
   go_region_with (go_at_call 121;refine (own1_any wc.drew B qh qw qa qb hb _ _ _ _ o2 ws za zb zc k rs hs.length HWd.out HCGd.out HBXd.out HEDd.out HHD.out HOKW.out HGAB.out.1 HGAB.out.2 hwl hl (by omega)).mono ?_;rintro e w6 ⟨rfl,hst⟩;have HST:=hid hst;clear hst)
   all_goals
    go_wp2
    go_end0
    obtain ⟨o6,hw,hk6,hm6⟩:=HST.out.st
    rw [HVL.out.1,HVL.out.2,pw_two,pl_two L b.toNat] at hw
    refine ⟨rfl,HFIN.out _ o6 _ hw hk6 hm6 (HBQ.out _ (Bl.own L hs b t ws za zb zc k rs HHD.out HGAB.out.1 HGAB.out.2 HOKW.out HWK.out.ex) ?_)⟩
    show 1+(2+pl (hps za zb zc k rs ++ wps za zb ws))=_
    rw [pl_append]
    omega
end Go.Proofs.YthdmjmnkhlpnnabGreatDoor
