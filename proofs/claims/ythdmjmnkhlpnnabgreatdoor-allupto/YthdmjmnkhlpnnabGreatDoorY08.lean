import Derived.Test.YthdmjmnkhlpnnabGreatDoorY03
import Derived.Test.YthdmjmnkhlpnnabGreatDoorY05
import Derived.Test.YthdmjmnkhlpnnabGreatDoorZ06
namespace Go.Proofs.YthdmjmnkhlpnnabGreatDoor
open Go.RowKit
theorem Rf.grownInts {w w':World} {B:Nat} {s:ByteArray} {p:Nat} {tv:Value} {t:List UInt8} {M:Int} {E:Nat} {v:Value} {n base:Nat} {xs:List Value} (h:Rf w B s p tv t M E) (hg:w.grownBy w' v.ownBlock) (ho:w.ownsRow base 3 1 v n xs):Rf w' B s p tv t M E:=by
 have hT:∀ (k:Nat) (cs:Array Value) (T:TypeId) (fr:Nat × Nat),w.heap[k]? = some (.cells cs T fr)->T ≠ 3->w'.heap[k]? = w.heap[k]?:=fun k cs T fr hk hT => hg.block k (Array.getElem?_eq_some_iff.1 hk).1 (fun e => by
   rcases ho with ⟨_,⟨rfl,_⟩ | ⟨g,cap,cur,rfl,_,hh,_⟩⟩
   · simp [Value.ownBlock] at e
   · simp [Value.ownBlock] at e
     subst e
     rw [hh] at hk;injection hk with hk;injection hk with _ hk _;exact hT hk.symm)
 obtain ⟨far,hb⟩:=h.blk
 refine ⟨⟨far,(hT B _ _ _ hb (by decide)).trans hb⟩,?_,h.sml,h.fit,h.len,h.rom⟩
 obtain ⟨h1,h2⟩:=h.own
 refine ⟨h1,?_⟩
 rcases h2 with h2 | ⟨gg,cap,cur,hv,hgg,hh,r⟩
 ·exact Or.inl h2
 ·exact Or.inr ⟨gg,cap,cur,hv,hgg,(hT gg _ _ _ hh (by decide)).trans hh,r⟩
def mesL (w:World) (B N:Nat) (lv:Value):Nat:=if intOf ((w.cell? ⟨B,4,none⟩).getD (.int .i64 0))=0 then N+1 - lenOf lv else 0
theorem Rf.mesl {w:World} {B:Nat} {s:ByteArray} {p:Nat} {tv:Value} {t:List UInt8} {M:Int} {E:Nat} (h:Rf w B s p tv t M E) (N:Nat) (ao:Option Addr) (n c:Nat):mesL w B N (.slice ao n c)=if E=0 then N+1 - n else 0:=by
 have c4:=h.cell.2.2.2.2.1
 unfold mesL
 rw [c4]
 simp [intOf,lenOf]
def Rnd (B:Nat) (s:ByteArray) (tv:Value) (t:List UInt8) (M:Int) (r:Ls) (w:World) (e:Ending) (w':World):Prop :=
 match r with
 | .ok l q => ∃ v,e = .returned v /\ w'.ownsRow w.heap.size 3 1 v l.length (ivs l) /\ Rf w' B s q tv t M 0 /\ Kp 143 B w w'
 | .no k => ∃ v,e = .returned v /\ (∃ p',Rf w' B s p' tv t M k) /\ Kp 143 B w w'
set_option maxRecDepth 20000 in
set_option maxHeartbeats 6400000 in
theorem rlengths_any (w:World) (B:Nat) (s:ByteArray) (p:Nat) (tv:Value) (t:List UInt8) (M:Int) (zc:List Int) (cv:Value) (N:Nat) (h:Rf w B s p tv t M 0) (hc:Coder w zc cv) (hm:zc.length=19) (hN:N<=400) :
  Calls Tryz.prog 139 #[.pointer (some ⟨B,0,none⟩),cv,.int .i64 N] w fun e w' => Rnd B s tv t M (lnF zc s N (N+1) [] p) w e w':=by
 obtain ⟨sv,base,rfl,ho⟩:=hc
 obtain ⟨so,sc,rfl⟩:=own_shape ho
 have hlt:=h.lt
 have hfi:=h.fit
 obtain ⟨o,ho'⟩:∃ o:Obj,o=Obj.cells (cd4 (cF zc) (fun j => (cnt zc j:Int)) (cA zc) (.slice so (plc zc 15) sc)) 146:=⟨_,rfl⟩
 have HBX:Hid ((w.alloc o).heap[w.heap.size]? = some (.cells (cd4 (cF zc) (fun j => (cnt zc j:Int)) (cA zc) (.slice so (plc zc 15) sc)) 146 (0,0))):=by show _=_;rw [heap_alloc_new w o,ho']
 have HR0:=hid (h.alloc o)
 have HO0:=hid (ho.alloc o)
 have HK0:Hid (Kp 143 B w (w.alloc o)):=(Kp.refl _ _ _).alloc (Nat.le_of_lt hlt) o
 have HM:=hid hm
 obtain ⟨i0,hi,hz0,hz1,hz2⟩:=info_parts info3
 have HZ:=hid (And.intro hi (And.intro hz0 (And.intro hz1 hz2)))
 obtain ⟨L,hL⟩:∃ L,L=lnF zc s N (N+1) [] p:=⟨_,rfl⟩
 rw [<- hL]
 have HL0:=hid hL
 clear hL h ho hm hi hz0 hz1 hz2
 go_enter Tryz.func139,Tryz.ntmps139
 go_wp2
 rw [<- ho']
 clear ho'
 have hW:(w.alloc o).heap.size=w.heap.size+1:=by simp
 obtain ⟨W,hWW⟩:∃ W,W=w.alloc o:=⟨_,rfl⟩
 rw [<- hWW] at HBX HR0 HO0 HK0 hW ⊢
 have hW1:w.heap.size<=W.heap.size:=by omega
 have hBW:B<=W.heap.size:=by omega
 clear hWW hW
 go_loopw [7] (fun lv wr => ∃ (f q E:Nat) (l:List Int),l.length<=560 /\ Hid (wr.ownsRow W.heap.size 3 1 lv l.length (ivs l)) /\ Hid (Rf wr B s q tv t M E) /\ Hid (Kp 143 B W wr) /\ (E=0 /\ l.length<=N /\ N < f+l.length /\ Hid (L=lnF zc s N f l q) /\ Hid (l.any nl=false) ∨ E=0 /\ N < l.length /\ Hid (L = .no 3) ∨ E ≠ 0 /\ l.length<=N /\ Hid (L = .no E))) (fun lv wr => mesL wr B N lv)
 case atStart => exact ⟨N+1,p,0,[],by simp,⟨rfl,Or.inl ⟨rfl,rfl⟩⟩,HR0,Kp.refl _ _ _,.inl ⟨rfl,by simp,by simp,HL0,rfl⟩⟩
 case round =>
  clear HL0 HR0
  obtain ⟨f0,q,E,l,hl5,hO,hR,hK,hor⟩:=hrel
  obtain ⟨ao,c,rfl⟩:=own_shape hO.out
  have c4:=hR.out.cell.2.2.2.2.1
  have HMS:=hid (hR.out.mesl N ao l.length c)
  rcases hor with ⟨rfl,hlN0,hf0,hL,hA⟩ | ⟨rfl,hpast,hL⟩ | ⟨hE,hlN,hL⟩
  ·obtain ⟨f,rfl⟩:∃ f,f0=f+1:=⟨f0 - 1,by omega⟩
   by_cases hlN:l.length < N
   ·have HB2:=hid (hK.out.cells HBX.out (by decide) (by decide))
    have HSY:=hid (rsym_any wr B s q tv t M zc (.slice so (plc zc 15) sc) base hR.out (own_kp HO0.out hK.out (.inr rfl)) (by rw [HM.out];omega))
    cases hs:sym zc s q with
    | no en =>
     rw [hs] at HSY
     have hen:=sym_no hs
     have hbe:((en:Int) == 0)=false:=by rw [beq_eq_false_iff_ne];omega
     have HN:Hid (L = .no en):=by show _=_;rw [hL.out,lnF_sym hlN hs]
     clear hs
     go_wp2_with (first | (refine wpList_load_row rfl 146 _ rfl w.heap.size rfl 146 (cd4 (cF zc) (fun j => (cnt zc j:Int)) (cA zc) (.slice so (plc zc 15) sc)) (0,0) _ (by exact HB2.out) Tryz.underlying146 rfl (info46' _ _ _ _) ?_) | (go_at_call 136;refine HSY.out.mono ?_;rintro e1 w1 ⟨rfl,⟨p1,hr1⟩,hk1⟩;have e4:=hr1.cell.2.2.2.2.1;have HR1:=hid hr1;have HKw:=hid hk1;have HK1:=hid (hK.out.trans hk1);clear hr1 hk1))
     go_loopw [7,14] (fun lv iv wi => lv = .slice ao l.length c /\ iv = .int .i64 0 /\ wi=w1) (fun _ _ _ => 0)
     case atStart => exact ⟨rfl,rfl,rfl⟩
     case round =>
      obtain ⟨rfl,rfl,rfl⟩:=hrel
      go_wp2
      refine ⟨⟨f,p1,en,l,hl5,own_kp hO.out HKw.out (.inr rfl),HR1,HK1,.inr (.inr ⟨hen,by omega,HN⟩)⟩,?_⟩
      rw [HR1.out.mesl,HMS.out,if_neg hen]
      simp
      omega
    | ok v r =>
     rw [hs] at HSY
     have hv:=sym_ok hs
     rw [HM.out] at hv
     by_cases h16:v=16 /\ l.length=0
     ·have HN:Hid (L = .no 3):=by show _=_;rw [hL.out,lnF_16 hlN hs h16]
      obtain ⟨rfl,h0⟩:=h16
      have h0':l=[]:=List.eq_nil_of_length_eq_zero h0
      subst h0'
      clear hs h0
      go_wp2_with (first | (refine wpList_load_row rfl 146 _ rfl w.heap.size rfl 146 (cd4 (cF zc) (fun j => (cnt zc j:Int)) (cA zc) (.slice so (plc zc 15) sc)) (0,0) _ (by exact HB2.out) Tryz.underlying146 rfl (info46' _ _ _ _) ?_) | (go_at_call 136;refine HSY.out.mono ?_;rintro e1 w0 ⟨rfl,hr0,hk0⟩;have e4:=hr0.cell.2.2.2.2.1;have HRs:=hid hr0;have HKs:=hid hk0;clear hr0 hk0) | (go_at_call 89;refine (stop_any _ _ _ _ _ _ _ 3 HRs.out).mono ?_;rintro e w2 ⟨rfl,hr2,hk2⟩))
      go_ret
      rw [HN.out]
      exact ⟨_,rfl,⟨_,hr2⟩,((HK0.out.trans hK.out).trans HKs.out).trans hk2⟩
     ·by_cases hv16:v=16
      ·subst hv16
       have hpos:0 < l.length:=by
        rcases Nat.eq_zero_or_pos l.length with h0 | h0
        ·exact absurd ⟨rfl,h0⟩ h16
        ·exact h0
       obtain ⟨n1,hn1⟩:∃ n1,n1=l.length - 1:=⟨_,rfl⟩
       have hn1l:n1 < l.length:=by omega
       have wn1:IntKind.i64.wrap ((l.length:Int) - 1)=(n1:Int):=by rw [IntKind.wrap_i64];omega
       have b0:decide ((0:Int) < (l.length:Int))=true:=by simp;omega
       have b00:((l.length:Int) == 0)=false:=by rw [beq_eq_false_iff_ne];omega
       obtain ⟨y,hy⟩:∃ y,y=l.getD n1 0:=⟨_,rfl⟩
       have HYV:=hid hy
       have HTOLE:Hid (tol 16 l=y):=by show _=_;rw [hy,hn1];rfl
       have HN1:=hid hn1
       clear hn1 hy
       by_cases hbits:r+2<=8*s.size
       ·obtain ⟨x,hx⟩:∃ x,x=val s r 2:=⟨_,rfl⟩
        obtain ⟨T,hT⟩:∃ T,T=3+x:=⟨_,rfl⟩
        have hxl:x < 128:=by
         have h1:=val_lt s r 2
         have h2:(2:Nat) ^ 2<=128:=by decide
         omega
        have HXV:=hid hx
        have HTT:=hid hT
        have HTV:Hid (T=3+val s r 2):=by show _=_;rw [hT,hx]
        have hTb:1<=T /\ T<=140:=by omega
        have HPAST:Hid (N - l.length < T->L = .no 3):=fun hp => by rw [hL.out,lnF_past hlN hs h16 (by show r+2<=_;exact hbits) (by show N - l.length < 3+val s r 2;rw [<- HTV.out];exact hp)]
        have HMORE:Hid (¬ N - l.length < T->L=lnF zc s N f (l ++ List.replicate T y) (r+2)):=fun hp => by
         rw [hL.out,lnF_more hlN hs h16 (by show r+2<=_;exact hbits) (by show ¬ N - l.length < 3+val s r 2;rw [<- HTV.out];exact hp)]
         show lnF zc s N f (l ++ List.replicate (3+val s r 2) (tol 16 l)) (r+2)=_
         rw [<- HTV.out,HTOLE.out]
        have HAN:Hid ((l ++ List.replicate T y).any nl=false):=any_rep _ _ _ hA.out (by rw [<- HTOLE.out];exact tol_ok (by omega) hA.out)
        clear hs hx hT
        go_wp2_with (first | (go_at_call 84;refine (rnum_ok _ _ _ _ _ _ _ HRs.out 2 (by omega) hbits).mono ?_;rintro e w1 ⟨rfl,hr1,hk1⟩;rw [<- HXV.out];have e5:=hr1.cell.2.2.2.2.1;have HR1:=hid hr1;have HKw:=hid (HKs.out.trans hk1);have HK1:=hid (hK.out.trans (HKs.out.trans hk1));clear hr1 hk1 e4;obtain ⟨ao',c',he,hsg⟩:=owns_seg (own_kp hO.out HKw.out (.inr rfl));injection he with e1 e2 e3;subst e1;obtain ⟨bb,boff,rfl,hcl⟩:=hsg (by omega);have cy:=hcl n1 (by omega);rw [<- HYV.out] at cy;clear hcl hsg e2 e3) | (refine wpList_load_row rfl 146 _ rfl w.heap.size rfl 146 (cd4 (cF zc) (fun j => (cnt zc j:Int)) (cA zc) (.slice so (plc zc 15) sc)) (0,0) _ (by exact HB2.out) Tryz.underlying146 rfl (info46' _ _ _ _) ?_) | (go_at_call 136;refine HSY.out.mono ?_;rintro e1 w0 ⟨rfl,hr0,hk0⟩;have e4:=hr0.cell.2.2.2.2.1;have HRs:=hid hr0;have HKs:=hid hk0;clear hr0 hk0))
        go_wp2
        go_loopw [7,14] (fun lv iv wi => ∃ k:Nat,k<=T /\ iv = .int .i64 k /\ Hid (wi.ownsRow W.heap.size 3 1 lv (l.length+k) (ivs (l ++ List.replicate k y))) /\ Hid (Rf wi B s (r+2) tv t M 0) /\ Hid (Kp 143 B W wi)) (fun _ iv _ => T - (intOf iv).toNat)
        case atStart => exact ⟨0,by omega,rfl,by simp only [List.replicate_zero,List.append_nil];exact own_kp hO.out HKw.out (.inr rfl),HR1,HK1⟩
        case round =>
         clear HR1 HK1 HKw
         obtain ⟨k,hk,rfl,hOi,hRi,hKi⟩:=hrel
         obtain ⟨ai,ci,rfl⟩:=own_shape hOi.out
         have d4:=hRi.out.cell.2.2.2.2.1
         by_cases hkT:k < T
         ·have bt:decide ((k:Int) < 3+(x:Int))=true:=by simp;have:=HTT.out;omega
          have hszi:=hKi.out.size
          go_wp2_with (at_builtin;refine wpList_append_lies _ rfl (.tmp 83) (.tmp 85) 23 rfl W.heap.size 3 i0 (.int .i64 0) 1 8 Tryz.underlying23 HZ.out.1 HZ.out.2.1 HZ.out.2.2.1 HZ.out.2.2.2 rfl (by decide) (.slice ai (l.length+k) ci) (l.length+k) (ivs (l ++ List.replicate k y)) rfl (hOi.out.alloc _) ⟨_,0,none⟩ 1 1 [.int .i64 y] rfl rfl (cell_one_new _ _ _) ?c2 (by decide) ?c3 ?c4 ?c5 _ rfl ?_)
          case c2 => intro u hu;simp at hu;subst hu;rfl
          case c3 => unfold maxLen;omega
          case c4 => omega
          case c5 => simp;omega
          intro g cap w5 hown hgrow hat hlt5
          have e:List.map (Value.int .i64) l ++ (List.replicate k (Value.int .i64 y) ++ [Value.int .i64 y])=ivs (l ++ List.replicate (k+1) y):=by
           unfold ivs
           rw [List.map_append,List.map_replicate,List.replicate_succ']
          rw [e] at hown
          have HOW:=hid hown
          clear e
          have HRD:=hid ((hRi.out.alloc _).grownInts hgrow (hOi.out.alloc _))
          have HKP:=hid (((hKi.out.alloc (by have:=hRi.out.lt;omega) _).grownNew hgrow (hOi.out.alloc _) (Nat.le_refl _) hBW))
          clear hown hgrow hat hlt5
          go_wp2
          exact ⟨⟨k+1,by omega,by go_num,HOW,HRD,HKP⟩,by simp [intOf];omega⟩
         ·obtain rfl:k=T:=by omega
          have bt:decide ((k:Int) < 3+(x:Int))=false:=by simp;have:=HTT.out;omega
          have hlen:(l ++ List.replicate k y).length=l.length+k:=by rw [List.length_append,List.length_replicate]
          have HLEN:=hid hlen
          clear hlen
          go_wp2
          by_cases hpst:N - l.length < k
          ·refine ⟨⟨f,_,0,l ++ List.replicate k y,by rw [HLEN.out];omega,by rw [HLEN.out];exact hOi,hRi,hKi,.inr (.inl ⟨rfl,by rw [HLEN.out];omega,HPAST.out hpst⟩)⟩,?_⟩
           rw [hRi.out.mesl,HMS.out]
           simp
           omega
          ·refine ⟨⟨f,_,0,l ++ List.replicate k y,by rw [HLEN.out];omega,by rw [HLEN.out];exact hOi,hRi,hKi,.inl ⟨rfl,by rw [HLEN.out];omega,by rw [HLEN.out];omega,HMORE.out hpst,HAN⟩⟩,?_⟩
           rw [hRi.out.mesl,HMS.out]
           simp
           omega
       ·have HN:Hid (L = .no 1):=by show _=_;rw [hL.out,lnF_bits hlN hs h16 (by show ¬ r+2<=_;exact hbits)]
        have hen:(1:Nat) ≠ 0:=by omega
        clear hs
        go_wp2_with (first | (go_at_call 84;refine (rnum_no _ _ _ _ _ _ _ HRs.out 2 (by omega) hbits).mono ?_;rintro e w1 ⟨x,p1,hx5,rfl,hr1,hk1⟩;have e5:=hr1.cell.2.2.2.2.1;have HR1:=hid hr1;have HKw:=hid (HKs.out.trans hk1);have HK1:=hid (hK.out.trans (HKs.out.trans hk1));clear hr1 hk1 e4;obtain ⟨ao',c',he,hsg⟩:=owns_seg (own_kp hO.out HKw.out (.inr rfl));injection he with e1 e2 e3;subst e1;obtain ⟨bb,boff,rfl,hcl⟩:=hsg (by omega);have cy:=hcl n1 (by omega);rw [<- HYV.out] at cy;clear hcl hsg e2 e3) | (refine wpList_load_row rfl 146 _ rfl w.heap.size rfl 146 (cd4 (cF zc) (fun j => (cnt zc j:Int)) (cA zc) (.slice so (plc zc 15) sc)) (0,0) _ (by exact HB2.out) Tryz.underlying146 rfl (info46' _ _ _ _) ?_) | (go_at_call 136;refine HSY.out.mono ?_;rintro e1 w0 ⟨rfl,hr0,hk0⟩;have e4:=hr0.cell.2.2.2.2.1;have HRs:=hid hr0;have HKs:=hid hk0;clear hr0 hk0))
        go_wp2
        have dT:decide ((0:Int) < 3+(x:Int))=true:=by simp;omega
        go_loopw [7,14] (fun lv iv wi => lv = .slice (some ⟨bb,boff,none⟩) l.length c /\ iv = .int .i64 0 /\ wi=w1) (fun _ _ _ => 0)
        case atStart => exact ⟨rfl,rfl,rfl⟩
        case round =>
         obtain ⟨rfl,rfl,rfl⟩:=hrel
         go_wp2
         refine ⟨⟨f,p1,1,l,hl5,own_kp hO.out HKw.out (.inr rfl),HR1,HK1,.inr (.inr ⟨hen,by omega,HN⟩)⟩,?_⟩
         rw [HR1.out.mesl,HMS.out,if_neg hen]
         simp
         omega
      ·by_cases hv17:v=17
       ·subst hv17
        by_cases hbits:r+3<=8*s.size
        ·obtain ⟨x,hx⟩:∃ x,x=val s r 3:=⟨_,rfl⟩
         obtain ⟨T,hT⟩:∃ T,T=3+x:=⟨_,rfl⟩
         have hxl:x < 128:=by
          have h1:=val_lt s r 3
          have h2:(2:Nat) ^ 3<=128:=by decide
          omega
         have HXV:=hid hx
         have HTT:=hid hT
         have HTV:Hid (T=3+val s r 3):=by show _=_;rw [hT,hx]
         have hTb:1<=T /\ T<=140:=by omega
         have HTOLE:Hid (tol 17 l=0):=rfl
         have HPAST:Hid (N - l.length < T->L = .no 3):=fun hp => by rw [hL.out,lnF_past hlN hs h16 (by show r+3<=_;exact hbits) (by show N - l.length < 3+val s r 3;rw [<- HTV.out];exact hp)]
         have HMORE:Hid (¬ N - l.length < T->L=lnF zc s N f (l ++ List.replicate T 0) (r+3)):=fun hp => by
          rw [hL.out,lnF_more hlN hs h16 (by show r+3<=_;exact hbits) (by show ¬ N - l.length < 3+val s r 3;rw [<- HTV.out];exact hp)]
          show lnF zc s N f (l ++ List.replicate (3+val s r 3) (tol 17 l)) (r+3)=_
          rw [<- HTV.out,HTOLE.out]
         have HAN:Hid ((l ++ List.replicate T 0).any nl=false):=any_rep _ _ _ hA.out (by rw [<- HTOLE.out];exact tol_ok (by omega) hA.out)
         clear hs hx hT
         go_wp2_with (first | (go_at_call 84;refine (rnum_ok _ _ _ _ _ _ _ HRs.out 3 (by omega) hbits).mono ?_;rintro e w1 ⟨rfl,hr1,hk1⟩;rw [<- HXV.out];have e5:=hr1.cell.2.2.2.2.1;have HR1:=hid hr1;have HKw:=hid (HKs.out.trans hk1);have HK1:=hid (hK.out.trans (HKs.out.trans hk1));clear hr1 hk1 e4) | (refine wpList_load_row rfl 146 _ rfl w.heap.size rfl 146 (cd4 (cF zc) (fun j => (cnt zc j:Int)) (cA zc) (.slice so (plc zc 15) sc)) (0,0) _ (by exact HB2.out) Tryz.underlying146 rfl (info46' _ _ _ _) ?_) | (go_at_call 136;refine HSY.out.mono ?_;rintro e1 w0 ⟨rfl,hr0,hk0⟩;have e4:=hr0.cell.2.2.2.2.1;have HRs:=hid hr0;have HKs:=hid hk0;clear hr0 hk0))
         go_loopw [7,14] (fun lv iv wi => ∃ k:Nat,k<=T /\ iv = .int .i64 k /\ Hid (wi.ownsRow W.heap.size 3 1 lv (l.length+k) (ivs (l ++ List.replicate k 0))) /\ Hid (Rf wi B s (r+3) tv t M 0) /\ Hid (Kp 143 B W wi)) (fun _ iv _ => T - (intOf iv).toNat)
         case atStart => exact ⟨0,by omega,rfl,by simp only [List.replicate_zero,List.append_nil];exact own_kp hO.out HKw.out (.inr rfl),HR1,HK1⟩
         case round =>
          clear HR1 HK1 HKw
          obtain ⟨k,hk,rfl,hOi,hRi,hKi⟩:=hrel
          obtain ⟨ai,ci,rfl⟩:=own_shape hOi.out
          have d4:=hRi.out.cell.2.2.2.2.1
          by_cases hkT:k < T
          ·have bt:decide ((k:Int) < 3+(x:Int))=true:=by simp;have:=HTT.out;omega
           have hszi:=hKi.out.size
           go_wp2_with (at_builtin;refine wpList_append_lies _ rfl (.tmp 83) (.tmp 85) 23 rfl W.heap.size 3 i0 (.int .i64 0) 1 8 Tryz.underlying23 HZ.out.1 HZ.out.2.1 HZ.out.2.2.1 HZ.out.2.2.2 rfl (by decide) (.slice ai (l.length+k) ci) (l.length+k) (ivs (l ++ List.replicate k 0)) rfl (hOi.out.alloc _) ⟨_,0,none⟩ 1 1 [.int .i64 0] rfl rfl (cell_one_new _ _ _) ?c2 (by decide) ?c3 ?c4 ?c5 _ rfl ?_)
           case c2 => intro u hu;simp at hu;subst hu;rfl
           case c3 => unfold maxLen;omega
           case c4 => omega
           case c5 => simp;omega
           intro g cap w5 hown hgrow hat hlt5
           have e:List.map (Value.int .i64) l ++ (List.replicate k (Value.int .i64 0) ++ [Value.int .i64 0])=ivs (l ++ List.replicate (k+1) 0):=by
            unfold ivs
            rw [List.map_append,List.map_replicate,List.replicate_succ']
           rw [e] at hown
           have HOW:=hid hown
           clear e
           have HRD:=hid ((hRi.out.alloc _).grownInts hgrow (hOi.out.alloc _))
           have HKP:=hid (((hKi.out.alloc (by have:=hRi.out.lt;omega) _).grownNew hgrow (hOi.out.alloc _) (Nat.le_refl _) hBW))
           clear hown hgrow hat hlt5
           go_wp2
           exact ⟨⟨k+1,by omega,by go_num,HOW,HRD,HKP⟩,by simp [intOf];omega⟩
          ·obtain rfl:k=T:=by omega
           have bt:decide ((k:Int) < 3+(x:Int))=false:=by simp;have:=HTT.out;omega
           have hlen:(l ++ List.replicate k 0).length=l.length+k:=by rw [List.length_append,List.length_replicate]
           have HLEN:=hid hlen
           clear hlen
           go_wp2
           by_cases hpst:N - l.length < k
           ·refine ⟨⟨f,_,0,l ++ List.replicate k 0,by rw [HLEN.out];omega,by rw [HLEN.out];exact hOi,hRi,hKi,.inr (.inl ⟨rfl,by rw [HLEN.out];omega,HPAST.out hpst⟩)⟩,?_⟩
            rw [hRi.out.mesl,HMS.out]
            simp
            omega
           ·refine ⟨⟨f,_,0,l ++ List.replicate k 0,by rw [HLEN.out];omega,by rw [HLEN.out];exact hOi,hRi,hKi,.inl ⟨rfl,by rw [HLEN.out];omega,by rw [HLEN.out];omega,HMORE.out hpst,HAN⟩⟩,?_⟩
            rw [hRi.out.mesl,HMS.out]
            simp
            omega
        ·have HN:Hid (L = .no 1):=by show _=_;rw [hL.out,lnF_bits hlN hs h16 (by show ¬ r+3<=_;exact hbits)]
         have hen:(1:Nat) ≠ 0:=by omega
         clear hs
         go_wp2_with (first | (go_at_call 84;refine (rnum_no _ _ _ _ _ _ _ HRs.out 3 (by omega) hbits).mono ?_;rintro e w1 ⟨x,p1,hx5,rfl,hr1,hk1⟩;have e5:=hr1.cell.2.2.2.2.1;have HR1:=hid hr1;have HKw:=hid (HKs.out.trans hk1);have HK1:=hid (hK.out.trans (HKs.out.trans hk1));clear hr1 hk1 e4) | (refine wpList_load_row rfl 146 _ rfl w.heap.size rfl 146 (cd4 (cF zc) (fun j => (cnt zc j:Int)) (cA zc) (.slice so (plc zc 15) sc)) (0,0) _ (by exact HB2.out) Tryz.underlying146 rfl (info46' _ _ _ _) ?_) | (go_at_call 136;refine HSY.out.mono ?_;rintro e1 w0 ⟨rfl,hr0,hk0⟩;have e4:=hr0.cell.2.2.2.2.1;have HRs:=hid hr0;have HKs:=hid hk0;clear hr0 hk0))
         have dT:decide ((0:Int) < 3+(x:Int))=true:=by simp;omega
         go_loopw [7,14] (fun lv iv wi => lv = .slice ao l.length c /\ iv = .int .i64 0 /\ wi=w1) (fun _ _ _ => 0)
         case atStart => exact ⟨rfl,rfl,rfl⟩
         case round =>
          obtain ⟨rfl,rfl,rfl⟩:=hrel
          go_wp2
          refine ⟨⟨f,p1,1,l,hl5,own_kp hO.out HKw.out (.inr rfl),HR1,HK1,.inr (.inr ⟨hen,by omega,HN⟩)⟩,?_⟩
          rw [HR1.out.mesl,HMS.out,if_neg hen]
          simp
          omega
       ·by_cases hv18:v=18
        ·subst hv18
         by_cases hbits:r+7<=8*s.size
         ·obtain ⟨x,hx⟩:∃ x,x=val s r 7:=⟨_,rfl⟩
          obtain ⟨T,hT⟩:∃ T,T=11+x:=⟨_,rfl⟩
          have hxl:x < 128:=by
           have h1:=val_lt s r 7
           have h2:(2:Nat) ^ 7<=128:=by decide
           omega
          have HXV:=hid hx
          have HTT:=hid hT
          have HTV:Hid (T=11+val s r 7):=by show _=_;rw [hT,hx]
          have hTb:1<=T /\ T<=140:=by omega
          have HTOLE:Hid (tol 18 l=0):=rfl
          have HPAST:Hid (N - l.length < T->L = .no 3):=fun hp => by rw [hL.out,lnF_past hlN hs h16 (by show r+7<=_;exact hbits) (by show N - l.length < 11+val s r 7;rw [<- HTV.out];exact hp)]
          have HMORE:Hid (¬ N - l.length < T->L=lnF zc s N f (l ++ List.replicate T 0) (r+7)):=fun hp => by
           rw [hL.out,lnF_more hlN hs h16 (by show r+7<=_;exact hbits) (by show ¬ N - l.length < 11+val s r 7;rw [<- HTV.out];exact hp)]
           show lnF zc s N f (l ++ List.replicate (11+val s r 7) (tol 18 l)) (r+7)=_
           rw [<- HTV.out,HTOLE.out]
          have HAN:Hid ((l ++ List.replicate T 0).any nl=false):=any_rep _ _ _ hA.out (by rw [<- HTOLE.out];exact tol_ok (by omega) hA.out)
          clear hs hx hT
          go_wp2_with (first | (go_at_call 84;refine (rnum_ok _ _ _ _ _ _ _ HRs.out 7 (by omega) hbits).mono ?_;rintro e w1 ⟨rfl,hr1,hk1⟩;rw [<- HXV.out];have e5:=hr1.cell.2.2.2.2.1;have HR1:=hid hr1;have HKw:=hid (HKs.out.trans hk1);have HK1:=hid (hK.out.trans (HKs.out.trans hk1));clear hr1 hk1 e4) | (refine wpList_load_row rfl 146 _ rfl w.heap.size rfl 146 (cd4 (cF zc) (fun j => (cnt zc j:Int)) (cA zc) (.slice so (plc zc 15) sc)) (0,0) _ (by exact HB2.out) Tryz.underlying146 rfl (info46' _ _ _ _) ?_) | (go_at_call 136;refine HSY.out.mono ?_;rintro e1 w0 ⟨rfl,hr0,hk0⟩;have e4:=hr0.cell.2.2.2.2.1;have HRs:=hid hr0;have HKs:=hid hk0;clear hr0 hk0))
          go_loopw [7,14] (fun lv iv wi => ∃ k:Nat,k<=T /\ iv = .int .i64 k /\ Hid (wi.ownsRow W.heap.size 3 1 lv (l.length+k) (ivs (l ++ List.replicate k 0))) /\ Hid (Rf wi B s (r+7) tv t M 0) /\ Hid (Kp 143 B W wi)) (fun _ iv _ => T - (intOf iv).toNat)
          case atStart => exact ⟨0,by omega,rfl,by simp only [List.replicate_zero,List.append_nil];exact own_kp hO.out HKw.out (.inr rfl),HR1,HK1⟩
          case round =>
           clear HR1 HK1 HKw
           obtain ⟨k,hk,rfl,hOi,hRi,hKi⟩:=hrel
           obtain ⟨ai,ci,rfl⟩:=own_shape hOi.out
           have d4:=hRi.out.cell.2.2.2.2.1
           by_cases hkT:k < T
           ·have bt:decide ((k:Int) < 11+(x:Int))=true:=by simp;have:=HTT.out;omega
            have hszi:=hKi.out.size
            go_wp2_with (at_builtin;refine wpList_append_lies _ rfl (.tmp 83) (.tmp 85) 23 rfl W.heap.size 3 i0 (.int .i64 0) 1 8 Tryz.underlying23 HZ.out.1 HZ.out.2.1 HZ.out.2.2.1 HZ.out.2.2.2 rfl (by decide) (.slice ai (l.length+k) ci) (l.length+k) (ivs (l ++ List.replicate k 0)) rfl (hOi.out.alloc _) ⟨_,0,none⟩ 1 1 [.int .i64 0] rfl rfl (cell_one_new _ _ _) ?c2 (by decide) ?c3 ?c4 ?c5 _ rfl ?_)
            case c2 => intro u hu;simp at hu;subst hu;rfl
            case c3 => unfold maxLen;omega
            case c4 => omega
            case c5 => simp;omega
            intro g cap w5 hown hgrow hat hlt5
            have e:List.map (Value.int .i64) l ++ (List.replicate k (Value.int .i64 0) ++ [Value.int .i64 0])=ivs (l ++ List.replicate (k+1) 0):=by
             unfold ivs
             rw [List.map_append,List.map_replicate,List.replicate_succ']
            rw [e] at hown
            have HOW:=hid hown
            clear e
            have HRD:=hid ((hRi.out.alloc _).grownInts hgrow (hOi.out.alloc _))
            have HKP:=hid (((hKi.out.alloc (by have:=hRi.out.lt;omega) _).grownNew hgrow (hOi.out.alloc _) (Nat.le_refl _) hBW))
            clear hown hgrow hat hlt5
            go_wp2
            exact ⟨⟨k+1,by omega,by go_num,HOW,HRD,HKP⟩,by simp [intOf];omega⟩
           ·obtain rfl:k=T:=by omega
            have bt:decide ((k:Int) < 11+(x:Int))=false:=by simp;have:=HTT.out;omega
            have hlen:(l ++ List.replicate k 0).length=l.length+k:=by rw [List.length_append,List.length_replicate]
            have HLEN:=hid hlen
            clear hlen
            go_wp2
            by_cases hpst:N - l.length < k
            ·refine ⟨⟨f,_,0,l ++ List.replicate k 0,by rw [HLEN.out];omega,by rw [HLEN.out];exact hOi,hRi,hKi,.inr (.inl ⟨rfl,by rw [HLEN.out];omega,HPAST.out hpst⟩)⟩,?_⟩
             rw [hRi.out.mesl,HMS.out]
             simp
             omega
            ·refine ⟨⟨f,_,0,l ++ List.replicate k 0,by rw [HLEN.out];omega,by rw [HLEN.out];exact hOi,hRi,hKi,.inl ⟨rfl,by rw [HLEN.out];omega,by rw [HLEN.out];omega,HMORE.out hpst,HAN⟩⟩,?_⟩
             rw [hRi.out.mesl,HMS.out]
             simp
             omega
         ·have HN:Hid (L = .no 1):=by show _=_;rw [hL.out,lnF_bits hlN hs h16 (by show ¬ r+7<=_;exact hbits)]
          have hen:(1:Nat) ≠ 0:=by omega
          clear hs
          go_wp2_with (first | (go_at_call 84;refine (rnum_no _ _ _ _ _ _ _ HRs.out 7 (by omega) hbits).mono ?_;rintro e w1 ⟨x,p1,hx5,rfl,hr1,hk1⟩;have e5:=hr1.cell.2.2.2.2.1;have HR1:=hid hr1;have HKw:=hid (HKs.out.trans hk1);have HK1:=hid (hK.out.trans (HKs.out.trans hk1));clear hr1 hk1 e4) | (refine wpList_load_row rfl 146 _ rfl w.heap.size rfl 146 (cd4 (cF zc) (fun j => (cnt zc j:Int)) (cA zc) (.slice so (plc zc 15) sc)) (0,0) _ (by exact HB2.out) Tryz.underlying146 rfl (info46' _ _ _ _) ?_) | (go_at_call 136;refine HSY.out.mono ?_;rintro e1 w0 ⟨rfl,hr0,hk0⟩;have e4:=hr0.cell.2.2.2.2.1;have HRs:=hid hr0;have HKs:=hid hk0;clear hr0 hk0))
          have dT:decide ((0:Int) < 11+(x:Int))=true:=by simp;omega
          go_loopw [7,14] (fun lv iv wi => lv = .slice ao l.length c /\ iv = .int .i64 0 /\ wi=w1) (fun _ _ _ => 0)
          case atStart => exact ⟨rfl,rfl,rfl⟩
          case round =>
           obtain ⟨rfl,rfl,rfl⟩:=hrel
           go_wp2
           refine ⟨⟨f,p1,1,l,hl5,own_kp hO.out HKw.out (.inr rfl),HR1,HK1,.inr (.inr ⟨hen,by omega,HN⟩)⟩,?_⟩
           rw [HR1.out.mesl,HMS.out,if_neg hen]
           simp
           omega
        ·have htm:tms v.toNat=(1,0):=by
          unfold tms
          rw [if_neg (by omega),if_neg (by omega),if_neg (by omega)]
         have hb16:(v == 16)=false:=beq_eq_false_iff_ne.2 hv16
         have hb17:(v == 17)=false:=beq_eq_false_iff_ne.2 hv17
         have hb18:(v == 18)=false:=beq_eq_false_iff_ne.2 hv18
         obtain ⟨T,hT⟩:∃ T,T=1:=⟨_,rfl⟩
         have HTT:=hid hT
         have HTV:Hid (T=1+val s r 0):=by show _=_;rw [hT];rfl
         have HTOLE:Hid (tol v l=v):=by show _=_;unfold tol;rw [if_pos (by omega)]
         have HPAST:Hid (N - l.length < T->L = .no 3):=fun hp => by rw [hL.out,lnF_past hlN hs h16 (by rw [htm];show r+0<=_;omega) (by rw [htm];show N - l.length < 1+val s r 0;rw [<- HTV.out];exact hp)]
         have HMORE:Hid (¬ N - l.length < T->L=lnF zc s N f (l ++ List.replicate T v) (r+0)):=fun hp => by
          rw [hL.out,lnF_more hlN hs h16 (by rw [htm];show r+0<=_;omega) (by rw [htm];show ¬ N - l.length < 1+val s r 0;rw [<- HTV.out];exact hp),htm]
          show lnF zc s N f (l ++ List.replicate (1+val s r 0) (tol v l)) (r+0)=_
          rw [<- HTV.out,HTOLE.out]
         have HAN:Hid ((l ++ List.replicate T v).any nl=false):=any_rep _ _ _ hA.out (by have:=tol_ok (l:=l) hv.2.2.1 hA.out;rw [HTOLE.out] at this;exact this)
         have hT1:1<=T /\ T<=140:=by omega
         clear hs htm hT
         go_wp2_with (first | (refine wpList_load_row rfl 146 _ rfl w.heap.size rfl 146 (cd4 (cF zc) (fun j => (cnt zc j:Int)) (cA zc) (.slice so (plc zc 15) sc)) (0,0) _ (by exact HB2.out) Tryz.underlying146 rfl (info46' _ _ _ _) ?_) | (go_at_call 136;refine HSY.out.mono ?_;rintro e1 w0 ⟨rfl,hr0,hk0⟩;have e4:=hr0.cell.2.2.2.2.1;have HRs:=hid hr0;have HKs:=hid hk0;clear hr0 hk0))
         have HR1:Hid (Rf w0 B s (r+0) tv t M 0):=HRs
         have HKw:=HKs
         have HK1:=hid (hK.out.trans HKs.out)
         go_loopw [7,14] (fun lv iv wi => ∃ k:Nat,k<=T /\ iv = .int .i64 k /\ Hid (wi.ownsRow W.heap.size 3 1 lv (l.length+k) (ivs (l ++ List.replicate k v))) /\ Hid (Rf wi B s (r+0) tv t M 0) /\ Hid (Kp 143 B W wi)) (fun _ iv _ => T - (intOf iv).toNat)
         case atStart => exact ⟨0,by omega,rfl,by simp only [List.replicate_zero,List.append_nil];exact own_kp hO.out HKw.out (.inr rfl),HR1,HK1⟩
         case round =>
          clear HR1 HK1 HKw
          obtain ⟨k,hk,rfl,hOi,hRi,hKi⟩:=hrel
          obtain ⟨ai,ci,rfl⟩:=own_shape hOi.out
          have d4:=hRi.out.cell.2.2.2.2.1
          by_cases hkT:k < T
          ·have bt:decide ((k:Int) < 1)=true:=by simp;have:=HTT.out;omega
           have hszi:=hKi.out.size
           go_wp2_with (at_builtin;refine wpList_append_lies _ rfl (.tmp 83) (.tmp 85) 23 rfl W.heap.size 3 i0 (.int .i64 0) 1 8 Tryz.underlying23 HZ.out.1 HZ.out.2.1 HZ.out.2.2.1 HZ.out.2.2.2 rfl (by decide) (.slice ai (l.length+k) ci) (l.length+k) (ivs (l ++ List.replicate k v)) rfl (hOi.out.alloc _) ⟨_,0,none⟩ 1 1 [.int .i64 v] rfl rfl (cell_one_new _ _ _) ?c2 (by decide) ?c3 ?c4 ?c5 _ rfl ?_)
           case c2 => intro u hu;simp at hu;subst hu;rfl
           case c3 => unfold maxLen;omega
           case c4 => omega
           case c5 => simp;omega
           intro g cap w5 hown hgrow hat hlt5
           have e:List.map (Value.int .i64) l ++ (List.replicate k (Value.int .i64 v) ++ [Value.int .i64 v])=ivs (l ++ List.replicate (k+1) v):=by
            unfold ivs
            rw [List.map_append,List.map_replicate,List.replicate_succ']
           rw [e] at hown
           have HOW:=hid hown
           clear e
           have HRD:=hid ((hRi.out.alloc _).grownInts hgrow (hOi.out.alloc _))
           have HKP:=hid (((hKi.out.alloc (by have:=hRi.out.lt;omega) _).grownNew hgrow (hOi.out.alloc _) (Nat.le_refl _) hBW))
           clear hown hgrow hat hlt5
           go_wp2
           exact ⟨⟨k+1,by omega,by go_num,HOW,HRD,HKP⟩,by simp [intOf];omega⟩
          ·obtain rfl:k=T:=by omega
           have bt:decide ((k:Int) < 1)=false:=by simp;have:=HTT.out;omega
           have hlen:(l ++ List.replicate k v).length=l.length+k:=by rw [List.length_append,List.length_replicate]
           have HLEN:=hid hlen
           clear hlen
           go_wp2
           by_cases hpst:N - l.length < k
           ·refine ⟨⟨f,_,0,l ++ List.replicate k v,by rw [HLEN.out];omega,by rw [HLEN.out];exact hOi,hRi,hKi,.inr (.inl ⟨rfl,by rw [HLEN.out];omega,HPAST.out hpst⟩)⟩,?_⟩
            rw [hRi.out.mesl,HMS.out]
            simp
            omega
           ·refine ⟨⟨f,_,0,l ++ List.replicate k v,by rw [HLEN.out];omega,by rw [HLEN.out];exact hOi,hRi,hKi,.inl ⟨rfl,by rw [HLEN.out];omega,by rw [HLEN.out];omega,HMORE.out hpst,HAN⟩⟩,?_⟩
            rw [hRi.out.mesl,HMS.out]
            simp
            omega
   ·have HN:Hid (L = .ok l q):=by show _=_;rw [hL.out,lnF_done hlN]
    have d1:decide ((l.length:Int) < (N:Int))=false:=by simp;omega
    have d2:decide ((N:Int) < (l.length:Int))=false:=by simp;omega
    go_wp2
    go_ret
    rw [HN.out]
    exact ⟨_,rfl,own_lower hO.out hW1,hR.out,HK0.out.trans hK.out⟩
  ·have d1:decide ((l.length:Int) < (N:Int))=false:=by simp;omega
   have d2:decide ((N:Int) < (l.length:Int))=true:=by simp;omega
   go_wp2_with (go_at_call 89;refine (stop_any _ _ _ _ _ _ _ 3 hR.out).mono ?_;rintro e w2 ⟨rfl,hr2,hk2⟩)
   go_ret
   rw [hL.out]
   exact ⟨_,rfl,⟨_,hr2⟩,(HK0.out.trans hK.out).trans hk2⟩
  ·have hbe:((E:Int) == 0)=false:=by rw [beq_eq_false_iff_ne];omega
   have d2:decide ((N:Int) < (l.length:Int))=false:=by simp;omega
   by_cases hlt2:l.length < N
   ·have d1:decide ((l.length:Int) < (N:Int))=true:=by simp;omega
    go_wp2
    go_ret
    rw [hL.out]
    exact ⟨_,rfl,⟨_,hR.out⟩,HK0.out.trans hK.out⟩
   ·have d1:decide ((l.length:Int) < (N:Int))=false:=by simp;omega
    go_wp2
    go_ret
    rw [hL.out]
    exact ⟨_,rfl,⟨_,hR.out⟩,HK0.out.trans hK.out⟩
end Go.Proofs.YthdmjmnkhlpnnabGreatDoor
