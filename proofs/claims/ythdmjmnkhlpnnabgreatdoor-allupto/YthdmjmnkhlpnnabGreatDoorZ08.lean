import Derived.Test.YthdmjmnkhlpnnabGreatDoorZ07
namespace Go.Proofs.YthdmjmnkhlpnnabGreatDoor
open Go.RowKit Go.Maps
variable {w:World} {T base nx:Nat} {ps:List Pl3} {M:Nat} {D:DataW Unit} {pv:Value} {K:Nat->Value}
structure Tin (K:Nat->Value) (nx:Nat) (ps:List Pl3) (D:DataW Unit):Prop where
 len:ps.length=min nx 32768
 byt:∀ r,r ∈ ps->r.a < 256 /\ r.b < 256 /\ r.c < 256
 bef:∀ (q:Nat) (r:Pl3),nx - ps.length<=q->q < nx->ps[q % 32768]? = some r -> -1<=r.bf /\ r.bf < q /\ (0<=r.bf->K r.bf.toNat=K q)
 val:∀ kl,has D kl=true -> ∃ a:Nat,a < nx /\ D.atKey kl (.lit (.int .i64 0)) = .lit (.int .i64 a) /\ keyOf Tryz.prog 136 (K a)=some kl
theorem Tin.del (h:Tin K nx ps D) {D':DataW Unit} (hd:DQ D D'):Tin K nx ps D':=by
 refine ⟨h.len,h.byt,h.bef,fun kl hk => ?_⟩
 rcases hd with rfl | ⟨k,rfl⟩
 ·exact h.val kl hk
 ·by_cases e:kl=k
  ·subst e;rw [has_del_same] at hk;cases hk
  ·rw [has_del_other e] at hk
   rw [atKey_del_other e]
   exact h.val kl hk
theorem Tin.add (h:Tin K nx ps D) (hD:IsMap D) (p:Pl3) (hp:p.a < 256 /\ p.b < 256 /\ p.c < 256) (h1:-1<=p.bf) (h2:p.bf < nx) (h3:0<=p.bf->K p.bf.toNat=K nx) (ps':List Pl3) (hps:(ps.length < 32768 /\ ps'=ps ++ [p]) ∨ (ps.length=32768 /\ ps'=ps.set (nx % 32768) p)) (kl:Lit) (hkl:WideAt.IsKeyLit kl) (hkv:keyOf Tryz.prog 136 (K nx)=some kl):Tin K (nx+1) ps' (D.put kl (.lit (.int .i64 nx))):=by
 have hl:=h.len
 have hlen:ps'.length=min (nx+1) 32768:=by
  rcases hps with ⟨a,rfl⟩ | ⟨a,rfl⟩ <;> simp <;> omega
 refine ⟨hlen,fun r hr => ?_,fun q r hq1 hq2 hr => ?_,fun k hk => ?_⟩
 ·rcases hps with ⟨a,rfl⟩ | ⟨a,rfl⟩
  ·rcases List.mem_append.1 hr with hr | hr
   ·exact h.byt r hr
   ·rw [List.mem_singleton] at hr;subst hr;exact hp
  ·rcases List.mem_or_eq_of_mem_set hr with hr | hr
   ·exact h.byt r hr
   ·subst hr;exact hp
 ·by_cases e:q=nx
  ·have:r=p:=by
    subst e
    rcases hps with ⟨a,rfl⟩ | ⟨a,rfl⟩
    ·have e1:q % 32768=ps.length:=by omega
     rw [e1,List.getElem?_append_right (Nat.le_refl _)] at hr
     simp at hr
     exact hr.symm
    ·rw [List.getElem?_set_self (by omega)] at hr
     simp at hr
     exact hr.symm
   subst this e
   exact ⟨h1,h2,h3⟩
  ·refine h.bef q r (by omega) (by omega) ?_
   rcases hps with ⟨a,rfl⟩ | ⟨a,rfl⟩
   ·rw [List.getElem?_append_left (by omega)] at hr
    exact hr
   ·rw [List.getElem?_set_ne (by omega)] at hr
    exact hr
 ·by_cases e:k=kl
  ·subst e
   exact ⟨nx,by omega,atKey_put_same hD hkl _ _,hkv⟩
  ·rw [has_put_other e] at hk
   obtain ⟨a,ha,hb,hc⟩:=h.val k hk
   exact ⟨a,by omega,by rw [atKey_put_other e];exact hb,hc⟩
theorem i64_wf (n:Nat) (h:n<=1000000000000000):(Lit.int .i64 (n:Int)).wf=true:=by
 have h1:IntKind.i64.min = -9223372036854775808:=rfl
 have h2:IntKind.i64.max=9223372036854775807:=rfl
 simp [Lit.wf,h1,h2]
 omega
def Psn (nx:Nat) (ps:List Pl3) (p:Pl3) (ps':List Pl3):Prop:=(ps.length < 32768 /\ ps'=ps ++ [p]) ∨ (ps.length=32768 /\ ps'=ps.set (nx % 32768) p)
theorem tput_any (h:Tbl w T base nx ps M D pv) (hi:Tin K nx ps D) (hT:base<=w.heap.size) (hn:nx<=1000000000000000) (p:Pl3) :
  Calls Tryz.prog 192 #[.pointer (some ⟨T,0,none⟩),.agg #[.int .u8 p.a,.int .u8 p.b,.int .u8 p.c,.int .i64 p.bf]] w fun e w' => e = .returned (.tuple #[]) /\ ∃ ps' D' pv',Tbl w' T base nx ps' M D' pv' /\ Fr (TbO T M pv) w w' /\ Moved pv pv' w /\ DQ D D' /\ Psn nx ps p ps':=by
 have hl:=hi.len
 by_cases hf:ps.length < 32768
 ·refine (tput_few h hT hf p).mono ?_
  rintro e w' ⟨rfl,pv',a,b,c⟩
  exact ⟨rfl,_,D,pv',a,b,c,.inl rfl,.inl ⟨hf,rfl⟩⟩
 ·have hq:nx % 32768 < ps.length:=by omega
  have hm:=hi.byt _ (List.getElem_mem hq)
  refine (tput_full h (by omega) hn p ps[nx % 32768] (List.getElem?_eq_getElem hq) hm.1 hm.2.1 hm.2.2).mono ?_
  rintro e w' ⟨rfl,D',a,b,c⟩
  exact ⟨rfl,_,D',pv,a,b,.inl rfl,c,.inr ⟨by omega,rfl⟩⟩
theorem Tbl.next {w1:World} {D1:DataW Unit} (h:Tbl w T base nx ps M D pv) (ho:w1.ownsMap Tryz.prog 136 (plainElem Tryz.prog 3) M (nx+1) D1) (hg:w.grownBy w1 (some M)):Tbl (w1.setCell ⟨T,1,none⟩ (.int .i64 (nx+1:Nat))) T base (nx+1) ps M D1 pv:=by
 have hb1:w1.heap[T]? = _:=(hg.block T h.lt (h.apart h.blk)).trans h.blk
 have hne:pv.ownBlock ≠ some T:=owns_type h.row h.blk (by decide)
 have hMT:M ≠ T:=fun e => h.apart h.blk (by rw [e])
 refine ⟨by rw [blk_set hb1];rfl,owns_kept h.row (fun k hk => ?_),?_⟩
 ·rw [Below.heap_setCell _ _ _ _ (fun e => hne (by rw [hk,e]))]
  refine hg.block k (h.row.lt k hk).2 ?_
  rcases h.row.2 with ⟨rfl,_⟩ | ⟨g,cap,cur,rfl,_,hh,_⟩
  ·simp [Value.ownBlock] at hk
  ·simp [Value.ownBlock] at hk
   subst hk
   exact h.apart hh
 ·obtain ⟨es,clock,hm,F,hs,hD⟩:=ho
  exact ⟨es,clock,(Below.heap_setCell _ _ _ _ (by exact hMT)).trans hm,F,hs,hD⟩
theorem Fr.trans {O:Nat->Prop} {a w w':World} (h:Fr O a w) (h':Fr O w w'):Fr O a w' :=
 ⟨h.env.trans h'.env,fun k hk ho => (h'.blk k (by have:=h.env.size;omega) ho).trans (h.blk k hk ho)⟩
theorem Tbl.old (h:Tbl w T base nx ps M D pv):¬ TbO T M pv w.heap.size:=by
 rintro (e | e | e)
 ·have:=h.lt;omega
 ·have:=h.map.lt;omega
 ·have:=(h.row.lt _ e.symm).2;omega
set_option maxRecDepth 20000 in
set_option maxHeartbeats 2000000 in
theorem tadd_any (h:Tbl w T base nx ps M D pv) (hi:Tin K nx ps D) (hT:base<=w.heap.size) (hn:nx<=1000000000000000) (ka kb kc:Nat) (hka:ka < 256) (hkb:kb < 256) (hkc:kc < 256) (kl:Lit) (hkl:keyOf Tryz.prog 136 (k3 ka kb kc)=some kl) (hK:K nx=k3 ka kb kc) :
  Calls Tryz.prog 181 #[.pointer (some ⟨T,0,none⟩),k3 ka kb kc] w fun e w' => e = .returned (.tuple #[]) /\ ∃ (ps':List Pl3) (D':DataW Unit) (pv':Value),Tbl w' T base (nx+1) ps' M (D'.put kl (.lit (.int .i64 nx))) pv' /\ Tin K (nx+1) ps' (D'.put kl (.lit (.int .i64 nx))) /\ Fr (TbO T M pv) w w' /\ Moved pv pv' w /\ IsMap D':=by
 have HH:=hid h
 have HI:=hid hi
 obtain ⟨c0,c1,c2,c3⟩:=h.cells
 have hlt:=h.lt
 have HK:=hid hK
 clear h hi hK
 unfold k3
 go_enter Tryz.func181,Tryz.ntmps181
 go_upto_region 2 with fail
 obtain ⟨D0,hD0⟩:∃ x,x=w.heap.size:=⟨_,rfl⟩
 have hE1:(w.alloc (.cells #[.int .u8 ka,.int .u8 kb,.int .u8 kc] 136)).heap.size=D0+1:=by simp;omega
 have HB1:=hid (((Below.refl w.heap.size w).alloc (Nat.le_refl _) (.cells #[.int .u8 ka,.int .u8 kb,.int .u8 kc] 136)).alloc (by omega) (.cells #[.int .u8 ka,.int .u8 kb,.int .u8 kc,.int .i64 (-1)] 239))
 have HN1:Hid (((w.alloc (.cells #[.int .u8 ka,.int .u8 kb,.int .u8 kc] 136)).alloc (.cells #[.int .u8 ka,.int .u8 kb,.int .u8 kc,.int .i64 (-1)] 239)).heap[D0]? = some (.cells #[.int .u8 ka,.int .u8 kb,.int .u8 kc] 136 (0,0))):=by
  rw [hD0];exact (Below.heap_alloc _ _ _ (by omega)).trans (heap_alloc_new w _)
 have HM1:Hid (((w.alloc (.cells #[.int .u8 ka,.int .u8 kb,.int .u8 kc] 136)).alloc (.cells #[.int .u8 ka,.int .u8 kb,.int .u8 kc,.int .i64 (-1)] 239)).heap[D0+1]? = some (.cells #[.int .u8 ka,.int .u8 kb,.int .u8 kc,.int .i64 (-1)] 239 (0,0))):=by
  rw [<- hE1];exact heap_alloc_new _ _
 rw [<- hD0] at ⊢
 have HD0:=hid hD0
 clear hD0 hE1 c0 c1 c2 c3
 generalize (w.alloc (.cells #[.int .u8 ka,.int .u8 kb,.int .u8 kc] 136)).alloc (.cells #[.int .u8 ka,.int .u8 kb,.int .u8 kc,.int .i64 (-1)] 239)=W1 at HB1 HN1 HM1 ⊢
 have HH1:=hid (HH.out.below HB1.out)
 have HF1:=hid ((Fr.refl (TbO T M pv) w).below HB1.out)
 obtain ⟨c0,c1,c2,c3⟩:=HH1.out.cells
 have b0:W1.cell? ⟨D0,0,none⟩=some (.int .u8 ka):=by rw [cell_of_row _ _ 0 _ _ _ HN1.out];rfl
 have b1:W1.cell? ⟨D0,1,none⟩=some (.int .u8 kb):=by rw [cell_of_row _ _ 1 _ _ _ HN1.out];rfl
 have b2:W1.cell? ⟨D0,2,none⟩=some (.int .u8 kc):=by rw [cell_of_row _ _ 2 _ _ _ HN1.out];rfl
 obtain ⟨c,hb,hc1,hc2⟩:∃ (c:Int) (hb:Bool),(∀ n,(Instr.lookup 178 (.map (some M)) (k3 ka kb kc) true).run Tryz.prog (W1.drewN n) = .ok (.tuple #[.int .i64 c,.bool hb]) (W1.drewN n)) /\ (hb=true->0<=c /\ c < nx /\ K c.toNat=k3 ka kb kc):=by
  obtain ⟨v,pz,r1,r2⟩:=World.ownsMap.look_ok HH1.out.map keyLaw Tryz.underlying178 (zeroInt W1) (plainElem_int Tryz.underlying3 (by decide)) hkl
  obtain ⟨c,rfl,r3,_⟩:=plainElem_int_inv Tryz.underlying3 r2
  refine ⟨c,has D kl,fun n => ?_,fun hh => ?_⟩
  ·obtain ⟨v',pz',r1',r2'⟩:=World.ownsMap.look_ok (w:=W1.drewN n) HH1.out.map keyLaw Tryz.underlying178 (zeroInt _) (plainElem_int Tryz.underlying3 (by decide)) hkl
   obtain ⟨c',rfl,r3',_⟩:=plainElem_int_inv Tryz.underlying3 r2'
   have e1:=congrArg Prod.fst r3
   have e2:=congrArg Prod.fst r3'
   simp only at e1 e2
   rw [e1] at e2
   simp at e2
   rw [r1',e2]
  ·obtain ⟨a,ha,hv,hw⟩:=HI.out.val kl hh
   have e1:=congrArg Prod.fst r3
   simp only at e1
   rw [hv] at e1
   simp at e1
   refine ⟨by omega,by omega,?_⟩
   rw [show c.toNat=a by omega]
   exact keyLaw.inj hw hkl
 have HC2:=hid hc2
 have HKL:=hid hkl
 unfold k3 at hc1
 clear hkl hc2
 go_quiet (fail)
 have HB2:=hid (below_drewN' (Below.refl W1.heap.size W1) nq)
 have HN2:Hid ((W1.drewN nq).heap[D0]? = _):=HN1
 have HM2:Hid ((W1.drewN nq).heap[D0+1]? = _):=HM1
 clear c0 c1 c2 c3 b0 b1 b2 hc1
 generalize W1.drewN nq=W2 at HB2 HN2 HM2 ⊢
 have HH2:=hid (HH1.out.below HB2.out)
 have HF2:=hid (HF1.out.below HB2.out)
 have e0:=fun j => cell_of_row _ _ j _ _ _ HM2.out
 have f0:∀ j,W2.frozen? ⟨D0+1,j,none⟩=false:=fun j => by have:=HM2.out;simp [World.frozen?,this]
 have e3:W2.cell? ⟨D0+1,3,none⟩=some (.int .i64 (-1)):=by rw [e0];rfl
 clear e0
 have HBw:=hid (HB1.out.trans (HB2.out.mono HB1.out.size))
 cases hb
 case' true =>
  go_upto_region 5 with fail
  obtain ⟨bf,hbf⟩:∃ x,x=c:=⟨_,rfl⟩
  have HBF:Hid (-1<=bf /\ bf < nx /\ (0<=bf->K bf.toNat=K nx)):=by have:=HC2.out rfl;exact ⟨by omega,by omega,fun _ => by rw [hbf,this.2.2,HK.out]⟩
  rw [<- hbf]
  have HM3:Hid ((W2.setCell ⟨D0+1,3,none⟩ (.int .i64 bf)).heap[D0+1]? = some (.cells #[.int .u8 ka,.int .u8 kb,.int .u8 kc,.int .i64 bf] 239 (0,0))):=by rw [blk_set HM2.out];rfl
  have HN3:Hid ((W2.setCell ⟨D0+1,3,none⟩ (.int .i64 bf)).heap[D0]? = some (.cells #[.int .u8 ka,.int .u8 kb,.int .u8 kc] 136 (0,0))):=(Below.heap_setCell _ _ _ _ (by simp)).trans HN2.out
  have HB3:Hid (Below w.heap.size w (W2.setCell ⟨D0+1,3,none⟩ (.int .i64 bf))):=HBw.out.setCell (by show w.heap.size<=D0+1;have:=HD0.out;omega) _
  generalize W2.setCell ⟨D0+1,3,none⟩ (.int .i64 bf)=W3 at HM3 HN3 HB3 ⊢
  rw [hbf]
  clear e3 f0
 case' false =>
  go_upto_region 5 with fail
  obtain ⟨bf,hbf⟩:∃ x:Int,x = -1:=⟨_,rfl⟩
  have HBF:Hid (-1<=bf /\ bf < nx /\ (0<=bf->K bf.toNat=K nx)):=⟨by omega,by omega,fun h => by omega⟩
  have HM3:=HM2
  rw [<- hbf] at HM3
  have HN3:=HN2
  have HB3:=HBw
  clear e3 f0
  generalize W2=W3 at HM3 HN3 HB3 ⊢
 all_goals
  clear hbf
  have HH3:=hid (HH.out.below HB3.out)
  have hs3:=HB3.out.size
  have e0:W3.cell? ⟨D0+1,0,none⟩=some (.int .u8 ka):=by rw [cell_of_row _ _ 0 _ _ _ HM3.out];rfl
  have e1:W3.cell? ⟨D0+1,1,none⟩=some (.int .u8 kb):=by rw [cell_of_row _ _ 1 _ _ _ HM3.out];rfl
  have e2:W3.cell? ⟨D0+1,2,none⟩=some (.int .u8 kc):=by rw [cell_of_row _ _ 2 _ _ _ HM3.out];rfl
  have e3:W3.cell? ⟨D0+1,3,none⟩=some (.int .i64 bf):=by rw [cell_of_row _ _ 3 _ _ _ HM3.out];rfl
  go_upto_region 6 with (go_at_call 192;refine (tput_any HH3.out HI.out (by omega) hn ⟨ka,kb,kc,bf⟩).mono ?_;rintro e W4 ⟨rfl,ps',D',pv',ht4,hf4,hmv4,hdq4,hpn4⟩;have HT4:=hid ht4;have HF4:=hid hf4;have HMV4:=hid hmv4;have HDQ4:=hid hdq4;have HPN4:=hid hpn4;clear ht4 hf4 hmv4 hdq4 hpn4)
  have HN4:Hid (W4.heap[D0]? = some (.cells #[.int .u8 ka,.int .u8 kb,.int .u8 kc] 136 (0,0))):=(HF4.out.blk D0 ((Array.getElem?_eq_some_iff.1 HN3.out).1) (by rw [HD0.out];exact HH.out.old)).trans HN3.out
  clear e0 e1 e2 e3
  obtain ⟨W5,hu,ho5,hg5⟩:=World.ownsMap.update HT4.out.map.drew keyLaw Tryz.underlying178 (by unfold maxLen;omega) HKL.out (plainElem_int Tryz.underlying3 (a:=nx) (i64_wf nx hn))
  have HO5:=hid ho5
  have HG5:=hid hg5
  clear ho5 hg5
  unfold k3 at hu
  obtain ⟨c0,c1,c2,c3⟩:=HT4.out.cells
  have b0:W4.cell? ⟨D0,0,none⟩=some (.int .u8 ka):=by rw [cell_of_row _ _ 0 _ _ _ HN4.out];rfl
  have b1:W4.cell? ⟨D0,1,none⟩=some (.int .u8 kb):=by rw [cell_of_row _ _ 1 _ _ _ HN4.out];rfl
  have b2:W4.cell? ⟨D0,2,none⟩=some (.int .u8 kc):=by rw [cell_of_row _ _ 2 _ _ _ HN4.out];rfl
  go_region_with (fail)
 all_goals
  clear c0 c1 c2 c3 b0 b1 b2 hu
  have hb5:W5.heap[T]? = _:=(HG5.out.block T HT4.out.lt (HT4.out.apart HT4.out.blk)).trans HT4.out.blk
  have c1:W5.cell? ⟨T,1,none⟩=some (.int .i64 nx):=by rw [cell_of_row _ _ 1 _ _ _ hb5];rfl
  have f1:W5.frozen? ⟨T,1,none⟩=false:=by simp [World.frozen?,hb5]
  clear hb5
  obtain ⟨n1,hn1⟩:∃ x,x=nx+1:=⟨_,rfl⟩
  have jN:IntKind.i64.wrap ((nx:Int)+1)=(n1:Int):=by rw [IntKind.wrap_i64];omega
  have HN1:=hid hn1
  clear hn1
  go_wp2
  refine bodyPost_end (results_none Tryz.results181 _ _ _) rfl ⟨rfl,ps',D',pv',?_,?_,?_,?_,HT4.out.map.isMap⟩
  ·have:=(HT4.out.below (Below.refl W4.heap.size W4).drew).next HO5.out HG5.out
   rw [<- HN1.out] at this ⊢
   exact this
  ·exact (HI.out.del HDQ4.out).add HT4.out.map.isMap ⟨ka,kb,kc,bf⟩ ⟨hka,hkb,hkc⟩ HBF.out.1 HBF.out.2.1 HBF.out.2.2 ps' HPN4.out kl (keyLaw.key HKL.out) (by rw [HK.out];exact HKL.out)
  ·exact (((((Fr.refl (TbO T M pv) w).below HB3.out).trans HF4.out).below (Below.refl W4.heap.size W4).drew).turned HG5.out).set ⟨T,1,none⟩ (.inl rfl) _
  ·exact HMV4.out.imp id (fun ⟨q,a,b⟩ => ⟨q,by omega,b⟩)
end Go.Proofs.YthdmjmnkhlpnnabGreatDoor
