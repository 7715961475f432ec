import Derived.Test.YthdmjmnkhlpnnabGreatDoorY03
import Derived.Test.YthdmjmnkhlpnnabGreatDoorY04
import Derived.Deep.DeepCutAuto
namespace Go.Proofs.YthdmjmnkhlpnnabGreatDoor
open Go.RowKit
set_option maxRecDepth 20000 in
theorem rzfa_get (i:Nat) (h:i < 288):zfa.getD i 0=if i < 144 then 8 else if i < 256 then 9 else if i < 280 then 7 else 8:=by
 have:∀ i,i < 288->zfa.getD i 0=if i < 144 then 8 else if i < 256 then 9 else if i < 280 then 7 else 8:=by decide
 exact this i h
set_option maxRecDepth 20000 in
theorem rzfa_len:zfa.length=288:=by decide
theorem rzfb_get (i:Nat) (h:i < 32):zfb.getD i 0=5:=by
 have:∀ i,i < 32->zfb.getD i 0=5:=by decide
 exact this i h
theorem rzfb_len:zfb.length=32:=by decide
set_option maxRecDepth 20000 in
theorem rzfa_ok:zfa.any nl=false:=by decide
theorem rzfb_ok:zfb.any nl=false:=by decide
set_option maxRecDepth 20000 in
theorem rzfa_wt:wt zfa<=32768:=by decide
theorem rzfb_wt:wt zfb<=32768:=by decide
theorem step_lst {zs:List Int} {base:Nat} {w wr w1:World} {v v':Value} {i:Nat} {r:Int} {o:Obj} (hlt:i < zs.length) (hr:zs.getD i 0=r)
  (hbase:base=w.heap.size) (hown:wr.ownsRow base 3 1 v i (ivs (zs.take i))) (hB:Below w.heap.size w wr)
  (hown':w1.ownsRow base 3 1 v' (i+1) (ivs (zs.take i) ++ [Value.int .i64 r])) (hg:(wr.alloc o).grownBy w1 v.ownBlock) :
  w1.ownsRow base 3 1 v' (i+1) (ivs (zs.take (i+1))) /\ Below w.heap.size w w1:=by
 subst hbase
 refine ⟨?_,(hB.alloc hB.size o).grown hg (by have:=hB.size;simp;omega) (fun k hk => (hown.lt k hk).1)⟩
 rw [take_snocI zs i hlt,hr,ivs,List.map_append]
 exact hown'
theorem own_bel {w w':World} {base n:Nat} {v:Value} {xs:List Value} (h:w.ownsRow base 3 1 v n xs) (hb:Below w.heap.size w w'):w'.ownsRow base 3 1 v n xs:=by
 obtain ⟨g1,g2⟩:=h
 refine ⟨g1,?_⟩
 rcases g2 with h2 | ⟨g,cap,cur,hv,hg,hh,r⟩
 ·exact Or.inl h2
 ·exact Or.inr ⟨g,cap,cur,hv,hg,(hb.block g (Array.getElem?_eq_some_iff.1 hh).1).trans hh,r⟩
theorem results_cells2 {P:Program} {fn:Func} {p q:Tmp} {ty:TypeId} (h:fn.results=#[.cell p ty,.cell q ty]) (tmps:Array Value) (w:World) (g g2:Nat) (t:TypeId) (cs cs2:Array Value) (fr:Nat × Nat) (d:TypeDesc)
  (hp:tmps.getD p undef = .pointer (some ⟨g,0,none⟩)) (hg:w.heap[g]? = some (.cells cs t fr))
  (hq:tmps.getD q undef = .pointer (some ⟨g2,0,none⟩)) (hg2:w.heap[g2]? = some (.cells cs2 t fr))
  (hu:P.underlying ty=some d) (hd:(match d with | .struct _ | .array _ _ => true | _ => false)=true) (hi:(P.info? ty).map (·.size)=some cs.size) (hi2:(P.info? ty).map (·.size)=some cs2.size) :
  (results fn tmps).run P w = .ok (.tuple #[.agg cs,.agg cs2]) w:=by
 have hp':tmps[p]?.getD undef = .pointer (some ⟨g,0,none⟩):=by simpa using hp
 have hq':tmps[q]?.getD undef = .pointer (some ⟨g2,0,none⟩):=by simpa using hq
 simp [results,h,hp',hq',asAddr,run_loadVar_row w g t ty cs fr d hg hu hd hi,run_loadVar_row w g2 t ty cs2 fr d hg2 hu hd hi2]
set_option maxRecDepth 20000 in
set_option maxHeartbeats 3200000 in
theorem rfixed_any (w:World) :
  Calls Tryz.prog 86 #[] w fun e w' => ∃ ca cb,e = .returned (.tuple #[ca,cb]) /\ Coder w' zfa ca /\ Coder w' zfb cb /\ Below w.heap.size w w':=by
 obtain ⟨i0,hi,hz0,hz1,hz2⟩:=info_parts info3
 have HZ:=hid (And.intro hi (And.intro hz0 (And.intro hz1 hz2)))
 have H0:=And.intro (start_cd w (cd4 (fun _ => 0) (fun _ => 0) (fun _ => 0) (.slice none 0 0)) rfl) (show ((w.alloc (.cells (cd4 (fun _ => 0) (fun _ => 0) (fun _ => 0) (.slice none 0 0)) 146)).alloc (.cells (cd4 (fun _ => 0) (fun _ => 0) (fun _ => 0) (.slice none 0 0)) 146)).heap.size=w.heap.size+2 by simp)
 clear hi hz0 hz1 hz2
 go_enter Tryz.func86,Tryz.ntmps86
 go_wp2
 rw [cd4_zero]
 generalize ((w.alloc (.cells (cd4 (fun _ => 0) (fun _ => 0) (fun _ => 0) (.slice none 0 0)) 146)).alloc (.cells (cd4 (fun _ => 0) (fun _ => 0) (fun _ => 0) (.slice none 0 0)) 146))=w0 at H0 ⊢
 obtain ⟨⟨h1,h2,h3⟩,h4⟩:=H0
 have H1:=hid h1
 have H2:=hid h2
 have H3:=hid h3
 have h5:w.heap.size+2<=w0.heap.size:=by omega
 clear h1 h2 h3 h4
 go_loopw [2,3,4] (fun av iv _ wr => ∃ i:Nat,i<=288 /\ iv = .int .i64 i /\ Hid (wr.ownsRow w0.heap.size 3 1 av i (ivs (zfa.take i))) /\ Hid (Below w0.heap.size w0 wr)) (fun _ iv _ _ => 288 - (intOf iv).toNat)
 case atStart => exact ⟨0,by omega,rfl,⟨rfl,Or.inl ⟨rfl,rfl⟩⟩,Below.refl _ _⟩
 case round =>
  obtain ⟨i,hi,rfl,hO,hB⟩:=hrel
  obtain ⟨so,sc,rfl⟩:=own_shape hO.out
  have hBs:=hB.out.size
  by_cases hlt:i < 288
  ·have hlz:i < zfa.length:=by rw [rzfa_len];exact hlt
   have hget:=rzfa_get i hlt
   obtain ⟨L2,hL2⟩:∃ L2,L2=ivs (zfa.take i):=⟨_,rfl⟩
   have HOW:Hid (wr.ownsRow w0.heap.size 3 1 (.slice so i sc) i L2):=by rw [hL2];exact hO.out
   have HL2:=hid hL2
   have HLZ:=hid hlz
   clear hL2 hlz
   have hcase:∃ z:Int,Hid (zfa.getD i 0=z) /\ ((z=8 /\ i < 144) ∨ (z=9 /\ 144<=i /\ i < 256) ∨ (z=7 /\ 256<=i /\ i < 280) ∨ (z=8 /\ 280<=i)):=by
    refine ⟨_,rfl,?_⟩
    rw [hget]
    split
    ·omega
    ·split
     ·omega
     ·split <;> omega
   obtain ⟨z,HZV,hcase⟩:=hcase
   clear hget
   rcases hcase with ⟨rfl,hA⟩ | ⟨rfl,hA,hA2⟩ | ⟨rfl,hA,hA2⟩ | ⟨rfl,hA⟩
   ·have d1:decide ((144:Int)<=(i:Int))=false:=by simp;omega
    have d3:decide ((256:Int)<=(i:Int))=false:=by simp;omega
    go_wp2_with (at_builtin;refine wpList_append_own _ rfl (.tmp 23) (.tmp 25) 23 rfl w0.heap.size 3 i0 (.int .i64 0) 1 8 Tryz.underlying23 HZ.out.1 HZ.out.2.1 HZ.out.2.2.1 HZ.out.2.2.2 rfl (by decide) (.slice so i sc) i L2 rfl (HOW.out.alloc _) ⟨wr.heap.size,0,none⟩ 1 1 [.int .i64 8] rfl rfl (cell_one_new _ _ _) ?c2a ?c3a ?c4a ?c5a ?_)
    case c2a => intro u hu;simp at hu;subst hu;rfl
    case c3a => unfold maxLen;omega
    case c4a => omega
    case c5a => simp;omega
    intro v' w1 hown' hgrow hnn
    have R:=hid (step_lst HLZ.out HZV.out rfl hO.out hB.out (by rw [<- HL2.out];exact hown') hgrow)
    clear hown' hgrow hnn
    go_wp2
    exact ⟨⟨i+1,by omega,by go_num,R.out.1,R.out.2⟩,by simp [intOf];omega⟩
   ·have d1:decide ((144:Int)<=(i:Int))=true:=by simp;omega
    have d2:decide ((i:Int) < 256)=true:=by simp;omega
    have d3:decide ((256:Int)<=(i:Int))=false:=by simp;omega
    go_wp2_with (at_builtin;refine wpList_append_own _ rfl (.tmp 23) (.tmp 25) 23 rfl w0.heap.size 3 i0 (.int .i64 0) 1 8 Tryz.underlying23 HZ.out.1 HZ.out.2.1 HZ.out.2.2.1 HZ.out.2.2.2 rfl (by decide) (.slice so i sc) i L2 rfl (HOW.out.alloc _) ⟨wr.heap.size,0,none⟩ 1 1 [.int .i64 9] rfl rfl (cell_one_new _ _ _) ?c2a ?c3a ?c4a ?c5a ?_)
    case c2a => intro u hu;simp at hu;subst hu;rfl
    case c3a => unfold maxLen;omega
    case c4a => omega
    case c5a => simp;omega
    intro v' w1 hown' hgrow hnn
    have R:=hid (step_lst HLZ.out HZV.out rfl hO.out hB.out (by rw [<- HL2.out];exact hown') hgrow)
    clear hown' hgrow hnn
    go_wp2
    exact ⟨⟨i+1,by omega,by go_num,R.out.1,R.out.2⟩,by simp [intOf];omega⟩
   ·have d1:decide ((144:Int)<=(i:Int))=true:=by simp;omega
    have d2:decide ((i:Int) < 256)=false:=by simp;omega
    have d3:decide ((256:Int)<=(i:Int))=true:=by simp;omega
    have d4:decide ((i:Int) < 280)=true:=by simp;omega
    go_wp2_with (at_builtin;refine wpList_append_own _ rfl (.tmp 23) (.tmp 25) 23 rfl w0.heap.size 3 i0 (.int .i64 0) 1 8 Tryz.underlying23 HZ.out.1 HZ.out.2.1 HZ.out.2.2.1 HZ.out.2.2.2 rfl (by decide) (.slice so i sc) i L2 rfl (HOW.out.alloc _) ⟨wr.heap.size,0,none⟩ 1 1 [.int .i64 7] rfl rfl (cell_one_new _ _ _) ?c2a ?c3a ?c4a ?c5a ?_)
    case c2a => intro u hu;simp at hu;subst hu;rfl
    case c3a => unfold maxLen;omega
    case c4a => omega
    case c5a => simp;omega
    intro v' w1 hown' hgrow hnn
    have R:=hid (step_lst HLZ.out HZV.out rfl hO.out hB.out (by rw [<- HL2.out];exact hown') hgrow)
    clear hown' hgrow hnn
    go_wp2
    exact ⟨⟨i+1,by omega,by go_num,R.out.1,R.out.2⟩,by simp [intOf];omega⟩
   ·have d1:decide ((144:Int)<=(i:Int))=true:=by simp;omega
    have d2:decide ((i:Int) < 256)=false:=by simp;omega
    have d3:decide ((256:Int)<=(i:Int))=true:=by simp;omega
    have d4:decide ((i:Int) < 280)=false:=by simp;omega
    go_wp2_with (at_builtin;refine wpList_append_own _ rfl (.tmp 23) (.tmp 25) 23 rfl w0.heap.size 3 i0 (.int .i64 0) 1 8 Tryz.underlying23 HZ.out.1 HZ.out.2.1 HZ.out.2.2.1 HZ.out.2.2.2 rfl (by decide) (.slice so i sc) i L2 rfl (HOW.out.alloc _) ⟨wr.heap.size,0,none⟩ 1 1 [.int .i64 8] rfl rfl (cell_one_new _ _ _) ?c2a ?c3a ?c4a ?c5a ?_)
    case c2a => intro u hu;simp at hu;subst hu;rfl
    case c3a => unfold maxLen;omega
    case c4a => omega
    case c5a => simp;omega
    intro v' w1 hown' hgrow hnn
    have R:=hid (step_lst HLZ.out HZV.out rfl hO.out hB.out (by rw [<- HL2.out];exact hown') hgrow)
    clear hown' hgrow hnn
    go_wp2
    exact ⟨⟨i+1,by omega,by go_num,R.out.1,R.out.2⟩,by simp [intOf];omega⟩
  ·have he:i=288:=by omega
   have d0:decide ((i:Int) < 288)=false:=by simp;omega
   have hOA:wr.ownsRow w0.heap.size 3 1 (.slice so i sc) i (ivs zfa):=by
    have:=hO.out
    rw [List.take_of_length_le (by rw [rzfa_len];omega)] at this
    exact this
   have HE:=hid he
   have HOA:=hid hOA
   clear hOA hO he hi hlt
   generalize wr=w1 at HOA hB hBs ⊢
   go_wp2
   go_loopw [5,6] (fun bv iv wi => ∃ i:Nat,i<=32 /\ iv = .int .i64 i /\ Hid (wi.ownsRow w1.heap.size 3 1 bv i (ivs (zfb.take i))) /\ Hid (Below w1.heap.size w1 wi)) (fun _ iv _ => 32 - (intOf iv).toNat)
   case atStart => exact ⟨0,by omega,rfl,⟨rfl,Or.inl ⟨rfl,rfl⟩⟩,Below.refl _ _⟩
   case round =>
    obtain ⟨i,hi,rfl,hO,hB2⟩:=hrel
    obtain ⟨so2,sc2,rfl⟩:=own_shape hO.out
    have hBs2:=hB2.out.size
    by_cases hlt:i < 32
    ·have HLZ:Hid (i < zfb.length):=by show _ < _;rw [rzfb_len];exact hlt
     have HZV:=hid (rzfb_get i hlt)
     obtain ⟨L2,hL2⟩:∃ L2,L2=ivs (zfb.take i):=⟨_,rfl⟩
     have HOW:Hid (wr.ownsRow w1.heap.size 3 1 (.slice so2 i sc2) i L2):=by rw [hL2];exact hO.out
     have HL2:=hid hL2
     clear hL2
     go_wp2_with (at_builtin;refine wpList_append_own _ rfl (.tmp 31) (.tmp 32) 23 rfl w1.heap.size 3 i0 (.int .i64 0) 1 8 Tryz.underlying23 HZ.out.1 HZ.out.2.1 HZ.out.2.2.1 HZ.out.2.2.2 rfl (by decide) (.slice so2 i sc2) i L2 rfl (HOW.out.alloc _) ⟨wr.heap.size,0,none⟩ 1 1 [.int .i64 5] rfl rfl (cell_one_new _ _ _) ?c2b ?c3b ?c4b ?c5b ?_)
     case c2b => intro u hu;simp at hu;subst hu;rfl
     case c3b => unfold maxLen;omega
     case c4b => omega
     case c5b => simp;omega
     intro v' w2 hown' hgrow hnn
     have R:=hid (step_lst HLZ.out HZV.out rfl hO.out hB2.out (by rw [<- HL2.out];exact hown') hgrow)
     clear hown' hgrow hnn
     go_wp2
     exact ⟨⟨i+1,by omega,by go_num,R.out.1,R.out.2⟩,by simp [intOf];omega⟩
    ·obtain rfl:i=32:=by omega
     have hOB:wr.ownsRow w1.heap.size 3 1 (.slice so2 32 sc2) 32 (ivs zfb):=by
      have:=hO.out
      rw [List.take_of_length_le (by rw [rzfb_len];omega)] at this
      exact this
     obtain ⟨ao',c',he,hSA⟩:=owns_seg HOA.out
     injection he with e1 e2 e3
     subst e1
     obtain ⟨bo',d',he',hSB⟩:=owns_seg hOB
     injection he' with e1' e2' e3'
     subst e1'
     have hCA:=coder_any so sc zfa wr (hSA.below hB2.out) (by rw [rzfa_len];omega) rzfa_ok rzfa_wt
     rw [rzfa_len,<- HE.out] at hCA
     have HCA:=hid hCA
     have HSB:=hid hSB
     have HB2:=hid hB2.out
     have R1:Hid (w1.heap[w.heap.size]? = some (.cells (cd4 (fun _ => 0) (fun _ => 0) (fun _ => 0) (.slice none 0 0)) 146 (0,0))):=(hB.out.block _ (by omega)).trans H1.out
     have R2:Hid (w1.heap[w.heap.size+1]? = some (.cells (cd4 (fun _ => 0) (fun _ => 0) (fun _ => 0) (.slice none 0 0)) 146 (0,0))):=(hB.out.block _ (by omega)).trans H2.out
     have q1:w.heap.size+2<=w1.heap.size:=by omega
     clear hCA hSA hSB e2 e3 e2' e3' hO hOB
     have d32:decide ((32:Int) < 32)=false:=by decide
     go_wp2_with (first | (obtain ⟨soa,sca,rfl⟩:=own_shape HOA3.out;refine wpList_store_row rfl 146 _ _ rfl w.heap.size (cd4 (cF zfa) (fun j => (cnt zfa j:Int)) (cA zfa) (.slice soa (plc zfa 15) sca)) rfl rfl 146 _ (by exact R1'.out) (info46' _ _ _ _) (by rw [cd4_size,cd4_size]) (cd4_one _ _ _ _ _ _) ?_) | (obtain ⟨sob,scb,rfl⟩:=own_shape HOB4.out;refine wpList_store_row rfl 146 _ _ rfl (w.heap.size+1) (cd4 (cF zfb) (fun j => (cnt zfb j:Int)) (cA zfb) (.slice sob (plc zfb 15) scb)) rfl rfl 146 _ (by exact (setRow_other _ _ _ _ (by omega)).trans R2'.out) (info46' _ _ _ _) (by rw [cd4_size,cd4_size]) (cd4_one _ _ _ _ _ _) ?_) | (go_at_call 135;have hCB:=coder_any so2 sc2 zfb w3 (HSB.out.below HB3.out) (by rw [rzfb_len];omega) rzfb_ok rzfb_wt;rw [rzfb_len] at hCB;refine hCB.mono ?_;clear hCB;rintro e w4 ⟨svb,rfl,hob,hbb⟩;have HOB4:=hid hob;have HB4:=hid hbb;have R1':=hid ((((HB4.out.block _ (by have:=HB3.out.size;omega)).trans (HB3.out.block _ (by omega))).trans (HB2.out.block _ (by omega))).trans R1.out);have R2':=hid ((((HB4.out.block _ (by have:=HB3.out.size;omega)).trans (HB3.out.block _ (by omega))).trans (HB2.out.block _ (by omega))).trans R2.out);clear hob hbb) | (go_at_call 135;refine HCA.out.mono ?_;rintro e w3 ⟨sva,rfl,hoa,hba⟩;have HOA3:=hid hoa;have HB3:=hid hba;clear hoa hba))
     have z3:=HB3.out.size
     have z4:=HB4.out.size
     have R2s:=fun cs => (setRow_other w4 w.heap.size (w.heap.size+1) cs (by omega)).trans R2'.out
     have hA1:=fun cs => setRow_heap w4 w.heap.size _ cs 146 _ R1'.out
     have hA2:=fun cs cs2 => (setRow_other (w4.setRow w.heap.size cs) (w.heap.size+1) w.heap.size cs2 (by omega)).trans (hA1 cs)
     have hB1:=fun cs cs2 => setRow_heap (w4.setRow w.heap.size cs) (w.heap.size+1) _ cs2 146 _ (R2s cs)
     refine bodyPost_ret (v:=.tuple #[.agg (cd4 (cF zfa) (fun j => (cnt zfa j:Int)) (cA zfa) (.slice soa (plc zfa 15) sca)),.agg (cd4 (cF zfb) (fun j => (cnt zfb j:Int)) (cA zfb) (.slice sob (plc zfb 15) scb))]) (results_cells2 Tryz.results86 _ _ w.heap.size (w.heap.size+1) 146 _ _ (0,0) _ rfl (hA2 _ _) rfl (hB1 _ _) Tryz.underlying146 rfl (info46' _ _ _ _) (info46' _ _ _ _)) rfl ⟨_,_,rfl,⟨_,wr.heap.size,rfl,?_⟩,⟨_,w3.heap.size,rfl,?_⟩,?_⟩
     ·exact own_setRow (own_setRow (own_bel HOA3.out HB4.out) R1'.out (by omega)) (R2s _) (by omega)
     ·exact own_setRow (own_setRow HOB4.out R1'.out (by omega)) (R2s _) (by omega)
     ·have hb:Below w.heap.size w w4:=(((H3.out.trans (hB.out.mono (by omega))).trans (HB2.out.mono (by omega))).trans (HB3.out.mono (by omega))).trans (HB4.out.mono (by omega))
      exact below_row (below_row hb (Nat.le_refl _) _) (by omega) _
end Go.Proofs.YthdmjmnkhlpnnabGreatDoor
namespace Go.Proofs.YthdmjmnkhlpnnabGreatDoor
open Go.RowKit
theorem setRow_same {w:World} {g:Nat} {cs:Array Value} {t:TypeId} {fr:Nat × Nat} (h:w.heap[g]? = some (.cells cs t fr)):w.setRow g cs=w:=by
 have e:(w.setRow g cs).heap=w.heap:=by
  apply Array.ext_getElem?
  intro i
  by_cases hi:i=g
  ·subst hi
   rw [setRow_heap w i cs cs t fr h,h]
  ·exact setRow_other w g i cs hi
 have e2:w.setRow g cs={ w with heap:=(w.setRow g cs).heap }:=rfl
 rw [e2,e]
theorem step_load_row {P:Program} {ops:Array Oper} {o:Oper} {a:Act} {w:World} {K:Act->World->Prop} {Q:Exit->Act->World->Prop} {X:Prop} (hgd:o.guard=none) (ty:TypeId) (x:Operand) (ho:o.op = .load ty x)
  (g:Nat) (hx:a.eval x = .pointer (some ⟨g,0,none⟩)) (t:TypeId) (cs:Array Value) (fr:Nat × Nat) (d:TypeDesc) (hg:w.heap[g]? = some (.cells cs t fr))
  (hu:P.underlying ty=some d) (hd:(match d with | .struct _ | .array _ _ => true | _ => false)=true) (hi:(P.info? ty).map (·.size)=some cs.size)
  (h:K (a.put o.dst (.agg cs)) w):if Region.wanted o (yielded ops a.tmps)=true then Oper.wp P o a w K Q else X:=by
 rw [if_pos (by simp [Region.wanted,hgd])]
 exact wp_load_row ty x ho g hx t cs fr d hg hu hd hi h
theorem step_store_row {P:Program} {ops:Array Oper} {o:Oper} {a:Act} {w:World} {K:Act->World->Prop} {Q:Exit->Act->World->Prop} {X:Prop} (hgd:o.guard=none) (ty:TypeId) (x y:Operand) (ho:o.op = .store ty x y)
  (g:Nat) (cells:Array Value) (hx:a.eval x = .pointer (some ⟨g,0,none⟩)) (hy:a.eval y = .agg cells)
  (t:TypeId) (hg:w.heap[g]? = some (.cells cells t (0,0))) (hi:(P.info? ty).map (·.size)=some cells.size)
  (h1:cells.all (·.oneCell')=true)
  (h:K (a.put o.dst undef) w):if Region.wanted o (yielded ops a.tmps)=true then Oper.wp P o a w K Q else X:=by
 rw [if_pos (by simp [Region.wanted,hgd])]
 refine wp_store_row ty x y ho g cells hx hy t cells hg hi rfl h1 ?_
 rw [setRow_same hg]
 exact h
theorem eval_put_ne (a:Act) (d t:Tmp) (v:Value) (h:d ≠ t):(a.put (some d) v).eval (.tmp t)=a.eval (.tmp t):=by
 simp [Act.put,Act.eval,h]
theorem eval_put_same (a:Act) (d:Tmp) (v:Value) (h:d < a.tmps.size):(a.put (some d) v).eval (.tmp d)=v:=by
 simp [Act.put,Act.eval,h]
theorem put_comm (a:Act) (d e:Tmp) (u v:Value) (h:d ≠ e):(a.put (some d) u).put (some e) v=(a.put (some e) v).put (some d) u:=by
 simp only [Act.put]
 rw [Array.setIfInBounds_comm _ _ h]
theorem put_size (a:Act) (d:Tmp) (v:Value):(a.put (some d) v).tmps.size=a.tmps.size:=by simp [Act.put]
theorem ret_two {P:Program} {id T d1 d2 z x y gz gx gy:Nat} {p1 p2 p3 p4:String} {Q:Exit->Act->World->Prop} {a:Act} {w:World} (cs:Array Value) (D:TypeDesc) (hm:P.follows .mixedOrders=true)
  (hz:a.eval (.tmp z) = .pointer (some ⟨gz,0,none⟩)) (hx:a.eval (.tmp x) = .pointer (some ⟨gx,0,none⟩)) (hy:a.eval (.tmp y) = .pointer (some ⟨gy,0,none⟩))
  (hne:d1 ≠ z /\ d1 ≠ x /\ d1 ≠ y /\ d2 ≠ z /\ d2 ≠ x /\ d2 ≠ y /\ d1 ≠ d2) (hs:d1 < a.tmps.size /\ d2 < a.tmps.size)
  (bz:w.heap[gz]? = some (.cells cs T (0,0))) (bx:w.heap[gx]? = some (.cells cs T (0,0))) (by':w.heap[gy]? = some (.cells cs T (0,0)))
  (hu:P.underlying T=some D) (hd:(match D with | .struct _ | .array _ _ => true | _ => false)=true) (hi:(P.info? T).map (·.size)=some cs.size) (h1:cs.all (·.oneCell')=true)
  (h:Q .normal ((a.put (some d1) (.agg cs)).put (some d2) (.agg cs)) w.drew) :
  (Code.region id #[{ dst:=some d1,op:=.load T (.tmp z),type:=T,pos:=p1,after:=#[],guard:=none },
    { dst:=some d2,op:=.load T (.tmp z),type:=T,pos:=p2,after:=#[{ on:=2,ground:=.gcOnly .lateStores }],guard:=none },
    { dst:=none,op:=.store T (.tmp x) (.tmp d1),type:=0,pos:=p3,after:=#[{ on:=0,ground:=.data },{ on:=0,ground:=.phase },{ on:=1,ground:=.textOnly .lateStores }],guard:=none },
    { dst:=none,op:=.store T (.tmp y) (.tmp d2),type:=0,pos:=p4,after:=#[{ on:=1,ground:=.data },{ on:=2,ground:=.chain },{ on:=0,ground:=.phase },{ on:=1,ground:=.phase },{ on:=2,ground:=.phase }],guard:=none }] true).wp P Q a w:=by
 obtain ⟨n1,n2,n3,n4,n5,n6,n7⟩:=hne
 obtain ⟨s1,s2⟩:=hs
 have n8:d2 ≠ d1:=Ne.symm n7
 have cz:w.drew.heap[gz]? = some (.cells cs T (0,0)):=bz
 have cx:w.drew.heap[gx]? = some (.cells cs T (0,0)):=bx
 have cy:w.drew.heap[gy]? = some (.cells cs T (0,0)):=by'
 refine wp_region_any hm ?_
 change wpAny _ _ _ _ _ _ _ (World.drew _)
 generalize w.drew=W at cz cx cy h ⊢
 refine wpAny_ready (rs:=[0,1]) (by kernel_rfl) (by simp) ?_
 refine AllReady.cons rfl (fun K hK => ?_) (AllReady.cons rfl (fun K hK => ?_) AllReady.nil)
 ·refine step_load_row rfl T (.tmp z) rfl gz hz T cs (0,0) D cz hu hd hi (hK _ _ ?_)
  clear hK K
  refine wpAny_ready (rs:=[1,2]) (by kernel_rfl) (by simp) ?_
  refine AllReady.cons rfl (fun K hK => ?_) (AllReady.cons rfl (fun K hK => ?_) AllReady.nil)
  ·refine step_load_row rfl T (.tmp z) rfl gz (by show (a.put (some d1) _).eval _=_;rw [eval_put_ne _ _ _ _ n1];exact hz) T cs (0,0) D cz hu hd hi (hK _ _ ?_)
   clear hK K
   refine wpAny_ready (rs:=[2]) (by kernel_rfl) (by simp) ?_
   refine AllReady.cons rfl (fun K hK => ?_) AllReady.nil
   refine step_store_row rfl T (.tmp x) (.tmp d1) rfl gx cs (by show ((a.put (some d1) _).put (some d2) _).eval _=_;rw [eval_put_ne _ _ _ _ n5,eval_put_ne _ _ _ _ n2];exact hx) (by show ((a.put (some d1) _).put (some d2) _).eval _=_;rw [eval_put_ne _ _ _ _ n8,eval_put_same _ _ _ s1]) T cx hi h1 (hK _ _ ?_)
   clear hK K
   refine wpAny_ready (rs:=[3]) (by kernel_rfl) (by simp) ?_
   refine AllReady.cons rfl (fun K hK => ?_) AllReady.nil
   refine step_store_row rfl T (.tmp y) (.tmp d2) rfl gy cs (by show ((a.put (some d1) _).put (some d2) _).eval _=_;rw [eval_put_ne _ _ _ _ n6,eval_put_ne _ _ _ _ n3];exact hy) (by show ((a.put (some d1) _).put (some d2) _).eval _=_;rw [eval_put_same _ _ _ (by rw [put_size];exact s2)]) T cy hi h1 (hK _ _ ?_)
   refine wpAny_done (by kernel_rfl) ?_ _
   exact h
  ·refine step_store_row rfl T (.tmp x) (.tmp d1) rfl gx cs (by show (a.put (some d1) _).eval _=_;rw [eval_put_ne _ _ _ _ n2];exact hx) (by show (a.put (some d1) _).eval _=_;rw [eval_put_same _ _ _ s1]) T cx hi h1 (hK _ _ ?_)
   clear hK K
   refine wpAny_ready (rs:=[1]) (by kernel_rfl) (by simp) ?_
   refine AllReady.cons rfl (fun K hK => ?_) AllReady.nil
   refine step_load_row rfl T (.tmp z) rfl gz (by show (a.put (some d1) _).eval _=_;rw [eval_put_ne _ _ _ _ n1];exact hz) T cs (0,0) D cz hu hd hi (hK _ _ ?_)
   clear hK K
   refine wpAny_ready (rs:=[3]) (by kernel_rfl) (by simp) ?_
   refine AllReady.cons rfl (fun K hK => ?_) AllReady.nil
   refine step_store_row rfl T (.tmp y) (.tmp d2) rfl gy cs (by show ((a.put (some d1) _).put (some d2) _).eval _=_;rw [eval_put_ne _ _ _ _ n6,eval_put_ne _ _ _ _ n3];exact hy) (by show ((a.put (some d1) _).put (some d2) _).eval _=_;rw [eval_put_same _ _ _ (by rw [put_size];exact s2)]) T cy hi h1 (hK _ _ ?_)
   refine wpAny_done (by kernel_rfl) ?_ _
   exact h
 ·refine step_load_row rfl T (.tmp z) rfl gz hz T cs (0,0) D cz hu hd hi (hK _ _ ?_)
  clear hK K
  refine wpAny_ready (rs:=[0]) (by kernel_rfl) (by simp) ?_
  refine AllReady.cons rfl (fun K hK => ?_) AllReady.nil
  refine step_load_row rfl T (.tmp z) rfl gz (by show (a.put (some d2) _).eval _=_;rw [eval_put_ne _ _ _ _ n4];exact hz) T cs (0,0) D cz hu hd hi (hK _ _ ?_)
  clear hK K
  show wpAny _ _ _ _ _ _ ((a.put (some d2) _).put (some d1) _) _
  rw [put_comm a d2 d1 _ _ n8]
  refine wpAny_ready (rs:=[2]) (by kernel_rfl) (by simp) ?_
  refine AllReady.cons rfl (fun K hK => ?_) AllReady.nil
  refine step_store_row rfl T (.tmp x) (.tmp d1) rfl gx cs (by show ((a.put (some d1) _).put (some d2) _).eval _=_;rw [eval_put_ne _ _ _ _ n5,eval_put_ne _ _ _ _ n2];exact hx) (by show ((a.put (some d1) _).put (some d2) _).eval _=_;rw [eval_put_ne _ _ _ _ n8,eval_put_same _ _ _ s1]) T cx hi h1 (hK _ _ ?_)
  clear hK K
  refine wpAny_ready (rs:=[3]) (by kernel_rfl) (by simp) ?_
  refine AllReady.cons rfl (fun K hK => ?_) AllReady.nil
  refine step_store_row rfl T (.tmp y) (.tmp d2) rfl gy cs (by show ((a.put (some d1) _).put (some d2) _).eval _=_;rw [eval_put_ne _ _ _ _ n6,eval_put_ne _ _ _ _ n3];exact hy) (by show ((a.put (some d1) _).put (some d2) _).eval _=_;rw [eval_put_same _ _ _ (by rw [put_size];exact s2)]) T cy hi h1 (hK _ _ ?_)
  refine wpAny_done (by kernel_rfl) ?_ _
  exact h
end Go.Proofs.YthdmjmnkhlpnnabGreatDoor
