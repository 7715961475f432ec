import Derived.Test.YthdmjmnkhlpnnabGreatDoorZ08
import Derived.Test.YthdmjmnkhlpnnabGreatDoorZ09
import Derived.Test.YthdmjmnkhlpnnabGreatDoorZ04
import Derived.Test.YthdmjmnkhlpnnabGreatDoorZ05
import Derived.Lib.BitFns
import Derived.Test.YthdmjmnkhlpnnabGreatDoorZ03
import Derived.Deep.QuietTactic
import Derived.BigQuiet
namespace Go.Proofs.YthdmjmnkhlpnnabGreatDoor
open Go.RowKit Go.Maps
set_option maxRecDepth 20000 in
set_option maxHeartbeats 1000000 in
theorem tnew_any (w:World) :
  Calls Tryz.prog 76 #[.int .i64 32768] w fun e w' => ∃ T M,e = .returned (.pointer (some ⟨T,0,none⟩)) /\ Tbl w' T w.heap.size 0 [] M (.map []) (.slice none 0 0) /\ (∀ K,Tin K 0 [] (.map [])) /\ Below w.heap.size w w' /\ w.heap.size<=T /\ w.heap.size<=M:=by
 have hmm:=@run_makeMap Tryz.prog
 go_enter Tryz.func76,Tryz.ntmps76
 go_wp2
 go_ret
 have e1:(w.alloc (.map #[] 0)).heap.size=w.heap.size+1:=by simp
 refine ⟨w.heap.size+1,w.heap.size,rfl,⟨?_,World.ownsRow_nil _ _ _ _,(World.ownsMap_made w Tryz.prog 136 (plainElem Tryz.prog 3)).alloc _⟩,fun K => ⟨rfl,fun r h => (by cases h),fun q r h1 h2 _ => (by omega),fun kl h => (by simp [has] at h)⟩,?_,by omega,by omega⟩
 ·rw [<- e1]
  exact heap_alloc_new _ _
 ·exact ((Below.refl w.heap.size w).alloc (Nat.le_refl _) _).alloc (by omega) _
theorem tbacks_any (w:World) (T ka kb kc:Nat) :
  Calls Tryz.prog 154 #[.pointer (some ⟨T,0,none⟩),k3 ka kb kc] w fun e w' => e = .returned (.func (.func 182) #[] #[.pointer (some ⟨w.heap.size,0,none⟩),.pointer (some ⟨w.heap.size+1,0,none⟩)]) /\ w'=(w.alloc (.cells #[.pointer (some ⟨T,0,none⟩)] 117)).alloc (.cells #[.int .u8 ka,.int .u8 kb,.int .u8 kc] 136):=by
 unfold k3
 go_enter Tryz.func154,Tryz.ntmps154
 go_wp2
 go_ret
 exact ⟨rfl,rfl⟩
end Go.Proofs.YthdmjmnkhlpnnabGreatDoor
namespace Go.Proofs.YthdmjmnkhlpnnabGreatDoor
open Go.RowKit Go.Maps Go.Shelf
variable {w:World} {T base nx:Nat} {ps:List Pl3} {M:Nat} {D:DataW Unit} {pv:Value} {K:Nat->Value} {kv:Value}
def Fst (nx:Nat) (D:DataW Unit) (kl:Lit) (xs:List (Bk K kv nx)):Prop:=has D kl=true -> ∀ c:Int,D.atKey kl (.lit (.int .i64 0)) = .lit (.int .i64 c)->nx - c<=32768->Hd1 nx c xs
theorem tbacks_stops (n:Nat) (hn:1<=n) (B1 B2:Nat) (ht:Tbl w T base nx ps M D pv) (hi:Tin K nx ps D) (hnx:nx<=1000000000000000)
  (hB1:w.heap[B1]? = some (.cells #[.pointer (some ⟨T,0,none⟩)] 117 (0,0))) (ka kb kc:Nat) (hkv:kv=k3 ka kb kc) (kl:Lit) (hkl:keyOf Tryz.prog 136 (k3 ka kb kc)=some kl)
  (hB2:w.heap[B2]? = some (.cells #[.int .u8 ka,.int .u8 kb,.int .u8 kc] 136 (0,0))) :
  SeqStopsK Fence.wide n Tryz.prog 182 #[.pointer (some ⟨B1,0,none⟩),.pointer (some ⟨B2,0,none⟩)] (fun x:Bk K kv nx => #[Value.int .i64 (x.1:Nat)]) (Kx T M pv B1 B2) (Fst nx D kl) (Fst nx D kl) nx w:=fun l J Jx W hW hJ _ hY h0 =>
 tbacks_in n hn l B1 B2 J Jx W hJ (ht.kept (fun k hk => hW.block k (ht.olt hk))) hi hnx ((hW.block B1 (Array.getElem?_eq_some_iff.1 hB1).1).trans hB1) ka kb kc hkv kl hkl ((hW.block B2 (Array.getElem?_eq_some_iff.1 hB2).1).trans hB2) hY h0
end Go.Proofs.YthdmjmnkhlpnnabGreatDoor
namespace Go.Proofs.YthdmjmnkhlpnnabGreatDoor
open Go.RowKit Go.Maps
set_option maxRecDepth 20000 in
set_option maxHeartbeats 1000000 in
theorem forget_any (w:World) (S:Nat) (tr en kn:Int) (X:ByteArray) (tv:Value) (hS:w.heap[S]? = some (.cells #[.int .i64 tr,.int .i64 en,.string X,tv,.int .i64 kn] 119 (0,0))) :
  Calls Tryz.prog 41 #[.pointer (some ⟨S,0,none⟩)] w fun e w' => e = .returned (.tuple #[]) /\ ∃ T M,w'.heap[S]? = some (.cells #[.int .i64 tr,.int .i64 en,.string ⟨#[]⟩,.pointer (some ⟨T,0,none⟩),.int .i64 0] 119 (0,0)) /\ Tbl w' T w.heap.size 0 [] M (.map []) (.slice none 0 0) /\ (∀ K,Tin K 0 [] (.map [])) /\ Fr (fun k => k=S) w w' /\ w.heap.size<=T /\ w.heap.size<=M:=by
 have HS:=hid hS
 have c2:w.cell? ⟨S,2,none⟩=some (.string X):=by rw [cell_of_row _ _ 2 _ _ _ hS];rfl
 have c4:w.cell? ⟨S,4,none⟩=some (.int .i64 kn):=by rw [cell_of_row _ _ 4 _ _ _ hS];rfl
 have f0:∀ j,w.frozen? ⟨S,j,none⟩=false:=fun j => by simp [World.frozen?,hS]
 clear hS
 go_enter Tryz.func41,Tryz.ntmps41
 go_upto_region 1 with fail
 have HF1:=hid (((Fr.refl (fun k => k=S) w).set ⟨S,2,none⟩ rfl (.string ⟨#[]⟩)).set ⟨S,4,none⟩ rfl (.int .i64 0))
 have HS1:Hid (((w.setCell ⟨S,2,none⟩ (.string ⟨#[]⟩)).setCell ⟨S,4,none⟩ (.int .i64 0)).heap[S]? = some (.cells #[.int .i64 tr,.int .i64 en,.string ⟨#[]⟩,tv,.int .i64 0] 119 (0,0))):=by
  rw [blk_set (blk_set HS.out _ _)];rfl
 have HZ1:Hid (((w.setCell ⟨S,2,none⟩ (.string ⟨#[]⟩)).setCell ⟨S,4,none⟩ (.int .i64 0)).heap.size=w.heap.size):=by show _=_;simp
 clear c2 c4 f0
 generalize (w.setCell ⟨S,2,none⟩ (.string ⟨#[]⟩)).setCell ⟨S,4,none⟩ (.int .i64 0)=W1 at HF1 HS1 HZ1 ⊢
 have hlt:S < W1.heap.size:=(Array.getElem?_eq_some_iff.1 HS1.out).1
 go_wp2_with (go_at_call 76;refine (tnew_any W1).mono ?_;rintro e W2 ⟨T,M,rfl,ht2,hi2,hb2,hT2,hM2⟩;have HT2:=hid ht2;have HI2:=hid hi2;have HB2:=hid hb2;have hS2:=(hb2.block S hlt).trans HS1.out;have c3:W2.cell? ⟨S,3,none⟩=some tv:=(by rw [cell_of_row _ _ 3 _ _ _ hS2];rfl);have f3:W2.frozen? ⟨S,3,none⟩=false:=(by simp [World.frozen?,hS2]);have HS2:=hid hS2;clear ht2 hi2 hb2 hS2)
 refine bodyPost_end (results_none Tryz.results41 _ _ _) rfl ⟨rfl,T,M,by rw [blk_set HS2.out];rfl,?_,HI2.out,(HF1.out.below HB2.out).set ⟨S,3,none⟩ rfl _,by have:=HZ1.out;omega,by have:=HZ1.out;omega⟩
 have hb:=HT2.out
 rw [HZ1.out] at hb
 refine hb.kept (fun k hk => Below.heap_setCell _ _ _ _ ?_)
 rintro rfl
 rcases hk with e | e | e
 ·omega
 ·omega
 ·simp [Value.ownBlock] at e
end Go.Proofs.YthdmjmnkhlpnnabGreatDoor
namespace Go.Proofs.YthdmjmnkhlpnnabGreatDoor
open Go.RowKit Go.Maps
set_option maxRecDepth 20000 in
set_option maxHeartbeats 1000000 in
theorem sbegin_any (w:World) (S:Nat) (tr en kn:Int) (X Y:ByteArray) (tv:Value) (o:Nat) (ho:o=X.size - 32768) (hX:X.size<=1000000) (hY:Y.size<=1000000) (hk1:0<=kn) (hk2:kn<=2000000) (hS:w.heap[S]? = some (.cells #[.int .i64 tr,.int .i64 en,.string X,tv,.int .i64 kn] 119 (0,0))) :
  Calls Tryz.prog 106 #[.pointer (some ⟨S,0,none⟩),.string Y] w fun e w' => e = .returned (.int .i64 (X.size - o:Nat)) /\ w'.heap[S]? = some (.cells #[.int .i64 tr,.int .i64 en,.string (X.extract o X.size ++ Y),tv,.int .i64 (kn - o)] 119 (0,0)) /\ Fr (fun k => k=S) w w':=by
 have HS:=hid hS
 have c2:w.cell? ⟨S,2,none⟩=some (.string X):=by rw [cell_of_row _ _ 2 _ _ _ hS];rfl
 have c4:w.cell? ⟨S,4,none⟩=some (.int .i64 kn):=by rw [cell_of_row _ _ 4 _ _ _ hS];rfl
 have f0:∀ j,w.frozen? ⟨S,j,none⟩=false:=fun j => by simp [World.frozen?,hS]
 have j1:IntKind.i64.wrap ((X.size:Int) - 32768)=(X.size:Int) - 32768:=by rw [IntKind.wrap_i64];omega
 have j2:IntKind.i64.wrap (kn - ((X.size:Int) - 32768))=kn - ((X.size:Int) - 32768):=by rw [IntKind.wrap_i64];omega
 clear hS
 go_enter Tryz.func106,Tryz.ntmps106
 go_upto_region 0 with fail
 go_wp2
 ·go_ret
  have e1:((X.size:Int) - 32768).toNat=X.size - 32768:=by omega
  have e2:kn - ((X.size:Int) - 32768)=kn - ((X.size - 32768:Nat):Int):=by omega
  refine ⟨by rw [e1];first | rfl | (rw [ho]) | (simp [ho]),?_,((Fr.refl (fun k => k=S) w).set ⟨S,4,none⟩ rfl _).set ⟨S,2,none⟩ rfl _⟩
  rw [blk_set (blk_set HS.out _ _),<- e2,<- e1]
  rfl
 ·go_ret
  have e1:X.size - 32768=0:=by omega
  have e2:X.extract 0 X.size=X:=by simp
  refine ⟨by rw [e1];rfl,?_,((Fr.refl (fun k => k=S) w).set ⟨S,4,none⟩ rfl _).set ⟨S,2,none⟩ rfl _⟩
  rw [blk_set (blk_set HS.out _ _),e1,e2,show kn - ((0:Nat):Int)=kn by omega]
  rfl
end Go.Proofs.YthdmjmnkhlpnnabGreatDoor
namespace Go.Proofs.YthdmjmnkhlpnnabGreatDoor
open Go.RowKit Go.Maps
def ky (X:ByteArray) (a:Nat):Value:=k3 (byt X a) (byt X (a+1)) (byt X (a+2))
def SxO (S T M:Nat) (pv:Value) (k:Nat):Prop:=k=S ∨ TbO T M pv k
structure Sk (w:World) (X:ByteArray) (kn dr T M:Nat) (pv:Value):Prop where
 st:∃ (base:Nat) (ps:List Pl3) (D:DataW Unit) (K:Nat->Value),Tbl w T base (kn+dr) ps M D pv /\ Tin K (kn+dr) ps D /\ base<=w.heap.size /\ (∀ q,q < kn->K (q+dr)=ky X q) /\ (0 < kn -> ∀ kl,keyOf Tryz.prog 136 (ky X (kn - 1))=some kl->has D kl=true /\ D.atKey kl (.lit (.int .i64 0)) = .lit (.int .i64 ((kn - 1+dr:Nat):Int)))
structure Sx (w:World) (S tr en:Nat) (X:ByteArray) (kn dr T M:Nat) (pv:Value):Prop where
 blk:w.heap[S]? = some (.cells #[.int .i64 tr,.int .i64 en,.string X,.pointer (some ⟨T,0,none⟩),.int .i64 kn] 119 (0,0))
 sk:Sk w X kn dr T M pv
 kX:kn=0 ∨ kn+2<=X.size
variable {w:World} {S tr en:Nat} {X:ByteArray} {kn dr T M:Nat} {pv:Value}
theorem Tin.congr {K K':Nat->Value} {nx:Nat} {ps:List Pl3} {D:DataW Unit} (h:Tin K nx ps D) (hK:∀ q,q < nx->K' q=K q):Tin K' nx ps D :=
 ⟨h.len,h.byt,fun q r h1 h2 h3 => by
  obtain ⟨a,b,c⟩:=h.bef q r h1 h2 h3
  exact ⟨a,b,fun h0 => by rw [hK _ (by omega),hK _ h2];exact c h0⟩,fun kl hk => by
  obtain ⟨a,b,c,d⟩:=h.val kl hk
  exact ⟨a,b,c,by rw [hK _ b];exact d⟩⟩
theorem Sk.kept {w':World} (h:Sk w X kn dr T M pv) (hk:∀ k,TbO T M pv k->w'.heap[k]? = w.heap[k]?) (hs:w.heap.size<=w'.heap.size):Sk w' X kn dr T M pv:=by
 obtain ⟨base,ps,D,K,a,b,c,d⟩:=h.st
 exact ⟨base,ps,D,K,a.kept hk,b,by omega,d⟩
theorem Sk.olt (h:Sk w X kn dr T M pv) {k:Nat} (hk:TbO T M pv k):k < w.heap.size:=by
 obtain ⟨base,ps,D,K,a,-⟩:=h.st
 exact a.olt hk
theorem Sk.below {w':World} (h:Sk w X kn dr T M pv) (hb:Below w.heap.size w w'):Sk w' X kn dr T M pv :=
 h.kept (fun k hk => hb.block k (h.olt hk)) hb.size
theorem Sk.apart (h:Sk w X kn dr T M pv) {k:Nat} {cs:Array Value} (hk:w.heap[k]? = some (.cells cs 119 (0,0))):¬ TbO T M pv k:=by
 obtain ⟨base,ps,D,K,a,-⟩:=h.st
 rintro (e | e | e)
 ·subst e
  have:=a.blk.symm.trans hk
  injection this with this
  injection this with _ this
  exact absurd this (by decide)
 ·exact a.apart hk (by rw [e])
 ·exact owns_type a.row hk (by decide) e.symm
theorem Sx.lt (h:Sx w S tr en X kn dr T M pv):S < w.heap.size:=(Array.getElem?_eq_some_iff.1 h.blk).1
theorem Sx.olt (h:Sx w S tr en X kn dr T M pv) {k:Nat} (hk:SxO S T M pv k):k < w.heap.size:=by
 rcases hk with e | e
 ·rw [e];exact h.lt
 ·exact h.sk.olt e
theorem Sx.kept {w':World} (h:Sx w S tr en X kn dr T M pv) (hk:∀ k,SxO S T M pv k->w'.heap[k]? = w.heap[k]?) (hs:w.heap.size<=w'.heap.size):Sx w' S tr en X kn dr T M pv :=
 ⟨(hk S (.inl rfl)).trans h.blk,h.sk.kept (fun k e => hk k (.inr e)) hs,h.kX⟩
theorem Sx.below {w':World} (h:Sx w S tr en X kn dr T M pv) (hb:Below w.heap.size w w'):Sx w' S tr en X kn dr T M pv :=
 h.kept (fun _ hk => hb.block _ (h.olt hk)) hb.size
theorem Sx.cells (h:Sx w S tr en X kn dr T M pv):w.cell? ⟨S,0,none⟩=some (.int .i64 tr) /\ w.cell? ⟨S,1,none⟩=some (.int .i64 en) /\ w.cell? ⟨S,2,none⟩=some (.string X) /\ w.cell? ⟨S,3,none⟩=some (.pointer (some ⟨T,0,none⟩)) /\ w.cell? ⟨S,4,none⟩=some (.int .i64 kn):=by
 have e:=fun j => cell_of_row w S j _ _ (0,0) h.blk
 exact ⟨by rw [e];rfl,by rw [e];rfl,by rw [e];rfl,by rw [e];rfl,by rw [e];rfl⟩
theorem Sx.free (h:Sx w S tr en X kn dr T M pv) (j:Nat):w.frozen? ⟨S,j,none⟩=false:=by have:=h.blk;simp [World.frozen?,this]
theorem Fr.mono {O O':Nat->Prop} {w w':World} (h:Fr O w w') (ho:∀ k,O k->O' k):Fr O' w w':=⟨h.env,fun k hk hn => h.blk k hk (fun e => hn (ho k e))⟩
theorem Fr.next {O O':Nat->Prop} {a w w':World} (h:Fr O a w) (h':Fr O' w w') (ho:∀ k,O' k->O k ∨ a.heap.size<=k):Fr O a w' :=
 ⟨h.env.trans h'.env,fun k hk hn => (h'.blk k (by have:=h.env.size;omega) (fun e => (ho k e).elim hn (fun e => by omega))).trans (h.blk k hk hn)⟩
theorem SxO.moved {pv':Value} {a:World} (hm:Moved pv pv' a) (k:Nat) (hk:SxO S T M pv' k):SxO S T M pv k ∨ a.heap.size<=k:=by
 rcases hk with e | e | e | e
 ·exact .inl (.inl e)
 ·exact .inl (.inr (.inl e))
 ·exact .inl (.inr (.inr (.inl e)))
 ·rcases hm with hm | ⟨q,hq,hm⟩
  ·exact .inl (.inr (.inr (.inr (e.trans hm))))
  ·rw [hm] at e;injection e with e;exact .inr (by omega)
theorem sadd_any (h:Sk w X kn dr T M pv) (hd:kn+dr<=1000000000000000) :
  Calls Tryz.prog 181 #[.pointer (some ⟨T,0,none⟩),ky X kn] w fun e w' => e = .returned (.tuple #[]) /\ ∃ pv',Sk w' X (kn+1) dr T M pv' /\ Fr (TbO T M pv) w w' /\ Moved pv pv' w:=by
 obtain ⟨base,ps,D,K,a,b,c,d,-⟩:=h.st
 obtain ⟨kl,hkl⟩:=key_of (byt X kn) (byt X (kn+1)) (byt X (kn+2)) (byt_lt _ _) (byt_lt _ _) (byt_lt _ _)
 have hc:=b.congr (K':=fun q => if q=kn+dr then ky X kn else K q) (fun q hq => if_neg (by omega))
 refine (tadd_any a hc c hd (byt X kn) (byt X (kn+1)) (byt X (kn+2)) (byt_lt _ _) (byt_lt _ _) (byt_lt _ _) kl hkl (if_pos rfl)).mono ?_
 rintro e w' ⟨rfl,ps',D',pv',h1,h2,h3,h4,h5⟩
 rw [Nat.add_right_comm] at h1 h2
 refine ⟨rfl,pv',⟨base,ps',_,_,h1,h2,by have:=h3.env.size;omega,fun q hq => ?_,fun _ kl' hk' => ?_⟩,h3,h4⟩
 ·show (if q+dr=kn+dr then ky X kn else K (q+dr))=ky X q
  by_cases e:q=kn
  ·rw [if_pos (by omega),e]
  ·rw [if_neg (by omega)]
   exact d q (by omega)
 ·rw [Nat.add_sub_cancel] at hk' ⊢
  have:kl'=kl:=by
   have e:=hk'.symm.trans hkl
   injection e
  subst this
  exact ⟨has_put_same h5 (keyLaw.key hkl) _,atKey_put_same h5 (keyLaw.key hkl) _ _⟩
theorem byt_app_left (A B:ByteArray) (j:Nat) (h:j < A.size):byt (A ++ B) j=byt A j:=by
 unfold byt
 have e:(A ++ B).data=A.data ++ B.data:=ByteArray.data_append
 have hs:A.data.size=A.size:=rfl
 rw [e,List.getD_eq_getElem?_getD,List.getD_eq_getElem?_getD,Array.getElem?_toList,Array.getElem?_toList,Array.getElem?_append_left (by omega)]
theorem byt_began (X Y:ByteArray) (o j:Nat) (h:o+j < X.size):byt (X.extract o X.size ++ Y) j=byt X (o+j):=by
 rw [byt_app_left _ _ _ (by rw [ByteArray.size_extract];omega)]
 have:=byt_ext3 X o (X.size - o) j (by omega) (by omega)
 rw [show o+(X.size - o)=X.size by omega] at this
 exact this
theorem Sx.began {w':World} (h:Sx w S tr en X kn dr T M pv) (Y:ByteArray) (o:Nat) (hok:o<=kn) (hf:Fr (fun k => k=S) w w') (hb:w'.heap[S]? = some (.cells #[.int .i64 tr,.int .i64 en,.string (X.extract o X.size ++ Y),.pointer (some ⟨T,0,none⟩),.int .i64 ((kn:Int) - o)] 119 (0,0))):Sx w' S tr en (X.extract o X.size ++ Y) (kn - o) (dr+o) T M pv:=by
 have hap:=h.sk.apart h.blk
 have hsk:=h.sk.kept (fun k hk => hf.blk k (h.sk.olt hk) (fun e => hap (e ▸ hk))) hf.env.size
 have hkX:=h.kX
 have hky:∀ q,q+o < kn->ky (X.extract o X.size ++ Y) q=ky X (q+o):=fun q hq => by
  unfold ky
  rw [byt_began X Y o q (by omega),byt_began X Y o (q+1) (by omega),byt_began X Y o (q+2) (by omega),Nat.add_comm q o,show o+(q+1)=o+q+1 by omega,show o+(q+2)=o+q+2 by omega]
 obtain ⟨base,ps,D,K,a,b,c,d,e⟩:=hsk.st
 have en:kn - o+(dr+o)=kn+dr:=by omega
 have ek:(kn:Int) - o=((kn - o:Nat):Int):=by omega
 refine ⟨by rw [<- ek];exact hb,⟨base,ps,D,K,by rw [en];exact a,by rw [en];exact b,c,fun q hq => ?_,fun h0 kl hkl => ?_⟩,?_⟩
 ·rw [hky q (by omega),<- d (q+o) (by omega)]
  congr 1
  omega
 ·rw [hky _ (by omega),show kn - o - 1+o=kn - 1 by omega] at hkl
  have:=e (by omega) kl hkl
  rw [show kn - o - 1+(dr+o)=kn - 1+dr by omega]
  exact this
 ·rcases hkX with e | e
  ·exact .inl (by omega)
  ·right
   rw [ByteArray.size_append,ByteArray.size_extract]
   omega
theorem Sx.nothing (hb:w.heap[S]? = some (.cells #[.int .i64 tr,.int .i64 en,.string ⟨#[]⟩,.pointer (some ⟨T,0,none⟩),.int .i64 0] 119 (0,0))) {base:Nat} (ht:Tbl w T base 0 [] M (.map []) (.slice none 0 0)) (hi:∀ K,Tin K 0 [] (.map [])) (hs:base<=w.heap.size):Sx w S tr en ⟨#[]⟩ 0 0 T M (.slice none 0 0) :=
 ⟨hb,⟨base,[],.map [],fun _ => .int .i64 0,ht,hi _,hs,fun _ h => by omega,fun h => by omega⟩,.inl rfl⟩
end Go.Proofs.YthdmjmnkhlpnnabGreatDoor
namespace Go.Proofs.YthdmjmnkhlpnnabGreatDoor
open Go.RowKit Go.Maps
theorem SxO.apart {w:World} {S tr en:Nat} {X:ByteArray} {kn dr T M:Nat} {pv:Value} (h:Sx w S tr en X kn dr T M pv) {k:Nat} {cs:Array Value} {t:TypeId} {fr:Nat × Nat} (hk:w.heap[k]? = some (.cells cs t fr)) (h1:t ≠ 119) (h2:t ≠ 181) (h3:t ≠ 239):¬ SxO S T M pv k:=by
 obtain ⟨base,ps,D,K,a,-⟩:=h.sk.st
 rintro (e | e | e | e)
 ·subst e
  have:=h.blk.symm.trans hk
  injection this with this
  injection this with _ this
  exact h1 this.symm
 ·subst e
  have:=a.blk.symm.trans hk
  injection this with this
  injection this with _ this
  exact h2 this.symm
 ·exact a.apart hk (by rw [e])
 ·exact owns_type a.row hk (Ne.symm h3) e.symm
theorem Fr.setNew {O:Nat->Prop} {a w:World} (h:Fr O a w) (p:Addr) (hp:a.heap.size<=p.block) (v:Value):Fr O a (w.setCell p v) :=
 ⟨h.env.setCell (by omega) v,fun k hk ho => by rw [Below.heap_setCell _ _ _ _ (by omega)];exact h.blk k hk ho⟩
theorem Sx.beside {w:World} {S tr en:Nat} {X:ByteArray} {kn dr T M:Nat} {pv:Value} (h:Sx w S tr en X kn dr T M pv) (p:Addr) (hp:¬ SxO S T M pv p.block) (v:Value):Sx (w.setCell p v) S tr en X kn dr T M pv :=
 h.kept (fun k hk => Below.heap_setCell _ _ _ _ (fun e => hp (by rw [<- e];exact hk))) (by simp)
end Go.Proofs.YthdmjmnkhlpnnabGreatDoor
namespace Go.Proofs.YthdmjmnkhlpnnabGreatDoor
open Go.RowKit
theorem bitLen_nl2 (x:Nat) (h:x < 2 ^ 64):Lib.bitLen x=nl2 x:=by
 induction x using Nat.strongRecOn with
 | ind x ih =>
  by_cases h0:x=0
  ·subst h0;decide
  ·rw [Lib.bitLen_half x h0 h]
   by_cases h1:x=1
   ·subst h1;decide
   ·rw [ih (x / 2) (by omega) (by omega)]
    unfold nl2
    rw [if_neg (by omega),if_neg h0,Nat.log2_def x,if_pos (by omega)]
    omega
theorem len8_lt (x:Nat) (h:x < 256):Lib.len8 (x:Int)=(nl2 x:Int):=by
 rw [Lib.len8_of (x:Int) (by omega) (by omega),Int.toNat_natCast,bitLen_nl2 x (by omega)]
theorem nl2_shift (x:Nat) (h:256<=x) (h2:x < 65536):nl2 x=8+nl2 (x / 256):=by
 rw [<- bitLen_nl2 x (by omega),<- bitLen_nl2 (x / 256) (by omega),Lib.bitLen_shift8 x h (by omega)]
theorem nl2_le (x:Nat) (h:x < 65536):nl2 x<=16:=by
 rw [<- bitLen_nl2 x (by omega)]
 exact Lib.bitLen_le x 16 (by omega) h
set_option maxHeartbeats 4000000 in
set_option maxRecDepth 100000 in
theorem len64_any (x:Nat) (w:World) (h:x < 65536) :
  Calls Tryz.prog 194 #[.int .u64 x] w fun e w' => e = .returned (.int .i64 (nl2 x)) /\ w=w':=by
 have d0:decide ((4294967296:Int)<=(x:Int))=false:=by simp;omega
 have d1:decide ((65536:Int)<=(x:Int))=false:=by simp;omega
 by_cases h8:256<=x
 ·have d2:decide ((256:Int)<=(x:Int))=true:=by simp;omega
  have i0:0<=(x:Int) / 256:=by omega
  have i1:(x:Int) / 256<=255:=by omega
  go_enter Tryz.func194,Tryz.ntmps194
  go_wp2
  go_ret
  refine ⟨ret_int ?_,rfl⟩
  have e1:(x:Int) / 256=((x / 256:Nat):Int):=by omega
  have e2:=nl2_shift x h8 h
  have e3:=nl2_le x h
  have e4:=len8_lt (x / 256) (by omega)
  rw [<- e1] at e4
  rw [e4]
  unfold wrap64
  omega
 ·have d2:decide ((256:Int)<=(x:Int))=false:=by simp;omega
  have i0:0<=(x:Int):=by omega
  have i1:(x:Int)<=255:=by omega
  go_enter Tryz.func194,Tryz.ntmps194
  go_wp2
  go_ret
  refine ⟨ret_int ?_,rfl⟩
  have e3:=nl2_le x h
  rw [len8_lt x (by omega)]
  unfold wrap64
  omega
theorem len_any (x:Nat) (w:World) (h:x < 65536) :
  Calls Tryz.prog 183 #[.int .u64 x] w fun e w' => e = .returned (.int .i64 (nl2 x)) /\ w=w':=by
 have i1:(x:Int)<=65535:=by omega
 go_enter Tryz.func183,Tryz.ntmps183
 go_wp2_with (go_at_call 194;refine (len64_any x _ h).mono ?_;rintro e w' ⟨rfl,rfl⟩)
 go_ret
 exact ⟨rfl,rfl⟩
theorem nl2_four:nl2 4=3:=by decide +kernel
theorem nl2_two:nl2 2=2:=by decide +kernel
theorem wrap_sum (q r:Nat) (h1:q < 65536) (h2:r<=64):wrap64 ((q:Int)+wrap64 (r:Int))=((q+r:Nat):Int):=by
 unfold wrap64
 omega
theorem spo_more (x g a b:Nat) (hx:x < 65536) (hg:g=2 ∨ g=4) (ha:a=nl2 x) (hb:b=nl2 g) (hl:a<=16) (h:b < a):wrap64 ((x:Int) / 2 ^ (a - b)+wrap64 ((g:Int)*((a:Int) - (b:Int))))=(spo g x:Int):=by
 have e1:(a:Int) - (b:Int)=((a - b:Nat):Int):=by omega
 have e3:x / 2 ^ (a - b)<=x:=Nat.div_le_self _ _
 have e5:g*(a - b)<=4*16:=Nat.mul_le_mul (by omega) (by omega)
 have e6:spo g x=x / 2 ^ (a - b)+g*(a - b):=by unfold spo;rw [<- ha,<- hb]
 rw [e1,e6,<- wrap_sum _ _ (Nat.lt_of_le_of_lt e3 hx) e5]
 clear e3 e5 e6 hx hg ha hb hl h e1
 push_cast
 rfl
theorem spo_none (x g a b:Nat) (hx:x < 65536) (ha:a=nl2 x) (hb:b=nl2 g) (h:¬ b < a):wrap64 ((x:Int)+wrap64 0)=(spo g x:Int):=by
 have e6:spo g x=x:=by unfold spo;rw [<- ha,<- hb,show a - b=0 by omega];simp
 rw [e6]
 unfold wrap64
 omega
theorem spanOf_any (x g:Nat) (w:World) (h:x < 65536) (hg:g=2 ∨ g=4) :
  Calls Tryz.prog 157 #[.int .i64 x,.int .i64 g] w fun e w' => e = .returned (.int .i64 (spo g x)) /\ w=w':=by
 have hl:=nl2_le x h
 have hlg:nl2 g=2 ∨ nl2 g=3:=by rcases hg with rfl | rfl;exact .inl nl2_two;exact .inr nl2_four
 have w1:IntKind.u64.wrap (x:Int)=x:=by rw [IntKind.wrap_u64];omega
 have w2:IntKind.u64.wrap (g:Int)=g:=by rw [IntKind.wrap_u64];omega
 have hg6:g < 65536:=by omega
 obtain ⟨a,ha⟩:∃ a,a=nl2 x:=⟨_,rfl⟩
 obtain ⟨b,hb⟩:∃ b,b=nl2 g:=⟨_,rfl⟩
 have H1:Hid (∀ u:World,Calls Tryz.prog 183 #[.int .u64 x] u fun e w' => e = .returned (.int .i64 a) /\ u=w'):=fun u => by rw [ha];exact len_any x u h
 have H2:Hid (∀ u:World,Calls Tryz.prog 183 #[.int .u64 g] u fun e w' => e = .returned (.int .i64 b) /\ u=w'):=fun u => by rw [hb];exact len_any g u hg6
 have HF:Hid True:=trivial
 rw [<- ha] at hl
 rw [<- hb] at hlg
 have hb3:b<=3:=by omega
 have HAB:=hid (And.intro ha (And.intro hb (And.intro hg hlg)))
 clear ha hb hg hlg
 go_enter Tryz.func157,Tryz.ntmps157
 go_wp2_with (first | (go_at_call 183;have hflag:=HF;refine (H1.out _).mono ?_;rintro e w' ⟨rfl,rfl⟩;clear hflag HF) | (go_at_call 183;refine (H2.out _).mono ?_;rintro e w' ⟨rfl,rfl⟩))
 ·go_ret
  obtain ⟨e1,e2,e3,e4⟩:=HAB.out
  exact ⟨ret_int (spo_more x g a b (by omega) e3 e1 e2 hl (by assumption)),rfl⟩
 ·go_ret
  obtain ⟨e1,e2,e3,e4⟩:=HAB.out
  exact ⟨ret_int (spo_none x g a b (by omega) e1 e2 (by assumption)),rfl⟩
theorem letter_any (c:Nat) (w:World) (h1:3<=c) (h2:c<=258) :
  Calls Tryz.prog 108 #[.int .i64 c] w fun e w' => e = .returned (.int .i64 (ltr c)) /\ w=w':=by
 have hl:=ltr_any c (by omega) h1
 by_cases h:c=258
 ·subst h
  have e:ltr 258=285:=by decide
  rw [e]
  go_enter Tryz.func108,Tryz.ntmps108
  go_wp2
  go_ret
  exact ⟨rfl,rfl⟩
 ·have d:((c:Int) == 258)=false:=by simp;omega
  obtain ⟨x,hx⟩:∃ x,x=c - 3:=⟨_,rfl⟩
  have e1:(c:Int) - 3=(x:Int):=by omega
  have e2:ltr c=257+spo 4 x:=by unfold ltr;rw [if_neg h,hx]
  obtain ⟨y,hy⟩:∃ y,y=spo 4 x:=⟨_,rfl⟩
  have H1:Hid (∀ u:World,Calls Tryz.prog 157 #[.int .i64 x,.int .i64 4] u fun e w' => e = .returned (.int .i64 y) /\ u=w'):=fun u => by rw [hy];exact spanOf_any x 4 u (by omega) (.inr rfl)
  have hy2:y<=28:=by omega
  have HE:=hid (And.intro e2 hy)
  clear e2 hy hx hl
  go_enter Tryz.func108,Tryz.ntmps108
  go_wp2_with (go_at_call 157;refine (H1.out _).mono ?_;rintro e w' ⟨rfl,rfl⟩)
  go_ret
  obtain ⟨e2,e3⟩:=HE.out
  refine ⟨ret_int ?_,rfl⟩
  omega
theorem step_any (b:Nat) (w:World) (h1:1<=b) (h2:b<=32768) :
  Calls Tryz.prog 109 #[.int .i64 b] w fun e w' => e = .returned (.int .i64 (stp b)) /\ w=w':=by
 obtain ⟨x,hx⟩:∃ x,x=b - 1:=⟨_,rfl⟩
 have e1:(b:Int) - 1=(x:Int):=by omega
 have e2:stp b=spo 2 x:=by unfold stp;rw [hx]
 rw [e2]
 have H1:Hid (∀ u:World,Calls Tryz.prog 157 #[.int .i64 x,.int .i64 2] u fun e w' => e = .returned (.int .i64 (spo 2 x)) /\ u=w'):=fun u => spanOf_any x 2 u (by omega) (.inl rfl)
 clear e2 hx
 go_enter Tryz.func109,Tryz.ntmps109
 go_wp2_with (go_at_call 157;refine (H1.out _).mono ?_;rintro e w' ⟨rfl,rfl⟩)
 go_ret
 exact ⟨rfl,rfl⟩
/-! the other way round -/
theorem rev8_all:∀ n:Fin 256,Lib.rev8 (n.val:Int)=(rv 8 n.val:Int):=by decide +kernel
theorem rev8_lt (x:Nat) (h:x < 256):Lib.rev8 (x:Int)=(rv 8 x:Int):=rev8_all ⟨x,h⟩
theorem rv_split (m n x:Nat):rv (m+n) x=rv m (x / 2 ^ n)+2 ^ m*rv n x:=by
 induction m with
 | zero => simp [rv]
 | succ m ih =>
  rw [show m+1+n=(m+n)+1 by omega,rv,rv,ih,Nat.pow_add,Nat.mul_comm (2 ^ m) (2 ^ n),<- Nat.div_div_eq_div_mul,Nat.mul_add,Nat.pow_succ,Nat.mul_comm (2 ^ m) 2,Nat.mul_assoc]
  omega
theorem rv_mod (n x:Nat):rv n (x % 2 ^ n)=rv n x:=by
 have key:∀ k,k<=n->rv k (x % 2 ^ n)=rv k x:=fun k => by
  induction k with
  | zero => intro _;rfl
  | succ k ih =>
   intro hk
   rw [rv,rv,ih (by omega)]
   congr 1
   have e:2 ^ n=2 ^ k*2 ^ (n - k):=by rw [<- Nat.pow_add];congr 1;omega
   rw [e,Nat.mod_mul_right_div_self,Nat.mod_mod_of_dvd _ (Nat.dvd_trans (by decide:2 ∣ 2 ^ 1) (Nat.pow_dvd_pow 2 (by omega)))]
 exact key n (Nat.le_refl _)
theorem rev16_val (x:Nat) (h:x < 32768):bits BinOp.or IntKind.u16 (IntKind.u16.wrap (Lib.rev8 ((x:Int) / 256))) (IntKind.u16.wrap (IntKind.u16.wrap (Lib.rev8 ((x:Int) % 256))*256))=(rv 16 x:Int):=by
 have e1:(x:Int) / 256=((x / 256:Nat):Int):=by omega
 have e2:(x:Int) % 256=((x % 256:Nat):Int):=by omega
 have l1:=rv_lt 8 (x / 256)
 have l2:=rv_lt 8 (x % 256)
 have e3:rv 16 x=rv 8 (x / 256)+256*rv 8 (x % 256):=by rw [show (256:Nat)=2 ^ 8 from rfl,rv_mod,<- rv_split]
 rw [e1,e2,rev8_lt _ (by omega),rev8_lt _ (by omega),e3]
 generalize rv 8 (x / 256)=a at *
 generalize rv 8 (x % 256)=b at *
 rw [show IntKind.u16.wrap (a:Int)=(a:Int) by rw [IntKind.wrap_u16];omega,show IntKind.u16.wrap (b:Int)=(b:Int) by rw [IntKind.wrap_u16];omega,show IntKind.u16.wrap ((b:Int)*256)=((2 ^ 8*b:Nat):Int) by rw [IntKind.wrap_u16];omega,u16_or_nat a (2 ^ 8*b) (by omega) (by omega),Nat.or_comm,<- Nat.two_pow_add_eq_or_of_lt l1 b]
 omega
set_option maxHeartbeats 4000000 in
set_option maxRecDepth 100000 in
theorem rev16_any (x:Nat) (w:World) (h:x < 32768) :
  Calls Tryz.prog 186 #[.int .u16 x] w fun e w' => e = .returned (.int .u16 (rv 16 x)) /\ Below w.heap.size w w':=by
 have i1:(x:Int) / 256<=255:=by omega
 have i0:0<=(x:Int) / 256:=by omega
 have b1:bits BinOp.and IntKind.u16 (x:Int) 255=(x:Int) % 256:=by
  have:=u16_and_nat x 255 (by omega) (by omega)
  rw [show ((255:Nat):Int)=255 from rfl] at this
  rw [this,show (255:Nat)=2 ^ 8 - 1 from rfl,Nat.and_two_pow_sub_one_eq_mod]
  push_cast
  rfl
 go_enter Tryz.func186,Tryz.ntmps186
 go_wp2
 go_quiet (fail)
 go_wp2
 go_ret
 rw [rev16_val x h]
 exact ⟨rfl,below_drewN' (Below.refl _ _) _⟩
theorem rv_top (n k x:Nat) (hx:x < 2 ^ n):rv (k+n) x=2 ^ k*rv n x:=by
 rw [rv_split,Nat.div_eq_of_lt hx]
 have:∀ k,rv k 0=0:=fun k => by
  induction k with
  | zero => rfl
  | succ k ih => rw [rv,ih];simp
 rw [this,Nat.zero_add]
theorem reversed_any (x n:Nat) (w:World) (hx:x < 2 ^ n) (hn:n<=15) :
  Calls Tryz.prog 164 #[.int .i64 x,.int .i64 n] w fun e w' => e = .returned (.int .i64 (rv n x)) /\ Below w.heap.size w w':=by
 have h15:2 ^ n<=2 ^ 15:=Nat.pow_le_pow_right (by omega) hn
 have e15:(2:Nat) ^ 15=32768:=by decide
 have i1:IntKind.u16.wrap (x:Int)=(x:Int):=by rw [IntKind.wrap_u16];omega
 have hr:=rv_lt n x
 have e1:=rv_top n (16 - n) x hx
 rw [show 16 - n+n=16 by omega] at e1
 have H:=hid (rev16_any x w (by omega))
 have i2:(16:Int) - (n:Int)=((16 - n:Nat):Int):=by omega
 go_enter Tryz.func164,Tryz.ntmps164
 go_wp2_with (go_at_call 186;refine H.out.mono ?_;rintro e w1 ⟨rfl,hb1⟩)
 go_ret
 refine ⟨ret_int ?_,hb1⟩
 have e2:(2:Int) ^ (16 - n)*(rv n x:Int)=((2 ^ (16 - n)*rv n x:Nat):Int):=by push_cast;rfl
 have e3:((2 ^ (16 - n)*rv n x:Nat):Int) / 2 ^ (16 - n)=((2 ^ (16 - n)*rv n x / 2 ^ (16 - n):Nat):Int):=by push_cast;rfl
 rw [e2,e3,Nat.mul_div_cancel_left _ (Nat.two_pow_pos _)]
 have:(2:Nat) ^ 15=32768:=by decide
 unfold wrap64
 omega
end Go.Proofs.YthdmjmnkhlpnnabGreatDoor
namespace Go.Proofs.YthdmjmnkhlpnnabGreatDoor
open Go.RowKit
set_option maxHeartbeats 400000 in
theorem isno_any (z:Int) (w:World):Calls Tryz.prog 145 #[.int .i64 z] w fun e w' => e = .returned (.bool (nl z)) /\ w=w':=by
 by_cases h:z < 0
 ·go_enter Tryz.func145,Tryz.ntmps145
  go_wp2
  go_ret
  exact ⟨ret_bool (by simp [nl,h]),rfl⟩
 ·go_enter Tryz.func145,Tryz.ntmps145
  go_wp2
  all_goals go_ret
  all_goals refine ⟨ret_bool ?_,rfl⟩
  all_goals simp [nl]
  all_goals omega
set_option maxHeartbeats 400000 in
theorem index_any (ao:Option Addr) (c:Nat) (zs:List Int) (w:World) (hs:Seg w ao zs) (hm:zs.length<=maxLen) :
  Calls Tryz.prog 178 #[.slice ao zs.length c,.func (.func 145) #[] #[]] w fun e w' => (∃ r:Int,e = .returned (.int .i64 r) /\ (decide (0<=r)=zs.any nl)) /\ w=w':=by
 unfold maxLen at hm
 go_enter Tryz.func178,Tryz.ntmps178
 go_wp2
 go_loop [8] (fun i => ∃ k:Nat,k<=zs.length /\ i = .int .i64 k /\ Hid ((zs.take k).any nl=false)) (fun i => zs.length - (intOf i).toNat)
 case atStart => exact ⟨0,by omega,rfl,rfl⟩
 case round =>
  obtain ⟨k,hk,rfl,HA⟩:=hrel
  by_cases hlt:k < zs.length
  ·obtain ⟨b,off,rfl,hc⟩:=hs (by omega)
   obtain ⟨z,hz⟩:∃ z,z=zs.getD k 0:=⟨_,rfl⟩
   have hcell:w.cell? ⟨b,off+k,none⟩=some (.int .i64 z):=by rw [hz];exact hc k hlt
   have HZ:Hid (z=zs.getD k 0):=hz
   clear hz hc hs
   by_cases hn:nl z=true
   ·go_wp2_with (go_at_call 145;refine (isno_any _ _).mono ?_;rintro e w' ⟨rfl,rfl⟩)
    go_ret
    refine ⟨⟨(k:Int),rfl,?_⟩,rfl⟩
    have h1:zs.any nl=true:=List.any_eq_true.2 ⟨z,by rw [HZ.out];simp [List.getD,hlt],hn⟩
    rw [h1];simp
   ·have hn':nl z=false:=by simpa using hn
    clear hn
    go_wp2_with (go_at_call 145;refine (isno_any _ _).mono ?_;rintro e w' ⟨rfl,rfl⟩)
    go_round
    case rel => exact ⟨k+1,by omega,by go_num,by show _=_;rw [take_snocI zs k hlt,List.any_append,HA.out,<- HZ.out];simp [hn']⟩
    case measure => simp [intOf];omega
  ·go_wp2
   go_ret
   refine ⟨⟨-1,rfl,?_⟩,rfl⟩
   have:=HA.out
   rw [List.take_of_length_le (by omega)] at this
   rw [this];rfl
set_option maxHeartbeats 400000 in
theorem contains_any (ao:Option Addr) (c:Nat) (zs:List Int) (w:World) (hs:Seg w ao zs) (hm:zs.length<=maxLen) :
  Calls Tryz.prog 144 #[.slice ao zs.length c,.func (.func 145) #[] #[]] w fun e w' => e = .returned (.bool (zs.any nl)) /\ w=w':=by
 go_enter Tryz.func144,Tryz.ntmps144
 go_wp2_with (go_at_call 178;refine (index_any _ _ _ _ hs hm).mono ?_;rintro e w' ⟨⟨r,rfl,hr⟩,rfl⟩)
 go_ret
 exact ⟨ret_bool rfl,rfl⟩
theorem start_first (w w1:World) (z:Array Value) (f:Nat->Int) (h0:Arr w1 w.heap.size (fun _ => 0)) (h1:Arr w1 (w.heap.size+1) (fun _ => 0)) (hb:Below w.heap.size w w1) (hz:w.heap.size+1 < w1.heap.size) :
  Arr ((w1.alloc (.cells z 144)).setRow w1.heap.size (arr f)) w1.heap.size f /\ Arr ((w1.alloc (.cells z 144)).setRow w1.heap.size (arr f)) w.heap.size (fun _ => 0) /\
  Arr ((w1.alloc (.cells z 144)).setRow w1.heap.size (arr f)) (w.heap.size+1) (fun _ => 0) /\ Below w.heap.size w ((w1.alloc (.cells z 144)).setRow w1.heap.size (arr f)):=by
 refine ⟨?_,?_,?_,?_⟩
 ·unfold Arr
  exact setRow_heap _ _ z _ 144 _ (heap_alloc_new w1 _)
 ·unfold Arr
  rw [setRow_other _ _ _ _ (by omega),Below.heap_alloc _ _ _ (by omega)]
  exact h0
 ·unfold Arr
  rw [setRow_other _ _ _ _ (by omega),Below.heap_alloc _ _ _ (by omega)]
  exact h1
 ·exact below_row (hb.alloc hb.size _) hb.size _
set_option maxHeartbeats 800000 in
theorem first_any (ao:Option Addr) (c:Nat) (zs:List Int) (w:World) (hs:Seg w ao zs) (hm:zs.length<=320) (hok:zs.any nl=false) :
  Calls Tryz.prog 147 #[.slice ao zs.length c] w fun e w' => e = .returned (.agg (arr fun j => fst zs j)) /\ Below w.heap.size w w':=by
 have H0:=start2 w _ arr_zero
 have hs':=hs.below H0.2.2
 go_enter Tryz.func147,Tryz.ntmps147
 go_wp2_with (first | (go_at_call 171;refine (per_any _ _ _ _ hs' hm hok).mono ?_;rintro e w1 ⟨rfl,hb1⟩;clear hs hs' hok) | (refine wpList_store_row rfl 144 _ _ rfl w1.heap.size (arr fun j => (cnt zs j:Int)) rfl rfl 144 _ (heap_alloc_new w1 _) (info43' _) (by rw [arr_size];rfl) (arr_one _) ?_))
 have hsz:w.heap.size+1 < w1.heap.size:=by have:=hb1.size;simp at this;omega
 have HS:=start_first w w1 #[Value.int IntKind.i64 0,Value.int IntKind.i64 0,Value.int IntKind.i64 0,Value.int IntKind.i64 0,Value.int IntKind.i64 0,Value.int IntKind.i64 0,Value.int IntKind.i64 0,Value.int IntKind.i64 0,Value.int IntKind.i64 0,Value.int IntKind.i64 0,Value.int IntKind.i64 0,Value.int IntKind.i64 0,Value.int IntKind.i64 0,Value.int IntKind.i64 0,Value.int IntKind.i64 0,Value.int IntKind.i64 0] (fun j => (cnt zs j:Int)) (H0.2.1.keep hb1 (by simp;omega)) (H0.1.keep hb1 (by simp)) (H0.2.2.trans (hb1.mono (by simp;omega))) hsz
 clear H0
 go_loopw [5] (fun i wr => ∃ k:Nat,1<=k /\ k<=16 /\ i = .int .i64 k /\ Arr wr w1.heap.size (fun j => cnt zs j) /\ Arr wr (w.heap.size+1) (fun j => if j < k then (fst zs j:Int) else 0) /\ Arr wr w.heap.size (fun _ => 0) /\ Below w.heap.size w wr) (fun i _ => 16 - (intOf i).toNat)
 case atStart => exact ⟨1,by omega,by omega,rfl,HS.1,HS.2.2.1.congr (fun j hj => by by_cases h:j=0 <;> simp [h,fst]),HS.2.1,HS.2.2.2⟩
 case round =>
  clear HS hb1
  obtain ⟨k,hk1,hk,rfl,hA1,hA2,hA0,hB⟩:=hrel
  by_cases hlt:k<=15
  ·obtain ⟨x,hx⟩:∃ x:Nat,x=fst zs (k - 1):=⟨_,rfl⟩
   obtain ⟨y,hy⟩:∃ y:Nat,y=cnt zs (k - 1):=⟨_,rfl⟩
   have hxb:x<=20971520:=by rw [hx];exact fst_le' zs hm _ (by omega)
   have hyb:y<=320:=by rw [hy];have:=cnt_le zs (k - 1);omega
   have hcx:wr.cell? ⟨w.heap.size+1,k - 1,none⟩=some (.int .i64 x):=by rw [hA2.cell (by omega),if_pos (by omega),hx]
   have hcy:wr.cell? ⟨w1.heap.size,k - 1,none⟩=some (.int .i64 y):=by rw [hA1.cell (by omega),hy]
   have hck:wr.cell? ⟨w.heap.size+1,k,none⟩=some (.int .i64 0):=by rw [hA2.cell (by omega),if_neg (by omega)]
   have hfr:wr.frozen? ⟨w.heap.size+1,k,none⟩=false:=hA2.free _
   have HX:Hid (x=fst zs (k - 1)):=hx
   have HY:Hid (y=cnt zs (k - 1)):=hy
   clear hx hy
   go_wp2
   go_region
   all_goals go_wp2
   all_goals go_roundw
   case rel =>
    refine ⟨k+1,by omega,by omega,by go_num,hA1.other (by simp;omega) _,(hA2.set _ _).congr (fun j _ => ?_),hA0.other (by simp) _,(hB.setCell (by simp) _).drew⟩
    by_cases hj:j=k
    ·obtain ⟨k',rfl⟩:∃ k',k=k'+1:=⟨k - 1,by omega⟩
     have h1:=HX.out
     have h2:=HY.out
     simp only [Nat.add_sub_cancel] at h1 h2
     rw [if_pos hj,if_pos (by omega),hj,fst,<- h1,<- h2]
     omega
    ·rw [if_neg hj]
     by_cases h2:j < k
     ·rw [if_pos h2,if_pos (by omega)]
     ·rw [if_neg h2,if_neg (by omega)]
   case measure => simp [intOf];omega
  ·have hA3:Arr wr (w.heap.size+1) (fun j => (fst zs j:Int)):=hA2.congr (fun j hj => by rw [if_pos (by omega)])
   clear hA2 hA1
   go_wp2_with (first | (refine wpList_load_row rfl 144 _ rfl (w.heap.size+1) rfl 144 (arr fun j => (fst zs j:Int)) (0,0) _ (by exact hA3) Tryz.underlying144 rfl (info43' _) ?_) | (refine wpList_store_row rfl 144 _ _ rfl w.heap.size (arr fun j => (fst zs j:Int)) rfl rfl 144 _ (by exact hA0) (info43' _) (by rw [arr_size,arr_size]) (arr_one _) ?_))
   exact bodyPost_ret (v:=.agg (arr fun j => (fst zs j:Int))) (results_cell_row Tryz.results147 _ _ w.heap.size 144 _ (0,0) _ (by rfl) (hA0.row _) Tryz.underlying144 rfl (info43' _)) rfl ⟨rfl,below_row hB (Nat.le_refl _) _⟩
def sofar (zs:List Int) (k:Nat):List Int:=(bts zs).take k ++ List.replicate (zs.length - k) 0
theorem sofar_zero (zs:List Int):sofar zs 0=List.replicate zs.length 0:=by simp [sofar]
theorem sofar_all (zs:List Int) (k:Nat) (h:zs.length<=k):sofar zs k=bts zs:=by
 unfold sofar
 rw [List.take_of_length_le (by rw [bts_length];exact h),show zs.length - k=0 by omega]
 simp
theorem sofar_length (zs:List Int) (k:Nat) (h:k<=zs.length):(sofar zs k).length=zs.length:=by
 simp [sofar,bts_length];omega
theorem sofar_set (zs:List Int) (k:Nat) (h:k < zs.length):(sofar zs k).set k (bt zs k)=sofar zs (k+1):=by
 apply List.ext_getElem?
 intro i
 unfold sofar
 have hl:((bts zs).take k).length=k:=by simp [bts_length];omega
 have hl':((bts zs).take (k+1)).length=k+1:=by simp [bts_length];omega
 rw [List.getElem?_set]
 by_cases h1:k=i
 ·subst h1
  have e:((bts zs).take (k+1) ++ List.replicate (zs.length - (k+1)) 0)[k]? = some (bt zs k:Int):=by
   rw [List.getElem?_append_left (by omega)]
   simp [bts,h]
  rw [e]
  simp [bts_length]
  omega
 ·rw [if_neg h1]
  by_cases h2:i < k
  ·rw [List.getElem?_append_left (by omega),List.getElem?_append_left (by omega)]
   simp [h2,show i < k+1 by omega]
  ·rw [List.getElem?_append_right (by omega),List.getElem?_append_right (by omega),hl,hl']
   simp only [List.getElem?_replicate]
   by_cases h3:i < zs.length
   ·rw [if_pos (by omega),if_pos (by omega)]
   ·rw [if_neg (by omega),if_neg (by omega)]
theorem sofar_skip (zs:List Int) (k:Nat) (h:k < zs.length) (h0:bt zs k=0):sofar zs k=sofar zs (k+1):=by
 rw [<- sofar_set zs k h,h0]
 apply List.ext_getElem?
 intro i
 rw [List.getElem?_set]
 by_cases h1:k=i
 ·subst h1
  have hl:((bts zs).take k).length=k:=by simp [bts_length];omega
  have e:(sofar zs k)[k]? = some 0:=by
   unfold sofar
   rw [List.getElem?_append_right (by omega),hl]
   simp only [List.getElem?_replicate]
   rw [if_pos (by omega)]
  rw [e,if_pos rfl,if_pos (by rw [sofar_length zs k (by omega)];exact h)]
  rfl
 ·rw [if_neg h1]
theorem start_bits (w:World) (z:Array Value) (f:Nat->Int) (n:Nat) :
  Arr (((w.alloc (.cells z 144)).setRow w.heap.size (arr f)).alloc (.cells (nums (List.replicate n 0)) 3)) w.heap.size f /\
  Row (((w.alloc (.cells z 144)).setRow w.heap.size (arr f)).alloc (.cells (nums (List.replicate n 0)) 3)) (w.heap.size+1) (List.replicate n 0) /\
  Below w.heap.size w (((w.alloc (.cells z 144)).setRow w.heap.size (arr f)).alloc (.cells (nums (List.replicate n 0)) 3)):=by
 refine ⟨?_,?_,?_⟩
 ·unfold Arr
  rw [Below.heap_alloc _ _ _ (by simp)]
  exact setRow_heap _ _ z _ 144 _ (heap_alloc_new w _)
 ·unfold Row
  have:=heap_alloc_new ((w.alloc (.cells z 144)).setRow w.heap.size (arr f)) (.cells (nums (List.replicate n 0)) 3)
  simpa using this
 ·exact (below_row ((Below.refl _ _).alloc (Nat.le_refl _) _) (Nat.le_refl _) _).alloc (by simp) _
set_option maxHeartbeats 800000 in
theorem bits_ok (ao:Option Addr) (c:Nat) (zs:List Int) (w:World) (hs:Seg w ao zs) (hm:zs.length<=320) (hok:zs.any nl=false) (hw:wt zs<=32768) :
  Calls Tryz.prog 93 #[.slice ao zs.length c] w fun e w' => ∃ g,e = .returned (.tuple #[.slice (some ⟨g,0,none⟩) zs.length zs.length,.int .i64 0]) /\ w.heap.size<=g /\ Row w' g (bts zs) /\ Below w.heap.size w w':=by
 obtain ⟨i0,hi,hz0,hz1,hz2⟩:=info_parts info3
 have HOK:Hid (zs.any nl=false):=hok
 have hmk:∀ u:World,(Instr.makeSlice 23 (.int .i64 (zs.length:Int)) (.int .i64 (zs.length:Int))).run Tryz.prog u =
   .ok (.slice (some ⟨u.heap.size,0,none⟩) zs.length zs.length) (u.alloc (.cells (nums (List.replicate zs.length 0)) 3)):=fun u => by
  have h:=run_make (P:=Tryz.prog) u 23 3 i0 (.int .i64 0) Tryz.underlying23 hi hz0 .i64 .i64 (zs.length:Int) (zs.length:Int) (by omega) (Int.le_refl _) (by rw [hz2];omega) (by omega)
  rw [hz1,Nat.mul_one,show (Value.int IntKind.i64 0).cells=#[Value.int .i64 0] from rfl,show ((zs.length:Int)).toNat=zs.length by omega,nums_made] at h
  exact h
 clear hi hz0 hz1 hz2
 go_enter Tryz.func93,Tryz.ntmps93
 go_wp2_with (first | (go_at_call 144;refine (contains_any _ _ _ _ hs (by unfold maxLen;omega)).mono ?_;rintro e w' ⟨rfl,rfl⟩) | (go_at_call 146;refine (weight_any _ _ _ _ hs hm hok).mono ?_;rintro e w' ⟨rfl,rfl⟩) | (go_at_call 147;refine (first_any _ _ _ _ hs hm hok).mono ?_;rintro e w1 ⟨rfl,hb1⟩;clear hok) | (refine wpList_store_row rfl 144 _ _ rfl w1.heap.size (arr fun j => (fst zs j:Int)) rfl rfl 144 _ (heap_alloc_new w1 _) (info43' _) (by rw [arr_size];rfl) (arr_one _) ?_))
 go_loopw [25] (fun i wr => ∃ k:Nat,k<=zs.length /\ i = .int .i64 k /\ Arr wr w1.heap.size (fun j => (fst zs j:Int)+cnt (zs.take k) j) /\ Row wr (w1.heap.size+1) (sofar zs k) /\ Below w1.heap.size w1 wr) (fun i _ => zs.length - (intOf i).toNat)
 case atStart =>
  have H:=start_bits w1 #[Value.int IntKind.i64 0,Value.int IntKind.i64 0,Value.int IntKind.i64 0,Value.int IntKind.i64 0,Value.int IntKind.i64 0,Value.int IntKind.i64 0,Value.int IntKind.i64 0,Value.int IntKind.i64 0,Value.int IntKind.i64 0,Value.int IntKind.i64 0,Value.int IntKind.i64 0,Value.int IntKind.i64 0,Value.int IntKind.i64 0,Value.int IntKind.i64 0,Value.int IntKind.i64 0,Value.int IntKind.i64 0] (fun j => (fst zs j:Int)) zs.length
  exact ⟨0,by omega,rfl,H.1.congr (fun j _ => by simp [cnt]),by rw [sofar_zero];exact H.2.1,H.2.2⟩
 case round =>
  obtain ⟨k,hk,rfl,hA,hR,hB⟩:=hrel
  clear hmk
  by_cases hlt:k < zs.length
  ·obtain ⟨b,off,rfl,hc⟩:=hs (by omega)
   obtain ⟨z,hz⟩:∃ z,z=zs.getD k 0:=⟨_,rfl⟩
   have hcw:w.cell? ⟨b,off+k,none⟩=some (.int .i64 z):=by rw [hz];exact hc k hlt
   have hbl:b < w.heap.size:=World.block_lt_of_cell? w _ hcw
   have hbl1:b < w1.heap.size:=Nat.lt_of_lt_of_le hbl hb1.size
   have hcell:wr.cell? ⟨b,off+k,none⟩=some (.int .i64 z):=(hB.cell (p:=⟨b,off+k,none⟩) hbl1).trans ((hb1.cell (p:=⟨b,off+k,none⟩) hbl).trans hcw)
   have hzb:=ok_getD HOK.out k
   rw [<- hz] at hzb
   have HZ:Hid (z=zs.getD k 0):=hz
   clear hz hc hs hcw
   by_cases hp:0 < z
   ·obtain ⟨y,hy⟩:∃ y:Nat,y=fst zs z.toNat+cnt (zs.take k) z.toNat:=⟨_,rfl⟩
    have hyb:y<=20972000:=by
     rw [hy]
     have h1:=cnt_le (zs.take k) z.toNat
     have h2:=fst_le' zs hm z.toNat (by omega)
     simp at h1
     omega
    have hcy:wr.cell? ⟨w1.heap.size,z.toNat,none⟩=some (.int .i64 y):=by
     rw [hA.cell (by omega),hy]
     congr 1
    have hfr:wr.frozen? ⟨w1.heap.size,z.toNat,none⟩=false:=hA.free _
    have hcr:∃ q,wr.cell? ⟨w1.heap.size+1,k,none⟩=some (.int .i64 q):=⟨_,hR.cell (by rw [sofar_length zs k hk];exact hlt)⟩
    obtain ⟨q,hcr⟩:=hcr
    have hfr2:wr.frozen? ⟨w1.heap.size+1,k,none⟩=false:=hR.free _
    have HY:Hid (y=fst zs z.toNat+cnt (zs.take k) z.toNat):=hy
    have HBT:Hid (bt zs k=y):=by show _=_;unfold bt;rw [<- HZ.out,if_pos hp,hy]
    clear hy
    go_wp2
    go_roundw
    case rel =>
     refine ⟨k+1,by omega,by go_num,((hA.other (by simp) _).set _ _).congr (fun j _ => ?_),?_,(hB.setCell (by simp) _).setCell (by simp) _⟩
     ·rw [take_snocI zs k hlt,<- HZ.out,cnt_snoc _ z hp,HY.out]
      by_cases hj:j=z.toNat
      ·simp [hj];omega
      ·simp [hj]
     ·rw [<- sofar_set zs k hlt,HBT.out]
      exact (hR.set _ _).other (by simp) _
    case measure => simp [intOf];omega
   ·go_wp2
    go_roundw
    case rel =>
     refine ⟨k+1,by omega,by go_num,hA.congr (fun j _ => ?_),?_,hB⟩
     ·rw [take_snocI zs k hlt,<- HZ.out,cnt_skip _ z (by omega)]
     ·rw [<- sofar_skip zs k hlt (by unfold bt;rw [<- HZ.out,if_neg hp])]
      exact hR
    case measure => simp [intOf];omega
  ·rw [sofar_all zs k (by omega)] at hR
   go_wp2
   go_ret2
   exact ⟨w1.heap.size+1,rfl,by have:=hb1.size;omega,hR,hb1.trans (hB.mono hb1.size)⟩
end Go.Proofs.YthdmjmnkhlpnnabGreatDoor
