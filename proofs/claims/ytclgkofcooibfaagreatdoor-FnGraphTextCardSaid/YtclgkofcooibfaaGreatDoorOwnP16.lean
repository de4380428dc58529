import Derived.Test.YtclgkofcooibfaaGreatDoorOwnP4
import Derived.Lib.OwnKind
set_option maxHeartbeats 6400000
set_option maxRecDepth 100000
namespace Go.Proofs.YtclgkofcooibfaaGreatDoor
open Go.RowKit
theorem aeW:∃j,Tryz.prog.info? 52=some j/\j.size≠0:=by
 have h:(Tryz.prog.info? 52).map (fun i=>i.size)=some 2:=by kernel_rfl
 obtain⟨i,hi,h⟩:=Option.map_eq_some_iff.1 h;exact⟨i,hi,om⟩
theorem aa0{B b:Nat}{bs:List Value}{w:World}(h:Lib.IsBuilder 52 5 B b bs w):
 Cl 51 #[.p b 0] w fun e w'=>e=.returned (.tuple #[])/\Lib.BuilderAt 52 5 B b (.p b 0) bs w'/\w.Since B w'/\Lib.OthersKept 5 (some b) w w':=by
 obtain⟨j,hj,hj0⟩:=aeW
 rcases h with h | h
 . have c0:=h.cell0
   have f0:=h.frozen0;have hu:=Lib.run_to_unsafe (P:=Tryz.prog) w (src:=50) (dst:=160) (t:=52) (e:=52) (cells:=2) (jj b 0) Tryz.underlying50 Tryz.underlying160 hj hj0 h.shape (show 0<2 by omega);have hf:=Lib.run_from_unsafe (P:=Tryz.prog) w (src:=160) (dst:=50) (u:=52) (e:=52) (cells:=2) (jj b 0) Tryz.underlying160 Tryz.underlying50 hj h.shape kr
   have hx:(callFunc 112 #[.p b 0]).run Tryz.prog w=.ok (.value (.p b 0)) w:=by
    rw[run_callFunc_extern Tryz.func112 kr kr kr (e:=Extern.AbiNoEscape.same) kr,Lib.run_noEscape]
    rfl
   have U:=h.used (.p b 0);have S1:w.Since B (w.setCell (jj b 0) (.p b 0)):=(eg B w).setCell h.1 _;have K1:=(Lib.OthersKept.refl 5 (some b) w).setCell (jj b 0) rfl (.p b 0);have u0:=U.cell0;have hn:=Lib.run_neq_ptr_same (P:=Tryz.prog) (w.setCell (jj b 0) (.p b 0)) (tp:=50) (te:=52) (jj b 0) Tryz.underlying50 hj;go_enter Tryz.func51,Tryz.ntmps51;go_wp2
   go_end0
   exact⟨rfl,U,S1,K1⟩
 . have u0:=h.cell0
   have hn:=Lib.run_neq_ptr_same (P:=Tryz.prog) w (tp:=50) (te:=52) (jj b 0) Tryz.underlying50 hj;go_enter Tryz.func51,Tryz.ntmps51;go_wp2
   go_end0
   exact⟨rfl,h,eg _ _,Lib.OthersKept.refl _ _ _⟩
theorem ady:∃i,Tryz.prog.info? 5=some i/\i.zero=some (.int .u8 0)/\i.size=1/\i.bytes=1:=by
 have h:(Tryz.prog.info? 5).map (fun i=>(i.zero,i.size,i.bytes))=some (some (.int .u8 0),1,1):=by kernel_rfl
 obtain⟨i,hi,h⟩:=Option.map_eq_some_iff.1 h;simp only[Prod.mk.injEq] at h;exact⟨i,hi,h.1,h.2.1,h.2.2⟩
theorem acR(s:List UInt8):Lib.strCells ⟨s.toArray⟩=Lib.byteCells s:=by simp[Lib.strCells,Lib.byteCells]
theorem iY{B b:Nat}{l s:List UInt8}{w:World}(h:Lib.IsBuilder 52 5 B b (Lib.byteCells l) w)(hlen:l.length+s.length<=140737488355328)(hBw:B<=w.heap.size):
 Cl 19 #[.p b 0,.string ⟨s.toArray⟩] w fun e w'=>(∃x,e=.returned x)/\Lib.IsBuilder 52 5 B b (Lib.byteCells (l++s)) w'/\w.Since B w'/\Lib.OthersKept 5 (some b) w w':=by
 obtain⟨i0,hi,hz0,hz1,hz2⟩:=ady;have hss:(⟨s.toArray⟩:ByteArray).size=s.length:=by simp[ByteArray.size]
 go_enter Tryz.func19,Tryz.ntmps19;go_wp2_with fail;refine (aa0 h).mono ?_;rintro e w1 ⟨rfl,⟨hB,v,hb,hown,hne⟩,s1,k1⟩;rw[Lib.byteCells_length] at hown;have c1:=Lib.cell_of_heap hb 1;have hlt:=(Array.getElem?_eq_some_iff.1 hb).1;have z1:=s1.size;have c1:=c1
 go_wp2_with (at_builtin;refine Lib.wpList_append_own_string _ rfl _ _ 22 9 rfl B 5 i0 Tryz.underlying22 Tryz.underlying9 hi hz0 hz1 hz2 _ _ _ rfl hown ⟨s.toArray⟩ rfl (by rw[hss];unfold maxLen;omega) (by rw[hss];omega) om ?_)
 intro v2 w2 ho2 hg2 _;replace hg2:w1.grownBy w2 v.ownBlock:=hg2;have hb2:=(hg2.block b hlt (fun e=>hne e.symm)).trans hb;have c2:=Lib.cell_of_heap hb2 1;have f2:=Lib.frozen_of_heap hb2 1;rw[acR] at ho2
 have ho3:w2.ownsRow B 5 1 v2 (Lib.byteCells (l++s)).length (Lib.byteCells (l++s)):=by
  rw[Lib.byteCells_length,List.length_append,show Lib.byteCells (l++s)=Lib.byteCells l++Lib.byteCells s from List.map_append];exact ho2
 have P2:=Lib.BuilderAt.put hB hb2 ho3 qd;have S2:=s1.grown hg2 om (fun q hq=>(hown.lt q hq).1);have S3:w.Since B (w2.setCell (jj b 1) v2):=S2.setCell hB _;have K3:=(k1.grown hg2 (Lib.ownsRow_kind hown)).setCell (jj b 1) rfl v2
 obtain⟨a9,n9,k9,e9⟩:∃a n c,v2=.slice a n c:=by
  obtain⟨-,⟨e,-⟩ | ⟨g',cap',cur,e,-⟩⟩:=ho2
  . exact⟨_,_,_,e⟩
  . exact⟨_,_,_,e⟩
 subst e9;go_wp2;go_ret2;exact⟨⟨_,rfl⟩,Or.inr P2,S3,K3⟩
end Go.Proofs.YtclgkofcooibfaaGreatDoor
