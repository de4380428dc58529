import Derived.Test.YtclgkofcooibfaaGreatDoorOwnP12
import Derived.Deep.AppendLies
set_option maxHeartbeats 6400000
set_option maxRecDepth 100000
namespace Go.Proofs.YtclgkofcooibfaaGreatDoor
open Go.RowKit
def y9(w:World)(base g cap:Nat)(ws:List ByteArray):Prop:=w.ownsRow base 9 1 (.slice (some ⟨g,0,none⟩) ws.length cap) ws.length (ws.map Value.string)
theorem y9.cells{w:World}{base g cap:Nat}{ws:List ByteArray}(h:y9 w base g cap ws):(∀(j:Nat) (x:ByteArray),ws[j]?=some x->w.cell? (jj g j)=some (.string x))/\base<=g/\g<w.heap.size/\ws.length<=cap:=by
 have hc:= @World.ownsRow.cells _ _ _ _ _ _ _ h;have hl:=h.lt g rfl;refine⟨fun j x hx=> ?_,hl.1,hl.2, ?_⟩
 . have e1:=hc (g:=g) rfl j (.string x) (by rw[List.getElem?_map,hx];rfl)
   rw[Go.WideShapes.add_plain,Nat.zero_add] at e1;exact e1
 . obtain⟨_,⟨e,_⟩ | ⟨g',cap',cur,e,hg,hb,hn,_⟩⟩:=h
   . simp at e
   . simp only[Value.slice.injEq] at e
     obtain⟨_,_,rfl⟩:=e
     assumption
theorem rT{P:List ByteArray}{k:Nat}{x:ByteArray}(h:P[k]?=some x):(P.take (k+1)).filter (fun p=>decide (0<p.size))=(P.take k).filter (fun p=>decide (0<p.size))++(if 0<x.size then [x] else []):=by
 rw[List.take_add_one,h,List.filter_append];simp only[Option.toList,List.filter_cons,List.filter_nil,decide_eq_true_eq]
theorem dS{w w':World}{base:Nat}{e:TypeId}{size:Nat}{v:Value}{n:Nat}{xs:List Value}(h:w.ownsRow base e size v n xs)(s:w.S w'):w'.ownsRow base e size v n xs:=by
 obtain⟨hl,h | ⟨g,cap,cur,rfl,hb,hh,hr⟩⟩:=h
 . exact⟨hl,Or.inl h⟩
 . exact⟨hl,Or.inr ⟨g,cap,cur,rfl,hb,(s.block g (Array.getElem?_eq_some_iff.1 hh).1).trans hh,hr⟩⟩
theorem ado{s:ByteArray}{w:World}(hs:s.size<=1048576):
 Cl 68 #[.string s,.int .u8 32,.int .u8 32] w fun e w'=>∃g cap,e=.returned (.s g (cS s).length cap)/\y9 w' w.heap.size g cap (cS s)/\w.S w':=by
 obtain⟨i0,hi,hz0,hz1,hz2⟩:=info_parts acv;have sA:=bJ w (.cells #[] 9);have oA:(w.alloc (.cells #[] 9)).ownsRow w.heap.size 9 1 (.s w.heap.size 0 0) 0 []:=pv w #[] 0 (Nat.le_refl _) (Nat.zero_le _) rfl;have ZA:=ae (show (w.alloc (.cells #[] 9)).heap.size=w.heap.size+1 by simp);have HW:Hid (cS s=(fN 32 s).filter fun p=>decide (0<p.size)):=ae rfl;have HPL:=jT 32 s;obtain⟨P,hP⟩:∃P,fN 32 s=P:=⟨_,rfl⟩;have HZ:Hid (∀x∈P,x.size<=s.size):=ae (fun x hx=>qV (by rw[hP];exact hx));rw[hP] at HW HPL;have HP:=ae hP;go_enter Tryz.func68,Tryz.ntmps68;go_wp2_with fail;generalize w.alloc _=wA at*;have JC:=acr 32 s wA om
 refine JC.mono ?_;rintro e w1 ⟨v1,rfl,OP,s1⟩;have OP:w1.ownsRow wA.heap.size 9 1 v1 P.length (P.map Value.string):=by rw[<-HP.out];exact OP
 have hpp:0<P.length:=by rw[<-HP.out];exact xz 32 s
 obtain⟨gP,cP,rfl,hg1,-⟩:=OP.form hpp;obtain⟨cP',bP,lP,-⟩:=y9.cells OP;have CP:=ae cP';have HgP:Hid (w.heap.size<gP):=ae (by have:=ZA.out;omega);have S1:=sA.tr s1;have z1:=s1.size;have o1:=dS oA s1;go_wp2_with fail
 go_loopw [7,9] (fun u i wr=>∃k:Nat,k<=P.length/\i=.i (k:Int)/\w.S wr/\Hid (∀(j:Nat) (x:ByteArray),P[j]?=some x->wr.cell? (jj gP j)=some (.string x))/\gP<wr.heap.size/\∃g cap m,u=.s g m cap/\g≠gP/\m<=k/\wr.ownsRow w.heap.size 9 1 (.s g m cap) m (((P.take k).filter fun p=>decide (0<p.size)).map Value.string)) (fun _ i _=>P.length-(intOf i).toNat)
 case atStart=>exact⟨0,Nat.zero_le _,rfl,S1,CP,lP,w.heap.size,0,0,rfl,by have:=HgP.out;omega,Nat.le_refl _,o1⟩
 case round=>
  obtain⟨k,hk,rfl,s2,cp,lp,g,cap,m,rfl,hne,hmk,O⟩:=hrel
  by_cases hlt:k<P.length
  . have hlt':(k:Int)<(P.length:Int):=om
    obtain⟨x,hx⟩:∃x,P[k]?=some x:=⟨_,List.getElem?_eq_getElem hlt⟩;have g0:=cp.out k x hx;have hxz:=HZ.out x (List.mem_of_getElem? hx);have tf:=rT hx
    by_cases hx0:0<x.size
    . rw[if_pos hx0] at tf
      have TF:=ae tf;have hx1:(0:Int)<(x.size:Int):=om
      go_wp2_with (at_builtin;refine wpList_append_own_at _ rfl _ _ 67 rfl w.heap.size 9 i0 (.string ByteArray.empty) 1 16 Tryz.underlying67 hi hz0 hz1 hz2 rfl qd _ _ _ rfl (O.alloc _) (jh wr 0) 1 1 [.string x] rfl rfl (bO _ _ _) (bZ _ rfl) (by unfold maxLen;omega) om (by have:=s2.size;simp;omega) ?_)
      intro v' w5 hown' hgrow hnn hat;replace hgrow:(wr.alloc (.cells #[.string x] 9)).grownBy w5 (Value.s g m cap).ownBlock:=hgrow;obtain⟨g',capn,rfl,hg1,hg2⟩:=hown'.form om;have sW:=bJ wr (.cells #[.string x] 9);have zW:(wr.alloc (.cells #[.string x] 9)).heap.size=wr.heap.size+1:=by simp
      have z5:=hgrow.size;have S5:=(s2.tr sW).grown hgrow (by have:=s2.size;omega) (fun q hq=>(O.lt q hq).1);have kb:=(hgrow.block gP om (by simp[Value.ownBlock];omega)).trans (sW.block gP lp);have C5:Hid (∀(j:Nat) (x:ByteArray),P[j]?=some x->w5.cell? (jj gP j)=some (.string x)):=ae (fun j x h=>(fa (a:=jj gP j) kb).trans (cp.out j x h))
      have hne5:g'≠gP:=by
       rcases hat with h | h
       . simp[Value.ownBlock] at h;omega
       . simp[Value.ownBlock] at h;omega
      have O5:w5.ownsRow w.heap.size 9 1 (.s g' (m+1) capn) (m+1) (((P.take (k+1)).filter fun p=>decide (0<p.size)).map Value.string):=by
       rw[TF.out,List.map_append];exact hown'
      go_wp2;go_roundw
      case rel=>exact⟨k+1,om,by go_num,S5,C5,om,g',capn,m+1,rfl,hne5,om,O5⟩
      case measure=>simp[intOf];omega
    . rw[if_neg hx0,List.append_nil] at tf
      have O5:wr.ownsRow w.heap.size 9 1 (.s g m cap) m (((P.take (k+1)).filter fun p=>decide (0<p.size)).map Value.string):=by rw[tf];exact O
      have O5:=ae O5;have hx1:¬((0:Int)<(x.size:Int)):=om
      go_wp2;go_roundw
      case rel=>exact⟨k+1,om,by go_num,s2,cp,lp,g,cap,m,rfl,hne,om,O5.out⟩
      case measure=>simp[intOf];omega
  . have e:k=P.length:=om
    subst e
    have O5:y9 wr w.heap.size g cap (cS s)/\m=(cS s).length:=by
     rw[List.take_length,<-HW.out] at O;have hm:m=(cS s).length:=by have:=O.1;rw[List.length_map] at this;omega
     subst hm;exact⟨O,rfl⟩
    obtain⟨O5,rfl⟩:=O5;have O5:=ae O5;go_wp2;go_ret;exact⟨g,cap,rfl,O5.out,s2⟩
theorem acJ{s:ByteArray}{w:World}(hs:s.size<=1048576):
 Cl 165 #[.string s] w fun e w'=>∃g cap,e=.returned (.s g (cS s).length cap)/\y9 w' w.heap.size g cap (cS s)/\w.S w':=by
 obtain⟨i0,hi,hz0,hz1,hz2⟩:=info_parts acv;have sA:=bJ w (.cells #[] 9);have oA:(w.alloc (.cells #[] 9)).ownsRow w.heap.size 9 1 (.s w.heap.size 0 0) 0 []:=pv w #[] 0 (Nat.le_refl _) (Nat.zero_le _) rfl;have ZA:=ae (show (w.alloc (.cells #[] 9)).heap.size=w.heap.size+1 by simp);have HW:Hid (cS s=(fN 32 s).filter fun p=>decide (0<p.size)):=ae rfl;have HPL:=jT 32 s;obtain⟨P,hP⟩:∃P,fN 32 s=P:=⟨_,rfl⟩;have HZ:Hid (∀x∈P,x.size<=s.size):=ae (fun x hx=>qV (by rw[hP];exact hx));rw[hP] at HW HPL;have HP:=ae hP;go_enter Tryz.func165,Tryz.ntmps165;go_wp2_with fail;generalize w.alloc _=wA at*;refine (acc hs).mono ?_;rintro e w1 ⟨rfl,CP,lP,s1⟩;rw[HP.out] at CP⊢;obtain⟨gP,hgP⟩:∃g,g=wA.heap.size:=⟨_,rfl⟩;rw[<-hgP] at CP lP⊢;have HgP:Hid (w.heap.size<gP):=ae (by have:=ZA.out;omega);clear hgP;have S1:=sA.tr s1;have z1:=s1.size;have o1:=dS oA s1;go_wp2_with fail
 go_loopw [3,10] (fun u i wr=>∃k:Nat,k<=P.length/\i=.i (k:Int)/\w.S wr/\Hid (∀(j:Nat) (x:ByteArray),P[j]?=some x->wr.cell? (jj gP j)=some (.string x))/\gP<wr.heap.size/\∃g cap m,u=.s g m cap/\g≠gP/\m<=k/\wr.ownsRow w.heap.size 9 1 (.s g m cap) m (((P.take k).filter fun p=>decide (0<p.size)).map Value.string)) (fun _ i _=>P.length-(intOf i).toNat)
 case atStart=>exact⟨0,Nat.zero_le _,rfl,S1,CP,lP,w.heap.size,0,0,rfl,by have:=HgP.out;omega,Nat.le_refl _,o1⟩
 case round=>
  obtain⟨k,hk,rfl,s2,cp,lp,g,cap,m,rfl,hne,hmk,O⟩:=hrel
  by_cases hlt:k<P.length
  . have hlt':(k:Int)<(P.length:Int):=om
    obtain⟨x,hx⟩:∃x,P[k]?=some x:=⟨_,List.getElem?_eq_getElem hlt⟩;have g0:=cp.out k x hx;have hxz:=HZ.out x (List.mem_of_getElem? hx);have tf:=rT hx
    by_cases hx0:0<x.size
    . rw[if_pos hx0] at tf
      have TF:=ae tf
      have hxe:x.toList.isEmpty=false:=by
       rw[Lib.toList_data];cases e:x.data.toList with
       | nil=>rw[Lib.size_eq,e] at hx0;simp at hx0
       | cons _ _=>rfl
      go_wp2_with (at_builtin;refine wpList_append_own_at _ rfl _ _ 67 rfl w.heap.size 9 i0 (.string ByteArray.empty) 1 16 Tryz.underlying67 hi hz0 hz1 hz2 rfl qd _ _ _ rfl (O.alloc _) (jh wr 0) 1 1 [.string x] rfl rfl (bO _ _ _) (bZ _ rfl) (by unfold maxLen;omega) om (by have:=s2.size;simp;omega) ?_)
      intro v' w5 hown' hgrow hnn hat;replace hgrow:(wr.alloc (.cells #[.string x] 9)).grownBy w5 (Value.s g m cap).ownBlock:=hgrow;obtain⟨g',capn,rfl,hg1,hg2⟩:=hown'.form om;have sW:=bJ wr (.cells #[.string x] 9);have zW:(wr.alloc (.cells #[.string x] 9)).heap.size=wr.heap.size+1:=by simp
      have z5:=hgrow.size;have S5:=(s2.tr sW).grown hgrow (by have:=s2.size;omega) (fun q hq=>(O.lt q hq).1);have kb:=(hgrow.block gP om (by simp[Value.ownBlock];omega)).trans (sW.block gP lp);have C5:Hid (∀(j:Nat) (x:ByteArray),P[j]?=some x->w5.cell? (jj gP j)=some (.string x)):=ae (fun j x h=>(fa (a:=jj gP j) kb).trans (cp.out j x h))
      have hne5:g'≠gP:=by
       rcases hat with h | h
       . simp[Value.ownBlock] at h;omega
       . simp[Value.ownBlock] at h;omega
      have O5:w5.ownsRow w.heap.size 9 1 (.s g' (m+1) capn) (m+1) (((P.take (k+1)).filter fun p=>decide (0<p.size)).map Value.string):=by
       rw[TF.out,List.map_append];exact hown'
      go_wp2;go_roundw
      case rel=>exact⟨k+1,om,by go_num,S5,C5,om,g',capn,m+1,rfl,hne5,om,O5⟩
      case measure=>simp[intOf];omega
    . rw[if_neg hx0,List.append_nil] at tf
      have O5:wr.ownsRow w.heap.size 9 1 (.s g m cap) m (((P.take (k+1)).filter fun p=>decide (0<p.size)).map Value.string):=by rw[tf];exact O
      have O5:=ae O5;have hxe:x.toList.isEmpty=true:=by rw[Lib.toList_data,List.isEmpty_iff,<-List.length_eq_zero_iff,<-Lib.size_eq];omega
      go_wp2;go_roundw
      case rel=>exact⟨k+1,om,by go_num,s2,cp,lp,g,cap,m,rfl,hne,om,O5.out⟩
      case measure=>simp[intOf];omega
  . have e:k=P.length:=om
    subst e
    have O5:y9 wr w.heap.size g cap (cS s)/\m=(cS s).length:=by
     rw[List.take_length,<-HW.out] at O;have hm:m=(cS s).length:=by have:=O.1;rw[List.length_map] at this;omega
     subst hm;exact⟨O,rfl⟩
    obtain⟨O5,rfl⟩:=O5;have O5:=ae O5;go_wp2;go_ret;exact⟨g,cap,rfl,O5.out,s2⟩
end Go.Proofs.YtclgkofcooibfaaGreatDoor
