import Derived.Test.YtclgkofcooibfaaGreatDoorOwnP39
import Derived.Deep.DeepCutAuto
set_option maxHeartbeats 6400000
set_option maxRecDepth 100000
namespace Go.Proofs.YtclgkofcooibfaaGreatDoor
open Go.RowKit
structure aid(ls:List (Nat×List ByteArray)):Prop where
 len:ls.length<=100001
 at_:∀(j n:Nat) (ws:List ByteArray),ls[j]?=some (n,ws)->0<ws.length/\ws.length<=100001/\∀x∈ws,x.size<=100000
theorem aeM{t:Nat}{L:List ByteArray}{r:Nat×List ByteArray}(h:r∈cK t L):∃l∈L,r.2=cS l/\cS l≠[]:=by
 induction L generalizing t with
 | nil=>simp[cK] at h
 | cons x xs ih=>
   rw[cK] at h
   split at h
   . obtain⟨l,hl,e⟩:=ih h
     exact⟨l,by simp[hl],e⟩
   . rename_i hx
     rcases List.mem_cons.1 h with rfl | h
     . exact⟨x,qz,rfl,hx⟩
     . obtain⟨l,hl,e⟩:=ih h
       exact⟨l,by simp[hl],e⟩
theorem ahD{s:ByteArray}(hs:s.size<=100000):aid (cK 0 (fN 10 s)):=by
 refine⟨?_,fun j n ws h=> ?_⟩
 . have:=zT 0 (fN 10 s)
   have:=jT 10 s;omega
 . obtain⟨l,hl,e,hne⟩:=aeM (List.mem_of_getElem? h)
   simp only at e;subst e;have h1:=qV hl;have h2:=nE l;exact⟨List.length_pos_iff.2 hne,om,fun x hx=>by have:=(yM hx).1;omega⟩
theorem afs{ls:List (Nat×List ByteArray)}{p:Nat}(h:p<ls.length):ls.drop p=((ls[p]).1,(ls[p]).2)::ls.drop (p+1):=by
 rw[List.drop_eq_getElem_cons h]
theorem de{w w':World}{B c k:Nat}{v:Value}(s:w.Since B w')(h:B<=c):w.Since B (w'.setCell ⟨c,k,none⟩ v):=by
 have b:=(cF.refl c w').set k v;exact⟨b.os.trans s.os,b.tape.trans s.tape,b.output.trans s.output,Nat.le_trans s.size b.size,fun q hq=>(Below.heap_setCell _ _ _ _ (fun e=>by simp at e;omega)).trans (s.block q hq)⟩
theorem uy{w w':World}{base:Nat}{e:TypeId}{size:Nat}{v:Value}{n:Nat}{xs:List Value}(h:w.ownsRow base e size v n xs)(hk:∀g,v.ownBlock=some g->w'.heap[g]?=w.heap[g]?):w'.ownsRow base e size v n xs:=by
 obtain⟨hl,h | ⟨g,cap,cur,rfl,hb,hh,hr⟩⟩:=h
 . exact⟨hl,Or.inl h⟩
 . exact⟨hl,Or.inr ⟨g,cap,cur,rfl,hb,(hk g (by simp[Value.ownBlock])).trans hh,hr⟩⟩
def Em(lo:Nat)(w:World)(t:Value):Prop:=∃b,t=.slice (some ⟨b,0,none⟩) 0 0/\b<w.heap.size/\w.ownsRow lo 44 3 t 0 []
structure J7(w1:World)(R C:Nat)(l7 l15 l16 l17 l18 l19 l20:Bool)(t10 t40 t48 t49 t50 t51:Value)(w:World):Prop where
 S:w1.Since w1.heap.size w
 h7:l7=true->t40=.int .i64 (R:Int)
 h15:l15=true->t48=.int .i64 (C:Int)
 h16:l16=true->Em w1.heap.size w t49
 h17:l17=true->Em w1.heap.size w t50
 h18:l18=true->t51=.agg #[.int .i64 (R:Int),.int .i64 (C:Int),t49,t50]
 h19:l19=true->∃d,t10=.pointer (some ⟨d,0,none⟩)/\w1.heap.size<=d/\d<w.heap.size/\(l20=false->dG w d (.int .i64 0) (.int .i64 0) (.slice none 0 0) (.slice none 0 0))/\(l20=true->dG w d (.int .i64 (R:Int)) (.int .i64 (C:Int)) t49 t50)
 n1:l16=true->l17=true->t49≠t50
 n2:l16=true->l19=true->∀d,t10=.pointer (some ⟨d,0,none⟩)->t49≠ .slice (some ⟨d,0,none⟩) 0 0
 n3:l17=true->l19=true->∀d,t10=.pointer (some ⟨d,0,none⟩)->t50≠ .slice (some ⟨d,0,none⟩) 0 0
section
variable{w1:World}{R C:Nat}{l7 l15 l16 l17 l18 l19 l20:Bool}{t10 t40 t48 t49 t50 t51:Value}{w w':World}
end
structure xf(w:World)(lo d:Nat)(vW vB:Value)(lW lB:List ByteArray)(xW xB:List Value):Prop where
 W:cU w lo vW lW.length (wd lW) (fun _ q=>lo<=q/\q≠d/\vB.ownBlock≠some q) xW
 B:cU w lo vB lB.length (wd lB) (fun _ q=>lo<=q/\q≠d/\vW.ownBlock≠some q) xB
 sep:∀g,vW.ownBlock=some g->vB.ownBlock≠some g
 dW:vW.ownBlock≠some d
 dB:vB.ownBlock≠some d
section
variable{w w':World}{lo d:Nat}{vW vW' vB:Value}{lW lB l:List ByteArray}{xW xB xr:List Value}
theorem xf.swap(h:xf w lo d vW vB lW lB xW xB):xf w lo d vB vW lB lW xB xW:=⟨h.B,h.W,fun g e e'=>h.sep g e' e,h.dB,h.dW⟩
theorem xf.aA(h:xf w lo d vW vB lW lB xW xB)(s:w.S w'):xf w' lo d vW vB lW lB xW xB:=⟨h.W.aA s,h.B.aA s,h.sep,h.dW,h.dB⟩
theorem xf.put(h:xf w lo d vW vB lW lB xW xB)(s:cF d w w'):xf w' lo d vW vB lW lB xW xB:=
 ⟨h.W.aR s.c (fun _ e e'=>h.dW (e'▸e)) (fun _ _ hq e=>hq.2.1 e),h.B.aR s.c (fun _ e e'=>h.dB (e'▸e)) (fun _ _ hq e=>hq.2.1 e),h.sep,h.dW,h.dB⟩
theorem xf.add{n B lo':Nat}{vr:Value}(h:xf w lo d vW vB lW lB xW xB)(r:cU w lo' vr n (wd l) (fun _ q=>B<=q) xr)(hn:n<=l.length)(hl:lo<=lo')(hW:∀g,vW.ownBlock=some g->g<B)(hB:∀g,vB.ownBlock=some g->g<B)(hd:d<B)(hlo:lo<=B)(hB':B<=w.heap.size)
 (g:w.grownBy w' vW.ownBlock)(own:w'.ownsRow lo 44 3 vW' (lW.length+n) (xW++xr))(hat:vW'.ownBlock=vW.ownBlock∨vW'.ownBlock=some w.heap.size):xf w' lo d vW' vB (lW++l.take n) lB (xW++xr) xB:=by
 have O1:=h.W.append (r.lower hl) g own hat (fun i q _ _ hq=>⟨⟨om,om,fun e=>by have:=hB q e;omega⟩,fun e=>by have:=hW q e;omega⟩)
 have O2:cU w' lo vW' (lW++l.take n).length (wd (lW++l.take n)) (fun _ q=>lo<=q/\q≠d/\vB.ownBlock≠some q) (xW++xr):=by
  have e1:(lW++l.take n).length=lW.length+n:=by rw[List.length_append,List.length_take,Nat.min_eq_left hn]
  rw[e1];refine O1.congr (fun i hi=> ?_);rw[wt]
  show (if i<lW.length then wd lW i else wd l (i-lW.length))=_
  split
  . rfl
  . exact (abX om).symm
 have hb1:∀q,vW'.ownBlock=some q->vB.ownBlock≠some q:=fun q e e'=>by
  rcases hat with k | k
  . exact h.sep q (k.symm.trans e) e'
  . rw[e] at k;simp at k;have:=hB q e';omega
 have O3:cU w' lo vB lB.length (wd lB) (fun _ q=>lo<=q/\q≠d/\vW'.ownBlock≠some q) xB:=by
  have h1:=h.B.imp' (p':=fun _ q=>(lo<=q/\q≠d/\vW.ownBlock≠some q)/\vW'.ownBlock≠some q) (fun i q _ hq hp=>⟨hp,fun e=>by
   rcases hat with k | k
   . exact hp.2.2 (k.symm.trans e)
   . rw[e] at k;simp at k;omega⟩)
  have h2:=h1.aR (jP.aJ g) (fun q e e'=>h.sep q e' e) (fun i q hq e'=>hq.1.2.2 e');exact h2.imp' (fun i q _ _ hq=>⟨hq.1.1,hq.1.2.1,hq.2⟩)
 exact⟨O2,O3,hb1,fun e=>by
  rcases hat with k | k
  . exact h.dW (k.symm.trans e)
  . rw[e] at k;simp at k;omega,h.dB⟩
end
theorem cU.one{w:World}{B:Nat}{b:Bool}{u1 u2:Value}{x:ByteArray}(R:iG w (fun q=>B<=q) (.agg #[.bool b,u1,u2]) x)(hb:(ak x).1=b):
 cU (w.alloc (.cells #[.bool b,u1,u2] 44)) w.heap.size (.s w.heap.size 1 1) 1 (wd [x]) (fun _ q=>B<=q) [.bool b,u1,u2]:=by
 have s:=bJ w (.cells #[.bool b,u1,u2] 44);refine⟨⟨rfl,Or.inr ⟨w.heap.size,1, #[.bool b,u1,u2],rfl,Nat.le_refl _,heap_alloc_new w _,Nat.le_refl _,by unfold maxLen;omega,rfl,rfl⟩⟩,fun i hi=> ?_⟩;have:i=0:=om
 subst this
 show ∃v1 v2,_/\_/\_/\iG _ _ (.agg #[.bool (ak x).1,v1,v2]) x
 rw[show (ak (wd [x] 0)).1=b from hb,hb];refine⟨u1,u2,rfl,rfl,rfl, ?_⟩;have R2:=gi.imp (p':=fun q=>B<=q/\(Value.s w.heap.size 1 1).ownBlock≠some q) R (fun g hg hp=>⟨hp,fun e=>by simp[Value.ownBlock] at e;omega⟩);exact gi.aA R2 s
theorem j8{P:Program}{w:World}{ops:Array Oper}{o:Oper}{a:Act}{K:Act->World->Prop}{Q:Exit->Act->World->Prop}{E:Prop}(hgd:o.guard=none)(s x:Operand)(t:TypeId)
 (ho:o.op=.call { callee:=.builtin .append,args:= #[s,x],argTypes:= #[t,t] })
 (base:Nat)(e:TypeId)(i:TypeInfo)(z:Value)(size bytes:Nat)(ht:P.underlying t=some (.slice e))(hi:P.info? e=some i)(hz:i.zero=some z)
 (hsize:i.size=size)(hby:i.bytes=bytes)(hzs:z.cells.size=size)(hsz:0<size)
 (g0 c0 n:Nat)(xs:List Value)(hs:a.eval s=.s g0 n c0)(hown:w.ownsRow base e size (.s g0 n c0) n xs)
 (ad:Addr)(m c:Nat)(news:List Value)(hx:a.eval x=.slice (some ad) m c)(hl:news.length=m*size)(hnews:∀j u,news[j]?=some u->w.cell? (ad.add j)=some u)(h1:∀u∈news,u.oneCell'=true)
 (h63:n+m<=maxLen)(hbytes:(n+m)*bytes<=140737488355328)(hbase:base<=w.heap.size)(H:Nat)(hH:w.heap.size=H)
 (h:∀g cap w',w'.ownsRow base e size (.s g (n+m) cap) (n+m) (xs++news)->w.grownBy w' (some g0)->(g=g0∨g=H)->g<w'.heap.size->K (a.put o.dst (.s g (n+m) cap)) w'):
 if Region.wanted o (yielded ops a.tmps)=true then Oper.wp P o a w K Q else E:=by
 have hw:Region.wanted o (yielded ops a.tmps)=true:=by simp[Region.wanted,hgd]
 rw[if_pos hw];obtain⟨v',w',hr,h2,h3,h4,h5⟩:=run_append_own_at (P:=P) w base t o.type e i z size bytes ht hi hz hsize hby hzs hsz _ n xs hown ad m c news hl hnews h1 h63 hbytes hbase;unfold Oper.wp execOp;simp only[ho,resolve,invoke,builtin,Sem.run_bind,Sem.run_pure,Result.andThen_ok,List.map_toArray,List.map_cons,List.map_nil,hs,hx,hr];have h2':=h2;obtain⟨-,⟨e0,-⟩ | ⟨g,cap,cur,rfl,-⟩⟩:=h2'
 . have:=(h4.1 e0).1
   simp at this
 . refine h g cap w' h2 h3 ?_ (h2.lt g rfl).2
   rcases h5 with h5 | h5
   . simp[Value.ownBlock] at h5;exact Or.inl h5
   . simp[Value.ownBlock] at h5;exact Or.inr (h5.trans hH)
end Go.Proofs.YtclgkofcooibfaaGreatDoor
