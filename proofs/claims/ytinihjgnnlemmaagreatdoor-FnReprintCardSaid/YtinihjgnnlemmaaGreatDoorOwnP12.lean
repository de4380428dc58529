import Derived.Test.YtinihjgnnlemmaaGreatDoorOwnP8
import Derived.Maps.AppendAt
set_option maxHeartbeats 6400000
set_option maxRecDepth 100000
namespace Go.Proofs.YtinihjgnnlemmaaGreatDoor
open Go.RowKit
variable{w v W V:World}{n m c d k i j l o b p q t r s g h e:Nat}{X Y Z:Nat->Nat}{u U:Value}
theorem sD{e:List Value}(h:w.ownsRow n 133 1 u m e):∃a b,u=.slice a m b/\m<=b/\(a=none->b=0)/\∀j,j<m->∃g,a=jp g 0:=by
 obtain⟨_,⟨rfl,rfl⟩ | ⟨g,b,f,rfl,_,_,d,_⟩⟩:=h
 . exact⟨none,0,rfl,aC _,fun _=>rfl,fun j c=>absurd c om⟩
 . exact⟨_,b,rfl,d,fun h=>(by cases h),fun _ _=>⟨g,rfl⟩⟩
theorem anc(h:w.ownsRow n 133 1 (.s m c d) c (ll X c))(k i:Nat)(y:k<c):
 (w.setCell ⟨m,k,none⟩ (.int .u32 i)).ownsRow n 133 1 (.s m c d) c (ll (mN X k i) c):=by
 obtain⟨hl,h | ⟨v,u,a,e,hb,l,o,z,p,f⟩⟩:=h
 . cases h.1
 . cases e;have r:w.rowIs m 133 d (fun j=>a[j]?.getD (.bool false)):=⟨a,l,by simpa using p,fun j b=>by
    show a[j]?=some (a[j]?.getD (.bool false));rw[Array.getElem?_eq_getElem om];rfl⟩
   obtain⟨x,q,s,t⟩:=r.set k (.int .u32 i);refine⟨by simp[ll],Or.inr ⟨m,d,x,rfl,hb,q,o,z,by simpa using s, ?_⟩⟩;apply jF;intro j;rw[iF] at f⊢;by_cases b:j<c
   . rw[oS b,tK,t j om];have g:(ll X c)[j]?=a[j]?:=(by rw[<-f,oS b,tK]);simp only[ll,cY,fK b,kJ] at g⊢;by_cases e:j=k
     . subst e;simp[fR]
     . rw[aM e,eT _ _ _ _ e,<-g];rfl
   . rw[dJ (by simp;omega),dJ (by simp[ll];omega)]
theorem akX(h:w.ownsRow n 133 1 (.s m c d) c (ll X c))(k i:Nat)(a:k<c)(z:Int)(b:z=(i:Int)):
 (w.setCell ⟨m,k,none⟩ (.int .u32 z)).ownsRow n 133 1 (.s m c d) c (ll (mN X k i) c):=by subst b;exact anc h k i a
theorem ans(X:Nat->Nat)(n m:Nat)(h:n<=m):ll (jg X n) m++[.int .u32 0]=ll (jg X n) (m+1):=by
 simp only[ll,gY,eJ,dG,kC];have:jg X n m=0:=by simp[jg];omega
 rw[this];rfl
end Go.Proofs.YtinihjgnnlemmaaGreatDoor
