import Derived.Test.YtclgkofcooibfaaGreatDoorOwnP24
import Derived.Lib.Explode
set_option maxHeartbeats 6400000
set_option maxRecDepth 100000
namespace Go.Proofs.YtclgkofcooibfaaGreatDoor
open Go.RowKit
def cv(s:ByteArray)(p:Nat):Nat->Nat
 | 0=>0
 | m+1=>cv s p m*10+(bt s (p+m)-48)
theorem ahQ(s:ByteArray)(p m:Nat):dv s (p+m)=dv s p*10^m+cv s p m:=by
 induction m with
 | zero=>simp[cv]
 | succ m ih=>
   show dv s (p+m)*10+(bt s (p+m)-48)=_
   rw[ih,cv,Nat.add_mul,Nat.pow_succ,Nat.mul_assoc];omega
theorem aiI(s:ByteArray)(p m:Nat)(hd:∀k,k<s.size->48<=bt s k/\bt s k<=57)(h:p+m<=s.size):cv s p m<10^m:=by
 induction m with
 | zero=>simp[cv]
 | succ m ih=>
   have h1:=ih om;have h2:=hd (p+m) om;rw[cv,Nat.pow_succ];omega
theorem ag8(s:ByteArray){p m:Nat}(h:p+m<=s.size):(s.extract p s.size).extract m (s.size-p)=s.extract (p+m) s.size:=by
 have e1:(s.extract p s.size).size=s.size-p:=iQ s om (Nat.le_refl _);have e2:((s.extract p s.size).extract m (s.size-p)).size=s.size-p-m:=iQ _ om om;have e3:=iQ s om (Nat.le_refl _);refine afp om (fun k hk=> ?_);rw[jn _ om,jn _ om,jn _ om,Nat.add_assoc]
theorem yI.sinceB{c o:Nat}{r:Option Nat}{w w1 w2:World}(h:yI c o r w1 w2)(S:w.S w1)(hc:w.heap.size<=c)(hr:∀q,r=some q->w.heap.size<=q):w.S w2:=
 ⟨h.os.trans S.os,h.tape.trans S.tape,h.output.trans S.output,Nat.le_trans S.size h.size,fun k hk=>(h.block k (Nat.lt_of_lt_of_le hk S.size) om (fun e=>by have:=hr k e.symm;omega)).trans (S.block k hk)⟩
theorem pow8{i:Nat}(h:i<=8):10^i<=100000000:=Nat.le_trans (Nat.pow_le_pow_right om h) qd
theorem lQ{s:ByteArray}{w:World}(hs:s.size<=400)(hd:∀k,k<s.size->48<=bt s k/\bt s k<=57):
 Cl 187 #[.string s] w fun e w'=>∃v g,e=.returned v/\bU w' v g (dv s s.size) 402/\w.heap.size<=g/\g<w'.heap.size/\w.S w':=by
 have sA:w.S ((w.alloc (.cells #[] 129)).alloc (.cells #[.s w.heap.size 0 0] 98)):=(bJ _ _).alloc qz _;have zA:((w.alloc (.cells #[] 129)).alloc (.cells #[.s w.heap.size 0 0] 98)).heap.size=w.heap.size+1+1:=by simp
 have own0:((w.alloc (.cells #[] 129)).alloc (.cells #[.s w.heap.size 0 0] 98)).ownsRow w.heap.size 129 1 (.s w.heap.size 0 0) 0 (ll (fun _=>0) 0):=(pv w #[] 0 (Nat.le_refl _) qd rfl).alloc _
 have c0:((w.alloc (.cells #[] 129)).alloc (.cells #[.s w.heap.size 0 0] 98)).cell? (jj (w.heap.size+1) 0)=some (.s w.heap.size 0 0):=by
  simp
 have f0:((w.alloc (.cells #[] 129)).alloc (.cells #[.s w.heap.size 0 0] 98)).frozen? (jj (w.heap.size+1) 0)=false:=by
  simp
 have HDG:=ae hd;clear hd;go_enter Tryz.func187,Tryz.ntmps187;go_wp2;generalize ((w.alloc _).alloc _)=wA at*;obtain⟨c,hc⟩:∃c,c=w.heap.size+1:=⟨_,rfl⟩;rw[<-hc] at c0 f0⊢;have hcA:c<wA.heap.size:=om
 have hcw:w.heap.size<c:=om
 clear hc zA
 go_loopg [0] s.size (fun gk d wr=>∃(p n:Nat) (v:Value) (X:Nat->Nat),p<=s.size/\Hid (gk=s.size-p)/\d=.string (s.extract p s.size)/\Hid (p=0∨(s.size-p) % 9=0)/\wr.cell? (jj c 0)=some v/\wr.frozen? (jj c 0)=false/\wr.ownsRow w.heap.size 129 1 v n (ll X n)/\Hid (v≠ .n)/\Hid (v.ownBlock≠some c)/\
  Hid (∀j,j<n->X j<4294967296)/\Hid (0<n->X (n-1)≠0)/\Hid (lv X n=dv s p)/\n<=p/\c<wr.heap.size/\w.S wr)
 case atStart=>exact⟨0,0,_,fun _=>0,Nat.zero_le _,ae rfl,by rw[Lib.whole_piece],ae (Or.inl rfl),c0,f0,own0,ae qz,ae (by simp[Value.ownBlock];omega),ae (fun j hj=>absurd hj om),ae (fun h=>absurd h om),ae rfl,Nat.le_refl _,hcA,sA⟩
 case round=>
  obtain⟨p,n,v,X,hp,HG,rfl,H9,q0,qf,hown,HN,HC,HX,HT,HV,hnp,hcr,Sr⟩:=hrel;clear own0 c0 f0 sA hcA;have hsz:(s.extract p s.size).size=s.size-p:=iQ s hp (Nat.le_refl _);have HEX:=ae (fun m (h:p+m<=s.size)=>ag8 s h);have HBT:=ae (fun k (h:k<s.size-p)=>jn s (i:=p) (j:=s.size) h);obtain⟨t,ht⟩:∃t,t=s.extract p s.size:=⟨_,rfl⟩;rw[<-ht] at hsz HEX HBT⊢;obtain⟨r,hr⟩:∃r,r=s.size-p:=⟨_,rfl⟩;rw[<-hr] at hsz HEX HBT;clear ht
  by_cases hr0:0<r
  . obtain⟨m,hm⟩:∃m,m=(r-1) % 9+1:=⟨_,rfl⟩
    have hm1:m<=9:=om
    have hm2:m<=r:=om
    have H9':Hid (p=0∨m=9):=ae (by have:=H9.out;omega);have hmI:((r:Int)-1) % 9+1=(m:Int):=om
    have hszI:(t.size:Int)=r:=om
    have hrI:(0:Int)<r:=om
    have hrb:r<=400:=om
    have HM:=ae hm;have HR:=ae hr;clear hm hr;go_wp2
    go_loopw [5,17] (fun q t' wr'=>∃(i x:Nat),i<=m/\t'=.i i/\q=.int .u32 x/\Hid (x=cv s p i)/\x<1000000000/\Same wr wr') (fun _ t' _=>m-(intOf t').toNat)
    case atStart=>exact⟨0,0,Nat.zero_le _,rfl,rfl,ae rfl,om,Same.refl _⟩
    case round=>
     obtain⟨i,x,him,rfl,rfl,HCV,hx9,sm⟩:=hrel
     by_cases hlt:i<m
     . have hps:p+m<=s.size:=by have:=HR.out;omega
       have hx8:x<100000000:=by
        have h1:=aiI s p i HDG.out om;have h2:=pow8 (i:=i) om;have:=HCV.out;omega
       have hti:i<t.size:=om
       have hb:=jI hti;have hbb:=HBT.out i om;have hdd:=HDG.out (p+i) om;rw[hbb] at hb;obtain⟨y,hy⟩:∃y,bt s (p+i)=y+48:=⟨bt s (p+i)-48,om⟩;have HS:Hid (cv s p (i+1)=x*10+y):=ae (by rw[cv,hy,Nat.add_sub_cancel,<-HCV.out]);rw[hy] at hb hdd;have hw2:((y+48:Nat):Int)-48=(y:Int):=om
       have hw3:(y:Int)+48-48=(y:Int):=om
       have hiI:(i:Int)<m:=om
       have hiR:(i:Int)<r:=om
       clear hbb hy;go_wp2;go_roundw
       case rel=>exact⟨i+1,x*10+y,om,by go_num,by go_num,ae HS.out.symm,om,sm⟩
       case measure=>simp[intOf];omega
     . have e:i=m:=om
       subst e;have hps:p+i<=s.size:=by have:=HR.out;omega
       have q1:wr.cell? (jj c 0)=some v:=by rw[sm.cell];exact q0
       have f1:wr.frozen? (jj c 0)=false:=by rw[sm.frozen];exact qf
       have o1:wr.ownsRow w.heap.size 129 1 v n (ll X n):=hown.kept (row:=none) ⟨sm.os,sm.tape,sm.output,by rw[sm.size];exact Nat.le_refl _,fun k _ _=>by rw[sm.heap]⟩ (by cases h:v.ownBlock<;>simp);have S1:=Sr.tr (sm.since _);have hz1:=sm.size;have J:=@sV c 0 w.heap.size n v x X wr om om q1 f1 o1 HC.out om S1.size HX.out;have hlow:=fun q hq=>(o1.lt q hq).1
       have f1':=f1;clear q0 qf hown Sr q1 f1 o1;have hex:=HEX.out i (by have:=HR.out;omega);have hiI:(i:Int)<=r:=om
       go_wp2_with (go_at_call 202;with_reducible refine J.mono ?_;rintro e w2 ⟨rfl,v2,k2,V2,q2,o2,n2,b2,A2,l2,e2,m2,t2⟩)
       have hval:lv V2 k2=dv s (p+i):=by
        rw[e2,HV.out,ahQ,HCV.out]
        rcases H9'.out with h | h
        . rw[h];simp[dv]
        . rw[h]
       have htop:0<k2->V2 (k2-1)≠0:=fun h0 hz=>by
        rcases t2 with h | h
        . subst h
          have h1:lv V2 k2=lv V2 (k2-1):=nT V2 (k2-1) k2 om (fun j h1 h2=>by rw[show j=k2-1 by omega];exact hz);have h2:=mB (A:=V2) (B:=X) (n:=k2-1) (m:=k2) (fun j hj=>l2 j om) om HT.out;omega
        . exact h hz
       have S2:w.S w2:=A2.sinceB S1 om hlow;have hs2:=A2.size
       go_roundg (s.size-(p+i))
       case rel=>exact⟨p+i,k2,v2,V2,om,ae rfl,rfl,ae (Or.inr (by have:=HM.out;have:=HR.out;omega)),q2,by rw[A2.frozen];exact f1',o2,ae (fun h=>HN.out (n2 h)),ae b2,ae l2,ae htop,ae hval,by have:=HM.out;omega,om,S2⟩
       case measure=>have:=HG.out;have:=HM.out;have:=HR.out;omega
  . obtain⟨g,cp,rfl,k1,k2,k3,L3,F3⟩:=bX hown HN.out
    have e:=ae (show p=s.size by omega);go_wp2;go_ret;exact⟨_,g,rfl,⟨_,n,cp,X,rfl,k1,om,fun h=>(by cases h),L3,fun _ o=>F3 o,HX.out,HT.out,by rw[<-e.out];exact HV.out⟩,k2,k3,Sr⟩
end Go.Proofs.YtclgkofcooibfaaGreatDoor
