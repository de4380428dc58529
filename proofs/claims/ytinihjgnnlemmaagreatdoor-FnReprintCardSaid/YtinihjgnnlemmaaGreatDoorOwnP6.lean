import Derived.Test.YtinihjgnnlemmaaGreatDoorOwnP4
import Derived.Laws.AppendOwnNone
set_option maxHeartbeats 6400000
set_option maxRecDepth 100000
namespace Go.Proofs.YtinihjgnnlemmaaGreatDoor
open Tryz Go.RowKit
variable{w v W V:World}{n m c d k i j l o b p q t r s g h e:Nat}{a A B:Option Addr}{X Y Z:Nat->Nat}{f F:Bool}
theorem afu(n m:Nat)(hb:m<4294967296):n*4294967296 ||| m=n*4294967296+m:=by
 have:=qL (i:=32) (b:=m) om n;rw[cJ] at this;exact this.symm
theorem c7(n m:Nat)(c:n<4294967296)(hb:m<4294967296):bits .or .u64 ((n:Int)*4294967296) (m:Int)=(n:Int)*4294967296+(m:Int):=by
 have h:=u64_or_nat (n*4294967296) m om om;rw[afu n m hb] at h;rw[show ((n*4294967296:Nat):Int)=n*4294967296 by omega] at h;rw[h];omega
theorem gv(n:Nat)(h:n<18446744073709551616):IntKind.u64.wrap (n:Int)=(n:Int):=by rw[pD];omega
theorem aeV(n:Nat)(h:n<4294967296):IntKind.u32.wrap (n:Int)=(n:Int):=by rw[IntKind.wrap_u32'];omega
theorem eN(X:Nat->Nat)(n:Nat):∀u∈ll X n,u.oneCell'=true:=by
 intro u a;obtain⟨_,_,rfl⟩:=dT.1 a;rfl
theorem acf{x:Addr}(h:eO w (some x) n m c X):∀j u,(ll X c)[j]?=some u->w.cell? (x.add j)=some u:=by
 intro j u b;have a:j<c:=by have:=(bG.1 b).1;rwa[vg] at this
 rw[xK X c j a] at b;have d:=Option.some.inj (h j a).1;rw[d,mT,(h j a).2];exact b
theorem ri(H:c<=67108864)(z:c<=d)(q:a=none->d=0)(f:eO w a n m c X):
 Cl 62 #[.slice a c d] w fun e L=>∃v,e=.returned v/\L.ownsRow w.heap.size 133 1 v (iy (nz X) c) (ll X (iy (nz X) c))/\w.S L:=by
 obtain⟨K,j,B,C,D⟩:=kT nF;have l:=jc (nz X) c;cases a with
 | none=>
   have r:=q rfl;have y:c=0:=om;subst r y;go_enter func62,ntmps62;go_wp2_with fail;refine mo (yj om zR f) fun F b=> ?_;have p:iy (nz X) 0=0:=rfl;rw[p];go_wp2_with (at_builtin;refine wpList_append_own_none rfl _ _ 102 rfl w.heap.size 133 K 1 underlying102 j _ 0 [] rfl (World.ownsRow_nil _ _ _ _) rfl ?_);go_ret;exact⟨_,rfl,World.ownsRow_nil _ _ _ _,b⟩
 | some x=>
   go_enter func62,ntmps62;go_wp2_with fail;refine mo (yj om z f) fun F b=> ?_;have i:=(f.aA b).take l;obtain⟨t,h⟩:∃t,t=iy (nz X) c:=⟨_,rfl⟩;have o:=eI h;rw[<-h] at i l⊢;clear h;go_wp2_with (at_builtin;refine gK _ rfl _ _ 102 rfl w.heap.size 133 K (.int .u32 0) 1 4 underlying102 j B C D rfl qd _ 0 [] rfl (World.ownsRow_nil _ _ _ _) x t d (ll X t) rfl (by rw[vg];omega) (acf i) (eN X t) (by unfold maxLen;omega) om b.size ?_);intro E G g s I;have g:G.ownsRow w.heap.size 133 1 E (iy (nz X) c) (ll X (iy (nz X) c)):=(by rw[<-o.out];exact g);have A:=b.grown s b.size (fun k u=>by simp[Value.ownBlock] at u);go_wp2;go_ret;exact⟨_,rfl,g,A⟩
theorem eM.drew(h:eM w v n):eM w v.drew n:=⟨h.os,h.tape,h.output,h.size,h.other,h.frozen,h.shape⟩
theorem eO.put(h:eO w a b 0 n X)(c:Nat):eO (w.setCell ⟨b,m,none⟩ (.int .u32 c)) a b 0 n (mN X m c):=by
 intro j d;have f:=h j d;refine⟨f.1, ?_⟩;by_cases e:j=m
 . subst e;rw[fR,aZ];have:=f.2;rw[aZ] at this;exact aQ _ _ _ this
 . rw[eT _ _ _ _ e,aI _ _ _ _ (fun h=>by have:=congrArg Addr.off h;simp at this;omega)];exact f.2
theorem sQ{n m:Nat}{a:Option Addr}{c d k i:Nat}{X:Nat->Nat}{w:World}(hn:d<=281474976710656)(e:d<=k)(F:w.cell? (jj n m)=some (.l a d k))(W:w.frozen? (jj n m)=false)
 (T:eO w a c 0 d X)(U:∀j,j<d->X j<4294967296)(V:0<d->∀m,w.frozen? (jj c m)=false)(v:n≠c)(y:0<i)(af:i<4294967296):
 Cl 97 #[.p n m,.int .u32 i] w fun ak w'=>ak=.returned (.int .u32 ((lv X d % i:Nat):Int))/\∃u Q,eM w u c/\eO u a c 0 d Q/\(∀j,j<d->Q j<4294967296)/\
  lv Q d=lv X d/i/\w'=u.setCell ⟨n,m,none⟩ (.slice a (iy (nz Q) d) k):=by
 have B:=eI U;go_enter func97,ntmps97;go_wp2;go_loopw [5,6] (fun ad t wr=>∃(o f:Nat) (z:Int) (Q:Nat->Nat),o<=d/\t=.i z/\ad=.int .u64 f/\f<i/\Hid (z=o-1)/\eM w wr c/\eO wr a c 0 d Q/\Hid (zk X Q d o i f)) (fun _ t _=>(intOf t+1).toNat)
 case atStart=>exact⟨d,0,(d:Int)-1,X,aC _,rfl,rfl,y,rfl,eM.refl _ _,T,acT y B.out⟩
 case round=>
  obtain⟨o,f,z,Q,hk,rfl,rfl,aj,C,g,r,h⟩:=hrel;by_cases hz:0<=z
  . obtain⟨b,rfl⟩:=jW hz;have Z:o=b+1:=(by have:=C.out;omega);subst Z;obtain⟨rfl,E⟩:=r b om;have K:=h.out.2.2.2 b om;have l:=eI (aes h.out om (B.out b om));rw[<-h.out.2.2.1 b om] at l;have R:wr.cell? (jj c b)=some (.int .u32 (Q b)):=(by simpa using E);have g1:wr.frozen? (jj c b)=false:=(by rw[g.frozen];exact V om b);have D:wr.cell? (jj n m)=some (.s c d k):=(by rw[g.cell (a:=jj n m) v];exact F);have ag:(b:Int)<d:=om;have ab:=c7 f (Q b) om K;obtain⟨x,I⟩:∃x,x=Q b:=⟨_,rfl⟩;rw[<-I] at l K R ab;clear E I;go_wp2;obtain⟨p,G⟩:∃p,p=f*4294967296+x:=⟨_,rfl⟩;have H:(f:Int)*4294967296+(x:Int)=p:=om;have ah:p<18446744073709551615:=om;rw[<-G] at l;rw[H];clear G H;obtain⟨q,s⟩:∃q,q=p/i:=⟨_,rfl⟩;have N:=eI s;have ac:q<4294967296:=(by rw[s];exact l.out.2);have w1:=gv i om;have u:IntKind.u64.wrap ((p:Int)/(i:Int))=(q:Int):=(by rw[<-pE,<-s];exact gv q om);have w3:=aeV q ac;have ae:¬(i:Int)=0:=om;clear s;go_region;go_wp2;go_roundw
    case rel=>
     go_light;have A:=l.out.1;rw[<-N.out] at A;refine⟨b,p % i,(b:Int)-1,mN Q b q,om,rfl,congrArg (Value.int .u64) (by rw[lK]),iS _ y,rfl, ?_, ?_,A⟩
     . first | exact (g.setCell _ _).drew | exact g.drew.setCell _ _
     . exact r.put q
    case measure=>simp[intOf]
  . have Y:o=0:=(by have:=C.out;omega);subst Y;have D:wr.cell? (jj n m)=some (.l a d k):=(by rw[g.cell (a:=jj n m) v];exact F);have S:wr.frozen? (jj n m)=false:=(by rw[g.bU (a:=jj n m) v];exact W);obtain⟨L,M⟩:=afE h.out;have O:=eI L;have P:=eI M;clear L M;go_wp2_with fail;refine mp (lZ hn e D S r) ?_;have ai:f<4294967296:=om;go_wp2;go_ret;exact⟨jq (a:=(f:Int)) (congrArg (fun x:Nat=>(x:Int)) P.out),wr,Q,g,r,h.out.2.2.2,O.out,rfl⟩
theorem eu(n:Nat)(h:n<18446744073709551616):bits .and .u64 (n:Int) 4294967295=((n % 4294967296:Nat):Int):=by
 have:=u64_and_nat n 4294967295 h om;rw[show (4294967295:Nat)=2^32-1 by rfl,Nat.and_two_pow_sub_one_eq_mod] at this;exact this
theorem afd(n m:Nat)(a:n<4294967296)(hl:m<4294967296)(h:n<m):IntKind.u64.wrap ((n:Int)-(m:Int))=((18446744073709551616+n-m:Nat):Int):=by
 rw[pD];omega
theorem jr(h:f=F):Ending.returned (.bool f)=.returned (.bool F):=by rw[h]
theorem acF(am:d<=268435456)(hg:o<=4294967295)(aj:b+j<d)
 (ad:w.cell? (jj n m)=some (.s c d k))(M:∀m,w.frozen? (jj c m)=false)(ae:n≠c)(ac:i≠c)
 (W:eO w (jp c 0) c 0 d X)(hY:eO w (jp i 0) i 0 j Y)(Z:∀r,X r<4294967296)(aa:∀P,P<j->Y P<4294967296):
 Cl 239 #[.p n m,.s i j l,.int .u32 o,.i b] w fun e Q=>∃(D:Nat->Nat) (I:Bool),e=.returned (.bool I)/\eM w Q c/\eO Q (jp c 0) c 0 d D/\
  lv (fun t=>D (b+t)) (j+1)+o*lv Y j=lv (fun t=>X (b+t)) (j+1)+I.toNat*2^(32*(j+1))/\(∀r,r<b∨b+j+1<=r->D r=X r)/\∀r,D r<4294967296:=by
 have S:=eI aa;have R:=eI Z;go_enter func239,ntmps239;go_wp2;go_loopw [9,17] (fun ai t wr=>∃(f g:Nat) (V:Nat->Nat),f<=j/\t=.i f/\ai=.int .u64 g/\g<=4294967295/\eM w wr c/\eO wr (jp c 0) c 0 d V/\Hid (zj X V Y o b f g)) (fun _ t _=>j-(intOf t).toNat)
 case atStart=>exact⟨0,0,X,aJ _,rfl,rfl,om,eM.refl _ _,W,agD R.out Y o b⟩
 case round=>
  obtain⟨f,g,V,hi,rfl,rfl,an,q,v,C⟩:=hrel;have q0:wr.cell? (jj n m)=some (.s c d k):=by rw[q.cell (a:=jj n m) ae];exact ad
  by_cases N:f<j
  . have T:wr.cell? (jj i f)=some (.int .u32 (Y f)):=(by rw[q.cell (a:=jj i f) ac];simpa using (hY f N).2);have F:wr.cell? (jj c (b+f))=some (.int .u32 (V (b+f))):=(by simpa using (v (b+f) om).2);have U:wr.frozen? (jj c (b+f))=false:=(by rw[q.frozen];exact M _);have O:=S.out f N;have A:=C.out.2.2.2 (b+f);obtain⟨G,ah⟩:=aiY C.out hg O rfl rfl;have a:=eI ah;obtain⟨y,L⟩:∃y,y=Y f:=⟨_,rfl⟩;obtain⟨x,z⟩:∃y,y=V (b+f):=⟨_,rfl⟩;rw[<-L] at T O G a;rw[<-z] at F A a;clear L z;obtain⟨s,E⟩:∃s,s=o*y+g:=⟨_,rfl⟩;rw[<-E] at G a;have mi:(o:Int)*(y:Int)+(g:Int)=s:=(by rw[E];simp);have ao:(0:Int)<=o*(y:Int):=(by rw[<-dR];omega);have al:(s:Int)<=18446744073709551615:=om;have ab:=eu s G;obtain⟨p,K⟩:∃p,p=s % 4294967296:=⟨_,rfl⟩;rw[<-K] at ab a;have ag:p<4294967296:=om;clear E K;by_cases hb:x<p
    . have H:=afd x p A ag hb;obtain⟨h,u⟩:∃h,h=18446744073709551616+x-p:=⟨_,rfl⟩;rw[<-u] at H;have af:h<=18446744073709551615:=om;have B:=eI u;clear u;go_wp2;go_roundw
      case rel=>go_light;have a:=a.out;rw[aY hb] at a;rw[show (h:Int) % 4294967296=(((x+4294967296-p) % 4294967296:Nat):Int) from by have:=B.out;omega];exact⟨f+1,s/4294967296+1,_,om,by go_num,congrArg (Value.int .u64) (by have:=B.out;omega),a.2.1,q.setCell _ _,v.put _,a⟩
      case measure=>exact yI
    . go_wp2;go_roundw
      case rel=>go_light;have a:=a.out;rw[aM hb] at a;rw[show (x:Int)-(p:Int)=(((x+4294967296-p) % 4294967296:Nat):Int) from by omega];exact⟨f+1,s/4294967296+0,_,om,by go_num,congrArg (Value.int .u64) om,a.2.1,q.setCell _ _,v.put _,a⟩
      case measure=>exact yI
  . have e:f=j:=om;subst e;have F:wr.cell? (jj c (b+f))=some (.int .u32 (V (b+f))):=(by simpa using (v (b+f) om).2);have U:wr.frozen? (jj c (b+f))=false:=(by rw[q.frozen];exact M _);have A:=C.out.2.2.2 (b+f);have a:=eI (ak6 C.out rfl);obtain⟨x,z⟩:∃y,y=V (b+f):=⟨_,rfl⟩;rw[<-z] at F A a;clear z;by_cases hb:x<g
    . have H:=afd x g A om hb;obtain⟨h,u⟩:∃h,h=18446744073709551616+x-g:=⟨_,rfl⟩;rw[<-u] at H;have af:h<=18446744073709551615:=om;have ak:9223372036854775808<=h:=om;have B:=eI u;clear u;go_wp2;go_ret;go_light;have a:=a.out;rw[aY hb] at a;rw[show (h:Int) % 4294967296=(((x+4294967296-g) % 4294967296:Nat):Int) from by have:=B.out;omega];refine⟨_,true, ?_,q.setCell _ _,v.put _,a.1,a.2.1,a.2.2⟩;exact jr (by simp only[nG];omega)
    . go_wp2;go_ret;go_light;have a:=a.out;rw[aM hb] at a;rw[show (x:Int)-(g:Int)=(((x+4294967296-g) % 4294967296:Nat):Int) from by omega];refine⟨_,false, ?_,q.setCell _ _,v.put _,a.1,a.2.1,a.2.2⟩;exact jr (by simp only[bne_eq_false_iff_eq];omega)
theorem ae5(U:d<=268435456)(S:o+j<d)
 (Q:w.cell? (jj n m)=some (.s c d k))(B:∀m,w.frozen? (jj c m)=false)(R:n≠c)(P:i≠c)
 (L:eO w (jp c 0) c 0 d X)(N:eO w (jp i 0) i 0 j Y)(M:∀g,X g<4294967296)(O:∀H,H<j->Y H<4294967296):
 Cl 240 #[.p n m,.s i j l,.i o] w fun e E=>∃(r:Nat->Nat) (f:Nat),e=.returned (.tuple #[])/\eM w E c/\eO E (jp c 0) c 0 d r/\
  lv (fun t=>r (o+t)) (j+1)+f*2^(32*(j+1))=lv (fun t=>X (o+t)) (j+1)+lv Y j/\(∀g,g<o∨o+j+1<=g->r g=X g)/\(∀g,r g<4294967296)/\f<=1:=by
 have G:=eI O;have F:=eI M;go_enter func240,ntmps240;go_wp2;go_loopw [6,12] (fun q t wr=>∃(a f:Nat) (V:Nat->Nat),a<=j/\t=.i a/\q=.int .u64 f/\f<=1/\eM w wr c/\eO wr (jp c 0) c 0 d V/\Hid (zp X V Y o a f)) (fun _ t _=>j-(intOf t).toNat)
 case atStart=>exact⟨0,0,X,aJ _,rfl,rfl,om,eM.refl _ _,L,ah9 F.out Y o⟩
 case round=>
  obtain⟨a,f,V,T,rfl,rfl,W,h,s,z⟩:=hrel;have Z:wr.cell? (jj n m)=some (.s c d k):=by rw[h.cell (a:=jj n m) R];exact Q
  by_cases C:a<j
  . have I:wr.cell? (jj i a)=some (.int .u32 (Y a)):=(by rw[h.cell (a:=jj i a) P];simpa using (N a C).2);have u:wr.cell? (jj c (o+a))=some (.int .u32 (V (o+a))):=(by simpa using (s (o+a) om).2);have K:wr.frozen? (jj c (o+a))=false:=(by rw[h.frozen];exact B _);have D:=G.out a C;have v:=z.out.2.2.2 (o+a);have b:=eI (akb z.out D rfl rfl);obtain⟨y,A⟩:∃y,y=Y a:=⟨_,rfl⟩;obtain⟨x,p⟩:∃y,y=V (o+a):=⟨_,rfl⟩;rw[<-A] at I D b;rw[<-p] at u v b;clear A p;go_wp2;go_roundw
    case rel=>go_light;have b:=b.out;rw[show ((x:Int)+(y:Int)+(f:Int)) % 4294967296=(((x+y+f) % 4294967296:Nat):Int) from by omega];exact⟨a+1,(x+y+f)/4294967296,_,om,by go_num,congrArg (Value.int .u64) om,b.2.1,h.setCell _ _,s.put _,b⟩
    case measure=>exact yI
  . have e:a=j:=om;subst e;have u:wr.cell? (jj c (o+a))=some (.int .u32 (V (o+a))):=(by simpa using (s (o+a) om).2);have K:wr.frozen? (jj c (o+a))=false:=(by rw[h.frozen];exact B _);have v:=z.out.2.2.2 (o+a);have b:=eI (alS z.out rfl);obtain⟨x,p⟩:∃y,y=V (o+a):=⟨_,rfl⟩;rw[<-p] at u v b;clear p;go_wp2;go_end0;go_light;have b:=b.out;rw[show ((x:Int)+(f:Int)) % 4294967296=(((x+f) % 4294967296:Nat):Int) from by omega];exact⟨_,(x+f)/4294967296,rfl,h.setCell _ _,s.put _,b.1,b.2.1,b.2.2.1,b.2.2.2⟩
theorem yg(n m:Nat)(h:n*2^m<18446744073709551616):IntKind.u64.wrap ((n:Int)*2^m)=((n*2^m:Nat):Int):=by
 have e:(n:Int)*2^m=((n*2^m:Nat):Int):=by rw[dR,Int.natCast_pow];rfl
 rw[e];exact gv _ h
theorem amP(n m c:Nat)(h:n*2^m<18446744073709551616)(d:m<32)(b:c<2^m):
 bits .or .u32 (c:Int) (IntKind.u64.wrap ((n:Int)*2^m) % 4294967296)=((n*2^m % 4294967296+c:Nat):Int):=by
 have a:=uT m om;rw[yg n m h,show ((n*2^m:Nat):Int) % 4294967296=((n*2^m % 4294967296:Nat):Int) by omega,u32_or_nat _ _ om (iS _ om),aoR m _ _ (aiz n m om) b]
theorem akF(n m:Nat)(h:n*2^m<18446744073709551616):IntKind.u64.wrap ((n:Int)*2^m)/4294967296 % 4294967296=((n*2^m/4294967296:Nat):Int):=by
 rw[yg n m h];omega
theorem acL{n m:Nat}{a:Option Addr}{c d k i j l:Nat}{X:Nat->Nat}{w:World}(hn:k<=67108864)(hw:j<=268435456)(G:l<32)(B:eO w a c d k X)
 (Y:∀p,p<k->X p<4294967296)(C:w.cell? (jj n m)=some (.l a k i))(P:w.frozen? (jj n m)=false):
 Cl 237 #[.p n m,.i ((32*j+l:Nat):Int)] w fun e w'=>e=.returned (.tuple #[])/\∃v S,w.S v/\v.rowIs w.heap.size 133 (k+j+1) (fun p=>.int .u32 (S p:Nat))/\
  (∀h,S h<4294967296)/\lv S (k+j+1)=lv X k*2^(32*j+l)/\w'=v.setCell ⟨n,m,none⟩ (.s w.heap.size (iy (nz S) (k+j+1)) (k+j+1)):=by
 have ab:=run_make_row' (P:=Tryz.prog) 102 133 (.int .u32 0) 4 underlying102 nF rfl .i64 .i64 (k+j+1) om om;have ac:((k+j+1:Nat):Int)=k+(j:Int)+1:=om;rw[ac] at ab;have D:n<w.heap.size:=aG _ _ C;have ad:((32*j+l:Nat):Int)/32=(j:Int):=om;have H:((32*j+l:Nat):Int) % 32=(l:Int):=om;obtain⟨U,t⟩:∃q,q=32*j+l:=⟨_,rfl⟩;have O:=eI t;rw[<-t] at ad H⊢;have ae:U<=8589934623:=om;clear t;go_enter func237,ntmps237;go_wp2;rw[H]
 go_loopw [26] (fun q wr=>∃(b:Nat) (S:Nat->Nat),b<=k/\q=.i b/\w.S wr/\wr.rowIs w.heap.size 133 (k+j+1) (fun h=>.int .u32 (S h))/\wr.rowIs (w.heap.size+1) 102 1 (fun _=>.s w.heap.size (k+j+1) (k+j+1))/\
  Hid (c0 X S j l b)) (fun q _=>k-(intOf q).toNat)
 case atStart=>refine⟨0,fun _=>0,aJ _,rfl,(fA _ _).alloc qz _,((iY w _ _ _).alloc _), ?_,aeb X j l⟩;have:=mJ (w.alloc (Obj.cells (madeCells #[Value.int IntKind.u32 0] (k+j+1)) 133)) #[Value.s w.heap.size (k+j+1) (k+j+1)] 102 (fun _=>.s w.heap.size (k+j+1) (k+j+1)) (fun b E=>by simp at E;subst E;rfl);simpa using this
 case round=>
  obtain⟨b,S,af,rfl,o,f,s,g⟩:=hrel;have R:=s.cell (i:=0) om;by_cases F:b<k
  . obtain⟨rfl,Z⟩:=B b F;have V:wr.cell? (jj c (d+b))=some (.int .u32 (X b)):=(by rw[o.cell (a:=jj c (d+b)) (B.lt om)];exact Z);have M:=Y b F;have W:=f.cell (i:=b+j) om;have g2:=f.frozen (b+j);have g3:=f.cell (i:=b+j+1) om;have g4:=f.frozen (b+j+1);have r:=eI (afm g.out G M);have I:=g.out.2.1;obtain⟨x,L⟩:∃x,x=X b:=⟨_,rfl⟩;obtain⟨u,K⟩:∃u,u=S (b+j):=⟨_,rfl⟩;have N:x*2^l<18446744073709551616:=by
     have h1:x*2^l<=4294967295*2^l:=aP _ om;have h2:=uT l om;omega
    rw[<-L] at V M r;rw[<-K] at W r I;clear L K g;go_wp2;go_roundw
    case rel=>
     go_light;rw[amP x l u N G I,akF x l N];refine⟨b+1,_,om,by go_num,(o.setCell zR _).setCell zR _,((f.set (b+j) _).set (b+j+1) _).congr (fun h _=> ?_),(s.setOther qz _).setOther qz _,r⟩;by_cases z:h=b+j+1
     . simp[mN,z]
     . by_cases A:h=b+j
       . simp[mN,A]
       . simp[mN,z,A]
    case measure=>exact yI
  . have e:b=k:=om;subst e;have T:=s.frozen 0;have y:=g.out.1;have Q:=eI g.out.2.2;rw[<-O.out] at y;have y:=eI y;go_wp2_with fail;refine mp (lZ om zR R T (lI f)) ?_;have q0:wr.frozen? (jj n m)=false:=(by rw[o.frozen (a:=jj n m) D];exact P);have q1:wr.cell? (jj n m)=some (.l a b i):=(by rw[o.cell (a:=jj n m) D];exact C);have q2:n≠w.heap.size+1:=om;go_wp2;go_end0;exact⟨rfl,_,S,o.setCell (oI _) _,f.setOther qz _,Q.out,y.out,rfl⟩
def mix(F X:Nat->Nat)(i:Nat):Nat->Nat:=fun j=>if j<i then F j else X j
theorem cM(X Y:Nat->Nat)(n m:Nat)(h:m<n):mix X Y n m=X m:=by simp[mix,h]
theorem ba(X Y:Nat->Nat)(n m:Nat)(h:n<=m):mix X Y n m=Y m:=by simp[mix];omega
theorem aix(X Y:Nat->Nat)(n m:Nat)(h:m=X n)(c:Nat):mN (mix X Y n) n m c=mix X Y (n+1) c:=by
 by_cases e:c=n
 . subst e;rw[fR,cM _ _ _ _ om,h]
 . rw[eT _ _ _ _ e];by_cases a:c<n
   . rw[cM _ _ _ _ a,cM _ _ _ _ om]
   . rw[ba _ _ _ _ om,ba _ _ _ _ om]
theorem aic(n m:Nat):(n:Int)/2^m % 4294967296=((n/2^m % 4294967296:Nat):Int):=by
 rw[lK,pE,Int.natCast_pow];rfl
theorem eO.setOther(h:eO w a n m d X)(e:c≠n)(u:Value):eO (w.setCell ⟨c,o,none⟩ u) a n m d X:=
 fun j b=>⟨(h j b).1,by rw[aI _ _ _ _ (fun h=>by have:=congrArg Addr.block h;simp at this;omega)];exact (h j b).2⟩
theorem wJ(w:World)(n m:Nat)(u U:Value):(w.setCell ⟨n,m,none⟩ u).setCell ⟨n,m,none⟩ U=w.setCell ⟨n,m,none⟩ U:=by
 unfold World.setCell;congr 1;apply Array.ext_getElem?;intro i;simp only[Array.getElem?_modify];split
 . cases w.heap[i]? with
   | none=>rfl
   | some x=>cases x<;>simp
 . rfl
theorem aok(n m:Nat)(c:n<4294967296)(hb:m<4294967296):bits .or .u64 (n:Int) ((m:Int)*4294967296)=(n:Int)+(m:Int)*4294967296:=by
 have h:=u64_or_nat n (m*4294967296) om om;rw[Nat.or_comm,afu m n c] at h;rw[show ((m*4294967296:Nat):Int)=m*4294967296 by omega] at h;rw[h];omega
theorem abJ(hn:d<=268435456)(ah:d<=k)(hw:i<d)(hp:j<32)(W:eO w (jp c 0) c 0 d X)
 (p:∀b,b<d->X b<4294967296)(Y:w.cell? (jj n m)=some (.s c d k))(aa:w.frozen? (jj n m)=false)(Z:∀m,w.frozen? (jj c m)=false)(s:n≠c):
 Cl 241 #[.p n m,.i ((32*i+j:Nat):Int)] w fun e w'=>e=.returned (.tuple #[])/\∃B S o,eM w B c/\eO B (jp c 0) c 0 o S/\
  o<=d/\(∀b,b<o->S b<4294967296)/\lv S o=lv X d/2^(32*i+j)/\w'=B.setCell ⟨n,m,none⟩ (.s c (iy (nz S) o) k):=by
 have ac:((32*i+j:Nat):Int)/32=(i:Int):=om;have L:((32*i+j:Nat):Int) % 32=(j:Int):=om;obtain⟨C,u⟩:∃q,q=32*i+j:=⟨_,rfl⟩;have Q:=eI u;rw[<-u] at ac L⊢;have ae:C<=8589934623:=om;clear u;go_enter func241,ntmps241;go_wp2;rw[L];have ab:¬(d:Int)<i:=om;go_region;go_wp2;obtain⟨K,r⟩:∃K,K=d-i:=⟨_,rfl⟩;have R:Hid (K=d-i):=r;have ad:K+i=d:=om;rw[<-r];clear r ab;go_loopw [26] (fun q wr=>∃(a:Nat),a<=K/\q=.i a/\eM w wr c/\eO wr (jp c 0) c 0 d (mix (pj (fun t=>X (i+t)) K j) X a)) (fun q _=>K-(intOf q).toNat)
 case atStart=>exact⟨0,aJ _,rfl,(eM.refl _ _).drew,W.congr (fun b _=>(ba _ _ _ _ om).symm)⟩
 case round=>
  obtain⟨a,hi,rfl,h,g⟩:=hrel;have U:wr.cell? (jj n m)=some (.s c d k):=by rw[h.cell (a:=jj n m) s];exact Y
  by_cases ag:a<K
  . have D:wr.cell? (jj c (i+a))=some (.int .u32 (X (i+a))):=by
     have:=(g (i+a) om).2;rw[ba _ _ _ _ om,aZ] at this;exact this
    have g1:wr.cell? (jj c a)=some (.int .u32 (X a)):=(by have:=(g a om).2;rw[ba _ _ _ _ om,aZ] at this;exact this);have E:wr.frozen? (jj c a)=false:=(by rw[h.frozen];exact Z a);have A:=p (i+a) om;have af:(a:Int)<d:=om;by_cases H:a+1<K
    . have V:wr.cell? (jj c (i+(a+1)))=some (.int .u32 (X (i+(a+1)))):=by
       have:=(g (i+(a+1)) om).2;rw[ba _ _ _ _ om,aZ] at this;exact this
      have P:=p (i+(a+1)) om;have I:=aok (X (i+a)) (X (i+(a+1))) A P;have f:Hid (pj (fun t=>X (i+t)) K j a=(X (i+a)+X (i+(a+1))*4294967296)/2^j % 4294967296):=(by simp[Hid,pj,H]);obtain⟨x,N⟩:∃x,x=X (i+a):=⟨_,rfl⟩;obtain⟨y,O⟩:∃y,y=X (i+(a+1)):=⟨_,rfl⟩;rw[<-N] at D A I f;rw[<-O] at V P I f;clear N O;go_wp2;obtain⟨v,l⟩:∃v,v=x+y*4294967296:=⟨_,rfl⟩;have M:(x:Int)+(y:Int)*4294967296=(v:Int):=om;have z:v<18446744073709551616:=om;rw[<-l] at f;rw[M];clear l M;have t1:¬(j:Int)<0:=om;have t2:=gv v z;go_region;go_wp2;go_roundw
      case rel=>go_light;rw[aic v j];exact⟨a+1,om,by go_num,(h.setCell _ _).drew,(g.put _).congr (fun b _=>aix _ _ _ _ f.out.symm b)⟩
      case measure=>exact yI
    . have f:Hid (pj (fun t=>X (i+t)) K j a=X (i+a)/2^j % 4294967296):=(by simp[Hid,pj,H]);obtain⟨v,l⟩:∃x,x=X (i+a):=⟨_,rfl⟩;rw[<-l] at D A f;have z:v<18446744073709551616:=om;clear l;go_wp2;have t1:¬(j:Int)<0:=om;have t2:=gv v z;go_region;go_wp2;go_roundw
      case rel=>go_light;rw[aic v j];exact⟨a+1,om,by go_num,(h.setCell _ _).drew,(g.put _).congr (fun b _=>aix _ _ _ _ f.out.symm b)⟩
      case measure=>exact yI
  . have e:a=K:=om;subst e;have E:wr.frozen? (jj n m)=false:=(by rw[h.bU (a:=jj n m) s];exact aa);have F:=(g.take om).congr (fun b G=>cM _ _ _ _ G);go_wp2_with fail;refine mp (lZ om om (aQ _ _ _ U) (by simp[E]) (F.setOther s _)) ?_;go_wp2;go_end0;have T:lv (pj (fun t=>X (i+t)) a j) a=lv X d/2^C:=by
     rw[ahh _ a j hp (fun b G=>p (i+b) om),R.out,apb X d i om p,mU,<-iB,Q.out]
    exact⟨rfl,wr,_,a,h,F,om,fun b _=>agN _ _ _ _,T,wJ _ _ _ _ _⟩
theorem jz{n m:Nat}{a:Option Addr}{c d k i:Nat}{X:Nat->Nat}{w:World}(u:w.cell? (jj n m)=some (.l a k i))(v:eO w a c d k X)(t:∀j,j<k->X j<4294967296)(q:0<k->X (k-1)≠0):
 Cl 64 #[.p n m] w fun e r=>e=.returned (.bool (decide (lv X k=1)))/\r=w:=by
 by_cases l:k=1
 . subst l;obtain⟨rfl,g⟩:=v 0 om;rw[fV] at g;have e:lv X 1=X 0:=(by simp[lv]);rw[e];by_cases f:X 0=1
   . rw[f] at g⊢;go_enter func64,ntmps64;go_wp2;go_ret;exact⟨rfl,rfl⟩
   . have p:((X 0:Int)==1)=false:=(by simp;omega);have b:decide (X 0=1)=false:=(by simp[f]);rw[b];go_enter func64,ntmps64;go_wp2;go_ret;exact⟨rfl,rfl⟩
 . have b:decide (lv X k=1)=false:=by
    simp only[decide_eq_false_iff_not];intro h;by_cases o:k=0
    . subst o;simp[lv] at h
    . have:=rj X k om (q om);have s:2^(32*1)<=2^(32*(k-1)):=dP om om;omega
   have p:((k:Int)==1)=false:=(by simp;omega);rw[b];go_enter func64,ntmps64;go_wp2;go_ret;exact⟨rfl,rfl⟩
theorem aaB(f:w.cell? (jj n m)=some (.l a c d)):
 Cl 174 #[.p n m] w fun e b=>e=.returned (.bool (decide ((c:Int)<=2)))/\b=w:=by
 go_enter func174,ntmps174;go_wp2;go_ret;exact⟨rfl,rfl⟩
theorem qg(C:k<=2)(A:w.cell? (jj n m)=some (.l a k i))(s:eO w a c d k X)(l:∀j,j<k->X j<4294967296):
 Cl 177 #[.p n m] w fun e z=>e=.returned (.int .u64 (lv X k))/\z=w:=by
 go_enter func177,ntmps177;go_wp2;go_loop [3,10] (fun x t=>∃b v:Nat,b<=k/\t=.i b/\x=.int .u64 v/\Hid (v=lv X b)) (fun _ t=>k-(intOf t).toNat)
 case atStart=>exact⟨0,0,aJ _,rfl,rfl,rfl⟩
 case round=>
  obtain⟨b,v,B,rfl,rfl,g⟩:=hrel;by_cases o:b<k
  . obtain⟨rfl,p⟩:=s b o;have y:=l b o;have u:b=0∨b=1:=om;rcases u with rfl | rfl
    . rw[fV] at p;have h:v=0:=g.out;subst h;have f:=u64_or_nat 0 (X 0) om om;rw[Nat.zero_or] at f;go_wp2;go_round
      case rel=>go_light;refine⟨1,X 0,om,rfl, ?_,by simp[Hid,lv]⟩;exact congrArg (Value.int .u64) (by simpa using f)
      case measure=>exact yI
    . have h:v=X 0:=(by have:=g.out;simpa [lv] using this);have q:=l 0 om;rw[<-h] at q;have f:=aok v (X 1) q y;go_wp2;go_round
      case rel=>go_light;refine⟨2,v+X 1*4294967296,om,rfl, ?_,by rw[h];simp[Hid,lv]⟩;exact congrArg (Value.int .u64) (by rw[<-h,f];omega)
      case measure=>exact yI
  . have e:b=k:=om;subst e;go_wp2;go_ret;exact⟨jq (congrArg (fun x:Nat=>(x:Int)) g.out),rfl⟩
theorem tE(i:n<18446744073709551616)(j:m<18446744073709551616):
 Cl 176 #[.int .u64 n,.int .u64 m] w fun e u=>e=.returned (.int .u64 (Nat.gcd n m))/\Same w u:=by
 go_enter func176,ntmps176;go_wp2;go_loopw [0,1] (fun p q wr=>∃s t:Nat,p=.int .u64 s/\q=.int .u64 t/\s<18446744073709551616/\t<18446744073709551616/\Hid (Nat.gcd s t=Nat.gcd n m)/\Same w wr) (fun _ q _=>(intOf q).toNat)
 case atStart=>exact⟨n,m,rfl,rfl,i,j,rfl,Same.refl _⟩
 case round=>
  obtain⟨s,t,rfl,rfl,x,g,b,d⟩:=hrel;by_cases f:t=0
  . subst f;go_wp2;go_ret;exact⟨jq (congrArg (fun n:Nat=>(n:Int)) (by have:=b.out;rwa[rR] at this)),d⟩
  . have k:((t:Int)==0)=false:=(by simp;omega);have l:¬(t:Int)=0:=om;obtain⟨r,a⟩:∃r,r=s % t:=⟨_,rfl⟩;have v:r<t:=(by rw[a];exact iS _ om);have o:IntKind.u64.wrap ((s:Int) % (t:Int))=(r:Int):=(by rw[<-lK,<-a];exact gv r om);have c:=eI a;go_wp2;go_quiet (fail);go_wp2;go_roundw
    case rel=>
     refine⟨t,r,rfl, ?_,g,om, ?_,d.drewN _⟩
     . first | rfl | exact congrArg (Value.int .u64) (by rw[c.out,lK])
     . have h:=b.out;rw[jN,Nat.gcd_rec,<-c.out,jN] at h;exact h
    case measure=>simp[intOf];have:=Int.emod_lt_of_pos (s:Int) (show (0:Int)<t by omega);omega
theorem qA(x:n<18446744073709551616):
 Cl 175 #[.int .u64 n] w fun e A=>∃S,e=.returned (.s w.heap.size (iy (nz S) 2) 2)/\A.rowIs w.heap.size 133 2 (fun j=>.int .u32 (S j:Nat))/\(∀k,S k<4294967296)/\lv S 2=n/\w.S A:=by
 go_enter func175,ntmps175;go_wp2_with fail;obtain⟨S,a⟩:∃S:Nat->Nat,S=fun j=>if j=0 then n % 4294967296 else if j=1 then n/4294967296 else 0:=⟨_,rfl⟩
 have g:S 0=n % 4294967296:=by rw[a];rfl
 have h:S 1=n/4294967296:=by rw[a];rfl
 have s:∀k,S k<4294967296:=fun k=>by rw[a];show (if k=0 then _ else if k=1 then _ else 0)<_;split;omega;split<;>omega
 have z:=mJ w #[.int .u32 ((n:Int) % 4294967296),.int .u32 ((n:Int)/4294967296)] 133 (fun j=>.int .u32 (S j:Nat)) (fun i b=>by
  have r:i=0∨i=1:=by simp at b;omega
  rcases r with rfl | rfl
  . simp[g]
  . simp[h])
 have o:=z;have f:=o.alloc (.o #[.s w.heap.size 2 2] 102);have l:w.S ((w.alloc (.o #[.int .u32 ((n:Int) % 4294967296),.int .u32 ((n:Int)/4294967296)] 133)).alloc (.o #[.s w.heap.size 2 2] 102)):=(fA _ _).alloc qz _;have bx:((w.alloc (.o #[.int .u32 ((n:Int) % 4294967296),.int .u32 ((n:Int)/4294967296)] 133)).alloc (.o #[.s w.heap.size 2 2] 102)).rowIs (w.heap.size+1) 102 1 (fun _=>.s w.heap.size 2 2):=by have:=mJ (w.alloc (.o #[.int .u32 ((n:Int) % 4294967296),.int .u32 ((n:Int)/4294967296)] 133)) #[.s w.heap.size 2 2] 102 (fun _=>.s w.heap.size 2 2) (fun i b=>by simp at b;subst b;rfl);simpa using this
 generalize (w.alloc _).alloc _=y at*;clear z o a;have d:=bx.cell (i:=0) om;have m:=bx.frozen 0;refine mo (lZ om zR d m (lI f)) fun v c=> ?_;have u:v.cell? (jj (w.heap.size+1) 0)=some (.s w.heap.size (iy (nz S) 2) 2):=by rw[c];exact aQ _ _ _ d
 have t:v.rowIs w.heap.size 133 2 (fun j=>.int .u32 (S j:Nat)):=by rw[c];exact f.setOther qz _
 have q:w.S v:=by rw[c];exact l.setCell (oI _) _
 have p:Hid (lv S 2=n):=by show lv S 2=n;simp only[lv,g,h];simp;omega
 clear c d m f bx l g h;go_wp2;go_ret;exact⟨S,rfl,t,s,p.out,q⟩
def Tab(_:World):Prop:=True
theorem aka(al:d<=268435456)(ah:2<=j)(af:o+j<d)
 (ag:w.cell? (jj n m)=some (.s c d k))(A:eO w (jp c 0) c 0 d X)(K:eO w (jp i 0) i 0 j Y)
 (B:∀ad,X ad<4294967296)(L:∀Z,Z<j->Y Z<4294967296)(M:2147483648<=Y (j-1))(U:X (o+j)<=Y (j-1)):
 Cl 238 #[.p n m,.s i j l,.i o] w fun aw w'=>
  aw=.returned (.int .u32 ((pJ (X (o+j)) (X (o+j-1)) (X (o+j-2)) (Y (j-1)) (Y (j-2)):Nat):Int))/\Same w w':=by
 have k0:w.cell? (jj c (o+j))=some (.int .u32 (X (o+j))):=by simpa using (A (o+j) om).2
 have k1:w.cell? (jj c (o+j-1))=some (.int .u32 (X (o+j-1))):=by simpa using (A (o+j-1) om).2
 have k2:w.cell? (jj c (o+j-2))=some (.int .u32 (X (o+j-2))):=by simpa using (A (o+j-2) om).2
 have k3:w.cell? (jj i (j-1))=some (.int .u32 (Y (j-1))):=by simpa using (K (j-1) om).2
 have k4:w.cell? (jj i (j-2))=some (.int .u32 (Y (j-2))):=by simpa using (K (j-2) om).2
 have N:=B (o+j);have V:=B (o+j-1);have C:=B (o+j-2);have l3:=L (j-1) om;have D:=L (j-2) om;obtain⟨R,E⟩:∃x,x=X (o+j):=⟨_,rfl⟩;obtain⟨S,F⟩:∃x,x=X (o+j-1):=⟨_,rfl⟩;obtain⟨W,G⟩:∃x,x=X (o+j-2):=⟨_,rfl⟩;obtain⟨b,H⟩:∃x,x=Y (j-1):=⟨_,rfl⟩;obtain⟨p,I⟩:∃x,x=Y (j-2):=⟨_,rfl⟩;rw[<-E] at k0 N U⊢;rw[<-F] at k1 V⊢;rw[<-G] at k2 C⊢;rw[<-H] at k3 l3 U M⊢;rw[<-I] at k4 D⊢;clear E F G H I;have t1:=gv b om;have t2:=gv p om;have t3:=gv R om;have t4:=gv S om;have t5:=c7 R S N V;have t6:IntKind.u64.wrap ((R:Int)*4294967296)=(R:Int)*4294967296:=by rw[pD];omega
 have d1:(1:Int)<=j:=om;go_enter func238,ntmps238;go_wp2;go_quiet (fail);go_wp2;go_quiet (fail);go_wp2;obtain⟨e,hl⟩:∃e,e=R*4294967296+S:=⟨_,rfl⟩;have aa:(R:Int)*4294967296+(S:Int)=e:=om;have ab:e<18446744073709551616:=om;rw[aa];have y:=eI (agd (u0:=R) (u1:=S) (v2:=p) (show 0<b by omega) C);rw[<-hl] at y;obtain⟨s,T⟩:∃g,g=e/b:=⟨_,rfl⟩;obtain⟨u,t⟩:∃g,g=e % b:=⟨_,rfl⟩;rw[<-T,<-t] at y;have ac:u<=4294967295:=by have:=iS e (show 0<b by omega);omega
 have au:s<18446744073709551616:=by rw[T];exact dD (iV _ _) ab
 have s1:IntKind.u64.wrap ((e:Int)/(b:Int))=(s:Int):=by rw[<-pE,<-T];exact gv s au
 have s2:IntKind.u64.wrap ((e:Int) % (b:Int))=(u:Int):=by rw[<-lK,<-t];exact gv u om
 have s3:¬(b:Int)=0:=om;have P:=eI t;have O:=eI T;clear T t hl;go_quiet (fail);go_wp2;go_loop [11,12] (fun x ae=>∃g r:Nat,x=.int .u64 g/\ae=.int .u64 r/\r<=4294967295/\Hid (qU R S W b p g r)) (fun x _=>(intOf x).toNat)
 case atStart=>exact⟨s,u,by first | rfl | exact congrArg (Value.int .u64) (by rw[O.out,pE]),congrArg (Value.int .u64) (by rw[P.out,lK]),ac,y⟩
 case round=>
  obtain⟨g,r,rfl,rfl,hr,q⟩:=hrel;have ai:=age q.out M U V;by_cases ao:4294967295<g
  . obtain⟨av,f⟩:=acr q.out (Or.inl ao);have v:=eI f;have a:=eI (fun h=>aaE f (show 0<b by omega) D U V h);by_cases z:4294967295<r+b
    . have a:=eI (a.out z);go_wp2;go_ret;exact⟨jq (by have:=a.out;omega),(Same.refl _).drewN _⟩
    . clear a;go_wp2;go_light;exact⟨⟨g-1,om,r+b,om,om,v⟩,by simp[intOf];omega⟩
  . have am:=c7 r W om C;have an:g*p<=4294967295*4294967295:=dF om om;have aj:(0:Int)<=g*(p:Int):=(by rw[<-dR];omega);have ak:(g:Int)*(p:Int)<=18446744065119617025:=(by rw[<-dR];omega);by_cases aq:r*4294967296+W<g*p
    . obtain⟨av,f⟩:=acr q.out (Or.inr aq);have v:=eI f;have a:=eI (fun h=>aaE f (show 0<b by omega) D U V h);have ar:(r:Int)*4294967296+(W:Int)<g*(p:Int):=(by rw[<-dR];omega);by_cases z:4294967295<r+b
      . have a:=eI (a.out z);go_wp2;go_ret;exact⟨jq (by have:=a.out;omega),(Same.refl _).drewN _⟩
      . clear a;go_wp2;go_light;exact⟨⟨g-1,om,r+b,om,om,v⟩,by simp[intOf];omega⟩
    . have Q:=eI (acq q.out (show 0<b by omega) om om);have ar:(g:Int)*(p:Int)<=r*4294967296+(W:Int):=(by rw[<-dR];omega);go_wp2;go_ret;exact⟨jq (by have:=Q.out;omega),(Same.refl _).drewN _⟩
end Go.Proofs.YtinihjgnnlemmaaGreatDoor
