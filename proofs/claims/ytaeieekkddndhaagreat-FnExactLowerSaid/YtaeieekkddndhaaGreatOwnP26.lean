import Derived.Test.YtaeieekkddndhaaGreatOwnP16
import Derived.Lib.SmallJoins
set_option maxHeartbeats 6400000
set_option maxRecDepth 100000
namespace Go.Proofs.YtaeieekkddndhaaGreat.NI
open Tryz Go.ChangeShapes Go.WideShapes Go.ChangeAt Go.RowKit Go.Deep
set_option linter.unusedVariables false
variable{n:Nat}{u:Value}
theorem agP:Tryz.prog.cellsOf 76=3:=by kernel_rfl
theorem aey:Tryz.prog.cellsOf 74=1:=by kernel_rfl
theorem aku:Tryz.prog.cellsOf 4=1:=by kernel_rfl
section
variable{H:Type}{enc:TypeId×Value->H}{W:World}
theorem agr{y:DataW H×List MemPlace}(t:DataW.trod enc Tryz.prog W 0 (fun _=>true) true n 74 [u]=some y):
 ∃a k f X,u=.slice a k f/\k<=f/\(a=none->f=0)/\k<=9223372036854775807/\(∃b g,bE W a b g k X)/\∀j,j<k->X j<4294967296:=by
 rcases open_ints underlying74 underlying135 kr t with ⟨e,_⟩ | ⟨x,l,c,i,e,_,hl,v,o,_,s,m⟩
 . simp at e;exact⟨none,0,0,fun _=>0,e,aC _,fun _=>rfl,om,⟨0,0,fun j d=>absurd d om⟩,fun j d=>absurd d om⟩
 . simp at e;have o:i.length=c:=(by simpa using o);have hb:∀j,j<l->(i[j]?.getD 0).toNat<4294967296:=fun j _=>by have:=range_u32 m j;omega
   refine⟨some x,l,c,fun j=>(i[j]?.getD 0).toNat,e,hl,(fun h=>by cases h),by unfold maxLen at v;omega, ?_,hb⟩;by_cases w:0<l
   . obtain⟨b,g,rfl,r⟩:=ints_at s om;refine⟨b,g,fun j d=>⟨rfl, ?_⟩⟩;have p:=r j om;have q:=range_u32 m j;rw[p,fP];simp only[Int.toNat_of_nonneg q.1]
   . exact⟨0,0,fun j d=>absurd d om⟩
theorem aj5{d:List Value}{y:DataW H×List MemPlace}(o:DataW.trod enc Tryz.prog W 0 (fun _=>true) true n 76 d=some y):
 ∃(r:jd) (a b:Option Addr) (c k:Nat),d=[.bool r.neg,.slice a r.n c,.slice b r.m k]/\ah W 0 r a b c k:=by
 obtain⟨I,K,L,G,-,hl,e,f,g⟩:=trod_struct3 underlying76 o;rw[agP] at hl
 match d,hl with
 | [v0,v1,v2],_=>
   have e:DataW.trod enc Tryz.prog W 0 (fun _=>true) true G 4 [v0]=some I:=(by simpa [aku] using e);have f:DataW.trod enc Tryz.prog W 0 (fun _=>true) true G 74 [v1]=some K:=(by simpa [aey] using f);have g:DataW.trod enc Tryz.prog W 0 (fun _=>true) true G 74 [v2]=some L:=(by simpa [aey] using g);obtain⟨s,h,-⟩:=DataW.trod_bool underlying4 e;obtain⟨a,p,c,X,rfl,v,w,x,z,A⟩:=agr f;obtain⟨b,q,k,Y,rfl,B,C,D,E,F⟩:=agr g;simp at h;subst h;obtain⟨l,t,i⟩:=z;obtain⟨m,u,j⟩:=E;exact⟨⟨s,p,X,q,Y⟩,a,b,c,k,rfl,v,B,w,C,⟨l,t,fun _=>aJ _,i⟩,⟨m,u,fun _=>aJ _,j⟩,A,F,x,D⟩
theorem afP{a:Addr}(h:W.cell? (a.add n)=some u)(c:n=0):a=(jj a.block a.off):=by
 subst c;obtain⟨b,f,e⟩:=a;have d:e=none:=by simpa [Addr.add] using World.cell?_spot h
 subst d;rfl
theorem eC{y:DataW H×List MemPlace}(G:DataW.trod enc Tryz.prog W 0 (fun _=>true) true n 22 [u]=some y):
 ∃a l t R,u=.slice a l t/\l<=t/\l<=9223372036854775807/\∃b N,pG W 0 a b N l R:=by
 rcases open_slice underlying22 G with ⟨h,_⟩ | ⟨a,s,v,m,q,D,P,h,_,hl,I,K,_,M⟩
 . simp at h;exact⟨none,0,0,fun _=>jd.nul,h,aC _,om,0,0,fun j p=>absurd p om⟩
 . simp at h;have S:v<=9223372036854775807:=(by unfold maxLen at I;omega);obtain rfl:m=v:=by simpa using K
   have O:∀i,i<s->∃(r:jd),∃(c d:Option Addr) (f g:Nat),W.cell? (a.add (i*3))=some (.bool r.neg)/\W.cell? (a.add (i*3+1))=some (.l c r.n f)/\W.cell? (a.add (i*3+2))=some (.l d r.m g)/\ah W 0 r c d f g:=fun i w=>by
    obtain⟨Q,E,F⟩:=M i om;obtain⟨r,c,d,f,g,rfl,L⟩:=aj5 F;obtain⟨-,-,k⟩:=World.cells?_some E;rw[agP] at k;refine⟨r,c,d,f,g, ?_, ?_, ?_,L⟩
    . simpa [add_add] using k 0 om
    . simpa [add_add] using k 1 om
    . simpa [add_add] using k 2 om
   have:Inhabited jd:=⟨jd.nul⟩;obtain⟨R,o⟩:=choose_lt O;refine⟨some a,s,m,R,h,hl,om, ?_⟩;by_cases C:0<s
   . obtain⟨-,-,-,-,z,-⟩:=o 0 C;have e:=afP z om;rw[e] at o⊢;refine⟨a.block,a.off,fun i w=>⟨rfl, ?_⟩⟩;obtain⟨c,d,f,g,x,A,B,L⟩:=o i w;simp only[add_plain] at x A B;exact⟨c,d,f,g,x,by rw[fH];exact A,by rw[fH];exact B,L⟩
   . exact⟨0,0,fun j p=>absurd p om⟩
end
section
variable{H:Type}{enc:TypeId×Value->H}{W:World}
theorem ry:Tryz.prog.cellsOf 3=1:=by kernel_rfl
theorem ed:Tryz.prog.cellsOf 22=1:=by kernel_rfl
end
section
variable{P:Program}{H:Type}{enc:TypeId×Value->H}{w:World}{base:Nat}{spare:Nat->Bool}{held:Bool}
theorem aa8{t:TypeId}{c d e f g i:Field}{a:List Value}{x:DataW H×List MemPlace}(r:P.underlying t=some (.struct #[c,d,e,f,g,i]))(h:DataW.trod enc P w base spare held n t a=some x):
 ∃j k l m o u p,a.length=P.cellsOf t/\DataW.trod enc P w base spare held p c.type ((a.drop c.offset).take (P.cellsOf c.type))=some j/\
  DataW.trod enc P w base spare held p d.type ((a.drop d.offset).take (P.cellsOf d.type))=some k/\DataW.trod enc P w base spare held p e.type ((a.drop e.offset).take (P.cellsOf e.type))=some l/\
  DataW.trod enc P w base spare held p f.type ((a.drop f.offset).take (P.cellsOf f.type))=some m/\DataW.trod enc P w base spare held p g.type ((a.drop g.offset).take (P.cellsOf g.type))=some o/\
  DataW.trod enc P w base spare held p i.type ((a.drop i.offset).take (P.cellsOf i.type))=some u:=by
 obtain⟨s,p,_,rfl,hl,q,b⟩:=DataW.trod_struct r h
 match s,q with
 | [j,k,l,m,o,u],_=>exact⟨j,k,l,m,o,u,p,hl,by simpa using b 0 c rfl,by simpa using b 1 d rfl,by simpa using b 2 e rfl,by simpa using b 3 f rfl,by simpa using b 4 g rfl,by simpa using b 5 i rfl⟩
end
section
variable{H:Type}{enc:TypeId×Value->H}{W:World}
theorem ae0:Tryz.prog.cellsOf 79=6:=by kernel_rfl
theorem ais:Tryz.prog.cellsOf 23=1:=by kernel_rfl
theorem ait:Tryz.prog.cellsOf 25=6:=by kernel_rfl
theorem xO{y:DataW H×List MemPlace}(h:DataW.trod enc Tryz.prog W 0 (fun _=>true) true n 3 [u]=some y):∃z:Int,u=.i z/\I64 z:=by
 obtain⟨d,b,-,a⟩:=DataW.trod_int underlying3 h;simp at b;simp[Lit.wf] at a;have c:IntKind.i64.min=-9223372036854775808:=by kernel_rfl
 rw[c] at a;exact⟨d,b,a.1,a.2⟩
theorem ah6{b:List Value}{y:DataW H×List MemPlace}(o:DataW.trod enc Tryz.prog W 0 (fun _=>true) true n 79 b=some y):
 ∃(d:dA) (a:Option Addr) (L:Nat),b=[.i d.op,.i d.a,.i d.b,.i d.k,.i d.s,.slice a d.nv L]/\tW W 0 d a L:=by
 obtain⟨z,A,B,C,D,M,k,hl,h,i,j,l,m,c⟩:=aa8 underlying79 o;rw[ae0] at hl
 match b,hl with
 | [v0,v1,v2,v3,v4,v5],_=>
   obtain⟨E,rfl,t⟩:=xO (show DataW.trod enc Tryz.prog W 0 (fun _=>true) true k 3 [v0]=some z by simpa [ry] using h);obtain⟨F,rfl,u⟩:=xO (show DataW.trod enc Tryz.prog W 0 (fun _=>true) true k 3 [v1]=some A by simpa [ry] using i);obtain⟨G,rfl,v⟩:=xO (show DataW.trod enc Tryz.prog W 0 (fun _=>true) true k 3 [v2]=some B by simpa [ry] using j);obtain⟨I,rfl,w⟩:=xO (show DataW.trod enc Tryz.prog W 0 (fun _=>true) true k 3 [v3]=some C by simpa [ry] using l);obtain⟨K,rfl,x⟩:=xO (show DataW.trod enc Tryz.prog W 0 (fun _=>true) true k 3 [v4]=some D by simpa [ry] using m);have c:DataW.trod enc Tryz.prog W 0 (fun _=>true) true k 22 [v5]=some M:=(by simpa [ed] using c);obtain⟨a,p,L,f,rfl,r,s,g,q,e⟩:=eC c;exact⟨⟨E,F,G,I,K,p,f⟩,a,L,rfl,r,⟨g,q,fun _=>aJ _,e⟩,t,u,v,w,x,s⟩
theorem am2{y:DataW H×List MemPlace}(M:DataW.trod enc Tryz.prog W 0 (fun _=>true) true n 23 [u]=some y):
 ∃a k s A,u=.slice a k s/\k<=s/\k<=9223372036854775807/\∃b Q,vv W 0 a b Q k A:=by
 rcases open_slice underlying23 M with ⟨h,_⟩ | ⟨a,p,t,m,q,D,S,h,_,hl,N,O,_,P⟩
 . simp at h;exact⟨none,0,0,fun _=>dA.nul,h,aC _,om,0,0,fun j o=>absurd o om⟩
 . simp at h;have U:t<=9223372036854775807:=(by unfold maxLen at N;omega);obtain rfl:m=t:=by simpa using O
   have R:∀i,i<p->∃(d:dA),∃(f:Option Addr) (g:Nat),W.cell? (a.add (i*6))=some (.i d.op)/\W.cell? (a.add (i*6+1))=some (.i d.a)/\W.cell? (a.add (i*6+2))=some (.i d.b)/\W.cell? (a.add (i*6+3))=some (.i d.k)/\W.cell? (a.add (i*6+4))=some (.i d.s)/\W.cell? (a.add (i*6+5))=some (.l f d.nv g)/\tW W 0 d f g:=fun i v=>by
    obtain⟨T,I,K⟩:=P i om;obtain⟨r,f,g,rfl,L⟩:=ah6 K;obtain⟨-,-,c⟩:=World.cells?_some I;rw[ae0] at c;refine⟨r,f,g, ?_, ?_, ?_, ?_, ?_, ?_,L⟩
    . simpa [add_add] using c 0 om
    . simpa [add_add] using c 1 om
    . simpa [add_add] using c 2 om
    . simpa [add_add] using c 3 om
    . simpa [add_add] using c 4 om
    . simpa [add_add] using c 5 om
   have:Inhabited dA:=⟨dA.nul⟩;obtain⟨A,l⟩:=choose_lt R;refine⟨some a,p,m,A,h,hl,om, ?_⟩;by_cases G:0<p
   . obtain⟨-,-,z,-⟩:=l 0 G;have e:=afP z om;rw[e] at l⊢;refine⟨a.block,a.off,fun i v=>⟨rfl, ?_⟩⟩;obtain⟨f,g,w,x,B,C,E,F,L⟩:=l i v;simp only[add_plain] at w x B C E F;exact⟨f,g,w,by rw[fH];exact x,by rw[fH];exact B,by rw[fH];exact C,by rw[fH];exact E,by rw[fH];exact F,L⟩
   . exact⟨0,0,fun j o=>absurd o om⟩
theorem graph_in{d:DataW H}{p:List MemPlace}(I:Value.okWide Tryz.prog W .any n 25 u)(h:DataW.Trod enc Tryz.prog W 0 (fun _=>true) true 25 u d p):
 ∃(g:be) (b a c:Option Addr) (i f y:Nat),u=.agg (gV g b a c i f y)/\rH W 0 g b a c i f y:=by
 obtain⟨ac,rfl,e⟩:=okWide_struct underlying25 I;rw[ait] at e;obtain⟨l⟩:=ac
 match l,e with
 | [v0,v1,v2,v3,v4,v5],_=>
   obtain⟨aa,G⟩:=h;obtain⟨y0,y1,y2,y3,y4,y5,v,-,A,B,C,D,E,F⟩:=aa8 underlying25 G;obtain⟨z0,rfl,X⟩:=xO (show DataW.trod enc Tryz.prog W 0 (fun _=>true) true v 3 [v0]=some y0 by simpa [Value.cells,ry] using A);obtain⟨z1,rfl,Y⟩:=xO (show DataW.trod enc Tryz.prog W 0 (fun _=>true) true v 3 [v1]=some y1 by simpa [Value.cells,ry] using B);obtain⟨z5,rfl,Z⟩:=xO (show DataW.trod enc Tryz.prog W 0 (fun _=>true) true v 3 [v5]=some y5 by simpa [Value.cells,ry] using F);obtain⟨b,L,x,q,rfl,Q,R,s,N,j⟩:=eC (show DataW.trod enc Tryz.prog W 0 (fun _=>true) true v 22 [v2]=some y2 by simpa [Value.cells,ed] using C);obtain⟨a,K,w,o,rfl,S,T,t,O,k⟩:=eC (show DataW.trod enc Tryz.prog W 0 (fun _=>true) true v 22 [v3]=some y3 by simpa [Value.cells,ed] using D);obtain⟨c,M,ab,r,rfl,U,V,z,P,m⟩:=am2 (show DataW.trod enc Tryz.prog W 0 (fun _=>true) true v 23 [v4]=some y4 by simpa [Value.cells,ais] using E);exact⟨⟨z0,z1,L,q,K,o,M,r,z5⟩,b,a,c,x,w,ab,rfl,Q,S,U,⟨s,N,fun _=>aJ _,j⟩,⟨t,O,fun _=>aJ _,k⟩,⟨z,P,fun _=>aJ _,m⟩,X,Y,Z,R,T,V⟩
end
end Go.Proofs.YtaeieekkddndhaaGreat.NI
