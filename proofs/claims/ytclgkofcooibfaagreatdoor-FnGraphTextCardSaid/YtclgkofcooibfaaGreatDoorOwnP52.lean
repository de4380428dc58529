import Derived.Test.YtclgkofcooibfaaGreatDoorOwnP36
import Derived.Test.YtclgkofcooibfaaGreatDoorOwnP16
import Derived.Test.YtclgkofcooibfaaGreatDoorOwnP51
import Derived.Test.YtclgkofcooibfaaGreatDoorOwnP10
set_option maxHeartbeats 6400000
set_option maxRecDepth 100000
namespace Go.Proofs.YtclgkofcooibfaaGreatDoor
open Go.RowKit
theorem xU{z:Int}{w:World}(h0:0<=z)(h1:z<=9223372036854775807)(hP:Pow w):
 Cl 21 #[.i z] w fun e w'=>e=.returned (.string ⟨(bu z).toArray⟩)/\w.S w':=by
 refine (Tryz.strconv_Itoa z om h1 w hP).mono ?_;rintro e w' ⟨rfl,k,os,rfl⟩;exact⟨by rw[aeU h0],fh (Lib.below_grow w.heap.size w (Nat.le_refl _) k os)⟩
theorem xd(ws:List (List UInt8)):((ws.map fun l=>(⟨l.toArray⟩:ByteArray)).map (·.data.toList))=ws:=by
 rw[List.map_map]
 conv=>rhs;rw[<-List.map_id ws]
 rfl
theorem pO{bk o c:Nat}{ws:List (List UInt8)}{w:World}(hc:∀j x,ws[j]?=some x->w.cell? (jj bk (o+j))=some (.string ⟨x.toArray⟩))(hbk:bk<w.heap.size)(hcap:ws.length<=c)(hn:ws.length<=100000000)(hlen:(Lib.join ws [32]).length<=1000000000):
 Cl 20 #[.slice (jp bk o) ws.length c] w fun e w'=>e=.returned (.string ⟨(Lib.join ws [32]++[10]).toArray⟩)/\w.S w':=by
 have J:=Tryz.strings_Join bk o c (ws.map fun l=>(⟨l.toArray⟩:ByteArray)) ⟨#[32]⟩ w (fun j x h=>by
  rw[List.getElem?_map] at h;obtain⟨y,hy,rfl⟩:=Option.map_eq_some_iff.1 h;exact hc j y hy) hbk (by rw[List.length_map];omega) (by rw[List.length_map];omega) (by rw[xd];exact Nat.le_trans hlen qd)
 rw[List.length_map,xd] at J;have hl2:=hlen;go_enter Tryz.func20,Tryz.ntmps20;go_wp2_with fail;refine J.mono ?_;rintro e w1 ⟨rfl,b1⟩;go_wp2;go_ret;exact⟨by simp[eE],fh b1⟩
theorem acu:∃i,Tryz.prog.info? 9=some i/\i.zero=some (.string ⟨#[]⟩)/\i.size=1/\i.bytes=16:=by
 have h:(Tryz.prog.info? 9).map (fun i=>(i.zero,i.size,i.bytes))=some (some (.string ⟨#[]⟩),1,16):=by kernel_rfl
 obtain⟨i,hi,h⟩:=Option.map_eq_some_iff.1 h;simp only[Prod.mk.injEq] at h;exact⟨i,hi,h.1,h.2.1,h.2.2⟩
def i9(ws:List (List UInt8)):List Value:=ws.map fun l=>.string ⟨l.toArray⟩
theorem yU(ws:List (List UInt8)):(i9 ws).length=ws.length:=by simp[i9]
theorem adZ(ws:List (List UInt8)):∀u∈i9 ws,u.oneCell'=true:=fun u hu=>by
 obtain⟨x,-,rfl⟩:=List.mem_map.1 hu
 rfl
theorem yW{ws:List (List UInt8)}{j:Nat}{x:List UInt8}(h:ws[j]?=some x):(i9 ws)[j]?=some (.string ⟨x.toArray⟩):=by
 unfold i9;rw[List.getElem?_map,h];rfl
theorem wH{w:World}{base g n cap:Nat}{ws:List (List UInt8)}(h:w.ownsRow base 9 1 (.s g n cap) n (i9 ws)):(∀j x,ws[j]?=some x->w.cell? (jj g j)=some (.string ⟨x.toArray⟩))/\g<w.heap.size/\base<=g/\n<=cap/\ws.length=n:=by
 have hc:= @World.ownsRow.cells _ _ _ _ _ _ _ h;have hl:=h.lt g rfl;refine⟨fun j x hx=> ?_,hl.2,hl.1, ?_, ?_⟩
 . have e1:=hc (g:=g) rfl _ _ (yW hx)
   rw[Go.WideShapes.add_plain,Nat.zero_add] at e1;exact e1
 . obtain⟨_,⟨e,_⟩ | ⟨g',cap',cur,e,hg,hb,hn,_⟩⟩:=h
   . simp at e
   . simp only[Value.slice.injEq] at e
     obtain⟨_,_,rfl⟩:=e
     assumption
 . have:=h.1
   rw[yU] at this;omega
theorem uf{w:World}{lo:Nat}{r:br}{a1 a2:Option Addr}{k1 k2:Nat}(L:nu w lo r a1 a2 k1 k2)(ok:r.ok=true)(h:r.n+r.m<=1048576)(hP:Pow w):
 Cl 22 #[.agg #[.bool r.neg,.slice a1 r.n k1,.slice a2 r.m k2]] w fun e w'=>e=.returned (.string ⟨r.aX.toArray⟩)/\w.S w':=by
 obtain⟨ba,oa,-,LX⟩:=L.LX;obtain⟨bb,ob,-,LY⟩:=L.LY;exact aaG (Nat.zero_le _) om om L.nc L.mc L.ac L.bc LX LY L.lX L.lY trivial hP ok
theorem acN{a:Option Addr}{lo b off n cap:Nat}{V:Nat->br}{w:World}(hn:n+mj V n<=1048576)(H:fw w lo a b off n V)(ok:gD V n)(hP:Pow w):
 Cl 66 #[.slice a n cap] w fun e w'=>∃g cap',e=.returned (.s g n cap')/\w'.ownsRow w.heap.size 9 1 (.s g n cap') n (i9 (fx V n))/\w.S w':=by
 obtain⟨i0,hi,hz0,hz1,hz2⟩:=acu;have sA:=bJ w (.cells #[] 9);have oA:(w.alloc (.cells #[] 9)).ownsRow w.heap.size 9 1 (.s w.heap.size 0 0) 0 (i9 (fx V 0)):=pv w #[] 0 (Nat.le_refl _) (Nat.zero_le _) rfl;go_enter Tryz.func66,Tryz.ntmps66;go_wp2
 go_loopw [3,9] (fun u i wr=>∃k:Nat,k<=n/\i=.i k/\w.S wr/\∃g cap',u=.s g k cap'/\wr.ownsRow w.heap.size 9 1 (.s g k cap') k (i9 (fx V k))) (fun _ i _=>n-(intOf i).toNat)
 case atStart=>exact⟨0,Nat.zero_le _,rfl,sA,w.heap.size,0,rfl,oA⟩
 case round=>
  obtain⟨k,hk,rfl,s,g,cap',rfl,O⟩:=hrel
  by_cases hlt:k<n
  . obtain⟨ea,a1,a2,k1,k2,M⟩:=H k hlt
    subst ea;have hz:(k:Int)<n:=om
    have hok:=ok k hlt;have hsz:(V k).n+(V k).m<=1048576:=by have:=gY (R:=V) hlt;omega
    have M1:=M.aA s;obtain⟨g0,g1,g2⟩:=M1.g;have sN:=bJ wr (.cells #[.bool (V k).neg,.slice a1 (V k).n k1,.slice a2 (V k).m k2] 44);have nB:=bj.new wr (.bool (V k).neg) (.slice a1 (V k).n k1) (.slice a2 (V k).m k2) 44;go_wp2_with fail;generalize wr.alloc _=w1 at*;have S1:=s.tr sN;refine (uf (M.aA S1).L hok hsz (hP.stay S1)).mono ?_;rintro e w2 ⟨rfl,s2⟩;obtain⟨T,hT⟩:∃T,(V k).aX=T:=⟨_,rfl⟩;rw[hT];have HT:=ae hT;have u2:=sN.tr s2;have S2:=s.tr u2;have O2:=kD O u2;have z2:=u2.size;have z0:=s.size
    go_wp2_with (at_builtin;refine wpList_append_own_at _ rfl _ _ 67 rfl w.heap.size 9 i0 (.string ⟨#[]⟩) 1 16 Tryz.underlying67 hi hz0 hz1 hz2 rfl qd _ _ _ rfl (O2.alloc _) (jj w2.heap.size 0) 1 1 [.string ⟨T.toArray⟩] rfl rfl (bO _ _ _) (bZ _ rfl) (by unfold maxLen;omega) om (by simp;omega) ?_)
    intro v' w5 hown' hgrow hnn hat;obtain⟨g',capn,rfl,hg1,hg2⟩:=hown'.form om;have sW:=bJ w2 (.cells #[.string ⟨T.toArray⟩] 9);have S5:=(S2.tr sW).grown hgrow (by simp;omega) (fun q hq=>(O2.lt q hq).1)
    have O5:w5.ownsRow w.heap.size 9 1 (.s g' (k+1) capn) (k+1) (i9 (fx V (k+1))):=by
     rw[wu,HT.out,show i9 (fx V k++[T])=i9 (fx V k)++[.string ⟨T.toArray⟩] by simp[i9]];exact hown'
    go_wp2;go_roundw
    case rel=>exact⟨k+1,om,by go_num,S5,g',capn,rfl,O5⟩
    case measure=>simp[intOf];omega
  . have e:k=n:=om
    subst e;go_wp2;go_ret;exact⟨g,cap',rfl,O,s⟩
theorem aeo{c j f:Nat}{fs:List Nat}(h:fs[j]?=some f):(aaW c fs)[j]?=some (.p c f):=by
 unfold aaW;rw[List.getElem?_map,h];rfl
structure nf(fs:List Nat)(vals:List Int)(z v1 v2 v3 v4:Int):Prop where
 len:vals.length=fs.length
 small:fs.length<=4
 at_:∀(j f:Nat),fs[j]?=some f->∃v,vals[j]?=some v/\[z,v1,v2,v3,v4][f]?=some v/\0<=v/\v<=9223372036854775807
theorem acS{ws:List (List UInt8)}{j:Nat}{u:Value}(h:(i9 ws)[j]?=some u):∃x,ws[j]?=some x/\u=.string ⟨x.toArray⟩:=by
 unfold i9 at h;rw[List.getElem?_map] at h;obtain⟨x,hx,rfl⟩:=Option.map_eq_some_iff.1 h;exact⟨x,hx,rfl⟩
theorem ada{w:World}{base base':Nat}{e:TypeId}{size:Nat}{v:Value}{n:Nat}{xs:List Value}(h:w.ownsRow base e size v n xs)(hb:base'<=base):w.ownsRow base' e size v n xs:=by
 obtain⟨hl,h | ⟨g,cap,cur,rfl,hb',hh,hr⟩⟩:=h
 . exact⟨hl,Or.inl h⟩
 . exact⟨hl,Or.inr ⟨g,cap,cur,rfl,Nat.le_trans hb hb',hh,hr⟩⟩
theorem ahY{w:World}{c f:Nat}{z v1 v2 v3 v4 v:Int}{x:Value}(B:au w c (.i z) (.i v1) (.i v2) (.i v3) (.i v4) x)(h:[z,v1,v2,v3,v4][f]?=some v):w.cell? (jj c f)=some (.i v):=by
 match f,h with
 | 0,h=>simp at h;subst h;exact B.c0
 | 1,h=>simp at h;subst h;exact B.c1
 | 2,h=>simp at h;subst h;exact B.c2
 | 3,h=>simp at h;subst h;exact B.c3
 | 4,h=>simp at h;subst h;exact B.c4
 | f+5,h=>simp at h
theorem au.blk{w w':World}{c:Nat}{x y z u v t:Value}(h:au w c x y z u v t)(e:w'.heap[c]?=w.heap[c]?):au w' c x y z u v t:=
 ⟨(fa (a:=jj c 0) e).trans h.c0,(fa (a:=jj c 1) e).trans h.c1,(fa (a:=jj c 2) e).trans h.c2,(fa (a:=jj c 3) e).trans h.c3,(fa (a:=jj c 4) e).trans h.c4,(fa (a:=jj c 5) e).trans h.c5,fun o=>by
   have:=h.f o;unfold World.frozen? at this⊢;rw[e];exact this⟩
theorem kR{z:Int}{word:List UInt8}{ub uk us:Bool}{nums:Int}{fs:List Nat}{vals:List Int}{v1 v2 v3 v4:Int}{nv:Nat}{V:Nat->br}{a1:Option Addr}{lo bV oV k1:Nat}{w:World}(hP:Pow w)
 (hwd:∀w,Cl 64 #[.i z] w fun e w'=>e=.returned (.string ⟨word.toArray⟩)/\w.S w')
 (hin:∀(c:Nat) (w:World),Cl 65 #[.agg #[.i z,.bool ub,.bool uk,.bool us,.i nums],.p c 0] w fun e w'=>∃g cap,e=.returned (.s g fs.length cap)/\w'.ownsRow (w.heap.size+1) 115 1 (.s g fs.length cap) fs.length (aaW c fs)/\w.S w')
 (wp:nf fs vals z v1 v2 v3 v4)(hn:nv+mj V nv<=1048576)(LV:fw w lo a1 bV oV nv V)(ok:gD V nv):
 Cl 25 #[.agg #[.i z,.i v1,.i v2,.i v3,.i v4,.slice a1 nv k1],.agg #[.i z,.bool ub,.bool uk,.bool us,.i nums]] w fun e w'=>∃g n cap,e=.returned (.s g n cap)/\w'.ownsRow w.heap.size 9 1 (.s g n cap) n (i9 (word::(vals.map bu++fx V nv)))/\w.S w':=by
 obtain⟨i0,hi,hz0,hz1,hz2⟩:=acu;have sA:=bJ w (.cells #[.i z,.i v1,.i v2,.i v3,.i v4,.slice a1 nv k1] 48);have nA:=au.new w (.i z) (.i v1) (.i v2) (.i v3) (.i v4) (.slice a1 nv k1) 48;have zA:(w.alloc (.cells #[.i z,.i v1,.i v2,.i v3,.i v4,.slice a1 nv k1] 48)).heap.size=w.heap.size+1:=by simp
 have sB:(w.alloc (.cells #[.i z,.i v1,.i v2,.i v3,.i v4,.slice a1 nv k1] 48)).Since (w.alloc (.cells #[.i z,.i v1,.i v2,.i v3,.i v4,.slice a1 nv k1] 48)).heap.size ((w.alloc (.cells #[.i z,.i v1,.i v2,.i v3,.i v4,.slice a1 nv k1] 48)).alloc (.cells #[.i z,.bool ub,.bool uk,.bool us,.i nums] 70)):=bJ _ _;have fB:=dc.new (w.alloc (.cells #[.i z,.i v1,.i v2,.i v3,.i v4,.slice a1 nv k1] 48)) (.i z) (.bool ub) (.bool uk) (.bool us) (.i nums) 70;rw[zA] at fB;have zB:((w.alloc (.cells #[.i z,.i v1,.i v2,.i v3,.i v4,.slice a1 nv k1] 48)).alloc (.cells #[.i z,.bool ub,.bool uk,.bool us,.i nums] 70)).heap.size=w.heap.size+1+1:=by simp
 have nB:=nA.aA sB;have SB:=sA.tr sB;have q0:=nB.c0;go_enter Tryz.func25,Tryz.ntmps25;go_wp2_with fail;clear sA nA zA sB;generalize (w.alloc _).alloc _=wB at*;refine (hwd wB).mono ?_;rintro e w1 ⟨rfl,s1⟩;have S1:=SB.tr s1;have n1:=nB.aA s1;have f1:=fB.aA s1;have z1:=s1.size;have sC:=bJ w1 (.cells #[.string ⟨word.toArray⟩] 9);have O1:=World.ownsRow_lit (base:=w.heap.size+1+1) (size:=1) (e:=9) w1 #[.string ⟨word.toArray⟩] 1 om qd rfl;have f2:=f1.aA sC;obtain⟨p0,p1,p2,p3,p4⟩:=f2.g;clear q0;go_wp2_with fail;have S2:=S1.tr sC;have n2:=n1.aA sC;have z2:(w1.alloc (.cells #[.string ⟨word.toArray⟩] 9)).heap.size=w1.heap.size+1:=by simp
 generalize w1.alloc _=w2 at*;refine (hin w.heap.size w2).mono ?_;rintro e w3 ⟨gp,capp,rfl,OP,s3⟩;have S3:=S2.tr s3;have n3:=n2.aA s3;have O3:=O1.kept (row:=none) ⟨s3.os,s3.tape,s3.output,s3.size,fun k hk _=>s3.block k hk⟩ (Classical.em _);have hgp:=OP.lt gp rfl
 have PC:∀(j f:Nat),fs[j]?=some f->w3.cell? (jj gp j)=some (.p w.heap.size f):=fun j f h=>by
  have e1:=(@World.ownsRow.cells _ _ _ _ _ _ _ OP) (g:=gp) rfl _ _ (aeo h);rw[Go.WideShapes.add_plain,Nat.zero_add] at e1;exact e1
 clear p0 p1 p2 p3 p4 OP;have hsm:=wp.small;have hlen:=wp.len;go_wp2_with fail
 go_loopw [5,15] (fun u i wr=>∃k:Nat,k<=fs.length/\i=.i (k:Int)/\w.S wr/\Hid (au wr w.heap.size (.i z) (.i v1) (.i v2) (.i v3) (.i v4) (.slice a1 nv k1))/\
  Hid (∀(j f:Nat),fs[j]?=some f->wr.cell? (jj gp j)=some (.p w.heap.size f))/\gp<wr.heap.size/\w.heap.size+1+1<=wr.heap.size/\∃g cap',u=.s g (k+1) cap'/\g≠gp/\wr.ownsRow (w.heap.size+1+1) 9 1 (.s g (k+1) cap') (k+1) (i9 (word::(vals.map bu).take k))) (fun _ i _=>fs.length-(intOf i).toNat)
 case atStart=>exact⟨0,Nat.zero_le _,rfl,S3,ae n3,ae PC,hgp.2,om,w1.heap.size,1,rfl,om,O3⟩
 case round=>
  obtain⟨k,hk,rfl,s,n4,pc,hgl,hzz,g,cap',rfl,hne,O⟩:=hrel
  by_cases hlt:k<fs.length
  . have hz:(k:Int)<(fs.length:Int):=om
    obtain⟨f,hf⟩:∃f,fs[k]?=some f:=⟨_,List.getElem?_eq_getElem hlt⟩;obtain⟨v,hv1,hv2,hv0,hvm⟩:=wp.at_ k f hf;have r1:=pc.out k f hf;have r2:=ahY n4.out hv2;have HV:=ae hv1;clear hf hv1 hv2;go_wp2_with fail;refine (xU hv0 hvm (hP.stay s)).mono ?_;rintro e w5 ⟨rfl,s5⟩;have S5:=s.tr s5;have O5:=kD O s5;have z5:=s5.size;clear r1 r2
    go_wp2_with (at_builtin;refine wpList_append_own_at _ rfl _ _ 67 rfl (w.heap.size+1+1) 9 i0 (.string ⟨#[]⟩) 1 16 Tryz.underlying67 hi hz0 hz1 hz2 rfl qd _ _ _ rfl (O5.alloc _) (jj w5.heap.size 0) 1 1 [.string ⟨(bu v).toArray⟩] rfl rfl (bO _ _ _) (bZ _ rfl) (by unfold maxLen;omega) om (by simp;omega) ?_)
    intro v' w6 hown' hgrow hnn hat;replace hgrow:(w5.alloc (.cells #[.string ⟨(bu v).toArray⟩] 9)).grownBy w6 (Value.s g (k+1) cap').ownBlock:=hgrow;obtain⟨g',capn,rfl,hg1,hg2⟩:=hown'.form om;have sW:=bJ w5 (.cells #[.string ⟨(bu v).toArray⟩] 9);have sX:wr.S (w5.alloc (.cells #[.string ⟨(bu v).toArray⟩] 9)):=s5.tr sW;have zW:(w5.alloc (.cells #[.string ⟨(bu v).toArray⟩] 9)).heap.size=w5.heap.size+1:=by simp
    have z6:=hgrow.size;have lg:=O.lt g rfl;have S6:=(s.tr sX).grown hgrow om (fun q hq=>by have:=(O.lt q hq).1;omega)
    have O6:w6.ownsRow (w.heap.size+1+1) 9 1 (.s g' (k+1+1) capn) (k+1+1) (i9 (word::(vals.map bu).take (k+1))):=by
     have e:i9 (word::(vals.map bu).take (k+1))=i9 (word::(vals.map bu).take k)++[.string ⟨(bu v).toArray⟩]:=by
      rw[List.take_add_one,List.getElem?_map,HV.out];simp[i9]
     rw[e];exact hown'
    have kb:∀q,q<wr.heap.size->q≠g->w6.heap[q]?=wr.heap[q]?:=fun q hq hn=>(hgrow.block q om (by simp[Value.ownBlock];omega)).trans (sX.block q hq)
    have N6:=ae (n4.out.blk (kb w.heap.size om om));have P6:Hid (∀(j f:Nat),fs[j]?=some f->w6.cell? (jj gp j)=some (.p w.heap.size f)):=ae (fun j f h=>(fa (a:=jj gp j) (kb gp hgl (fun e=>hne e.symm))).trans (pc.out j f h))
    have hne6:g'≠gp:=by
     rcases hat with h | h
     . simp[Value.ownBlock] at h;omega
     . simp[Value.ownBlock] at h;omega
    clear hnn hat hown' hgrow;go_wp2;go_roundw
    case rel=>exact⟨k+1,om,by go_num,S6,N6,P6,om,om,g',capn,rfl,hne6,O6⟩
    case measure=>simp[intOf];omega
  . have e:k=fs.length:=om
    subst e;have r5:=n4.out.c5;have HV:=ae (show (vals.map bu).take fs.length=vals.map bu by rw[<-hlen];exact List.take_of_length_le qz);go_wp2_with fail;refine (acN hn (LV.aA s) ok (hP.stay s)).mono ?_;rintro e w5 ⟨g5,c5,rfl,O5,s5⟩;have S5:=s.tr s5;have OW:=kD O s5;obtain⟨cl5,l5,-,-,-⟩:=wH O5;have z5:=s5.size;clear r5
    go_wp2_with (at_builtin;refine wpList_append_own _ rfl _ _ 67 rfl (w.heap.size+1+1) 9 i0 (.string ⟨#[]⟩) 1 16 Tryz.underlying67 hi hz0 hz1 hz2 rfl qd _ _ _ rfl OW (jj g5 0) nv _ (i9 (fx V nv)) rfl (by rw[yU,uc];omega) (fun j u h=>by
     obtain⟨x,hx,rfl⟩:=acS h;rw[Go.WideShapes.add_plain,Nat.zero_add];exact cl5 j x hx) (adZ _) (by unfold maxLen;omega) om om ?_)
    intro v' w6 hown' hgrow hnn;replace hgrow:w5.grownBy w6 (Value.s g (fs.length+1) cap').ownBlock:=hgrow;obtain⟨g',capn,rfl,hg1,hg2⟩:=hown'.form om;have S6:w.S w6:=S5.grown hgrow om (fun q hq=>by have:=(O.lt q hq).1;omega)
    have O6:w6.ownsRow w.heap.size 9 1 (.s g' (fs.length+1+nv) capn) (fs.length+1+nv) (i9 (word::(vals.map bu++fx V nv))):=by
     have e:i9 (word::(vals.map bu++fx V nv))=i9 (word::(vals.map bu).take fs.length)++i9 (fx V nv):=by
      rw[HV.out];simp[i9]
     rw[e];exact ada (base:=w.heap.size+1+1) hown' om
    clear hnn hown' hgrow;go_wp2;go_ret;exact⟨g',_,capn,rfl,O6,S6⟩
structure TxtF(u:Value)(T F:Nat)(fm:Value)(lo:Nat)(aV:Option Addr)(bV oV nv:Nat)(V:Nat->br)(ws:List (List UInt8)):Prop where
 op:∀(w:World) (mk:Nat),dg w mk->Calls Tryz.prog 24 #[.map (some mk),u] w fun e w'=>e=.returned (.tuple #[.iface T u,.bool true])/\w.Since w.heap.size w'
 me:∀w:World,(method 368 T u "loop.example/s0015/impl.form").run Tryz.prog w=.ok (F,u) w
 en:∀(args:Array Value) (w:World),(callFunc F args).run Tryz.prog w=.ok (.enter F args) w
 fr:∀w:World,Calls Tryz.prog F #[u] w fun e w'=>e=.returned fm/\w.Since w.heap.size w'
 wo:∀w:World,Pow w->fw w lo aV bV oV nv V->Calls Tryz.prog 25 #[u,fm] w fun e w'=>∃g n cap,e=.returned (.slice (some ⟨g,0,none⟩) n cap)/\w'.ownsRow w.heap.size 9 1 (.slice (some ⟨g,0,none⟩) n cap) n (i9 ws)/\w.Since w.heap.size w'
theorem txtF(d:ay)(a1:Option Addr)(lo bV oV k1:Nat)(f:d.Form)(ha:0<=d.a)(hb:0<=d.b)(hd:d.size<=1048576)(ia:d.a<=9223372036854775807)(ib:d.b<=9223372036854775807):
 ∃T F ub uk us nums,TxtF (.agg #[.i d.op,.i d.a,.i d.b,.i d.k,.i d.s,.slice a1 d.nv k1]) T F (.agg #[.i d.op,.bool ub,.bool uk,.bool us,.i nums]) lo a1 bV oV d.nv d.V (dJ d.op::(dR d++fx d.V d.nv)):=by
 have o1:=f.o1;have o7:=f.o7;have fk:=f.k;have fs:=f.s;have ok:=f.ok;unfold ay.size at hd;clear f;obtain⟨op,v1,v2,v3,v4,nv,V⟩:=d
 dsimp only at*
 have hop:op=1∨op=2∨op=3∨op=4∨op=5∨op=6∨op=7:=om
 rcases hop with ho | ho | ho | ho | ho | ho | ho
 . subst ho
   have fk:1<=v3/\v3<=1000:=fk;refine⟨103,244,false,true,false,(-1),fun w mk K=>si K,fun _=>by kernel_rfl,fun _ _=>by kernel_rfl,fun w=>afl _ _ _ _ _ _ _ _ w,fun w hP LV=> ?_⟩
   have wp:nf [1,3] [v1,v3] 1 v1 v2 v3 v4:=⟨rfl,by decide,fun j f h=>by
    match j,h with
    | 0,h=>simp at h;subst h;exact⟨v1,rfl,rfl,om,om⟩
    | 1,h=>simp at h;subst h;exact⟨v3,rfl,rfl,om,om⟩
    | j+2,h=>simp at h⟩
   refine (kR hP @abW (@jD _ false true false _) wp hd LV ok).mono ?_;exact fun _ _ h=>h
 . subst ho
   refine⟨105,247,false,false,false,0,fun w mk K=>sg K,fun _=>by kernel_rfl,fun _ _=>by kernel_rfl,fun w=>afk _ _ _ _ _ _ _ _ w,fun w hP LV=> ?_⟩
   have wp:nf [1] [v1] 2 v1 v2 v3 v4:=⟨rfl,by decide,fun j f h=>by
    match j,h with
    | 0,h=>simp at h;subst h;exact⟨v1,rfl,rfl,om,om⟩
    | j+1,h=>simp at h⟩
   refine (kR hP @abV (@jD _ false false false _) wp hd LV ok).mono ?_;exact fun _ _ h=>h
 . subst ho
   refine⟨106,250,false,false,false,1,fun w mk K=>sf K,fun _=>by kernel_rfl,fun _ _=>by kernel_rfl,fun w=>afj _ _ _ _ _ _ _ _ w,fun w hP LV=> ?_⟩
   have wp:nf [1] [v1] 3 v1 v2 v3 v4:=⟨rfl,by decide,fun j f h=>by
    match j,h with
    | 0,h=>simp at h;subst h;exact⟨v1,rfl,rfl,om,om⟩
    | j+1,h=>simp at h⟩
   refine (kR hP @abU (@jD _ false false false _) wp hd LV ok).mono ?_;exact fun _ _ h=>h
 . subst ho
   refine⟨107,253,true,false,false,0,fun w mk K=>se K,fun _=>by kernel_rfl,fun _ _=>by kernel_rfl,fun w=>afi _ _ _ _ _ _ _ _ w,fun w hP LV=> ?_⟩
   have wp:nf [1,2] [v1,v2] 4 v1 v2 v3 v4:=⟨rfl,by decide,fun j f h=>by
    match j,h with
    | 0,h=>simp at h;subst h;exact⟨v1,rfl,rfl,om,om⟩
    | 1,h=>simp at h;subst h;exact⟨v2,rfl,rfl,om,om⟩
    | j+2,h=>simp at h⟩
   refine (kR hP @abT (@jD _ true false false _) wp hd LV ok).mono ?_;exact fun _ _ h=>h
 . subst ho
   have fk:1<=v3/\v3<=1000:=fk;refine⟨108,256,false,true,false,0,fun w mk K=>rY K,fun _=>by kernel_rfl,fun _ _=>by kernel_rfl,fun w=>afh _ _ _ _ _ _ _ _ w,fun w hP LV=> ?_⟩
   have wp:nf [1,3] [v1,v3] 5 v1 v2 v3 v4:=⟨rfl,by decide,fun j f h=>by
    match j,h with
    | 0,h=>simp at h;subst h;exact⟨v1,rfl,rfl,om,om⟩
    | 1,h=>simp at h;subst h;exact⟨v3,rfl,rfl,om,om⟩
    | j+2,h=>simp at h⟩
   refine (kR hP @abS (@jD _ false true false _) wp hd LV ok).mono ?_;exact fun _ _ h=>h
 . subst ho
   have fk:1<=v3/\v3<=1000:=fk;have fs:1<=v4/\v4<=1000:=fs;refine⟨109,259,false,true,true,(-1),fun w mk K=>rX K,fun _=>by kernel_rfl,fun _ _=>by kernel_rfl,fun w=>afg _ _ _ _ _ _ _ _ w,fun w hP LV=> ?_⟩
   have wp:nf [1,3,4] [v1,v3,v4] 6 v1 v2 v3 v4:=⟨rfl,by decide,fun j f h=>by
    match j,h with
    | 0,h=>simp at h;subst h;exact⟨v1,rfl,rfl,om,om⟩
    | 1,h=>simp at h;subst h;exact⟨v3,rfl,rfl,om,om⟩
    | 2,h=>simp at h;subst h;exact⟨v4,rfl,rfl,om,om⟩
    | j+3,h=>simp at h⟩
   refine (kR hP @abR (@jD _ false true true _) wp hd LV ok).mono ?_;exact fun _ _ h=>h
 . subst ho
   refine⟨110,262,false,false,false,4,fun w mk K=>rW K,fun _=>by kernel_rfl,fun _ _=>by kernel_rfl,fun w=>aff _ _ _ _ _ _ _ _ w,fun w hP LV=> ?_⟩
   have wp:nf [1] [v1] 7 v1 v2 v3 v4:=⟨rfl,by decide,fun j f h=>by
    match j,h with
    | 0,h=>simp at h;subst h;exact⟨v1,rfl,rfl,om,om⟩
    | j+1,h=>simp at h⟩
   refine (kR hP @abQ (@jD _ false false false _) wp hd LV ok).mono ?_;exact fun _ _ h=>h
end Go.Proofs.YtclgkofcooibfaaGreatDoor
