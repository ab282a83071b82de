/- Proved here: called with any costs, any entries and any number of a neighbour that can be read, milepostkeep.Mirrored returns true on every schedule, without a data race, and its arguments read afterwards as they read before. The row has its own conditions (the listed variable, a calm tape); none is added. The texts were made small by a program. -/
import Derived.ChangeMaps5
import Derived.ChangeSame
import Derived.ChangeSlices
import Derived.ChangeVars
import Derived.Conc.HoldsTime
import Derived.Conc.LeavingOf
import Derived.Deep.Strs
import Derived.LaidHandle
import Derived.LaidLaws
import Derived.Leaving
import Derived.Lib.SmallJoins
import Derived.OpenShut
import Derived.ProofKit
import Derived.SevenTiedAt
import Derived.SizedLaws
import Derived.Test.YtdnpeefnobjfaaaGreatDoorCards
import Derived.Test.YtdnpeefnobjfaaaGreatDoorRows
import Derived.Test.YtdnpeefnobjfaaaGreatDoorTie
import Derived.Test.YtdnpeefnobjfaaaGreatDoorK32
import Derived.Test.YtdnpeefnobjfaaaGreatDoorK46
import Derived.Test.YtdnpeefnobjfaaaGreatDoorK50
set_option maxRecDepth 100000
set_option maxHeartbeats 4000000
set_option linter.all false
section
namespace Go.Proofs.Each
open Go.Conc Go.Mir Go.RowKit Go.Proofs.q
def AV(R i):∀u∈fa R i,∀g,ak g u=u:=by
 intro u a g;simp only[fa,lP,a7H,a6K,cm,dP,or_false]at a;obtain⟨j,_,rfl|rfl⟩:=a
 .simp
 .unfold io;simp
theorem Fz{f}:∀b a o,(k9 a o b).map f=k9 (a.map f) o (b.map f)
 |[],a,o=>rfl
 |v::r,a,o=>by show(k9 (a.setIfInBounds o v) (o+1) r).map f=k9 ((a.map f).setIfInBounds o (f v)) (o+1) (r.map f);rw[Fz r,Array.map_setIfInBounds]
def a5x(n G g):(nU n G).map (ak g)=nU n G:=by
 unfold nU;rw[iM,iM];have:∀m,(Builtin.zeroCells (Value.agg #[.int .i64 0,.string ⟨#[]⟩]).cells m).map (ak g)=Builtin.zeroCells (Value.agg #[.int .i64 0,.string ⟨#[]⟩]).cells m:=λm=>by
  unfold Builtin.zeroCells;rw[a6P];refine lE λx _=>?_;have a:x%(Value.agg #[.int .i64 0,.string ⟨#[]⟩]).cells.size=0\/x%(Value.agg #[.int .i64 0,.string ⟨#[]⟩]).cells.size=1:=by have:(Value.agg #[.int .i64 0,.string ⟨#[]⟩]).cells.size=2:=rfl;rw[this];omega
  simp only[Function.comp];obtain h|h:=a<;>rw[h]<;>simp[Value.cells]
 rw[this,this];simp
theorem yo{np n a vals}(b:∀i,∀u∈vals i,∀g,ak g u=u)(g):∀j,(ic np n a vals j).map (ak g)=ic np n a vals j
 |0=>a5x _ _ g
 |j+1=>by show(k9 (ic np n a vals j) (j*np*2) (vals j)).map (ak g)=k9 (ic np n a vals j) (j*np*2) (vals j);rw[Fz,yo b g j,(List.map_congr_left λu c=>b j u c g).trans (List.map_id _)]
section
variable{T:Tables}{F:Array Func}
def XI(a:Mir.Twin T F F (λ_=>False)){f fn c}(b:F[f]?=some fn)(d:fn.body=some c)(args){k}(e:k=.normal\/k=.deferred):cJ T.globals.size (Frame.enter ⟨T,F⟩ f args k):=by have h:=sP a b d args;exact⟨h.items,h.defers,e,h.round,h.last,λc h=>by simp[Frame.enter]at h⟩
def Zl{f fn c}(d:F[f]?=some fn)(e:fn.body=some c){args a}(g)(b:a=args.map (ak g))(k):Frame.enter ⟨T,F⟩ f a k=aR g (Frame.enter ⟨T,F⟩ f args k):=by simp only[Frame.enter,aR,d,e,Option.map_some,i6,lH,cA,d7,cB,eB,kl];congr 1;rw[iM,<-b,a6R];simp[undef,b]
def YU(c:Mir.Twin T F F (λ_=>False))(cT:ib T F){Z K cs Stop fr fr2 gs e w n}(h:Mir.Reach ⟨T,F⟩ (aB ⟨T,F⟩) Stop fr gs w fr2 e n):(∃D a v i rcs,dS T Z K cs D a w v fr gs i rcs)->∃D a v i rcs,dS T Z K cs D a n v fr2 e i rcs:=by
 induction h with
 |refl=>exact λh=>h
 |step τ d H r I s=>
  rintro⟨D,a,v,i,rcs,R⟩;have t:=R.frame (v':=re v τ d) (aF _) (λb _=>rfl) rfl;obtain⟨u,f,v',y,rg,x,z,J,j,L,M,N,A⟩:=rY (main:=true) c c cT r t;obtain⟨l,g,rfl,B⟩|⟨q,o,k,m,fr2,e,C,p,E,_⟩:=A
  .exact s ⟨u,f,v',l,g,z,j,B⟩
  .exact E.1.elim
end
section
variable(K:Bool)(bx r n:Nat)(u:Nat->af)(L:List af)(cs:List ah)(x:af)
noncomputable def uF:aw:=aG Tryz.prog true 3 (an ((om K bx r n u L).finish x) [])
def O5:aS Tryz.prog true 3 (an ((om K bx r n u L).finish x) cs) (an (uF K bx r n u L x).frame cs):=by cases K<;>exact eN (λw=>by kernel_rfl) (by kernel_rfl) (by kernel_rfl)
def O6(c w):stepG Tryz.prog true (an (uF K bx r n u L x).frame (c::cs)) w=doReturn Tryz.prog true (uF K bx r n u L x).frame (c::cs) none x w:=by cases K<;>kernel_rfl
def O4:(uF K bx r n u L x).frame.kind=kd K:=by cases K<;>kernel_rfl
end
def MS{f fr}(h:∀b,fr.mode=.panicking b->∀e∈b,e.recovered=false):∀b,(aR f fr).mode=.panicking b->∀e∈b,e.recovered=false:=by
 intro b d e i;cases a:fr.mode with
 |panicking c=>simp only[aR,a,eB,FrameMode.panicking.injEq]at d;subst d;obtain⟨j,g,rfl⟩:=eS.1 i;exact h c a j g
 |_=>simp[aR,a,eB]at d
def Nl{D x b o}(a:D b)(τ d):(re (fL D x) τ d).cell? ⟨b,o,none⟩=x.cell? ⟨b,o,none⟩:=by
 have e:(re (fL D x) τ d).heap[b]?=(x.heap[b]?).map nm:=us a;unfold World.cell?;simp only[e];cases x.heap[b]? with
 |none=>rfl
 |some q=>cases q<;>rfl
def zI{Z K x w}(h:bK Z K x w){b}(d:Z b):x.heap[b]?=some (K b):=by
 obtain⟨c,e,f,a,_⟩|⟨_,a,_⟩|⟨_,a,_⟩:=h.old b d
 .rw[f];exact a
 .exact a
 .exact a
def Qj{Z Kf cs Od Stop}(bN:xR Stop):B5 Z Kf cs Od Stop:=by
 intro E k F fr fs rf O D p w v gs t q SB sl hk bO ae R h0 hL hP bP H ag;obtain⟨kb,rfl⟩:∃kb,k=kd kb:=by
  obtain rfl|rfl:=hk
  .exact⟨false,rfl⟩
  .exact⟨true,rfl⟩
 obtain⟨x,hF,R⟩:=R;have eG:=pQ (P:=PG) (show PG.funcs[106]?=some Gh.iD from Gh.func106) (show Gh.iD.body=some (Gh.iD.body.getD .skip)from rfl) E (kd kb);have eR:=pQ (P:=PR) (show PR.funcs[106]?=some Tryz.f106 from Tryz.func106) (show Tryz.f106.body=some (Tryz.f106.body.getD .skip)from rfl) F (kd kb);have nG:Gh.iD.ntmps=51:=Gh.ntmps106;have nR:Tryz.f106.ntmps=51:=Tryz.ntmps106;rw[nG]at eG;rw[nR]at eR;have ba:=aN R.heap 0;generalize (λb=> @ite _ (D b) (Classical.propDecidable _) (p b) (v.heap.size+0+b))=f0 at ba;have bb:∀f,aQ D p f->F.toList++List.replicate (51 - F.size) undef=(E.toList++List.replicate (51 - E.size) undef).map (ak f):=by intro f N;have:=ae f N;rw[this];simp[undef]
 obtain⟨u,L,hl⟩:=BG 51 0 (E.toList++List.replicate (51 - E.size) undef) (by simp;omega);rw[hl]at eG bb;have bR:sq u 0 51 L=u 0::u 1::sq u 2 49 L:=rfl;have bS:Frame.enter PG 106 E (kd kb)=pU kb u L (u 0) (u 1):=eG;have al:=bO;rw[bS]at al;obtain⟨n,Q,cap,Rs,u1,w1,hn,bo,bs,bd,ao,bT,bl,F1,r1⟩:=Mi bN (pA hF R.all) al;rw[bs,bd]at r1;have bw:Frame.enter PR 106 F (kd kb)=rH kb n (λi=>ak f0 (u i)) (L.map (ak f0)) (Q.map (aH f0)) Rs.length cap:=by rw[eR,bb f0 ba];simp only[bR,cA,xx];rw[bs,bd];simp only[bj,bk,iu,cA,d7,bg];rfl
 have bU:∀g,aQ D p g->Q.map (aH f0)=Q.map (aH g):=by intro g hg;have z:=bb f0 ba;rw[bb g hg]at z;simp only[bR,cA,f9]at z;have C:=z.2.1;rw[bd]at C;simp only[bk,iu,cA,d7,bg,Value.agg.injEq,Array.mk.injEq,f9,Value.slice.injEq,and_true]at C;exact C.symm
 have ca:∀a,Q=some a->D a.block:=λa ha=>by refine(Aq R.heap (b:=a.block) (c:=f0 a.block) λg hg=>?_).1;have:=bU g hg;rw[ha]at this;simp only[Option.map_some,cw,aH,Addr.mk.injEq,and_true]at this;exact this
 have cb:w.heap.size=x.heap.size:=hF.size;have cc:(fL D x).heap.size=x.heap.size:=by simp[fL]
 have hJ:∀N0 r tb dc v0,v.heap.size<r/\v.heap.size<tb/\v.heap.size<dc/\r≠tb/\r≠dc/\tb≠dc->(∀c,c<v.heap.size->v0.heap[c]?=v.heap[c]?)->oo v0=oo v->na (gg n N0 r tb dc (v.heap.size+1) SB v0) D p x Q (Q.map (aH f0)) Rs.length cap (aV Rs.length) (fa Rs):=by
  intro N0 r tb dc v0 J W bA;refine⟨rfl,rfl,rfl,⟨J.1,J.2.1,J.2.2.1,J.2.2.2.1⟩,dh.mk R.heap.lt (λb l=>?_) R.heap.inj (λf N b l=>(W _ (R.heap.fO b l)).trans (R.heap.obj f N b l)) R.heap.ok,λb l=>⟨a6I (R.heap.fO b l),bP b l⟩,(congrArg Prod.fst bA).trans R.os,R.low,R.all,hF.thin,λg hg=>?_,λi T τ=>?_,λi=>AV Rs i⟩
  .have z:=R.heap.fO b l;have C:v0.heap[p b]?=some v.heap[p b]:=by rw[W _ z];exact eF z
   exact(bW.1 C).1
  .rw[bg,bU g hg]
  .refine(BJ.{1} (i:Int) Q cap Rs (re (fL D x) τ 0) (by omega) ao ?_).mono ?_
   .rcases bT with h|⟨b,bB,e,bn⟩
    .exact .inl h
    .refine .inr ⟨b,bB,e,λj hj=>?_⟩;have hD:=ca _ e;have A:∀o,(re (fL D x) τ 0).cell? ⟨b,o,none⟩=w.cell? ⟨b,o,none⟩:=λo=>by rw[Nl hD,hF.cell]
     simp only[A];exact bn j hj
   .rintro e w' ⟨y,rfl,bp,_⟩;have:(re (fL D x) τ 0).heap.size=x.heap.size:=cc;rw[this]at bp;exact bp
 rw[bw]at h0;obtain⟨N1,cd,v1,ce,t1,q1,cf,r,tb,dc,v0,s,u2,J,W,bA,ch,AC⟩:=Qk (K:=kb) (L:=L.map (ak f0)) (cs:=rf::O) (u:=λi=>ak f0 (u i)) hn H hJ sl h0 hL hP;have bX:∀c,c<v.heap.size->v1.heap[c]?=v.heap[c]? :=λc A=>(AC.hp.old c (a6I A)).trans (W c A);have aq:oo v1=oo v:=AC.hp.os.trans bA;have b0:r<v1.heap.size:=(bW.1 AC.hp.rb).1;have d4:v.heap.size<=v1.heap.size:=by have:=J.1;omega
 obtain⟨tc,U,b1⟩:=AC.hp.tb;have U:v1.heap[tb]?=some (.cells tc 46 (0,0)):=U;have b1:tc.size=n:=b1;have ar:∀i,i<n->∃y,tc[i]?=some y/\ml (gg n gs.size r tb dc (v.heap.size+1) SB v0) (aV Rs.length) (fa Rs i) (s.own i) v1 y:=λi T=>by obtain⟨ck,y,z,C,h3⟩:=AC.told i T;have z:v1.heap[tb]?=some (.cells ck 46 (0,0)):=z;rw[U]at z;cases z;exact⟨y,C,h3⟩
 let Sx:Nat->Prop:=λc=>(∃b,D b/\p b=c)\/c=tb\/∃S',iw Tryz.progTables.globals.size S' v1/\(∀c,S' c->(c<v.heap.size+1/\¬SB c)\/∃i,s.own i c)/\S' c;have bC:iw Tryz.progTables.globals.size (λc=> ∃b,D b/\p b=c) v1:=(Ib R.heap (λb o _ Y=>hF.thin b o Y)).keep λc A=>by obtain⟨b,l,e⟩:=A;exact bX c (e▸R.heap.fO b l)
 have b2:∀i,i<n->∀y,tc[i]?=some y->∀a m m',y=.slice (some a) m m'->Sx a.block:=λi T y hy a m m' e=>by obtain⟨y',z,C⟩:=ar i T;rw[hy]at z;cases z;obtain⟨_,_,_,S',h4,h5,h6⟩:=C;exact .inr (.inr ⟨S',h4,λc A=>(h5 c A).imp id λh=>⟨i,h⟩,h6 a m m' e⟩)
 have hS:iw Tryz.progTables.globals.size Sx v1:=by
  refine⟨λf T N c o A Y=>?_,λc o A Y=>?_,λc A=>?_⟩
  .rcases A with h|rfl|⟨S',z,C,h3⟩
   .exact bC.aZ f T (λc A=>N c (.inl A)) c o h Y
   .rw[U]at Y;cases Y;simp only[ct];rw[iF λy hy=>?_];obtain⟨i,cl,rfl⟩:=fI.1 hy;have hy:tc[i]?=some tc[i]:=eF cl;obtain⟨y',z,C⟩:=ar i (by omega);rw[hy]at z;cases z;obtain⟨a,m,m',e⟩:=Hc C;rw[e];cases a with
    |none=>simp
    |some a=>have:=N a.block (b2 i (by omega) _ hy a m m' e);simp[aH,this]
   .exact z.aZ f T (λc A=>N c (.inr (.inr ⟨S',z,C,A⟩))) c o h3 Y
  .rcases A with h|rfl|⟨S',z,C,h3⟩
   .exact bC.ok c o h Y
   .rw[U]at Y;cases Y;exact⟨trivial,rfl⟩
   .exact z.ok c o h3 Y
  .rcases A with h|rfl|⟨S',z,C,h3⟩
   .exact bC.lt c h
   .exact(bW.1 U).1
   .exact z.lt c h3
 have br:∀c,Sx c->¬(SB c\/c=r):=by
  intro c A hs;have d5:=J.1;obtain⟨b,l,rfl⟩|rfl|⟨S',z,C,h3⟩:=A
  .rcases hs with h|h
   .exact bP b l h
   .have:=R.heap.fO b l;omega
  .rcases hs with h|h
   .have:=H _ h;have:=J.2.1;omega
   .exact J.2.2.2.1 h.symm
  .rcases C c h3 with⟨h4,h5⟩|⟨i,h4⟩
   .rcases hs with h|h
    .exact h5 h
    .omega
   .have h4:s.cls c=.wk i:=h4;obtain h|h:=hs
    .have:=AC.cls.old c (a6I (H c h));rw[h4]at this;cases this
    .have h5:s.cls r=.sh:=AC.cls.sh.1;rw[h]at h4;rw[h4]at h5;cases h5
 have au:∀i,i<n->tc[i]?=some (tc.getD i undef)/\ml (gg n gs.size r tb dc (v.heap.size+1) SB v0) (aV Rs.length) (fa Rs i) (s.own i) v1 (tc.getD i undef):=λi T=>by
  obtain⟨y,z,C⟩:=ar i T;have:tc.getD i undef=y:=by simp[fR,z]
  rw[this];exact⟨z,C⟩
 obtain⟨N2,co,cr,t2,q2,g2,v2,d2,cu,d0,b3,cv,cx,cy,_,b4,xr,rb,τ,d,cN,ab,d6,av⟩:=MV (S:=Sx) (V:=v1) (n:=n) (np:=aV Rs.length) (tb:=tb) (base:=v.heap.size+1) (tv:=λi=>tc.getD i undef) (vals:=fa Rs) (SB2:=λc=>SB c\/c=r) (f:=om kb v.heap.size r n u2 (L.map (ak f0))) (cs:=rf::O) hn (Hi bo) hS (λb l=>.inl ⟨b,(R.low b l).1,(R.low b l).2⟩) (.inr (.inl rfl)) br (λc A=>by
   obtain h|rfl:=A
   .have:=H c h;omega
   .exact b0) (λi T=>by
   unfold World.cell?;rw[U];exact(au i T).1) (λi T=>(au i T).2.1) (λi T=>b2 i T _ (au i T).1) (λi _=>Hb Rs i) (λg cp=>yo (λi=>AV Rs i) g n) cd t1 q1 ce v1.drawn ch AC.iV (dO.of AC.aj) AC.aj.hears
 have cS:=(R.aZ f0 ba).1;have G3:iv Tryz.prog (λc=>SB c\/c=r) (an ((om kb v.heap.size r n u2 (L.map (ak f0))).finish xr) (rf::O)) v2 0 λg' v' d'=>g'=an (od kb rf xr) O/\d'=0/\∃c,v'=v2.at c:=by refine gV (O5 kb v.heap.size r n u2 (L.map (ak f0)) (rf::O) xr) λc1=>eZ rfl λc2=>⟨_,_,#[],(O6 kb v.heap.size r n u2 (L.map (ak f0)) O xr rf _).trans (Hz kb (O4 kb v.heap.size r n u2 (L.map (ak f0)) xr) (by rw[cS];exact MS R.ok.calm)),aF _,by simp,sr λc3=>⟨rfl,rfl,c3,rfl⟩⟩
 subst b4;rw[cN]at b3;obtain⟨N3,c0,c4,t3,q3,g3,v3,d3,c5,d1,b5,c6,c7,c8,_,c9,b6,c3,df⟩:=G3 co t2 q2 cr v2.drawn b3 cv cx cy;subst b6 df;rw[c9]at b5;have b7:fP w1 Q Rs:=by
  obtain h|⟨b,bB,e,bn⟩:=bT
  .exact .inl h
  .by_cases hz:0<Rs.length
   .have dl:=qz bn hz;refine .inr ⟨b,bB,e,λj hj=>?_⟩;have A:∀o,w1.cell? ⟨b,o,none⟩=w.cell? ⟨b,o,none⟩:=λo=>bl.cell (a:=⟨b,o,none⟩) dl;simp only[A];exact bn j hj
   .exact .inl (fq (by omega))
 obtain⟨xg,B,w2,hB,aP,dr,r2⟩:=RE bN R.ok.calm hn bo ao b7 F1 τ d;have X:Mir.Reach PG (aB PG) Stop (Frame.enter PG 106 E (kd kb)) (fr::fs) w (od kb fr xg) fs w2:=by rw[bS,bs,bd];exact r1.trans r2
 have bF:dM w.heap.size w w2:=bl.trans (dr.mono bl.size);have ea:w.heap.size<=B:=dF bl.size hB;obtain⟨_,_,_,_,_,x2,ad,R2⟩:=YU (Z:=Z) (K:=Kf) g9.{0} cT.{0} X ⟨D,p,v,Frame.enter PG 106 F (kd kb),rf::O,x,hF,R.heap,R.os,R.low,R.all,XI g9.{0} (show Gh.funcs.{0}[106]?=some Gh.iD from Gh.func106) (show Gh.iD.body=some (Gh.iD.body.getD .skip)from rfl) E hk,λy hy=>by
   obtain rfl|hy:=cm.1 hy
   .exact R.ok
   .exact R.cF y hy,λf N=>⟨Zl (show Gh.funcs.{0}[106]?=some Gh.iD from Gh.func106) (show Gh.iD.body=some (Gh.iD.body.getD .skip)from rfl) f (ae f N) _,by
   have:=R.aZ f N;simp only[cA,fy,f9];exact this⟩⟩
 have ds:∀b,b<w.heap.size->x2.heap[b]?=x.heap[b]? :=λb l=>by
  by_cases hz:Z b
  .rw[zI hF hz,zI ad hz]
  .rw[<-ad.other b hz,bF.block b l,hF.other b hz]
 have dy: ¬Z B:=λhz=>by have:=(bW.1 (zI hF hz)).1;omega
 have I:∀b,D b->b≠B:=λb l h=>by have:=R.heap.lt b l;omega
 have b8:∀c,c<v.heap.size->(v2.at c3).heap[c]?=v.heap[c]? :=λc A=>(ab.block c (by omega)).trans (bX c A);refine⟨N1+(N2+N3),c0,v2.at c3,c4,t3,q3,λc=>SB c\/c=r,λb=>D b\/(0<n*aV Rs.length/\b=B),λb=>if b=B then rb else p b,od kb fr xg,fs,w2,o9 cf (o9 cu c5),X,⟨⟨od kb rf xr,O,b5,x2,ad,?_⟩,c6,c7.aj c8,?_,?_,?_⟩⟩
 .have b9:∀f,aQ (λb=>D b\/(0<n*aV Rs.length/\b=B)) (λb=>if b=B then rb else p b) f->aQ D p f:=λf N=>⟨λb l=>by rw[N.on b (.inl l),if_neg (I b l)],N.inj⟩;have M:0<n*aV Rs.length->x2.heap[B]?=some (.cells (ic (aV Rs.length) n (pD n (aV Rs.length) τ d) (fa Rs) n) 64)/\(v2.at c3).heap[rb]?=some (.cells (ic (aV Rs.length) n (pD n (aV Rs.length) τ d) (fa Rs) n) 64):=λhp=>by
   obtain⟨h,_⟩|⟨_,_,z⟩:=aP
   .omega
   .rcases av with⟨h,_⟩|⟨_,_,C⟩
    .omega
    .exact⟨by rw[<-ad.other B dy];exact z,C⟩
  refine⟨dh.mk (λb l=>?_) (λb l=>?_) (λa b ha l e=>?_) (λf N b l=>?_) λb o _ Y=>R2.all b o Y,?_,λb l=>?_,R2.all,?_,R.cF,λf N=>?_⟩
  .rcases l with l|⟨hp,rfl⟩
   .have z:=R.heap.lt b l;have C:=ad.size;have h3:=bF.size;omega
   .exact(bW.1 (M hp).1).1
  .rcases l with l|⟨hp,rfl⟩
   .have z:=R.heap.fO b l;have C:=ab.size;rw[if_neg (I b l)];show p b<v2.heap.size;omega
   .rw[if_pos rfl];exact(bW.1 (M hp).2).1
  .rcases ha with ha|⟨hp,rfl⟩<;>obtain l|⟨eb,rfl⟩:=l
   .rw[if_neg (I a ha),if_neg (I b l)]at e;exact R.heap.inj a b ha l e
   .rw[if_neg (I a ha),if_pos rfl]at e;have:=R.heap.fO a ha;omega
   .rw[if_neg (I b l),if_pos rfl]at e;have:=R.heap.fO b l;omega
   .rfl
  .rcases l with l|⟨hp,rfl⟩
   .rw[if_neg (I b l),b8 _ (R.heap.fO b l),ds b (by rw[cb];exact R.heap.lt b l)];exact R.heap.obj f (b9 f N) b l
   .rw[if_pos rfl,(M hp).1,(M hp).2];simp only[Option.map_some,ct,yo (λi=>AV Rs i) f n]
  .show v2.os=x2.os;have e1:v2.os=v.os:=congrArg Prod.fst (ab.os.trans aq);have e2:w2.os=w.os:=congrArg Prod.fst bF.os;rw[e1,R.os,<-hF.os,<-e2,ad.os]
  .obtain⟨z,C⟩:=R.low b l;exact⟨.inl z,by rw[if_neg (I b z)];exact C⟩
  .cases kb with
   |true=>exact R.ok
   |false=>exact R.ok.finish _
  .have dB:=b9 f N;obtain⟨e1,e2⟩:=R.aZ f dB;refine⟨?_,e2⟩;have dR:xr=ak f xg:=by
    obtain⟨h,bG⟩|⟨hp,bG,_⟩:=aP
    .rcases av with⟨_,bI⟩|⟨h',_⟩
     .rw[bG,bI];simp
     .omega
    .rcases av with⟨h',_⟩|⟨_,bI,_⟩
     .omega
     .rw[bG,bI];have dT:f B=rb:=by rw[N.on B (.inr ⟨hp,rfl⟩),if_pos rfl]
      simp[aH,dT]
   cases kb with
   |true=>exact e1
   |false=>show rf.finish xr=aR f (fr.finish xg);rw[e1,dR];exact oE f fr xg
 .rintro b (l|⟨hp,rfl⟩) hs
  .rw[if_neg (I b l)]at hs;exact br _ (.inl ⟨b,l,rfl⟩) hs
  .rw[if_pos rfl]at hs;obtain h|h:=hs
   .have:=H _ h;omega
   .omega
 .rintro c (A|rfl)
  .have:=H c A;have:=ab.size;show c<v2.heap.size;omega
  .have:=ab.size;show c<v2.heap.size;omega
 .refine⟨λb l=>?_,λc A=>⟨.inl (ag.2.1 c A).1,(b8 c (H c (ag.2.1 c A).1)).trans (ag.2.1 c A).2⟩,(ab.os.trans aq).trans ag.2.2⟩;obtain⟨z,C⟩:=ag.1 b l;exact⟨.inl z,by show(if b=B then rb else p b)=_;rw[if_neg (I b z)];exact C⟩
noncomputable abbrev PH:ay:=⟨Tryz.progTables,Gh.funcs.{1}⟩
def k8:ah:={(default:ah)with fn:=6,kind:=.normal}
def Qu(args):Frame.enter PH 6 args .normal=k8.at ⟨args++Array.replicate (234 - args.size) undef,[]⟩ [.code (Tryz.f6.body.getD .skip)]:=by have a:PH.funcs[6]?=some Tryz.f6:=Gh.func6;have b:Tryz.f6.ntmps=234:=Tryz.ntmps6;simp only[Frame.enter,Frame.at,a,k8,Option.map_some,i6,lH,b];rfl
def Qv(args):Frame.enter PR 6 args .normal=Frame.enter PH 6 args .normal:=by have b:PH.funcs[6]?=some Tryz.f6:=Gh.func6;have a:PR.funcs[6]?=some Tryz.f6:=Tryz.func6;simp only[Frame.enter,b,a]
def XJ(args):cJ Tryz.progTables.globals.size (Frame.enter PH 6 args .normal):=sP g9.{1} (show Gh.funcs.{1}[6]?=some Tryz.f6 from Gh.func6) (show Tryz.f6.body=some (Tryz.f6.body.getD .skip)from rfl) args
def Ff{G}(W a):(gF G W).cell? a=W.cell? a:=by
 unfold World.cell?;rw[vN];cases h:W.heap[a.block]? with
 |none=>rfl
 |some o=>
  by_cases b:eM G o
  .simp[b]
  .simp only[Option.map_some,b,if_false,dead];have:=Fg b;cases o<;>first|exact this.elim|rfl
def a1g:cK (λ_=>False)=λ_=>False:=by funext l;cases l<;>rfl
def YE{ac f cc ce lc E by_ W}(s:lc.length<=100000000000000)(u:∀x∈lc, -9223372036854775808<=x/\x<9223372036854775808)(w: -9223372036854775808<=by_)(y:by_<9223372036854775808)(z:jm W ac lc)(A:ig E)(B:je W f E):∃n a c v t fr,runNT PR n (crowd #[an (Frame.enter PR 6 #[.slice ac lc.length cc,.slice f E.length ce,.int .i64 by_] .normal) []] W none) #[]=(.next (crowd #[an fr []] v none),t)/\cL True (qb Tryz.progTables.globals.size W) Tryz.progTables.globals.size (λ_=>True) id c v/\oo v=oo W/\Past (cK λ_=>False) v.heap.size t/\Leavers PR t #[an fr []] (λ_=>0)/\((B8 (gF Tryz.progTables.globals.size W) lc E by_ a c/\fr=k8.at a [.code kR])\/(B9 (gF Tryz.progTables.globals.size W) a c/\∃d,fr={k8.at a d with mode:=.returning})):=by
 have l:jm (gF Tryz.progTables.globals.size W) ac lc:=by
  obtain h|⟨b,j,i,g⟩:=z
  .exact .inl h
  .exact .inr ⟨b,j,i,λk C=>(Ff W _).trans (g k C)⟩
 have m:je (gF Tryz.progTables.globals.size W) f E:=by
  obtain h|⟨b,j,i,g⟩:=B
  .exact .inl h
  .exact .inr ⟨b,j,i,λk C=>by simpa only[Ff]using g k C⟩
 have o:∀fr c,Steps PH (lone (Frame.enter PH 6 #[.slice ac lc.length cc,.slice f E.length ce,.int .i64 by_] .normal) [aB PH] (gF Tryz.progTables.globals.size W)) (lone fr [aB PH] c)->∃n v t,runNT PR n (crowd #[an (Frame.enter PR 6 #[.slice ac lc.length cc,.slice f E.length ce,.int .i64 by_] .normal) []] W none) #[]=(.next (crowd #[an fr []] v none),t)/\cL True (qb Tryz.progTables.globals.size W) Tryz.progTables.globals.size (λ_=>True) id c v/\oo v=oo W/\Past (cK λ_=>False) v.heap.size t/\Leavers PR t #[an fr []] (λ_=>0):=by
  intro fr c ⟨n,J⟩;have D:Past (cK λ_=>False) W.heap.size #[]:=by rw[a1g];exact past_nil.mono (m8 _)
  obtain⟨v,K,t,i,g,_,_,p,L,M⟩:=Ut lB.{1} g9.{1} sO.{1} Ab (cs:=[]) n (Frame.enter PH 6 #[.slice ac lc.length cc,.slice f E.length ce,.int .i64 by_] .normal) [] (gF Tryz.progTables.globals.size W) W _ [] #[] (Us (XJ _) λx N=>by cases N) rfl rfl D (leavers_one _ _) J;have e:K=fr:=by
   have:=(g.aZ id pz).1
   rwa [qo]at this
  subst e;rw[Qv];exact⟨n,v,t,i,g.heap,M,p,L⟩
 have q:=U4.{1} ac f cc ce lc E by_ (gF Tryz.progTables.globals.size W) s u w y l A m k8 [] [aB PH];have I:=Qu #[.slice ac lc.length cc,.slice f E.length ce,.int .i64 by_];obtain⟨a,c,⟨O,r⟩|⟨P,d,r⟩⟩:=q
 .rw[show(⟨#[.slice ac lc.length cc,.slice f E.length ce,.int .i64 by_]++Array.replicate 231 undef,[]⟩:Act)=⟨#[.slice ac lc.length cc,.slice f E.length ce,.int .i64 by_]++Array.replicate (234 - 3) undef,[]⟩from rfl]at r;obtain⟨n,v,t,i,g,F,H,p⟩:=o _ c (by rw[I];exact r);exact⟨n,a,c,v,t,_,i,g,F,H,p,.inl ⟨O,rfl⟩⟩
 .obtain⟨n,v,t,i,g,F,H,p⟩:=o _ c (by rw[I];exact r);exact⟨n,a,c,v,t,_,i,g,F,H,p,.inr ⟨P,d,rfl⟩⟩
def MQ:px PR:=by
 intro f a;simp only[iQ,List.contains_cons,List.contains_nil,a8c,a6V,beq_iff_eq]at a;obtain rfl|rfl|rfl|rfl|rfl|rfl:=a
 .exact⟨_,Tryz.func14,by kernel_rfl,by kernel_rfl⟩
 .exact⟨_,Tryz.func17,by kernel_rfl,by kernel_rfl⟩
 .exact⟨_,Tryz.func19,by kernel_rfl,by kernel_rfl⟩
 .exact⟨_,Tryz.func20,by kernel_rfl,by kernel_rfl⟩
 .exact⟨_,Tryz.func21,by kernel_rfl,by kernel_rfl⟩
 .exact⟨_,Tryz.func22,by kernel_rfl,by kernel_rfl⟩
def MR:∀q,iQ.contains q=true->¬kw q:=by intro q a;simp only[iQ,List.contains_cons,List.contains_nil,a8c,a6V,beq_iff_eq]at a;obtain rfl|rfl|rfl|rfl|rfl|rfl:=a<;>simp[kw]
theorem a1q:lW tD kR=true:=by kernel_rfl
theorem XN:cV Tryz.progTables.globals.size kR=true:=by kernel_rfl
def UV(a):(oO a).size=a.size:=by simp[oO]
def UU{a i}(h:tD.contains i=false):a[i]?=(oO a)[i]? :=by simp only[oO,a6v,h];cases a[i]? <;>simp
def US{a}(c:a.defers=[]):Go.Mir.DF tD (k8.at ⟨oO a.tmps,[]⟩ [.code kR]) (k8.at a [.code kR]):=by obtain⟨d,e⟩:=a;obtain rfl:e=[]:=c;refine⟨rfl,(UV d).symm,λi b=>UU b,λi b=>?_,rfl,rfl,rfl⟩;simp only[Frame.at,ft]at b;subst b;exact a1q
def I3(b):cJ Tryz.progTables.globals.size (k8.at ⟨b,[]⟩ [.code kR]):=by refine⟨λi a=>?_,λd e=>by simp[Frame.at]at e,.inl rfl,λh=>by simp[Frame.at]at h,λh=>by simp[Frame.at]at h,λc h=>by simp[Frame.at]at h⟩;simp only[Frame.at,ft]at a;subst a;exact XN
def FD{g R cap m n s f}(a:f g=g)(b:f R=R):(qc (.slice (some ⟨g,0,none⟩) m cap) (.pointer (some ⟨R,0,none⟩)) (.int .i64 n) (.string s)).map (ak f)=qc (.slice (some ⟨g,0,none⟩) m cap) (.pointer (some ⟨R,0,none⟩)) (.int .i64 n) (.string s):=by simp[qc,aH,a,b,undef]
def I4{a f}(h:a.map (ak f)=a):k8.at ⟨a,[]⟩ [.code kR]=aR f (k8.at ⟨a,[]⟩ [.code kR]):=by simp only[Frame.at,aR,h,cA,d7,cB,eB,kl]
def a0A{G g v}(h:∀c,g c->∃a t,v.heap[c]?=some (.cells a t)/\∀f,(∀c,g c->f c=c)->a.map (ak f)=a):iw G g v:=by
 refine⟨λf _ i c o b d=>?_,λc o b d=>?_,λc b=>?_⟩
 .obtain⟨a,t,e,j⟩:=h c b;rw[e]at d;cases d;simp only[ct,j f i]
 .obtain⟨a,t,e,_⟩:=h c b;rw[e]at d;cases d;exact⟨trivial,rfl⟩
 .obtain⟨a,t,e,_⟩:=h c b;exact(bW.1 e).1
def Fp{cs:Array af}(h:∀x∈cs,∃i,x=Value.int .i64 i)(f):cs.map (ak f)=cs:=iF λx a=>by obtain⟨i,rfl⟩:=h x a;simp
def U3{ac ae cc ce s E by_ W}(bn:s.length<=100000000000000)(bo:∀x∈s, -9223372036854775808<=x/\x<9223372036854775808)(bp: -9223372036854775808<=by_)(br:by_<9223372036854775808)(bs:jm W ac s)(X:ig E)(bw:je W ae E){tA tB tC:aA}(bx:W.heap[0]?=some (.cells #[.iface tA (.agg #[.pointer (some ⟨1,tB,none⟩)])] tC)){K}(Y:W.heap[1]?=some (.cells ((Array.range K).map λt=>.int .u64 (Int.ofNat t)) 0)):Mir.Ends PR (λx v'=>x=.bool true/\(∀b,b<W.heap.size->v'.heap[b]?=W.heap[b]?)/\oo v'=oo W) (crowd #[an (Frame.enter PR 6 #[.slice ac s.length cc,.slice ae E.length ce,.int .i64 by_] .normal) []] W none) #[]:=by
 obtain⟨n,a,w',v,t,fr,Z,hH,ab,hP,hL,u⟩:=YE (cc:=cc) (ce:=ce) bn bo bp br bs X bw;refine Mir.Ends.many Z ?_;have hW:(gF Tryz.progTables.globals.size W).heap.size=W.heap.size:=by simp[gF]
 have j:∀{b:Nat} {c:Array af} {t:aA},w'.heap[b]?=some (.cells c t)->v.heap[b]?=some (.cells c t):=fun {b c t} h=>by have:=hH.live id pz (b:=b) trivial (by rw[h];simp[dead]);rw[h]at this;simpa[qp]using this
 have H:Below (gF Tryz.progTables.globals.size W).heap.size (gF Tryz.progTables.globals.size W) w'->∀b,b<W.heap.size->v.heap[b]?=W.heap[b]? :=λh=>Ur hH λb y=>h.block b (by rw[hW];exact y);obtain⟨hN,rfl⟩|⟨⟨hd,h6,Q⟩,bO,rfl⟩:=u;rotate_left
 .exact Fw (f:=6) (k:=6) (fn:=Tryz.f6) Tryz.func6 Tryz.results6 (by kernel_rfl) rfl rfl hd rfl rfl hL hP λd=>⟨h6,H Q,ab⟩
 obtain⟨hx,hd,R,V,g,bA,cv,rv,m,bR,z,bB,⟨xr,rfl⟩,I,ad,Q⟩:=hN;have l:=H Q;have ag:0<(eV s).length:=by rw[uv];omega
 rw[hW]at z I;have T:1<W.heap.size:=(bW.1 Y).1;obtain⟨q1,q2⟩:=z.aO;obtain⟨g1,L,al,rfl,ao,aq,bC⟩:=q2.resolve_left (by omega);obtain⟨bS,ar,bF⟩:=bB _ _ _ rfl;obtain⟨bT,au,bG⟩:=ad _ _ _ rfl;have M:(xr=none)\/∃A t,xr=some ⟨A,0,none⟩/\W.heap.size<=A/\w'.heap[A]?=some (.cells #[] t):=by
  obtain⟨h,_⟩|⟨A,c2,U,N,O,h3,_,_,h4,_⟩:=z.rows.2
  .cases h;exact .inl rfl
  .cases N;have:U=#[]:=a7s (by simpa using h4);subst this;exact .inr ⟨A,_,rfl,O,h3⟩
 have bU:W.heap.size<=g:=by obtain⟨_,_,e,h,_⟩:=Fo I ag;cases e;exact h
 let q:Nat->Prop:=λb=>b=0\/b=1\/b=R\/b=V\/b=g1\/b=g\/∃x,xr=some x/\b=x.block;have sR:q R:=.inr (.inr (.inl rfl));have sV:q V:=.inr (.inr (.inr (.inl rfl)));have s1:q g1:=.inr (.inr (.inr (.inr (.inl rfl))));have sg:q g:=.inr (.inr (.inr (.inr (.inr (.inl rfl)))));have hS:iw Tryz.progTables.globals.size q v:=by
  refine a0A λc u=>?_;obtain rfl|rfl|rfl|rfl|rfl|rfl|⟨x,p,rfl⟩:=u
  .exact⟨_,_,(l 0 (by omega)).trans bx,λf r=>by simp[aH,r 1 (.inr (.inl rfl))]⟩
  .refine⟨_,_,(l 1 T).trans Y,λf r=>iF λx hx=>?_⟩;obtain⟨i,_,rfl⟩:=l9.1 hx;simp
  .exact⟨_,_,j z.blk,λf r=>by simp[aH,r V sV,r g1 s1]⟩
  .refine⟨_,_,j z.view,λf r=>?_⟩;cases xr with
   |none=>simp
   |some x=>simp[aH,r x.block (.inr (.inr (.inr (.inr (.inr (.inr ⟨x,rfl,rfl⟩))))))]
  .exact⟨_,_,j ar,λf _=>Fp bF f⟩
  .exact⟨_,_,j au,λf _=>Fp bG f⟩
  .rcases M with h|⟨A,t2,h,_,O⟩
   .rw[h]at p;cases p
   .rw[h]at p;cases p;exact⟨_,_,j O,λf _=>by simp⟩
 have P:∀b,b<Tryz.progTables.globals.size+1->q b:=λb y=>by
  have:Tryz.progTables.globals.size=1:=by kernel_rfl
  rw[this]at y;obtain _|_|b:=b
  .exact .inl rfl
  .exact .inr (.inl rfl)
  .omega
 have bX:∀b,q b->b<W.heap.size->b=0\/b=1:=λb y hl=>by
  have b0:=z.new.1;have b1:=z.new.2;obtain h|h|rfl|rfl|rfl|rfl|⟨x,p,rfl⟩:=y
  .exact .inl h
  .exact .inr h
  .omega
  .omega
  .omega
  .omega
  .rcases M with h|⟨A,t2,h,O,_⟩
   .rw[h]at p;cases p
   .rw[h]at p;cases p;have hl:A<W.heap.size:=hl;omega
 have B:∀τ c,q c->(re (cZ q v) τ 0).heap[c]?=v.heap[c]? :=λτ c u=>gK u;have bI:∀τ,ed (re (cZ q v) τ 0) W.heap.size R (eV s) [] V (.slice (some ⟨g1,0,none⟩) (eV s).length L) (.slice xr 0 0):=λτ=>by refine⟨(B τ R sR).trans (j z.blk),(B τ V sV).trans (j z.view),⟨q1,.inr ⟨g1,L,al,rfl,ao,(B τ g1 s1).trans (j aq),bC⟩⟩,?_,z.new⟩;obtain⟨r1,r2⟩:=z.rows;refine⟨r1,r2.imp id ?_⟩;rintro⟨A,c2,U,N,O,h3,h4⟩;cases N;exact⟨A,_,U,rfl,O,(B τ A (.inr (.inr (.inr (.inr (.inr (.inr ⟨_,rfl,rfl⟩))))))).trans (j h3),h4⟩
 have av:=th by_ (eV s).length (by omega);obtain⟨k,hk⟩:∃k:Nat,im by_ (eV s).length=(k:Int):=⟨(im by_ (eV s).length).toNat,(Int.toNat_of_nonneg av.1).symm⟩;rw[hk]at m av;have aP:=QX (f:=6) (k:=6) (b:=k8) (a:=⟨oO a.tmps,[]⟩) (cd:=kR) (Rr:=λx w2=>x=.bool true/\∀b,b<W.heap.size->w2.heap[b]?=(cZ q v).heap[b]?) g9.{0} sO.{0} hS P ⟨rfl,rfl⟩ (I3 _) (λf r=>I4 (by rw[m];exact FD (r.on g sg) (r.on R sR))) (λx w τ d h=>h) (λτ=>by
  rw[m];refine wp_mono (U5 R V g bA W.heap.size k (eV s) _ _ E (re (cZ q v) τ 0) (bI τ) (C1 s) (by rw[uv];omega) (by omega) X hx) ?_;rintro e a2 w2 ⟨rfl,N,O,h3⟩;exact⟨rfl,N,O,λb y=>h3.block b y⟩)
 refine NR (f:=6) (k:=6) (fn:=Tryz.f6) (S:=tD) (J:=λc=>c<W.heap.size/\¬q c) lB.{0} g9.{0} cT.{0} MQ MR (λcs Od Stop ba=>MU ba (Qj ba)) Tryz.func6 Tryz.results6 (by kernel_rfl) (by kernel_rfl) hS P (US hd) (I3 _) (λf r=>I4 (by rw[m];exact FD (r.on g sg) (r.on R sR))) hP hL aP (λc u=>⟨?_,u.2⟩) ?_
 .have:v.heap[c]?=some W.heap[c]:=(l c u.1).trans (eF u.1);exact(bW.1 this).1
 .intro x x' w2 v2 D bP bb bd bl hD bN hJ;have C:=aN bd 0;refine⟨by rw[bN _ C,bb.1];simp,λb y=>?_,bl.trans ab⟩;by_cases F:q b
  .obtain⟨d1,d2⟩:=hD b F;have N:=bd.obj _ C b d1;rw[d2,bb.2 b y,gK F]at N;rw[N,<-l b y];cases hv:v.heap[b]? with
   |none=>rfl
   |some o=>rw[Option.map_some,hS.aZ _ C.inj (λc u=>by rw[C.on c (hD c u).1,(hD c u).2]) b o F hv]
  .rw[hJ b ⟨y,F⟩];exact l b y
end Go.Proofs.Each
end
section
namespace Go.Proofs.YtdnpeefnobjfaaaGreatDoor
open Go.ChangeShapes Go.WideShapes Go.ChangeAt Go.RowKit Go.ChangeMaps Go.Conc Go.Proofs.q
theorem UM:ownKnob Tryz.prog.godebug=none:=by kernel_rfl
theorem Tryz.Fv:laidOutB Tryz.prog=true:=by kernel_rfl
theorem Tryz.M3:Tryz.prog.cellsOf 3=1:=by kernel_rfl
theorem Tryz.MN:Tryz.prog.bytesOf 3=8:=by kernel_rfl
theorem Tryz.CF:Tryz.prog.cellsOf 42=4:=by kernel_rfl
theorem Tryz.M0:Tryz.prog.cellsOf 32=2:=by kernel_rfl
theorem Tryz.CE:Tryz.prog.cellsOf 3=1:=by kernel_rfl
theorem Tryz.MZ:Tryz.prog.cellsOf 30=1:=by kernel_rfl
section
variable{H:Type}{enc:aA×af->H}
def a3n{C:Checked}{os:Os}{f:bc}{fn:Func}{s:ChangeSpec}{c:List PathCond}{b:Bool}{X:aa->Array af->Prop}(d:aa)(args:Array af)(e:Nat)(j:d.os=os)(l:(d.forCall (λ_ _=>0) ⟨#[],args,[]⟩).variablesB C.prog=true)(m:((d.forCall (λ_ _=>0) ⟨#[],args,[]⟩).heap.toList.drop C.prog.globals.size).take ((begin C.prog (λ_ _=>0) default).world.heap.size - C.prog.globals.size)=(begin C.prog (λ_ _=>0) default).world.heap.toList.drop C.prog.globals.size)(g:Input.okWideB C.prog (d.forCall (λ_ _=>0) ⟨#[],args,[]⟩) f ⟨#[],args,[]⟩=true)(h:s.preB enc C.prog fn c b (d.forCall (λ_ _=>0) ⟨#[],args,[]⟩).memory args e=true)(k:s.sizedB enc C.prog fn b (d.forCall (λ_ _=>0) ⟨#[],args,[]⟩).memory args e=true)(n:X (d.forCall (λ_ _=>0) ⟨#[],args,[]⟩).memory args):∃(w:aa) (a:Tape) (i:Input),w.os=os/\(w.forCall a i).Shaped C.prog/\i.vars=[]/\Input.okWide C.prog (w.forCall a i) .any w.heap.size f i/\((s.pre enc C.prog fn c b (w.forCall a i).memory i.args/\X (w.forCall a i).memory i.args)/\sizedMet enc C.prog fn (OpenSpec.ofChange s) b (w.forCall a i).memory i.args)/\({calm:=true}:Assume).holds C.prog (lone (Frame.enter C.prog f i.args .normal) [] (w.forCall a i)):=
 ⟨d,λ_ _=>0,⟨#[],args,[]⟩,j,World.shaped_of_B l m,(Input.okWide_of_okWideB (base:=0) g).1,(Input.okWide_of_okWideB g).2,⟨⟨ChangeSpec.pre_of_preB h,n⟩,sizedMet_of_sizedB k⟩,by
  simp only[Assume.holds];exact⟨by simp,λ_ _ _ _=>rfl,by simp,by simp,by simp⟩⟩
def Un{C:Checked}{os:Os}{f:bc}{fn:Func}{s:ChangeSpec}{F:Stop.Interp}{k:List PathCond}{b l g:Bool}{X:aa->Array af->Prop}(P:∀w w' a,w.heap=w'.heap->X w a->X w' a)(own:ownKnob C.prog.godebug=none)(m:os.Started)(E:C.prog.funcs[f]?=some fn)(n:∃(w:aa) (c:Tape) (i:Input),w.os=os/\(w.forCall c i).Shaped C.prog/\i.vars=[]/\Input.okWide C.prog (w.forCall c i) .any w.heap.size f i/\((s.pre enc C.prog fn k b (w.forCall c i).memory i.args/\X (w.forCall c i).memory i.args)/\sizedMet enc C.prog fn (OpenSpec.ofChange s) b (w.forCall c i).memory i.args)/\({calm:=true}:Assume).holds C.prog (lone (Frame.enter C.prog f i.args .normal) [] (w.forCall c i)))(q:∀(W:aa) (base:Nat) (a:Array af) (z A:List (DataW H)) (d:List MemPlace),(∀(j:Nat) t v,fn.params[j]?=some t->a[j]?=some v->Value.okWide C.prog W .any base t v)->DataW.Whole enc C.prog fn.params.toList s.vars b W a.toList z A d->(DataW.weightsEach C.prog (fn.params.toList++s.plain.varTypes C.prog) (z++A)).all (·<=reachBytes)=true->X W a->W.ShapedOpen C.prog->∃M h o w' B,runNT C.prog (M+1) (solo (G (Frame.enter C.prog f a .normal) []) W) #[]=(.ended o w',B)/\runN C.prog M (solo (G (Frame.enter C.prog f a .normal) []) W)=.next h/\step C.prog h=.ended o w'/\Conc.Good C.prog (λv N=>s.post enc C.prog fn b l g false W a v N/\N.os=W.os) h o w' B):ReturnsInLeavingWide {calm:=true} C os f .any (λw a=>(s.pre enc C.prog fn k b w a/\X w a)/\sizedMet enc C.prog fn (OpenSpec.ofChange s) b w a) ((OpenSpec.ofChange s).postWith enc C.prog fn F (outsideKept [.timePasses]) b l g):=by refine returnsInLeavingWide_of_good own m n ?_;intro w c i _ p _ I r D;obtain⟨_,_,_,J,u,_,_,_,_,x⟩:=I;have e:J=fn:=dk (u.symm.trans E);subst e;obtain⟨⟨⟨z,A,d,O,_⟩,Q⟩,R⟩:=r;have K:=DataW.Whole.of_heap (w':=w.forCall c i) (by rfl) O;obtain⟨M,h,o,w',B,S,T,U,V⟩:=q (w.forCall c i) w.heap.size i.args z A d x K (R.weights O) (P _ _ _ (by rfl) Q) p;refine⟨M,h,o,w',B,S,T,U,V.mono λv Y=>?_⟩;obtain⟨L,y⟩:=Y;refine postWith_blind (postWith_of_post ?_ ⟨0,by rw[y];rfl⟩);rw[<-y];exact L
end
def MT(i:Looks){p:Pinned}{s:OpenSpec}{c:OpenClaim}(g:Bool)(kinds:List LaidKind)(a:Bool)(b:Bool×String)(d:Bool)(n:c.holds p s)(o:c.wfByText s=true)(e:c.laidByTextAt i p kinds a)(k:c.start=.entering)(l:c.noBlocks=false/\c.again=false)(q:p.checked.prog.mainIs=some (b.1,b.2.toList))(u:(! b.1&&b.2.isEmpty&& ! d)=false)(v:∀f m,p.checked.prog.funcNamed c.func=some f->p.checked.prog.funcs[f]?=some m->d=p.checked.prog.looks []/\∀(j:Nat) t,m.params[j]?=some t->p.checked.prog.wantsStandIn t=false)(w:g=c.goesBy p.checked.prog):Claim7.holds p (.plain s) {stood:={row:=c,standIns:=[],harness:=b,looks:=d},kinds:=[],alts:=[],goes:=g,laidByText:=true,laidKinds:=kinds,laidTests:=a,laidLooks:=i}:=by
 have x:∀r:OpenClaim,Claim7.isSixth {stood:={row:=r,standIns:=[],harness:=b,looks:=d},kinds:=[]}=false:=λr=>by simpa[Claim7.isSixth]using u
 exact⟨Claim7.tied_new_at i kinds a (Claim7.new_of_sixth n b d k l q (x c) v) o,(λD y=>by cases y),e,(λh=>by cases h),w⟩
def T1(os:Os)(args:Array af):laidMetH Tryz.prog [("errors.errorType",Rows.laid_errors_errorType)] (({World.holding Tryz.prog os ⟨#[],#[],[]⟩with heap:=(World.holding Tryz.prog os ⟨#[],#[],[]⟩).heap.modify 0 fun| .cells _ t frozen=>.cells #[.iface 288 (.agg #[.pointer (some ⟨1,35,none⟩)])] t frozen|o=>o}:aa).forCall (λ_ _=>0) ⟨#[],args,[]⟩).memory:=
 laidMetH_of_parts (laidMet_nil _ _) (by kernel_rfl)
def Xq{H:Type}{enc:aA×af->H}{W:aa}{base:Nat}{sp:Nat->Bool}{hd:Bool}{r:Reach}{E:Nat}{v:af}{d:DataW H}{p:List MemPlace}(F:Value.okWide Tryz.prog W r E 22 v)(h:DataW.Trod enc Tryz.prog W base sp hd 22 v d p)(I:∀k∈d.weights Tryz.prog 22,k<=reachBytes)(o:∀b,sp b=true):∃(w:Option ap) (i:Nat) (l:List Int),v=.slice w l.length i/\l.length<=100000000000000/\(∀x∈l, -9223372036854775808<=x/\x<9223372036854775808)/\jm W w l:=by
 obtain⟨a0,len,i,rfl⟩:=okWide_slice Tryz.underlying22 F;obtain⟨y,J⟩:=h;obtain⟨c,n⟩|⟨a,A,B,q,c,_,N,O,K,n,e,s⟩:=open_ints Tryz.underlying22 Tryz.underlying3 Tryz.M3 J
 .simp[Value.cells]at c;obtain⟨rfl,rfl,rfl⟩:=c;exact⟨none,0,[],rfl,by simp,by intro x n;simp at n,.inl rfl⟩
 .simp[Value.cells]at c;obtain⟨rfl,rfl,rfl⟩:=c;rw[o,if_pos rfl]at K;have f:(q.take len).length=len:=by simp;omega
  refine⟨some a,i,q.take len,by rw[f],?_,?_,?_⟩
  .simp only[gQ]at n;have L:=I (q.length*8) (by
    rw[n.1];simp only[DataW.weights,Tryz.underlying22,kf,cm];left;rw[Tryz.MN];simp[lits];omega)
   unfold reachBytes at L;rw[f];omega
  .intro x t;have:=s x (a6z t);have P:=bounds_i64 this;omega
  .by_cases h0:len=0
   .left;simp[h0]
   .right;have j:=e 0 (by omega);obtain⟨b,m,g⟩:=a;have u:g=none:=by
     cases g with
     |none=>rfl
     |some z=>exfalso;simp only[Addr.add,World.cell?]at j;split at j<;>simp at j
    subst u;refine⟨b,m,rfl,λk C=>?_⟩;have M:k<len:=by rw[f]at C;exact C
    have D:=e k (by omega);rw[show(⟨b,m,none⟩:ap).add k=⟨b,m+k,none⟩by unfold Addr.add;split<;>simp_all]at D;rw[D];congr 2;rw[a7d,i4,lF (by omega)];rfl
section
variable{H:Type}{enc:aA×af->H}{W:aa}{base:Nat}{sp:Nat->Bool}{hd:Bool}
def Uo{α:Type}{l:List α}(h:l.length=4):∃a b c d,l=[a,b,c,d]:=by
 match l,h with
 |[a,b,c,d],_=>exact⟨a,b,c,d,rfl⟩
def Qr{n:Nat}{cs:List af}{x:DataW H×List MemPlace}(h:DataW.trod enc Tryz.prog W base sp hd n 42 cs=some x):∃E:aT,cs=jf E/\0<=E.addr/\E.addr<4294967296:=by obtain⟨r,s,u,m,_,d,e,f,g⟩:=Deep.trod_struct3 Tryz.underlying42 h;rw[Tryz.CF]at d;obtain⟨v,c1,c2,w,rfl⟩:=Uo d;simp only[Tryz.M0,Tryz.CE]at e f g;obtain⟨y,z,k,_,_,u0,u1⟩:=trod_struct2 Tryz.underlying32 e;simp only[Tryz.MZ,Tryz.CE]at u0 u1;obtain⟨a,i,_,p⟩:=DataW.trod_int Tryz.underlying30 u0;obtain⟨b,j,_,_⟩:=DataW.trod_int Tryz.underlying3 u1;obtain⟨t,l,_,_⟩:=DataW.trod_int Tryz.underlying3 f;obtain⟨q,o,_,_⟩:=DataW.trod_int Tryz.underlying3 g;have c:=bounds_u32 p;simp at i j l o;subst i j l o;exact⟨⟨a,b,t,q⟩,rfl,c.1,by show a<_;omega⟩
def Qw{r:Reach}{Q:Nat}{v:af}{d:DataW H}{p:List MemPlace}(R:Value.okWide Tryz.prog W r Q 43 v)(h:DataW.Trod enc Tryz.prog W base sp hd 43 v d p)(A:∀b,sp b=true):∃(J:Option ap) (q:Nat) (l:List aT),v=.slice J l.length q/\ig l/\je W J l:=by
 obtain⟨a0,len0,K,rfl⟩:=okWide_slice Tryz.underlying43 R;obtain⟨L,B⟩:=h;obtain⟨g,_⟩|⟨a,M,q,S,k,D,X,g,_,Y,Z,s,hx,t⟩:=Deep.open_slice Tryz.underlying43 B
 .simp[Value.cells]at g;obtain⟨rfl,rfl,rfl⟩:=g;exact⟨none,0,[],rfl,by intro e w;simp at w,.inl rfl⟩
 .simp[Value.cells]at g;obtain⟨rfl,rfl,rfl⟩:=g;rw[Tryz.CF]at t;rw[A,if_pos rfl]at s;subst s;have x:∀i,i<len0->∃E:aT,(∀j,j<4->W.cell? ((a.add (i*4)).add j)=(jf E)[j]?)/\0<=E.addr/\E.addr<4294967296:=λi c=>by obtain⟨T,U,V⟩:=t i (by omega);obtain⟨E,rfl,x⟩:=Qr V;exact⟨E,(World.cells?_some U).2.2,x⟩
  obtain⟨f,C⟩:∃f:Nat->aT,∀i,i<len0->(∀j,j<4->W.cell? ((a.add (i*4)).add j)=(jf (f i))[j]?)/\0<=(f i).addr/\(f i).addr<4294967296:=by refine⟨λi=>if c:i<len0 then Classical.choose (x i c)else ⟨0,0,0,0⟩,λi c=>?_⟩;simp only[c,dif_pos];exact Classical.choose_spec (x i c)
  refine⟨some a,S,(List.range len0).map f,by simp,?_,?_⟩
  .intro e w;simp at w;obtain⟨i,c,rfl⟩:=w;exact(C i c).2
  .by_cases h0:len0=0
   .left;simp[h0]
   .right;have n:=(C 0 (by omega)).1 0 (by omega);obtain⟨b,o,m⟩:=a;have F:m=none:=by
     cases m with
     |none=>rfl
     |some z=>exfalso;simp only[jf,List.getElem?_cons_zero,a7I,Addr.add,if_pos,World.cell?]at n;split at n<;>simp at n
    subst F;refine⟨b,o,rfl,λi c=>?_⟩;have I:i<len0:=by simpa using c
    have u:∀j,((⟨b,o,none⟩:ap).add (i*4)).add j=⟨b,o+i*4+j,none⟩:=λj=>by unfold Addr.add;split<;>split<;>simp_all
    have y:=(C i I).1;have N:=y 0 (by omega);have g:=y 1 (by omega);have O:=y 2 (by omega);have P:=y 3 (by omega);rw[u]at N g O P;simp only[a7G,a7x];exact⟨N,g,O,P⟩
end
theorem U0:Tryz.prog.globalNamed "errors.errorType" =some 0:=by kernel_rfl
theorem U9:(Tryz.prog.cutTypes.find? (·.1== "internal/reflectlite.rtype")).map (·.2)=some 288:=by kernel_rfl
theorem U8:((List.range Tryz.prog.types.size).filter λt=>Tryz.prog.rowNamed t [101,114,114,111,114])=[35]:=by kernel_rfl
def UN{W:aa}(h:laidMetH Tryz.prog [("errors.errorType",Rows.laid_errors_errorType)] W):zi W:=by
 have d:laidMet Tryz.prog [] W/\handlesMet Tryz.prog [("errors.errorType",Rows.laid_errors_errorType)] W:=h;obtain⟨a,u,e,f,g,i,j,b⟩:=d.2 _ (ft.2 rfl);have en:a=[101,114,114,111,114]:=(dk f).symm;subst en;obtain rfl:=dk (U9.symm.trans g);have c:e∈(List.range Tryz.prog.types.size).filter λt=>Tryz.prog.rowNamed t [101,114,114,111,114]:=a7n.2 ⟨a6K.2 i,j⟩;rw[U8]at c;obtain rfl:=ft.1 c;have k:typeHandle Tryz.prog 35=.pointer (some ⟨1,35,none⟩):=by kernel_rfl
 rw[k]at b;unfold zi;simpa using World.var?_cell U0 b 0
def UL(W:aa)(h:W.ShapedOpen Tryz.prog)(m:zi W):∃tC K,W.heap[0]?=some (.cells #[.iface 288 (.agg #[.pointer (some ⟨1,35,none⟩)])] tC)/\W.heap[1]?=some (.cells ((Array.range K).map λt=>.int .u64 (Int.ofNat t)) 0):=by
 have e:Tryz.prog.globals.size=1:=by kernel_rfl
 have a:(((begin Tryz.prog (λ_ _=>0) default).world.heap[0]?).bind Obj.row?).map (λp=>p.1.size)=some 1:=by kernel_rfl
 have i:(begin Tryz.prog (λ_ _=>0) default).world.heap[1]?=some (.cells ((Array.range Tryz.prog.types.size).map λt=>.int .u64 (Int.ofNat t)) 0):=by kernel_rfl
 cases f:((begin Tryz.prog (λ_ _=>0) default).world.heap[0]?).bind Obj.row? with
 |none=>rw[f]at a;cases a
 |some p=>
  obtain⟨z,t⟩:=p;rw[f]at a;have a:z.size=1:=dk a;obtain⟨g,j,b,_⟩:=h.1 0 z t (by rw[e];omega) f;obtain⟨o,q,n,c,d⟩:=h.2 1 (by rw[e];omega) (bW.1 i).1;rw[i]at c;obtain rfl:=dk c;rw[e,if_neg (by decide)]at d;subst d;refine⟨t,_,?_,n⟩;rw[j];have k:g[0]?=some (.iface 288 (.agg #[.pointer (some ⟨1,35,none⟩)])):=by
   have:W.cell? ⟨0,0,none⟩=g[0]? :=by simp[World.cell?,j]
   rw[<-this];exact m
  rw[a]at b;obtain⟨l⟩:=g
  match l,b with
  |[x],_=>simp at k;rw[k]
def Ll(os:Os)(c:os.Started)(H:Type)(enc:aA×af->H)(F:Stop.Interp):ReturnsInLeavingWide {calm:=true} Tryz.checked os 6 .any (λw a=>(Rows.mirroredSpec.pre enc Tryz.prog Tryz.f6 [] false w a/\laidMetH Tryz.prog [("errors.errorType",Rows.laid_errors_errorType)] w)/\sizedMet enc Tryz.prog Tryz.f6 (OpenSpec.ofChange Rows.mirroredSpec) false w a) ((OpenSpec.ofChange Rows.mirroredSpec).postWith enc Tryz.prog Tryz.f6 F (outsideKept [.timePasses]) false true false):=by
 refine Un (C:=Tryz.checked) (X:=λw _=>laidMetH Tryz.prog [("errors.errorType",Rows.laid_errors_errorType)] w) (λ_ _ _ hh h=>h.of_heap hh) UM c Tryz.func6
  (a3n (enc:=enc) (C:=Tryz.checked) (os:=os) (X:=λw _=>laidMetH Tryz.prog [("errors.errorType",Rows.laid_errors_errorType)] w) _ #[.slice none 0 0,.slice none 0 0,.int .i64 0] 8 rfl (by kernel_rfl) (by kernel_rfl) (by kernel_rfl) (by kernel_rfl) (by kernel_rfl) (T1 os _)) ?_
 intro W base a ds gs Q n hW z hX f;have b:∀(j:Nat) t v,Tryz.f6.params[j]?=some t->a[j]?=some v->Value.okWide Tryz.prog W .any base t v:=n;have A:(DataW.weightsEach Tryz.prog (Tryz.f6.params.toList++Rows.mirroredSpec.plain.varTypes Tryz.prog) (ds++gs)).all (·<=reachBytes)=true:=z;have g:=hW;obtain⟨p,q,S,hV,rfl,ar,au⟩:=hW;have hA:DataW.TrodAll enc Tryz.prog W 0 (λ_=>true) true Tryz.f6.params.toList a.toList ds p:=S;rw[Tryz.params6]at hA b A;obtain⟨v0,v1,v2,d0,d1,d2,T,U,p2,r,rfl,rfl,h0,h1,h2⟩:=trodAll_three hA;obtain rfl:a=#[v0,v1,v2]:=r;obtain⟨rfl,rfl⟩:=trodVars_none hV;have hw:∀k∈d0.weights Tryz.prog 22,k<=reachBytes:=λk R=>by have:=a6M.1 A k (DataW.weights_mem_each (j:=0) (t:=22) (d:=d0) rfl rfl k R);simpa using this
 obtain⟨ao,V,l,Y,B,D,I⟩:=Xq (b 0 22 v0 rfl rfl) h0 hw (λ_=>rfl);obtain⟨ae,ce,E,Z,ab,ad⟩:=Qw (b 1 43 v1 rfl rfl) h1 (λ_=>rfl);obtain⟨by_,rfl,rfl,rfl,J⟩:=open_int Tryz.underlying3 (b 2 3 v2 rfl rfl) h2;subst Y Z;have av:=bounds_i64 J;have ag:∀x∈T,x.block<W.heap.size:=λx L=>g.lt x (by simp[L]);have al:∀x∈U,x.block<W.heap.size:=λx L=>g.lt x (by simp[L]);obtain⟨tC,K,aq,M⟩:=UL W f (UN hX);simp only[a6W]at g;obtain⟨N,O,o,w',t',e1,e2,e3,s⟩:=Each.U3 (cc:=V) (ce:=ce) (by_:=by_) B D (by omega) (by omega) I ab ad aq M;refine⟨N,O,o,w',t',e1,e2,e3,Good.mono s λx L=>?_⟩;obtain⟨rfl,R,ho⟩:=L;have u:w'.os=W.os:=congrArg Prod.fst ho;have m:w'.output=W.output:=congrArg Prod.snd ho;have aP:1<W.heap.size:=(bW.1 M).1;have P:W.heap.size<=w'.heap.size:=by have e:w'.heap[W.heap.size - 1]?=some (W.heap[W.heap.size - 1]'(by omega)):=(R _ (by omega)).trans (eF (by omega));have:=(bW.1 e).1;omega
 have y:Below W.heap.size W {w' with tape:=W.tape}:=⟨u,rfl,m,P,R⟩;exact⟨⟨_,_,_,_,_,[],g,trodAll_mk1 (shut_bool Tryz.underlying4 _),DataW.TrodAll.of_heap (w:={w' with tape:=W.tape}) (w':=w') rfl (trodAll_mk3 (Below.trod Tryz.Fv (by kernel_rfl) (of_decide_eq_true (by kernel_rfl)) h0 y ag) (Below.trod Tryz.Fv (by kernel_rfl) (of_decide_eq_true (by kernel_rfl)) h1 y al) (shut_int Tryz.underlying3 J)),rfl,⟨u,m,λi hi=>(y.frame λp=>p∈T++U/\(p∈[]\/p∈T++(U++[])\/p∈[])).2.2 i hi⟩,λh=>by cases h⟩,u⟩
def Lm:Rows.MirroredSaid:=
 OpenClaim.holds_of_wide_leaving_time 6 Tryz.f6 rfl rfl rfl rfl rfl rfl rfl ⟨rfl,rfl,rfl,rfl,rfl⟩ rfl rfl rfl rfl rfl (by kernel_rfl) Tryz.func6 (by kernel_rfl)
  (of_decide_eq_true (by kernel_rfl)) (by unfold Func.isWrapper;rw[if_neg (of_decide_eq_false (by kernel_rfl))];exact⟨rfl,rfl⟩)
  (λb a H enc _ F=>Ll b a H enc F)
theorem Mirrored_holds:Rows.MirroredCardSaid:=
 MT .later true [.handle] true Rows.mirroredCard.stood.harness true
  Lm (by kernel_rfl) mirrored_row_tie rfl ⟨rfl,rfl⟩ (by kernel_rfl) rfl
  (λf c d b=>by
   obtain rfl:f=6:=dk ((show Tryz.prog.funcNamed Rows.mirroredRow.func=some 6 by kernel_rfl).symm.trans d)|>.symm;obtain rfl:c=Tryz.f6:=(dk (Tryz.func6.symm.trans b)).symm;exact⟨by kernel_rfl,λj t a=>by
    rw[Tryz.params6]at a;obtain _|_|_|j:=j
    .obtain rfl:22=t:=by simpa using a
     exact(show Tryz.prog.wantsStandIn 22=false by kernel_rfl)
    .obtain rfl:43=t:=by simpa using a
     exact(show Tryz.prog.wantsStandIn 43=false by kernel_rfl)
    .obtain rfl:3=t:=by simpa using a
     exact(show Tryz.prog.wantsStandIn 3=false by kernel_rfl)
    .simp at a⟩)
  (by kernel_rfl)
end Go.Proofs.YtdnpeefnobjfaaaGreatDoor
end
