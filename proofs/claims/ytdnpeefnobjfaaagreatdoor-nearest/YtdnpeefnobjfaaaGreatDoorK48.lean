/- Proved here: called with any two lists of numbers that can be read, milepostkeep.Nearest returns true on every schedule, without a data race, and its arguments read afterwards as they read before. The row has its own conditions (the listed variable, a calm tape); none is added. The texts were made small by a program. -/
import Derived.ChangeMaps5
import Derived.ChangeSame
import Derived.ChangeSlices
import Derived.ChangeVars
import Derived.Conc.EventLaws
import Derived.Conc.HoldsTime
import Derived.Conc.LeavingOf
import Derived.Deep.Strs
import Derived.LaidHandle
import Derived.LaidLaws
import Derived.Laws.Panics
import Derived.Leaving
import Derived.Lib.SmallJoins
import Derived.OpenShut
import Derived.ProofKit
import Derived.SevenTiedAt
import Derived.SizedLaws
import Derived.Test.YtdnpeefnobjfaaaGreatDoorCards
import Derived.Test.YtdnpeefnobjfaaaGreatDoorRows
import Derived.Test.YtdnpeefnobjfaaaGreatDoorTie
import Derived.Test.YtdnpeefnobjfaaaGreatDoorK33
import Derived.Test.YtdnpeefnobjfaaaGreatDoorK47
set_option maxRecDepth 100000
set_option maxHeartbeats 4000000
set_option linter.all false
section
namespace Go.Proofs.Each
open Go.Conc Go.Mir Go.RowKit Go.Proofs.q
def pU(k:Bool)(cf:ah)(x:aj):ah:=cond k cf (cf.finish x)
def J1{P}(k){fr cf cs w x}(a:fr.kind=kd k)(d:∀b,cf.mode=.panicking b->∀e∈b,e.recovered=false):doReturn P true fr (cf::cs) none x w=.go (am (pU k cf x) cs) w #[]:=by
 cases k with
 |false=>have a:fr.kind=.normal:=a;simp only[doReturn,a];rfl
 |true=>
  have a:fr.kind=.deferred:=a;simp only[doReturn,a];cases f:cf.mode with
  |panicking b=>
   cases b with
   |nil=>rfl
   |cons e b=>have:=d _ f e a9i;obtain⟨v,r,g⟩:=e;simp only at this;subst this;rfl
  |_=>rfl
def Ar(w:aa)(base tb n k np:Nat)(vals:Nat->List aj):Prop:=
 ∃a:Array aj,w.heap[tb]?=some (.cells a 46 (0,0))/\a.size=n/\∀j,j<k->∃v,a[j]?=some v/\w.ownsRow base 64 2 v np (vals j)
theorem a5y:PG.underlying 80=some (.slice 46):=by kernel_rfl
def a3M:∀w,(Go.sizeOf 46).run PG w=.ok 1 w:=λw=>by kernel_rfl
def JC{m}(h:m<=100):aY m<=100:=by unfold aY;omega
def Jr(R i):∀u∈ft R i,u.oneCell'=true:=Jq _ _ _
section
variable{Stop:ah->List ah->aa->Prop}(b0:Am Stop){c:ah}{fs:List ah}{K:Bool}{L:List aj}{ao:Option aF}{cap n tb base:Nat}{R:List Rw}
include b0
def Uz(a:(c::fs)≠[])(hn:n<=8)(hR:R.length<=100)(B:jb R):∀m k u w,n - k=m->k<=n->base<=w.heap.size->base<=tb->gy w ao R->(∀b t,0<R.length->ao=some ⟨b,t,none⟩->b≠tb)->Ar w base tb n k (aY R.length) (ft R)->ji Stop (gJ K u L n k tb ao R.length cap) (c::fs) w->∃u' w',Ar w' base tb n n (aY R.length) (ft R)/\dz base w w'/\ji Stop (oX K u' L n tb) (c::fs) w'/\pP Stop (gJ K u L n k tb ao R.length cap) (c::fs) w (oX K u' L n tb) (c::fs) w':=by
 have s:=pp b0;intro m;induction m with
 |zero=>
  intro k u w hm hk F H W C X hF;obtain rfl:k=n:=a9h
  obtain⟨u1,Y⟩:=Em K k k tb ao R.length cap u L ((c::fs)++[ay PG]);obtain⟨I,J⟩:=cE s a Y hF;rw[decide_eq_false a9h]at I J;obtain⟨u2,s2⟩:=Nk K k k tb ao R.length cap u1 L ((c::fs)++[ay PG]);obtain⟨Z,r2⟩:=cE s a s2 I;exact⟨u2,w,X,dz.refl _ _,Z,J.trans r2⟩
 |succ m ih=>
  intro k u w hm hk F H W C X hF;have ab:k<n:=a9h
  obtain⟨u1,Y⟩:=Em K n k tb ao R.length cap u L ((c::fs)++[ay PG]);obtain⟨I,J⟩:=cE s a Y hF;rw[decide_eq_true a9h]at I J;obtain⟨u2,s2⟩:=Nl K n k tb ao R.length cap u1 L ((c::fs)++[ay PG]);obtain⟨Z,r2⟩:=cE s a s2 I;obtain⟨F3,r3⟩:=qd (fr1:=Frame.enter PG 43 #[.int .i64 k,.agg #[.slice ao R.length cap]] .normal) (gs1:=uT K u2 L n k tb ao R.length cap::c::fs) (qt b0) Z (Nv K n k tb ao R.length cap u2 L ((c::fs)++[ay PG]) w);obtain⟨x,r,V,F4,r4⟩:=BE CC b0 a (τ:=w.tape) (d:=w.drawn) (DS.{0} (k:Int) ao cap R w a9h B W) (λe w' ⟨v,h,_⟩=>⟨v,h⟩) F3;obtain⟨x',hx,z,f⟩:=V;cases hx;obtain⟨i,l,rfl⟩:=dH z;obtain⟨u3,s3⟩:=Nu K n k tb ao R.length cap u2 L ((c::fs)++[ay PG]) (.slice i (aY R.length) l);obtain⟨F5,r5⟩:=cE s a s3 F4;have ix:=H4 r 80 46 1 a5y a3M ⟨tb,0,none⟩ k n n ab;obtain⟨y,w',M,F6,r6⟩:=uJ s a F5 (Nm K n k tb ao R.length cap u3 L ((c::fs)++[ay PG]) (.slice i (aY R.length) l)) (Nn K n k tb ao R.length cap u3 L (.slice i (aY R.length) l)) (.inl ⟨_,_,ix⟩);rw[ix]at M;cases M;obtain⟨u4,s4⟩:=No K n k tb ao ((⟨tb,0,none⟩:aF).add (k*1)) R.length cap u3 L ((c::fs)++[ay PG]) (.slice i (aY R.length) l);obtain⟨F7,r7⟩:=cE s a s4 F6;obtain⟨N,O,ad,ae⟩:=X;have P:tb<w.heap.size:=(bz.1 O).1;have p:r.heap[tb]?=some (.cells N 46 (0,0)):=by rw[f.block tb P];exact O
  have D:((⟨tb,0,none⟩:aF).add (k*1)).add 0=⟨tb,k,none⟩:=by
   unfold Addr.add;by_cases Q:k=0
   .subst Q;rfl
   .simp[Q]
  have E:r.cell? ⟨tb,k,none⟩=some (N.getD k undef):=by unfold World.cell?;rw[p];simp[Array.getD,show k<N.size by omega]
  have S:r.frozen? ⟨tb,k,none⟩=false:=by simp[World.frozen?,p]
  have T:=Nr K n k tb ao ((⟨tb,0,none⟩:aF).add (k*1)) R.length cap u4 L ((c::fs)++[ay PG]) i (aY R.length) l r;rw[D]at T;have ap:=Ay (g:=am (qi K u4 L n k tb ao ((⟨tb,0,none⟩:aF).add (k*1)) R.length cap (.slice i (aY R.length) l)) ((c::fs)++[ay PG])) T (by rw[DL a9i a9i E S];rfl) (Ns K n k tb ao _ R.length cap u4 L (.slice i (aY R.length) l));obtain⟨F8,r8⟩:=qd (fr1:=(qi K u4 L n k tb ao ((⟨tb,0,none⟩:aF).add (k*1)) R.length cap (.slice i (aY R.length) l)).finish undef) (gs1:=c::fs) (qt b0) F7 ap;obtain⟨u5,s5⟩:=Nt K n k tb ao ((⟨tb,0,none⟩:aF).add (k*1)) R.length cap u4 L ((c::fs)++[ay PG]) (.slice i (aY R.length) l);rw[L9 a9h]at s5;obtain⟨F9,r9⟩:=cE (fr':=gJ K u5 L n (k+1) tb ao R.length cap) s a s5 F8;have A:aE r tb N 46:=p;have aq:dz base w (r.setCell ⟨tb,k,none⟩ (.slice i (aY R.length) l)):=by refine⟨jY f.os f.output,by simpa[World.setCell]using f.size,λq V=>?_⟩;rw[qW a9h,f.block q a9h]
  have ar:gy (r.setCell ⟨tb,k,none⟩ (.slice i (aY R.length) l)) ao R:=by
   obtain h|⟨b,t,M,h2⟩:=ku W f
   .exact .inl h
   .by_cases h0:0<R.length
    .refine .inr ⟨b,t,M,λq V=>?_⟩;have au:=C b t h0 M;have av:∀o,(r.setCell ⟨tb,k,none⟩ (.slice i (aY R.length) l)).cell? ⟨b,o,none⟩=r.cell? ⟨b,o,none⟩:=λo=>by unfold World.cell?;rw[qW (v:=r) au]
     simp only[av];exact h2 q V
    .exact .inl (gj a9h)
  have aP:Ar (r.setCell ⟨tb,k,none⟩ (.slice i (aY R.length) l)) base tb n (k+1) (aY R.length) (ft R):=by
   refine⟨N.setIfInBounds k (.slice i (aY R.length) l),gz p k _,by simpa using ad,λj hj=>?_⟩;by_cases U:j=k
   .subst U;exact⟨_,by rw[lG a9h],cz (dY z F) A a9j⟩
   .obtain⟨v,ba,bb⟩:=ae j a9h;exact⟨v,by rw[dw (b1F U)];exact ba,cz (cP bb f (az _)) A a9j⟩
  obtain⟨u6,w6,t6,k6,bc,bd⟩:=ih (k+1) u5 (r.setCell ⟨tb,k,none⟩ (.slice i (aY R.length) l)) a9h a9h (by have:=f.size;simp[World.setCell];omega) H ar C aP F9;exact⟨u6,w6,t6,aq.trans k6,bc,J.trans (r2.trans (r3.trans (r4.trans (r5.trans (r6.trans (r7.trans (r8.trans (r9.trans bd))))))))⟩
def Uy(T:∀M,c.mode=.panicking M->∀e∈M,e.recovered=false)(y:n<=8)(N:R.length<=100)(g:jb R){u w}(O:gy w ao R)(hF:ji Stop (oY K u L n ao R.length cap) (c::fs) w)(τ d):∃x B w2,w.heap.size<=B/\wC n (aY R.length) (ft R) (rO n (aY R.length) τ d) B w2 x/\dz w.heap.size w w2/\pP Stop (oY K u L n ao R.length cap) (c::fs) w (pU K c x) fs w2:=by
 have s:=pp b0;have a:(c::fs)≠[]:=a9i
 obtain⟨u1,U⟩:=N9 K n ao R.length cap u L ((c::fs)++[ay PG]);obtain⟨V,W⟩:=cE s a U hF;obtain⟨X,Y⟩:=qd (fr1:=(fG K u1 L n ao R.length cap).finish (.slice (some ⟨w.heap.size,0,none⟩) n n)) (gs1:=c::fs) (qt b0) V (NM K n ao R.length cap u1 L ((c::fs)++[ay PG]) w y);obtain⟨u2,s2⟩:=NL K n w.heap.size ao R.length cap u1 L ((c::fs)++[ay PG]);obtain⟨Z,r3⟩:=cE s a s2 X;have f:Below w.heap.size w {w with heap:=w.heap.push (.cells (Array.replicate n (.slice none 0 0)) 46)}:=bZ w _;have z:=ku O f;have A:({w with heap:=w.heap.push (.cells (Array.replicate n (.slice none 0 0)) 46)}:aa).heap[w.heap.size]?=some (.cells (Array.replicate n (.slice none 0 0)) 46 (0,0)):=by show(w.heap.push _)[w.heap.size]?=_;simp
 generalize ({w with heap:=w.heap.push (.cells (Array.replicate n (.slice none 0 0)) 46)}:aa)=w0 at*;obtain⟨u3,o,⟨p,C,ab,D⟩,E,F4,r4⟩:=Uz b0 (base:=w.heap.size) (tb:=w.heap.size) a y N g (n - 0) 0 u2 w0 rfl (iP _) f.size (az _) z (λb ad h0 e=>by
  obtain h|⟨b',P,F,H⟩:=O
  .rw[h]at h0;cases h0
  .rw[e]at F;simp only[cK,Addr.mk.injEq,and_true]at F;obtain⟨rfl,rfl⟩:=F;exact b0W (tn H h0)) ⟨_,A,a9i,λj hj=>(by cases hj)⟩ Z
 obtain⟨F5,r5⟩:=qd (fr1:=Frame.enter PG 156 #[.slice (some ⟨w.heap.size,0,none⟩) n n] .normal) (gs1:=oX K u3 L n w.heap.size::c::fs) (qt b0) F4 (Nq K n w.heap.size u3 L ((c::fs)++[ay PG]) o);have k:∀i,i<n->o.cell? ⟨w.heap.size,i,none⟩=some (p.getD i undef):=λi Q=>by unfold World.cell?;rw[C];simp[Array.getD,show i<p.size by omega]
 have r:∀i,i<n->o.ownsRow w.heap.size 64 2 (p.getD i undef) (aY R.length) (ft R i):=λi Q=>by
  obtain⟨v,h1,h2⟩:=D i Q;have:p.getD i undef=v:=by simp[io,h1]
  rw[this];exact h2
 obtain⟨x,S,I,F6,r6⟩:=BE CC b0 a (τ:=τ) (d:=d) (E7.{0} n (aY R.length) w.heap.size w.heap.size (λi=>p.getD i undef) (ft R) (re o τ d) y (JC N) k r (λi _=>Jr R i)) (λe w' ⟨v,h,_⟩=>⟨v,h⟩) F5;obtain⟨x',hx,t,l⟩:=I;cases hx;obtain⟨F7,r7⟩:=cE s a (Np K n w.heap.size u3 L ((c::fs)++[ay PG]) x) F6;have J:=(UB K n w.heap.size u3 L (fs++[ay PG]) x c S).trans (J1 K (UA K n w.heap.size u3 L x) T);obtain⟨F8,r8⟩:=qd (fr1:=pU K c x) (gs1:=fs) (qt b0) F7 J;refine⟨x,o.heap.size,S,?_,t,?_,W.trans (Y.trans (r3.trans (r4.trans (r5.trans (r6.trans (r7.trans r8))))))⟩
 .exact dt f.size E.size
 .exact(dz.of f).trans (E.trans ⟨l.os,l.size,λq I=>l.block q (bL I (dt f.size E.size))⟩)
end
def CN(R i):∀u∈ft R i,∀g,al g u=u:=by
 intro u a g;simp only[ft,mL,b1o,pK,dj,a9V,or_false]at a;obtain⟨j,_,rfl|rfl⟩:=a
 .simp
 .unfold ig;simp
theorem H8{f}:∀b a o,(l6 a o b).map f=l6 (a.map f) o (b.map f)
 |[],a,o=>rfl
 |v::r,a,o=>by show(l6 (a.setIfInBounds o v) (o+1) r).map f=l6 ((a.map f).setIfInBounds o (f v)) (o+1) (r.map f);rw[H8 r,Array.map_setIfInBounds]
def a7Z(n G g):(pC n G).map (al g)=pC n G:=by
 unfold pC;rw[jV,jV];have:∀m,(Builtin.zeroCells (Value.agg #[.int .i64 0,.string ⟨#[]⟩]).cells m).map (al g)=Builtin.zeroCells (Value.agg #[.int .i64 0,.string ⟨#[]⟩]).cells m:=λm=>by
  unfold Builtin.zeroCells;rw[b0g];refine pE λx _=>?_;have a:x%(Value.agg #[.int .i64 0,.string ⟨#[]⟩]).cells.size=0\/x%(Value.agg #[.int .i64 0,.string ⟨#[]⟩]).cells.size=1:=by have:(Value.agg #[.int .i64 0,.string ⟨#[]⟩]).cells.size=2:=rfl;rw[this];omega
  simp only[Function.comp];obtain h|h:=a<;>rw[h]<;>simp[Value.cells]
 rw[this,this];simp
theorem AN{np n cp vals}(a:∀i,∀u∈vals i,∀g,al g u=u)(g):∀j,(iD np n cp vals j).map (al g)=iD np n cp vals j
 |0=>a7Z _ _ g
 |j+1=>by show(l6 (iD np n cp vals j) (j*np*2) (vals j)).map (al g)=l6 (iD np n cp vals j) (j*np*2) (vals j);rw[H8,AN a g j,(List.map_congr_left λu b=>a j u b g).trans (List.map_id _)]
section
variable{T:Tables}{F:Array Func}
def ZL(a:Mir.Twin T F F (λ_=>False)){f fn c}(b:F[f]?=some fn)(d:fn.body=some c)(args){k}(e:k=.normal\/k=.deferred):bJ T.globals.size (Frame.enter ⟨T,F⟩ f args k):=by have h:=vM a b d args;exact⟨h.items,h.defers,e,h.round,h.last,λc h=>by simp[Frame.enter]at h⟩
def a1F{f fn c}(d:F[f]?=some fn)(e:fn.body=some c){args a}(g)(b:a=args.map (al g))(k):Frame.enter ⟨T,F⟩ f a k=aO g (Frame.enter ⟨T,F⟩ f args k):=by simp only[Frame.enter,aO,d,e,bY,kO,b0c,dq,lH,cg,dZ,mu];congr 1;rw[jV,<-b,b0Z];simp[undef,b]
def a1c(c:Mir.Twin T F F (λ_=>False))(cL:iv T F){Z K cs Stop fr fr2 gs e w o}(h:Mir.Reach ⟨T,F⟩ (ay ⟨T,F⟩) Stop fr gs w fr2 e o):(∃D a v i rcs,de T Z K cs D a w v fr gs i rcs)->∃D a v i rcs,de T Z K cs D a o v fr2 e i rcs:=by
 induction h with
 |refl=>exact λh=>h
 |step τ d I s J t=>
  rintro⟨D,a,v,i,rcs,R⟩;have u:=R.frame (v':=re v τ d) (az _) (λb _=>rfl) rfl;obtain⟨y,f,v',z,rg,x,A,L,j,M,N,O,B⟩:=uM (main:=true) c c cL s u;obtain⟨l,g,rfl,C⟩|⟨q,p,k,n,fr2,e,E,r,H,_⟩:=B
  .exact t ⟨y,f,v',l,g,A,j,C⟩
  .exact H.1.elim
end
section
variable(K:Bool)(bx r n:Nat)(u:Nat->aj)(L:List aj)(cs:List ah)(x:aj)
noncomputable def xB:aw:=aD Tryz.prog true 3 (am ((p4 K bx r n u L).finish x) [])
def Rp:aR Tryz.prog true 3 (am ((p4 K bx r n u L).finish x) cs) (am (xB K bx r n u L x).frame cs):=by cases K<;>exact eN
def Rq(c w):stepG Tryz.prog true (am (xB K bx r n u L x).frame (c::cs)) w=doReturn Tryz.prog true (xB K bx r n u L x).frame (c::cs) none x w:=by cases K<;>kernel_rfl
def Ro:(xB K bx r n u L x).frame.kind=kd K:=by cases K<;>kernel_rfl
end
def Py{f fr}(h:∀b,fr.mode=.panicking b->∀e∈b,e.recovered=false):∀b,(aO f fr).mode=.panicking b->∀e∈b,e.recovered=false:=by
 intro b d e i;cases a:fr.mode with
 |panicking c=>simp only[aO,a,dZ,FrameMode.panicking.injEq]at d;subst d;obtain⟨j,g,rfl⟩:=eS.1 i;exact h c a j g
 |_=>simp[aO,a,dZ]at d
def PP{D x b o}(a:D b)(τ d):(re (f8 D x) τ d).cell? ⟨b,o,none⟩=x.cell? ⟨b,o,none⟩:=by
 have e:(re (f8 D x) τ d).heap[b]?=(x.heap[b]?).map oL:=xi a;unfold World.cell?;simp only[e];cases x.heap[b]? with
 |none=>rfl
 |some q=>cases q<;>rfl
def BL{Z K x w}(h:bj Z K x w){b}(d:Z b):x.heap[b]?=some (K b):=by
 obtain⟨c,e,f,a,_⟩|⟨_,a,_⟩|⟨_,a,_⟩:=h.old b d
 .rw[f];exact a
 .exact a
 .exact a
def SU{Z Kf cs Od Stop}(bG:Am Stop):Ej Z Kf cs Od Stop:=by
 intro E k F fr fs rf O D p w v gs t q SB sl hk bI ad R h0 hL hP bN I bo;obtain⟨kb,rfl⟩:∃kb,k=kd kb:=by
  obtain rfl|rfl:=hk
  .exact⟨false,rfl⟩
  .exact⟨true,rfl⟩
 obtain⟨x,hF,R⟩:=R;have eG:=rZ (P:=PG) (show PG.funcs[106]?=some Gh.iY from Gh.func106) (show Gh.iY.body=some (Gh.iY.body.getD .skip)from rfl) E (kd kb);have eR:=rZ (P:=PR) (show PR.funcs[106]?=some Tryz.f106 from Tryz.func106) (show Tryz.f106.body=some (Tryz.f106.body.getD .skip)from rfl) F (kd kb);have nG:Gh.iY.ntmps=51:=Gh.ntmps106;have nR:Tryz.f106.ntmps=51:=Tryz.ntmps106;rw[nG]at eG;rw[nR]at eR;have av:=aL R.heap 0;generalize (ag D p (v.heap.size+0))=f0 at av;have aP:∀f,aQ D p f->F.toList++List.replicate (51 - F.size) undef=(E.toList++List.replicate (51 - E.size) undef).map (al f):=by intro f N;have:=ad f N;rw[this];simp[undef]
 obtain⟨u,L,hl⟩:=DK 51 0 (E.toList++List.replicate (51 - E.size) undef) a9l;rw[hl]at eG aP;have bO:sq u 0 51 L=u 0::u 1::sq u 2 49 L:=rfl;have bP:Frame.enter PG 106 E (kd kb)=sr kb u L (u 0) (u 1):=eG;have ae:=bI;rw[bP]at ae;obtain⟨n,Q,cap,Rs,u1,w1,hn,bd,bp,ba,ao,bR,bb,F1,r1⟩:=OP bG (pT hF R.all) ae;rw[bp,ba]at r1;have br:Frame.enter PR 106 F (kd kb)=ut kb n (λi=>al f0 (u i)) (L.map (al f0)) (Q.map (aG f0)) Rs.length cap:=by rw[eR,aP f0 av];simp only[bO,dq,zR];rw[bp,ba];simp only[jL,iJ,List.map_toArray,dq,lH,fh];rfl
 have bS:∀g,aQ D p g->Q.map (aG f0)=Q.map (aG g):=by intro g hg;have z:=aP f0 av;rw[aP g hg]at z;simp only[bO,dq,iq]at z;have C:=z.2.1;rw[ba]at C;simp only[iJ,List.map_toArray,dq,lH,fh,Value.agg.injEq,Array.mk.injEq,iq,Value.slice.injEq,and_true]at C;exact C.symm
 have b7:∀a,Q=some a->D a.block:=λa ha=>by refine(Cq R.heap (b:=a.block) (c:=f0 a.block) λg hg=>?_).1;have:=bS g hg;rw[ha]at this;simp only[bY,cK,aG,Addr.mk.injEq,and_true]at this;exact this
 have b8:w.heap.size=x.heap.size:=hF.size;have b9:(f8 D x).heap.size=x.heap.size:=by simp[f8]
 have hJ:∀N0 r tb dc v0,v.heap.size<r/\v.heap.size<tb/\v.heap.size<dc/\r≠tb/\r≠dc/\tb≠dc->(∀c,c<v.heap.size->v0.heap[c]?=v.heap[c]?)->oo v0=oo v->oE (gt n N0 r tb dc (v.heap.size+1) SB v0) D p x Q (Q.map (aG f0)) Rs.length cap (aY Rs.length) (ft Rs):=by
  intro N0 r tb dc v0 J X bs;refine⟨rfl,rfl,rfl,⟨J.1,J.2.1,J.2.2.1,J.2.2.2.1⟩,cU.mk R.heap.lt (λb l=>?_) R.heap.inj (λf N b l=>(X _ (R.heap.fQ b l)).trans (R.heap.obj f N b l)) R.heap.ok,λb l=>⟨b0m (R.heap.fQ b l),bN b l⟩,(congrArg Prod.fst bs).trans R.os,R.low,R.all,hF.thin,λg hg=>?_,λi T τ=>?_,λi=>CN Rs i⟩
  .have z:=R.heap.fQ b l;have C:v0.heap[p b]?=some v.heap[p b]:=by rw[X _ z];exact eY z
   exact(bz.1 C).1
  .rw[fh,bS g hg]
  .refine(DS.{1} (i:Int) Q cap Rs (re (f8 D x) τ 0) a9h ao ?_).mono ?_
   .rcases bR with h|⟨b,bw,e,bc⟩
    .exact .inl h
    .refine .inr ⟨b,bw,e,λj hj=>?_⟩;have hD:=b7 _ e;have A:∀o,(re (f8 D x) τ 0).cell? ⟨b,o,none⟩=w.cell? ⟨b,o,none⟩:=λo=>by rw[PP hD,hF.cell]
     simp only[A];exact bc j hj
   .rintro e w' ⟨y,rfl,bl,_⟩;have:(re (f8 D x) τ 0).heap.size=x.heap.size:=b9;rw[this]at bl;exact bl
 rw[br]at h0;obtain⟨N1,ca,v1,cb,t1,q1,cc,r,tb,dc,v0,s,u2,J,X,bs,cd,AC⟩:=SV (K:=kb) (L:=L.map (al f0)) (cs:=rf::O) (u:=λi=>al f0 (u i)) hn I hJ sl h0 hL hP;have bT:∀c,c<v.heap.size->v1.heap[c]?=v.heap[c]? :=λc A=>(AC.hp.old c (b0m A)).trans (X c A);have ap:oo v1=oo v:=AC.hp.os.trans bs;have bU:r<v1.heap.size:=(bz.1 AC.hp.rb).1;have dT:v.heap.size<=v1.heap.size:=by have:=J.1;omega
 obtain⟨tc,U,bV⟩:=AC.hp.tb;have U:v1.heap[tb]?=some (.cells tc 46 (0,0)):=U;have bV:tc.size=n:=bV;have told:∀i,i<n->∃y,tc[i]?=some y/\nv (gt n gs.size r tb dc (v.heap.size+1) SB v0) (aY Rs.length) (ft Rs i) (s.own i) v1 y:=λi T=>by obtain⟨ce,y,z,C,h3⟩:=AC.told i T;have z:v1.heap[tb]?=some (.cells ce 46 (0,0)):=z;rw[U]at z;cases z;exact⟨y,C,h3⟩
 let Sx:Nat->Prop:=λc=>(∃b,D b/\p b=c)\/c=tb\/∃S',iA Tryz.progTables.globals.size S' v1/\(∀c,S' c->(c<v.heap.size+1/\¬SB c)\/∃i,s.own i c)/\S' c;have bA:iA Tryz.progTables.globals.size (λc=> ∃b,D b/\p b=c) v1:=(Kr R.heap (λb o _ ho=>hF.thin b o ho)).keep λc A=>by obtain⟨b,l,e⟩:=A;exact bT c (e▸R.heap.fQ b l)
 have bX:∀i,i<n->∀y,tc[i]?=some y->∀a m m',y=.slice (some a) m m'->Sx a.block:=λi T y hy a m m' e=>by obtain⟨y',z,C⟩:=told i T;rw[hy]at z;cases z;obtain⟨_,_,_,S',h4,h5,h6⟩:=C;exact .inr (.inr ⟨S',h4,λc A=>(h5 c A).imp id λh=>⟨i,h⟩,h6 a m m' e⟩)
 have hS:iA Tryz.progTables.globals.size Sx v1:=by
  refine⟨λf T N c o A ho=>?_,λc o A ho=>?_,λc A=>?_⟩
  .rcases A with h|rfl|⟨S',z,C,h3⟩
   .exact bA.aX f T (λc A=>N c (.inl A)) c o h ho
   .rw[U]at ho;cases ho;simp only[bu];rw[jp λy hy=>?_];obtain⟨i,cf,rfl⟩:=fT.1 hy;have hy:tc[i]?=some tc[i]:=eY cf;obtain⟨y',z,C⟩:=told i a9h;rw[hy]at z;cases z;obtain⟨a,m,m',e⟩:=Jt C;rw[e];cases a with
    |none=>simp
    |some a=>have:=N a.block (bX i a9h _ hy a m m' e);simp[aG,this]
   .exact z.aX f T (λc A=>N c (.inr (.inr ⟨S',z,C,A⟩))) c o h3 ho
  .rcases A with h|rfl|⟨S',z,C,h3⟩
   .exact bA.ok c o h ho
   .rw[U]at ho;cases ho;exact⟨trivial,rfl⟩
   .exact z.ok c o h3 ho
  .rcases A with h|rfl|⟨S',z,C,h3⟩
   .exact bA.lt c h
   .exact(bz.1 U).1
   .exact z.lt c h3
 have bn:∀c,Sx c->¬(SB c\/c=r):=by
  intro c A hs;have d0:=J.1;obtain⟨b,l,rfl⟩|rfl|⟨S',z,C,h3⟩:=A
  .rcases hs with h|h
   .exact bN b l h
   .have:=R.heap.fQ b l;omega
  .rcases hs with h|h
   .have:=I _ h;have:=J.2.1;omega
   .exact J.2.2.2.1 h.symm
  .rcases C c h3 with⟨h4,h5⟩|⟨i,h4⟩
   .rcases hs with h|h
    .exact h5 h
    .omega
   .have h4:s.cls c=.wk i:=h4;obtain h|h:=hs
    .have:=AC.cls.old c (b0m (I c h));rw[h4]at this;cases this
    .have h5:s.cls r=.sh:=AC.cls.sh.1;rw[h]at h4;rw[h4]at h5;cases h5
 have aq:∀i,i<n->tc[i]?=some (tc.getD i undef)/\nv (gt n gs.size r tb dc (v.heap.size+1) SB v0) (aY Rs.length) (ft Rs i) (s.own i) v1 (tc.getD i undef):=λi T=>by
  obtain⟨y,z,C⟩:=told i T;have:tc.getD i undef=y:=by simp[io,z]
  rw[this];exact⟨z,C⟩
 obtain⟨N2,ch,ck,t2,q2,g2,v2,d2,cl,dy,b0,co,cq,cr,_,b1,xr,rb,τ,d,cu,W,d1,ar⟩:=PB (S:=Sx) (V:=v1) (n:=n) (np:=aY Rs.length) (tb:=tb) (base:=v.heap.size+1) (tv:=λi=>tc.getD i undef) (vals:=ft Rs) (SB2:=λc=>SB c\/c=r) (f:=p4 kb v.heap.size r n u2 (L.map (al f0))) (cs:=rf::O) hn (JC bd) hS (λb l=>.inl ⟨b,(R.low b l).1,(R.low b l).2⟩) (.inr (.inl rfl)) bn (λc A=>by
   obtain h|rfl:=A
   .have:=I c h;omega
   .exact bU) (λi T=>by
   unfold World.cell?;rw[U];exact(aq i T).1) (λi T=>(aq i T).2.1) (λi T=>bX i T _ (aq i T).1) (λi _=>Jr Rs i) (λg cp=>AN (λi=>CN Rs i) g n) ca t1 q1 cb v1.drawn cd AC.iZ (dE.of AC.ai) AC.ai.hears
 have cv:=(R.aX f0 av).1;have G3:iQ Tryz.prog (λc=>SB c\/c=r) (am ((p4 kb v.heap.size r n u2 (L.map (al f0))).finish xr) (rf::O)) v2 0 λg' v' d'=>g'=am (pU kb rf xr) O/\d'=0/\∃c,v'=v2.at c:=by refine ib (Rp kb v.heap.size r n u2 (L.map (al f0)) (rf::O) xr) λc1=>ff rfl λc2=>⟨_,_,#[],(Rq kb v.heap.size r n u2 (L.map (al f0)) O xr rf _).trans (J1 kb (Ro kb v.heap.size r n u2 (L.map (al f0)) xr) (by rw[cv];exact Py R.ok.calm)),az _,a9i,uW λc3=>⟨rfl,rfl,c3,rfl⟩⟩
 subst b1;rw[cu]at b0;obtain⟨N3,cx,cy,t3,q3,g3,v3,d3,cN,dD,b2,cS,c0,c4,_,c5,b3,c3,c6⟩:=G3 ch t2 q2 ck v2.drawn b0 co cq cr;subst b3 c6;rw[c5]at b2;have b4:gy w1 Q Rs:=by
  obtain h|⟨b,bw,e,bc⟩:=bR
  .exact .inl h
  .by_cases hz:0<Rs.length
   .have c7:=tn bc hz;refine .inr ⟨b,bw,e,λj hj=>?_⟩;have A:∀o,w1.cell? ⟨b,o,none⟩=w.cell? ⟨b,o,none⟩:=λo=>bb.cell (a:=⟨b,o,none⟩) c7;simp only[A];exact bc j hj
   .exact .inl (gj a9h)
 obtain⟨xg,B,w2,hB,au,c8,r2⟩:=Uy bG R.ok.calm hn bd ao b4 F1 τ d;have Y:Mir.Reach PG (ay PG) Stop (Frame.enter PG 106 E (kd kb)) (fr::fs) w (pU kb fr xg) fs w2:=by rw[bP,bp,ba];exact r1.trans r2
 have bB:dz w.heap.size w w2:=bb.trans (c8.mono bb.size);have d4:w.heap.size<=B:=dt bb.size hB;obtain⟨_,_,_,_,_,x2,ab,R2⟩:=a1c (Z:=Z) (K:=Kf) im.{0} cL.{0} Y ⟨D,p,v,Frame.enter PG 106 F (kd kb),rf::O,x,hF,R.heap,R.os,R.low,R.all,ZL im.{0} (show Gh.funcs.{0}[106]?=some Gh.iY from Gh.func106) (show Gh.iY.body=some (Gh.iY.body.getD .skip)from rfl) E hk,λy hy=>by
   obtain rfl|hy:=dj.1 hy
   .exact R.ok
   .exact R.bQ y hy,λf N=>⟨a1F (show Gh.funcs.{0}[106]?=some Gh.iY from Gh.func106) (show Gh.iY.body=some (Gh.iY.body.getD .skip)from rfl) f (ad f N) _,by
   have:=R.aX f N;simp only[dq,fU,iq];exact this⟩⟩
 have c9:∀b,b<w.heap.size->x2.heap[b]?=x.heap[b]? :=λb l=>by
  by_cases hz:Z b
  .rw[BL hF hz,BL ab hz]
  .rw[<-ab.other b hz,bB.block b l,hF.other b hz]
 have df: ¬Z B:=λhz=>by have:=(bz.1 (BL hF hz)).1;omega
 have H:∀b,D b->b≠B:=λb l h=>by have:=R.heap.lt b l;omega
 have b5:∀c,c<v.heap.size->(v2.at c3).heap[c]?=v.heap[c]? :=λc A=>(W.block c a9h).trans (bT c A);refine⟨N1+(N2+N3),cx,v2.at c3,cy,t3,q3,λc=>SB c\/c=r,λb=>D b\/(0<n*aY Rs.length/\b=B),λb=>if b=B then rb else p b,pU kb fr xg,fs,w2,qR cc (qR cl cN),Y,⟨⟨pU kb rf xr,O,b2,x2,ab,?_⟩,cS,c0.ai c4,?_,?_,?_⟩⟩
 .have b6:∀f,aQ (λb=>D b\/(0<n*aY Rs.length/\b=B)) (λb=>if b=B then rb else p b) f->aQ D p f:=λf N=>⟨λb l=>by rw[N.on b (.inl l),if_neg (H b l)],N.inj⟩;have M:0<n*aY Rs.length->x2.heap[B]?=some (.cells (iD (aY Rs.length) n (rO n (aY Rs.length) τ d) (ft Rs) n) 64)/\(v2.at c3).heap[rb]?=some (.cells (iD (aY Rs.length) n (rO n (aY Rs.length) τ d) (ft Rs) n) 64):=λhp=>by
   obtain⟨h,_⟩|⟨_,_,z⟩:=au
   .omega
   .rcases ar with⟨h,_⟩|⟨_,_,C⟩
    .omega
    .exact⟨by rw[<-ab.other B df];exact z,C⟩
  refine⟨cU.mk (λb l=>?_) (λb l=>?_) (λa b ha l e=>?_) (λf N b l=>?_) λb o _ ho=>R2.all b o ho,?_,λb l=>?_,R2.all,?_,R.bQ,λf N=>?_⟩
  .rcases l with l|⟨hp,rfl⟩
   .have z:=R.heap.lt b l;have C:=ab.size;have h3:=bB.size;omega
   .exact(bz.1 (M hp).1).1
  .rcases l with l|⟨hp,rfl⟩
   .have z:=R.heap.fQ b l;have C:=W.size;rw[if_neg (H b l)];show p b<v2.heap.size;omega
   .rw[if_pos rfl];exact(bz.1 (M hp).2).1
  .rcases ha with ha|⟨hp,rfl⟩<;>obtain l|⟨d5,rfl⟩:=l
   .rw[if_neg (H a ha),if_neg (H b l)]at e;exact R.heap.inj a b ha l e
   .rw[if_neg (H a ha),if_pos rfl]at e;have:=R.heap.fQ a ha;omega
   .rw[if_neg (H b l),if_pos rfl]at e;have:=R.heap.fQ b l;omega
   .rfl
  .rcases l with l|⟨hp,rfl⟩
   .rw[if_neg (H b l),b5 _ (R.heap.fQ b l),c9 b (by rw[b8];exact R.heap.lt b l)];exact R.heap.obj f (b6 f N) b l
   .rw[if_pos rfl,(M hp).1,(M hp).2];simp only[bY,bu,AN (λi=>CN Rs i) f n]
  .show v2.os=x2.os;have e1:v2.os=v.os:=congrArg Prod.fst (W.os.trans ap);have e2:w2.os=w.os:=congrArg Prod.fst bB.os;rw[e1,R.os,<-hF.os,<-e2,ab.os]
  .obtain⟨z,C⟩:=R.low b l;exact⟨.inl z,by rw[if_neg (H b z)];exact C⟩
  .cases kb with
   |true=>exact R.ok
   |false=>exact R.ok.finish _
  .have dl:=b6 f N;obtain⟨e1,e2⟩:=R.aX f dl;refine⟨?_,e2⟩;have dr:xr=al f xg:=by
    obtain⟨h,bC⟩|⟨hp,bC,_⟩:=au
    .rcases ar with⟨_,bF⟩|⟨h',_⟩
     .rw[bC,bF];simp
     .omega
    .rcases ar with⟨h',_⟩|⟨_,bF,_⟩
     .omega
     .rw[bC,bF];have ds:f B=rb:=by rw[N.on B (.inr ⟨hp,rfl⟩),if_pos rfl]
      simp[aG,ds]
   cases kb with
   |true=>exact e1
   |false=>show rf.finish xr=aO f (fr.finish xg);rw[e1,dr];exact oV f fr xg
 .rintro b (l|⟨hp,rfl⟩) hs
  .rw[if_neg (H b l)]at hs;exact bn _ (.inl ⟨b,l,rfl⟩) hs
  .rw[if_pos rfl]at hs;obtain h|h:=hs
   .have:=I _ h;omega
   .omega
 .rintro c (A|rfl)
  .have:=I c A;have:=W.size;show c<v2.heap.size;omega
  .have:=W.size;show c<v2.heap.size;omega
 .refine⟨λb l=>?_,λc A=>?_,(W.os.trans ap).trans bo.2.2⟩
  .obtain⟨z,C⟩:=bo.1 b l;exact⟨.inl z,by show(if b=B then rb else p b)=_;rw[if_neg (H b z)];exact C⟩
  .obtain⟨⟨k1,k2,k3⟩,k4⟩:=bo.2.1 c A;refine⟨⟨?_,?_,?_⟩,(b5 c k2).trans k4⟩
   .rintro(h|h)
    .exact k1 h
    .omega
   .have:=W.size;show c<v2.heap.size;omega
   .rintro b (l|⟨hp,rfl⟩) e<;>dsimp only at e
    .rw[if_neg (H b l)]at e;exact k3 b l e
    .rw[if_pos rfl]at e;omega
def vk:Result Next->Bool
 | .halt .. =>true
 | .ok .. =>false
def qh{P}{s:Sem Next}{w}(h:vk (s.runT P w #[]).1=true):∀y w',(s.runT P w #[]).1≠.ok y w':=by intro y w' e;rw[e]at h;cases h
theorem D6(F):(⟨Tryz.progTables,F⟩:aA).underlying 22=some (.slice ((⟨Tryz.progTables,F⟩:aA).elem 22)):=by kernel_rfl
theorem a3O(F w):(sizeOf ((⟨Tryz.progTables,F⟩:aA).elem 22)).run ⟨Tryz.progTables,F⟩ w=.ok 1 w:=by kernel_rfl
section
variable{cp:Nat}
theorem W4(ap n F w a):(do pure (Next.value (<-Builtin.len_ #[22] a #[.slice ap n cp])):Sem Next).runT ⟨Tryz.progTables,F⟩ w #[]=(.ok (.value (.int .i64 n)) w,#[]):=by kernel_rfl
def VZ(n b a i k)(d:i<n)(F w):(do pure (Next.value (<-Instr.indexAt 22 (.slice (some ⟨b,a,none⟩) n cp) (.int k (i:Nat)))):Sem Next).runT ⟨Tryz.progTables,F⟩ w #[]=(.ok (.value (.pointer (some ⟨b,a+i,none⟩))) w,#[]):=by
 have c:(Instr.indexAt 22 (.slice (some ⟨b,a,none⟩) n cp) (.int k (i:Nat))).run ⟨Tryz.progTables,F⟩ w=.ok (.pointer (some ⟨b,a+i,none⟩)) w:=by rw[run_indexAt_slice (h:=D6 F),if_pos a9h,a3O];simp only[Result.andThen,b0n,b1y];rw[show(⟨b,a,none⟩:aF).add i=⟨b,a+i,none⟩by unfold Addr.add;split<;>simp_all]
 refine jY ?_ ?_
 .rw[Sem.runT_fst,Sem.run_bind,c];rfl
 .have:=events_indexAt_slice (P:=⟨Tryz.progTables,F⟩) (w:=w) (es:=#[]) 22 ⟨b,a,none⟩ n cp k (i:Nat) (D6 F) a9h;show Sem.events _ _ _ _=_;rw[Sem.events_bind,c,this];rfl
def VY{ap n}(a:ap=none->n=0){x}(h:∀k i,x=.int k i->¬i<n)(F w):vk ((do pure (Next.value (<-Instr.indexAt 22 (.slice ap n cp) x)):Sem Next).runT ⟨Tryz.progTables,F⟩ w #[]).1=true:=by
 rw[Sem.runT_fst,Sem.run_bind];have c:∃q w',(Instr.indexAt 22 (.slice ap n cp) x).run ⟨Tryz.progTables,F⟩ w=.halt q w':=by
  by_cases b:∃k i,x=.int k i
  .obtain⟨k,i,rfl⟩:=b;obtain⟨s,w',e⟩:=run_indexAt_out (P:=⟨Tryz.progTables,F⟩) (w:=w) 22 ap n cp k i (D6 F) a (by
    by_cases h0:0<=i
    .have:=h k i.toNat (by rw[Int.toNat_of_nonneg h0]);omega
    .omega)
   exact⟨_,_,e⟩
  .unfold Instr.indexAt;rw[Sem.run_bind];have:∃q w',(asIntOf x).run ⟨Tryz.progTables,F⟩ w=.halt q w':=by
    unfold asIntOf;split
    .rename_i k i;exact absurd ⟨k,i,rfl⟩ b
    .exact⟨_,_,rfl⟩
    .exact⟨_,_,rfl⟩
   obtain⟨q,w',e⟩:=this;rw[e];exact⟨q,w',rfl⟩
 obtain⟨q,w',e⟩:=c;rw[e];rfl
def Hu{v x}(h:v=undef\/∃a,v=.pointer a)(F w):vk ((do pure (Next.value (<-Instr.indexAt 22 v x)):Sem Next).runT ⟨Tryz.progTables,F⟩ w #[]).1=true:=by
 by_cases b:∃k i,x=.int k i
 .obtain⟨k,i,rfl⟩:=b;obtain rfl|⟨a,rfl⟩:=h<;>kernel_rfl
 .rw[Sem.runT_fst,Sem.run_bind];unfold Instr.indexAt;rw[Sem.run_bind];have:∃q w',(asIntOf x).run ⟨Tryz.progTables,F⟩ w=.halt q w':=by
   unfold asIntOf;split
   .rename_i k i;exact absurd ⟨k,i,rfl⟩ b
   .exact⟨_,_,rfl⟩
   .exact⟨_,_,rfl⟩
  obtain⟨q,w',e⟩:=this;rw[e];rfl
def W9(a z F w)(h:w.cell? a=some (.int .i64 z)):(do pure (Next.value (<-Instr.loadAt 3 (.pointer (some a)))):Sem Next).runT ⟨Tryz.progTables,F⟩ w #[]=(.ok (.value (.int .i64 z)) w,#[⟨.cell a,false,false⟩]):=by
 have e:(do pure (Next.value (<-Instr.loadAt 3 (.pointer (some a)))):Sem Next).runT ⟨Tryz.progTables,F⟩ w #[]=(Sem.load .plain a λx=>.pure (Next.value x)).runT ⟨Tryz.progTables,F⟩ w #[]:=a9k
 rw[e];simp only[Sem.runT,h];rfl
def If{v}(h:v=undef\/∃a n c,v=.slice a n c)(F w):vk ((do pure (Next.value (<-Instr.loadAt 3 v)):Sem Next).runT ⟨Tryz.progTables,F⟩ w #[]).1=true:=by obtain rfl|⟨a,n,c,rfl⟩:=h<;>kernel_rfl
def H9{v}(h:v=undef\/∃a,v=.pointer a)(F w b):vk ((do pure (Next.value (<-Builtin.len_ #[22] b #[v])):Sem Next).runT ⟨Tryz.progTables,F⟩ w #[]).1=true:=by obtain rfl|⟨a,rfl⟩:=h<;>kernel_rfl
end
def ZF{R ap cp}(y:R.V=.slice ap R.n cp)(A:0<R.n->ap=some ⟨R.b,R.off,none⟩):∀o,kg mV o=true->wH R mV Tryz.progTables o:=by
 intro o a;obtain⟨dst,op,p,pos,after,guard⟩:=o;simp only[kg,eO]at a;obtain⟨_,a⟩:=a;have O:∀t,R.V≠.bool t:=λt=>by rw[y];simp
 split at a
 .simp only[eO,beq_iff_eq,b0F]at a;obtain⟨rfl,d,rfl,r⟩:=a;refine⟨d,[],rfl,a9i,λF ρ w D K L=>.inr ⟨R.V,#[],.inr ⟨r,O,.inr (.inl rfl)⟩,a9i,a9i,λu E v H _ _ _=>?_⟩⟩;show(Sem.pure (Next.value (E (.tmp iI)))).runT _ _ _=_;rw[H];rfl
 .rename_i s I;simp only[eO,beq_iff_eq,b0F,pH]at a;obtain⟨⟨⟨D,K⟩,L⟩,d,rfl,r⟩:=a;obtain⟨s⟩:=s;obtain⟨I⟩:=I;obtain rfl:I=[22]:=L;obtain⟨x,rfl⟩:∃x,s=[x]:=b0J.1 K;simp only[List.all_cons,List.all_nil,Bool.and_true]at D;cases x<;>first|(cases D;done)|skip
  rename_i j;have g:dB.contains j=true:=D;have e:∀ρ:Operand->aj,execOp ρ {dst:=some d,op:=.call ⟨.builtin .len,#[.tmp j],#[22]⟩,type:=p,pos,after,guard}=(do pure (Next.value (<-Builtin.len_ #[22] p #[ρ (.tmp j)])):Sem Next):=λρ=>a9k
  refine⟨d,[],rfl,a9i,λF ρ w H B M=>?_⟩;obtain q|q|⟨i,_,q⟩:=B j g
  .refine .inl (qh ?_);rw[e];exact H9 (.inl q) F w p
  .refine .inr ⟨.int .i64 R.n,#[],.inl ⟨r,λf=>a9i⟩,a9i,a9i,λu E v N C _ _=>?_⟩;rw[e,C j g,q,y];exact W4 ap R.n u v p
  .refine .inl (qh ?_);rw[e];exact H9 (.inr ⟨_,q⟩) F w p
 .rename_i t j x;simp only[eO,beq_iff_eq,b0F]at a;obtain⟨⟨⟨rfl,g⟩,P⟩,d,rfl,r⟩:=a;have e:∀ρ:Operand->aj,execOp ρ {dst:=some d,op:=.indexAddr 22 (.tmp j) x,type:=p,pos,after,guard}=(do pure (Next.value (<-Instr.indexAt 22 (ρ (.tmp j)) (ρ x))):Sem Next):=λρ=>rfl;refine⟨d,[x],rfl,by simpa using P,λF ρ w H B M=>?_⟩;obtain q|q|⟨i,_,q⟩:=B j g
  .refine .inl (qh ?_);rw[e];exact Hu (.inl q) F w
  .by_cases l:∃k,∃i:Nat,ρ x=.int k i/\i<R.n
   .obtain⟨k,i,c,l⟩:=l;refine .inr ⟨.pointer (some (R.at i)),#[],.inr ⟨r,a9i,.inr (.inr ⟨i,l,rfl⟩)⟩,a9i,by simpa using ⟨k,_,c⟩,λu E v N C Q _=>?_⟩;rw[e,C j g,Q x a9i,q,y,A a9h,c];exact VZ R.n R.b R.off i k l u v
   .refine .inl (qh ?_);rw[e,q,y];refine VY (λh=>?_) (λk i c J=>l ⟨k,i,c,J⟩) F w;by_cases h0:0<R.n
    .rw[A h0]at h;cases h
    .omega
  .refine .inl (qh ?_);rw[e];exact Hu (.inr ⟨_,q⟩) F w
 .rename_i t j;simp only[eO,beq_iff_eq,b0F,pH]at a;obtain⟨⟨rfl,g⟩,d,rfl,r⟩:=a;have e:∀ρ:Operand->aj,execOp ρ {dst:=some d,op:=.load 3 (.tmp j),type:=p,pos,after,guard}=(do pure (Next.value (<-Instr.loadAt 3 (ρ (.tmp j)))):Sem Next):=λρ=>rfl;refine⟨d,[],rfl,a9i,λF ρ w H B M=>?_⟩;obtain q|q|⟨i,l,q⟩:=B j g
  .refine .inl (qh ?_);rw[e];exact If (.inl q) F w
  .refine .inl (qh ?_);rw[e];exact If (.inr ⟨_,_,_,q.trans y⟩) F w
  .refine .inr ⟨.int .i64 (R.z i),#[⟨.cell (R.at i),false,false⟩],.inl ⟨r,λf=>a9i⟩,λe S=>⟨i,l,by simpa using S⟩,a9i,λu E v N C _ T=>?_⟩;rw[e,C j g,q];exact W9 _ _ u v (T i l)
 .cases a
noncomputable abbrev PH:aA:=⟨Tryz.progTables,Gh.funcs.{1}⟩
def jF:ah:={(default:ah)with fn:=7,kind:=.normal}
def S8(args):Frame.enter PH 7 args .normal=jF.at ⟨args++Array.replicate (112 - args.size) undef,[]⟩ [.code (Tryz.f7.body.getD .skip)]:=by have a:PH.funcs[7]?=some Tryz.f7:=Gh.func7;have b:Tryz.f7.ntmps=112:=Tryz.ntmps7;simp only[Frame.enter,Frame.at,a,jF,bY,kO,b0c,b];rfl
def S9(args):Frame.enter PR 7 args .normal=Frame.enter PH 7 args .normal:=by have b:PH.funcs[7]?=some Tryz.f7:=Gh.func7;have a:PR.funcs[7]?=some Tryz.f7:=Tryz.func7;simp_all[Frame.enter]
def ZM(args):bJ Tryz.progTables.globals.size (Frame.enter PH 7 args .normal):=vM im.{1} (show Gh.funcs.{1}[7]?=some Tryz.f7 from Gh.func7) (show Tryz.f7.body=some (Tryz.f7.body.getD .skip)from rfl) args
def VU{G}(W a):(jn G W).cell? a=W.cell? a:=by
 unfold World.cell?;rw[vg];cases h:W.heap[a.block]? with
 |none=>rfl
 |some o=>
  by_cases b:ee G o
  .simp[b]
  .simp[b,dead];have:=Ht b;cases o<;>first|exact this.elim|rfl
def a3L:cn (λ_=>False)=λ_=>False:=by funext l;cases l<;>rfl
def a0K{c ap cr cp np l W}(u:l.length<=100000000000000)(w:∀x∈l, -9223372036854775808<=x/\x<9223372036854775808)(i:fO W c l):∃n a w' v t,runNT PR n (crowd #[am (Frame.enter PR 7 #[.slice c l.length cr,.slice ap np cp] .normal) []] W none) #[]=(.next (crowd #[am (jF.at a [.code i7]) []] v none),t)/\cw True (sI Tryz.progTables.globals.size W) Tryz.progTables.globals.size (λ_=>True) id w' v/\oo v=oo W/\Past (cn λ_=>False) v.heap.size t/\Leavers PR t #[am (jF.at a [.code i7]) []] (λ_=>0)/\En (jn Tryz.progTables.globals.size W) l (.slice ap np cp) a w':=by
 have j:fO (jn Tryz.progTables.globals.size W) c l:=by
  obtain h|⟨b,o,g,d⟩:=i
  .exact .inl h
  .exact .inr ⟨b,o,g,λk y=>(VU W _).trans (d k y)⟩
 have p:∀fr w',Steps PH (lone (Frame.enter PH 7 #[.slice c l.length cr,.slice ap np cp] .normal) [ay PH] (jn Tryz.progTables.globals.size W)) (lone fr [ay PH] w')->∃n v t,runNT PR n (crowd #[am (Frame.enter PR 7 #[.slice c l.length cr,.slice ap np cp] .normal) []] W none) #[]=(.next (crowd #[am fr []] v none),t)/\cw True (sI Tryz.progTables.globals.size W) Tryz.progTables.globals.size (λ_=>True) id w' v/\oo v=oo W/\Past (cn λ_=>False) v.heap.size t/\Leavers PR t #[am fr []] (λ_=>0):=by
  intro fr w' ⟨n,i⟩;have q:Past (cn λ_=>False) W.heap.size #[]:=by rw[a3L];exact past_nil.mono (iP _)
  let ⟨v,rf,t,g,d,_,_,r,h6,h7⟩:=Xe ml.{1} im.{1} vK.{1} B5 (cs:=[]) n (Frame.enter PH 7 #[.slice c l.length cr,.slice ap np cp] .normal) [] (jn Tryz.progTables.globals.size W) W _ [] #[] (Xd (ZM _) λx z=>by cases z) rfl rfl q (leavers_one _ _) i;have e:rf=fr:=by
   have:=(d.aX id rJ).1
   rwa [pi]at this
  subst e;rw[S9];exact⟨n,v,t,g,d.heap,h7,r,h6⟩
 have f:=X6.{1} c ap cr np cp l (jn Tryz.progTables.globals.size W) u w j jF [] [ay PH];have A:=S8 #[.slice c l.length cr,.slice ap np cp];obtain⟨a,w',⟨B,s⟩|⟨C,_⟩⟩:=f
 .rw[show(⟨#[.slice c l.length cr,.slice ap np cp]++Array.replicate 110 undef,[]⟩:Act)=⟨#[.slice c l.length cr,.slice ap np cp]++Array.replicate (112 - 2) undef,[]⟩from rfl]at s;obtain⟨n,v,t,g,d,D,E,r⟩:=p _ w' (by rw[A];exact s)
  grind
 simp_all
def EP{F}(h:∀f,gZ.contains f=true->F[f]?=Tryz.funcs[f]?):my ⟨Tryz.progTables,F⟩:=by
 intro f b;have a:=b;simp[gZ]at b;obtain rfl|rfl|rfl|rfl|rfl:=b
 .exact⟨_,(h _ a).trans Tryz.func15,a9k,a9k⟩
 .exact⟨_,(h _ a).trans Tryz.func24,a9k,a9k⟩
 .exact⟨_,(h _ a).trans Tryz.func25,a9k,a9k⟩
 .exact⟨_,(h _ a).trans Tryz.func26,a9k,a9k⟩
 .exact⟨_,(h _ a).trans Tryz.func27,a9k,a9k⟩
def Pw:my ⟨Tryz.progTables,Gh.funcs.{0}⟩:=EP λf a=>by
 simp[gZ]at a;obtain rfl|rfl|rfl|rfl|rfl:=a
 .exact Gh.func15.{0}.trans Tryz.func15.symm
 .exact Gh.func24.{0}.trans Tryz.func24.symm
 .exact Gh.func25.{0}.trans Tryz.func25.symm
 .exact Gh.func26.{0}.trans Tryz.func26.symm
 .exact Gh.func27.{0}.trans Tryz.func27.symm
def Px:∀q,gZ.contains q=true->¬ln q:=by intro q a;simp[gZ]at a;obtain rfl|rfl|rfl|rfl|rfl:=a<;>simp[ln]
theorem a3V:mU mV i7=true:=by kernel_rfl
theorem ZQ:cF Tryz.progTables.globals.size i7=true:=by kernel_rfl
def ZH:∀i,dB.contains i=true->mV.contains i=true:=by intro i a;simp[dB]at a;obtain rfl|rfl|rfl|rfl|rfl:=a<;>rfl
def Fa{x y}(b:y.size=x.size)(h:∀i,mV.contains i=false->y[i]?=x[i]?)(c:∀i,dB.contains i=true->x[i]?=some undef)(d:∀i,dB.contains i=true->y[i]?=some undef):Go.Mir.DF mV (jF.at ⟨x,[]⟩ [.code i7]) (jF.at ⟨y,[]⟩ [.code i7]):=by
 refine⟨rfl,b,h,λi a=>?_,rfl,⟨rfl,rfl⟩,ZH,λi a t=>?_⟩
 .simp[Frame.at]at a;subst a;exact a3V
 .constructor
  .show x[i]? ≠_;rw[c i a];simp[undef]
  .show y[i]? ≠_;rw[d i a];simp[undef]
def Lm(b):bJ Tryz.progTables.globals.size (jF.at ⟨b,[]⟩ [.code i7]):=by refine⟨λi a=>?_,λd e=>by grind[Frame.at],.inl rfl,λh=>by simp[Frame.at]at h,λh=>by simp[Frame.at],λc h=>by simp[Frame.at]at h⟩;simp[Frame.at]at a;subst a;exact ZQ
def Ln{a f}(h:a.map (al f)=a):jF.at ⟨a,[]⟩ [.code i7]=aO f (jF.at ⟨a,[]⟩ [.code i7]):=by
 grind[Frame.at,aO,cg,dZ]
def vl(p r i):(jo p r)[i]?=if i<7 then #[undef,p,undef,undef,.bool false,.bool true,r][i]? else if i<112 then some undef else none:=by
 unfold jo;rw[b0O];by_cases h:i<7
 .simp_all
 .rw[if_neg h,if_neg a9h,Array.getElem?_replicate];by_cases a:i<112
  .rw[if_pos (show i - _<105 by grind),if_pos a]
  .rw[if_neg (show¬(i - _<105)by simp;omega),if_neg a]
def vm(p r):∀i,dB.contains i=true->(jo p r)[i]?=some undef:=by intro i a;simp[dB]at a;rw[vl];obtain rfl|rfl|rfl|rfl|rfl:=a<;>simp
def W8(p r i)(h:mV.contains i=false):(jo p r)[i]?=(jo undef r)[i]? :=by
 rw[vl,vl];by_cases a:i<7
 .rw[if_pos a,if_pos a];obtain rfl|rfl|rfl|rfl|rfl|rfl|rfl:i=0\/i=1\/i=2\/i=3\/i=4\/i=5\/i=6:=a9h
  all_goals first|rfl|(cases h)
 simp_all
def Cc(p r):(jo p r).size=112:=by simp[jo]
def Ic{p r f}(a:al f p=p)(b:al f r=r):(jo p r).map (al f)=jo p r:=by
 refine mq λi=>?_;rw[ip,vl];by_cases c:i<7
 .rw[if_pos c];obtain rfl|rfl|rfl|rfl|rfl|rfl|rfl:i=0\/i=1\/i=2\/i=3\/i=4\/i=5\/i=6:=a9h
  all_goals simp[undef,a,b]
 simp_all[if_neg,undef]
def XN{a i}(h:mV.contains i=false):a[i]?=(Co a)[i]? :=by
 grind[Co]
def a3h{G b v}(h:∀c,b c->∃a t,v.heap[c]?=some (.cells a t)/\∀f,(∀c,b c->f c=c)->a.map (al f)=a):iA G b v:=by
 refine⟨λf _ i c o d e=>?_,λc o d e=>?_,λc d=>?_⟩
 .grind[bu]
 .obtain⟨a,t,g,_⟩:=h c d;rw[g]at e;cases e;exact⟨trivial,rfl⟩
 grind
theorem Hz{cs:Array aj}(h:∀x∈cs,∃i,x=Value.int .i64 i)(f):cs.map (al f)=cs:=jp λx a=>by obtain⟨i,rfl⟩:=h x a;simp
def DH{v f}(d:∃b n c,v=.slice b n c)(h:∀g,v.ownBlock=some g->f g=g):al f v=v:=by
 obtain⟨b,n,c,rfl⟩:=d;cases b with
 |none=>simp
 |some a=>simp[aG,h a.block rfl]
def Yb{F r s f}(b:∀x,x<5->al f (r x)=r x)(c:∀x,x<5->al f (s x)=s x):(fN F r s).map (al f)=fN F r s:=by
 refine mq λi=>?_;rw[ip,mJ];by_cases h:i<35
 .rw[if_pos h];by_cases a:i<25
  .simp[a]
  grind
 grind
section
variable{w1 wr v:aa}{F:Nat->Nat->Nat}{R:Nat->Nat}{sv:Nat->aj}{m lo:Nat->Nat}
def Iy(h:gE w1 wr F 5 R sv m lo):∀c,nz w1.heap.size wr F R sv m lo c->c=0\/c=1\/∃cs t,wr.heap[c]?=some (.cells cs t)/\∀f,(∀c,nz w1.heap.size wr F R sv m lo c->f c=c)->cs.map (al f)=cs:=by
 intro c a;have D:∀{x:Nat},x<5->∃i n c,sv x=.slice i n c:=λd=>by obtain⟨i,j,e,_⟩:=(h.sd _ d).1.slice;simp_all
 obtain rfl|rfl|rfl|⟨x,d,a⟩:=a
 .omega
 .omega
 all_goals refine .inr (.inr ?_)
 .refine⟨_,_,h.b,λf k=>Yb (λx d=>?_) λx d=>?_⟩
  .rw[if_pos d];obtain⟨V,u,w,q⟩:=h.Ke d;simp[aG,k (R x) (.inr (.inr (.inr ⟨x,d,.inr ⟨V,u,w,q,.inl rfl⟩⟩)))]
  .simp_all;exact DH (D d) λg o=>k g (.inr (.inr (.inr ⟨x,d,.inl o⟩)))
 .rcases a with a|⟨V,u,w,q,a⟩
  .obtain⟨i,n,E,e⟩:=D d;rw[e]at a;cases i with
   |none=>cases a
   |some p=>
    obtain rfl:p.block=c:=by grind[Value.ownBlock]
    obtain⟨I,A,J⟩:=(h.sd x d).1.ints p n E e
    grind[Hz]
  .have l:∀b,(b=R x\/b=V\/u.ownBlock=some b\/w.ownBlock=some b)->nz w1.heap.size wr F R sv m lo b:=λb K=>.inr (.inr (.inr ⟨x,d,.inr ⟨V,u,w,q,K⟩⟩));obtain⟨z,B,⟨H,rfl⟩,_⟩:=q;obtain⟨i,j,rfl⟩:=dH z.aH;obtain rfl|rfl|a|a:=a
   .refine⟨_,_,z.blk,λf k=>?_⟩;have C:=DH (f:=f) ⟨i,_,j,rfl⟩ λg o=>k g (l g (.inr (.inr (.inl o))));simp[C,aG,k V (l V (.inr (.inl rfl)))]
   .refine⟨_,_,z.view,λf k=>?_⟩;have C:=DH (f:=f) ⟨H,_,_,rfl⟩ λg o=>k g (l g (.inr (.inr (.inr o))));simp[C]
   .cases i with
    |none=>cases a
    |some p=>
     obtain rfl:p.block=c:=by grind[Value.ownBlock]
     let ⟨I,A,J⟩:=B p _ j rfl
     grind[Hz]
   .cases H with
    |none=>cases a
    |some p=>
     obtain rfl:p.block=c:=by grind[Value.ownBlock]
     obtain⟨P,⟨L,_⟩|⟨g,E,r,e,_,A,_,_,M,N⟩⟩:=z.rows
     .cases L
     .cases e;refine⟨r,_,A,λf _=>jp λy Q=>?_⟩;have O:r.toList=aK [fJ (bh x)]:=by rw[<-N,a9R (by rw[pD,M];simp)]
      have s:y∈aK [fJ (bh x)]:=by rw[<-O];grind
      simp[aK,cI]at s;obtain rfl|rfl|rfl|rfl|rfl|rfl|rfl:=s<;>simp
def Yc{G}(h:gE w1 wr F 5 R sv m lo)(i:∀{b:Nat} {c} {t},wr.heap[b]?=some (.cells c t)->v.heap[b]?=some (.cells c t)){a d tC:bD}(h0:v.heap[0]?=some (.cells #[.iface a (.agg #[.pointer (some ⟨1,d,none⟩)])] tC)){K}(j:v.heap[1]?=some (.cells ((Array.range K).map λt=>.int .u64 (Int.ofNat t)) 0)):iA G (nz w1.heap.size wr F R sv m lo) v:=by
 refine a3h λc e=>?_;obtain rfl|rfl|⟨k,t,l,n⟩:=Iy h c e
 .exact⟨_,_,h0,λf g=>by simp[aG,g 1 (.inr (.inl rfl))]⟩
 .simp_all
 grind
end
def X5{ar ap cr cp l lp W}(hl:l.length<=100000000000000)(hr:∀x∈l, -9223372036854775808<=x/\x<9223372036854775808)(hn:fO W ar l)(bA:lp.length<=100000000000000)(bB:∀x∈lp, -9223372036854775808<=x/\x<9223372036854775808)(ad:fO W ap lp){tA tB tC:bD}(N:W.heap[0]?=some (.cells #[.iface tA (.agg #[.pointer (some ⟨1,tB,none⟩)])] tC)){K}(E:W.heap[1]?=some (.cells ((Array.range K).map λt=>.int .u64 (Int.ofNat t)) 0))(Y:∀p,ap=some p->p.block<W.heap.size):Mir.Ends PR (λx v'=>x=.bool true/\(∀b,b<W.heap.size->v'.heap[b]?=W.heap[b]?)/\oo v'=oo W) (crowd #[am (Frame.enter PR 7 #[.slice ar l.length cr,.slice ap lp.length cp] .normal) []] W none) #[]:=by
 obtain⟨n,a,w',v,t,ae,hH,bC,hP,hL,hN⟩:=a0K (cr:=cr) (ap:=ap) (cp:=cp) (np:=lp.length) hl hr hn;apply Mir.Ends.many ae;obtain⟨hd,bF,bG,ao,w1,R,sv,m,lo,ab,O,hI⟩:=hN;have hW:(jn Tryz.progTables.globals.size W).heap.size=W.heap.size:=by simp[jn]
 rw[hW]at O;have H:∀{b:Nat} {c:Array aj} {t:bD},w'.heap[b]?=some (.cells c t)->v.heap[b]?=some (.cells c t):=fun {b c t} h=>by have:=hH.live id rJ (b:=b) trivial (by rw[h];simp[dead]);rw[h]at this;simpa[qG]using this
 have aq:W.heap.size<=w1.heap.size:=by have:=O.size;rw[hW]at this;exact this
 have j:∀b,b<W.heap.size->v.heap[b]?=W.heap[b]? :=Xc hH λb A=>(hI.bl.block b a9h).trans (O.block b A);have B:1<W.heap.size:=(bz.1 E).1;generalize hF:fx l (bv 5 0)=F at*;let r:Nat->Prop:=nz w1.heap.size w' F R sv m lo;have hS:iA Tryz.progTables.globals.size r v:=Yc hI H ((j 0 a9h).trans N) ((j 1 B).trans E);have U:∀b,b<Tryz.progTables.globals.size+1->r b:=λb A=>by
  have:Tryz.progTables.globals.size=1:=a9k
  rw[this]at A;obtain _|_|b:=b
  .exact .inl rfl
  .exact .inr (.inl rfl)
  .omega
 have bI:∀b,r b->b<W.heap.size->b=0\/b=1:=λb A hl=>by
  obtain⟨_,_,_,_,_,_,_,_,_,_,_⟩:=hI.marks;have mx:∀x,x<5->w1.heap.size<m x/\w1.heap.size<lo x:=λx hx=>by
   obtain rfl|rfl|rfl|rfl|rfl:x=0\/x=1\/x=2\/x=3\/x=4:=a9h
   all_goals omega
  obtain h|h|h|⟨x,hx,h|⟨V,cv,rv,q,h⟩⟩:=A
  .exact .inl h
  .exact .inr h
  .omega
  .have:=((hI.sd x hx).1.blk h).1;have:=(mx x hx).1;omega
  .have:=(mx x hx).2;have hq:=q.1;obtain rfl|rfl|h|h:=h
   .have:=hq.new.1;omega
   .have:=hq.new.2;omega
   .have:=(qw hq.aH h).1;omega
   .have:=(qw hq.rows h).1;omega
 let ⟨Rw,hV,hap,hz,hOnW,hon,hRb,hcl⟩:∃Rw:dF,Rw.V=.slice ap Rw.n cp/\(0<Rw.n->ap=some ⟨Rw.b,Rw.off,none⟩)/\(Rw.n=lp.length/\∀i,(h:i<lp.length)->Rw.z i=lp[i])/\Rw.On W/\(0<Rw.n->Rw.on=true)/\(Rw.on=true->Rw.b<W.heap.size/\¬r Rw.b)/\∀p,ap=some p->yY Rw r p.block:=by
  have bN:∀p,ap=some p->∃o:Bool,(o=true->p.block<W.heap.size/\¬r p.block)/\(o=true\/r p.block):=λp hp=>by
   by_cases h:r p.block
   .exact⟨false,(λq=>by cases q),.inr h⟩
   .exact⟨true,λ_=>⟨Y p hp,h⟩,.inl rfl⟩
  cases s:ap with
  |none=>
   have h0:lp=[]:=by
    obtain h|⟨b,I,h,_⟩:=ad
    .exact h
    .rw[s]at h;cases h
   subst h0;exact⟨⟨.slice none 0 cp,0,0,0,λ_=>0,false⟩,rfl,λh=>absurd h (oC _),⟨rfl,λi h=>by simp at h⟩,λi h=>absurd h (lL _),λh=>absurd h (oC _),(λh=>by cases h),λp h=>by cases h⟩
  |some p=>
   obtain⟨o,au,av⟩:=bN p s;by_cases h0:lp=[]
   .subst h0;refine⟨⟨.slice (some p) 0 cp,p.block,0,0,λ_=>0,o⟩,rfl,λh=>absurd h (oC _),⟨rfl,λi h=>by simp at h⟩,λi h=>absurd h (lL _),λh=>absurd h (oC _),au,λq h=>?_⟩;cases h;obtain q|q:=av
    .exact .inr ⟨q,rfl⟩
    .exact .inl q
   .rcases ad with h|⟨b,I,h,L⟩
    .exact absurd h h0
    rw[s]at h;cases h;have M:0<lp.length:=List.length_pos_iff.2 h0;have c0:=L 0 M;have bO: ¬r b:=λq=>by
     obtain rfl|rfl:=bI b q (Y _ s)
     .simp only[World.cell?,N]at c0;cases I<;>simp at c0
     .simp only[World.cell?,E,ip]at c0;cases hx:(Array.range K)[I+0]? <;>rw[hx]at c0<;>simp at c0
    have ho:o=true:=av.resolve_right bO;refine⟨⟨.slice (some ⟨b,I,none⟩) lp.length cp,b,I,lp.length,λi=>lp.getD i 0,o⟩,rfl,λ_=>rfl,⟨rfl,λi h=>by simp[h]⟩,λi h=>?_,λ_=>ho,au,λq h=>?_⟩
    .have C:i<lp.length:=h;simp only[dF.at];rw[L i C];simp[C]
    .cases h;exact .inr ⟨ho,rfl⟩
 have aP:Rw.On v:=λi C=>by have P:=hOnW i C;have X:=j Rw.b (hRb (hon a9h)).1;unfold World.cell? dF.at at P⊢;rw[X];exact P
 have bX:W.heap.size<=v.heap.size:=by have e:v.heap[w1.heap.size]?=some _:=H hI.b;have:=(bz.1 e).1;omega
 have ba:Rw.on=true->Rw.b<v.heap.size/\¬r Rw.b:=λh=>⟨by have:=(hRb h).1;omega,(hRb h).2⟩;have bP:(bH r v).heap.size=v.heap.size:=by simp[bH]
 have nN:∀b,b<W.heap.size->∀{c:Array aj} {t:bD},W.heap[b]?=some (.cells c t)->w'.heap[b]?=some (.cells c t):=λb A c t h=>by rw[hI.bl.block b a9h,O.block b A,vg,h];simp[ee]
 have bb:∀τ c,r c->(re (eL Rw Rw.cells.size (bH r v)) τ 0).heap[c]?=w'.heap[c]? :=λτ c L=>by
  have e:(re (eL Rw Rw.cells.size (bH r v)) τ 0).heap[c]?=v.heap[c]? :=(nT (λh e=>(hRb h).2 (e▸L))).trans (ic L);rw[e];obtain rfl|rfl|⟨cs,t,X,_⟩:=Iy hI c L
  .rw[j 0 a9h,N,nN 0 a9h N]
  .rw[j 1 B,E,nN 1 B E]
  .rw[H X,X]
 have sB:r w1.heap.size:=.inr (.inr (.inl rfl));have hG:d9 (λa=>fR F a 5) F:=by rw[<-hF];exact TJ l _
 have bR:∀x y,F x y<=15:=by rw[<-hF];exact GY l _
 have bS:∀g,aQ (yY Rw r) id g->al g Rw.V=Rw.V:=λg hg=>by
  rw[hV];cases s:ap with
  |none=>simp
  |some p=>simp[aG,hg.on p.block (hcl p s)]
 have bc:∀g:Nat->Nat,g w1.heap.size=w1.heap.size->al g (.pointer (some ⟨w1.heap.size,0,none⟩))=.pointer (some ⟨w1.heap.size,0,none⟩):=λg hg=>by simp[aG]
 have bd:=TR (f:=7) (k:=4) (R:=Rw) (b:=jF) (a:=⟨jo Rw.V (.pointer (some ⟨w1.heap.size,0,none⟩)),[]⟩) (cd:=i7) (Rr:=λx w2=>x=.bool true/\∀b,b<W.heap.size->w2.heap[b]?=(eL Rw Rw.cells.size (bH r v)).heap[b]?) im.{0} vK.{0} hS U ba ⟨rfl,rfl⟩ (Lm _) (λg hg=>Ln (Ic (bS g hg) (bc g (hg.on _ (.inl sB))))) (λx w τ d h=>h) (λτ=>by
  rw[hV,hz.1];have bn:fO (re (eL Rw Rw.cells.size (bH r v)) τ 0) ap lp:=by
   by_cases h0:lp=[]
   .exact .inl h0
   .have M:0<lp.length:=List.length_pos_iff.2 h0;refine .inr ⟨Rw.b,Rw.off,hap (by rw[hz.1];exact M),λk hk=>?_⟩;have:=WM (R:=Rw) (z:=Rw.cells.size) (w:=bH r v) hon (λh=>by rw[bP];exact(ba h).1) k (by rw[hz.1];exact hk);rw[hz.2 k hk]at this;exact this
  apply wp_mono (X7 ap cp W.heap.size w1.heap.size lp F (λa=>fR F a 5) R (oN lo m) (re (eL Rw Rw.cells.size (bH r v)) τ 0) bA bB bn Y hG bR (hI.Ya λb A=>bb τ b A) (λb A=>by rw[E6 hI a9h];omega) aq ⟨_,_,(bb τ _ sB).trans hI.b⟩);rintro e a2 w2 ⟨rfl,P,X,h3⟩;exact⟨rfl,P,X,λb A=>h3.block b A⟩)
 obtain⟨ts,ds⟩:=a;obtain rfl:ds=[]:=hd;have u:∀i,dB.contains i=true->ts[i]?=some undef:=λi C=>ao i (by simpa[dB,List.contains_iff_mem]using C);have bo:∀(x:Array aj),x[1]?=some Rw.V->(∀i,dB.contains i=true->x[i]?=some undef)->Rw.In (jF.at ⟨x,[]⟩ [.code i7]):=λx P X=>⟨P,λi C=>⟨undef,X i C,.inl rfl⟩⟩;have bT:ts[1]?=some Rw.V:=by rw[hV,hz.1];exact bG
 apply a2z (f:=7) (k:=4) (fn:=Tryz.f7) (S:=mV) (R:=Rw) (J:=λc=>c<W.heap.size/\¬r c) (fr:=jF.at ⟨jo Rw.V (.pointer (some ⟨w1.heap.size,0,none⟩)),[]⟩ [.code i7]) (fr0:=jF.at ⟨jo undef (.pointer (some ⟨w1.heap.size,0,none⟩)),[]⟩ [.code i7]) ml.{0} im.{0} cL.{0} (EP λ_ _=>rfl) Pw Px (ZF hV hap) rfl rfl (λZ K cs Od Stop bp=>PA bp (SU bp)) Tryz.func7 Tryz.results7 a9k a9k hS U (λc L=>⟨a9h,L.2⟩) hon (λh=>⟨(hRb h).1,(hRb h).2⟩) aP
  (Fa (by rw[Cc,Cc]) (λi C=>(W8 _ _ i C).symm) (vm _ _) (vm _ _)) (Fa (by rw[bF,Cc]) (λi C=>by rw[<-ab];exact XN C) (vm _ _) u)
  (bo _ (by rw[vl];rfl) (vm _ _)) (bo _ bT u) (λi C=>(u i C).trans (vm _ _ i C).symm) (Lm _) (λg hg=>Ln (Ic (by simp[undef]) (bc g (hg.on _ sB)))) hP hL bd
 intro x x' w2 y v2 D bV br hy bs bw hD bU hJ;have Q:=aL bs 0;refine⟨by rw[bU _ Q,br.1];simp,λb A=>?_,bw.trans bC⟩;by_cases T:r b
 .obtain⟨d1,d2⟩:=hD b T;have bx:Rw.on=true->b≠Rw.b:=λh e=>(hRb h).2 (e▸T);have P:=bs.obj _ Q b d1;rw[d2,<-hy b bx,br.2 b A,nT bx,ic T]at P;rw[P,<-j b A];cases hv:v.heap[b]? with
  |none=>rfl
  |some o=>rw[bY,hS.aX _ Q.inj (λc L=>by rw[Q.on c (hD c L).1,(hD c L).2]) b o T hv]
 simp_all
end Go.Proofs.Each
end
section
namespace Go.Proofs.YtdnpeefnobjfaaaGreatDoor
open Go.ChangeShapes Go.WideShapes Go.ChangeAt Go.RowKit Go.ChangeMaps Go.Conc Go.Proofs.q
theorem XC:ownKnob Tryz.prog.godebug=none:=by kernel_rfl
theorem Tryz.H5:laidOutB Tryz.prog=true:=by kernel_rfl
theorem Tryz.PJ:Tryz.prog.cellsOf 3=1:=by kernel_rfl
theorem Tryz.Pt:Tryz.prog.bytesOf 3=8:=by kernel_rfl
section
variable{H:Type}{enc:bD×aj->H}
def a5X{C:Checked}{os f fn s c b}{X:aa->Array aj->Prop}(d:aa)(args e)(j:d.os=os)(l:(d.forCall (λ_ _=>0) ⟨#[],args,[]⟩).variablesB C.prog=true)(n:((d.forCall (λ_ _=>0) ⟨#[],args,[]⟩).heap.toList.drop C.prog.globals.size).take ((begin C.prog (λ_ _=>0) default).world.heap.size - C.prog.globals.size)=(begin C.prog (λ_ _=>0) default).world.heap.toList.drop C.prog.globals.size)(g:Input.okWideB C.prog (d.forCall (λ_ _=>0) ⟨#[],args,[]⟩) f ⟨#[],args,[]⟩=true)(h:s.preB enc C.prog fn c b (d.forCall (λ_ _=>0) ⟨#[],args,[]⟩).memory args e=true)(k:s.sizedB enc C.prog fn b (d.forCall (λ_ _=>0) ⟨#[],args,[]⟩).memory args e=true)(o:X (d.forCall (λ_ _=>0) ⟨#[],args,[]⟩).memory args):∃(w:aa) (a:Tape) (i:Input),w.os=os/\(w.forCall a i).Shaped C.prog/\i.vars=[]/\Input.okWide C.prog (w.forCall a i) .any w.heap.size f i/\((s.pre enc C.prog fn c b (w.forCall a i).memory i.args/\X (w.forCall a i).memory i.args)/\sizedMet enc C.prog fn (OpenSpec.ofChange s) b (w.forCall a i).memory i.args)/\({calm:=true}:Assume).holds C.prog (lone (Frame.enter C.prog f i.args .normal) [] (w.forCall a i)):=
 ⟨d,λ_ _=>0,⟨#[],args,[]⟩,j,World.shaped_of_B l n,(Input.okWide_of_okWideB (base:=0) g).1,(Input.okWide_of_okWideB g).2,⟨⟨ChangeSpec.pre_of_preB h,o⟩,sizedMet_of_sizedB k⟩,by
  simp only[Assume.holds];exact⟨a9i,λ_ _ _ _=>rfl,a9i,a9i,a9i⟩⟩
def W7{C os f fn s F k b l g}{X:aa->Array aj->Prop}(Q:∀w w' a,w.heap=w'.heap->X w a->X w' a)(own:ownKnob C.prog.godebug=none)(n:os.Started)(I:C.prog.funcs[f]?=some fn)(p:∃(w:aa) (c:Tape) (i:Input),w.os=os/\(w.forCall c i).Shaped C.prog/\i.vars=[]/\Input.okWide C.prog (w.forCall c i) .any w.heap.size f i/\((s.pre enc C.prog fn k b (w.forCall c i).memory i.args/\X (w.forCall c i).memory i.args)/\sizedMet enc C.prog fn (OpenSpec.ofChange s) b (w.forCall c i).memory i.args)/\({calm:=true}:Assume).holds C.prog (lone (Frame.enter C.prog f i.args .normal) [] (w.forCall c i)))(r:∀W base a A B d,(∀(j:Nat) t v,fn.params[j]?=some t->a[j]?=some v->Value.okWide C.prog W .any base t v)->DataW.Whole enc C.prog fn.params.toList s.vars b W a.toList A B d->(DataW.weightsEach C.prog (fn.params.toList++s.plain.varTypes C.prog) (A++B)).all (·<=reachBytes)=true->X W a->W.ShapedOpen C.prog->∃M h o w' D,runNT C.prog (M+1) (solo (G (Frame.enter C.prog f a .normal) []) W) #[]=(.ended o w',D)/\runN C.prog M (solo (G (Frame.enter C.prog f a .normal) []) W)=.next h/\step C.prog h=.ended o w'/\Conc.Good C.prog (λv O=>s.post enc C.prog fn b l g false W a v O/\O.os=W.os) h o w' D):ReturnsInLeavingWide {calm:=true} C os f .any (λw a=>(s.pre enc C.prog fn k b w a/\X w a)/\sizedMet enc C.prog fn (OpenSpec.ofChange s) b w a) ((OpenSpec.ofChange s).postWith enc C.prog fn F (outsideKept [.timePasses]) b l g):=by refine returnsInLeavingWide_of_good own n p ?_;intro w c i _ q _ J u E;obtain⟨_,_,_,K,x,_,_,_,_,y⟩:=J;have e:K=fn:=db (x.symm.trans I);subst e;obtain⟨⟨⟨A,B,d,P,_⟩,R⟩,S⟩:=u;have L:=DataW.Whole.of_heap (w':=w.forCall c i) (by rfl) P;obtain⟨M,h,o,w',D,T,U,V,Y⟩:=r (w.forCall c i) w.heap.size i.args A B d y L (S.weights P) (Q _ _ _ (by rfl) R) q;refine⟨M,h,o,w',D,T,U,V,Y.mono λv Z=>?_⟩;obtain⟨N,z⟩:=Z;refine postWith_blind (postWith_of_post ?_ ⟨0,by rw[z];rfl⟩);rw[<-z];exact N
end
def Pz(i){p s c}(g kinds a b d)(o:c.holds p s)(q:c.wfByText s=true)(e:c.laidByTextAt i p kinds a)(k:c.start=.entering)(l:c.noBlocks=false/\c.again=false)(u:p.checked.prog.mainIs=some (b.1,b.2.toList))(v:(! b.1&&b.2.isEmpty&& ! d)=false)(w:∀f n,p.checked.prog.funcNamed c.func=some f->p.checked.prog.funcs[f]?=some n->d=p.checked.prog.looks []/\∀(j:Nat) t,n.params[j]?=some t->p.checked.prog.wantsStandIn t=false)(x:g=c.goesBy p.checked.prog):Claim7.holds p (.plain s) {stood:={row:=c,standIns:=[],harness:=b,looks:=d},kinds:=[],alts:=[],goes:=g,laidByText:=true,laidKinds:=kinds,laidTests:=a,laidLooks:=i}:=by
 have y:∀r:OpenClaim,Claim7.isSixth {stood:={row:=r,standIns:=[],harness:=b,looks:=d},kinds:=[]}=false:=λr=>by simpa[Claim7.isSixth]using v
 exact⟨Claim7.tied_new_at i kinds a (Claim7.new_of_sixth o b d k l u (y c) w) q,(λD z=>by cases z),e,(λh=>by cases h),x⟩
def WC(os:Os)(args:Array aj):laidMetH Tryz.prog [("errors.errorType",Rows.laid_errors_errorType)] (({World.holding Tryz.prog os ⟨#[],#[],[]⟩with heap:=(World.holding Tryz.prog os ⟨#[],#[],[]⟩).heap.modify 0 fun| .cells _ t frozen=>.cells #[.iface 288 (.agg #[.pointer (some ⟨1,35,none⟩)])] t frozen|o=>o}:aa).forCall (λ_ _=>0) ⟨#[],args,[]⟩).memory:=
 laidMetH_of_parts (laidMet_nil _ _) a9k
def Jf{H enc W base sp F r I v}{d:DataW H}{p}(J:Value.okWide Tryz.prog W r I 22 v)(h:DataW.Trod enc Tryz.prog W base sp F 22 v d p)(K:∀k∈d.weights Tryz.prog 22,k<=reachBytes)(q:∀b,sp b=true):∃(y:Option aF) (i:Nat) (l:List Int),v=.slice y l.length i/\l.length<=100000000000000/\(∀x∈l, -9223372036854775808<=x/\x<9223372036854775808)/\fO W y l:=by
 obtain⟨a0,len,i,rfl⟩:=okWide_slice Tryz.underlying22 J;obtain⟨A,L⟩:=h;obtain⟨c,o⟩|⟨a,B,C,s,c,_,P,Q,M,o,e,t⟩:=open_ints Tryz.underlying22 Tryz.underlying3 Tryz.PJ L
 .simp[Value.cells]at c;obtain⟨rfl,rfl,rfl⟩:=c;exact⟨none,0,[],rfl,a9i,by intro x o;simp at o,.inl rfl⟩
 .simp[Value.cells]at c;obtain⟨rfl,rfl,rfl⟩:=c;rw[q,if_pos rfl]at M;have f:(s.take len).length=len:=a9l
  refine⟨some a,i,s.take len,by rw[f],?_,?_,?_⟩
  .simp only[b0N]at o;have N:=K (s.length*8) (by
    rw[o.1];simp only[DataW.weights,Tryz.underlying22,oy,dj];left;rw[Tryz.Pt];simp[lits];omega)
   unfold reachBytes at N;rw[f];omega
  .intro x u;have:=t x (b0u u);have R:=bounds_i64 this;omega
  .by_cases h0:len=0
   .left;simp[h0]
   .right;have j:=e 0 a9h;obtain⟨b,n,g⟩:=a;have w:g=none:=by
     cases g with
     |none=>rfl
     |some z=>exfalso;simp only[Addr.add,World.cell?]at j;split at j<;>simp at j
    subst w;refine⟨b,n,rfl,λk D=>?_⟩;have O:k<len:=by rw[f]at D;exact D
    have E:=e k a9h;rw[show(⟨b,n,none⟩:aF).add k=⟨b,n+k,none⟩by unfold Addr.add;split<;>simp_all]at E;rw[E];congr 2;rw[b0o,jt,iM a9h];rfl
def a3P{W r f a n c}(h:Value.okWide Tryz.prog W r f 22 (.slice (some a) n c)):a.block<W.heap.size:=by
 simp only[Value.okWide,Cell.okWide,Cell.ok,Tryz.underlying22]at h;obtain⟨_,_,_,_,row,b,d,_⟩:=h;unfold World.shape? at d;cases e:W.heap[a.block]? with
 |none=>rw[e]at d;cases d
 |some o=>exact(bz.1 e).1
theorem XV:Tryz.prog.globalNamed "errors.errorType" =some 0:=by kernel_rfl
theorem X3:(Tryz.prog.cutTypes.find? (·.1== "internal/reflectlite.rtype")).map (·.2)=some 288:=by kernel_rfl
theorem X2:((List.range Tryz.prog.types.size).filter λt=>Tryz.prog.rowNamed t [101,114,114,111,114])=[35]:=by kernel_rfl
def XD{W}(h:laidMetH Tryz.prog [("errors.errorType",Rows.laid_errors_errorType)] W):Bo W:=by
 have d:laidMet Tryz.prog [] W/\handlesMet Tryz.prog [("errors.errorType",Rows.laid_errors_errorType)] W:=h;obtain⟨a,u,e,f,g,i,j,b⟩:=d.2 _ (fM.2 rfl);have en:a=[101,114,114,111,114]:=(db f).symm;subst en;obtain rfl:=db (X3.symm.trans g);have c:e∈(List.range Tryz.prog.types.size).filter λt=>Tryz.prog.rowNamed t [101,114,114,111,114]:=b0y.2 ⟨pK.2 i,j⟩;rw[X2]at c;obtain rfl:=fM.1 c;have k:typeHandle Tryz.prog 35=.pointer (some ⟨1,35,none⟩):=a9k
 rw[k]at b;unfold Bo;simpa using World.var?_cell XV b 0
def XB(W)(h:W.ShapedOpen Tryz.prog)(n:Bo W):∃tC K,W.heap[0]?=some (.cells #[.iface 288 (.agg #[.pointer (some ⟨1,35,none⟩)])] tC)/\W.heap[1]?=some (.cells ((Array.range K).map λt=>.int .u64 (Int.ofNat t)) 0):=by
 have e:Tryz.prog.globals.size=1:=a9k
 have a:(((begin Tryz.prog (λ_ _=>0) default).world.heap[0]?).bind Obj.row?).map (λp=>p.1.size)=some 1:=a9k
 have i:(begin Tryz.prog (λ_ _=>0) default).world.heap[1]?=some (.cells ((Array.range Tryz.prog.types.size).map λt=>.int .u64 (Int.ofNat t)) 0):=a9k
 cases f:((begin Tryz.prog (λ_ _=>0) default).world.heap[0]?).bind Obj.row? with
 |none=>rw[f]at a;cases a
 |some p=>
  obtain⟨z,t⟩:=p;rw[f]at a;have a:z.size=1:=db a;obtain⟨g,j,b,_⟩:=h.1 0 z t (by rw[e];omega) f;obtain⟨o,r,q,c,d⟩:=h.2 1 (by rw[e];omega) (bz.1 i).1;rw[i]at c;obtain rfl:=db c;rw[e,if_neg a9j]at d;subst d;refine⟨t,_,?_,q⟩;rw[j];have k:g[0]?=some (.iface 288 (.agg #[.pointer (some ⟨1,35,none⟩)])):=by
   have:W.cell? ⟨0,0,none⟩=g[0]? :=by simp[World.cell?,j]
   rw[<-this];exact n
  rw[a]at b;obtain⟨l⟩:=g
  match l,b with
  |[x],_=>simp at k;rw[k]
def NN(os)(c:os.Started)(H)(enc:bD×aj->H)(F):ReturnsInLeavingWide {calm:=true} Tryz.checked os 7 .any (λw a=>(Rows.nearestSpec.pre enc Tryz.prog Tryz.f7 [] false w a/\laidMetH Tryz.prog [("errors.errorType",Rows.laid_errors_errorType)] w)/\sizedMet enc Tryz.prog Tryz.f7 (OpenSpec.ofChange Rows.nearestSpec) false w a) ((OpenSpec.ofChange Rows.nearestSpec).postWith enc Tryz.prog Tryz.f7 F (outsideKept [.timePasses]) false true false):=by
 refine W7 (C:=Tryz.checked) (X:=λw _=>laidMetH Tryz.prog [("errors.errorType",Rows.laid_errors_errorType)] w) (λ_ _ _ hh h=>h.of_heap hh) XC c Tryz.func7
  (a5X (enc:=enc) (C:=Tryz.checked) (os:=os) (X:=λw _=>laidMetH Tryz.prog [("errors.errorType",Rows.laid_errors_errorType)] w) _ #[.slice none 0 0,.slice none 0 0] 8 rfl a9k a9k a9k a9k a9k (WC os _)) ?_
 intro W base a ds gs T r hW J hX f;have b:∀(j:Nat) t v,Tryz.f7.params[j]?=some t->a[j]?=some v->Value.okWide Tryz.prog W .any base t v:=r;have s:(DataW.weightsEach Tryz.prog (Tryz.f7.params.toList++Rows.nearestSpec.plain.varTypes Tryz.prog) (ds++gs)).all (·<=reachBytes)=true:=J;have g:=hW;obtain⟨p,q,U,hV,rfl,av,aP⟩:=hW;have hA:DataW.TrodAll enc Tryz.prog W 0 (λ_=>true) true Tryz.f7.params.toList a.toList ds p:=U;rw[Tryz.params7]at hA b s;obtain⟨v0,v1,d0,d1,V,Y,u,rfl,rfl,h0,h1⟩:=trodAll_two hA;obtain rfl:a=#[v0,v1]:=u;obtain⟨rfl,rfl⟩:=trodVars_none hV;have hw:∀k∈d0.weights Tryz.prog 22,k<=reachBytes:=λk I=>by have:=b0d.1 s k (DataW.weights_mem_each (j:=0) (t:=22) (d:=d0) rfl rfl k I);simpa using this
 have Z:∀k∈d1.weights Tryz.prog 22,k<=reachBytes:=λk I=>by have:=b0d.1 s k (DataW.weights_mem_each (j:=1) (t:=22) (d:=d1) rfl rfl k I);simpa using this
 obtain⟨ar,cr,l,ab,L,M,O⟩:=Jf (b 0 22 v0 rfl rfl) h0 hw (λ_=>rfl);obtain⟨ap,cp,lp,ad,y,z,A⟩:=Jf (b 1 22 v1 rfl rfl) h1 Z (λ_=>rfl);subst ab ad;have ae:∀p,ap=some p->p.block<W.heap.size:=λp hp=>by subst hp;exact a3P (b 1 22 _ rfl rfl)
 have ao:∀x∈V,x.block<W.heap.size:=λx P=>g.lt x (by simp[P]);have aq:∀x∈Y,x.block<W.heap.size:=λx P=>g.lt x (by simp[P]);obtain⟨tC,K,au,Q⟩:=XB W f (XD hX);simp only[List.append_nil]at g;obtain⟨N,R,o,w',t',e1,e2,e3,B⟩:=Each.X5 (cr:=cr) (cp:=cp) L M O y z A au Q ae;refine⟨N,R,o,w',t',e1,e2,e3,Good.mono B λx P=>?_⟩;obtain⟨rfl,I,ho⟩:=P;have D:w'.os=W.os:=congrArg Prod.fst ho;have n:w'.output=W.output:=congrArg Prod.snd ho;have ba:1<W.heap.size:=(bz.1 Q).1;have S:W.heap.size<=w'.heap.size:=by have e:w'.heap[W.heap.size - 1]?=some (W.heap[W.heap.size - 1]'a9h):=(I _ a9h).trans (eY a9h);have:=(bz.1 e).1;omega
 have E:Below W.heap.size W {w' with tape:=W.tape}:=⟨D,rfl,n,S,I⟩;exact⟨⟨_,_,_,_,_,[],g,trodAll_mk1 (shut_bool Tryz.underlying4 _),DataW.TrodAll.of_heap (w:={w' with tape:=W.tape}) (w':=w') rfl (trodAll_mk2 (Below.trod Tryz.H5 a9k (of_decide_eq_true a9k) h0 E ao) (Below.trod Tryz.H5 a9k (of_decide_eq_true a9k) h1 E aq)),rfl,⟨D,n,λi hi=>(E.frame λp=>p∈V++Y/\(p∈[]\/p∈V++Y\/p∈[])).2.2 i hi⟩,λh=>by cases h⟩,D⟩
def NO:Rows.NearestSaid:=
 OpenClaim.holds_of_wide_leaving_time 7 Tryz.f7 rfl rfl rfl rfl rfl rfl rfl ⟨rfl,rfl,rfl,rfl,rfl⟩ rfl rfl rfl rfl rfl a9k Tryz.func7 a9k
  (of_decide_eq_true a9k) (by unfold Func.isWrapper;rw[if_neg (of_decide_eq_false a9k)];exact⟨rfl,rfl⟩)
  (λb a H enc _ F=>NN b a H enc F)
theorem Nearest_holds:Rows.NearestCardSaid:=
 Pz .later true [.handle] true Rows.nearestCard.stood.harness true
  NO a9k nearest_row_tie rfl ⟨rfl,rfl⟩ a9k rfl
  (λf c d b=>by
   obtain rfl:f=7:=db ((show Tryz.prog.funcNamed Rows.nearestRow.func=some 7 by kernel_rfl).symm.trans d)|>.symm;obtain rfl:c=Tryz.f7:=(db (Tryz.func7.symm.trans b)).symm;exact⟨a9k,λj t a=>by
    rw[Tryz.params7]at a;obtain _|_|j:=j
    .obtain rfl:22=t:=by simpa using a
     exact(show Tryz.prog.wantsStandIn 22=false by kernel_rfl)
    .obtain rfl:22=t:=by simpa using a
     exact(show Tryz.prog.wantsStandIn 22=false by kernel_rfl)
    .simp at a⟩)
  a9k
end Go.Proofs.YtdnpeefnobjfaaaGreatDoor
end
