import Derived.ArgAppend
import Derived.Test.YtdnpeefnobjfaaaGreatDoorK18
set_option maxRecDepth 100000
set_option maxHeartbeats 4000000
set_option linter.all false
section
namespace Go.Proofs.q
universe u
open Go.RowKit Go.Shelf Go.Lib
attribute [local go_sem ↓] Go.wp_at_zero Go.wp_at_succ
def pb{w:aa}{base e f n:Nat}{v g}(h:w.ownsRow base e f v n g):∀q,v.ownBlock=some q->base<=q/\q<w.heap.size:=λq a=>by
 obtain⟨b,_⟩|⟨k,c,i,b,d,j,_⟩:=h.2
 .rw[b]at a;simp[Value.ownBlock]at a
 .rw[b]at a;simp[Value.ownBlock]at a;subst a;exact⟨d,(bz.1 j).1⟩
def We(base v)(i d:Nat)(L r w)(p:L.length<=1000000)(z:i<=L.length)(b:base<=w.heap.size)(q:v.ownBlock≠some d)(a:w.ownsRow base 137 7 v L.length (aK L))(j:aE w d (cI r).toArray 137):Calls Gh.prog.{u} 149 #[v,.int .i64 i,.slice (some ⟨d,0,none⟩) 1 1] w λe k=> ∃o,e=.returned o/\k.ownsRow base 137 7 o (L.length+1) (aK (L.take i++r::L.drop i))/\w.grownBy k v.ownBlock:=by
 by_cases h:i=L.length
 .subst h;refine(Wf base v L.length d (aK L) r w p b a j).mono ?_;rintro e k ⟨o,rfl,l,n⟩;refine⟨o,rfl,?_,n⟩;rw[pN,List.drop_length,Kn];exact l
 .obtain⟨t,f,rfl⟩:=dH a;obtain⟨g,rfl⟩:∃g,t=some ⟨g,0,none⟩:=by
   obtain⟨_,h0⟩|⟨g,c,x,j,_⟩:=a.2
   .omega
   .simp at j;exact⟨g,j.1⟩
  have s:d≠g:=λe=>q (by simp[Value.ownBlock,e]);by_cases y:L.length+1<=f
  .refine(Wh base g L.length f i d L r w rfl p a9h y s a j).mono ?_;rintro e k ⟨rfl,l,n⟩;exact⟨_,rfl,l,n⟩
  .refine(Wg base g L.length f i d L r w rfl p a9h a9h b a j).mono ?_;rintro e k ⟨G,rfl,l,n⟩;exact⟨_,rfl,l,n⟩
def eV(L:List Rw)(p:Pf):Nat:=(L.takeWhile λr=>decide (r.addr<p.addr\/r.addr=p.addr/\r.len<p.len)).length
def sU(r p):dQ (aM r) p↔(r.addr<p.addr\/r.addr=p.addr/\r.len<p.len):=by simp[dQ,aM]
def Wn(L p):eV L p<=L.length:=by unfold eV;exact(List.takeWhile_sublist _).length_le
def a0C{L p i}(h:a9x L p i):i=eV L p:=by
 unfold eV;induction L generalizing i with
 |nil=>have:=h.1;simp at this;simp[this]
 |cons r R e=>
  obtain⟨f,c,d⟩:=h;cases i with
  |zero=>have:=d 0 a9i (az _);simp only[a9Q,sU]at this;rw[a9U,if_neg (by simpa using this)];rfl
  |succ i=>have h0:=c 0 a9i a9h;simp only[a9Q,sU]at h0;have:=e (i:=i) ⟨by simpa using f,λj a b=>c (j+1) (by simpa using a) a9h,λj a b=>d (j+1) (by simpa using a) a9h⟩;rw[a9U,if_pos (by simpa using h0),gm,<-this]
def tD(L:List Rw)(n:Rw)(i:Nat):List Rw:=
 match L[i]? with
 |some r=>if aM r=aM n then L.set i (dO r n)else if n.met<16/\L.length<60 then L.take i++jc n::L.drop i else L
 |none=>if n.met<16/\L.length<60 then L.take i++jc n::L.drop i else L
def gD(L:List Rw)(n:Rw):List Rw:=tD L n (eV L (aM n))
def Ly{L n i}(b:i<L.length)(a:i=eV L (aM n))(h:aM L[i]=aM n):gD L n=L.set i (dO L[i] n):=by unfold gD tD;rw[<-a,iM b];simp only[h,if_true]
def LF{L n i}(a:i=eV L (aM n))(h:((L[i]?.map aM)==some (aM n))=false):gD L n=if n.met<16/\L.length<60 then L.take i++jc n::L.drop i else L:=by
 unfold gD tD;rw[<-a];cases b:L[i]? with
 |none=>rfl
 |some r=>
  rw[b]at h;have c: ¬aM r=aM n:=by simpa using h
  simp only[c,if_false]
def a4M(base v L nw w)(hn:L.length<=100000)(P:eX L)(d:base<=w.heap.size)(n:w.ownsRow base 137 7 v L.length (aK L)):Calls Gh.prog.{u} 96 #[v,.agg #[.int .u32 nw.addr,.int .i64 nw.len,.int .i64 nw.tag,.int .i64 nw.met,.int .i64 nw.an]] w λe w'=> ∃v',e=.returned v'/\w'.ownsRow base 137 7 v' (gD L nw).length (aK (gD L nw))/\Below base w w':=by
 obtain⟨Q,y,rfl⟩:=dH n;have F:=(aJ.refl w).alloc (.cells #[.int .u32 nw.addr,.int .i64 nw.len,.int .i64 nw.tag,.int .i64 nw.met,.int .i64 nw.an] 52);have Z:=a3i.{u} Q L.length y L (aM nw) (w.alloc (.cells #[.int .u32 nw.addr,.int .i64 nw.len,.int .i64 nw.tag,.int .i64 nw.met,.int .i64 nw.an] 52)) rfl a9h P (ku (tq n) F.below);simp only[aM]at Z;have bN:=aE.new w #[.int .u32 nw.addr,.int .i64 nw.len,.int .i64 nw.tag,.int .i64 nw.met,.int .i64 nw.an] 52;have C:=ak n;have R:=ak bN;have H:=ak F;clear n bN F P;go_enter Gh.func96,Tryz.ntmps96;go_wp2_with fail;refine Z.mono ?_;rintro e w1 ⟨i,I,rfl,z⟩;have o:i=eV L (aM nw):=a0C I;have S:i<=L.length:=I.1;have f:=(af R).dU z;have a:w1.ownsRow base 137 7 (.slice Q L.length y) L.length (aK L):=cP (af C) (((af H).trans z).below) (az _);have A:=ak ((af H).trans z);have n0:=(f.cell 0).trans (show _=some (.int .u32 nw.addr)from rfl);have n1:=(f.cell 1).trans (show _=some (.int .i64 nw.len)from rfl);have n2:=(f.cell 2).trans (show _=some (.int .i64 nw.tag)from rfl);have n3:=(f.cell 3).trans (show _=some (.int .i64 nw.met)from rfl);have n4:=(f.cell 4).trans (show _=some (.int .i64 nw.an)from rfl);have bc:w.heap.size<w1.heap.size:=f.lt;have ba:=ak f;clear Z z I H C R f;cases B:(L[i]?.map aM==some (⟨nw.addr,nw.len⟩:Pf))with
 |true=>
  have x:(L[i]?.map aM==some (aM nw))=true:=B;clear B;have r:i<L.length:=by refine a9W λh=>?_;rw[pJ h]at x;simp at x
  have T:aM L[i]=aM nw:=by rw[iM r]at x;simpa using x
  have O:=ak (Ly r o T);obtain⟨g,rfl⟩:∃g,Q=some ⟨g,0,none⟩:=by
   obtain⟨_,h0⟩|⟨g,c,ab,hv,_⟩:=a.2
   .omega
   .simp at hv;exact⟨g,hv.1⟩
  have j:base<=g:=(pb a g rfl).1;obtain⟨_,U⟩:=yQ a r;have D:=U i r;simp only[dC]at D;obtain⟨c0,c1,c2,c3,c4,c5,c6⟩:=D;have s:=ak a;have ad:=ak o;clear a U o T x;have hH:=λW=>VM.{u} L[i] nw W;generalize dO L[i] nw=r2 at hH O;generalize hE:L[i]=E at*;clear hE;have j0:(0:Int)<=(i:Int):=a9h
  have j1:(i:Int)<(L.length:Int):=a9h
  go_wp2_with fail;have bb:=gQ.{u}
  go_region_with_o (go_at_call 148;refine(hH _).mono ?_;rintro e w4 ⟨rfl,V⟩;have t:=(aJ.drew (aJ.refl w1)).trans V;have k:=pa (af s) (t.below.block _ (kj (af s)));obtain⟨⟨ab,l,b⟩,_⟩:=yQ k r;obtain⟨u0,s0⟩:=jx l b r 0 a9j;obtain⟨u1,s1⟩:=jx l b r 1 a9j;obtain⟨u2,s2⟩:=jx l b r 2 a9j;obtain⟨u3,s3⟩:=jx l b r 3 a9j;obtain⟨u4,s4⟩:=jx l b r 4 a9j;obtain⟨u5,s5⟩:=jx l b r 5 a9j;obtain⟨u6,s6⟩:=jx l b r 6 a9j;rw[oB]at s0;have z0:=l.frozen (i*7);have z1:=l.frozen (i*7+1);have z2:=l.frozen (i*7+2);have z3:=l.frozen (i*7+3);have z4:=l.frozen (i*7+4);have z5:=l.frozen (i*7+5);have z6:=l.frozen (i*7+6);have ae:=ak k;have ap:=ak t;clear k V t b l)
  all_goals go_wp2
  all_goals go_ret
  all_goals
   refine⟨_,rfl,?_,?_⟩
   .rw[af O,b0V];exact Jv (af ae) r r2
   .have h4:=((af A).trans (af ap)).below.mono d;exact((((((h4.setCell (p:=⟨g,_,none⟩) j _).setCell (p:=⟨g,_,none⟩) j _).setCell (p:=⟨g,_,none⟩) j _).setCell (p:=⟨g,_,none⟩) j _).setCell (p:=⟨g,_,none⟩) j _).setCell (p:=⟨g,_,none⟩) j _).setCell (p:=⟨g,_,none⟩) j _
 |false=>
  have x:(L[i]?.map aM==some (aM nw))=false:=B;clear B;have O:=ak (LF o x);have s:=ak a;have ad:=ak o;clear a o x;by_cases aq:nw.met<16
  .by_cases X:L.length<60
   .have ar:(L.length:Int)<60:=a9h
    have hF:=λW=>BK.{u} nw.addr nw.len nw.tag nw.met nw.an W;go_wp2_with (first|(go_at_call 135;refine(hF _).mono ?_;rintro e Y ⟨rfl,J⟩;have K:=ak ((af A).trans J);have M:=ak (cP (af s) J.below (az _));have au:base<=Y.heap.size:=dt d (af K).below.size;have av:(Value.slice Q L.length y).ownBlock≠some Y.heap.size:=λe=>oC _ (pb (af M) _ e).2;clear J)|(go_at_call 149;refine(We base (.slice Q L.length y) i Y.heap.size L (jc nw) _ a9h S (by rw[World.size_alloc];exact Nat.le_succ_of_le au) av (cP (af M) (bZ Y _) (az _)) (aE.new Y _ _)).mono ?_;rintro e w3 ⟨v3,rfl,N,aP⟩))
    .go_ret;refine⟨v3,rfl,?_,?_⟩
     .rw[af O,if_pos ⟨aq,X⟩];have e1:(L.take i++jc nw::L.drop i).length=L.length+1:=a9l
      rw[e1];exact N
     .have h2:=((af K).alloc (.cells (cI (jc nw)).toArray 137)).below.mono d;exact h2.grown aP (by have:=(af K).below.size;simp;omega) (λq x=>(pb (af M) q x).1)
   .have ar: ¬(L.length:Int)<60:=a9h
    go_wp2;go_ret;refine⟨_,rfl,?_,(af A).below.mono d⟩;rw[af O,if_neg (λh=>X h.2)];exact af s
  .go_wp2;go_ret;refine⟨_,rfl,?_,(af A).below.mono d⟩;rw[af O,if_neg (λh=>by have:=h.1;omega)];exact af s
end Go.Proofs.q
end
section
namespace Go.Proofs.q
universe u
open Go.RowKit Go.Shelf
attribute [local go_sem] Oper.semAt_some
attribute [-go_sem] Builtin.append_
def ig(l:List cR)(k:Nat):aj:=.string (jd (eF 2 (a9r l k)))
def sV{n}(l:List cR)(a:List (mB n)):List aj:=a.map λx=>ig l x.1
theorem Gh.V8:(Gh.prog.{u}.info? 9).map (λi=>(i.zero,i.size,i.bytes))=some (some (.string ⟨#[]⟩),1,16):=by kernel_rfl
def a0A{n}(l a)(y:mB n):sV l (a++[y])=sV l a++[ig l y.1]:=by simp[sV]
def J7(n k)(h:25*k<n+25):(jN n k).map (·.1)=List.range k:=by
 induction k with
 |zero=>rfl
 |succ k a=>rw[J6 n k a9h,nj,a a9h,pL];rfl
def a2r(n):(jN n (aY n)).length=aY n:=by have h:=congrArg List.length (J7 n (aY n) (by unfold aY;omega));simpa using h
def a0z(n l):sV l (jN n (aY n))=(List.range (aY n)).map (ig l):=by rw[<-J7 n (aY n) (by unfold aY;omega),b0R];rfl
def EI{c d r B k cs t e a n v v' s o}(h:aE c k cs t)(b:c.ownsRow r e a v n s)(f:t≠e)(u:(c.alloc o).grownBy d v.ownBlock)(g:B≠k):aE (d.setCell ⟨B,0,none⟩ v') k cs t:=by
 refine aE.other (W:=d) ?_ (p:=⟨B,0,none⟩) g v';refine(u.block k (h.alloc o).lt (λi=>?_)).trans (h.alloc o);obtain⟨rfl,_⟩|⟨w,l,q,rfl,_,j,_⟩:=b.2
 .simp[Value.ownBlock]at i
 .simp[Value.ownBlock]at i;subst i;unfold aE at h;rw[j]at h;simp at h;exact f h.2.symm
def a0e{l n}(a:l.length=n)(k):(a9r l k).length=kU n k:=by simp[a9r,kU,a]
def JB{l k e}(h:e∈a9r l k):e∈l:=List.mem_of_mem_drop (b0u h)
def a0g{l}(h:sf l)(k):sf (a9r l k):=λe a=>h e (JB a)
def TZ{l}(h:∀e∈l,fE e=0):∀k,gM l k=none:=by
 induction l with
 |nil=>intro k;rfl
 |cons e r a=>intro k;unfold gM;rw[if_pos (h e a9i)];exact a (λx b=>h x (by simp[b])) _
def a0d{l}(h:∀e∈l,fE e=0)(k):gM (a9r l k) 0=none:=TZ (λe a=>h e (JB a)) 0
def a0c{w W g l B}(h:nL w g 0 l)(a:Below B w W)(b:g<B)(k):nL W g (25*k*4) (a9r l k):=by
 intro j i;have c:25*k+j<l.length:=by
  have:j<min 25 (l.length - 25*k):=by simpa[a9r]using i
  omega
 obtain⟨d,c1,c2,f⟩:=h (25*k+j) c;have e:(a9r l k)[j]=l[25*k+j]:=by simp[a9r]
 rw[e];have n:0+(25*k+j)*4=25*k*4+j*4:=a9h
 rw[n]at d c1 c2 f;exact⟨(a.cell (p:=⟨g,_,none⟩) b).trans d,(a.cell (p:=⟨g,_,none⟩) b).trans c1,(a.cell (p:=⟨g,_,none⟩) b).trans c2,(a.cell (p:=⟨g,_,none⟩) b).trans f⟩
def a1H(g n l base w)(hn:l.length=n)(bd:n<=1000)(ab:sf l)(hz:∀e∈l,fE e=0)(p:w.ownsRow base 42 4 (.slice (some ⟨g,0,none⟩) n n) n (fe l)):Calls Gh.prog.{u} 92 #[.slice (some ⟨g,0,none⟩) n n] w λe w'=> ∃v,e=.returned v/\w'.ownsRow w.heap.size 9 1 v (aY n) ((List.range (aY n)).map (ig l))/\Below w.heap.size w w':=by
 obtain⟨i0,hi,ad,ae,ao⟩:=info_parts Gh.V8.{u};have E:=Fc (AW p);have F:g<w.heap.size:=Qq (AW p);refine(callsIn_wide (n:=6)).1 ?_;refine callsIn_of_wp_marks Gh.func92 rfl trivial ?_ rfl;simp only[Tryz.ntmps92,fV,gm,ir,Nat.reduceAdd,Nat.reduceSub,kE,kF,kM,kI,iu,fU]
 gi_wp2_with (refine⟨trivial,?_⟩;gi_at_call 143;refine(callsIn_wide.2 (PU _ _ _ _)).mono ?_;rintro e w' ⟨rfl,rfl⟩)
 have U:=(Boxed.new w 186 (.slice none 0 0));have H:Below w.heap.size w (((w.alloc (.cells #[.slice none 0 0] 186)).alloc (.cells #[.slice (some ⟨g,0,none⟩) n n] 43)).alloc (.cells #[.int .i64 25] 3)):=(((aJ.refl w).alloc _).alloc _).alloc _|>.below
 have U:=(U.alloc (.cells #[.slice (some ⟨g,0,none⟩) n n] 43)).alloc (.cells #[.int .i64 25] 3);have V:=(aE.new (w.alloc (.cells #[.slice none 0 0] 186)) #[.slice (some ⟨g,0,none⟩) n n] 43).alloc (.cells #[.int .i64 25] 3);have Z:=aE.new ((w.alloc (.cells #[.slice none 0 0] 186)).alloc (.cells #[.slice (some ⟨g,0,none⟩) n n] 43)) #[.int .i64 25] 3;simp only[World.size_alloc]at V Z;have cS:=(V.cell 0).trans (show _=some (.slice (some ⟨g,0,none⟩) n n)from rfl);have cN:=(Z.cell 0).trans (show _=some (.int .i64 25)from rfl);have ap:(((w.alloc (.cells #[.slice none 0 0] 186)).alloc (.cells #[.slice (some ⟨g,0,none⟩) n n] 43)).alloc (.cells #[.int .i64 25] 3)).heap.size=w.heap.size+3:=a9i
 obtain⟨W0,I⟩:∃W0,((w.alloc (.cells #[.slice none 0 0] 186)).alloc (.cells #[.slice (some ⟨g,0,none⟩) n n] 43)).alloc (.cells #[.int .i64 25] 3)=W0:=⟨_,rfl⟩;rw[I]at U H ap cS cN V Z⊢;clear I;refine wpIn_rangeFunc_ownH rfl a9j (gf:=183) (lb:=#[.pointer (some ⟨w.heap.size+1,0,none⟩),.pointer (some ⟨w.heap.size+1+1,0,none⟩)]) rfl trivial (enters_of Gh.func183 a9k rfl)
  (PV (6 - 1) a9j (w.heap.size+1) (w.heap.size+1+1) g 0 n n (az _) a9h W0 a9h a9h cS cN) KC.t (KC.b a9h a9h) (Below.refl _ _) (λ_=>rfl)
  (λa W=>(∃v,Boxed W w.heap.size 186 v/\W.ownsRow w.heap.size 9 1 v a.length (sV l a)/\True)/\(aE W (w.heap.size+1) #[.slice (some ⟨g,0,none⟩) n n] 43/\aE W (w.heap.size+1+1) #[.int .i64 25] 3)/\Below w.heap.size w W)
  (λ_ _ _=>False)
  (OwnFrom.and (Own.from (holdsRow_own w.heap.size w.heap.size 186 9 1 (λ(a:List (mB n))=>a.length) (λ(a:List (mB n))=>sV l a) (λ_ _=>True)) _) (OwnFrom.and (OwnFrom.and (Own.from (aE.own (β:=List (mB n)) _ (λ_=>_) _) _) (Own.from (aE.own (β:=List (mB n)) _ (λ_=>_) _) _)) (ownFrom_below (az _) a9h)))
  (λ_ _ _ _ _ hs _ _=>hs)
  ⟨⟨_,U,World.ownsRow_nil _ _ _ _,trivial⟩,⟨V,Z⟩,H⟩
  (λy a' W=>a'={tmps:=#[.slice (some ⟨g,0,none⟩) n n,undef,.slice none 0 0,.pointer (some ⟨w.heap.size,0,none⟩),.slice (some ⟨g,25*y.1*4,none⟩) (kU n y.1) (kU n y.1),.slice (some ⟨g,0,none⟩) n n,.func (.func 183) #[] #[.pointer (some ⟨w.heap.size+1,0,none⟩),.pointer (some ⟨w.heap.size+1+1,0,none⟩)],.slice (some ⟨g,25*y.1*4,none⟩) (kU n y.1) (kU n y.1),undef,undef,undef,undef,undef,undef],defers:=[]})
  ?hAx ?assign ?body ?done ?stop
 case hAx=>intro y a' _ X Y row hs hg hr;exact hs
 case assign=>
  rintro l' a y W K ⟨⟨v,q,d,_⟩,aq,o⟩ J;simp only[zt]
  gi_wp2
  exact J _ _ ((KeepsOthers.refl _).from _) ⟨rfl,rfl⟩ ⟨⟨v,q,d,trivial⟩,aq,o⟩ rfl
 case body=>
  rintro l' a y a' W hl ⟨r,hr⟩ ⟨⟨v,q,d,_⟩,⟨L,M⟩,o⟩ rfl bl;obtain⟨av,cv,rfl⟩:=dH d;have ba:=gQ.{u};have k:Below w.heap.size w W.drew:=o.drew;have N:nL W.drew g (25*y.1*4) (a9r l y.1):=a0c E k F y.1;have ar:=a6Y.{u} g (25*y.1*4) (kU n y.1) (kU n y.1) (a9r l y.1) W.drew (a0g ab y.1) (a0e hn y.1) (by unfold kU;omega) (bL F k.size) (a0d hz y.1) N;have c0:=q.cell;have HV:=ak q;have O:=ak d;have Q:=ak o;have au:=ak (And.intro L M);have bn:a.length<1000:=a9h
  clear q d o N k L M
  gi_wp2
  gi_region_with_o (refine⟨trivial,?_⟩;gi_at_call 85;refine(CallsIn.inRound l' (callsIn_wide.2 ar)).mono ?_;rintro e w1 ⟨rfl,aP⟩;have i:Below W.heap.size W w1:=Below.trans (Below.refl _ W).drew aP;have s:Boxed w1 w.heap.size 186 (.slice av a.length cv):=(af HV).kept (B1 (r:=none) i) a9i;have f:=cP (af O) i (az _);have R:w.heap.size<=w1.heap.size:=dt (af Q).size i.size;obtain⟨g5,c5,w5,x,z,A,bb,bc⟩:=run_append_lies (P:=Gh.prog.{u}) (w1.alloc (.cells #[ig l y.1] 9)) 186 186 w.heap.size 9 i0 (.string ⟨#[]⟩) 1 16 Gh.underlying186 hi ad ae ao rfl a9j _ _ _ (f.alloc _) ⟨w1.heap.size,0,none⟩ 1 1 [ig l y.1] rfl (by exact World.news_of_block (heap_alloc_new w1 _)) (by intro u hu;simp at hu;subst hu;rfl) a9j (by unfold maxLen;omega) a9h a9l _ rfl;obtain⟨q1,q2,q3,q4,q5⟩:=s.appended a9j f R (az _) z A;have c1:=s.cell;have c2:=(s.alloc (.cells #[.string (jd (eF 2 (a9r l y.1)))] 9)).cell;have bo:=q1.cell;have f5:=q1.frozen;simp only[ig]at x)
  all_goals
   have C:=af au;have k:=af Q;have S:w.heap.size≠w.heap.size+1:=a9h
   have T:w.heap.size≠w.heap.size+1+1:=a9h
   have h1:=EI (B:=w.heap.size) (v':=.slice (some ⟨g5,0,none⟩) (a.length+1) c5) (C.1.below i C.1.lt) f a9j A S;have h2:=EI (B:=w.heap.size) (v':=.slice (some ⟨g5,0,none⟩) (a.length+1) c5) (C.2.below i C.2.lt) f a9j A T;exact⟨(KeepsFrom.of_grownBy (B1 (r:=none) i) (λj e=>by cases e)).trans (q4.from _),⟨h1.trans C.1.symm,h2.trans C.2.symm⟩,⟨_,q2,by rw[a0A,iN];exact q3,trivial⟩,⟨h1,h2⟩,k.trans ((i.mono k.size).trans q5)⟩
 case done=>
  rintro D ys W hD rfl ⟨⟨v,q,d,_⟩,_,hB⟩ J;have hc:=q.cell
  gi_wp2
  refine⟨a9i,.inl ⟨_,_,rfl,run_takeDeferred J,?_⟩⟩;refine⟨_,results_tmp rfl _ _ _,v,rfl,?_,hB.trans (belowK_b (w:=w) (az _) W D _ _ a9h J rfl rfl)⟩;have h0:=ownsRow_putObj d (.deferred none) J rfl;rw[a2r,a0z]at h0;exact h0
 case stop=>rintro D c a W _ _ h _;exact h.elim
end Go.Proofs.q
end
section
namespace Go.Proofs.q
universe u
open Go.RowKit Go.Shelf
attribute [local go_sem ↓] Go.wp_at_zero Go.wp_at_succ
def mL(to:Int)(l:List cR)(k:Nat):List aj:=(List.range k).flatMap λj=> [.int .i64 to,ig l j]
def Z0(to l k):mL to l (k+1)=mL to l k++[.int .i64 to,ig l k]:=by simp[mL,pL]
theorem Gh.sH:(Gh.prog.{u}.info? 64).map (λi=>(i.zero,i.size,i.bytes))=some (some (.agg #[.int .i64 0,.string ⟨#[]⟩]),2,24):=by kernel_rfl
def jb(L:List Rw):Prop:=∀r∈L,(0<=r.addr/\r.addr<4294967296)/\dn r.addr r.len=true/\kz r.tag=true/\fH r.met=true
def VG{L}(h:jb L)(to):sf (cT to L)/\∀e∈cT to L,fE e=0:=by
 constructor
 .intro e a;obtain⟨r,b,rfl⟩:=eS.1 a;exact(h r b).1
 .intro e a;obtain⟨r,b,rfl⟩:=eS.1 a;obtain⟨_,d,f,g⟩:=h r b;unfold fE dV;simp only[d,f];by_cases c:r.an=to
  .simp[c,fH]
  .simp[c,g]
def DS(to ao cap L w)(hn:L.length<=1000)(h:jb L)(R:gy w ao L):Calls Gh.prog.{u} 43 #[.int .i64 to,.agg #[.slice ao L.length cap]] w λe w'=> ∃v,e=.returned v/\w'.ownsRow w.heap.size 64 2 v (aY L.length) (mL to (cT to L) (aY L.length))/\Below w.heap.size w w':=by
 obtain⟨iO,D,E,F,H⟩:=info_parts Gh.sH.{u};obtain⟨z,S⟩:=VG h to;have n:(cT to L).length=L.length:=by simp[cT]
 have T:=a6X.{u} to ao cap L (w.alloc (.cells #[.slice ao L.length cap] 120)) a9h (ku R (bZ _ _));have A:=ak z;have U:=ak S;have V:=ak n;clear R h z S n;go_enter Gh.func43,Tryz.ntmps43;go_wp2_with (go_at_call 90;refine T.mono ?_;rintro e I ⟨g1,rfl,j,B⟩);have W:=a1H.{u} g1 L.length (cT to L) _ I (af V) hn (af A) (af U) j;have l:=ak ((bZ w (.cells #[.slice ao L.length cap] 120)).trans (B.mono a9i));clear B j T A U V;refine W.mono ?_;rintro e y ⟨v2,rfl,a,r⟩;obtain⟨a2,c2,rfl⟩:=dH a;have o:=(af l).trans (r.mono (af l).size);have J:aY L.length<=1000:=by unfold aY;omega
 obtain⟨N,K⟩:∃N,aY L.length=N:=⟨_,rfl⟩;rw[K]at a J⊢;have HN:=ak K;clear K;have s:=ak a;have ab:I.heap.size<=y.heap.size:=r.size;have ae:w.heap.size<=I.heap.size:=(af l).size;clear r W a l;go_wp2_with fail
 go_loopw [6,16] (λd i wr=> ∃k:Nat,k<=N/\i=.int .i64 k/\wr.ownsRow y.heap.size 64 2 d k (mL to (cT to L) k)/\Below y.heap.size y wr) (λ_ i _=>N - (intOf i).toNat)
 case atStart=>exact⟨0,a9h,rfl,World.ownsRow_nil _ _ _ _,Below.refl _ _⟩
 case round=>
  obtain⟨k,hk,rfl,b,C⟩:=hrel;by_cases M:k<N
  .obtain⟨g2,rfl⟩:∃g,a2=some ⟨g,0,none⟩:=by
    obtain⟨_,h0⟩|⟨g,c,ap,X,_⟩:=(af s).2
    .omega
    .simp at X;exact⟨g,X.1⟩
   have O:=qx (af s) k (ig (cT to L) k) (by simp[M]);rw[Addr.add_lit,dC]at O;have m3:=(C.cell (p:=⟨g2,k,none⟩) (kj (af s))).trans O;obtain⟨ad,cd,rfl⟩:=dH b;have f:=ak b;have Y:=ak C;have aq:y.heap.size<=wr.heap.size:=C.size;have j0:(0:Int)<=(k:Int):=a9h
   have j1:(k:Int)<(N:Int):=a9h
   clear b C O;obtain⟨sb,t⟩:∃sb,ig (cT to L) k=.string sb:=⟨_,rfl⟩;rw[t]at m3;have P:=ak t;clear t;go_wp2_with (at_builtin;go_loud (refine wpList_append_own _ rfl (.tmp 20) (.tmp 24) 46 rfl y.heap.size 64 iO (.agg #[.int .i64 0,.string ⟨#[]⟩]) 2 24 Gh.underlying46 D E F H rfl a9j _ _ _ rfl ((af f).alloc _) ⟨wr.heap.size,0,none⟩ 1 1 [.int .i64 to,.string sb] rfl rfl (by exact World.news_of_block (heap_alloc_new wr _)) (by intro u Z;simp at Z;obtain rfl|rfl:=Z<;>rfl) (by unfold maxLen;omega) a9h a9l ?_;intro v' w5 x Q _))
   go_roundw
   case rel=>refine⟨k+1,a9h,by go_num,by rw[Z0,af P];exact x,?_⟩;exact((af Y).alloc (af Y).size _).grown Q a9l (λq hq=>(pb (af f) q hq).1)
   case measure=>simp[intOf];omega
  .obtain rfl:k=N:=a9h
   have f:=ak b;clear b;go_wp2;go_ret;exact⟨_,rfl,by rw[af HN];exact dY (af f) a9h,o.trans (C.mono o.size)⟩
end Go.Proofs.q
end
section
namespace Go.Proofs.q
universe u
open Go.RowKit Go.Shelf Go.Lib
attribute [local go_sem ↓] Go.wp_at_zero Go.wp_at_succ
def U5(n:Nat)(w)(h0:0<n)(v:n<=100000):Calls Gh.prog.{u} 211 #[.slice none 0 0,.int .i64 n] w λe w'=> ∃c,e=.returned (.slice (some ⟨w.heap.size,0,none⟩) 0 c)/\n<=c/\w'.ownsRow w.heap.size 64 2 (.slice (some ⟨w.heap.size,0,none⟩) 0 c) 0 []/\Below w.heap.size w w':=by
 obtain⟨r,i,j,k,f⟩:=info_parts Gh.sH.{u};have g:(Builtin.firstCells r.size 0 (.slice none 0 0)).run Gh.prog.{u} w.drew=.ok ([]:List aj).toArray w.drew:=run_firstCells_none _ _ _ _ _;have d:∀l,(Builtin.append_ #[46,3] l #[.slice none 0 0,.int .i64 n]).run Gh.prog.{u} w=
   .ok (.slice (some ⟨w.heap.size,0,none⟩) (0+n) (grownCap w (0+n) 0 64)) (w.drew.alloc (.cells (([]:List aj).toArray++Builtin.zeroCells (Value.agg #[.int .i64 0,.string ⟨#[]⟩]).cells n++Builtin.zeroCells (Value.agg #[.int .i64 0,.string ⟨#[]⟩]).cells (grownCap w (0+n) 0 64 - (0+n))) 64)):=λl=>
  Lib.run_append_grow_zeros w 46 3 l 64 r _ .i64 .i64 Gh.underlying46 Gh.underlying3 i j none 0 0 [] g n h0 (by rw[k];omega) a9h a9h (by rw[f];omega) (by rw[f];exact growslice_fits a9h a9h)
 simp only[dC]at d;have o:n<=grownCap w n 0 64:=grownCap_ge w _ _ _;have p:=grownCap_le_maxLen w n 0 64 (by unfold maxLen;omega);generalize grownCap w n 0 64=G at*;obtain⟨a,b⟩:∃a:Array aj,a=([]:List aj).toArray++Builtin.zeroCells (Value.agg #[.int .i64 0,.string ⟨#[]⟩]).cells n++Builtin.zeroCells (Value.agg #[.int .i64 0,.string ⟨#[]⟩]).cells (G - n):=⟨_,rfl⟩;rw[<-b]at d;have h:a.size=G*2:=by rw[b];simp only[a9Z,fV,ir,Builtin.zeroCells,Value.cells,pG,b1p];show 0+n*2+(G - n)*2=G*2;omega
 have s:(w.drew.alloc (.cells a 64)).heap[w.heap.size]?=some (.cells a 64 (0,0)):=World.alloc_heap_new w.drew _;have t:=ak s;have q:=ak h;clear b s h;have x: ¬((n:Int)<0):=a9h
 have y:(n:Int)>0:=a9h
 go_enter Gh.func211,Tryz.ntmps211;go_wp2_with (at_builtin;refine Lib.wpList_append_run _ rfl _ _ _ _ rfl _ _ rfl rfl _ _ (d _) ?_);go_ret;refine⟨G,rfl,o,⟨a9i,.inr ⟨_,_,a,rfl,az _,af t,a9h,p,af q,a9i⟩⟩,?_⟩;exact((Below.refl _ _).drew).alloc (az _) _
def U4(w):Calls Gh.prog.{u} 211 #[.slice none 0 0,.int .i64 0] w λe a=>e=.returned (.slice none 0 0)/\a=w:=by go_enter Gh.func211,Tryz.ntmps211;go_wp2;go_ret;exact⟨rfl,rfl⟩
def T8(vals:Nat->List aj)(k):(List.range (k+1)).flatMap vals=(List.range k).flatMap vals++vals k:=by simp[pL]
def Qj(N n bt cap base)(tv:Nat->aj)(vals w)(I:0<N)(hN:N<=100)(J:0<n)(hn:n<=100)(X:∀i,i<N->w.cell? ⟨bt,i,none⟩=some (tv i))(K:∀i,i<N->w.ownsRow base 64 2 (tv i) n (vals i))(F:∀i,i<N->∀u∈vals i,u.oneCell'=true):Calls Gh.prog.{u} 156 #[.slice (some ⟨bt,0,none⟩) N cap] w λe w'=> ∃v,e=.returned v/\w'.ownsRow w.heap.size 64 2 v (N*n) ((List.range N).flatMap vals)/\Below w.heap.size w w':=by
 obtain⟨iO,L,ab,M,ad⟩:=info_parts Gh.sH.{u};have x:∀i,i<N->∃g c,tv i=.slice (some ⟨g,0,none⟩) n c/\g<w.heap.size:=by
  intro i O;have h:=K i O;obtain⟨_,h0⟩|⟨g,c,ae,F,_,H,_⟩:=h.2
  .omega
  .exact⟨g,c,F,(bz.1 H).1⟩
 have q:∀k,k<=N->k*n<=10000:=λk P=>dt (Nat.mul_le_mul (dt P hN) hn) a9h;have y:=ak x;have Y:=ak X;have HO:=ak K;have HV:=ak F;clear x X K F;go_enter Gh.func156,Tryz.ntmps156;go_wp2_with fail
 go_loopw [3,11] (λs i wr=> ∃k:Nat,k<=N/\i=.int .i64 k/\s=.int .i64 (k*n:Nat)/\wr=w) (λ_ i _=>N - (RowKit.intOf i).toNat)
 case atStart=>exact⟨0,a9h,rfl,a9i,rfl⟩
 case round=>
  obtain⟨k,P,rfl,rfl,Z⟩:=hrel;have Q:=Z.symm;subst Q;clear Z;by_cases z:k<N
  .obtain⟨g,c,l,H⟩:=af y k z;have A:=af Y k z;rw[l]at A;have j0:(0:Int)<=(k:Int):=a9h
   have j1:(k:Int)<(N:Int):=a9h
   have b1:=q k P;have j2: ¬(((k*n:Nat):Int)+(n:Int)<0):=a9h
   have j3:IntKind.i64.wrap (((k*n:Nat):Int)+(n:Int))=((k*n:Nat):Int)+(n:Int):=wrap_small _ a9h a9h;go_wp2
   go_roundw
   case rel=>exact⟨k+1,a9h,by go_num,by rw[b0r];simp,trivial⟩
   case measure=>simp[RowKit.intOf];omega
  .obtain rfl:k=N:=a9h
   have R:0<k*n:=b1B I J;have b1:=q k (az _);go_wp2_with (go_at_call 211;refine(U5 (k*n) _ R a9h).mono ?_;rintro e w1 ⟨cp,rfl,ao,r,S⟩)
   go_loopw [6,27] (λd i w2=> ∃j:Nat,j<=k/\i=.int .i64 j/\d=.slice (some ⟨w.heap.size,0,none⟩) (j*n) cp/\w2.ownsRow w.heap.size 64 2 (.slice (some ⟨w.heap.size,0,none⟩) (j*n) cp) (j*n) ((List.range j).flatMap vals)/\Below w.heap.size w w2) (λ_ i _=>k - (RowKit.intOf i).toNat)
   case atStart=>exact⟨0,a9h,rfl,a9i,by simpa using r,S⟩
   case round=>
    obtain⟨j,hj,rfl,rfl,b,B⟩:=hrel;by_cases a:j<k
    .obtain⟨g,c,l,H⟩:=af y j a;have A:=af Y j a;rw[l]at A;have T:bt<w.heap.size:=World.block_lt_of_cell? w _ A;have c1:=(B.cell (p:=⟨bt,j,none⟩) T).trans A;have o:=af HO j a;rw[l]at o;have hl:=o.1;have C:∀i u,(vals j)[i]?=some u->wr.cell? ((⟨g,0,none⟩:aF).add i)=some u:=λi u O=>by have:=qx o i u O;rw[Addr.add_lit,dC]at this⊢;exact(B.cell (p:=⟨g,i,none⟩) H).trans this
     have D:=af HV j a;have E:j*n+n<=cp:=by have:(j+1)*n<=k*n:=b0a _ a;rw[b0r]at this;omega
     have HL:=ak hl;have U:=ak C;have V:=ak D;have f:=ak b;have HB:=ak B;clear hl C D b B o;have j0:(0:Int)<=(j:Int):=a9h
     have j1:(j:Int)<(k:Int):=a9h
     go_wp2_with (at_builtin;go_loud (refine wpList_append_fits _ rfl (.tmp 31) (.tmp 32) 46 rfl w.heap.size 64 iO 2 Gh.underlying46 L M w.heap.size (j*n) cp _ rfl (af f) ⟨g,0,none⟩ n c (vals j) rfl (af HL) (af U) (af V) E ?_;intro w3 t W))
     go_roundw
     case rel=>
      refine⟨j+1,a9h,by go_num,by rw[b0r],?_,?_⟩
      .rw[b0r,T8];exact t
      .exact(af HB).grown W (af HB).size a9i
     case measure=>simp[RowKit.intOf];omega
    .obtain rfl:j=k:=a9h
     have f:=ak b;clear b;go_wp2;go_ret;exact⟨_,rfl,af f,B⟩
def E8(N bt cap w)(D:N<=100)(q:∀i,i<N->∃b c,w.cell? ⟨bt,i,none⟩=some (.slice b 0 c)):Calls Gh.prog.{u} 156 #[.slice (some ⟨bt,0,none⟩) N cap] w λe w'=>e=.returned (.slice none 0 0)/\Below w.heap.size w w':=by
 have r:=ak q;clear q;go_enter Gh.func156,Tryz.ntmps156;go_wp2_with fail
 go_loopw [3,11] (λs i wr=> ∃k:Nat,k<=N/\i=.int .i64 k/\s=.int .i64 0/\wr=w) (λ_ i _=>N - (RowKit.intOf i).toNat)
 case atStart=>exact⟨0,a9h,rfl,rfl,rfl⟩
 case round=>
  obtain⟨k,E,rfl,rfl,f⟩:=hrel;have a:=f.symm;subst a;clear f;by_cases n:k<N
  .obtain⟨b,c,v⟩:=af r k n;have x:(0:Int)<=(k:Int):=a9h
   have y:(k:Int)<(N:Int):=a9h
   go_wp2
   go_roundw
   case rel=>exact⟨k+1,a9h,by go_num,rfl,trivial⟩
   case measure=>simp[RowKit.intOf];omega
  .obtain rfl:k=N:=a9h
   go_wp2_with (go_at_call 211;refine(U4 _).mono ?_;rintro e F ⟨rfl,g⟩;have h:=g.symm;subst h;clear g)
   go_loopw [6,27] (λd i z=> ∃j:Nat,j<=k/\i=.int .i64 j/\d=.slice none 0 0/\z=w) (λ_ i _=>k - (RowKit.intOf i).toNat)
   case atStart=>exact⟨0,a9h,rfl,rfl,rfl⟩
   case round=>
    obtain⟨j,H,rfl,rfl,f⟩:=hrel;have a:=f.symm;subst a;clear f;by_cases l:j<k
    .obtain⟨b,c,v⟩:=af r j l;have x:(0:Int)<=(j:Int):=a9h
     have y:(j:Int)<(k:Int):=a9h
     have o:∀t,(Builtin.append_ #[46,46] t #[.slice none 0 0,.slice b 0 c]).run Gh.prog.{u} w=.ok (.slice none 0 0) w:=λt=>by obtain⟨I,p,A,B,C⟩:=info_parts Gh.sH.{u};cases b<;>simp[Builtin.append_,run_underlying Gh.underlying46,sizeOf,typeInfo,p,Builtin.lenOf,Builtin.firstCells,loadCells,loadCellsFrom,Result.andThen]
     go_wp2_with (at_builtin;refine Lib.wpList_append_run _ rfl _ _ _ _ rfl _ _ rfl rfl _ _ (o _) ?_)
     go_roundw
     case rel=>exact⟨j+1,a9h,by go_num,rfl,trivial⟩
     case measure=>simp[RowKit.intOf];omega
    .obtain rfl:j=k:=a9h
     go_wp2;go_ret;exact⟨rfl,Below.refl _ _⟩
def l6(a:Array aj):Nat->List aj->Array aj
 |_,[]=>a
 |o,v::r=>l6 (a.setIfInBounds o v) (o+1) r
theorem H6:∀b a o,(l6 a o b).size=a.size
 |[],_,_=>rfl
 |v::r,a,o=>by rw[l6,H6 r];simp
def a3y{w:aa}{b o a e v}(h:w.heap[b]?=some (.cells a e)):(w.setCell ⟨b,o,none⟩ v).heap[b]?=some (.cells (a.setIfInBounds o v) e):=by simp[World.setCell,kD,h]
theorem H7{b e}:∀c o (w:aa) (a),w.heap[b]?=some (.cells a e)->(w.setCells b o c).heap[b]?=some (.cells (l6 a o c) e)
 |[],_,_,_,h=>h
 |v::r,o,w,a,h=>H7 r (o+1) _ _ (a3y h)
theorem nU{b}:∀a o (w:aa),(w.setCells b o a).heap.size=w.heap.size
 |[],_,_=>rfl
 |v::r,o,w=>by rw[World.setCells,nU r];simp[World.setCell]
def pC(n G:Nat):Array aj:=([]:List aj).toArray++Builtin.zeroCells (Value.agg #[.int .i64 0,.string ⟨#[]⟩]).cells n++Builtin.zeroCells (Value.agg #[.int .i64 0,.string ⟨#[]⟩]).cells (G - n)
def a8a{n G}(h:n<=G):(pC n G).size=G*2:=by unfold pC;simp only[a9Z,fV,ir,Builtin.zeroCells,Value.cells,pG,b1p];show 0+n*2+(G - n)*2=G*2;omega
def iD(n N G:Nat)(vals:Nat->List aj):Nat->Array aj
 |0=>pC (N*n) G
 |j+1=>l6 (iD n N G vals j) (j*n*2) (vals j)
theorem EQ{n N G vals}(h:N*n<=G):∀j,(iD n N G vals j).size=G*2
 |0=>a8a h
 |j+1=>by rw[iD,H6,EQ h j]
def U3(n:Nat)(w)(h0:0<n)(r:n<=100000):Calls Gh.prog.{u} 211 #[.slice none 0 0,.int .i64 n] w λe o=>e=.returned (.slice (some ⟨w.heap.size,0,none⟩) 0 (grownCap w n 0 64))/\o=w.drew.alloc (.cells (pC n (grownCap w n 0 64)) 64):=by
 obtain⟨l,i,j,k,f⟩:=info_parts Gh.sH.{u};have g:(Builtin.firstCells l.size 0 (.slice none 0 0)).run Gh.prog.{u} w.drew=.ok ([]:List aj).toArray w.drew:=run_firstCells_none _ _ _ _ _;have b:∀c,(Builtin.append_ #[46,3] c #[.slice none 0 0,.int .i64 n]).run Gh.prog.{u} w=
   .ok (.slice (some ⟨w.heap.size,0,none⟩) (0+n) (grownCap w (0+n) 0 64)) (w.drew.alloc (.cells (([]:List aj).toArray++Builtin.zeroCells (Value.agg #[.int .i64 0,.string ⟨#[]⟩]).cells n++Builtin.zeroCells (Value.agg #[.int .i64 0,.string ⟨#[]⟩]).cells (grownCap w (0+n) 0 64 - (0+n))) 64)):=λc=>
  Lib.run_append_grow_zeros w 46 3 c 64 l _ .i64 .i64 Gh.underlying46 Gh.underlying3 i j none 0 0 [] g n h0 (by rw[k];omega) a9h a9h (by rw[f];omega) (by rw[f];exact growslice_fits a9h a9h)
 simp only[dC]at b;have p:n<=grownCap w n 0 64:=grownCap_ge w _ _ _;have q:=grownCap_le_maxLen w n 0 64 (by unfold maxLen;omega);generalize grownCap w n 0 64=G at*;obtain⟨d,a⟩:∃d:Array aj,d=pC n G:=⟨_,rfl⟩;rw[<-a];have h:∀c,(Builtin.append_ #[46,3] c #[.slice none 0 0,.int .i64 n]).run Gh.prog.{u} w=.ok (.slice (some ⟨w.heap.size,0,none⟩) n G) (w.drew.alloc (.cells d 64)):=λc=>by rw[a];exact b c
 clear b a;have s: ¬((n:Int)<0):=a9h
 have t:(n:Int)>0:=a9h
 go_enter Gh.func211,Tryz.ntmps211;go_wp2_with (at_builtin;refine Lib.wpList_append_run _ rfl _ _ _ _ rfl _ _ rfl rfl _ _ (h _) ?_);go_ret;exact⟨rfl,rfl⟩
def Qi(N n bt cap base)(tv:Nat->aj)(vals w)(A:0<N)(hN:N<=100)(B:0<n)(hn:n<=100)(hc:∀i,i<N->w.cell? ⟨bt,i,none⟩=some (tv i))(T:∀i,i<N->w.ownsRow base 64 2 (tv i) n (vals i))(R:∀i,i<N->∀u∈vals i,u.oneCell'=true):Calls Gh.prog.{u} 156 #[.slice (some ⟨bt,0,none⟩) N cap] w λe w'=>e=.returned (.slice (some ⟨w.heap.size,0,none⟩) (N*n) (grownCap w (N*n) 0 64))/\w'.heap[w.heap.size]?=some (.cells (iD n N (grownCap w (N*n) 0 64) vals N) 64)/\w'.heap.size=w.heap.size+1/\Below w.heap.size w w':=by
 obtain⟨iO,U,ao,x,ap⟩:=info_parts Gh.sH.{u};have C:∀i,i<N->∃g c,tv i=.slice (some ⟨g,0,none⟩) n c/\g<w.heap.size:=by
  intro i z;have h:=T i z;obtain⟨_,h0⟩|⟨g,c,aq,R,_,S,_⟩:=h.2
  .omega
  .exact⟨g,c,R,(bz.1 S).1⟩
 have o:∀k,k<=N->k*n<=10000:=λk V=>dt (Nat.mul_le_mul (dt V hN) hn) a9h;have b:=U3.{u} (N*n) w (b1B A B) (dt (o N (az _)) a9h);have W:N*n<=grownCap w (N*n) 0 64:=grownCap_ge w _ _ _;generalize grownCap w (N*n) 0 64=cp at*;have l:Calls Gh.prog.{u} 211 #[.slice none 0 0,.int .i64 (N*n:Nat)] w λe w1=>e=.returned (.slice (some ⟨w.heap.size,0,none⟩) 0 cp)/\w1.heap[w.heap.size]?=some (.cells (iD n N cp vals 0) 64)/\w1.heap.size=w.heap.size+1/\Below w.heap.size w w1:=by refine b.mono ?_;rintro e w1 ⟨rfl,rfl⟩;refine⟨rfl,World.alloc_heap_new w.drew _,?_,((Below.refl _ _).drew).alloc (az _) _⟩;show(w.heap.push _).size=_;simp
 have y:=ak l;clear b l;have D:=ak C;have HC:=ak hc;have HO:=ak T;have HV:=ak R;clear C hc T R;go_enter Gh.func156,Tryz.ntmps156;go_wp2_with fail
 go_loopw [3,11] (λs i wr=> ∃k:Nat,k<=N/\i=.int .i64 k/\s=.int .i64 (k*n:Nat)/\wr=w) (λ_ i _=>N - (RowKit.intOf i).toNat)
 case atStart=>exact⟨0,a9h,rfl,a9i,rfl⟩
 case round=>
  obtain⟨k,V,rfl,rfl,hw⟩:=hrel;have X:=hw.symm;subst X;clear hw;by_cases E:k<N
  .obtain⟨g,c,r,S⟩:=af D k E;have F:=af HC k E;rw[r]at F;have j0:(0:Int)<=(k:Int):=a9h
   have j1:(k:Int)<(N:Int):=a9h
   have b1:=o k V;have j2: ¬(((k*n:Nat):Int)+(n:Int)<0):=a9h
   have j3:IntKind.i64.wrap (((k*n:Nat):Int)+(n:Int))=((k*n:Nat):Int)+(n:Int):=wrap_small _ a9h a9h;go_wp2
   go_roundw
   case rel=>exact⟨k+1,a9h,by go_num,by rw[b0r];simp,trivial⟩
   case measure=>simp[RowKit.intOf];omega
  .obtain rfl:k=N:=a9h
   have ar:0<k*n:=b1B A B;have b1:=o k (az _);have b:=af y;go_wp2_with (go_at_call 211;refine b.mono ?_;rintro e w1 ⟨rfl,Y,Z,ab⟩)
   go_loopw [6,27] (λd i w2=> ∃j:Nat,j<=k/\i=.int .i64 j/\d=.slice (some ⟨w.heap.size,0,none⟩) (j*n) cp/\w2.heap[w.heap.size]?=some (.cells (iD n k cp vals j) 64)/\w2.heap.size=w.heap.size+1/\Below w.heap.size w w2) (λ_ i _=>k - (RowKit.intOf i).toNat)
   case atStart=>exact⟨0,a9h,rfl,a9i,Y,Z,ab⟩
   case round=>
    obtain⟨j,hj,rfl,rfl,a,H,I⟩:=hrel;by_cases f:j<k
    .obtain⟨g,c,r,S⟩:=af D j f;have F:=af HC j f;rw[r]at F;have ad:bt<w.heap.size:=World.block_lt_of_cell? w _ F;have c1:=(I.cell (p:=⟨bt,j,none⟩) ad).trans F;have t:=af HO j f;rw[r]at t;have hl:=t.1;have J:∀i u,(vals j)[i]?=some u->wr.cell? ((⟨g,0,none⟩:aF).add i)=some u:=λi u z=>by have:=qx t i u z;rw[Addr.add_lit,dC]at this⊢;exact(I.cell (p:=⟨g,i,none⟩) S).trans this
     have K:=af HV j f;have L:j*n+n<=cp:=by have:(j+1)*n<=k*n:=b0a _ f;rw[b0r]at this;omega
     have ae:∀ty,(Builtin.append_ #[46,46] ty #[.slice (some ⟨w.heap.size,0,none⟩) (j*n) cp,.slice (some ⟨g,0,none⟩) n c]).run Gh.prog.{u} wr=.ok (.slice (some ⟨w.heap.size,0,none⟩) (j*n+n) cp) (wr.setCells w.heap.size (j*n*2) (vals j)):=λty=>by
      have h:=run_append_room_cells (P:=Gh.prog.{u}) wr 46 ty 64 iO Gh.underlying46 U w.heap.size 0 (j*n) cp ⟨g,0,none⟩ n c (vals j) (by rw[x];exact hl) J K L (λi z=>by
       have M:=EQ (vals:=vals) W j;have:i<n*2:=by rw[<-hl];exact z
       have O:j*n*iO.size+i<(iD n k cp vals j).size:=by rw[M,x];omega
       simp[World.cell?,a,O]) (λi z=>by simp[World.frozen?,a])
      rw[x,dC]at h;exact h
     have q:(wr.setCells w.heap.size (j*n*2) (vals j)).heap[w.heap.size]?=some (.cells (iD n k cp vals (j+1)) 64):=H7 _ _ _ _ a;have v:(wr.setCells w.heap.size (j*n*2) (vals j)).heap.size=w.heap.size+1:=(nU _ _ _).trans H;have Q:Below w.heap.size w (wr.setCells w.heap.size (j*n*2) (vals j)):=below_setCells (az _) _ _ _ I;generalize wr.setCells w.heap.size (j*n*2) (vals j)=w3 at*;have HB:=ak Q;have HR:=ak q;have HZ:=ak v;clear hl J K a I t Q q v;have j0:(0:Int)<=(j:Int):=a9h
     have j1:(j:Int)<(k:Int):=a9h
     go_wp2_with (at_builtin;refine Lib.wpList_append_run _ rfl _ _ _ _ rfl _ _ rfl rfl _ _ (ae _) ?_)
     go_roundw
     case rel=>exact⟨j+1,a9h,by go_num,by rw[b0r],af HR,af HZ,af HB⟩
     case measure=>simp[RowKit.intOf];omega
    .obtain rfl:j=k:=a9h
     have HR:=ak a;clear a;go_wp2;go_ret;exact⟨rfl,af HR,H,I⟩
end Go.Proofs.q
end
section
namespace Go.Proofs.q
open Go.RowKit Go.Shelf Go.Lib
attribute [local go_sem ↓] Go.wp_at_zero Go.wp_at_succ
def VN(r n)(h:aM r=aM n):aM (dO r n)=aM r:=by
 unfold dO gw di jc;split
 .rfl
 .split
  .split
   .split<;>rfl
   .exact h.symm
  .split
   .exact h.symm
   .rfl
def a0s{a b}(h: ¬dQ a b)(c:a≠b):dQ b a:=by unfold dQ at*;have: ¬(a.addr=b.addr/\a.len=b.len):=λe=>c (by cases a;cases b;simp at e;simp[e]);omega
def a0E{L p}(d:eX L):a9x L p (eV L p):=by
 induction L with
 |nil=>exact⟨az _,λj a=>by simp at a,λj a=>by simp at a⟩
 |cons r R g=>
  have b:=a9Y.1 d;obtain⟨i,k,l⟩:=g b.2;by_cases h:dQ (aM r) p
  .have e:eV (r::R) p=eV R p+1:=by unfold eV;rw[a9U,if_pos (by simpa using (sU r p).1 h)];rfl
   rw[e];refine⟨by simpa using i,λj a c=>?_,λj a c=>?_⟩
   .cases j with
    |zero=>exact h
    |succ j=>exact k j (by simpa using a) a9h
   .cases j with
    |zero=>omega
    |succ j=>exact l j (by simpa using a) a9h
  .have e:eV (r::R) p=0:=by unfold eV;rw[a9U,if_neg (by simpa using λx=>h ((sU r p).2 x))];rfl
   rw[e];refine⟨a9i,λj a c=>a9h,λj a c=>?_⟩;cases j with
   |zero=>exact h
   |succ j=>
    have n:j<R.length:=by simpa using a
    exact λf=>h (CY (b.1 R[j] (kK _)) f)
def zY{L}(n)(c:eX L):eX (gD L n):=by
 have A:=a0E (p:=aM n) c;have l:∀(_:((L[eV L (aM n)]?.map aM)==some (aM n))=false),eX (L.take (eV L (aM n))++jc n::L.drop (eV L (aM n))):=λo=>by
  generalize eV L (aM n)=i at*;obtain⟨D,B,y⟩:=A;have f:∀j,(u:j<L.length)->i<=j->dQ (aM n) (aM L[j]):=λj u v=>by
   refine a0s (y j u v) λe=>?_;by_cases w:j=i
   .subst w;rw[iM u]at o;simp[e]at o
   .have q:i<L.length:=a9h
    have:=vY c q u a9h;rw[e]at this;exact y i q (az _) this
  refine List.pairwise_append.2 ⟨c.sublist (List.take_sublist _ _),a9Y.2 ⟨λb d=>?_,c.sublist (List.drop_sublist _ _)⟩,λa r b d=>?_⟩
  .obtain⟨k,s,rfl⟩:=ox d;rw[List.getElem_drop];exact f _ _ a9h
  .obtain⟨k,s,rfl⟩:=ox r;rw[jX]at s;rw[b0o];obtain rfl|d:=dj.1 d
   .exact B k a9h a9h
   .obtain⟨m,C,rfl⟩:=ox d;rw[ni]at C;rw[List.getElem_drop];exact vY c a9h a9h a9h
 cases g:((L[eV L (aM n)]?.map aM)==some (aM n))with
 |true=>
  have q:eV L (aM n)<L.length:=by refine a9W λh=>?_;rw[pJ h]at g;simp at g
  have t:aM L[eV L (aM n)]=aM n:=by rw[iM q]at g;simpa using g
  rw[Ly q rfl t];refine b0z.2 λa b r d x=>?_;rw[b0V]at r d;have h0:=vY c r d x;have z:∀k,(s:k<L.length)->aM ((L.set (eV L (aM n)) (dO L[eV L (aM n)] n))[k]'(by rw[b0V];exact s))=aM L[k]:=λk s=>by
   rw[List.getElem_set];split
   .rename_i e;subst e;exact VN _ _ t
   .rfl
  rw[z a r,z b d];exact h0
 |false=>
  rw[LF rfl g];split
  .exact l g
  .exact c
def a4K(L n)(h:L.length<=60):(gD L n).length<=60:=by
 have a:=Wn L (aM n);unfold gD tD;split
 .split
  .simpa using h
  .split
   .simp;omega
   .exact h
 .split
  .simp;omega
  .exact h
def dL(L:List Rw)(an a:Int):List cR->List Rw
 |[]=>L
 |e::b=>dL (gD L (fq e an a)) an a b
def VJ(L an a es e):dL L an a (es++[e])=gD (dL L an a es) (fq e an a):=by
 induction es generalizing L with
 |nil=>rfl
 |cons x es b=>exact b _
def VK{L}(an a es)(b:eX L):eX (dL L an a es):=by
 induction es generalizing L with
 |nil=>exact b
 |cons e es c=>exact c (zY _ b)
def VI{L}(an a es)(h:L.length<=60):(dL L an a es).length<=60:=by
 induction es generalizing L with
 |nil=>exact h
 |cons e es b=>exact b (a4K _ _ h)
def a4J(base ao ae cap ne ce L es an a w)(S:L.length<=60)(y:eX L)(z:es.length=ne)(aP:ne<=1000000)(l:∀e∈es,0<=e.met/\e.met<=16)(T:0<=a)(U:a<=15)(A:uH w ae es)(c:w.ownsRow base 137 7 (.slice ao L.length cap) L.length (aK L)):Calls Gh.prog.{0} 46 #[.agg #[.slice ao L.length cap],.int .i64 an,.int .i64 a,.slice ae ne ce] w λe w'=> ∃v,e=.returned (.agg #[v])/\w'.ownsRow w.heap.size 137 7 v (dL L an a es).length (aK (dL L an a es))/\Below w.heap.size w w':=by
 have bT:=mK w #[.slice ao L.length cap] 120 #[.slice none 0 0] 120;have r:=(((aJ.refl w).alloc (.cells #[.slice ao L.length cap] 120)).alloc (.cells #[.slice none 0 0] 120)).below;have B:((w.alloc (.cells #[.slice ao L.length cap] 120)).alloc (.cells #[.slice none 0 0] 120)).heap.size=w.heap.size+2:=a9i
 have C:=E0.{0} base (.slice ao L.length cap) L ((w.alloc (.cells #[.slice ao L.length cap] 120)).alloc (.cells #[.slice none 0 0] 120)) a9h (cP c r (az _));have HT:=ak bT;have D:=ak r;have F:=ak B;have V:=ak A;have W:=ak y;have H:=ak l;have I:=ak z;clear bT r c B y l A z;go_enter Gh.func46,Tryz.ntmps46;go_wp2_with fail;refine C.mono ?_;rintro e w1 ⟨v',rfl,f,g⟩;rw[af F]at f g;obtain⟨bc,ba,rfl⟩:=dH f;have J:=ak g;have bd:w.heap.size+2<=w1.heap.size:=by have:=g.size;rw[af F]at this;exact this
 have X:=(af HT).below g a9h;clear C g;go_wp2_with fail
 go_loopw [9,17] (λd i wr=> ∃t:Nat,t<=ne/\i=.int .i64 t/\wr.ownsRow (w.heap.size+2) 137 7 d (dL L an a (es.take t)).length (aK (dL L an a (es.take t)))/\Below (w.heap.size+2) w1 wr) (λ_ i _=>ne - (RowKit.intOf i).toNat)
 case atStart=>exact⟨0,a9h,rfl,f,Below.refl _ _⟩
 case round=>
  obtain⟨t,ht,rfl,c,x⟩:=hrel;clear f;by_cases Y:t<ne
  .have j:t<es.length:=by rw[af I];exact Y
   have K:Below w.heap.size w wr:=(af D).trans (((af J).mono a9h).trans (x.mono a9h));obtain h0|⟨b,bl,rfl,s⟩:=af V
   .rw[h0]at j;simp at j
   .obtain⟨d0,d1,d2,d3⟩:=Bk s K (Gq s a9h) t j;obtain⟨Z,ab⟩:=af H es[t] (kK _);have ad:=ak (show dL L an a (es.take (t+1))=gD (dL L an a (es.take t)) (fq es[t] an a)by rw[oA j,VJ]);have bb:=VI an a (es.take t) S;have n:=VK an a (es.take t) (af W);generalize dL L an a (es.take t)=M at*;generalize es[t]=E at*;have j0:(0:Int)<=(t:Int):=a9h
    have j1:(t:Int)<(ne:Int):=a9h
    have HO:=ak c;have R:=ak x;have ap:=ak n;clear c x s K n;go_wp2_with (first|(go_at_call 97;refine(Yg E an a _ Z ab T U).mono ?_;rintro e w4 ⟨rfl,N⟩;have h:=((aJ.refl wr).alloc _).trans N;have aq:=ak (cP (af HO) h.below (az _));have O:=ak ((af R).trans (h.below.mono (by have:=(af R).size;omega)));clear N h)|(go_at_call 96;refine(a4M (w.heap.size+2) _ M (fq E an a) w4 a9h (af ap) (by have:=(af O).size;omega) (af aq)).mono ?_;rintro e w5 ⟨v5,rfl,u,ar⟩))
    go_roundw
    case rel=>exact⟨t+1,a9h,by go_num,by rw[af ad];exact u,(af O).trans ar⟩
    case measure=>simp[RowKit.intOf];omega
  .have au:t=ne:=a9h
   subst au;have k:=X.below x a9h;have s0:=k.cell 0;have z0:=k.frozen 0;have o:es.take t=es:=a9R (by rw[af I];omega);rw[o]at c;obtain⟨P,q,hd⟩:=dH c;have Q:=ak c;have R:=ak x;clear c x o;subst hd;go_wp2;have av:=k.set 0 (.slice P (dL L an a es).length q);have t0:=av.cell 0;simp at t0;refine bodyPost_ret (v:=.agg #[.slice P (dL L an a es).length q]) (by simp[results,Tryz.results46,go_sem,t0]) rfl ⟨_,rfl,?_,?_⟩
   .exact dY (cz (af Q) k a9j) a9h
   .exact((af D).trans (((af J).mono a9h).trans ((af R).mono a9h))).setCell (p:=⟨w.heap.size+1,0,none⟩) a9i _
end Go.Proofs.q
end
