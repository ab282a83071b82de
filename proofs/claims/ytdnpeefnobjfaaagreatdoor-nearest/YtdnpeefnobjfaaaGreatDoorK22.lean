import Derived.Test.YtdnpeefnobjfaaaGreatDoorK15
import Derived.Test.YtdnpeefnobjfaaaGreatDoorK21
set_option maxRecDepth 100000
set_option maxHeartbeats 4000000
set_option linter.all false
section
namespace Go.Proofs.q
open Go.RowKit Go.Shelf Go.Lib
attribute [local go_sem ↓] Go.wp_at_zero Go.wp_at_succ
def dK.below{w w' base R V a L cv rv}(h:dK w base R a L V cv rv)(b:Below w.heap.size w w'):dK w' base R a L V cv rv:=
 ⟨h.blk.below b h.blk.lt,h.view.below b h.view.lt,cP h.aH b (az _),cP h.rows b (az _),h.new⟩
def dK.AJ{w base R V a L cv b}(h:dK w base R a L V cv b):base<=w.heap.size:=dt h.new.1 (b0q h.blk.lt)
def dK.locked{w base R V a L cv b}(h:dK w base R a L V cv b){W}(c:Below w.heap.size (w.setCell ⟨R,1,none⟩ (.int .i32 1)) W):W.ownsRow base 137 7 b L.length (aK L):=
 cP (cz h.rows h.blk a9j) c a9i
def dK.Ih{w base R V a L cv b}(h:dK w base R a L V cv b){W}(c:Below w.heap.size (w.setCell ⟨R,1,none⟩ (.int .i32 1)) W):W.ownsRow base 3 1 cv a.length (cW a):=
 cP (cz h.aH h.blk a9j) c a9i
def Z8{w:aa}{base b f ac a}(h:w.ownsRow base 3 1 (.slice ac b f) b (cW a)){k}(i:k<a.length):∃g,ac=some ⟨g,0,none⟩/\w.cell? ⟨g,k,none⟩=some (.int .i64 a[k])/\g<w.heap.size:=by
 have l:=h.1;have d:(cW a).length=a.length:=by simp[cW]
 obtain⟨g,rfl⟩:∃g,ac=some ⟨g,0,none⟩:=by
  obtain⟨_,h0⟩|⟨g,c,j,e,_⟩:=h.2
  .omega
  .simp at e;exact⟨g,e.1⟩
 have:=qx h k (.int .i64 a[k]) (by simp[cW,i]);rw[Addr.add_lit,dC]at this;exact⟨g,rfl,this,kj h⟩
def a9u{w:aa}{B b o v u}(h:w.cell? ⟨b,o,none⟩=some u)(a:B≠b):(w.setCell ⟨B,0,none⟩ v).cell? ⟨b,o,none⟩=some u:=(World.cell?_setCell_far w ⟨B,0,none⟩ ⟨b,o,none⟩ v a).trans h
def a1r(bf br bp base R an s z:Nat)(y a cv N L es W)(V:an<a.length)(i:∀c∈a,1<=c/\c<=15)(A:L.length<=60)(t:eX L)(B:es.length=s)(u:s<=1000000)(n:∀e∈es,0<=e.met/\e.met<=16)(c1:W.cell? ⟨bf,0,none⟩=some (.int .i64 an))(c2:W.cell? ⟨br,0,none⟩=some (.pointer (some ⟨R,0,none⟩)))(q:W.cell? ⟨R,0,none⟩=some cv)(C:W.cell? ⟨bp,1,none⟩=some (.slice y s z))(w:uH W y es)(o:W.ownsRow base 3 1 cv a.length (cW a))(j:W.ownsRow base 137 7 N L.length (aK L)):Calls Gh.prog.{0} 45 #[.agg #[N],.pointer (some ⟨bf,0,none⟩),.pointer (some ⟨br,0,none⟩),.pointer (some ⟨bp,0,none⟩)] W λe W'=> ∃D,e=.returned (.agg #[D])/\W'.ownsRow W.heap.size 137 7 D (dL L an a[an] es).length (aK (dL L an a[an] es))/\Below W.heap.size W W':=by
 obtain⟨k,d,rfl⟩:=dH j;obtain⟨ac,X,rfl⟩:=dH o;obtain⟨gc,rfl,O,E⟩:=Z8 o V;obtain⟨k0,k1⟩:=i a[an] (kK _);have P:=mK W #[.slice k L.length d] 120 #[.slice none 0 0] 120;have Q:=(aE.new W #[.slice k L.length d] 120).alloc (.cells #[.slice none 0 0] 120);have f:=(((aJ.refl W).alloc (.cells #[.slice k L.length d] 120)).alloc (.cells #[.slice none 0 0] 120)).below;have F:((W.alloc (.cells #[.slice k L.length d] 120)).alloc (.cells #[.slice none 0 0] 120)).heap.size=W.heap.size+2:=a9i
 have S:=a4J base k y d s z L es an a[an] ((W.alloc (.cells #[.slice k L.length d] 120)).alloc (.cells #[.slice none 0 0] 120)).drew A t B u n a9h a9h (S4 w f.drew) (cP j f.drew (az _));have Y:bf<W.heap.size:=World.block_lt_of_cell? W _ c1;have Z:br<W.heap.size:=World.block_lt_of_cell? W _ c2;have l3:R<W.heap.size:=World.block_lt_of_cell? W _ q;have l4:bp<W.heap.size:=World.block_lt_of_cell? W _ C;have d0:=(Q.cell 0).trans (show _=some (.slice k L.length d)from rfl);have d1:=(f.cell (p:=⟨bf,0,none⟩) Y).trans c1;have d2:=(f.cell (p:=⟨br,0,none⟩) Z).trans c2;have d3:=(f.cell (p:=⟨R,0,none⟩) l3).trans q;have d4:=(f.cell (p:=⟨bp,1,none⟩) l4).trans C;have d5:=(f.cell (p:=⟨gc,an,none⟩) E).trans O;have HT:=ak P;have H:=ak f;have x:=ak F;have HL:=ak S;have j0:(0:Int)<=(an:Int):=a9h
 have j1:(an:Int)<(a.length:Int):=a9h
 have n0:W.heap.size+1≠W.heap.size:=a9h
 have n1:W.heap.size+1≠bf:=a9h
 have n2:W.heap.size+1≠br:=a9h
 have n3:W.heap.size+1≠R:=a9h
 have n4:W.heap.size+1≠bp:=a9h
 have n5:W.heap.size+1≠gc:=a9h
 clear S P Q f j w o t n i c1 c2 q C O;generalize a[an]=cost at*;go_enter Gh.func45,Tryz.ntmps45;go_wp2_with fail;generalize I:(W.alloc (.cells #[.slice k L.length d] 120)).alloc (.cells #[.slice none 0 0] 120)=W2 at*;clear I
 go_region_held3 (λr=>r.cell? ⟨W.heap.size,0,none⟩=some (.slice k L.length d)/\r.cell? ⟨bf,0,none⟩=some (.int .i64 an)/\r.cell? ⟨br,0,none⟩=some (.pointer (some ⟨R,0,none⟩))/\r.cell? ⟨R,0,none⟩=some (.slice (some ⟨gc,0,none⟩) a.length X)/\r.cell? ⟨bp,1,none⟩=some (.slice y s z)/\r.cell? ⟨gc,an,none⟩=some (.int .i64 cost))
  (first|go_keep|exact⟨a9u e0 n0,a9u e1 n1,a9u e2 n2,a9u e3 n3,a9u e4 n4,a9u e5 n5⟩)
  (first|(go_at_call 46;refine(af HL).mono ?_;rintro e T ⟨D,rfl,h,g⟩;obtain⟨a3,q,rfl⟩:=dH h;have b:W2.drew.heap.size=W.heap.size+2:=af x;have e0:=(g.cell (p:=⟨W.heap.size,0,none⟩) (by rw[b];show W.heap.size<W.heap.size+2;omega)).trans d0;have e1:=(g.cell (p:=⟨bf,0,none⟩) (by rw[b];show bf<W.heap.size+2;omega)).trans d1;have e2:=(g.cell (p:=⟨br,0,none⟩) (by rw[b];show br<W.heap.size+2;omega)).trans d2;have e3:=(g.cell (p:=⟨R,0,none⟩) (by rw[b];show R<W.heap.size+2;omega)).trans d3;have e4:=(g.cell (p:=⟨bp,1,none⟩) (by rw[b];show bp<W.heap.size+2;omega)).trans d4;have e5:=(g.cell (p:=⟨gc,an,none⟩) (by rw[b];show gc<W.heap.size+2;omega)).trans d5;have l:=(af HT).below (show Below (W.heap.size+2) W2 T from Below.trans ((Below.refl _ W2).drew) (g.mono (by rw[b];omega))) a9h;have s0:=l.cell 0;have z0:=l.frozen 0;have J:=ak h;have K:=ak (show Below (W.heap.size+2) W2 T from Below.trans ((Below.refl _ W2).drew) (g.mono (by rw[b];omega)));clear h g b))
 go_wp2;have M:=l.set 0 (.slice a3 (dL L an cost es).length q);have U:=M.cell 0;simp at U;refine bodyPost_ret (v:=.agg #[.slice a3 (dL L an cost es).length q]) (by simp[results,Tryz.results45,go_sem,U]) rfl ⟨_,rfl,?_,?_⟩
 .have hs:W2.drew.heap.size=W.heap.size+2:=af x;exact dY (cz (af J) l a9j) a9h
 .exact((af H).trans ((af K).mono a9h)).setCell (p:=⟨W.heap.size+1,0,none⟩) a9i _
def HY(R n ac)(a d:Nat)(w)(g:w.cell? ⟨R,0,none⟩=some (.slice ac a d)):Calls Gh.prog.{0} 40 #[.pointer (some ⟨R,0,none⟩),.int .i64 n] w λe f=>e=.returned (.bool (decide (0<=n)&&decide (n<a)))/\f=w:=by
 by_cases h0:0<=n
 .by_cases c:n<a
  .go_enter Gh.func40,Tryz.ntmps40;go_wp2;go_ret;simp[h0,c]
  .go_enter Gh.func40,Tryz.ntmps40;go_wp2;go_ret;simp[c]
 .go_enter Gh.func40,Tryz.ntmps40;go_wp2;go_ret;have b: ¬(0:Int)<=n:=a9h
  simp[b]
def a1p(R V base an s a L cv N w)(K:dK w base R a L V cv N)(hf:an<a.length)(f:∀c∈a,1<=c/\c<=15)(O:L.length<=60)(B:eX L)(hm:s.size<=9223372036854775807)(hx:f9 s.data.toList=none)(C:gK s.data.toList=2)(D:(eE s.data.toList).length<=1000000)(l:∀e∈eE s.data.toList,0<=e.met/\e.met<=16):Calls Gh.prog.{0} 14 #[.pointer (some ⟨R,0,none⟩),.int .i64 an,.string s] w λe P=>e=.returned (.tuple #[.slice none 0 0,.nilIface])/\∃M h,dK P base R a (dL L an a[an] (eE s.data.toList)) M cv h/\w.grownBy P (some R)/\w.heap.size<=M/\P.ownsRow w.heap.size 137 7 h (dL L an a[an] (eE s.data.toList)).length (aK (dL L an a[an] (eE s.data.toList))):=by
 obtain⟨ac,cc,rfl⟩:=dH K.aH;have o:=(((aJ.refl w).alloc (.cells #[.pointer (some ⟨R,0,none⟩)] 33)).alloc (.cells #[.int .i64 an] 3)).below;have E:((w.alloc (.cells #[.pointer (some ⟨R,0,none⟩)] 33)).alloc (.cells #[.int .i64 an] 3)).heap.size=w.heap.size+2:=a9i
 have bA:=(aE.new w #[.pointer (some ⟨R,0,none⟩)] 33).alloc (.cells #[.int .i64 an] 3);have bB:=mK w #[.pointer (some ⟨R,0,none⟩)] 33 #[.int .i64 an] 3;have ar:R<w.heap.size:=K.blk.lt;have q:=K.below o;have hI:=HY R an ac a.length cc ((w.alloc (.cells #[.pointer (some ⟨R,0,none⟩)] 33)).alloc (.cells #[.int .i64 an] 3)) ((q.blk.cell 0).trans rfl);have hD:=MF s ((w.alloc (.cells #[.pointer (some ⟨R,0,none⟩)] 33)).alloc (.cells #[.int .i64 an] 3)) hm;have F:(decide ((0:Int)<=(an:Int))&&decide ((an:Int)<(a.length:Nat)))=true:=a9l
 rw[F]at hI;have HA:=ak bA;have Q:=ak bB;have S:=ak o;have r:=ak E;have T:=ak q;have U:=ak f;have X:=ak B;have Y:=ak l;clear K q bA bB o E f B l F;go_enter Gh.func14,Tryz.ntmps14;go_wp2_with (go_at_call 40;refine hI.mono ?_;rintro e w1 ⟨rfl,rfl⟩);refine hD.mono ?_;rintro e i ⟨V2,ve,rfl,⟨t,u,v,rfl,x,g,n⟩,b⟩;rw[hx]at n;obtain rfl:ve=.nilIface:=n;rw[C];have au:w.heap.size+2<=i.heap.size:=by have:=b.size;rw[af r]at this;exact this
 have d:=((af T).below b).below (bZ i (.cells #[.int .i64 2,.slice t u v] 45));have j:=((af HA).below b (by rw[af r];omega)).alloc (.cells #[.int .i64 2,.slice t u v] 45);have y:=((af Q).below b (by rw[af r];omega)).alloc (.cells #[.int .i64 2,.slice t u v] 45);have z:=aE.new i #[.int .i64 2,.slice t u v] 45;have H:=cP g (bZ i (.cells #[.int .i64 2,.slice t u v] 45)) (az _);have g3:w.grownBy (i.alloc (.cells #[.int .i64 2,.slice t u v] 45)) (some R):=by have I:=af S;exact du (k7 ⟨I.os,I.tape,I.output,I.size,λk Z _=>I.block k Z⟩) (du (k7 ⟨b.os,b.tape,b.output,b.size,λk Z _=>b.block k Z⟩) (World.grownBy_alloc i _ _))
 have ab:=PN (w.heap.size+1) w.heap.size i.heap.size R V base a L (dL L an a[an] (eE s.data.toList)) _ N _ d d.AJ (λW A=>a1r (w.heap.size+1) w.heap.size i.heap.size base R an u v t a _ N L (eE s.data.toList) W hf (af U) O (af X) x (by rw[<-x];exact D) (af Y)
  ((A.cell (p:=⟨w.heap.size+1,0,none⟩) y.lt).trans (((y.other (p:=⟨R,1,none⟩) (by show R≠_;omega) _).cell 0).trans rfl))
  ((A.cell (p:=⟨w.heap.size,0,none⟩) j.lt).trans (((j.other (p:=⟨R,1,none⟩) (by show R≠_;omega) _).cell 0).trans rfl))
  ((A.cell (p:=⟨R,0,none⟩) d.blk.lt).trans (((d.blk.set 1 (.int .i32 1)).cell 0).trans rfl))
  ((A.cell (p:=⟨i.heap.size,1,none⟩) z.lt).trans (((z.other (p:=⟨R,1,none⟩) (by show R≠_;omega) _).cell 1).trans rfl))
  (Z7 (cP (cz H d.blk a9j) A a9i)).1 (d.Ih A) (d.locked A))
 have a0:=(j.cell 0).trans (show _=some (.pointer (some ⟨R,0,none⟩))from rfl);have ad:=ak g3;clear d j y z H g3 g b hD hI x;go_wp2_with (go_at_call 44;refine ab.mono ?_;rintro e w4 ⟨rfl,M,h,ao,ap,aq,J⟩);go_ret2;simp only[World.size_alloc]at aq J;exact⟨rfl,M,h,ao,du (af ad) ap,a9h,dY J a9h⟩
end Go.Proofs.q
end
