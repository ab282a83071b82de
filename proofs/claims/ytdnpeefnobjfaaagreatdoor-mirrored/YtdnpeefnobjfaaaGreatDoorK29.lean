import Derived.LaidEql
import Derived.RowKitTokens
import Derived.Stop.Asserts
import Derived.Test.YtdnpeefnobjfaaaGreatDoorK19
import Derived.Test.YtdnpeefnobjfaaaGreatDoorK27
set_option maxRecDepth 100000
set_option maxHeartbeats 4000000
set_option linter.all false
section
namespace Go.Proofs.q
open Go.RowKit Go.Shelf Go.Lib
section
attribute [local go_sem ↓] Go.wp_at_zero Go.wp_at_succ
def ed.below{w w' base R V a L cv rv}(h:ed w base R a L V cv rv)(b:Below w.heap.size w w'):ed w' base R a L V cv rv:=
 ⟨h.blk.below b h.blk.lt,h.view.below b h.view.lt,da h.aO b (aF _),da h.rows b (aF _),h.new⟩
def ed.yl{w base R V a L cv b}(h:ed w base R a L V cv b):base<=w.heap.size:=dF h.new.1 (a7p h.blk.lt)
def ed.locked{w base R V a L cv b}(h:ed w base R a L V cv b){W}(c:Below w.heap.size (w.setCell ⟨R,1,none⟩ (.int .i32 1)) W):W.ownsRow base 137 7 b L.length (aM L):=
 da (cW h.rows h.blk (by decide)) c (by simp)
def ed.Ak{w base R V a L cv b}(h:ed w base R a L V cv b){W}(c:Below w.heap.size (w.setCell ⟨R,1,none⟩ (.int .i32 1)) W):W.ownsRow base 3 1 cv a.length (dq a):=
 da (cW h.aO h.blk (by decide)) c (by simp)
end
section
attribute [local go_sem ↓] Go.wp_at_zero Go.wp_at_succ
def Yb{w:aa}{base b cc ac a}(h:w.ownsRow base 3 1 (.slice ac b cc) b (dq a)){k}(f:k<a.length):∃g,ac=some ⟨g,0,none⟩/\w.cell? ⟨g,k,none⟩=some (.int .i64 a[k])/\g<w.heap.size:=by
 have j:=h.1;have d:(dq a).length=a.length:=by simp[dq]
 obtain⟨g,rfl⟩:∃g,ac=some ⟨g,0,none⟩:=by
  obtain⟨_,h0⟩|⟨g,c,i,e,_⟩:=h.2
  .omega
  .simp at e;exact⟨g,e.1⟩
 have:=oT h k (.int .i64 a[k]) (by simp[dq,f]);rw[Addr.add_lit,dG]at this;exact⟨g,rfl,this,iH h⟩
def a5P{w:aa}{B b o v u}(h:w.cell? ⟨b,o,none⟩=some u)(a:B≠b):(w.setCell ⟨B,0,none⟩ v).cell? ⟨b,o,none⟩=some u:=(World.cell?_setCell_far w ⟨B,0,none⟩ ⟨b,o,none⟩ v a).trans h
def Y9(bf br bp base R az r ce:Nat)(x a cv K L es W)(T:az<a.length)(i:∀c∈a,1<=c/\c<=15)(y:L.length<=60)(s:jy L)(z:es.length=r)(t:r<=1000000)(m:∀e∈es,0<=e.met/\e.met<=16)(c1:W.cell? ⟨bf,0,none⟩=some (.int .i64 az))(c2:W.cell? ⟨br,0,none⟩=some (.pointer (some ⟨R,0,none⟩)))(o:W.cell? ⟨R,0,none⟩=some cv)(A:W.cell? ⟨bp,1,none⟩=some (.slice x r ce))(u:je W x es)(n:W.ownsRow base 3 1 cv a.length (dq a))(j:W.ownsRow base 137 7 K L.length (aM L)):Calls Gh.prog.{0} 45 #[.agg #[K],.pointer (some ⟨bf,0,none⟩),.pointer (some ⟨br,0,none⟩),.pointer (some ⟨bp,0,none⟩)] W λe W'=> ∃B,e=.returned (.agg #[B])/\W'.ownsRow W.heap.size 137 7 B (eK L az a[az] es).length (aM (eK L az a[az] es))/\Below W.heap.size W W':=by
 obtain⟨k,d,rfl⟩:=dA j;obtain⟨ac,U,rfl⟩:=dA n;obtain⟨gc,rfl,M,C⟩:=Yb n T;obtain⟨k0,k1⟩:=i a[az] (i5 _);have N:=lh W #[.slice k L.length d] 120 #[.slice none 0 0] 120;have O:=(aK.new W #[.slice k L.length d] 120).alloc (.cells #[.slice none 0 0] 120);have f:=(((aL.refl W).alloc (.cells #[.slice k L.length d] 120)).alloc (.cells #[.slice none 0 0] 120)).below;have D:((W.alloc (.cells #[.slice k L.length d] 120)).alloc (.cells #[.slice none 0 0] 120)).heap.size=W.heap.size+2:=by simp
 have P:=a2b base k x d r ce L es az a[az] ((W.alloc (.cells #[.slice k L.length d] 120)).alloc (.cells #[.slice none 0 0] 120)).drew y s z t m (by omega) (by omega) (va u f.drew) (da j f.drew (aF _));have V:bf<W.heap.size:=World.block_lt_of_cell? W _ c1;have X:br<W.heap.size:=World.block_lt_of_cell? W _ c2;have Y:R<W.heap.size:=World.block_lt_of_cell? W _ o;have Z:bp<W.heap.size:=World.block_lt_of_cell? W _ A;have d0:=(O.cell 0).trans (show _=some (.slice k L.length d)from rfl);have d1:=(f.cell (p:=⟨bf,0,none⟩) V).trans c1;have d2:=(f.cell (p:=⟨br,0,none⟩) X).trans c2;have d3:=(f.cell (p:=⟨R,0,none⟩) Y).trans o;have d4:=(f.cell (p:=⟨bp,1,none⟩) Z).trans A;have d5:=(f.cell (p:=⟨gc,az,none⟩) C).trans M;have HT:=am N;have E:=am f;have w:=am D;have HL:=am P;have j0:(0:Int)<=(az:Int):=by omega
 have j1:(az:Int)<(a.length:Int):=by omega
 have n0:W.heap.size+1≠W.heap.size:=by omega
 have n1:W.heap.size+1≠bf:=by omega
 have n2:W.heap.size+1≠br:=by omega
 have n3:W.heap.size+1≠R:=by omega
 have n4:W.heap.size+1≠bp:=by omega
 have n5:W.heap.size+1≠gc:=by omega
 clear P N O f j u n s m i c1 c2 o A M;generalize a[az]=cost at*;go_enter Gh.func45,Tryz.ntmps45;go_wp2_with fail;generalize F:(W.alloc (.cells #[.slice k L.length d] 120)).alloc (.cells #[.slice none 0 0] 120)=W2 at*;clear F
 go_region_held3 (λq=>q.cell? ⟨W.heap.size,0,none⟩=some (.slice k L.length d)/\q.cell? ⟨bf,0,none⟩=some (.int .i64 az)/\q.cell? ⟨br,0,none⟩=some (.pointer (some ⟨R,0,none⟩))/\q.cell? ⟨R,0,none⟩=some (.slice (some ⟨gc,0,none⟩) a.length U)/\q.cell? ⟨bp,1,none⟩=some (.slice x r ce)/\q.cell? ⟨gc,az,none⟩=some (.int .i64 cost))
  (first|go_keep|exact⟨a5P e0 n0,a5P e1 n1,a5P e2 n2,a5P e3 n3,a5P e4 n4,a5P e5 n5⟩)
  (first|(go_at_call 46;refine(ai HL).mono ?_;rintro e Q ⟨B,rfl,h,g⟩;obtain⟨a3,o,rfl⟩:=dA h;have b:W2.drew.heap.size=W.heap.size+2:=ai w;have e0:=(g.cell (p:=⟨W.heap.size,0,none⟩) (by rw[b];show W.heap.size<W.heap.size+2;omega)).trans d0;have e1:=(g.cell (p:=⟨bf,0,none⟩) (by rw[b];show bf<W.heap.size+2;omega)).trans d1;have e2:=(g.cell (p:=⟨br,0,none⟩) (by rw[b];show br<W.heap.size+2;omega)).trans d2;have e3:=(g.cell (p:=⟨R,0,none⟩) (by rw[b];show R<W.heap.size+2;omega)).trans d3;have e4:=(g.cell (p:=⟨bp,1,none⟩) (by rw[b];show bp<W.heap.size+2;omega)).trans d4;have e5:=(g.cell (p:=⟨gc,az,none⟩) (by rw[b];show gc<W.heap.size+2;omega)).trans d5;have l:=(ai HT).below (show Below (W.heap.size+2) W2 Q from Below.trans ((Below.refl _ W2).drew) (g.mono (by rw[b];omega))) (by omega);have s0:=l.cell 0;have z0:=l.frozen 0;have H:=am h;have I:=am (show Below (W.heap.size+2) W2 Q from Below.trans ((Below.refl _ W2).drew) (g.mono (by rw[b];omega)));clear h g b))
 go_wp2;have J:=l.set 0 (.slice a3 (eK L az cost es).length o);have S:=J.cell 0;simp at S;refine bodyPost_ret (v:=.agg #[.slice a3 (eK L az cost es).length o]) (by simp[results,Tryz.results45,go_sem,S]) rfl ⟨_,rfl,?_,?_⟩
 .have hs:W2.drew.heap.size=W.heap.size+2:=ai w;exact eA (cW (ai H) l (by decide)) (by omega)
 .exact((ai E).trans ((ai I).mono (by omega))).setCell (p:=⟨W.heap.size+1,0,none⟩) (by simp) _
def TK(R n ac)(a cc:Nat)(w)(f:w.cell? ⟨R,0,none⟩=some (.slice ac a cc)):Calls Gh.prog.{0} 40 #[.pointer (some ⟨R,0,none⟩),.int .i64 n] w λe d=>e=.returned (.bool (decide (0<=n)&&decide (n<a)))/\d=w:=by
 by_cases h0:0<=n
 .by_cases c:n<a
  .go_enter Gh.func40,Tryz.ntmps40;go_wp2;go_ret;simp[h0,c]
  .go_enter Gh.func40,Tryz.ntmps40;go_wp2;go_ret;simp[c]
 .go_enter Gh.func40,Tryz.ntmps40;go_wp2;go_ret;have b: ¬(0:Int)<=n:=by omega
  simp[b]
end
section
attribute [local go_sem ↓] Go.wp_at_zero Go.wp_at_succ
def Y7(R V base az s a L cv M w)(J:ed w base R a L V cv M)(hf:az<a.length)(f:∀c∈a,1<=c/\c<=15)(N:L.length<=60)(A:jy L)(hm:s.size<=9223372036854775807)(hx:gD s.data.toList=none)(B:gh s.data.toList=2)(C:(eX s.data.toList).length<=1000000)(l:∀e∈eX s.data.toList,0<=e.met/\e.met<=16):Calls Gh.prog.{0} 14 #[.pointer (some ⟨R,0,none⟩),.int .i64 az,.string s] w λe O=>e=.returned (.tuple #[.slice none 0 0,.nilIface])/\∃K h,ed O base R a (eK L az a[az] (eX s.data.toList)) K cv h/\w.grownBy O (some R)/\w.heap.size<=K/\O.ownsRow w.heap.size 137 7 h (eK L az a[az] (eX s.data.toList)).length (aM (eK L az a[az] (eX s.data.toList))):=by
 obtain⟨ac,cc,rfl⟩:=dA J.aO;have n:=(((aL.refl w).alloc (.cells #[.pointer (some ⟨R,0,none⟩)] 33)).alloc (.cells #[.int .i64 az] 3)).below;have D:((w.alloc (.cells #[.pointer (some ⟨R,0,none⟩)] 33)).alloc (.cells #[.int .i64 az] 3)).heap.size=w.heap.size+2:=by simp
 have bA:=(aK.new w #[.pointer (some ⟨R,0,none⟩)] 33).alloc (.cells #[.int .i64 az] 3);have bB:=lh w #[.pointer (some ⟨R,0,none⟩)] 33 #[.int .i64 az] 3;have ao:R<w.heap.size:=J.blk.lt;have o:=J.below n;have hI:=TK R az ac a.length cc ((w.alloc (.cells #[.pointer (some ⟨R,0,none⟩)] 33)).alloc (.cells #[.int .i64 az] 3)) ((o.blk.cell 0).trans rfl);have hD:=B4 s ((w.alloc (.cells #[.pointer (some ⟨R,0,none⟩)] 33)).alloc (.cells #[.int .i64 az] 3)) hm;have E:(decide ((0:Int)<=(az:Int))&&decide ((az:Int)<(a.length:Nat)))=true:=by simp;omega
 rw[E]at hI;have HA:=am bA;have P:=am bB;have Q:=am n;have q:=am D;have S:=am o;have T:=am f;have U:=am A;have X:=am l;clear J o bA bB n D f A l E;go_enter Gh.func14,Tryz.ntmps14;go_wp2_with (go_at_call 40;refine hI.mono ?_;rintro e w1 ⟨rfl,rfl⟩);refine hD.mono ?_;rintro e i ⟨V2,ve,rfl,⟨r,t,u,rfl,v,g,m⟩,b⟩;rw[hx]at m;obtain rfl:ve=.nilIface:=m;rw[B];have aq:w.heap.size+2<=i.heap.size:=by have:=b.size;rw[ai q]at this;exact this
 have d:=((ai S).below b).below (bH i (.cells #[.int .i64 2,.slice r t u] 45));have j:=((ai HA).below b (by rw[ai q];omega)).alloc (.cells #[.int .i64 2,.slice r t u] 45);have x:=((ai P).below b (by rw[ai q];omega)).alloc (.cells #[.int .i64 2,.slice r t u] 45);have y:=aK.new i #[.int .i64 2,.slice r t u] 45;have F:=da g (bH i (.cells #[.int .i64 2,.slice r t u] 45)) (aF _);have g3:w.grownBy (i.alloc (.cells #[.int .i64 2,.slice r t u] 45)) (some R):=by have H:=ai Q;exact dg (jj ⟨H.os,H.tape,H.output,H.size,λk Y _=>H.block k Y⟩) (dg (jj ⟨b.os,b.tape,b.output,b.size,λk Y _=>b.block k Y⟩) (World.grownBy_alloc i _ _))
 have Z:=M6 (w.heap.size+1) w.heap.size i.heap.size R V base a L (eK L az a[az] (eX s.data.toList)) _ M _ d d.yl (λW z=>Y9 (w.heap.size+1) w.heap.size i.heap.size base R az t u r a _ M L (eX s.data.toList) W hf (ai T) N (ai U) v (by rw[<-v];exact C) (ai X)
  ((z.cell (p:=⟨w.heap.size+1,0,none⟩) x.lt).trans (((x.other (p:=⟨R,1,none⟩) (by show R≠_;omega) _).cell 0).trans rfl))
  ((z.cell (p:=⟨w.heap.size,0,none⟩) j.lt).trans (((j.other (p:=⟨R,1,none⟩) (by show R≠_;omega) _).cell 0).trans rfl))
  ((z.cell (p:=⟨R,0,none⟩) d.blk.lt).trans (((d.blk.set 1 (.int .i32 1)).cell 0).trans rfl))
  ((z.cell (p:=⟨i.heap.size,1,none⟩) y.lt).trans (((y.other (p:=⟨R,1,none⟩) (by show R≠_;omega) _).cell 1).trans rfl))
  (Ya (da (cW F d.blk (by decide)) z (by simp))).1 (d.Ak z) (d.locked z))
 have a0:=(j.cell 0).trans (show _=some (.pointer (some ⟨R,0,none⟩))from rfl);have ab:=am g3;clear d j x y F g3 g b hD hI v;go_wp2_with (go_at_call 44;refine Z.mono ?_;rintro e w4 ⟨rfl,K,h,ad,ag,al,I⟩);go_ret2;simp only[World.size_alloc]at al I;exact⟨rfl,K,h,ad,dg (ai ab) ag,by omega,eA I (by omega)⟩
end
section
attribute [local go_sem ↓] Go.wp_at_zero Go.wp_at_succ
def zi(w:aa):Prop:=w.cell? ⟨0,0,none⟩=some (.iface 288 (.agg #[.pointer (some ⟨1,35,none⟩)]))
end
end Go.Proofs.q
end
