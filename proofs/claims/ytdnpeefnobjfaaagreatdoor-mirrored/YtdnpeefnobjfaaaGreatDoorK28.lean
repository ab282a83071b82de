import Derived.Test.YtdnpeefnobjfaaaGreatDoorK27
set_option maxRecDepth 100000
set_option maxHeartbeats 4000000
set_option linter.all false
section
namespace Go.Proofs.q
open Go.RowKit Go.Shelf Go.Lib
section
attribute [local go_sem ↓] Go.wp_at_zero Go.wp_at_succ
def CI(Z bw b m R V base y vals a L z cv A w)(g:ed w base R a L V cv A)(M:base<=w.heap.size)(B:aK w b #[y] 46)(q:∀W,Below w.heap.size (w.setCell ⟨R,1,none⟩ (.int .i32 1)) W->Calls Gh.prog.{0} 105 #[.agg #[A],.pointer (some ⟨Z,0,none⟩),.pointer (some ⟨bw,0,none⟩),.pointer (some ⟨b,0,none⟩)] W λe N=> ∃r u,e=.returned (.agg #[r])/\N.ownsRow W.heap.size 137 7 r z.length (aM z)/\Below W.heap.size (W.setCell ⟨b,0,none⟩ u) N/\N.ownsRow W.heap.size 64 2 u m vals):Calls Gh.prog.{0} 44 #[.pointer (some ⟨R,0,none⟩),.func (.func 105) #[] #[.pointer (some ⟨Z,0,none⟩),.pointer (some ⟨bw,0,none⟩),.pointer (some ⟨b,0,none⟩)]] w λe K=>e=.returned (.tuple #[])/\∃V' C u,ed K base R a z V' cv C/\(w.setCell ⟨b,0,none⟩ u).grownBy K (some R)/\w.heap.size<=V'/\K.ownsRow w.heap.size 137 7 C z.length (aM z)/\K.ownsRow w.heap.size 64 2 u m vals:=by
 have D:b≠R:=λe=>by have j:=g.blk;have h:=B;rw[e]at h;unfold aK at j h;rw[j]at h;simp at h
 have ae:b≠V:=λe=>by have j:=g.view;have h:=B;rw[e]at h;unfold aK at j h;rw[j]at h;simp at h
 have ab:b<w.heap.size:=B.lt;have E:aK (w.setCell ⟨R,1,none⟩ (.int .i32 1)) b #[y] 46:=B.other (p:=⟨R,1,none⟩) (λe=>D e.symm) _;have O:V≠R:=λe=>by have j:=g.blk;have h:=g.view;rw[e]at h;unfold aK at j h;rw[j]at h;simp at h
 have j:=(g.blk.cell 1).trans (show _=some (.int .i32 0)from rfl);have f1:=g.blk.frozen 1;have s:aK (w.setCell ⟨R,1,none⟩ (.int .i32 1)) R #[cv,.int .i32 1,.int .u32 0,.pointer (some ⟨V,0,none⟩)] 116:=g.blk.set 1 (.int .i32 1);have F:aK (w.setCell ⟨R,1,none⟩ (.int .i32 1)) V #[A] 122:=g.view.other (p:=⟨R,1,none⟩) (λe=>O e.symm) _;have c1:(w.setCell ⟨R,1,none⟩ (.int .i32 1)).ownsRow base 3 1 cv a.length (dq a):=cW g.aO g.blk (by decide);have g1:w.grownBy (w.setCell ⟨R,1,none⟩ (.int .i32 1)) (some R):=⟨rfl,rfl,rfl,by simp,λk _ H=>Below.heap_setCell _ _ _ _ (λe=>H (by rw[e]))⟩;have s1:(w.setCell ⟨R,1,none⟩ (.int .i32 1)).heap.size=w.heap.size:=by simp
 have P:base<=R:=g.new.1;have ag:R<w.heap.size:=g.blk.lt;have al:V<w.heap.size:=g.view.lt;have Q:=am c1;have S:=am g1;have T:=am s1;clear g c1 g1 s1
 go_enter_defers Gh.func44,Tryz.ntmps44
 go_wp2_with (go_at_call 93;refine(Gh.lock_free ⟨R,1,none⟩ _ j f1).mono ?_;rintro e w1 ⟨rfl,rfl⟩);generalize w.setCell ⟨R,1,none⟩ (.int .i32 1)=W0 at*;have v0:=(F.cell 0).trans (show _=some A from rfl);clear j f1;have ad:=jq.{0};refine tM ?_
 go_region_with_o (first|(go_at_call 49;refine(vV R 3 V A W0.drew ((s.cell 3).trans rfl) F).mono ?_;rintro e w2 ⟨rfl,rfl⟩)|(go_at_call 105;refine(q W0.drew (Below.refl _ W0).drew).mono ?_;rintro e i ⟨r,u,rfl,l,I,n⟩;have t:=am (show Below W0.heap.size (W0.setCell ⟨b,0,none⟩ u) i from Below.trans (show Below W0.heap.size (W0.setCell ⟨b,0,none⟩ u) (W0.drew.setCell ⟨b,0,none⟩ u)from(Below.refl _ (W0.setCell ⟨b,0,none⟩ u)).drew) I);have J:=am l;have U:=am n;have c:=(s.other (p:=⟨b,0,none⟩) (λe=>D e) u).below (ai t) s.lt;have r0:=(c.cell 0).trans (show _=some cv from rfl);clear l I n)|(go_at_call 37;refine(xy R 3 i.heap.size r (.pointer (some ⟨V,0,none⟩)) _ (((c.alloc (.cells #[r] 122)).cell 3).trans rfl) ((c.alloc _).frozen 3) (aK.new i _ _)).mono ?_;rintro e w4 ⟨rfl,rfl⟩))
 dsimp only;go_wp2;refine leaves_cons (f:=94) (args:=#[.pointer (some ⟨R,1,none⟩)]) (by simp) (by simp[go_sem]) ?_;have d:=(c.alloc (.cells #[r] 122)).set 3 (.pointer (some ⟨i.heap.size,0,none⟩));refine(Gh.unlock_deferred ⟨R,1,none⟩ .returning _ ((d.cell 1).trans rfl) (d.frozen 1)).mono ?_;rintro e u' ao ⟨rfl,rfl,rfl⟩;have aq:W0.heap.size=w.heap.size:=ai T;have X:w.heap.size<=i.heap.size:=by have:=(ai t).size;simp at this;omega
 have o:i.heap.size≠R:=by omega
 have x:=ai t;have hG:=ai S;have gS:(w.setCell ⟨b,0,none⟩ u).grownBy (W0.setCell ⟨b,0,none⟩ u) (some R):=by
  obtain⟨q1,q2,q3,q4,q5⟩:=hG;refine⟨q1,q2,q3,by simpa using q4,λk H Y=>?_⟩;by_cases v:k=b
  .subst v;exact(E.set 0 u).trans (B.set 0 u).symm
  .rw[Below.heap_setCell _ _ _ _ v,Below.heap_setCell _ _ _ _ v];exact q5 k (by simpa using H) Y
 refine⟨_,results_none rfl _ _ _,rfl,i.heap.size,r,u,⟨?_,?_,?_,?_,P,by omega⟩,?_,X,?_,?_⟩
 .exact d.set 1 _
 .exact((aK.new i _ _).other (p:=⟨R,3,none⟩) o.symm _).other (p:=⟨R,1,none⟩) o.symm _
 .exact cW (cW (da (da (cW (ai Q) E (by decide)) x (by simp)) (bH i _) (aF _)) (c.alloc _) (by decide)) d (by decide)
 .exact cW (cW (da (eA (ai J) (show base<=W0.heap.size by omega)) (bH i _) (aF _)) (c.alloc _) (by decide)) d (by decide)
 .exact dg gS (dg (jj ⟨x.os,x.tape,x.output,x.size,λk H _=>x.block k (by simpa using H)⟩) (dg (jj (World.grownBy_alloc i _ none)) (dg (gj _ _ _ _) (gj _ _ _ _))))
 .exact cW (cW (da (eA (ai J) (show w.heap.size<=W0.heap.size by omega)) (bH i _) (aF _)) (c.alloc _) (by decide)) d (by decide)
 .exact cW (cW (da (eA (ai U) (show w.heap.size<=W0.heap.size by omega)) (bH i _) (aF _)) (c.alloc _) (by decide)) d (by decide)
structure B7 (fn:bc) (sel:List Rw->List Rw):Prop where
 any:∀(base:Nat) (ao:Option ap) (cap:Nat) (L:List Rw) (w:aa),L.length<=1000000->w.ownsRow base 137 7 (.slice ao L.length cap) L.length (aM L)->
  Calls Gh.prog.{0} fn #[.agg #[.slice ao L.length cap]] w λe w'=> ∃v,e=.returned (.agg #[v])/\(∃b,w'.ownsRow b 137 7 v (sel L).length (aM (sel L)))/\Below w.heap.size w w'
 less:∀L,(sel L).length<=L.length
 kX:∀L,fY L->fY (sel L)
def A1:B7 55 id where
 any base ao cap L w _ hown:=(LO ao L.length cap w).mono λe w' ⟨he,hg⟩=>⟨_,he,⟨base,da hown hg.below (aF _)⟩,hg.below⟩
 less L:=aF _
 kX L h:=h
def A2:B7 54 fN where
 any base ao cap L w hn hown:=(M7 base ao cap L w hn hown).mono λe w' ⟨v,he,ho,hb⟩=>⟨v,he,⟨_,ho⟩,hb⟩
 less L:=List.length_filter_le _ _
 kX L h r hr:=h r (a7n.1 hr).1
end
section
attribute [local go_sem ↓] Go.wp_at_zero Go.wp_at_succ
def LU(A I d R base q c1 c2 c3 cv rv a L W)(hr:W.cell? ⟨A,0,none⟩=some (.pointer (some ⟨R,0,none⟩)))(hw:W.cell? ⟨I,0,none⟩=some (.func (.func 55) #[] #[]))(J:aK W d #[q] 46)(hR:aK W R #[cv,c1,c2,c3] 116)(hc:W.ownsRow base 3 1 cv a.length (dq a))(aP:a.length<=8)(hn:L.length<=100)(hf:fY L)(l:W.ownsRow base 137 7 rv L.length (aM L)):Calls Gh.prog.{0} 105 #[.agg #[rv],.pointer (some ⟨A,0,none⟩),.pointer (some ⟨I,0,none⟩),.pointer (some ⟨d,0,none⟩)] W λe W'=> ∃v' u,e=.returned (.agg #[v'])/\W'.ownsRow W.heap.size 137 7 v' (dp L).length (aM (dp L))/\Below W.heap.size (W.setCell ⟨d,0,none⟩ u) W'/\W'.ownsRow W.heap.size 64 2 u (a.length*aV (id L).length) (gm a.length (id L)):=by
 obtain⟨t,f,rfl⟩:=dA l;obtain⟨K,w,rfl⟩:=dA hc;go_enter Gh.func105,Tryz.ntmps105;refine wp_seq (wp_mono (Q:=λe M X=>e=.normal/\M=⟨#[.agg #[.slice t L.length f],.pointer (some ⟨A,0,none⟩),.pointer (some ⟨I,0,none⟩),.pointer (some ⟨d,0,none⟩),.pointer (some ⟨W.heap.size,0,none⟩),.pointer (some ⟨W.heap.size+1,0,none⟩),undef,undef,undef,undef,undef,undef,undef,undef,undef,undef,undef],[]⟩/\aK X W.heap.size #[.slice t L.length f] 120/\aK X (W.heap.size+1) #[.slice none 0 0] 120/\aL W X) ?_ ?_)
 .go_wp2;exact⟨(aK.new W _ _).alloc _,lh W _ _ _ _,((aL.refl W).alloc _).alloc _⟩
 .rintro e M X ⟨rfl,rfl,bT,bU,B⟩;show Code.wp _ _ _ _ _;have xr:=(B.below.cell (p:=⟨A,0,none⟩) (World.block_lt_of_cell? W _ hr)).trans hr;have xw:=(B.below.cell (p:=⟨I,0,none⟩) (World.block_lt_of_cell? W _ hw)).trans hw;have N:=hR.below B.below hR.lt;have xc:=(N.cell 0).trans (show _=some (.slice K a.length w)from rfl);have O:=J.below B.below J.lt;have xt:=(bT.cell 0).trans (show _=some (.slice t L.length f)from rfl);have m:=da l B.below (aF _);have bx:W.heap.size+2<=X.heap.size:=by have:=bU.lt;omega
  have P:d<W.heap.size:=J.lt;have HG:=am B;have S:=am m;have T:=am bU;have ba:=am O;have V:=am bT;have bb:=am J;clear hr hw J hR hc l N O m bU bT B;refine wp_seq (wp_mono (Q:=λe M Y=>e=.normal/\∃a2 c2 a3 c3 w3,M=⟨#[.agg #[.slice t L.length f],.pointer (some ⟨A,0,none⟩),.pointer (some ⟨I,0,none⟩),.pointer (some ⟨d,0,none⟩),.pointer (some ⟨W.heap.size,0,none⟩),.pointer (some ⟨W.heap.size+1,0,none⟩),.pointer (some ⟨R,0,none⟩),.pointer (some ⟨R,0,none⟩),.pointer (some ⟨R,0,none⟩),.slice K a.length w,.int .i64 a.length,.func (.func 55) #[] #[],.agg #[.slice t L.length f],.agg #[.slice a2 (id L).length c2],.slice a3 (a.length*aV (id L).length) c3,undef,undef],[]⟩/\Y=w3.setCell ⟨d,0,none⟩ (.slice a3 (a.length*aV (id L).length) c3)/\Below X.heap.size X w3/\w3.ownsRow X.heap.size 64 2 (.slice a3 (a.length*aV (id L).length) c3) (a.length*aV (id L).length) (gm a.length (id L))/\aK w3 d #[q] 46) ?_ ?_)
  .have hP:=A1.any base t f L X.drew (by omega) (ai S);have bA:=jq.{0};go_wp2_with fail;refine tM ?_
   go_region_with_o (first|(go_at_call 55;refine hP.mono ?_;rintro e w2 ⟨v2,rfl,⟨b2,g⟩,r⟩;obtain⟨a2,c2,rfl⟩:=dA g;have bC:=(r.cell (p:=⟨A,0,none⟩) (World.block_lt_of_cell? X _ xr)).trans (show X.drew.cell? ⟨A,0,none⟩=_ from xr);have bF:=(r.cell (p:=⟨R,0,none⟩) (World.block_lt_of_cell? X _ xc)).trans (show X.drew.cell? ⟨R,0,none⟩=_ from xc);have bd:=am g;have Z:=am r;clear g r)|(go_at_call 106;refine(Ef a.length a2 c2 (id L) w2 aP (by have:=A1.less L;omega) (A1.kX L hf) (nM (ai bd))).mono ?_;rintro e w3 ⟨v3,rfl,b,C⟩;obtain⟨a3,c3,rfl⟩:=dA b;have D:=(show aK X.drew d #[q] 46 from ai ba).below (ai Z) (by simp;omega);have c:=D.below C D.lt;have o0:=(c.cell 0).trans (show _=some q from rfl);have oz:=c.frozen 0;have bl:=am b;have bn:=am C;have ab:=am c;clear b C D c))
   all_goals
    dsimp only;have h2:=ai Z;have h3:=ai bn;have h:Below X.heap.size X w3:=Below.trans ((Below.refl _ X).drew) (h2.trans (h3.mono h2.size));exact⟨rfl,a2,c2,a3,c3,w3,rfl,rfl,h,eA (ai bl) h2.size,ai ab⟩
  .rintro e M Y ⟨rfl,a2,c2,a3,c3,w3,rfl,rfl,h,b,c⟩;show Code.wp _ _ _ _ _;have hX:=ai HG;have n:Below W.heap.size W w3:=hX.below.trans (h.mono hX.below.size);have ad:=(ai V).below h (ai V).lt;have E:=(ai T).below h (ai T).lt;obtain⟨U,hU⟩:∃U,U=Value.slice a3 (a.length*aV (id L).length) c3:=⟨_,rfl⟩;rw[<-hU]at b⊢;have ae:=ad.other (p:=⟨d,0,none⟩) (a7a P) U;have ag:=E.other (p:=⟨d,0,none⟩) (show d≠W.heap.size+1 by omega) U;have x:=cW (i:=0) (u:=U) (da (ai S) h (aF _)) c (by decide);have y:=cW (i:=0) (u:=U) b c (by decide);have z:Below W.heap.size (W.setCell ⟨d,0,none⟩ U) (w3.setCell ⟨d,0,none⟩ U):=by
    refine⟨n.os,n.tape,n.output,by simpa using n.size,λk hk=>?_⟩;by_cases F:k=d
    .subst F;exact(c.set 0 U).trans ((ai bb).set 0 U).symm
    .rw[Below.heap_setCell _ _ _ _ F,Below.heap_setCell _ _ _ _ F];exact n.block k hk
   have bB:W.heap.size+1<w3.heap.size:=E.lt;have hT:=Je base t f L (w3.setCell ⟨d,0,none⟩ U) (by omega) x;have t4:=(ae.cell 0).trans (show _=some (.slice t L.length f)from rfl);have al:=am y;have aq:=am z;have ar:=am ag;clear x y z ad E ae ag b c h hU;generalize w3.setCell ⟨d,0,none⟩ U=w4 at*;have au:W.heap.size+1<w4.heap.size:=(ai ar).lt;go_wp2_with (go_at_call 107;refine hT.mono ?_;rintro e w5 ⟨v5,rfl,j,H⟩;obtain⟨a5,c5,rfl⟩:=dA j;have s:=(ai ar).below H au;have s5:=s.cell 0;have z5:=s.frozen 0;have bp:=am j;have av:=am H;have o:=am s;clear j H s);have bs:=(ai o).set 0 (.slice a5 (dp L).length c5);have t0:=bs.cell 0;simp at t0;refine bodyPost_ret (v:=.agg #[.slice a5 (dp L).length c5]) (by simp[results,Tryz.results105,go_sem,t0]) rfl ⟨_,U,rfl,?_,?_,?_⟩
   .exact eA (cW (ai bp) (ai o) (by decide)) (by omega)
   .exact((ai aq).trans ((ai av).mono (by omega))).setCell (p:=⟨W.heap.size+1,0,none⟩) (by simp) _
   .exact cW (eA (da (ai al) (ai av) (aF _)) (by omega)) (ai o) (by decide)
end
section
attribute [local go_sem ↓] Go.wp_at_zero Go.wp_at_succ
def LV(A I d R base q c1 c2 c3 cv rv a L W)(hr:W.cell? ⟨A,0,none⟩=some (.pointer (some ⟨R,0,none⟩)))(hw:W.cell? ⟨I,0,none⟩=some (.func (.func 54) #[] #[]))(J:aK W d #[q] 46)(hR:aK W R #[cv,c1,c2,c3] 116)(hc:W.ownsRow base 3 1 cv a.length (dq a))(aP:a.length<=8)(hn:L.length<=100)(hf:fY L)(l:W.ownsRow base 137 7 rv L.length (aM L)):Calls Gh.prog.{0} 105 #[.agg #[rv],.pointer (some ⟨A,0,none⟩),.pointer (some ⟨I,0,none⟩),.pointer (some ⟨d,0,none⟩)] W λe W'=> ∃v' u,e=.returned (.agg #[v'])/\W'.ownsRow W.heap.size 137 7 v' (dp L).length (aM (dp L))/\Below W.heap.size (W.setCell ⟨d,0,none⟩ u) W'/\W'.ownsRow W.heap.size 64 2 u (a.length*aV (fN L).length) (gm a.length (fN L)):=by
 obtain⟨t,f,rfl⟩:=dA l;obtain⟨K,w,rfl⟩:=dA hc;go_enter Gh.func105,Tryz.ntmps105;refine wp_seq (wp_mono (Q:=λe M X=>e=.normal/\M=⟨#[.agg #[.slice t L.length f],.pointer (some ⟨A,0,none⟩),.pointer (some ⟨I,0,none⟩),.pointer (some ⟨d,0,none⟩),.pointer (some ⟨W.heap.size,0,none⟩),.pointer (some ⟨W.heap.size+1,0,none⟩),undef,undef,undef,undef,undef,undef,undef,undef,undef,undef,undef],[]⟩/\aK X W.heap.size #[.slice t L.length f] 120/\aK X (W.heap.size+1) #[.slice none 0 0] 120/\aL W X) ?_ ?_)
 .go_wp2;exact⟨(aK.new W _ _).alloc _,lh W _ _ _ _,((aL.refl W).alloc _).alloc _⟩
 .rintro e M X ⟨rfl,rfl,bT,bU,B⟩;show Code.wp _ _ _ _ _;have xr:=(B.below.cell (p:=⟨A,0,none⟩) (World.block_lt_of_cell? W _ hr)).trans hr;have xw:=(B.below.cell (p:=⟨I,0,none⟩) (World.block_lt_of_cell? W _ hw)).trans hw;have N:=hR.below B.below hR.lt;have xc:=(N.cell 0).trans (show _=some (.slice K a.length w)from rfl);have O:=J.below B.below J.lt;have xt:=(bT.cell 0).trans (show _=some (.slice t L.length f)from rfl);have m:=da l B.below (aF _);have bx:W.heap.size+2<=X.heap.size:=by have:=bU.lt;omega
  have P:d<W.heap.size:=J.lt;have HG:=am B;have S:=am m;have T:=am bU;have ba:=am O;have V:=am bT;have bb:=am J;clear hr hw J hR hc l N O m bU bT B;refine wp_seq (wp_mono (Q:=λe M Y=>e=.normal/\∃a2 c2 a3 c3 w3,M=⟨#[.agg #[.slice t L.length f],.pointer (some ⟨A,0,none⟩),.pointer (some ⟨I,0,none⟩),.pointer (some ⟨d,0,none⟩),.pointer (some ⟨W.heap.size,0,none⟩),.pointer (some ⟨W.heap.size+1,0,none⟩),.pointer (some ⟨R,0,none⟩),.pointer (some ⟨R,0,none⟩),.pointer (some ⟨R,0,none⟩),.slice K a.length w,.int .i64 a.length,.func (.func 54) #[] #[],.agg #[.slice t L.length f],.agg #[.slice a2 (fN L).length c2],.slice a3 (a.length*aV (fN L).length) c3,undef,undef],[]⟩/\Y=w3.setCell ⟨d,0,none⟩ (.slice a3 (a.length*aV (fN L).length) c3)/\Below X.heap.size X w3/\w3.ownsRow X.heap.size 64 2 (.slice a3 (a.length*aV (fN L).length) c3) (a.length*aV (fN L).length) (gm a.length (fN L))/\aK w3 d #[q] 46) ?_ ?_)
  .have hP:=A2.any base t f L X.drew (by omega) (ai S);have bA:=jq.{0};go_wp2_with fail;refine tM ?_
   go_region_with_o (first|(go_at_call 54;refine hP.mono ?_;rintro e w2 ⟨v2,rfl,⟨b2,g⟩,r⟩;obtain⟨a2,c2,rfl⟩:=dA g;have bC:=(r.cell (p:=⟨A,0,none⟩) (World.block_lt_of_cell? X _ xr)).trans (show X.drew.cell? ⟨A,0,none⟩=_ from xr);have bF:=(r.cell (p:=⟨R,0,none⟩) (World.block_lt_of_cell? X _ xc)).trans (show X.drew.cell? ⟨R,0,none⟩=_ from xc);have bd:=am g;have Z:=am r;clear g r)|(go_at_call 106;refine(Ef a.length a2 c2 (fN L) w2 aP (by have:=A2.less L;omega) (A2.kX L hf) (nM (ai bd))).mono ?_;rintro e w3 ⟨v3,rfl,b,C⟩;obtain⟨a3,c3,rfl⟩:=dA b;have D:=(show aK X.drew d #[q] 46 from ai ba).below (ai Z) (by simp;omega);have c:=D.below C D.lt;have o0:=(c.cell 0).trans (show _=some q from rfl);have oz:=c.frozen 0;have bl:=am b;have bn:=am C;have ab:=am c;clear b C D c))
   all_goals
    dsimp only;have h2:=ai Z;have h3:=ai bn;have h:Below X.heap.size X w3:=Below.trans ((Below.refl _ X).drew) (h2.trans (h3.mono h2.size));exact⟨rfl,a2,c2,a3,c3,w3,rfl,rfl,h,eA (ai bl) h2.size,ai ab⟩
  .rintro e M Y ⟨rfl,a2,c2,a3,c3,w3,rfl,rfl,h,b,c⟩;show Code.wp _ _ _ _ _;have hX:=ai HG;have n:Below W.heap.size W w3:=hX.below.trans (h.mono hX.below.size);have ad:=(ai V).below h (ai V).lt;have E:=(ai T).below h (ai T).lt;obtain⟨U,hU⟩:∃U,U=Value.slice a3 (a.length*aV (fN L).length) c3:=⟨_,rfl⟩;rw[<-hU]at b⊢;have ae:=ad.other (p:=⟨d,0,none⟩) (a7a P) U;have ag:=E.other (p:=⟨d,0,none⟩) (show d≠W.heap.size+1 by omega) U;have x:=cW (i:=0) (u:=U) (da (ai S) h (aF _)) c (by decide);have y:=cW (i:=0) (u:=U) b c (by decide);have z:Below W.heap.size (W.setCell ⟨d,0,none⟩ U) (w3.setCell ⟨d,0,none⟩ U):=by
    refine⟨n.os,n.tape,n.output,by simpa using n.size,λk hk=>?_⟩;by_cases F:k=d
    .subst F;exact(c.set 0 U).trans ((ai bb).set 0 U).symm
    .rw[Below.heap_setCell _ _ _ _ F,Below.heap_setCell _ _ _ _ F];exact n.block k hk
   have bB:W.heap.size+1<w3.heap.size:=E.lt;have hT:=Je base t f L (w3.setCell ⟨d,0,none⟩ U) (by omega) x;have t4:=(ae.cell 0).trans (show _=some (.slice t L.length f)from rfl);have al:=am y;have aq:=am z;have ar:=am ag;clear x y z ad E ae ag b c h hU;generalize w3.setCell ⟨d,0,none⟩ U=w4 at*;have au:W.heap.size+1<w4.heap.size:=(ai ar).lt;go_wp2_with (go_at_call 107;refine hT.mono ?_;rintro e w5 ⟨v5,rfl,j,H⟩;obtain⟨a5,c5,rfl⟩:=dA j;have s:=(ai ar).below H au;have s5:=s.cell 0;have z5:=s.frozen 0;have bp:=am j;have av:=am H;have o:=am s;clear j H s);have bs:=(ai o).set 0 (.slice a5 (dp L).length c5);have t0:=bs.cell 0;simp at t0;refine bodyPost_ret (v:=.agg #[.slice a5 (dp L).length c5]) (by simp[results,Tryz.results105,go_sem,t0]) rfl ⟨_,U,rfl,?_,?_,?_⟩
   .exact eA (cW (ai bp) (ai o) (by decide)) (by omega)
   .exact((ai aq).trans ((ai av).mono (by omega))).setCell (p:=⟨W.heap.size+1,0,none⟩) (by simp) _
   .exact cW (eA (da (ai al) (ai av) (aF _)) (by omega)) (ai o) (by decide)
end
end Go.Proofs.q
end
