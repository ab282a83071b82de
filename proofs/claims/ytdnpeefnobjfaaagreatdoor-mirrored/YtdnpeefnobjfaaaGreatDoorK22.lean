import Derived.Test.YtdnpeefnobjfaaaGreatDoorK21
set_option maxRecDepth 100000
set_option maxHeartbeats 4000000
set_option linter.all false
section
namespace Go.Proofs.q
section
universe u
open Go.RowKit Go.Shelf Go.Sort
attribute [local go_sem ↓] Go.wp_at_zero Go.wp_at_succ
structure ed (w:aa) (base R:Nat) (aO:List Int) (L:List Rw) (V:Nat) (cv rv:af):Prop where
 blk:aK w R #[cv,.int .i32 0,.int .u32 0,.pointer (some ⟨V,0,none⟩)] 116
 view:aK w V #[rv] 122
 aO:w.ownsRow base 3 1 cv aO.length (dq aO)
 rows:w.ownsRow base 137 7 rv L.length (aM L)
 new:base<=R/\base<=V
def da{w w'}{base e d n B:Nat}{v xs}(h:w.ownsRow base e d v n xs)(j:Below B w w')(k:w.heap.size<=B):w'.ownsRow base e d v n xs:=by
 obtain⟨f,⟨a,h0⟩|⟨g,l,b,a,c,i,m⟩⟩:=h
 .exact⟨f,.inl ⟨a,h0⟩⟩
 .exact⟨f,.inr ⟨g,l,b,a,c,(j.block g (cG (bW.1 i).1 k)).trans i,m⟩⟩
def eA{w:aa}{base a e f n:Nat}{v xs}(h:w.ownsRow base e f v n xs)(i:a<=base):w.ownsRow a e f v n xs:=by
 obtain⟨g,⟨b,h0⟩|⟨j,k,c,b,d,l⟩⟩:=h
 .exact⟨g,.inl ⟨b,h0⟩⟩
 .exact⟨g,.inr ⟨j,k,c,b,dF i d,l⟩⟩
def dA{w:aa}{base e b n:Nat}{v c}(h:w.ownsRow base e b v n c):∃d cap,v=.slice d n cap:=by
 obtain⟨_,⟨a,h0⟩|⟨g,i,f,a,_⟩⟩:=h
 .exact⟨_,_,by rw[a,h0]⟩
 .exact⟨_,_,a⟩
def cW{w}{base e g n B i:Nat}{v u xs cs t}(h:w.ownsRow base e g v n xs)(j:aK w B cs t)(b:t≠e):(w.setCell ⟨B,i,none⟩ u).ownsRow base e g v n xs:=by
 obtain⟨k,⟨c,h0⟩|⟨l,m,d,c,f,a,o⟩⟩:=h
 .exact⟨k,.inl ⟨c,h0⟩⟩
 .refine⟨k,.inr ⟨l,m,d,c,f,(Below.heap_setCell _ _ _ _ ?_).trans a,o⟩⟩;intro e;subst e;unfold aK at j;rw[j]at a;simp at a;exact b a.2
def qr{w w' B v}(h:kF w v)(f:Below B w w')(g:w.heap.size<=B):kF w' v:=λa n c e=>by obtain⟨b,d,i⟩:=h a n c e;exact⟨b,(f.block _ (cG (bW.1 d).1 g)).trans d,i⟩
def Z1{w B i v u cs t}(h:kF w v)(g:aK w B cs t)(d:t≠3):kF (w.setCell ⟨B,i,none⟩ u) v:=λa n c e=>by obtain⟨f,b,j⟩:=h a n c e;refine⟨f,(Below.heap_setCell _ _ _ _ λe=>?_).trans b,j⟩;unfold aK at g;rw[e]at b;rw[g]at b;simp at b;exact d b.2
def FP(ac ao cc n b d w)(hb:(jd b&&kA d)=true)(E:wN d)(Y:d.length<=n)(v:ac=none->b.length=0/\cc=0)(x:jm w ac b)(y:lm w ao d):Calls Gh.prog.{u} 11 #[.agg #[.slice ac b.length cc,.slice ao d.length n]] w λe F=> ∃R V Z rv H,e=.returned (.tuple #[.pointer (some ⟨R,0,none⟩),.nilIface])/\ed F w.heap.size R b (H.map kB) V Z rv/\H.Perm d/\ql H/\Below w.heap.size w F/\(0<b.length->kF F Z)/\∃a,rv=.slice a d.length d.length:=by
 obtain⟨i,j⟩:jd b=true/\kA d=true:=by simpa using hb
 have h8:b.length<=8:=by simp[jd]at i;exact i.1
 have ab:d.length<=20:=by simp[kA]at j;exact j.1
 have hC:=L5.{u} ac b.length cc b (w.alloc (.cells #[.slice ac b.length cc,.slice ao d.length n] 25)) rfl (AO x (bH _ _));have hO:=L6.{u} ao d.length n d (w.alloc (.cells #[.slice ac b.length cc,.slice ao d.length n] 25)) E rfl Y (wM y (bH _ _));rw[i]at hC;rw[j]at hO;have bC:=am (aK.new w #[.slice ac b.length cc,.slice ao d.length n] 25);have ad:=am x;have ae:=am y;have I:=am v;clear hb i j E x y v;go_enter Gh.func11,Tryz.ntmps11;go_wp2_with (first|(go_at_call 34;refine hC.mono ?_;rintro e w1 ⟨rfl,rfl⟩)|(go_at_call 35;refine hO.mono ?_;rintro e w1 ⟨rfl,i⟩;have q:=(ai bC).below i (by simp);have c0:=(q.cell 0).trans (show _=some (.slice ac b.length cc)from rfl);have k:=am ((bH w (.cells #[.slice ac b.length cc,.slice ao d.length n] 25)).trans (i.mono (by simp)));clear i)|(go_at_call 36;refine(Nt ac b.length cc b w1 rfl h8 (ai I) (AO (ai ad) (ai k))).mono ?_;rintro e r ⟨Z,rfl,z,j,J⟩;have K:=am J;clear J;obtain⟨f,g,rfl⟩:=dA z;have A:=q.below j q.lt;have B:=am j;have L:=am z;clear j z));have C:=aK.new r #[.slice f b.length g,.int .i32 0,.int .u32 0,.pointer none] 116;have M:=A.alloc (.cells #[.slice f b.length g,.int .i32 0,.int .u32 0,.pointer none] 116);have D:=am ((ai k).trans (((ai B).trans ((Below.refl _ r).alloc (by have:=(ai B).size;omega) (.cells #[.slice f b.length g,.int .i32 0,.int .u32 0,.pointer none] 116))).mono (ai k).size));have ag:=am (eA (da (ai L) ((Below.refl _ r).alloc (aF _) (.cells #[.slice f b.length g,.int .i32 0,.int .u32 0,.pointer none] 116)) (aF _)) (ai k).size);have N:=am (λh=>qr (ai K h) ((Below.refl _ r).alloc (aF _) (.cells #[.slice f b.length g,.int .i32 0,.int .u32 0,.pointer none] 116)) (aF _));clear K;have al:r.heap.size<(r.alloc (.cells #[.slice f b.length g,.int .i32 0,.int .u32 0,.pointer none] 116)).heap.size:=by simp
 have au:w.heap.size<r.heap.size:=A.lt;generalize r.heap.size=R at*;generalize r.alloc (.cells #[.slice f b.length g,.int .i32 0,.int .u32 0,.pointer none] 116)=W at*;clear q A c0 hC hO k B L;have O:R≠w.heap.size:=by omega
 have q1:=(M.cell 1).trans (show _=some (.slice ao d.length n)from rfl);have r0:=(C.cell 0).trans (show _=some (.slice f b.length g)from rfl);have r3:=(C.cell 3).trans (show _=some (.pointer none)from rfl)
 go_region_held3 (λF=>F.cell? ⟨w.heap.size,1,none⟩=some (.slice ao d.length n)) (first|go_keep|exact((World.cell?_setCell_far _ ⟨R,3,none⟩ ⟨w.heap.size,1,none⟩ _ O).trans (World.cell?_alloc_some _ _ _ (by rw[P];rfl))).trans P)
  (first|(go_at_call 38;refine(a1s ao n d _ ab (wM (ai ae) ((ai D).trans ((Below.refl _ W).drew)))).mono ?_;rintro e o ⟨rv,H,rfl,Q,l,m,s,S,rfl⟩;have c:=C.below (show Below W.heap.size W o from Below.trans ((Below.refl _ W).drew) s) al;have P:=(s.cell (p:=⟨w.heap.size,1,none⟩) M.lt).trans q1;have av:=(c.cell 0).trans (show _=some (.slice f b.length g)from rfl);have aP:=(c.cell 3).trans (show _=some (.pointer none)from rfl);have aq:=am Q;have T:=am l;have U:=am m;have t:=am (show Below W.heap.size W o from Below.trans ((Below.refl _ W).drew) s);clear Q l m s)|(go_at_call 37;refine(xy R 3 o.heap.size (.slice S d.length d.length) (.pointer none) _ (by rw[(c.alloc _).cell];rfl) ((c.alloc _).frozen 3) (aK.new o _ _)).mono ?_;rintro e w4 ⟨rfl,rfl⟩))
 all_goals go_wp2
 all_goals go_ret2
 all_goals
  have ar:=(ai T).length_eq;have ba:W.heap.size<=o.heap.size:=(ai t).size;have X:w.heap.size<=W.heap.size:=(ai D).size;refine⟨R,o.heap.size,.slice f b.length g,.slice S d.length d.length,H,rfl,⟨?_,?_,?_,?_,⟨by omega,by omega⟩⟩,ai T,ai U,?_,λh=>?_,_,rfl⟩
  .exact(c.alloc _).set 3 _
  .exact(aK.new o _ _).other (by show R≠_;omega) _
  .exact cW (da (da (ai ag) (ai t) (aF _)) ((Below.refl _ o).alloc (aF _) _) (aF _)) (c.alloc _) (by decide)
  .have h1:=eA (ai aq) X;rw[List.length_map,ar];exact cW (da h1 ((Below.refl _ o).alloc (aF _) _) (aF _)) (c.alloc _) (by decide)
  .exact(((ai D).trans ((ai t).mono X)).alloc (by omega) _).setCell (p:=⟨R,3,none⟩) (by show _<=R;omega) _
  .exact Z1 (qr (qr (ai N h) (ai t) (aF _)) ((Below.refl _ o).alloc (aF _) _) (aF _)) (c.alloc _) (by decide)
def Vg(ac ao cc f b a w)(m:(jd b&&kA a)=true)(g:wN a)(h:a.length<=f)(c:ac=none->b.length=0/\cc=0)(i:jm w ac b)(j:lm w ao a):Calls Gh.prog.{u} 11 #[.agg #[.slice ac b.length cc,.slice ao a.length f]] w λe w'=> ∃R V k l d,e=.returned (.tuple #[.pointer (some ⟨R,0,none⟩),.nilIface])/\ed w' w.heap.size R b (d.map kB) V k l/\d.Perm a/\ql d/\Below w.heap.size w w':=
 (FP ac ao cc f b a w m g h c i j).mono λ_ _ ⟨R,V,k,l,d,h1,h2,h3,h4,h5,_⟩=>⟨R,V,k,l,d,h1,h2,h3,h4,h5⟩
end
section
universe u
open Go.RowKit Go.Shelf Go.Sort
attribute [local go_sem ↓] Go.wp_at_zero Go.wp_at_succ
def nM{w base n cap ao L}(h:w.ownsRow base 137 7 (.slice ao n cap) n (aM L)):fP w ao L:=by
 obtain⟨d,⟨a,h0⟩|⟨g,c,e,a,_,m,_,_,_,f⟩⟩:=h
 .subst h0;rw[jw]at d;exact .inl (fq (by omega))
 .simp at a;obtain⟨rfl,rfl⟩:=a;rw[jw]at d;have o:L.length=n:=by omega
  refine .inr ⟨g,0,rfl,λk l=>?_⟩;have b:∀j,j<n*7->w.cell? ⟨g,j,none⟩=(aM L)[j]? :=λj p=>by rw[show w.cell? ⟨g,j,none⟩=e[j]? by simp[World.cell?,m],<-f,a6s,if_pos p];simp
  have a:∀i,i<7->(aM L)[k*7+i]?=(cQ L[k])[i]? :=λi t=>by
   clear b f d o;induction L generalizing k with
   |nil=>simp at l
   |cons r R q=>
    cases k with
    |zero=>simp only[a7I,dG,aM,jF,a6r];rw[a6n (by simp[cQ];omega)]
    |succ k=>have:=q k (by simpa using l);simp only[aM,jF,a7f]at this⊢;rw[a6g (by simp[cQ];omega),<-this];congr 1;simp[cQ];omega
  have s:k*7+6<n*7:=by omega
  simp only[dG];refine⟨?_,?_,?_,?_,?_,?_,?_⟩
  .have:=a 0 (by decide);rw[m6]at this;rw[b _ (by omega),this];rfl
  .rw[b _ (by omega),a 1 (by decide)];rfl
  .rw[b _ (by omega),a 2 (by decide)];rfl
  .rw[b _ (by omega),a 3 (by decide)];rfl
  .rw[b _ (by omega),a 4 (by decide)];rfl
  .rw[b _ (by omega),a 5 (by decide)];rfl
  .rw[b _ (by omega),a 6 (by decide)];rfl
def nO:Pf:=⟨167772160,8⟩
def a2h:mF [kB nO] 167838211=some (kB nO):=by decide
def MA(w):Calls Gh.prog.{u} 10 #[] w λe w'=>e=.returned (.bool true)/\Below w.heap.size w w':=by
 have d:(jd [1]&&kA [nO])=true:=by decide
 have B:=am (((aK.new w #[.int .u32 167772160,.int .i64 8] 32).alloc (.cells #[.int .i64 1] 3)).alloc (.cells #[.int .u32 167772160,.int .i64 8] 32));have q:=(aK.new (w.alloc (.cells #[.int .u32 167772160,.int .i64 8] 32)) #[.int .i64 1] 3).alloc (.cells #[.int .u32 167772160,.int .i64 8] 32);have o:=aK.new ((w.alloc (.cells #[.int .u32 167772160,.int .i64 8] 32)).alloc (.cells #[.int .i64 1] 3)) #[.int .u32 167772160,.int .i64 8] 32;have s:(((w.alloc (.cells #[.int .u32 167772160,.int .i64 8] 32)).alloc (.cells #[.int .i64 1] 3)).alloc (.cells #[.int .u32 167772160,.int .i64 8] 32)).heap.size=w.heap.size+3:=by simp
 have l:=am ((((aL.refl w).alloc (.cells #[.int .u32 167772160,.int .i64 8] 32)).alloc (.cells #[.int .i64 1] 3)).alloc (.cells #[.int .u32 167772160,.int .i64 8] 32)).below;simp only[World.size_alloc]at q o;have c:oS (((w.alloc (.cells #[.int .u32 167772160,.int .i64 8] 32)).alloc (.cells #[.int .i64 1] 3)).alloc (.cells #[.int .u32 167772160,.int .i64 8] 32)) (w.heap.size+1) 0 [1]:=λk t=>by
  obtain rfl:k=0:=by simpa using t
  exact q.cell 0
 have m:gW (((w.alloc (.cells #[.int .u32 167772160,.int .i64 8] 32)).alloc (.cells #[.int .i64 1] 3)).alloc (.cells #[.int .u32 167772160,.int .i64 8] 32)) (w.heap.size+1+1) 0 [nO]:=λk t=>by
  obtain rfl:k=0:=by simpa using t
  exact⟨o.cell 0,o.cell 1⟩
 have v:=Vg.{u} (some ⟨w.heap.size+1,0,none⟩) (some ⟨w.heap.size+1+1,0,none⟩) 1 1 [1] [nO] _ d (by intro p y;simp at y;subst y;decide) (aF _) (by intro h;cases h) (.inr ⟨_,_,rfl,c⟩) (.inr ⟨_,_,rfl,m⟩);simp only[gu,gv,dG]at v;clear c m q o;go_enter Gh.func10,Tryz.ntmps10;go_wp2_with fail;refine v.mono ?_;rintro e z ⟨R,V,I,J,C,rfl,f,a,_,g⟩;obtain rfl:C=[nO]:=List.perm_singleton.1 a;obtain⟨D,E,rfl⟩:=dA f.rows;simp only[cA,d7,gu,gv,dG]at f;have F:=Jn.{u} R V _ _ 0 0 z f.blk f.view;have x:=Uy.{u} V D 1 E [kB nO] 167838211 z f.view rfl (by decide) (by intro r A;simp at A;subst A;decide) (by decide) (by decide) (nM f.rows);rw[a2h]at x;simp only[FF,nL,kB,EY,nO]at x;have b:=(ai B).below g (by rw[s];omega);have K:=(b.cell 0).trans (show _=some (.int .u32 167772160)from rfl);have c1:=(b.cell 1).trans (show _=some (.int .i64 8)from rfl);have i:=am ((ai l).trans (g.mono (ai l).size));clear f g v a;go_wp2_with (first|(go_at_call 17;refine F.mono ?_;rintro e H ⟨rfl,rfl⟩)|(go_at_call 18;refine x.mono ?_;rintro e H ⟨rfl,j⟩;have n:=(b.below j b.lt).alloc (.cells #[.int .u32 167772160,.int .i64 8,.int .i64 0,.int .i64 1,.int .i64 (-1)] 52);have L:=(n.cell 0).trans (show _=some (.int .u32 167772160)from rfl);have M:=(n.cell 1).trans (show _=some (.int .i64 8)from rfl)));go_ret;exact⟨rfl,((ai i).trans (j.mono (ai i).size)).alloc (by have:=(ai i).size;have:=j.size;omega) _⟩
end
end Go.Proofs.q
end
