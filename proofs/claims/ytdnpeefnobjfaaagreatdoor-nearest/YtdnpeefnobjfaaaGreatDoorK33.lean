import Derived.Laws.Cells
import Derived.Laws.Tables
import Derived.Test.YtdnpeefnobjfaaaGreatDoorK31
import Derived.Test.YtdnpeefnobjfaaaGreatDoorK32
set_option maxRecDepth 100000
set_option maxHeartbeats 4000000
set_option linter.all false
section
namespace Go.Proofs.q
open Go.RowKit Go.Shelf
attribute [local go_sem ↓] Go.wp_at_zero Go.wp_at_succ
def zI{g f w w' j a b k V d far c R T M cv n}{s:idx c b a<((c b).map λx=>(d b x:Int)).length}(G:d9 c d)(l:(c a)[k]?=some b)(o:far a b≠0)(i:d b a≠0)(h:eA g w j d far c R (gg c d far a k M T))(p:cO (·=10+b) g f w w')(q:gp f (10+b) w' (R b) ((c b).map λx=>(d b x:Int)) (dL (T b) (idx c b a:Nat) (((c b).map λx=>(d b x:Int))[idx c b a]) (cT (k:Int) M)) V cv n):eA f w' j d far c R (gg c d far a (k+1) M T):=by
 have e:=h.step p q;have r:((c b).map λx=>(d b x:Int))[idx c b a]=(d a b:Nat):=by rw[b0t];have:=(nh.1 (nO G i).1).2;rw[this,G.sy]
 rw[a0f G M l o,JA G M l];rw[r]at e;exact e
def a3x(o B a n f far d R T M u w)(G:d9 d f)(F:fW f far)(J:∀x y,f x y<=15)(ha:a<5)(h5:n<=5)(hn:(d a).length=n)(hM:eB n a M)(hT:∀b,b<5->eB (d b).length b (T b))(h:eA o w B f far d R T)(hu:ju o (10+a) w 64 2 u n (jI n M)):Calls Gh.prog.{0} 56 #[.pointer (some ⟨B,0,none⟩),.int .i64 a,u] w λe w'=>e=.returned (.bool true)/\∃A,eA A w' B f far d R (gg d f far a n M T)/\cO (λx=>10<=x/\x≠10+a) o A w w':=by
 obtain⟨ao,aP,ae⟩:=dH hu.1;subst ae;have HM:=ak hM;have HT:=ak hT;have H0:=ak h;have HU:=ak hu;have j:=ak G;have HF:=ak F;have HN:=ak hn;clear hM hT h hu G F hn;go_enter Gh.func56,Tryz.ntmps56;go_wp2
 go_loopw [7] (λi wr=> ∃(k:Nat) (cl:dI),k<=n/\i=.int .i64 k/\eA cl wr B f far d R (gg d f far a k M T)/\cO (λx=>10<=x/\x≠10+a) o cl w wr) (λi _=>n - (intOf i).toNat)
 case atStart=>exact⟨0,o,a9h,rfl,by rw[a0l];exact af H0,cO.refl _ _ _⟩
 case round=>
  obtain⟨k,cl,hk,rfl,C,K⟩:=hrel;by_cases D:k<n
  .have E:=(af HU).il K a9h;obtain⟨g,rfl,hg⟩:=Ju E.1 a9h;have L:0<M.length:=by obtain⟨r,hr⟩:=(af HM).own;exact b1E (lh hr).1
   have ba:=(af HM).j9;have N:aY M.length=1:=JD L a9h;have x0:=CQ E.1 (CM N n k D 0 a9h);have x1:=CQ E.1 (CM N n k D 1 a9h);simp only[oB,List.getElem?_cons_zero,b0H]at x0 x1;have p:k<(d a).length:=by rw[af HN];exact D
   obtain⟨b,hb⟩:∃b,(d a)[k]?=some b:=⟨_,iM p⟩;have O:f a b≠0:=((af j).mem a b).1 (b0T hb);have l:b<5:=a9W λq=>O (by rw[(af j).sy];exact(af j).out b a q);obtain⟨bb,av,s1,s2,s3⟩:=C.sd a ha;rw[af HN]at s1;obtain s2|⟨sb,P,rfl,sc⟩:=s2
   .exfalso;have:=congrArg List.length s2;simp at this;rw[this]at p;simp at p
   have s4:wr.cell? ⟨sb,P+k,none⟩=some (.int .i64 (b:Int)):=by have:=sc k (by simpa using p);rw[this];congr 2;rw[b0t];have:=(nh.1 hb).2;rw[this];rfl
   have f1:=C.fr a b ha l;have r1:=C.rt b l;have a0:(0:Int)<=(a:Int)/\(a:Int)<5:=a9h
   have b0:(0:Int)<=(b:Int)/\(b:Int)<5:=a9h
   have k0:(k:Int)<(n:Int):=a9h
   have k1:(0:Int)<=(k:Int):=a9h
   have H1:=ak C;have Q:=ak K;have HB:=ak hb;have HX:=ak E;clear C K E sc hb s3;by_cases s:far a b=0
   .have hz:((far a b:Int)==0)=true:=by simp[s]
    rw[s]at f1;have f1:wr.cell? ⟨B,a*5+b,none⟩=some (.int .i64 0):=f1;go_wp2_with fail;go_quiet (fail);go_wp2_with fail;go_quiet (fail);go_wp2_with fail
    go_roundw
    case rel=>exact⟨k+1,_,a9h,by go_num,by rw[a0i M (af HB) s];exact(af H1).below (below_drewN (Below.refl _ _) _) 0,(af Q).trans (cO.below 0 (below_drewN (Below.refl _ _) _))⟩
    case measure=>simp[intOf];omega
   .have hz:((far a b:Int)==0)=false:=by simp[s]
    have bc:decide ((far a b:Int)=0)=false:=by simp[s]
    go_wp2_with fail;go_quiet (fail);go_wp2_with fail;go_quiet (fail);go_wp2_with fail;generalize hX:wr.drewN _=X;have H:Below wr.heap.size wr X.drew:=by rw[<-hX];exact(below_drewN (Below.refl _ _) _).drew
    have y1:X.cell? ⟨g,k*2+1,none⟩=some (ig (cT (k:Int) M) 0):=by rw[<-hX];exact x1
    have y2:X.cell? ⟨B,25+b,none⟩=some (.pointer (some ⟨R b,0,none⟩)):=by rw[<-hX];exact r1
    have t:=(af H1).below H 0;have v:f b a≠0:=by rw[(af j).sy];exact O
    obtain⟨ap,S,p1,p2,_⟩:=t.sd b l;have U:=(af HT) b l;have aq:=(af j).j9 b;have V:=JG.{0} B b (d b).length S ap ((d b).map Int.ofNat) (a:Int) X.drew l a9i aq p1 p2;rw[JH (af j) v]at V;obtain⟨Vb,bd,bl,I⟩:=t.rr b l;rw[JA (af j) M (af HB)]at I;have ar:=(nO (af j) v).2;have au:=VL (an:=idx d b a) (k:Int) I U.zX (af HM).zX L a9h (by simpa using ar) (λc hc=>by
     obtain⟨x,E,rfl⟩:=eS.1 hc;have:=((af j).mem b x).1 E;have:=J b x;omega)
    have W:=ak t;have Y:=ak H;clear t H I U p1 p2 x0 x1 s1 s4 f1 r1 hX;have bn:=gQ.{0};refine oi ?_
    go_region_with_o (first|(go_at_call 27;refine V.mono ?_;rintro e w2 ⟨rfl,rfl⟩)|(go_at_call 14;refine au.mono ?_;rintro e w3 ⟨rfl,V3,bo,Z,ab⟩;have ad:=ak Z;have z:=ak ab;clear Z ab))
    dsimp only;go_wp2_with fail
    go_roundw
    case rel=>exact⟨k+1,_,a9h,by go_num,zI (af j) (af HB) s v (af W) (af z) (af ad),(af Q).trans ((cO.below 0 (af Y)).trans ((af z).mono λx e=>by subst e;have:=(l7 (af j) (af HF) s).2.1;omega))⟩
    case measure=>simp[intOf];omega
    all_goals exact⟨⟨k+1,_,a9h,by go_num,zI (af j) (af HB) s v (af W) (af z) (af ad),(af Q).trans ((cO.below 0 (af Y)).trans ((af z).mono λx e=>by subst e;have:=(l7 (af j) (af HF) s).2.1;omega))⟩,by simp[intOf];omega⟩
  .obtain rfl:k=n:=a9h
   have H1:=ak C;have Q:=ak K;clear C K;go_wp2;go_ret;exact⟨fL rfl,cl,af H1,af Q⟩
variable{ad far:Nat->Nat->Nat}{m:Nat->List Nat}{T:Nat->List Rw}
def a0k(G:d9 m ad)(F:fW ad far)(a):gg m ad far a (m a).length (T a) (λb=>if b=a then d7 (T a)else T b)=iK m ad far a T:=by
 rw[<-a0b G F a];funext b;by_cases e:b=a
 .subst e;rw[if_pos rfl];unfold gg;rw[if_neg (λq=>(G.mem b b).1 (b0u q.1) (G.self b))];exact if_pos rfl
 .rw[if_neg e];unfold gg;simp only[if_neg e]
structure wP (col:dI) (w:aa) (Bn:Nat) (ad far:Nat->Nat->Nat) (m:Nat->List Nat) (R:Nat->Nat) (T:Nat->List Rw) (w0:aa) (col0:dI):Prop where
 ed:eA col w Bn ad far m R T
 tab:iw m T
 il:cO (λx=>10<=x) col0 col w0 w
def Ka(col)(f N:Nat)(ad far m R T w)(G:d9 m ad)(F:fW ad far)(j:∀x y,ad x y<=15)(hN:N<=1000)(O:iw m T)(h:eA col w f ad far m R T):Calls Gh.prog.{0} 24 #[.pointer (some ⟨f,0,none⟩),.int .i64 N] w λe W=>e=.returned (.bool true)/\∃l,wP l W f ad far m R (lB m ad far N T) w col:=by
 have n:=ak G;have H:=ak F;have X:Hid (wP col w f ad far m R T w col):=⟨h,O,cO.refl _ _ _⟩;clear G F h O;go_enter Gh.func24,Tryz.ntmps24;go_wp2
 go_loopw [5] (λi wr=> ∃(k:Nat) (C:dI),k<=N/\i=.int .i64 k/\wP C wr f ad far m R (lB m ad far k T) w col) (λi _=>N - (intOf i).toNat)
 case atStart=>exact⟨0,col,a9h,rfl,af X⟩
 case round=>
  obtain⟨k,C,hk,rfl,P⟩:=hrel;have Q:=ak P;clear P;by_cases Y:k<N
  .go_wp2
   go_loopw [6] (λi wq=> ∃(a:Nat) (D:dI),a<=5/\i=.int .i64 a/\wP D wq f ad far m R (pv m ad far a (lB m ad far k T)) w col) (λi _=>5 - (intOf i).toNat)
   case atStart=>exact⟨0,C,a9h,rfl,af Q⟩
   case round=>
    obtain⟨a,D,ha,rfl,d⟩:=hrel;by_cases o:a<5
    .generalize S:pv m ad far a (lB m ad far k T)=U at*;have y2:=d.ed.rt a o;obtain⟨V,cv,rv,E⟩:=d.ed.rr a o;have c:=d.tab.tab a o;have p:=a5B E c.zX (by have:=(af n).j9 a;simpa using dt this a9h);have I:aY (U a).length=1:=JD (by obtain⟨r,E⟩:=c.own;exact b1E (lh E).1) (by have:=c.j9;omega);rw[I,b1y]at p;have a0:(0:Int)<=(a:Int)/\(a:Int)<5:=a9h
     have J:∀b,b<5->eB (m b).length b (if b=a then d7 (U a)else U b):=λb Z=>by
      by_cases e:b=a
      .subst e;rw[if_pos rfl];exact c.still
      .rw[if_neg e];exact d.tab.tab b Z
     have q:=ak d;have HU:=ak S;clear d E S;go_wp2_with (first|(go_at_call 21;refine p.mono ?_;rintro e w1 ⟨u,V1,ab,rfl,s,g,t⟩;have v:=(af q).ed.step g s;have z:=a3x (fP D _ (10+a)) f a (m a).length ad far m R _ (U a) u w1 (af n) (af H) j o ((af n).j9 a) rfl c J v (by simpa using t);rw[a0k (af n) (af H)]at z;have K:=ak g;clear s g t v)|(go_at_call 56;refine z.mono ?_;rintro e w2 ⟨rfl,c2,A,B⟩;have L:=ak A;have M:=ak B;clear A B))
     go_roundw
     case rel=>exact⟨a+1,c2,a9h,by go_num,by
      have e:pv m ad far (a+1) (lB m ad far k T)=iK m ad far a U:=by rw[<-af HU];rfl
      rw[e];exact⟨af L,(af q).tab.tell (af n) (af H) o,((af q).il.trans ((af K).mono λx e=>a9h)).trans ((af M).mono λx e=>e.1)⟩⟩
     case measure=>simp[intOf];omega
    .obtain rfl:a=5:=a9h
     have q:=ak d;clear d;go_wp2
     go_roundw
     case rel=>exact⟨k+1,D,a9h,by go_num,af q⟩
     case measure=>simp[intOf];omega
  .obtain rfl:k=N:=a9h
   go_wp2;go_ret;exact⟨fL rfl,C,af Q⟩
def li(L:List Rw)(p:Pf):Int×Int:=match look L p with
 |some r=>(r.met,r.an)
 |none=>(16, -1)
def Xk{L p k}(a:k<L.length)(e:aM L[k]=p)(h:∀q,(b:q<L.length)->q<k->aM L[q]≠p):look L p=some L[k]:=by
 induction L generalizing k with
 |nil=>simp at a
 |cons x L c=>
  rw[lg];cases k with
  |zero=>rw[if_pos (by simpa using e)];rfl
  |succ k=>rw[if_neg (show¬aM x=p from h 0 a9i a9h)];exact c (by simpa using a) (by simpa using e) λq b d=>h (q+1) (by simpa using b) a9h
def Xj{L p}(h:∀q,(a:q<L.length)->aM L[q]≠p):look L p=none:=Ch λr b=>by obtain⟨q,a,rfl⟩:=ox b;exact h q a
def XY(C a b n R V t:Nat)(D L cv rv w)(ha:a<5)(hb:b<5)(T:eB n a L)(ao:w.cell? ⟨C,25+a,none⟩=some (.pointer (some ⟨R,0,none⟩)))(E:w.cell? ⟨C,30+a,none⟩=some (.slice D n t))(u:aE w R #[cv,.int .i32 0,.int .u32 0,.pointer (some ⟨V,0,none⟩)] 116)(c:aE w V #[rv] 122)(o:w.ownsRow 0 137 7 rv L.length (aK L)):Calls Gh.prog.{0} 58 #[.pointer (some ⟨C,0,none⟩),.int .i64 a,.int .i64 b] w λe w'=>e=.returned (.tuple #[.int .i64 (li L (bh b)).1,.int .i64 (li L (bh b)).2,.bool true])/\Below w.heap.size w w':=by
 obtain⟨U,F,rfl⟩:=dH o;have ap:=T.j9;have X:=LR.{0} R V _ cv 0 0 w u c;have Y:=a2v.{0} V U F L w a9h c (tq o);have a0:(0:Int)<=(a:Int)/\(a:Int)<5:=a9h
 have HT:=ak T;have y:=ak E;clear T u c o E;go_enter Gh.func58,Tryz.ntmps58;go_wp2_with (first|(go_at_call 17;refine X.mono ?_;rintro e w1 ⟨rfl,rfl⟩)|(go_at_call 19;refine Y.mono ?_;rintro e w2 ⟨v,rfl,r,H⟩;obtain⟨aq,ae,rfl⟩:=dH r;have HO:=ak r;have d:=ak H;clear r H))
 go_loopw [10] (λi wr=> ∃k:Nat,k<=L.length/\i=.int .i64 k/\Below w2.heap.size w2 wr/\∀q,(I:q<L.length)->q<k->aM L[q]≠bh b) (λi _=>L.length - (intOf i).toNat)
 case atStart=>exact⟨0,a9h,rfl,Below.refl _ _,λq _ h=>a9h⟩
 case round=>
  obtain⟨k,hk,rfl,f,P⟩:=hrel;have Z:=ak P;clear P;by_cases A:k<L.length
  .obtain⟨g,rfl,P⟩:=Ju (af HO) a9h;have J:=(af HT).row L[k] (kK A);have z:∀i,i<5->wr.cell? ⟨g,k*5+i,none⟩=(mi L[k])[i]? :=λi hi=>by rw[f.cell (p:=⟨g,k*5+i,none⟩) P];have e:=a2s L k A i hi;have:(mi L[k])[i]?=some ((mi L[k])[i]'(by show i<5;exact hi)):=iM _;rw[this]at e⊢;exact CQ (af HO) e
   have z0:wr.cell? ⟨g,k*5,none⟩=some (.int .u32 L[k].addr):=z 0 a9h;have z1:wr.cell? ⟨g,k*5+1,none⟩=some (.int .i64 L[k].len):=z 1 a9h;have z3:wr.cell? ⟨g,k*5+3,none⟩=some (.int .i64 L[k].met):=z 3 a9h;have z4:wr.cell? ⟨g,k*5+4,none⟩=some (.int .i64 L[k].an):=z 4 a9h;have s1:wr.cell? ⟨C,30+a,none⟩=some (.slice D n t):=(f.cell (p:=⟨C,30+a,none⟩) (bL (World.block_lt_of_cell? _ _ (af y)) (af d).size)).trans (((af d).cell (p:=⟨C,30+a,none⟩) (World.block_lt_of_cell? _ _ (af y))).trans (af y));have ar:=gQ.{0};have K:=λW=>JJ.{0} b W hb;have G0:=λn s=>((aJ.refl wr).grow n s).cell z0;have G1:=λn s=>((aJ.refl wr).grow n s).cell z1;have x:=λW=>X8 L[k].addr L[k].len (bh b).addr (bh b).len W;have k0:(k:Int)<(L.length:Int):=a9h
   have k1:(0:Int)<=(k:Int):=a9h
   have j:=ak f;clear f z;by_cases B:aM L[k]=bh b
   .have M:(!(decide (L[k].addr=(bh b).addr)&&decide (L[k].len=(bh b).len)))=false:=by have Q:L[k].addr=(bh b).addr:=congrArg Pf.addr B;have S:L[k].len=(bh b).len:=congrArg Pf.len B;simp[Q,S]
    simp only[M]at x;have HP:=ak B;clear B M;have N:=Xk A (af HP) (af Z);have ab:decide (L[k].an< -1)=false/\decide ((n:Int)<=L[k].an)=false:=by
     obtain q|q:=J.an
     .rw[q.1];exact⟨a9j,a9l⟩
     .exact⟨a9l,a9l⟩
    obtain⟨f1,f2⟩:=ab;have O:=ak N;clear N J;have G3:=λn s=>((aJ.refl wr).grow n s).cell z3;have G4:=λn s=>((aJ.refl wr).grow n s).cell z4;have G5:=λn s=>((aJ.refl wr).grow n s).cell s1;have hm:(li L (bh b))=(L[k].met,L[k].an):=by unfold li;rw[af O]
    have ad:=ak hm;clear hm O;generalize L[k].addr=la at*;generalize L[k].len=ll at*;generalize L[k].met=lm at*;generalize L[k].an=lf at*;go_wp2_with fail
    go_quiet_grown (first|(go_at_call 12;refine aJ.quiet (K _)))
    have l:aJ wr (Go.Sort.grow (wr.drewN nq) osq):=⟨nq,osq,rfl⟩;have y3:=l.cell z3;have y4:=l.cell z4;have y5:=l.cell s1;dsimp only;generalize Go.Sort.grow (wr.drewN nq) osq=wq at*;go_wp2_with fail;go_quiet (fail);go_wp2_with fail;go_quiet (fail);go_wp2_with fail;refine bodyPost_ret (v:=.tuple #[.int .i64 lm,.int .i64 lf,.bool true]) (by simp[results,Tryz.results58,go_sem]) rfl ?_;exact⟨by rw[af ad],(af d).trans (((af j).trans ((below_drewN (below_drewN l.below _) _).mono (af j).size)).mono (af d).size)⟩
   .have M:(!(decide (L[k].addr=(bh b).addr)&&decide (L[k].len=(bh b).len)))=true:=by
     by_cases Q:L[k].addr=(bh b).addr
     .by_cases S:L[k].len=(bh b).len
      .exact absurd (show aM L[k]=bh b by unfold aM;rw[Q,S]) B
      .simp[S]
     .simp[Q]
    simp only[M]at x;have HP:=ak B;clear B M;generalize L[k].addr=la at*;generalize L[k].len=ll at*;go_wp2_with fail
    go_quiet_grown (first|(go_at_call 12;refine aJ.quiet (K _)))
    have l:aJ wr (Go.Sort.grow (wr.drewN nq) osq):=⟨nq,osq,rfl⟩;dsimp only;generalize Go.Sort.grow (wr.drewN nq) osq=wq at*;go_wp2_with fail
    go_roundw
    case rel=>
     refine⟨k+1,a9h,by go_num,(af j).trans (l.below.mono (af j).size),λq I au=>?_⟩;by_cases e:q=k
     .subst e;exact af HP
     .exact af Z q I a9h
    case measure=>simp[intOf];omega
  .obtain rfl:k=L.length:=a9h
   have j:=ak f;clear f;go_wp2;refine bodyPost_ret (v:=.tuple #[.int .i64 16,.int .i64 (-1),.bool true]) (by simp[results,Tryz.results58,go_sem]) rfl ?_;refine⟨?_,(af d).trans ((af j).mono (af d).size)⟩;have e:li L (bh b)=(16, -1):=by unfold li;rw[Xj λq I=>af Z q I I]
   rw[e]
def XP{w g x t}(h:aE w g (dk x) t):(loadCellsFrom ⟨g,0,none⟩ 0 25 #[]).run Gh.prog.{0} w=.ok (dk x) w:=by
 have:=run_loadCells_list (P:=Gh.prog.{0}) w ⟨g,0,none⟩ (dk x).toList λj v a=>by rw[show(⟨g,0,none⟩:aF).add j=⟨g,j,none⟩by unfold Addr.add;split<;>simp_all,h.cell];simpa using a
 rw[show(dk x).toList.length=25 by simp[vB]]at this;simpa[loadCells]using this
def XS{w g c x t}(h:aE w g c t)(b:c.size=25):(storeCells ⟨g,0,none⟩ (dk x).toList 0).run Gh.prog.{0} w=.ok () (w.setRow g (dk x)):=by
 have:=run_storeCells_from (P:=Gh.prog.{0}) g t (dk x).toList 0 c w h (by simp[vB,b]) λv a=>by simp only[dk,eS]at a;obtain⟨i,_,rfl⟩:=a;rfl
 simpa using this
def a6y{P}(w){ops b o a Q}(c:o.guard=none)(x t)(e:o.op=.load t x)(v d)(f:a.eval x=d)(g:(Instr.loadAt t d).run P w=.ok v w)(h:wpList P ops Q b (a.put o.dst v) w):wpList P ops Q (o::b) a w:=
 wpList_plain c λ_ i=>by unfold Oper.wp execOp;simp only[e,Sem.run_bind,Sem.run_pure,Result.andThen_ok,f,g];exact i _ _ h
def LZ{P}(w w'){ops b o a Q}(c:o.guard=none)(x y t)(f:o.op=.store t x y)(d e)(g:a.eval x=d)(i:a.eval y=e)(j:(Instr.storeAt t d e).run P w=.ok () w')(h:wpList P ops Q b (a.put o.dst undef) w'):wpList P ops Q (o::b) a w:=
 wpList_plain c λ_ k=>by unfold Oper.wp execOp;simp only[f,Sem.run_bind,Sem.run_pure,Result.andThen_ok,g,i,j];exact k _ _ h
def Iu{w g x t}(h:aE w g (dk x) t):(loadVar 70 ⟨g,0,none⟩).run Gh.prog.{0} w=.ok (.agg (dk x)) w:=by simp only[loadVar,Sem.run_bind,Gh.yn,Tryz.isAgg70,Gh.ss,Tryz.sizeOf70,Result.andThen_ok,if_true,loadCells,XP h,Sem.run_pure]
def XQ{w g x t}(h:aE w g (dk x) t):(Instr.loadAt 70 (.pointer (some ⟨g,0,none⟩))).run Gh.prog.{0} w=.ok (.agg (dk x)) w:=by simp only[Instr.loadAt,Instr.sureAddr,Sem.run_bind,Sem.run_pure,Result.andThen_ok,Iu h]
def Iv{w g c x t}(h:aE w g c t)(a:c.size=25):(Instr.storeAt 70 (.pointer (some ⟨g,0,none⟩)) (.agg (dk x))).run Gh.prog.{0} w=.ok () (w.setRow g (dk x)):=by have b:=XS (x:=x) h a;simp[Instr.storeAt,Instr.sureAddr,storeVar,Sem.run_bind,Gh.ss,Tryz.sizeOf70,Value.cells,vB,b]
def aE.row{w g c t}(c')(h:aE w g c t):aE (w.setRow g c') g c' t:=by unfold aE at h⊢;simp[World.setRow,kD,h]
def a5C{x a c v}(b:∀p q,x p q<=16)(d:v<=16):∀p q,kA x a c v p q<=16:=λp q=>by
 unfold kA;split
 .exact d
 .exact b p q
def k8(k:Nat):Nat->Nat->Nat:=λp q=>if p<k then Near.fo p q else 0
def nP(k j:Nat):Nat->Nat->Nat:=λp q=>if p<k then Near.fo p q else if p=k/\q<j then 16 else 0
def Wc(k j):kA (nP k j) k j 16=nP k (j+1):=by
 funext p q;simp only[kA,nP];by_cases h:p<k
 .rw[if_neg a9h,if_pos h,if_pos h]
 .rw[if_neg h,if_neg h];by_cases e:p=k/\q=j
  .rw[if_pos e,if_pos a9h]
  .rw[if_neg e];by_cases z:p=k/\q<j
   .rw[if_pos z,if_pos a9h]
   .rw[if_neg z,if_neg a9h]
def Wb{k}:dk (kA (nP k 5) k k 1)=dk (k8 (k+1)):=by
 refine mq λi=>?_;rw[qq,qq];by_cases h:i<25
 .rw[if_pos h,if_pos h];have:kA (nP k 5) k k 1 (i / 5) (i%5)=k8 (k+1) (i / 5) (i%5):=by
   simp only[kA,nP,k8,Near.fo];have:i%5<5:=Nat.mod_lt _ a9h
   repeat' split
   all_goals first|rfl|omega
  rw[this]
 .rw[if_neg h,if_neg h]
def Wa:dk (k8 5)=dk Near.fo:=by
 refine mq λi=>?_;rw[qq,qq];by_cases h:i<25
 .rw[if_pos h,if_pos h];have:k8 5 (i / 5) (i%5)=Near.fo (i / 5) (i%5):=if_pos a9h;rw[this]
 .rw[if_neg h,if_neg h]
variable{far:Nat->Nat->Nat}{x:Nat->Nat->Nat}
def a1u(far a b k x):Near.gT far a b (k+1) x=if Near.gT far a b k x b k+far a b<Near.gT far a b k x a k then kA (Near.gT far a b k x) a k (Near.gT far a b k x b k+far a b)else Near.gT far a b k x:=by
 funext p q;show(if _ then _ else _)=_;by_cases h:Near.gT far a b k x b k+far a b<Near.gT far a b k x a k
 .rw[if_pos h];simp only[kA];by_cases e:p=a/\q=k
  .rw[if_pos e,if_pos ⟨e.1,e.2,h⟩]
  .rw[if_neg e,if_neg λz=>e ⟨z.1,z.2.1⟩]
 .rw[if_neg h,if_neg λz=>h z.2.2]
def Pb:∀p q,Near.fo p q<=16:=λp q=>by unfold Near.fo;split<;>omega
structure gq (w wr:aa) (x:Nat->Nat->Nat):Prop where
 d:aE wr (w.heap.size+1) (dk x) 70
 r:aE wr w.heap.size (dk λ_ _=>0) 70
 lo:∀p q,x p q<=16
 bl:Below w.heap.size w wr
def gq.set{w wr x}(h:gq w wr x){a c v}(b:a<5)(e:c<5)(f:v<=16){i}(g:i=a*5+c):gq w (wr.setCell ⟨w.heap.size+1,i,none⟩ (.int .i64 (v:Nat))) (kA x a c v):=by
 subst g;refine⟨?_,h.r.other a9i _,a5C h.lo f,?_⟩
 .have:=h.d.set (a*5+c) (.int .i64 (v:Nat))
  rwa [XR x v b e]at this
 .exact h.bl.setCell (p:=⟨w.heap.size+1,a*5+c,none⟩) a9i _
theorem Wd:k8 0=λ_ _=>0:=rfl
def a5U(w){c}(a:c=dk λ_ _=>0):gq w ((w.alloc (.cells c 70)).alloc (.cells c 70)) (k8 0):=by subst a;refine⟨?_,(aE.new w _ 70).alloc _,λp q=>iP _,((Below.refl _ w).alloc (az _) _).alloc a9i _⟩;have:=aE.new (w.alloc (.cells (dk λ_ _=>0) 70)) (dk λ_ _=>0) 70;simpa[Wd]using this
def gq.same{w wr x y}(h:gq w wr x)(e:dk x=dk y)(a:∀p q,y p q<=16):gq w wr y:=⟨by rw[<-e];exact h.d,h.r,a,h.bl⟩
def gq.drew{w wr x}(h:gq w wr x)(n):gq w (wr.drewN n) x:=⟨h.d,h.r,h.lo,below_drewN h.bl n⟩
def a5T(
         Bn far w) (hf:∀a b,far a b<=15) (Q:∀a b,a<5->b<5->w.cell? ⟨Bn,a*5+b,none⟩=some (.int .i64 (far a b:Nat))):Calls Gh.prog.{0} 57 #[.pointer (some ⟨Bn,0,none⟩)] w λe w'=>e=.returned (.agg (dk (Near.i9 far 5 5 Near.fo)))/\Below w.heap.size w w':=by
 have HC:=ak Q;have F:Bn<w.heap.size:=World.block_lt_of_cell? _ _ (Q 0 0 a9h a9h);clear Q;go_enter Gh.func57,Tryz.ntmps57;go_wp2
 go_loopw [4] (λi wr=> ∃k:Nat,k<=5/\i=.int .i64 k/\gq w wr (k8 k)) (λi _=>5 - (intOf i).toNat)
 case atStart=>exact⟨0,a9h,rfl,a5U w (by rfl)⟩
 case round=>
  obtain⟨k,hk,rfl,hI⟩:=hrel;have C:=ak hI;clear hI;by_cases g:k<5
  .have k0:(0:Int)<=(k:Int)/\(k:Int)<5:=a9h
   go_wp2
   go_loopw [5] (λi wr=> ∃j:Nat,j<=5/\i=.int .i64 j/\gq w wr (nP k j)) (λi _=>5 - (intOf i).toNat)
   case atStart=>
    refine⟨0,a9h,rfl,(af C).same ?_ λp q=>?_⟩
    .congr 1;funext p q;unfold k8 nP;rw[if_neg (show¬(p=k/\q<0)by omega)]
    .unfold nP Near.fo
     repeat' split
     all_goals omega
   case round=>
    obtain⟨j,hj,rfl,s⟩:=hrel;by_cases H:j<5
    .have j0:(0:Int)<=(j:Int)/\(j:Int)<5:=a9h
     have c0:=(s.d.cell (k*5+j)).trans (vA _ g H);have f0:=s.d.frozen (k*5+j);have S:=ak s;clear s;go_wp2
     go_roundw
     case rel=>exact⟨j+1,a9h,by go_num,by rw[<-Wc];exact(af S).set (v:=16) g H a9j rfl⟩
     case measure=>simp[intOf];omega
    .obtain rfl:j=5:=a9h
     have c0:=(s.d.cell (k*5+k)).trans (vA _ g g);have f0:=s.d.frozen (k*5+k);have S:=ak s;clear s;go_wp2
     go_roundw
     case rel=>exact⟨k+1,a9h,by go_num,((af S).set (v:=1) g g a9h rfl).same Wb λp q=>by
      unfold k8 Near.fo
      repeat' split
      all_goals omega⟩
     case measure=>simp[intOf];omega
  .have I:k8 k=k8 5:=by rw[show k=5 by omega]
   have T:=ak I;have k1: ¬((k:Int)<5):=a9h
   clear I;go_wp2
   go_loopw [6] (λi wr=> ∃k:Nat,k<=5/\i=.int .i64 k/\gq w wr (Near.i9 far 5 k Near.fo)) (λi _=>5 - (intOf i).toNat)
   case atStart=>exact⟨0,a9h,rfl,(af C).same (by rw[af T];exact Wa) Pb⟩
   case round=>
    obtain⟨k,hk,rfl,hI⟩:=hrel;have J:=ak hI;clear hI;by_cases g:k<5
    .have k2:(k:Int)<5:=a9h
     go_wp2
     go_loopw [7] (λi wr=> ∃a:Nat,a<=5/\i=.int .i64 a/\gq w wr (Near.pe far 5 a (Near.i9 far 5 k Near.fo))) (λi _=>5 - (intOf i).toNat)
     case atStart=>exact⟨0,a9h,rfl,af J⟩
     case round=>
      obtain⟨a,ha,rfl,hI⟩:=hrel;have HA:=ak hI;clear hI;by_cases h:a<5
      .have a0:(0:Int)<=(a:Int)/\(a:Int)<5:=a9h
       generalize hX:Near.pe far 5 a (Near.i9 far 5 k Near.fo)=X at*;go_wp2
       go_loopw [8] (λi wr=> ∃b:Nat,b<=5/\i=.int .i64 b/\gq w wr (Near.mQ far 5 a b X)) (λi _=>5 - (intOf i).toNat)
       case atStart=>exact⟨0,a9h,rfl,af HA⟩
       case round=>
        obtain⟨b,hb,rfl,hI⟩:=hrel;by_cases D:b<5
        .have b0:(0:Int)<=(b:Int)/\(b:Int)<5:=a9h
         have c0:=(hI.bl.cell (p:=⟨Bn,a*5+b,none⟩) F).trans (af HC a b h D);have ab:=hf a b;have R:=ak hI;clear hI;by_cases u:far a b=0
         .have U:(((far a b:Nat):Int)==0)=true:=by simp[u]
          have V:decide (((far a b:Nat):Int)=0)=true:=by simp[u]
          have W:=ak u;clear u;generalize ((far a b:Nat):Int)=fv at*;go_wp2
          go_roundw
          case rel=>exact⟨b+1,a9h,by go_num,by
           show gq w _ (if far a b=0 then _ else _);rw[if_pos (af W)];exact af R⟩
          case measure=>simp[intOf];omega
         .have U:(((far a b:Nat):Int)==0)=false:=by simp[u]
          have V:decide (((far a b:Nat):Int)=0)=false:=by simp[u]
          have W:=ak u;clear u;generalize hY:Near.mQ far 5 a b X=Y at*;go_wp2
          go_loopw [9] (λi wr=> ∃c:Nat,c<=5/\i=.int .i64 c/\gq w wr (Near.gT far a b c Y)) (λi _=>5 - (intOf i).toNat)
          case atStart=>exact⟨0,a9h,rfl,af R⟩
          case round=>
           obtain⟨c,Q,rfl,hI⟩:=hrel;by_cases E:c<5
           .have ad:(0:Int)<=(c:Int)/\(c:Int)<5:=a9h
            have e0:=(hI.bl.cell (p:=⟨Bn,a*5+b,none⟩) F).trans (af HC a b h D);have e1:=(hI.d.cell (b*5+c)).trans (vA _ D E);have e2:=(hI.d.cell (a*5+c)).trans (vA _ h E);have e3:=hI.d.frozen (a*5+c);have l1:=hI.lo b c;have l2:=hI.lo a c;have K:=a1u far a b c Y;have C:=ak hI;have L:=ak K;clear hI K;generalize hZ:Near.gT far a b c Y=Z at*;have M:=af L;have y:((Z b c+far a b:Nat):Int)=((Z b c:Nat):Int)+((far a b:Nat):Int):=a9h
            have ae:IntKind.i64.wrap (((Z b c:Nat):Int)+((far a b:Nat):Int))=((Z b c:Nat):Int)+((far a b:Nat):Int):=wrap_small _ a9h a9h;have l:(((Z b c:Nat):Int)+((far a b:Nat):Int)<((Z a c:Nat):Int))↔Z b c+far a b<Z a c:=a9h
            have N:=ak y;have A:Z b c+far a b<Z a c->Z b c+far a b<=16:=a9h
            have O:=ak A;clear y A;generalize ao:((Z b c:Nat):Int)=zb at*;generalize ap:((Z a c:Nat):Int)=za at*;generalize aq:((far a b:Nat):Int)=fv at*;by_cases f:zb+fv<za
            .have hd:decide (zb+fv<za)=true:=by simp[f]
             have o:=ak (l.1 f);have P:∀n,gq w ((wr.drewN n).setCell ⟨w.heap.size+1,a*5+c,none⟩ (.int .i64 (zb+fv))) (Near.gT far a b (c+1) Y):=λn=>by have:=((af C).drew n).set h E (af O (af o)) rfl;rw[af N,<-M.trans (if_pos (af o))]at this;exact this
             have B:=ak P;clear P;clear f l;go_wp2_with fail;go_quiet (fail);go_wp2_with fail;have ar:=gQ.{0};refine oi ?_
             go_region_with_o (fail)
             dsimp only;go_wp2_with fail
             go_roundw
             case rel=>exact⟨c+1,a9h,by go_num,af B _⟩
             case measure=>simp[intOf];omega
             all_goals exact⟨⟨c+1,a9h,by go_num,af B _⟩,by simp[intOf];omega⟩
            .have hd:decide (zb+fv<za)=false:=by simp[f]
             have o:=ak (λz=>f (l.2 z));clear f l;go_wp2_with fail;go_quiet (fail);go_wp2_with fail
             go_roundw
             case rel=>exact⟨c+1,a9h,by go_num,by
              rw[af L,if_neg (af o)];exact(af C).drew _⟩
             case measure=>simp[intOf];omega
           .obtain rfl:c=5:=a9h
            have C:=ak hI;clear hI;go_wp2
            go_roundw
            case rel=>exact⟨b+1,a9h,by go_num,by
             show gq w _ (if far a b=0 then _ else _);rw[if_neg (af W)];rw[hY];exact af C⟩
            case measure=>simp[intOf];omega
        .obtain rfl:b=5:=a9h
         have R:=ak hI;clear hI;go_wp2
         go_roundw
         case rel=>exact⟨a+1,a9h,by go_num,by
          show gq w _ (Near.mQ far 5 a 5 (Near.pe far 5 a _));rw[hX];exact af R⟩
         case measure=>simp[intOf];omega
      .obtain rfl:a=5:=a9h
       go_wp2
       go_roundw
       case rel=>exact⟨k+1,a9h,by go_num,af HA⟩
       case measure=>simp[intOf];omega
    .obtain rfl:k=5:=a9h
     have hl:=XQ (af J).d;have hs:=Iv (x:=Near.i9 far 5 5 Near.fo) (af J).r (vB _);go_wp2_with (first|refine a6y _ rfl _ 70 rfl _ _ rfl hl ?_|refine LZ _ _ rfl _ _ 70 rfl _ _ rfl rfl hs ?_);refine bodyPost_ret (v:=.agg (dk (Near.i9 far 5 5 Near.fo))) ?_ rfl ?_
     .have:=Iu (x:=Near.i9 far 5 5 Near.fo) (t:=70) (aE.row (dk (Near.i9 far 5 5 Near.fo)) (af J).r);simp[results,Tryz.results57,asAddr,Sem.run_bind,Act.put,js,this]
     .refine⟨rfl,(af J).bl.trans ⟨rfl,rfl,rfl,by simp[World.setRow],λj hj=>setRow_other _ _ _ _ a9h⟩⟩
variable{b1 far:Nat->Nat->Nat}{m:Nat->List Nat}{T:Nat->List Rw}
def XW{n a L}(h:eB n a L)(b p):(li L p).1=((cG b (look L p)).1:Nat):=by
 unfold li;cases c:look L p with
 |none=>rfl
 |some r=>have:=(h.row r (lh c).1).lo;simp only[cG];omega
def Uu{n a L}(h:eB n a L){d p x}(b:(cG d (look L p)).2=some x):∃i:Nat,(li L p).2=i/\d[i]?=some x:=by
 unfold li;cases c:look L p with
 |none=>rw[c]at b;cases b
 |some r=>
  rw[c]at b;simp only[cG]at b;split at b
  .cases b
  .rename_i e;refine⟨r.an.toNat,?_,b⟩;obtain q|q:=(h.row r (lh c).1).an
   .exact absurd q.1 e
   .show r.an=_;omega
def Ix{d w wr f R}(h:eA d w f b1 far m R T)(k:iw m T)(l:Below w.heap.size w wr){p b:Nat}(a:p<5)(g:b<5):Calls Gh.prog.{0} 58 #[.pointer (some ⟨f,0,none⟩),.int .i64 p,.int .i64 b] wr λe w'=>e=.returned (.tuple #[.int .i64 ((cQ m T b p).1:Nat),.int .i64 (li (T p) (bh b)).2,.bool true])/\Below wr.heap.size wr w':=by have i:=h.below l 0;obtain⟨j,c,n,_,_⟩:=i.sd p a;obtain⟨V,o,r,q⟩:=i.rr p a;have:=XY f p b (m p).length (R p) V c j (T p) o r wr a g (k.tab p a) (i.rt p a) n q.at.blk q.at.view q.at.rows;rw[XW (k.tab p a) (m p)]at this;exact this
def a6z(d){ops b o a Q c}(e:o.guard=none)(x y)(g:o.op=.store 70 x y)(i:c.size=25){X}(k:a.eval x=.pointer (some ⟨d.heap.size,0,none⟩))(l:a.eval y=.agg (dk X))(h:∀f,aE f d.heap.size (dk X) 70->Below d.heap.size d f->wpList Gh.prog.{0} ops Q b (a.put o.dst undef) f):wpList Gh.prog.{0} ops Q (o::b) a (d.alloc (.cells c 70)):=by
 refine LZ _ _ e x y 70 g _ _ k l (Iv (aE.new _ _ 70) i) (h _ ?_ ?_)
 .exact aE.row _ (aE.new d c 70)
 .exact((Below.refl _ d).alloc (az _) _).trans ⟨rfl,rfl,rfl,by simp[World.setRow],λj n=>setRow_other _ _ _ _ a9h⟩
def J4(au Bn b1 far m R T w)(G:d9 m b1)(F:fW b1 far)(D:∀x y,far x y<=15)(hT:iw m T)(h:eA au w Bn b1 far m R T)(hR:∀d,d<5->Near.pQ far d 5 (λa=>Near.i9 far 5 5 Near.fo a d) (cQ m T d)):Calls Gh.prog.{0} 25 #[.pointer (some ⟨Bn,0,none⟩)] w λe w'=>e=.returned (.bool true)/\Below w.heap.size w w':=by
 have hD:∀d,d<5->Near.eT far d 5 (λa=>Near.i9 far 5 5 Near.fo a d):=λd hd=>Near.LS F.sy (λa b h5=>eQ λq=>by
  have:=(l7 G F (by rw[F.sy];exact q:far b a≠0)).1;omega) hd
 have hw:=a5T Bn far w D h.fr;have bw:=h.bn.1;have E:=G.j9;have HM:=ak h;have HT:=ak hT;have HR:=ak hR;have HD:=ak hD;clear h hT hR hD G F;generalize Near.i9 far 5 5 Near.fo=X at*;go_enter Gh.func25,Tryz.ntmps25;go_wp2_with (first|(go_at_call 57;refine hw.mono ?_;rintro e w1 ⟨rfl,H⟩;have I:=ak H;clear H)|(refine a6z _ rfl _ _ rfl rfl rfl rfl ?_;intro A J K;have L:=(af I).trans (K.mono (af I).size);have B:=ak L;have M:=ak J;clear K L J))
 go_loopw [4] (λi wr=> ∃a:Nat,a<=5/\i=.int .i64 a/\Below A.heap.size A wr) (λi _=>5 - (intOf i).toNat)
 case atStart=>exact⟨0,a9h,rfl,Below.refl _ _⟩
 case round=>
  obtain⟨a,ha,rfl,c⟩:=hrel;have O:=ak c;clear c;by_cases k:a<5
  .have a0:(0:Int)<=(a:Int)/\(a:Int)<5:=a9h
   go_wp2
   go_loopw [5] (λi wr=> ∃b:Nat,b<=5/\i=.int .i64 b/\Below A.heap.size A wr) (λi _=>5 - (intOf i).toNat)
   case atStart=>exact⟨0,a9h,rfl,af O⟩
   case round=>
    obtain⟨b,hb,rfl,c⟩:=hrel;by_cases g:b<5
    .have b0:(0:Int)<=(b:Int)/\(b:Int)<5:=a9h
     have j:Below w.heap.size w wr:=(af B).trans (c.mono (af B).size);have P:=Ix (af HM) (af HT) j k g;rw[(af HR b g).eq a k]at P;have Q:=ak (λp (C:p<5) W (hW:Below w.heap.size w W)=>Ix (af HM) (af HT) hW C g);have o:=ak c;have bp:=(af HD b g).top a;generalize S:X a b=r at*;have U:=ak S;clear c j S;have bx:(((r:Nat):Int)==((r:Nat):Int))=true:=a9i
     generalize av:(li (T a) (bh b)).2=mv at*;clear av;go_wp2_with (go_at_call 58;refine P.mono ?_;rintro e w3 ⟨rfl,V⟩;have l:=(af o).trans (V.mono (af o).size);have d3:=((af M).below l (af M).lt).cell (a*5+b);rw[vA _ k g,af U]at d3;have aP:=ak l;clear V l)
     go_loopw [9,10] (λba st wr=> ∃p s:Nat,p<5/\ba=.int .i64 p/\st=.int .i64 s/\(r<16->X p b<16)/\s+Near.jJ (λx=>X x b) 5 p<=4/\Below A.heap.size A wr) (λ_ st _=>6 - (intOf st).toNat)
     case atStart=>exact⟨a,0,k,rfl,rfl,λh=>by rw[af U];exact h,by have:=Near.Da (N:=5) (λx=>X x b) k;omega,af aP⟩
     case round=>
      obtain⟨p,s,C,rfl,rfl,Y,bA,c⟩:=hrel;have Z:=ak Y;clear Y;by_cases ab:r<16/\p≠b
      .obtain⟨z,t⟩:=ab;have j:Below w.heap.size w wr:=(af B).trans (c.mono (af B).size);have ad:=af Q p C wr j;obtain⟨n,n1,n2,n3,n4,n5⟩:=(af HR b g).next (af HD b g) C t (af Z z)
       obtain⟨i,i1,i2⟩:=Uu ((af HT).tab p C) n1;have u:i<(m p).length:=(nh.1 i2).1;have br:i<5:=bL u (E p);have ae:Near.jJ (λx=>X x b) 5 n<Near.jJ (λx=>X x b) 5 p:=Near.Db n2 (by
        have:=b0G n4;omega)
       have nx:X n b<16:=by have:=af Z z;omega
       have ao:=(af HM).below j 0;obtain⟨bB,bs,s1,s2,s3⟩:=ao.sd p C;obtain s2|⟨sb,ap,rfl,sc⟩:=s2
       .exfalso;have:=congrArg List.length s2;simp at this;rw[this]at u;simp at u
       have aq:=sc i (by simpa using u);rw[b0t,(nh.1 i2).2]at aq;have ar:=(s3 _ rfl).1;dsimp only at ar;rw[i1]at ad;have p0:(0:Int)<=(p:Int)/\(p:Int)<5:=a9h
       have i0:(0:Int)<=(i:Int)/\(i:Int)<((m p).length:Int):=a9h
       have i3: ¬((i:Int)<0):=a9h
       have s5: ¬((5:Int)<(s:Int)):=a9h
       have x0:(r:Int)<16:=a9h
       have bb:(((p:Nat):Int)==((b:Nat):Int))=false:=a9l
       have bc: ¬((p:Nat):Int)=((b:Nat):Int):=a9h
       have f:=ak c;have bd:=ak ae;have bl:=ak nx;clear c j ae nx ao s3 sc n5 n4 t z;generalize (m p).length=sl at*;generalize (cQ m T b p).1=mm at*;go_wp2_with (go_at_call 58;refine ad.mono ?_;rintro e w4 ⟨rfl,v⟩;have y1:=(v.cell (p:=⟨Bn,30+p,none⟩) (World.block_lt_of_cell? _ _ s1)).trans s1;have y2:=(v.cell (p:=⟨sb,ap+i,none⟩) ar).trans aq;have bo:=ak v;clear v)
       go_roundw
       case rel=>exact⟨n,s+1,n2,rfl,by go_num,λ_=>af bl,by have:=af bd;omega,(af f).trans ((af bo).mono (af f).size)⟩
       case measure=>simp[intOf];omega
      .have f:=ak c;clear c;have hex:r=16\/(r<16/\p=b):=a9h
       clear ab;obtain z|⟨z,t⟩:=hex
       .have x0: ¬((r:Int)<16):=a9h
        clear z;go_wp2
        go_roundw
        case rel=>exact⟨b+1,a9h,by go_num,af f⟩
        case measure=>simp[intOf];omega
       .have x0:(r:Int)<16:=a9h
        have bb:(((p:Nat):Int)==((b:Nat):Int))=true:=a9l
        have bc:((p:Nat):Int)=((b:Nat):Int):=a9h
        clear z t;go_wp2
        go_roundw
        case rel=>exact⟨b+1,a9h,by go_num,af f⟩
        case measure=>simp[intOf];omega
    .obtain rfl:b=5:=a9h
     have o:=ak c;clear c;go_wp2
     go_roundw
     case rel=>exact⟨a+1,a9h,by go_num,af o⟩
     case measure=>simp[intOf];omega
  .have a1: ¬((a:Int)<5):=a9h
   go_wp2;go_ret;exact⟨fL rfl,(af B).trans ((af O).mono (af B).size)⟩
variable{c2 cl:dI}{w wr:aa}{Bn base:Nat}{F far:Nat->Nat->Nat}{m:Nat->List Nat}{R:Nat->Nat}{T:Nat->List Rw}
structure j6 (base:Nat) (w wr:aa) (cl:dI) (Bn:Nat) (F far:Nat->Nat->Nat) (m:Nat->List Nat) (R:Nat->Nat) (T:Nat->List Rw):Prop where
 ed:eA cl wr Bn F far m R T
 fr:fW F far
 ok:mz m far T
 lo:∀x y,far x y<=15
 bl:Below base w wr
 jm:∀b,b<base->cl b<10
 sz:base<=Bn
 cs:∃c t,aE wr Bn c t
def j6.DV{C a w' T'}(h:j6 base w wr cl Bn F far m R T)(i:eA a w' Bn F far m R T')(d:cO C cl a wr w')(f:∀x,C x->10<=x)(j:mz m far T'):j6 base w w' a Bn F far m R T':=by
 have g:∀b,b<base->b<wr.heap.size:=λb e=>by have:=h.ed.bn.1;have:=h.sz;omega
 refine⟨i,h.fr,j,h.lo,h.bl.trans ⟨d.os,d.tape,d.output,d.size,λb e=>d.keep b (g b e) λq=>?_⟩,λb e=>by rw[d.jm b (g b e)];exact h.jm b e,h.sz,?_⟩;rotate_left
 .obtain⟨c,t,k⟩:=h.cs;exact⟨c,t,(d.keep Bn h.ed.bn.1 λq=>by have:=f _ q;rw[h.ed.bn.2]at this;omega).trans k⟩
 have:=f _ q;have:=h.jm b e;omega
def j6.below{w'}(h:j6 base w wr cl Bn F far m R T)(a:Below wr.heap.size wr w'):j6 base w w' (fP cl wr.heap.size 0) Bn F far m R T:=
 h.DV (C:=λ_=>False) (h.ed.below a 0) (cO.below 0 a) (λ_ q=>q.elim) h.ok
def GX(G:d9 m F)(H:fW F far):∀d,d<5->Near.eT far d 5 (λa=>Near.i9 far 5 5 Near.fo a d):=λd c=>Near.LS H.sy (λa b e=>eQ λq=>by
 have:=(l7 G H (by rw[H.sy];exact q:far b a≠0)).1;omega) c
def j6.cut(h:j6 base w wr cl Bn F far m R T){a b}(s:a<5)(t:b<5):eA cl ((wr.setCell ⟨Bn,a*5+b,none⟩ (.int .i64 0)).setCell ⟨Bn,b*5+a,none⟩ (.int .i64 0)) Bn F (j8 far a b) m R T/\Below base w ((wr.setCell ⟨Bn,a*5+b,none⟩ (.int .i64 0)).setCell ⟨Bn,b*5+a,none⟩ (.int .i64 0)):=by
 have A:=h.sz;refine⟨?_,(h.bl.setCell (p:=⟨Bn,_,none⟩) A _).setCell (p:=⟨Bn,_,none⟩) A _⟩;have n:=h.ed;have c:∀(W:aa) (i k:Nat) (x:aj),k≠i->(W.setCell ⟨Bn,i,none⟩ x).cell? ⟨Bn,k,none⟩=W.cell? ⟨Bn,k,none⟩:=λW i k x g=>World.cell?_setCell_other _ _ _ _ (λe=>g (congrArg Addr.off e).symm);have d:∀(W:aa) (i:Nat) (x y:aj),W.cell? ⟨Bn,i,none⟩=some y->(W.setCell ⟨Bn,i,none⟩ x).cell? ⟨Bn,i,none⟩=some x:=λW i x y u=>World.cell?_setCell_same _ _ _ u;have f:∀k,k≠Bn->((wr.setCell ⟨Bn,a*5+b,none⟩ (.int .i64 0)).setCell ⟨Bn,b*5+a,none⟩ (.int .i64 0)).heap[k]?=wr.heap[k]? :=λk g=>(po g _ _).trans (po g _ _);refine⟨⟨by simp[World.setCell];exact n.bn.1,n.bn.2⟩,λp q j C=>?_,λp j=>?_,λp j=>?_,λp j=>?_⟩
 .unfold j8;have D:=n.fr p q j C;by_cases B:p*5+q=b*5+a
  .have v:p=b/\q=a:=a9h
   rw[if_pos (.inr v),B];have E:∃y,(wr.setCell ⟨Bn,a*5+b,none⟩ (.int .i64 0)).cell? ⟨Bn,b*5+a,none⟩=some y:=by
    by_cases l:b*5+a=a*5+b
    .rw[l];exact⟨_,d _ _ _ _ (n.fr a b s t)⟩
    .rw[c _ _ _ _ l];exact⟨_,n.fr b a t s⟩
   obtain⟨y,u⟩:=E;exact d _ _ _ y u
  .rw[c _ _ _ _ B];by_cases l:p*5+q=a*5+b
   .have v:p=a/\q=b:=a9h
    rw[if_pos (.inl v),l];exact d _ _ _ _ (n.fr a b s t)
   .rw[c _ _ _ _ l,if_neg a9h];exact D
 .rw[c _ _ _ _ a9h,c _ _ _ _ a9h];exact n.rt p j
 .obtain⟨H,z,q1,I,q3⟩:=n.sd p j;exact⟨H,z,by rw[c _ _ _ _ a9h,c _ _ _ _ a9h];exact q1,CF I λx o=>f _ (q3 x o).2.2,λx o=>⟨by simp[World.setCell];exact(q3 x o).1,(q3 x o).2⟩⟩
 .obtain⟨V,J,K,q⟩:=n.rr p j;have r:∀k,cl k=10+p->k≠Bn:=λk g e=>by rw[e,n.bn.2]at g;omega
  exact⟨V,J,K,⟨(f _ (r _ q.blk.2)).trans q.blk.1,q.blk.2⟩,⟨(f _ (r _ q.view.2)).trans q.view.1,q.view.2⟩,⟨vR q.aH.1 λk g=>f k (r k (q.aH.2 k g)),q.aH.2⟩,⟨vR q.rows.1 λk g=>f k (r k (q.rows.2 k g)),q.rows.2⟩⟩
def eA.lost{far}(h:eA cl wr Bn F far m R T)(G:d9 m F){a b}(l:eB (m a).length a (T a))(i:a<5)(h0:F a b≠0):(∃d c,wr.cell? ⟨Bn,30+a,none⟩=some (.slice d (m a).length c))/\Calls Gh.prog.{0} 27 #[.pointer (some ⟨Bn,0,none⟩),.int .i64 a,.int .i64 b] wr (λe w'=>e=.returned (.int .i64 (idx m a b:Nat))/\w'=wr)/\Calls Gh.prog.{0} 26 #[.pointer (some ⟨R a,0,none⟩),.int .i64 (idx m a b:Nat)] wr λe w'=>e=.returned .nilIface/\∃f,eA f w' Bn F far m R (λx=>if x=a then fy (idx m a b) (T a)else T x)/\cO (·=10+a) cl f wr w':=by obtain⟨d,c,j,n,_⟩:=h.sd a i;have g:=JG.{0} Bn a (m a).length c d ((m a).map Int.ofNat) (b:Int) wr i a9i (G.j9 a) j n;rw[JH G h0]at g;obtain⟨V,r,s,o⟩:=h.rr a i;refine⟨⟨d,c,j⟩,g,(QE o l.zX (by simpa using (nO G h0).2)).mono ?_⟩;rintro e w' ⟨rfl,t,p,q,k⟩;exact⟨rfl,_,h.step k q,k⟩
def QI{a b}(c:a≠b):(λx=>if x=b then fy (idx m b a) ((λy=>if y=a then fy (idx m a b) (T a)else T y) b)else (λy=>if y=a then fy (idx m a b) (T a)else T y) x)=jk m a b T:=by
 funext x;unfold jk;by_cases e:x=b
 .subst e;simp only[if_pos,if_neg (b1F c)]
 .simp only[if_neg e]
def j6.a0m{X g w4 o i a b}(h:j6 base w wr cl Bn F far m R T)(G:d9 m F)(u:a<5)(p:far a b≠0)(j:eA cl X Bn F (j8 far a b) m R T)(k:Below base w X)(l:∃c t,aE X Bn c t)(v:cO (·=10+a) (fP cl X.heap.size 0) o X.drew g)(z:cO (·=10+b) (fP o g.heap.size 0) i g.drew w4)(r:eA i w4 Bn F (j8 far a b) m R (λx=>if x=b then fy (idx m b a) ((λy=>if y=a then fy (idx m a b) (T a)else T y) b)else (λy=>if y=a then fy (idx m a b) (T a)else T y) x)):j6 base w w4 i Bn F (j8 far a b) m R (jk m a b T):=by
 have n:a≠b:=(l7 G h.fr p).2.1.symm;rw[QI n]at r;have d:cO (λx=>10<=x) cl i X w4:=(cO.below 0 ((Below.refl _ X).drew)).trans ((v.mono λx e=>a9h).trans ((cO.below 0 ((Below.refl _ g).drew)).trans (z.mono λx e=>a9h)));have s:∀x,x<base->x<X.heap.size:=λx f=>by have:=j.bn.1;have:=h.sz;omega
 refine⟨r,TB h.fr a b,h.ok.down G h.fr u p,λx y=>?_,k.trans ⟨d.os,d.tape,d.output,d.size,λx f=>d.keep x (s x f) λq=>by have:=h.jm x f;omega⟩,λx f=>by rw[d.jm x (s x f)];exact h.jm x f,h.sz,?_⟩
 .unfold j8;split
  .omega
  .exact h.lo x y
 .obtain⟨c,t,A⟩:=l;exact⟨c,t,(d.keep Bn j.bn.1 λq=>by rw[j.bn.2]at q;omega).trans A⟩
def X7(ap cp base Bn A F m R c2 w)(b7:A.length<=100000000000000)(C:∀x∈A, -9223372036854775808<=x/\x<9223372036854775808)(hn:fO w ap A)(bA:∀p,ap=some p->p.block<base)(G:d9 m F)(D:∀x y,F x y<=15)(hM:eA c2 w Bn F F m R kc)(I:∀b,b<base->c2 b<10)(bB:base<=Bn)(Q:∃c t,aE w Bn c t):i7.wp Gh.prog.{0} (λe a' w'=>e=.ret/\a'.defers=[]/\a'.tmps.getD 4 undef=.bool true/\Below base w w') ⟨jo (.slice ap A.length cp) (.pointer (some ⟨Bn,0,none⟩)),[]⟩ w:=by
 have f:fW F F:=⟨G.sy,λ_ _ _=>rfl⟩;have S:j6 base w w c2 Bn F F m R kc:=⟨hM,f,uO m F,D,Below.refl _ _,I,bB,Q⟩;have bC:=Ka c2 Bn 6 F F m R kc w G f D a9h (uO m F).ed hM;have U:=(uO m F).rounds G f 6;have bF:=λd V=>Ut G f V (GX G f d V);generalize b8:lB m F F 6 kc=T6 at*;have bG:=ak S;have HN:=ak hn;have B:=ak G;have HP:Hid (∀x∈A,∀n:Int,0<n->n<=1000->∀W,Calls Gh.prog.{0} 15 #[.int .i64 x,.int .i64 n] W λe w'=>e=.returned (.int .i64 (gP x n))/\w'=W):=λx hx n h0 h1 W=>C2 x n W h0 h1 (C x hx).1 (C x hx).2;have bI:=ak C;clear S hn hM C I G Q;generalize hL:A.length=L at*;simp only[jo,kE,kF,kM,kI,iu,fU];unfold i7;simp only[DN,Tryz.f7,kO];go_wp2_with (first|(go_at_call 24;refine bC.mono ?_;rintro e w1 ⟨rfl,c1,l⟩;have Y:=(af bG).DV l.ed l.il (λ_ q=>q) U;have K:=J4 c1 Bn F F m R T6 w1 (af B) f D l.tab l.ed bF;have bN:=ak Y;clear Y l)|(go_at_call 25;refine K.mono ?_;rintro e w2 ⟨rfl,Z⟩;have bO:=ak ((af bN).below Z);clear Z))
 go_loopw [8] (λi wr=> ∃(k:Nat) (cl:dI) (far:Nat->Nat->Nat) (T:Nat->List Rw),k<=L/\k<=6/\i=.int .i64 k/\j6 base w wr cl Bn F far m R T) (λi _=>6 - (intOf i).toNat)
 case atStart=>exact⟨0,_,F,T6,a9h,a9h,rfl,af bO⟩
 case round=>
  obtain⟨k,cl,far,T,hk,b9,rfl,hI⟩:=hrel;by_cases ab:k<L/\k<6
  .obtain⟨ca,cb⟩:=ab;have o:k<A.length:=a9h
   obtain h0|⟨g,cc,hg,ad⟩:=CF (af HN) λp hp=>hI.bl.block _ (bA p hp)
   .rw[h0]at o;simp at o
   have c0:=ad k o;have bP:=af bI A[k] (kK o);have r:=af HP A[k] (kK o) 5 a9h a9h;clear ad;generalize A[k]=z at*;have ae: -9223372036854775808<=z.tdiv 5/\z.tdiv 5<9223372036854775808:=by
    by_cases h0:0<=z
    .rw[b1i h0];omega
    .have e1:z.tdiv 5= -((-z) / 5):=by rw[<-b1i (by omega:0<= -z),Int.neg_tdiv,Int.neg_neg]
     rw[e1];omega
   have s:=λW=>C2.{0} (z.tdiv 5) 5 W a9h a9h ae.1 ae.2;have cd:IntKind.i64.wrap (z.tdiv 5)=z.tdiv 5:=Ag _ a9h a9h;obtain⟨a,ea,M⟩:∃a:Nat,gP z 5=(a:Int)/\a<5:=⟨(gP z 5).toNat,by have:=qy z 5 a9h;omega,by have:=qy z 5 a9h;omega⟩;obtain⟨b,eb,P⟩:∃b:Nat,gP (z.tdiv 5) 5=(b:Int)/\b<5:=⟨(gP (z.tdiv 5) 5).toNat,by have:=qy (z.tdiv 5) 5 a9h;omega,by have:=qy (z.tdiv 5) 5 a9h;omega⟩;rw[ea]at r;rw[eb]at s;clear ea eb bP;subst hg;have k0:(k:Int)<(L:Int):=a9h
   have k1:(k:Int)<6:=a9h
   have k2:(0:Int)<=(k:Int):=a9h
   have a0:(0:Int)<=(a:Int)/\(a:Int)<5:=a9h
   have b0:(0:Int)<=(b:Int)/\(b:Int)<5:=a9h
   have f0:=hI.ed.fr a b M P;by_cases N:far a b=0
   .have z1:(((far a b:Nat):Int)==0)=true:=by simp[N]
    have z2:decide (((far a b:Nat):Int)=0)=true:=by simp[N]
    have J:=ak hI;clear hI N;generalize ((far a b:Nat):Int)=fv at*;go_wp2_with (first|(go_at_call 15;refine(r _).mono ?_;rintro e wp ⟨rfl,rfl⟩;clear r)|(go_at_call 15;refine(s _).mono ?_;rintro e wp ⟨rfl,rfl⟩;clear s))
    go_roundw
    case rel=>exact⟨k+1,cl,far,T,a9h,a9h,by go_num,af J⟩
    case measure=>simp[intOf];omega
   .have z1:(((far a b:Nat):Int)==0)=false:=by simp[N]
    have z2:decide (((far a b:Nat):Int)=0)=false:=by simp[N]
    obtain⟨b4,ao,_,aq,ar⟩:=l7 (af B) hI.fr N;obtain⟨au,av⟩:=hI.cut M P;obtain⟨bc,bt,E⟩:=hI.cs;have z3:=E.frozen (a*5+b);have z4:=(E.set (a*5+b) (.int .i64 0)).frozen (b*5+a);obtain⟨g0,g1⟩:∃x,(wr.setCell ⟨Bn,a*5+b,none⟩ (.int .i64 0)).cell? ⟨Bn,b*5+a,none⟩=some x:=by rw[World.cell?_setCell_other _ _ _ _ (λe=>ao (by have:=congrArg Addr.off e;simp at this;omega))];exact⟨_,hI.ed.fr b a P M⟩
    have bR:=ak ((E.set (a*5+b) (.int .i64 0)).set (b*5+a) (.int .i64 0));clear E;have J:=ak hI;have O:=ak au;have bS:=ak av;clear hI au av;generalize ce:((far a b:Nat):Int)=fv at*;go_wp2_with (first|(go_at_call 15;refine(r _).mono ?_;rintro e wp ⟨rfl,rfl⟩;clear r)|(go_at_call 15;refine(s _).mono ?_;rintro e wp ⟨rfl,rfl⟩;clear s));generalize hX:((wp.setCell ⟨Bn,a*5+b,none⟩ (.int .i64 0)).setCell ⟨Bn,b*5+a,none⟩ (.int .i64 0))=X at*;have aP:=(af O).below (Below.refl _ X).drew 0;obtain⟨⟨cf,b5,p1⟩,bT,bU⟩:=aP.lost (af B) ((af J).ok.ed.tab a M) M aq;have y2:X.cell? ⟨Bn,25+a,none⟩=some (.pointer (some ⟨R a,0,none⟩)):=(af O).rt a M;clear aP;have ch:=gQ.{0};refine oi ?_
    go_region_with_o (first|(go_at_call 27;refine bT.mono ?_;rintro e w2 ⟨rfl,rfl⟩)|(go_at_call 26;refine bU.mono ?_;rintro e w3 ⟨rfl,c3,ba,bb⟩;have bd:=ak ba;have bV:=ak bb;clear ba bb))
    all_goals
     dsimp only;go_wp2_with fail;have bn:=(af bd).below (Below.refl _ w3).drew 0;have bo:eB (m b).length b (if b=a then fy (idx m a b) (T a)else T b):=by rw[if_neg ao];exact(af J).ok.ed.tab b P
     obtain⟨⟨b6,bX,p2⟩,bp,br⟩:=bn.lost (af B) bo P ar;have y4:w3.cell? ⟨Bn,25+b,none⟩=some (.pointer (some ⟨R b,0,none⟩)):=(af bd).rt b P;clear bn bo;refine oi ?_
     go_region_with_o (first|(go_at_call 27;refine bp.mono ?_;rintro e w5 ⟨rfl,rfl⟩)|(go_at_call 26;refine br.mono ?_;rintro e w6 ⟨rfl,c6,bs,bw⟩;have u:=(af J).a0m (af B) M N (af O) (af bS) ⟨_,_,af bR⟩ (af bV) bw bs;have b1:=Ka c6 Bn 26 F (j8 far a b) m R (jk m a b T) w6 (af B) u.fr D a9h u.ok.ed u.ed;have j:=ak u;clear bs bw u))
     all_goals
      dsimp only;go_wp2_with (first|(go_at_call 24;refine b1.mono ?_;rintro e w8 ⟨rfl,c8,v⟩;have H:=(af j).DV v.ed v.il (λ_ q=>q) ((af j).ok.rounds (af B) (af j).fr 26);have K:=J4 c8 Bn F (j8 far a b) m R _ w8 (af B) H.fr H.lo v.tab v.ed (λd V=>a0n (af B) (af j).fr (af j).ok V (GX (af B) (af j).fr d V));have b2:=ak H;clear H v)|(go_at_call 25;refine K.mono ?_;rintro e w9 ⟨rfl,bx⟩;have b3:=ak ((af b2).below bx);clear bx))
      go_roundw
      case rel=>exact⟨k+1,_,_,_,a9h,a9h,by go_num,af b3⟩
      case measure=>simp[intOf];omega
  .have J:=ak hI;clear hI;have hex: ¬k<L\/k<L/\¬k<6:=a9h
   clear ab;obtain h|⟨h,h'⟩:=hex
   .have k0: ¬((k:Int)<(L:Int)):=a9h
    go_wp2_with fail;exact(af J).bl
   .have k0:(k:Int)<(L:Int):=a9h
    have k1: ¬((k:Int)<6):=a9h
    go_wp2_with fail;exact(af J).bl
end Go.Proofs.q
end
