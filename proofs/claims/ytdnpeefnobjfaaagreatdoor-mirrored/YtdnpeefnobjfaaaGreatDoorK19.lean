import Derived.Lib.Strings
import Derived.Test.YtdnpeefnobjfaaaGreatDoorK18
set_option maxRecDepth 100000
set_option maxHeartbeats 4000000
set_option linter.all false
section
namespace Go.Proofs.q
open Go.RowKit
section
attribute [local go_sem ↓] Go.wp_at_zero Go.wp_at_succ
def xB{b c k i}(h:∀j,j<20->bt c j=bt b (k+j))(a:i+1<20):sh c i=sh b (k+i):=by unfold sh;rw[h i (by omega),h (i+1) a,lG]
def pg{b c k i}(h:∀j,j<20->bt c j=bt b (k+j))(a:i+3<20):wd c i=wd b (k+i):=by unfold wd;rw[xB h (by omega),xB h (i:=i+2) (by omega),lG]
def xA{b c k}(h:∀j,j<20->bt c j=bt b (k+j)):fD c 0=fD b k:=by unfold fD;rw[xB h (i:=0) (by omega),pg h (i:=0+4) (by omega),pg h (i:=0+8) (by omega),pg h (i:=0+12) (by omega),pg h (i:=0+16) (by omega)];simp only[dG,m6]
def I1{b c k}(h:∀j,j<20->bt c j=bt b (k+j)):fw c 0=fw b k:=by unfold fw;rw[pg h (i:=0+4) (by omega),pg h (i:=0+8) (by omega),xB h (i:=0+2) (by omega),pg h (i:=0+16) (by omega)]
def Ct(s:ByteArray)(a c j)(d:a+j<c)(b:c<=s.size):bt (s.extract a c).data.toList j=bt s.data.toList (a+j):=by rw[Lib.extract_data];unfold bt;rw[i4,a6s,if_pos (by omega),a7z,<-i4]
def A7(w:aa)(g o:Nat)(e:aT):aa:=(((w.setCell ⟨g,o,none⟩ (.int .u32 e.addr)).setCell ⟨g,o+1,none⟩ (.int .i64 e.len)).setCell ⟨g,o+2,none⟩ (.int .i64 e.tag)).setCell ⟨g,o+3,none⟩ (.int .i64 e.met)
def Sr(w:aa)(g o e):w.grownBy (A7 w g o e) (some g):=dg (dg (dg (gj _ _ _ _) (gj _ _ _ _)) (gj _ _ _ _)) (gj _ _ _ _)
def part(w:aa)(g N:Nat)(f:Nat->aT)(k:Nat):Prop:=∃a,w.heap[g]?=some (.cells a 42 (0,0))/\a.size=N*4/\∀j,j<k->yu a (j*4) (f j)
def AW{w b g N k f}(h:part w g N f k)(c:b.heap[g]?=w.heap[g]?):part b g N f k:=by obtain⟨a,d,e⟩:=h;exact⟨a,c.trans d,e⟩
def AX{w g N k f}(h:part w g N f k):g<w.heap.size:=by obtain⟨a,b,_⟩:=h;exact lt_of_block b
def wI{w g N k f}(h:part w g N f k)(o)(c:o<N*4):(∃v,w.cell? ⟨g,o,none⟩=some v)/\w.frozen? ⟨g,o,none⟩=false:=by obtain⟨a,b,d,_⟩:=h;exact⟨⟨a[o]'(by omega),by rw[cell_of_row w g o a _ _ b];simp⟩,RA b⟩
def Yk{w g N k f}(h:part w g N f k)(m:k<N):part (A7 w g (k*4) (f k)) g N f (k+1):=by
 obtain⟨c,e,i,l⟩:=h;refine⟨_,ul (ul (ul (ul e))),by simpa using i,λj n=>?_⟩;by_cases d:j=k
 .subst d;simp only[yu,a6k];refine⟨?_,?_,?_,?_⟩<;>simp<;>omega
 .have b:∀q,q<4->((((c.setIfInBounds (k*4) (.int .u32 (f k).addr)).setIfInBounds (k*4+1) (.int .i64 (f k).len)).setIfInBounds (k*4+2) (.int .i64 (f k).tag)).setIfInBounds (k*4+3) (.int .i64 (f k).met))[j*4+q]?=c[j*4+q]? :=λq o=>by simp only[a6k];rw[if_neg (by omega),if_neg (by omega),if_neg (by omega),if_neg (by omega)]
  have a:=l j (by omega);have h0:=b 0 (by omega);simp only[m6]at h0;exact⟨h0.trans a.1,(b 1 (by omega)).trans a.2.1,(b 2 (by omega)).trans a.2.2.1,(b 3 (by omega)).trans a.2.2.2⟩
def Z2{cur L}(e:cur.size=L.length*4)(h:∀j,(f:j<L.length)->yu cur (j*4) L[j]):cur.toList=eY L:=by
 refine List.ext_getElem? λi=>?_;by_cases g:i<L.length*4
 .have b:i / 4<L.length:=by omega
  obtain⟨a0,a1,a2,a3⟩:=h (i / 4) b;obtain⟨c,c1,c2,d⟩:=ze L (i / 4) b;rw[a8a];have a:i=i / 4*4\/i=i / 4*4+1\/i=i / 4*4+2\/i=i / 4*4+3:=by omega
  obtain a|a|a|a:=a
  .rw[a,c];exact a0
  .rw[a,c1];exact a1
  .rw[a,c2];exact a2
  .rw[a,d];exact a3
 .rw[a6x (by simp;omega),a6x (by rw[uZ];omega)]
def Yj{w g N B f}(h:part w g N f N)(b:B<=g)(k:N<=1000000):w.ownsRow B 42 4 (.slice (some ⟨g,0,none⟩) N N) N (eY ((List.range N).map f)):=by obtain⟨cur,c,a,d⟩:=h;have e:=Z2 (cur:=cur) (L:=(List.range N).map f) (by simpa using a) (λj i=>by simpa using d j (by simpa using i));refine⟨by rw[uZ];simp,.inr ⟨g,N,cur,rfl,b,c,aF _,by unfold maxLen;omega,a,?_⟩⟩;rw[mZ (by simp[a]),e]
def Qx{w a v x}(h:dU w v x)(c:Below w.heap.size w a):dU a v x:=by
 cases x with
 |none=>exact h
 |some y=>obtain⟨b,e,h0,d⟩:=h;exact⟨b,e,(c.cell (p:=⟨b,0,none⟩) (World.block_lt_of_cell? w _ h0)).trans h0,(c.cell (p:=⟨b,1,none⟩) (World.block_lt_of_cell? w _ d)).trans d⟩
def YV(s b N w)(hs:s.size=N*20)(ae:0<N)(hN:N<=25)(hb:∀j,j<N*20->bt s.data.toList j=bt b (4+j)):Calls Gh.prog.{0} 88 #[.string s] w λe O=>(jY b N 0=none/\∃g,e=.returned (.tuple #[.slice (some ⟨g,0,none⟩) N N,.nilIface])/\w.heap.size<=g/\part O g N (λk=>fw b (4+k*20)) N/\Below w.heap.size w O)\/(∃v x,jY b N 0=some x/\e=.returned (.tuple #[.slice none 0 0,v])/\dU O v (some x)/\Below w.heap.size w O):=by
 obtain⟨i0,hi,y,z,q⟩:=info_parts Gh.Fi.{0};have HB:=am hb;have ag:=am hs;have al:(s.size:Int) / 20=N:=by omega
 have ao:(s.size:Int)=N*20:=by omega
 clear hb;go_enter Gh.func88,Tryz.ntmps88;go_wp2_with (at_make;go_loud (refine wpList_make_full _ rfl _ _ 43 rfl w.heap.size 42 i0 l6 4 Gh.underlying43 hi y z _ _ _ _ N rfl rfl (by omega) (by omega) (by rw[q];omega) (by unfold maxLen;omega) (aF _) ?_;intro w1 f A));have C:part w1 w.heap.size N (λk=>fw b (4+k*20)) 0:=by
  obtain⟨P,_⟩|⟨g',ad,S,P,_,hg,_,_,T,_⟩:=f.2
  .simp at P
  .simp at P;obtain⟨rfl,rfl⟩:=P;exact⟨S,hg,T,λj t=>by omega⟩
 have D:Below w.heap.size w w1:=(Below.refl _ _).grown A (aF _) (by simp);have F:=am C;have H:=am D;clear f A C D y z q hi
 go_loopw [14] (λi wr=> ∃k:Nat,k<=N/\i=.int .i64 k/\part wr w.heap.size N (λk=>fw b (4+k*20)) k/\Below w.heap.size w wr/\∀j,j<k->fD b (4+j*20)=0) (λi _=>N - (intOf i).toNat)
 case atStart=>exact⟨0,by omega,rfl,ai F,ai H,λj t=>by omega⟩
 case round=>
  obtain⟨k,hk,rfl,hp,I,h⟩:=hrel;have Q:=am hp;have l:=am I;have U:=am h;clear hp I h F H;by_cases V:k<N
  .have m:∀j,j<20->bt (s.extract (k*20) ((k+1)*20)).data.toList j=bt b (4+k*20+j):=λj t=>by rw[Ct s _ _ j (by omega) (by omega),ai HB _ (by omega)];congr 1;omega
   have o:(s.extract (k*20) ((k+1)*20)).size=20:=by rw[a7R];omega
   have c:=am m;have p:=am o;clear m o;have J:=AX (ai Q);by_cases u:fD b (4+k*20)=0
   .have K:=am (λW=>YY (s.extract (k*20) ((k+1)*20)) k W (ai p) (by rw[xA (ai c)];exact u));rw[I1 (ai c)]at K;have HZ:=am u;clear u;go_wp2_with fail;refine(ai K _).mono ?_;rintro e R ⟨rfl,d⟩;have a:=AW (ai Q) (d.block _ J);obtain⟨⟨v0,c0⟩,f0⟩:=wI a (k*4) (by omega);obtain⟨⟨v1,c1⟩,f1⟩:=wI a (k*4+1) (by omega);obtain⟨⟨v2,c2⟩,f2⟩:=wI a (k*4+2) (by omega);obtain⟨⟨v3,c3⟩,f3⟩:=wI a (k*4+3) (by omega);have q:w.heap.size<R.heap.size:=AX a;have X:=am a;have r:=am (dH (ai l) d);clear a d Q l;have j0:(0:Int)<=(k:Int):=by omega
    have j1:(k:Int)<(N:Int):=by omega
    generalize hE:fw b (4+k*20)=E at*;have HE:=am hE;clear hE;go_wp2
    go_roundw
    case rel=>
     have st:part (A7 R w.heap.size (k*4) E) w.heap.size N (λk=>fw b (4+k*20)) (k+1):=by
      have:=Yk (ai X) V
      rwa [ai HE]at this
     have gb:=Sr R w.heap.size (k*4) E;have bb:=(ai r).trans (MB gb (B:=w.heap.size) (by omega) (aF _));refine⟨k+1,by omega,by go_num,AW st (Below.heap_alloc _ _ _ (AX st)),bb.alloc bb.size _,λj t=>?_⟩;by_cases Y:j=k
     .subst Y;exact ai HZ
     .exact ai U j (by omega)
    case measure=>simp[intOf];omega
   .have K:=am (λW=>YW (s.extract (k*20) ((k+1)*20)) k W (ai p) (by rw[xA (ai c)];exact u));rw[xA (ai c)]at K;have HX:=am (a0y (n:=N) (m8 k) (by omega) (λj _ t=>ai U j t) u);clear u;go_wp2_with fail;refine(ai K _).mono ?_;rintro e R ⟨v,rfl,⟨bf,rfl,L,M⟩,d⟩;have r:=am (dH (ai l) d);have Z:=am (zh L M);clear d L M;go_wp2;go_ret2;exact .inr ⟨_,_,ai HX,rfl,Qx (ai Z) (bH _ _),dH (ai r) (bH _ _)⟩
  .have ab:k=N:=by omega
   subst ab;go_wp2;go_ret2;exact .inl ⟨Ia (λj _ t=>ai U j (by omega)),_,rfl,aF _,ai Q,ai l⟩
abbrev JJ:Obj:=.cells #[.int .i64 0,.slice none 0 0] 45
def Bd{w w1}(a:Below (w.alloc JJ).heap.size (w.alloc JJ) w1):w1.cell? ⟨w.heap.size,0,none⟩=some (.int .i64 0)/\w1.cell? ⟨w.heap.size,1,none⟩=some (.slice none 0 0)/\w1.frozen? ⟨w.heap.size,0,none⟩=false/\w1.frozen? ⟨w.heap.size,1,none⟩=false/\w.heap.size<w1.heap.size/\Below w.heap.size w w1:=
 ⟨(
  a.cell (p:=⟨w.heap.size,0,none⟩) (by simp)).trans (by simp),(a.cell (p:=⟨w.heap.size,1,none⟩) (by simp)).trans (by simp),
  (a.frozen (p:=⟨w.heap.size,0,none⟩) (by simp)).trans (by simp),(a.frozen (p:=⟨w.heap.size,1,none⟩) (by simp)).trans (by simp),by have:=a.size;simp at this;omega,jK a⟩
def Ep{w v R a b x ao n cap}(h:dU w v x)(g:w.cell? ⟨R,1,none⟩=some (.slice ao n cap)):dU ((w.setCell ⟨R,0,none⟩ a).setCell ⟨R,1,none⟩ b) v x:=by
 cases x with
 |none=>exact h
 |some y=>
  obtain⟨bf,i,h0,d⟩:=h;have c:bf≠R:=λe=>by subst e;rw[g]at d;simp at d
  have f:((w.setCell ⟨R,0,none⟩ a).setCell ⟨R,1,none⟩ b).heap[bf]?=w.heap[bf]? :=(Below.heap_setCell _ _ _ _ c).trans (Below.heap_setCell _ _ _ _ c);exact⟨bf,i,(World.cell?_of_block (a:=⟨bf,0,none⟩) f).trans h0,(World.cell?_of_block (a:=⟨bf,1,none⟩) f).trans d⟩
def Ka(s w)(a:s.size<=9223372036854775807)(h:jz s.size=false):Calls Gh.prog.{0} 41 #[.string s] w λe w'=> ∃v,e=.returned (.tuple #[.agg #[.int .i64 0,.slice none 0 0],v])/\dU w' v (some (3, -1))/\Below w.heap.size w w':=by go_enter Gh.func41,Tryz.ntmps41;go_wp2_with (first|(go_at_call 86;refine(vU _ _ a).mono ?_;rintro e w' ⟨rfl,rfl⟩)|(go_at_call 87;refine(jN _ _ _).mono ?_;rintro e b ⟨rfl,rfl⟩));exact bodyPost_ret (v:=.tuple #[.agg #[.int .i64 0,.slice none 0 0],.iface 180 (.pointer (some ⟨w.heap.size+1,0,none⟩))]) (by simp[results,Tryz.results41,go_sem]) rfl ⟨_,rfl,pR (by simp) _ _,dH (bH _ _) (bH _ _)⟩
def J7(s w)(a:s.size<=9223372036854775807)(h:jz s.size=true)(b:(s.toList==[1,2,0,0,0,0,0,0,0,0,0,0,0,0,0,0,0,0,0,0,0,0,0,16])=true):Calls Gh.prog.{0} 41 #[.string s] w λe w'=>e=.returned (.tuple #[.agg #[.int .i64 1,.slice none 0 0],.nilIface])/\Below w.heap.size w w':=by go_enter Gh.func41,Tryz.ntmps41;go_wp2_with (first|(go_at_call 86;refine(vU _ _ a).mono ?_;rintro e w' ⟨rfl,rfl⟩));exact bodyPost_ret (v:=.tuple #[.agg #[.int .i64 1,.slice none 0 0],.nilIface]) (by simp[results,Tryz.results41,go_sem]) rfl ⟨rfl,bH _ _⟩
def J8(s w)(a:s.size<=9223372036854775807)(h:jz s.size=true)(b:4<=s.size)(c:(s.toList==[1,2,0,0,0,0,0,0,0,0,0,0,0,0,0,0,0,0,0,0,0,0,0,16])=false)(d:(!(s.extract 0 4).toList==[2,2,0,0])=true):Calls Gh.prog.{0} 41 #[.string s] w λe w'=> ∃v,e=.returned (.tuple #[.agg #[.int .i64 0,.slice none 0 0],v])/\dU w' v (some (4, -1))/\Below w.heap.size w w':=by go_enter Gh.func41,Tryz.ntmps41;go_wp2_with (first|(go_at_call 86;refine(vU _ _ a).mono ?_;rintro e w' ⟨rfl,rfl⟩)|(go_at_call 87;refine(jN _ _ _).mono ?_;rintro e f ⟨rfl,rfl⟩));exact bodyPost_ret (v:=.tuple #[.agg #[.int .i64 0,.slice none 0 0],.iface 180 (.pointer (some ⟨w.heap.size+1,0,none⟩))]) (by simp[results,Tryz.results41,go_sem]) rfl ⟨_,rfl,pR (by simp) _ _,dH (bH _ _) (bH _ _)⟩
def J9(s N w)(t:s.size=4+N*20)(n:0<N)(z:N<=25)(h:jz s.size=true)(J:(s.toList==[1,2,0,0,0,0,0,0,0,0,0,0,0,0,0,0,0,0,0,0,0,0,0,16])=false)(K:(!(s.extract 0 4).toList==[2,2,0,0])=false):Calls Gh.prog.{0} 41 #[.string s] w λe c=>(jY s.data.toList N 0=none/\∃g,e=.returned (.tuple #[.agg #[.int .i64 2,.slice (some ⟨g,0,none⟩) N N],.nilIface])/\w.heap.size<=g/\part c g N (λk=>fw s.data.toList (4+k*20)) N/\Below w.heap.size w c)\/(∃v x,jY s.data.toList N 0=some x/\e=.returned (.tuple #[.agg #[.int .i64 0,.slice none 0 0],v])/\dU c v (some x)/\Below w.heap.size w c):=by
 have d:=λW=>YV (s.extract 4 s.size) s.data.toList N W (by rw[a7R];omega) n z (λj L=>Ct s 4 s.size j (by omega) (aF _));have o:=am d;have A:(4:Int)<=(s.size:Int):=by omega
 have M:=am t;have p:s.size<=9223372036854775807:=by omega
 clear d t;go_enter Gh.func41,Tryz.ntmps41;go_wp2_with (first|(go_at_call 86;refine(vU _ _ p).mono ?_;rintro e c ⟨rfl,rfl⟩));refine(ai o _).mono ?_;rintro e O (⟨a,g,rfl,u,y,f⟩|⟨v,x,a,rfl,⟨bf,rfl,i,l⟩,f⟩)
 .obtain⟨q,m,B,C,D,b⟩:=Bd f;have E:=am y;have r:=am a;have F:w.heap.size<g:=by simp at u;omega
  clear f y a u;go_wp2;refine bodyPost_ret (v:=.tuple #[.agg #[.int .i64 2,.slice (some ⟨g,0,none⟩) N N],.nilIface]) (by simp[results,Tryz.results41,go_sem,q,m]) rfl (.inl ⟨ai r,g,rfl,by omega,AW (ai E) ?_,(b.setCell (by simp) _).setCell (by simp) _⟩);exact(Below.heap_setCell _ _ _ _ (by show g≠w.heap.size;omega)).trans (Below.heap_setCell _ _ _ _ (by show g≠w.heap.size;omega))
 .obtain⟨q,m,B,C,D,b⟩:=Bd f;have H:=am a;have I:=am (zh i l);clear f a i l;go_wp2;exact bodyPost_ret (v:=.tuple #[.agg #[.int .i64 0,.slice none 0 0],.iface 180 (.pointer (some ⟨bf,0,none⟩))]) (by simp[results,Tryz.results41,go_sem,q,m]) rfl (.inr ⟨_,x,ai H,rfl,Ep (ai I) m,(b.setCell (by simp) _).setCell (by simp) _⟩)
def a2n(s n):∀i r,s.size - i<=n->ByteArray.toList.loop s i r=r.reverse++s.data.toList.drop i:=by
 induction n with
 |zero=>intro i r a;unfold ByteArray.toList.loop;rw[if_neg (by omega),a7S (by simp;omega)];simp
 |succ n b=>
  intro i r a;unfold ByteArray.toList.loop;split
  .rename_i h;rw[b (i+1) _ (by omega)];have c:i<s.data.toList.length:=by simpa using h
   rw[a6h c];have e:s.get! i=s.data.toList[i]:=by show s.data[i]! =_;rw[getElem!_pos s.data i h];simp
   simp[e]
  .rename_i h;rw[a7S (by simpa using h)];simp
def toList_data(s:ByteArray):s.toList=s.data.toList:=by unfold ByteArray.toList;rw[a2n s s.size 0 [] (by omega)];simp
def yz(d:aa)(b:List UInt8)(w:aa)(V e:af):Prop:=∃c n a,V=.agg #[.int .i64 (gh b),.slice c n a]/\(eX b).length=n/\w.ownsRow d.heap.size 42 4 (.slice c n a) n (eY (eX b))/\dU w e (gD b)
def yA{d w b v x}(a:gD b=some x)(h:dU w v (some x)):yz d b w (.agg #[.int .i64 0,.slice none 0 0]) v:=by
 have e:gh b=0:=by simp[gh,a]
 have c:eX b=[]:=by simp[eX,a]
 refine⟨none,0,0,by rw[e],by rw[c];rfl,?_,by rw[a];exact h⟩;rw[c];exact World.ownsRow_nil _ _ _ _
def B4(s w)(n:s.size<=9223372036854775807):Calls Gh.prog.{0} 41 #[.string s] w λe w'=> ∃V q,e=.returned (.tuple #[V,q])/\yz w s.data.toList w' V q/\Below w.heap.size w w':=by
 have b:s.data.toList.length=s.size:=by simp
 cases a:jz s.size with
 |false=>refine(Ka s w n a).mono ?_;rintro e w' ⟨v,rfl,j,d⟩;exact⟨_,_,rfl,yA (by simp only[gD,b,a,if_pos]) j,d⟩
 |true=>
  have z:24<=s.size/\s.size<=504/\s.size%20=4:=by simp[jz]at a;omega
  have o:(s.toList==[1,2,0,0,0,0,0,0,0,0,0,0,0,0,0,0,0,0,0,0,0,0,0,16])=decide (s.data.toList=ko):=by rw[toList_data];show(s.data.toList==ko)=_;rw[ma,beq_iff_eq,decide_eq_true_eq]
  have r:(!(s.extract 0 4).toList==[2,2,0,0])=decide (s.data.toList.take 4≠[2,2,0,0]):=by rw[toList_data,Lib.extract_data,ma];simp
  by_cases c:s.data.toList=ko
  .refine(J7 s w n a (by rw[o];simp[c])).mono ?_;rintro e w' ⟨rfl,d⟩;have i:gD s.data.toList=none:=by simp only[gD,b,a];simp[c]
   have p:gh s.data.toList=1:=by unfold gh;rw[i,if_neg (by simp),if_pos c]
   have l:eX s.data.toList=[]:=by unfold eX;rw[i,if_neg (by simp),if_pos c]
   refine⟨_,_,rfl,⟨none,0,0,by rw[p],by rw[l];rfl,?_,by rw[i];rfl⟩,d⟩;rw[l];exact World.ownsRow_nil _ _ _ _
  .by_cases m:s.data.toList.take 4=[2,2,0,0]
   .obtain⟨N,t⟩:∃N,s.size=4+N*20:=⟨(s.size - 4) / 20,by omega⟩;have i:gD s.data.toList=jY s.data.toList N 0:=by simp only[gD,b,a];rw[if_neg (by simp),if_neg c,if_neg (by simpa using m),show(s.size - 4) / 20=N by omega]
    refine(J9 s N w t (by omega) (by omega) a (by rw[o];simp[c]) (by rw[r];simp[m])).mono ?_;rintro e w' (⟨f,g,rfl,u,y,d⟩|⟨v,x,f,rfl,j,d⟩)
    .have h:gD s.data.toList=none:=i.trans f;have p:gh s.data.toList=2:=by simp[gh,h,c]
     have l:eX s.data.toList=(List.range N).map (λk=>fw s.data.toList (4+k*20)):=by simp only[eX,h,c,ks,b];rw[show(s.size - 4) / 20=N by omega];simp
     refine⟨_,_,rfl,⟨some ⟨g,0,none⟩,N,N,by rw[p],by rw[l];simp,?_,by rw[h];rfl⟩,d⟩;rw[l];exact Yj y u (by omega)
    .exact⟨_,_,rfl,yA (i.trans f) j,d⟩
   .refine(J8 s w n a (by omega) (by rw[o];simp[c]) (by rw[r];simp[m])).mono ?_;rintro e w' ⟨v,rfl,j,d⟩;exact⟨_,_,rfl,yA (by simp only[gD,b,a];rw[if_neg (by simp),if_neg c,if_pos (by simpa using m)]) j,d⟩
def X4{w:aa}{B d e a n:Nat}{v xs}(h:w.ownsRow B e a v n xs)(f:d<=B):w.ownsRow d e a v n xs:=by
 refine⟨h.1,?_⟩;obtain h0|⟨g,b,c,i,j,r⟩:=h.2
 .exact .inl h0
 .exact .inr ⟨g,b,c,i,dF f j,r⟩
def X9{w:aa}{B n R v a b u xs z}(h:w.ownsRow B 42 4 v n xs)(g:w.heap[R]?=some (.cells #[.int .i64 z,u] 45 (0,0))):((w.setCell ⟨R,0,none⟩ a).setCell ⟨R,1,none⟩ b).ownsRow B 42 4 v n xs:=by
 refine h.kept (dg (gj w R 0 a) (gj _ R 1 b)) (.inr ?_);intro c;obtain⟨rfl,_⟩|⟨i,d,e,rfl,_,f,_⟩:=h.2
 .simp[Value.ownBlock]at c
 .simp[Value.ownBlock]at c;subst c;rw[g]at f;simp at f
def UJ(s w)(p:s.size<=9223372036854775807):Calls Gh.prog.{0} 22 #[.string s] w λe w'=> ∃V g,e=.returned (.tuple #[V,g])/\yz w s.data.toList w' V g/\Below w.heap.size w w':=by go_enter Gh.func22,Tryz.ntmps22;go_wp2_with fail;refine(B4 s _ p).mono ?_;rintro e q ⟨V,g,rfl,⟨h,n,c,rfl,k,d,l⟩,i⟩;obtain⟨r,m,z,A,B,j⟩:=Bd i;have f:q.heap[w.heap.size]?=some (.cells #[.int .i64 0,.slice none 0 0] 45 (0,0)):=(i.block w.heap.size (by simp)).trans (heap_alloc_new w _);have t:=am k;have u:=am (X9 (a:=.int .i64 (gh s.data.toList)) (b:=.slice h n c) d f);have x:=am (Ep (a:=.int .i64 (gh s.data.toList)) (b:=.slice h n c) l m);clear k d l i f;generalize o:gh s.data.toList=C at*;have y:=am o;clear o;go_wp2;exact bodyPost_ret (v:=.tuple #[.agg #[.int .i64 C,.slice h n c],g]) (by simp[results,Tryz.results22,go_sem,r,m]) rfl ⟨_,_,rfl,⟨h,n,c,by rw[ai y],ai t,X4 (ai u) (by simp),ai x⟩,(j.setCell (by simp) _).setCell (by simp) _⟩
end
section
attribute [local go_sem ↓] Go.wp_at_zero Go.wp_at_succ
def Ya{w B n cap ao L}(h:w.ownsRow B 42 4 (.slice ao n cap) n (eY L)):je w ao L/\L.length=n:=by
 have b:L.length=n:=by have:=h.1;rw[uZ]at this;omega
 refine⟨?_,b⟩;obtain⟨a,h0⟩|⟨g,c,d,a,_,e,_⟩:=h.2
 .subst h0;exact .inl (fq b)
 .simp at a;obtain⟨rfl,rfl⟩:=a;exact .inr ⟨g,0,rfl,C3 (yy h)⟩
end
end Go.Proofs.q
end
