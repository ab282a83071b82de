import Derived.Lib.Strings
import Derived.Test.YtdnpeefnobjfaaaGreatDoorK14
set_option maxRecDepth 100000
set_option maxHeartbeats 4000000
set_option linter.all false
section
namespace Go.Proofs.q
open Go.RowKit
attribute [local go_sem ↓] Go.wp_at_zero Go.wp_at_succ
theorem zW{b c k i}(h:∀j,j<20->bt c j=bt b (k+j))(a:i+1<20):sh c i=sh b (k+i):=by
 grind[sh]
theorem rc{b c k i}(h:∀j,j<20->bt c j=bt b (k+j))(a:i+3<20):wd c i=wd b (k+i):=by unfold wd;rw[zW h a9h,zW h (i:=i+2) a9h,lJ]
def zV{b c k}(h:∀j,j<20->bt c j=bt b (k+j)):fF c 0=fF b k:=by unfold fF;rw[zW h (i:=0) a9h,rc h (i:=0+4) a9h,rc h (i:=0+8) a9h,rc h (i:=0+12) a9h,rc h (i:=0+16) a9h];simp_all
def Ll{b c k}(h:∀j,j<20->bt c j=bt b (k+j)):fw c 0=fw b k:=by
 grind[fw,rc,zW]
def EK(s:ByteArray)(a c j)(d:a+j<c)(b:c<=s.size):bt (s.extract a c).data.toList j=bt s.data.toList (a+j):=by simp;unfold bt;rw[jt,a9X,if_pos a9h,b1g,<-jt]
def C8(w:aa)(g o:Nat)(e:cR):aa:=(((w.setCell ⟨g,o,none⟩ (.int .u32 e.addr)).setCell ⟨g,o+1,none⟩ (.int .i64 e.len)).setCell ⟨g,o+2,none⟩ (.int .i64 e.tag)).setCell ⟨g,o+3,none⟩ (.int .i64 e.met)
def U6(w:aa)(g o e):w.grownBy (C8 w g o e) (some g):=du (du (du (kZ _ _ _ _) (kZ _ _ _ _)) (kZ _ _ _ _)) (kZ _ _ _ _)
def part(w:aa)(g N:Nat)(f:Nat->cR)(k:Nat):Prop:=∃a,w.heap[g]?=some (.cells a 42 (0,0))/\a.size=N*4/\∀j,j<k->xe a (j*4) (f j)
def CU{w b g N k f}(h:part w g N f k)(c:b.heap[g]?=w.heap[g]?):part b g N f k:=by obtain⟨a,d,e⟩:=h;exact⟨a,c.trans d,e⟩
def CV{w g N k f}(h:part w g N f k):g<w.heap.size:=by obtain⟨a,b,_⟩:=h;grind
def yR{w g N k f}(h:part w g N f k)(o)(c:o<N*4):(∃v,w.cell? ⟨g,o,none⟩=some v)/\w.frozen? ⟨g,o,none⟩=false:=by obtain⟨a,b,d,_⟩:=h;exact⟨⟨a[o]'a9h,by rw[cell_of_row w g o a _ _ b];simp⟩,Uv b⟩
def a0j{w g N k f}(h:part w g N f k)(l:k<N):part (C8 w g (k*4) (f k)) g N f (k+1):=by
 obtain⟨c,e,n,i⟩:=h;refine⟨_,wX (wX (wX (wX e))),by simp_all,λj o=>?_⟩;by_cases d:j=k
 .subst d
  grind[xe]
 .have b:∀q,q<4->((((c.setIfInBounds (k*4) (.int .u32 (f k).addr)).setIfInBounds (k*4+1) (.int .i64 (f k).len)).setIfInBounds (k*4+2) (.int .i64 (f k).tag)).setIfInBounds (k*4+3) (.int .i64 (f k).met))[j*4+q]?=c[j*4+q]? :=λq p=>by simp only[js];rw[if_neg a9h,if_neg a9h,if_neg a9h,if_neg a9h]
  have a:=i j a9h;have h0:=b 0 a9h;simp at h0;exact⟨h0.trans a.1,(b 1 a9h).trans a.2.1,(b 2 a9h).trans a.2.2.1,(b 3 a9h).trans a.2.2.2⟩
def a2A{cur L}(b:cur.size=L.length*4)(h:∀j,(c:j<L.length)->xe cur (j*4) L[j]):cur.toList=fe L:=by
 refine List.ext_getElem? λi=>?_;by_cases d:i<L.length*4
 .have a:i / 4<L.length:=a9h
  let ⟨a0,a1,a2,a3⟩:=h (i / 4) a;let ⟨c0,c1,c2,c3⟩:=Gt L (i / 4) a;simp
  grind
 grind[xS]
theorem a0h{w g N B f}(h:part w g N f N)(b:B<=g)(e:N<=1000000):w.ownsRow B 42 4 (.slice (some ⟨g,0,none⟩) N N) N (fe ((List.range N).map f)):=by obtain⟨cur,c,a,i⟩:=h;have d:=a2A (cur:=cur) (L:=(List.range N).map f) (by simp_all) (λj k=>by grind);refine⟨by rw[xS];simp,.inr ⟨g,N,cur,rfl,b,c,az _,by grind[maxLen],a,?_⟩⟩;rw[a9R (by simp[a]),d]
def Ta{w a v x}(h:ia w v x)(c:Below w.heap.size w a):ia a v x:=by
 cases x with
 |none=>exact h
 |some y=>obtain⟨b,e,h0,d⟩:=h;exact⟨b,e,(c.cell (p:=⟨b,0,none⟩) (World.block_lt_of_cell? w _ h0)).trans h0,(c.cell (p:=⟨b,1,none⟩) (World.block_lt_of_cell? w _ d)).trans d⟩
def a1d(s b N w)(hs:s.size=N*20)(ao:0<N)(hN:N<=25)(hb:∀j,j<N*20->bt s.data.toList j=bt b (4+j)):Calls Gh.prog.{0} 88 #[.string s] w λe P=>(kv b N 0=none/\∃g,e=.returned (.tuple #[.slice (some ⟨g,0,none⟩) N N,.nilIface])/\w.heap.size<=g/\part P g N (λk=>fw b (4+k*20)) N/\Below w.heap.size w P)\/(∃v x,kv b N 0=some x/\e=.returned (.tuple #[.slice none 0 0,v])/\ia P v (some x)/\Below w.heap.size w P):=by
 obtain⟨i0,hi,z,A,r⟩:=info_parts Gh.Hv.{0};have HB:=ak hb;have ap:=ak hs;have aq:(s.size:Int) / 20=N:=a9h
 have ar:(s.size:Int)=N*20:=a9h
 clear hb;go_enter Gh.func88,Tryz.ntmps88;go_wp2_with (at_make;go_loud (apply wpList_make_full _ rfl _ _ 43 rfl w.heap.size 42 i0 mZ 4 Gh.underlying43 hi z A _ _ _ _ N rfl rfl a9h a9h (by rw[r];omega) (by unfold maxLen;omega) (az _);intro w1 f C));have D:part w1 w.heap.size N (λk=>fw b (4+k*20)) 0:=by
  obtain⟨Q,_⟩|⟨g',ae,T,Q,_,hg,_,_,U,_⟩:=f.2
  .simp at Q
  .simp at Q;obtain⟨rfl,rfl⟩:=Q;exact⟨T,hg,U,λj u=>a9h⟩
 have F:Below w.heap.size w w1:=(Below.refl _ _).grown C (az _) a9i;have H:=ak D;have I:=ak F;clear f C D F z A r hi
 go_loopw [14] (λi wr=> ∃k:Nat,k<=N/\i=.int .i64 k/\part wr w.heap.size N (λk=>fw b (4+k*20)) k/\Below w.heap.size w wr/\∀j,j<k->fF b (4+j*20)=0) (λi _=>N - (intOf i).toNat)
 case atStart=>exact⟨0,a9h,rfl,af H,af I,λj u=>a9h⟩
 case round=>
  obtain⟨k,hk,rfl,hp,J,h⟩:=hrel;have R:=ak hp;have l:=ak J;have V:=ak h;clear hp J h H I;by_cases X:k<N
  .have o:∀j,j<20->bt (s.extract (k*20) ((k+1)*20)).data.toList j=bt b (4+k*20+j):=λj u=>by rw[EK s _ _ j a9h a9h,af HB _ a9h];congr 1;omega
   have p:(s.extract (k*20) ((k+1)*20)).size=20:=a9l
   have c:=ak o;have q:=ak p;clear o p;have K:=CV (af R);by_cases y:fF b (4+k*20)=0
   .have L:=ak (λW=>a1g (s.extract (k*20) ((k+1)*20)) k W (af q) (by rw[zV (af c)];exact y));rw[Ll (af c)]at L;have HZ:=ak y;clear y;go_wp2_with fail;apply(af L _).mono;rintro e S ⟨rfl,d⟩;have a:=CU (af R) (d.block _ K);obtain⟨⟨v0,c0⟩,f0⟩:=yR a (k*4) a9h;obtain⟨⟨v1,c1⟩,f1⟩:=yR a (k*4+1) a9h;obtain⟨⟨v2,c2⟩,f2⟩:=yR a (k*4+2) a9h;obtain⟨⟨v3,c3⟩,f3⟩:=yR a (k*4+3) a9h;have r:w.heap.size<S.heap.size:=CV a;have Y:=ak a;have t:=ak (fc (af l) d);clear a d R l;have j0:(0:Int)<=(k:Int):=a9h
    have j1:(k:Int)<(N:Int):=a9h
    generalize hE:fw b (4+k*20)=E at*;have HE:=ak hE;clear hE;go_wp2
    go_roundw
    case rel=>
     have st:part (C8 S w.heap.size (k*4) E) w.heap.size N (λk=>fw b (4+k*20)) (k+1):=by
      have:=a0j (af Y) X
      rwa [af HE]at this
     have gb:=U6 S w.heap.size (k*4) E;have bb:=(af t).trans (Pd gb (B:=w.heap.size) a9h (az _));refine⟨k+1,a9h,by go_num,CU st (Below.heap_alloc _ _ _ (CV st)),bb.alloc bb.size _,λj u=>?_⟩;by_cases Z:j=k
     .subst Z;exact af HZ
     .exact af V j a9h
    case measure=>simp[intOf];omega
   .have L:=ak (λW=>a1e (s.extract (k*20) ((k+1)*20)) k W (af q) (by rw[zV (af c)];exact y));rw[zV (af c)]at L;have HX:=ak (a3f (n:=N) (iP k) a9h (λj _ u=>af V j u) y);clear y;go_wp2_with fail;apply(af L _).mono;rintro e S ⟨v,rfl,⟨bf,rfl,M,O⟩,d⟩;have t:=ak (fc (af l) d);have ab:=ak (Gx M O);clear d M O;go_wp2;go_ret2;exact .inr ⟨_,_,af HX,rfl,Ta (af ab) (bZ _ _),fc (af t) (bZ _ _)⟩
  .have ad:k=N:=a9h
   subst ad;go_wp2;go_ret2;exact .inl ⟨Kq (λj _ u=>af V j a9h),_,rfl,az _,af R,af l⟩
abbrev Mf:Obj:=.cells #[.int .i64 0,.slice none 0 0] 45
def J0{w w1}(a:Below (w.alloc Mf).heap.size (w.alloc Mf) w1):w1.cell? ⟨w.heap.size,0,none⟩=some (.int .i64 0)/\w1.cell? ⟨w.heap.size,1,none⟩=some (.slice none 0 0)/\w1.frozen? ⟨w.heap.size,0,none⟩=false/\w1.frozen? ⟨w.heap.size,1,none⟩=false/\w.heap.size<w1.heap.size/\Below w.heap.size w w1:=
 ⟨(
  a.cell (p:=⟨w.heap.size,0,none⟩) a9i).trans a9i,(a.cell (p:=⟨w.heap.size,1,none⟩) a9i).trans a9i,
  (a.frozen (p:=⟨w.heap.size,0,none⟩) a9i).trans a9i,(a.frozen (p:=⟨w.heap.size,1,none⟩) a9i).trans a9i,by have:=a.size;simp at this;omega,uf a⟩
def Tc{w v R a b x ao n cap}(h:ia w v x)(i:w.cell? ⟨R,1,none⟩=some (.slice ao n cap)):ia ((w.setCell ⟨R,0,none⟩ a).setCell ⟨R,1,none⟩ b) v x:=by
 cases x with
 |none=>exact h
 |some y=>
  obtain⟨bf,f,h0,g⟩:=h;have c:bf≠R:=λe=>by simp_all
  have d:((w.setCell ⟨R,0,none⟩ a).setCell ⟨R,1,none⟩ b).heap[bf]?=w.heap[bf]? :=(Below.heap_setCell _ _ _ _ c).trans (Below.heap_setCell _ _ _ _ c);exact⟨bf,f,(World.cell?_of_block (a:=⟨bf,0,none⟩) d).trans h0,(World.cell?_of_block (a:=⟨bf,1,none⟩) d).trans g⟩
def MJ(s w)(a:s.size<=9223372036854775807)(h:jR s.size=false):Calls Gh.prog.{0} 41 #[.string s] w λe w'=> ∃v,e=.returned (.tuple #[.agg #[.int .i64 0,.slice none 0 0],v])/\ia w' v (some (3, -1))/\Below w.heap.size w w':=by go_enter Gh.func41,Tryz.ntmps41;go_wp2_with (first|(go_at_call 86;apply(yy _ _ a).mono;rintro e w' ⟨rfl,rfl⟩)|(go_at_call 87;apply(sk _ _ _).mono;rintro e b ⟨rfl,rfl⟩));exact bodyPost_ret (v:=.tuple #[.agg #[.int .i64 0,.slice none 0 0],.iface 180 (.pointer (some ⟨w.heap.size+1,0,none⟩))]) (by simp[results,go_sem]) rfl ⟨_,rfl,sg a9i _ _,fc (bZ _ _) (bZ _ _)⟩
def MG(s w)(a:s.size<=9223372036854775807)(h:jR s.size=true)(b:(s.toList==[1,2,0,0,0,0,0,0,0,0,0,0,0,0,0,0,0,0,0,0,0,0,0,16])=true):Calls Gh.prog.{0} 41 #[.string s] w λe w'=>e=.returned (.tuple #[.agg #[.int .i64 1,.slice none 0 0],.nilIface])/\Below w.heap.size w w':=by go_enter Gh.func41,Tryz.ntmps41;go_wp2_with (first|(go_at_call 86;apply(yy _ _ a).mono;rintro e w' ⟨rfl,rfl⟩));exact bodyPost_ret (v:=.tuple #[.agg #[.int .i64 1,.slice none 0 0],.nilIface]) (by simp[results,go_sem]) rfl ⟨rfl,bZ _ _⟩
def MH(s w)(a:s.size<=9223372036854775807)(h:jR s.size=true)(b:4<=s.size)(c:(s.toList==[1,2,0,0,0,0,0,0,0,0,0,0,0,0,0,0,0,0,0,0,0,0,0,16])=false)(d:(!(s.extract 0 4).toList==[2,2,0,0])=true):Calls Gh.prog.{0} 41 #[.string s] w λe w'=> ∃v,e=.returned (.tuple #[.agg #[.int .i64 0,.slice none 0 0],v])/\ia w' v (some (4, -1))/\Below w.heap.size w w':=by go_enter Gh.func41,Tryz.ntmps41;go_wp2_with (first|(go_at_call 86;apply(yy _ _ a).mono;rintro e w' ⟨rfl,rfl⟩)|(go_at_call 87;apply(sk _ _ _).mono;rintro e f ⟨rfl,rfl⟩));exact bodyPost_ret (v:=.tuple #[.agg #[.int .i64 0,.slice none 0 0],.iface 180 (.pointer (some ⟨w.heap.size+1,0,none⟩))]) (by simp[results,go_sem]) rfl ⟨_,rfl,sg a9i _ _,fc (bZ _ _) (bZ _ _)⟩
def MI(s N w)(u:s.size=4+N*20)(o:0<N)(A:N<=25)(h:jR s.size=true)(K:(s.toList==[1,2,0,0,0,0,0,0,0,0,0,0,0,0,0,0,0,0,0,0,0,0,0,16])=false)(L:(!(s.extract 0 4).toList==[2,2,0,0])=false):Calls Gh.prog.{0} 41 #[.string s] w λe c=>(kv s.data.toList N 0=none/\∃g,e=.returned (.tuple #[.agg #[.int .i64 2,.slice (some ⟨g,0,none⟩) N N],.nilIface])/\w.heap.size<=g/\part c g N (λk=>fw s.data.toList (4+k*20)) N/\Below w.heap.size w c)\/(∃v x,kv s.data.toList N 0=some x/\e=.returned (.tuple #[.agg #[.int .i64 0,.slice none 0 0],v])/\ia c v (some x)/\Below w.heap.size w c):=by
 have d:=λW=>a1d (s.extract 4 s.size) s.data.toList N W (by rw[ByteArray.size_extract];omega) o A (λj M=>EK s 4 s.size j a9h (az _));have p:=ak d;have B:(4:Int)<=(s.size:Int):=a9h
 have O:=ak u;have q:s.size<=9223372036854775807:=a9h
 clear d u;go_enter Gh.func41,Tryz.ntmps41;go_wp2_with (first|(go_at_call 86;apply(yy _ _ q).mono;rintro e c ⟨rfl,rfl⟩));apply(af p _).mono;rintro e P (⟨a,g,rfl,y,z,f⟩|⟨v,x,a,rfl,⟨bf,rfl,i,l⟩,f⟩)
 .obtain⟨r,n,C,D,E,b⟩:=J0 f;have F:=ak z;have t:=ak a;have H:w.heap.size<g:=by simp at y;omega
  clear f z a y;go_wp2;refine bodyPost_ret (v:=.tuple #[.agg #[.int .i64 2,.slice (some ⟨g,0,none⟩) N N],.nilIface]) (by simp[results,go_sem,r,n]) rfl (.inl ⟨af t,g,rfl,a9h,CU (af F) ?_,(b.setCell a9i _).setCell a9i _⟩);exact(Below.heap_setCell _ _ _ _ (by show g≠w.heap.size;omega)).trans (Below.heap_setCell _ _ _ _ (by show g≠w.heap.size;omega))
 .obtain⟨r,n,C,D,E,b⟩:=J0 f;have I:=ak a;have J:=ak (Gx i l);clear f a i l;go_wp2;exact bodyPost_ret (v:=.tuple #[.agg #[.int .i64 0,.slice none 0 0],.iface 180 (.pointer (some ⟨bf,0,none⟩))]) (by simp[results,go_sem,r,n]) rfl (.inr ⟨_,x,af I,rfl,Tc (af J) n,(b.setCell a9i _).setCell a9i _⟩)
def a4V(s n):∀i r,s.size - i<=n->ByteArray.toList.loop s i r=r.reverse++s.data.toList.drop i:=by
 induction n with
 |zero=>intro i r a;unfold ByteArray.toList.loop;rw[if_neg a9h,List.drop_eq_nil_of_le a9l];simp
 |succ n b=>
  intro i r a;unfold ByteArray.toList.loop;split
  .rename_i h;rw[b (i+1) _ a9h];have c:i<s.data.toList.length:=by simp_all
   rw[b0C c];have e:s.get! i=s.data.toList[i]:=by show s.data[i]! =_;rw[getElem!_pos s.data i h];simp
   simp[e]
  simp_all
def toList_data(s:ByteArray):s.toList=s.data.toList:=by unfold ByteArray.toList;rw[a4V s s.size 0 [] a9h];simp
def Fe(d:aa)(b:List UInt8)(w:aa)(V e:aj):Prop:=∃c n a,V=.agg #[.int .i64 (gK b),.slice c n a]/\(eE b).length=n/\w.ownsRow d.heap.size 42 4 (.slice c n a) n (fe (eE b))/\ia w e (f9 b)
def AX{d w b v x}(a:f9 b=some x)(h:ia w v (some x)):Fe d b w (.agg #[.int .i64 0,.slice none 0 0]) v:=by
 have e:gK b=0:=by simp[gK,a]
 have c:eE b=[]:=by simp[eE,a]
 refine⟨none,0,0,by rw[e],by rw[c];rfl,?_,by rw[a];exact h⟩;rw[c];exact World.ownsRow_nil _ _ _ _
def MF(s w)(i:s.size<=9223372036854775807):Calls Gh.prog.{0} 41 #[.string s] w λe w'=> ∃V p,e=.returned (.tuple #[V,p])/\Fe w s.data.toList w' V p/\Below w.heap.size w w':=by
 have q:s.data.toList.length=s.size:=a9i
 cases a:jR s.size with
 |false=>apply(MJ s w i a).mono;rintro e w' ⟨v,rfl,d,b⟩;exact⟨_,_,rfl,AX (by simp_all[f9]) d,b⟩
 |true=>
  have u:24<=s.size/\s.size<=504/\s.size%20=4:=by grind[jR]
  have j:(s.toList==[1,2,0,0,0,0,0,0,0,0,0,0,0,0,0,0,0,0,0,0,0,0,0,16])=decide (s.data.toList=lR):=by rw[toList_data];show(s.data.toList==lR)=_;rw[m9,beq_iff_eq,decide_eq_true_eq]
  have r:(!(s.extract 0 4).toList==[2,2,0,0])=decide (s.data.toList.take 4≠[2,2,0,0]):=by rw[toList_data,Lib.extract_data,m9];simp
  by_cases l:s.data.toList=lR
  .apply(MG s w i a (by rw[j];simp[l])).mono;rintro e w' ⟨rfl,b⟩;have h:f9 s.data.toList=none:=by grind[f9]
   have n:gK s.data.toList=1:=by simp_all[gK]
   have f:eE s.data.toList=[]:=by simp_all[eE]
   refine⟨_,_,rfl,⟨none,0,0,by rw[n],by rw[f];rfl,?_,by rw[h];rfl⟩,b⟩;rw[f];exact World.ownsRow_nil _ _ _ _
  .by_cases t:s.data.toList.take 4=[2,2,0,0]
   .let ⟨N,hN⟩:∃N,s.size=4+N*20:=⟨(s.size - 4) / 20,a9h⟩;have h:f9 s.data.toList=kv s.data.toList N 0:=by simp_all[f9]
    apply(MI s N w hN a9h a9h a (by rw[j];simp[l]) (by rw[r];simp[t])).mono;rintro e w' (⟨c,g,rfl,y,z,b⟩|⟨v,x,c,rfl,d,b⟩)
    .have o:f9 s.data.toList=none:=h.trans c;have n:gK s.data.toList=2:=by grind[gK]
     have f:eE s.data.toList=(List.range N).map (λk=>fw s.data.toList (4+k*20)):=by
      grind[eE,kW]
     refine⟨_,_,rfl,⟨some ⟨g,0,none⟩,N,N,by rw[n],by rw[f];simp,?_,by rw[o];rfl⟩,b⟩;rw[f];grind[a0h]
    .exact⟨_,_,rfl,AX (h.trans c) d,b⟩
   .apply(MH s w i a a9h (by rw[j];simp[l]) (by rw[r];simp[t])).mono;rintro e w' ⟨v,rfl,d,b⟩;exact⟨_,_,rfl,AX (by simp_all[f9]) d,b⟩
def Z7{w B n cap ao L}(h:w.ownsRow B 42 4 (.slice ao n cap) n (fe L)):uH w ao L/\L.length=n:=by
 have b:L.length=n:=by have:=h.1;rw[xS]at this;omega
 refine⟨?_,b⟩;obtain⟨a,h0⟩|⟨g,c,d,a,_,e,_⟩:=h.2
 .subst h0;exact .inl (gj b)
 .simp at a;obtain⟨rfl,rfl⟩:=a;exact .inr ⟨g,0,rfl,Fc (AW h)⟩
end Go.Proofs.q
end
