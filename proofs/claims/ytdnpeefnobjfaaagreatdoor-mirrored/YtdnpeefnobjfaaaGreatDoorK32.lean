import Derived.Test.YtdnpeefnobjfaaaGreatDoorK30
import Derived.Test.YtdnpeefnobjfaaaGreatDoorK31
set_option maxRecDepth 100000
set_option maxHeartbeats 4000000
set_option linter.all false
section
namespace Go.Proofs.q
def Ti(az a es):∀L,(∀r∈L,r.az=az/\r.ci=true)->∀r∈eK L az a es,r.az=az/\r.ci=true:=by
 induction es with
 |nil=>intro L h;exact h
 |cons e es b=>
  intro L h;refine b _ (I8 (P:=λr=>r.az=az/\r.ci=true) h ⟨rfl,rfl⟩ λr c=>?_);obtain⟨d,f⟩:=c;unfold eQ;split
  .exact⟨d,f⟩
  .unfold gn
   repeat' split
   all_goals first|(simp_all [iG];done)|(unfold fZ;split<;>simp_all [iG])
def take_len(L n):(gt L n).length<=L.length+1:=by
 unfold gt pi
 repeat' split
 all_goals simp
 all_goals omega
def Th(az a es):∀L,(eK L az a es).length<=L.length+es.length:=by
 induction es with
 |nil=>intro L;exact aF _
 |cons e es b=>intro L;have c:=b (gt L (iG e az a));have d:=take_len L (iG e az a);simp only[eK,gu]at c⊢;omega
def Vi{L}(h:∀r∈L,r.ci=true):fN L=L:=List.filter_eq_self.2 λr a=>by simp[jX,h r a]
def Vj(L):fN (dp L)=[]:=by refine List.filter_eq_nil_iff.2 λr a=>?_;obtain⟨x,_,rfl⟩:=eS.1 a;simp[jX,lu]
def Tb(i L):dz i (dp L)=dz i L:=by simp only[dz,dp,a7l];rfl
def XY(N L):gm N (dp L)=gm N L:=by unfold gm;congr 1;funext i;unfold fa;rw[Tb,qG]
def zA{L}(h:fY L):fY (dp L):=by intro r a;obtain⟨x,b,rfl⟩:=eS.1 a;exact h x b
end Go.Proofs.q
end
section
namespace Go.Proofs.q
open Go.RowKit
def a2a:nb []:=⟨List.Pairwise.nil,by simp,by simp,by intro r a;simp at a⟩
def Hj{n}(h0:0<n)(h:n<=25):aV n=1:=by unfold aV;omega
def G8{L}(a:aV L.length=1)(i):fa L i=[.int .i64 (i:Int),io (dz (i:Int) L) 0]:=by simp[fa,lP,a,a6w]
def G9(N L):gm (N+1) L=gm N L++fa L N:=by simp[gm,a6w]
theorem wF{L}(a:aV L.length=1):∀N,(gm N L).length=N*2
 |0=>rfl
 |N+1=>by rw[G9,ia,wF a N,G8 a];simp;omega
theorem mN{L}(a:aV L.length=1):∀N i,i<N->∀j,j<2->(gm N L)[i*2+j]?=([.int .i64 (i:Int),io (dz (i:Int) L) 0]:List af)[j]?
 |0,i,b,_,_=>by omega
 |N+1,i,b,j,c=>by
  rw[G9];by_cases h:i<N
  .rw[a6n (by rw[wF a];omega)];exact mN a N i h j c
  .obtain rfl:i=N:=by omega
   rw[a6g (by rw[wF a];omega),wF a,G8 a];congr 1;omega
def Yt{l}(h:l.length<=25):io l 0=.string (eE (dC 2 l)):=by unfold io a5M;rw[a8h,List.drop_zero,mZ h]
theorem ER:∀{l} {k},(∀e∈l,dw e=0)->fj l k=none
 |[],_,_=>rfl
 |e::l,k,h=>by unfold fj;rw[if_pos (h e (by simp))];exact ER λx a=>h x (by simp[a])
def S9{L}(c:fY L)(h0:0<L.length)(h:L.length<=25)(i):eJ 2 (dz i L)=none/\ig (dz i L):=by
 have d:(dz i L).length=L.length:=by simp[dz]
 have a:∀e∈dz i L,dw e=0/\0<=e.addr/\e.addr<4294967296:=by
  intro e b;obtain⟨r,f,rfl⟩:=eS.1 b;obtain⟨g,j,k,l⟩:=c r f;refine⟨?_,g⟩;unfold dw jP;dsimp only;rw[j,k];have:dZ (if r.az=i then 16 else r.met)=true:=by split<;>first|rfl|exact l
  simp[this]
 refine⟨?_,λe b=>(a e b).2⟩;unfold eJ;rw[if_neg (by simp),if_neg (by rw[d];omega)];exact ER λe b=>(a e b).1
def Ej{l}(h:l.length<=25):(eE (dC 2 l)).size<=9223372036854775807:=by have:=vn l;simp[BI,dC,this];omega
def tq(L k)(b:k<L.length)(i)(d:i<5):(kE L)[k*5+i]?=(nK L[k])[i]? :=by
 induction L generalizing k with
 |nil=>simp at b
 |cons r L c=>
  have a:(nK r).length=5:=rfl;cases k with
  |zero=>simp only[a7I,dG,kE,jF,a6r];exact a6n (by omega)
  |succ k=>have:=c k (by simpa using b);simp only[kE,jF,a7f]at this⊢;rw[a6g (by omega),a,<-this];congr 1;omega
end Go.Proofs.q
end
section
namespace Go.Proofs.q
section
universe u
open Go.RowKit Go.Shelf Go.Lib
attribute [local go_sem ↓] Go.wp_at_zero Go.wp_at_succ
def im(c n:Int):Int:=(if c<0 then -(c+1)else c)%n
def th(c n)(a:0<n):0<=im c n/\im c n<n:=by unfold im;exact⟨Int.emod_nonneg _ (by omega),Int.emod_lt_of_pos _ a⟩
def BX(n)(h0: -9223372036854775808<=n)(a:n<9223372036854775808):IntKind.i64.wrap n=n:=by
 by_cases h:0<=n
 .exact wrap_small n h a
 .unfold IntKind.wrap;simp[IntKind.bits,IntKind.signed];omega
def Hm(c n w)(f:0<n)(h:n<=1000)(h0: -9223372036854775808<=c)(m:c<9223372036854775808):Calls Gh.prog.{u} 15 #[.int .i64 c,.int .i64 n] w λe i=>e=.returned (.int .i64 (im c n))/\i=w:=by
 have j: ¬n=0:=by omega
 by_cases g:c<0
 .have k:IntKind.i64.wrap (c+1)=c+1:=BX _ (by omega) (by omega);have l:IntKind.i64.wrap (-(c+1))= -(c+1):=wrap_small _ (by omega) (by omega);have a:im c n= -((c+1).tmod n):=by unfold im;rw[if_pos g,<-Int.neg_tmod,Int.tmod_eq_emod_of_nonneg (by omega)]
  have b:=th c n f;have d:IntKind.i64.wrap (-((c+1).tmod n))= -((c+1).tmod n):=by rw[<-a];exact BX _ (by omega) (by omega)
  rw[a];clear a b;go_enter Gh.func15,Tryz.ntmps15;go_wp2;go_ret;exact⟨rfl,rfl⟩
 .have a:im c n=c%n:=by unfold im;rw[if_neg g]
  have b:=th c n f;have d:IntKind.i64.wrap (c%n)=c%n:=by rw[<-a];exact BX _ (by omega) (by omega)
  rw[a];clear a b;go_enter Gh.func15,Tryz.ntmps15;go_wp2;go_ret;exact⟨rfl,rfl⟩
def Fo{w:aa}{base n v c}(h:w.ownsRow base 3 1 v n c)(h0:0<n):∃g a,v=.slice (some ⟨g,0,none⟩) n a/\base<=g/\g<w.heap.size:=by
 obtain⟨_,⟨_,b⟩|⟨g,a,d,b,e,f,_⟩⟩:=h
 .omega
 .exact⟨g,a,b,e,(bW.1 f).1⟩
def a0h(w base n b l v x)(o:w.ownsRow base 3 1 v n (dq l))(X:kF w v)(h0:0<n)(hn:n<=100)(Y:w.cell? ⟨b,0,none⟩=some (.int .i64 x))(s:base<=w.heap.size):∃g d H,(∀B,(Builtin.append_ #[22,22] B #[v,.slice (some ⟨b,0,none⟩) 1 1]).run Gh.prog.{u} w=.ok (.slice (some ⟨g,0,none⟩) (n+1) d) H)/\H.ownsRow base 3 1 (.slice (some ⟨g,0,none⟩) (n+1) d) (n+1) (dq (l++[x]))/\kF H (.slice (some ⟨g,0,none⟩) (n+1) d)/\w.grownBy H v.ownBlock:=by
 obtain⟨V,C,J,m,K⟩:=info_parts Gh.Ac.{u};have L:=o.1;obtain⟨g,d,t,rfl,M,I,Z,N,O,z⟩:=o.2.resolve_left (by omega);have p:∀j u,[Value.int .i64 x][j]?=some u->w.cell? ((⟨b,0,none⟩:ap).add j)=some u:=λj u Q=>by
  cases j with
  |zero=>simp at Q;rw[<-Q,show(⟨b,0,none⟩:ap).add 0=⟨b,0,none⟩from rfl];exact Y
  |succ j=>simp at Q
 have A:dq (l++[x])=dq l++[.int .i64 x]:=by simp[dq]
 have f:(dq l++[Value.int .i64 x]).length=(n+1)*1:=by simp[L]
 rw[A];obtain⟨W,D,E⟩:=X _ _ _ rfl;rw[I]at D;cases D;by_cases q:n+1<=d
 .have R:=λB=>run_append_room (P:=Gh.prog.{u}) w 22 B 3 V Gh.underlying22 C g n d t I ⟨b,0,none⟩ 1 1 [.int .i64 x] (by simp[m]) p (by simp[Value.oneCell']) q (by rw[m,O];simp;omega);refine⟨g,d,_,R,⟨f,.inr ⟨g,d,_,rfl,M,setRow_heap w g t _ _ _ I,q,N,?_,?_⟩⟩,λa k c e=>?_,⟨rfl,rfl,rfl,by simp,λk _ S=>setRow_other w g k _ (λe=>S (by simp[Value.ownBlock,e]))⟩⟩
  .simp only[fS,ia,it,mc,a6m,m,a7Z];omega
  .rw[m,z,<-f];exact a6A
  .cases e;refine⟨_,setRow_heap w g t _ _ _ I,λy F=>?_⟩;simp only[dK,kf,ft]at F;obtain(h|h)|h:=F
   .exact E y (a6l.1 (a6z h))
   .exact⟨x,h⟩
   .exact E y (a6l.1 (a6N h))
 .have R:=λB=>run_append_grow (P:=Gh.prog.{u}) w 22 B 3 V _ Gh.underlying22 C J ⟨g,0,none⟩ n d (dq l) (by rw[L,m]) (o.cells (g:=g) rfl) ⟨b,0,none⟩ 1 1 [.int .i64 x] (by simp[m]) p (by omega) (by omega) (by rw[K];exact growslice_fits (by omega) (by omega));have T:=grownCap_ge w (n+1) d 3;have U:=grownCap_le_maxLen w (n+1) d 3 (by unfold maxLen;omega);have r:=heap_alloc_new w.drew (.cells ((dq l).toArray++[Value.int .i64 x].toArray++Builtin.zeroCells (Value.int .i64 0).cells (grownCap w (n+1) d 3 - (n+1))) 3);refine⟨w.heap.size,_,_,R,⟨f,.inr ⟨w.heap.size,_,_,rfl,s,r,T,U,?_,?_⟩⟩,λa k c e=>?_,⟨rfl,rfl,rfl,by simp,λk S _=>heap_alloc_old w.drew _ S⟩⟩
  .simp only[a6J,fS,size_zeroCells,L];simp[Value.cells];omega
  .simp only[a7u,kc];rw[<-kc,<-f];exact a6A
  .cases e;refine⟨_,r,λy F=>?_⟩;simp only[l8,dK,ft]at F;obtain(h|h)|h:=F
   .simp only[dq,eS]at h;obtain⟨i,_,rfl⟩:=h;exact⟨i,rfl⟩
   .exact⟨x,h⟩
   .simp only[Builtin.zeroCells,l9]at h;obtain⟨i,_,rfl⟩:=h;exact⟨0,by simp[Value.cells,Nat.mod_one]⟩
end
section
universe u
def tU(P:ay)(h:Code)(N i:Act->aa->Prop)(c:Code)(a:Act)(w:aa):Prop:=
 ∀(b:ah) (k:List Item) (e:List ah),∃f g,(N f g/\Steps P (lone (b.at a (.code c::k)) e w) (lone (b.at f (.code h::k)) e g))\/(i f g/\∃d,Steps P (lone (b.at a (.code c::k)) e w) (lone {b.at f d with mode:=.returning} e g))
def NS{P b N c a w}(h:N a w):tU P b N c b a w:=
 λ_ _ _=>⟨a,w,.inl ⟨h,.refl _ _⟩⟩
def lK{P g x y N j a w}(h:x.wp P (Exit.then (tU P g N j y) λe a w=>e=.ret/\j a w) a w):tU P g N j (.seq x y) a w:=by
 intro b k n;obtain⟨e,a1,p,f,m⟩:=h b (.code y::k) n;cases e with
 |normal=>
  obtain⟨a2,o,⟨q,i⟩|⟨r,d,i⟩⟩:=f b k n
  .exact⟨a2,o,.inl ⟨q,(Steps.head step_seq m).trans i⟩⟩
  .exact⟨a2,o,.inr ⟨r,d,(Steps.head step_seq m).trans i⟩⟩
 |ret=>obtain⟨d,i⟩:=m;exact⟨a1,p,.inr ⟨f.2,d,.head step_seq i⟩⟩
 |exit id=>cases f.1
 |goto l=>cases f.1
 |panic c=>cases f.1
 |outgrown=>cases f.1
end
section
universe u
open Go.RowKit Go.Shelf Go.Lib
attribute [local go_sem ↓] Go.wp_at_zero Go.wp_at_succ
def I2:Nat->Code->Code
 |n+1,.seq _ c=>I2 n c
 |_,c=>c
noncomputable def kR:Code:=I2 10 (Tryz.f6.body.getD .skip)
def tD:List Nat:=[0,1,2,3,4,5,7,9,11,14,26,27,28,29,30,31,32,33,34,35,36,37,38,39,40,41,42,43,44,45,46,47,48,49,50,51,52,53,54,55,56,57,58,59,60,61,62,63,64,65,66,67,68,69,70,71,72]
def oO(a:Array af):Array af:=a.mapIdx λi x=>if tD.contains i then undef else x
def qc(c r n s:af):Array af:=#[undef,undef,undef,undef,undef,undef,.bool false,undef,c,undef,r,undef,n,s]++Array.replicate 220 undef
def eV(a:List Int):List Int:=1::(a.take 7).map λx=>1+im x 15
def B8(w:aa)(b:List Int)(E:List aT)(by_:Int)(a:Act)(w':aa):Prop:=
 eJ 2 E=none/\a.defers=[]/\∃R V g c d e,oO a.tmps=qc (.slice (some ⟨g,0,none⟩) (eV b).length c) (.pointer (some ⟨R,0,none⟩)) (.int .i64 (im by_ (eV b).length)) (.string (eE (jM 2 E)))/\a.tmps.size=234/\
  ed w' w.heap.size R (eV b) [] V d e/\kF w' d/\(∃x,e=.slice x 0 0)/\w'.ownsRow w.heap.size 3 1 (.slice (some ⟨g,0,none⟩) (eV b).length c) (eV b).length (dq (eV b))/\kF w' (.slice (some ⟨g,0,none⟩) (eV b).length c)/\Below w.heap.size w w'
def B9(w:aa)(a:Act)(w':aa):Prop:=a.defers=[]/\a.tmps.getD 6 undef=.bool true/\Below w.heap.size w w'
def uv(a):(eV a).length=min 7 a.length+1:=by simp[eV]
def C1(b):∀c∈eV b,1<=c/\c<=15:=by
 intro c a;simp only[eV,cm,eS]at a;obtain rfl|⟨x,_,rfl⟩:=a
 .omega
 .have:=th x 15 (by omega);omega
def NN(a):(jd (eV a)&&kA [])=true:=by
 have b:=C1 a;have e:=uv a;have c:(eV a).length<=8:=by omega
 simp[jd,kA,c];exact⟨λx d=>by have:=b x d;simp[jR];omega,rfl⟩
def U4(ac ae cc ce lc E by_ w)(bl:lc.length<=100000000000000)(y:∀x∈lc, -9223372036854775808<=x/\x<9223372036854775808)(ab: -9223372036854775808<=by_)(A:by_<9223372036854775808)(N:jm w ac lc)(ad:ig E)(O:je w ae E):tU Gh.prog.{u} kR (B8 w lc E by_) (B9 w) (Tryz.f6.body.getD .skip) ⟨#[.slice ac lc.length cc,.slice ae E.length ce,.int .i64 by_]++Array.replicate 231 undef,[]⟩ w:=by
 have hB:=MA.{u} w;simp only[j9,ka,kg,ke,gP,fy];refine lK ?_;go_wp2;refine lK ?_;go_wp2_with (go_at_call 10;refine hB.mono ?_;rintro e w1 ⟨rfl,A⟩);refine lK ?_;go_wp2;refine lK ?_;go_wp2;refine lK ?_;have hP:∀x∈lc,∀W,Calls Gh.prog.{u} 15 #[.int .i64 x,.int .i64 15] W λe w'=>e=.returned (.int .i64 (im x 15))/\w'=W:=λx D W=>Hm x 15 W (by omega) (by omega) (y x D).1 (y x D).2;have ag:=am N;have bn:=am y;have al:=am O;have K:=am A;clear N y O A;go_wp2_with fail
 go_loopw [8,9] (λc i wr=> ∃k:Nat,k<=lc.length/\k<=7/\i=.int .i64 k/\wr.ownsRow w.heap.size 3 1 c (k+1) (dq (1::(lc.take k).map λx=>1+im x 15))/\kF wr c/\Below w.heap.size w wr) (λ_ i _=>7 - (intOf i).toNat)
 case atStart=>
  refine⟨0,by omega,by omega,rfl,?_,?_,?_⟩
  .exact⟨rfl,.inr ⟨w1.heap.size,1,#[.int .i64 1],rfl,(ai K).size,heap_alloc_new w1 _,aF _,by unfold maxLen;omega,rfl,rfl⟩⟩
  .intro a n c e;cases e;exact⟨_,heap_alloc_new w1 _,λx D=>⟨1,by simpa using D⟩⟩
  .exact(ai K).alloc (ai K).size _
 case round=>
  obtain⟨k,hk,bo,rfl,d,o,f⟩:=hrel;obtain⟨g,P,rfl,bp,br⟩:=Fo d (by omega);by_cases Q:k<lc.length/\k<7
  .obtain⟨r,bs⟩:=Q;obtain h0|⟨b,bw,rfl,S⟩:=AO (ai ag) f
   .rw[h0]at r;simp at r
   have c0:=S k r;have hz:=th lc[k] 15 (by omega);have ao:=hP lc[k] (i5 r);generalize aq:im lc[k] 15=z at*;have bx:IntKind.i64.wrap (1+z)=1+z:=wrap_small _ (by omega) (by omega);obtain⟨g5,bd,w5,T,s,t,F⟩:=a0h.{u} (wr.alloc (.cells #[.int .i64 (1+z)] 3)) w.heap.size (k+1) wr.heap.size _ _ (1+z) (d.alloc _) (qr o ((Below.refl _ wr).alloc (aF _) _) (aF _)) (by omega) (by omega) ((aK.new wr #[.int .i64 (1+z)] 3).cell 0) (by have:=f.size;simp;omega);have ar:=am s;have au:=am t;have av:=am F;have q:=am f;clear s t F f d o S;go_wp2_with (first|(go_at_call 15;refine(ao _).mono ?_;rintro e wp ⟨rfl,rfl⟩)|(at_builtin;refine Lib.wpList_append_run _ rfl _ _ _ _ rfl _ _ rfl rfl _ _ (T _) ?_))
   go_roundw
   case rel=>
    refine⟨k+1,by omega,by omega,by go_num,?_,ai au,?_⟩
    .have h5:=ai ar;rw[<-aq]at h5;rw[kL r,nW,List.map_singleton,<-fy];exact h5
    .exact((ai q).alloc (ai q).size _).grown (ai av) (by have:=(ai q).size;simp;omega) (by intro j hj;simp[Value.ownBlock]at hj;omega)
   case measure=>simp[intOf];omega
  .have B:(eV lc).length=k+1:=by rw[uv];omega
   have U:1::(lc.take k).map (λx=>1+im x 15)=eV lc:=by
    unfold eV;by_cases h:k=7
    .rw[h]
    .rw[mZ (by omega),mZ (by omega)]
   rw[U]at d;have H:jm wr (some ⟨g,0,none⟩) (eV lc):=.inr ⟨g,0,rfl,λj hj=>by
    have:=d.cells (g:=g) rfl j (.int .i64 (eV lc)[j]) (by simp[dq,hj]);rw[show(⟨g,0,none⟩:ap).add j=⟨g,0+j,none⟩by unfold Addr.add;split<;>simp_all]at this;exact this⟩
   have hN:=FP.{u} (some ⟨g,0,none⟩) none P 0 (eV lc) [] wr (NN lc) (by intro p hp;simp at hp) (aF _) (by simp) H (.inl rfl);have X:∀W,Calls Gh.prog.{u} 15 #[.int .i64 by_,.int .i64 (k+1:Nat)] W λe w'=>e=.returned (.int .i64 (im by_ (k+1:Nat)))/\w'=W:=λW=>Hm.{u} by_ _ W (by omega) (by omega) ab A;rw[B]at hN;simp only[gv]at hN;have HO:=am d;have HI:=am o;have q:=am f;clear d o f H hB hP U;have hex: ¬k<lc.length\/k<lc.length/\¬k<7:=by omega
   obtain h|⟨h,h'⟩:=hex
   all_goals
    go_wp2;refine lK ?_;go_wp2_with (go_at_call 11;refine hN.mono ?_;rintro e w2 ⟨R,V,cv,rv,Ls,rfl,hR,L,_,M,aP,ba⟩);refine lK ?_;go_wp2;refine lK ?_;go_wp2_with (go_at_call 15;refine(X _).mono ?_;rintro e w3 ⟨rfl,rfl⟩);refine lK ?_;have f:=ai q;have v:=f.trans (M.mono f.size);have bb:=UK.{u} 2 ae E.length ce E w3 ad rfl (va (ai al) v);have Y:=am v;have HR:=am hR;have Z:=am M;clear hN X f v M hR;go_wp2_with (go_at_call 13;refine bb.mono ?_;rintro e w4 ⟨fv,rfl,hf,m⟩);refine lK ?_;have I:=(ai Y).trans (m.mono (ai Y).size);cases D:eJ 2 E with
    |none=>
     rw[D]at hf;obtain rfl:fv=.nilIface:=hf;go_wp2;have J:=(ai Z).trans (m.mono (ai Z).size);have l:=ai HR;obtain rfl:Ls=[]:=L.eq_nil;have C:w.heap.size<=wr.heap.size:=(ai q).size;refine NS ⟨D,rfl,R,V,g,P,cv,rv,?_,rfl,⟨l.blk.below m l.blk.lt,l.view.below m l.view.lt,eA (da l.aO m (aF _)) C,eA (da l.rows m (aF _)) C,⟨dF C l.new.1,dF C l.new.2⟩⟩,qr (aP (by omega)) m (aF _),ba,?_,?_,I⟩
     .rw[B];simp only[Int.natCast_add,Int.cast_ofNat_Int];kernel_rfl
     .rw[B];exact da (ai HO) J (aF _)
     .rw[B];exact qr (ai HI) J (aF _)
    |some x=>rw[D]at hf;obtain⟨bf,rfl,_⟩:=hf;go_wp2;exact⟨trivial,rfl,rfl,I⟩
end
end Go.Proofs.q
end
section
namespace Go.Proofs.q
open Go.RowKit Go.Shelf Go.Lib
section
attribute [local go_sem ↓] Go.wp_at_zero Go.wp_at_succ
def Vd(m s w):(binOp .neq 64 (.agg #[.int .i64 m,.string s]) (.agg #[.int .i64 m,.string s])).run Gh.prog.{0} w=.ok (.bool false) w:=by have u3:=Gh.underlying3.{0};have a3:=Gh.isAgg3.{0};have z3:=Gh.sizeOf3.{0};have u4:=Gh.underlying9.{0};have a4:=Gh.isAgg9.{0};have a:=Gh.sizeOf9.{0};rw[run_neq_struct,show(10000:Nat)=9998+1+1 from rfl,run_equalIn_agg w (9998+1) 64 _ _ (by kernel_rfl) (by kernel_rfl)];simp only[Program.fieldsOf,Gh.underlying64];go_simp
def Ve(a l w):(binOp .neq 32 (.agg #[.int .u32 a,.int .i64 l]) (.agg #[.int .u32 a,.int .i64 l])).run Gh.prog.{0} w=.ok (.bool false) w:=by rw[run_neq_struct,show(10000:Nat)=9998+1+1 from rfl,En];simp
def sZ{w w':aa}{b e a n R:Nat}{v xs}(h:w.ownsRow b e a v n xs)(c:w.grownBy w' (some R))(f:R<b):w'.ownsRow b e a v n xs:=
 h.kept c (by
  cases d:v.ownBlock with
  |none=>exact .inl rfl
  |some k=>
   refine .inr λe=>?_;cases e;have:=(h.lt _ d).1;omega)
def wG{w:aa}{b e d n cap:Nat}{ao f}(h:w.ownsRow b e d (.slice ao n cap) n f)(h0:0<n):∃g,ao=some ⟨g,0,none⟩/\g<w.heap.size:=by
 obtain⟨_,⟨_,a⟩|⟨g,c,i,a,_,j,_⟩⟩:=h
 .omega
 .cases a;exact⟨g,rfl,(bW.1 j).1⟩
def il{w:aa}{b e c n cap g j:Nat}{a u}(h:w.ownsRow b e c (.slice (some ⟨g,0,none⟩) n cap) n a)(d:a[j]?=some u):w.cell? ⟨g,j,none⟩=some u:=by
 have:=h.cells (g:=g) rfl j u d
 rwa [show(⟨g,0,none⟩:ap).add j=⟨g,j,none⟩by unfold Addr.add;split<;>simp_all]at this
def U5(R V g cap base n cs cv rv E w)(hR:ed w base R cs [] V cv rv)(ad:∀c∈cs,1<=c/\c<=15)(h8:cs.length<=8)(hn:n<cs.length)(bl:ig E)(a:eJ 2 E=none):kR.wp Gh.prog.{0} (λe a' w'=>e=.ret/\a'.defers=[]/\a'.tmps.getD 6 undef=.bool true/\Below base w w') ⟨qc (.slice (some ⟨g,0,none⟩) cs.length cap) (.pointer (some ⟨R,0,none⟩)) (.int .i64 n) (.string (eE (jM 2 E))),[]⟩ w:=by
 have hs:(eE (jM 2 E)).data.toList=dC 2 E:=by rw[Eh a];simp[eE]
 obtain⟨W,ag,H⟩:=a5Z a bl;have bn:E.length<=25:=by
  unfold eJ at a;split at a
  .cases a
  .split at a
   .cases a
   .omega
 have v:∀e∈E,qU e:=by
  have:=Y3 W
  rwa [H]at this
 have I:1<=cs[n]:=(ad _ (i5 hn)).1;have hT:nb (eK [] n cs[n] E):=a2a.heard n I v;have J:(eK [] n cs[n] E).length<=25:=by have:=Th (n:Int) cs[n] E [];simp at this;omega
 have x:=Ti (n:Int) cs[n] E [] (by simp);have ao:=Y7 R V base n (eE (jM 2 E)) cs [] cv rv w hR hn ad (by simp) List.Pairwise.nil (by rw[Eh a];exact Ej bn) (by rw[hs];exact W) (by rw[hs];exact ag) (by rw[hs,H];omega) (by
  rw[hs,H];intro e he;have:=(v e he).2.2.2;simp[dZ]at this;omega)
 rw[hs,H]at ao;have b:base<=R:=hR.new.1;have b5:base<=w.heap.size:=dF b (a7p hR.blk.lt);clear hs W ag H v bl a bn hR ad I;generalize eK [] n cs[n] E=L at*;generalize eE (jM 2 E)=s at*;simp only[qc,j9,ka,kg,ke,gP,fy];refine wp_seq ?_;go_wp2_with fail;refine ao.mono ?_;rintro e w1 ⟨rfl,V1,ch,y,z,_,_⟩;have bo:=am ((Below.refl base w).grown z b5 (by intro k hk;cases hk;exact b));clear ao z;go_wp2_with fail;obtain⟨b6,bp,rfl⟩:=dA y.rows;refine(Jn.{0} R V1 _ cv 0 0 w1 y.blk y.view).mono ?_;rintro e aq ⟨rfl,rfl⟩;have br:=ZY.{0} V1 b6 bp L aq (by omega) y.view (a0s y.rows);have K:=y;clear y;go_wp2_with fail;refine br.mono ?_;rintro e w2 ⟨vl,rfl,hl,X⟩;have bs:=K.below X;have Y:R<aq.heap.size:=K.blk.lt;have b7:=am X;have bw:=am ((ai bo).trans (X.mono (dF b (a7p Y))));have ar:=Dk R V1 base cs L cv _ w2 bs h8 (by omega) hT.kX;rw[Vi λr hr=>(x r hr).2]at ar;clear br bo X K bs;have au:=am hl;have b8:=am x;have HT:=am hT;clear hl x hT;obtain⟨al,cl,rfl⟩:=dA (ai au);go_wp2_with fail;refine ar.mono ?_;rintro e w3 ⟨u1,V2,ck,rfl,bx,o,_,_,bA⟩;have co:aq.heap.size<=w2.heap.size:=by have:=(ai b7).size;exact this
 have bB:=am (sZ (ai au) o Y);have bC:=am ((ai bw).grown o (by omega) (by intro k hk;cases hk;exact b));have cp:w2.heap.size<=w3.heap.size:=o.size;have C:=Dk R V2 base cs (dp L) cv _ w3 bx h8 (by rw[qG];omega) (zA (ai HT).kX);rw[Vj]at C;simp only[gv,show aV 0=0 from rfl,a8h]at C;have av:=am bA;clear ar bw au o bA bx;obtain⟨a1,c1,rfl⟩:=dA (ai av);go_wp2_with fail;refine C.mono ?_;rintro e w4 ⟨u2,V3,cr,rfl,bF,M,_,_,bG⟩;obtain⟨a2,c2,rfl⟩:=dA bG;have bI:=am (sZ (ai bB) M Y);have bN:=am (sZ (ai av) M (by omega));have bO:=am ((ai bC).grown M (by omega) (by intro k hk;cases hk;exact b));have cu:w3.heap.size<=w4.heap.size:=M.size;have aP:=a2X R V3 base cs (dp (dp L)) cv _ w4 bF h8 (by rw[qG,qG];omega) (zA (zA (ai HT).kX));simp only[id,qG,XY]at aP;clear C bC bB av M bG bF;go_wp2_with fail;refine aP.mono ?_;rintro e w5 ⟨u3,V4,cx,rfl,b9,N,_,_,O⟩;obtain⟨a3,c3,rfl⟩:=dA O;have hl:=sZ (ai bI) N Y;have hf:=sZ (ai bN) N (by omega);have bR:=am ((ai bO).grown N (by omega) (by intro k hk;cases hk;exact b));have cy:w4.heap.size<=w5.heap.size:=N.size;clear aP bO bI bN N b9;by_cases ca:L.length=0
 .have cb:aV 0=0:=rfl;simp only[ca,cb,a8h];clear hf O hl;go_wp2;exact ai bR
 .have f:aV L.length=1:=Hj (by omega) J;rw[f,a7O]at hf O;simp only[f,a7O];have D:=am hl;have P:=am hf;have Q:=am O;clear hl hf O f;have cN:((L.length:Int)==0)=false:=beq_false_of_ne (by omega);have cS:decide ((L.length:Int)=0)=false:=decide_eq_false (by omega);go_wp2_with fail
  go_loopw [21] (λi wr=> ∃k:Nat,k<=cs.length/\i=.int .i64 k/\Below w5.heap.size w5 wr) (λi _=>cs.length - (intOf i).toNat)
  case atStart=>exact⟨0,by omega,rfl,Below.refl _ _⟩
  case round=>
   obtain⟨k,hk,rfl,l⟩:=hrel;by_cases t:k<cs.length
   .have bS:0<cs.length:=by omega
    have Z:(dz (k:Int) L).length=L.length:=by simp[dz]
    obtain⟨bT,bU⟩:=S9 (ai HT).kX (by omega) J (k:Int);obtain⟨bX,b0,ba⟩:=a5Z bT bU;have F:io (dz (k:Int) L) 0=.string (eE (dC 2 (dz (k:Int) L))):=Yt (by rw[Z];exact J);have f:aV L.length=1:=Hj (by omega) J;obtain⟨g3,rfl,o⟩:=wG (ai Q) bS;obtain⟨g1,rfl,z⟩:=wG (ai P) bS;obtain⟨gl,rfl,S⟩:=wG (ai D) (by omega);have x0:=(l.cell (p:=⟨g3,k*2,none⟩) o).trans (il (ai Q) (mN f cs.length k t 0 (by omega)));have x1:=(l.cell (p:=⟨g3,k*2+1,none⟩) o).trans (il (ai Q) ((mN f cs.length k t 1 (by omega)).trans (congrArg some F)));have y0:=(l.cell (p:=⟨g1,k*2,none⟩) z).trans (il (ai P) (mN f cs.length k t 0 (by omega)));have y1:=(l.cell (p:=⟨g1,k*2+1,none⟩) z).trans (il (ai P) ((mN f cs.length k t 1 (by omega)).trans (congrArg some F)));have bb:=UJ (eE (dC 2 (dz (k:Int) L))) wr (Ej (by rw[Z];exact J));have cc:(eE (dC 2 (dz (k:Int) L))).data.toList=dC 2 (dz (k:Int) L):=by simp[eE]
    rw[cc]at bb;have HX:=am (And.intro x0 (And.intro y0 (And.intro y1 l)));go_wp2_with fail;refine bb.mono ?_;rintro e w6 ⟨Vp,ve,rfl,⟨ae,ne,ce,rfl,b1,T,ab⟩,bd⟩;rw[bX]at ab;obtain rfl:ve=.nilIface:=ab;rw[ba,Z]at b1;subst b1;rw[ba]at T;rw[b0];have j0:(0:Int)<=(k:Int):=by omega
    have j1:(k:Int)<(cs.length:Int):=by omega
    have cd:=Vd (k:Int) (eE (dC 2 (dz (k:Int) L)));have m:=am ((l.trans (bd.mono l.size)).alloc (by have:=l.size;have:=bd.size;omega) (.cells #[.int .i64 2,.slice ae L.length ce] 45));have U:=am (T.alloc (.cells #[.int .i64 2,.slice ae L.length ce] 45));have bP:=aK.new w6 #[.int .i64 2,.slice ae L.length ce] 45;clear bb bd T HX x0 x1 y0 y1 l bX b0 ba bT bU;go_wp2_with fail;generalize w6.heap.size=B at*;generalize w6.alloc (.cells #[.int .i64 2,.slice ae L.length ce] 45)=w7 at*;have p0:=(bP.cell 0).trans (show _=some (.int .i64 2)from rfl);have p1:=(bP.cell 1).trans (show _=some (.slice ae L.length ce)from rfl);have x0:=((ai m).cell (p:=⟨g3,k*2,none⟩) o).trans (il (ai Q) (mN f cs.length k t 0 (by omega)));have x1:=((ai m).cell (p:=⟨g3,k*2+1,none⟩) o).trans (il (ai Q) ((mN f cs.length k t 1 (by omega)).trans (congrArg some F)));have y0:=((ai m).cell (p:=⟨g1,k*2,none⟩) z).trans (il (ai P) (mN f cs.length k t 0 (by omega)));have y1:=((ai m).cell (p:=⟨g1,k*2+1,none⟩) z).trans (il (ai P) ((mN f cs.length k t 1 (by omega)).trans (congrArg some F)));go_quiet (fail);clear x0 x1 y0 y1 cd;have c0:=am F;clear F;go_wp2_with fail
    go_loopw [24] (λq wq=> ∃(j d:Nat),j<=L.length/\q=.int .i64 j/\wq=w7.drewN d) (λq _=>L.length - (intOf q).toNat)
    case atStart=>exact⟨0,nq,by omega,rfl,rfl⟩
    case round=>
     obtain⟨j,d,hj,rfl,rfl⟩:=hrel;by_cases u:j<L.length
     .obtain⟨ge,rfl,c4⟩:=wG (ai U) (by omega);have b2:j<(dz (k:Int) L).length:=by rw[Z];exact u
      have b3:(dz (k:Int) L)[j]=jP (k:Int) L[j]:=by simp[dz]
      obtain⟨q0,q1,q2,q3⟩:=ze (dz (k:Int) L) j b2;have e0:=il (ai U) q0;have e1:=il (ai U) q1;have e2:=il (ai U) q2;have e3:=il (ai U) q3;rw[b3]at e0 e1 e2 e3;have l0:=((ai m).cell (p:=⟨gl,j*5,none⟩) S).trans (il (ai D) ((tq L j u 0 (by omega)).trans rfl));have l1:=((ai m).cell (p:=⟨gl,j*5+1,none⟩) S).trans (il (ai D) ((tq L j u 1 (by omega)).trans rfl));have l2:=((ai m).cell (p:=⟨gl,j*5+2,none⟩) S).trans (il (ai D) ((tq L j u 2 (by omega)).trans rfl));have l3:=((ai m).cell (p:=⟨gl,j*5+3,none⟩) S).trans (il (ai D) ((tq L j u 3 (by omega)).trans rfl));have l4:=((ai m).cell (p:=⟨gl,j*5+4,none⟩) S).trans (il (ai D) ((tq L j u 4 (by omega)).trans rfl));have b4:=((ai b8) L[j] (i5 u)).1;have c5:L[j].met<=16:=by have:=((ai HT).kX L[j] (i5 u)).2.2.2;simp[dZ]at this;omega
      unfold jP at e0 e1 e2 e3;dsimp only at e0 e1 e2 e3;rw[b4]at e3 l4;generalize L[j]=r at*;have j2:(0:Int)<=(j:Int):=by omega
      have j3:(j:Int)<(L.length:Int):=by omega
      have c6:=Ve r.addr r.len;clear q0 q1 q2 q3 b3 b2 b4;by_cases A:(n:Int)=(k:Int)
      .rw[if_pos A]at e3;have W:decide ((k:Int)=(n:Int))=true:=by simp[A]
       have ag:((k:Int)==(n:Int))=true:=by simp[A]
       clear A;go_wp2_with fail;go_quiet (fail);go_wp2
       go_roundw
       case rel=>exact⟨j+1,d+_,by omega,by go_num,rfl⟩
       case measure=>simp[intOf];omega
      .rw[if_neg A]at e3;have cf: ¬(k:Int)=(n:Int):=λh=>A h.symm;clear A;go_wp2_with fail;go_quiet (fail);go_wp2
       go_roundw
       case rel=>exact⟨j+1,d+_,by omega,by go_num,rfl⟩
       case measure=>simp[intOf];omega
     .go_wp2
      go_roundw
      case rel=>exact⟨k+1,by omega,by go_num,below_drewN (ai m) _⟩
      case measure=>simp[intOf];omega
   .go_wp2;exact(ai bR).trans (l.mono (by omega))
end
end Go.Proofs.q
end
