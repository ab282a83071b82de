import Derived.Deep.AppendLies
import Derived.Lib.AppendStr
import Derived.Lib.SlBytesConst
import Derived.Test.YtdnpeefnobjfaaaGreatDoorK10
set_option maxRecDepth 100000
set_option maxHeartbeats 4000000
set_option linter.all false
section
namespace Go.Proofs.q
universe u
open Go.RowKit
theorem Gh.Hw:(Gh.prog.{u}.info? 5).map (λi=>(i.zero,i.size,i.bytes))=some (some (.int .u8 0),1,1):=by kernel_rfl
def ui(c:UInt8):aj:=.int .u8 c.toNat
def fZ(l:List UInt8):List aj:=l.map ui
def PF(a b):fZ (a++b)=fZ a++fZ b:=by simp[fZ]
def Ps(x):ui (byteOf x)=.int .u8 (x%256):=by
 have h0:0<=x%256:=a9h
 have a:x%256<256:=a9h
 have e:(((x%256).toNat%256:Nat):Int)=x%256:=a9h
 simp[ui,byteOf,e]
theorem AK(x):be 2 x=[byteOf (x / 256),byteOf x]:=rfl
def O5(x):be 4 x=be 2 (x / 65536)++be 2 x:=by
 have a:x / 256 / 256=x / 65536:=a9h
 have b:x / 65536 / 256=x / 256 / 256 / 256:=a9h
 simp[be,a,b]
def O8(x):be 2 (x%65536)=be 2 x:=by
 have a:byteOf (x%65536 / 256)=byteOf (x / 256):=by unfold byteOf;congr 2;omega
 have b:byteOf (x%65536)=byteOf x:=by unfold byteOf;congr 2;omega
 rw[AK,AK,a,b]
def PK(x)(h0:0<=x)(a:x<65536):fZ (be 2 x)=[.int .u8 (x / 256),.int .u8 (x%256)]:=by simp[AK,fZ,Ps];omega
def du{w b c:aa}{r}(h:w.grownBy b r)(a:b.grownBy c r):w.grownBy c r:=
 ⟨a.os.trans h.os,a.tape.trans h.tape,a.output.trans h.output,dt h.size a.size,λk d e=>(a.block k (bL d h.size) e).trans (h.block k d e)⟩
def wU(base g n cap f x w)(c:w.ownsRow base 5 1 (.slice (some ⟨g,0,none⟩) n cap) n (fZ f))(h0:0<=x)(l:x<65536)(o:n+2<=cap):Calls Gh.prog.{u} 175 #[.slice (some ⟨g,0,none⟩) n cap,.int .u16 x] w λe i=>e=.returned (.slice (some ⟨g,0,none⟩) (n+2) cap)/\i.ownsRow base 5 1 (.slice (some ⟨g,0,none⟩) (n+2) cap) (n+2) (fZ (f++be 2 x))/\w.grownBy i (some g):=by
 obtain⟨p,q,r,h,s⟩:=info_parts Gh.Hw.{u};go_enter Gh.func175,Tryz.ntmps175;go_wp2_with (at_builtin;refine wpList_append_fits _ rfl _ _ 226 rfl base 5 p 1 Gh.underlying226 q h g n cap (fZ f) rfl (c.alloc _) ⟨w.heap.size,0,none⟩ 2 2 [.int .u8 (x / 256),.int .u8 (x%256)] rfl rfl ?c1 ?c2 o ?_)
 case c1=>
  intro j u d
  match j,d with
  |0,d=>simp at d;subst d;simp[Addr.add]
  |1,d=>simp at d;subst d;simp[Addr.add]
 case c2=>intro u k;simp at k;obtain rfl|rfl:=k<;>rfl
 .intro v a b;rw[<-PK x h0 l,<-PF]at a;have t:=du (World.grownBy_alloc w _ (some g)) b;clear b c;go_wp2;go_ret;exact⟨rfl,a,t⟩
def wV(base g n cap d x w)(c:w.ownsRow base 5 1 (.slice (some ⟨g,0,none⟩) n cap) n (fZ d))(h0:0<=x)(j:x<4294967296)(k:n+4<=cap):Calls Gh.prog.{u} 176 #[.slice (some ⟨g,0,none⟩) n cap,.int .u32 x] w λe i=>e=.returned (.slice (some ⟨g,0,none⟩) (n+4) cap)/\i.ownsRow base 5 1 (.slice (some ⟨g,0,none⟩) (n+4) cap) (n+4) (fZ (d++be 4 x))/\w.grownBy i (some g):=by go_enter Gh.func176,Tryz.ntmps176;go_wp2_with fail;refine(wU base g n cap d _ _ c a9h a9h a9h).mono ?_;rintro e l ⟨rfl,b,f⟩;go_wp2_with fail;rw[IntKind.wrap_u16];refine(wU base g (n+2) cap _ _ _ b a9h a9h a9h).mono ?_;rintro e o ⟨rfl,a,h⟩;rw[jW,O8,<-O5]at a;go_wp2_with fail;go_ret;exact⟨rfl,a,du f h⟩
def wY(w:aa)(H:Nat)(E:cR):Prop:=w.cell? ⟨H,0,none⟩=some (.int .u32 E.addr)/\w.cell? ⟨H,1,none⟩=some (.int .i64 E.len)/\w.cell? ⟨H,2,none⟩=some (.int .i64 E.tag)/\w.cell? ⟨H,3,none⟩=some (.int .i64 E.met)
def Pn(w:aa)(E):wY (w.alloc (.cells #[.int .u32 E.addr,.int .i64 E.len,.int .i64 E.tag,.int .i64 E.met] 42)) w.heap.size E:=by simp[wY]
def ug{w c H g E}(h:wY w H E)(b:w.grownBy c (some g))(a:H≠g):wY c H E:=
 ⟨b.cell h.1 (by simpa using a),b.cell h.2.1 (by simpa using a),b.cell h.2.2.1 (by simpa using a),b.cell h.2.2.2 (by simpa using a)⟩
def Oz(base g n cap y E w)(a:w.ownsRow base 5 1 (.slice (some ⟨g,0,none⟩) n cap) n (fZ y))(z:0<=E.addr/\E.addr<4294967296)(H:fE E=0)(hn:n+20<=cap):Calls Gh.prog.{u} 137 #[.slice (some ⟨g,0,none⟩) n cap,.agg #[.int .u32 E.addr,.int .i64 E.len,.int .i64 E.tag,.int .i64 E.met]] w λe I=>e=.returned (.slice (some ⟨g,0,none⟩) (n+20) cap)/\I.ownsRow base 5 1 (.slice (some ⟨g,0,none⟩) (n+20) cap) (n+20) (fZ (y++cj E))/\w.grownBy I (some g):=by
 obtain⟨J,K,L⟩:=Gs H;have S:=C1 J;simp only[kz,fH,eO,decide_eq_true_eq]at K L;obtain⟨T,U⟩:=K;obtain⟨V,W⟩:=L;obtain⟨A,B⟩:=S;obtain⟨X,Y⟩:=z;clear H J;have Z:g<w.heap.size:=(a.lt g rfl).2;have ab:=nZ (32 - E.len).toNat;have ad:=nY (32 - E.len).toNat a9h;go_enter Gh.func137,Tryz.ntmps137;go_wp2_with fail;refine(wU base g n cap y _ _ (a.alloc _) a9h a9h a9h).mono ?_;rintro e w1 ⟨rfl,b,p⟩;have c:w.heap.size≠g:=a9h
 have C:=ug (Pn w E) p c;have M:=du (World.grownBy_alloc w _ (some g)) p;clear p a;obtain⟨l,c1,c2,o⟩:=id C;go_wp2_with fail;refine(wU base g (n+2) cap _ _ _ b a9h a9h a9h).mono ?_;rintro e w2 ⟨rfl,d,q⟩;have D:=ug C q c;have N:=du M q;clear l c1 c2 o C M q b;obtain⟨l,c1,c2,o⟩:=id D;go_wp2_with fail;refine(wV base g (n+4) cap _ _ _ d a9h a9h a9h).mono ?_;rintro e w3 ⟨rfl,f,r⟩;have x3:=ug D r c;have O:=du N r;clear l c1 c2 o D N r d;obtain⟨l,c1,c2,o⟩:=id x3;go_wp2_with fail;refine(vw _ _ _ A B).mono ?_;rintro e ae ⟨rfl,rfl⟩;go_wp2_with fail;refine(wV base g (n+8) cap _ _ _ (f.alloc _) a9h a9h a9h).mono ?_;rintro e w4 ⟨rfl,h,t⟩;have i:=du (World.grownBy_alloc w3 _ (some g)) t;have F:=ug x3 i c;have P:=du O i;clear l c1 c2 o x3 O t i f;obtain⟨l,c1,c2,o⟩:=id F;go_wp2_with fail;refine(wV base g (n+12) cap _ _ _ h a9h a9h a9h).mono ?_;rintro e w5 ⟨rfl,j,s⟩;have Q:=ug F s c;have R:=du P s;clear l c1 c2 o F P s h;obtain⟨l,c1,c2,o⟩:=id Q;go_wp2_with fail;refine(wV base g (n+16) cap _ _ _ j a9h a9h a9h).mono ?_;rintro e w6 ⟨rfl,k,v⟩;have g6:=du R v;clear l c1 c2 o Q R v j;have x:w6.ownsRow base 5 1 (.slice (some ⟨g,0,none⟩) (n+20) cap) (n+20) (fZ (y++cj E)):=by simpa[cj,jW]using k
 clear k;go_wp2_with fail;go_ret;exact⟨rfl,x,g6⟩
def jd(l:List UInt8):ByteArray:=⟨l.toArray⟩
def DM(l):(jd l).size=l.length:=by simp[jd,ByteArray.size]
def a4k(l):Lib.strCells (jd l)=fZ l:=by simp[Lib.strCells,jd,fZ,ui]
def a9C{P}(w base t u x e i)(B:P.underlying t=some (.slice e))(C:P.underlying u=some .string)(D:P.info? e=some i)(j:i.size=1)(g n cap l)(d:w.ownsRow base e 1 (.slice (some ⟨g,0,none⟩) n cap) n l)(s)(a:n+s.size<=cap):∃o,(Builtin.append_ #[t,u] x #[.slice (some ⟨g,0,none⟩) n cap,.string s]).run P w=.ok (.slice (some ⟨g,0,none⟩) (n+s.size) cap) o/\o.ownsRow base e 1 (.slice (some ⟨g,0,none⟩) (n+s.size) cap) (n+s.size) (l++Lib.strCells s)/\w.grownBy o (some g):=by
 obtain⟨y,c⟩:=d;obtain⟨c,_⟩|⟨H,z,f,c,p,A,E,q,r,b⟩:=c
 .simp at c
 .simp at c;obtain⟨rfl,rfl⟩:=c;simp only[b1y]at y r b;have h:=Lib.run_append_room_string (P:=P) w t u x e i B C D j g n cap f A s a a9h;have v:(l++Lib.strCells s).length=n+s.size:=by rw[iN,y,Lib.strCells_length]
  refine⟨_,h,⟨a9h,.inr ⟨g,cap,_,rfl,p,setRow_heap w g f _ e _ A,a,q,?_,?_⟩⟩,⟨rfl,rfl,rfl,a9i,λk _ F=>setRow_other w g k _ (λe=>F (by rw[e]))⟩⟩
  .simp[Lib.strCells_length];omega
  .rw[b,b1y,<-v];exact b0b
def a6x{P}(w){ops b o a Q}(j:o.guard=none)(sl x t u)(p:o.op=.call {callee:=.builtin .append,args:=#[sl,x],argTypes:=#[t,u]})(base e i)(q:P.underlying t=some (.slice e))(r:P.underlying u=some .string)(v:P.info? e=some i)(k:i.size=1)(g n cap l)(y:a.eval sl=.slice (some ⟨g,0,none⟩) n cap)(d:w.ownsRow base e 1 (.slice (some ⟨g,0,none⟩) n cap) n l)(s)(z:a.eval x=.string s)(c:n+s.size<=cap)(h:∀f,f.ownsRow base e 1 (.slice (some ⟨g,0,none⟩) (n+s.size) cap) (n+s.size) (l++Lib.strCells s)->w.grownBy f (some g)->wpList P ops Q b (a.put o.dst (.slice (some ⟨g,0,none⟩) (n+s.size) cap)) f):wpList P ops Q (o::b) a w:=by refine wpList_plain j λK A=>?_;obtain⟨f,B,C,D⟩:=a9C (P:=P) w base t u o.type e i q r v k g n cap l d s c;unfold Oper.wp;simp[execOp,p,resolve,invoke,builtin,y,z,B,Result.andThen];exact A _ _ (h f C D)
def PI(a j)(h:j<a.length):(fZ a)[j]?=some (.int .u8 (a[j].toNat:Int)):=by simp[fZ,ui,iM h]
def a4l(xs):strOfNums (xs.map λc=>(c.toNat:Int))=jd xs:=by simp[strOfNums,jd,b0R,Function.comp_def]
def Z9(w base g n cap b)(a:w.ownsRow base 5 1 (.slice (some ⟨g,0,none⟩) n cap) n (fZ b)):(convert 226 9 (.slice (some ⟨g,0,none⟩) n cap)).run Gh.prog.{u} w=.ok (.string (jd b)) w:=by
 have c:b.length=n:=by have:=a.1;simpa[fZ]using this
 rw[<-a4l];refine run_convert_bytes_arg w 226 5 Gh.underlying226 Gh.underlying5 g 0 n cap _ (by simpa using c) (λi f=>?_) 9 Gh.underlying9;have d:=a.cells (g:=g) rfl i _ (PI b i a9h);have e:(⟨g,0,none⟩:aF).add i=⟨g,0+i,none⟩:=by unfold Addr.add;split<;>simp_all
 rw[<-e,d];simp[iM (show i<b.length by omega)]
def a6Y(b p cap n l w)(B:sf l)(M:l.length=n)(R:n<=25)(S:b<w.heap.size)(N:gM l 0=none)(T:nL w b p l):Calls Gh.prog.{u} 85 #[.slice (some ⟨b,p,none⟩) n cap] w λe w'=>e=.returned (.string (jd (eF 2 l)))/\Below w.heap.size w w':=by
 obtain⟨O,C,q,j,r⟩:=info_parts Gh.Hw.{u};have P:=ak M;have U:=ak N;clear M N;go_enter Gh.func85,Tryz.ntmps85;go_wp2_with (first|(at_make;go_loud (refine wpList_make_own _ rfl _ _ 226 rfl w.heap.size 5 O (.int .u8 0) 1 Gh.underlying226 C q j _ _ _ (4+n*20) rfl rfl a9h (by rw[r];omega) (by unfold maxLen;omega) a9h ?_);intro V c o)|(at_builtin;go_loud (refine a6x _ rfl _ _ 226 9 rfl w.heap.size 5 O Gh.underlying226 Gh.underlying9 C j w.heap.size 0 (4+n*20) [] rfl c (jd [2,2,0,0]) rfl (by rw[DM];show 0+4<=_;omega) ?_);intro w3 a s));simp only[dC,iu,a4k,DM,gm,ir]at a;rw[show(jd [2,2,0,0]).size=4 from rfl];have t:Below w.heap.size w w3:=((Below.refl _ _).grown o (az _) a9i).grown s o.size a9i;clear c o s q j r C
 go_loopw [3,15] (λd i wr=> ∃k:Nat,k<=n/\i=.int .i64 k/\d=.slice (some ⟨w.heap.size,0,none⟩) (4+20*k) (4+n*20)/\wr.ownsRow w.heap.size 5 1 (.slice (some ⟨w.heap.size,0,none⟩) (4+20*k) (4+n*20)) (4+20*k) (fZ ([2,2,0,0]++(l.take k).flatMap cj))/\Below w.heap.size w wr) (λ_ i _=>n - (intOf i).toNat)
 case atStart=>exact⟨0,a9h,rfl,rfl,by simpa using a,t⟩
 case round=>
  obtain⟨k,W,rfl,rfl,f,v⟩:=hrel;clear a t;by_cases D:k<n
  .have h:k<l.length:=by rw[af P];exact D
   have F:=Bk T v S k h;have x:=B l[k] (kK _);have y:=G9 (af U) l[k] (kK _);have z:(l.take (k+1)).flatMap cj=(l.take k).flatMap cj++cj l[k]:=by rw[oA h,List.flatMap_append];simp
   have H:=ak z;clear z;generalize Q:l[k]=E at*;have X:=ak Q;have I:=ak y;clear Q y;obtain⟨Y,c1,c2,Z⟩:=F;go_wp2_with (go_at_call 137;refine(Oz w.heap.size w.heap.size (4+20*k) (4+n*20) _ E _ (f.alloc _) x (af I) a9h).mono ?_;rintro e w4 ⟨rfl,g,J⟩)
   go_roundw
   case rel=>rw[jW,<-af H]at g;exact⟨k+1,a9h,by go_num,rfl,g,(v.alloc v.size _).grown J (by simp;have:=v.size;omega) a9i⟩
   case measure=>simp[intOf];omega
  .have K:k=n:=a9h
   subst K;have L:=Z9.{u} wr _ _ _ _ _ f;have A:[2,2,0,0]++(l.take k).flatMap cj=eF 2 l:=by rw[<-af P,pN];simp[eF]
   rw[A]at L;clear f;go_wp2;go_ret;exact⟨rfl,v⟩
def wX{w:aa}{b o:Nat}{cs:Array aj}{t:bD}{u:aj}(h:w.heap[b]?=some (.cells cs t (0,0))):(w.setCell ⟨b,o,none⟩ u).heap[b]?=some (.cells (cs.setIfInBounds o u) t (0,0)):=by
 have a:=lt_of_block h;have c:w.heap[b]=.cells cs t (0,0):=by simpa[eY a]using h
 show(w.heap.modify b _)[b]?=_;rw[eY (by simpa using a),Array.getElem_modify_self,c];rfl
def Uv{w:aa}{b o:Nat}{cs:Array aj}{t:bD}(h:w.heap[b]?=some (.cells cs t (0,0))):w.frozen? ⟨b,o,none⟩=false:=by simp[World.frozen?,h]
def k7{w a:aa}{r:Option Nat}(h:w.grownBy a none):w.grownBy a r:=⟨h.os,h.tape,h.output,h.size,λk b _=>h.block k b a9i⟩
def kZ(w:aa)(b o:Nat)(u:aj):w.grownBy (w.setCell ⟨b,o,none⟩ u) (some b):=
 ⟨rfl,rfl,rfl,by simp[World.setCell],λk _ a=>Below.heap_setCell _ _ _ _ (by simpa using a)⟩
def B1{w a:aa}{r:Option Nat}(h:Below w.heap.size w a):w.grownBy a r:=⟨h.os,h.tape,h.output,h.size,λk b _=>h.block k b⟩
def Pd{w w1:aa}{B b:Nat}(h:w.grownBy w1 (some b))(a:B<=w.heap.size)(c:B<=b):Below B w w1:=(Below.refl _ _).grown h a a9l
def EV(w:aa){b g:Nat}(h:b≠g)(o c d e o3:Nat)(f i j k:aj):((((w.setCell ⟨g,c,none⟩ f).setCell ⟨g,d,none⟩ i).setCell ⟨g,e,none⟩ j).setCell ⟨g,o3,none⟩ k).cell? ⟨b,o,none⟩=w.cell? ⟨b,o,none⟩:=
 World.cell?_of_block (a:=⟨b,o,none⟩) (((Below.heap_setCell _ _ _ _ h).trans (Below.heap_setCell _ _ _ _ h)).trans ((Below.heap_setCell _ _ _ _ h).trans (Below.heap_setCell _ _ _ _ h)))
def mG(e:cR):List aj:=[.int .u32 e.addr,.int .i64 e.len,.int .i64 e.tag,.int .i64 e.met]
def fe(l:List cR):List aj:=l.flatMap mG
theorem xS(l:List cR):(fe l).length=l.length*4:=by
 induction l with
 |nil=>rfl
 |cons e r a=>simp[fe,mG]at a⊢;omega
def Gt(l:List cR)(k:Nat)(b:k<l.length):(fe l)[k*4]?=some (.int .u32 l[k].addr)/\(fe l)[k*4+1]?=some (.int .i64 l[k].len)/\(fe l)[k*4+2]?=some (.int .i64 l[k].tag)/\(fe l)[k*4+3]?=some (.int .i64 l[k].met):=by
 induction l generalizing k with
 |nil=>simp at b
 |cons e r d=>
  cases k with
  |zero=>simp[fe,mG]
  |succ k=>
   have h:=d k (by simpa using b);have a:∀j,(fe (e::r))[(k+1)*4+j]?=(fe r)[k*4+j]? :=λj=>by rw[show fe (e::r)=mG e++fe r by simp[fe],a9P (by simp[mG];omega)];congr 1;simp[mG];omega
   have c:=a 0;simp only[oB]at c;rw[c,a 1,a 2,a 3];simpa using h
def xe(cur:Array aj)(o:Nat)(e:cR):Prop:=cur[o]?=some (.int .u32 e.addr)/\cur[o+1]?=some (.int .i64 e.len)/\cur[o+2]?=some (.int .i64 e.tag)/\cur[o+3]?=some (.int .i64 e.met)
def AV(w:aa)(g:Nat)(L:List cR):Prop:=∃a,w.heap[g]?=some (.cells a 42 (0,0))/\a.toList.take (L.length*4)=fe L
def AW{w:aa}{base g n cap:Nat}{L:List cR}(h:w.ownsRow base 42 4 (.slice (some ⟨g,0,none⟩) n cap) n (fe L)):AV w g L:=by
 obtain⟨d,e⟩:=h;obtain⟨a,_⟩|⟨j,c,b,a,_,f,_,_,_,i⟩:=e
 .simp at a
 .simp at a;obtain⟨rfl,rfl⟩:=a;rw[xS]at d;exact⟨b,f,by rw[show L.length*4=n*4 by omega];exact i⟩
def Fc{w:aa}{g:Nat}{L:List cR}(h:AV w g L):nL w g 0 L:=by
 obtain⟨b,c,d⟩:=h;intro k e;obtain⟨f,c1,c2,i⟩:=Gt L k e;have a:∀j,j<L.length*4->w.cell? ⟨g,0+j,none⟩=(fe L)[j]? :=λj l=>by rw[dC,cell_of_row w g j b _ _ c,<-d,a9X,if_pos l];simp
 refine⟨?_,?_,?_,?_⟩
 .rw[a _ a9h];exact f
 .rw[lJ,a _ a9h];exact c1
 .rw[lJ,a _ a9h];exact c2
 .rw[lJ,a _ a9h];exact i
def Qq{w:aa}{g:Nat}{L:List cR}(h:AV w g L):g<w.heap.size:=by obtain⟨a,b,_⟩:=h;exact lt_of_block b
theorem Gh.Hv:(Gh.prog.{u}.info? 42).map (λi=>(i.zero,i.size,i.bytes))=some (some (.agg #[.int .u32 0,.int .i64 0,.int .i64 0,.int .i64 0]),4,32):=by kernel_rfl
theorem Gh.B6:(Gh.prog.{u}.info? 3).map (λi=>(i.zero,i.size,i.bytes))=some (some (.int .i64 0),1,8):=by kernel_rfl
end Go.Proofs.q
end
