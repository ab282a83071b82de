import Derived.Deep.AppendLies
import Derived.Lib.AppendStr
import Derived.Lib.SlBytesConst
import Derived.Test.YtdnpeefnobjfaaaGreatDoorK15
set_option maxRecDepth 100000
set_option maxHeartbeats 4000000
set_option linter.all false
section
namespace Go.Proofs.q
section
universe u
open Go.RowKit
theorem Gh.Fj:(Gh.prog.{u}.info? 5).map (λi=>(i.zero,i.size,i.bytes))=some (some (.int .u8 0),1,1):=by kernel_rfl
def rn(c:UInt8):af:=.int .u8 c.toNat
def fV(l:List UInt8):List af:=l.map rn
def M1(a b):fV (a++b)=fV a++fV b:=by simp[fV]
def MM(x):rn (byteOf x)=.int .u8 (x%256):=by
 have h0:0<=x%256:=by omega
 have a:x%256<256:=by omega
 have e:(((x%256).toNat%256:Nat):Int)=x%256:=by omega
 simp[rn,byteOf,e]
theorem ym(x):be 2 x=[byteOf (x / 256),byteOf x]:=rfl
def Mw(x):be 4 x=be 2 (x / 65536)++be 2 x:=by
 have a:x / 256 / 256=x / 65536:=by omega
 have b:x / 65536 / 256=x / 256 / 256 / 256:=by omega
 simp[be,a,b]
def Mz(x):be 2 (x%65536)=be 2 x:=by
 have a:byteOf (x%65536 / 256)=byteOf (x / 256):=by unfold byteOf;congr 2;omega
 have b:byteOf (x%65536)=byteOf x:=by unfold byteOf;congr 2;omega
 rw[ym,ym,a,b]
def M4(x)(h0:0<=x)(a:x<65536):fV (be 2 x)=[.int .u8 (x / 256),.int .u8 (x%256)]:=by simp[ym,fV,MM];omega
def dg{w b c:aa}{r}(h:w.grownBy b r)(a:b.grownBy c r):w.grownBy c r:=
 ⟨a.os.trans h.os,a.tape.trans h.tape,a.output.trans h.output,dF h.size a.size,λk d e=>(a.block k (cG d h.size) e).trans (h.block k d e)⟩
def uh(base g n cap f x w)(c:w.ownsRow base 5 1 (.slice (some ⟨g,0,none⟩) n cap) n (fV f))(h0:0<=x)(l:x<65536)(m:n+2<=cap):Calls Gh.prog.{u} 175 #[.slice (some ⟨g,0,none⟩) n cap,.int .u16 x] w λe i=>e=.returned (.slice (some ⟨g,0,none⟩) (n+2) cap)/\i.ownsRow base 5 1 (.slice (some ⟨g,0,none⟩) (n+2) cap) (n+2) (fV (f++be 2 x))/\w.grownBy i (some g):=by
 obtain⟨o,p,q,h,r⟩:=info_parts Gh.Fj.{u};go_enter Gh.func175,Tryz.ntmps175;go_wp2_with (at_builtin;refine wpList_append_fits _ rfl _ _ 226 rfl base 5 o 1 Gh.underlying226 p h g n cap (fV f) rfl (c.alloc _) ⟨w.heap.size,0,none⟩ 2 2 [.int .u8 (x / 256),.int .u8 (x%256)] rfl rfl ?c1 ?c2 m ?_)
 case c1=>
  intro j u d
  match j,d with
  |0,d=>simp at d;subst d;simp[Addr.add]
  |1,d=>simp at d;subst d;simp[Addr.add]
 case c2=>intro u k;simp at k;obtain rfl|rfl:=k<;>rfl
 .intro t a b;rw[<-M4 x h0 l,<-M1]at a;have s:=dg (World.grownBy_alloc w _ (some g)) b;clear b c;go_wp2;go_ret;exact⟨rfl,a,s⟩
def ui(base g n cap d x w)(c:w.ownsRow base 5 1 (.slice (some ⟨g,0,none⟩) n cap) n (fV d))(h0:0<=x)(j:x<4294967296)(k:n+4<=cap):Calls Gh.prog.{u} 176 #[.slice (some ⟨g,0,none⟩) n cap,.int .u32 x] w λe i=>e=.returned (.slice (some ⟨g,0,none⟩) (n+4) cap)/\i.ownsRow base 5 1 (.slice (some ⟨g,0,none⟩) (n+4) cap) (n+4) (fV (d++be 4 x))/\w.grownBy i (some g):=by go_enter Gh.func176,Tryz.ntmps176;go_wp2_with fail;refine(uh base g n cap d _ _ c (by omega) (by omega) (by omega)).mono ?_;rintro e l ⟨rfl,b,f⟩;go_wp2_with fail;rw[IntKind.wrap_u16];refine(uh base g (n+2) cap _ _ _ b (by omega) (by omega) (by omega)).mono ?_;rintro e m ⟨rfl,a,h⟩;rw[kc,Mz,<-Mw]at a;go_wp2_with fail;go_ret;exact⟨rfl,a,dg f h⟩
def um(w:aa)(H:Nat)(E:aT):Prop:=w.cell? ⟨H,0,none⟩=some (.int .u32 E.addr)/\w.cell? ⟨H,1,none⟩=some (.int .i64 E.len)/\w.cell? ⟨H,2,none⟩=some (.int .i64 E.tag)/\w.cell? ⟨H,3,none⟩=some (.int .i64 E.met)
def MI(w:aa)(E):um (w.alloc (.cells #[.int .u32 E.addr,.int .i64 E.len,.int .i64 E.tag,.int .i64 E.met] 42)) w.heap.size E:=by simp[um]
def ri{w c H g E}(h:um w H E)(b:w.grownBy c (some g))(a:H≠g):um c H E:=
 ⟨b.cell h.1 (by simpa using a),b.cell h.2.1 (by simpa using a),b.cell h.2.2.1 (by simpa using a),b.cell h.2.2.2 (by simpa using a)⟩
def LZ(base g n cap x E w)(a:w.ownsRow base 5 1 (.slice (some ⟨g,0,none⟩) n cap) n (fV x))(y:0<=E.addr/\E.addr<4294967296)(F:dw E=0)(hn:n+20<=cap):Calls Gh.prog.{u} 137 #[.slice (some ⟨g,0,none⟩) n cap,.agg #[.int .u32 E.addr,.int .i64 E.len,.int .i64 E.tag,.int .i64 E.met]] w λe H=>e=.returned (.slice (some ⟨g,0,none⟩) (n+20) cap)/\H.ownsRow base 5 1 (.slice (some ⟨g,0,none⟩) (n+20) cap) (n+20) (fV (x++cE E))/\w.grownBy H (some g):=by
 obtain⟨I,J,K⟩:=rU F;have R:=A0 I;simp only[f7,dZ,dW,decide_eq_true_eq]at J K;obtain⟨S,T⟩:=J;obtain⟨U,V⟩:=K;obtain⟨z,A⟩:=R;obtain⟨W,X⟩:=y;clear F I;have Y:g<w.heap.size:=(a.lt g rfl).2;have Z:=mP (32 - E.len).toNat;have ab:=mO (32 - E.len).toNat (by omega);go_enter Gh.func137,Tryz.ntmps137;go_wp2_with fail;refine(uh base g n cap x _ _ (a.alloc _) (by omega) (by omega) (by omega)).mono ?_;rintro e w1 ⟨rfl,b,o⟩;have c:w.heap.size≠g:=by omega
 have B:=ri (MI w E) o c;have L:=dg (World.grownBy_alloc w _ (some g)) o;clear o a;obtain⟨l,c1,c2,m⟩:=id B;go_wp2_with fail;refine(uh base g (n+2) cap _ _ _ b (by omega) (by omega) (by omega)).mono ?_;rintro e w2 ⟨rfl,d,p⟩;have C:=ri B p c;have M:=dg L p;clear l c1 c2 m B L p b;obtain⟨l,c1,c2,m⟩:=id C;go_wp2_with fail;refine(ui base g (n+4) cap _ _ _ d (by omega) (by omega) (by omega)).mono ?_;rintro e w3 ⟨rfl,f,q⟩;have x3:=ri C q c;have N:=dg M q;clear l c1 c2 m C M q d;obtain⟨l,c1,c2,m⟩:=id x3;go_wp2_with fail;refine(sG _ _ _ z A).mono ?_;rintro e ad ⟨rfl,rfl⟩;go_wp2_with fail;refine(ui base g (n+8) cap _ _ _ (f.alloc _) (by omega) (by omega) (by omega)).mono ?_;rintro e w4 ⟨rfl,h,s⟩;have i:=dg (World.grownBy_alloc w3 _ (some g)) s;have D:=ri x3 i c;have O:=dg N i;clear l c1 c2 m x3 N s i f;obtain⟨l,c1,c2,m⟩:=id D;go_wp2_with fail;refine(ui base g (n+12) cap _ _ _ h (by omega) (by omega) (by omega)).mono ?_;rintro e w5 ⟨rfl,j,r⟩;have P:=ri D r c;have Q:=dg O r;clear l c1 c2 m D O r h;obtain⟨l,c1,c2,m⟩:=id P;go_wp2_with fail;refine(ui base g (n+16) cap _ _ _ j (by omega) (by omega) (by omega)).mono ?_;rintro e w6 ⟨rfl,k,t⟩;have g6:=dg Q t;clear l c1 c2 m P Q t j;have v:w6.ownsRow base 5 1 (.slice (some ⟨g,0,none⟩) (n+20) cap) (n+20) (fV (x++cE E)):=by simpa[cE,kc]using k
 clear k;go_wp2_with fail;go_ret;exact⟨rfl,v,g6⟩
end
section
universe u
open Go.RowKit
def eE(l:List UInt8):ByteArray:=⟨l.toArray⟩
def BI(l):(eE l).size=l.length:=by simp[eE,ByteArray.size]
def a1C(l):Lib.strCells (eE l)=fV l:=by simp[Lib.strCells,eE,fV,rn]
def a5V{P}(w base t u v e i)(A:P.underlying t=some (.slice e))(B:P.underlying u=some .string)(C:P.info? e=some i)(j:i.size=1)(g n cap l)(d:w.ownsRow base e 1 (.slice (some ⟨g,0,none⟩) n cap) n l)(s)(a:n+s.size<=cap):∃m,(Builtin.append_ #[t,u] v #[.slice (some ⟨g,0,none⟩) n cap,.string s]).run P w=.ok (.slice (some ⟨g,0,none⟩) (n+s.size) cap) m/\m.ownsRow base e 1 (.slice (some ⟨g,0,none⟩) (n+s.size) cap) (n+s.size) (l++Lib.strCells s)/\w.grownBy m (some g):=by
 obtain⟨x,c⟩:=d;obtain⟨c,_⟩|⟨F,y,f,c,o,z,D,p,q,b⟩:=c
 .simp at c
 .simp at c;obtain⟨rfl,rfl⟩:=c;simp only[a7O]at x q b;have h:=Lib.run_append_room_string (P:=P) w t u v e i A B C j g n cap f z s a (by omega);have r:(l++Lib.strCells s).length=n+s.size:=by rw[ia,x,Lib.strCells_length]
  refine⟨_,h,⟨by omega,.inr ⟨g,cap,_,rfl,o,setRow_heap w g f _ e _ z,a,p,?_,?_⟩⟩,⟨rfl,rfl,rfl,by simp,λk _ E=>setRow_other w g k _ (λe=>E (by rw[e]))⟩⟩
  .simp[Lib.strCells_length];omega
  .rw[b,a7O,<-r];exact a6A
def a3N{P}(w){ops b o a Q}(j:o.guard=none)(sl x t u)(m:o.op=.call {callee:=.builtin .append,args:=#[sl,x],argTypes:=#[t,u]})(base e i)(p:P.underlying t=some (.slice e))(q:P.underlying u=some .string)(r:P.info? e=some i)(k:i.size=1)(g n cap l)(v:a.eval sl=.slice (some ⟨g,0,none⟩) n cap)(d:w.ownsRow base e 1 (.slice (some ⟨g,0,none⟩) n cap) n l)(s)(y:a.eval x=.string s)(c:n+s.size<=cap)(h:∀f,f.ownsRow base e 1 (.slice (some ⟨g,0,none⟩) (n+s.size) cap) (n+s.size) (l++Lib.strCells s)->w.grownBy f (some g)->wpList P ops Q b (a.put o.dst (.slice (some ⟨g,0,none⟩) (n+s.size) cap)) f):wpList P ops Q (o::b) a w:=by refine wpList_plain j λK z=>?_;obtain⟨f,A,B,C⟩:=a5V (P:=P) w base t u o.type e i p q r k g n cap l d s c;unfold Oper.wp;simp[execOp,m,resolve,invoke,builtin,v,y,A,Result.andThen];exact z _ _ (h f B C)
def M2(a j)(h:j<a.length):(fV a)[j]?=some (.int .u8 (a[j].toNat:Int)):=by simp[fV,rn,lF h]
def a1D(xs):strOfNums (xs.map λc=>(c.toNat:Int))=eE xs:=by simp[strOfNums,eE,a7l,a7b]
def Yc(w base g n cap b)(a:w.ownsRow base 5 1 (.slice (some ⟨g,0,none⟩) n cap) n (fV b)):(convert 226 9 (.slice (some ⟨g,0,none⟩) n cap)).run Gh.prog.{u} w=.ok (.string (eE b)) w:=by
 have c:b.length=n:=by have:=a.1;simpa[fV]using this
 rw[<-a1D];refine run_convert_bytes_arg w 226 5 Gh.underlying226 Gh.underlying5 g 0 n cap _ (by simpa using c) (λi f=>?_) 9 Gh.underlying9;have d:=a.cells (g:=g) rfl i _ (M2 b i (by omega));have e:(⟨g,0,none⟩:ap).add i=⟨g,0+i,none⟩:=by unfold Addr.add;split<;>simp_all
 rw[<-e,d];simp[lF (show i<b.length by omega)]
def JB(b o cap n l w)(A:ig l)(L:l.length=n)(Q:n<=25)(R:b<w.heap.size)(M:fj l 0=none)(S:kW w b o l):Calls Gh.prog.{u} 85 #[.slice (some ⟨b,o,none⟩) n cap] w λe w'=>e=.returned (.string (eE (dC 2 l)))/\Below w.heap.size w w':=by
 obtain⟨N,B,p,j,q⟩:=info_parts Gh.Fj.{u};have O:=am L;have T:=am M;clear L M;go_enter Gh.func85,Tryz.ntmps85;go_wp2_with (first|(at_make;go_loud (refine wpList_make_own _ rfl _ _ 226 rfl w.heap.size 5 N (.int .u8 0) 1 Gh.underlying226 B p j _ _ _ (4+n*20) rfl rfl (by omega) (by rw[q];omega) (by unfold maxLen;omega) (by omega) ?_);intro U c m)|(at_builtin;go_loud (refine a3N _ rfl _ _ 226 9 rfl w.heap.size 5 N Gh.underlying226 Gh.underlying9 B j w.heap.size 0 (4+n*20) [] rfl c (eE [2,2,0,0]) rfl (by rw[BI];show 0+4<=_;omega) ?_);intro w3 a r));simp only[dG,gP,a1C,BI,gu,gv]at a;rw[show(eE [2,2,0,0]).size=4 from rfl];have s:Below w.heap.size w w3:=((Below.refl _ _).grown m (aF _) (by simp)).grown r m.size (by simp);clear c m r p j q B
 go_loopw [3,15] (λd i wr=> ∃k:Nat,k<=n/\i=.int .i64 k/\d=.slice (some ⟨w.heap.size,0,none⟩) (4+20*k) (4+n*20)/\wr.ownsRow w.heap.size 5 1 (.slice (some ⟨w.heap.size,0,none⟩) (4+20*k) (4+n*20)) (4+20*k) (fV ([2,2,0,0]++(l.take k).flatMap cE))/\Below w.heap.size w wr) (λ_ i _=>n - (intOf i).toNat)
 case atStart=>exact⟨0,by omega,rfl,rfl,by simpa using a,s⟩
 case round=>
  obtain⟨k,V,rfl,rfl,f,t⟩:=hrel;clear a s;by_cases C:k<n
  .have h:k<l.length:=by rw[ai O];exact C
   have D:=rT S t R k h;have v:=A l[k] (i5 _);have x:=EP (ai T) l[k] (i5 _);have y:(l.take (k+1)).flatMap cE=(l.take k).flatMap cE++cE l[k]:=by rw[kL h,List.flatMap_append];simp
   have F:=am y;clear y;generalize P:l[k]=E at*;have W:=am P;have H:=am x;clear P x;obtain⟨X,c1,c2,Y⟩:=D;go_wp2_with (go_at_call 137;refine(LZ w.heap.size w.heap.size (4+20*k) (4+n*20) _ E _ (f.alloc _) v (ai H) (by omega)).mono ?_;rintro e Z ⟨rfl,g,I⟩)
   go_roundw
   case rel=>rw[kc,<-ai F]at g;exact⟨k+1,by omega,by go_num,rfl,g,(t.alloc t.size _).grown I (by simp;have:=t.size;omega) (by simp)⟩
   case measure=>simp[intOf];omega
  .have J:k=n:=by omega
   subst J;have K:=Yc.{u} wr _ _ _ _ _ f;have z:[2,2,0,0]++(l.take k).flatMap cE=dC 2 l:=by rw[<-ai O,nX];simp[dC]
   rw[z]at K;clear f;go_wp2;go_ret;exact⟨rfl,t⟩
def Kh(b c cap n l w)(f:ig l)(k:l.length=n)(h0:0<n)(g:n<=25)(i:b<w.heap.size)(m:fj l 0=none)(o:kW w b c l):Calls Gh.prog.{u} 39 #[.agg #[.int .i64 2,.slice (some ⟨b,c,none⟩) n cap]] w λe w'=>e=.returned (.tuple #[.string (eE (dC 2 l)),.nilIface])/\Below w.heap.size w w':=by have q:=am k;have r:=am m;clear k m;go_enter Gh.func39,Tryz.ntmps39;go_wp2_with fail;refine(CM b c cap n l _ f (ai q) h0 g (by simp;omega) (rT o (bH _ _) i)).mono ?_;rintro e j ⟨v,rfl,s,d⟩;rw[ai r]at s;obtain rfl:v=.nilIface:=s;have q0:j.cell? ⟨w.heap.size,0,none⟩=some (.int .i64 2):=(d.cell (p:=⟨w.heap.size,0,none⟩) (by simp)).trans (by simp);have q1:j.cell? ⟨w.heap.size,1,none⟩=some (.slice (some ⟨b,c,none⟩) n cap):=(d.cell (p:=⟨w.heap.size,1,none⟩) (by simp)).trans (by simp);have a:=jK d;clear d;go_wp2_with fail;refine(JB b c cap n l j f (ai q) g (cG i a.size) (ai r) (rT o a i)).mono ?_;rintro e x ⟨rfl,h⟩;have t:=a.trans (h.mono a.size);clear h a q0 q1;go_wp2;go_ret2;exact⟨rfl,t⟩
def Kg(a ao n cap l w x)(g:eJ a l=some x)(c:ig l)(h:l.length=n)(j:je w ao l):Calls Gh.prog.{u} 39 #[.agg #[.int .i64 a,.slice ao n cap]] w λe w'=> ∃v,e=.returned (.tuple #[.string (eE []),v])/\dU w' v (some x)/\Below w.heap.size w w':=by have k:=am g;have m:=am h;clear g h;go_enter Gh.func39,Tryz.ntmps39;go_wp2_with fail;refine(Ng a ao n cap l _ c (ai m) (va j (bH _ _))).mono ?_;rintro e p ⟨v,rfl,i,b⟩;rw[ai k]at i;obtain⟨bf,rfl,d,f⟩:=i;have o:=jK b;clear b;go_wp2;go_ret2;exact⟨_,rfl,⟨bf,rfl,d,f⟩,o⟩
def Ke(ao cap w):Calls Gh.prog.{u} 39 #[.agg #[.int .i64 1,.slice ao 0 cap]] w λe w'=>e=.returned (.tuple #[.string (eE ko),.nilIface])/\Below w.heap.size w w':=by go_enter Gh.func39,Tryz.ntmps39;go_wp2_with fail;refine(CK ao cap _).mono ?_;rintro e b ⟨rfl,a⟩;have q0:b.cell? ⟨w.heap.size,0,none⟩=some (.int .i64 1):=(a.cell (p:=⟨w.heap.size,0,none⟩) (by simp)).trans (by simp);have c:=jK a;clear a;go_wp2;go_ret2;exact⟨rfl,c⟩
def jM(a:Int)(l:List aT):List UInt8:=if (eJ a l).isSome then []else dC a l
def Eh{a l}(h:eJ a l=none):jM a l=dC a l:=by simp[jM,h]
def Kb(a ao n cap l w)(d:ig l)(i:l.length=n)(j:je w ao l):Calls Gh.prog.{u} 39 #[.agg #[.int .i64 a,.slice ao n cap]] w λe w'=> ∃v,e=.returned (.tuple #[.string (eE (jM a l)),v])/\dU w' v (eJ a l)/\Below w.heap.size w w':=by
 cases c:eJ a l with
 |some x=>rw[show jM a l=[]by simp[jM,c]];exact Kg a ao n cap l w x c d i j
 |none=>
  rw[show jM a l=dC a l by simp[jM,c]];have f:a=1/\l.length=0\/a=2/\0<l.length/\l.length<=25/\fj l 0=none:=by
   unfold eJ at c;split at c
   .simp at c
   .split at c
    .simp at c
    .by_cases p:a=1
     .left;omega
     .right;exact⟨by omega,by omega,by omega,c⟩
  obtain⟨rfl,h0⟩|⟨rfl,h0,m,o⟩:=f
  .have:n=0:=by omega
   subst this;refine(Ke ao cap w).mono ?_;rintro e w' ⟨rfl,g⟩;exact⟨_,by simp[dC],rfl,g⟩
  .rcases j with rfl|⟨b,h,rfl,k⟩
   .simp at h0
   .refine(Kh b h cap n l w d i (by omega) (by omega) (uY k h0) o k).mono ?_;rintro e w' ⟨rfl,g⟩;exact⟨_,rfl,rfl,g⟩
def UK(a ao n cap l w)(c:ig l)(d:l.length=n)(f:je w ao l):Calls Gh.prog.{u} 13 #[.agg #[.int .i64 a,.slice ao n cap]] w λe w'=> ∃v,e=.returned (.tuple #[.string (eE (jM a l)),v])/\dU w' v (eJ a l)/\Below w.heap.size w w':=by have g:=am d;clear d;go_enter Gh.func13,Tryz.ntmps13;go_wp2_with fail;refine(Kb a ao n cap l _ c (ai g) (va f (bH _ _))).mono ?_;rintro e j ⟨v,rfl,h,b⟩;have i:=jK b;clear b;go_wp2;go_ret2;exact⟨_,rfl,h,i⟩
end
section
universe u
open Go.RowKit
def ul{w:aa}{b o:Nat}{cs:Array af}{t:aA}{u:af}(h:w.heap[b]?=some (.cells cs t (0,0))):(w.setCell ⟨b,o,none⟩ u).heap[b]?=some (.cells (cs.setIfInBounds o u) t (0,0)):=by
 have a:=lt_of_block h;have c:w.heap[b]=.cells cs t (0,0):=by simpa[eF a]using h
 show(w.heap.modify b _)[b]?=_;rw[eF (by simpa using a),Array.getElem_modify_self,c];rfl
def RA{w:aa}{b o:Nat}{cs:Array af}{t:aA}(h:w.heap[b]?=some (.cells cs t (0,0))):w.frozen? ⟨b,o,none⟩=false:=by simp[World.frozen?,h]
def jj{w a:aa}{r:Option Nat}(h:w.grownBy a none):w.grownBy a r:=⟨h.os,h.tape,h.output,h.size,λk b _=>h.block k b (by simp)⟩
def gj(w:aa)(b o:Nat)(u:af):w.grownBy (w.setCell ⟨b,o,none⟩ u) (some b):=
 ⟨rfl,rfl,rfl,by simp[World.setCell],λk _ a=>Below.heap_setCell _ _ _ _ (by simpa using a)⟩
def E8{w a:aa}{r:Option Nat}(h:Below w.heap.size w a):w.grownBy a r:=⟨h.os,h.tape,h.output,h.size,λk b _=>h.block k b⟩
def MB{w w1:aa}{B b:Nat}(h:w.grownBy w1 (some b))(a:B<=w.heap.size)(c:B<=b):Below B w w1:=(Below.refl _ _).grown h a (by simp;omega)
def CD(w:aa){b g:Nat}(h:b≠g)(o c d e o3:Nat)(f i j k:af):((((w.setCell ⟨g,c,none⟩ f).setCell ⟨g,d,none⟩ i).setCell ⟨g,e,none⟩ j).setCell ⟨g,o3,none⟩ k).cell? ⟨b,o,none⟩=w.cell? ⟨b,o,none⟩:=
 World.cell?_of_block (a:=⟨b,o,none⟩) (((Below.heap_setCell _ _ _ _ h).trans (Below.heap_setCell _ _ _ _ h)).trans ((Below.heap_setCell _ _ _ _ h).trans (Below.heap_setCell _ _ _ _ h)))
def jf(e:aT):List af:=[.int .u32 e.addr,.int .i64 e.len,.int .i64 e.tag,.int .i64 e.met]
def eY(l:List aT):List af:=l.flatMap jf
def uZ(l:List aT):(eY l).length=l.length*4:=by
 induction l with
 |nil=>rfl
 |cons e r a=>simp[eY,jf]at a⊢;omega
def ze(l:List aT)(k:Nat)(b:k<l.length):(eY l)[k*4]?=some (.int .u32 l[k].addr)/\(eY l)[k*4+1]?=some (.int .i64 l[k].len)/\(eY l)[k*4+2]?=some (.int .i64 l[k].tag)/\(eY l)[k*4+3]?=some (.int .i64 l[k].met):=by
 induction l generalizing k with
 |nil=>simp at b
 |cons e r d=>
  cases k with
  |zero=>simp[eY,jf]
  |succ k=>
   have h:=d k (by simpa using b);have a:∀j,(eY (e::r))[(k+1)*4+j]?=(eY r)[k*4+j]? :=λj=>by rw[show eY (e::r)=jf e++eY r by simp[eY],a6g (by simp[jf];omega)];congr 1;simp[jf];omega
   have c:=a 0;simp only[m6]at c;rw[c,a 1,a 2,a 3];simpa using h
def yu(cur:Array af)(o:Nat)(e:aT):Prop:=cur[o]?=some (.int .u32 e.addr)/\cur[o+1]?=some (.int .i64 e.len)/\cur[o+2]?=some (.int .i64 e.tag)/\cur[o+3]?=some (.int .i64 e.met)
def yx(w:aa)(g:Nat)(L:List aT):Prop:=∃a,w.heap[g]?=some (.cells a 42 (0,0))/\a.toList.take (L.length*4)=eY L
def yy{w:aa}{base g n cap:Nat}{L:List aT}(h:w.ownsRow base 42 4 (.slice (some ⟨g,0,none⟩) n cap) n (eY L)):yx w g L:=by
 obtain⟨d,e⟩:=h;obtain⟨a,_⟩|⟨j,c,b,a,_,f,_,_,_,i⟩:=e
 .simp at a
 .simp at a;obtain⟨rfl,rfl⟩:=a;rw[uZ]at d;exact⟨b,f,by rw[show L.length*4=n*4 by omega];exact i⟩
def C3{w:aa}{g:Nat}{L:List aT}(h:yx w g L):kW w g 0 L:=by
 obtain⟨b,c,d⟩:=h;intro k e;obtain⟨f,c1,c2,i⟩:=ze L k e;have a:∀j,j<L.length*4->w.cell? ⟨g,0+j,none⟩=(eY L)[j]? :=λj l=>by rw[dG,cell_of_row w g j b _ _ c,<-d,a6s,if_pos l];simp
 refine⟨?_,?_,?_,?_⟩
 .rw[a _ (by omega)];exact f
 .rw[lG,a _ (by omega)];exact c1
 .rw[lG,a _ (by omega)];exact c2
 .rw[lG,a _ (by omega)];exact i
def NT{w:aa}{g:Nat}{L:List aT}(h:yx w g L):g<w.heap.size:=by obtain⟨a,b,_⟩:=h;exact lt_of_block b
theorem Gh.Fi:(Gh.prog.{u}.info? 42).map (λi=>(i.zero,i.size,i.bytes))=some (some (.agg #[.int .u32 0,.int .i64 0,.int .i64 0,.int .i64 0]),4,32):=by kernel_rfl
theorem Gh.Ac:(Gh.prog.{u}.info? 3).map (λi=>(i.zero,i.size,i.bytes))=some (some (.int .i64 0),1,8):=by kernel_rfl
end
end Go.Proofs.q
end
