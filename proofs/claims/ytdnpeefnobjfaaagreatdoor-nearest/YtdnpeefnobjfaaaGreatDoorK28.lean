import Derived.Test.YtdnpeefnobjfaaaGreatDoorK24
import Derived.Test.YtdnpeefnobjfaaaGreatDoorK27
set_option maxRecDepth 100000
set_option maxHeartbeats 4000000
set_option linter.all false
section
namespace Go.Proofs.q
open Go.RowKit
def JD{n}(h0:0<n)(h:n<=25):aY n=1:=by unfold aY;omega
def Jo{L}(a:aY L.length=1)(i):ft L i=[.int .i64 (i:Int),ig (cT (i:Int) L) 0]:=by simp[ft,mL,a,pL]
def Jp(N L):jI (N+1) L=jI N L++ft L N:=by simp[jI,pL]
theorem yP{L}(a:aY L.length=1):∀N,(jI N L).length=N*2
 |0=>rfl
 |N+1=>by rw[Jp,iN,yP a N,Jo a];simp;omega
theorem CM{L}(a:aY L.length=1):∀N i,i<N->∀j,j<2->(jI N L)[i*2+j]?=([.int .i64 (i:Int),ig (cT (i:Int) L) 0]:List aj)[j]?
 |0,i,b,_,_=>a9h
 |N+1,i,b,j,c=>by
  rw[Jp];by_cases h:i<N
  .rw[a9S (by rw[yP a];omega)];exact CM a N i h j c
  .obtain rfl:i=N:=a9h
   rw[a9P (by rw[yP a];omega),yP a,Jo a];congr 1;omega
def a0y{l}(h:l.length<=25):ig l 0=.string (jd (eF 2 l)):=by unfold ig a9r;rw[Nat.mul_zero,b1H,a9R h]
theorem Hb:∀{l} {k},(∀e∈l,fE e=0)->gM l k=none
 |[],_,_=>rfl
 |e::l,k,h=>by unfold gM;rw[if_pos (h e a9i)];exact Hb λx a=>h x (by simp[a])
def VF{L}(c:jb L)(h0:0<L.length)(h:L.length<=25)(i):oR 2 (cT i L)=none/\sf (cT i L):=by
 have d:(cT i L).length=L.length:=by simp[cT]
 have a:∀e∈cT i L,fE e=0/\0<=e.addr/\e.addr<4294967296:=by
  intro e b;obtain⟨r,f,rfl⟩:=eS.1 b;obtain⟨g,j,k,l⟩:=c r f;refine⟨?_,g⟩;unfold fE dV;dsimp only;rw[j,k];have:fH (if r.an=i then 16 else r.met)=true:=by split<;>first|rfl|exact l
  simp[this]
 refine⟨?_,λe b=>(a e b).2⟩;unfold oR;rw[if_neg a9i,if_neg (by rw[d];omega)];exact Hb λe b=>(a e b).1
def S0{l}(h:l.length<=25):(jd (eF 2 l)).size<=9223372036854775807:=by have:=xY l;simp[DM,eF,this];omega
def a2s(L k)(b:k<L.length)(i)(d:i<5):(lC L)[k*5+i]?=(mi L[k])[i]? :=by
 induction L generalizing k with
 |nil=>simp at b
 |cons r L c=>
  have a:(mi r).length=5:=rfl;cases k with
  |zero=>simp only[b1P,dC,lC,kJ,a9Q];exact a9S a9h
  |succ k=>have:=c k (by simpa using b);simp only[lC,kJ,b0K]at this⊢;rw[a9P a9h,a,<-this];congr 1;omega
end Go.Proofs.q
end
section
namespace Go.Proofs.q
universe u
def wD(P:aA)(h:Code)(N Rt:Act->aa->Prop)(c:Code)(a:Act)(w:aa):Prop:=
 ∀(b:ah) (k:List Item) (e:List ah),∃f g,(N f g/\Steps P (lone (b.at a (.code c::k)) e w) (lone (b.at f (.code h::k)) e g))\/(Rt f g/\∃d,Steps P (lone (b.at a (.code c::k)) e w) (lone {b.at f d with mode:=.returning} e g))
def Qp{P b N Rt a w}(h:N a w):wD P b N Rt b a w:=
 λ_ _ _=>⟨a,w,.inl ⟨h,.refl _ _⟩⟩
def xm{P g x y N Rt a w}(h:x.wp P (Exit.then (wD P g N Rt y) λe a w=>e=.ret/\Rt a w) a w):wD P g N Rt (.seq x y) a w:=by
 intro b k n;obtain⟨e,a1,p,f,j⟩:=h b (.code y::k) n;cases e with
 |normal=>
  obtain⟨a2,o,⟨q,i⟩|⟨r,d,i⟩⟩:=f b k n
  .exact⟨a2,o,.inl ⟨q,(Steps.head step_seq j).trans i⟩⟩
  .exact⟨a2,o,.inr ⟨r,d,(Steps.head step_seq j).trans i⟩⟩
 |ret=>obtain⟨d,i⟩:=j;exact⟨a1,p,.inr ⟨f.2,d,.head step_seq i⟩⟩
 |exit id=>cases f.1
 |goto l=>cases f.1
 |panic c=>cases f.1
 |outgrown=>cases f.1
end Go.Proofs.q
end
