import Derived.Test.YtdnpeefnobjfaaaGreatDoorK33
set_option maxRecDepth 100000
set_option maxHeartbeats 4000000
set_option linter.all false
section
namespace Go.Mir
open Go Go.Conc Go.Extern
def GI{P f fn e args Q}(c:P.funcs[f]?=some fn)(a:(fn.name== "runtime.NumGoroutine")=false)(d:fn.body.isNone=true)(g:Extern.findNext fn=none)(i:Extern.find fn=some e)(h:NP P Q (e args)):NP P (λn=> ∃x,n=.value x/\Q x) (callFunc f args):=by change NP P _ (match P.funcs[f]? with|none=>_|some fn=>_);rw[c];dsimp only;simp only[a,d,g,i,dj,if_false,if_true];have b:=NP.bind (P:=P) (Q:=Q) (R:=λn:Next=> ∃x,n=.value x/\Q x) (f:=λx=>(Sem.pure (.value x):Sem Next)) (λx j=>(⟨x,rfl,j⟩:∃y,Next.value x=.value y/\Q y)) h;exact b
def GP{P}(r):NP P (λ_=>True) (viewAt r):=by
 intro s;cases s with
 |some q=>trivial
 |none=>intro o;cases o<;>trivial
theorem GH{P}(f:Nat->ap):∀l:List Nat,NP P (λ_=>True) (l.anyM λi=>frozen (f i))
 |[]=>trivial
 |x::l=>by
  intro b;cases b with
  |true=>trivial
  |false=>exact GH f l
def GN{P}(t):NP P (λ_=>True) (typeInfo t):=by unfold typeInfo;refine NP.bind (Q:=λ_=>True) (s:=program) (λp _=>?_) trivial;split<;>trivial
def Xo{P}(a):NP P (λ_=>True) (Atomic.touchesFrozen a):=by
 refine NP.bind (Q:=λ_=>True) (λo _=>?_) (GP _);cases o with
 |none=>intro b;trivial
 |some q=>
  dsimp only;refine NP.bind (Q:=λ_=>True) (λi _=>?_) (GN q.2);split
  .trivial
  .exact GH _ _
def GL{P}(a):NP P (λv=> ∃n,v=.int .i32 n) (Atomic.read (.int .i32) a):=by
 intro v;cases v<;>try trivial
 .rename_i k n;cases k<;>first|trivial|exact⟨n,rfl⟩
 .rename_i p;cases p<;>trivial
def Xk{P}(a):NP P (λx=> ∃B,x=.bool B) (Atomic.casT (.int .i32) #[.pointer (some a),.int .i32 0,.int .i32 1]):=by
 refine NP.bind (Q:=λx=>x=a) (λx b=>?_) (show NP P (λx=>x=a) (asAddr (.pointer (some a)))from rfl);subst b;refine NP.bind (Q:=λ_=>True) (λq _=>?_) (Xo x);cases q with
 |true=>trivial
 |false=>
  refine NP.bind (λv c=>?_) (GL x);obtain⟨n,rfl⟩:=c;dsimp only;refine NP.bind (Q:=λ_=>True) (s:=pure (n==0)) (λe _=>?_) trivial;cases e with
  |true=>exact⟨true,rfl⟩
  |false=>exact⟨false,rfl⟩
def Xj{P}(a):NP P (λx=> ∃n,x=.int .i32 n) (Atomic.update (Op.intArith .add) .i32 true #[.pointer (some a),.int .i32 (-1)]):=by refine NP.bind (Q:=λx=>x=a) (λx b=>?_) (show NP P (λx=>x=a) (asAddr (.pointer (some a)))from rfl);subst b;refine NP.bind (λv c=>?_) (GL x);obtain⟨n,rfl⟩:=c;exact⟨_,rfl⟩
def Xn{P}(a):NP P (λ_=>True) (Conv.seenAt a):=by
 refine NP.bind (Q:=λ_=>True) (λo _=>?_) (GP _);cases o with
 |none=>trivial
 |some q=>
  dsimp only;split
  .trivial
  .split
   .trivial
   .refine NP.bind (Q:=λ_=>True) (s:=program) (λp _=>?_) trivial;split
    .intro z;cases z with
     |none=>trivial
     |some z=>
      simp only[Sem.bind];split
      .trivial
      .split<;>trivial
    .trivial
def Xl{P}(r):NP P (λ_=>True) (cellsIn r):=by
 intro s;cases s with
 |some q=>trivial
 |none=>intro o;cases o<;>trivial
def GM{P}(t):NP P (λ_=>True) (sizeOf t):=by unfold sizeOf;refine NP.bind (Q:=λ_=>True) (λp _=>?_) (GN _);trivial
def wC{P t d}(h:P.underlying t=some d):NP P (λx=>x=d) (underlying t):=by unfold underlying;refine NP.bind (Q:=λp=>p=P) (s:=program) (λp a=>?_) rfl;subst a;rw[h];rfl
def GJ{P src dst t}(f:P.underlying src=some (.pointer t))(g:P.underlying dst=some .unsafePointer)(a):NP P (λx=> ∃b,x=.pointer (some b)) (convert src dst (.pointer (some a))):=by
 unfold convert;refine NP.bind (λx d=>?_) (wC f);subst d;refine NP.bind (λx d=>?_) (wC g);subst d;dsimp only;unfold Conv.unsafePointer;refine NP.bind (λx d=>?_) (wC f);subst d;refine NP.bind (λx d=>?_) (wC g);subst d;dsimp only;refine NP.bind (Q:=λ_=>True) (λs _=>?_) (Xn a);refine NP.bind (Q:=λ_=>True) (λn _=>?_) (Xl _);refine NP.bind (Q:=λ_=>True) (λz _=>?_) (GM _);have e:∀c:Bool,NP P (λx=> ∃b,x=.pointer (some b)) (if c=true then (do pure (.pointer (some ⟨<-newObj (.view s t),0,none⟩)):Sem af)else pure (.pointer (some s))):=by
  intro c;cases c with
  |true=>intro r;exact(⟨_,rfl⟩:∃b,Value.pointer (some ⟨r,0,none⟩)=.pointer (some b))
  |false=>exact(⟨_,rfl⟩:∃b,Value.pointer (some s)=.pointer (some b))
 exact e _
end Go.Mir
end
