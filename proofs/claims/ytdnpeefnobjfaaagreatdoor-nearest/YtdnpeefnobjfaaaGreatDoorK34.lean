import Derived.Test.YtdnpeefnobjfaaaGreatDoorK07
import Derived.Test.YtdnpeefnobjfaaaGreatDoorK09
set_option maxRecDepth 100000
set_option maxHeartbeats 4000000
set_option linter.all false
section
namespace Go.Mir
open Go.Extern
variable{T:Tables}{F F':Array Func}{f:Nat->Nat}
def a7p:nk T F F' Atomic.storeT:=by
 intro f h d;obtain⟨_|⟨a,_|⟨b,_|⟨c,l⟩⟩⟩⟩:=d<;>simp<;>try exact aC _ _
 apply(nI h a).bind;rintro x _ rfl;apply(uF .atomic x b).bind;rintro _ _ _;exact ax (by simp[aN,Atomic.none_])
def a7n:nk T F F' (Atomic.loadT .ptr):=by
 intro f h c;obtain⟨_|⟨a,_|⟨b,l⟩⟩⟩:=c<;>simp<;>try exact aC _ _
 apply(nI h a).bind;rintro x _ rfl;apply(xK .atomic x).bind;rintro v _ rfl;cases v<;>simp<;>first|exact aV _ _|exact ax aZ
variable{T:Tables}{F F':Array Func}{f:Nat->Nat}
def a7o(o r):nk T F F' (SlicesOverlaps.overlaps o r):=by
 intro f h i;obtain⟨_|⟨v,_|⟨x,_|⟨c,l⟩⟩⟩⟩:=i<;>simp<;>try exact(by first|exact aC _ _|(unfold SlicesOverlaps.overlaps;exact aC _ _))
 cases v<;>simp<;>try exact aC _ _
 rename_i a p u;cases x<;>simp<;>try exact aC _ _
 rename_i b q w;unfold SlicesOverlaps.overlaps;cases o[0]? with
 |none=>exact aC _ _
 |some t=>
 apply(cm t).bind;rintro d _ rfl;cases d<;>try exact aC _ _
 rename_i j;apply(ga j).bind;rintro e _ rfl;cases a with
 |none=>cases b<;>exact ax aZ
 |some a=>
 cases b with
 |none=>exact ax aZ
 |some b=>
 simp only[bY];have s:=rL h a.block b.block;refine bk bq (λ_=>ax aZ) λ_=>?_;have k:((aG f a).block !=(aG f b).block)=(a.block !=b.block):=by grind[zk]
 have g:SE T F F' f (aN (al f)) (pure (.bool (a.block==b.block&&decide (a.off<b.off+q*e)&&decide (b.off<a.off+p*e)))) (pure (.bool ((aG f a).block==(aG f b).block&&decide ((aG f a).off<(aG f b).off+q*e)&&decide ((aG f b).off<(aG f a).off+p*e)))):=by
  grind[ax,aN,Dd,sW]
 apply(nJ a).bind;rintro x _ rfl;apply(nJ b).bind;rintro y _ rfl;refine bk (by rw[k]) (λ_=>pn rfl _) λ_=>?_;refine bk (by rw[k]) (λ_=>?_) λ_=>g;apply(uC a).bind;rintro _ _ _;apply(uC b).bind;rintro _ _ _;apply(FW a b).bind;rintro m _ rfl;refine bk bq (λ_=>?_) λ_=>g;apply(jl _).bind;rintro n _ rfl;exact ax aZ
end Go.Mir
end
section
namespace Go.Mir
open Go Go.Extern
variable{T:Tables}{F F':Array Func}{f:Nat->Nat}
theorem FH(at_):∀(l:List Nat),SE T F F' f Eq (l.anyM λi=>frozen {at_ with off:=at_.off+i,spot:=none}) (l.anyM λi=>frozen {aG f at_ with off:=(aG f at_).off+i,spot:=none})
 |[]=>ax rfl
 |x::l=>by
  apply aB.bind (nJ {at_ with off:=at_.off+x,spot:=none});rintro b _ rfl;cases b with
  |true=>exact ax rfl
  |false=>exact FH at_ l
def SH(a):SE T F F' f Eq (Atomic.touchesFrozen a) (Atomic.touchesFrozen (aG f a)):=by
 apply(xR a.block).bind;rintro o _ rfl;cases o with
 |none=>exact nJ a
 |some q=>
  apply(gd q.2).bind;rintro i _ rfl;dsimp only;split
  .exact pn rfl _
  .exact FH q.1 _
def Ga(k)(b:k≠.u64)(a):SE T F F' f (λv c=>c=v/\∃n,v=.int k n) (Atomic.read (.int k) a) (Atomic.read (.int k) (aG f a)):=by
 apply(xK .atomic a).bind;rintro v _ rfl;cases v<;>simp
 case int d n=>
  by_cases h:k=d
  .subst h;simp;exact ax ⟨rfl,n,rfl⟩
  .simp[h];exact aV _ _
 case pointer p=>
  cases p with
  |none=>cases k<;>first|exact aV _ _|exact absurd rfl b
  |some p=>cases k<;>first|exact aV _ _|simp_all
 all_goals(cases k<;>exact aV _ _)
def a7m:nk T F F' (Atomic.casT (.int .i32)):=by
 intro f h g;obtain⟨_|⟨a,_|⟨b,_|⟨c,_|⟨d,l⟩⟩⟩⟩⟩:=g<;>simp<;>try exact aC _ _
 apply(nI h a).bind;rintro x _ rfl;apply(SH x).bind;rintro q _ rfl;cases q with
 |true=>exact aV _ _
 |false=>
  apply(Ga .i32 a9j x).bind;rintro v _ ⟨rfl,n,rfl⟩;cases b<;>simp only[lu]<;>try exact aC _ _
  case int k m=>
   apply aB.bind (R:=Eq) (ax rfl);rintro e _ rfl;cases e with
   |true=>apply(uF .atomic x c).bind;rintro _ _ _;exact ax aZ
   |false=>exact ax aZ
  case pointer p=>
   cases p with
   |none=>exact aC _ _
   |some p=>
    obtain(_|n)|n:=n
    .apply aB.bind (R:=Eq) (ax rfl);rintro e _ rfl;cases e with
     |true=>apply(uF .atomic x c).bind;rintro _ _ _;exact ax aZ
     |false=>exact ax aZ
    .exact pn rfl _
    .exact pn rfl _
def a7l:nk T F F' (Atomic.update (Op.intArith .add) .i32 true):=by
 intro f h d;obtain⟨_|⟨a,_|⟨b,_|⟨c,l⟩⟩⟩⟩:=d<;>simp<;>try exact aC _ _
 apply(nI h a).bind;rintro x _ rfl;apply(Ga .i32 a9j x).bind;rintro v _ ⟨rfl,n,rfl⟩;have e:SE T F F' f Eq (asInt (.int .i32 n)) (asInt (.int .i32 n)):=by
  have:=rX (T:=T) (F:=F) (F':=F') (f:=f) (.int .i32 n)
  rwa [jL]at this
 apply e.bind;rintro i _ rfl;apply(rX b).bind;rintro j _ rfl;apply(Bd .add .i32 i j).bind;rintro v _ rfl;apply(uF .atomic x v).bind;rintro _ _ _;exact ax aZ
end Go.Mir
end
section
namespace Go.Mir
def kQ(T:Tables)(F F':Array Func)(E:bW->Prop)(g:bW):Prop:=∀fn,F[g]?=some fn->∃m,F'[g]?=some m/\m.results=fn.results/\m.norace=fn.norace/\(fn.name== "runtime.NumGoroutine")=false/\(m.name== "runtime.NumGoroutine")=false/\
 ((
  ∃c d,fn.body=some c/\m.body=some d/\cF T.globals.size c=true/\(¬E g->m=fn))\/
  (fn.body=none/\m=fn/\Extern.findNext fn=none/\∃e,Extern.find fn=some e/\(∀b f,nk T b f e)/\∀b a,NF ⟨T,b⟩ (e a))\/
  (fn.body=none/\m.body=none/\Extern.findNext fn=none/\Extern.find fn=none/\(fn.name.endsWith ".init" && !fn.name.startsWith "(" && !fn.name.startsWith "gosem.")=false))
variable{T:Tables}{F F':Array Func}{E:bW->Prop}{g:bW}{fn m:Func}
def a5u(h:F[g]?=some fn)(f:F'[g]?=some fn)(a:(fn.body.any (cF T.globals.size)&& !(fn.name== "runtime.NumGoroutine"))=true):kQ T F F' E g:=by
 intro x b;obtain rfl:fn=x:=db (h.symm.trans b);simp only[eO,pH]at a;obtain⟨d,i⟩:=a;cases e:fn.body with
 |none=>simp_all
 |some c=>rw[e]at d;simp_all
def zZ(h:F[g]?=some fn)(j:F'[g]?=some m)(k:E g)(l:m.results=fn.results)(n:m.norace=fn.norace)(a:(fn.body.any (cF T.globals.size)&&m.body.isSome&& !(fn.name== "runtime.NumGoroutine")&& !(m.name== "runtime.NumGoroutine"))=true):kQ T F F' E g:=by
 intro x b;obtain rfl:fn=x:=db (h.symm.trans b);simp only[eO,pH]at a;obtain⟨⟨⟨d,e⟩,o⟩,p⟩:=a;obtain⟨q,f⟩:=Option.isSome_iff_exists.1 e;cases i:fn.body with
 |none=>simp_all
 |some c=>rw[i]at d;simp_all
def wl{e}(h:F[g]?=some fn)(f:F'[g]?=some fn)(i:(fn.body.isNone&& !(fn.name== "runtime.NumGoroutine"))=true)(j:Extern.findNext fn=none)(k:Extern.find fn=some e)(l:∀b c,nk T b c e)(n:∀b a,NF ⟨T,b⟩ (e a)):kQ T F F' E g:=by intro x d;simp_all
theorem Xf:Extern.allGenericRows.lookup "-" =none:=by kernel_rfl
theorem Xn:Extern.allTypedRows.lookup "-" =none:=by kernel_rfl
theorem Xl:Extern.allRows.lookup "-" =none:=by kernel_rfl
theorem Xi:Extern.allNextRows.lookup "-" =none:=by kernel_rfl
def TW(fn):Extern.find (lS fn)=none:=by
 grind[Extern.find,lS,Xf,Xn,Xl]
def Yh(fn):Extern.findNext (lS fn)=none:=by
 grind[Extern.findNext,lS,Xi]
def a5t(h:F[g]?=some (lS fn))(b:F'[g]?=some fn)(a:(fn.body.isNone&& !(fn.name== "runtime.NumGoroutine"))=true)(c:Extern.find (lS fn)=none)(d:Extern.findNext (lS fn)=none):kQ T F F' E g:=by intro x e;obtain rfl:lS fn=x:=db (h.symm.trans e);simp only[eO,pH]at a;obtain⟨i,f⟩:=a;exact⟨fn,b,rfl,rfl,a9k,f,.inr (.inr ⟨by simp_all[lS],by simp_all,d,c,a9k⟩)⟩
def kQ.ml(h:kQ T F F' E g)(fn)(a:F[g]?=some fn):∃m,F'[g]?=some m/\m.results=fn.results/\m.norace=fn.norace/\(fn.name== "runtime.NumGoroutine")=false/\(m.name== "runtime.NumGoroutine")=false/\((∃c b,fn.body=some c/\m.body=some b/\cF T.globals.size c=true/\(¬E g->m=fn))\/(fn.body=none/\m=fn/\Extern.findNext fn=none/\∃e,Extern.find fn=some e/\nk T F F' e)\/(fn.body=none/\m.body=none/\Extern.findNext fn=none/\Extern.find fn=none/\(fn.name.endsWith ".init" && !fn.name.startsWith "(" && !fn.name.startsWith "gosem.")=false)):=by
 obtain⟨m,d,f,i,j,k,l⟩:=h fn a
 grind
def kQ.self(h:kQ T F F' E g):kQ T F F (λ_=>False) g:=by
 intro fn a;obtain⟨m,b,c,d,e,f,i⟩:=h fn a
 grind
def kQ.ext(h:kQ T F F' E g){fn e}(b:F[g]?=some fn)(d:fn.body=none)(f:Extern.find fn=some e)(c a):NF ⟨T,c⟩ (e a):=by obtain⟨m,i,j,k,l,n,o⟩:=h fn b;simp_all
def qe:Nat->aj->Bool
 |0,_=>false
 |n+1,v=>match v with
  | .pointer a=>a.isNone
  | .slice a _ _=>a.isNone
  | .map r=>r.isNone
  | .chan r=>r.isNone
  | .func .. =>false
  | .iface .. =>false
  | .tuple b=>b.all (qe n)
  | .agg b=>b.all (qe n)
  |_=>true
theorem wT{cs}(h:∀x∈cs,bg x=true):bg (.agg cs)=true:=by
 grind[bg]
def a5i{cs}(h:∀x∈cs,bg x=true):bg (.tuple cs)=true:=by
 grind[bg]
theorem BF:∀n v,qe n v=true->bg v=true
 |0,_,h=>by simp[qe]at h
 |n+1,v,h=>by
  cases v<;>simp only[qe,d8]at h<;>first|(simp only[bg];done)|(simp only[bg];exact h)|skip
  .refine wT λx a=>BF n x ?_;obtain⟨i,b,rfl⟩:=fT.1 a;simp_all
  .refine a5i λx a=>BF n x ?_;obtain⟨i,b,rfl⟩:=fT.1 a;simp_all
def EW{v}(h:bg v=true):∀x∈v.cells,bg x=true:=by
 intro x a;cases v<;>simp only[Value.cells]at a<;>try(simp only[lI,fM]at a;subst a;exact h)
 simp only[bg,oq]at h;obtain⟨i,b,rfl⟩:=fT.1 a;have:=h i (by simp_all);simp_all
def nr(i:TypeInfo):Prop:=∀v,i.zero=some v->bg v=true
theorem tR{d s z c b}(h:bg z=true):nr (Made.word d s z c b):=by intro v a;obtain rfl:=db a;exact h
def a4b{β:Type}(I:β->Prop):ForInStep β->Prop
 | .yield b=>I b
 | .done b=>I b
theorem Hc{α β:Type}(I){body}(e:∀a b r,I b->body a b=some r->a4b I r):∀(l:List α) (c r:β),I c->forIn l c body=some r->I r
 |[],c,r,h0,h=>by simp_all
 |a::l,c,r,h0,h=>by
  rw[List.forIn_cons]at h;cases d:body a c with
  |none=>rw[d]at h;simp_all
  |some x=>
   rw[d]at h;have f:=e a c x h0 d;cases x with
   |done b=>obtain rfl:=db h;exact f
   |yield b=>exact Hc I e l b r f h
theorem a4m{e}(A:∀t i,e t=some i->nr i){o i}(h:Made.reckonStruct e o=some i):nr i:=by
 unfold Made.reckonStruct at h;dsimp only at h;rw[b0e,a9O]at h;obtain⟨s,p,h⟩:=h;rw[<-m6]at p;have k:=Hc (λs:Array Field×Nat×Nat×Nat×Nat×Bool×Bool×Option (Array aj)×String=> ∀a,s.2.2.2.2.2.2.2.1=some a->∀x∈a,bg x=true) ?_ o.toList _ s ?_ p
 .have fin:∀j:TypeInfo,j.zero=Option.map Value.agg s.2.2.2.2.2.2.2.1->nr j:=by intro j B v u;rw[B]at u;obtain⟨a,d,rfl⟩:=gn.1 u;exact wT (k a d)
  split at h
  .obtain rfl:=db h;exact fin _ rfl
  .obtain rfl:=db h;exact fin _ rfl
 .intro f b r C c;rw[b0e,a9O]at c;obtain⟨w,l,c⟩:=c;have fin:∀(x:Array Field×Nat×Nat×Nat×Nat×Bool×Bool×Option (Array aj)×String),x.2.2.2.2.2.2.2.1=(if b.2.1+w.size>Made.mostCells then none else do
    let z<-b.2.2.2.2.2.2.2.1;let y<-w.zero
    pure (z++y.cells))->∀a,x.2.2.2.2.2.2.2.1=some a->∀y∈a,bg y=true:=by
   intro x n a d y g;rw[n]at d;split at d
   .exact absurd d a9i
   .rw[b0e,a9O]at d;obtain⟨z,D,d⟩:=d;rw[b0e,a9O]at d;obtain⟨q,E,d⟩:=d;obtain rfl:=db d;obtain g|g:=ot.1 g
    .exact C z D y g
    .exact EW (A _ _ l q E) y g
  split at c
  .exact absurd c a9i
  .split at c
   .exact absurd c a9i
   .split at c
    .split at c
     .obtain rfl:=db c;exact fin _ rfl
     .obtain rfl:=db c;exact fin _ rfl
    .rw[b0e,a9O]at c;obtain⟨F,_,c⟩:=c;split at c
     .obtain rfl:=db c;exact fin _ rfl
     .obtain rfl:=db c;exact fin _ rfl
 .intro a d x n;obtain rfl:=db d;simp at n
def jw{α β:Type}{o:Option α}{k}{b:β}(h:(o>>=k)=some b):∃a,o=some a/\k a=some b:=by simp_all;exact a9O.1 h
def a1q{a}(g:∀t i,a t=some i->nr i){d i}(h:Made.reckon a d=some i):nr i:=by
 cases d<;>simp only[Made.reckon,reduceCtorEq]at h
 case pointer e=>
  obtain⟨x,_,h⟩:=jw h;split at h
  .simp_all
  .split at h
   .simp_all
   .obtain⟨_,_,h⟩:=jw h;obtain rfl:=db h
    grind[tR,bg]
  .obtain⟨_,_,h⟩:=jw h;obtain rfl:=db h
   grind[tR,bg]
 case slice e=>
  obtain⟨_,_,h⟩:=jw h;obtain⟨_,_,h⟩:=jw h;obtain rfl:=db h
  grind[tR,bg]
 case map k e=>
  obtain⟨_,_,h⟩:=jw h;obtain⟨_,_,h⟩:=jw h;obtain⟨_,_,h⟩:=jw h;obtain⟨_,_,h⟩:=jw h;obtain rfl:=db h
  grind[tR,bg]
 case chan j e=>
  obtain⟨_,_,h⟩:=jw h;obtain⟨_,_,h⟩:=jw h;obtain rfl:=db h
  grind[tR,bg]
 case func p q v=>
  obtain⟨_,_,h⟩:=jw h;obtain rfl:=db h
  grind[tR,bg]
 case array n e=>
  obtain⟨x,l,h⟩:=jw h;obtain⟨_,_,h⟩:=jw h;obtain rfl:=db h;intro v b;dsimp at b;split at b
  .simp_all
  .split at b
   .obtain rfl:=db b
    grind[wT]
   .obtain⟨z,o,rfl⟩:=gn.1 b;refine wT λy c=>?_;obtain⟨r,f,c⟩:=Array.mem_flatten.1 c;obtain rfl:=(Array.mem_replicate.1 f).2;exact EW (g _ _ l z o) y c
 grind[a4m]
theorem Hy{T}(a:∀(t:Nat) i,T.types[t]?=some i->nr i):∀n t i,Made.infoAt T n t=some i->nr i
 |0,_,_,h=>by simp[Made.infoAt]at h
 |n+1,t,i,h=>by
  unfold Made.infoAt at h;split at h
  .exact a t i h
  .obtain⟨d,_,h⟩:=a9O.1 h;exact a1q (Hy a n) h
def Mg{T:Tables}(h:(T.types.all λi=>i.zero.all (qe 9))=true):∀t i v,T.info? t=some i->i.zero=some v->bg v=true:=by
 have d:∀(t:Nat) i,T.types[t]?=some i->nr i:=by
  intro t i a v b;obtain⟨c,rfl⟩:=bz.1 a;have:=oq.1 h t c;rw[b]at this
  grind[BF]
 intro t i v a b;unfold Tables.info? at a;split at a
 .exact d t i a v b
 .exact Hy d _ t i a v b
end Go.Mir
end
section
namespace Go.Mir
open Go.Proofs
def ln(g:bW):Prop:=g=106\/g=144\/g=145\/g=154
abbrev mC.{u}(g:Nat):Prop:=kQ Tryz.progTables Gh.funcs.{u} Tryz.funcs ln g
def a5r:mC 79:=wl Gh.func79 Tryz.func79 a9k a9k a9k (λ_ _=>a7p) (λ_=>ZE)
def a5j:mC 101:=wl Gh.func101 Tryz.func101 a9k a9k a9k (λ_ _=>a7n) (λ_=>ZD)
def a5v(b:Bool):((Gh.AG b).body.any (cF Tryz.progTables.globals.size)&&Tryz.f106.body.isSome&& !((Gh.AG b).name== "runtime.NumGoroutine")&& !(Tryz.f106.name== "runtime.NumGoroutine"))=true:=by cases b<;>kernel_rfl
def a5k:mC 106:=zZ Gh.funcU106 Tryz.func106 (by simp[ln]) rfl rfl (a5v _)
def a5w(b:Bool):((Gh.AH b).body.any (cF Tryz.progTables.globals.size)&&Tryz.f144.body.isSome&& !((Gh.AH b).name== "runtime.NumGoroutine")&& !(Tryz.f144.name== "runtime.NumGoroutine"))=true:=by cases b<;>kernel_rfl
def a5l:mC 144:=zZ Gh.funcU144 Tryz.func144 (by simp[ln]) rfl rfl (a5w _)
def a5x(b:Bool):((Gh.AI b).body.any (cF Tryz.progTables.globals.size)&&Tryz.f145.body.isSome&& !((Gh.AI b).name== "runtime.NumGoroutine")&& !(Tryz.f145.name== "runtime.NumGoroutine"))=true:=by cases b<;>kernel_rfl
def a5m:mC 145:=zZ Gh.funcU145 Tryz.func145 (by simp[ln]) rfl rfl (a5x _)
def a5n:mC 154:=zZ Gh.func154 Tryz.func154 (by simp[ln]) rfl rfl a9k
def a5o:mC 185:=wl Gh.func185 Tryz.func185 a9k a9k a9k (λ_ _=>a7m) (λ_=>ZC)
def a5p:mC 190:=wl Gh.func190 Tryz.func190 a9k a9k a9k (λ_ _=>a7l) (λ_=>ZB)
def a5q:mC 194:=wl Gh.func194 Tryz.func194 a9k a9k a9k (λ_ _=>a7o Tryz.f194.params Tryz.f194.resultTypes) (λ_=>a4Q _ _)
def zQ:List Nat:=[79,101,106,144,145,154,185,190,194]
def DW(G i:Nat)(f:Func):Bool:=zQ.contains i|| !(f.name== "runtime.NumGoroutine")&&bif Nat.testBit 31082642989949766928876180982130683149442758873666829327113535165587683239064120590339 i then f.body.isNone else f.body.any (cF G)
def DX(G:Nat):Nat->List Func->Bool
 |_,[]=>true
 |i,f::l=>DW G i f&&DX G (i+1) l
theorem LK{G:Nat}:∀{l:List Func} {i k:Nat} {f:Func},DX G i l=true->l[k]?=some f->DW G (i+k) f=true
 |x::l,i,0,f,h,e=>by
  obtain rfl:x=f:=by simpa using e
  exact(eO _ _▸h).1
 |x::l,i,k+1,f,h,e=>by
  have:=LK (k:=k) (f:=f) (eO _ _▸h).2 (by simpa using e)
  rwa [show i+1+k=i+(k+1)by omega]at this
theorem a5s:DX Tryz.progTables.globals.size 0 Tryz.funcs.toList=true:=by kernel_rfl
def DY.{u}(g:Nat):mC.{u} g:=by
 cases c:Tryz.funcs[g]? with
 |none=>intro n i;rw[Gh.get,c]at i;cases i
 |some f=>
  have a:=LK a5s (k:=g) (f:=f) (by simpa using c);rw[dC]at a;have b:=Gh.get.{u} g;rw[c,bY]at b;cases d:zQ.contains g with
  |true=>
   simp only[zQ,List.contains_eq_mem,decide_eq_true_eq,dj,a9V,or_false]at d;obtain rfl|rfl|rfl|rfl|rfl|rfl|rfl|rfl|rfl:=d
   .exact a5r
   .exact a5j
   .exact a5k
   .exact a5l
   .exact a5m
   .exact a5n
   .exact a5o
   .exact a5p
   .exact a5q
  |false=>
   have l:Gh.mod.{u} g f=bif Nat.testBit 31082642989949766928876180982130683149442758873666829327113535165587683239064120590339 g then lS f else f:=by
    simp only[zQ,List.contains_eq_mem,decide_eq_false_iff_not,dj,a9V,or_false,not_or]at d;have e:∀k,¬g=k->(g==k)=false:=λk h=>by simpa using h
    simp only[Gh.mod,e 106 a9h,e 144 a9h,e 145 a9h,e 154 a9h,cond_false]
   rw[l]at b;simp only[DW,d,Bool.false_or,eO]at a;cases j:Nat.testBit 31082642989949766928876180982130683149442758873666829327113535165587683239064120590339 g with
   |true=>rw[j]at b a;exact a5t b c (by simp only[eO];exact a.symm) (TW f) (Yh f)
   |false=>rw[j]at b a;exact a5u b c (by simp only[eO];exact a.symm)
theorem Mh:(Tryz.progTables.types.all λi=>i.zero.all (qe 9))=true:=by kernel_rfl
def ml.{u}:Twin Tryz.progTables Gh.funcs.{u} Tryz.funcs ln:=
 ⟨a9k,Mg Mh,a9k,λg a b=>(DY.{u} g).ml a b⟩
def im.{u}:Twin Tryz.progTables Gh.funcs.{u} Gh.funcs.{u} (λ_=>False):=
 ⟨rfl,Mg Mh,a9k,λg a b=>(DY.{u} g).self.ml a b⟩
instance a9e.{u}:nu ⟨Tryz.progTables,Gh.funcs.{u}⟩:=im.{u}.early
def cL.{u}:iv Tryz.progTables Gh.funcs.{u} where
 ext g fn e hg hb he a:=(DY.{u} g).ext hg hb he _ a
 eqs t h:=by
  have hp:(Bm.all (mO ⟨Tryz.progTables,Gh.funcs.{u}⟩ 4))=true:=a9k
  exact b0d.1 hp t (by simpa using h)
 xn s d h:=by
  have h1:(yu.all λs=>yu.all λd=>rQ ⟨Tryz.progTables,Gh.funcs.{u}⟩ s d)=true:=a9k
  have h2:(Fb.all λp=>rQ ⟨Tryz.progTables,Gh.funcs.{u}⟩ p.1 p.2)=true:=a9k
  simp only[CI,pI,eO]at h;obtain⟨a,b⟩|h:=h
  .exact b0d.1 (b0d.1 h1 s (by simpa using a)) d (by simpa using b)
  .exact b0d.1 h2 (s,d) (by simpa using h)
theorem vK.{u}:Tryz.progTables.inits.idxOf? Gh.funcs.{u}.size=none:=by kernel_rfl
end Go.Mir
end
section
namespace Go.Mir
open Go Go.Conc
def NP(P:aA){α:Type}(Q:α->Prop):Sem α->Prop
 | .pure a=>Q a
 | .load _ _ k=> ∀v,NP P Q (k v)
 | .store _ _ _ k=>NP P Q k
 | .new _ k=> ∀r,NP P Q (k r)
 | .shape _ k=> ∀s,NP P Q (k s)
 | .freeze _ _ k=>NP P Q k
 | .frozen _ k=> ∀b,NP P Q (k b)
 | .getObj _ k=> ∀o,NP P Q (k o)
 | .setObj _ _ k=>NP P Q k
 | .choose _ k=> ∀n,NP P Q (k n)
 | .sys _ k=> ∀r,NP P Q (k r)
 | .program k=>NP P Q (k P)
 | .mark _ k=>NP P Q k
 | .halt (.panic _)=>False
 | .halt _=>True
theorem NP.bind{P α β Q}{R:β->Prop}{f}(d:∀a,Q a->NP P R (f a)):∀{s:Sem α},NP P Q s->NP P R (s>>=f):=by
 intro s;change NP P Q s->NP P R (s.bind f);induction s with
 |pure a=>intro h;exact d a h
 |load m a k b=>intro h v;exact b v (h v)
 |store m a v k b=>intro h;exact b h
 |new o k b=>intro h v;exact b v (h v)
 |shape r k b=>intro h v;exact b v (h v)
 |freeze a n k b=>intro h;exact b h
 |frozen a k b=>intro h v;exact b v (h v)
 |getObj r k b=>intro h v;exact b v (h v)
 |setObj r o k b=>intro h;exact b h
 |choose q k b=>intro h v;exact b v (h v)
 |sys c k b=>intro h v;exact b v (h v)
 |program k b=>intro h;exact b P h
 |mark m k b=>intro h;exact b h
 |halt h=>intro e;cases h<;>first|exact e.elim|trivial
def TL{P}{u w':aa}{a b e α}(h:u.farLoad P a b=.error e):∀x w1,(.halt e w':Result α)≠.halt (.panic x) w1:=by intro x w1 c;cases c;exact xX (α:=α) (w':=w') h trivial
def TE{P}{u w':aa}{a v b e α}(h:u.farStore P a v b=.error e):∀x w1,(.halt e w':Result α)≠.halt (.panic x) w1:=by intro x w1 c;cases c;exact BC (α:=α) (w':=w') h trivial
theorem NP.run{P α Q}:∀(s:Sem α) (w) (es),NP P Q s->(∀a w1,(s.runT P w es).1=.ok a w1->Q a)/\∀x w1,(s.runT P w es).1≠.halt (.panic x) w1:=by
 intro s;induction s with
 |pure a=>intro w es h;exact⟨λa w1 e=>(by cases e;exact h),λ_ _ e=>(by cases e)⟩
 |load m a k b=>
  intro w es h;simp only[Sem.runT];split
  .exact b _ _ _ (h _)
  .split
   .exact b _ _ _ (h _)
   .rename_i e d;exact⟨λ_ _ e=>(by cases e),TL d⟩
 |store m a v k b=>
  intro w es h;obtain⟨f,g⟩|⟨c,rfl⟩|⟨c,rfl⟩:=zU v
  .rw[zB f g];split
   .split
    .exact⟨λ_ _ e=>(by cases e),λ_ _ e=>(by cases e)⟩
    .exact b _ _ h
   .split
    .exact b _ _ h
    .rename_i e d;exact⟨λ_ _ e=>(by cases e),TE d⟩
  .exact⟨λ_ _ e=>(by cases e),λ_ _ e=>(by cases e)⟩
  .exact⟨λ_ _ e=>(by cases e),λ_ _ e=>(by cases e)⟩
 |new o k b=>intro w es h;exact b _ _ _ (h _)
 |shape r k b=>intro w es h;exact b _ _ _ (h _)
 |freeze a n k b=>intro w es h;exact b _ _ h
 |frozen a k b=>intro w es h;exact b _ _ _ (h _)
 |getObj r k b=>
  intro w es h;simp only[Sem.runT];split
  .exact⟨λ_ _ e=>(by cases e),λ_ _ e=>(by cases e)⟩
  .exact b _ _ _ (h _)
  .exact⟨λ_ _ e=>(by cases e),λ_ _ e=>(by cases e)⟩
 |setObj r o k b=>
  intro w es h;simp only[Sem.runT];split
  .exact⟨λ_ _ e=>(by cases e),λ_ _ e=>(by cases e)⟩
  .exact b _ _ h
  .exact⟨λ_ _ e=>(by cases e),λ_ _ e=>(by cases e)⟩
 |choose q k b=>
  intro w es h;simp only[Sem.runT];split
  .exact b _ _ _ (h _)
  .exact b _ _ _ (h _)
 |sys c k b=>intro w es h;exact b _ _ _ (h _)
 |program k b=>intro w es h;exact b _ _ _ h
 |mark m k b=>intro w es h;exact b _ _ h
 |halt h=>intro w es i;refine⟨λ_ _ e=>(by cases e),λx w1 e=>?_⟩;cases e;exact i
section
variable{T:Tables}{F F':Array Func}{E:bW->Prop}{Z:Nat->Prop}{K:Nat->Obj}{cs:List ah}{D:Nat->Prop}{ai:Nat->Nat}{w y v:aa}{fr rf:ah}{gs ab:List ah}
def a3t{s s'}(t:NF ⟨T,F⟩ s)(u:∀f,aQ D ai f->SE T F F' f (RN F T.globals.size f) s s')(hF:bj Z K y w)(R:Rel T cs D ai y v fr gs rf ab)(c){x p es}(z:s.runT ⟨T,F⟩ (re w v.tape c) #[]=(.ok (.value x) p,es)):∃(j:aa) (k:Nat->Prop) (d:Nat->Nat) (n:aj) (l:aa) (es':Array aT),s'.runT ⟨T,F'⟩ (v.at c) #[]=(.ok (.value n) l,es')/\bj Z K j p/\Rel T cs k d j l fr gs rf ab/\(∀f,aQ k d f->n=al f x)/\a9o D k ai d (re y v.tape c) j (v.at c) l es es':=by
 obtain⟨j,A,B,H⟩:=a9B s (re y v.tape c) (re w v.tape c) #[] t (hF.re _ _) _ _ z trivial;have C:cU T.globals.size D ai (re y v.tape c) (v.at c):=R.heap.same rfl rfl;obtain⟨a,I,h,k,d,b,l,es',q1,q,q3,r,g⟩|⟨_,_,h,_⟩|⟨_,_,h,_⟩:=od (R:=λf=>RN F T.globals.size f) C R.os R.all u A (λ_ i _=>rfl)
 .simp only[jE,Result.ok.injEq]at h;obtain⟨rfl,rfl⟩:=h;have e:=r _ (aL q 0);cases b with
  |value n=>
   refine⟨j,k,d,n,l,es',q1,B,?_,λf o=>?_,g⟩
   .exact⟨q,by rw[g.os,g.oh];exact R.os,λb e=>⟨(g.more b (R.low b e).1).1,by rw[(g.more b (R.low b e).1).2,(R.low b e).2]⟩,q3,R.ok,R.bQ,λf o=>R.aX f ⟨λb e=>by rw[o.on b (g.more b e).1,(g.more b e).2],o.inj⟩⟩
   .have:=r f o;simpa[RN]using this
  |_=>cases e
 .cases h
 .cases h
def vN[nu ⟨T,F⟩]{trap Stop}(z:∀fr J w,Stop fr J w->J=[]){d g}(A:g≠[])(j:Fin ⟨T,F⟩ trap Stop d g w){s s'}(N:∀w,stepG ⟨T,F⟩ true (am d (g++[trap])) w=stepG.apply ⟨T,F⟩ true d (g++[trap]) none s w)(O:(d.kind==.early)=false){Q:aj->Prop}(k:NP ⟨T,F⟩ (λn=> ∃x,n=.value x/\Q x) s)(P:NF ⟨T,F⟩ s)(B:SE T F F id (RN F T.globals.size id) s s)(S:∀f,aQ D ai f->SE T F F' f (RN F T.globals.size f) s s')(hF:bj Z K y w)(R:Rel T cs D ai y v fr gs rf ab)(c):∃(x:aj) (i:aa) (u:Array aT) (l:aa) (o:Nat->Prop) (b:Nat->Nat) (p:aj) (q:aa) (es':Array aT),Q x/\Fin ⟨T,F⟩ trap Stop (d.finish x) g i/\Reach ⟨T,F⟩ trap Stop d g w (d.finish x) g i/\s'.runT ⟨T,F'⟩ (v.at c) #[]=(.ok (.value p) q,es')/\bj Z K l i/\Rel T cs o b l q fr gs rf ab/\(∀f,aQ o b f->p=al f x)/\a9o D o ai b (re y v.tape c) l (v.at c) q u es':=by
 have t:cA T.globals.size (re w v.tape c):=pT (hF.re v.tape c) (R.lA v.tape c).all;obtain⟨x,i,u,L,U,V⟩:=G7 z A j N O v.tape c (λr u W=>by
  have C:=NP.run s (re w v.tape c) #[] k;have M:=(lD s s (re w v.tape c) #[] B t).2;rw[W]at C M;cases r with
  |ok a i=>obtain⟨x,rfl,_⟩:=C.1 a i rfl;exact .inl ⟨x,i,rfl⟩
  |halt h i=>
   obtain⟨x,H⟩|H:=M
   .subst H;exact absurd rfl (C.2 x i)
   .exact .inr ⟨h,i,rfl,H⟩)
 have I:Q x:=by obtain⟨p,e,I⟩:=(NP.run s (re w v.tape c) #[] k).1 _ _ (by rw[L]);cases e;exact I
 obtain⟨l,o,b,p,q,es',q1,X,q3,Y,q5⟩:=a3t P S hF R c L;exact⟨x,i,u,l,o,b,p,q,es',I,U,V,q1,X,q3,Y,q5⟩
end
end Go.Mir
end
section
namespace Go.Mir
open Go Go.Conc Go.Extern
def I6{P f fn e args Q}(c:P.funcs[f]?=some fn)(a:(fn.name== "runtime.NumGoroutine")=false)(d:fn.body.isNone=true)(g:Extern.findNext fn=none)(i:Extern.find fn=some e)(h:NP P Q (e args)):NP P (λn=> ∃x,n=.value x/\Q x) (callFunc f args):=by change NP P _ (match P.funcs[f]? with|none=>_|some fn=>_);rw[c];dsimp only;simp only[a,d,g,i,d8,if_false,if_true];have b:=NP.bind (P:=P) (Q:=Q) (R:=λn:Next=> ∃x,n=.value x/\Q x) (f:=λx=>(Sem.pure (.value x):Sem Next)) (λx j=>(⟨x,rfl,j⟩:∃y,Next.value x=.value y/\Q y)) h;exact b
def Jc{P}(r):NP P (λ_=>True) (viewAt r):=by
 intro s;cases s with
 |some q=>trivial
 |none=>intro o;cases o<;>trivial
theorem I5{P}(f:Nat->aF):∀l:List Nat,NP P (λ_=>True) (l.anyM λi=>frozen (f i))
 |[]=>trivial
 |x::l=>by
  intro b;cases b with
  |true=>trivial
  |false=>exact I5 f l
def Jb{P}(t):NP P (λ_=>True) (typeInfo t):=by unfold typeInfo;refine NP.bind (Q:=λ_=>True) (s:=program) (λp _=>?_) trivial;split<;>trivial
def Zz{P}(a):NP P (λ_=>True) (Atomic.touchesFrozen a):=by
 refine NP.bind (Q:=λ_=>True) (λo _=>?_) (Jc _);cases o with
 |none=>intro b;trivial
 |some q=>
  dsimp only;refine NP.bind (Q:=λ_=>True) (λi _=>?_) (Jb q.2);split
  .trivial
  .exact I5 _ _
def I9{P}(a):NP P (λv=> ∃n,v=.int .i32 n) (Atomic.read (.int .i32) a):=by
 intro v;cases v<;>try trivial
 .rename_i k n;cases k<;>first|trivial|exact⟨n,rfl⟩
 .rename_i p;cases p<;>trivial
def Zv{P}(a):NP P (λx=> ∃B,x=.bool B) (Atomic.casT (.int .i32) #[.pointer (some a),.int .i32 0,.int .i32 1]):=by
 refine NP.bind (Q:=λx=>x=a) (λx b=>?_) (show NP P (λx=>x=a) (asAddr (.pointer (some a)))from rfl);subst b;refine NP.bind (Q:=λ_=>True) (λq _=>?_) (Zz x);cases q with
 |true=>trivial
 |false=>
  refine NP.bind (λv c=>?_) (I9 x);obtain⟨n,rfl⟩:=c;dsimp only;refine NP.bind (Q:=λ_=>True) (s:=pure (n==0)) (λe _=>?_) trivial;cases e with
  |true=>exact⟨true,rfl⟩
  |false=>exact⟨false,rfl⟩
def Zu{P}(a):NP P (λx=> ∃n,x=.int .i32 n) (Atomic.update (Op.intArith .add) .i32 true #[.pointer (some a),.int .i32 (-1)]):=by refine NP.bind (Q:=λx=>x=a) (λx b=>?_) (show NP P (λx=>x=a) (asAddr (.pointer (some a)))from rfl);subst b;refine NP.bind (λv c=>?_) (I9 x);obtain⟨n,rfl⟩:=c;exact⟨_,rfl⟩
def Zy{P}(a):NP P (λ_=>True) (Conv.seenAt a):=by
 refine NP.bind (Q:=λ_=>True) (λo _=>?_) (Jc _);cases o with
 |none=>trivial
 |some q=>
  dsimp only;split
  .trivial
  .split
   .trivial
   .refine NP.bind (Q:=λ_=>True) (s:=program) (λp _=>?_) trivial;split
    .intro z;cases z with
     |none=>trivial
     |some z=>
      simp only[Sem.bind];split
      .trivial
      .split<;>trivial
    .trivial
def Zw{P}(r):NP P (λ_=>True) (cellsIn r):=by
 intro s;cases s with
 |some q=>trivial
 |none=>intro o;cases o<;>trivial
def Ja{P}(t):NP P (λ_=>True) (sizeOf t):=by unfold sizeOf;refine NP.bind (Q:=λ_=>True) (λp _=>?_) (Jb _);trivial
def yN{P t d}(h:P.underlying t=some d):NP P (λx=>x=d) (underlying t):=by unfold underlying;refine NP.bind (Q:=λp=>p=P) (s:=program) (λp a=>?_) rfl;subst a;rw[h];rfl
def I7{P src dst t}(f:P.underlying src=some (.pointer t))(g:P.underlying dst=some .unsafePointer)(a):NP P (λx=> ∃b,x=.pointer (some b)) (convert src dst (.pointer (some a))):=by
 unfold convert;refine NP.bind (λx d=>?_) (yN f);subst d;refine NP.bind (λx d=>?_) (yN g);subst d;dsimp only;unfold Conv.unsafePointer;refine NP.bind (λx d=>?_) (yN f);subst d;refine NP.bind (λx d=>?_) (yN g);subst d;dsimp only;refine NP.bind (Q:=λ_=>True) (λs _=>?_) (Zy a);refine NP.bind (Q:=λ_=>True) (λn _=>?_) (Zw _);refine NP.bind (Q:=λ_=>True) (λz _=>?_) (Ja _);have e:∀c:Bool,NP P (λx=> ∃b,x=.pointer (some b)) (if c=true then (do pure (.pointer (some ⟨<-newObj (.view s t),0,none⟩)):Sem aj)else pure (.pointer (some s))):=by
  intro c;cases c with
  |true=>intro r;exact(⟨_,rfl⟩:∃b,Value.pointer (some ⟨r,0,none⟩)=.pointer (some b))
  |false=>exact(⟨_,rfl⟩:∃b,Value.pointer (some s)=.pointer (some b))
 exact e _
end Go.Mir
end
