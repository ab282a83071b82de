import Derived.Conc.Events
import Derived.Test.YtdnpeefnobjfaaaGreatDoorK02
set_option maxRecDepth 100000
set_option maxHeartbeats 4000000
set_option linter.all false
section
namespace Go.Mir
variable{T:Tables}{F F':Array Func}{f:Nat->Nat}
def qH(f:Nat->Nat):Place->Place
 | .val v=>.val (al f v)
 | .var a=>.var (aG f a)
theorem uz(t x):SE T F F' f (aN (al f)) (x.get t) ((qH f x).get t):=by
 cases x with
 |val v=>exact ax rfl
 |var a=>exact uB t a
theorem uy(h:Fit T f):∀p t x,SE T F F' f (aN λy=>(y.1,qH f y.2)) (follow p t x) (follow p t (qH f x))
 |[],t,x=>ax rfl
 |s::c,t,x=>by
  apply(cm s.struct).bind;rintro d _ rfl;cases d<;>try exact aC _ _
  rename_i e;dsimp;cases e[s.index]? with
  |none=>simp[aC]
  |some g=>
   dsimp;refine bk bq (λ_=>?_) λ_=>?_
   .apply(uz t x).bind;rintro v _ rfl;apply(nI h v).bind;rintro a _ rfl;apply(Bb a g).bind;rintro b _ rfl;exact uy h c g.type (.var b)
   .cases x with
    |var a=>apply(Bb a g).bind;rintro b _ rfl;exact uy h c g.type (.var b)
    |val v=>
     simp[qH];cases v<;>simp<;>try exact aC _ _
     apply(kV _ _ _).bind;rintro b _ rfl;exact uy h c g.type (.val b)
def SQ(h:Fit T f)(e t v a b):SE T F F' f (aN (al f)) (Builtin.ssaWrapNilChk_ e t #[v,strVal a,strVal b]) (Builtin.ssaWrapNilChk_ e t #[al f v,strVal a,strVal b]):=by
 cases v<;>simp<;>try exact aC _ _
 rename_i p;cases p with
 |some p=>exact ax (gU (f:=f) (some p)).symm
 |none=>
  apply(jl _).bind;rintro c _ rfl;refine bk bq (λ_=>mE h _) λ_=>?_;dsimp;cases e[0]? with
  |none=>simp[aC]
  |some g=>
   apply(cm g).bind;rintro d _ rfl;cases d<;>try exact aC _ _
   apply(gd _).bind;rintro i _ rfl;split
   .split
    .split
     .exact gL h _
     .exact aV _ _
    grind[aC]
   grind[aC]
theorem Gb(h:Fit T f)(g x b w):SE T F F' f (aN (al f)) (receiverAt g x b w) (receiverAt g (qH f x) b w):=by
 apply(cm g).bind;rintro d _ rfl;have c:∀e:bD,SE T F F' f (aN (al f))
   (do let c<-x.get g;let c<-(match w with|some i=>Builtin.ssaWrapNilChk_ #[g] g #[c,strVal "",strVal i]|none=>(pure c:Sem aj));loadVar e (<-asAddr c))
   (do let c<-(qH f x).get g;let c<-(match w with|some i=>Builtin.ssaWrapNilChk_ #[g] g #[c,strVal "",strVal i]|none=>(pure c:Sem aj));loadVar e (<-asAddr c)):=by
  intro e;apply(uz g x).bind;rintro v _ rfl;cases w with
  |none=>apply(nI h v).bind;rintro a _ rfl;simp[uB]
  |some n=>apply(SQ h #[g] g v "" n).bind;rintro v _ rfl;apply(nI h v).bind;rintro a _ rfl;simp[uB]
 have j:SE T F F' f (aN (al f)) (match b,x with|true,.var a=>pure (.pointer (some a))|true,.val _=>stuck "method row: a pointer method of a value without an address"|false,x=>x.get g) (match b,qH f x with|true,.var a=>pure (.pointer (some a))|true,.val _=>stuck "method row: a pointer method of a value without an address"|false,x=>x.get g):=by
  cases b with
  |false=>grind[uz]
  |true=>
   cases x with
   |var a=>exact ax aZ
   |val v=>simp[aC]
 cases w<;>cases d<;>cases b<;>cases x<;>first|exact j|exact uz g _|exact c _
def Sr(h:Fit T f)(t v p b):SE T F F' f (aN (al f)) (receiverVia t v p b) (receiverVia t (al f v) p b):=by
 apply(uy h p.toList t (.val v)).bind;rintro⟨a,x⟩ _ rfl
 grind[Gb]
theorem FY(h:Fit T f):∀n t v name,SE T F F' f (aN λy=>(y.1,al f y.2)) (method n t v name) (method n t (al f v) name)
 |0,_,_,_=>aV _ _
 |n+1,t,v,name=>by
  apply(gd t).bind;rintro i _ rfl;dsimp;cases i.methods.find? (·.name==name)with
  |none=>simp[aC]
  |some m=>
   dsimp;apply(uy h m.path.toList t (.val v)).bind;rintro⟨a,x⟩ _ rfl;dsimp;cases m.func with
   |none=>apply(uz a x).bind;rintro y _ rfl;cases y<;>simp<;>first|exact aC _ _|exact FY h n _ _ _|exact gL h _
   |some p=>obtain⟨g,b⟩:=p;dsimp;apply(Gb h a x b _).bind;rintro r _ rfl;exact ax rfl
theorem xI:∀p t x,SE T F F' f (λa b=>b=a.map λy=>(y.1,y.2.map (al f))) (followBlind p t x) (followBlind p t (x.map (al f)))
 |[],t,x=>ax rfl
 |s::c,t,x=>by
  apply(cm s.struct).bind;rintro d _ rfl;cases d<;>try exact aC _ _
  rename_i e;dsimp;cases e[s.index]? with
  |none=>simp[aC]
  |some g=>
   dsimp;cases s.deref with
   |true=>
    cases x with
    |none=>exact ax rfl
    |some x=>
     simp;cases x<;>simp<;>try exact aC _ _
     rename_i a;cases a with
     |none=>exact ax rfl
     |some a=>exact xI c g.type none
   |false=>
    cases x with
    |none=>exact xI c g.type none
    |some x=>
     simp;cases x<;>simp<;>try exact aC _ _
     apply(kV _ _ _).bind;rintro b _ rfl;exact xI c g.type (some b)
theorem FZ:∀n t v name,SE T F F' f Eq (nilAhead n t v name) (nilAhead n t (al f v) name)
 |0,_,_,_=>ax rfl
 |n+1,t,v,name=>by
  apply(gd t).bind;rintro i _ rfl;cases i.methods.find? (·.name==name)with
  |none=>simp[aC]
  |some m=>
   dsimp;apply(xI m.path.toList t (some v)).bind;rintro r _ rfl;cases r with
   |error r=>exact ax rfl
   |ok y=>
    obtain⟨b,x⟩:=y;simp[Except.map];cases m.func with
    |none=>
     cases x with
     |none=>exact ax rfl
     |some x=>simp;cases x<;>simp<;>first|exact aC _ _|exact ax rfl|exact FZ n _ _ _
    |some p=>
     obtain⟨g,c⟩:=p;cases c with
     |true=>exact ax rfl
     |false=>
      dsimp;apply(cm b).bind;rintro d _ rfl;cases d<;>try exact ax rfl
      cases x with
      |none=>exact ax rfl
      |some x=>
       simp;cases x<;>simp<;>try exact ax rfl
       rename_i a;cases a<;>exact ax rfl
variable{T:Tables}{F F':Array Func}{f:Nat->Nat}
def RN(F:Array Func)(G:Nat)(f:Nat->Nat):Next->Next->Prop
 | .value v,b=>b=.value (al f v)
 | .skip,b=>b=.skip
 | .enter g e,b=>b=.enter g (e.map (al f))/\∃i c,F[g]?=some i/\i.body=some c
 | .round l g h a c,b=>b=.round (f l) g (h.map (al f)) a c/\(cF G a=true/\dW a=true)/\cF G c=true/\dW c=true
 | .defer d,b=>b=.defer (dv f d)/\fI d.target=true
 |_,_=>False
def nk(T:Tables)(F F':Array Func)(e:Array aj->Sem aj):Prop:=∀f,Fit T f->∀a,SE T F F' f (aN (al f)) (e a) (e (a.map (al f)))
structure Twin (T:Tables) (F F':Array Func) (E:bW->Prop):Prop where
 size:F'.size=F.size
 zero:∀t i v,T.info? t=some i->i.zero=some v->bg v=true
 ahead:T.follows .staticDataAhead=true
 each:∀(g:bW) fn,F[g]?=some fn->∃fn',F'[g]?=some fn'/\fn'.results=fn.results/\fn'.norace=fn.norace/\(fn.name== "runtime.NumGoroutine")=false/\(fn'.name== "runtime.NumGoroutine")=false/\
  ((
   ∃c c',fn.body=some c/\fn'.body=some c'/\cF T.globals.size c=true/\(¬E g->fn'=fn))\/
   (fn.body=none/\fn'=fn/\Extern.findNext fn=none/\∃e,Extern.find fn=some e/\nk T F F' e)\/
   (fn.body=none/\fn'.body=none/\Extern.findNext fn=none/\Extern.find fn=none/\(fn.name.endsWith ".init" && !fn.name.startsWith "(" && !fn.name.startsWith "gosem.")=false))
class nu (P:aA):Prop where
 early:∀fr cs d g w,∃o w1 es,early P fr cs d g w=.ended o w1 es
theorem a1m{G}:∀{c},cF G c=true->readies c=[]:=by
 intro c;induction c with
 |region i k d=>
  grind[cF,Array.all_eq_true',readies,List.filterMap_eq_nil_iff,ie]
 |seq a b e g=>simp_all[cF,readies]
 |cond x a b e g=>simp_all[cF,readies]
 |rangeFunc x l a b e g=>simp_all[cF,readies]
 |block i a j=>intro h;exact j h
 |loop a j=>intro h;exact j h
 |scope a j=>intro h;exact j h
 |_=>intro _;rfl
theorem Twin.early{E}(b:Twin T F F' E):nu ⟨T,F⟩:=by
 refine⟨λh j d g w=>?_⟩;have c:Program.stepOf ⟨T,F⟩ g=none:=by
  simp only[Program.stepOf,Array.findIdx?_eq_none_iff];intro k a;obtain⟨i,e,rfl⟩:=fT.1 a;obtain⟨_,_,_,_,_,_,l⟩:=b.each i _ (eY e)
  grind[a1m]
 simp only[Go.early,b.ahead,c,b0M,d8,if_false];simp_all
def qa(h:Fit T f){E}(o:Twin T F F' E)(g args):SE T F F' f (RN F T.globals.size f) (callFunc g args) (callFunc g (args.map (al f))):=by
 apply gu;change SE T F F' f _ (match F[g]? with|none=>_|some d=>_) (match F'[g]? with|none=>_|some d=>_);cases n:F[g]? with
 |none=>simp[aC]
 |some d=>
  obtain⟨p,i,_,_,q,j,r⟩:=o.each g d n;rw[i];dsimp;simp only[q,j,d8,if_false];obtain⟨c,u,b,a,_,_⟩|⟨b,rfl,k,e,l,s⟩|⟨b,a,k,l,t⟩:=r
  .simp[b,a];exact ax ⟨rfl,d,c,n,b⟩
  .simp only[b,b1c,if_true];refine aB.bind (R:=Eq) (⟨⟨rfl,rfl⟩,rfl⟩:SE T F F' f Eq (mark (.extern g)) (mark (.extern g))) ?_;rintro _ _ _;simp[k,l];apply aB.bind (s f h args);rintro v _ rfl;exact ax rfl
  .simp only[b,a,b1c,if_true];refine aB.bind (R:=Eq) (⟨⟨rfl,rfl⟩,rfl⟩:SE T F F' f Eq (mark (.extern g)) (mark (.extern g))) ?_;rintro _ _ _;simp only[k,l,t,d8,if_false];exact aV _ _
theorem A9(h:Fit T f){E}(b:Twin T F F' E)(r name args):SE T F F' f (RN F T.globals.size f) (callMethod r name args) (callMethod (al f r) name (args.map (al f))):=by
 cases r<;>simp<;>try exact aC _ _
 .rename_i t v;apply gu;apply(FY h _ t v name).bind;rintro⟨g,a⟩ _ rfl;have:=qa h b g (#[a]++args);rw[jV]at this;simp_all
 .exact gL h .nilDeref
def Uj(l:List (Tmp×aj)):∀(a:Array aj),(l.foldl (λa x=>a.setIfInBounds x.1 x.2) a).map (al f)=(l.map λx=>(x.1,al f x.2)).foldl (λa x=>a.setIfInBounds x.1 x.2) (a.map (al f)):=by
 induction l with
 |nil=>simp_all
 |cons x l b=>simp_all
def uA(l):SE T F F' f (λa b=>b=pj f a/\ee T.globals.size (.loop a)) (Instr.getLoop l) (Instr.getLoop (f l)):=by
 apply(nK l).bind;rintro o _ (⟨rfl,c⟩|⟨rfl,_⟩);rotate_left
 .exact aC _ _
 cases o<;>first|exact aC _ _|exact ax ⟨rfl,c⟩
def SR(l args):SE T F F' f (RN F T.globals.size f) (Instr.yield l args) (Instr.yield (f l) (args.map (al f))):=by apply(uA l).bind;rintro r _ ⟨rfl,a⟩;simp only[pG,pj];refine bk bq (λ_=>aC _ _) λ_=>?_;refine ax ⟨?_,a.1,a.2.1⟩;congr 1;simp only[<-b0i];rw[Uj];congr 1;simp_all[List.zip_map_right]
def RJ(h:Fit T f)(b)(c:okB b=true)(a t cs args):SE T F F' f (RN F T.globals.size f) (builtin b a t cs args) (builtin b a t cs (args.map (al f))):=by
 cases b<;>simp only[okB,d8]at c
 .exact(RD h a t args).bind λ_ _ e=>e▸ax rfl
 .exact(RM a t args).bind λ_ _ e=>e▸ax rfl
 .exact(RP h a t args).bind λ_ _ e=>e▸ax rfl
 .exact(RR a t args).bind λ_ _ e=>e▸ax rfl
 .exact(Sd a t args).bind λ_ _ e=>e▸ax rfl
 .exact(Sj a t args).bind λ_ _ e=>e▸ax rfl
def oP(h:Fit T f){E}(e:Twin T F F' E)(t)(o:fI t=true)(args):SE T F F' f (RN F T.globals.size f) (invoke t args) (invoke (ja f t) (args.map (al f))):=by
 cases t with
 |nil=>exact gL h .nilDeref
 |builtin b i q s=>exact RJ h b o i q s args
 |collected r=>exact aC _ _
 |coroexit c=>grind[fI]
 |fn fn j=>
  cases fn with
  |func g=>have:=qa h e g (args++j);simp_all;exact this
  |method a=>
   change SE T F F' f _ (match args[0]? with|some r=>callMethod r a (args.extract 1 args.size)|_=>_) (match (args.map (al f))[0]? with|some r=>callMethod r a ((args.map (al f)).extract 1 (args.map (al f)).size)|_=>_);rw[a9q]
   grind[aC,A9,Ck]
  |methodOf u a=>
   change SE T F F' f _ (match args[0]? with|some r=>(do let d<-underlying u;callMethod (match d with| .interface _=>r|_=>.iface u r) a (args.extract 1 args.size))|_=>_) (match (args.map (al f))[0]? with|some r=>(do let d<-underlying u;callMethod (match d with| .interface _=>r|_=>.iface u r) a ((args.map (al f)).extract 1 (args.map (al f)).size))|_=>_);rw[a9q];cases args[0]? with
   |none=>simp[aC]
   |some r=>apply(cm u).bind;rintro d _ rfl;have n:=A9 h e r a (args.extract 1 args.size);have k:=A9 h e (.iface u r) a (args.extract 1 args.size);rw[<-Ck]at n k;simp at k;simp;cases d<;>first|exact k|exact n
  |via u p g b=>
   change SE T F F' f _ (match args[0]? with|some x=>(do callFunc g (#[<-receiverVia u x p b]++args.extract 1 args.size))|_=>_) (match (args.map (al f))[0]? with|some x=>(do callFunc g (#[<-receiverVia u x p b]++(args.map (al f)).extract 1 (args.map (al f)).size))|_=>_);rw[a9q];cases args[0]? with
   |none=>simp[aC]
   |some x=>apply(Sr h u x p b).bind;rintro r _ rfl;have:=qa h e g (#[r]++args.extract 1 args.size);rw[jV,<-Ck]at this;simp;simp_all
  |yield l=>exact SR l args
def uD(v args):SE T F F' f (λa b=>b=dv f a/\fI a.target=true) (Deferred.ofValue v args) (Deferred.ofValue (al f v) (args.map (al f))):=by
 cases v<;>simp<;>try exact aC _ _
 .exact ax ⟨by simp[dv,ja],rfl⟩
 .exact ax ⟨rfl,rfl⟩
section
variable{ρ m:Operand->aj}
def Ir{G}(b:∀x,kh G x=true->m x=al f (ρ x)){a:Array Operand}(c:a.all (kh G)=true):a.map m=(a.map ρ).map (al f):=by
 rw[b0g]
 grind
def Gc{G}(h:∀x,kh G x=true->m x=al f (ρ x))(c)(o:c.operands.all (kh G)=true)(k:Jg c=true)(t):SE T F F' f (λa b=>b=dv f a/\fI a.target=true) (resolve ρ c t) (resolve m c t):=by
 obtain⟨e,d,l⟩:=c;have n:d.map m=(d.map ρ).map (al f):=by
  grind[Call.operands]
 cases e with
 |builtin b=>
  refine ax ⟨?_,k⟩
  grind[dv,ja]
 |invoke r i=>
  have j:m r=al f (ρ r):=h r (by grind[Call.operands]);refine ax ⟨?_,rfl⟩
  grind[dv,ja,jK]
 |value g=>have j:m g=al f (ρ g):=h g (by grind[Call.operands]);have:=uD (T:=T) (F:=F) (F':=F') (f:=f) (ρ g) (d.map ρ);rw[<-j,<-n]at this;exact this
def Sp(h:Fit T f)(x):SE T F F' f (aN (al f)) (Instr.panic x) (Instr.panic (al f x)):=by
 cases x<;>simp<;>first|exact aC _ _|exact uE _ _ (by simp;done)|skip
 apply aB.bind (R:=Eq)
 .refine⟨rfl,rfl,λr=>?_⟩;cases r<;>first|exact aC _ _|exact gu (T:=T) (F:=F) (F':=F') (f:=f) (ax rfl)
 .rintro n _ rfl;exact bk bq (λ_=>uE _ _ a9i) λ_=>gL h _
theorem So(h:Fit T f)(y:Operand)(i:m y=al f (ρ y))(dst g pos d guard):SE T F F' f (RN F T.globals.size f) (execOp ρ ⟨dst,.nilCheck y,g,pos,d,guard⟩) (execOp m ⟨dst,.nilCheck y,g,pos,d,guard⟩):=by
 unfold execOp;dsimp;rw[i];generalize ρ y=x;have c:SE T F F' f (RN F T.globals.size f) (pure (.value x)) (pure (.value (al f x))):=ax rfl;cases x with
 |pointer a=>rw[gU]at*;cases a<;>first|exact gL h _|exact c
 |nilIface=>rw[sY];exact gL h _
 |nilFunc=>rw[vU];exact gL h _
 |func j first k=>
  rw[mg]at*;cases j with
  |method e=>
   simp only[jK]at c⊢;rw[a9q];cases first[0]? with
   |none=>exact c
   |some r=>
    simp only[bY];cases r<;>simp only[lu]<;>try exact c
    .rename_i t w;apply gu;apply(FZ _ t w e).bind;rintro b _ rfl;exact bk bq (λ_=>aV _ _) λ_=>c
    grind[gL]
  |_=>exact c
 |_=>simp at c⊢;exact c
def g9{s s'}(h:SE T F F' f (aN (al f)) s s'):SE T F F' f (RN F T.globals.size f) (do pure (.value (<-s))) (do pure (.value (<-s'))):=aB.bind h λ_ _ e=>e▸ax rfl
def SK{s s'}(h:SE T F F' f Eq s s'):SE T F F' f (RN F T.globals.size f) (do s;pure .skip) (do s';pure .skip):=aB.bind h λ_ _ _=>ax rfl
def xH(h:Fit T f){E}(P:Twin T F F' E)(p:∀x,kh T.globals.size x=true->m x=al f (ρ x))(o)(L:ie T.globals.size o.op=true):SE T F F' f (RN F T.globals.size f) (execOp ρ o) (execOp m o):=by
 obtain⟨Q,j,M,R,A,guard⟩:=o;simp only[ie,eO]at L;obtain⟨B,C⟩:=L;have one:∀x,x∈j.operands->m x=al f (ρ x):=λx r=>p x (by
  rw[oq]at B;obtain⟨i,v,rfl⟩:=fT.1 r;simp_all)
 cases j with
 |move x=>exact ax (congrArg Next.value (one x a9n))
 |assign x=>exact ax (congrArg Next.value (one x a9n))
 |pick c a b=>
  have D:=one c a9n;have H:=one a a9n;have S:=one b a9n;have l:=FI (T:=T) (F:=F) (F':=F') (f:=f) (ρ c);rw[<-D]at l;apply aB.bind l;rintro q _ rfl;cases q
  .exact ax (congrArg Next.value S)
  .exact ax (congrArg Next.value H)
 |alloc e=>exact g9 (RB h e)
 |box e x=>have g:=one x a9n;have l:=RG (T:=T) (F:=F) (F':=F') (f:=f) e (ρ x);rw[<-g]at l;exact g9 l
 |load t x=>have g:=one x a9n;have l:=Bf (T:=T) (F:=F) (F':=F') (f:=f) t (ρ x);rw[<-g]at l;exact g9 l
 |store t a x=>have H:=one a a9n;have g:=one x a9n;have l:=Sz (T:=T) (F:=F) (F':=F') (f:=f) t (ρ a) (ρ x);rw[<-H,<-g]at l;exact SK l
 |build t k=>
  have I:(k.map λx=>(x.1,m x.2))=(k.map λx=>(x.1,ρ x.2)).map λx=>(x.1,al f x.2):=by rw[b0g];apply pE;intro x r;simp only[Function.comp];rw[one x.2 (by simp only[Op.operands,lI,eS];grind)]
  have l:=RH (F:=F) (F':=F') h t (k.map λx=>(x.1,ρ x.2));rw[<-I]at l;exact g9 l
 |buildSlice t n k=>
  have I:(k.map λx=>(x.1,m x.2))=(k.map λx=>(x.1,ρ x.2)).map λx=>(x.1,al f x.2):=by rw[b0g];apply pE;intro x r;simp only[Function.comp];rw[one x.2 (by simp only[Op.operands,lI,eS];grind)]
  have l:=RI (F:=F) (F':=F') h t n (k.map λx=>(x.1,ρ x.2));rw[<-I]at l;exact g9 l
 |nilCheck x=>
  have g:=one x a9n
  grind[So]
 |binOp j t x y u=>have g:=one x a9n;have U:=one y a9n;have N:=RU (T:=T) (F:=F) (F':=F') (f:=f) j t x y (ρ x) (ρ y);have O:=RF (F:=F) (F':=F') h j t (ρ x) (ρ y);rw[<-g,<-U]at N O;exact g9 (aB.bind N λ_ _ _=>O)
 |unOp j t x=>have g:=one x a9n;have l:=SL (T:=T) (F:=F) (F':=F') (f:=f) j (ρ x);rw[<-g]at l;exact g9 l
 |convert s d x=>have g:=one x a9n;have l:=ux (T:=T) (F:=F) (F':=F') (f:=f) s d (ρ x);rw[<-g]at l;exact g9 l
 |makeInterface t x=>have g:=one x a9n;have l:=Se (T:=T) (F:=F) (F':=F') (f:=f) t (ρ x);rw[<-g]at l;exact g9 l
 |makeFunc fn a b=>
  have Z:a.map m=(a.map ρ).map (al f):=Ir p (by grind[Op.operands]);have hb:b.map m=(b.map ρ).map (al f):=Ir p (by grind[Op.operands]);have hf:jK f fn=fn:=by cases fn<;>first|rfl|grind[Jh]
  apply ax;change Next.value (.func fn (a.map m) (b.map m))=.value (al f (.func fn (a.map ρ) (b.map ρ)));simp_all
 |makeSlice t l c=>have V:=one l a9n;have D:=one c a9n;have q:=Sf (F:=F) (F':=F') h t (ρ l) (ρ c);rw[<-V,<-D]at q;exact g9 q
 |slice t x w v z=>
  have g:=one x a9n;have W:w.map m=(w.map ρ).map (al f):=by cases w<;>simp;grind[Op.operands]
  have X:v.map m=(v.map ρ).map (al f):=by cases v<;>simp;grind[Op.operands]
  have r:z.map m=(z.map ρ).map (al f):=by cases z<;>simp;grind[Op.operands]
  have l:=Sy (F:=F) (F':=F') h t (ρ x) (w.map ρ) (v.map ρ) (z.map ρ);rw[<-g,<-W,<-X,<-r]at l;exact g9 l
 |fieldAddr t x i=>have g:=one x a9n;have l:=RY (T:=T) (F:=F) (F':=F') (f:=f) t (ρ x) i;rw[<-g]at l;exact g9 l
 |field t x i=>have g:=one x a9n;have l:=RX (T:=T) (F:=F) (F':=F') (f:=f) t (ρ x) i;rw[<-g]at l;exact g9 l
 |indexAddr t x i=>have g:=one x a9n;have J:=one i a9n;have l:=R9 (F:=F) (F':=F') h t (ρ x) (ρ i);rw[<-g,<-J]at l;exact g9 l
 |index t x i=>have g:=one x a9n;have J:=one i a9n;have l:=R8 (F:=F) (F':=F') h t (ρ x) (ρ i);rw[<-g,<-J]at l;exact g9 l
 |typeAssert x s t Y=>have g:=one x a9n;have l:=SI (F:=F) (F':=F') h (ρ x) s t Y;rw[<-g]at l;exact g9 l
 |extract x i=>have g:=one x a9n;have l:=RV (T:=T) (F:=F) (F':=F') (f:=f) (ρ x) i;rw[<-g]at l;exact g9 l
 |panic x=>have g:=one x a9n;have l:=Sp (F:=F) (F':=F') h (ρ x);rw[<-g]at l;exact g9 l
 |call c=>apply aB.bind (Gc p c B C M);rintro d _ ⟨rfl,K⟩;exact oP h P d.target K d.args
 |defer c=>apply aB.bind (Gc p c B C M);rintro d _ ⟨rfl,K⟩;exact ax ⟨rfl,K⟩
 |_=>simp at C
end
def fD{α:Type}:Sem α->Sem (α⊕aj)
 | .pure a=>.pure (.inl a)
 | .load m a k=>.load m a λv=>fD (k v)
 | .store m a v k=>.store m a v (fD k)
 | .new o k=>.new o λr=>fD (k r)
 | .shape r k=>.shape r λs=>fD (k s)
 | .freeze a n k=>.freeze a n (fD k)
 | .frozen a k=>.frozen a λb=>fD (k b)
 | .getObj r k=>.getObj r λo=>fD (k o)
 | .setObj r o k=>.setObj r o (fD k)
 | .choose q k=>.choose q λn=>fD (k n)
 | .sys c k=>.sys c λr=>fD (k r)
 | .program k=>.program λp=>fD (k p)
 | .mark m k=>.mark m (fD k)
 | .halt (.panic v)=>.pure (.inr v)
 | .halt h=>.halt h
def oJ{α:Type}:Result α->Result (α⊕aj)
 | .ok a w=>.ok (.inl a) w
 | .halt (.panic v) w=>.ok (.inr v) w
 | .halt h w=>.halt h w
def Kh{α}(P):∀(s:Sem α) (w) (es),(fD s).runT P w es=(oJ (s.runT P w es).1,(s.runT P w es).2):=by
 intro s;induction s with
 |pure a=>intros;rfl
 |load m a k b=>
  intro w es;simp only[fD,Sem.runT];split
  .exact b _ _ _
  .cases d:w.farLoad P a (m==.atomic)with
   |ok q=>obtain⟨v,t⟩:=q;exact b _ _ _
   |error h=>
    simp only[];have:∀v,h≠.panic v:=by
     intro v e;subst e;simp only[World.farLoad,World.noCell]at d;split at d
     .split at d<;>cases d
     .split at d<;>cases d
    cases h<;>first|rfl|exact absurd rfl (this _)
 |store m a v k b=>
  intro w es;have g:∀v,(∀c,v≠Value.agg c)->(∀c,v≠Value.tuple c)->(fD (Sem.store m a v k)).runT P w es=(oJ ((Sem.store m a v k).runT P w es).1,((Sem.store m a v k).runT P w es).2):=by
   intro v i j;have l:∀{β:Type} (k:Sem β),Sem.runT P (.store m a v k) w es=match w.cell? a with
     |some _=>if w.frozen? a then (.halt (.unsupported (.unsafePointer "a write to bytes that a string shares")) w,es)else k.runT P (w.setCell a v) (es.push ⟨.cell a,true,m==.atomic⟩)
     |none=>match w.farStore P a v (m==.atomic)with
      | .ok (w,f)=>k.runT P w (es++f.toArray.map (⟨.cell ·,true,m==.atomic⟩))
      | .error h=>(.halt h w,es):=by
    intro β k;cases v<;>first|rfl|exact absurd rfl (i _)|exact absurd rfl (j _)
   simp only[fD,l];split
   .split
    .rfl
    .exact b _ _
   .cases d:w.farStore P a v (m==.atomic)with
    |ok q=>obtain⟨p,t⟩:=q;exact b _ _
    |error h=>
     simp only[];have:∀v,h≠.panic v:=by
      intro v e;subst e;simp only[World.farStore,World.noCell]at d;split at d
      .split at d<;>cases d
      .split at d<;>cases d
     cases h<;>first|rfl|exact absurd rfl (this _)
  cases v<;>first|rfl|exact g _ a9i a9i
 |new o k b=>intro w es;exact b _ _ _
 |shape r k b=>intro w es;exact b _ _ _
 |freeze a n k b=>intro w es;exact b _ _
 |frozen a k b=>intro w es;exact b _ _ _
 |getObj r k b=>intro w es;simp only[fD,Sem.runT];split<;>first|rfl|exact b _ _ _
 |setObj r o k b=>intro w es;simp only[fD,Sem.runT];split<;>first|rfl|exact b _ _
 |choose q k b=>intro w es;simp only[fD,Sem.runT];split<;>exact b _ _ _
 |sys c k b=>intro w es;exact b _ _ _
 |program k b=>intro w es;exact b _ _ _
 |mark m k b=>intro w es;exact b _ _
 |halt h=>intro w es;cases h<;>rfl
def Aq(f:Nat->Nat){α β:Type}(R:α->β->Prop):α⊕aj->β⊕aj->Prop
 | .inl a,.inl b=>R a b
 | .inr v,.inr c=>c=al f v
 |_,_=>False
def a3r{P Q f α β R}:∀{s:Sem α} {s':Sem β},aB P Q f R s s'->aB P Q f (Aq f R) (fD s) (fD s'):=by
 intro s;induction s with
 |pure a=>intro s' h;cases s'<;>simp[aB]at h;exact h
 |load m a k b=>intro s' h;cases s'<;>simp[aB]at h;exact⟨h.1,h.2.1,λv=>b v (h.2.2 v)⟩
 |store m a v k b=>intro s' h;cases s'<;>simp[aB]at h;exact⟨h.1,h.2.1,h.2.2.1,b h.2.2.2⟩
 |new o k b=>intro s' h;cases s'<;>simp[aB]at h;exact⟨h.1,h.2.1,λv=>b v (h.2.2 v)⟩
 |shape r k b=>intro s' h;cases s'<;>simp[aB]at h;exact⟨h.1,λv=>b v (h.2 v)⟩
 |freeze a n k b=>intro s' h;cases s'<;>simp[aB]at h;exact⟨h.1,h.2.1,b h.2.2⟩
 |frozen a k b=>intro s' h;cases s'<;>simp only[aB]at h;exact⟨h.1,λv=>b v (h.2 v)⟩
 |getObj r k b=>intro s' h;cases s'<;>simp[aB]at h;exact⟨h.1,λv e=>b v (h.2.1 v e),λv e=>b _ (h.2.2 v e)⟩
 |setObj r o k b=>intro s' h;cases s'<;>simp[aB]at h;exact⟨h.1,h.2.1,h.2.2.1,b h.2.2.2⟩
 |choose q k b=>intro s' h;cases s'<;>simp[aB]at h;exact⟨h.1,λv=>b v (h.2 v)⟩
 |sys c k b=>intro s' h;cases s'<;>simp[aB]at h;exact⟨h.1,h.2.1,λr=>b r (h.2.2 r)⟩
 |program k b=>intro s' h;cases s'<;>simp[aB]at h;exact b _ h
 |mark m k b=>intro s' h;cases s'<;>simp[aB]at h;exact⟨h.1,b h.2⟩
 |halt h=>
  intro s' d;rw[qU]at d;cases h<;>first
   |(simp[tX]at d;rw[d];exact(rfl:_=_))
   |exact pn d _
   |(simp[tX,fi]at d;done)
def cA(G:Nat)(w:aa):Prop:=∀(b:Nat) o,w.heap[b]?=some o->ee G o
def cA.modify{G w}(h:cA G w){b x}(g:∀o,ee G o->ee G (x o)):cA G {w with heap:=w.heap.modify b x}:=by
 intro c o a;simp[kD]at a;by_cases e:b=c
 .subst e;simp only[if_true]at a;cases d:w.heap[b]? with
  |none=>simp_all
  |some f=>simp[d]at a;subst a;exact g f (h b f d)
 .simp[e]at a;exact h c o a
def cA.set{G w}(h:cA G w){b o}(d:ee G o):cA G {w with heap:=w.heap.setIfInBounds b o}:=by
 intro c x a;by_cases e:b=c
 .grind
 .simp_all;exact h c x a
def tY{α:Type}:Result α->Prop
 | .ok _ _=>True
 | .halt h _=>(∃v,h=.panic v)\/fi h=true
def IY{G w}(h:cA G w)(a s):fi (w.noCell a s)=true:=by
 unfold World.noCell;cases b:w.heap[a.block]? with
 |none=>rfl
 |some o=>cases o<;>rfl
def lD{P Q f α β R}:∀(s:Sem α) (s':Sem β) (w) (es),aB P Q f R s s'->cA P.globals.size w->cA P.globals.size (fK (s.runT P w es).1)/\tY (s.runT P w es).1:=by
 intro s;induction s with
 |pure a=>intro s' w es _ h;exact⟨h,trivial⟩
 |load m a k g=>
  intro s' w es d h;cases s'<;>simp only[aB]at d;simp only[Sem.runT];split
  .exact g _ _ _ _ (d.2.2 _) h
  .cases i:w.farLoad P a (m==.atomic)with
   |ok q=>obtain⟨v,t⟩:=q;exact g _ _ _ _ (d.2.2 _) h
   |error e=>
    refine⟨h,.inr ?_⟩;simp only[World.farLoad]at i;split at i
    .split at i<;>cases i;rfl
    .cases i;exact IY h _ _
 |store m a v k g=>
  intro s' w es d h;cases s'<;>simp only[aB]at d;have p:cA P.globals.size (w.setCell a v):=h.modify λo y=>by cases o<;>exact y
  have F:(∀c,v≠Value.agg c)->(∀c,v≠Value.tuple c)->Sem.runT P (.store m a v k) w es=match w.cell? a with
    |some _=>if w.frozen? a then (.halt (.unsupported (.unsafePointer "a write to bytes that a string shares")) w,es)else k.runT P (w.setCell a v) (es.push ⟨.cell a,true,m==.atomic⟩)
    |none=>match w.farStore P a v (m==.atomic)with
     | .ok (w,l)=>k.runT P w (es++l.toArray.map (⟨.cell ·,true,m==.atomic⟩))
     | .error h=>(.halt h w,es):=by
   intro B C;cases v<;>first|rfl|exact absurd rfl (B _)|exact absurd rfl (C _)
  have D:(
        ∀c,v≠Value.agg c)->(∀c,v≠Value.tuple c)->cA P.globals.size (fK (Sem.runT P (.store m a v k) w es).1)/\tY (Sem.runT P (.store m a v k) w es).1:=by
   intro B C;rw[F B C];split
   .split
    .exact⟨h,.inr rfl⟩
    .exact g _ _ _ d.2.2.2 p
   .cases i:w.farStore P a v (m==.atomic)with
    |ok q=>
     obtain⟨H,t⟩:=q;refine g _ _ _ d.2.2.2 ?_;simp only[World.farStore]at i;split at i
     .rename_i z u J;cases j:w.viewStore P z u a v (m==.atomic)with
      |error e=>rw[j]at i;cases i
      |ok r=>
       rw[j]at i;cases i;have:∃c e E,H={w with heap:=w.heap.setIfInBounds z.block (.cells c e E)}:=by
        unfold World.viewStore at j;simp only[bind,Except.bind]at j;split at j
        .cases j
        .split at j
         .cases j
         .split at j
          .split at j
           .cases j
           .split at j
            .cases j
            .cases j;exact⟨_,_,_,rfl⟩
          .cases j
       obtain⟨c,e,E,rfl⟩:=this;exact h.set trivial
     .cases i
    |error e=>
     refine⟨h,.inr ?_⟩;simp only[World.farStore]at i;split at i
     .split at i<;>cases i;rfl
     .cases i;exact IY h _ _
  cases v<;>first|exact⟨h,.inr rfl⟩|exact D a9i a9i
 |new o k g=>
  intro s' w es d h;cases s'<;>simp only[aB]at d;refine g _ _ _ _ (d.2.2 _) ?_;intro b x A;rw[fB]at A;split at A
  .cases A;exact d.2.1.1
  .exact h b x A
 |shape r k g=>intro s' w es d h;cases s'<;>simp only[aB]at d;exact g _ _ _ _ (d.2 _) h
 |freeze a n k g=>
  intro s' w es d h;cases s'<;>simp only[aB]at d;refine g _ _ _ d.2.2 ?_;unfold World.freeze;split
  .exact h
  .exact h.modify λo y=>by cases o<;>exact y
 |frozen a k g=>intro s' w es d h;cases s'<;>simp only[aB]at d;exact g _ _ _ _ (d.2 _) h
 |getObj r k g=>
  intro s' w es d h;cases s'<;>simp only[aB]at d;simp only[Sem.runT];split
  .exact⟨h,.inr rfl⟩
  .rename_i o _ y;exact g _ _ _ _ (d.2.1 _ (h _ _ y)) h
  .exact⟨h,.inr rfl⟩
 |setObj r o k g=>
  intro s' w es d h;cases s'<;>simp only[aB]at d;simp only[Sem.runT];split
  .exact⟨h,.inr rfl⟩
  .exact g _ _ _ d.2.2.2 (h.set d.2.2.1.1)
  .exact⟨h,.inr rfl⟩
 |choose q k g=>
  intro s' w es d h;cases s'<;>simp only[aB]at d;simp only[Sem.runT];split
  .exact g _ _ _ _ (d.2 _) h
  .exact g _ _ _ _ (d.2 _) h
 |sys c k g=>intro s' w es d h;cases s'<;>simp only[aB]at d;obtain⟨rfl,_,I⟩:=d;exact g _ _ _ _ (I _) h
 |program k g=>intro s' w es d h;cases s'<;>simp only[aB]at d;exact g _ _ _ _ d h
 |mark m k g=>intro s' w es d h;cases s'<;>simp only[aB]at d;exact g _ _ _ d.2 h
 |halt h0=>intro s' w es d h;rw[qU]at d;refine⟨h,?_⟩;cases h0<;>first|exact .inl ⟨_,rfl⟩|exact .inr d
def dm{α:Type}:Sem α->Prop
 | .pure _=>False
 | .load _ _ k=> ∀v,dm (k v)
 | .store _ _ _ k=>dm k
 | .new _ k=> ∀r,dm (k r)
 | .shape _ k=> ∀s,dm (k s)
 | .freeze _ _ k=>dm k
 | .frozen _ k=> ∀b,dm (k b)
 | .getObj _ k=> ∀o,dm (k o)
 | .setObj _ _ k=>dm k
 | .choose _ k=> ∀n,dm (k n)
 | .sys _ k=> ∀r,dm (k r)
 | .program k=> ∀P,dm (k P)
 | .mark _ k=>dm k
 | .halt (.panic _)=>False
 | .halt _=>True
def thin:Obj->Prop
 | .cells _ _ z=>z=(0,0)
 | .pending .. | .chan .. =>False
 |_=>True
section
variable{P:aA}{α β:Type}
def dm.bind'{f:α->Sem β}:∀{s:Sem α},dm s->dm (s.bind f):=by
 intro s;induction s with
 |pure a=>intro h;exact h.elim
 |load m a k b=>intro h v;exact b v (h v)
 |store m a v k b=>intro h;exact b h
 |new o k b=>intro h v;exact b v (h v)
 |shape r k b=>intro h v;exact b v (h v)
 |freeze a n k b=>intro h;exact b h
 |frozen a k b=>intro h v;exact b v (h v)
 |getObj r k b=>intro h v;exact b v (h v)
 |setObj r o k b=>intro h;exact b h
 |choose q k b=>intro h v;exact b v (h v)
 |sys c k b=>intro h v;exact b v (h v)
 |program k b=>intro h v;exact b v (h v)
 |mark m k b=>intro h;exact b h
 |halt h=>intro d;cases h<;>first|exact d|trivial
end
def A1:Obj->Prop
 | .cells .. | .view .. | .number .. | .pending .. | .chan .. =>False
 |_=>True
def a9J:Obj->Prop
 | .view .. | .number .. =>True
 |_=>False
structure bj (Z:Nat->Prop) (K:Nat->Obj) (w u:aa):Prop where
 tape:u.tape=w.tape
 drawn:u.drawn=w.drawn
 os:u.os=w.os
 output:u.output=w.output
 size:u.heap.size=w.heap.size
 other:∀b,¬Z b->u.heap[b]?=w.heap[b]?
 old:∀b,Z b->(∃c e,K b=.cells c e (0,0)/\w.heap[b]?=some (.cells c e (0,0))/\u.heap[b]?=some (.cells c e (0,c.size)))\/(A1 (K b)/\w.heap[b]?=some (K b)/\u.heap[b]?=some dead)\/(a9J (K b)/\w.heap[b]?=some (K b)/\u.heap[b]?=some (K b))
 thin:∀(b:Nat) o,w.heap[b]?=some o->thin o
def A2{w:aa}{o:Obj}{a:aF}(h:w.heap[a.block]?=some o)(b:A1 o):w.cell? a=none:=by simp[World.cell?,h];cases o<;>first|exact b.elim|rfl
def bj.cell{Z:Nat->Prop}{K:Nat->Obj}{w u:aa}(h:bj Z K w u)(a:aF):u.cell? a=w.cell? a:=by
 by_cases g:Z a.block
 .rcases h.old _ g with⟨c,e,b,d,f⟩|⟨b,d,f⟩|⟨b,d,f⟩
  .grind[World.cell?]
  .rw[A2 d b,A2 f trivial]
  grind[World.cell?]
 .simp[World.cell?,h.other _ g]
def bj.shape{Z:Nat->Prop}{K:Nat->Obj}{w u:aa}(h:bj Z K w u)(r:Nat):u.shape? r=w.shape? r:=by
 by_cases g:Z r
 .rcases h.old _ g with⟨c,e,a,b,d⟩|⟨a,b,d⟩|⟨a,b,d⟩
  .grind[World.shape?]
  .simp[World.shape?,b,d,dead];cases f:K r<;>rw[f]at a<;>first|exact a.elim|rfl
  grind[World.shape?]
 .simp[World.shape?,h.other _ g]
def bj.tL{Z:Nat->Prop}{K:Nat->Obj}{w u:aa}(h:bj Z K w u)(a:aF):w.frozen? a=false:=by
 unfold World.frozen?;split
 .rename_i c e d f b;have:=h.thin _ _ b
  grind[Mir.thin]
 .rfl
def bj.frozen{Z:Nat->Prop}{K:Nat->Obj}{w u:aa}(h:bj Z K w u){a:aF}(b:u.frozen? a=true):Z a.block/\∃c e,w.heap[a.block]?=some (.cells c e (0,0))/\a.off<c.size:=by
 by_cases f:Z a.block
 .rcases h.old _ f with⟨c,e,g,i,j⟩|⟨g,i,j⟩|⟨g,i,j⟩
  .grind[World.frozen?]
  .grind[World.frozen?,dead]
  .have d:=h.tL a
   grind[World.frozen?]
 .have d:=h.tL a;simp[World.frozen?,h.other _ f]at b d;rw[d]at b;cases b
theorem Dy{P:aA}{w u:aa}{at_:aF}(h:u.heap[at_.block]?=w.heap[at_.block]?)(t:bD)(k:aF)(b:Bool):u.seen P at_ t k b=w.seen P at_ t k b:=by unfold World.seen;rw[h]
def Dx{P:aA}{w u:aa}{at_:aF}{c:Array aj}{e:bD}{z d:Nat×Nat}(g:w.heap[at_.block]?=some (.cells c e z))(h:u.heap[at_.block]?=some (.cells c e d))(t:bD)(k:aF)(b:Bool):(∃x,w.seen P at_ t k b=.error x/\u.seen P at_ t k b=.error x)\/∃f l cs n x y,w.seen P at_ t k b=.ok (c,e,z,f,l,cs)/\u.seen P at_ t k b=.ok (c,e,d,f,l,cs)/\seenCells P c e n x y=.ok cs:=by
 unfold World.seen;rw[g,h];simp only[bind,Except.bind,pure,Except.pure];split
 .exact .inl ⟨_,rfl,rfl⟩
 split;rotate_left
 .exact .inl ⟨_,rfl,rfl⟩
 split;rotate_left
 .exact .inl ⟨_,rfl,rfl⟩
 split;rotate_left
 .exact .inl ⟨_,rfl,rfl⟩
 split
 .exact .inl ⟨_,rfl,rfl⟩
 split;rotate_left
 .exact .inl ⟨_,rfl,rfl⟩
 split
 .exact .inl ⟨_,rfl,rfl⟩
 rename_i cs a;split
 .split
  .split
   .exact .inl ⟨_,rfl,rfl⟩
   .exact .inr ⟨_,_,_,_,_,_,rfl,rfl,a⟩
  .exact .inl ⟨_,rfl,rfl⟩
 grind
def a3l{P:aA}{c:Array aj}{e:bD}:∀(n x y:Nat) (cs:List (Nat×Nat×List UInt8)),seenCells P c e n x y=.ok cs->∀q∈cs,q.1<c.size:=by
 intro n;induction n with
 |zero=>intro x y cs h;cases h
 |succ n f=>
  intro x y cs h q g;unfold seenCells at h;split at h
  .simp_all
  dsimp at h;split at h
  .cases h
  split at h
  .cases h
  split at h
  .cases h
  rename_i _ i s j _ v k;split at h
  .cases h
  .cases h
  rename_i _ b _ d;cases a:seenCells P c e n (s+b.length) y with
  |error x=>rw[a]at h;cases h
  |ok l=>
   rw[a]at h;simp[Except.map]at h
   grind
def a5N{P:aA}{Z:Nat->Prop}{K:Nat->Obj}{w u:aa}(h:bj Z K w u)(at_:aF)(t:bD)(k:aF)(b:Bool):u.viewLoad P at_ t k b=w.viewLoad P at_ t k b\/∃x y,u.viewLoad P at_ t k b=.error x/\w.viewLoad P at_ t k b=.error y:=by
 by_cases j:Z at_.block
 .rcases h.old _ j with⟨c,e,d,g,i⟩|⟨d,g,i⟩|⟨d,g,i⟩
  .left;unfold World.viewLoad;obtain⟨x,q1,n⟩|⟨f,l,r,_,_,_,q1,n,_⟩:=Dx (P:=P) g i t k b
   .simp_all
   .rw[q1,n];rfl
  .right;obtain⟨x,o⟩:=qT (P:=P) (w:=u) (at_:=at_) (λc e z a=>by rw[i]at a;cases a) t k b;obtain⟨y,p⟩:=qT (P:=P) (w:=w) (at_:=at_) (λc e z a=>by rw[g]at a;have q:=db a;rw[q]at d;exact d) t k b;unfold World.viewLoad;rw[o,p];exact⟨_,_,rfl,rfl⟩
  grind[World.viewLoad,Dy]
 .left;unfold World.viewLoad;rw[Dy (h.other _ j)]
theorem GW{P:aA}{Z:Nat->Prop}{K:Nat->Obj}{w u:aa}(h:bj Z K w u)(a:aF)(b:Bool)(d:u.heap[a.block]?=w.heap[a.block]?):u.farLoad P a b=w.farLoad P a b\/∃e e',u.farLoad P a b=.error e/\w.farLoad P a b=.error e':=by
 unfold World.farLoad;rw[d];cases f:w.heap[a.block]? with
 |none=>simp_all
 |some o=>
  cases o with
  |view c t=>
   dsimp;obtain g|⟨x,y,q1,i⟩:=a5N (P:=P) h c t a b
   all_goals simp_all
  |_=>exact .inr ⟨_,_,rfl,rfl⟩
def TC{P:aA}{Z:Nat->Prop}{K:Nat->Obj}{w u:aa}(h:bj Z K w u)(a:aF)(b:Bool):u.farLoad P a b=w.farLoad P a b\/∃e e',u.farLoad P a b=.error e/\w.farLoad P a b=.error e':=by
 by_cases j:Z a.block
 .rcases h.old _ j with⟨c,e,d,f,g⟩|⟨d,f,g⟩|⟨d,f,g⟩
  .unfold World.farLoad;rw[f,g];simp_all
  .unfold World.farLoad;rw[f,g];cases i:K a.block<;>rw[i]at d<;>first|exact d.elim|exact .inr ⟨_,_,rfl,rfl⟩
  grind[GW]
 .exact GW h a b (h.other _ j)
def Hh{Z:Nat->Prop}{K:Nat->Obj}{w u:aa}(h:bj Z K w u){r:Nat}(f: ¬Z r){o:Obj}(g:thin o):bj Z K {w with heap:=w.heap.setIfInBounds r o} {u with heap:=u.heap.setIfInBounds r o}:=by
 refine⟨h.tape,h.drawn,h.os,h.output,by simp[h.size],λb c=>?_,λb c=>?_,λb x d=>?_⟩
 .simp[js,h.size,h.other b c]
 .have a:r≠b:=λe=>f (e▸c);rw[dw a,dw a];exact h.old b c
 .simp[js]at d;split at d
  .simp_all
  .exact h.thin b x d
def KA{w:aa}{r:Nat}{o:Obj}(h:w.heap[r]?=some o):{w with heap:=w.heap.setIfInBounds r o}=w:=by
 have:w.heap.setIfInBounds r o=w.heap:=by
  grind
 rw[this]
theorem a5Q{P:aA}{Z:Nat->Prop}{K:Nat->Obj}{w u u':aa}(h:bj Z K w u)(at_:aF)(t:bD)(k:aF)(v:aj)(b:Bool){l:List aF}(a:u.viewStore P at_ t k v b=.ok (u',l)):∃H,w.viewStore P at_ t k v b=.ok (H,l)/\bj Z K H u'/\∀x∈l,¬Z x.block:=by
 by_cases s:Z at_.block
 .rcases h.old _ s with⟨c,e,A,B,j⟩|⟨A,B,j⟩|⟨A,B,j⟩;rotate_left
  .obtain⟨x,d⟩:=qT (P:=P) (w:=u) (at_:=at_) (λc e z g=>by rw[j]at g;cases g) t k b;unfold World.viewStore at a;rw[d]at a;simp only[bind,Except.bind]at a;split at a<;>cases a
  .obtain⟨x,d⟩:=qT (P:=P) (w:=u) (at_:=at_) (λc e z g=>by rw[j]at g;have p:=db g;rw[p]at A;exact A) t k b;unfold World.viewStore at a;rw[d]at a;simp only[bind,Except.bind]at a;split at a<;>cases a
  unfold World.viewStore at a⊢;obtain⟨x,q1,C⟩|⟨f,L,I,n,x,y,q1,C,q3⟩:=Dx (P:=P) B j t k b
  .rw[C]at a;simp only[bind,Except.bind]at a;split at a<;>cases a
  .rw[C]at a;rw[q1];cases I with
   |cons q N=>
    exfalso;have D:=a3l n x y _ q3 q a9i;simp only[bind,Except.bind,pure,Except.pure,List.foldlM_cons]at a;split at a
    .cases a
    split at a;rotate_left
    .cases a
    split at a
    .cases a
    split at a
    .cases a
    rename_i d;split at d
    .cases d
    .rename_i i;split at i
     .cases i
     .rw[if_pos (by simp[D])]at i;cases i
   |nil=>
    simp only[bind,Except.bind,pure,Except.pure,List.foldlM_nil,lH]at a⊢;split at a
    .cases a
    rename_i E;rw[if_neg E];split at a;rotate_left
    .cases a
    split at a
    .cases a
    rename_i p;rw[if_neg p];simp only[b1r,b0N]at a;obtain⟨rfl,rfl⟩:=a;exact⟨w,by rw[KA B],by rw[KA j];exact h,λx d=>by cases d⟩
 .unfold World.viewStore at a⊢;rw[Dy (h.other _ s)]at a;cases r:w.heap[at_.block]? with
  |none=>obtain⟨x,d⟩:=qT (P:=P) (w:=w) (at_:=at_) (λc e z g=>by rw[r]at g;cases g) t k b;rw[d]at a;simp only[bind,Except.bind]at a;split at a<;>cases a
  |some o=>
   by_cases J:∃c e z,o=.cells c e z
   .obtain⟨c,e,z,rfl⟩:=J;have F:z=(0,0):=h.thin _ _ r;obtain⟨x,q1,_⟩|⟨f,L,I,n,x,y,q1,_,q3⟩:=Dx (P:=P) r r t k b
    .rw[q1]at a;simp only[bind,Except.bind]at a;split at a<;>cases a
    .rw[q1]at a⊢;simp only[bind,Except.bind,pure,Except.pure]at a⊢;split at a
     .cases a
     rename_i E;rw[if_neg E];split at a;rotate_left
     .cases a
     split at a
     .cases a
     rename_i p;rw[if_neg p];split at a
     .cases a
     rename_i O M;simp at a;obtain⟨rfl,rfl⟩:=a;refine⟨_,rfl,Hh h s F,λx d=>?_⟩;obtain⟨q,_,rfl⟩:=eS.1 d;exact s
   .obtain⟨x,d⟩:=qT (P:=P) (w:=w) (at_:=at_) (λc e z g=>by rw[r]at g;cases g;exact J ⟨_,_,_,rfl⟩) t k b;rw[d]at a;simp only[bind,Except.bind]at a;split at a<;>cases a
def TG{P:aA}{Z:Nat->Prop}{K:Nat->Obj}{w u u':aa}(h:bj Z K w u)(a:aF)(v:aj)(b:Bool){l:List aF}(f:u.farStore P a v b=.ok (u',l)):∃d,w.farStore P a v b=.ok (d,l)/\bj Z K d u'/\∀x∈l,¬Z x.block:=by
 have g:u.heap[a.block]?=w.heap[a.block]? ->∃d,w.farStore P a v b=.ok (d,l)/\bj Z K d u'/\∀x∈l,¬Z x.block:=by
  grind[World.farStore,a5Q]
 by_cases j:Z a.block
 .rcases h.old _ j with⟨c,e,k,n,i⟩|⟨k,n,i⟩|⟨k,n,i⟩
  .grind[World.farStore]
  .unfold World.farStore at f;rw[i]at f;cases f
  simp_all
 .exact g (h.other _ j)
def Yields{α:Type}:Result α->Prop
 | .ok _ _=>True
 | .halt (.panic _) _=>True
 |_=>False
theorem IX{w:aa}{a:aF}{s:String}{α:Type}{w':aa}: ¬Yields (.halt (w.noCell a s) w':Result α):=by unfold World.noCell;split<;>exact id
theorem xX{P:aA}{u w':aa}{a:aF}{at_:Bool}{e:Halt}{α:Type}(h:u.farLoad P a at_=.error e): ¬Yields (.halt e w':Result α):=by
 unfold World.farLoad at h;split at h
 .split at h
  .cases h
  .cases h;exact id
 grind[IX]
def BC{P:aA}{u w':aa}{a:aF}{v:aj}{at_:Bool}{e:Halt}{α:Type}(h:u.farStore P a v at_=.error e): ¬Yields (.halt e w':Result α):=by
 unfold World.farStore at h;split at h
 .split at h
  .cases h
  .cases h;exact id
 grind[IX]
theorem zB{P:aA}{α:Type}{m:Mode}{a:aF}{v:aj}{k:Sem α}{w:aa}{es:Array aT}(d:∀c,v≠.agg c)(e:∀c,v≠.tuple c):Sem.runT P (.store m a v k) w es=match w.cell? a with
  |some _=>if w.frozen? a then (.halt (.unsupported (.unsafePointer "a write to bytes that a string shares")) w,es)else k.runT P (w.setCell a v) (es.push ⟨.cell a,true,m==.atomic⟩)
  |none=>match w.farStore P a v (m==.atomic)with
   | .ok (w,b)=>k.runT P w (es++b.toArray.map (⟨.cell ·,true,m==.atomic⟩))
   | .error h=>(.halt h w,es):=by
 cases v<;>first|rfl|simp_all|simp_all
def zU(v:aj):((∀c,v≠.agg c)/\∀c,v≠.tuple c)\/(∃c,v=.agg c)\/∃c,v=.tuple c:=by cases v<;>first|exact .inr (.inl ⟨_,rfl⟩)|exact .inr (.inr ⟨_,rfl⟩)|exact .inl ⟨a9i,a9i⟩
theorem dm.run{α:Type}{P:aA}:∀(s:Sem α) (w:aa) (es:Array aT),dm s->¬Yields (s.runT P w es).1:=by
 intro s;induction s with
 |pure a=>intro w es h;exact h.elim
 |load m a k b=>
  intro w es h;simp only[Sem.runT];split
  .exact b _ _ _ (h _)
  .split
   .exact b _ _ _ (h _)
   .rename_i e d;exact xX d
 |store m a v k b=>
  intro w es h;obtain⟨f,g⟩|⟨c,rfl⟩|⟨c,rfl⟩:=zU v
  .rw[zB f g];split
   .split
    .exact id
    .exact b _ _ h
   .split
    .exact b _ _ h
    .rename_i e d;exact BC d
  .exact id
  .exact id
 |new o k b=>intro w es h;exact b _ _ _ (h _)
 |shape r k b=>intro w es h;exact b _ _ _ (h _)
 |freeze a n k b=>intro w es h;exact b _ _ h
 |frozen a k b=>intro w es h;exact b _ _ _ (h _)
 |getObj r k b=>
  intro w es h;simp only[Sem.runT];split
  .exact id
  .exact b _ _ _ (h _)
  .exact id
 |setObj r o k b=>
  intro w es h;simp only[Sem.runT];split
  .exact id
  .exact b _ _ h
  .exact id
 |choose q k b=>
  intro w es h;simp only[Sem.runT];split
  .exact b _ _ _ (h _)
  .exact b _ _ _ (h _)
 |sys c k b=>intro w es h;exact b _ _ _ (h _)
 |program k b=>intro w es h;exact b _ _ _ (h _)
 |mark m k b=>intro w es h;exact b _ _ h
 |halt h=>intro w es i;cases h<;>first|exact i.elim|exact id
def jE{α:Type}(w:aa):Result α->Result α
 | .ok a _=>.ok a w
 | .halt h _=>.halt h w
def j4(Z:Nat->Prop)(e:aT):Prop:=(∀a,e.loc=.cell a->e.write=true->¬Z a.block)/\∀r,e.loc=.obj r->e.write=true->¬Z r
def TH(P:aA){α:Type}(s:Sem α):Prop:=∀(Z:Nat->Prop) (K:Nat->Obj) (w u:aa) (b:Array aT),bj Z K w u->∀r a,s.runT P u b=(r,a)->Yields r->∃c,s.runT P w b=(jE c r,a)/\bj Z K c (fK r)/\∀e∈a,e∈b\/j4 Z e
def NF(P:aA){α:Type}:Sem α->Prop
 | .pure _=>True
 | .load _ _ k=> ∀v,NF P (k v)
 | .store _ _ _ k=>NF P k
 | .new o k=>thin o/\∀r,NF P (k r)
 | .shape _ k=> ∀s,NF P (k s)
 | .freeze _ _ _=>False
 | .frozen a k=>(∀b,dm (k b))\/(dm (k true)/\NF P (k false))\/TH P (.frozen a k)
 | .getObj r k=>((∀o,NF P (k o))/\(dm (k dead)\/∀o,A1 o->k o=k dead))\/TH P (.getObj r k)
 | .setObj _ _ _=>False
 | .choose _ k=> ∀n,NF P (k n)
 | .sys c k=>c=.env/\∀r,NF P (k r)
 | .program k=>NF P (k P)
 | .mark _ k=>NF P k
 | .halt _=>True
def bj.set{Z:Nat->Prop}{K:Nat->Obj}{w u:aa}(h:bj Z K w u){a:aF}{r:aj}(g:u.cell? a=some r)(s:u.frozen? a=false)(v:aj): ¬Z a.block/\bj Z K (w.setCell a v) (u.setCell a v):=by
 have k: ¬Z a.block:=by
  intro l;obtain⟨c,e,i,_,j⟩|⟨i,_,j⟩|⟨i,_,j⟩:=h.old _ l;rotate_left
  .rw[A2 j trivial]at g;cases g
  .simp[World.cell?,j]at g;cases n:K a.block<;>rw[n]at i g<;>first|exact i.elim|cases g
  grind[World.cell?,World.frozen?]
 refine⟨k,⟨h.tape,h.drawn,h.os,h.output,by simpa[World.setCell]using h.size,λb d=>?_,λb d=>?_,λb o d=>?_⟩⟩
 .by_cases f:a.block=b
  .subst f;simp[World.setCell,kD,h.other _ k]
  .simp[World.setCell,kD,h.other _ d]
 .have f:a.block≠b:=λe=>k (e▸d);simp[World.setCell,kD,f];exact h.old b d
 .simp[World.setCell,kD]at d;split at d
  .cases p:w.heap[b]? with
   |none=>rw[p]at d;cases d
   |some q=>rw[p]at d;have:=h.thin b q p;cases q<;>(simp at d;subst d;exact this)
  .exact h.thin b _ d
def Ux{Z:Nat->Prop}{K:Nat->Obj}{w u:aa}(h:bj Z K w u){o:Obj}(n:thin o):bj Z K {w with heap:=w.heap.push o} {u with heap:=u.heap.push o}:=by
 have i:∀b,Z b->b<w.heap.size:=λb a=>by
  obtain⟨c,e,f,g,_⟩|⟨f,g,_⟩|⟨f,g,_⟩:=h.old b a
  all_goals grind
 refine⟨h.tape,h.drawn,h.os,h.output,by simp[h.size],λb a=>?_,λb a=>?_,λb x d=>?_⟩
 .simp[fB,h.size,h.other b a]
 .have:=i b a;have j:=h.size;have k:(w.heap.push o)[b]?=w.heap[b]? :=by rw[fB,if_neg a9h]
  have l:(u.heap.push o)[b]?=u.heap[b]? :=by rw[fB,if_neg a9h]
  simp[k,l];exact h.old b a
 .simp[fB]at d;split at d
  .simp_all
  .exact h.thin b x d
theorem a9B{α:Type}{P:aA}{Z:Nat->Prop}{K:Nat->Obj}:∀(s:Sem α) (w u:aa) (es:Array aT),NF P s->bj Z K w u->∀r f,s.runT P u es=(r,f)->Yields r->∃t,s.runT P w es=(jE t r,f)/\bj Z K t (fK r)/\∀e∈f,e∈es\/j4 Z e:=by
 intro s;induction s with
 |pure a=>intro w u es _ h r f d _;cases d;exact⟨w,rfl,h,λe y=>.inl y⟩
 |load m a k l=>
  intro w u es g h r f d i;simp only[Sem.runT]at d⊢;rw[h.cell a]at d;cases F:w.cell? a with
  |some v=>
   rw[F]at d;obtain⟨t,D,B,L⟩:=l v w u _ (g v) h r f d i;refine⟨t,D,B,λe y=>?_⟩;obtain j|j:=L e y
   .rcases m8.1 j with z|rfl
    .exact .inl z
    .exact .inr ⟨λ_ _ H=>by simp at H,λ_ p _=>by simp at p⟩
   .exact .inr j
  |none=>
   rw[F]at d;dsimp at d⊢;obtain M|⟨e,Y,q1,C⟩:=TC (P:=P) h a (m==.atomic)
   .rw[M]at d;cases A:w.farLoad P a (m==.atomic)with
    |error e=>rw[A]at d;cases d;exact absurd i (xX A)
    |ok q=>
     rw[A]at d;obtain⟨t,D,B,L⟩:=l q.1 w u _ (g q.1) h r f d i;refine⟨t,D,B,λe y=>?_⟩;obtain j|j:=L e y
     .rcases ot.1 j with z|z
      .exact .inl z
      .obtain⟨x,_,rfl⟩:=mr.1 z;exact .inr ⟨λ_ _ H=>by simp at H,λ_ p _=>by simp at p⟩
     .exact .inr j
   grind[xX]
 |store m a v k l=>
  intro w u es g h r f d i;obtain⟨D,B⟩|⟨c,rfl⟩|⟨c,rfl⟩:=zU v
  .rw[zB D B]at d⊢;cases F:u.cell? a with
   |some v0=>
    rw[F]at d;dsimp at d;by_cases E:u.frozen? a=true
    .rw[if_pos E]at d;cases d;exact i.elim
    .have I:u.frozen? a=false:=by simpa using E
     rw[if_neg E]at d;let ⟨hnz,A⟩:=h.set F I v;let ⟨t,q1,C,q3⟩:=l _ _ _ g A r f d i;have Q:w.frozen? a=false:=by have:=h.other _ hnz;simp[World.frozen?]at I⊢;rw[<-this];exact I
     refine⟨t,?_,C,λe y=>?_⟩
     .rw[<-h.cell a,F];dsimp;rw[if_neg (by simp[Q])];exact q1
     .rcases q3 e y with j|j
      .rcases m8.1 j with z|rfl
       .exact .inl z
       .exact .inr ⟨λb N _=>by simp at N;exact N▸hnz,λ_ p _=>by simp at p⟩
      .exact .inr j
   |none=>
    rw[F]at d;dsimp at d;rw[<-h.cell a,F];dsimp;cases A:u.farStore P a v (m==.atomic)with
    |error e=>rw[A]at d;cases d;exact absurd i (BC A)
    |ok q=>
     rw[A]at d;obtain⟨T,q1,C,q3⟩:=TG h a v _ A;rw[q1];obtain⟨t,D,B,L⟩:=l T q.1 _ g C r f d i;refine⟨t,D,B,λe y=>?_⟩;obtain j|j:=L e y
     .rcases ot.1 j with z|z
      .exact .inl z
      .obtain⟨x,U,rfl⟩:=mr.1 z;exact .inr ⟨λb N _=>by simp at N;exact N▸q3 x (by simpa using U),λ_ p _=>by simp at p⟩
     simp_all
  .cases d;exact i.elim
  .cases d;exact i.elim
 |new o k l=>intro w u es g h r f d i;simp only[Sem.runT]at d⊢;rw[h.size]at d;exact l _ _ _ _ (g.2 _) (Ux h g.1) r f d i
 |shape b k l=>intro w u es g h r f d i;simp only[Sem.runT]at d⊢;rw[h.shape b]at d;exact l _ _ _ _ (g _) h r f d i
 |freeze a n k l=>intro w u es g;exact g.elim
 |frozen a k l=>
  intro w u es g h r f d i;obtain g|⟨p,g⟩|g:=g;rotate_left 2
  .exact g Z K w u es h r f d i
  all_goals simp only[Sem.runT]at d⊢
  .have:=dm.run (P:=P) _ u es (g (u.frozen? a));rw[d]at this;exact absurd i this
  .rw[h.tL a];cases A:u.frozen? a with
   |true=>rw[A]at d;have:=dm.run (P:=P) _ u es p;rw[d]at this;exact absurd i this
   |false=>rw[A]at d;exact l _ _ _ _ g h r f d i
 |getObj b k l=>
  intro w u es g h r f d i;obtain⟨g,J⟩|g:=g;rotate_left
  .exact g Z K w u es h r f d i
  have R:u.heap[b]?=w.heap[b]? ->∃t,(Sem.getObj b k).runT P w es=(jE t r,f)/\bj Z K t (fK r)/\∀e∈f,e∈es\/j4 Z e:=by
   intro V;simp only[Sem.runT]at d⊢;rw[V]at d;split at d
   .cases d;exact i.elim
   .rename_i o _ H;obtain⟨t,q1,C,q3⟩:=l _ _ _ _ (g _) h r f d i;refine⟨t,q1,C,λe y=>?_⟩;obtain j|j:=q3 e y
    .rcases m8.1 j with z|rfl
     .exact .inl z
     .exact .inr ⟨λ_ p=>by simp at p,λx p H=>by simp at H⟩
    .exact .inr j
   .cases d;exact i.elim
  have E:Z b\/¬Z b:=b1N _;obtain E|E:=E
  .rcases h.old b E with⟨c,e,_,_,B⟩|⟨O,D,B⟩|⟨O,D,B⟩
   .simp only[Sem.runT,B]at d;cases d;exact i.elim
   .have W:(Sem.getObj b k).runT P u es=(k dead).runT P u (es.push ⟨.obj b,false,false⟩):=by simp only[Sem.runT,B,dead,Obj.isChan]
    have X:(Sem.getObj b k).runT P w es=(k (K b)).runT P w (es.push ⟨.obj b,false,false⟩):=by simp only[Sem.runT,D];cases S:K b<;>rw[S]at O<;>first|exact O.elim|rfl
    rw[W]at d;obtain J|J:=J
    .have:=dm.run (P:=P) _ u (es.push ⟨.obj b,false,false⟩) J;rw[d]at this;exact absurd i this
    .rw[X,J _ O];let ⟨t,q1,C,q3⟩:=l _ _ _ _ (g _) h r f d i;refine⟨t,q1,C,λe y=>?_⟩;obtain j|j:=q3 e y
     .rcases m8.1 j with z|rfl
      .exact .inl z
      .exact .inr ⟨λ_ p=>by simp at p,λx p H=>by simp at H⟩
     .exact .inr j
   simp_all
  .exact R (h.other b E)
 |setObj b o k l=>intro w u es g;exact g.elim
 |choose q k l=>
  intro w u es g h r f d i;simp only[Sem.runT]at d⊢;split at d
  .rename_i M;rw[if_pos M];exact l _ _ _ _ (g _) h r f d i
  .rename_i M;rw[if_neg M];rw[h.tape,h.drawn]at d;exact l _ {w with drawn:=w.drawn+1} {u with tape:=w.tape,drawn:=w.drawn+1} _ (g _) ⟨rfl,rfl,h.os,h.output,h.size,h.other,h.old,h.thin⟩ r f d i
 |sys c k l=>
  intro w u es g h r f d i;obtain⟨rfl,g⟩:=g;have J:∀x:aa,x.sys .env=(.strings x.os.env,x):=λx=>rfl;simp only[Sem.runT,J]at d⊢;rw[h.os]at d;let ⟨t,q1,C,q3⟩:=l _ _ _ _ (g _) h r f d i;refine⟨t,q1,C,λe y=>?_⟩;obtain j|j:=q3 e y
  .rcases m8.1 j with z|rfl
   .exact .inl z
   .exact .inr ⟨λ_ p=>by simp at p,λ_ p _=>by simp at p⟩
  .exact .inr j
 |program k l=>intro w u es g h r f d i;exact l P _ _ _ g h r f d i
 |mark m k l=>
  intro w u es g h r f d i;simp only[Sem.runT]at d⊢;obtain⟨t,q1,C,q3⟩:=l _ _ _ g h r f d i;refine⟨t,q1,C,λe y=>?_⟩;obtain j|j:=q3 e y
  .rcases m8.1 j with z|rfl
   .exact .inl z
   .exact .inr ⟨λ_ p=>by simp at p,λ_ p _=>by simp at p⟩
  .exact .inr j
 |halt h0=>intro w u es _ h r f d i;cases d;exact⟨w,rfl,h,λe y=>.inl y⟩
def LH{α:Type}{P:aA}{s:Sem α}(h:NF P s):TH P s:=λ_ _ w u b hF r a c d=>a9B s w u b h hF r a c d
def TH.bind'{α β:Type}{P:aA}{s:Sem α}{f:α->Sem β}(h:TH P s)(p:∀a,TH P (f a)):TH P (s.bind f):=by
 intro Z K w u c hF r q b n;rw[Sem.runT_bind']at b⊢;rcases d:s.runT P u c with⟨t,g⟩;rw[d]at b;cases t with
 |ok a u1=>
  obtain⟨i,j,k,o⟩:=h Z K w u c hF _ _ d trivial;rw[j];obtain⟨v,q1,y,q3⟩:=p a Z K i u1 g k _ _ b n;refine⟨v,q1,y,λe z=>?_⟩
  grind
 |halt x u1=>
  simp at b;obtain⟨rfl,rfl⟩:=b;have l:Yields (.halt x u1:Result α):=by cases x<;>first|exact n.elim|trivial
  let ⟨i,j,k,o⟩:=h Z K w u c hF _ _ d l;rw[j];exact⟨i,rfl,k,o⟩
section
variable{P:aA}{α β:Type}
def NF.bind'{f:α->Sem β}(g:∀a,NF P (f a)):∀{s:Sem α},NF P s->NF P (s.bind f):=by
 intro s;induction s with
 |pure a=>intro _;exact g a
 |load m a k d=>intro h v;exact d v (h v)
 |store m a v k d=>intro h;exact d h
 |new o k d=>intro h;exact⟨h.1,λv=>d v (h.2 v)⟩
 |shape r k d=>intro h v;exact d v (h v)
 |freeze a n k d=>intro h;exact h.elim
 |frozen a k d=>
  intro h;obtain h|⟨i,e⟩|h:=h
  .exact .inl λb=>dm.bind' (h b)
  .exact .inr (.inl ⟨dm.bind' i,d false e⟩)
  .exact .inr (.inr (TH.bind' h λa=>LH (g a)))
 |getObj r k d=>
  intro h;obtain⟨i,e⟩|h:=h
  .refine .inl ⟨λo=>d o (i o),?_⟩;obtain e|e:=e
   all_goals simp_all[dm.bind']
  .exact .inr (TH.bind' h λa=>LH (g a))
 |setObj r o k d=>intro h;exact h.elim
 |choose q k d=>intro h v;exact d v (h v)
 |sys c k d=>intro h;exact⟨h.1,λv=>d v (h.2 v)⟩
 |program k d=>intro h;exact d P h
 |mark m k d=>intro h;exact d h
 |halt h=>intro _;trivial
theorem NF.bind{s:Sem α}{f:α->Sem β}(h:NF P s)(b:∀a,NF P (f a)):NF P (s>>=f):=NF.bind' b h
theorem NF.pure(a:α):NF P (Pure.pure a:Sem α):=trivial
def NF.stuck(s:String):NF P (stuck s:Sem α):=trivial
theorem NF.unsupported(s:Unsupported):NF P (unsupported s:Sem α):=trivial
def NF.ite{c:Prop}[Decidable c]{s t:Sem α}(a:c->NF P s)(b: ¬c->NF P t):NF P (if c then s else t):=by
 grind
end
def wg{P:aA}{α:Type}{l:Nat}{k:Obj->Sem α}(Q:dm (k dead))(M:∀o,a9J o->NF P (k o))(I:∀o,NF P (k o)\/∃i s,k o=.setObj l i s/\thin i/\NF P s):NF P (.getObj l k):=by
 apply Or.inr;intro Z K w u d h r p a q;have j:Z l\/¬Z l:=b1N _;obtain j|j:=j
 .rcases h.old l j with⟨c,e,_,_,C⟩|⟨I,J,C⟩|⟨D,J,C⟩
  .simp only[Sem.runT,C]at a;cases a;exact q.elim
  rotate_left
  .have t:∀x:aa,x.heap[l]?=some (K l)->(Sem.getObj l k).runT P x d=(k (K l)).runT P x (d.push ⟨.obj l,false,false⟩):=by intro x v;simp only[Sem.runT,v];cases E:K l<;>rw[E]at D<;>first|exact D.elim|rfl
   rw[t u C]at a;rw[t w J];let ⟨w',q1,q2,q3⟩:=a9B _ _ _ _ (M _ D) h r p a q;refine⟨w',q1,q2,λe y=>?_⟩;obtain A|A:=q3 e y
   .rcases m8.1 A with F|rfl
    .simp_all
    .exact .inr ⟨λ_ f=>by simp at f,λx f g=>by simp at g⟩
   simp_all
  grind[dead,Sem.runT,dm.run]
 .have n:=h.other l j;have rd:∀(e:aT) (b:Bool),e∈d.push ⟨.obj l,false,b⟩->e∈d\/j4 Z e:=by
   intro e b y;obtain F|rfl:=m8.1 y
   .exact .inl F
   .exact .inr ⟨λ_ f=>by simp at f,λx f g=>by simp at g⟩
  cases g:w.heap[l]? with
  |none=>rw[g]at n;simp only[Sem.runT,n]at a;cases a;exact q.elim
  |some o=>
   rw[g]at n;by_cases H:∃c e z,o=.cells c e z
   .obtain⟨c,e,z,rfl⟩:=H;simp only[Sem.runT,n]at a;cases a;exact q.elim
   .have t:∀x:aa,x.heap[l]?=some o->(Sem.getObj l k).runT P x d=(k o).runT P x (d.push ⟨.obj l,false,o.isChan⟩):=by intro x v;simp only[Sem.runT,v];cases o<;>first|exact absurd ⟨_,_,_,rfl⟩ H|rfl
    rw[t u n]at a;rw[t w g];obtain L|⟨i,s,N,O,L⟩:=I o
    .grind[a9B]
    .rw[N]at a⊢;have B:∀x:aa,x.heap[l]?=some o->(Sem.setObj l i s).runT P x (d.push ⟨.obj l,false,o.isChan⟩)=s.runT P {x with heap:=x.heap.setIfInBounds l i} ((d.push ⟨.obj l,false,o.isChan⟩).push ⟨.obj l,true,i.isChan⟩):=by intro x v;simp only[Sem.runT,v];cases o<;>first|exact absurd ⟨_,_,_,rfl⟩ H|rfl
     rw[B u n]at a;rw[B w g];let ⟨w',q1,q2,q3⟩:=a9B _ _ _ _ L (Hh h j O) r p a q;refine⟨w',q1,q2,λe y=>?_⟩;obtain A|A:=q3 e y
     .rcases m8.1 A with F|rfl
      .grind
      .exact .inr ⟨λ_ f=>by simp at f,λx f _=>by simp_all⟩
     simp_all
end Go.Mir
end
section
namespace Go.Mir
open Go
attribute [local simp] NF.stuck NF.unsupported NF.pure NF.bind
variable{P:aA}
def vF{α r}{k:Obj->Sem α}(a:∀o,NF P (k o))(b:dm (k dead)):NF P (getObj r>>=k):=.inl ⟨a,.inl b⟩
def aW{α:Type}{s t:Sem α}(e:s=t)(h:NF P t:=by repeat' (first|(simp[*];done)|with_reducible refine vF (λ_=>?_) (by with_unfolding_all trivial)|with_reducible refine NF.bind ?_ λ_=>?_|with_reducible refine NF.ite (λ_=>?_) (λ_=>?_)|split|dsimp only)):NF P s:=e▸h
@[simp] theorem a8P{α}(v):NF P (goPanic v:Sem α):=trivial
@[simp] theorem IT:NF P program:=trivial
@[simp] theorem CB(t):NF P (typeInfo t):=aW (typeInfo.eq_def ..)
@[simp] theorem qr(t):NF P (underlying t):=aW (underlying.eq_def ..)
@[simp] theorem Zr(t):NF P (zeroValue t):=aW (zeroValue.eq_def ..)
@[simp] theorem IU(t):NF P (sizeOf t):=aW (sizeOf.eq_def ..)
@[simp] theorem YU(a m):NF P (load a m):=λ_=>trivial
@[simp] theorem Cz(a v m):NF P (store a v m):=trivial
@[simp] theorem Ze(r):NF P (shape r):=λ_=>trivial
@[simp] theorem IE(q):NF P (choose q):=λ_=>trivial
@[simp] theorem IP(m):NF P (mark m):=trivial
@[simp] theorem a8p(n):NF P (askRoom n):=aW (askRoom.eq_def ..)
@[simp] theorem Y4(e c):NF P (newRow e c):=by exact NF.bind (s:=newObj (.cells c e)) ⟨rfl,λ_=>trivial⟩ λ_=>trivial
@[simp] theorem a8N(e v):NF P (newVar e v):=Y4 _ _
@[simp] theorem a8J(t):NF P (isAgg t):=aW (isAgg.eq_def ..)
@[simp] theorem a8C(t):NF P (elemOf t):=aW (elemOf.eq_def ..)
@[simp] theorem IM(a):∀n i b,NF P (loadCellsFrom a i n b)
 |0,_,_=>trivial
 |n+1,i,b=>NF.bind (YU _ _) λv=>IM a n _ _
@[simp] theorem a8K(a n):NF P (loadCells a n):=IM a n 0 #[]
@[simp] theorem Zi(a):∀b i,NF P (storeCells a b i)
 |[],_=>trivial
 |v::b,i=>NF.bind (Cz _ _ _) λ_=>Zi a b _
@[simp] theorem YV(t a):NF P (loadVar t a):=aW (loadVar.eq_def ..)
@[simp] theorem a8X(t a v):NF P (storeVar t a v):=aW (storeVar.eq_def ..)
@[simp] theorem vH{α}(e):NF P (runtimePanic e:Sem α):=aW (runtimePanic.eq_def ..)
@[simp] theorem a8r{α}(k x y c):NF P (boundsPanic k x y c:Sem α):=aW (boundsPanic.eq_def ..)
@[simp] theorem a8n(v):NF P (asIntOf v):=aW (asIntOf.eq_def ..)
@[simp] theorem Yl(v):NF P (asBool v):=aW (asBool.eq_def ..)
@[simp] theorem a8m(v):NF P (asAgg v):=aW (asAgg.eq_def ..)
@[simp] theorem sQ(v):NF P (asAddr v):=aW (asAddr.eq_def ..)
@[simp] theorem a8Z(v):NF P (Instr.sureAddr v):=aW (Instr.sureAddr.eq_def ..)
@[simp] theorem vG(t c o):NF P (part t c o):=aW (part.eq_def ..)
@[simp] theorem IW(r):NF P (viewAt r):=by
 intro s;cases s with
 |some q=>trivial
 |none=>exact .inl ⟨λo=>by cases o<;>trivial,.inr λo a=>by cases o<;>first|exact a.elim|rfl⟩
@[simp] theorem a8O(r):NF P (numberAt r):=by
 intro s;cases s with
 |some q=>trivial
 |none=>exact .inl ⟨λo=>by cases o<;>trivial,.inr λo a=>by cases o<;>first|exact a.elim|rfl⟩
@[simp] theorem Cu(v):NF P (asInt v):=aW (asInt.eq_def ..)
@[simp] theorem a8q(v):NF P (behindNumber v):=aW (behindNumber.eq_def ..)
@[simp] theorem IS(v):NF P (noView v):=aW (noView.eq_def ..)
@[simp] theorem a8s(v):NF P (byteOf v):=aW (byteOf.eq_def ..)
@[simp] theorem a8Q(v a b):NF P (partAt v a b):=aW (partAt.eq_def ..)
@[simp] theorem IH(v f):NF P (fieldPlace v f):=by unfold fieldPlace;exact aW rfl
@[simp] theorem Yj(e b v):NF P (Instr.alloc e b v):=aW (Instr.alloc.eq_def ..)
@[simp] theorem Yo(e v):NF P (Instr.box e v):=aW (Instr.box.eq_def ..)
@[simp] theorem IL(e v):NF P (Instr.loadAt e v):=by unfold Instr.loadAt;simp[*]
@[simp] theorem Zh(e v x):NF P (Instr.storeAt e v x):=by unfold Instr.storeAt;simp[*]
@[simp] theorem YJ(e v i):NF P (Instr.fieldAt e v i):=aW (Instr.fieldAt.eq_def ..)
@[simp] theorem YO(e v i):NF P (Instr.indexAt e v i):=aW (Instr.indexAt.eq_def ..)
@[simp] theorem YX(e v):NF P (Instr.makeInterface e v):=aW (Instr.makeInterface.eq_def ..)
@[simp] theorem YW(f a b):NF P (Instr.makeFunc f a b):=trivial
@[simp] theorem YY(t l c):NF P (Instr.makeSlice t l c):=aW (Instr.makeSlice.eq_def ..)
@[simp] theorem Yq(t n a):NF P (Instr.buildSlice t n a):=aW (Instr.buildSlice.eq_def ..)
def YZ{α β:Type}{f:α->Sem β}(b:∀a,NF P (f a)):∀(l:List α),NF P (l.mapM f):=by
 intro l;have:=qV;induction l with
 |nil=>rw[List.mapM_nil];simp_all
 |cons x c d=>
  rw[b1G]
  grind[NF.bind,NF.pure]
theorem IN{α β:Type}{f:α->Sem β}(b:∀a,NF P (f a))(l:Array α):NF P (l.mapM f):=by have:=qV;rw[b0x];exact NF.bind' (λ_=>NF.pure _) (YZ b _)
@[simp] theorem Yp(t a):NF P (Instr.build t a):=by
 unfold Instr.build;refine NF.bind (Zr t) λz=>NF.bind (qr t) λd=>?_;split
 .refine NF.bind (IN (λf=>NF.bind (IU _) λ_=>NF.pure _) _) λ_=>?_;exact aW rfl
 .exact aW rfl
 .simp[*]
@[simp] theorem a8V(v y c):NF P (Instr.sliceBound v y c):=aW (Instr.sliceBound.eq_def ..)
@[simp] theorem a8W(b l c x y z):NF P (Instr.sliceBounds b l c x y z):=aW (Instr.sliceBounds.eq_def ..)
@[simp] theorem a8U(t v x y z):NF P (Instr.slice t v x y z):=aW (Instr.slice.eq_def ..)
@[simp] theorem Zg(t v x y z):NF P (Instr.sliceAt t v x y z):=aW (Instr.sliceAt.eq_def ..)
@[simp] theorem Y7:NF P Instr.panicnil:=by unfold Instr.panicnil;refine NF.bind (s:=sys .env) ⟨rfl,λ_=>trivial⟩ λ_=>?_;exact aW rfl
@[simp] theorem Y6(v):NF P (Instr.panic v):=by have:=Y7 (P:=P);unfold Instr.panic;exact aW rfl
@[simp] theorem YP(c k a b):NF P (Op.intArith c k a b):=aW (Op.intArith.eq_def ..)
@[simp] theorem a8I(c k a b):NF P (Op.intDiv c k a b):=aW (Op.intDiv.eq_def ..)
@[simp] theorem a8G(c k a b):NF P (Op.intBits c k a b):=aW (Op.intBits.eq_def ..)
@[simp] theorem a8H(c a b):NF P (Op.intCmp c a b):=aW (Op.intCmp.eq_def ..)
@[simp] theorem a8T(c k a l b):NF P (Op.shift c k a l b):=aW (Op.shift.eq_def ..)
@[simp] theorem a8Y(c a b):NF P (Op.stringOp c a b):=aW (Op.stringOp.eq_def ..)
@[simp] theorem Zm(a x):NF P (Op.unary a x):=aW (Op.unary.eq_def ..)
@[simp] theorem a8D(c k a b):NF P (Op.floatArith c k a b):=aW (Op.floatArith.eq_def ..)
@[simp] theorem a8E(c k a b):NF P (Op.floatCmp c k a b):=aW (Op.floatCmp.eq_def ..)
@[simp] theorem a8F(k a l):NF P (Conv.floatToFloat k a l):=aW (Conv.floatToFloat.eq_def ..)
@[simp] theorem yG(c k a b):NF P (Op.Complex.arith c k a b):=aW (Op.Complex.arith.eq_def ..)
@[simp] theorem a8u(k a l):NF P (Op.Complex.conv k a l):=aW (Op.Complex.conv.eq_def ..)
@[simp] theorem Ys(c k a b):NF P (Op.Complex.cmp c k a b):=by unfold Op.Complex.cmp;simp[*]
@[simp] theorem a8t(a b):NF P (Op.Complex.add a b):=yG _ _ _ _
@[simp] theorem a8A(a b):NF P (Op.Complex.sub a b):=yG _ _ _ _
@[simp] theorem a8w(a b):NF P (Op.Complex.mul a b):=yG _ _ _ _
@[simp] theorem a8y(a b):NF P (Op.Complex.quo a b):=yG _ _ _ _
@[simp] theorem a8x(a b c d):NF P (Op.Complex.product a b c d):=aW (Op.Complex.product.eq_def ..)
@[simp] theorem a8v(e a b c d):NF P (Op.Complex.corrected e a b c d):=aW (Op.Complex.corrected.eq_def ..)
@[simp] theorem a8z(a b c d):NF P (Op.Complex.quotient a b c d):=by
 unfold Op.Complex.quotient;refine NF.bind (Ys _ _ _ _) λq=>?_;cases q
 .exact aW rfl
 .exact aW rfl
@[simp] theorem a8B(e k a b c d):NF P (Op.complexOp e k a b c d):=aW (Op.complexOp.eq_def ..)
@[simp] theorem a9a(a b):NF P (Op.twoPlaces a b):=aW (Op.twoPlaces.eq_def ..)
@[simp] theorem a8l(k a b):NF P (Op.addrSub k a b):=aW (Op.addrSub.eq_def ..)
@[simp] theorem a8j(c a b):NF P (Op.addrCmp c a b):=aW (Op.addrCmp.eq_def ..)
@[simp] theorem a8k(k a n):NF P (Op.addrMod k a n):=aW (Op.addrMod.eq_def ..)
@[simp] theorem YT(v):NF P (Builtin.lenOf v):=aW (Builtin.lenOf.eq_def ..)
@[simp] theorem YK(a b v):NF P (Builtin.firstCells a b v):=aW (Builtin.firstCells.eq_def ..)
@[simp] theorem YS(a t b):NF P (Builtin.len_ a t b):=aW (Builtin.len_.eq_def ..)
@[simp] theorem Y3(a b):NF P (Builtin.min2 a b):=aW (Builtin.min2.eq_def ..)
end Go.Mir
end
