import GoSem.Step
import Derived.Test.YtdnpeefnobjfaaaGreatDoorK00
set_option maxRecDepth 100000
set_option maxHeartbeats 4000000
set_option linter.all false
noncomputable section
section
namespace Go.Mir
def aG(f:Nat->Nat)(a:aF):aF:={a with block:=f a.block}
def jK(f:Nat->Nat):Fn->Fn
 | .yield l=>.yield (f l)
 |x=>x
def al(f:Nat->Nat):aj->aj
 | .pointer a=>.pointer (a.map (aG f))
 | .slice a l c=>.slice (a.map (aG f)) l c
 | .map r=>.map (r.map f)
 | .chan r=>.chan (r.map f)
 | .func e first d=>.func (jK f e) (first.attach.map λ⟨v,_⟩=>al f v) (d.attach.map λ⟨v,_⟩=>al f v)
 | .iface t v=>.iface t (al f v)
 | .agg g=>.agg (g.attach.map λ⟨v,_⟩=>al f v)
 | .tuple h=>.tuple (h.attach.map λ⟨v,_⟩=>al f v)
 | .bool b=>.bool b
 | .int k n=>.int k n
 | .float k b=>.float k b
 | .complex k a b=>.complex k a b
 | .string s=>.string s
 | .nilFunc=>.nilFunc
 | .nilIface=>.nilIface
termination_by v=>SizeOf.sizeOf v
variable{f:Nat->Nat}
@[simp] theorem gU(a):al f (.pointer a)=.pointer (a.map (aG f)):=by rw[al]
@[simp] theorem fh(a l c):al f (.slice a l c)=.slice (a.map (aG f)) l c:=by rw[al]
@[simp] theorem pk(r):al f (.map r)=.map (r.map f):=by rw[al]
@[simp] theorem qI(r):al f (.chan r)=.chan (r.map f):=by rw[al]
@[simp] theorem mg(fn a b):al f (.func fn a b)=.func (jK f fn) (a.map (al f)) (b.map (al f)):=by rw[al];simp
@[simp] theorem ks(t v):al f (.iface t v)=.iface t (al f v):=by rw[al]
@[simp] theorem iJ(cs):al f (.agg cs)=.agg (cs.map (al f)):=by rw[al];simp
@[simp] theorem mh(cs):al f (.tuple cs)=.tuple (cs.map (al f)):=by rw[al];simp
@[simp] theorem sW(b):al f (.bool b)=.bool b:=by rw[al]
@[simp] theorem jL(k n):al f (.int k n)=.int k n:=by rw[al]
@[simp] theorem sX(k n):al f (.float k n)=.float k n:=by rw[al]
@[simp] theorem zm(k n m):al f (.complex k n m)=.complex k n m:=by rw[al]
@[simp] theorem qK(s):al f (.string s)=.string s:=by rw[al]
@[simp] theorem vU:al f .nilFunc=.nilFunc:=by rw[al]
@[simp] theorem sY:al f .nilIface=.nilIface:=by rw[al]
def lu{f:Nat->Nat}:=And.intro (@sW f) (And.intro (@jL f) (And.intro (@sX f) (And.intro (@zm f) (And.intro (@qK f) (And.intro (@gU f) (And.intro (@fh f) (And.intro (@pk f) (And.intro (@qI f) (And.intro (@mg f) (And.intro (@ks f) (And.intro (@iJ f) (And.intro (@mh f) (And.intro (@vU f) (@sY f))))))))))))))
def ja(f:Nat->Nat):Target->Target
 | .fn b a=>.fn (jK f b) (a.map (al f))
 | .collected r=>.collected (f r)
 | .coroexit c=>.coroexit (f c)
 |t=>t
def dv(f:Nat->Nat)(d:Deferred):Deferred:={target:=ja f d.target,args:=d.args.map (al f)}
def qF(f:Nat->Nat)(e:MapEntry):MapEntry:={e with key:=al f e.key,val:=al f e.val}
def pj(f:Nat->Nat)(l:Loop):Loop:={l with tmps:=l.tmps.map (al f),defers:=f l.defers}
def bu(f:Nat->Nat):Obj->Obj
 | .cells c e h=>.cells (c.map (al f)) e h
 | .pending c e=>.pending (c.map (al f)) e
 | .view a t=>.view (aG f a) t
 | .number a l=>.number (aG f a) l
 | .map i c=>.map (i.map (qF f)) c
 | .chan d g j s r t=>.chan d (g.map (al f)) j s r t
 | .stringIter s p=>.stringIter s p
 | .mapIter m a b c=>.mapIter (m.map f) a b c
 | .loop l=>.loop (pj f l)
 | .deferred k=>.deferred (k.map (·.map (dv f)))
 | .coro p=>.coro p
 | .finalizers n r=>.finalizers (n.map λx=>(f x.1,dv f x.2)) r
def ko(f:Nat->Nat):Mark->Mark
 | .acquire a=>.acquire (aG f a)
 | .release a=>.release (aG f a)
 | .releaseMerge a=>.releaseMerge (aG f a)
 | .read a=>.read (aG f a)
 | .write a=>.write (aG f a)
 |m=>m
def cH(f:Nat->Nat):Loc->Loc
 | .cell a=>.cell (aG f a)
 | .obj r=>.obj (f r)
 | .mark m=>.mark (ko f m)
 |l=>l
def bK(f:Nat->Nat)(e:aT):aT:={e with loc:=cH f e.loc}
def bg:aj->Bool
 | .pointer a=>a.isNone
 | .slice a _ _=>a.isNone
 | .map r=>r.isNone
 | .chan r=>r.isNone
 | .func (.yield _) _ _=>false
 | .func _ first b=>(first.attach.all λ⟨v,_⟩=>bg v)&&(b.attach.all λ⟨v,_⟩=>bg v)
 | .iface _ v=>bg v
 | .agg c=>c.attach.all λ⟨v,_⟩=>bg v
 | .tuple d=>d.attach.all λ⟨v,_⟩=>bg v
 |_=>true
termination_by v=>SizeOf.sizeOf v
def jp{α:Type}{g}{a:Array α}(h:∀x∈a,g x=x):a.map g=a:=by
 grind
def yC{α:Type}{p:α->Bool}{a:Array α}(h:∀i (x:i<a.size),p a[i]=true):∀x∈a,p x=true:=by intro x b;obtain⟨i,c,rfl⟩:=fT.1 b;simp_all
theorem mf(f):∀v,bg v=true->al f v=v
 | .pointer a,h=>by cases a<;>simp_all [bg]
 | .slice a _ _,h=>by cases a<;>simp_all [bg]
 | .map r,h=>by cases r<;>simp_all [bg]
 | .chan r,h=>by cases r<;>simp_all [bg]
 | .func e a b,h=>by
  have c:jK f e=e/\(∀x∈a,bg x=true)/\∀x∈b,bg x=true:=by cases e<;>simp_all [bg,jK]<;>exact⟨yC h.1,yC h.2⟩
  rw[mg,c.1,jp λx d=>mf f x (c.2.1 x d),jp λx d=>mf f x (c.2.2 x d)]
 | .iface t v,h=>by rw[bg]at h;rw[ks,mf f v h]
 | .agg g,h=>by
  have c:∀x∈g,bg x=true:=by simp[bg]at h;exact yC h
  rw[iJ,jp λx d=>mf f x (c x d)]
 | .tuple g,h=>by
  have c:∀x∈g,bg x=true:=by simp[bg]at h;exact yC h
  rw[mh,jp λx d=>mf f x (c x d)]
 | .bool _,_=>a9i
 | .int _ _,_=>a9i
 | .float _ _,_=>a9i
 | .complex _ _ _,_=>a9i
 | .string _,_=>a9i
 | .nilFunc,_=>a9i
 | .nilIface,_=>a9i
termination_by v=>SizeOf.sizeOf v
def uk(v):(al f v).cells=v.cells.map (al f):=by cases v<;>simp[Value.cells]
def kh(G:Nat):Operand->Bool
 | .const v=>bg v
 | .global g=>decide (g<G)
 |_=>true
def Jh:Fn->Bool
 | .yield _=>false
 |_=>true
def okB:Builtin->Bool
 | .append| .cap| .clear| .copy| .len| .min=>true
 |_=>false
def Jg(c:Call):Bool:=match c.callee with
 | .builtin b=>okB b
 |_=>true
def vI:aj->Bool
 | .pointer none| .nilIface| .slice none _ _| .nilFunc| .map none=>true
 |_=>false
def yL:Operand->Bool
 | .const v=>vI v
 |_=>false
def Bm:List bD:=[2,3,4,5,6,7,8,9,10,11,12,13,14,21,30,31,32,41,42,51,52,63,64,102,104,105,106,107,108,109,111,124,136,137,149,150,161,162,185,202,203,230,237,253,254,255,256,257,258,281,312,329,344,361,364,365,370,371,374,375,377,378,379]
def yu:List bD:=[2,3,5,6,12,21,30,102,124,185,230,237,254,281,312,329,344,361,364,365,377]
def Fb:List (bD×bD):=[(311,112),(302,112),(316,112),(112,54),(54,112),(226,9)]
def CI(s d:bD):Bool:=(yu.contains s&&yu.contains d)||Fb.contains (s,d)
def ie(G:Nat)(o:Op):Bool:=
 o.operands.all (kh G)&&(match o with
  | .makeFunc b _ _=>Jh b
  | .call c| .defer c=>Jg c
  | .binOp a t x y _=>(a !=.eql&&a !=.neq)||Bm.contains t||yL x||yL y
  | .convert s d _=>CI s d
  | .insert .. | .ready _| .waits _| .makeMap .. | .makeChan .. | .lookup .. | .mapUpdate .. | .mapEntry .. | .entryStore .. | .range .. | .next .. | .entry .. | .go _| .send .. | .recv .. | .select .. | .sliceToArrayPointer .. =>false
  |_=>true)
def fI:Target->Bool
 | .builtin b _ _ _=>okB b
 | .coroexit _=>false
 |_=>true
def dW:Code->Bool
 | .region _ c _=>c.all λo=>match o.op with| .defer _=>false|_=>true
 | .seq a b=>dW a&&dW b
 | .cond _ a b=>dW a&&dW b
 | .block _ a=>dW a
 | .loop a=>dW a
 | .scope a=>dW a
 | .rangeFunc _ _ a b=>dW a&&dW b
 |_=>true
def cF(G:Nat):Code->Bool
 | .region _ d _=>d.all λo=>ie G o.op
 | .seq a b=>cF G a&&cF G b
 | .cond c a b=>kh G c&&cF G a&&cF G b
 | .block _ a=>cF G a
 | .loop a=>cF G a
 | .scope a=>cF G a
 | .rangeFunc g _ a b=>kh G g&&cF G a&&cF G b&&dW a&&dW b
 | .goto _=>false
 |_=>true
def ee(G:Nat):Obj->Prop
 | .loop l=>(cF G l.assign=true/\dW l.assign=true)/\(cF G l.body=true/\dW l.body=true)/\∀c,l.pending=some c->cF G c=true/\dW c=true
 | .deferred (some a)=> ∀d∈a,fI d.target=true
 |_=>True
def dead:Obj:=.stringIter ⟨#[]⟩ 0
def yO(G:Nat)(o:Obj):Prop:=ee G o/\o≠dead
def nN:Obj->Prop
 | .cells .. | .view .. | .number .. | .chan .. | .pending .. =>False
 |_=>True
def fi:Halt->Bool
 | .stuck _=>true
 | .unsupported _=>true
 |_=>false
def tX(f:Nat->Nat){β:Type}:Halt->Sem β->Prop
 | .panic v,s=>s=.halt (.panic (al f v))
 |h,_=>fi h=true
def qC:Mark->Bool
 | .noRoom| .extern _=>true
 |_=>false
def aB(P Q:aA)(f:Nat->Nat){α β:Type}(R:α->β->Prop):Sem α->Sem β->Prop
 | .pure a,.pure b=>R a b
 | .load m a k,.load g e d=>g=m/\e=aG f a/\∀v,aB P Q f R (k v) (d (al f v))
 | .store m a v k,.store g e v' d=>g=m/\e=aG f a/\v'=al f v/\aB P Q f R k d
 | .new o k,.new j d=>j=bu f o/\yO P.globals.size o/\∀r,aB P Q f R (k r) (d (f r))
 | .shape r k,.shape i d=>i=f r/\∀s,aB P Q f R (k s) (d s)
 | .freeze a n k,.freeze e l d=>e=aG f a/\l=n/\aB P Q f R k d
 | .frozen a k,.frozen e d=>e=aG f a/\∀b,aB P Q f R (k b) (d b)
 | .getObj r k,.getObj i d=>i=f r/\(∀o,ee P.globals.size o->aB P Q f R (k o) (d (bu f o)))/\∀o,nN o->aB P Q f R (k dead) (d o)
 | .setObj r o k,.setObj i j d=>i=f r/\j=bu f o/\yO P.globals.size o/\aB P Q f R k d
 | .choose q k,.choose p d=>p=q/\∀n,aB P Q f R (k n) (d n)
 | .program k,.program d=>aB P Q f R (k P) (d Q)
 | .mark m k,.mark g d=>(g=ko f m/\qC m=true)/\aB P Q f R k d
 | .sys c k,.sys t d=>c=.env/\t=.env/\∀r,aB P Q f R (k r) (d r)
 | .halt h,s=>tX f h s
 |_,_=>False
section
variable{P Q:aA}{f:Nat->Nat}{α β γ δ:Type}{R:α->β->Prop}{S:γ->δ->Prop}
theorem aB.pure{a b}(h:R a b):aB P Q f R (Pure.pure a) (Pure.pure b):=h
theorem qU(h s):aB P Q f R (.halt h) s=tX f h s:=by cases s<;>rfl
def pn{h}(a:fi h=true)(s):aB P Q f R (.halt h) s:=by rw[qU];cases h<;>first|exact a|grind[fi]
theorem aC(h s):aB P Q f R (stuck h) s:=pn (h:=.stuck h) rfl s
def aV(h:Unsupported)(s:Sem β)(a:fi (.unsupported h)=true:=by rfl):aB P Q f R (unsupported h) s:=pn a s
def a3s(v):aB P Q f R (.halt (.panic v)) (.halt (.panic (al f v)):Sem β):=by rw[qU];rfl
def aB.mono{e}(g:∀a b,R a b->e a b):∀{s} {s'},aB P Q f R s s'->aB P Q f e s s':=by
 intro s;induction s with
 |pure a=>intro s' h;cases s'<;>simp[aB]at h⊢ <;>first|simp_all|exact h
 |load m a k d=>intro s' h;cases s'<;>simp[aB]at h⊢;simp_all
 |store m a v k d=>intro s' h;cases s'<;>simp[aB]at h⊢;simp_all
 |new o k d=>intro s' h;cases s'<;>simp[aB]at h⊢;simp_all
 |shape r k d=>intro s' h;cases s'<;>simp[aB]at h⊢;simp_all
 |freeze a n k d=>intro s' h;cases s'<;>simp[aB]at h⊢;simp_all
 |frozen a k d=>intro s' h;cases s'<;>simp only[aB]at h⊢;simp_all
 |getObj r k d=>intro s' h;cases s'<;>simp[aB]at h⊢;simp_all
 |setObj r o k d=>intro s' h;cases s'<;>simp[aB]at h⊢;simp_all
 |choose q k d=>intro s' h;cases s'<;>simp[aB]at h⊢;simp_all
 |sys c k d=>intro s' h;cases s'<;>simp[aB]at h⊢;simp_all
 |program k d=>intro s' h;cases s'<;>simp[aB]at h⊢;simp_all
 |mark m k d=>intro s' h;cases s'<;>simp[aB]at h⊢;simp_all
 |halt h=>grind[qU]
def aB.bind'{g g'}(j:∀a b,R a b->aB P Q f S (g a) (g' b)):∀{s} {s'},aB P Q f R s s'->aB P Q f S (s.bind g) (s'.bind g'):=by
 intro s;induction s with
 |pure a=>intro s' h;cases s'<;>simp[aB]at h;exact j _ _ h
 |load m a k d=>intro s' h;cases s'<;>simp[aB]at h;exact⟨h.1,h.2.1,λv=>d v (h.2.2 v)⟩
 |store m a v k d=>intro s' h;cases s'<;>simp[aB]at h;exact⟨h.1,h.2.1,h.2.2.1,d h.2.2.2⟩
 |new o k d=>intro s' h;cases s'<;>simp[aB]at h;exact⟨h.1,h.2.1,λv=>d v (h.2.2 v)⟩
 |shape r k d=>intro s' h;cases s'<;>simp[aB]at h;exact⟨h.1,λv=>d v (h.2 v)⟩
 |freeze a n k d=>intro s' h;cases s'<;>simp[aB]at h;exact⟨h.1,h.2.1,d h.2.2⟩
 |frozen a k d=>intro s' h;cases s'<;>simp only[aB]at h;exact⟨h.1,λv=>d v (h.2 v)⟩
 |getObj r k d=>intro s' h;cases s'<;>simp[aB]at h;exact⟨h.1,λv i=>d v (h.2.1 v i),λv i=>d _ (h.2.2 v i)⟩
 |setObj r o k d=>intro s' h;cases s'<;>simp[aB]at h;exact⟨h.1,h.2.1,h.2.2.1,d h.2.2.2⟩
 |choose q k d=>intro s' h;cases s'<;>simp[aB]at h;exact⟨h.1,λv=>d v (h.2 v)⟩
 |sys c k d=>intro s' h;cases s'<;>simp[aB]at h;exact⟨h.1,h.2.1,λr=>d r (h.2.2 r)⟩
 |program k d=>intro s' h;cases s'<;>simp[aB]at h;exact d _ h
 |mark m k d=>intro s' h;cases s'<;>simp[aB]at h;exact⟨h.1,d h.2⟩
 |halt h=>intro s' e;rw[qU]at e;change aB P Q f S (.halt h) _;rw[qU];cases h<;>first|exact e|(simp[tX]at e⊢;rw[e];rfl)
theorem aB.bind{g g' s s'}(h:aB P Q f R s s')(c:∀a b,R a b->aB P Q f S (g a) (g' b)):aB P Q f S (s>>=g) (s'>>=g'):=aB.bind' c h
end
structure aQ (D:Nat->Prop) (ai:Nat->Nat) (f:Nat->Nat):Prop where
 on:∀b,D b->f b=ai b
 inj:∀a b,f a=f b->a=b
structure cw (u:Prop) (lz:Nat->Obj->Prop) (G:Nat) (D:Nat->Prop) (ai:Nat->Nat) (w v:aa):Prop where
 nX:∀b,D b->u\/b<w.heap.size
 n6:∀b,D b->u\/ai b<v.heap.size
 inj:∀a b,D a->D b->ai a=ai b->a=b
 jG:∀f,aQ D ai f->∀b,D b->v.heap[ai b]?=(w.heap[b]?).map (bu f)/\(∀o,lz b o->w.heap[b]? ≠some dead)\/w.heap[b]?=some dead/\∃o,v.heap[ai b]?=some o/\nN o/\lz b o
 ok:∀b o,D b->w.heap[b]?=some o->ee G o
 je:u->(∀b,D b/\ai b=b)/\v.heap.size=w.heap.size
abbrev vJ:Nat->Obj->Prop:=λ_ _=>False
abbrev cU:=cw False vJ
section
variable{u:Prop}{lz:Nat->Obj->Prop}{G:Nat}{D:Nat->Prop}{ai:Nat->Nat}{w v w' v':aa}
def cw.lt(h:cU G D ai w v)(b)(a:D b):b<w.heap.size:=(h.nX b a).resolve_left id
def cw.fQ(h:cU G D ai w v)(b)(a:D b):ai b<v.heap.size:=(h.n6 b a).resolve_left id
def cw.obj(h:cU G D ai w v)(f)(a:aQ D ai f)(b)(c:D b):v.heap[ai b]?=(w.heap[b]?).map (bu f):=((h.jG f a b c).resolve_right λ⟨_,_,_,_,h⟩=>h).1
def cU.mk(d:∀b,D b->b<w.heap.size)(e:∀b,D b->ai b<v.heap.size)(g:∀a b,D a->D b->ai a=ai b->a=b)(i:∀f,aQ D ai f->∀b,D b->v.heap[ai b]?=(w.heap[b]?).map (bu f))(j:∀b o,D b->w.heap[b]?=some o->ee G o):cU G D ai w v:=
 ⟨λb c=>.inr (d b c),λb c=>.inr (e b c),g,λf k b c=>.inl ⟨i f k b c,λ_ h=>h.elim⟩,j,False.elim⟩
def cw.live(h:cw u lz G D ai w v)(f)(a:aQ D ai f){b}(c:D b)(d:w.heap[b]? ≠some dead):v.heap[ai b]?=(w.heap[b]?).map (bu f):=((h.jG f a b c).resolve_right λh=>d h.1).1
def cw.same(h:cw u lz G D ai w v)(a:w'.heap=w.heap)(b:v'.heap=v.heap):cw u lz G D ai w' v':=
 ⟨by rw[a];exact h.nX,by rw[b];exact h.n6,h.inj,by rw[a,b];exact h.jG,by rw[a];exact h.ok,by simp_all;exact h.je⟩
open Classical in
def ag(D:Nat->Prop)(ai:Nat->Nat)(k b:Nat):Nat:=if D b then ai b else k+b
def aL(h:cw u lz G D ai w v)(k:Nat):aQ D ai (ag D ai (v.heap.size+k)):=by
 unfold ag;refine⟨λb d=>by simp[d],λa b c=>?_⟩;by_cases e:u
 .simpa[((h.je e).1 _).1,((h.je e).1 _).2]using c
 by_cases g:D a<;>by_cases d:D b<;>simp[g,d]at c
 .exact h.inj a b g d c
 .have:=(h.n6 a g).resolve_left e;omega
 .have:=(h.n6 b d).resolve_left e;omega
 .omega
def l5(h:cw u lz G D ai w v){b c}(a:∀f,aQ D ai f->c=f b):D b:=by
 by_cases d:u
 .exact((h.je d).1 b).1
 refine eQ λe=>?_;have g:=a _ (aL h 0);have i:=a _ (aL h 1)
 grind[ag]
end
section
variable{m:Prop}{lz:Nat->Obj->Prop}{G:Nat}{D:Nat->Prop}{ai f:Nat->Nat}{w v:aa}{a:aF}
def EU(h:cw m lz G D ai w v)(b:aQ D ai f)(c:D a.block):v.cell? (aG f a)=(w.cell? a).map (al f):=by
 have e:(aG f a).block=ai a.block:=b.on _ c;obtain⟨d,_⟩|⟨g,o,i,j,_⟩:=h.jG f b a.block c
 .simp[World.cell?,e,d];cases k:w.heap[a.block]? with
  |none=>simp
  |some o=>cases o<;>simp[bu,aG];split<;>simp
 .simp only[World.cell?,e,g,i,dead];cases o<;>first|exact j.elim|rfl
def a3G(h:cw m lz G D ai w v)(b:aQ D ai f){r}(c:D r):v.shape? (f r)=w.shape? r:=by
 rw[World.shape?,b.on _ c];obtain⟨d,_⟩|⟨e,o,g,i,_⟩:=h.jG f b r c
 .simp[World.shape?,d];cases j:w.heap[r]? with
  |none=>simp
  |some o=>cases o<;>simp[bu]
 .simp[World.shape?,e,g,dead];cases o<;>first|exact i.elim|rfl
def Hg(h:cw m lz G D ai w v)(b:aQ D ai f)(c:D a.block):v.frozen? (aG f a)=w.frozen? a:=by
 have e:(aG f a).block=ai a.block:=b.on _ c;obtain⟨d,_⟩|⟨g,o,i,j,_⟩:=h.jG f b a.block c
 .simp[World.frozen?,e,d];cases k:w.heap[a.block]? with
  |none=>simp
  |some o=>cases o<;>simp[bu,aG]<;>rfl
 .simp[World.frozen?,e,g,i,dead];cases o<;>first|exact j.elim|rfl
def cw.il(h:cw m lz G D ai w v){b c}(i:D b)(n:c=ai b){x y}(t:∀f,aQ D ai f->∀o,w.heap[b]?=some o->y (bu f o)=bu f (x o))(p:∀o,ee G o->w.heap[b]?=some o->ee G (x o))(u:w.heap[b]?=some dead->x dead=dead/\∀o,nN o->y o=o)(q:∀o,w.heap[b]?=some o->o≠dead->x o≠dead):cw m lz G D ai {w with heap:=w.heap.modify b x} {v with heap:=v.heap.modify c y}:=by
 subst n;refine⟨by simpa using h.nX,by simpa using h.n6,h.inj,λf k z g=>?_,λz o g d=>?_,by simpa using h.je⟩
 .simp only[kD];by_cases e:b=z
  .subst e;obtain⟨h0,r⟩|⟨A,o,B,C,E⟩:=h.jG f k b i
   all_goals grind
  .have:ai b≠ai z:=λs=>e (h.inj _ _ i g s);simp only[e,this,if_false];exact h.jG f k z g
 .simp[kD]at d;by_cases e:b=z
  .subst e;simp only[if_true]at d;cases j:w.heap[b]? with
   |none=>simp_all
   |some l=>simp[j]at d;subst d;exact p l (h.ok b l i j) j
  .simp[e]at d;exact h.ok z o g d
theorem a9t(g:aj->aj)(c:Array aj)(i x):(c.setIfInBounds i x).map g=(c.map g).setIfInBounds i (g x):=by simp_all
def cw.setCell(h:cw m lz G D ai w v)(d:D a.block){b x x'}(g:∀f,aQ D ai f->b=aG f a)(i:∀f,aQ D ai f->x'=al f x):cw m lz G D ai (w.setCell a x) (v.setCell b x'):=by
 have e:=g _ (aL h 0);have j:b.block=ai a.block:=by rw[e];exact(aL h 0).on _ d
 have c:b.off=a.off/\b.spot=a.spot:=by rw[e];exact⟨rfl,rfl⟩
 refine h.il d j (λf k o _=>?_) (λo c _=>?_) (λ_=>⟨rfl,λo c=>?_⟩) (λo _ l=>?_);rotate_left 3
 .cases o<;>first|exact l|(intro h;cases h)
 .cases o<;>simp[bu];rw[c.1,c.2,i f k]
  grind
 .cases o<;>simp_all [ee]
 .cases o<;>first|exact c.elim|rfl
theorem cw.freeze(h:cw m lz G D ai w v)(d:D a.block){b}(n)(g:∀f,aQ D ai f->b=aG f a):cw m lz G D ai (w.freeze a n) (v.freeze b n):=by
 have e:=g _ (aL h 0);have i:b.block=ai a.block:=by rw[e];exact(aL h 0).on _ d
 have c:b.off=a.off/\b.spot=a.spot:=by rw[e];exact⟨rfl,rfl⟩
 unfold World.freeze;split
 .exact h
 .refine h.il d i (λf k o _=>?_) (λo c _=>?_) (λ_=>⟨rfl,λo c=>?_⟩) (λo _ j=>?_);rotate_left 3
  .cases o<;>first|exact j|(intro h;cases h)
  .cases o<;>simp[bu];rw[c.1]
  .cases o<;>simp_all [ee]
  .cases o<;>first|exact c.elim|rfl
def cw.setObj(h:cw m lz G D ai w v){r g}(b:D r){o k}(n:∀f,aQ D ai f->g=f r)(u:∀f,aQ D ai f->k=bu f o)(l:yO G o):cw m lz G D ai {w with heap:=w.heap.setIfInBounds r o} {v with heap:=v.heap.setIfInBounds g k}:=by
 have p:g=ai r:=by rw[n _ (aL h 0)];exact(aL h 0).on _ b
 subst p;have x:r<w.heap.size↔ai r<v.heap.size:=by
  by_cases c:m
  .rw[((h.je c).1 r).2,(h.je c).2]
  .simp[(h.nX r b).resolve_left c,(h.n6 r b).resolve_left c]
 refine⟨by simpa using h.nX,by simpa using h.n6,h.inj,λf q z d=>?_,λz s d i=>?_,by simpa using h.je⟩
 .by_cases e:r=z
  .subst e;by_cases j:r<w.heap.size
   .exact .inl ⟨by grind,λ_ _=>by simp[j,l.2]⟩
   simp_all
  .have:ai r≠ai z:=λt=>e (h.inj _ _ b d t);simp only[dw e,dw this];exact h.jG f q z d
 .by_cases e:r=z
  .subst e;by_cases j:r<w.heap.size
   .simp[j]at i;exact i▸l.1
   simp_all
  .simp_all;exact h.ok z s d i
def ud(D:Nat->Prop)(r:Nat):Nat->Prop:=λb=>D b\/b=r
def lP(ai:Nat->Nat)(r c:Nat):Nat->Nat:=λb=>if b=r then c else ai b
def aQ.less{d c}(h:aQ d c f)(e:∀b,D b->d b/\c b=ai b):aQ D ai f:=⟨λb g=>by rw[h.on b (e b g).1,(e b g).2],h.inj⟩
def cw.kept(h:cw m lz G D ai w v)(b)(d:D b):lP ai w.heap.size v.heap.size b=ai b:=by
 unfold lP;split
 .rename_i e;obtain c|g:=h.nX b d
  .rw[((h.je c).1 b).2,(h.je c).2,e]
  .omega
 .rfl
def cw.new(h:cw m lz G D ai w v){o q}(y:∀f,aQ D ai f->q=bu f o)(r:yO G o):cw m lz G (ud D w.heap.size) (lP ai w.heap.size v.heap.size) {w with heap:=w.heap.push o} {v with heap:=v.heap.push q}:=by
 have g:=h.kept;have i:∀f,aQ (ud D w.heap.size) (lP ai w.heap.size v.heap.size) f->aQ D ai f:=λf p=>p.less λb c=>⟨.inl c,g b c⟩;have l:∀b,ud D w.heap.size b->b=w.heap.size\/b≠w.heap.size/\D b:=λb c=>by
  by_cases e:b=w.heap.size
  .omega
  .exact .inr ⟨e,c.resolve_right e⟩
 have s:lP ai w.heap.size v.heap.size w.heap.size=v.heap.size:=by simp[lP]
 have u:∀b,b≠w.heap.size->D b->ai b≠v.heap.size:=λb e c=>by
  obtain d|t:=h.n6 b c
  .rw[((h.je d).1 b).2,(h.je d).2];exact e
  .omega
 refine⟨?_,?_,?_,?_,?_,λd=>⟨λb=>⟨.inl ((h.je d).1 b).1,by rw[g b ((h.je d).1 b).1];exact((h.je d).1 b).2⟩,by simp[(h.je d).2]⟩⟩
 .rintro b (c|rfl)
  .rcases h.nX b c with d|t
   all_goals grind
  simp_all
 .rintro b (c|rfl)
  .rcases h.n6 b c with d|t
   all_goals grind
  simp_all
 .intro a b j c e;obtain rfl|⟨z,j⟩:=l a j<;>obtain rfl|⟨k,c⟩:=l b c
  .rfl
  .rw[s,g b c]at e;grind
  .rw[s,g a j]at e;simp_all
  .rw[g a j,g b c]at e;exact h.inj a b j c e
 .intro f p b c;obtain rfl|⟨k,c⟩:=l b c
  .exact .inl ⟨by grind,λ_ _=>by simp[r.2]⟩
  .rw[g b c,fB,fB,if_neg k,if_neg (u b k c)];exact h.jG f (i f p) b c
 .intro b x c n;obtain rfl|⟨k,c⟩:=l b c
  .simp at n;exact n▸r.1
  .rw[fB,if_neg k]at n;exact h.ok b x c n
end
variable{T:Tables}{F F':Array Func}{f:Nat->Nat}
def xa(d):∀t off,byteOfCell ⟨T,F'⟩ d t off=byteOfCell ⟨T,F⟩ d t off:=by
 induction d with
 |zero=>intros;rfl
 |succ d a=>
  intro t off;unfold byteOfCell;change (match Program.underlying ⟨T,F⟩ t with|some (.struct b)=>_|some (.array _ e)=>_|_=>_)=_;cases Program.underlying ⟨T,F⟩ t with
  |none=>rfl
  |some x=>cases x<;>simp only[a]<;>rfl
def PC(d):∀t off,cellHolding ⟨T,F'⟩ d t off=cellHolding ⟨T,F⟩ d t off:=by
 induction d with
 |zero=>intros;rfl
 |succ d a=>
  intro t off;unfold cellHolding;change (match Program.underlying ⟨T,F⟩ t with|some (.struct b)=>_|some (.array _ e)=>_|_=>_)=_;cases Program.underlying ⟨T,F⟩ t with
  |none=>rfl
  |some x=>cases x<;>simp only[a]<;>rfl
def a0F(d):∀t off,plainCell ⟨T,F'⟩ d t off=plainCell ⟨T,F⟩ d t off:=by
 induction d with
 |zero=>intros;rfl
 |succ d a=>
  intro t off;unfold plainCell;rw[show Program.underlying ⟨T,F'⟩ t=Program.underlying ⟨T,F⟩ t from rfl];cases Program.underlying ⟨T,F⟩ t with
  |none=>rfl
  |some x=>cases x<;>simp only[a]<;>rfl
def a4U(d):∀t,tight ⟨T,F'⟩ d t=tight ⟨T,F⟩ d t:=by
 induction d with
 |zero=>intros;rfl
 |succ d a=>
  intro t;unfold tight;rw[show Program.underlying ⟨T,F'⟩ t=Program.underlying ⟨T,F⟩ t from rfl];cases Program.underlying ⟨T,F⟩ t with
  |none=>rfl
  |some x=>cases x<;>simp only[a]<;>rfl
theorem EM(v):(al f v).bytes?=v.bytes? :=by cases v<;>simp[Value.bytes?]
def ZJ(v bs):(al f v).ofBytes bs=(v.ofBytes bs).map (al f):=by cases v<;>simp[Value.ofBytes]<;>split<;>simp
def ZI{v x:aj}{bs}(h:v.ofBytes bs=some x):al f x=x:=by
 cases v<;>simp[Value.ofBytes]at h
 .split at h<;>simp at h<;>subst h<;>simp
 .obtain⟨_,rfl⟩:=h;simp
 .obtain⟨_,rfl⟩:=h;simp
 .obtain⟨_,rfl⟩:=h;simp
def a3m(c e):∀n x stop,seenCells ⟨T,F'⟩ (c.map (al f)) e n x stop=seenCells ⟨T,F⟩ c e n x stop:=by
 intro n;induction n with
 |zero=>intros;rfl
 |succ n b=>
  intro x stop;unfold seenCells;dsimp;rw[PC (F:=F) (F':=F')];simp only[show∀t,Program.bytesOf ⟨T,F'⟩ t=Program.bytesOf ⟨T,F⟩ t from λ_=>rfl,show∀t,Program.cellsOf ⟨T,F'⟩ t=Program.cellsOf ⟨T,F⟩ t from λ_=>rfl,show Program.depth ⟨T,F'⟩=Program.depth ⟨T,F⟩from rfl,b,ip];split
  .rfl
  .split
   .rfl
   .cases Option.map (λa:Nat×Nat=>match a with|(i,s)=>(x / Program.bytesOf ⟨T,F⟩ e*Program.cellsOf ⟨T,F⟩ e+i,x / Program.bytesOf ⟨T,F⟩ e*Program.bytesOf ⟨T,F⟩ e+s)) (cellHolding ⟨T,F⟩ (Program.depth ⟨T,F⟩) e (x%Program.bytesOf ⟨T,F⟩ e))with
    |none=>rfl
    |some p=>
     grind[EM]
def qT{P}{w:aa}{at_}(h:∀c e z,w.heap[at_.block]? ≠some (.cells c e z))(t k b):∃x,w.seen P at_ t k b=.error x:=by
 cases a:w.heap[at_.block]? with
 |none=>
  unfold World.seen;rw[a];simp only[bind,Except.bind]
  (repeat' split)<;>exact⟨_,rfl⟩
 |some o=>
  cases o with
  |cells c e z=>simp_all
  |_=>
   unfold World.seen;rw[a];simp only[bind,Except.bind]
   (repeat' split)<;>exact⟨_,rfl⟩
def Kt{P}{w:aa}{at_ k}(h:w.heap[at_.block]?=some dead)(t b):∃x,w.seen P at_ t k b=.error x:=qT (λ_ _ _ a=>by rw[h]at a;cases a) t k b
section
variable{m:Prop}{lz:Nat->Obj->Prop}{D:Nat->Prop}{ai:Nat->Nat}{w v:aa}
def Kv(
         h:cw m lz T.globals.size D ai w v) (j:aQ D ai f) {at_ k} (n:D at_.block) (r:w.heap[at_.block]? ≠some dead) (u b):v.seen ⟨T,F'⟩ (aG f at_) u (aG f k) b=(w.seen ⟨T,F⟩ at_ u k b).map λx=>(x.1.map (al f),x.2):=by
 have y:=h.live f j n r;have z:(aG f at_).block=ai at_.block:=j.on _ n;unfold World.seen;dsimp only;rw[a0F (F:=F) (F':=F'),z,y];simp only[xa (F:=F) (F':=F'),show(aG f k).spot=k.spot from rfl,show(aG f at_).spot=at_.spot from rfl,show(aG f k).off=k.off from rfl,show(aG f at_).off=at_.off from rfl,show Program.depth ⟨T,F'⟩=Program.depth ⟨T,F⟩from rfl,
  show∀t,Program.bytesOf ⟨T,F'⟩ t=Program.bytesOf ⟨T,F⟩ t from λ_=>rfl,show∀t,Program.cellsOf ⟨T,F'⟩ t=Program.cellsOf ⟨T,F⟩ t from λ_=>rfl]
 cases (k.spot.isSome||at_.spot.isSome)with
 |true=>rfl
 |false=>
  simp only[d8,if_false];cases plainCell ⟨T,F⟩ (Program.depth ⟨T,F⟩) u k.off with
  |none=>rfl
  |some g=>
   dsimp only;cases g.bytes?.map (·.length)with
   |none=>rfl
   |some a=>
    dsimp only;cases byteOfCell ⟨T,F⟩ (Program.depth ⟨T,F⟩) u k.off with
    |none=>rfl
    |some β=>
     dsimp only;cases w.heap[at_.block]? with
     |none=>rfl
     |some o=>
      cases o<;>try rfl
      rename_i c e A;simp only[bY,bu];by_cases p:Program.cellsOf ⟨T,F⟩ e=0
      .simp only[p,if_true];rfl
      .simp only[p,if_false];cases byteOfCell ⟨T,F⟩ (Program.depth ⟨T,F⟩) e (at_.off%Program.cellsOf ⟨T,F⟩ e)with
       |none=>rfl
       |some q=>
        dsimp only;rw[a3m (F:=F) (F':=F')];cases seenCells ⟨T,F⟩ c e (a+1) (at_.off / Program.cellsOf ⟨T,F⟩ e*Program.bytesOf ⟨T,F⟩ e+q+β) (at_.off / Program.cellsOf ⟨T,F⟩ e*Program.bytesOf ⟨T,F⟩ e+q+β+a)with
        |error _=>rfl
        |ok d=>
         cases b with
         |false=>rfl
         |true=>
          obtain _|⟨⟨i,s,B⟩,_|⟨x,l⟩⟩:=d
          .rfl
          .simp only[bind,Except.bind,if_true];split<;>rfl
          .rfl
def a5P(h:cw m lz T.globals.size D ai w v)(l:aQ D ai f){at_ k}(n:D at_.block){u b x t}(a:w.viewLoad ⟨T,F⟩ at_ u k b=.ok (x,t)):v.viewLoad ⟨T,F'⟩ (aG f at_) u (aG f k) b=.ok (x,t.map (aG f))/\al f x=x:=by
 unfold World.viewLoad at a⊢;have o:w.heap[at_.block]? ≠some dead:=λp=>by obtain⟨e,r⟩:=Kt (P:=⟨T,F⟩) (k:=k) p u b;rw[r]at a;cases a
 rw[Kv (F:=F) (F':=F') h l n o];cases i:w.seen ⟨T,F⟩ at_ u k b with
 |error e=>rw[i]at a;cases a
 |ok q=>
  obtain⟨c,e,s,first,d,g⟩:=q;rw[i]at a;simp[Except.map,bind,Except.bind]at a⊢;cases j:d.ofBytes (g.flatMap λx=>(x.2.2.drop (first - x.2.1)).take (first+(d.bytes?.map (·.length)).getD 0 - max first x.2.1))with
  |none=>simp_all
  |some y=>simp[j]at a⊢;cases a;exact⟨by simp[pure,Except.pure,aG],ZI j⟩
def a9w{P at_ k u e b c h first g d}(a:w.seen P at_ u k b=.ok (c,e,h,first,g,d)):w.heap[at_.block]?=some (.cells c e h):=by
 unfold World.seen at a;simp only[bind,Except.bind]at a;split at a
 .cases a
 .split at a
  .split at a
   .split at a
    .split at a
     .rename_i l n j i;split at a
      .cases a
      .split at a
       .split at a
        .cases a
        .split at a
         .split at a
          .split at a
           .cases a
           .cases a;exact i
          .cases a
         .cases a;exact i
       .cases a
     .cases a
    .cases a
   .cases a
  .cases a
def BG{α:Type}{g:Array aj->α->Except String (Array aj)}(a:∀c x,g (c.map (al f)) x=(g c x).map (Array.map (al f))):∀(l:List α) (c),l.foldlM g (c.map (al f))=(l.foldlM g c).map (Array.map (al f)):=by
 intro l;induction l with
 |nil=>intro c;rfl
 |cons y l b=>
  intro c;simp[a];cases g c y with
  |error e=>rfl
  |ok d=>exact b d
def a5S(h:cw m lz T.globals.size D ai w v){at_ k l N}(A:D at_.block){u b x x' w' t}(a:w.viewStore ⟨T,F⟩ at_ u k x b=.ok (w',t))(p:∀f,aQ D ai f->l=aG f at_)(U:∀f,aQ D ai f->N=aG f k)(V:∀f,aQ D ai f->x'=al f x):∃B O,v.viewStore ⟨T,F'⟩ l u N x' b=.ok (B,O)/\cw m lz T.globals.size D ai w' B/\(∀f,aQ D ai f->O=t.map (aG f))/\(∃o,w'={w with heap:=w.heap.setIfInBounds at_.block o})/\∃o,B={v with heap:=v.heap.setIfInBounds l.block o}:=by
 have d:=aL h 0;unfold World.viewStore at a⊢;have C:w.heap[at_.block]? ≠some dead:=λW=>by obtain⟨e,X⟩:=Kt (P:=⟨T,F⟩) (k:=k) W u b;rw[X]at a;simp only[bind,Except.bind]at a;split at a<;>cases a
 rw[p _ d,U _ d,Kv (F:=F) (F':=F') h d A C,a4U (F:=F) (F':=F'),show Program.depth ⟨T,F'⟩=Program.depth ⟨T,F⟩from rfl];cases Q:tight ⟨T,F⟩ (Program.depth ⟨T,F⟩) u with
 |false=>rw[Q]at a;cases a
 |true=>
  rw[Q]at a;simp only[b0M,d8,if_false]at a⊢;cases E:w.seen ⟨T,F⟩ at_ u k b with
  |error e=>rw[E]at a;cases a
  |ok q=>
   obtain⟨c,e,H,first,R,i⟩:=q;rw[E]at a;have Y:x'.bytes?=x.bytes? :=by rw[V _ d,EM]
   simp only[Except.map,bind,Except.bind,Y]at a⊢;cases S:x.bytes? with
   |none=>rw[S]at a;cases a
   |some bytes=>
    rw[S]at a;dsimp only at a⊢;split at a
    .cases a
    .rename_i r;simp only[r,if_false];have Z:=a9w E;revert a;generalize s:(λ(ab:Array aj) (x:Nat×Nat×List UInt8)=>(_:Except String (Array aj)))=g;have I:∀f c x,g (c.map (al f)) x=(g c x).map (Array.map (al f)):=by
      intro f c y;rw[<-s];simp only[ip];cases (decide (y.2.1<first)||decide (y.2.1+y.2.2.length>first+bytes.length))with
      |true=>rfl
      |false=>
       simp only[d8,if_false];cases (decide (H.1<=y.1)&&decide (y.1<H.2))with
       |true=>rfl
       |false=>
        simp;cases c[y.1]? with
        |none=>rfl
        |some J=>
         simp[ZJ];cases J.ofBytes ((bytes.drop (y.2.1 - first)).take y.2.2.length)with
         |none=>rfl
         |some ad=>simp only[bY,pure,Except.pure,Except.map];rw[<-a9t]
     clear s;intro a;rw[BG (λc x=>I _ c x)];cases j:i.foldlM g c with
     |error e=>rw[j]at a;cases a
     |ok K=>
      rw[j]at a;dsimp at a;cases a;have z:∀f,aQ D ai f->K.map (al f)=K.map (al (ag D ai (v.heap.size+0))):=by intro f n;have e1:=h.live f n A C;have L:=h.live _ d A C;rw[e1,Z]at L;simp only[bY,bu,cK,Obj.cells.injEq]at L;have M:=BG (I f) i c;have f2:=BG (I (ag D ai (v.heap.size+0))) i c;rw[L.1,f2,j]at M;simp only[Except.map,b1r]at M;exact M.symm
      refine⟨_,_,rfl,?_,?_,⟨_,rfl⟩,⟨_,rfl⟩⟩
      .refine h.setObj (o:=.cells K e H) A (λf n=>?_) (λf n=>?_) ⟨trivial,by simp[dead]⟩
       .rw[<-p _ d,p f n];rfl
       .simp[bu,z f n]
      .intro f n;simp only[b0R];congr 1;funext y;simp only[Function.comp];rw[<-p _ d,p f n];rfl
end
def nW(B:Nat)(e:aT):Prop:=match e.loc with
 | .cell a=>a.block<B
 | .obj r=>r<B
 |_=>True
def nW.mono{B a e}(h:nW B e)(b:B<=a):nW a e:=by
 grind[nW]
def ET{w:aa}{a x}(h:w.cell? a=some x):a.block<w.heap.size:=by
 grind[World.cell?]
def a5O{P}{w:aa}{at_ k u b x t}(h:w.viewLoad P at_ u k b=.ok (x,t)):∀a∈t,a.block<w.heap.size:=by
 unfold World.viewLoad at h;cases d:w.seen P at_ u k b with
 |error e=>rw[d]at h;cases h
 |ok q=>
  obtain⟨c,e,j,first,i,g⟩:=q;have l:=a9w d;rw[d]at h;simp[bind,Except.bind]at h;split at h
  .simp[pure,Except.pure]at h;rw[<-h.2]
   grind
  .cases h
def a5R{P}{w w':aa}{at_ k u b x t}(h:w.viewStore P at_ u k x b=.ok (w',t)):∀a∈t,a.block<w.heap.size:=by
 unfold World.viewStore at h;cases d:w.seen P at_ u k b with
 |error e=>rw[d]at h;simp only[bind,Except.bind]at h;split at h<;>cases h
 |ok q=>
  obtain⟨c,e,n,first,i,g⟩:=q;have j:=a9w d;rw[d]at h;simp only[bind,Except.bind]at h;split at h
  .cases h
  split at h;rotate_left
  .cases h
  split at h
  .cases h
  split at h
  .cases h
  simp[pure,Except.pure]at h;rw[<-h.2];intro a l;obtain⟨q,_,rfl⟩:=eS.1 l;exact(bz.1 j).1
def gG(w v:aa)(n:Nat):Prop:=∀i,w.drawn+i<n->v.tape (v.drawn+i)=w.tape (w.drawn+i)
def fK{α:Type}:Result α->aa
 | .ok _ w=>w
 | .halt _ w=>w
def OJ{α}:∀(a:Ask α) (w:aa),w.drawn<=(w.ask a).2.drawn:=by
 intro a;induction a with
 |done a=>intro w;exact az _
 |ask c b k d=>
  intro w;simp[World.ask]
  grind
def a4p(c)(w:aa):w.drawn<=(w.sys c).2.drawn:=by
 have:=OJ (Kernel.perform c w.os) w;unfold World.sys
 grind
theorem TF{P}{w f:aa}{a v b t}(h:w.farStore P a v b=.ok (f,t)):f.drawn=w.drawn:=by
 simp[World.farStore]at h;split at h
 .rename_i d u g;cases c:w.viewStore P d u a v b with
  |error e=>rw[c]at h;cases h
  |ok r=>
   rw[c]at h;cases h;unfold World.viewStore at c;simp only[bind,Except.bind]at c;split at c
   .cases c
   .split at c
    .cases c
    .split at c
     .split at c
      .cases c
      .split at c
       .cases c
       .cases c;rfl
     .cases c
 .cases h
def Ki{P α}:∀(s:Sem α) (w) (es),w.drawn<=(fK (s.runT P w es).1).drawn:=by
 intro s;induction s with
 |pure a=>intros;exact az _
 |load m a k b=>
  intro w es;simp only[Sem.runT];split
  .simp_all
  .split
   .simp_all
   .exact az _
 |store m a v k b=>
  intro w es;have e:(∀c,v≠Value.agg c)->(∀c,v≠Value.tuple c)->w.drawn<=(fK (Sem.runT P (.store m a v k) w es).1).drawn:=by
   intro i j;have f:Sem.runT P (.store m a v k) w es=match w.cell? a with
     |some _=>if w.frozen? a then (.halt (.unsupported (.unsafePointer "a write to bytes that a string shares")) w,es)else k.runT P (w.setCell a v) (es.push ⟨.cell a,true,m==.atomic⟩)
     |none=>match w.farStore P a v (m==.atomic)with
      | .ok (w,d)=>k.runT P w (es++d.toArray.map (⟨.cell ·,true,m==.atomic⟩))
      | .error h=>(.halt h w,es):=by
    cases v<;>first|rfl|simp_all|simp_all
   rw[f];split
   .split
    .exact az _
    .exact b (w.setCell a v) _
   .cases l:w.farStore P a v (m==.atomic)with
    |ok q=>
     grind[TF]
    |error h=>exact az _
  cases v<;>first|exact az _|exact e a9i a9i
 |new o k b=>intro w es;exact b _ {w with heap:=w.heap.push o} _
 |shape r k b=>intro w es;exact b _ _ _
 |freeze a n k b=>
  intro w es;have:=b (w.freeze a n) es;have g:(w.freeze a n).drawn=w.drawn:=by grind[World.freeze]
  rw[g]at this;exact this
 |frozen a k b=>intro w es;exact b _ _ _
 |getObj r k b=>intro w es;simp[Sem.runT];split<;>first|exact az _|simp_all
 |setObj r o k b=>intro w es;simp[Sem.runT];split<;>first|exact az _|grind
 |choose q k b=>
  intro w es;simp[Sem.runT]
  grind
 |sys c k b=>intro w es;exact dt (a4p c w) (b _ (w.sys c).2 _)
 |program k b=>intro w es;exact b _ _ _
 |mark m k b=>intro w es;exact b _ _
 |halt h=>intros;exact az _
structure Grown (D D':Nat->Prop) (b1:Nat->Nat) (w w' v v':aa):Prop where
 grow:v'.heap.size+w.heap.size=w'.heap.size+v.heap.size
 Ab:∀c,c<w.heap.size->¬D c->w'.heap[c]?=w.heap[c]?
 yF:∀b,w.heap.size<=b->b<w'.heap.size->D' b
 vE:∀b,D' b->D b\/(w.heap.size<=b/\b1 b+w.heap.size=b+v.heap.size)
def Grown.still{D ai w w' v v'}(a:w'.heap.size=w.heap.size)(d:v'.heap.size=v.heap.size)(e:∀c,¬D c->w'.heap[c]?=w.heap[c]?):Grown D D ai w w' v v':=
 ⟨by rw[a,d,b1M],λc _ h=>e c h,λb f g=>a9h,λ_ h=>.inl h⟩
structure a9o (D D':Nat->Prop) (ai b1:Nat->Nat) (w w' v v':aa) (u u':Array aT):Prop where
 more:∀b,D b->D' b/\b1 b=ai b
 new:∀b,D' b->D b\/(w.heap.size<=b/\v.heap.size<=b1 b)
 size:v.heap.size<=v'.heap.size
 pA:w.heap.size<=w'.heap.size
 frame:∀c,c<v.heap.size->(∀b,D b->ai b≠c)->v'.heap[c]?=v.heap[c]?
 tape:v'.tape=v.tape
 os:v'.os=v.os
 output:v'.output=v.output
 pB:w'.tape=w.tape
 oh:w'.os=w.os
 rp:w'.output=w.output
 drawn:∃j,v'.drawn=v.drawn+j/\w'.drawn=w.drawn+j
 ev:∀f,aQ D' b1 f->u'=u.map (bK f)
 gr:Grown D D' b1 w w' v v'
 qu:∀e∈u,∀m,e.loc=.mark m->qC m=true
 lw:∀e∈u',nW v'.heap.size e
section
variable{D D' b3:Nat->Prop}{ai b1 b2:Nat->Nat}{w w' b5 v v' b4:aa}{u u' x x':Array aT}
def a9o.refl:a9o D D ai ai w w v v #[] #[]:=
 ⟨λb a=>⟨a,rfl⟩,λb a=>.inl a,az _,az _,λ_ _ _=>rfl,rfl,rfl,rfl,rfl,rfl,rfl,⟨0,rfl,rfl⟩,λ_ _=>a9i,Grown.still rfl rfl λ_ _=>rfl,a9i,a9i⟩
def a9o.trans(h:a9o D D' ai b1 w w' v v' u u')(k:a9o D' b3 b1 b2 w' b5 v' b4 x x'):a9o D b3 ai b2 w b5 v b4 (u++x) (u'++x') where
 more b hb:=⟨(k.more b (h.more b hb).1).1,by rw[(k.more b (h.more b hb).1).2,(h.more b hb).2]⟩
 new b hb:=by
  have h1:=h.size;have h2:=h.pA;obtain hb'|hb':=k.new b hb
  .rcases h.new b hb' with hb''|hb''
   .simp_all
   .exact .inr ⟨hb''.1,by rw[(k.more b hb').2];omega⟩
  omega
 size:=dt h.size k.size
 pA:=dt h.pA k.pA
 frame c hc hn:=by
  rw[k.frame c (bL hc h.size) ?_,h.frame c hc hn];intro b hb e;obtain hb'|hb':=h.new b hb
  .exact hn b hb' (by rw[<-(h.more b hb').2];exact e)
  .omega
 tape:=k.tape.trans h.tape
 os:=k.os.trans h.os
 output:=k.output.trans h.output
 pB:=k.pB.trans h.pB
 oh:=k.oh.trans h.oh
 rp:=k.rp.trans h.rp
 drawn:=by obtain⟨i,h1,h2⟩:=h.drawn;obtain⟨j,k1,k2⟩:=k.drawn;exact⟨i+j,a9h,a9h⟩
 ev f hf:=by rw[k.ev f hf,h.ev f (hf.less k.more),jV]
 gr:=by
  have g1:=h.gr.grow;have g2:=k.gr.grow;refine⟨a9h,λc hc hn=>?_,λb h1 h2=>?_,λb hb=>?_⟩
  .rw[k.gr.Ab c (bL hc h.pA) ?_,h.gr.Ab c hc hn];intro hd;obtain h1|h1:=h.gr.vE c hd
   .grind
   .omega
  .by_cases hb:b<w'.heap.size
   .exact(k.more b (h.gr.yF b h1 hb)).1
   .exact k.gr.yF b a9h h2
  .rcases k.gr.vE b hb with h1|h1
   .rcases h.gr.vE b h1 with h2|h2
    .simp_all
    .exact .inr ⟨h2.1,by rw[(k.more b h1).2];omega⟩
   .have:=h.pA;omega
 qu e he:=(ot.1 he).elim (h.qu e) (k.qu e)
 lw e he:=(ot.1 he).elim (λq=>(h.lw e q).mono k.size) (k.lw e)
end
def BH{a:Array Obj}{y b c}(h:b≠c):(a.modify b y)[c]?=a[c]? :=by rw[kD];simp[h]
section
variable{lk:Prop}{lz:Nat->Obj->Prop}{T:Tables}{F F':Array Func}{α β:Type}
def a2W{R:(Nat->Nat)->α->β->Prop}:∀s s' D ai w v w' es A p a,cw lk lz T.globals.size D ai w v->gG w v w'.drawn->v.os=w.os->(∀f,aQ D ai f->aB ⟨T,F⟩ ⟨T,F'⟩ f (R f) s s')->s.runT ⟨T,F⟩ w es=(.ok a w',A)->∃(D':Nat->Prop) (b1:Nat->Nat) (b:β) (v':aa) (u u':Array aT),s'.runT ⟨T,F'⟩ v p=(.ok b v',p++u')/\A=es++u/\cw lk lz T.globals.size D' b1 w' v'/\(∀f,aQ D' b1 f->R f a b)/\a9o D D' ai b1 w w' v v' u u':=by
 intro s;induction s with
 |pure a0=>intro s' D ai w v w' es A p a h M E I t;have C:=I _ (aL h 0);cases s'<;>simp only[aB]at C;rename_i b0;simp[Sem.runT]at t;obtain⟨⟨rfl,rfl⟩,rfl⟩:=t;exact⟨D,ai,b0,v,#[],#[],by simp[Sem.runT],a9i,h,I,a9o.refl⟩
 |load m ad k Q=>
  intro s' D ai w v w' es A p a h M E I t;have C:=I _ (aL h 0);cases s'<;>simp only[aB]at C;rename_i L l N;obtain⟨rfl,_,_⟩:=C;have U:∀f,aQ D ai f->l=aG f ad:=λf d=>(I f d).2.1;have O:D ad.block:=l5 h (c:=l.block) λf d=>by rw[U f d];rfl
  have V:=λf d=>EU (a:=ad) (f:=f) h d O;simp only[Sem.runT]at t;cases W:w.cell? ad with
  |none=>
   rw[W]at t;simp only[World.farLoad]at t;cases ho:w.heap[ad.block]? with
   |none=>simp[ho]at t
   |some o=>
    cases o<;>simp only[ho]at t<;>try(cases t;done)
    rename_i at_ u;cases hv:w.viewLoad ⟨T,F⟩ at_ u ad (L==.atomic)with
    |error e=>rw[hv]at t;cases t
    |ok q=>
     obtain⟨x,B⟩:=q;rw[hv]at t;dsimp at t;have K:=λf d=>h.live f d O (by rw[ho];simp[dead]);rw[ho]at K;simp[bu]at K;have ab:D at_.block:=l5 h (c:=(aG (ag D ai (v.heap.size+0)) at_).block) λf d=>by have S:=K f d;rw[K _ (aL h 0)]at S;simp only[cK,Obj.view.injEq]at S;rw[S.1];rfl
     have ae:=λf d=>a5P (F:=F) (F':=F') (f:=f) h d ab hv;let ⟨D',b1,b,v',u1,u1',X,Y,h3,h4,h5⟩:=Q x (N x) D ai w v w' (es++B.toArray.map (⟨.cell ·,false,L==.atomic⟩)) A (p++(B.map (aG (ag D ai (v.heap.size+0)))).toArray.map (⟨.cell ·,false,L==.atomic⟩)) a h M E
      (λf d=>by
       have:=(I f d).2.2 x;rw[(ae f d).2]at this;exact this) t
     refine⟨D',b1,b,v',B.toArray.map (⟨.cell ·,false,L==.atomic⟩)++u1,(B.map (aG (ag D ai (v.heap.size+0)))).toArray.map (⟨.cell ·,false,L==.atomic⟩)++u1',?_,by simp_all,h3,h4,?_⟩
     .have e2:=V _ (aL h 0);rw[<-U _ (aL h 0),W]at e2;have e3:=K _ (aL h 0);have e4:l.block=ai ad.block:=by rw[U _ (aL h 0)];exact(aL h 0).on _ O
      have e5:=(ae _ (aL h 0)).1;rw[<-U _ (aL h 0)]at e5;simp only[Sem.runT,e2,mu,World.farLoad,e4,e3,e5];simp_all
     .refine a9o.trans ?_ h5;refine⟨λb J=>⟨J,rfl⟩,λb J=>.inl J,az _,az _,λ_ _ _=>rfl,rfl,rfl,rfl,rfl,rfl,rfl,⟨0,rfl,rfl⟩,λf d=>?_,Grown.still rfl rfl λ_ _=>rfl,by intro e H;simp at H;first|(subst H;simp;done)|(obtain⟨_,_,rfl⟩:=H;simp;done),λe H=>by obtain⟨y,hy,rfl⟩:=mr.1 H;exact a5O (ae _ (aL h 0)).1 y (by simpa using hy)⟩;have e6:=(ae f d).1;have e7:=(ae _ (aL h 0)).1;have e8:aG f at_=aG (ag D ai (v.heap.size+0)) at_:=by have S:=K f d;rw[K _ (aL h 0)]at S;simp only[cK,Obj.view.injEq]at S;exact S.1.symm
      rw[e8,<-U f d,U _ (aL h 0),e7]at e6;simp only[b1r,b0N,true_and]at e6;rw[e6];simp[bK,cH]
  |some x=>
   rw[W]at t;let ⟨D',b1,b,v',u,u',X,Y,h3,h4,h5⟩:=Q x (N (al (ag D ai (v.heap.size+0)) x)) D ai w v w' (es.push ⟨.cell ad,false,L==.atomic⟩) A (p.push ⟨.cell l,false,L==.atomic⟩) a h M E
    (λf d=>by
     have S:=V f d;rw[<-U f d]at S;have e2:=V _ (aL h 0);rw[<-U _ (aL h 0),S,W]at e2;simp only[bY,cK]at e2;rw[<-e2];exact(I f d).2.2 x) t
   refine⟨D',b1,b,v',#[⟨.cell ad,false,L==.atomic⟩]++u,#[⟨.cell l,false,L==.atomic⟩]++u',?_,by simp_all,h3,h4,?_⟩
   .simp only[Sem.runT];have e2:=V _ (aL h 0);rw[<-U _ (aL h 0),W]at e2;rw[e2];simp only[bY];simp_all
   .refine a9o.trans ?_ h5;exact⟨λb J=>⟨J,rfl⟩,λb J=>.inl J,az _,az _,λ_ _ _=>rfl,rfl,rfl,rfl,rfl,rfl,rfl,⟨0,rfl,rfl⟩,λf d=>by simp[bK,cH,<-U f d],Grown.still rfl rfl λ_ _=>rfl,by intro e H;simp at H;first|(subst H;simp;done)|(obtain⟨_,_,rfl⟩:=H;simp;done),λe H=>by simp at H;subst H;exact ET (w:=v) (a:=l) (x:=al _ x) (by rw[U _ (aL h 0),V _ (aL h 0),W];rfl)⟩
 |store m ad x k Q=>
  intro s' D ai w v w' es A p a h M E I t;have C:=I _ (aL h 0);cases s'<;>simp only[aB]at C;rename_i L l x' N;obtain⟨rfl,_,_,_⟩:=C;have U:∀f,aQ D ai f->l=aG f ad:=λf d=>(I f d).2.1;have ex:∀f,aQ D ai f->x'=al f x:=λf d=>(I f d).2.2.1;have O:D ad.block:=l5 h (c:=l.block) λf d=>by rw[U f d];rfl
  have J:l.block=ai ad.block:=by rw[U _ (aL h 0)];exact(aL h 0).on _ O
  have V:=EU (a:=ad) h (aL h 0) O;have hz:=Hg (a:=ad) h (aL h 0) O;rw[<-U _ (aL h 0)]at V hz;have au:(∀c,x≠.agg c)/\∀c,x≠.tuple c:=by constructor<;>rintro c rfl<;>simp[Sem.runT]at t
  have ba:(∀c,x'≠.agg c)/\∀c,x'≠.tuple c:=by have e:=ex _ (aL h 0);obtain⟨X,Y⟩:=au;constructor<;>rintro c rfl<;>cases x<;>simp_all
  have bd:Sem.runT ⟨T,F⟩ (.store L ad x k) w es=match w.cell? ad with
    |some _=>if w.frozen? ad then (.halt (.unsupported (.unsafePointer "a write to bytes that a string shares")) w,es)else k.runT ⟨T,F⟩ (w.setCell ad x) (es.push ⟨.cell ad,true,L==.atomic⟩)
    |none=>match w.farStore ⟨T,F⟩ ad x (L==.atomic)with
     | .ok (w,B)=>k.runT ⟨T,F⟩ w (es++B.toArray.map (⟨.cell ·,true,L==.atomic⟩))
     | .error h=>(.halt h w,es):=by
   cases x<;>first|rfl|exact absurd rfl (au.1 _)|exact absurd rfl (au.2 _)
  have aq:Sem.runT ⟨T,F'⟩ (.store L l x' N) v p=match v.cell? l with
    |some _=>if v.frozen? l then (.halt (.unsupported (.unsafePointer "a write to bytes that a string shares")) v,p)else N.runT ⟨T,F'⟩ (v.setCell l x') (p.push ⟨.cell l,true,L==.atomic⟩)
    |none=>match v.farStore ⟨T,F'⟩ l x' (L==.atomic)with
     | .ok (w,B)=>N.runT ⟨T,F'⟩ w (p++B.toArray.map (⟨.cell ·,true,L==.atomic⟩))
     | .error h=>(.halt h v,p):=by
   cases x'<;>first|rfl|exact absurd rfl (ba.1 _)|exact absurd rfl (ba.2 _)
  rw[bd]at t;cases W:w.cell? ad with
  |none=>
   rw[W]at t;simp only[World.farStore]at t;cases ho:w.heap[ad.block]? with
   |none=>simp[ho]at t
   |some o=>
    cases o<;>simp only[ho]at t<;>try(cases t;done)
    rename_i at_ u;cases hv:w.viewStore ⟨T,F⟩ at_ u ad x (L==.atomic)with
    |error e=>rw[hv]at t;cases t
    |ok q=>
     obtain⟨w1,B⟩:=q;rw[hv]at t;dsimp at t;have K:=λf d=>h.live f d O (by rw[ho];simp[dead]);rw[ho]at K;simp[bu]at K;have g:∀f,aQ D ai f->aG (ag D ai (v.heap.size+0)) at_=aG f at_:=by intro f d;have S:=K f d;rw[K _ (aL h 0)]at S;simp only[cK,Obj.view.injEq]at S;exact S.1
     have ab:D at_.block:=l5 h (c:=(aG (ag D ai (v.heap.size+0)) at_).block) λf d=>by rw[g f d];rfl
     let ⟨v1,t1,hv1,hh1,ht1,⟨ow,hw1⟩,⟨ov,hov⟩⟩:=a5S (F:=F) (F':=F') h ab hv g U ex;have bl:(aG (ag D ai (v.heap.size+0)) at_).block=ai at_.block:=(aL h 0).on _ ab;let ⟨D',b1,b,v',u1,u1',X,Y,h3,h4,h5⟩:=Q N D ai w1 v1 w' (es++B.toArray.map (⟨.cell ·,true,L==.atomic⟩)) A (p++t1.toArray.map (⟨.cell ·,true,L==.atomic⟩)) a hh1 (by rw[hw1,hov];exact M) (by rw[hw1,hov];exact E)
      (λf d=>(I f d).2.2.2) t
     refine⟨D',b1,b,v',B.toArray.map (⟨.cell ·,true,L==.atomic⟩)++u1,t1.toArray.map (⟨.cell ·,true,L==.atomic⟩)++u1',?_,by simp_all,h3,h4,?_⟩
     .rw[aq,V,W];have e3:=K _ (aL h 0);simp only[mu,World.farStore,J,e3,hv1];simp_all
     .refine a9o.trans ?_ h5;refine⟨λb J=>⟨J,rfl⟩,λb J=>.inl J,by rw[hov];simp,by rw[hw1];simp,λc _ hn=>?_,by rw[hov],by rw[hov],by rw[hov],by rw[hw1],by rw[hw1],by rw[hw1],⟨0,by rw[hov];rfl,by rw[hw1];rfl⟩,λf d=>?_,Grown.still (by rw[hw1];simp) (by rw[hov];simp) λc V=>by rw[hw1];simp;rw[dw];intro e;exact V (e▸ab),by intro e H;simp at H;first|(subst H;simp;done)|(obtain⟨_,_,rfl⟩:=H;simp;done),λe H=>by obtain⟨y,hy,rfl⟩:=mr.1 H;have:=a5R hv1 y (by simpa using hy);rw[hov];simpa[nW]using this⟩
      .rw[hov];simp only[];rw[dw];rw[bl];exact hn _ ab
      .rw[ht1 f d];simp[bK,cH]
  |some y=>
   simp[W]at t;by_cases bb:w.frozen? ad=true
   .simp[bb]at t
   .have ar:w.frozen? ad=false:=by simpa using bb
    simp only[ar,d8,if_false]at t;let ⟨D',b1,b,v',u,u',X,Y,h3,h4,h5⟩:=Q N D ai (w.setCell ad x) (v.setCell l x') w' (es.push ⟨.cell ad,true,L==.atomic⟩) A (p.push ⟨.cell l,true,L==.atomic⟩) a (h.setCell O U ex) M E (λf d=>(I f d).2.2.2) t;refine⟨D',b1,b,v',#[⟨.cell ad,true,L==.atomic⟩]++u,#[⟨.cell l,true,L==.atomic⟩]++u',?_,by simp_all,h3,h4,?_⟩
    .rw[aq,V,W,hz,ar];simp only[bY,d8,if_false];simp_all
    .refine a9o.trans ?_ h5;exact⟨λb J=>⟨J,rfl⟩,λb J=>.inl J,by simp[World.setCell],by simp[World.setCell],λc _ hn=>by simp[World.setCell];exact BH (by rw[J];exact hn _ O),rfl,rfl,rfl,rfl,rfl,rfl,⟨0,rfl,rfl⟩,λf d=>by simp[bK,cH,<-U f d],Grown.still (by simp[World.setCell]) (by simp[World.setCell]) λc V=>by simp[World.setCell];exact BH λe=>V (e▸O),by intro e H;simp at H;first|(subst H;simp;done)|(obtain⟨_,_,rfl⟩:=H;simp;done),λe H=>by simp at H;subst H;have:=ET (w:=v) (a:=l) (by rw[V,W];rfl);simpa[nW,World.setCell]using this⟩
 |new o k Q=>
  intro s' D ai w v w' es A p a h M E I t;have C:=I _ (aL h 0);cases s'<;>simp only[aB]at C;rename_i o' N;have eo:∀f,aQ D ai f->o'=bu f o:=λf d=>(I f d).1;have hm:∀b,D b->ud D w.heap.size b/\lP ai w.heap.size v.heap.size b=ai b:=λb J=>⟨.inl J,h.kept b J⟩;simp[Sem.runT]at t;let ⟨D',b1,b,v',u,u',X,Y,h3,h4,h5⟩:=Q w.heap.size (N v.heap.size) (ud D w.heap.size) (lP ai w.heap.size v.heap.size) {w with heap:=w.heap.push o} {v with heap:=v.heap.push o'} w' es A p a (h.new eo C.2.1) M E
   (λf d=>by
    have e:=d.on w.heap.size (.inr rfl);simp only[lP,if_true]at e;have:=(I f (d.less hm)).2.2 w.heap.size;rw[e]at this;exact this) t
  refine⟨D',b1,b,v',u,u',by simp[Sem.runT];exact X,Y,h3,h4,?_⟩;have:=a9o.trans (D:=D) (ai:=ai) (w:=w) (v:=v) (w':={w with heap:=w.heap.push o}) (v':={v with heap:=v.heap.push o'}) (u:=#[]) (u':=#[]) ⟨hm,λb J=>J.elim .inl λe=>.inr ⟨a9h,by simp[lP,e]⟩,a9i,a9i,λc V _=>by simp[b1u V],rfl,rfl,rfl,rfl,rfl,rfl,⟨0,rfl,rfl⟩,λ_ _=>a9i,⟨a9l,λc V _=>by simp;rw[b1u V];exact(eY V).symm,λb X Y=>by simp at Y;exact .inr a9h,λb J=>J.elim .inl λe=>.inr ⟨a9h,by simp[lP,e];omega⟩⟩,a9i,a9i⟩ h5;simpa using this
 |shape r k Q=>intro s' D ai w v w' es A p a h M E I t;have C:=I _ (aL h 0);cases s'<;>simp only[aB]at C;rename_i Z N;have er:∀f,aQ D ai f->Z=f r:=λf d=>(I f d).1;have O:D r:=l5 h er;have hs:=a3G h (aL h 0) O;rw[<-er _ (aL h 0)]at hs;simp[Sem.runT]at t⊢;rw[hs];exact Q _ (N (w.shape? r)) D ai w v w' es A p a h M E (λf d=>(I f d).2 _) t
 |freeze ad n k Q=>
  intro s' D ai w v w' es A p a h M E I t;have C:=I _ (aL h 0);cases s'<;>simp only[aB]at C;rename_i l n' N;obtain⟨_,rfl,_⟩:=C;have U:∀f,aQ D ai f->l=aG f ad:=λf d=>(I f d).1;have O:D ad.block:=l5 h (c:=l.block) λf d=>by rw[U f d];rfl
  have J:l.block=ai ad.block:=by rw[U _ (aL h 0)];exact(aL h 0).on _ O
  simp[Sem.runT]at t⊢;have g:∀(w:aa) (ad:aF),(w.freeze ad n').tape=w.tape/\(w.freeze ad n').drawn=w.drawn/\(w.freeze ad n').os=w.os/\(w.freeze ad n').output=w.output/\(w.freeze ad n').heap.size=w.heap.size/\∀c,c≠ad.block->(w.freeze ad n').heap[c]?=w.heap[c]? :=by
   intro w ad;unfold World.freeze;split
   .exact⟨rfl,rfl,rfl,rfl,rfl,λ_ _=>rfl⟩
   .exact⟨rfl,rfl,rfl,rfl,a9i,λc V=>BH (b1F V)⟩
  let ⟨D',b1,b,v',u,u',X,Y,h3,h4,h5⟩:=Q N D ai (w.freeze ad n') (v.freeze l n') w' es A p a (h.freeze O n' U) (λi hi=>by rw[(g w ad).2.1]at hi;rw[(g v l).1,(g w ad).1,(g v l).2.1,(g w ad).2.1];exact M i hi) (by rw[(g v l).2.2.1,(g w ad).2.2.1];exact E) (λf d=>(I f d).2.2) t;refine⟨D',b1,b,v',u,u',X,Y,h3,h4,?_⟩;have:=a9o.trans (D:=D) (ai:=ai) (w:=w) (v:=v) (u:=#[]) (u':=#[]) ⟨λb J=>⟨J,rfl⟩,λb J=>.inl J,by rw[(g v l).2.2.2.2.1];exact az _,by rw[(g w ad).2.2.2.2.1];exact az _,λc _ hn=>(g v l).2.2.2.2.2 c (by rw[J];exact(hn _ O).symm),(g v l).1,(g v l).2.2.1,(g v l).2.2.2.1,(g w ad).1,(g w ad).2.2.1,(g w ad).2.2.2.1,⟨0,(g v l).2.1,(g w ad).2.1⟩,λ_ _=>a9i,Grown.still (g w ad).2.2.2.2.1 (g v l).2.2.2.2.1 λc V=>(g w ad).2.2.2.2.2 c λe=>V (e▸O),a9i,a9i⟩ h5;simpa using this
 |frozen ad k Q=>
  intro s' D ai w v w' es A p a h M E I t;have C:=I _ (aL h 0);cases s'<;>simp only[aB]at C;rename_i l N;have U:∀f,aQ D ai f->l=aG f ad:=λf d=>(I f d).1;have O:D ad.block:=l5 h (c:=l.block) λf d=>by rw[U f d];rfl
  have hz:=Hg (a:=ad) h (aL h 0) O;rw[<-U _ (aL h 0)]at hz;simp[Sem.runT]at t⊢;rw[hz];exact Q _ (N (w.frozen? ad)) D ai w v w' es A p a h M E (λf d=>(I f d).2 _) t
 |getObj r k Q=>
  intro s' D ai w v w' es A p a h M E I t;have C:=I _ (aL h 0);cases s'<;>simp only[aB]at C;rename_i Z N;have er:∀f,aQ D ai f->Z=f r:=λf d=>(I f d).1;have O:D r:=l5 h er;have hp:Z=ai r:=by rw[er _ (aL h 0)];exact(aL h 0).on _ O
  obtain⟨hd,o,bc,hk⟩|av:=b1N (w.heap[r]?=some dead/\∃o,v.heap[ai r]?=some o/\nN o)
  .have ao:Sem.runT ⟨T,F⟩ (k dead) w (es.push ⟨.obj r,false,false⟩)=(.ok a w',A):=by simpa only[Sem.runT,hd,dead,Obj.isChan]using t
   let ⟨D',b1,b,v',u,u',X,Y,h3,h4,h5⟩:=Q dead (N o) D ai w v w' (es.push ⟨.obj r,false,false⟩) A (p.push ⟨.obj Z,false,false⟩) a h M E (λf d=>(I f d).2.2 o hk) ao;refine⟨D',b1,b,v',#[⟨.obj r,false,false⟩]++u,#[⟨.obj Z,false,false⟩]++u',?_,by simp_all,h3,h4,?_⟩
   .rw[<-b0D,<-b0S,<-X];simp[Sem.runT,hp,bc];cases o<;>first|exact hk.elim|rfl
   .refine a9o.trans ?_ h5;exact⟨λb J=>⟨J,rfl⟩,λb J=>.inl J,az _,az _,λ_ _ _=>rfl,rfl,rfl,rfl,rfl,rfl,rfl,⟨0,rfl,rfl⟩,λf d=>by simp[bK,cH,<-er f d],Grown.still rfl rfl λ_ _=>rfl,by intro e H;simp at H;subst H;simp,λe H=>by simp at H;subst H;show Z<_;rw[hp];exact(bz.1 bc).1⟩
  have ho:=λf d=>((h.jG f d r O).resolve_right λq=>av ⟨q.1,q.2.choose,q.2.choose_spec.1,q.2.choose_spec.2.1⟩).1;cases W:w.heap[r]? with
  |none=>simp[Sem.runT,W]at t
  |some o=>
   have ap:∀c e z,o≠.cells c e z:=by rintro c e z rfl;simp[Sem.runT,W]at t
   have aP:∀f,(bu f o).isChan=o.isChan:=λf=>by cases o<;>rfl
   have ao:Sem.runT ⟨T,F⟩ (k o) w (es.push ⟨.obj r,false,o.isChan⟩)=(.ok a w',A):=by cases o<;>first|exact absurd rfl (ap _ _ _)|(simp[Sem.runT,W]at t;exact t)
   have S:=ho _ (aL h 0);rw[W]at S;let ⟨D',b1,b,v',u,u',X,Y,h3,h4,h5⟩:=Q o (N (bu (ag D ai (v.heap.size+0)) o)) D ai w v w' (es.push ⟨.obj r,false,o.isChan⟩) A (p.push ⟨.obj Z,false,o.isChan⟩) a h M E
    (λf d=>by
     have e2:=ho f d;rw[W,S]at e2;simp only[bY,cK]at e2;rw[e2];exact(I f d).2.1 o (h.ok r o O W)) ao
   refine⟨D',b1,b,v',#[⟨.obj r,false,o.isChan⟩]++u,#[⟨.obj Z,false,o.isChan⟩]++u',?_,by simp_all,h3,h4,?_⟩
   .rw[<-b0D,<-b0S,<-X];have hh:=aP (ag D ai (v.heap.size+0));simp only[bY]at S;simp only[Sem.runT,hp,S];revert hh;generalize bu (ag D ai (v.heap.size+0)) o=o2 at*;intro hh;have:∀c e z,o2≠.cells c e z:=by rintro c e z rfl;have:=S;rw[<-hp]at this;have e3:=ho _ (aL h 0);rw[W,<-hp,this]at e3;cases o<;>simp[bu]at e3;exact ap _ _ _ rfl
    cases o2<;>first|exact absurd rfl (this _ _ _)|(simp[hh])
   .refine a9o.trans ?_ h5;exact⟨λb J=>⟨J,rfl⟩,λb J=>.inl J,az _,az _,λ_ _ _=>rfl,rfl,rfl,rfl,rfl,rfl,rfl,⟨0,rfl,rfl⟩,λf d=>by simp[bK,cH,<-er f d],Grown.still rfl rfl λ_ _=>rfl,by intro e H;simp at H;first|(subst H;simp;done)|(obtain⟨_,_,rfl⟩:=H;simp;done),λe H=>by simp at H;subst H;show Z<_;rw[hp];exact(bz.1 S).1⟩
 |setObj r o k Q=>
  intro s' D ai w v w' es A p a h M E I t;have C:=I _ (aL h 0);cases s'<;>simp only[aB]at C;rename_i Z o' N;have er:∀f,aQ D ai f->Z=f r:=λf d=>(I f d).1;have eo:∀f,aQ D ai f->o'=bu f o:=λf d=>(I f d).2.1;have O:D r:=l5 h er;have hp:Z=ai r:=by rw[er _ (aL h 0)];exact(aL h 0).on _ O
  have e0:=h.jG _ (aL h 0) r O;have aP:o'.isChan=o.isChan:=by rw[eo _ (aL h 0)];cases o<;>rfl
  cases W:w.heap[r]? with
  |none=>simp[Sem.runT,W]at t
  |some o0=>
   have ap:∀c e z,o0≠.cells c e z:=by rintro c e z rfl;simp[Sem.runT,W]at t
   have ao:Sem.runT ⟨T,F⟩ k {w with heap:=w.heap.setIfInBounds r o} (es.push ⟨.obj r,true,o.isChan⟩)=(.ok a w',A):=by cases o0<;>first|exact absurd rfl (ap _ _ _)|(simp[Sem.runT,W]at t;exact t)
   let ⟨o1,S,hn1⟩:∃o1,v.heap[ai r]?=some o1/\∀c e z,o1≠.cells c e z:=by
    obtain⟨e0,_⟩|⟨_,o1,S,hk,_⟩:=e0
    .rw[W]at e0;exact⟨_,e0,λc e z q=>by cases o0<;>first|exact ap _ _ _ rfl|(simp[bu]at q;done)⟩
    .exact⟨o1,S,λc e z q=>by subst q;exact hk⟩
   let ⟨D',b1,b,v',u,u',X,Y,h3,h4,h5⟩:=Q N D ai {w with heap:=w.heap.setIfInBounds r o} {v with heap:=v.heap.setIfInBounds Z o'} w' (es.push ⟨.obj r,true,o.isChan⟩) A (p.push ⟨.obj Z,true,o'.isChan⟩) a (h.setObj O er eo C.2.2.1) M E (λf d=>(I f d).2.2.2) ao;refine⟨D',b1,b,v',#[⟨.obj r,true,o.isChan⟩]++u,#[⟨.obj Z,true,o'.isChan⟩]++u',?_,by simp_all,h3,h4,?_⟩
   .rw[<-b0D,<-b0S,<-X];cases o1<;>first|exact absurd rfl (hn1 _ _ _)|simp[Sem.runT,hp,S]
   .refine a9o.trans ?_ h5;exact⟨λb J=>⟨J,rfl⟩,λb J=>.inl J,a9i,a9i,λc _ hn=>by simp;rw[dw];rw[hp];exact hn _ O,rfl,rfl,rfl,rfl,rfl,rfl,⟨0,rfl,rfl⟩,λf d=>by simp[bK,cH,<-er f d,aP],Grown.still a9i a9i λc V=>by simp;rw[dw];intro e;exact V (e▸O),by intro e H;simp at H;first|(subst H;simp;done)|(obtain⟨_,_,rfl⟩:=H;simp;done),λe H=>by simp at H;subst H;have:=(bz.1 S).1;simpa[nW,hp]using this⟩
 |choose q k Q=>
  intro s' D ai w v w' es A p a h M E I t;have C:=I _ (aL h 0);cases s'<;>simp only[aB]at C;rename_i q' N;obtain⟨rfl,_⟩:=C;simp[Sem.runT]at t⊢;by_cases hq:q'.forced=true
  .simp[hq]at t⊢;exact Q _ (N 0) D ai w v w' es A p a h M E (λf d=>(I f d).2 _) t
  .have bn:q'.forced=false:=by simpa using hq
   simp[bn]at t⊢;have et:v.tape v.drawn q'=w.tape w.drawn q':=congrFun (M 0 (by
    have hd:=Ki (P:=⟨T,F⟩) (k (q'.cut (w.tape w.drawn q'))) {w with drawn:=w.drawn+1} es;rw[t]at hd;simp[fK]at hd;omega)) q'
   rw[et];let ⟨D',b1,b,v',u,u',X,Y,h3,h4,h5⟩:=Q _ (N (q'.cut (w.tape w.drawn q'))) D ai {w with drawn:=w.drawn+1} {v with drawn:=v.drawn+1} w' es A p a (h.same rfl rfl) (λi hi=>by have:=M (i+1) (by simp only at hi;omega);simp only[lJ,b1M 1 i]at this⊢;exact this) E (λf d=>(I f d).2 _) t;refine⟨D',b1,b,v',u,u',X,Y,h3,h4,?_⟩;obtain⟨j,j1,j2⟩:=h5.drawn;exact⟨h5.more,h5.new,h5.size,h5.pA,h5.frame,h5.tape,h5.os,h5.output,h5.pB,h5.oh,h5.rp,⟨j+1,by simp at j1;omega,by simp at j2;omega⟩,h5.ev,⟨h5.gr.grow,h5.gr.Ab,h5.gr.yF,h5.gr.vE⟩,h5.qu,h5.lw⟩
 |sys c k Q=>intro s' D ai w v w' es A p a h M E I t;have C:=I _ (aL h 0);cases s'<;>simp only[aB]at C;rename_i c' N;obtain⟨rfl,rfl,_⟩:=C;have hs:∀x:aa,x.sys .env=(.strings x.os.env,x):=λx=>rfl;simp[Sem.runT,hs]at t⊢;rw[E];let ⟨D',b1,b,v',u,u',X,Y,h3,h4,h5⟩:=Q _ (N (.strings w.os.env)) D ai w v w' (es.push ⟨.output,true,false⟩) A (p.push ⟨.output,true,false⟩) a h M E (λf d=>(I f d).2.2 _) t;refine⟨D',b1,b,v',#[⟨.output,true,false⟩]++u,#[⟨.output,true,false⟩]++u',by simp_all,by simp_all,h3,h4,?_⟩;refine a9o.trans ?_ h5;exact⟨λb J=>⟨J,rfl⟩,λb J=>.inl J,az _,az _,λ_ _ _=>rfl,rfl,rfl,rfl,rfl,rfl,rfl,⟨0,rfl,rfl⟩,λf d=>by simp[bK,cH],Grown.still rfl rfl λ_ _=>rfl,by intro e H;simp at H;first|(subst H;simp;done)|(obtain⟨_,_,rfl⟩:=H;simp;done),λe H=>by simp at H;subst H;trivial⟩
 |program k Q=>intro s' D ai w v w' es A p a h M E I t;have C:=I _ (aL h 0);cases s'<;>simp only[aB]at C;rename_i N;simp[Sem.runT]at t⊢;exact Q ⟨T,F⟩ (N ⟨T,F'⟩) D ai w v w' es A p a h M E (λf d=>I f d) t
 |mark m k Q=>
  intro s' D ai w v w' es A p a h M E I t;have C:=I _ (aL h 0);cases s'<;>simp only[aB]at C;rename_i L N;simp[Sem.runT]at t⊢;let ⟨D',b1,b,v',u,u',X,Y,h3,h4,h5⟩:=Q N D ai w v w' (es.push ⟨.mark m,false,true⟩) A (p.push ⟨.mark L,false,true⟩) a h M E (λf d=>(I f d).2) t;refine⟨D',b1,b,v',#[⟨.mark m,false,true⟩]++u,#[⟨.mark L,false,true⟩]++u',by simp_all,by simp_all,h3,h4,?_⟩;refine a9o.trans ?_ h5;exact⟨λb J=>⟨J,rfl⟩,λb J=>.inl J,az _,az _,λ_ _ _=>rfl,rfl,rfl,rfl,rfl,rfl,rfl,⟨0,rfl,rfl⟩,λf d=>by simp[bK,cH,(I f d).1.1],Grown.still rfl rfl λ_ _=>rfl,by
   intro e H;simp at H;subst H;have hq:=C.1.2;intro L bo;cases bo;exact hq,λe H=>by simp at H;subst H;trivial⟩
 |halt h0=>intro s' D ai w v w' es A p a h M E I t;simp[Sem.runT]at t
end
structure Fit (T:Tables) (f:Nat->Nat):Prop where
 inj:∀a b,f a=f b->a=b
 low:∀b,b<T.globals.size+1->f b=b
 zero:∀t i v,T.info? t=some i->i.zero=some v->bg v=true
abbrev SE(T:Tables)(F F':Array Func)(f:Nat->Nat){α β}(R:α->β->Prop)(s:Sem α)(s':Sem β):Prop:=aB ⟨T,F⟩ ⟨T,F'⟩ f R s s'
def aN{α β:Type}(g:α->β)(a:α)(b:β):Prop:=b=g a
def aZ{p:Prop}(h:p:=by simp[aN]):p:=h
def eU{p:Prop}(h:p:=by simp[aN,goInt]):p:=h
variable{T:Tables}{F F':Array Func}{f:Nat->Nat}
@[simp] theorem Dd(a):(aG f a).off=a.off:=rfl
@[simp] theorem De(a):(aG f a).spot=a.spot:=rfl
@[simp] theorem zk(a):(aG f a).block=f a.block:=rfl
theorem lQ(a n):(aG f a).add n=aG f (a.add n):=by grind[Addr.add,aG]
def Dc(h:Fit T f)(a b):(aG f a==aG f b)=(a==b):=by
 have:(aG f a=aG f b)↔a=b:=by
  constructor
  .intro e;cases a;cases b;simp[aG]at e⊢;exact⟨h.inj _ _ e.1,e.2⟩
  simp_all
 rw[m9];simp[this]
def rL(h:Fit T f)(a b):(f a==f b)=(a==b):=by have:f a=f b↔a=b:=⟨h.inj _ _,λe=>e▸rfl⟩;rw[m9];simp[this]
def gu{α β}{R:α->β->Prop}{k a}(h:SE T F F' f R (k ⟨T,F⟩) (a ⟨T,F'⟩)):SE T F F' f R (program>>=k) (program>>=a):=h
def Gk(t):SE T F F' f (λi j=>j=i/\T.info? t=some i) (typeInfo t) (typeInfo t):=by
 apply gu;change SE T F F' f (λi j=>j=i/\T.info? t=some i) (match T.info? t with|some i=>pure i|none=>stuck "no such type") (match T.info? t with|some i=>pure i|none=>stuck "no such type");cases T.info? t
 .simp[aC]
 .exact aB.pure ⟨rfl,rfl⟩
def gd(t):SE T F F' f Eq (typeInfo t) (typeInfo t):=(Gk t).mono λ_ _ h=>h.1.symm
def cm(t):SE T F F' f Eq (underlying t) (underlying t):=by
 apply gu;change SE T F F' f Eq (match Program.underlying ⟨T,F⟩ t with|some d=>pure d|none=>stuck "no such type") (match Program.underlying ⟨T,F⟩ t with|some d=>pure d|none=>stuck "no such type");cases Program.underlying ⟨T,F⟩ t
 .simp[aC]
 .exact aB.pure rfl
def ga(t):SE T F F' f Eq (Go.sizeOf t) (Go.sizeOf t):=(gd t).bind λ_ _ e=>e▸aB.pure rfl
def mF(h:Fit T f)(t):SE T F F' f (λa b=>b=a/\bg a=true) (zeroValue t) (zeroValue t):=by
 apply(Gk t).bind;rintro _ i ⟨rfl,c⟩;cases d:i.zero with
 |none=>exact aV _ _
 |some v=>exact aB.pure ⟨rfl,h.zero t i v c d⟩
def bk{α β R c c'}[Decidable c][Decidable c']{x y:Sem α}{x' a:Sem β}(b:c↔c')(d:c->SE T F F' f R x x')(e: ¬c->SE T F F' f R y a):SE T F F' f R (if c then x else y) (if c' then x' else a):=by
 grind
def xK(m a):SE T F F' f (aN (al f)) (load a m) (load (aG f a) m):=⟨rfl,rfl,λ_=>rfl⟩
def uF(m a v):SE T F F' f Eq (store a v m) (store (aG f a) (al f v) m):=⟨rfl,rfl,rfl,rfl⟩
def rY{o:Obj}(h:ee T.globals.size o)(a:o≠dead:=by simp[dead]):SE T F F' f (aN f) (newObj o) (newObj (bu f o)):=⟨rfl,⟨h,a⟩,λ_=>rfl⟩
def j7(r):SE T F F' f Eq (shape r) (shape (f r)):=⟨rfl,λ_=>rfl⟩
def nJ(a):SE T F F' f Eq (frozen a) (frozen (aG f a)):=⟨rfl,λ_=>rfl⟩
def R7(a n):SE T F F' f Eq (freeze a n) (freeze (aG f a) n):=⟨rfl,rfl,rfl⟩
def nK(r):SE T F F' f (λa b=>(b=bu f a/\ee T.globals.size a)\/a=dead/\nN b) (getObj r) (getObj (f r)):=⟨rfl,λ_ h=>.inl ⟨rfl,h⟩,λ_ h=>.inr ⟨rfl,h⟩⟩
def xN(r:Nat){o:Obj}(h:ee T.globals.size o)(a:o≠dead:=by simp[dead]):SE T F F' f Eq (setObj r o) (setObj (f r) (bu f o)):=⟨rfl,rfl,⟨h,a⟩,rfl⟩
def jl(q):SE T F F' f Eq (choose q) (choose q):=⟨rfl,λ_=>rfl⟩
def Bg{m}(h:qC m=true):SE T F F' f Eq (mark m) (mark (ko f m)):=⟨⟨rfl,h⟩,rfl⟩
def uE{α β}{R:α->β->Prop}(v v')(h:v'=al f v):SE T F F' f R (goPanic v) (goPanic v'):=by rw[h];exact a3s v
def FK(t):SE T F F' f Eq (elemOf t) (elemOf t):=by apply(cm t).bind;rintro d _ rfl;cases d<;>first|exact aB.pure rfl|exact aC _ _
def oQ(e cs):SE T F F' f (aN (aG f)) (newRow e cs) (newRow e (cs.map (al f))):=by apply(rY (o:=.cells cs e) trivial).bind;rintro r _ rfl;exact aB.pure rfl
def xM(e v):SE T F F' f (aN (aG f)) (newVar e v) (newVar e (al f v)):=by have:=oQ (T:=T) (F:=F) (F':=F') (f:=f) e v.cells;rw[<-uk]at this;exact this
theorem gL(h:Fit T f){α β R}(e):SE T F F' f R (runtimePanic (α:=α) e) (runtimePanic (α:=β) e):=by
 apply gu;have b:f T.globals.size=T.globals.size:=h.low _ a9h;cases e<;>try exact uE _ _ (by simp[strVal,typeHandle,aG,b];done)
 .rename_i i c a m;apply(FK _).bind;rintro e _ rfl;apply aB.bind (R:=aN (aG f))
  .have:=xM (T:=T) (F:=F) (F':=F') (f:=f) e (.agg #[(match i with|some t=>typeHandle ⟨T,F⟩ t|none=>.pointer none),(match c with|some t=>typeHandle ⟨T,F⟩ t|none=>.pointer none),typeHandle ⟨T,F⟩ a,strVal m]);cases i<;>cases c<;>simpa[typeHandle,aG,b,strVal]using this
  .rintro x _ rfl;simp_all[uE]
 .apply(FK _).bind;rintro e _ rfl;apply aB.bind (R:=aN (aG f))
  .have:=xM (T:=T) (F:=F) (F':=F') (f:=f) e (.agg #[]);simp_all
  .rintro x _ rfl;simp_all[uE]
theorem uw(h:Fit T f){α β R}(k x y c):SE T F F' f R (boundsPanic (α:=α) k x y c) (boundsPanic (α:=β) k x y c):=by
 unfold boundsPanic;dsimp;split
 .exact⟨rfl,λn=>gL h (.bounds (IntKind.i64.wrap x) y (n==1) c)⟩
 .exact gL h (.bounds (IntKind.i64.wrap x) y (k !=IntKind.u64) c)
def xE(n):SE T F F' f Eq (askRoom n) (askRoom n):=by
 unfold askRoom;split
 .exact Bg (m:=.noRoom) rfl
 .exact aB.pure rfl
def FT(t):SE T F F' f Eq (isAgg t) (isAgg t):=by apply(cm t).bind;rintro d _ rfl;cases d<;>exact aB.pure rfl
theorem FU(a):∀n i b,SE T F F' f (aN (Array.map (al f))) (loadCellsFrom a i n b) (loadCellsFrom (aG f a) i n (b.map (al f)))
 |0,_,_=>aB.pure rfl
 |n+1,i,b=>by
  apply aB.bind (R:=aN (al f))
  .rw[lQ];simp[xK]
  .rintro v _ rfl;have:=FU a n (i+1) (b.push v);simp at this;exact this
def xL(a n):SE T F F' f (aN (Array.map (al f))) (loadCells a n) (loadCells (aG f a) n):=by
 have:=FU (T:=T) (F:=F) (F':=F') (f:=f) a n 0 #[]
 grind[loadCells]
theorem qb(a):∀c i,SE T F F' f Eq (storeCells a c i) (storeCells (aG f a) (c.map (al f)) i)
 |[],_=>aB.pure rfl
 |v::b,i=>by refine aB.bind (R:=Eq) ?_ λ_ _ _=>qb a b (i+1);rw[lQ];exact uF _ _ _
def uB(t a):SE T F F' f (aN (al f)) (loadVar t a) (loadVar t (aG f a)):=by
 apply(FT t).bind;rintro b _ rfl;cases b
 .simp[xK]
 .apply(ga t).bind;rintro n _ rfl;apply(xL a n).bind;rintro c _ rfl;exact aB.pure aZ
theorem SC(t a v):SE T F F' f Eq (storeVar t a v) (storeVar t (aG f a) (al f v)):=by
 apply(ga t).bind;rintro n _ rfl;have b:(al f v).cells.size=v.cells.size:=by rw[uk];simp
 have:=qb (T:=T) (F:=F) (F':=F') (f:=f) a v.cells.toList 0;rw[<-kH,<-uk]at this;by_cases h:v.cells.size=n
 .simp_all
 .simp[b,h];exact aC _ _
theorem Ck(cs:Array aj)(i j):(cs.map (al f)).extract i j=(cs.extract i j).map (al f):=a9i
theorem kV(t cs a):SE T F F' f (aN (al f)) (part t cs a) (part t (cs.map (al f)) a):=by
 apply(FT t).bind;rintro b _ rfl;cases b
 .simp;cases cs[a]?
  .simp[aC]
  .exact aB.pure rfl
 .apply(ga t).bind;rintro n _ rfl;exact aB.pure aZ
def xD(v):SE T F F' f Eq (asIntOf v) (asIntOf (al f v)):=by
 cases v<;>simp[asIntOf]<;>try exact aC _ _
 .exact aB.pure rfl
 .rename_i a;cases a<;>simp<;>first|exact aC _ _|exact aV _ _
def rX(v):SE T F F' f Eq (asInt v) (asInt (al f v)):=(xD v).bind λ_ _ e=>e▸aB.pure rfl
def FI(v):SE T F F' f Eq (asBool v) (asBool (al f v)):=by cases v<;>simp[asBool]<;>first|exact aC _ _|exact aB.pure rfl
def RE(v):SE T F F' f (aN (Array.map (al f))) (asAgg v) (asAgg (al f v)):=by cases v<;>simp[asAgg]<;>first|exact aC _ _|exact aB.pure rfl
def nI(h:Fit T f)(v):SE T F F' f (aN (aG f)) (asAddr v) (asAddr (al f v)):=by
 cases v<;>simp[asAddr]<;>try exact aC _ _
 rename_i a;cases a
 .exact gL h _
 .exact aB.pure rfl
def uG(v):SE T F F' f (aN (aG f)) (Instr.sureAddr v) (Instr.sureAddr (al f v)):=by
 cases v<;>simp[Instr.sureAddr]<;>try exact aC _ _
 rename_i a;cases a
 .simp[aC]
 .exact aB.pure rfl
end Go.Mir
end
end
