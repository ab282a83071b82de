import Derived.Test.YtdnpeefnobjfaaaGreatDoorK45
set_option maxRecDepth 100000
set_option maxHeartbeats 4000000
set_option linter.all false
section
namespace Go.Mir
open Go Go.Proofs Go.Conc
def B5(Z:Nat->Prop)(K:Nat->Obj)(cs:List ah)(Od:Old)(Stop:ah->List ah->aa->Prop):Prop:=
 ∀(d:Array af) (k:CallKind) (e:Array af) (n:ah) (o:List ah) (u:ah) (h:List ah) (D:Nat->Prop) (a:Nat->Nat) (w v:aa) (p:Array aw) (t:aY) (q:Nat->Nat) (m:Nat->Prop) (A:Option (Nat×Nat)),
  (k=.normal\/k=.deferred)->Fin PG (aB PG) Stop (Frame.enter PG 106 d k) (n::o) w->(∀g,aQ D a g->e=d.map (ak g))->dS Tryz.progTables Z K cs D a w v n o u h->
  p[0]?=some (an (Frame.enter PR 106 e k) (u::h))->Leavers PR t p q->Past (cK m) v.heap.size t->(∀b,D b->¬m (a b))->(∀c,m c->c<v.heap.size)->Od.Kept D a m v->
  ∃M i x r y B s C f j l z,runNT PR M (crowd p v A) t=(.next (crowd i x r),y)/\
   Reach PG (aB PG) Stop (Frame.enter PG 106 d k) (n::o) w j l z/\mr Tryz.progTables PR Z K cs Od C f z j l i x y B s
def MU{Z K cs Od Stop}(n:∀m s w,Stop m s w->s=[]/\m.mode=.returning/\m.defers=[]/\m.kind=.normal)(E:B5 Z K cs Od Stop):tS Tryz.progTables Gh.funcs.{0} Tryz.funcs kw Z K cs Od Stop:=by
 intro f i k d m s u o D j w v x t q y z F A g e R h0 B C p l r;obtain rfl|rfl|rfl|rfl:=F
 .exact E i k d m s u o D j w v x t q y z A g e R h0 B C p l r
 .exact Up (λa b c h=>(n a b c h).1) i k d m s u o D j w v x t q y z A g e R h0 B C p l r
 .exact a2V (λa b c h=>(n a b c h).1) i k d m s u o D j w v x t q y z A g e R h0 B C p l r
 .exact(a5W (λa b c h=>(n a b c h).2.1) (show PG.funcs[154]?=some Gh.f154 from Gh.func154) rfl g).elim
end Go.Mir
end
