import Derived.Test.YtdnpeefnobjfaaaGreatDoorK28
import Derived.Test.YtdnpeefnobjfaaaGreatDoorK29
set_option maxRecDepth 100000
set_option maxHeartbeats 4000000
set_option linter.all false
section
namespace Go.Proofs.q
def dk(x:Nat->Nat->Nat):Array aj:=((List.range 25).map λi=>Value.int .i64 (x (i / 5) (i%5):Nat)).toArray
def kA(x:Nat->Nat->Nat)(a c v:Nat):Nat->Nat->Nat:=λp q=>if p=a/\q=c then v else x p q
def qq(x i):(dk x)[i]?=if i<25 then some (.int .i64 (x (i / 5) (i%5):Nat))else none:=by
 unfold dk;rw[b1J,b0I];by_cases h:i<25
 .rw[b1b h,if_pos h];rfl
 .rw[if_neg h,pJ a9l];rfl
def vA(x){a c}(e:a<5)(f:c<5):(dk x)[a*5+c]?=some (.int .i64 (x a c:Nat)):=by
 have b:(a*5+c) / 5=a:=a9h
 have d:(a*5+c)%5=c:=a9h
 rw[qq,if_pos a9h,b,d]
def vB(x):(dk x).size=25:=by simp[dk]
def XR(x){a c}(v)(f:a<5)(g:c<5):(dk x).setIfInBounds (a*5+c) (.int .i64 (v:Nat))=dk (kA x a c v):=by
 refine mq λi=>?_;rw[js,qq,qq,vB];by_cases e:a*5+c=i
 .subst e;have b:(a*5+c) / 5=a:=a9h
  have d:(a*5+c)%5=c:=a9h
  rw[if_pos rfl,if_pos a9h,if_pos a9h,b,d];simp[kA]
 .rw[if_neg e];by_cases h:i<25
  .rw[if_pos h,if_pos h];have:kA x a c v (i / 5) (i%5)=x (i / 5) (i%5):=if_neg λz=>e a9h;rw[this]
  .rw[if_neg h,if_neg h]
end Go.Proofs.q
end
section
namespace Go.Proofs.q
universe u
open Go.RowKit Go.Shelf Go.Lib
attribute [local go_sem ↓] Go.wp_at_zero Go.wp_at_succ
def gP(c n:Int):Int:=(if c<0 then -(c+1)else c)%n
def qy(c n)(a:0<n):0<=gP c n/\gP c n<n:=by unfold gP;exact⟨Int.emod_nonneg _ a9h,Int.emod_lt_of_pos _ a⟩
def Ag(n)(h0: -9223372036854775808<=n)(a:n<9223372036854775808):IntKind.i64.wrap n=n:=by
 by_cases h:0<=n
 .exact wrap_small n h a
 .unfold IntKind.wrap;simp[IntKind.bits,IntKind.signed];omega
def C2(c n w)(f:0<n)(h:n<=1000)(h0: -9223372036854775808<=c)(o:c<9223372036854775808):Calls Gh.prog.{u} 15 #[.int .i64 c,.int .i64 n] w λe i=>e=.returned (.int .i64 (gP c n))/\i=w:=by
 have j: ¬n=0:=a9h
 by_cases g:c<0
 .have k:IntKind.i64.wrap (c+1)=c+1:=Ag _ a9h a9h;have l:IntKind.i64.wrap (-(c+1))= -(c+1):=wrap_small _ a9h a9h;have a:gP c n= -((c+1).tmod n):=by unfold gP;rw[if_pos g,<-Int.neg_tmod,Int.tmod_eq_emod_of_nonneg a9h]
  have b:=qy c n f;have d:IntKind.i64.wrap (-((c+1).tmod n))= -((c+1).tmod n):=by rw[<-a];exact Ag _ a9h a9h
  rw[a];clear a b;go_enter Gh.func15,Tryz.ntmps15;go_wp2;go_ret;exact⟨rfl,rfl⟩
 .have a:gP c n=c%n:=by unfold gP;rw[if_neg g]
  have b:=qy c n f;have d:IntKind.i64.wrap (c%n)=c%n:=by rw[<-a];exact Ag _ a9h a9h
  rw[a];clear a b;go_enter Gh.func15,Tryz.ntmps15;go_wp2;go_ret;exact⟨rfl,rfl⟩
def a2P(w base n b l v x)(r:w.ownsRow base 3 1 v n (cW l))(Y:jO w v)(hn:n<=100)(Z:w.cell? ⟨b,0,none⟩=some (.int .i64 x))(s:base<=w.heap.size):∃g d O,(∀A,(Builtin.append_ #[22,22] A #[v,.slice (some ⟨b,0,none⟩) 1 1]).run Gh.prog.{u} w=.ok (.slice (some ⟨g,0,none⟩) (n+1) d) O)/\O.ownsRow base 3 1 (.slice (some ⟨g,0,none⟩) (n+1) d) (n+1) (cW (l++[x]))/\jO O (.slice (some ⟨g,0,none⟩) (n+1) d)/\w.grownBy O v.ownBlock/\(v.ownBlock=some g\/w.heap.size<=g):=by
 obtain⟨S,B,I,p,J⟩:=info_parts Gh.B6.{u};have Q:=r.1;have q:∀j u,[Value.int .i64 x][j]?=some u->w.cell? ((⟨b,0,none⟩:aF).add j)=some u:=λj u T=>by
  cases j with
  |zero=>simp at T;rw[<-T,show(⟨b,0,none⟩:aF).add 0=⟨b,0,none⟩from rfl];exact Z
  |succ j=>simp at T
 have C:cW (l++[x])=cW l++[.int .i64 x]:=by simp[cW]
 have f:(cW l++[Value.int .i64 x]).length=(n+1)*1:=by simp[Q]
 rw[C];obtain⟨rfl,rfl⟩|⟨g,d,D,rfl,U,R,ab,V,W,E⟩:=r.2
 .obtain rfl:l=[]:=by simpa[cW]using Q
  have K:=λA=>run_append_nil (P:=Gh.prog.{u}) w 22 A 3 S _ Gh.underlying22 B I ⟨b,0,none⟩ 1 1 [.int .i64 x] (by simp[p]) q a9h a9h (by rw[J];omega);have F:=grownCap_ge w 1 0 3;have H:=grownCap_le_maxLen w 1 0 3 (by unfold maxLen;omega);have o:=heap_alloc_new w.drew (.cells ([Value.int .i64 x].toArray++Builtin.zeroCells (Value.int .i64 0).cells (grownCap w 1 0 3 - 1)) 3);refine⟨w.heap.size,_,_,K,⟨f,.inr ⟨w.heap.size,_,_,rfl,s,o,F,H,?_,?_⟩⟩,λa k c e=>?_,⟨rfl,rfl,rfl,a9i,λk L _=>heap_alloc_old w.drew _ L⟩,.inr (az _)⟩
  .simp only[a9Z,fV,size_zeroCells];simp[Value.cells];omega
  .simp[cW]
  .cases e;refine⟨_,o,λy z=>?_⟩;simp only[ot,lI,fM]at z;obtain h|h:=z
   .exact⟨x,h⟩
   .simp only[Builtin.zeroCells,mr]at h;obtain⟨i,_,rfl⟩:=h;exact⟨0,by simp[Value.cells,b1z]⟩
 obtain⟨X,M,N⟩:=Y _ _ _ rfl;rw[R]at M;cases M;by_cases t:n+1<=d
 .have K:=λA=>run_append_room (P:=Gh.prog.{u}) w 22 A 3 S Gh.underlying22 B g n d D R ⟨b,0,none⟩ 1 1 [.int .i64 x] (by simp[p]) q (by simp[Value.oneCell']) t (by rw[p,W];simp;omega);refine⟨g,d,_,K,⟨f,.inr ⟨g,d,_,rfl,U,setRow_heap w g D _ _ _ R,t,V,?_,?_⟩⟩,λa k c e=>?_,⟨rfl,rfl,rfl,a9i,λk _ L=>setRow_other w g k _ (λe=>L (by simp[Value.ownBlock,e]))⟩,.inl rfl⟩
  .simp only[fV,iN,jX,ni,pD,p,b1I];omega
  .rw[p,E,<-f];exact b0b
  .cases e;refine⟨_,setRow_heap w g D _ _ _ R,λy z=>?_⟩;simp only[lI,oy,fM]at z;obtain(h|h)|h:=z
   .exact N y (pF.1 (b0u h))
   .exact⟨x,h⟩
   .exact N y (pF.1 (List.mem_of_mem_drop h))
 .have K:=λA=>run_append_grow (P:=Gh.prog.{u}) w 22 A 3 S _ Gh.underlying22 B I ⟨g,0,none⟩ n d (cW l) (by rw[Q,p]) (r.cells (g:=g) rfl) ⟨b,0,none⟩ 1 1 [.int .i64 x] (by simp[p]) q a9h a9h (by rw[J];exact growslice_fits a9h a9h);have F:=grownCap_ge w (n+1) d 3;have H:=grownCap_le_maxLen w (n+1) d 3 (by unfold maxLen;omega);have o:=heap_alloc_new w.drew (.cells ((cW l).toArray++[Value.int .i64 x].toArray++Builtin.zeroCells (Value.int .i64 0).cells (grownCap w (n+1) d 3 - (n+1))) 3);refine⟨w.heap.size,_,_,K,⟨f,.inr ⟨w.heap.size,_,_,rfl,s,o,F,H,?_,?_⟩⟩,λa k c e=>?_,⟨rfl,rfl,rfl,a9i,λk L _=>heap_alloc_old w.drew _ L⟩,.inr (az _)⟩
  .simp only[a9Z,fV,size_zeroCells,Q];simp[Value.cells];omega
  .simp only[Array.toList_append,jW];rw[<-jW,<-f];exact b0b
  .cases e;refine⟨_,o,λy z=>?_⟩;simp only[ot,lI,fM]at z;obtain(h|h)|h:=z
   .simp only[cW,eS]at h;obtain⟨i,_,rfl⟩:=h;exact⟨i,rfl⟩
   .exact⟨x,h⟩
   .simp only[Builtin.zeroCells,mr]at h;obtain⟨i,_,rfl⟩:=h;exact⟨0,by simp[Value.cells,b1z]⟩
end Go.Proofs.q
end
section
namespace Go.Proofs.q
universe u
open Go.RowKit
def a6A{P:aA}{c:Code}{Q:Exit->Act->aa->Prop}{a:Act}{w:aa}(h:c.wp P (λe a w=>match e with| .normal=>Q .normal a w|_=>False) a w):c.wp P Q a w:=Code.wp_mono (λe a w h=>by cases e<;>first|exact h|exact h.elim) h
def fN(f:Nat->Nat->Nat)(r s:Nat->aj):Array aj:=((List.range 35).map λi=>if i<25 then Value.int .i64 (f (i / 5) (i%5):Nat)else if i<30 then r (i - 25)else s (i - 30)).toArray
section
variable(f:Nat->Nat->Nat)(r s:Nat->aj)
def mJ(i):(fN f r s)[i]?=if i<35 then some (if i<25 then Value.int .i64 (f (i / 5) (i%5):Nat)else if i<30 then r (i - 25)else s (i - 30))else none:=by
 unfold fN;rw[b1J,b0I];by_cases h:i<35
 .rw[b1b h,if_pos h];rfl
 .rw[if_neg h,pJ a9l];rfl
def Cr{a c}(e:a<5)(g:c<5):(fN f r s)[a*5+c]?=some (.int .i64 (f a c:Nat)):=by
 have b:(a*5+c) / 5=a:=a9h
 have d:(a*5+c)%5=c:=a9h
 rw[mJ,if_pos a9h,if_pos a9h,b,d]
def Iz{a}(b:a<5):(fN f r s)[25+a]?=some (r a):=by rw[mJ,if_pos a9h,if_neg a9h,if_pos a9h,show 25+a - 25=a by omega]
def Cs{a}(b:a<5):(fN f r s)[30+a]?=some (s a):=by rw[mJ,if_pos a9h,if_neg a9h,if_neg a9h,show 30+a - 30=a by omega]
def yE:(fN f r s).size=35:=by simp[fN]
def tK(f:Nat->Nat->Nat)(a c v:Nat):Nat->Nat->Nat:=λp q=>if p=a/\q=c then v else f p q
def fA(r:Nat->aj)(a:Nat)(v:aj):Nat->aj:=λx=>if x=a then v else r x
def IA{a c}(v)(g:a<5)(j:c<5):(fN f r s).setIfInBounds (a*5+c) (.int .i64 (v:Nat))=fN (tK f a c v) r s:=by
 refine mq λi=>?_;rw[js,mJ,mJ,yE];by_cases e:a*5+c=i
 .subst e;have b:(a*5+c) / 5=a:=a9h
  have d:(a*5+c)%5=c:=a9h
  rw[if_pos rfl,if_pos a9h,if_pos a9h,if_pos a9h,b,d];simp[tK]
 .rw[if_neg e];by_cases h:i<25
  .have:tK f a c v (i / 5) (i%5)=f (i / 5) (i%5):=if_neg λz=>e a9h;simp only[h,if_true,this]
  .simp only[h,if_false]
def Yd{a}(v)(c:a<5):(fN f r s).setIfInBounds (25+a) v=fN f (fA r a v) s:=by
 refine mq λi=>?_;rw[js,mJ,mJ,yE];by_cases e:25+a=i
 .subst e;rw[if_pos rfl,if_pos a9h,if_pos a9h,if_neg a9h,if_pos a9h,show 25+a - 25=a by omega];simp[fA]
 .rw[if_neg e];by_cases h:i<25
  .simp only[h,if_true]
  .by_cases b:i<30
   .have:fA r a v (i - 25)=r (i - 25):=if_neg a9h;simp only[h,b,if_true,if_false,this]
   .simp only[h,b,if_false]
def Ye{a}(v)(d:a<5):(fN f r s).setIfInBounds (30+a) v=fN f r (fA s a v):=by
 refine mq λi=>?_;rw[js,mJ,mJ,yE];by_cases e:30+a=i
 .subst e;rw[if_pos rfl,if_pos a9h,if_pos a9h,if_neg a9h,if_neg a9h,show 30+a - 30=a by omega];simp[fA]
 .rw[if_neg e];by_cases h:i<25
  .simp only[h,if_true]
  .by_cases c:i<30
   .simp only[h,c,if_true,if_false]
   .by_cases b:i<35
    .have:fA s a v (i - 30)=s (i - 30):=if_neg a9h;simp only[h,c,if_false,this]
    .simp only[b,if_false]
end
def bv(p q:Nat):Nat:=let m:=max p q;m*(m - 1) / 2+min p q
def a5g:∀a b p q:Fin 5,b.1<a.1->p.1≠q.1->bv p.1 q.1=bv a.1 b.1->(p.1=a.1/\q.1=b.1)\/(p.1=b.1/\q.1=a.1):=a9j
def a5h{a b p q}(c:a<5)(d:b<a)(g:p<5)(i:q<5)(h:p≠q)(e:bv p q=bv a b):(p=a/\q=b)\/(p=b/\q=a):=a5g ⟨a,c⟩ ⟨b,a9h⟩ ⟨p,g⟩ ⟨q,i⟩ d h e
def DU(p q):bv p q=bv q p:=by unfold bv;rw[Nat.max_comm,Nat.min_comm]
def i8(l:List Int)(k:Nat):Nat:=match l[k]? with
 |some x=>if gP x 24<16 then (gP x 24).toNat else 0
 |none=>0
def a0Q(l k):i8 l k<=15:=by
 unfold i8;split
 .split<;>omega
 .omega
def fx(l:List Int)(n p q:Nat):Nat:=if p<5/\q<5/\p≠q/\bv p q<n then i8 l (bv p q)else 0
def GY(l n p q):fx l n p q<=15:=by
 unfold fx;split
 .exact a0Q l _
 .omega
def TI(l n p q):fx l n p q=fx l n q p:=by
 unfold fx;rw[DU p q];by_cases h:p<5/\q<5/\p≠q/\bv q p<n
 .rw[if_pos h,if_pos ⟨h.2.1,h.1,h.2.2.1.symm,h.2.2.2⟩]
 .rw[if_neg h,if_neg λz=>h ⟨z.2.1,z.1,z.2.2.1.symm,z.2.2.2⟩]
def TK(l){a b}(e:a<5)(g:b<a):tK (tK (fx l (bv a b)) a b (i8 l (bv a b))) b a (i8 l (bv a b))=fx l (bv a b+1):=by
 funext p q;unfold tK;have i:∀x y,x<5/\y<5->x≠y->bv x y=bv a b->(x=a/\y=b)\/(x=b/\y=a):=λx y c d j=>a5h e g c.1 c.2 d j;by_cases c:p=b/\q=a
 .obtain⟨rfl,rfl⟩:=c;rw[if_pos ⟨rfl,rfl⟩];unfold fx;rw[if_pos ⟨a9h,e,a9h,by rw[DU];omega⟩,DU]
 .rw[if_neg c];by_cases d:p=a/\q=b
  .obtain⟨rfl,rfl⟩:=d;rw[if_pos ⟨rfl,rfl⟩];unfold fx;rw[if_pos ⟨e,a9h,a9h,a9h⟩]
  .rw[if_neg d];unfold fx;by_cases h:p<5/\q<5/\p≠q/\bv p q<bv a b
   .rw[if_pos h,if_pos ⟨h.1,h.2.1,h.2.2.1,a9h⟩]
   .rw[if_neg h,if_neg λz=>h ⟨z.1,z.2.1,z.2.2.1,by
     obtain y|y:=b1m (bv p q) (bv a b)
     .exact y
     .rcases i p q ⟨z.1,z.2.1⟩ z.2.2.1 (by omega)with y|y
      .exact absurd y d
      .exact absurd y c⟩]
def TM(l){n}(h:i8 l n=0):fx l (n+1)=fx l n:=by
 funext p q;unfold fx;by_cases a:p<5/\q<5/\p≠q/\bv p q<n
 .rw[if_pos a,if_pos ⟨a.1,a.2.1,a.2.2.1,a9h⟩]
 .rw[if_neg a];split
  .rename_i z;rw[show bv p q=n by have:=a;omega];exact h
  .rfl
end Go.Proofs.q
end
section
namespace Go.Proofs.q
universe u
open Go.RowKit
attribute [local go_sem ↓] Go.wp_at_zero Go.wp_at_succ
def qz(l:List Int)(b:Int):Int:=if b∈l then (l.idxOf b:Int)else -1
def VW(l:List Int)(b):∀k (a:k<l.length),l[k]=b->(∀q,(c:q<l.length)->q<k->l[q]≠b)->l.idxOf b=k:=by
 induction l with
 |nil=>intro k a;simp at a
 |cons x l d=>
  intro k a e h;cases k with
  |zero=>simp at e;simp[b0X,e]
  |succ k=>
   have h0:=h 0 a9i a9h;simp only[a9Q]at h0;have:=d k (by simpa using a) (by simpa using e) λq c f=>h (q+1) (by simpa using c) a9h;have g:(x==b)=false:=by simpa using h0
   simp[b0X,g,this]
def a0B{l b}{k:Nat}(a:k<l.length)(e:l[k]=b)(h:∀q,(c:q<l.length)->q<k->l[q]≠b):qz l b=k:=by unfold qz;rw[if_pos (e▸kK a),VW l b k a e h]
def a0D{l b}(h:∀q,(a:q<l.length)->l[q]≠b):qz l b= -1:=by unfold qz;rw[if_neg λc=>by obtain⟨q,a,e⟩:=ox c;exact h q a e]
def JG(v a n cap:Nat)(ao l b w)(N:a<5)(x:l.length=n)(O:n<=5)(P:w.cell? ⟨v,30+a,none⟩=some (.slice ao n cap))(y:fO w ao l):Calls Gh.prog.{u} 27 #[.pointer (some ⟨v,0,none⟩),.int .i64 a,.int .i64 b] w λe D=>e=.returned (.int .i64 (qz l b))/\D=w:=by
 have z:=ak x;have F:=ak y;clear x y;have H:(0:Int)<=(a:Int)/\(a:Int)<5:=a9h
 go_enter Gh.func27,Tryz.ntmps27;go_wp2
 go_loop [7] (λj=> ∃k:Nat,k<=n/\j=.int .i64 k/\∀q,(o:q<l.length)->q<k->l[q]≠b) (λj=>n - (intOf j).toNat)
 case atStart=>exact⟨0,a9h,rfl,λq _ h=>a9h⟩
 case round=>
  obtain⟨k,Q,rfl,A⟩:=hrel;have p:=ak A;clear A;by_cases r:k<n
  .have c:k<l.length:=by rw[af z];exact r
   obtain h0|⟨g,I,rfl,f⟩:=af F
   .rw[h0]at c;simp at c
   .have J:=f k c;generalize B:l[k]=E at*;have C:=ak B;clear B f;by_cases d:E=b
    .have K:(E==b)=true:=by simp[d]
     have s:=ak d;clear d;go_wp2;go_ret;exact⟨jM (by rw[a0B c ((af C).trans (af s)) (af p)]),rfl⟩
    .have K:(E==b)=false:=by simp[d]
     have s:=ak d;clear d;go_wp2
     go_round
     case rel=>
      refine⟨k+1,a9h,by go_num,λj L M=>?_⟩;by_cases i:j=k
      .subst i;rw[af C];exact af s
      .exact af p j L a9h
     case measure=>simp[intOf];omega
  .have t:k=n:=a9h
   subst t;go_wp2;go_ret;exact⟨jM (by rw[a0D λq o=>af p q o (by rw[<-af z];exact o)]),rfl⟩
end Go.Proofs.q
end
section
namespace Go.Proofs.q
universe u
def bh(d:Nat):Pf:=⟨((d:Int)+1)*16777216,8⟩
def JE{a b}(h:bh a=bh b):a=b:=by have:=congrArg Pf.addr h;simp only[bh]at this;omega
end Go.Proofs.q
end
section
namespace Go.Proofs.q
universe u
open Go.RowKit
attribute [local go_sem ↓] Go.wp_at_zero Go.wp_at_succ
def JJ(n:Nat)(w)(a:n<5):Calls Gh.prog.{u} 12 #[.int .i64 n] w λe w'=>e=.returned (.agg #[.int .u32 (bh n).addr,.int .i64 (bh n).len])/\aJ w w':=by
 obtain rfl|rfl|rfl|rfl|rfl:n=0\/n=1\/n=2\/n=3\/n=4:=a9h
 all_goals
  go_enter Gh.func12,Tryz.ntmps12;go_wp2;exact bodyPost_ret (by simp[results,Tryz.results12,go_sem];exact⟨rfl,rfl⟩) rfl ⟨rfl,(aJ.refl w).alloc _⟩
end Go.Proofs.q
end
section
namespace Go.Proofs.q
universe u
open Go.RowKit Go.Shelf
structure fC (w:aa) (m:Nat) (v:aj) (l:List Int):Prop where
 own:w.ownsRow m 3 1 v l.length (cW l)
 ints:jO w v
 pos:∀g,v.ownBlock=some g->0<l.length
def fC.nil(w m):fC w m (.slice none 0 0) []:=⟨World.ownsRow_nil _ _ _ _,(λa n c e=>by cases e),λg h=>by cases h⟩
def fC.blk{w m v l}(h:fC w m v l){g}(a:v.ownBlock=some g):m<=g/\g<w.heap.size:=by
 obtain⟨_,⟨rfl,_⟩|⟨f,b,c,rfl,d,e,_⟩⟩:=h.own
 .cases a
 .simp only[Value.ownBlock,cK]at a;subst a;exact⟨d,(bz.1 e).1⟩
def fC.keep{w w' m v l}(h:fC w m v l)(k:∀g,v.ownBlock=some g->w'.heap[g]?=w.heap[g]?):fC w' m v l:=by
 obtain⟨⟨o,d⟩,p,q⟩:=h;refine⟨⟨o,?_⟩,λa n c e=>?_,q⟩
 .rcases d with d|⟨g,f,b,rfl,d,i,j⟩
  .exact .inl d
  .exact .inr ⟨g,f,b,rfl,d,(k g rfl).trans i,j⟩
 .subst e;obtain⟨b,i,j⟩:=p a n c rfl;exact⟨b,(k a.block rfl).trans i,j⟩
def fC.slice{w m v l}(h:fC w m v l):∃b a,v=.slice b l.length a/\(b=none->l.length=0/\a=0)/\fO w b l/\(0<l.length\/b=none):=by
 obtain⟨f,⟨rfl,c⟩|⟨g,a,d,rfl,c,i,j,n,o,p⟩⟩:=h.own
 .exact⟨none,0,by rw[c],λ_=>⟨c,rfl⟩,.inl (gj c),.inr rfl⟩
 .refine⟨_,a,rfl,(by intro q;cases q),?_,?_⟩
  .refine .inr ⟨g,0,rfl,λk e=>?_⟩;have:=h.own.cells (g:=g) rfl k (.int .i64 l[k]) (by simp[cW,e]);rw[show(⟨g,0,none⟩:aF).add k=⟨g,0+k,none⟩by unfold Addr.add;split<;>simp_all]at this;exact this
  .exact .inl (h.pos g rfl)
def fC.app{w m u v a p}(l:fC w m u a)(n:fC w m v p)(r:∀g,u.ownBlock=some g->v.ownBlock≠some g)(t:a.length<=100)(y:m<=w.heap.size)(x):∃j f,(∀z,(Builtin.append_ #[22,22] z #[u,.slice (some ⟨w.heap.size,0,none⟩) 1 1]).run Gh.prog.{u} (w.alloc (.cells #[.int .i64 x] 3))=.ok j f)/\fC f m j (a++[x])/\fC f m v p/\(∀g,j.ownBlock=some g->v.ownBlock≠some g)/\Below m w f/\∃g c,j=.slice (some ⟨g,0,none⟩) (a.length+1) c:=by
 obtain⟨g,o,f,A,B,C,s,D⟩:=a2P.{u} (w.alloc (.cells #[.int .i64 x] 3)) m a.length w.heap.size a u x (l.own.alloc _) (zv l.ints ((Below.refl _ w).alloc (az _) _) (az _)) t ((aE.new w #[.int .i64 x] 3).cell 0) a9l;have b:(a++[x]).length=a.length+1:=a9i
 refine⟨_,f,A,⟨by rw[b];exact B,C,λ_ _=>by rw[b];omega⟩,n.keep λk d=>?_,λk d h=>?_,?_,g,o,rfl⟩
 .have i:=(n.blk d).2;rw[s.block k a9l λe=>r k e.symm d];exact Below.heap_alloc w _ k i
 .simp only[Value.ownBlock,cK]at d;subst d;have i:=(n.blk h).2;obtain q|q:=D
  .exact r g q h
  .simp at q;omega
 .exact((Below.refl _ w).alloc y _).grown s a9l λk d=>(l.blk d).1
def ua(w:aa)(f c R:Nat)(b:List Int)(p:Pf):Prop:=
 ∃V d e,dK w f R b [fJ p] V d e/\jO w d/\(∃a,e=.slice a 1 1)/\R<c/\V<c/\(∀g,d.ownBlock=some g->g<c)/\∀g,e.ownBlock=some g->g<c
def Js{w w':aa}{b e f n:Nat}{v xs}(h:w.ownsRow b e f v n xs)(j:∀g,v.ownBlock=some g->b<=g->w'.heap[g]?=w.heap[g]?):w'.ownsRow b e f v n xs:=by
 obtain⟨i,a|⟨g,c,d,rfl,a,k,l⟩⟩:=h
 .exact⟨i,.inl a⟩
 .exact⟨i,.inr ⟨g,c,d,rfl,a,(j g rfl a).trans k,l⟩⟩
def qw{w:aa}{b e c n g:Nat}{v d}(h:w.ownsRow b e c v n d)(a:v.ownBlock=some g):b<=g/\g<w.heap.size:=by
 obtain⟨_,⟨rfl,_⟩|⟨l,f,i,rfl,j,k,o⟩⟩:=h
 .cases a
 .simp only[Value.ownBlock,cK]at a;subst a;exact⟨j,(bz.1 k).1⟩
def ua.keep{w w' i j R b p}(h:ua w i j R b p)(f:∀k,i<=k->k<j->w'.heap[k]?=w.heap[k]?):ua w' i j R b p:=by obtain⟨V,x,y,d,z,A,t,u,l,v⟩:=h;refine⟨V,x,y,⟨(f R d.new.1 t).trans d.blk,(f V d.new.2 u).trans d.view,Js d.aH λg o q=>f g q (l g o),Js d.rows λg o q=>f g q (v g o),d.new⟩,λa n c e=>?_,A,t,u,l,v⟩;subst e;obtain⟨r,B,C⟩:=z a n c rfl;have s:=qw d.aH (g:=a.block) rfl;exact⟨r,(f a.block s.1 (l _ rfl)).trans B,C⟩
end Go.Proofs.q
end
section
namespace Go.Proofs.q
universe u
open Go.RowKit Go.Shelf
attribute [local go_sem ↓] Go.wp_at_zero Go.wp_at_succ
def a4d{P ops o a w K Q E}(e:o.guard=none)(s x t)(b:o.op=Op.call {callee:=Callee.builtin Builtin.append,args:=#[s,x],argTypes:=#[t,t]})(c d)(f:a.eval s=c)(g:a.eval x=d)(v' w')(h:(Builtin.append_ #[t,t] o.type #[c,d]).run P w=.ok v' w')(i:K (a.put o.dst v') w'):if Region.wanted o (yielded ops a.tmps)=true then Oper.wp P o a w K Q else E:=by rw[if_pos (by simp[Region.wanted,e])];exact Lib.wp_append_run w s x t t b c d f g v' w' h i
structure mw (w wr:aa) (l:List Int) (n:Nat):Prop where
 b:aE wr w.heap.size (fN (fx l n) (λ_=>.pointer none) λ_=>.slice none 0 0) 74
 bl:Below w.heap.size w wr
def TN(l):fx l 0=λ_ _=>0:=by funext p q;unfold fx;exact if_neg λz=>a9h
def Pp(w l){c}(b:c=fN (λ_ _=>0) (λ_=>.pointer none) λ_=>.slice none 0 0):mw w (w.alloc (.cells c 74)) l 0:=by subst b;exact⟨by rw[TN];exact aE.new w _ _,(Below.refl _ w).alloc (az _) _⟩
def mw.put{w wr l a b}(h:mw w wr l (bv a b))(c:a<5)(d:b<a):mw w ((wr.setCell ⟨w.heap.size,a*5+b,none⟩ (.int .i64 (i8 l (bv a b):Nat))).setCell ⟨w.heap.size,b*5+a,none⟩ (.int .i64 (i8 l (bv a b):Nat))) l (bv a b+1):=by refine⟨?_,(h.bl.setCell (p:=⟨w.heap.size,_,none⟩) (az _) _).setCell (p:=⟨w.heap.size,_,none⟩) (az _) _⟩;have:=(h.b.set (a*5+b) (.int .i64 (i8 l (bv a b):Nat))).set (b*5+a) (.int .i64 (i8 l (bv a b):Nat));rw[IA _ _ _ _ c a9h,IA _ _ _ _ a9h c,TK l c d]at this;exact this
def mw.same{w wr l n}(h:mw w wr l n)(c:i8 l n=0):mw w wr l (n+1):=⟨by rw[TM l c];exact h.b,h.bl⟩
def a0R{l n}(h:l.length<=n):i8 l n=0:=by unfold i8;rw[pJ h]
def a0S{l n}(h:n<l.length):i8 l n=if gP l[n] 24<16 then (gP l[n] 24).toNat else 0:=by unfold i8;rw[iM h]
def LI{a b}(h:b<a):bv a b=bv a 0+b:=by simp only[bv,Nat.max_eq_left (b0q h),Nat.min_eq_right (b0q h),Nat.max_eq_left (iP a),Nat.min_eq_right (iP a)];omega
def a5f:∀a,a<5->bv a 0<=6:=a9j
def LJ:∀a,a<5->bv a 0+a=bv (a+1) 0:=a9j
def fR(F:Nat->Nat->Nat)(a k:Nat):List Nat:=(List.range k).filter λb=>decide (F a b≠0)
def jj(F:Nat->Nat->Nat)(a k:Nat):List Int:=(fR F a k).map λb=>(F a b:Int)
def Lc(F a k):fR F a (k+1)=if F a k≠0 then fR F a k++[k]else fR F a k:=by
 unfold fR;rw[pL,List.filter_append];by_cases h:F a k≠0
 .rw[if_pos h];simp[h]
 .rw[if_neg h];simp at h;simp[h]
def zN(F a k):(fR F a k).length<=k:=by have:=List.length_filter_le (λb=>decide (F a b≠0)) (List.range k);simpa[fR]using this
structure gE (w wr:aa) (F:Nat->Nat->Nat) (a:Nat) (R:Nat->Nat) (sv:Nat->aj) (m lo:Nat->Nat):Prop where
 b:aE wr w.heap.size (fN F (λx=>if x<a then .pointer (some ⟨R x,0,none⟩)else .pointer none) λx=>if x<a then sv x else .slice none 0 0) 74
 bl:Below w.heap.size w wr
 z:w.heap.size<m 0
 mo:∀x,x<a->m x<=lo x/\lo x<=m (x+1)
 top:m a=wr.heap.size
 rt:∀x,x<a->ua wr (lo x) (m (x+1)) (R x) (jj F x 5) (bh x)
 sd:∀x,x<a->fC wr (m x) (sv x) ((fR F x 5).map Int.ofNat)/\∀g,(sv x).ownBlock=some g->g<lo x
structure lM (w wF wr:aa) (F:Nat->Nat->Nat) (a k:Nat) (R:Nat->Nat) (sv:Nat->aj) (mm:Nat) (u v:aj):Prop where
 b:aE wr w.heap.size (fN F (λx=>if x<a then .pointer (some ⟨R x,0,none⟩)else .pointer none) (fA (λx=>if x<a then sv x else .slice none 0 0) a v)) 74
 bl:Below w.heap.size w wr
 kp:∀j,j<mm->j≠w.heap.size->wr.heap[j]?=wF.heap[j]?
 top:mm<=wr.heap.size/\w.heap.size<mm
 u1:fC wr mm u (jj F a k)
 v1:fC wr mm v ((fR F a k).map Int.ofNat)
 ap:∀g,u.ownBlock=some g->v.ownBlock≠some g
def a5D{f a v}(h:f a=v):fA f a v=f:=by
 funext x;unfold fA;split
 .rename_i e;rw[e,h]
 .rfl
def gE.side{w wr F a R sv m c}(h:gE w wr F a R sv m c):lM w wr wr F a 0 R sv wr.heap.size (.slice none 0 0) (.slice none 0 0):=by refine⟨by rw[a5D (if_neg (oC a))];exact h.b,h.bl,λ_ _ _=>rfl,⟨az _,h.b.lt⟩,fC.nil _ _,fC.nil _ _,λg h=>by cases h⟩
section
variable{w wF wr:aa}{F:Nat->Nat->Nat}{a k:Nat}{R:Nat->Nat}{sv:Nat->aj}{mm:Nat}{u v:aj}
def lM.skip(h:lM w wF wr F a k R sv mm u v)(c:F a k=0):lM w wF wr F a (k+1) R sv mm u v:=by
 have e:fR F a (k+1)=fR F a k:=by rw[Lc,if_neg (by simpa using c)]
 exact⟨h.b,h.bl,h.kp,h.top,by unfold jj;rw[e];exact h.u1,by rw[e];exact h.v1,h.ap⟩
def lM.first{d u'}(h:lM w wF wr F a k R sv mm u v)(c:Below mm wr d)(l:fC d mm u' (jj F a k++[((F a k:Nat):Int)]))(n:fC d mm v ((fR F a k).map Int.ofNat))(o:∀g,u'.ownBlock=some g->v.ownBlock≠some g):aE d w.heap.size (fN F (λx=>if x<a then .pointer (some ⟨R x,0,none⟩)else .pointer none) (fA (λx=>if x<a then sv x else .slice none 0 0) a v)) 74/\Below w.heap.size w d/\(∀j,j<mm->j≠w.heap.size->d.heap[j]?=wF.heap[j]?)/\mm<=d.heap.size:=by have f:=h.top;have p:=c.size;exact⟨(c.block _ f.2).trans h.b,h.bl.trans ⟨c.os,c.tape,c.output,c.size,λj e=>c.block j a9h⟩,λj e i=>(c.block j e).trans (h.kp j e i),a9h⟩
def a5E(f a u v):fA (fA f a u) a v=fA f a v:=by funext x;unfold fA;split<;>rfl
def po{w:aa}{B k}(h:k≠B)(i x):(w.setCell ⟨B,i,none⟩ x).heap[k]?=w.heap[k]? :=Below.heap_setCell _ _ _ _ (by simpa using h)
def lM.second{d b u' v'}(h:lM w wF wr F a k R sv mm u v)(s:F a k≠0)(t:a<5)(f:aE d w.heap.size (fN F (λx=>if x<a then .pointer (some ⟨R x,0,none⟩)else .pointer none) (fA (λx=>if x<a then sv x else .slice none 0 0) a v)) 74/\Below w.heap.size w d/\(∀j,j<mm->j≠w.heap.size->d.heap[j]?=wF.heap[j]?)/\mm<=d.heap.size)(c:Below mm d.drew b)(n:fC b mm v' ((fR F a k).map Int.ofNat++[((k:Nat):Int)]))(o:fC b mm u' (jj F a k++[((F a k:Nat):Int)]))(y:∀g,v'.ownBlock=some g->u'.ownBlock≠some g):lM w wF (b.setCell ⟨w.heap.size,30+a,none⟩ v') F a (k+1) R sv mm u' v':=by
 have q:=h.top;have z:=c.size;have e:fR F a (k+1)=fR F a k++[k]:=by rw[Lc,if_pos s]
 have A:aE b w.heap.size _ _:=(c.block _ q.2).trans f.1;refine⟨?_,(f.2.1.trans ⟨c.os,c.tape,c.output,c.size,λj i=>c.block j a9h⟩).setCell (p:=⟨w.heap.size,30+a,none⟩) (az _) _,λj i r=>(po r _ _).trans ((c.block j i).trans (f.2.2.1 j i r)),⟨?_,q.2⟩,?_,?_,λg q1 B=>y g B q1⟩
 .have:=A.set (30+a) v';rw[Ye _ _ _ _ t,a5E]at this;exact this
 .have:=f.2.2.2;have:d.heap.size<=b.heap.size:=z;simp[World.setCell];omega
 .have:=o.keep (w':=b.setCell ⟨w.heap.size,30+a,none⟩ v') λg l=>po (by have:=(o.blk l).1;omega) _ _;unfold jj at this⊢;rw[e,nj];exact this
 .have:=n.keep (w':=b.setCell ⟨w.heap.size,30+a,none⟩ v') λg l=>po (by have:=(n.blk l).1;omega) _ _;rw[e,nj];exact this
def gE.next{m I W w8 l V cv y}(h:gE w wF F a R sv m I)(i:lM w wF wr F a 5 R sv wF.heap.size u v)(P:a<5)(J:Below wr.heap.size wr W)(K:Below W.heap.size W w8)(n:dK w8 W.heap.size l (jj F a 5) [fJ (bh a)] V cv y)(A:jO w8 cv)(B:∃x,y=.slice x 1 1):gE w (w8.setCell ⟨w.heap.size,25+a,none⟩ (.pointer (some ⟨l,0,none⟩))) F (a+1) (λx=>if x=a then l else R x) (fA sv a v) (λx=>if x=a+1 then w8.heap.size else m x) (λx=>if x=a then W.heap.size else I x):=by
 have X:=i.top;have Q:=J.size;have s2:=K.size;have c:Below wr.heap.size wr w8:=J.trans (K.mono Q);have S:aE w8 w.heap.size _ _:=(c.block _ i.b.lt).trans i.b;have o:∀x,x<a->m (x+1)<=wF.heap.size:=λx s=>by
  have C:∀d,x+1+d<=a->m (x+1)<=m (x+1+d):=by
   intro d;induction d with
   |zero=>intro _;exact az _
   |succ d D=>intro Y;have:=h.mo (x+1+d) a9h;have:=D a9h;show m (x+1)<=m (x+1+d+1);omega
  have:=C (a - (x+1)) a9h;rw[show x+1+(a - (x+1))=a by omega,h.top]at this;exact this
 have r:∀x,x<=a->w.heap.size<m x:=by
  intro x;induction x with
  |zero=>intro _;exact h.z
  |succ x D=>intro s;have:=h.mo x a9h;have:=D a9h;omega
 have L:∀j,j<wF.heap.size->j≠w.heap.size->(w8.setCell ⟨w.heap.size,25+a,none⟩ (.pointer (some ⟨l,0,none⟩))).heap[j]?=wF.heap[j]? :=λj M N=>(po N _ _).trans ((c.block j a9h).trans (i.kp j M N));refine⟨?_,?_,?_,λx s=>?_,?_,λx s=>?_,λx s=>?_⟩
 .have:=S.set (25+a) (.pointer (some ⟨l,0,none⟩));rw[Yd _ _ _ _ P]at this;have T:fA (λx=>if x<a then Value.pointer (some ⟨R x,0,none⟩)else .pointer none) a (.pointer (some ⟨l,0,none⟩))=λx=>if x<a+1 then .pointer (some ⟨if x=a then l else R x,0,none⟩)else .pointer none:=by
   funext x;unfold fA;by_cases e:x=a
   .rw[if_pos e,if_pos a9h,if_pos e]
   .rw[if_neg e,if_neg e];dsimp only;by_cases q:x<a
    .rw[if_pos q,if_pos a9h]
    .rw[if_neg q,if_neg a9h]
  have U:fA (λx=>if x<a then sv x else .slice none 0 0) a v=λx=>if x<a+1 then fA sv a v x else .slice none 0 0:=by
   funext x;unfold fA;by_cases e:x=a
   .rw[if_pos e,if_pos a9h,if_pos e]
   .rw[if_neg e,if_neg e];dsimp only;by_cases q:x<a
    .rw[if_pos q,if_pos a9h]
    .rw[if_neg q,if_neg a9h]
  rw[T,U]at this;exact this
 .exact(i.bl.trans ⟨c.os,c.tape,c.output,c.size,λj M=>c.block j a9h⟩).setCell (p:=⟨w.heap.size,25+a,none⟩) (az _) _
 .rw[if_neg a9h];exact h.z
 .by_cases e:x=a
  .subst e;rw[if_neg a9h,if_pos rfl,if_pos rfl,h.top];omega
  .have:=h.mo x a9h;rw[if_neg a9h,if_neg e,if_neg a9h];exact this
 .rw[if_pos rfl];simp[World.setCell]
 .by_cases e:x=a
  .subst e;rw[if_pos rfl,if_pos rfl,if_pos rfl];refine ua.keep (w:=w8) ⟨V,cv,y,n,A,B,n.blk.lt,n.view.lt,λg f=>(qw n.aH f).2,λg f=>(qw n.rows f).2⟩ λk t _=>po a9h _ _
  .rw[if_neg e,if_neg a9h,if_neg e];have E:=h.mo x a9h;have:=r x a9h;exact(h.rt x a9h).keep λk t H=>L k (by have:=o x a9h;omega) a9h
 .by_cases e:x=a
  .subst e;rw[if_neg a9h,if_pos rfl];rw[show fA sv x v x=v from if_pos rfl,h.top];refine⟨i.v1.keep λg f=>?_,λg f=>?_⟩
   .have O:=i.v1.blk f;exact(po a9h _ _).trans (c.block g O.2)
   .have O:=i.v1.blk f;omega
  .rw[if_neg a9h,if_neg e,show fA sv a v x=sv x from if_neg e];obtain⟨t,H⟩:=h.sd x a9h;have E:=h.mo x a9h;have:=r x a9h;have:=o x a9h;refine⟨t.keep λg f=>L g ?_ ?_,H⟩
   .have:=H g f;omega
   .have:=(t.blk f).1;omega
def a0v(c:a<5):yW [bh a]:=λp b=>by obtain rfl:=fM.1 b;simp only[bh];omega
def a0t(w:aa)(p):mM (w.alloc (.cells #[.int .u32 p.addr,.int .i64 p.len] 32)) (some ⟨w.heap.size,0,none⟩) [p]:=by
 refine .inr ⟨w.heap.size,0,rfl,λk b=>?_⟩;obtain rfl:k=0:=by simpa using b
 have h:=aE.new w #[.int .u32 p.addr,.int .i64 p.len] 32;exact⟨h.cell 0,h.cell 1⟩
def Qm(hF:∀p q,F p q<=15)(f:a<5):(jy (jj F a 5)&&o9 [bh a])=true:=by
 have d:(jj F a 5).length<=8:=by have:=zN F a 5;simp only[jj,b0A];omega
 have e:o9 [bh a]=true:=by
  obtain rfl|rfl|rfl|rfl|rfl:a=0\/a=1\/a=2\/a=3\/a=4:=a9h
  all_goals decide
 simp only[e,Bool.and_true,jy,d,decide_true,b1h,pH,List.any_eq_false];intro x c;simp only[jj,eS,fR,b0y,decide_eq_true_eq]at c;obtain⟨b,⟨_,g⟩,rfl⟩:=c;have:=hF a b;simp[kf];omega
end
def Pq(ar cr l w)(hl:l.length<=100000000000000)(hr:∀x∈l, -9223372036854775808<=x/\x<9223372036854775808)(hn:fO w ar l):Calls Gh.prog.{u} 23 #[.slice ar l.length cr] w λe w'=> ∃R sv m lo,e=.returned (.pointer (some ⟨w.heap.size,0,none⟩))/\gE w w' (fx l (bv 5 0)) 5 R sv m lo:=by
 have hP:∀x∈l,∀W,Calls Gh.prog.{u} 15 #[.int .i64 x,.int .i64 24] W λe w'=>e=.returned (.int .i64 (gP x 24))/\w'=W:=λx hx W=>C2 x 24 W a9h a9h (hr x hx).1 (hr x hx).2;have HN:=ak hn;have HP:=ak hP;clear hn hr hP;generalize hL:l.length=L at*;go_enter Gh.func23,Tryz.ntmps23;go_wp2
 go_loopw [4,5] (λD i wr=> ∃a:Nat,a<=5/\D=.int .i64 (min (bv a 0) L:Nat)/\i=.int .i64 a/\mw w wr l (bv a 0)) (λ_ i _=>5 - (intOf i).toNat)
 case atStart=>exact⟨0,a9h,by simp[bv],rfl,Pp w l (by rfl)⟩
 case round=>
  obtain⟨a,ha,rfl,rfl,hI⟩:=hrel;have HI:=ak hI;clear hI;by_cases d:a<5
  .have a0:(0:Int)<=(a:Int)/\(a:Int)<5:=a9h
   go_wp2
   go_loopw [4,6] (λD i wr=> ∃b:Nat,b<=a/\D=.int .i64 (min (bv a 0+b) L:Nat)/\i=.int .i64 b/\mw w wr l (bv a 0+b)) (λ_ i _=>a - (intOf i).toNat)
   case atStart=>exact⟨0,a9h,rfl,rfl,af HI⟩
   case round=>
    obtain⟨b,hb,rfl,rfl,hI⟩:=hrel;by_cases E:b<a
    .rw[<-LI E]at hI;have H:=LI E;have ht:bv a b<20:=by have:=a5f a d;omega
     have j:bv a 0+(b+1)=bv a b+1:=a9h
     have b0:(0:Int)<=(b:Int)/\(b:Int)<5:=a9h
     have b1:(b:Int)<(a:Int):=a9h
     rw[<-H];by_cases bF:bv a b<L
     .have hm:min (bv a b) L=bv a b:=a9h
      have s:min (bv a b+1) L=bv a b+1:=a9h
      have f:bv a b<l.length:=a9h
      have o:=a0S f;have P:=af HP l[bv a b] (kK f);have hz:=qy l[bv a b] 24 a9h;have Q:=ak (hI.put d E);have I:=ak (hI.same);obtain h0|⟨g,bG,hg,S⟩:=vL (af HN) hI.bl
      .rw[h0]at f;simp at f
      have c0:=S (bv a b) f;have f1:=(hI.b.cell (a*5+b)).trans (Cr _ _ _ d a9h);have f2:=hI.b.frozen (a*5+b);have HB:=ak hI.b;have n:=ak j;have HT:=ak H;rw[hm];clear hI S hm j H;subst hg;generalize bI:gP l[bv a b] 24=z at*;generalize l[bv a b]=lz at*;generalize hT:bv a b=t at*;have t0:(t:Int)<(L:Int):=a9h
      have t1:(0:Int)<=(t:Int):=a9h
      by_cases A:z<16
      .rw[if_pos A]at o;have T:z=(i8 l t:Nat):=a9h
       have J:=ak (T▸af Q);have g2:(wr.setCell ⟨w.heap.size,a*5+b,none⟩ (.int .i64 z)).frozen? ⟨w.heap.size,b*5+a,none⟩=false:=((af HB).set (a*5+b) (.int .i64 z)).frozen _;have g1:∃u,(wr.setCell ⟨w.heap.size,a*5+b,none⟩ (.int .i64 z)).cell? ⟨w.heap.size,b*5+a,none⟩=some u:=by rw[((af HB).set (a*5+b) (.int .i64 z)).cell];exact⟨_,eY (by simp[yE];omega)⟩
       obtain⟨u,g1⟩:=g1;clear o T;go_wp2_with (go_at_call 15;refine(P _).mono ?_;rintro e wp ⟨rfl,rfl⟩)
       go_roundw
       case rel=>exact⟨b+1,a9h,by rw[af n,s];go_num,by go_num,by rw[af n];exact af J⟩
       case measure=>simp[intOf];omega
      .rw[if_neg A]at o;have q:=ak (af I o);go_wp2_with (go_at_call 15;refine(P _).mono ?_;rintro e wp ⟨rfl,rfl⟩)
       go_roundw
       case rel=>exact⟨b+1,a9h,by rw[af n,s];go_num,by go_num,by rw[af n];exact af q⟩
       case measure=>simp[intOf];omega
     .have hm:min (bv a b) L=L:=a9h
      have s:min (bv a b+1) L=L:=a9h
      have q:=ak (hI.same (a0R a9h));have n:=ak j;rw[hm];clear hI j;go_wp2
      go_roundw
      case rel=>exact⟨b+1,a9h,by rw[af n,s],by go_num,by rw[af n];exact af q⟩
      case measure=>simp[intOf];omega
    .obtain rfl:b=a:=a9h
     have bd:=ak hI;clear hI;have b1: ¬((b:Int)<(b:Int)):=a9h
     go_wp2
     go_roundw
     case rel=>exact⟨b+1,a9h,by rw[<-LJ b d],by go_num,by rw[<-LJ b d];exact af bd⟩
     case measure=>simp[intOf];omega
  .have a1: ¬((a:Int)<5):=a9h
   have hF:mw w wr l (bv 5 0):=by rw[show(5:Nat)=a by omega];exact af HI
   have U:=GY l (bv 5 0);have K:=ak hF;clear hF;generalize X:fx l (bv 5 0)=F at*;generalize ((min (bv a 0) L:Nat):Int)=at0 at*;go_wp2
   go_loopw [8] (λi wr=> ∃(a:Nat) (R:Nat->Nat) (sv:Nat->aj) (m lo:Nat->Nat),a<=5/\i=.int .i64 a/\gE w wr F a R sv m lo) (λi _=>5 - (intOf i).toNat)
   case atStart=>refine⟨0,λ_=>0,λ_=>.slice none 0 0,λ_=>wr.heap.size,λ_=>0,a9h,rfl,?_,(af K).bl,(af K).b.lt,λx h=>a9h,rfl,λx h=>a9h,λx h=>a9h⟩;have:=(af K).b;rw[X]at this;simpa using this
   case round=>
    obtain⟨a,R,sv,m,lo,ha,rfl,hI⟩:=hrel;have HR:=ak hI;clear hI;by_cases d:a<5
    .have a0:(0:Int)<=(a:Int)/\(a:Int)<5:=a9h
     generalize bN:wr=wF at*;go_wp2
     go_loopw [9,10] (λc i wr=> ∃(k:Nat) (v:aj),k<=5/\i=.int .i64 k/\lM w wF wr F a k R sv wF.heap.size c v) (λ_ i _=>5 - (intOf i).toNat)
     case atStart=>exact⟨0,_,a9h,rfl,(af HR).side⟩
     case round=>
      obtain⟨k,v,hk,rfl,p⟩:=hrel;by_cases bn:k<5
      .have k0:(0:Int)<=(k:Int)/\(k:Int)<5:=a9h
       have c0:=(p.b.cell (a*5+k)).trans (Cr _ _ _ d bn);have bO:=U a k;by_cases hz:F a k=0
       .have q:=ak (p.skip hz);clear p;have z0: ¬((0:Int)<((F a k:Nat):Int)):=a9h
        clear hz;generalize ((F a k:Nat):Int)=fv at*;go_wp2
        go_roundw
        case rel=>exact⟨k+1,v,a9h,by go_num,af q⟩
        case measure=>simp[intOf];omega
       .obtain⟨u',w5,bo,Y,Z,ab,bp,g5,q5,rfl⟩:=p.u1.app p.v1 p.ap (by have:=zN F a k;simp[jj];omega) p.top.1 ((F a k:Nat):Int);have M:=p.first bp Y Z ab
        have z0:(0:Int)<((F a k:Nat):Int):=a9h
        have c5:=(M.1.cell (30+a)).trans (Cs _ _ _ d);rw[show fA (λx=>if x<a then sv x else .slice none 0 0) a v a=v from if_pos rfl]at c5;generalize br:((F a k:Nat):Int)=fv at*;have y:=ak M;clear M;go_wp2_with (at_builtin;refine Lib.wpList_append_run _ rfl _ _ _ _ rfl _ _ rfl rfl _ _ (bo _) ?_);obtain⟨v',w6,ad,ae,bs,aq,au,g6,q6,rfl⟩:=(Z.keep (w':=w5.drew) λ_ _=>rfl).app (Y.keep (w':=w5.drew) λ_ _=>rfl) (λg q1 q2=>ab g q2 q1) (by have:=zN F a k;simp;omega) (af y).2.2.2 ((k:Nat):Int);simp only[b0A]at ad ae aq;have b6:=(au.block w.heap.size p.top.2).trans (af y).1;have e6:=(aE.cell b6 (30+a)).trans (Cs _ _ _ d);have f6:=aE.frozen b6 (30+a);have B:=ak (p.second hz d (af y) au ae (by rw[br];exact bs) aq);have c7:(w5.alloc (.cells #[.int .i64 ((k:Nat):Int)] 3)).cell? ⟨w.heap.size,30+a,none⟩=some v:=(World.cell?_of_block (Below.heap_alloc w5 _ _ (af y).1.lt)).trans c5;have bP:=gQ.{u};refine a6A ?_
        go_region_law (refine a4d rfl (.tmp 88) (.tmp 90) 22 rfl _ _ (by rfl) (by rfl) _ _ (ad _) ?_)
        dsimp only;go_wp2_with fail
        go_roundw
        case rel=>exact⟨k+1,_,a9h,by go_num,af B⟩
        case measure=>simp[intOf];omega
        all_goals exact⟨⟨k+1,_,a9h,by go_num,af B⟩,by simp[intOf];omega⟩
      .obtain rfl:k=5:=a9h
       obtain⟨ao,bw,rfl,C,av,aP⟩:=p.u1.slice;have HS:=ak p;have bx:=ak av;have ba:=ak C;have bA:=ak aP;have bB:=λW=>JJ.{u} a W d;clear p av C aP;go_wp2_with (first|(go_at_call 12;refine(bB _).mono ?_;rintro e w7 ⟨rfl,N⟩;have hW:=N.below.alloc N.below.size (.cells #[.int .u32 (bh a).addr,.int .i64 (bh a).len] 32);have HW:=ak hW;clear N hW)|(go_at_call 11;refine(IB.{u} ao (some ⟨w7.heap.size,0,none⟩) bw 1 (jj F a 5) [bh a] _ (Qm U d) (a0v d) rfl (az _) (af ba) (vL (af bx) (af HW)) (a0t w7 (bh a))).mono ?_;rintro e w8 ⟨R',V,cv,rv,Ls,rfl,hR,r,_,O,bb,bc⟩;obtain rfl:=List.perm_singleton.1 r;have j:=(af HR).next (af HS) d (af HW) O hR (bb (af bA)) bc;have hB:aE w8 w.heap.size _ _:=(((af HW).trans (O.mono (af HW).size)).block _ (af HS).b.lt).trans (af HS).b;have x8:=(hB.cell (25+a)).trans (Iz _ _ _ d);have y8:=hB.frozen (25+a);have bC:=ak j;clear j hB hR r O bb bc))
       go_roundw
       case rel=>exact⟨a+1,_,_,_,_,a9h,by go_num,af bC⟩
       case measure=>simp[intOf];omega
    .obtain rfl:a=5:=a9h
     go_wp2;go_ret;exact⟨R,sv,m,lo,rfl,by rw[X];exact af HR⟩
end Go.Proofs.q
end
section
namespace Go.Proofs.q
universe u
open Go.RowKit Go.Shelf Go.Lib
attribute [local go_sem ↓] Go.wp_at_zero Go.wp_at_succ
def DN:Nat->Code->Code
 |n+1,.seq _ c=>DN n c
 |_,c=>c
noncomputable def i7:Code:=DN 4 (Tryz.f7.body.getD .skip)
def mV:List Nat:=[0,1,13,14,15,16,17,18,19,20,21,32,41,46,43,48]
def Co(a:Array aj):Array aj:=a.mapIdx λi x=>if mV.contains i then undef else x
def jo(p r:aj):Array aj:=#[undef,p,undef,undef,.bool false,.bool true,r]++Array.replicate 105 undef
def En(w:aa)(l:List Int)(p:aj)(a:Act)(w':aa):Prop:=
 a.defers=[]/\a.tmps.size=112/\a.tmps[1]?=some p/\(∀i∈[32,41,46,43,48],a.tmps[i]?=some undef)/\∃b R c m d,Co a.tmps=jo undef (.pointer (some ⟨b.heap.size,0,none⟩))/\Below w.heap.size w b/\gE b w' (fx l (bv 5 0)) 5 R c m d
def X6(b ap cr np cp l w)(g:l.length<=100000000000000)(h:∀x∈l, -9223372036854775808<=x/\x<9223372036854775808)(j:fO w b l):wD Gh.prog.{u} i7 (En w l (.slice ap np cp)) (λ_ _=>False) (Tryz.f7.body.getD .skip) ⟨#[.slice b l.length cr,.slice ap np cp]++Array.replicate 110 undef,[]⟩ w:=by
 have k:=O9.{u} w;simp only[kE,kF,kM,kI,iu,fU];refine xm ?_;go_wp2;refine xm ?_;go_wp2_with (go_at_call 10;refine k.mono ?_;rintro e d ⟨rfl,a⟩);refine xm ?_;have c:=Pq.{u} b cr l d g h (vL j a);go_wp2_with (go_at_call 23;refine c.mono ?_;rintro e p ⟨R,n,m,o,rfl,hI⟩);refine xm ?_;go_wp2;refine Qp ⟨rfl,rfl,rfl,?_,d,R,n,m,o,?_,a,hI⟩
 .intro i f;simp only[dj,a9V,or_false]at f;obtain rfl|rfl|rfl|rfl|rfl:=f<;>rfl
 .rfl
end Go.Proofs.q
end
