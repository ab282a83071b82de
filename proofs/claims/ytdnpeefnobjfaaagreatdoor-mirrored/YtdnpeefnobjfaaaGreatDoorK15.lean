import Derived.BigQuiet
import Derived.Deep.DrawnRows
import Derived.Deep.QuietTactic
import Derived.Deep.RegionHeld3
import Derived.Shelf.SlSortCmp.QuietGrown
import Derived.WalkLawsBesides
import Derived.WalkSpells
import Derived.Test.YtdnpeefnobjfaaaGreatDoorK14
set_option maxRecDepth 100000
set_option maxHeartbeats 4000000
set_option linter.all false
section
namespace Go.Proofs.q
section
universe u
open Go.RowKit Go.Sort
theorem jq:Gh.prog.{u}.follows .mixedOrders=true:=by kernel_rfl
def aL(w w':aa):Prop:=∃q a,w'=grow (w.drewN q) a
def aL.refl(w):aL w w:=⟨0,#[],by simp[World.drewN]⟩
def aL.alloc{w w'}(h:aL w w')(o):aL w (w'.alloc o):=by obtain⟨q,a,rfl⟩:=h;exact⟨q,a++#[o],by rw[alloc_eq_grow,grow_grow]⟩
def aL.drew{w w'}(h:aL w w'):aL w w'.drew:=by obtain⟨q,a,rfl⟩:=h;exact⟨q+1,a,rfl⟩
def aL.drewN{w w'}(h:aL w w')(n):aL w (w'.drewN n):=by obtain⟨q,a,rfl⟩:=h;exact⟨q+n,a,by simp[grow,World.drewN,lG]⟩
def aL.below{w w'}(h:aL w w'):Below w.heap.size w w':=by obtain⟨q,b,rfl⟩:=h;exact⟨rfl,rfl,rfl,by simp[grow,World.drewN],λk a=>by simp[grow,World.drewN,a7k,a]⟩
def aL.trans{a b c}(h:aL a b)(k:aL b c):aL a c:=by obtain⟨q,e,rfl⟩:=h;obtain⟨f,d,rfl⟩:=k;exact⟨q+f,e++d,by simp[grow,World.drewN,fQ,lG]⟩
def aL.drawn{w w'}(h:aL w w'):w.drawn<=w'.drawn:=by obtain⟨q,a,rfl⟩:=h;exact Nat.le_add_right _ _
def aL.of{w w'}(h:Below w.heap.size w w')(i:w.drawn<=w'.drawn):aL w w':=by
 refine⟨w'.drawn - w.drawn,w'.heap.extract w.heap.size w'.heap.size,?_⟩;obtain⟨d,e,f,j,g⟩:=h;cases w with
 |mk a q r s t=>
  cases w' with
  |mk b l m n o=>
   simp only at d e f j g i;subst d e f;simp only[Go.Sort.grow,World.drewN];congr 1
   .apply a6C;intro k;rw[a7k];by_cases c:k<a.size
    .rw[if_pos c];exact g k c
    .rw[if_neg c,Array.getElem?_extract];by_cases p:k<b.size
     .rw[if_pos (by omega),show a.size+(k - a.size)=k by omega]
     .rw[if_neg (by omega)];simp;omega
   .omega
def aL.setCell{w w'}(h:aL w w'){p}(a:w.heap.size<=p.block)(v):aL w (w'.setCell p v):=.of (h.below.setCell (p:=p) a v) h.drawn
def aL.quiet{P:ay}{f:bc}{args:Array af}{w:aa}{n:Nat}{os:Array Obj}{v:af}(h:Calls P f args (grow (w.drewN n) os) λe b=>e=.returned v/\aL (grow (w.drewN n) os) b):Calls P f args (grow (w.drewN n) os) λe a=>e=.returned v/\∃p:GrownBy,a=grow (w.drewN p.n) p.os:=
 Calls.grown_of h
def aL.grow{w w':aa}(h:aL w w')(n:Nat)(os:Array Obj):aL w (grow (w'.drewN n) os):=h.trans ⟨n,os,rfl⟩
def aL.cell{w w'}(h:aL w w'){p v}(a:w.cell? p=some v):w'.cell? p=some v:=
 (h.below.cell (p:=p) (World.block_lt_of_cell? w _ a)).trans a
end
section
universe u
structure aT where
 addr:Int
 len:Int
 tag:Int
 met:Int
def db(a l:Int):Bool:=decide (0<=l)&&decide (l<=32)&&decide (a%2^(32 - l).toNat=0)
def dZ(n:Int):Bool:=decide (1<=n)&&decide (n<=16)
def f7(n:Int):Bool:=decide (0<=n)&&decide (n<=65535)
def Hl{a l}(h:l<0):db a l=false:=by
 have:decide (0<=l)=false:=by simp;omega
 simp[db,this]
def Yr{a l}(h:32<l):db a l=false:=by
 have:decide (l<=32)=false:=by simp;omega
 simp[db,this]
def Ys{a l}(h0:0<=l)(b:l<=32):db a l=decide (a%2^(32 - l).toNat=0):=by simp[db,h0,b]
def A0{a l}(h:db a l=true):0<=l/\l<=32:=by simp[db]at h;exact h.1
def mP(n):(0:Int)<2^n:=Int.pow_pos (by decide)
def mO(n)(h:n<=32):(2:Int)^n<=4294967296:=by
 have b:2^n<=2^32:=a7q (by decide) h;have a:((2:Int)^n)=((2^n:Nat):Int):=by simp
 rw[a];omega
def UW(n)(h:n<=32):(4294967295*2^n)%4294967296=(4294967296 - 2^n:Int):=by
 have a:=mP n;have b:=mO n h;have e:(4294967295*2^n:Int)=(4294967296 - 2^n)+4294967296*(2^n - 1):=by rw[Int.mul_sub];omega
 rw[e,Int.add_mul_emod_self_left];exact Int.emod_eq_of_lt (by omega) (by omega)
def Uz(x n):x&&&(2^n - 1)=x%2^n:=Nat.and_two_pow_sub_one_eq_mod x n
def LR(a:Int)(n)(h:n<=32)(h0:0<=a):(((a.toNat&&&(4294967295 - ((4294967296:Int) - 2^n).toNat):Nat):Int)==0)=decide (a%2^n=0):=by
 have c:=mP n;have d:=mO n h;obtain⟨x,rfl⟩:=a6B h0;have b:((2:Int)^n)=((2^n:Nat):Int):=by simp
 have e:4294967295 - ((4294967296:Int) - 2^n).toNat=2^n - 1:=by rw[b]at d c⊢;omega
 rw[e,a7c,Uz,b];rw[ma];simp only[beq_iff_eq,decide_eq_true_eq];omega
def dw(e:aT):Int:=if db e.addr e.len=false then 6 else if f7 e.tag=false then 5 else if dZ e.met=false then 8 else 0
def fj:List aT->Int->Option (Int×Int)
 |[],_=>none
 |e::r,k=>if dw e=0 then fj r (k+1)else some (dw e,k)
def eJ(a:Int)(l:List aT):Option (Int×Int):=
 if (a≠1/\a≠2)\/(a=1/\0<l.length)then some (4, -1)
 else if a=2/\(l.length=0\/25<l.length)then some (3, -1)
 else fj l 0
def rU{e}(h:dw e=0):db e.addr e.len=true/\f7 e.tag=true/\dZ e.met=true:=by unfold dw at h;cases a:db e.addr e.len<;>cases b:f7 e.tag<;>cases c:dZ e.met<;>simp[a,b,c]at h⊢
def ET{l:List aT}{k:Int}(m:Nat)(a:m<=l.length)(h:∀j,(b:j<m)->dw (l[j]'(by omega))=0):fj l k=fj (l.drop m) (k+m):=by
 induction m generalizing l k with
 |zero=>simp
 |succ m c=>
  match l,a with
  |e::r,a=>have h0:dw e=0:=h 0 (by omega);have:=c (l:=r) (k:=k+1) (by simpa using a) (λj b=>h (j+1) (by omega));rw[show fj (e::r) k=fj r (k+1)by simp[fj,h0],this];simp only[List.drop_succ_cons];congr 1;omega
def ES{l k}(h:∀j,(a:j<l.length)->dw (l[j]'a)=0):fj l k=none:=by rw[ET l.length (aF _) h];simp[fj]
def Q6{l:List aT}{k:Int}(m:Nat)(a:m<l.length)(h:∀j,(c:j<m)->dw (l[j]'(by omega))=0)(b:dw (l[m]'a)≠0):fj l k=some (dw (l[m]'a),k+m):=by rw[ET m (by omega) h];rw[a6h a];simp[fj,b]
def EP{l k}(h:fj l k=none):∀e∈l,dw e=0:=by
 induction l generalizing k with
 |nil=>simp
 |cons e r b=>
  unfold fj at h;split at h
  .rename_i h0;intro x a;obtain rfl|a:=cm.1 a
   .exact h0
   .exact b h x a
  .simp at h
def byteOf(x:Int):UInt8:=UInt8.ofNat (x%256).toNat
def be:Nat->Int->List UInt8
 |0,_=> []
 |n+1,x=>be n (x / 256)++[byteOf x]
def My(n x):(be n x).length=n:=by
 induction n generalizing x with
 |zero=>rfl
 |succ n a=>simp[be,a]
def cE(e:aT):List UInt8:=be 2 2++be 2 e.tag++be 4 e.addr++be 4 (4294967296 - 2^(32 - e.len).toNat)++be 4 0++be 4 e.met
def zc(e):(cE e).length=20:=by simp[cE,My]
def ko:List UInt8:=[1,2,0,0,0,0,0,0,0,0,0,0,0,0,0,0,0,0,0,0,0,0,0,16]
def dC(a:Int)(l:List aT):List UInt8:=if a=1 then ko else [2,2,0,0]++l.flatMap cE
def vn(l:List aT):(l.flatMap cE).length=20*l.length:=by
 induction l with
 |nil=>rfl
 |cons e r a=>simp[jF,zc,a];omega
end
section
universe u
open Go.RowKit
def fo{a b}(h:a=b):Ending.returned (.bool a)=.returned (.bool b):=by rw[h]
def kD{k a b}(h:a=b):Ending.returned (.int k a)=.returned (.int k b):=by rw[h]
def sG(a l w)(h0:0<=l)(c:l<=32):Calls Gh.prog.{u} 127 #[.agg #[.int .u32 a,.int .i64 l]] w λe b=>e=.returned (.int .u32 (4294967296 - 2^(32 - l).toNat))/\b=w.alloc (.cells #[.int .u32 a,.int .i64 l] 32):=by go_enter Gh.func127,Tryz.ntmps127;go_wp2;go_ret;exact⟨kD (UW _ (by omega)),rfl⟩
def vT(n w):Calls Gh.prog.{u} 174 #[.int .i64 n] w λe a=>e=.returned (.bool (dZ n))/\a=w:=by
 go_enter Gh.func174,Tryz.ntmps174;go_wp2
 .go_ret;exact⟨fo (by
   have h:1<=n:=by assumption
   simp[dZ,h]),rfl⟩
 .go_ret;exact⟨fo (by
   have h:n<1:=by assumption
   have b:decide (1<=n)=false:=by simp;omega
   simp[dZ,b]),rfl⟩
def Ad(n w):Calls Gh.prog.{u} 173 #[.int .i64 n] w λe a=>e=.returned (.bool (f7 n))/\a=w:=by
 go_enter Gh.func173,Tryz.ntmps173;go_wp2
 .go_ret;exact⟨fo (by
   have h:0<=n:=by assumption
   simp[f7,h]),rfl⟩
 .go_ret;exact⟨fo (by
   have h:n<0:=by assumption
   have b:decide (0<=n)=false:=by simp;omega
   simp[f7,b]),rfl⟩
def jN(e n w):Calls Gh.prog.{u} 87 #[.int .i64 e,.int .i64 n] w λr a=>r=.returned (.iface 180 (.pointer (some ⟨w.heap.size,0,none⟩)))/\a=w.alloc (.cells #[.int .i64 e,.int .i64 n] 203):=by go_enter Gh.func87,Tryz.ntmps87;go_wp2;go_ret;exact⟨rfl,rfl⟩
def MH(n w)(h0:0<=n)(g:n<=32):Calls Gh.prog.{u} 159 #[.int .i64 n] w λe a=>e=.returned (.int .i64 (2^(32 - n).toNat))/\a=w:=by
 go_enter Gh.func159,Tryz.ntmps159;go_wp2
 go_loop [3,4] (λb i=> ∃k:Int,n<=k/\k<=32/\i=.int .i64 k/\b=.int .i64 (2^(k - n).toNat)) (λ_ i=>(32 - intOf i).toNat)
 case atStart=>exact⟨n,by omega,by omega,rfl,by simp⟩
 case round=>
  obtain⟨k,c,d,rfl,rfl⟩:=hrel;have h:=mP (k - n).toNat;have j:=mO (k - n).toNat (by omega);by_cases f:k<32
  .go_wp2
   go_round
   case rel=>exact⟨k+1,by omega,by omega,rfl,by rw[show(k+1 - n).toNat=(k - n).toNat+1 by omega,Int.pow_succ,Int.mul_comm]⟩
   case measure=>simp[intOf];omega
  .go_wp2;go_ret;exact⟨kD (by rw[show k=32 by omega]),rfl⟩
end
section
universe u
open Go.RowKit
attribute [local go_sem ↓] Go.wp_at_zero Go.wp_at_succ
def KR(a l w)(h:l<0):Calls Gh.prog.{u} 77 #[.agg #[.int .u32 a,.int .i64 l]] w λe w'=>e=.returned (.bool (db a l))/\aL w w':=by
 have c:decide (0<=l)=false:=by simp;omega
 have b:Hid (db a l=false):=Hl h;go_enter Gh.func77,Tryz.ntmps77;go_wp2_with fail;go_quiet (fail);go_wp2;go_ret;exact⟨fo b.out.symm,((aL.refl _).alloc _).drewN _⟩
def KP(a l w)(h:32<l):Calls Gh.prog.{u} 77 #[.agg #[.int .u32 a,.int .i64 l]] w λe w'=>e=.returned (.bool (db a l))/\aL w w':=by
 have b:0<=l:=by omega
 have d:decide (l<=32)=false:=by simp;omega
 have c:Hid (db a l=false):=Yr h;go_enter Gh.func77,Tryz.ntmps77;go_wp2_with fail;go_quiet (fail);go_wp2;go_ret;exact⟨fo c.out.symm,((aL.refl _).alloc _).drewN _⟩
def KQ(a l w)(h0:0<=l)(c:l<=32)(d:0<=a)(b:a<4294967296):Calls Gh.prog.{u} 77 #[.agg #[.int .u32 a,.int .i64 l]] w λe w'=>e=.returned (.bool (db a l))/\aL w w':=by
 go_enter Gh.func77,Tryz.ntmps77;go_wp2_with fail
 go_region_held3 (λw'=>w'.cell? ⟨w.heap.size,0,none⟩=some (.int .u32 a)/\w'.cell? ⟨w.heap.size,1,none⟩=some (.int .i64 l)) (go_keep)
  (first|(go_at_call 127;refine(sG a l _ h0 c).mono ?_;rintro e w' ⟨rfl,rfl⟩))
 all_goals go_wp2
 all_goals go_ret
 all_goals refine⟨fo ?_,(((aL.refl _).alloc _).alloc _).drew⟩
 all_goals rw[Ys h0 c,u32_andNot _ _ d b (by have:=mO (32 - l).toNat (by omega);omega) (by have:=mP (32 - l).toNat;omega),LR _ _ (by omega) d]
def xS(a l w)(c:0<=a)(b:a<4294967296):Calls Gh.prog.{u} 77 #[.agg #[.int .u32 a,.int .i64 l]] w λe w'=>e=.returned (.bool (db a l))/\aL w w':=by
 by_cases h0:0<=l
 .by_cases d:l<=32
  .exact KQ a l w h0 d c b
  .exact KP a l w (by omega)
 .exact KR a l w (by omega)
def nY(a l w)(c:0<=a)(b:a<4294967296):Calls Gh.prog.{u} 77 #[.agg #[.int .u32 a,.int .i64 l]] w λe w'=>e=.returned (.bool (db a l))/\Below w.heap.size w w':=
 (xS a l w c b).mono λ_ _ ⟨h,g⟩=>⟨h,g.below⟩
end
section
universe u
open Go.RowKit Go.Sort
attribute [local go_sem ↓] Go.wp_at_zero Go.wp_at_succ
def yt(W:aa)(cs t){B i v}(a:B=W.heap.size)(h:cs[i]?=some v):(W.alloc (.cells cs t)).cell? ⟨B,i,none⟩=some v:=by subst a;simpa using h
def ie(a b:Int):Int:=if a<b then -1 else if b<a then 1 else 0
def CU{a b}(h:a<b):ie a b= -1:=by simp[ie,h]
def CR{a b}(h:b<a):ie a b=1:=by simp[ie,h];omega
def CQ{a b}(h:a=b):ie a b=0:=by simp[ie,h]
structure Pf where
 addr:Int
 len:Int
deriving DecidableEq,Inhabited
def ln(p:Pf):List af:=[.int .u32 p.addr,.int .i64 p.len]
def iT(p q:Pf):Int:=if ie p.addr q.addr≠0 then ie p.addr q.addr else ie p.len q.len
def NH(a b w):Calls Gh.prog.{u} 133 #[.int .u32 a,.int .u32 b] w λe c=>e=.returned (.int .i64 (ie a b))/\c=w:=by
 by_cases d:a<b
 .rw[CU d];go_enter Gh.func133,Tryz.ntmps133;go_wp2;go_ret;exact⟨rfl,rfl⟩
 .by_cases f:b<a
  .rw[CR f];go_enter Gh.func133,Tryz.ntmps133;go_wp2;go_ret;exact⟨rfl,rfl⟩
  .rw[CQ (by omega)];go_enter Gh.func133,Tryz.ntmps133;go_wp2;go_ret;exact⟨rfl,rfl⟩
def ND(a b w):Calls Gh.prog.{u} 134 #[.int .i64 a,.int .i64 b] w λe c=>e=.returned (.int .i64 (ie a b))/\c=w:=by
 by_cases d:a<b
 .rw[CU d];go_enter Gh.func134,Tryz.ntmps134;go_wp2;go_ret;exact⟨rfl,rfl⟩
 .by_cases f:b<a
  .rw[CR f];go_enter Gh.func134,Tryz.ntmps134;go_wp2;go_ret;exact⟨rfl,rfl⟩
  .rw[CQ (by omega)];go_enter Gh.func134,Tryz.ntmps134;go_wp2;go_ret;exact⟨rfl,rfl⟩
def sS(a b:Int):Int:=if a≠0 then a else b
def XV(B a b w)(h0:w.cell? ⟨B,0,none⟩=some (.int .i64 a))(l:w.cell? ⟨B,1,none⟩=some (.int .i64 b)):Calls Gh.prog.{u} 132 #[.slice (some ⟨B,0,none⟩) 2 2] w λe g=>e=.returned (.int .i64 (sS a b))/\g=w:=by
 have h:Hid (sS a b=if a≠0 then a else b):=rfl;go_enter Gh.func132,Tryz.ntmps132;go_wp2
 go_loop [8] (λi=> ∃k:Nat,k<=2/\i=.int .i64 k/\(0<k->a=0)/\(1<k->b=0)) (λi=>2 - (intOf i).toNat)
 case atStart=>exact⟨0,by omega,rfl,by omega,by omega⟩
 case round=>
  obtain⟨k,m,rfl,f,j⟩:=hrel;obtain rfl|rfl|rfl:=(by omega:k=0\/k=1\/k=2)
  .by_cases c:a=0
   .go_wp2
    go_round
    case rel=>exact⟨1,by omega,rfl,λ_=>c,by omega⟩
    case measure=>simp[intOf]
   .go_wp2;go_ret;exact⟨kD (by rw[h.out,if_pos c]),rfl⟩
  .have c:=f (by omega);by_cases d:b=0
   .go_wp2
    go_round
    case rel=>exact⟨2,by omega,rfl,λ_=>c,λ_=>d⟩
    case measure=>simp[intOf]
   .go_wp2;go_ret;exact⟨kD (by simp[sS]),rfl⟩
  .have c:=f (by omega);have d:=j (by omega);go_wp2;go_ret;exact⟨kD (by simp[sS]),rfl⟩
theorem NE(p q):sS (ie p.addr q.addr) (ie p.len q.len)=iT p q:=rfl
def CX(p q w):Calls Gh.prog.{u} 82 #[.agg #[.int .u32 p.addr,.int .i64 p.len],.agg #[.int .u32 q.addr,.int .i64 q.len]] w λe w'=>e=.returned (.int .i64 (iT p q))/\aL w w':=by
 rw[<-NE];have a:=NH.{u} p.addr q.addr;have b:=ND.{u} p.len q.len;generalize ie p.addr q.addr=x at a⊢;generalize ie p.len q.len=y at b⊢;go_enter Gh.func82,Tryz.ntmps82;go_wp2_with fail
 go_region_held3 (λw'=>w'.cell? ⟨w.heap.size,0,none⟩=some (.int .u32 p.addr)/\w'.cell? ⟨w.heap.size,1,none⟩=some (.int .i64 p.len)/\w'.cell? ⟨w.heap.size+1,0,none⟩=some (.int .u32 q.addr)/\w'.cell? ⟨w.heap.size+1,1,none⟩=some (.int .i64 q.len)) (go_keep)
  (first|(go_at_call 133;refine(a _).mono ?_;rintro e w' ⟨rfl,rfl⟩)|(go_at_call 134;refine(b _).mono ?_;rintro e w' ⟨rfl,rfl⟩)|(go_at_call 132;refine(XV _ x y _ (by exact yt _ #[.int .i64 x,.int .i64 y] _ (by simp) rfl) (by exact yt _ #[.int .i64 x,.int .i64 y] _ (by simp) rfl)).mono ?_;rintro e w' ⟨rfl,rfl⟩))
 all_goals go_wp2
 all_goals go_ret
 all_goals exact⟨rfl,((((aL.refl w).alloc _).alloc _).alloc _).drew⟩
end
section
universe u
open Go.RowKit
def uj{W a}(c:Below W.heap.size W a):(∀b o,b<W.heap.size->a.cell? ⟨b,o,none⟩=W.cell? ⟨b,o,none⟩)/\(∀b o,b<W.heap.size->a.frozen? ⟨b,o,none⟩=W.frozen? ⟨b,o,none⟩):=
 ⟨λb o h=>c.cell (p:=⟨b,o,none⟩) h,λb o h=>c.frozen (p:=⟨b,o,none⟩) h⟩
def am{p}(h:p):Hid p:=h
def ai{p}(h:Hid p):p:=h
def bH(w o):Below w.heap.size w (w.alloc o):=(Below.refl _ _).alloc (aF _) _
def jK{w w1 o}(a:Below (w.alloc o).heap.size (w.alloc o) w1):Below w.heap.size w w1:=(bH w o).trans (a.mono (by simp))
def dH{w a w2}(h:Below w.heap.size w a)(b:Below a.heap.size a w2):Below w.heap.size w w2:=h.trans (b.mono h.size)
def dU(w:aa)(v:af):Option (Int×Int)->Prop
 |none=>v=.nilIface
 |some (e,n)=> ∃b,v=.iface 180 (.pointer (some ⟨b,0,none⟩))/\w.cell? ⟨b,0,none⟩=some (.int .i64 e)/\w.cell? ⟨b,1,none⟩=some (.int .i64 n)
def rV(w:aa)(e n):dU (w.alloc (.cells #[.int .i64 e,.int .i64 n] 203)) (.iface 180 (.pointer (some ⟨w.heap.size,0,none⟩))) (some (e,n)):=
 ⟨w.heap.size,rfl,by simp,by simp⟩
def vc(w:aa)(o e n):dU ((w.alloc o).alloc (.cells #[.int .i64 e,.int .i64 n] 203)) (.iface 180 (.pointer (some ⟨w.heap.size+1,0,none⟩))) (some (e,n)):=by have h:=rV (w.alloc o) e n;rw[show(w.alloc o).heap.size=w.heap.size+1 by simp]at h;exact h
def zh{w b e n}(h0:w.cell? ⟨b,0,none⟩=some (.int .i64 e))(a:w.cell? ⟨b,1,none⟩=some (.int .i64 n)):dU w (.iface 180 (.pointer (some ⟨b,0,none⟩))) (some (e,n)):=⟨b,rfl,h0,a⟩
def Nd(a l t m n w)(d:0<=a)(b:a<4294967296)(h:db a l=false):Calls Gh.prog.{u} 136 #[.agg #[.int .u32 a,.int .i64 l,.int .i64 t,.int .i64 m],.int .i64 n] w λe w'=> ∃v,e=.returned v/\dU w' v (some (6,n))/\Below w.heap.size w w':=by go_enter Gh.func136,Tryz.ntmps136;go_wp2_with (first|(go_at_call 77;refine(nY a l _ d b).mono ?_;rintro e f ⟨rfl,c⟩)|(go_at_call 87;refine(jN _ _ _).mono ?_;rintro e g ⟨rfl,rfl⟩));go_ret;exact⟨_,rfl,rV _ _ _,dH (jK c) (bH _ _)⟩
def Nf(a l t m n w)(d:0<=a)(c:a<4294967296)(h:db a l=true)(j:f7 t=false):Calls Gh.prog.{u} 136 #[.agg #[.int .u32 a,.int .i64 l,.int .i64 t,.int .i64 m],.int .i64 n] w λe w'=> ∃v,e=.returned v/\dU w' v (some (5,n))/\Below w.heap.size w w':=by go_enter Gh.func136,Tryz.ntmps136;go_wp2_with (first|(go_at_call 77;refine(nY a l _ d c).mono ?_;rintro e k ⟨rfl,b⟩;obtain⟨f,g⟩:=uj b)|(go_at_call 173;refine(Ad _ _).mono ?_;rintro e i ⟨rfl,rfl⟩)|(go_at_call 87;refine(jN _ _ _).mono ?_;rintro e i ⟨rfl,rfl⟩));go_ret;exact⟨_,rfl,rV _ _ _,dH (jK b) (bH _ _)⟩
def Nb(a l t m n w)(f:0<=a)(c:a<4294967296)(h:db a l=true)(j:f7 t=true)(k:dZ m=false):Calls Gh.prog.{u} 136 #[.agg #[.int .u32 a,.int .i64 l,.int .i64 t,.int .i64 m],.int .i64 n] w λe w'=> ∃v,e=.returned v/\dU w' v (some (8,n))/\Below w.heap.size w w':=by go_enter Gh.func136,Tryz.ntmps136;go_wp2_with (first|(go_at_call 77;refine(nY a l _ f c).mono ?_;rintro e o ⟨rfl,b⟩;obtain⟨g,i⟩:=uj b)|(go_at_call 173;refine(Ad _ _).mono ?_;rintro e d ⟨rfl,rfl⟩)|(go_at_call 174;refine(vT _ _).mono ?_;rintro e d ⟨rfl,rfl⟩)|(go_at_call 87;refine(jN _ _ _).mono ?_;rintro e d ⟨rfl,rfl⟩));go_ret;exact⟨_,rfl,rV _ _ _,dH (jK b) (bH _ _)⟩
def Nc(a l t m n w)(d:0<=a)(c:a<4294967296)(h:db a l=true)(j:f7 t=true)(k:dZ m=true):Calls Gh.prog.{u} 136 #[.agg #[.int .u32 a,.int .i64 l,.int .i64 t,.int .i64 m],.int .i64 n] w λe w'=>e=.returned .nilIface/\Below w.heap.size w w':=by go_enter Gh.func136,Tryz.ntmps136;go_wp2_with (first|(go_at_call 77;refine(nY a l _ d c).mono ?_;rintro e o ⟨rfl,b⟩;obtain⟨f,g⟩:=uj b)|(go_at_call 173;refine(Ad _ _).mono ?_;rintro e i ⟨rfl,rfl⟩)|(go_at_call 174;refine(vT _ _).mono ?_;rintro e i ⟨rfl,rfl⟩));go_ret;exact⟨rfl,jK b⟩
def M9(e n w)(b:0<=e.addr/\e.addr<4294967296)(h:dw e≠0):Calls Gh.prog.{u} 136 #[.agg #[.int .u32 e.addr,.int .i64 e.len,.int .i64 e.tag,.int .i64 e.met],.int .i64 n] w λr w'=> ∃v,r=.returned v/\dU w' v (some (dw e,n))/\Below w.heap.size w w':=by
 cases a:db e.addr e.len
 .rw[show dw e=6 by simp[dw,a]];exact Nd _ _ _ _ _ _ b.1 b.2 a
 .cases c:f7 e.tag
  .rw[show dw e=5 by simp[dw,a,c]];exact Nf _ _ _ _ _ _ b.1 b.2 a c
  .cases d:dZ e.met
   .rw[show dw e=8 by simp[dw,a,c,d]];exact Nb _ _ _ _ _ _ b.1 b.2 a c d
   .exact absurd (by simp[dw,a,c,d]) h
def Na(e n w)(a:0<=e.addr/\e.addr<4294967296)(h:dw e=0):Calls Gh.prog.{u} 136 #[.agg #[.int .u32 e.addr,.int .i64 e.len,.int .i64 e.tag,.int .i64 e.met],.int .i64 n] w λr w'=>r=.returned .nilIface/\Below w.heap.size w w':=
 Nc _ _ _ _ _ _ a.1 a.2 (rU h).1 (rU h).2.1 (rU h).2.2
def kW(w:aa)(b a:Nat)(l:List aT):Prop:=∀k,(h:k<l.length)->w.cell? ⟨b,a+k*4,none⟩=some (.int .u32 l[k].addr)/\w.cell? ⟨b,a+k*4+1,none⟩=some (.int .i64 l[k].len)/\w.cell? ⟨b,a+k*4+2,none⟩=some (.int .i64 l[k].tag)/\w.cell? ⟨b,a+k*4+3,none⟩=some (.int .i64 l[k].met)
def rT{w e b a B l}(h:kW w b a l)(c:Below B w e)(d:b<B):kW e b a l:=λk f=>by obtain⟨h0,g,i,j⟩:=h k f;exact⟨(c.cell (p:=⟨b,_,none⟩) d).trans h0,(c.cell (p:=⟨b,_,none⟩) d).trans g,(c.cell (p:=⟨b,_,none⟩) d).trans i,(c.cell (p:=⟨b,_,none⟩) d).trans j⟩
def uY{w b a l}(h:kW w b a l)(h0:0<l.length):b<w.heap.size:=World.block_lt_of_cell? w _ (h 0 h0).1
def ig(l:List aT):Prop:=∀e∈l,0<=e.addr/\e.addr<4294967296
def CM(b o cap n l w)(t:ig l)(D:l.length=n)(h0:0<n)(I:n<=25)(J:b<w.heap.size)(K:kW w b o l):Calls Gh.prog.{u} 84 #[.agg #[.int .i64 2,.slice (some ⟨b,o,none⟩) n cap]] w λe w'=> ∃v,e=.returned v/\dU w' v (fj l 0)/\Below w.heap.size w w':=by
 have F:=am D;clear D;have L:((n:Int)==0)=false:=by simp;omega
 have M:decide ((25:Int)<n)=false:=by simp;omega
 go_enter Gh.func84,Tryz.ntmps84;go_wp2
 go_loopw [36] (λi wr=> ∃k:Nat,k<=n/\i=.int .i64 k/\Below w.heap.size w wr/\∀j,(f:j<l.length)->j<k->dw l[j]=0) (λi _=>n - (intOf i).toNat)
 case atStart=>exact⟨0,by omega,rfl,bH _ _,λj f h=>by omega⟩
 case round=>
  obtain⟨k,R,rfl,m,a⟩:=hrel;have x:=am a;clear a L M;by_cases y:k<n
  .have c:k<l.length:=by rw[ai F];exact y
   have z:=K k c;have d:=t l[k] (i5 _);generalize H:l[k]=E at*;have A:=am H;clear H;obtain⟨N,c1,c2,O⟩:=z;rw[<-m.cell (p:=⟨b,_,none⟩) J]at N c1 c2 O;by_cases s:dw E=0
   .have q:=am s;clear s;go_wp2_with (go_at_call 136;refine(Na E _ _ d (ai q)).mono ?_;rintro e P ⟨rfl,g⟩)
    go_roundw
    case rel=>
     refine⟨k+1,by omega,by go_num,dH (m.alloc m.size _) (g.mono (by simp)),λj f Q=>?_⟩;by_cases r:j=k
     .subst r;rw[ai A];exact ai q
     .exact ai x j f (by omega)
    case measure=>simp[intOf];omega
   .have q:=am s;clear s;go_wp2_with (go_at_call 136;refine(M9 E _ _ d (ai q)).mono ?_;rintro e P ⟨v,rfl,⟨bf,rfl,B,C⟩,g⟩);go_ret;refine⟨_,rfl,?_,dH (m.alloc m.size _) (g.mono (by simp))⟩;rw[Q6 k c (λj f=>ai x j (by omega) f) (by rw[ai A];exact ai q),ai A,Int.zero_add];exact zh B C
  .go_wp2;go_ret;exact⟨_,rfl,by rw[ES (λj f=>ai x j f (by have:=ai F;omega))];rfl,m⟩
def CK(ao cap w):Calls Gh.prog.{u} 84 #[.agg #[.int .i64 1,.slice ao 0 cap]] w λe w'=>e=.returned .nilIface/\Below w.heap.size w w':=by go_enter Gh.func84,Tryz.ntmps84;go_wp2;go_ret;exact⟨rfl,bH _ _⟩
def Ni(ao n cap w)(h0:0<n):Calls Gh.prog.{u} 84 #[.agg #[.int .i64 1,.slice ao n cap]] w λe w'=> ∃v,e=.returned v/\dU w' v (some (4, -1))/\Below w.heap.size w w':=by
 have a:((n:Int)==0)=false:=by simp;omega
 go_enter Gh.func84,Tryz.ntmps84;go_wp2_with (go_at_call 87;refine(jN _ _ _).mono ?_;rintro e b ⟨rfl,rfl⟩);go_ret;exact⟨_,rfl,vc _ _ _ _,dH (bH _ _) (bH _ _)⟩
def Nh(a ao n cap w)(b:(a==1)=false)(c:(a !=2)=true):Calls Gh.prog.{u} 84 #[.agg #[.int .i64 a,.slice ao n cap]] w λe w'=> ∃v,e=.returned v/\dU w' v (some (4, -1))/\Below w.heap.size w w':=by go_enter Gh.func84,Tryz.ntmps84;go_wp2_with (go_at_call 87;refine(jN _ _ _).mono ?_;rintro e d ⟨rfl,rfl⟩);go_ret;exact⟨_,rfl,vc _ _ _ _,dH (bH _ _) (bH _ _)⟩
def Nk(ao n cap w)(a:25<n):Calls Gh.prog.{u} 84 #[.agg #[.int .i64 2,.slice ao n cap]] w λe w'=> ∃v,e=.returned v/\dU w' v (some (3, -1))/\Below w.heap.size w w':=by
 have b:((n:Int)==0)=false:=by simp;omega
 have c:decide ((25:Int)<n)=true:=by simp;omega
 go_enter Gh.func84,Tryz.ntmps84;go_wp2_with (go_at_call 87;refine(jN _ _ _).mono ?_;rintro e d ⟨rfl,rfl⟩);go_ret;exact⟨_,rfl,vc _ _ _ _,dH (bH _ _) (bH _ _)⟩
def Nj(ao cap w):Calls Gh.prog.{u} 84 #[.agg #[.int .i64 2,.slice ao 0 cap]] w λe w'=> ∃v,e=.returned v/\dU w' v (some (3, -1))/\Below w.heap.size w w':=by go_enter Gh.func84,Tryz.ntmps84;go_wp2_with (go_at_call 87;refine(jN _ _ _).mono ?_;rintro e a ⟨rfl,rfl⟩);go_ret;exact⟨_,rfl,vc _ _ _ _,dH (bH _ _) (bH _ _)⟩
def je(w:aa)(ao:Option ap)(l:List aT):Prop:=l=[]\/∃b a,ao=some ⟨b,a,none⟩/\kW w b a l
def va{w c ao l}(h:je w ao l)(e:Below w.heap.size w c):je c ao l:=by
 obtain h|⟨b,a,f,d⟩:=h
 .exact .inl h
 .by_cases h0:0<l.length
  .exact .inr ⟨b,a,f,rT d e (uY d h0)⟩
  .exact .inl (fq (by omega))
def Ng(a ao n cap l w)(d:ig l)(c:l.length=n)(m:je w ao l):Calls Gh.prog.{u} 84 #[.agg #[.int .i64 a,.slice ao n cap]] w λe w'=> ∃v,e=.returned v/\dU w' v (eJ a l)/\Below w.heap.size w w':=by
 by_cases f:a=1
 .subst f;by_cases h0:n=0
  .subst h0;obtain rfl:l=[]:=fq c;refine(CK ao cap w).mono ?_;rintro e w' ⟨rfl,o⟩;exact⟨_,rfl,rfl,o⟩
  .rw[show eJ 1 l=some (4, -1)by simp[eJ];intro h;subst h;simp at c;omega];exact Ni ao n cap w (by omega)
 .by_cases g:a=2
  .subst g;by_cases h0:n=0
   .subst h0;rw[show eJ 2 l=some (3, -1)by simp[eJ,c]];exact Nj ao cap w
   .by_cases i:n<=25
    .rw[show eJ 2 l=fj l 0 by simp[eJ,c];omega];obtain rfl|⟨b,j,rfl,k⟩:=m
     .simp at c;omega
     .exact CM b j cap n l w d c (by omega) i (uY k (by omega)) k
    .rw[show eJ 2 l=some (3, -1)by simp[eJ,c];omega];exact Nk ao n cap w (by omega)
  .rw[show eJ a l=some (4, -1)by simp[eJ,f,g]];exact Nh a ao n cap w (by simp[f]) (by simp[g])
end
section
universe u
open Go.RowKit
attribute [local go_sem ↓] Go.wp_at_zero Go.wp_at_succ
def oS(w:aa)(b a:Nat)(l:List Int):Prop:=∀k,(h:k<l.length)->w.cell? ⟨b,a+k,none⟩=some (.int .i64 l[k])
def GQ{w c b a B l}(h:oS w b a l)(d:Below B w c)(e:b<B):oS c b a l:=λk f=>(d.cell (p:=⟨b,_,none⟩) e).trans (h k f)
def GR{w b a l}(h:oS w b a l)(h0:0<l.length):b<w.heap.size:=World.block_lt_of_cell? w _ (h 0 h0)
def jm(w:aa)(ao:Option ap)(l:List Int):Prop:=l=[]\/∃b a,ao=some ⟨b,a,none⟩/\oS w b a l
def AO{w c ao l}(h:jm w ao l)(e:Below w.heap.size w c):jm c ao l:=by
 obtain h|⟨b,a,f,d⟩:=h
 .exact .inl h
 .by_cases h0:0<l.length
  .exact .inr ⟨b,a,f,GQ d e (GR d h0)⟩
  .exact .inl (fq (by omega))
def gW(w:aa)(b a:Nat)(l:List Pf):Prop:=∀k,(h:k<l.length)->w.cell? ⟨b,a+k*2,none⟩=some (.int .u32 l[k].addr)/\w.cell? ⟨b,a+k*2+1,none⟩=some (.int .i64 l[k].len)
def nI{w c b a B l}(h:gW w b a l)(d:Below B w c)(e:b<B):gW c b a l:=λk f=>
 ⟨(d.cell (p:=⟨b,_,none⟩) e).trans (h k f).1,(d.cell (p:=⟨b,_,none⟩) e).trans (h k f).2⟩
def te{w b a l}(h:gW w b a l)(h0:0<l.length):b<w.heap.size:=World.block_lt_of_cell? w _ (h 0 h0).1
def lm(w:aa)(ao:Option ap)(l:List Pf):Prop:=l=[]\/∃b a,ao=some ⟨b,a,none⟩/\gW w b a l
def wM{w c ao l}(h:lm w ao l)(e:Below w.heap.size w c):lm c ao l:=by
 obtain h|⟨b,a,f,d⟩:=h
 .exact .inl h
 .by_cases h0:0<l.length
  .exact .inr ⟨b,a,f,nI d e (te d h0)⟩
  .exact .inl (fq (by omega))
def wN(l:List Pf):Prop:=∀p∈l,0<=p.addr/\p.addr<4294967296
def jR(n:Int):Bool:=decide (n<1)||decide (15<n)
def Fq(n w):Calls Gh.prog.{u} 76 #[.int .i64 n] w λe a=>e=.returned (.bool (jR n))/\a=w:=by
 go_enter Gh.func76,Tryz.ntmps76;go_wp2
 .go_ret;exact⟨fo (by
   have h: ¬n<1:=by omega
   simp[jR,h]),rfl⟩
 .go_ret;exact⟨fo (by
   have h:n<1:=by assumption
   simp[jR,h]),rfl⟩
def Ts(ao n cap l w)(q:l.length=n)(K:n<=8)(s:jm w ao l):Calls Gh.prog.{u} 126 #[.slice ao n cap,.func (.func 76) #[] #[]] w λe B=>(∃r,e=.returned (.int .i64 r)/\decide (0<=r)=l.any jR)/\B=w:=by
 have t:=am q;have C:=am s;clear q s;go_enter Gh.func126,Tryz.ntmps126;go_wp2
 go_loop [8] (λi=> ∃k:Nat,k<=n/\i=.int .i64 k/\∀j,(d:j<l.length)->j<k->jR l[j]=false) (λi=>n - (intOf i).toNat)
 case atStart=>exact⟨0,by omega,rfl,λj d h=>by omega⟩
 case round=>
  obtain⟨k,L,rfl,a⟩:=hrel;have v:=am a;clear a;by_cases o:k<n
  .have c:k<l.length:=by rw[ai t];exact o
   obtain h0|⟨b,D,rfl,y⟩:=ai C
   .rw[h0]at c;simp at c
   .have F:=y k c;generalize z:l[k]=E at*;have A:=am z;clear z y;cases m:jR E with
    |true=>have f:=am m;clear m;go_wp2_with (go_at_call 76;refine(Fq E _).mono ?_;rintro e H ⟨rfl,rfl⟩;rw[ai f]);go_ret;refine⟨⟨_,rfl,?_⟩,rfl⟩;rw[show l.any jR=true from List.any_eq_true.2 ⟨l[k],i5 _,by rw[ai A];exact ai f⟩];simp
    |false=>
     have f:=am m;clear m;go_wp2_with (go_at_call 76;refine(Fq E _).mono ?_;rintro e H ⟨rfl,rfl⟩;rw[ai f])
     go_round
     case rel=>
      refine⟨k+1,by omega,by go_num,λj d I=>?_⟩;by_cases g:j=k
      .subst g;rw[ai A];exact ai f
      .exact ai v j d (by omega)
     case measure=>simp[intOf];omega
  .have p:k=n:=by omega
   subst p;go_wp2;go_ret;refine⟨⟨-1,rfl,?_⟩,rfl⟩;rw[show l.any jR=false from ?_]
   .rfl
   .rw[List.any_eq_false];intro x J;obtain⟨j,d,rfl⟩:=nV J;simpa using ai v j d (by rw[<-ai t];exact d)
def NL(ao n cap l w)(a:l.length=n)(d:n<=8)(b:jm w ao l):Calls Gh.prog.{u} 75 #[.slice ao n cap,.func (.func 76) #[] #[]] w λe f=>e=.returned (.bool (l.any jR))/\f=w:=by have g:=Ts.{u} ao n cap l;have h:=am a;have i:=am b;clear a b;go_enter Gh.func75,Tryz.ntmps75;go_wp2_with (go_at_call 126;refine(g _ (ai h) d (ai i)).mono ?_;rintro e k ⟨⟨r,rfl,c⟩,rfl⟩;have j:=am c;clear c);go_ret;exact⟨fo (ai j),rfl⟩
def jd(l:List Int):Bool:=decide (l.length<=8)&& !(l.any jR)
def L5(ao n cap l w)(a:l.length=n)(c:jm w ao l):Calls Gh.prog.{u} 34 #[.slice ao n cap] w λe g=>e=.returned (.bool (jd l))/\g=w:=by
 by_cases d:n<=8
 .have f:=NL.{u} ao n cap l w a d c;have b:Hid (jd l= !(l.any jR)):=by show jd l=_;simp[jd,a,d]
  clear a c;generalize l.any jR=q at f b;go_enter Gh.func34,Tryz.ntmps34;go_wp2_with (go_at_call 75;refine f.mono ?_;rintro e h ⟨rfl,rfl⟩);go_ret;exact⟨fo b.out.symm,rfl⟩
 .have b:Hid (jd l=false):=by show jd l=_;simp[jd,a,d]
  have i:decide ((n:Int)<=8)=false:=by simp;omega
  clear a c;go_enter Gh.func34,Tryz.ntmps34;go_wp2;go_ret;exact⟨fo b.out.symm,rfl⟩
end
section
universe u
open Go.RowKit
attribute [local go_sem ↓] Go.wp_at_zero Go.wp_at_succ
def Pf.beq_iff(p q:Pf):(p=q)↔(p.addr=q.addr/\p.len=q.len):=by cases p;cases q;simp
def Tv(b g n cap l p w)(B:l.length=n)(I:n<=20)(J:b<w.heap.size)(C:gW w b g l):Calls Gh.prog.{u} 128 #[.slice (some ⟨b,g,none⟩) n cap,.agg #[.int .u32 p.addr,.int .i64 p.len]] w λe w'=>(∃r,e=.returned (.int .i64 r)/\decide (0<=r)=l.contains p)/\aL w w':=by
 have D:=am B;clear B;go_enter Gh.func128,Tryz.ntmps128;go_wp2;have t:=am (nI C (bH w (.cells #[.int .u32 p.addr,.int .i64 p.len] 32)) J);clear C;have q0:(w.alloc (.cells #[.int .u32 p.addr,.int .i64 p.len] 32)).cell? ⟨w.heap.size,0,none⟩=some (.int .u32 p.addr):=by simp
 have q1:(w.alloc (.cells #[.int .u32 p.addr,.int .i64 p.len] 32)).cell? ⟨w.heap.size,1,none⟩=some (.int .i64 p.len):=by simp
 have m:=am ((aL.refl w).alloc (.cells #[.int .u32 p.addr,.int .i64 p.len] 32));generalize w.alloc (.cells #[.int .u32 p.addr,.int .i64 p.len] 32)=W at*
 go_loopw [8] (λi wr=> ∃(k d:Nat),k<=n/\i=.int .i64 k/\wr=W.drewN d/\∀j,(f:j<l.length)->j<k->l[j]≠p) (λi _=>n - (intOf i).toNat)
 case atStart=>exact⟨0,0,by omega,rfl,rfl,λj f h=>by omega⟩
 case round=>
  obtain⟨k,d,N,rfl,rfl,a⟩:=hrel;have v:=am a;clear a;by_cases x:k<n
  .have o:k<l.length:=by rw[ai D];exact x
   obtain⟨K,c1⟩:=ai t k o;have O:(0:Int)<=(k:Int):=by omega
   have P:(k:Int)<(n:Int):=by omega
   generalize F:l[k]=E at*;have y:=am F;clear F;by_cases q:E=p
   .subst q;go_wp2_with fail;go_quiet (fail);go_wp2;go_ret;refine⟨⟨_,rfl,?_⟩,?_⟩
    .rw[show l.contains E=true from a7X.2 (by rw[<-ai y];exact i5 _)];simp
    .exact(ai m).trans (((aL.refl W).drewN _).drewN _)
   .have H:=am q;rw[Pf.beq_iff]at q;by_cases s:E.addr=p.addr
    .have L:(p.len==E.len)=false:=by simp;omega
     have Q:=am s;rw[s]at K;clear s q;go_wp2_with fail;go_quiet (fail);go_wp2
     go_roundw
     case rel=>
      refine⟨k+1,d+_,by omega,by go_num,rfl,λj f z=>?_⟩;by_cases c:j=k
      .subst c;rw[ai y];exact ai H
      .exact ai v j f (by omega)
     case measure=>simp[intOf];omega
    .have L:(p.addr==E.addr)=false:=by simp;omega
     clear s q;go_wp2_with fail;go_quiet (fail);go_wp2
     go_roundw
     case rel=>
      refine⟨k+1,d+_,by omega,by go_num,rfl,λj f z=>?_⟩;by_cases c:j=k
      .subst c;rw[ai y];exact ai H
      .exact ai v j f (by omega)
     case measure=>simp[intOf];omega
  .have A:k=n:=by omega
   subst A;go_wp2;go_ret;refine⟨⟨-1,rfl,?_⟩,?_⟩
   .rw[show l.contains p=false from ?_]
    .rfl
    .rw[<-a7j,a7X];intro M;obtain⟨j,f,e⟩:=nV M;exact ai v j f (by rw[<-ai D];exact f) e
   .exact(ai m).trans ((aL.refl W).drewN _)
def Tu(ao cap)(p:Pf)(w):Calls Gh.prog.{u} 128 #[.slice ao 0 cap,.agg #[.int .u32 p.addr,.int .i64 p.len]] w λe w'=>(∃r,e=.returned (.int .i64 r)/\decide (0<=r)=false)/\aL w w':=by go_enter Gh.func128,Tryz.ntmps128;go_wp2;refine wp_loop_rounds 1 ?_;rw[rounds_succ];go_wp2;go_ret;exact⟨⟨-1,rfl,rfl⟩,(aL.refl w).alloc _⟩
def Tt(ao n cap l p w)(a:l.length=n)(c:n<=20)(g:lm w ao l):Calls Gh.prog.{u} 128 #[.slice ao n cap,.agg #[.int .u32 p.addr,.int .i64 p.len]] w λe w'=>(∃r,e=.returned (.int .i64 r)/\decide (0<=r)=l.contains p)/\aL w w':=by
 by_cases h0:n=0
 .subst h0;have:l=[]:=fq a;subst this;exact Tu ao cap p w
 .rcases g with rfl|⟨b,d,rfl,f⟩
  .simp at a;omega
  .exact Tv b d n cap l p w a c (te f (by omega)) f
def NM(ao n cap l p w)(b:l.length=n)(a:n<=20)(c:lm w ao l):Calls Gh.prog.{u} 78 #[.slice ao n cap,.agg #[.int .u32 p.addr,.int .i64 p.len]] w λe w'=>e=.returned (.bool (l.contains p))/\aL w w':=by have g:=Tt.{u} ao n cap l p;have h:=am b;have i:=am (wM c (bH w (.cells #[.int .u32 p.addr,.int .i64 p.len] 32)));clear b c;go_enter Gh.func78,Tryz.ntmps78;go_wp2_with (go_at_call 128;refine(g _ (ai h) a (ai i)).mono ?_;rintro e m ⟨⟨r,rfl,d⟩,f⟩;have j:=am d;have k:=am f;clear d f);go_ret;exact⟨fo (ai j),((aL.refl w).alloc _).trans (ai k)⟩
def li:List Pf->List Pf->Bool
 |_,[]=>true
 |pre,p::r=>db p.addr p.len&& !(pre.contains p)&&li (pre++[p]) r
def kA(l:List Pf):Bool:=decide (l.length<=20)&&li [] l
def X1{l:List Pf}{k}(a:k<l.length)(h:(db l[k].addr l[k].len&& !((l.take k).contains l[k]))=false):li (l.take k) (l.drop k)=false:=by rw[a6h a,li,h];rfl
def X2{l:List Pf}{k}(a:k<l.length)(h:(db l[k].addr l[k].len&& !((l.take k).contains l[k]))=true):li (l.take k) (l.drop k)=li (l.take (k+1)) (l.drop (k+1)):=by rw[a6h a,li,h,kL a];rfl
def Yn{w b a l}(h:gW w b a l)(k):gW w b a (l.take k):=λj c=>by
 have d:j<l.length:=by simp at c;omega
 have:=h j d;simpa using this
def Ma(b h n cap l w)(r:wN l)(K:l.length=n)(L:n<=cap)(Q:n<=20)(M:b<w.heap.size)(N:gW w b h l):Calls Gh.prog.{u} 35 #[.slice (some ⟨b,h,none⟩) n cap] w λe w'=>e=.returned (.bool (li [] l))/\Below w.heap.size w w':=by
 have O:=am K;have R:=am N;have S:=am r;clear K N r;have T:decide ((20:Int)<n)=false:=by simp;omega
 go_enter Gh.func35,Tryz.ntmps35;go_wp2
 go_loopw [10] (λi wr=> ∃k:Nat,k<=n/\i=.int .i64 k/\Below w.heap.size w wr/\li [] l=li (l.take k) (l.drop k)) (λi _=>n - (intOf i).toNat)
 case atStart=>exact⟨0,by omega,rfl,Below.refl _ _,by simp⟩
 case round=>
  obtain⟨k,hk,rfl,x,d⟩:=hrel;have y:=am d;have A:=am x;clear d T;by_cases B:k<n
  .have f:k<l.length:=by rw[ai O];exact B
   have s:=am (nI (ai R) x M);obtain⟨c0,c1⟩:=ai s k f;have C:b<wr.heap.size:=cG M x.size;have t:=ai S l[k] (i5 _);have j0:(0:Int)<=(k:Int):=by omega
   have j1:(k:Int)<(n:Int):=by omega
   have a:=am (X1 f);have c:=am (X2 f);generalize U:l[k]=E at*;clear U x;obtain⟨h0,D⟩:=t;go_wp2_with fail;have V:(wr.alloc (.cells #[.int .u32 E.addr,.int .i64 E.len] 32)).cell? ⟨wr.heap.size,0,none⟩=some (.int .u32 E.addr):=by simp
   have X:(wr.alloc (.cells #[.int .u32 E.addr,.int .i64 E.len] 32)).cell? ⟨wr.heap.size,1,none⟩=some (.int .i64 E.len):=by simp
   have v:=am (bH wr (.cells #[.int .u32 E.addr,.int .i64 E.len] 32));have g:wr.heap.size<(wr.alloc (.cells #[.int .u32 E.addr,.int .i64 E.len] 32)).heap.size:=by simp
   generalize wr.alloc (.cells #[.int .u32 E.addr,.int .i64 E.len] 32)=W at*;have j2:(k:Int)<=(cap:Int):=by omega
   have j3:(k:Int)<=(n:Int):=by omega
   have F:=am (nI (ai s) (ai v) C);have H:b<W.heap.size:=by omega
   have I:w.heap.size<=wr.heap.size:=(ai A).size;have m:=am ((ai A).trans ((ai v).mono I));have P:=jq.{u};have G0:=λn p=>cell_grown g V n p;have G1:=λn p=>cell_grown g X n p;have o:w.heap.size<=W.heap.size:=by omega
   cases q:db E.addr E.len with
   |false=>
    have Y:=am q;have hI:=xS.{u} E.addr E.len;rw[q]at a hI;clear q
    go_quiet_grown (first|(go_at_call 77;refine aL.quiet (hI _ h0 D)))
    go_wp2;go_ret;exact⟨fo (by rw[ai y];exact((ai a) (by simp)).symm),(ai m).trans ((aL.below ((aL.refl W).grow _ _)).mono o)⟩
   |true=>
    have Y:=am q;have hI:=xS.{u} E.addr E.len;have z:=λn p=>NM (some ⟨b,h,none⟩) k cap (l.take k) E (Go.Sort.grow (W.drewN n) p) (by rw[it];omega) (by omega) (.inr ⟨b,h,rfl,Yn (nI (ai F) (aL.below ((aL.refl W).grow n p)) H) k⟩);rw[q]at a c hI;clear q;cases j:(l.take k).contains E with
    |true=>
     have Z:=am j;simp only[j]at z;rw[j]at a;clear j
     go_quiet_grown (first|(go_at_call 77;refine aL.quiet (hI _ h0 D))|(go_at_call 78;refine aL.quiet (z _ _)))
     go_wp2;go_ret;exact⟨fo (by rw[ai y];exact((ai a) (by simp)).symm),(ai m).trans ((aL.below ((aL.refl W).grow _ _)).mono o)⟩
    |false=>
     have Z:=am j;simp only[j]at z;rw[j]at c;clear j
     go_quiet_grown (first|(go_at_call 77;refine aL.quiet (hI _ h0 D))|(go_at_call 78;refine aL.quiet (z _ _)))
     go_wp2
     go_roundw
     case rel=>exact⟨k+1,by omega,by go_num,(ai m).trans ((aL.below ((aL.refl W).grow _ _)).mono o),by rw[ai y];exact(ai c) (by simp)⟩
     case measure=>simp[intOf];omega
  .have J:k=n:=by omega
   subst J;go_wp2;go_ret;refine⟨fo ?_,ai A⟩;rw[ai y,<-ai O,List.drop_length];cases List.take l.length l<;>rfl
def L9(ao cap w):Calls Gh.prog.{u} 35 #[.slice ao 0 cap] w λe w'=>e=.returned (.bool true)/\Below w.heap.size w w':=by go_enter Gh.func35,Tryz.ntmps35;go_wp2;refine wp_loop_rounds 1 ?_;rw[rounds_succ];go_wp2;go_ret;exact⟨rfl,Below.refl _ _⟩
def L8(ao n cap w)(h:20<n):Calls Gh.prog.{u} 35 #[.slice ao n cap] w λe w'=>e=.returned (.bool false)/\Below w.heap.size w w':=by
 have a:decide ((20:Int)<n)=true:=by simp;omega
 go_enter Gh.func35,Tryz.ntmps35;go_wp2;go_ret;exact⟨rfl,Below.refl _ _⟩
def L6(ao n cap l w)(f:wN l)(c:l.length=n)(d:n<=cap)(i:lm w ao l):Calls Gh.prog.{u} 35 #[.slice ao n cap] w λe w'=>e=.returned (.bool (kA l))/\Below w.heap.size w w':=by
 by_cases a:n<=20
 .rw[show kA l=li [] l by simp[kA,c,a]];by_cases h0:n=0
  .subst h0;have:l=[]:=fq c;subst this;exact L9 ao cap w
  .rcases i with rfl|⟨b,g,rfl,h⟩
   .simp at c;omega
   .exact Ma b g n cap l w f c d a (te h (by omega)) h
 .rw[show kA l=false by simp[kA,c,a]];exact L8 ao n cap w (by omega)
end
end Go.Proofs.q
end
