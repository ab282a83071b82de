import Derived.BigQuiet
import Derived.Deep.DrawnRows
import Derived.Deep.QuietTactic
import Derived.Deep.RegionHeld3
import Derived.Shelf.SlSortCmp.QuietGrown
import Derived.WalkLawsBesides
import Derived.WalkSpells
import Derived.Test.YtdnpeefnobjfaaaGreatDoorK09
set_option maxRecDepth 100000
set_option maxHeartbeats 4000000
set_option linter.all false
section
namespace Go.Proofs.q
universe u
open Go.RowKit Go.Sort
theorem gQ:Gh.prog.{u}.follows .mixedOrders=true:=by kernel_rfl
def aJ(w w':aa):Prop:=∃q a,w'=grow (w.drewN q) a
def aJ.refl(w):aJ w w:=⟨0,#[],by simp[World.drewN]⟩
def aJ.alloc{w w'}(h:aJ w w')(o):aJ w (w'.alloc o):=by obtain⟨q,a,rfl⟩:=h;exact⟨q,a++#[o],by rw[alloc_eq_grow,grow_grow]⟩
def aJ.drew{w w'}(h:aJ w w'):aJ w w'.drew:=by obtain⟨q,a,rfl⟩:=h;exact⟨q+1,a,rfl⟩
def aJ.drewN{w w'}(h:aJ w w')(n):aJ w (w'.drewN n):=by obtain⟨q,a,rfl⟩:=h;exact⟨q+n,a,by simp[grow,World.drewN,lJ]⟩
def aJ.below{w w'}(h:aJ w w'):Below w.heap.size w w':=by obtain⟨q,b,rfl⟩:=h;exact⟨rfl,rfl,rfl,by simp[grow,World.drewN],λk a=>by simp[grow,World.drewN,b0O,a]⟩
def aJ.trans{a b c}(h:aJ a b)(k:aJ b c):aJ a c:=by obtain⟨q,e,rfl⟩:=h;obtain⟨f,d,rfl⟩:=k;exact⟨q+f,e++d,by simp[grow,World.drewN,b0D,lJ]⟩
def aJ.drawn{w w'}(h:aJ w w'):w.drawn<=w'.drawn:=by obtain⟨q,a,rfl⟩:=h;exact Nat.le_add_right _ _
def aJ.of{w w'}(h:Below w.heap.size w w')(i:w.drawn<=w'.drawn):aJ w w':=by
 refine⟨w'.drawn - w.drawn,w'.heap.extract w.heap.size w'.heap.size,?_⟩;obtain⟨d,e,f,j,g⟩:=h;cases w with
 |mk a r s t u=>
  cases w' with
  |mk b l n o p=>
   simp only at d e f j g i;subst d e f;simp only[Go.Sort.grow,World.drewN];congr 1
   .apply mq;intro k;rw[b0O];by_cases c:k<a.size
    .rw[if_pos c];exact g k c
    .rw[if_neg c,Array.getElem?_extract];by_cases q:k<b.size
     .rw[if_pos a9h,show a.size+(k - a.size)=k by omega]
     .rw[if_neg a9h];simp;omega
   .omega
def aJ.setCell{w w'}(h:aJ w w'){p}(a:w.heap.size<=p.block)(v):aJ w (w'.setCell p v):=.of (h.below.setCell (p:=p) a v) h.drawn
def aJ.quiet{P:aA}{f:bW}{args:Array aj}{w:aa}{n:Nat}{os:Array Obj}{v:aj}(h:Calls P f args (grow (w.drewN n) os) λe b=>e=.returned v/\aJ (grow (w.drewN n) os) b):Calls P f args (grow (w.drewN n) os) λe a=>e=.returned v/\∃p:GrownBy,a=grow (w.drewN p.n) p.os:=
 Calls.grown_of h
def aJ.grow{w w':aa}(h:aJ w w')(n:Nat)(os:Array Obj):aJ w (grow (w'.drewN n) os):=h.trans ⟨n,os,rfl⟩
def aJ.cell{w w'}(h:aJ w w'){p v}(a:w.cell? p=some v):w'.cell? p=some v:=
 (h.below.cell (p:=p) (World.block_lt_of_cell? w _ a)).trans a
end Go.Proofs.q
end
section
namespace Go.Proofs.q
universe u
structure cR where
 addr:Int
 len:Int
 tag:Int
 met:Int
def dn(a l:Int):Bool:=decide (0<=l)&&decide (l<=32)&&decide (a%2^(32 - l).toNat=0)
def fH(n:Int):Bool:=decide (1<=n)&&decide (n<=16)
def kz(n:Int):Bool:=decide (0<=n)&&decide (n<=65535)
def JF{a l}(h:l<0):dn a l=false:=by
 have:decide (0<=l)=false:=a9l
 simp[dn,this]
def a0w{a l}(h:32<l):dn a l=false:=by
 have:decide (l<=32)=false:=a9l
 simp[dn,this]
def a0x{a l}(h0:0<=l)(b:l<=32):dn a l=decide (a%2^(32 - l).toNat=0):=by simp[dn,h0,b]
def C1{a l}(h:dn a l=true):0<=l/\l<=32:=by simp[dn]at h;exact h.1
def nZ(n):(0:Int)<2^n:=Int.pow_pos a9j
def nY(n)(h:n<=32):(2:Int)^n<=4294967296:=by
 have b:2^n<=2^32:=b0U a9j h;have a:((2:Int)^n)=((2^n:Nat):Int):=a9i
 rw[a];omega
def XO(n)(h:n<=32):(4294967295*2^n)%4294967296=(4294967296 - 2^n:Int):=by
 have a:=nZ n;have b:=nY n h;have e:(4294967295*2^n:Int)=(4294967296 - 2^n)+4294967296*(2^n - 1):=by rw[Int.mul_sub];omega
 rw[e,Int.add_mul_emod_self_left];exact Int.emod_eq_of_lt a9h a9h
def Xr(x n):x&&&(2^n - 1)=x%2^n:=Nat.and_two_pow_sub_one_eq_mod x n
def Ov(a:Int)(n)(h:n<=32)(h0:0<=a):(((a.toNat&&&(4294967295 - ((4294967296:Int) - 2^n).toNat):Nat):Int)==0)=decide (a%2^n=0):=by
 have c:=nZ n;have d:=nY n h;obtain⟨x,rfl⟩:=b0f h0;have b:((2:Int)^n)=((2^n:Nat):Int):=a9i
 have e:4294967295 - ((4294967296:Int) - 2^n).toNat=2^n - 1:=by rw[b]at d c⊢;omega
 rw[e,b0n,Xr,b];rw[m9];simp only[beq_iff_eq,decide_eq_true_eq];omega
def fE(e:cR):Int:=if dn e.addr e.len=false then 6 else if kz e.tag=false then 5 else if fH e.met=false then 8 else 0
def gM:List cR->Int->Option (Int×Int)
 |[],_=>none
 |e::r,k=>if fE e=0 then gM r (k+1)else some (fE e,k)
def oR(a:Int)(l:List cR):Option (Int×Int):=
 if (a≠1/\a≠2)\/(a=1/\0<l.length)then some (4, -1)
 else if a=2/\(l.length=0\/25<l.length)then some (3, -1)
 else gM l 0
def Gs{e}(h:fE e=0):dn e.addr e.len=true/\kz e.tag=true/\fH e.met=true:=by unfold fE at h;cases a:dn e.addr e.len<;>cases b:kz e.tag<;>cases c:fH e.met<;>simp[a,b,c]at h⊢
def T1{l:List cR}{k:Int}(m:Nat)(a:m<=l.length)(h:∀j,(b:j<m)->fE (l[j]'a9h)=0):gM l k=gM (l.drop m) (k+m):=by
 induction m generalizing l k with
 |zero=>simp
 |succ m c=>
  match l,a with
  |e::r,a=>have h0:fE e=0:=h 0 a9h;have:=c (l:=r) (k:=k+1) (by simpa using a) (λj b=>h (j+1) a9h);rw[show gM (e::r) k=gM r (k+1)by simp[gM,h0],this];simp only[List.drop_succ_cons];congr 1;omega
def T0{l k}(h:∀j,(a:j<l.length)->fE (l[j]'a)=0):gM l k=none:=by rw[T1 l.length (az _) h];simp[gM]
def G9{l k}(h:gM l k=none):∀e∈l,fE e=0:=by
 induction l generalizing k with
 |nil=>simp
 |cons e r b=>
  unfold gM at h;split at h
  .rename_i h0;intro x a;obtain rfl|a:=dj.1 a
   .exact h0
   .exact b h x a
  .simp at h
def byteOf(x:Int):UInt8:=UInt8.ofNat (x%256).toNat
def be:Nat->Int->List UInt8
 |0,_=> []
 |n+1,x=>be n (x / 256)++[byteOf x]
def O7(n x):(be n x).length=n:=by
 induction n generalizing x with
 |zero=>rfl
 |succ n a=>simp[be,a]
def cj(e:cR):List UInt8:=be 2 2++be 2 e.tag++be 4 e.addr++be 4 (4294967296 - 2^(32 - e.len).toNat)++be 4 0++be 4 e.met
def Bj(e):(cj e).length=20:=by simp[cj,O7]
def lR:List UInt8:=[1,2,0,0,0,0,0,0,0,0,0,0,0,0,0,0,0,0,0,0,0,0,0,16]
def eF(a:Int)(l:List cR):List UInt8:=if a=1 then lR else [2,2,0,0]++l.flatMap cj
def xY(l:List cR):(l.flatMap cj).length=20*l.length:=by
 induction l with
 |nil=>rfl
 |cons e r a=>simp[kJ,Bj,a];omega
end Go.Proofs.q
end
section
namespace Go.Proofs.q
universe u
open Go.RowKit
def fL{a b}(h:a=b):Ending.returned (.bool a)=.returned (.bool b):=by rw[h]
def jM{k a b}(h:a=b):Ending.returned (.int k a)=.returned (.int k b):=by rw[h]
def vw(a l w)(h0:0<=l)(c:l<=32):Calls Gh.prog.{u} 127 #[.agg #[.int .u32 a,.int .i64 l]] w λe b=>e=.returned (.int .u32 (4294967296 - 2^(32 - l).toNat))/\b=w.alloc (.cells #[.int .u32 a,.int .i64 l] 32):=by go_enter Gh.func127,Tryz.ntmps127;go_wp2;go_ret;exact⟨jM (XO _ a9h),rfl⟩
def HH(n w):Calls Gh.prog.{u} 174 #[.int .i64 n] w λe a=>e=.returned (.bool (fH n))/\a=w:=by
 go_enter Gh.func174,Tryz.ntmps174;go_wp2
 .go_ret;exact⟨fL (by
   have h:1<=n:=by assumption
   simp[fH,h]),rfl⟩
 .go_ret;exact⟨fL (by
   have h:n<1:=by assumption
   have b:decide (1<=n)=false:=a9l
   simp[fH,b]),rfl⟩
def sk(e n w):Calls Gh.prog.{u} 87 #[.int .i64 e,.int .i64 n] w λr a=>r=.returned (.iface 180 (.pointer (some ⟨w.heap.size,0,none⟩)))/\a=w.alloc (.cells #[.int .i64 e,.int .i64 n] 203):=by go_enter Gh.func87,Tryz.ntmps87;go_wp2;go_ret;exact⟨rfl,rfl⟩
def Pm(n w)(h0:0<=n)(g:n<=32):Calls Gh.prog.{u} 159 #[.int .i64 n] w λe a=>e=.returned (.int .i64 (2^(32 - n).toNat))/\a=w:=by
 go_enter Gh.func159,Tryz.ntmps159;go_wp2
 go_loop [3,4] (λb i=> ∃k:Int,n<=k/\k<=32/\i=.int .i64 k/\b=.int .i64 (2^(k - n).toNat)) (λ_ i=>(32 - intOf i).toNat)
 case atStart=>exact⟨n,a9h,a9h,rfl,a9i⟩
 case round=>
  obtain⟨k,c,d,rfl,rfl⟩:=hrel;have h:=nZ (k - n).toNat;have j:=nY (k - n).toNat a9h;by_cases f:k<32
  .go_wp2
   go_round
   case rel=>exact⟨k+1,a9h,a9h,rfl,by rw[show(k+1 - n).toNat=(k - n).toNat+1 by omega,Int.pow_succ,Int.mul_comm]⟩
   case measure=>simp[intOf];omega
  .go_wp2;go_ret;exact⟨jM (by rw[show k=32 by omega]),rfl⟩
end Go.Proofs.q
end
section
namespace Go.Proofs.q
universe u
open Go.RowKit
attribute [local go_sem ↓] Go.wp_at_zero Go.wp_at_succ
def Nj(a l w)(h:l<0):Calls Gh.prog.{u} 77 #[.agg #[.int .u32 a,.int .i64 l]] w λe w'=>e=.returned (.bool (dn a l))/\aJ w w':=by
 have c:decide (0<=l)=false:=a9l
 have b:Hid (dn a l=false):=JF h;go_enter Gh.func77,Tryz.ntmps77;go_wp2_with fail;go_quiet (fail);go_wp2;go_ret;exact⟨fL b.out.symm,((aJ.refl _).alloc _).drewN _⟩
def Nh(a l w)(h:32<l):Calls Gh.prog.{u} 77 #[.agg #[.int .u32 a,.int .i64 l]] w λe w'=>e=.returned (.bool (dn a l))/\aJ w w':=by
 have b:0<=l:=a9h
 have d:decide (l<=32)=false:=a9l
 have c:Hid (dn a l=false):=a0w h;go_enter Gh.func77,Tryz.ntmps77;go_wp2_with fail;go_quiet (fail);go_wp2;go_ret;exact⟨fL c.out.symm,((aJ.refl _).alloc _).drewN _⟩
def Ni(a l w)(h0:0<=l)(c:l<=32)(d:0<=a)(b:a<4294967296):Calls Gh.prog.{u} 77 #[.agg #[.int .u32 a,.int .i64 l]] w λe w'=>e=.returned (.bool (dn a l))/\aJ w w':=by
 go_enter Gh.func77,Tryz.ntmps77;go_wp2_with fail
 go_region_held3 (λw'=>w'.cell? ⟨w.heap.size,0,none⟩=some (.int .u32 a)/\w'.cell? ⟨w.heap.size,1,none⟩=some (.int .i64 l)) (go_keep)
  (first|(go_at_call 127;refine(vw a l _ h0 c).mono ?_;rintro e w' ⟨rfl,rfl⟩))
 all_goals go_wp2
 all_goals go_ret
 all_goals refine⟨fL ?_,(((aJ.refl _).alloc _).alloc _).drew⟩
 all_goals rw[a0x h0 c,u32_andNot _ _ d b (by have:=nY (32 - l).toNat a9h;omega) (by have:=nZ (32 - l).toNat;omega),Ov _ _ a9h d]
def El(a l w)(c:0<=a)(b:a<4294967296):Calls Gh.prog.{u} 77 #[.agg #[.int .u32 a,.int .i64 l]] w λe w'=>e=.returned (.bool (dn a l))/\aJ w w':=by
 by_cases h0:0<=l
 .by_cases d:l<=32
  .exact Ni a l w h0 d c b
  .exact Nh a l w a9h
 .exact Nj a l w a9h
def An(a l w)(c:0<=a)(b:a<4294967296):Calls Gh.prog.{u} 77 #[.agg #[.int .u32 a,.int .i64 l]] w λe w'=>e=.returned (.bool (dn a l))/\Below w.heap.size w w':=
 (El a l w c b).mono λ_ _ ⟨h,g⟩=>⟨h,g.below⟩
end Go.Proofs.q
end
section
namespace Go.Proofs.q
universe u
open Go.RowKit Go.Sort
attribute [local go_sem ↓] Go.wp_at_zero Go.wp_at_succ
def AS(W:aa)(cs t){B i v}(a:B=W.heap.size)(h:cs[i]?=some v):(W.alloc (.cells cs t)).cell? ⟨B,i,none⟩=some v:=by subst a;simpa using h
def iF(a b:Int):Int:=if a<b then -1 else if b<a then 1 else 0
def E4{a b}(h:a<b):iF a b= -1:=by simp[iF,h]
def E3{a b}(h:b<a):iF a b=1:=by simp[iF,h];omega
def E2{a b}(h:a=b):iF a b=0:=by simp[iF,h]
structure Pf where
 addr:Int
 len:Int
deriving DecidableEq,Inhabited
def lT(p q:Pf):Int:=if iF p.addr q.addr≠0 then iF p.addr q.addr else iF p.len q.len
def Qe(a b w):Calls Gh.prog.{u} 133 #[.int .u32 a,.int .u32 b] w λe c=>e=.returned (.int .i64 (iF a b))/\c=w:=by
 by_cases d:a<b
 .rw[E4 d];go_enter Gh.func133,Tryz.ntmps133;go_wp2;go_ret;exact⟨rfl,rfl⟩
 .by_cases f:b<a
  .rw[E3 f];go_enter Gh.func133,Tryz.ntmps133;go_wp2;go_ret;exact⟨rfl,rfl⟩
  .rw[E2 a9h];go_enter Gh.func133,Tryz.ntmps133;go_wp2;go_ret;exact⟨rfl,rfl⟩
def Qa(a b w):Calls Gh.prog.{u} 134 #[.int .i64 a,.int .i64 b] w λe c=>e=.returned (.int .i64 (iF a b))/\c=w:=by
 by_cases d:a<b
 .rw[E4 d];go_enter Gh.func134,Tryz.ntmps134;go_wp2;go_ret;exact⟨rfl,rfl⟩
 .by_cases f:b<a
  .rw[E3 f];go_enter Gh.func134,Tryz.ntmps134;go_wp2;go_ret;exact⟨rfl,rfl⟩
  .rw[E2 a9h];go_enter Gh.func134,Tryz.ntmps134;go_wp2;go_ret;exact⟨rfl,rfl⟩
def vO(a b:Int):Int:=if a≠0 then a else b
def ZY(B a b w)(h0:w.cell? ⟨B,0,none⟩=some (.int .i64 a))(l:w.cell? ⟨B,1,none⟩=some (.int .i64 b)):Calls Gh.prog.{u} 132 #[.slice (some ⟨B,0,none⟩) 2 2] w λe g=>e=.returned (.int .i64 (vO a b))/\g=w:=by
 have h:Hid (vO a b=if a≠0 then a else b):=rfl;go_enter Gh.func132,Tryz.ntmps132;go_wp2
 go_loop [8] (λi=> ∃k:Nat,k<=2/\i=.int .i64 k/\(0<k->a=0)/\(1<k->b=0)) (λi=>2 - (intOf i).toNat)
 case atStart=>exact⟨0,a9h,rfl,a9h,a9h⟩
 case round=>
  obtain⟨k,n,rfl,f,j⟩:=hrel;obtain rfl|rfl|rfl:=(by omega:k=0\/k=1\/k=2)
  .by_cases c:a=0
   .go_wp2
    go_round
    case rel=>exact⟨1,a9h,rfl,λ_=>c,a9h⟩
    case measure=>simp[intOf]
   .go_wp2;go_ret;exact⟨jM (by rw[h.out,if_pos c]),rfl⟩
  .have c:=f a9h;by_cases d:b=0
   .go_wp2
    go_round
    case rel=>exact⟨2,a9h,rfl,λ_=>c,λ_=>d⟩
    case measure=>simp[intOf]
   .go_wp2;go_ret;exact⟨jM (by simp[vO]),rfl⟩
  .have c:=f a9h;have d:=j a9h;go_wp2;go_ret;exact⟨jM (by simp[vO]),rfl⟩
theorem Qc(p q):vO (iF p.addr q.addr) (iF p.len q.len)=lT p q:=rfl
def Qh(p q w):Calls Gh.prog.{u} 82 #[.agg #[.int .u32 p.addr,.int .i64 p.len],.agg #[.int .u32 q.addr,.int .i64 q.len]] w λe w'=>e=.returned (.int .i64 (lT p q))/\aJ w w':=by
 rw[<-Qc];have a:=Qe.{u} p.addr q.addr;have b:=Qa.{u} p.len q.len;generalize iF p.addr q.addr=x at a⊢;generalize iF p.len q.len=y at b⊢;go_enter Gh.func82,Tryz.ntmps82;go_wp2_with fail
 go_region_held3 (λw'=>w'.cell? ⟨w.heap.size,0,none⟩=some (.int .u32 p.addr)/\w'.cell? ⟨w.heap.size,1,none⟩=some (.int .i64 p.len)/\w'.cell? ⟨w.heap.size+1,0,none⟩=some (.int .u32 q.addr)/\w'.cell? ⟨w.heap.size+1,1,none⟩=some (.int .i64 q.len)) (go_keep)
  (first|(go_at_call 133;refine(a _).mono ?_;rintro e w' ⟨rfl,rfl⟩)|(go_at_call 134;refine(b _).mono ?_;rintro e w' ⟨rfl,rfl⟩)|(go_at_call 132;refine(ZY _ x y _ (by exact AS _ #[.int .i64 x,.int .i64 y] _ a9i rfl) (by exact AS _ #[.int .i64 x,.int .i64 y] _ a9i rfl)).mono ?_;rintro e w' ⟨rfl,rfl⟩))
 all_goals go_wp2
 all_goals go_ret
 all_goals exact⟨rfl,((((aJ.refl w).alloc _).alloc _).alloc _).drew⟩
end Go.Proofs.q
end
section
namespace Go.Proofs.q
universe u
open Go.RowKit
def O3{W a}(c:Below W.heap.size W a):(∀b o,b<W.heap.size->a.cell? ⟨b,o,none⟩=W.cell? ⟨b,o,none⟩)/\(∀b o,b<W.heap.size->a.frozen? ⟨b,o,none⟩=W.frozen? ⟨b,o,none⟩):=
 ⟨λb o h=>c.cell (p:=⟨b,o,none⟩) h,λb o h=>c.frozen (p:=⟨b,o,none⟩) h⟩
def ak{p}(h:p):Hid p:=h
def af{p}(h:Hid p):p:=h
def bZ(w o):Below w.heap.size w (w.alloc o):=(Below.refl _ _).alloc (az _) _
def uf{w w1 o}(a:Below (w.alloc o).heap.size (w.alloc o) w1):Below w.heap.size w w1:=(bZ w o).trans (a.mono a9i)
def fc{w a w2}(h:Below w.heap.size w a)(b:Below a.heap.size a w2):Below w.heap.size w w2:=h.trans (b.mono h.size)
def ia(w:aa)(v:aj):Option (Int×Int)->Prop
 |none=>v=.nilIface
 |some (e,n)=> ∃b,v=.iface 180 (.pointer (some ⟨b,0,none⟩))/\w.cell? ⟨b,0,none⟩=some (.int .i64 e)/\w.cell? ⟨b,1,none⟩=some (.int .i64 n)
def Tb(w:aa)(e n):ia (w.alloc (.cells #[.int .i64 e,.int .i64 n] 203)) (.iface 180 (.pointer (some ⟨w.heap.size,0,none⟩))) (some (e,n)):=
 ⟨w.heap.size,rfl,a9i,a9i⟩
def Gx{w b e n}(h0:w.cell? ⟨b,0,none⟩=some (.int .i64 e))(a:w.cell? ⟨b,1,none⟩=some (.int .i64 n)):ia w (.iface 180 (.pointer (some ⟨b,0,none⟩))) (some (e,n)):=⟨b,rfl,h0,a⟩
def nL(w:aa)(b a:Nat)(l:List cR):Prop:=∀k,(h:k<l.length)->w.cell? ⟨b,a+k*4,none⟩=some (.int .u32 l[k].addr)/\w.cell? ⟨b,a+k*4+1,none⟩=some (.int .i64 l[k].len)/\w.cell? ⟨b,a+k*4+2,none⟩=some (.int .i64 l[k].tag)/\w.cell? ⟨b,a+k*4+3,none⟩=some (.int .i64 l[k].met)
def Bk{w e b a B l}(h:nL w b a l)(c:Below B w e)(d:b<B):nL e b a l:=λk f=>by obtain⟨h0,g,i,j⟩:=h k f;exact⟨(c.cell (p:=⟨b,_,none⟩) d).trans h0,(c.cell (p:=⟨b,_,none⟩) d).trans g,(c.cell (p:=⟨b,_,none⟩) d).trans i,(c.cell (p:=⟨b,_,none⟩) d).trans j⟩
def Gq{w b a l}(h:nL w b a l)(h0:0<l.length):b<w.heap.size:=World.block_lt_of_cell? w _ (h 0 h0).1
def sf(l:List cR):Prop:=∀e∈l,0<=e.addr/\e.addr<4294967296
def uH(w:aa)(ao:Option aF)(l:List cR):Prop:=l=[]\/∃b a,ao=some ⟨b,a,none⟩/\nL w b a l
def S4{w c ao l}(h:uH w ao l)(e:Below w.heap.size w c):uH c ao l:=by
 obtain h|⟨b,a,f,d⟩:=h
 .exact .inl h
 .by_cases h0:0<l.length
  .exact .inr ⟨b,a,f,Bk d e (Gq d h0)⟩
  .exact .inl (gj a9h)
end Go.Proofs.q
end
section
namespace Go.Proofs.q
universe u
open Go.RowKit
attribute [local go_sem ↓] Go.wp_at_zero Go.wp_at_succ
def qv(w:aa)(b a:Nat)(l:List Int):Prop:=∀k,(h:k<l.length)->w.cell? ⟨b,a+k,none⟩=some (.int .i64 l[k])
def Jd{w c b a B l}(h:qv w b a l)(d:Below B w c)(e:b<B):qv c b a l:=λk f=>(d.cell (p:=⟨b,_,none⟩) e).trans (h k f)
def Je{w b a l}(h:qv w b a l)(h0:0<l.length):b<w.heap.size:=World.block_lt_of_cell? w _ (h 0 h0)
def fO(w:aa)(ao:Option aF)(l:List Int):Prop:=l=[]\/∃b a,ao=some ⟨b,a,none⟩/\qv w b a l
def vL{w c ao l}(h:fO w ao l)(e:Below w.heap.size w c):fO c ao l:=by
 obtain h|⟨b,a,f,d⟩:=h
 .exact .inl h
 .by_cases h0:0<l.length
  .exact .inr ⟨b,a,f,Jd d e (Je d h0)⟩
  .exact .inl (gj a9h)
def kl(w:aa)(b a:Nat)(l:List Pf):Prop:=∀k,(h:k<l.length)->w.cell? ⟨b,a+k*2,none⟩=some (.int .u32 l[k].addr)/\w.cell? ⟨b,a+k*2+1,none⟩=some (.int .i64 l[k].len)
def yT{w c b a B l}(h:kl w b a l)(d:Below B w c)(e:b<B):kl c b a l:=λk f=>
 ⟨(d.cell (p:=⟨b,_,none⟩) e).trans (h k f).1,(d.cell (p:=⟨b,_,none⟩) e).trans (h k f).2⟩
def CX{w b a l}(h:kl w b a l)(h0:0<l.length):b<w.heap.size:=World.block_lt_of_cell? w _ (h 0 h0).1
def mM(w:aa)(ao:Option aF)(l:List Pf):Prop:=l=[]\/∃b a,ao=some ⟨b,a,none⟩/\kl w b a l
def CZ{w c ao l}(h:mM w ao l)(e:Below w.heap.size w c):mM c ao l:=by
 obtain h|⟨b,a,f,d⟩:=h
 .exact .inl h
 .by_cases h0:0<l.length
  .exact .inr ⟨b,a,f,yT d e (CX d h0)⟩
  .exact .inl (gj a9h)
def yW(l:List Pf):Prop:=∀p∈l,0<=p.addr/\p.addr<4294967296
def kf(n:Int):Bool:=decide (n<1)||decide (15<n)
def H3(n w):Calls Gh.prog.{u} 76 #[.int .i64 n] w λe a=>e=.returned (.bool (kf n))/\a=w:=by
 go_enter Gh.func76,Tryz.ntmps76;go_wp2
 .go_ret;exact⟨fL (by
   have h: ¬n<1:=a9h
   simp[kf,h]),rfl⟩
 .go_ret;exact⟨fL (by
   have h:n<1:=by assumption
   simp[kf,h]),rfl⟩
def V0(ao n cap l w)(s:l.length=n)(L:n<=8)(t:fO w ao l):Calls Gh.prog.{u} 126 #[.slice ao n cap,.func (.func 76) #[] #[]] w λe C=>(∃r,e=.returned (.int .i64 r)/\decide (0<=r)=l.any kf)/\C=w:=by
 have v:=ak s;have D:=ak t;clear s t;go_enter Gh.func126,Tryz.ntmps126;go_wp2
 go_loop [8] (λi=> ∃k:Nat,k<=n/\i=.int .i64 k/\∀j,(d:j<l.length)->j<k->kf l[j]=false) (λi=>n - (intOf i).toNat)
 case atStart=>exact⟨0,a9h,rfl,λj d h=>a9h⟩
 case round=>
  obtain⟨k,M,rfl,a⟩:=hrel;have y:=ak a;clear a;by_cases p:k<n
  .have c:k<l.length:=by rw[af v];exact p
   obtain h0|⟨b,F,rfl,z⟩:=af D
   .rw[h0]at c;simp at c
   .have H:=z k c;generalize A:l[k]=E at*;have B:=ak A;clear A z;cases o:kf E with
    |true=>have f:=ak o;clear o;go_wp2_with (go_at_call 76;refine(H3 E _).mono ?_;rintro e I ⟨rfl,rfl⟩;rw[af f]);go_ret;refine⟨⟨_,rfl,?_⟩,rfl⟩;rw[show l.any kf=true from List.any_eq_true.2 ⟨l[k],kK _,by rw[af B];exact af f⟩];simp
    |false=>
     have f:=ak o;clear o;go_wp2_with (go_at_call 76;refine(H3 E _).mono ?_;rintro e I ⟨rfl,rfl⟩;rw[af f])
     go_round
     case rel=>
      refine⟨k+1,a9h,by go_num,λj d J=>?_⟩;by_cases g:j=k
      .subst g;rw[af B];exact af f
      .exact af y j d a9h
     case measure=>simp[intOf];omega
  .have q:k=n:=a9h
   subst q;go_wp2;go_ret;refine⟨⟨-1,rfl,?_⟩,rfl⟩;rw[show l.any kf=false from ?_]
   .rfl
   .rw[List.any_eq_false];intro x K;obtain⟨j,d,rfl⟩:=ox K;simpa using af y j d (by rw[<-af v];exact d)
def Qk(ao n cap l w)(a:l.length=n)(d:n<=8)(b:fO w ao l):Calls Gh.prog.{u} 75 #[.slice ao n cap,.func (.func 76) #[] #[]] w λe f=>e=.returned (.bool (l.any kf))/\f=w:=by have g:=V0.{u} ao n cap l;have h:=ak a;have i:=ak b;clear a b;go_enter Gh.func75,Tryz.ntmps75;go_wp2_with (go_at_call 126;refine(g _ (af h) d (af i)).mono ?_;rintro e k ⟨⟨r,rfl,c⟩,rfl⟩;have j:=ak c;clear c);go_ret;exact⟨fL (af j),rfl⟩
def jy(l:List Int):Bool:=decide (l.length<=8)&& !(l.any kf)
def OE(ao n cap l w)(a:l.length=n)(c:fO w ao l):Calls Gh.prog.{u} 34 #[.slice ao n cap] w λe g=>e=.returned (.bool (jy l))/\g=w:=by
 by_cases d:n<=8
 .have f:=Qk.{u} ao n cap l w a d c;have b:Hid (jy l= !(l.any kf)):=by show jy l=_;simp[jy,a,d]
  clear a c;generalize l.any kf=q at f b;go_enter Gh.func34,Tryz.ntmps34;go_wp2_with (go_at_call 75;refine f.mono ?_;rintro e h ⟨rfl,rfl⟩);go_ret;exact⟨fL b.out.symm,rfl⟩
 .have b:Hid (jy l=false):=by show jy l=_;simp[jy,a,d]
  have i:decide ((n:Int)<=8)=false:=a9l
  clear a c;go_enter Gh.func34,Tryz.ntmps34;go_wp2;go_ret;exact⟨fL b.out.symm,rfl⟩
def Pf.beq_iff(p q:Pf):(p=q)↔(p.addr=q.addr/\p.len=q.len):=by cases p;cases q;simp
def V4(ao cap)(p:Pf)(w):Calls Gh.prog.{u} 128 #[.slice ao 0 cap,.agg #[.int .u32 p.addr,.int .i64 p.len]] w λe w'=>(∃r,e=.returned (.int .i64 r)/\decide (0<=r)=false)/\aJ w w':=by go_enter Gh.func128,Tryz.ntmps128;go_wp2;refine wp_loop_rounds 1 ?_;rw[rounds_succ];go_wp2;go_ret;exact⟨⟨-1,rfl,rfl⟩,(aJ.refl w).alloc _⟩
def Ql(ao:Option aF)(cap:Nat)(p:Pf)(w:aa):Calls Gh.prog.{u} 78 #[.slice ao 0 cap,.agg #[.int .u32 p.addr,.int .i64 p.len]] w λe w'=>e=.returned (.bool false)/\aJ w w':=by have c:=V4.{u} ao cap p;go_enter Gh.func78,Tryz.ntmps78;go_wp2_with (go_at_call 128;refine(c _).mono ?_;rintro e g ⟨⟨r,rfl,a⟩,b⟩;have d:=ak a;have f:=ak b;clear a b);go_ret;exact⟨fL (af d),((aJ.refl w).alloc _).trans (af f)⟩
def CO:List Pf->List Pf->Bool
 |_,[]=>true
 |pre,p::r=>dn p.addr p.len&& !(pre.contains p)&&CO (pre++[p]) r
def o9(l:List Pf):Bool:=decide (l.length<=20)&&CO [] l
def OH(b c cap:Nat)(E:Pf)(w:aa)(h0:0<=E.addr)(k:E.addr<4294967296)(h:dn E.addr E.len=true)(i:1<=cap)(q:w.cell? ⟨b,c,none⟩=some (.int .u32 E.addr))(c1:w.cell? ⟨b,c+1,none⟩=some (.int .i64 E.len)):Calls Gh.prog.{u} 35 #[.slice (some ⟨b,c,none⟩) 1 cap] w λe w'=>e=.returned (.bool true)/\Below w.heap.size w w':=by
 go_enter Gh.func35,Tryz.ntmps35;go_wp2;refine wp_loop_rounds 2 ?_;rw[rounds_succ];go_wp2_with fail;have l:(w.alloc (.cells #[.int .u32 E.addr,.int .i64 E.len] 32)).cell? ⟨w.heap.size,0,none⟩=some (.int .u32 E.addr):=a9i
 have o:(w.alloc (.cells #[.int .u32 E.addr,.int .i64 E.len] 32)).cell? ⟨w.heap.size,1,none⟩=some (.int .i64 E.len):=a9i
 have f:=ak (bZ w (.cells #[.int .u32 E.addr,.int .i64 E.len] 32));have a:w.heap.size<(w.alloc (.cells #[.int .u32 E.addr,.int .i64 E.len] 32)).heap.size:=a9i
 generalize w.alloc (.cells #[.int .u32 E.addr,.int .i64 E.len] 32)=W at*;have j:=gQ.{u};have r:=λn d=>cell_grown a l n d;have s:=λn d=>cell_grown a o n d;have g:w.heap.size<=W.heap.size:=a9h
 have hI:=El.{u} E.addr E.len;have p:=λn d=>Ql (some ⟨b,c,none⟩) cap E (Go.Sort.grow (W.drewN n) d);rw[h]at hI;clear h
 go_quiet_grown (first|(go_at_call 77;refine aJ.quiet (hI _ h0 k))|(go_at_call 78;refine aJ.quiet (p _ _)))
 go_wp2;rw[rounds_succ];go_wp2;go_ret;exact⟨rfl,(af f).trans ((aJ.below ((aJ.refl W).grow _ _)).mono g)⟩
def OF(ao:Option aF)(cap:Nat)(l:List Pf)(w:aa)(a:yW l)(f:l.length=1)(g:o9 l=true)(c:l.length<=cap)(i:mM w ao l):Calls Gh.prog.{u} 35 #[.slice ao l.length cap] w λe w'=>e=.returned (.bool true)/\Below w.heap.size w w':=by
 obtain⟨p,rfl⟩:=b0J.1 f;obtain h|⟨b,d,rfl,j⟩:=i
 .cases h
 .obtain⟨k,c1⟩:=j 0 a9i;exact OH b d cap p w (a p a9i).1 (a p a9i).2 (by simpa[o9,CO]using g) c (by simpa using k) (by simpa using c1)
end Go.Proofs.q
end
