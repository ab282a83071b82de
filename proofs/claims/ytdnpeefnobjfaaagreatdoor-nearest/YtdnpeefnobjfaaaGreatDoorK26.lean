import Derived.BigRegion
import Derived.Test.YtdnpeefnobjfaaaGreatDoorK24
import Derived.Test.YtdnpeefnobjfaaaGreatDoorK25
set_option maxRecDepth 100000
set_option maxHeartbeats 4000000
set_option linter.all false
section
namespace Go.Proofs.q
open Go.RowKit Go.Shelf
abbrev dI:=Nat->Nat
def fP(a:dI)(n c:Nat):dI:=λk=>if k<n then a k else c
def CR{a:dI}{n c k:Nat}(h:k<n):fP a n c k=a k:=if_pos h
def Jw{a:dI}{n c k:Nat}(h:n<=k):fP a n c k=c:=if_neg a9h
structure cO (C:Nat->Prop) (col col':dI) (w w':aa):Prop where
 os:w'.os=w.os
 tape:w'.tape=w.tape
 output:w'.output=w.output
 size:w.heap.size<=w'.heap.size
 keep:∀k,k<w.heap.size->¬C (col k)->w'.heap[k]?=w.heap[k]?
 jm:∀k,k<w.heap.size->col' k=col k
def cO.refl(C:Nat->Prop)(a:dI)(w:aa):cO C a a w w:=⟨rfl,rfl,rfl,az _,λ_ _ _=>rfl,λ_ _=>rfl⟩
def cO.trans{C:Nat->Prop}{a b c:dI}{w e w2:aa}(h:cO C a b w e)(k:cO C b c e w2):cO C a c w w2:=
 ⟨k.os.trans h.os,k.tape.trans h.tape,k.output.trans h.output,dt h.size k.size,
  λj d f=>(k.keep j (bL d h.size) (by rw[h.jm j d];exact f)).trans (h.keep j d f),
  λj d=>(k.jm j (bL d h.size)).trans (h.jm j d)⟩
def cO.mono{C D:Nat->Prop}{a b:dI}{w w1:aa}(h:cO C a b w w1)(c:∀x,C x->D x):cO D a b w w1:=
 ⟨h.os,h.tape,h.output,h.size,λk d e=>h.keep k d (λf=>e (c _ f)),h.jm⟩
def cO.grown{C:Nat->Prop}{a:dI}{w w':aa}{r:Option Nat}(c:Nat)(h:w.grownBy w' r)(d:∀k,r=some k->C (a k)):cO C a (fP a w.heap.size c) w w':=
 ⟨h.os,h.tape,h.output,h.size,λk b f=>h.block k b (λe=>f (d k e.symm)),λ_ b=>CR b⟩
def cO.below{C:Nat->Prop}{a:dI}{w w':aa}(c:Nat)(h:Below w.heap.size w w'):cO C a (fP a w.heap.size c) w w':=
 cO.grown (r:=none) c (B1 h) a9i
def ju(a:dI)(c:Nat)(w:aa)(e b:Nat)(v:aj)(n:Nat)(d:List aj):Prop:=w.ownsRow 0 e b v n d/\∀k,v.ownBlock=some k->a k=c
def vR{w w':aa}{base e f n:Nat}{v:aj}{xs:List aj}(h:w.ownsRow base e f v n xs)(j:∀k,v.ownBlock=some k->w'.heap[k]?=w.heap[k]?):w'.ownsRow base e f v n xs:=by
 obtain⟨i,⟨a,h0⟩|⟨g,c,b,a,d,l,o⟩⟩:=h
 .exact⟨i,.inl ⟨a,h0⟩⟩
 .exact⟨i,.inr ⟨g,c,b,a,d,(j g (by rw[a];rfl)).trans l,o⟩⟩
def ju.il{C:Nat->Prop}{b a:dI}{c:Nat}{w w':aa}{e f n:Nat}{v:aj}{xs:List aj}(h:ju b c w e f v n xs)(g:cO C b a w w')(i: ¬C c):ju a c w' e f v n xs:=
 ⟨vR h.1 (λk d=>g.keep k (pb h.1 k d).2 (by rw[h.2 k d];exact i)),λk d=>(g.jm k (pb h.1 k d).2).trans (h.2 k d)⟩
def ju.new{a:dI}{c b:Nat}{w:aa}{e d n:Nat}{v:aj}{xs:List aj}(h:w.ownsRow b e d v n xs):ju (fP a b c) c w e d v n xs:=
 ⟨dY h (iP _),λk f=>Jw (pb h k f).1⟩
def ju.old{a:dI}{c c' d:Nat}{w w':aa}{e b n:Nat}{v:aj}{xs:List aj}(h:ju a c w e b v n xs)(i:w.heap.size=d)(g:w'.ownsRow 0 e b v n xs):ju (fP a d c') c w' e b v n xs:=
 ⟨g,λk f=>(CR (by have:=(pb h.1 k f).2;omega)).trans (h.2 k f)⟩
def tV(a:dI)(c:Nat)(w:aa)(B:Nat)(cs:Array aj)(t:bD):Prop:=aE w B cs t/\a B=c
def tV.il{C:Nat->Prop}{b a:dI}{c:Nat}{w w':aa}{B:Nat}{cs:Array aj}{t:bD}(h:tV b c w B cs t)(d:cO C b a w w')(e: ¬C c):tV a c w' B cs t:=
 ⟨(d.keep B h.1.lt (by rw[h.2];exact e)).trans h.1,(d.jm B h.1.lt).trans h.2⟩
structure gp (col:dI) (c:Nat) (w:aa) (R:Nat) (aH:List Int) (L:List Rw) (V:Nat) (cv rv:aj):Prop where
 blk:tV col c w R #[cv,.int .i32 0,.int .u32 0,.pointer (some ⟨V,0,none⟩)] 116
 view:tV col c w V #[rv] 122
 aH:ju col c w 3 1 cv aH.length (cW aH)
 rows:ju col c w 137 7 rv L.length (aK L)
theorem gp.at{b:dI}{c:Nat}{w:aa}{R V:Nat}{a:List Int}{L:List Rw}{cv rv:aj}(h:gp b c w R a L V cv rv):dK w 0 R a L V cv rv:=⟨h.blk.1,h.view.1,h.aH.1,h.rows.1,iP _,iP _⟩
def gp.il{C:Nat->Prop}{d b:dI}{c:Nat}{w w':aa}{R V:Nat}{a:List Int}{L:List Rw}{cv rv:aj}(h:gp d c w R a L V cv rv)(e:cO C d b w w')(f: ¬C c):gp b c w' R a L V cv rv:=
 ⟨h.blk.il e f,h.view.il e f,h.aH.il e f,h.rows.il e f⟩
def gp.step{b:dI}{c:Nat}{w w':aa}{R V f:Nat}{a:List Int}{L e:List Rw}{cv j d:aj}(h:gp b c w R a L V cv j)(g:dK w' 0 R a e f cv d)(l:w.grownBy w' (some R))(n:w.heap.size<=f)(o:w'.ownsRow w.heap.size 137 7 d e.length (aK e)):gp (fP b w.heap.size c) c w' R a e f cv d/\cO (·=c) b (fP b w.heap.size c) w w':=
 ⟨⟨⟨g.blk,(CR h.blk.1.lt).trans h.blk.2⟩,⟨g.view,Jw n⟩,h.aH.old rfl g.aH,ju.new o⟩,cO.grown c l (λk i=>by simp at i;subst i;exact h.blk.2)⟩
variable{o:dI}{c:Nat}{w:aa}{m:List Int}{L:List Rw}{cv:aj}
def QE{R V b g}(h:gp o c w R m L V cv g)(i:rH L)(d:b<m.length):Calls Gh.prog.{0} 26 #[.pointer (some ⟨R,0,none⟩),.int .i64 b] w λe w'=>e=.returned .nilIface/\∃f a,gp (fP o w.heap.size c) c w' R m (fy b L) f cv a/\cO (·=c) o (fP o w.heap.size c) w w':=
 (QH R V 0 b m L cv g w h.at (by have:=i.len;omega) d).mono λ_ _ ⟨j,f,a,h',hg,hv,hr⟩=>⟨j,f,a,h.step h' hg hv hr⟩
def TO{b}(e:f9 b=none)(d:gK b=2):(eE b).length<=1000000:=by
 obtain⟨a,_,_⟩:=a9I e;rw[d]at a;unfold oR at a;split at a
 .cases a
 .split at a
  .cases a
  .rename_i h;omega
def XX{e}(h:Ek e):0<=e.met/\e.met<=16:=by have:=h.2.2.2;simp only[fH,eO,decide_eq_true_eq]at this;omega
def a1G{R V an s j}(h:gp o c w R m L V cv j)(k:rH L)(l:an<m.length)(b:∀c∈m,1<=c/\c<=15)(n:s.size<=9223372036854775807)(f:f9 s.data.toList=none)(a:gK s.data.toList=2):Calls Gh.prog.{0} 14 #[.pointer (some ⟨R,0,none⟩),.int .i64 an,.string s] w λe w'=>e=.returned (.tuple #[.slice none 0 0,.nilIface])/\∃g d,gp (fP o w.heap.size c) c w' R m (dL L an m[an] (eE s.data.toList)) g cv d/\cO (·=c) o (fP o w.heap.size c) w w':=
 (a1p R V 0 an s m L cv j w h.at l b k.len k.sorted n f a (TO f a) (λe i=>XX (a1l f e i))).mono λ_ _ ⟨i,g,d,h',hg,hv,hr⟩=>⟨i,g,d,h.step h' hg hv hr⟩
end Go.Proofs.q
end
section
namespace Go.Proofs.q
open Go.RowKit Go.Shelf
attribute [local go_sem ↓] Go.wp_at_zero Go.wp_at_succ
def X8(a l b c:Int)(w:aa):(binOp .neq 32 (.agg #[.int .u32 a,.int .i64 l]) (.agg #[.int .u32 b,.int .i64 c])).run Gh.prog.{0} w=.ok (.bool (!(decide (a=b)&&decide (l=c)))) w:=by rw[run_neq_struct,show(10000:Nat)=9998+1+1 from rfl,Gv];rfl
end Go.Proofs.q
end
