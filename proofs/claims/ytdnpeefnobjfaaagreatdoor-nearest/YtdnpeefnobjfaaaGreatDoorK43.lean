import Derived.Test.YtdnpeefnobjfaaaGreatDoorK39
set_option maxRecDepth 100000
set_option maxHeartbeats 4000000
set_option linter.all false
section
namespace Go.Proofs.Each
open Go.Conc Go.Mir
structure WF (b o:Nat) (cs:List ah) (u:Nat->aj) (s:Int):Prop where
 s1:aR Tryz.prog true 48 (kC b o cs u s) (jr b o cs u s)
 jD:∀w:aa,w.cell? ⟨b,o,none⟩=some (.int .u64 s)->w.frozen? ⟨b,o,none⟩=false->stepG Tryz.prog true (jr b o cs u s) w=.go (rq b o cs u s) (w.setCell ⟨b,o,none⟩ (.int .u64 (s+1))) #[⟨.cell ⟨b,o,none⟩,false,true⟩,⟨.cell ⟨b,o,none⟩,true,true⟩]
 vC:∀(w:aa) (x:Int),w.cell? ⟨b,o,none⟩=some (.int .u64 x)->w.frozen? ⟨b,o,none⟩=false->¬x=s->stepG Tryz.prog true (jr b o cs u s) w=.go (rj b o cs u s) w #[⟨.cell ⟨b,o,none⟩,false,true⟩]
 s2:aR Tryz.prog true 19 (rq b o cs u s) (ol b o cs u s)
 conv:∀(w:aa) (x:aj),w.cell? ⟨b,o+1,none⟩=some x->stepG Tryz.prog true (ol b o cs u s) w=.go (tS b o cs u s) w #[]
 wr:∀w:aa,stepG Tryz.prog true (tS b o cs u s) w=.go (wv b o cs u s) w #[⟨.mark (.write ⟨b,o+1,none⟩),false,true⟩]
 s5:aR Tryz.prog true 23 (wv b o cs u s) (jT b o cs u s)
 qj:∀(w:aa) (x:Int),w.cell? ⟨b,o+1,none⟩=some (.int .u32 x)->x≠0->w.frozen? ⟨b,o+1,none⟩=false->stepG Tryz.prog true (jT b o cs u s) w=.go (tT b o cs u s) (w.setCell ⟨b,o+1,none⟩ (.int .u32 (x - 1))) (semEvents ⟨b,o+1,none⟩)
 wait:∀w:aa,w.cell? ⟨b,o+1,none⟩=some (.int .u32 0)->stepG Tryz.prog true (jT b o cs u s) w=.go {jT b o cs u s with status:=.blocked} w #[]
 s7:aR Tryz.prog true 16 (tT b o cs u s) (mY b o cs u s)
 ld:∀w:aa,w.cell? ⟨b,o,none⟩=some (.int .u64 0)->stepG Tryz.prog true (mY b o cs u s) w=.go (rx b o cs u s) w #[⟨.cell ⟨b,o,none⟩,false,true⟩]
 s9:aR Tryz.prog true 11 (rx b o cs u s) (tU b o cs u s)
 en:∀w:aa,stepG Tryz.prog true (tU b o cs u s) w=.go (ww b o cs u s) w #[⟨.mark .enable,false,true⟩]
 sB:aR Tryz.prog true 3 (ww b o cs u s) (om b o cs u s)
 E9:∀(w:aa) (x:aj),w.cell? ⟨b,o,none⟩=some x->stepG Tryz.prog true (om b o cs u s) w=.go (ry b o cs u s) w #[]
 acq:∀w:aa,stepG Tryz.prog true (ry b o cs u s) w=.go (jU b o cs u s) w #[⟨.mark (.acquire ⟨b,o,none⟩),false,true⟩]
 ret:∀(c:ah) (cs':List ah),cs=c::cs'->aR Tryz.prog true 10 (jU b o cs u s) (am (c.finish (.tuple #[])) cs')
 again:∃u',aR Tryz.prog true 9 (rj b o cs u s) (wq b o cs u')
 run:(jr b o cs u s).status=.running/\(rq b o cs u s).status=.running/\(rj b o cs u s).status=.running/\(ol b o cs u s).status=.running/\(tS b o cs u s).status=.running/\((jT b o cs u s).status=.running/\(jT b o cs u s).offers=none)/\(tT b o cs u s).status=.running/\(mY b o cs u s).status=.running/\(rx b o cs u s).status=.running/\(tU b o cs u s).status=.running/\(om b o cs u s).status=.running/\(ry b o cs u s).status=.running/\(jU b o cs u s).status=.running
section
variable(b o:Nat)(cs:List ah)(u:Nat->aj)
def a5W{v:Int}(hv:K8 v):WF b o cs u v where
 s1:=a6P b o cs u hv
 jD:=λw h1 h2=>a6L b o cs u hv h1 h2
 vC:=λw x h1 h2 h3=>a6N b o cs u hv h1 h2 h3
 s2:=a6Q b o cs u hv
 conv:=λw x h=>a6I b o cs u hv h
 wr:=λw=>a6V b o cs u hv w
 s5:=a6R b o cs u hv
 qj:=λw x h1 h2 h3=>a3u (L3 b o cs u hv) (L5 b o cs u hv) f210 GH GF GI GG (L6 b o cs u hv) h1 h2 h3
 wait:=λw h1=>a3w (L3 b o cs u hv) (L5 b o cs u hv) f210 GH GF GI GG (L6 b o cs u hv) h1
 s7:=a6S b o cs u hv
 ld:=λw h=>a6M b o cs u hv h
 s9:=a6T b o cs u hv
 en:=λw=>a6K b o cs u hv w
 sB:=a6U b o cs u hv
 E9:=λw x h=>a6J b o cs u hv h
 acq:=λw=>a6H b o cs u hv w
 ret:=λc cs' h=>by subst h;exact a6O b o cs' u hv c
 again:=wm b o cs u hv
 run:=by have h:=hv;obtain rfl|rfl|rfl|rfl|rfl|rfl|rfl|rfl:=h<;>exact⟨a9k,a9k,a9k,a9k,a9k,⟨a9k,a9k⟩,a9k,a9k,a9k,a9k,a9k,a9k,a9k⟩
def wn(m:Nat)(a:1<=m)(c:m<=8):WF b o cs u ((m:Int)*KK):=a5W b o cs u (by
 have:m=1\/m=2\/m=3\/m=4\/m=5\/m=6\/m=7\/m=8:=a9h
 obtain rfl|rfl|rfl|rfl|rfl|rfl|rfl|rfl:=this<;>simp[K8,KK])
end
structure DF (K:Bool) (b o:Nat) (cs:List ah) (s:Int):Prop where
 s1:aR Tryz.prog false 87 (nF K b o cs s) (xA K b o cs s)
 en:∀w:aa,stepG Tryz.prog false (xA K b o cs s) w=.go (us K b o cs s) w #[⟨.mark .enable,false,true⟩]
 run:(nF K b o cs s).status=.running/\(xA K b o cs s).status=.running
section
variable(b o:Nat)(cs:List ah)
def Ot{m x}(a:m<=7)(c:x<=1)(d: ¬(m=0/\x=1)):(m=0/\x=0)\/(m=1/\x=0)\/(m=1/\x=1)\/(m=2/\x=0)\/(m=2/\x=1)\/(m=3/\x=0)\/(m=3/\x=1)\/(m=4/\x=0)\/(m=4/\x=1)\/(m=5/\x=0)\/(m=5/\x=1)\/(m=6/\x=0)\/(m=6/\x=1)\/(m=7/\x=0)\/(m=7/\x=1):=a9h
def t8(s:Int):Prop:=s=0*4294967296+0\/s=1*4294967296+0\/s=1*4294967296+1\/s=2*4294967296+0\/s=2*4294967296+1\/s=3*4294967296+0\/s=3*4294967296+1\/s=4*4294967296+0\/s=4*4294967296+1\/s=5*4294967296+0\/s=5*4294967296+1\/s=6*4294967296+0\/s=6*4294967296+1\/s=7*4294967296+0\/s=7*4294967296+1
def B8{m x:Nat}(a:m<=7)(c:x<=1)(d: ¬(m=0/\x=1)):t8 ((m:Int)*KK+x):=by obtain⟨rfl,rfl⟩|⟨rfl,rfl⟩|⟨rfl,rfl⟩|⟨rfl,rfl⟩|⟨rfl,rfl⟩|⟨rfl,rfl⟩|⟨rfl,rfl⟩|⟨rfl,rfl⟩|⟨rfl,rfl⟩|⟨rfl,rfl⟩|⟨rfl,rfl⟩|⟨rfl,rfl⟩|⟨rfl,rfl⟩|⟨rfl,rfl⟩|⟨rfl,rfl⟩:=Ot a c d<;>simp[t8,KK]
def Qt(K){s}(h:t8 s):DF K b o cs s:=by obtain rfl|rfl|rfl|rfl|rfl|rfl|rfl|rfl|rfl|rfl|rfl|rfl|rfl|rfl|rfl:=h<;>cases K<;>exact⟨sgo,λw=>a9k,a9k,a9k⟩
def xp(K){m x:Nat}(a:m<=7)(c:x<=1)(d: ¬(m=0/\x=1)):DF K b o cs ((m:Int)*KK+x):=Qt b o cs K (B8 a c d)
def QM(c){s}(h:t8 s):aR Tryz.prog false 4 (us false b o (c::cs) s) (am (c.finish (.tuple #[])) cs):=by obtain rfl|rfl|rfl|rfl|rfl|rfl|rfl|rfl|rfl|rfl|rfl|rfl|rfl|rfl|rfl:=h<;>exact eN
def QL(c){m x:Nat}(a:m<=7)(d:x<=1)(e: ¬(m=0/\x=1)):aR Tryz.prog false 4 (us false b o (c::cs) ((m:Int)*KK+x)) (am (c.finish (.tuple #[])) cs):=QM b o cs c (B8 a d e)
def QK(r i c d S){s}(h:t8 s):∃g,aR Tryz.prog false 6 (us true r 4 [mn r i c d S,bf] s) g/\g.status=.finished:=by obtain rfl|rfl|rfl|rfl|rfl|rfl|rfl|rfl|rfl|rfl|rfl|rfl|rfl|rfl|rfl:=h<;>exact⟨_,sgo,a9k⟩
def QJ(r i c d S){m x:Nat}(a:m<=7)(e:x<=1)(f: ¬(m=0/\x=1)):∃g,aR Tryz.prog false 6 (us true r 4 [mn r i c d S,bf] ((m:Int)*KK+x)) g/\g.status=.finished:=QK r i c d S (B8 a e f)
end
end Go.Proofs.Each
end
