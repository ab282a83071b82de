import Derived.Test.YtdnpeefnobjfaaaGreatDoorK37
set_option maxRecDepth 100000
set_option maxHeartbeats 4000000
set_option linter.all false
section
namespace Go.Proofs.Each
open Go.Conc Go.Mir
structure WF (b o:Nat) (cs:List ah) (u:Nat->af) (s:Int):Prop where
 s1:aS Tryz.prog true 48 (j6 b o cs u s) (iY b o cs u s)
 sA:∀w:aa,w.cell? ⟨b,o,none⟩=some (.int .u64 s)->w.frozen? ⟨b,o,none⟩=false->stepG Tryz.prog true (iY b o cs u s) w=.go (pp b o cs u s) (w.setCell ⟨b,o,none⟩ (.int .u64 (s+1))) #[⟨.cell ⟨b,o,none⟩,false,true⟩,⟨.cell ⟨b,o,none⟩,true,true⟩]
 FO:∀(w:aa) (x:Int),w.cell? ⟨b,o,none⟩=some (.int .u64 x)->w.frozen? ⟨b,o,none⟩=false->¬x=s->stepG Tryz.prog true (iY b o cs u s) w=.go (pm b o cs u s) w #[⟨.cell ⟨b,o,none⟩,false,true⟩]
 s2:aS Tryz.prog true 19 (pp b o cs u s) (mX b o cs u s)
 conv:∀(w:aa) (x:af),w.cell? ⟨b,o+1,none⟩=some x->stepG Tryz.prog true (mX b o cs u s) w=.go (qR b o cs u s) w #[]
 wr:∀w:aa,stepG Tryz.prog true (qR b o cs u s) w=.go (tN b o cs u s) w #[⟨.mark (.write ⟨b,o+1,none⟩),false,true⟩]
 s5:aS Tryz.prog true 23 (tN b o cs u s) (jC b o cs u s)
 E5:∀(w:aa) (x:Int),w.cell? ⟨b,o+1,none⟩=some (.int .u32 x)->x≠0->w.frozen? ⟨b,o+1,none⟩=false->stepG Tryz.prog true (jC b o cs u s) w=.go (qS b o cs u s) (w.setCell ⟨b,o+1,none⟩ (.int .u32 (x - 1))) (semEvents ⟨b,o+1,none⟩)
 wait:∀w:aa,w.cell? ⟨b,o+1,none⟩=some (.int .u32 0)->stepG Tryz.prog true (jC b o cs u s) w=.go {jC b o cs u s with status:=.blocked} w #[]
 s7:aS Tryz.prog true 16 (qS b o cs u s) (l5 b o cs u s)
 ld:∀w:aa,w.cell? ⟨b,o,none⟩=some (.int .u64 0)->stepG Tryz.prog true (l5 b o cs u s) w=.go (pq b o cs u s) w #[⟨.cell ⟨b,o,none⟩,false,true⟩]
 s9:aS Tryz.prog true 11 (pq b o cs u s) (qT b o cs u s)
 en:∀w:aa,stepG Tryz.prog true (qT b o cs u s) w=.go (tO b o cs u s) w #[⟨.mark .enable,false,true⟩]
 sB:aS Tryz.prog true 3 (tO b o cs u s) (mY b o cs u s)
 C0:∀(w:aa) (x:af),w.cell? ⟨b,o,none⟩=some x->stepG Tryz.prog true (mY b o cs u s) w=.go (pu b o cs u s) w #[]
 acq:∀w:aa,stepG Tryz.prog true (pu b o cs u s) w=.go (jD b o cs u s) w #[⟨.mark (.acquire ⟨b,o,none⟩),false,true⟩]
 ret:∀(c:ah) (cs':List ah),cs=c::cs'->aS Tryz.prog true 10 (jD b o cs u s) (an (c.finish (.tuple #[])) cs')
 again:∃u',aS Tryz.prog true 9 (pm b o cs u s) (wq b o cs u')
 run:(iY b o cs u s).status=.running/\(pp b o cs u s).status=.running/\(pm b o cs u s).status=.running/\(mX b o cs u s).status=.running/\(qR b o cs u s).status=.running/\((jC b o cs u s).status=.running/\(jC b o cs u s).offers=none)/\(qS b o cs u s).status=.running/\(l5 b o cs u s).status=.running/\(pq b o cs u s).status=.running/\(qT b o cs u s).status=.running/\(mY b o cs u s).status=.running/\(pu b o cs u s).status=.running/\(jD b o cs u s).status=.running
section
variable(b o:Nat)(cs:List ah)(u:Nat->af)
def a3m{v:Int}(hv:K8 v):WF b o cs u v where
 s1:=a4c b o cs u hv
 sA:=λw h1 h2=>a3Y b o cs u hv h1 h2
 FO:=λw x h1 h2 h3=>a4a b o cs u hv h1 h2 h3
 s2:=a4d b o cs u hv
 conv:=λw x h=>a3V b o cs u hv h
 wr:=λw=>a4i b o cs u hv w
 s5:=a4e b o cs u hv
 E5:=λw x h1 h2 h3=>a0O (Ju b o cs u hv) (Jw b o cs u hv) f210 Ez Ex EA Ey (Jy b o cs u hv) h1 h2 h3
 wait:=λw h1=>a0Q (Ju b o cs u hv) (Jw b o cs u hv) f210 Ez Ex EA Ey (Jy b o cs u hv) h1
 s7:=a4f b o cs u hv
 ld:=λw h=>a3Z b o cs u hv h
 s9:=a4g b o cs u hv
 en:=λw=>a3X b o cs u hv w
 sB:=a4h b o cs u hv
 C0:=λw x h=>a3W b o cs u hv h
 acq:=λw=>a3U b o cs u hv w
 ret:=λc cs' h=>by subst h;exact a4b b o cs' u hv c
 again:=wm b o cs u hv
 run:=by have h:=hv;obtain rfl|rfl|rfl|rfl|rfl|rfl|rfl|rfl:=h<;>exact⟨by kernel_rfl,by kernel_rfl,by kernel_rfl,by kernel_rfl,by kernel_rfl,⟨by kernel_rfl,by kernel_rfl⟩,by kernel_rfl,by kernel_rfl,by kernel_rfl,by kernel_rfl,by kernel_rfl,by kernel_rfl,by kernel_rfl⟩
def tK(m:Nat)(a:1<=m)(c:m<=8):WF b o cs u ((m:Int)*KK):=a3m b o cs u (by
 have:m=1\/m=2\/m=3\/m=4\/m=5\/m=6\/m=7\/m=8:=by omega
 obtain rfl|rfl|rfl|rfl|rfl|rfl|rfl|rfl:=this<;>simp[K8,KK])
end
structure DF (K:Bool) (b o:Nat) (cs:List ah) (s:Int):Prop where
 s1:aS Tryz.prog false 87 (mA K b o cs s) (uE K b o cs s)
 en:∀w:aa,stepG Tryz.prog false (uE K b o cs s) w=.go (rG K b o cs s) w #[⟨.mark .enable,false,true⟩]
 run:(mA K b o cs s).status=.running/\(uE K b o cs s).status=.running
section
variable(b o:Nat)(cs:List ah)
def LP{m x}(a:m<=7)(c:x<=1)(d: ¬(m=0/\x=1)):(m=0/\x=0)\/(m=1/\x=0)\/(m=1/\x=1)\/(m=2/\x=0)\/(m=2/\x=1)\/(m=3/\x=0)\/(m=3/\x=1)\/(m=4/\x=0)\/(m=4/\x=1)\/(m=5/\x=0)\/(m=5/\x=1)\/(m=6/\x=0)\/(m=6/\x=1)\/(m=7/\x=0)\/(m=7/\x=1):=by omega
def qZ(s:Int):Prop:=s=0*4294967296+0\/s=1*4294967296+0\/s=1*4294967296+1\/s=2*4294967296+0\/s=2*4294967296+1\/s=3*4294967296+0\/s=3*4294967296+1\/s=4*4294967296+0\/s=4*4294967296+1\/s=5*4294967296+0\/s=5*4294967296+1\/s=6*4294967296+0\/s=6*4294967296+1\/s=7*4294967296+0\/s=7*4294967296+1
def Ae{m x:Nat}(a:m<=7)(c:x<=1)(d: ¬(m=0/\x=1)):qZ ((m:Int)*KK+x):=by obtain⟨rfl,rfl⟩|⟨rfl,rfl⟩|⟨rfl,rfl⟩|⟨rfl,rfl⟩|⟨rfl,rfl⟩|⟨rfl,rfl⟩|⟨rfl,rfl⟩|⟨rfl,rfl⟩|⟨rfl,rfl⟩|⟨rfl,rfl⟩|⟨rfl,rfl⟩|⟨rfl,rfl⟩|⟨rfl,rfl⟩|⟨rfl,rfl⟩|⟨rfl,rfl⟩:=LP a c d<;>simp[qZ,KK]
def NZ(K){s}(h:qZ s):DF K b o cs s:=by obtain rfl|rfl|rfl|rfl|rfl|rfl|rfl|rfl|rfl|rfl|rfl|rfl|rfl|rfl|rfl:=h<;>cases K<;>exact⟨cq (λw=>by kernel_rfl) (by kernel_rfl),λw=>by kernel_rfl,by kernel_rfl,by kernel_rfl⟩
def uy(K){m x:Nat}(a:m<=7)(c:x<=1)(d: ¬(m=0/\x=1)):DF K b o cs ((m:Int)*KK+x):=NZ b o cs K (Ae a c d)
def Ot(c){s}(h:qZ s):aS Tryz.prog false 4 (rG false b o (c::cs) s) (an (c.finish (.tuple #[])) cs):=by obtain rfl|rfl|rfl|rfl|rfl|rfl|rfl|rfl|rfl|rfl|rfl|rfl|rfl|rfl|rfl:=h<;>exact eN (λw=>by kernel_rfl) (by kernel_rfl) (by kernel_rfl)
def Oq(c){m x:Nat}(a:m<=7)(d:x<=1)(e: ¬(m=0/\x=1)):aS Tryz.prog false 4 (rG false b o (c::cs) ((m:Int)*KK+x)) (an (c.finish (.tuple #[])) cs):=Ot b o cs c (Ae a d e)
def Oo(r i c d S){s}(h:qZ s):∃g,aS Tryz.prog false 6 (rG true r 4 [lC r i c d S,bf] s) g/\g.status=.finished:=by obtain rfl|rfl|rfl|rfl|rfl|rfl|rfl|rfl|rfl|rfl|rfl|rfl|rfl|rfl|rfl:=h<;>exact⟨_,cq (λw=>by kernel_rfl) (by kernel_rfl),by kernel_rfl⟩
def On(r i c d S){m x:Nat}(a:m<=7)(e:x<=1)(f: ¬(m=0/\x=1)):∃g,aS Tryz.prog false 6 (rG true r 4 [lC r i c d S,bf] ((m:Int)*KK+x)) g/\g.status=.finished:=Oo r i c d S (Ae a e f)
end
end Go.Proofs.Each
end
