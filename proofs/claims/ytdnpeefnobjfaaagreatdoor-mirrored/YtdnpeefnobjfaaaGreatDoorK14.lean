import Derived.Control
import Derived.KernelRfl
import Derived.Test.YtdnpeefnobjfaaaGreatDoorProg
import Derived.WalkKit
import Derived.Test.YtdnpeefnobjfaaaGreatDoorK03
set_option maxRecDepth 100000
set_option maxHeartbeats 4000000
set_option linter.all false
section
namespace Go.Mir
variable(T:Tables)(F F':Array Func)(t:aA)(w:aa)
def kQ(fn:Func):Func:={fn with name:= "-",origin:= "-" }
def I5:Sem.run ⟨T,F⟩ (typeInfo t) w=Sem.run ⟨T,F'⟩ (typeInfo t) w:=by have h:∀F,Sem.run ⟨T,F⟩ (typeInfo t) w=Sem.run ⟨T,F⟩ (match T.info? t with|some i=>pure i|none=>stuck "no such type") w:=λ_=>rfl;rw[h,h];cases T.info? t<;>rfl
def I6:Sem.run ⟨T,F⟩ (Go.underlying t) w=Sem.run ⟨T,F'⟩ (Go.underlying t) w:=by have h:∀F,Sem.run ⟨T,F⟩ (Go.underlying t) w=Sem.run ⟨T,F⟩ (match Program.underlying ⟨T,F⟩ t with|some i=>pure i|none=>stuck "no such type") w:=λ_=>rfl;rw[h,h,lY (F:=F) (F':=F')];cases Program.underlying ⟨T,F⟩ t<;>rfl
end Go.Mir
namespace Go.Mir
def LS{α β}{r:Result α}{k k':α->aa->Result β}(c:∀a b,k a b=k' a b):r.andThen k=r.andThen k':=by have:k=k':=funext λa=>funext λb=>c a b;rw[this]
def Bv{P Q α β s}{k:α->Sem β}{w}(h:Sem.run P s w=Sem.run Q s w)(c:∀a b,Sem.run P (k a) b=Sem.run Q (k a) b):Sem.run P (s.bind k) w=Sem.run Q (s.bind k) w:=
 (Sem.run_bind' P s k w).trans ((congrArg (λr=>Result.andThen r λa b=>Sem.run P (k a) b) h).trans ((LS c).trans (Sem.run_bind' Q s k w).symm))
variable(T:Tables)(F F':Array Func)(t:aA)(w:aa)
theorem a1W:Program.depth ⟨T,F⟩=Program.depth ⟨T,F'⟩:=rfl
def a1Y:Sem.run ⟨T,F⟩ (Go.sizeOf t) w=Sem.run ⟨T,F'⟩ (Go.sizeOf t) w:=Bv (s:=typeInfo t) (k:=λi=>pure i.size) (I5 T F F' t w) λ_ _=>rfl
def a1Z:Sem.run ⟨T,F⟩ (zeroValue t) w=Sem.run ⟨T,F'⟩ (zeroValue t) w:=by refine Bv (s:=typeInfo t) (I5 T F F' t w) λi a=>?_;cases i.zero<;>rfl
def a1X:Sem.run ⟨T,F⟩ (isAgg t) w=Sem.run ⟨T,F'⟩ (isAgg t) w:=by refine Bv (s:=Go.underlying t) (I6 T F F' t w) λd a=>?_;cases d<;>rfl
end Go.Mir
end
section
namespace Go.Proofs.Gh
noncomputable def on.{u}:Bool:= @decide (∀(α:Sort u) (a b:α),a=b) (Classical.propDecidable _)
def AT:on.{0}=true:= @decide_eq_true _ (Classical.propDecidable _) λ_ _ _=>rfl
def AU:on.{1}=false:= @decide_eq_false _ (Classical.propDecidable _) λh=>absurd (h Bool true false) (by decide)
noncomputable def iD:Func:={Tryz.f106 with body:=some ((Code.region 8 #[⟨some 17,.binOp .lss 3 (.tmp 0) (.const (.int .i64 (9))) 3,4,"",#[],none⟩] false).seq ((Code.cond (.tmp 17) .skip (.refuse "-")).seq ((Code.region 9 #[⟨some 18,.binOp .lss 3 (.const (.int .i64 (-1))) (.tmp 0) 3,4,"",#[],none⟩] false).seq ((Code.cond (.tmp 18) .skip (.refuse "-")).seq ((Code.region 10 #[⟨some 20,.field 120 (.tmp 1) 0,118,"",#[],none⟩,⟨some 19,.build 120 #[(0,(.tmp 1))],120,"",#[],none⟩] false).seq ((Code.region 11 #[⟨some 21,.call {callee:=.builtin .len,args:=#[.tmp 20],argTypes:=#[118]},3,"",#[],none⟩] false).seq ((Code.region 12 #[⟨some 22,.binOp .lss 3 (.tmp 21) (.const (.int .i64 (101))) 3,4,"",#[],none⟩] false).seq ((Code.cond (.tmp 22) .skip (.refuse "-")).seq ((Code.region 13 #[⟨some 23,.makeSlice 80 (.const (.int .i64 (1))) (.const (.int .i64 (1))),80,"",#[],none⟩] false).seq ((Code.region 14 #[⟨some 24,.call {callee:=.value (.func 194),args:=#[.tmp 23,.tmp 20],argTypes:=#[118,118]},4,"",#[],none⟩] false).seq ((Code.region 15 #[⟨some 25,.move (.const (.int .i64 0)),3,"",#[],none⟩] false).seq ((Code.block 1 (Code.loop ((Code.region 16 #[⟨some 26,.binOp .lss 3 (.tmp 25) (.tmp 21) 3,4,"",#[],none⟩] false).seq ((Code.cond (.tmp 26) .skip (.exit 1)).seq ((Code.region 31 #[⟨some 50,.binOp .eql 118 (.tmp 20) (.const (.slice none 0 0)) 118,4,"",#[],none⟩] false).seq ((Code.cond (.tmp 50) (.refuse "-") .skip).seq ((Code.region 17 #[⟨some 27,.indexAddr 118 (.tmp 20) (.tmp 25),0,"",#[],none⟩,⟨some 28,.load 137 (.tmp 27),137,"",#[{on:=0,ground:=.data}],none⟩] false).seq ((Code.region 18 #[⟨some 29,.field 137 (.tmp 28) 0,52,"",#[],none⟩,⟨some 30,.field 52 (.tmp 29) 0,32,"",#[{on:=0,ground:=.data}],none⟩,⟨some 31,.field 32 (.tmp 30) 0,30,"",#[{on:=1,ground:=.data}],none⟩,⟨some 32,.field 32 (.tmp 30) 1,3,"",#[{on:=1,ground:=.data}],none⟩,⟨some 33,.field 52 (.tmp 29) 1,3,"",#[{on:=0,ground:=.data}],none⟩,⟨some 34,.field 52 (.tmp 29) 2,3,"",#[{on:=0,ground:=.data}],none⟩,⟨some 35,.field 52 (.tmp 29) 3,3,"",#[{on:=0,ground:=.data}],none⟩,⟨some 36,.field 137 (.tmp 28) 1,3,"",#[],none⟩,⟨some 37,.field 137 (.tmp 28) 2,4,"",#[],none⟩] false).seq ((Code.region 19 #[⟨some 38,.binOp .lss 30 (.const (.int .u32 (-1))) (.tmp 31) 30,4,"",#[],none⟩] false).seq ((Code.cond (.tmp 38) .skip (.refuse "-")).seq ((Code.region 20 #[⟨some 39,.binOp .lss 30 (.tmp 31) (.const (.int .u32 (4294967296))) 30,4,"",#[],none⟩] false).seq ((Code.cond (.tmp 39) .skip (.refuse "-")).seq ((Code.region 21 #[⟨some 40,.binOp .lss 3 (.tmp 32) (.const (.int .i64 (0))) 3,4,"",#[],none⟩] false).seq ((Code.region 22 #[⟨some 41,.binOp .lss 3 (.const (.int .i64 (-1))) (.tmp 33) 3,4,"",#[],none⟩] false).seq ((Code.cond (.tmp 41) .skip (.refuse "-")).seq ((Code.region 23 #[⟨some 42,.binOp .lss 3 (.tmp 33) (.const (.int .i64 (65536))) 3,4,"",#[],none⟩] false).seq ((Code.cond (.tmp 42) .skip (.refuse "-")).seq ((Code.region 24 #[⟨some 43,.binOp .lss 3 (.const (.int .i64 (0))) (.tmp 34) 3,4,"",#[],none⟩] false).seq ((Code.cond (.tmp 43) .skip (.refuse "-")).seq ((Code.region 25 #[⟨some 44,.binOp .lss 3 (.tmp 34) (.const (.int .i64 (17))) 3,4,"",#[],none⟩] false).seq ((Code.cond (.tmp 44) .skip (.refuse "-")).seq ((Code.region 26 #[⟨some 45,.binOp .lss 3 (.tmp 35) (.const (.int .i64 (0))) 3,4,"",#[],none⟩] false).seq ((Code.region 27 #[⟨some 46,.binOp .lss 3 (.tmp 36) (.const (.int .i64 (0))) 3,4,"",#[],none⟩] false).seq ((Code.region 28 #[⟨some 49,.unOp .not 4 (.tmp 37),4,"",#[],none⟩] false).seq ((Code.region 29 #[⟨some 47,.call {callee:=.value (.func 77),args:=#[.tmp 30],argTypes:=#[32]},4,"",#[],none⟩] false).seq ((Code.cond (.tmp 47) .skip (.refuse "-")).seq (Code.region 30 #[⟨some 48,.binOp .add 3 (.tmp 25) (.const (.int .i64 1)) 3,3,"",#[],none⟩,⟨some 25,.move (.tmp 48),3,"",#[{on:=0,ground:=.data}],none⟩] false))))))))))))))))))))))))))).seq ((Code.region 0 #[⟨some 4,.assign (.const (.slice none 0 0)),46,"",#[],none⟩] false).seq ((Code.region 1 #[⟨some 8,.move (.tmp 0),3,"",#[],none⟩,⟨some 9,.makeSlice 80 (.tmp 8) (.tmp 8),80,"",#[{on:=0,ground:=.data}],none⟩,⟨some 5,.assign (.tmp 9),80,"",#[{on:=1,ground:=.data}],none⟩] false).seq ((Code.region 2 #[⟨some 10,.move (.tmp 0),3,"",#[],none⟩,⟨some 11,.move (.const (.int .i64 0)),3,"",#[],none⟩] false).seq ((Code.block 0 (Code.loop ((Code.region 3 #[⟨some 12,.binOp .lss 3 (.tmp 11) (.tmp 10) 3,4,"",#[],none⟩] false).seq ((Code.cond (.tmp 12) .skip (.exit 0)).seq ((Code.region 4 #[⟨some 13,.call {callee:=.value (.func 43),args:=#[.tmp 11,.tmp 1],argTypes:=#[3,120]},46,"",#[],none⟩,⟨some 6,.assign (.tmp 13),46,"",#[{on:=0,ground:=.data}],none⟩] false).seq ((Code.region 5 #[⟨some 14,.indexAddr 80 (.tmp 5) (.tmp 11),0,"",#[],none⟩,⟨none,.store 46 (.tmp 14) (.tmp 6),0,"",#[{on:=0,ground:=.data}],none⟩] false).seq (Code.region 6 #[⟨some 15,.binOp .add 3 (.tmp 11) (.const (.int .i64 1)) 3,3,"",#[],none⟩,⟨some 11,.move (.tmp 15),3,"",#[{on:=0,ground:=.data}],none⟩] false))))))).seq ((Code.region 7 #[⟨some 16,.call {callee:=.value (.func 156),args:=#[.tmp 5],argTypes:=#[80]},46,"",#[],none⟩,⟨some 4,.assign (.tmp 16),46,"",#[{on:=0,ground:=.data}],none⟩] false).seq Code.ret)))))))))))))))))}
noncomputable def yi(b:Bool):Func:={Tryz.f106 with body:=some (cond b (iD.body.getD .skip) (.refuse "-"))}
noncomputable def f106.{u}:Func:=yi on.{u}
def T2:f106.{0}=iD:=by unfold f106;rw[AT];rfl
noncomputable def mH:Func:={Tryz.f144 with body:=some ((Code.region 0 #[⟨some 3,.binOp .eql 302 (.tmp 0) (.const (.pointer none)) 302,4,"",#[],none⟩] false).seq ((Code.cond (.tmp 3) (.refuse "-") .skip).seq ((Code.region 1 #[⟨some 4,.fieldAddr 107 (.tmp 0) 0,0,"",#[],none⟩,⟨some 5,.call {callee:=.value (.func 185),args:=#[(.tmp 4),(.const (.int .i32 0)),(.const (.int .i32 1))],argTypes:=#[304,21,21]},4,"",#[{on:=0,ground:=.data}],none⟩] false).seq ((Code.cond (.tmp 5) .skip (.refuse "-")).seq ((Code.region 2 #[⟨some 6,.convert 302 112 (.tmp 0),112,"",#[],none⟩] false).seq Code.ret)))))}
noncomputable def yj(b:Bool):Func:={Tryz.f144 with body:=some (cond b (mH.body.getD .skip) (.refuse "-"))}
noncomputable def f144.{u}:Func:=yj on.{u}
def T3:f144.{0}=mH:=by unfold f144;rw[AT];rfl
noncomputable def mI:Func:={Tryz.f145 with body:=some ((Code.region 0 #[⟨some 3,.binOp .eql 302 (.tmp 0) (.const (.pointer none)) 302,4,"",#[],none⟩] false).seq ((Code.cond (.tmp 3) (.refuse "-") .skip).seq ((Code.region 1 #[⟨some 4,.fieldAddr 107 (.tmp 0) 0,0,"",#[],none⟩,⟨some 5,.load 21 (.tmp 4),21,"",#[{on:=0,ground:=.data}],none⟩] false).seq ((Code.region 2 #[⟨some 6,.convert 302 112 (.tmp 0),112,"",#[],none⟩] false).seq ((Code.region 3 #[⟨some 7,.fieldAddr 107 (.tmp 0) 0,0,"",#[],none⟩,⟨some 8,.call {callee:=.value (.func 190),args:=#[(.tmp 7),(.const (.int .i32 (-1)))],argTypes:=#[304,21]},21,"",#[{on:=0,ground:=.data}],none⟩] false).seq ((Code.region 4 #[⟨some 9,.binOp .eql 21 (.tmp 8) (.const (.int .i32 0)) 21,4,"",#[],none⟩] false).seq ((Code.cond (.tmp 9) .skip (.refuse "-")).seq Code.ret)))))))}
noncomputable def yk(b:Bool):Func:={Tryz.f145 with body:=some (cond b (mI.body.getD .skip) (.refuse "-"))}
noncomputable def f145.{u}:Func:=yk on.{u}
def T4:f145.{0}=mI:=by unfold f145;rw[AT];rfl
noncomputable def f154:Func:={Tryz.f154 with body:=some (.refuse "-")}
noncomputable def mod.{u}(i:Nat)(f:Func):Func:=bif Nat.testBit 31057978348605504680721396973745225086780683440476649954084754009309622363461412454403 i then Mir.kQ f else bif i==106 then f106.{u}else bif i==144 then f144.{u}else bif i==145 then f145.{u}else bif i==154 then f154 else f
noncomputable def vW.{u}:Nat->List Func->List Func
 |_,[]=> []
 |i,f::l=>mod.{u} i f::vW (i+1) l
noncomputable def funcs.{u}:Array Func:=⟨vW.{u} 0 Tryz.funcs.toList⟩
theorem FG.{u}:∀(l:List Func) (i k:Nat),(vW.{u} i l)[k]?=l[k]?.map (mod.{u} (i+k))
 |[],_,_=>rfl
 |f::l,i,0=>rfl
 |f::l,i,k+1=>by rw[vW,a7L,a7L,FG l (i+1) k,show i+1+k=i+(k+1)by omega]
def get.{u}(k:Nat):funcs.{u}[k]?=(Tryz.funcs[k]?).map (mod.{u} k):=by have:=FG.{u} Tryz.funcs.toList 0 k;rw[dG]at this;simpa[funcs]using this
noncomputable def prog.{u}:ay:=⟨Tryz.progTables,funcs.{u}⟩
@[simp] theorem dI(t:aA):Program.underlying prog t=Program.underlying Tryz.prog t:=Mir.lY (T:=Tryz.progTables) (F:=Tryz.funcs) (F':=funcs) t
@[simp] theorem a5D(d:Nat)(t:aA):Program.eqGuardType prog d t=Program.eqGuardType Tryz.prog d t:=Mir.Em (T:=Tryz.progTables) (F:=Tryz.funcs) (F':=funcs) d t
@[simp] theorem a5F(t:aA):Program.stoodInHeld prog t=Program.stoodInHeld Tryz.prog t:=Mir.tG (T:=Tryz.progTables) (F:=Tryz.funcs) (F':=funcs) t
@[simp] theorem fM(t:aA)(w:aa):Sem.run prog (Go.sizeOf t) w=Sem.run Tryz.prog (Go.sizeOf t) w:=Mir.a1Y Tryz.progTables funcs Tryz.funcs t w
@[simp] theorem a5E(t:aA)(w:aa):Sem.run prog (Go.underlying t) w=Sem.run Tryz.prog (Go.underlying t) w:=Mir.I6 Tryz.progTables funcs Tryz.funcs t w
@[simp] theorem fX(t:aA)(w:aa):Sem.run prog (isAgg t) w=Sem.run Tryz.prog (isAgg t) w:=Mir.a1X Tryz.progTables funcs Tryz.funcs t w
@[simp] theorem gU(t:aA)(w:aa):Sem.run prog (zeroValue t) w=Sem.run Tryz.prog (zeroValue t) w:=Mir.a1Z Tryz.progTables funcs Tryz.funcs t w
@[simp] theorem a5C:Program.depth prog=Program.depth Tryz.prog:=Mir.a1W Tryz.progTables funcs Tryz.funcs
abbrev aU.{u}(k:Nat):Prop:=∀(a:Array af) (w:aa),Sem.run prog.{u} (callFunc k a) w=.ok (.enter k a) w
@[simp] theorem func6:prog.funcs[6]?=some Tryz.f6:=by kernel_rfl
@[simp] theorem call6:aU 6:=λ_ _=>by kernel_rfl
@[simp] theorem func10:prog.funcs[10]?=some Tryz.f10:=by kernel_rfl
@[simp] theorem call10:aU 10:=λ_ _=>by kernel_rfl
@[simp] theorem func11:prog.funcs[11]?=some Tryz.f11:=by kernel_rfl
@[simp] theorem call11:aU 11:=λ_ _=>by kernel_rfl
@[simp] theorem func13:prog.funcs[13]?=some Tryz.f13:=by kernel_rfl
@[simp] theorem call13:aU 13:=λ_ _=>by kernel_rfl
@[simp] theorem func14:prog.funcs[14]?=some Tryz.f14:=by kernel_rfl
@[simp] theorem call14:aU 14:=λ_ _=>by kernel_rfl
@[simp] theorem func15:prog.funcs[15]?=some Tryz.f15:=by kernel_rfl
@[simp] theorem call15:aU 15:=λ_ _=>by kernel_rfl
@[simp] theorem func17:prog.funcs[17]?=some Tryz.f17:=by kernel_rfl
@[simp] theorem call17:aU 17:=λ_ _=>by kernel_rfl
@[simp] theorem func18:prog.funcs[18]?=some Tryz.f18:=by kernel_rfl
@[simp] theorem call18:aU 18:=λ_ _=>by kernel_rfl
@[simp] theorem func19:prog.funcs[19]?=some Tryz.f19:=by kernel_rfl
@[simp] theorem call19:aU 19:=λ_ _=>by kernel_rfl
@[simp] theorem func20:prog.funcs[20]?=some Tryz.f20:=by kernel_rfl
@[simp] theorem call20:aU 20:=λ_ _=>by kernel_rfl
@[simp] theorem func21:prog.funcs[21]?=some Tryz.f21:=by kernel_rfl
@[simp] theorem call21:aU 21:=λ_ _=>by kernel_rfl
@[simp] theorem func22:prog.funcs[22]?=some Tryz.f22:=by kernel_rfl
@[simp] theorem call22:aU 22:=λ_ _=>by kernel_rfl
@[simp] theorem func34:prog.funcs[34]?=some Tryz.f34:=by kernel_rfl
@[simp] theorem call34:aU 34:=λ_ _=>by kernel_rfl
@[simp] theorem func35:prog.funcs[35]?=some Tryz.f35:=by kernel_rfl
@[simp] theorem call35:aU 35:=λ_ _=>by kernel_rfl
@[simp] theorem func36:prog.funcs[36]?=some Tryz.f36:=by kernel_rfl
@[simp] theorem call36:aU 36:=λ_ _=>by kernel_rfl
@[simp] theorem func37:prog.funcs[37]?=some Tryz.f37:=by kernel_rfl
@[simp] theorem call37:aU 37:=λ_ _=>by kernel_rfl
@[simp] theorem func38:prog.funcs[38]?=some Tryz.f38:=by kernel_rfl
@[simp] theorem call38:aU 38:=λ_ _=>by kernel_rfl
@[simp] theorem func39:prog.funcs[39]?=some Tryz.f39:=by kernel_rfl
@[simp] theorem call39:aU 39:=λ_ _=>by kernel_rfl
@[simp] theorem func40:prog.funcs[40]?=some Tryz.f40:=by kernel_rfl
@[simp] theorem call40:aU 40:=λ_ _=>by kernel_rfl
@[simp] theorem func41:prog.funcs[41]?=some Tryz.f41:=by kernel_rfl
@[simp] theorem call41:aU 41:=λ_ _=>by kernel_rfl
@[simp] theorem func43:prog.funcs[43]?=some Tryz.f43:=by kernel_rfl
@[simp] theorem call43:aU 43:=λ_ _=>by kernel_rfl
@[simp] theorem func44:prog.funcs[44]?=some Tryz.f44:=by kernel_rfl
@[simp] theorem call44:aU 44:=λ_ _=>by kernel_rfl
@[simp] theorem func45:prog.funcs[45]?=some Tryz.f45:=by kernel_rfl
@[simp] theorem call45:aU 45:=λ_ _=>by kernel_rfl
@[simp] theorem func46:prog.funcs[46]?=some Tryz.f46:=by kernel_rfl
@[simp] theorem call46:aU 46:=λ_ _=>by kernel_rfl
@[simp] theorem call47:aU 47:=λ_ _=>by kernel_rfl
@[simp] theorem func49:prog.funcs[49]?=some Tryz.f49:=by kernel_rfl
@[simp] theorem call49:aU 49:=λ_ _=>by kernel_rfl
@[simp] theorem func50:prog.funcs[50]?=some Tryz.f50:=by kernel_rfl
@[simp] theorem call50:aU 50:=λ_ _=>by kernel_rfl
@[simp] theorem func51:prog.funcs[51]?=some Tryz.f51:=by kernel_rfl
@[simp] theorem call51:aU 51:=λ_ _=>by kernel_rfl
@[simp] theorem func52:prog.funcs[52]?=some Tryz.f52:=by kernel_rfl
@[simp] theorem call52:aU 52:=λ_ _=>by kernel_rfl
@[simp] theorem func53:prog.funcs[53]?=some Tryz.f53:=by kernel_rfl
@[simp] theorem call53:aU 53:=λ_ _=>by kernel_rfl
@[simp] theorem func54:prog.funcs[54]?=some Tryz.f54:=by kernel_rfl
@[simp] theorem call54:aU 54:=λ_ _=>by kernel_rfl
@[simp] theorem func55:prog.funcs[55]?=some Tryz.f55:=by kernel_rfl
@[simp] theorem call55:aU 55:=λ_ _=>by kernel_rfl
@[simp] theorem func75:prog.funcs[75]?=some Tryz.f75:=by kernel_rfl
@[simp] theorem call75:aU 75:=λ_ _=>by kernel_rfl
@[simp] theorem func76:prog.funcs[76]?=some Tryz.f76:=by kernel_rfl
@[simp] theorem call76:aU 76:=λ_ _=>by kernel_rfl
@[simp] theorem func77:prog.funcs[77]?=some Tryz.f77:=by kernel_rfl
@[simp] theorem call77:aU 77:=λ_ _=>by kernel_rfl
@[simp] theorem func78:prog.funcs[78]?=some Tryz.f78:=by kernel_rfl
@[simp] theorem call78:aU 78:=λ_ _=>by kernel_rfl
@[simp] theorem func79:prog.funcs[79]?=some Tryz.f79:=by kernel_rfl
@[simp] theorem func80:prog.funcs[80]?=some Tryz.f80:=by kernel_rfl
@[simp] theorem call80:aU 80:=λ_ _=>by kernel_rfl
@[simp] theorem func81:prog.funcs[81]?=some Tryz.f81:=by kernel_rfl
@[simp] theorem call81:aU 81:=λ_ _=>by kernel_rfl
@[simp] theorem func82:prog.funcs[82]?=some Tryz.f82:=by kernel_rfl
@[simp] theorem call82:aU 82:=λ_ _=>by kernel_rfl
@[simp] theorem func83:prog.funcs[83]?=some Tryz.f83:=by kernel_rfl
@[simp] theorem call83:aU 83:=λ_ _=>by kernel_rfl
@[simp] theorem func84:prog.funcs[84]?=some Tryz.f84:=by kernel_rfl
@[simp] theorem call84:aU 84:=λ_ _=>by kernel_rfl
@[simp] theorem func85:prog.funcs[85]?=some Tryz.f85:=by kernel_rfl
@[simp] theorem call85:aU 85:=λ_ _=>by kernel_rfl
@[simp] theorem func86:prog.funcs[86]?=some Tryz.f86:=by kernel_rfl
@[simp] theorem call86:aU 86:=λ_ _=>by kernel_rfl
@[simp] theorem func87:prog.funcs[87]?=some Tryz.f87:=by kernel_rfl
@[simp] theorem call87:aU 87:=λ_ _=>by kernel_rfl
@[simp] theorem func88:prog.funcs[88]?=some Tryz.f88:=by kernel_rfl
@[simp] theorem call88:aU 88:=λ_ _=>by kernel_rfl
@[simp] theorem func90:prog.funcs[90]?=some Tryz.f90:=by kernel_rfl
@[simp] theorem call90:aU 90:=λ_ _=>by kernel_rfl
@[simp] theorem func91:prog.funcs[91]?=some Tryz.f91:=by kernel_rfl
@[simp] theorem call91:aU 91:=λ_ _=>by kernel_rfl
@[simp] theorem func92:prog.funcs[92]?=some Tryz.f92:=by kernel_rfl
@[simp] theorem call92:aU 92:=λ_ _=>by kernel_rfl
@[simp] theorem func93:prog.funcs[93]?=some Tryz.f93:=by kernel_rfl
@[simp] theorem call93:aU 93:=λ_ _=>by kernel_rfl
@[simp] theorem func94:prog.funcs[94]?=some Tryz.f94:=by kernel_rfl
@[simp] theorem call94:aU 94:=λ_ _=>by kernel_rfl
@[simp] theorem func95:prog.funcs[95]?=some Tryz.f95:=by kernel_rfl
@[simp] theorem call95:aU 95:=λ_ _=>by kernel_rfl
@[simp] theorem func96:prog.funcs[96]?=some Tryz.f96:=by kernel_rfl
@[simp] theorem call96:aU 96:=λ_ _=>by kernel_rfl
@[simp] theorem func97:prog.funcs[97]?=some Tryz.f97:=by kernel_rfl
@[simp] theorem call97:aU 97:=λ_ _=>by kernel_rfl
@[simp] theorem func99:prog.funcs[99]?=some Tryz.f99:=by kernel_rfl
@[simp] theorem call99:aU 99:=λ_ _=>by kernel_rfl
@[simp] theorem func101:prog.funcs[101]?=some Tryz.f101:=by kernel_rfl
@[simp] theorem func102:prog.funcs[102]?=some Tryz.f102:=by kernel_rfl
@[simp] theorem call102:aU 102:=λ_ _=>by kernel_rfl
@[simp] theorem func103:prog.funcs[103]?=some Tryz.f103:=by kernel_rfl
@[simp] theorem call103:aU 103:=λ_ _=>by kernel_rfl
@[simp] theorem func104:prog.funcs[104]?=some Tryz.f104:=by kernel_rfl
@[simp] theorem call104:aU 104:=λ_ _=>by kernel_rfl
@[simp] theorem func105:prog.funcs[105]?=some Tryz.f105:=by kernel_rfl
@[simp] theorem call105:aU 105:=λ_ _=>by kernel_rfl
theorem funcU106.{u}:prog.{u}.funcs[106]?=some f106.{u}:=by kernel_rfl
@[simp] theorem func106:prog.{0}.funcs[106]?=some iD:=by rw[funcU106,T2]
@[simp] theorem call106:aU 106:=λ_ _=>by kernel_rfl
@[simp] theorem func107:prog.funcs[107]?=some Tryz.f107:=by kernel_rfl
@[simp] theorem call107:aU 107:=λ_ _=>by kernel_rfl
@[simp] theorem func108:prog.funcs[108]?=some Tryz.f108:=by kernel_rfl
@[simp] theorem call108:aU 108:=λ_ _=>by kernel_rfl
@[simp] theorem func109:prog.funcs[109]?=some Tryz.f109:=by kernel_rfl
@[simp] theorem call109:aU 109:=λ_ _=>by kernel_rfl
@[simp] theorem func126:prog.funcs[126]?=some Tryz.f126:=by kernel_rfl
@[simp] theorem call126:aU 126:=λ_ _=>by kernel_rfl
@[simp] theorem func127:prog.funcs[127]?=some Tryz.f127:=by kernel_rfl
@[simp] theorem call127:aU 127:=λ_ _=>by kernel_rfl
@[simp] theorem func128:prog.funcs[128]?=some Tryz.f128:=by kernel_rfl
@[simp] theorem call128:aU 128:=λ_ _=>by kernel_rfl
@[simp] theorem func129:prog.funcs[129]?=some Tryz.f129:=by kernel_rfl
@[simp] theorem call129:aU 129:=λ_ _=>by kernel_rfl
@[simp] theorem func130:prog.funcs[130]?=some Tryz.f130:=by kernel_rfl
@[simp] theorem call130:aU 130:=λ_ _=>by kernel_rfl
@[simp] theorem func131:prog.funcs[131]?=some Tryz.f131:=by kernel_rfl
@[simp] theorem call131:aU 131:=λ_ _=>by kernel_rfl
@[simp] theorem func132:prog.funcs[132]?=some Tryz.f132:=by kernel_rfl
@[simp] theorem call132:aU 132:=λ_ _=>by kernel_rfl
@[simp] theorem func133:prog.funcs[133]?=some Tryz.f133:=by kernel_rfl
@[simp] theorem call133:aU 133:=λ_ _=>by kernel_rfl
@[simp] theorem func134:prog.funcs[134]?=some Tryz.f134:=by kernel_rfl
@[simp] theorem call134:aU 134:=λ_ _=>by kernel_rfl
@[simp] theorem func135:prog.funcs[135]?=some Tryz.f135:=by kernel_rfl
@[simp] theorem call135:aU 135:=λ_ _=>by kernel_rfl
@[simp] theorem func136:prog.funcs[136]?=some Tryz.f136:=by kernel_rfl
@[simp] theorem call136:aU 136:=λ_ _=>by kernel_rfl
@[simp] theorem func137:prog.funcs[137]?=some Tryz.f137:=by kernel_rfl
@[simp] theorem call137:aU 137:=λ_ _=>by kernel_rfl
@[simp] theorem func138:prog.funcs[138]?=some Tryz.f138:=by kernel_rfl
@[simp] theorem call138:aU 138:=λ_ _=>by kernel_rfl
@[simp] theorem func139:prog.funcs[139]?=some Tryz.f139:=by kernel_rfl
@[simp] theorem func140:prog.funcs[140]?=some Tryz.f140:=by kernel_rfl
@[simp] theorem func141:prog.funcs[141]?=some Tryz.f141:=by kernel_rfl
@[simp] theorem func143:prog.funcs[143]?=some Tryz.f143:=by kernel_rfl
@[simp] theorem call143:aU 143:=λ_ _=>by kernel_rfl
theorem funcU144.{u}:prog.{u}.funcs[144]?=some f144.{u}:=by kernel_rfl
@[simp] theorem func144:prog.{0}.funcs[144]?=some mH:=by rw[funcU144,T3]
@[simp] theorem call144:aU 144:=λ_ _=>by kernel_rfl
theorem funcU145.{u}:prog.{u}.funcs[145]?=some f145.{u}:=by kernel_rfl
@[simp] theorem func145:prog.{0}.funcs[145]?=some mI:=by rw[funcU145,T4]
@[simp] theorem call145:aU 145:=λ_ _=>by kernel_rfl
@[simp] theorem func146:prog.funcs[146]?=some Tryz.f146:=by kernel_rfl
@[simp] theorem call146:aU 146:=λ_ _=>by kernel_rfl
@[simp] theorem func147:prog.funcs[147]?=some Tryz.f147:=by kernel_rfl
@[simp] theorem call147:aU 147:=λ_ _=>by kernel_rfl
@[simp] theorem func148:prog.funcs[148]?=some Tryz.f148:=by kernel_rfl
@[simp] theorem call148:aU 148:=λ_ _=>by kernel_rfl
@[simp] theorem func149:prog.funcs[149]?=some Tryz.f149:=by kernel_rfl
@[simp] theorem call149:aU 149:=λ_ _=>by kernel_rfl
@[simp] theorem func150:prog.funcs[150]?=some Tryz.f150:=by kernel_rfl
@[simp] theorem call150:aU 150:=λ_ _=>by kernel_rfl
@[simp] theorem func151:prog.funcs[151]?=some Tryz.f151:=by kernel_rfl
@[simp] theorem call151:aU 151:=λ_ _=>by kernel_rfl
@[simp] theorem func152:prog.funcs[152]?=some Tryz.f152:=by kernel_rfl
@[simp] theorem call152:aU 152:=λ_ _=>by kernel_rfl
@[simp] theorem func154:prog.funcs[154]?=some (f154):=by kernel_rfl
@[simp] theorem call154:aU 154:=λ_ _=>by kernel_rfl
@[simp] theorem func156:prog.funcs[156]?=some Tryz.f156:=by kernel_rfl
@[simp] theorem call156:aU 156:=λ_ _=>by kernel_rfl
@[simp] theorem func157:prog.funcs[157]?=some Tryz.f157:=by kernel_rfl
@[simp] theorem call157:aU 157:=λ_ _=>by kernel_rfl
@[simp] theorem func158:prog.funcs[158]?=some Tryz.f158:=by kernel_rfl
@[simp] theorem call158:aU 158:=λ_ _=>by kernel_rfl
@[simp] theorem func159:prog.funcs[159]?=some Tryz.f159:=by kernel_rfl
@[simp] theorem call159:aU 159:=λ_ _=>by kernel_rfl
@[simp] theorem func168:prog.funcs[168]?=some Tryz.f168:=by kernel_rfl
@[simp] theorem call168:aU 168:=λ_ _=>by kernel_rfl
@[simp] theorem func169:prog.funcs[169]?=some Tryz.f169:=by kernel_rfl
@[simp] theorem call169:aU 169:=λ_ _=>by kernel_rfl
@[simp] theorem func170:prog.funcs[170]?=some Tryz.f170:=by kernel_rfl
@[simp] theorem call170:aU 170:=λ_ _=>by kernel_rfl
@[simp] theorem func171:prog.funcs[171]?=some Tryz.f171:=by kernel_rfl
@[simp] theorem call171:aU 171:=λ_ _=>by kernel_rfl
@[simp] theorem func172:prog.funcs[172]?=some Tryz.f172:=by kernel_rfl
@[simp] theorem call172:aU 172:=λ_ _=>by kernel_rfl
@[simp] theorem func173:prog.funcs[173]?=some Tryz.f173:=by kernel_rfl
@[simp] theorem call173:aU 173:=λ_ _=>by kernel_rfl
@[simp] theorem func174:prog.funcs[174]?=some Tryz.f174:=by kernel_rfl
@[simp] theorem call174:aU 174:=λ_ _=>by kernel_rfl
@[simp] theorem func175:prog.funcs[175]?=some Tryz.f175:=by kernel_rfl
@[simp] theorem call175:aU 175:=λ_ _=>by kernel_rfl
@[simp] theorem func176:prog.funcs[176]?=some Tryz.f176:=by kernel_rfl
@[simp] theorem call176:aU 176:=λ_ _=>by kernel_rfl
@[simp] theorem func177:prog.funcs[177]?=some Tryz.f177:=by kernel_rfl
@[simp] theorem call177:aU 177:=λ_ _=>by kernel_rfl
@[simp] theorem func178:prog.funcs[178]?=some Tryz.f178:=by kernel_rfl
@[simp] theorem call178:aU 178:=λ_ _=>by kernel_rfl
@[simp] theorem func179:prog.funcs[179]?=some Tryz.f179:=by kernel_rfl
@[simp] theorem call179:aU 179:=λ_ _=>by kernel_rfl
@[simp] theorem func180:prog.funcs[180]?=some Tryz.f180:=by kernel_rfl
@[simp] theorem func181:prog.funcs[181]?=some Tryz.f181:=by kernel_rfl
@[simp] theorem func182:prog.funcs[182]?=some Tryz.f182:=by kernel_rfl
@[simp] theorem func183:prog.funcs[183]?=some Tryz.f183:=by kernel_rfl
@[simp] theorem call183:aU 183:=λ_ _=>by kernel_rfl
@[simp] theorem func185:prog.funcs[185]?=some Tryz.f185:=by kernel_rfl
@[simp] theorem func190:prog.funcs[190]?=some Tryz.f190:=by kernel_rfl
@[simp] theorem func192:prog.funcs[192]?=some Tryz.f192:=by kernel_rfl
@[simp] theorem call192:aU 192:=λ_ _=>by kernel_rfl
@[simp] theorem func193:prog.funcs[193]?=some Tryz.f193:=by kernel_rfl
@[simp] theorem call193:aU 193:=λ_ _=>by kernel_rfl
@[simp] theorem func194:prog.funcs[194]?=some Tryz.f194:=by kernel_rfl
@[simp] theorem func211:prog.funcs[211]?=some Tryz.f211:=by kernel_rfl
@[simp] theorem call211:aU 211:=λ_ _=>by kernel_rfl
@[simp] theorem func214:prog.funcs[214]?=some Tryz.f214:=by kernel_rfl
@[simp] theorem call214:aU 214:=λ_ _=>by kernel_rfl
@[simp] theorem func215:prog.funcs[215]?=some Tryz.f215:=by kernel_rfl
@[simp] theorem call215:aU 215:=λ_ _=>by kernel_rfl
@[simp] theorem func216:prog.funcs[216]?=some Tryz.f216:=by kernel_rfl
@[simp] theorem call216:aU 216:=λ_ _=>by kernel_rfl
@[simp] theorem func217:prog.funcs[217]?=some Tryz.f217:=by kernel_rfl
@[simp] theorem call217:aU 217:=λ_ _=>by kernel_rfl
@[simp] theorem func218:prog.funcs[218]?=some Tryz.f218:=by kernel_rfl
@[simp] theorem call218:aU 218:=λ_ _=>by kernel_rfl
@[simp] theorem func219:prog.funcs[219]?=some Tryz.f219:=by kernel_rfl
@[simp] theorem call219:aU 219:=λ_ _=>by kernel_rfl
@[simp] theorem func220:prog.funcs[220]?=some Tryz.f220:=by kernel_rfl
@[simp] theorem call220:aU 220:=λ_ _=>by kernel_rfl
@[simp] theorem func221:prog.funcs[221]?=some Tryz.f221:=by kernel_rfl
@[simp] theorem call221:aU 221:=λ_ _=>by kernel_rfl
@[simp] theorem func222:prog.funcs[222]?=some Tryz.f222:=by kernel_rfl
@[simp] theorem call222:aU 222:=λ_ _=>by kernel_rfl
@[simp] theorem func223:prog.funcs[223]?=some Tryz.f223:=by kernel_rfl
@[simp] theorem call223:aU 223:=λ_ _=>by kernel_rfl
@[simp] theorem func224:prog.funcs[224]?=some Tryz.f224:=by kernel_rfl
@[simp] theorem call224:aU 224:=λ_ _=>by kernel_rfl
@[simp] theorem func225:prog.funcs[225]?=some Tryz.f225:=by kernel_rfl
@[simp] theorem call225:aU 225:=λ_ _=>by kernel_rfl
@[simp] theorem func239:prog.funcs[239]?=some Tryz.f239:=by kernel_rfl
@[simp] theorem call239:aU 239:=λ_ _=>by kernel_rfl
@[simp] theorem func240:prog.funcs[240]?=some Tryz.f240:=by kernel_rfl
@[simp] theorem call240:aU 240:=λ_ _=>by kernel_rfl
@[simp] theorem func241:prog.funcs[241]?=some Tryz.f241:=by kernel_rfl
@[simp] theorem call241:aU 241:=λ_ _=>by kernel_rfl
@[simp] theorem func242:prog.funcs[242]?=some Tryz.f242:=by kernel_rfl
@[simp] theorem call242:aU 242:=λ_ _=>by kernel_rfl
@[simp] theorem func243:prog.funcs[243]?=some Tryz.f243:=by kernel_rfl
@[simp] theorem call243:aU 243:=λ_ _=>by kernel_rfl
@[simp] theorem func245:prog.funcs[245]?=some Tryz.f245:=by kernel_rfl
@[simp] theorem call245:aU 245:=λ_ _=>by kernel_rfl
@[simp] theorem func260:prog.funcs[260]?=some Tryz.f260:=by kernel_rfl
@[simp] theorem func270:prog.funcs[270]?=some Tryz.f270:=by kernel_rfl
@[simp] theorem func272:prog.funcs[272]?=some Tryz.f272:=by kernel_rfl
@[simp] theorem func273:prog.funcs[273]?=some Tryz.f273:=by kernel_rfl
@[simp] theorem ntmps106:Func.ntmps iD=51:=Tryz.ntmps106
@[simp] theorem ntmps144:Func.ntmps mH=13:=Tryz.ntmps144
@[simp] theorem ntmps145:Func.ntmps mI=21:=Tryz.ntmps145
def ntmps171:Func.ntmps Tryz.f171=6:=Tryz.ntmps171
def ntmps172:Func.ntmps Tryz.f172=6:=Tryz.ntmps172
def isAgg3:∀(w:aa),Sem.run prog (isAgg 3) w=Result.ok false w:=λw=>(fX 3 w).trans (Tryz.isAgg3 w)
def isAgg9:∀(w:aa),Sem.run prog (isAgg 9) w=Result.ok false w:=λw=>(fX 9 w).trans (Tryz.isAgg9 w)
def isAgg30:∀(w:aa),Sem.run prog (isAgg 30) w=Result.ok false w:=λw=>(fX 30 w).trans (Tryz.isAgg30 w)
def isAgg32:∀(w:aa),Sem.run prog (isAgg 32) w=Result.ok true w:=λw=>(fX 32 w).trans (Tryz.isAgg32 w)
def sizeOf3:∀(w:aa),Sem.run prog (Go.sizeOf 3) w=Result.ok 1 w:=λw=>(fM 3 w).trans (Tryz.sizeOf3 w)
def sizeOf9:∀(w:aa),Sem.run prog (Go.sizeOf 9) w=Result.ok 1 w:=λw=>(fM 9 w).trans (Tryz.sizeOf9 w)
def sizeOf30:∀(w:aa),Sem.run prog (Go.sizeOf 30) w=Result.ok 1 w:=λw=>(fM 30 w).trans (Tryz.sizeOf30 w)
def sizeOf32:∀(w:aa),Sem.run prog (Go.sizeOf 32) w=Result.ok 2 w:=λw=>(fM 32 w).trans (Tryz.sizeOf32 w)
def sizeOf137:∀(w:aa),Sem.run prog (Go.sizeOf 137) w=Result.ok 7 w:=λw=>(fM 137 w).trans (Tryz.sizeOf137 w)
def underlying3:Program.underlying prog 3=some (TypeDesc.int IntKind.i64):=(dI 3).trans Tryz.underlying3
def underlying5:Program.underlying prog 5=some (TypeDesc.int IntKind.u8):=(dI 5).trans Tryz.underlying5
def underlying9:Program.underlying prog 9=some TypeDesc.string:=(dI 9).trans Tryz.underlying9
def underlying22:Program.underlying prog 22=some (TypeDesc.slice 3):=(dI 22).trans Tryz.underlying22
def underlying23:Program.underlying prog 23=some (TypeDesc.slice 32):=(dI 23).trans Tryz.underlying23
def underlying30:Program.underlying prog 30=some (TypeDesc.int IntKind.u32):=(dI 30).trans Tryz.underlying30
def underlying32:Program.underlying prog 32=some (TypeDesc.struct #[{name:= "Addr",type:=30,offset:=0,embedded:=false,tag:= "",pkgPath:= "",byteOffset:=0},{name:= "Len",type:=3,offset:=1,embedded:=false,tag:= "",pkgPath:= "",byteOffset:=8}]):=(dI 32).trans Tryz.underlying32
def underlying43:Program.underlying prog 43=some (TypeDesc.slice 42):=(dI 43).trans Tryz.underlying43
def underlying46:Program.underlying prog 46=some (TypeDesc.slice 64):=(dI 46).trans Tryz.underlying46
def underlying52:Program.underlying prog 52=some (TypeDesc.struct #[{name:= "Prefix",type:=32,offset:=0,embedded:=false,tag:= "",pkgPath:= "",byteOffset:=0},{name:= "Tag",type:=3,offset:=2,embedded:=false,tag:= "",pkgPath:= "",byteOffset:=16},{name:= "Metric",type:=3,offset:=3,embedded:=false,tag:= "",pkgPath:= "",byteOffset:=24},{name:= "From",type:=3,offset:=4,embedded:=false,tag:= "",pkgPath:= "",byteOffset:=32}]):=(dI 52).trans Tryz.underlying52
def underlying54:Program.underlying prog 54=some (TypeDesc.pointer 122):=(dI 54).trans Tryz.underlying54
def underlying57:Program.underlying prog 57=some (TypeDesc.slice 52):=(dI 57).trans Tryz.underlying57
def underlying64:Program.underlying prog 64=some (TypeDesc.struct #[{name:= "To",type:=3,offset:=0,embedded:=false,tag:= "",pkgPath:= "",byteOffset:=0},{name:= "Data",type:=9,offset:=1,embedded:=false,tag:= "",pkgPath:= "",byteOffset:=8}]):=(dI 64).trans Tryz.underlying64
def underlying112:Program.underlying prog 112=some TypeDesc.unsafePointer:=(dI 112).trans Tryz.underlying112
def underlying118:Program.underlying prog 118=some (TypeDesc.slice 137):=(dI 118).trans Tryz.underlying118
def underlying186:Program.underlying prog 186=some (TypeDesc.slice 9):=(dI 186).trans Tryz.underlying186
def underlying226:Program.underlying prog 226=some (TypeDesc.slice 5):=(dI 226).trans Tryz.underlying226
def underlying302:Program.underlying prog 302=some (TypeDesc.pointer 107):=(dI 302).trans Tryz.underlying302
def zeroValue137:∀(w:aa),Sem.run prog (zeroValue 137) w=Result.ok (Value.agg #[Value.int IntKind.u32 0,Value.int IntKind.i64 0,Value.int IntKind.i64 0,Value.int IntKind.i64 0,Value.int IntKind.i64 0,Value.int IntKind.i64 0,Value.bool false]) w:=λw=>(gU 137 w).trans (Tryz.zeroValue137 w)
end Go.Proofs.Gh
end
