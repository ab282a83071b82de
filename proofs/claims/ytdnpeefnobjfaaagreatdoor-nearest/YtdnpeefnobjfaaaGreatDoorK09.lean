import Derived.Control
import Derived.KernelRfl
import Derived.Test.YtdnpeefnobjfaaaGreatDoorProg
import Derived.WalkKit
import Derived.Test.YtdnpeefnobjfaaaGreatDoorK02
set_option maxRecDepth 100000
set_option maxHeartbeats 4000000
set_option linter.all false
section
namespace Go.Mir
variable(T:Tables)(F F':Array Func)(t:bD)(w:aa)
def lS(fn:Func):Func:={fn with name:= "-",origin:= "-" }
def Lv:Sem.run ⟨T,F⟩ (typeInfo t) w=Sem.run ⟨T,F'⟩ (typeInfo t) w:=by have h:∀F,Sem.run ⟨T,F⟩ (typeInfo t) w=Sem.run ⟨T,F⟩ (match T.info? t with|some i=>pure i|none=>stuck "no such type") w:=λ_=>rfl;rw[h,h];cases T.info? t<;>rfl
def Lw:Sem.run ⟨T,F⟩ (Go.underlying t) w=Sem.run ⟨T,F'⟩ (Go.underlying t) w:=by have h:∀F,Sem.run ⟨T,F⟩ (Go.underlying t) w=Sem.run ⟨T,F⟩ (match Program.underlying ⟨T,F⟩ t with|some i=>pure i|none=>stuck "no such type") w:=λ_=>rfl;rw[h,h,py (F:=F) (F':=F')];cases Program.underlying ⟨T,F⟩ t<;>rfl
end Go.Mir
namespace Go.Mir
def Ow{α β}{r:Result α}{k k':α->aa->Result β}(c:∀a b,k a b=k' a b):r.andThen k=r.andThen k':=by have:k=k':=funext λa=>funext λb=>c a b;rw[this]
def Dv{P Q α β s}{k:α->Sem β}{w}(h:Sem.run P s w=Sem.run Q s w)(c:∀a b,Sem.run P (k a) b=Sem.run Q (k a) b):Sem.run P (s.bind k) w=Sem.run Q (s.bind k) w:=
 (Sem.run_bind' P s k w).trans ((congrArg (λr=>Result.andThen r λa b=>Sem.run P (k a) b) h).trans ((Ow c).trans (Sem.run_bind' Q s k w).symm))
variable(T:Tables)(F F':Array Func)(t:bD)(w:aa)
theorem a4F:Program.depth ⟨T,F⟩=Program.depth ⟨T,F'⟩:=rfl
def a4H:Sem.run ⟨T,F⟩ (Go.sizeOf t) w=Sem.run ⟨T,F'⟩ (Go.sizeOf t) w:=Dv (s:=typeInfo t) (k:=λi=>pure i.size) (Lv T F F' t w) λ_ _=>rfl
def a4I:Sem.run ⟨T,F⟩ (zeroValue t) w=Sem.run ⟨T,F'⟩ (zeroValue t) w:=by refine Dv (s:=typeInfo t) (Lv T F F' t w) λi a=>?_;cases i.zero<;>rfl
def a4G:Sem.run ⟨T,F⟩ (isAgg t) w=Sem.run ⟨T,F'⟩ (isAgg t) w:=by refine Dv (s:=Go.underlying t) (Lw T F F' t w) λd a=>?_;cases d<;>rfl
end Go.Mir
end
section
namespace Go.Proofs.Gh
noncomputable def on.{u}:Bool:= @decide (∀(α:Sort u) (a b:α),a=b) (Classical.propDecidable _)
def CJ:on.{0}=true:= @decide_eq_true _ (Classical.propDecidable _) λ_ _ _=>rfl
def CK:on.{1}=false:= @decide_eq_false _ (Classical.propDecidable _) λh=>absurd (h Bool true false) a9j
noncomputable def iY:Func:={Tryz.f106 with body:=some ((Code.region 8 #[⟨some 17,.binOp .lss 3 (.tmp 0) (.const (.int .i64 (9))) 3,4,"",#[],none⟩] false).seq ((Code.cond (.tmp 17) .skip (.refuse "-")).seq ((Code.region 9 #[⟨some 18,.binOp .lss 3 (.const (.int .i64 (-1))) (.tmp 0) 3,4,"",#[],none⟩] false).seq ((Code.cond (.tmp 18) .skip (.refuse "-")).seq ((Code.region 10 #[⟨some 20,.field 120 (.tmp 1) 0,118,"",#[],none⟩,⟨some 19,.build 120 #[(0,(.tmp 1))],120,"",#[],none⟩] false).seq ((Code.region 11 #[⟨some 21,.call {callee:=.builtin .len,args:=#[.tmp 20],argTypes:=#[118]},3,"",#[],none⟩] false).seq ((Code.region 12 #[⟨some 22,.binOp .lss 3 (.tmp 21) (.const (.int .i64 (101))) 3,4,"",#[],none⟩] false).seq ((Code.cond (.tmp 22) .skip (.refuse "-")).seq ((Code.region 13 #[⟨some 23,.makeSlice 80 (.const (.int .i64 (1))) (.const (.int .i64 (1))),80,"",#[],none⟩] false).seq ((Code.region 14 #[⟨some 24,.call {callee:=.value (.func 194),args:=#[.tmp 23,.tmp 20],argTypes:=#[118,118]},4,"",#[],none⟩] false).seq ((Code.region 15 #[⟨some 25,.move (.const (.int .i64 0)),3,"",#[],none⟩] false).seq ((Code.block 1 (Code.loop ((Code.region 16 #[⟨some 26,.binOp .lss 3 (.tmp 25) (.tmp 21) 3,4,"",#[],none⟩] false).seq ((Code.cond (.tmp 26) .skip (.exit 1)).seq ((Code.region 31 #[⟨some 50,.binOp .eql 118 (.tmp 20) (.const (.slice none 0 0)) 118,4,"",#[],none⟩] false).seq ((Code.cond (.tmp 50) (.refuse "-") .skip).seq ((Code.region 17 #[⟨some 27,.indexAddr 118 (.tmp 20) (.tmp 25),0,"",#[],none⟩,⟨some 28,.load 137 (.tmp 27),137,"",#[{on:=0,ground:=.data}],none⟩] false).seq ((Code.region 18 #[⟨some 29,.field 137 (.tmp 28) 0,52,"",#[],none⟩,⟨some 30,.field 52 (.tmp 29) 0,32,"",#[{on:=0,ground:=.data}],none⟩,⟨some 31,.field 32 (.tmp 30) 0,30,"",#[{on:=1,ground:=.data}],none⟩,⟨some 32,.field 32 (.tmp 30) 1,3,"",#[{on:=1,ground:=.data}],none⟩,⟨some 33,.field 52 (.tmp 29) 1,3,"",#[{on:=0,ground:=.data}],none⟩,⟨some 34,.field 52 (.tmp 29) 2,3,"",#[{on:=0,ground:=.data}],none⟩,⟨some 35,.field 52 (.tmp 29) 3,3,"",#[{on:=0,ground:=.data}],none⟩,⟨some 36,.field 137 (.tmp 28) 1,3,"",#[],none⟩,⟨some 37,.field 137 (.tmp 28) 2,4,"",#[],none⟩] false).seq ((Code.region 19 #[⟨some 38,.binOp .lss 30 (.const (.int .u32 (-1))) (.tmp 31) 30,4,"",#[],none⟩] false).seq ((Code.cond (.tmp 38) .skip (.refuse "-")).seq ((Code.region 20 #[⟨some 39,.binOp .lss 30 (.tmp 31) (.const (.int .u32 (4294967296))) 30,4,"",#[],none⟩] false).seq ((Code.cond (.tmp 39) .skip (.refuse "-")).seq ((Code.region 21 #[⟨some 40,.binOp .lss 3 (.tmp 32) (.const (.int .i64 (0))) 3,4,"",#[],none⟩] false).seq ((Code.region 22 #[⟨some 41,.binOp .lss 3 (.const (.int .i64 (-1))) (.tmp 33) 3,4,"",#[],none⟩] false).seq ((Code.cond (.tmp 41) .skip (.refuse "-")).seq ((Code.region 23 #[⟨some 42,.binOp .lss 3 (.tmp 33) (.const (.int .i64 (65536))) 3,4,"",#[],none⟩] false).seq ((Code.cond (.tmp 42) .skip (.refuse "-")).seq ((Code.region 24 #[⟨some 43,.binOp .lss 3 (.const (.int .i64 (0))) (.tmp 34) 3,4,"",#[],none⟩] false).seq ((Code.cond (.tmp 43) .skip (.refuse "-")).seq ((Code.region 25 #[⟨some 44,.binOp .lss 3 (.tmp 34) (.const (.int .i64 (17))) 3,4,"",#[],none⟩] false).seq ((Code.cond (.tmp 44) .skip (.refuse "-")).seq ((Code.region 26 #[⟨some 45,.binOp .lss 3 (.tmp 35) (.const (.int .i64 (0))) 3,4,"",#[],none⟩] false).seq ((Code.region 27 #[⟨some 46,.binOp .lss 3 (.tmp 36) (.const (.int .i64 (0))) 3,4,"",#[],none⟩] false).seq ((Code.region 28 #[⟨some 49,.unOp .not 4 (.tmp 37),4,"",#[],none⟩] false).seq ((Code.region 29 #[⟨some 47,.call {callee:=.value (.func 77),args:=#[.tmp 30],argTypes:=#[32]},4,"",#[],none⟩] false).seq ((Code.cond (.tmp 47) .skip (.refuse "-")).seq (Code.region 30 #[⟨some 48,.binOp .add 3 (.tmp 25) (.const (.int .i64 1)) 3,3,"",#[],none⟩,⟨some 25,.move (.tmp 48),3,"",#[{on:=0,ground:=.data}],none⟩] false))))))))))))))))))))))))))).seq ((Code.region 0 #[⟨some 4,.assign (.const (.slice none 0 0)),46,"",#[],none⟩] false).seq ((Code.region 1 #[⟨some 8,.move (.tmp 0),3,"",#[],none⟩,⟨some 9,.makeSlice 80 (.tmp 8) (.tmp 8),80,"",#[{on:=0,ground:=.data}],none⟩,⟨some 5,.assign (.tmp 9),80,"",#[{on:=1,ground:=.data}],none⟩] false).seq ((Code.region 2 #[⟨some 10,.move (.tmp 0),3,"",#[],none⟩,⟨some 11,.move (.const (.int .i64 0)),3,"",#[],none⟩] false).seq ((Code.block 0 (Code.loop ((Code.region 3 #[⟨some 12,.binOp .lss 3 (.tmp 11) (.tmp 10) 3,4,"",#[],none⟩] false).seq ((Code.cond (.tmp 12) .skip (.exit 0)).seq ((Code.region 4 #[⟨some 13,.call {callee:=.value (.func 43),args:=#[.tmp 11,.tmp 1],argTypes:=#[3,120]},46,"",#[],none⟩,⟨some 6,.assign (.tmp 13),46,"",#[{on:=0,ground:=.data}],none⟩] false).seq ((Code.region 5 #[⟨some 14,.indexAddr 80 (.tmp 5) (.tmp 11),0,"",#[],none⟩,⟨none,.store 46 (.tmp 14) (.tmp 6),0,"",#[{on:=0,ground:=.data}],none⟩] false).seq (Code.region 6 #[⟨some 15,.binOp .add 3 (.tmp 11) (.const (.int .i64 1)) 3,3,"",#[],none⟩,⟨some 11,.move (.tmp 15),3,"",#[{on:=0,ground:=.data}],none⟩] false))))))).seq ((Code.region 7 #[⟨some 16,.call {callee:=.value (.func 156),args:=#[.tmp 5],argTypes:=#[80]},46,"",#[],none⟩,⟨some 4,.assign (.tmp 16),46,"",#[{on:=0,ground:=.data}],none⟩] false).seq Code.ret)))))))))))))))))}
noncomputable def AG(b:Bool):Func:={Tryz.f106 with body:=some (cond b (iY.body.getD .skip) (.refuse "-"))}
noncomputable def f106.{u}:Func:=AG on.{u}
def WE:f106.{0}=iY:=by unfold f106;rw[CJ];rfl
noncomputable def nQ:Func:={Tryz.f144 with body:=some ((Code.region 0 #[⟨some 3,.binOp .eql 302 (.tmp 0) (.const (.pointer none)) 302,4,"",#[],none⟩] false).seq ((Code.cond (.tmp 3) (.refuse "-") .skip).seq ((Code.region 1 #[⟨some 4,.fieldAddr 107 (.tmp 0) 0,0,"",#[],none⟩,⟨some 5,.call {callee:=.value (.func 185),args:=#[(.tmp 4),(.const (.int .i32 0)),(.const (.int .i32 1))],argTypes:=#[304,21,21]},4,"",#[{on:=0,ground:=.data}],none⟩] false).seq ((Code.cond (.tmp 5) .skip (.refuse "-")).seq ((Code.region 2 #[⟨some 6,.convert 302 112 (.tmp 0),112,"",#[],none⟩] false).seq Code.ret)))))}
noncomputable def AH(b:Bool):Func:={Tryz.f144 with body:=some (cond b (nQ.body.getD .skip) (.refuse "-"))}
noncomputable def f144.{u}:Func:=AH on.{u}
def WG:f144.{0}=nQ:=by unfold f144;rw[CJ];rfl
noncomputable def nS:Func:={Tryz.f145 with body:=some ((Code.region 0 #[⟨some 3,.binOp .eql 302 (.tmp 0) (.const (.pointer none)) 302,4,"",#[],none⟩] false).seq ((Code.cond (.tmp 3) (.refuse "-") .skip).seq ((Code.region 1 #[⟨some 4,.fieldAddr 107 (.tmp 0) 0,0,"",#[],none⟩,⟨some 5,.load 21 (.tmp 4),21,"",#[{on:=0,ground:=.data}],none⟩] false).seq ((Code.region 2 #[⟨some 6,.convert 302 112 (.tmp 0),112,"",#[],none⟩] false).seq ((Code.region 3 #[⟨some 7,.fieldAddr 107 (.tmp 0) 0,0,"",#[],none⟩,⟨some 8,.call {callee:=.value (.func 190),args:=#[(.tmp 7),(.const (.int .i32 (-1)))],argTypes:=#[304,21]},21,"",#[{on:=0,ground:=.data}],none⟩] false).seq ((Code.region 4 #[⟨some 9,.binOp .eql 21 (.tmp 8) (.const (.int .i32 0)) 21,4,"",#[],none⟩] false).seq ((Code.cond (.tmp 9) .skip (.refuse "-")).seq Code.ret)))))))}
noncomputable def AI(b:Bool):Func:={Tryz.f145 with body:=some (cond b (nS.body.getD .skip) (.refuse "-"))}
noncomputable def f145.{u}:Func:=AI on.{u}
def WH:f145.{0}=nS:=by unfold f145;rw[CJ];rfl
noncomputable def f154:Func:={Tryz.f154 with body:=some (.refuse "-")}
noncomputable def mod.{u}(i:Nat)(f:Func):Func:=bif Nat.testBit 31082642989949766928876180982130683149442758873666829327113535165587683239064120590339 i then Mir.lS f else bif i==106 then f106.{u}else bif i==144 then f144.{u}else bif i==145 then f145.{u}else bif i==154 then f154 else f
noncomputable def yA.{u}:Nat->List Func->List Func
 |_,[]=> []
 |i,f::l=>mod.{u} i f::yA (i+1) l
noncomputable def funcs.{u}:Array Func:=⟨yA.{u} 0 Tryz.funcs.toList⟩
theorem Ik.{u}:∀(l:List Func) (i k:Nat),(yA.{u} i l)[k]?=l[k]?.map (mod.{u} (i+k))
 |[],_,_=>rfl
 |f::l,i,0=>rfl
 |f::l,i,k+1=>by rw[yA,b0H,b0H,Ik l (i+1) k,show i+1+k=i+(k+1)by omega]
def get.{u}(k:Nat):funcs.{u}[k]?=(Tryz.funcs[k]?).map (mod.{u} k):=by have:=Ik.{u} Tryz.funcs.toList 0 k;rw[dC]at this;simpa[funcs]using this
noncomputable def prog.{u}:aA:=⟨Tryz.progTables,funcs.{u}⟩
@[simp] theorem iG(t:bD):Program.underlying prog t=Program.underlying Tryz.prog t:=Mir.py (T:=Tryz.progTables) (F:=Tryz.funcs) (F':=funcs) t
@[simp] theorem a8e(d:Nat)(t:bD):Program.eqGuardType prog d t=Program.eqGuardType Tryz.prog d t:=Mir.Gu (T:=Tryz.progTables) (F:=Tryz.funcs) (F':=funcs) d t
@[simp] theorem a8g(t:bD):Program.stoodInHeld prog t=Program.stoodInHeld Tryz.prog t:=Mir.wb (T:=Tryz.progTables) (F:=Tryz.funcs) (F':=funcs) t
@[simp] theorem ss(t:bD)(w:aa):Sem.run prog (Go.sizeOf t) w=Sem.run Tryz.prog (Go.sizeOf t) w:=Mir.a4H Tryz.progTables funcs Tryz.funcs t w
@[simp] theorem a8f(t:bD)(w:aa):Sem.run prog (Go.underlying t) w=Sem.run Tryz.prog (Go.underlying t) w:=Mir.Lw Tryz.progTables funcs Tryz.funcs t w
@[simp] theorem yn(t:bD)(w:aa):Sem.run prog (isAgg t) w=Sem.run Tryz.prog (isAgg t) w:=Mir.a4G Tryz.progTables funcs Tryz.funcs t w
@[simp] theorem a8h(t:bD)(w:aa):Sem.run prog (zeroValue t) w=Sem.run Tryz.prog (zeroValue t) w:=Mir.a4I Tryz.progTables funcs Tryz.funcs t w
@[simp] theorem a8d:Program.depth prog=Program.depth Tryz.prog:=Mir.a4F Tryz.progTables funcs Tryz.funcs
abbrev aS.{u}(k:Nat):Prop:=∀(a:Array aj) (w:aa),Sem.run prog.{u} (callFunc k a) w=.ok (.enter k a) w
@[simp] theorem func7:prog.funcs[7]?=some Tryz.f7:=by kernel_rfl
@[simp] theorem call7:aS 7:=λ_ _=>by kernel_rfl
@[simp] theorem func10:prog.funcs[10]?=some Tryz.f10:=by kernel_rfl
@[simp] theorem call10:aS 10:=λ_ _=>by kernel_rfl
@[simp] theorem func11:prog.funcs[11]?=some Tryz.f11:=by kernel_rfl
@[simp] theorem call11:aS 11:=λ_ _=>by kernel_rfl
@[simp] theorem func12:prog.funcs[12]?=some Tryz.f12:=by kernel_rfl
@[simp] theorem call12:aS 12:=λ_ _=>by kernel_rfl
@[simp] theorem func14:prog.funcs[14]?=some Tryz.f14:=by kernel_rfl
@[simp] theorem call14:aS 14:=λ_ _=>by kernel_rfl
@[simp] theorem func15:prog.funcs[15]?=some Tryz.f15:=by kernel_rfl
@[simp] theorem call15:aS 15:=λ_ _=>by kernel_rfl
@[simp] theorem func17:prog.funcs[17]?=some Tryz.f17:=by kernel_rfl
@[simp] theorem call17:aS 17:=λ_ _=>by kernel_rfl
@[simp] theorem func18:prog.funcs[18]?=some Tryz.f18:=by kernel_rfl
@[simp] theorem call18:aS 18:=λ_ _=>by kernel_rfl
@[simp] theorem func19:prog.funcs[19]?=some Tryz.f19:=by kernel_rfl
@[simp] theorem call19:aS 19:=λ_ _=>by kernel_rfl
@[simp] theorem func21:prog.funcs[21]?=some Tryz.f21:=by kernel_rfl
@[simp] theorem call21:aS 21:=λ_ _=>by kernel_rfl
@[simp] theorem func23:prog.funcs[23]?=some Tryz.f23:=by kernel_rfl
@[simp] theorem call23:aS 23:=λ_ _=>by kernel_rfl
@[simp] theorem func24:prog.funcs[24]?=some Tryz.f24:=by kernel_rfl
@[simp] theorem call24:aS 24:=λ_ _=>by kernel_rfl
@[simp] theorem func25:prog.funcs[25]?=some Tryz.f25:=by kernel_rfl
@[simp] theorem call25:aS 25:=λ_ _=>by kernel_rfl
@[simp] theorem func26:prog.funcs[26]?=some Tryz.f26:=by kernel_rfl
@[simp] theorem call26:aS 26:=λ_ _=>by kernel_rfl
@[simp] theorem func27:prog.funcs[27]?=some Tryz.f27:=by kernel_rfl
@[simp] theorem call27:aS 27:=λ_ _=>by kernel_rfl
@[simp] theorem func34:prog.funcs[34]?=some Tryz.f34:=by kernel_rfl
@[simp] theorem call34:aS 34:=λ_ _=>by kernel_rfl
@[simp] theorem func35:prog.funcs[35]?=some Tryz.f35:=by kernel_rfl
@[simp] theorem call35:aS 35:=λ_ _=>by kernel_rfl
@[simp] theorem func36:prog.funcs[36]?=some Tryz.f36:=by kernel_rfl
@[simp] theorem call36:aS 36:=λ_ _=>by kernel_rfl
@[simp] theorem func37:prog.funcs[37]?=some Tryz.f37:=by kernel_rfl
@[simp] theorem call37:aS 37:=λ_ _=>by kernel_rfl
@[simp] theorem func38:prog.funcs[38]?=some Tryz.f38:=by kernel_rfl
@[simp] theorem call38:aS 38:=λ_ _=>by kernel_rfl
@[simp] theorem func40:prog.funcs[40]?=some Tryz.f40:=by kernel_rfl
@[simp] theorem call40:aS 40:=λ_ _=>by kernel_rfl
@[simp] theorem func41:prog.funcs[41]?=some Tryz.f41:=by kernel_rfl
@[simp] theorem call41:aS 41:=λ_ _=>by kernel_rfl
@[simp] theorem func43:prog.funcs[43]?=some Tryz.f43:=by kernel_rfl
@[simp] theorem call43:aS 43:=λ_ _=>by kernel_rfl
@[simp] theorem func44:prog.funcs[44]?=some Tryz.f44:=by kernel_rfl
@[simp] theorem call44:aS 44:=λ_ _=>by kernel_rfl
@[simp] theorem func45:prog.funcs[45]?=some Tryz.f45:=by kernel_rfl
@[simp] theorem call45:aS 45:=λ_ _=>by kernel_rfl
@[simp] theorem func46:prog.funcs[46]?=some Tryz.f46:=by kernel_rfl
@[simp] theorem call46:aS 46:=λ_ _=>by kernel_rfl
@[simp] theorem call47:aS 47:=λ_ _=>by kernel_rfl
@[simp] theorem func49:prog.funcs[49]?=some Tryz.f49:=by kernel_rfl
@[simp] theorem call49:aS 49:=λ_ _=>by kernel_rfl
@[simp] theorem func50:prog.funcs[50]?=some Tryz.f50:=by kernel_rfl
@[simp] theorem call50:aS 50:=λ_ _=>by kernel_rfl
@[simp] theorem func51:prog.funcs[51]?=some Tryz.f51:=by kernel_rfl
@[simp] theorem call51:aS 51:=λ_ _=>by kernel_rfl
@[simp] theorem func52:prog.funcs[52]?=some Tryz.f52:=by kernel_rfl
@[simp] theorem call52:aS 52:=λ_ _=>by kernel_rfl
@[simp] theorem func53:prog.funcs[53]?=some Tryz.f53:=by kernel_rfl
@[simp] theorem call53:aS 53:=λ_ _=>by kernel_rfl
@[simp] theorem func55:prog.funcs[55]?=some Tryz.f55:=by kernel_rfl
@[simp] theorem call55:aS 55:=λ_ _=>by kernel_rfl
@[simp] theorem func56:prog.funcs[56]?=some Tryz.f56:=by kernel_rfl
@[simp] theorem call56:aS 56:=λ_ _=>by kernel_rfl
@[simp] theorem func57:prog.funcs[57]?=some Tryz.f57:=by kernel_rfl
@[simp] theorem call57:aS 57:=λ_ _=>by kernel_rfl
@[simp] theorem func58:prog.funcs[58]?=some Tryz.f58:=by kernel_rfl
@[simp] theorem call58:aS 58:=λ_ _=>by kernel_rfl
@[simp] theorem func59:prog.funcs[59]?=some Tryz.f59:=by kernel_rfl
@[simp] theorem call59:aS 59:=λ_ _=>by kernel_rfl
@[simp] theorem func60:prog.funcs[60]?=some Tryz.f60:=by kernel_rfl
@[simp] theorem call60:aS 60:=λ_ _=>by kernel_rfl
@[simp] theorem func75:prog.funcs[75]?=some Tryz.f75:=by kernel_rfl
@[simp] theorem call75:aS 75:=λ_ _=>by kernel_rfl
@[simp] theorem func76:prog.funcs[76]?=some Tryz.f76:=by kernel_rfl
@[simp] theorem call76:aS 76:=λ_ _=>by kernel_rfl
@[simp] theorem func77:prog.funcs[77]?=some Tryz.f77:=by kernel_rfl
@[simp] theorem call77:aS 77:=λ_ _=>by kernel_rfl
@[simp] theorem func78:prog.funcs[78]?=some Tryz.f78:=by kernel_rfl
@[simp] theorem call78:aS 78:=λ_ _=>by kernel_rfl
@[simp] theorem func79:prog.funcs[79]?=some Tryz.f79:=by kernel_rfl
@[simp] theorem func80:prog.funcs[80]?=some Tryz.f80:=by kernel_rfl
@[simp] theorem call80:aS 80:=λ_ _=>by kernel_rfl
@[simp] theorem func81:prog.funcs[81]?=some Tryz.f81:=by kernel_rfl
@[simp] theorem call81:aS 81:=λ_ _=>by kernel_rfl
@[simp] theorem func82:prog.funcs[82]?=some Tryz.f82:=by kernel_rfl
@[simp] theorem call82:aS 82:=λ_ _=>by kernel_rfl
@[simp] theorem func83:prog.funcs[83]?=some Tryz.f83:=by kernel_rfl
@[simp] theorem call83:aS 83:=λ_ _=>by kernel_rfl
@[simp] theorem func85:prog.funcs[85]?=some Tryz.f85:=by kernel_rfl
@[simp] theorem call85:aS 85:=λ_ _=>by kernel_rfl
@[simp] theorem func86:prog.funcs[86]?=some Tryz.f86:=by kernel_rfl
@[simp] theorem call86:aS 86:=λ_ _=>by kernel_rfl
@[simp] theorem func87:prog.funcs[87]?=some Tryz.f87:=by kernel_rfl
@[simp] theorem call87:aS 87:=λ_ _=>by kernel_rfl
@[simp] theorem func88:prog.funcs[88]?=some Tryz.f88:=by kernel_rfl
@[simp] theorem call88:aS 88:=λ_ _=>by kernel_rfl
@[simp] theorem func90:prog.funcs[90]?=some Tryz.f90:=by kernel_rfl
@[simp] theorem call90:aS 90:=λ_ _=>by kernel_rfl
@[simp] theorem func91:prog.funcs[91]?=some Tryz.f91:=by kernel_rfl
@[simp] theorem call91:aS 91:=λ_ _=>by kernel_rfl
@[simp] theorem func92:prog.funcs[92]?=some Tryz.f92:=by kernel_rfl
@[simp] theorem call92:aS 92:=λ_ _=>by kernel_rfl
@[simp] theorem func93:prog.funcs[93]?=some Tryz.f93:=by kernel_rfl
@[simp] theorem call93:aS 93:=λ_ _=>by kernel_rfl
@[simp] theorem func94:prog.funcs[94]?=some Tryz.f94:=by kernel_rfl
@[simp] theorem call94:aS 94:=λ_ _=>by kernel_rfl
@[simp] theorem func95:prog.funcs[95]?=some Tryz.f95:=by kernel_rfl
@[simp] theorem call95:aS 95:=λ_ _=>by kernel_rfl
@[simp] theorem func96:prog.funcs[96]?=some Tryz.f96:=by kernel_rfl
@[simp] theorem call96:aS 96:=λ_ _=>by kernel_rfl
@[simp] theorem func97:prog.funcs[97]?=some Tryz.f97:=by kernel_rfl
@[simp] theorem call97:aS 97:=λ_ _=>by kernel_rfl
@[simp] theorem func101:prog.funcs[101]?=some Tryz.f101:=by kernel_rfl
@[simp] theorem func102:prog.funcs[102]?=some Tryz.f102:=by kernel_rfl
@[simp] theorem call102:aS 102:=λ_ _=>by kernel_rfl
@[simp] theorem func103:prog.funcs[103]?=some Tryz.f103:=by kernel_rfl
@[simp] theorem call103:aS 103:=λ_ _=>by kernel_rfl
@[simp] theorem func104:prog.funcs[104]?=some Tryz.f104:=by kernel_rfl
@[simp] theorem call104:aS 104:=λ_ _=>by kernel_rfl
@[simp] theorem func105:prog.funcs[105]?=some Tryz.f105:=by kernel_rfl
@[simp] theorem call105:aS 105:=λ_ _=>by kernel_rfl
theorem funcU106.{u}:prog.{u}.funcs[106]?=some f106.{u}:=by kernel_rfl
@[simp] theorem func106:prog.{0}.funcs[106]?=some iY:=by rw[funcU106,WE]
@[simp] theorem call106:aS 106:=λ_ _=>by kernel_rfl
@[simp] theorem func107:prog.funcs[107]?=some Tryz.f107:=by kernel_rfl
@[simp] theorem call107:aS 107:=λ_ _=>by kernel_rfl
@[simp] theorem func109:prog.funcs[109]?=some Tryz.f109:=by kernel_rfl
@[simp] theorem call109:aS 109:=λ_ _=>by kernel_rfl
@[simp] theorem func126:prog.funcs[126]?=some Tryz.f126:=by kernel_rfl
@[simp] theorem call126:aS 126:=λ_ _=>by kernel_rfl
@[simp] theorem func127:prog.funcs[127]?=some Tryz.f127:=by kernel_rfl
@[simp] theorem call127:aS 127:=λ_ _=>by kernel_rfl
@[simp] theorem func128:prog.funcs[128]?=some Tryz.f128:=by kernel_rfl
@[simp] theorem call128:aS 128:=λ_ _=>by kernel_rfl
@[simp] theorem func129:prog.funcs[129]?=some Tryz.f129:=by kernel_rfl
@[simp] theorem call129:aS 129:=λ_ _=>by kernel_rfl
@[simp] theorem func130:prog.funcs[130]?=some Tryz.f130:=by kernel_rfl
@[simp] theorem call130:aS 130:=λ_ _=>by kernel_rfl
@[simp] theorem func131:prog.funcs[131]?=some Tryz.f131:=by kernel_rfl
@[simp] theorem call131:aS 131:=λ_ _=>by kernel_rfl
@[simp] theorem func132:prog.funcs[132]?=some Tryz.f132:=by kernel_rfl
@[simp] theorem call132:aS 132:=λ_ _=>by kernel_rfl
@[simp] theorem func133:prog.funcs[133]?=some Tryz.f133:=by kernel_rfl
@[simp] theorem call133:aS 133:=λ_ _=>by kernel_rfl
@[simp] theorem func134:prog.funcs[134]?=some Tryz.f134:=by kernel_rfl
@[simp] theorem call134:aS 134:=λ_ _=>by kernel_rfl
@[simp] theorem func135:prog.funcs[135]?=some Tryz.f135:=by kernel_rfl
@[simp] theorem call135:aS 135:=λ_ _=>by kernel_rfl
@[simp] theorem func137:prog.funcs[137]?=some Tryz.f137:=by kernel_rfl
@[simp] theorem call137:aS 137:=λ_ _=>by kernel_rfl
@[simp] theorem func138:prog.funcs[138]?=some Tryz.f138:=by kernel_rfl
@[simp] theorem call138:aS 138:=λ_ _=>by kernel_rfl
@[simp] theorem func143:prog.funcs[143]?=some Tryz.f143:=by kernel_rfl
@[simp] theorem call143:aS 143:=λ_ _=>by kernel_rfl
theorem funcU144.{u}:prog.{u}.funcs[144]?=some f144.{u}:=by kernel_rfl
@[simp] theorem func144:prog.{0}.funcs[144]?=some nQ:=by rw[funcU144,WG]
@[simp] theorem call144:aS 144:=λ_ _=>by kernel_rfl
theorem funcU145.{u}:prog.{u}.funcs[145]?=some f145.{u}:=by kernel_rfl
@[simp] theorem func145:prog.{0}.funcs[145]?=some nS:=by rw[funcU145,WH]
@[simp] theorem call145:aS 145:=λ_ _=>by kernel_rfl
@[simp] theorem func146:prog.funcs[146]?=some Tryz.f146:=by kernel_rfl
@[simp] theorem call146:aS 146:=λ_ _=>by kernel_rfl
@[simp] theorem func147:prog.funcs[147]?=some Tryz.f147:=by kernel_rfl
@[simp] theorem call147:aS 147:=λ_ _=>by kernel_rfl
@[simp] theorem func148:prog.funcs[148]?=some Tryz.f148:=by kernel_rfl
@[simp] theorem call148:aS 148:=λ_ _=>by kernel_rfl
@[simp] theorem func149:prog.funcs[149]?=some Tryz.f149:=by kernel_rfl
@[simp] theorem call149:aS 149:=λ_ _=>by kernel_rfl
@[simp] theorem func150:prog.funcs[150]?=some Tryz.f150:=by kernel_rfl
@[simp] theorem call150:aS 150:=λ_ _=>by kernel_rfl
@[simp] theorem func152:prog.funcs[152]?=some Tryz.f152:=by kernel_rfl
@[simp] theorem call152:aS 152:=λ_ _=>by kernel_rfl
@[simp] theorem func154:prog.funcs[154]?=some (f154):=by kernel_rfl
@[simp] theorem call154:aS 154:=λ_ _=>by kernel_rfl
@[simp] theorem func156:prog.funcs[156]?=some Tryz.f156:=by kernel_rfl
@[simp] theorem call156:aS 156:=λ_ _=>by kernel_rfl
@[simp] theorem func157:prog.funcs[157]?=some Tryz.f157:=by kernel_rfl
@[simp] theorem call157:aS 157:=λ_ _=>by kernel_rfl
@[simp] theorem func158:prog.funcs[158]?=some Tryz.f158:=by kernel_rfl
@[simp] theorem call158:aS 158:=λ_ _=>by kernel_rfl
@[simp] theorem func159:prog.funcs[159]?=some Tryz.f159:=by kernel_rfl
@[simp] theorem call159:aS 159:=λ_ _=>by kernel_rfl
@[simp] theorem func168:prog.funcs[168]?=some Tryz.f168:=by kernel_rfl
@[simp] theorem call168:aS 168:=λ_ _=>by kernel_rfl
@[simp] theorem func169:prog.funcs[169]?=some Tryz.f169:=by kernel_rfl
@[simp] theorem call169:aS 169:=λ_ _=>by kernel_rfl
@[simp] theorem func170:prog.funcs[170]?=some Tryz.f170:=by kernel_rfl
@[simp] theorem call170:aS 170:=λ_ _=>by kernel_rfl
@[simp] theorem func171:prog.funcs[171]?=some Tryz.f171:=by kernel_rfl
@[simp] theorem call171:aS 171:=λ_ _=>by kernel_rfl
@[simp] theorem func172:prog.funcs[172]?=some Tryz.f172:=by kernel_rfl
@[simp] theorem call172:aS 172:=λ_ _=>by kernel_rfl
@[simp] theorem func174:prog.funcs[174]?=some Tryz.f174:=by kernel_rfl
@[simp] theorem call174:aS 174:=λ_ _=>by kernel_rfl
@[simp] theorem func175:prog.funcs[175]?=some Tryz.f175:=by kernel_rfl
@[simp] theorem call175:aS 175:=λ_ _=>by kernel_rfl
@[simp] theorem func176:prog.funcs[176]?=some Tryz.f176:=by kernel_rfl
@[simp] theorem call176:aS 176:=λ_ _=>by kernel_rfl
@[simp] theorem func177:prog.funcs[177]?=some Tryz.f177:=by kernel_rfl
@[simp] theorem call177:aS 177:=λ_ _=>by kernel_rfl
@[simp] theorem func178:prog.funcs[178]?=some Tryz.f178:=by kernel_rfl
@[simp] theorem call178:aS 178:=λ_ _=>by kernel_rfl
@[simp] theorem func179:prog.funcs[179]?=some Tryz.f179:=by kernel_rfl
@[simp] theorem call179:aS 179:=λ_ _=>by kernel_rfl
@[simp] theorem func183:prog.funcs[183]?=some Tryz.f183:=by kernel_rfl
@[simp] theorem call183:aS 183:=λ_ _=>by kernel_rfl
@[simp] theorem func185:prog.funcs[185]?=some Tryz.f185:=by kernel_rfl
@[simp] theorem func190:prog.funcs[190]?=some Tryz.f190:=by kernel_rfl
@[simp] theorem func192:prog.funcs[192]?=some Tryz.f192:=by kernel_rfl
@[simp] theorem call192:aS 192:=λ_ _=>by kernel_rfl
@[simp] theorem func193:prog.funcs[193]?=some Tryz.f193:=by kernel_rfl
@[simp] theorem call193:aS 193:=λ_ _=>by kernel_rfl
@[simp] theorem func194:prog.funcs[194]?=some Tryz.f194:=by kernel_rfl
@[simp] theorem func211:prog.funcs[211]?=some Tryz.f211:=by kernel_rfl
@[simp] theorem call211:aS 211:=λ_ _=>by kernel_rfl
@[simp] theorem func214:prog.funcs[214]?=some Tryz.f214:=by kernel_rfl
@[simp] theorem call214:aS 214:=λ_ _=>by kernel_rfl
@[simp] theorem func215:prog.funcs[215]?=some Tryz.f215:=by kernel_rfl
@[simp] theorem call215:aS 215:=λ_ _=>by kernel_rfl
@[simp] theorem func223:prog.funcs[223]?=some Tryz.f223:=by kernel_rfl
@[simp] theorem call223:aS 223:=λ_ _=>by kernel_rfl
@[simp] theorem func224:prog.funcs[224]?=some Tryz.f224:=by kernel_rfl
@[simp] theorem call224:aS 224:=λ_ _=>by kernel_rfl
@[simp] theorem func225:prog.funcs[225]?=some Tryz.f225:=by kernel_rfl
@[simp] theorem call225:aS 225:=λ_ _=>by kernel_rfl
@[simp] theorem ntmps106:Func.ntmps iY=51:=Tryz.ntmps106
@[simp] theorem ntmps144:Func.ntmps nQ=13:=Tryz.ntmps144
@[simp] theorem ntmps145:Func.ntmps nS=21:=Tryz.ntmps145
def ntmps171:Func.ntmps Tryz.f171=6:=Tryz.ntmps171
def ntmps172:Func.ntmps Tryz.f172=6:=Tryz.ntmps172
def ntmps224:Func.ntmps Tryz.f224=25:=Tryz.ntmps224
def isAgg3:∀(w:aa),Sem.run prog (isAgg 3) w=Result.ok false w:=λw=>(yn 3 w).trans (Tryz.isAgg3 w)
def isAgg30:∀(w:aa),Sem.run prog (isAgg 30) w=Result.ok false w:=λw=>(yn 30 w).trans (Tryz.isAgg30 w)
def isAgg32:∀(w:aa),Sem.run prog (isAgg 32) w=Result.ok true w:=λw=>(yn 32 w).trans (Tryz.isAgg32 w)
def sizeOf3:∀(w:aa),Sem.run prog (Go.sizeOf 3) w=Result.ok 1 w:=λw=>(ss 3 w).trans (Tryz.sizeOf3 w)
def sizeOf30:∀(w:aa),Sem.run prog (Go.sizeOf 30) w=Result.ok 1 w:=λw=>(ss 30 w).trans (Tryz.sizeOf30 w)
def sizeOf32:∀(w:aa),Sem.run prog (Go.sizeOf 32) w=Result.ok 2 w:=λw=>(ss 32 w).trans (Tryz.sizeOf32 w)
def sizeOf137:∀(w:aa),Sem.run prog (Go.sizeOf 137) w=Result.ok 7 w:=λw=>(ss 137 w).trans (Tryz.sizeOf137 w)
def underlying3:Program.underlying prog 3=some (TypeDesc.int IntKind.i64):=(iG 3).trans Tryz.underlying3
def underlying5:Program.underlying prog 5=some (TypeDesc.int IntKind.u8):=(iG 5).trans Tryz.underlying5
def underlying9:Program.underlying prog 9=some TypeDesc.string:=(iG 9).trans Tryz.underlying9
def underlying22:Program.underlying prog 22=some (TypeDesc.slice 3):=(iG 22).trans Tryz.underlying22
def underlying23:Program.underlying prog 23=some (TypeDesc.slice 32):=(iG 23).trans Tryz.underlying23
def underlying30:Program.underlying prog 30=some (TypeDesc.int IntKind.u32):=(iG 30).trans Tryz.underlying30
def underlying32:Program.underlying prog 32=some (TypeDesc.struct #[{name:= "Addr",type:=30,offset:=0,embedded:=false,tag:= "",pkgPath:= "",byteOffset:=0},{name:= "Len",type:=3,offset:=1,embedded:=false,tag:= "",pkgPath:= "",byteOffset:=8}]):=(iG 32).trans Tryz.underlying32
def underlying43:Program.underlying prog 43=some (TypeDesc.slice 42):=(iG 43).trans Tryz.underlying43
def underlying46:Program.underlying prog 46=some (TypeDesc.slice 64):=(iG 46).trans Tryz.underlying46
def underlying52:Program.underlying prog 52=some (TypeDesc.struct #[{name:= "Prefix",type:=32,offset:=0,embedded:=false,tag:= "",pkgPath:= "",byteOffset:=0},{name:= "Tag",type:=3,offset:=2,embedded:=false,tag:= "",pkgPath:= "",byteOffset:=16},{name:= "Metric",type:=3,offset:=3,embedded:=false,tag:= "",pkgPath:= "",byteOffset:=24},{name:= "From",type:=3,offset:=4,embedded:=false,tag:= "",pkgPath:= "",byteOffset:=32}]):=(iG 52).trans Tryz.underlying52
def underlying54:Program.underlying prog 54=some (TypeDesc.pointer 122):=(iG 54).trans Tryz.underlying54
def underlying57:Program.underlying prog 57=some (TypeDesc.slice 52):=(iG 57).trans Tryz.underlying57
def underlying112:Program.underlying prog 112=some TypeDesc.unsafePointer:=(iG 112).trans Tryz.underlying112
def underlying118:Program.underlying prog 118=some (TypeDesc.slice 137):=(iG 118).trans Tryz.underlying118
def underlying186:Program.underlying prog 186=some (TypeDesc.slice 9):=(iG 186).trans Tryz.underlying186
def underlying226:Program.underlying prog 226=some (TypeDesc.slice 5):=(iG 226).trans Tryz.underlying226
def underlying302:Program.underlying prog 302=some (TypeDesc.pointer 107):=(iG 302).trans Tryz.underlying302
end Go.Proofs.Gh
end
