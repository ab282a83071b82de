import Derived.Laws.StructEq
import Derived.Test.YtdnpeefnobjfaaaGreatDoorK22
set_option maxRecDepth 100000
set_option maxHeartbeats 4000000
set_option linter.all false
section
namespace Go.Proofs.q
section
universe u
open Go.RowKit Go.Shelf Go.Sort
attribute [local go_sem ↓] Go.wp_at_zero Go.wp_at_succ
def fZ(r:Rw):Rw:=if r.met=16 then r else {r with met:=16,bM:=0,ci:=true}
def tz(r n:Rw):Bool:=decide (r.addr=n.addr)&&decide (r.len=n.len)&&decide (r.tag=n.tag)&&decide (r.met=n.met)&&decide (r.az=n.az)
def gn(r n:Rw):Rw:=if n.met=16 then fZ r else {n with bM:=0,ci:=r.ci|| !(tz r n)}
def kH(r n:Rw):Bool:=if n.met=r.met then !(decide (r.met=16))&&decide (90<=r.bM)else decide (n.met<r.met)
def jv(n:Rw):Rw:={n with bM:=0,ci:=true}
def eQ(r n:Rw):Rw:=if r.az= -1 then r else if r.az=n.az then gn r n else if kH r n then jv n else r
def TL(r:Rw)(w:aa):Calls Gh.prog.{u} 150 #[.agg #[.int .u32 r.addr,.int .i64 r.len,.int .i64 r.tag,.int .i64 r.met,.int .i64 r.az,.int .i64 r.bM,.bool r.ci]] w λe w'=>e=.returned (.bool (decide (r.az= -1)))/\aL w w':=by go_enter Gh.func150,Tryz.ntmps150;go_wp2;go_ret;refine⟨fo ?_,(aL.refl w).alloc _⟩;rw[ma];simp
def Al(r:Rw)(w:aa):Calls Gh.prog.{u} 109 #[.agg #[.int .u32 r.addr,.int .i64 r.len,.int .i64 r.tag,.int .i64 r.met,.int .i64 r.az,.int .i64 r.bM,.bool r.ci]] w λe w'=>e=.returned (.agg #[.int .u32 (fZ r).addr,.int .i64 (fZ r).len,.int .i64 (fZ r).tag,.int .i64 (fZ r).met,.int .i64 (fZ r).az,.int .i64 (fZ r).bM,.bool (fZ r).ci])/\aL w w':=by
 have t:=am ((aK.new w #[.int .u32 r.addr,.int .i64 r.len,.int .i64 r.tag,.int .i64 r.met,.int .i64 r.az,.int .i64 r.bM,.bool r.ci] 137).alloc (.cells #[.int .u32 0,.int .i64 0,.int .i64 0,.int .i64 0,.int .i64 0,.int .i64 0,.bool false] 137));have q:=aK.new (w.alloc (.cells #[.int .u32 r.addr,.int .i64 r.len,.int .i64 r.tag,.int .i64 r.met,.int .i64 r.az,.int .i64 r.bM,.bool r.ci] 137)) #[.int .u32 0,.int .i64 0,.int .i64 0,.int .i64 0,.int .i64 0,.int .i64 0,.bool false] 137;simp only[World.size_alloc]at q;have x:=am q;clear q;have n:=λW=>vS.{u} r W;by_cases f:r.met=16
 .have o:fZ r=r:=by simp[fZ,f]
  rw[o];have s:decide (r.met=16)=true:=by simp[f]
  clear f o;simp only[s]at n;go_enter Gh.func109,Tryz.ntmps109;go_wp2_with (go_at_call 103;refine(n _).mono ?_;rintro e y ⟨rfl,d⟩;have b:=(ai t).dY d;have a:=(ai x).dY d;have a0:=b.cell 0;have a1:=b.cell 1;have a2:=b.cell 2;have a3:=b.cell 3;have a4:=b.cell 4;have a5:=b.cell 5;have a6:=b.cell 6;have s0:=a.cell 0;have z:=a.frozen 0;have A:=a.cell 1;have B:=a.frozen 1;have s2:=a.cell 2;have C:=a.frozen 2;have D:=a.cell 3;have z3:=a.frozen 3;have s4:=a.cell 4;have E:=a.frozen 4;have F:=a.cell 5;have H:=a.frozen 5;have I:=a.cell 6;have J:=a.frozen 6);have c:=(((((((a.set 0 (.int .u32 r.addr)).set 1 (.int .i64 r.len)).set 2 (.int .i64 r.tag)).set 3 (.int .i64 r.met)).set 4 (.int .i64 r.az)).set 5 (.int .i64 r.bM)).set 6 (.bool r.ci));have g:=c.cell 0;have h:=c.cell 1;have i:=c.cell 2;have j:=c.cell 3;have k:=c.cell 4;have l:=c.cell 5;have m:=c.cell 6;simp at g h i j k l m;refine bodyPost_ret (v:=.agg #[.int .u32 r.addr,.int .i64 r.len,.int .i64 r.tag,.int .i64 r.met,.int .i64 r.az,.int .i64 r.bM,.bool r.ci]) (by simp[results,Tryz.results109,go_sem,g,h,i,j,k,l,m]) rfl ⟨?_,(((((((((((aL.refl w).alloc _).alloc _).trans d).setCell (by simp) _).setCell (by simp) _).setCell (by simp) _).setCell (by simp) _).setCell (by simp) _).setCell (by simp) _).setCell (by simp) _)⟩;rfl
 .have o:Hid (fZ r={r with met:=16,bM:=0,ci:=true}):=by show fZ r=_;simp[fZ,f]
  have s:decide (r.met=16)=false:=by simp[f]
  clear f;simp only[s]at n;rw[o.out];go_enter Gh.func109,Tryz.ntmps109;go_wp2_with (go_at_call 103;refine(n _).mono ?_;rintro e y ⟨rfl,d⟩;have b:=(ai t).dY d;have a:=(ai x).dY d;have a0:=b.cell 0;have a1:=b.cell 1;have a2:=b.cell 2;have a3:=b.cell 3;have a4:=b.cell 4;have a5:=b.cell 5;have a6:=b.cell 6;have K:=b.frozen 3;have L:=b.frozen 5;have M:=b.frozen 6;have s0:=a.cell 0;have z:=a.frozen 0;have A:=a.cell 1;have B:=a.frozen 1;have s2:=a.cell 2;have C:=a.frozen 2;have D:=a.cell 3;have z3:=a.frozen 3;have s4:=a.cell 4;have E:=a.frozen 4;have F:=a.cell 5;have H:=a.frozen 5;have I:=a.cell 6;have J:=a.frozen 6);have c:=((((((((((a.other (p:=⟨w.heap.size,3,none⟩) (by simp) (.int .i64 16)).other (p:=⟨w.heap.size,5,none⟩) (by simp) (.int .i64 0)).other (p:=⟨w.heap.size,6,none⟩) (by simp) (.bool true)).set 0 (.int .u32 r.addr)).set 1 (.int .i64 r.len)).set 2 (.int .i64 r.tag)).set 3 (.int .i64 16)).set 4 (.int .i64 r.az)).set 5 (.int .i64 0)).set 6 (.bool true));have g:=c.cell 0;have h:=c.cell 1;have i:=c.cell 2;have j:=c.cell 3;have k:=c.cell 4;have l:=c.cell 5;have m:=c.cell 6;simp at g h i j k l m;refine bodyPost_ret (v:=.agg #[.int .u32 r.addr,.int .i64 r.len,.int .i64 r.tag,.int .i64 16,.int .i64 r.az,.int .i64 0,.bool true]) (by simp[results,Tryz.results109,go_sem,g,h,i,j,k,l,m]) rfl ⟨?_,((((((((((((((aL.refl w).alloc _).alloc _).trans d).setCell (by simp) _).setCell (by simp) _).setCell (by simp) _).setCell (by simp) _).setCell (by simp) _).setCell (by simp) _).setCell (by simp) _).setCell (by simp) _).setCell (by simp) _).setCell (by simp) _)⟩;rfl
def lh(w:aa)(cs:Array af)(t:aA)(a:Array af)(u:aA):aK ((w.alloc (.cells cs t)).alloc (.cells a u)) (w.heap.size+1) a u:=by have:=aK.new (w.alloc (.cells cs t)) a u;simpa only[World.size_alloc]using this
def Mb(r:Rw)(w:aa):Calls Gh.prog.{u} 52 #[.agg #[.int .u32 r.addr,.int .i64 r.len,.int .i64 r.tag,.int .i64 r.met,.int .i64 r.az,.int .i64 r.bM,.bool r.ci]] w λe w'=>e=.returned (.agg #[.int .u32 r.addr,.int .i64 r.len,.int .i64 r.tag,.int .i64 r.met,.int .i64 r.az])/\aL w w':=by go_enter Gh.func52,Tryz.ntmps52;go_wp2;exact bodyPost_ret (v:=.agg #[.int .u32 r.addr,.int .i64 r.len,.int .i64 r.tag,.int .i64 r.met,.int .i64 r.az]) (by simp[results,Tryz.results52,go_sem]) rfl ⟨rfl,((aL.refl w).alloc _).alloc _⟩
def Z0(r:Rw)(p:Pf)(w:aa):Calls Gh.prog.{u} 147 #[.agg #[.int .u32 r.addr,.int .i64 r.len,.int .i64 r.tag,.int .i64 r.met,.int .i64 r.az,.int .i64 r.bM,.bool r.ci],.agg #[.int .u32 p.addr,.int .i64 p.len]] w λe w'=>e=.returned (.int .i64 (iT ⟨r.addr,r.len⟩ p))/\aL w w':=by have a:=λW=>CX.{u} ⟨r.addr,r.len⟩ p W;simp only at a;go_enter Gh.func147,Tryz.ntmps147;go_wp2_with (go_at_call 82;refine(a _).mono ?_;rintro e c ⟨rfl,b⟩);go_ret;exact⟨rfl,(((aL.refl w).alloc _).alloc _).trans b⟩
def iG(e:aT)(az a:Int):Rw:=⟨e.addr,e.len,e.tag,min (e.met+a) 16,az,0,false⟩
def Vh(e:aT)(az cost:Int)(w:aa)(h0:0<=e.met)(b:e.met<=16)(c:0<=cost)(d:cost<=15):Calls Gh.prog.{u} 97 #[.agg #[.int .u32 e.addr,.int .i64 e.len,.int .i64 e.tag,.int .i64 e.met],.int .i64 az,.int .i64 cost] w λv w'=>v=.returned (.agg #[.int .u32 (iG e az cost).addr,.int .i64 (iG e az cost).len,.int .i64 (iG e az cost).tag,.int .i64 (iG e az cost).met,.int .i64 (iG e az cost).az])/\aL w w':=by have a:IntKind.i64.wrap (e.met+cost)=e.met+cost:=wrap_small _ (by omega) (by omega);go_enter Gh.func97,Tryz.ntmps97;go_wp2;exact bodyPost_ret (v:=.agg #[.int .u32 e.addr,.int .i64 e.len,.int .i64 e.tag,.int .i64 (min (e.met+cost) 16),.int .i64 az]) (by simp[results,Tryz.results97,go_sem]) rfl ⟨rfl,((aL.refl w).alloc _).alloc _⟩
end
section
universe u
open Go.RowKit Go.Shelf Go.Sort
attribute [local go_sem ↓] Go.wp_at_zero Go.wp_at_succ
def G7(w:aa)(cs t a c b u):aK (((w.alloc (.cells cs t)).alloc (.cells a c)).alloc (.cells b u)) (w.heap.size+1+1) b u:=by have:=aK.new ((w.alloc (.cells cs t)).alloc (.cells a c)) b u;simpa only[World.size_alloc]using this
def U2(w:aa)(cs t a t2):aK ((w.alloc (.cells cs t)).alloc (.cells a t2)) (w.heap.size+1) a t2:=by have:=aK.new (w.alloc (.cells cs t)) a t2;simpa only[World.size_alloc]using this
def a3M(r n w):Calls Gh.prog.{u} 193 #[.agg #[.int .u32 r.addr,.int .i64 r.len,.int .i64 r.tag,.int .i64 r.met,.int .i64 r.az,.int .i64 r.bM,.bool r.ci],.agg #[.int .u32 n.addr,.int .i64 n.len,.int .i64 n.tag,.int .i64 n.met,.int .i64 n.az]] w λe w'=>e=.returned (.bool (kH r n))/\aL w w':=by
 have j:=am ((aK.new w #[.int .u32 r.addr,.int .i64 r.len,.int .i64 r.tag,.int .i64 r.met,.int .i64 r.az,.int .i64 r.bM,.bool r.ci] 137).alloc (.cells #[.int .u32 n.addr,.int .i64 n.len,.int .i64 n.tag,.int .i64 n.met,.int .i64 n.az] 52));have d:=λW=>vS.{u} r W;by_cases b:n.met=r.met
 .by_cases a:r.met=16
  .have c:Hid (kH r n=false):=by show kH r n=_;simp[kH,b,a]
   have g:decide (r.met=16)=true:=by simp[a]
   have i:(n.met==r.met)=true:=by simp[b]
   clear b a;simp only[g]at d;go_enter Gh.func193,Tryz.ntmps193;go_wp2_with (go_at_call 103;refine(d _).mono ?_;rintro e k ⟨rfl,f⟩);go_ret;exact⟨fo c.out.symm,(((aL.refl w).alloc _).alloc _).trans f⟩
  .have c:Hid (kH r n=decide (90<=r.bM)):=by show kH r n=_;simp[kH,b,a]
   have g:decide (r.met=16)=false:=by simp[a]
   have i:(n.met==r.met)=true:=by simp[b]
   clear b a;simp only[g]at d;go_enter Gh.func193,Tryz.ntmps193;go_wp2_with (go_at_call 103;refine(d _).mono ?_;rintro e k ⟨rfl,f⟩;have h:=(ai j).dY f;have l:=h.cell 5);go_ret;exact⟨fo c.out.symm,(((aL.refl w).alloc _).alloc _).trans f⟩
 .have c:Hid (kH r n=decide (n.met<r.met)):=by show kH r n=_;simp[kH,b]
  have i:(n.met==r.met)=false:=by simp[b]
  clear b;go_enter Gh.func193,Tryz.ntmps193;go_wp2;go_ret;exact⟨fo c.out.symm,((aL.refl w).alloc _).alloc _⟩
def En(a l b c d w):(Op.equalIn (d+1+1) 32 (.agg #[.int .u32 a,.int .i64 l]) (.agg #[.int .u32 b,.int .i64 c])).run Gh.prog.{u} w=.ok (decide (a=b)&&decide (l=c)) w:=by have u3:=Gh.underlying3.{u};have a3:=Gh.isAgg3.{u};have z3:=Gh.sizeOf3.{u};have u4:=Gh.underlying30.{u};have a4:=Gh.isAgg30.{u};have g:=Gh.sizeOf30.{u};rw[run_equalIn_agg w (d+1) 32 _ _ (by kernel_rfl) (by kernel_rfl)];simp only[Program.fieldsOf,Gh.underlying32];go_simp;by_cases e:a=b<;>by_cases f:l=c<;>simp[e,f]
def Vf(r n w):(binOp .neq 52 (.agg #[.int .u32 r.addr,.int .i64 r.len,.int .i64 r.tag,.int .i64 r.met,.int .i64 r.az]) (.agg #[.int .u32 n.addr,.int .i64 n.len,.int .i64 n.tag,.int .i64 n.met,.int .i64 n.az])).run Gh.prog.{u} w=.ok (.bool (!(tz r n))) w:=by have u3:=Gh.underlying3.{u};have a3:=Gh.isAgg3.{u};have z3:=Gh.sizeOf3.{u};have f:=Gh.isAgg32.{u};have g:=Gh.sizeOf32.{u};have h:=En.{u} r.addr r.len n.addr n.len 9997;rw[run_neq_struct,show(10000:Nat)=9997+1+1+1 from rfl,run_equalIn_agg w (9997+1+1) 52 _ _ (by kernel_rfl) (by kernel_rfl)];simp only[Program.fieldsOf,Gh.underlying52];go_simp;by_cases a:r.addr=n.addr<;>by_cases b:r.len=n.len<;>by_cases c:r.tag=n.tag<;>by_cases d:r.met=n.met<;>by_cases e:r.az=n.az<;>simp[tz,a,b,c,d,e]
def Zp(r n w):Calls Gh.prog.{u} 192 #[.agg #[.int .u32 r.addr,.int .i64 r.len,.int .i64 r.tag,.int .i64 r.met,.int .i64 r.az,.int .i64 r.bM,.bool r.ci],.agg #[.int .u32 n.addr,.int .i64 n.len,.int .i64 n.tag,.int .i64 n.met,.int .i64 n.az]] w λe w'=>e=.returned (.agg #[.int .u32 (gn r n).addr,.int .i64 (gn r n).len,.int .i64 (gn r n).tag,.int .i64 (gn r n).met,.int .i64 (gn r n).az,.int .i64 (gn r n).bM,.bool (gn r n).ci])/\aL w w':=by
 have s:=am (G7 w #[.int .u32 r.addr,.int .i64 r.len,.int .i64 r.tag,.int .i64 r.met,.int .i64 r.az,.int .i64 r.bM,.bool r.ci] 137 #[.int .u32 n.addr,.int .i64 n.len,.int .i64 n.tag,.int .i64 n.met,.int .i64 n.az] 52 #[.int .u32 0,.int .i64 0,.int .i64 0,.int .i64 0,.int .i64 0,.int .i64 0,.bool false] 137);by_cases b:n.met=16
 .have c:gn r n=fZ r:=by simp[gn,b]
  rw[c];have f:=λW=>Al.{u} r W;generalize fZ r=r2 at f⊢;have t:(n.met==16)=true:=by simp[b]
  clear b c;go_enter Gh.func192,Tryz.ntmps192;go_wp2_with (go_at_call 109;refine(f _).mono ?_;rintro e y ⟨rfl,g⟩;have a:=(ai s).dY g;have s0:=a.cell 0;have z:=a.cell 1;have s2:=a.cell 2;have A:=a.cell 3;have s4:=a.cell 4;have B:=a.cell 5;have C:=a.cell 6;have D:=a.frozen 0;have E:=a.frozen 1;have F:=a.frozen 2;have z3:=a.frozen 3;have H:=a.frozen 4;have I:=a.frozen 5;have J:=a.frozen 6);have d:=(((((((a.set 0 (.int .u32 r2.addr)).set 1 (.int .i64 r2.len)).set 2 (.int .i64 r2.tag)).set 3 (.int .i64 r2.met)).set 4 (.int .i64 r2.az)).set 5 (.int .i64 r2.bM)).set 6 (.bool r2.ci));have h:=d.cell 0;have i:=d.cell 1;have j:=d.cell 2;have k:=d.cell 3;have l:=d.cell 4;have m:=d.cell 5;have o:=d.cell 6;simp at h i j k l m o;refine bodyPost_ret (v:=.agg #[.int .u32 r2.addr,.int .i64 r2.len,.int .i64 r2.tag,.int .i64 r2.met,.int .i64 r2.az,.int .i64 r2.bM,.bool r2.ci]) (by simp[results,Tryz.results192,go_sem,h,i,j,k,l,m,o]) rfl ⟨?_,((((((((((((aL.refl w).alloc _).alloc _).alloc _).trans g).setCell (by simp<;>omega) _).setCell (by simp<;>omega) _).setCell (by simp<;>omega) _).setCell (by simp<;>omega) _).setCell (by simp<;>omega) _).setCell (by simp<;>omega) _).setCell (by simp<;>omega) _)⟩;rfl
 .have t:(n.met==16)=false:=by simp[b]
  cases p:r.ci with
  |true=>
   have c:gn r n={n with bM:=0,ci:=true}:=by simp[gn,b,p]
   rw[c];clear b c;go_enter Gh.func192,Tryz.ntmps192;go_wp2_with fail;go_region;go_wp2;exact bodyPost_ret (v:=.agg #[.int .u32 n.addr,.int .i64 n.len,.int .i64 n.tag,.int .i64 n.met,.int .i64 n.az,.int .i64 0,.bool true]) (by simp[results,Tryz.results192,go_sem]) rfl ⟨rfl,((((aL.refl w).alloc _).alloc _).alloc _).drew⟩
  |false=>
   have c:gn r n={n with bM:=0,ci:= !(tz r n)}:=by simp[gn,b,p]
   rw[c];have x:=Vf.{u} r n;generalize (!(tz r n))=q at x⊢;clear b c;go_enter Gh.func192,Tryz.ntmps192;go_wp2_with fail;go_region;go_wp2;exact bodyPost_ret (v:=.agg #[.int .u32 n.addr,.int .i64 n.len,.int .i64 n.tag,.int .i64 n.met,.int .i64 n.az,.int .i64 0,.bool q]) (by simp[results,Tryz.results192,go_sem]) rfl ⟨rfl,((((aL.refl w).alloc _).alloc _).alloc _).drew⟩
def Tg(r n w):Calls Gh.prog.{u} 148 #[.agg #[.int .u32 r.addr,.int .i64 r.len,.int .i64 r.tag,.int .i64 r.met,.int .i64 r.az,.int .i64 r.bM,.bool r.ci],.agg #[.int .u32 n.addr,.int .i64 n.len,.int .i64 n.tag,.int .i64 n.met,.int .i64 n.az]] w λe w'=>e=.returned (.agg #[.int .u32 (eQ r n).addr,.int .i64 (eQ r n).len,.int .i64 (eQ r n).tag,.int .i64 (eQ r n).met,.int .i64 (eQ r n).az,.int .i64 (eQ r n).bM,.bool (eQ r n).ci])/\aL w w':=by
 have E:=am (((aK.new w #[.int .u32 r.addr,.int .i64 r.len,.int .i64 r.tag,.int .i64 r.met,.int .i64 r.az,.int .i64 r.bM,.bool r.ci] 137).alloc (.cells #[.int .u32 n.addr,.int .i64 n.len,.int .i64 n.tag,.int .i64 n.met,.int .i64 n.az] 52)).alloc (.cells #[.int .u32 0,.int .i64 0,.int .i64 0,.int .i64 0,.int .i64 0,.int .i64 0,.bool false] 137));have F:=am ((U2 w #[.int .u32 r.addr,.int .i64 r.len,.int .i64 r.tag,.int .i64 r.met,.int .i64 r.az,.int .i64 r.bM,.bool r.ci] 137 #[.int .u32 n.addr,.int .i64 n.len,.int .i64 n.tag,.int .i64 n.met,.int .i64 n.az] 52).alloc (.cells #[.int .u32 0,.int .i64 0,.int .i64 0,.int .i64 0,.int .i64 0,.int .i64 0,.bool false] 137));have H:=am (G7 w #[.int .u32 r.addr,.int .i64 r.len,.int .i64 r.tag,.int .i64 r.met,.int .i64 r.az,.int .i64 r.bM,.bool r.ci] 137 #[.int .u32 n.addr,.int .i64 n.len,.int .i64 n.tag,.int .i64 n.met,.int .i64 n.az] 52 #[.int .u32 0,.int .i64 0,.int .i64 0,.int .i64 0,.int .i64 0,.int .i64 0,.bool false] 137);have A:=λW=>TL.{u} r W;by_cases y:r.az= -1
 .have k:eQ r n=r:=by simp[eQ,y]
  rw[k];have B:decide (r.az= -1)=true:=by simp[y]
  clear y k;simp only[B]at A;go_enter Gh.func148,Tryz.ntmps148;go_wp2_with (go_at_call 150;refine(A _).mono ?_;rintro e K ⟨rfl,i⟩;have b:=(ai E).dY i;have c:=(ai F).dY i;have d:=(ai H).dY i;have a0:=b.cell 0;have a1:=b.cell 1;have a2:=b.cell 2;have a3:=b.cell 3;have a4:=b.cell 4;have a5:=b.cell 5;have a6:=b.cell 6;have L:=c.cell 0;have M:=c.cell 1;have N:=c.cell 2;have O:=c.cell 3;have P:=c.cell 4;have s0:=d.cell 0;have Q:=d.cell 1;have s2:=d.cell 2;have R:=d.cell 3;have s4:=d.cell 4;have S:=d.cell 5;have T:=d.cell 6;have U:=d.frozen 0;have V:=d.frozen 1;have X:=d.frozen 2;have z3:=d.frozen 3;have Y:=d.frozen 4;have Z:=d.frozen 5;have z6:=d.frozen 6);have f:=(((((((d.set 0 (.int .u32 r.addr)).set 1 (.int .i64 r.len)).set 2 (.int .i64 r.tag)).set 3 (.int .i64 r.met)).set 4 (.int .i64 r.az)).set 5 (.int .i64 r.bM)).set 6 (.bool r.ci));have l:=f.cell 0;have m:=f.cell 1;have o:=f.cell 2;have p:=f.cell 3;have q:=f.cell 4;have s:=f.cell 5;have t:=f.cell 6;simp at l m o p q s t;refine bodyPost_ret (v:=.agg #[.int .u32 r.addr,.int .i64 r.len,.int .i64 r.tag,.int .i64 r.met,.int .i64 r.az,.int .i64 r.bM,.bool r.ci]) (by simp[results,Tryz.results148,go_sem,l,m,o,p,q,s,t]) rfl ⟨?_,((((((((((((aL.refl w).alloc _).alloc _).alloc _).trans i).setCell (by simp<;>omega) _).setCell (by simp<;>omega) _).setCell (by simp<;>omega) _).setCell (by simp<;>omega) _).setCell (by simp<;>omega) _).setCell (by simp<;>omega) _).setCell (by simp<;>omega) _)⟩;rfl
 .have B:decide (r.az= -1)=false:=by simp[y]
  simp only[B]at A;by_cases z:r.az=n.az
  .have k:eQ r n=gn r n:=by unfold eQ;rw[if_neg y,if_pos z]
   rw[k];have he:(r.az==n.az)=true:=by simp[z]
   have I:=λW=>Zp.{u} r n W;generalize gn r n=r2 at I⊢;clear y k z B;go_enter Gh.func148,Tryz.ntmps148;go_wp2_with (first|(go_at_call 150;refine(A _).mono ?_;rintro e K ⟨rfl,i⟩;have b:=(ai E).dY i;have c:=(ai F).dY i;have d:=(ai H).dY i;have a0:=b.cell 0;have a1:=b.cell 1;have a2:=b.cell 2;have a3:=b.cell 3;have a4:=b.cell 4;have a5:=b.cell 5;have a6:=b.cell 6;have L:=c.cell 0;have M:=c.cell 1;have N:=c.cell 2;have O:=c.cell 3;have P:=c.cell 4)|(go_at_call 192;refine(I _).mono ?_;rintro e w2 ⟨rfl,h⟩;have a:=d.dY h;have s0:=a.cell 0;have Q:=a.cell 1;have s2:=a.cell 2;have R:=a.cell 3;have s4:=a.cell 4;have S:=a.cell 5;have T:=a.cell 6;have U:=a.frozen 0;have V:=a.frozen 1;have X:=a.frozen 2;have z3:=a.frozen 3;have Y:=a.frozen 4;have Z:=a.frozen 5;have z6:=a.frozen 6));have f:=(((((((a.set 0 (.int .u32 r2.addr)).set 1 (.int .i64 r2.len)).set 2 (.int .i64 r2.tag)).set 3 (.int .i64 r2.met)).set 4 (.int .i64 r2.az)).set 5 (.int .i64 r2.bM)).set 6 (.bool r2.ci));have l:=f.cell 0;have m:=f.cell 1;have o:=f.cell 2;have p:=f.cell 3;have q:=f.cell 4;have s:=f.cell 5;have t:=f.cell 6;simp at l m o p q s t;refine bodyPost_ret (v:=.agg #[.int .u32 r2.addr,.int .i64 r2.len,.int .i64 r2.tag,.int .i64 r2.met,.int .i64 r2.az,.int .i64 r2.bM,.bool r2.ci]) (by simp[results,Tryz.results148,go_sem,l,m,o,p,q,s,t]) rfl ⟨?_,(((((((((((((aL.refl w).alloc _).alloc _).alloc _).trans i).trans h).setCell (by simp<;>omega) _).setCell (by simp<;>omega) _).setCell (by simp<;>omega) _).setCell (by simp<;>omega) _).setCell (by simp<;>omega) _).setCell (by simp<;>omega) _).setCell (by simp<;>omega) _)⟩;rfl
  .have he:(r.az==n.az)=false:=by simp[z]
   have J:=λW=>a3M.{u} r n W;cases C:kH r n with
   |true=>
    have k:eQ r n=jv n:=by simp only[eQ,y,if_false,z,C,if_true]
    rw[k];simp only[C]at J;have I:=λW=>zH.{u} n.addr n.len n.tag n.met n.az W;clear y k z B C;go_enter Gh.func148,Tryz.ntmps148;go_wp2_with (first|(go_at_call 150;refine(A _).mono ?_;rintro e K ⟨rfl,i⟩;have b:=(ai E).dY i;have c:=(ai F).dY i;have d:=(ai H).dY i;have a0:=b.cell 0;have a1:=b.cell 1;have a2:=b.cell 2;have a3:=b.cell 3;have a4:=b.cell 4;have a5:=b.cell 5;have a6:=b.cell 6;have L:=c.cell 0;have M:=c.cell 1;have N:=c.cell 2;have O:=c.cell 3;have P:=c.cell 4)|(go_at_call 193;refine(J _).mono ?_;rintro e w2 ⟨rfl,h⟩;have a:=d.dY h;have x:=c.dY h;have m0:=x.cell 0;have m1:=x.cell 1;have m2:=x.cell 2;have m3:=x.cell 3;have m4:=x.cell 4)|(go_at_call 135;refine(I _).mono ?_;rintro e w3 ⟨rfl,D⟩;have g:=a.dY D;have s0:=g.cell 0;have Q:=g.cell 1;have s2:=g.cell 2;have R:=g.cell 3;have s4:=g.cell 4;have S:=g.cell 5;have T:=g.cell 6;have U:=g.frozen 0;have V:=g.frozen 1;have X:=g.frozen 2;have z3:=g.frozen 3;have Y:=g.frozen 4;have Z:=g.frozen 5;have z6:=g.frozen 6));have f:=(((((((g.set 0 (.int .u32 n.addr)).set 1 (.int .i64 n.len)).set 2 (.int .i64 n.tag)).set 3 (.int .i64 n.met)).set 4 (.int .i64 n.az)).set 5 (.int .i64 0)).set 6 (.bool true));have l:=f.cell 0;have m:=f.cell 1;have o:=f.cell 2;have p:=f.cell 3;have q:=f.cell 4;have s:=f.cell 5;have t:=f.cell 6;simp at l m o p q s t;refine bodyPost_ret (v:=.agg #[.int .u32 n.addr,.int .i64 n.len,.int .i64 n.tag,.int .i64 n.met,.int .i64 n.az,.int .i64 0,.bool true]) (by simp[results,Tryz.results148,go_sem,l,m,o,p,q,s,t]) rfl ⟨?_,((((((((((((((aL.refl w).alloc _).alloc _).alloc _).trans i).trans h).trans D).setCell (by simp<;>omega) _).setCell (by simp<;>omega) _).setCell (by simp<;>omega) _).setCell (by simp<;>omega) _).setCell (by simp<;>omega) _).setCell (by simp<;>omega) _).setCell (by simp<;>omega) _)⟩;rfl
   |false=>
    have k:eQ r n=r:=by simp[eQ,y,z,C]
    rw[k];simp only[C]at J;clear y k z B C;go_enter Gh.func148,Tryz.ntmps148;go_wp2_with (first|(go_at_call 150;refine(A _).mono ?_;rintro e K ⟨rfl,i⟩;have b:=(ai E).dY i;have c:=(ai F).dY i;have d:=(ai H).dY i;have a0:=b.cell 0;have a1:=b.cell 1;have a2:=b.cell 2;have a3:=b.cell 3;have a4:=b.cell 4;have a5:=b.cell 5;have a6:=b.cell 6;have L:=c.cell 0;have M:=c.cell 1;have N:=c.cell 2;have O:=c.cell 3;have P:=c.cell 4)|(go_at_call 193;refine(J _).mono ?_;rintro e w2 ⟨rfl,h⟩;have a:=d.dY h;have j:=b.dY h;have c0:=j.cell 0;have c1:=j.cell 1;have c2:=j.cell 2;have c3:=j.cell 3;have c4:=j.cell 4;have c5:=j.cell 5;have c6:=j.cell 6;have s0:=a.cell 0;have Q:=a.cell 1;have s2:=a.cell 2;have R:=a.cell 3;have s4:=a.cell 4;have S:=a.cell 5;have T:=a.cell 6;have U:=a.frozen 0;have V:=a.frozen 1;have X:=a.frozen 2;have z3:=a.frozen 3;have Y:=a.frozen 4;have Z:=a.frozen 5;have z6:=a.frozen 6));have f:=(((((((a.set 0 (.int .u32 r.addr)).set 1 (.int .i64 r.len)).set 2 (.int .i64 r.tag)).set 3 (.int .i64 r.met)).set 4 (.int .i64 r.az)).set 5 (.int .i64 r.bM)).set 6 (.bool r.ci));have l:=f.cell 0;have m:=f.cell 1;have o:=f.cell 2;have p:=f.cell 3;have q:=f.cell 4;have s:=f.cell 5;have t:=f.cell 6;simp at l m o p q s t;refine bodyPost_ret (v:=.agg #[.int .u32 r.addr,.int .i64 r.len,.int .i64 r.tag,.int .i64 r.met,.int .i64 r.az,.int .i64 r.bM,.bool r.ci]) (by simp[results,Tryz.results148,go_sem,l,m,o,p,q,s,t]) rfl ⟨?_,(((((((((((((aL.refl w).alloc _).alloc _).alloc _).trans i).trans h).setCell (by simp<;>omega) _).setCell (by simp<;>omega) _).setCell (by simp<;>omega) _).setCell (by simp<;>omega) _).setCell (by simp<;>omega) _).setCell (by simp<;>omega) _).setCell (by simp<;>omega) _)⟩;rfl
end
section
universe u
open Go.RowKit Go.Shelf Go.Sort
attribute [local go_sem ↓] Go.wp_at_zero Go.wp_at_succ
def bL(r:Rw):Pf:=⟨r.addr,r.len⟩
def jy(L:List Rw):Prop:=L.Pairwise λa b=>fk (bL a) (bL b)
def AZ{a b c}(h:fk a b)(k:fk b c):fk a c:=by unfold fk at*;omega
def tu{L}(h:jy L){i j}(b:i<L.length)(c:j<L.length)(a:i<j):fk (bL L[i]) (bL L[j]):=a6X.1 h i j b c a
def a5S(L:List Rw)(p:Pf)(i:Nat):Prop:=i<=L.length/\(∀j,(a:j<L.length)->j<i->fk (bL L[j]) p)/\(∀j,(a:j<L.length)->i<=j->¬fk (bL L[j]) p)
def NG(a b):iT a b=0↔a=b:=by
 rw[Pf.beq_iff];unfold iT ie;by_cases e:a.addr<b.addr
 .simp[e];omega
 .by_cases g:b.addr<a.addr
  .simp[e,g];omega
  .have c:a.addr=b.addr:=by omega
   by_cases d:a.len<b.len
   .simp[c,d];omega
   .by_cases f:b.len<a.len
    .simp[c,d,f];omega
    .simp[c,d,f];omega
def a0E(b C n cap L p w)(hL:L.length=n)(hn:n<=1000000)(D:jy L)(hB:b<w.heap.size)(hc:jW w b C L):Calls Gh.prog.{u} 146 #[.slice (some ⟨b,C,none⟩) n cap,.agg #[.int .u32 p.addr,.int .i64 p.len],.func (.func 147) #[] #[]] w λe w'=> ∃i,a5S L p i/\e=.returned (.tuple #[.int .i64 i,.bool ((L[i]?.map bL)==some p)])/\aL w w':=by
 have F:=am hL;have HS:=am D;have hC:=λr W=>Z0 r p W;have ar:=jq.{u};have bP:=aK.new w #[.int .u32 p.addr,.int .i64 p.len] 32;have H:=qy hc (bH w (.cells #[.int .u32 p.addr,.int .i64 p.len] 32)) hB;have I:=(aL.refl w).alloc (.cells #[.int .u32 p.addr,.int .i64 p.len] 32);have t:b<(w.alloc (.cells #[.int .u32 p.addr,.int .i64 p.len] 32)).heap.size:=by simp;omega
 clear hL D hc;go_enter Gh.func146,Tryz.ntmps146;go_wp2_with fail;generalize w.alloc (.cells #[.int .u32 p.addr,.int .i64 p.len] 32)=W at*;have HP:=am bP;have HC:=am H;have HG:=am I;clear bP H I
 go_loopw [9,10] (λvi vj wr=> ∃i j:Nat,i<=j/\j<=n/\vi=.int .i64 i/\vj=.int .i64 j/\aL W wr/\(∀k,(x:k<L.length)->k<i->fk (bL L[k]) p)/\(∀k,(x:k<L.length)->j<=k->¬fk (bL L[k]) p)) (λvi vj _=>(intOf vj - intOf vi).toNat)
 case atStart=>exact⟨0,n,by omega,by omega,rfl,rfl,aL.refl _,λk x h=>by omega,λk x h=>by rw[ai F]at x;omega⟩
 case round=>
  obtain⟨i,j,av,J,rfl,rfl,s,K,M⟩:=hrel;have N:=am K;have O:=am M;have v:=am s;clear K M;by_cases aP:i<j
  .have P:(i:Int)<(j:Int):=by omega
   have ba:IntKind.i64.wrap ((i:Int)+(j:Int))=(i:Int)+(j:Int):=wrap_small _ (by omega) (by omega);go_wp2_with fail;obtain⟨h,hh⟩:∃h:Nat,h=(i+j) / 2:=⟨_,rfl⟩;have Q:((i:Int)+(j:Int)) / 2=(h:Int):=by omega
   have ag:h<n:=by omega
   have A:h<L.length:=by rw[ai F];exact ag
   have au:i<=h:=by omega
   have bb:h<j:=by omega
   rw[Q];have j0:(0:Int)<=(h:Int):=by omega
   have j1:(h:Int)<(n:Int):=by omega
   clear hh Q;have c:b<wr.heap.size:=cG t s.below.size;obtain⟨R,c1,c2,S,T,U,V⟩:=qy (ai HC) s.below t h A;have d:=(ai HP).dY s;have X:=(d.cell 0).trans (show _=some (.int .u32 p.addr)from rfl);have Y:=(d.cell 1).trans (show _=some (.int .i64 p.len)from rfl);have G0:=λm a=>cell_grown c R m a;have G1:=λm a=>cell_grown c c1 m a;have G2:=λm a=>cell_grown c c2 m a;have G3:=λm a=>cell_grown c S m a;have G4:=λm a=>cell_grown c T m a;have G5:=λm a=>cell_grown c U m a;have G6:=λm a=>cell_grown c V m a;have P0:=λm a=>cell_grown d.lt X m a;have P1:=λm a=>cell_grown d.lt Y m a;have Z:=am (show∀q,iT (bL L[h]) p=q->(q<0↔fk (bL L[h]) p)from λq y=>by rw[<-y];exact CV _ _);have f:=hC L[h];have HE:=am (show bL L[h]=⟨L[h].addr,L[h].len⟩from rfl);rw[<-ai HE]at f;clear d X Y R c1 c2 S T U V s;obtain⟨q,y⟩:∃q,iT (bL L[h]) p=q:=⟨_,rfl⟩;rw[y]at f;have g:=ai Z q y;clear y Z HE;by_cases B:q<0
   .have l:=am (g.1 B);clear g;generalize L[h]=E at G0 G1 G2 G3 G4 G5 G6 f
    go_quiet_grown (first|(go_at_call 147;refine aL.quiet (f _)))
    go_wp2
    go_roundw
    case rel=>
     refine⟨h+1,j,by omega,J,by go_num,rfl,(ai v).grow _ _,λk x al=>?_,ai O⟩;by_cases o:k=h
     .subst o;exact ai l
     .exact AZ (tu (ai HS) x A (by omega)) (ai l)
    case measure=>simp[intOf];omega
   .have l:=am (λhx=>B (g.2 hx));clear g;have bd:decide (q<0)=false:=by simp;omega
    clear B;generalize L[h]=E at G0 G1 G2 G3 G4 G5 G6 f
    go_quiet_grown (first|(go_at_call 147;refine aL.quiet (f _)))
    go_wp2
    go_roundw
    case rel=>
     refine⟨i,h,by omega,by omega,rfl,rfl,(ai v).grow _ _,ai N,λk x al=>?_⟩;by_cases o:k=h
     .subst o;exact ai l
     .exact λhx=>ai l (AZ (tu (ai HS) A x (by omega)) hx)
    case measure=>simp[intOf];omega
  .have ao:j=i:=by omega
   subst ao;have P:decide ((j:Int)<(j:Int))=false:=by simp
   have ab:=am (show a5S L p j from⟨by rw[ai F];exact J,ai N,ai O⟩);by_cases aq:j<n
   .have ad:j<L.length:=by rw[ai F];exact aq
    have j0:(0:Int)<=(j:Int):=by omega
    have j1:(j:Int)<(n:Int):=by omega
    have c:b<wr.heap.size:=cG t s.below.size;obtain⟨R,c1,c2,S,T,U,V⟩:=qy (ai HC) s.below t j ad;have d:=(ai HP).dY s;have X:=(d.cell 0).trans (show _=some (.int .u32 p.addr)from rfl);have Y:=(d.cell 1).trans (show _=some (.int .i64 p.len)from rfl);have G0:=λm a=>cell_grown c R m a;have G1:=λm a=>cell_grown c c1 m a;have G2:=λm a=>cell_grown c c2 m a;have G3:=λm a=>cell_grown c S m a;have G4:=λm a=>cell_grown c T m a;have G5:=λm a=>cell_grown c U m a;have G6:=λm a=>cell_grown c V m a;have P0:=λm a=>cell_grown d.lt X m a;have P1:=λm a=>cell_grown d.lt Y m a;have z:(L[j]?.map bL==some p)=(iT (bL L[j]) p==0):=by rw[lF ad,ma];simp[NG]
    have HV:=am z;have f:=hC L[j];have HE:=am (show bL L[j]=⟨L[j].addr,L[j].len⟩from rfl);rw[<-ai HE]at f;clear d X Y R c1 c2 S T U V s z;obtain⟨q,y⟩:∃q,iT (bL L[j]) p=q:=⟨_,rfl⟩;rw[y]at f HV;clear y HE;generalize L[j]=E at G0 G1 G2 G3 G4 G5 G6 f;go_wp2_with fail
    go_quiet_grown (first|(go_at_call 147;refine aL.quiet (f _)))
    go_wp2;go_ret2;exact⟨j,ai ab,by rw[ai HV];rfl,(ai HG).trans ((ai v).grow _ _)⟩
   .have ae:j=n:=by omega
    subst ae;have HV:=am (show(L[j]?.map bL==some p)=false by rw[a6x (by rw[ai F];exact aF _)];rfl);clear s;go_wp2_with fail
    go_big_region_o
    go_wp2;go_ret2;exact⟨j,ai ab,by rw[ai HV];rfl,(ai HG).trans (ai v).drew⟩
def a0D(ao cap)(p:Pf)(c w):Calls Gh.prog.{u} 146 #[.slice ao 0 cap,.agg #[.int .u32 p.addr,.int .i64 p.len],c] w λe w'=>e=.returned (.tuple #[.int .i64 0,.bool false])/\aL w w':=by
 have b:=jq.{u};have a:=am ((aL.refl w).alloc (.cells #[.int .u32 p.addr,.int .i64 p.len] 32));go_enter Gh.func146,Tryz.ntmps146;go_wp2_with fail;generalize w.alloc (.cells #[.int .u32 p.addr,.int .i64 p.len] 32)=W at*;refine wp_loop_rounds 1 ?_;rw[rounds_succ];go_wp2_with fail
 go_big_region_o
 go_wp2;go_ret2;exact⟨rfl,(ai a).drew⟩
def a0C(ao n cap L p w)(a:L.length=n)(h:n<=1000000)(c:jy L)(k:fP w ao L):Calls Gh.prog.{u} 146 #[.slice ao n cap,.agg #[.int .u32 p.addr,.int .i64 p.len],.func (.func 147) #[] #[]] w λe w'=> ∃i,a5S L p i/\e=.returned (.tuple #[.int .i64 i,.bool ((L[i]?.map bL)==some p)])/\aL w w':=by
 by_cases h0:n=0
 .subst h0;have:L=[]:=fq a;subst this;refine(a0D ao cap p _ w).mono ?_;rintro e w' ⟨rfl,l⟩;exact⟨0,⟨aF _,λj d=>by simp at d,λj d=>by simp at d⟩,rfl,l⟩
 .rcases k with rfl|⟨b,f,rfl,g⟩
  .simp at a;omega
  .exact a0E b f n cap L p w a h c (qz g (by omega)) g
end
section
universe u
open Go.RowKit
attribute [local go_sem ↓] Go.wp_at_zero Go.wp_at_succ
def Bw(L):∀u∈aM L,u.oneCell'=true:=by intro u a;simp only[aM,a7H]at a;obtain⟨r,_,b⟩:=a;exact qC r u b
def oT{w:aa}{base g n cap a}{e b:Nat}(h:w.ownsRow base e b (.slice (some ⟨g,0,none⟩) n cap) n a):∀j u,a[j]?=some u->w.cell? ((⟨g,0,none⟩:ap).add j)=some u:=h.cells (g:=g) rfl
def Ny(base g n cap d w)(h0:0<n)(y:n<=1000000)(s:∀u∈d,u.oneCell'=true)(h:w.ownsRow base 137 7 (.slice (some ⟨g,0,none⟩) n cap) n d):Calls Gh.prog.{u} 95 #[.slice (some ⟨g,0,none⟩) n cap] w λe w'=> ∃v,e=.returned v/\w'.ownsRow w.heap.size 137 7 v n d/\Below w.heap.size w w':=by obtain⟨t,i,j,k,l⟩:=info_parts Gh.p8.{u};have z:∀(w:aa) (a:Option ap) (n c m o:Nat),(binOp .eql 118 (.slice a n c) (.slice none m o)).run Gh.prog.{u} w=.ok (.bool a.isNone) w:=λw a n c m o=>Lib.run_eql_slice_nil w _ _ a n c m o Gh.underlying118;have f:d.length=n*7:=h.1;have x:=am (oT (da h (bH w (.cells #[] 137)) (aF _)));clear h;go_enter Gh.func95,Tryz.ntmps95;go_wp2_with (at_builtin;go_loud (refine wpList_append_lies _ rfl (.tmp 5) (.tmp 6) 118 rfl w.heap.size 137 t (.agg #[.int .u32 0,.int .i64 0,.int .i64 0,.int .i64 0,.int .i64 0,.int .i64 0,.bool false]) 7 56 Gh.underlying118 i j k l rfl (by decide) (.slice (some ⟨w.heap.size,0,none⟩) 0 0) 0 [] rfl ⟨rfl,.inr ⟨w.heap.size,0,#[],rfl,aF _,by exact heap_alloc_new w _,aF _,by unfold maxLen;omega,rfl,rfl⟩⟩ ⟨g,0,none⟩ n cap d rfl f (ai x) s h0 (by unfold maxLen;omega) (by omega) (by simp) (w.heap.size+1) (by simp) ?_;intro A c1 B b p q r;simp only[dG,gP]at b));go_ret;exact⟨_,rfl,b,(bH w _).trans ((Below.refl _ _).grown p (by simp) (by simp[Value.ownBlock]))⟩
def Nz(a cap w):Calls Gh.prog.{u} 95 #[.slice (some a) 0 cap] w λe w'=> ∃v,e=.returned v/\w'.ownsRow w.heap.size 137 7 v 0 []/\Below w.heap.size w w':=by obtain⟨m,d,f,g,h⟩:=info_parts Gh.p8.{u};have q:∀(w:aa) (a:Option ap) (n c i k:Nat),(binOp .eql 118 (.slice a n c) (.slice none i k)).run Gh.prog.{u} w=.ok (.bool a.isNone) w:=λw a n c i k=>Lib.run_eql_slice_nil w _ _ a n c i k Gh.underlying118;go_enter Gh.func95,Tryz.ntmps95;go_wp2_with (at_builtin;go_loud (refine wpList_append_own _ rfl (.tmp 5) (.tmp 6) 118 rfl w.heap.size 137 m (.agg #[.int .u32 0,.int .i64 0,.int .i64 0,.int .i64 0,.int .i64 0,.int .i64 0,.bool false]) 7 56 Gh.underlying118 d f g h rfl (by decide) (.slice (some ⟨w.heap.size,0,none⟩) 0 0) 0 [] rfl ⟨rfl,.inr ⟨w.heap.size,0,#[],rfl,aF _,by exact heap_alloc_new w _,aF _,by unfold maxLen;omega,rfl,rfl⟩⟩ a 0 cap [] rfl rfl (by intro j u o;simp at o) (by simp) (by decide) (by decide) (by simp) ?_;intro r s b l p));go_ret;exact⟨_,rfl,b,(bH w _).trans ((Below.refl _ _).grown l (by simp) (by simp[Value.ownBlock]))⟩
def Nx(w):Calls Gh.prog.{u} 95 #[.slice none 0 0] w λe w'=> ∃v,e=.returned v/\w'.ownsRow w.heap.size 137 7 v 0 []/\Below w.heap.size w w':=by have f:∀(w:aa) (a:Option ap) (n c b d:Nat),(binOp .eql 118 (.slice a n c) (.slice none b d)).run Gh.prog.{u} w=.ok (.bool a.isNone) w:=λw a n c b d=>Lib.run_eql_slice_nil w _ _ a n c b d Gh.underlying118;go_enter Gh.func95,Tryz.ntmps95;go_wp2;go_ret;exact⟨_,rfl,World.ownsRow_nil _ _ _ _,Below.refl _ _⟩
def CO(base v L w)(f:L.length<=1000000)(c:w.ownsRow base 137 7 v L.length (aM L)):Calls Gh.prog.{u} 95 #[v] w λe w'=> ∃d,e=.returned d/\w'.ownsRow w.heap.size 137 7 d L.length (aM L)/\Below w.heap.size w w':=by
 have b:=c;obtain⟨i,⟨rfl,h0⟩|⟨g,a,h,rfl,j⟩⟩:=b
 .have:L=[]:=fq h0;subst this;exact Nx w
 .by_cases h0:L.length=0
  .have:L=[]:=fq h0;subst this;exact Nz _ a w
  .exact Ny base g L.length a (aM L) w (by omega) f (Bw L) c
end
section
universe u
open Go.RowKit
attribute [local go_sem ↓] Go.wp_at_zero Go.wp_at_succ
def nK(r:Rw):List af:=[.int .u32 r.addr,.int .i64 r.len,.int .i64 r.tag,.int .i64 r.met,.int .i64 r.az]
def kE(L:List Rw):List af:=L.flatMap nK
def ZX(L r):kE (L++[r])=kE L++nK r:=by simp[kE]
def ZW(r):∀u∈nK r,u.oneCell'=true:=by intro u a;simp[nK]at a;obtain rfl|rfl|rfl|rfl|rfl:=a<;>rfl
theorem Gh.Ty:(Gh.prog.{u}.info? 52).map (λi=>(i.zero,i.size,i.bytes))=some (some (.agg #[.int .u32 0,.int .i64 0,.int .i64 0,.int .i64 0,.int .i64 0]),5,40):=by kernel_rfl
def a0s{w base n cap ao L}(h:w.ownsRow base 137 7 (.slice ao n cap) n (aM L)):fP w ao L:=nM h
def a4m(ao cap L w)(Q:L.length<=1000000)(F:fP w ao L):Calls Gh.prog.{u} 51 #[.agg #[.slice ao L.length cap],.func (.func 52) #[] #[]] w λe w'=> ∃v,e=.returned v/\w'.ownsRow w.heap.size 52 5 v L.length (kE L)/\Below w.heap.size w w':=by
 obtain⟨H,n,t,o,x⟩:=info_parts Gh.Ty.{u};have M:=am F;have N:=am (aK.new w #[.slice ao L.length cap] 120);clear F;go_enter Gh.func51,Tryz.ntmps51;go_wp2_with (at_make;go_loud (refine wpList_make_own _ rfl _ _ 57 rfl w.heap.size 52 H (.agg #[.int .u32 0,.int .i64 0,.int .i64 0,.int .i64 0,.int .i64 0]) 5 Gh.underlying57 n t o _ _ _ L.length rfl rfl (by omega) (by rw[x];omega) (by unfold maxLen;omega) (by simp) ?_);intro w2 a j;have I:=(((ai N).below ((Below.refl _ _).grown j (aF _) (by simp)) (by simp)).cell 0).trans (show _=some (.slice ao L.length cap)from rfl));simp only[World.size_alloc]at a;have O:w.heap.size+2<=w2.heap.size:=iH a;have y:Below w.heap.size w w2:=(bH w _).trans ((Below.refl _ _).grown j (by simp) (by simp));clear j I
 go_loopw [5,15] (λd i wr=> ∃k:Nat,k<=L.length/\i=.int .i64 k/\d=.slice (some ⟨w.heap.size+1,0,none⟩) k L.length/\wr.ownsRow w.heap.size 52 5 (.slice (some ⟨w.heap.size+1,0,none⟩) k L.length) k (kE (L.take k))/\Below w.heap.size w wr) (λ_ i _=>L.length - (intOf i).toNat)
 case atStart=>exact⟨0,by omega,rfl,rfl,by simpa[kE]using a,y⟩
 case round=>
  obtain⟨k,R,rfl,rfl,b,s⟩:=hrel;by_cases f:k<L.length
  .rcases jx (ai M) s with h0|⟨g,P,rfl,p⟩
   .rw[h0]at f;simp at f
   .obtain⟨I,c1,c2,S,T,U,V⟩:=p k f;have q:kE (L.take (k+1))=kE (L.take k)++nK L[k]:=by rw[kL f,ZX]
    have z:=am q;have J:=am s;clear q s p;have W:(0:Int)<=(k:Int):=by omega
    have X:(k:Int)<(L.length:Int):=by omega
    generalize L[k]=E at*;go_wp2_with (first|(go_at_call 52;refine(Mb E _).mono ?_;rintro e K ⟨rfl,r⟩;have c:=((aL.refl wr).alloc _).trans r;have l:=lj b (c.below.block _ (iH b));have A:=am c;clear r c)|(at_builtin;go_loud (refine wpList_append_fits _ rfl (.tmp 19) (.tmp 23) 57 rfl w.heap.size 52 H 5 Gh.underlying57 n o (w.heap.size+1) k L.length _ rfl (l.alloc _) ⟨K.heap.size,0,none⟩ 1 1 (nK E) rfl rfl (by exact World.news_of_block (heap_alloc_new K _)) (ZW _) (by omega) ?_;intro Y m B)))
    go_roundw
    case rel=>refine⟨k+1,by omega,by go_num,rfl,by rw[ai z];exact m,?_⟩;have C:=(ai J).trans ((ai A).below.mono (ai J).size);exact(C.alloc C.size _).grown B (by have:=C.size;simp;omega) (by simp)
    case measure=>simp[intOf];omega
  .have D:k=L.length:=by omega
   subst D;have h:=am b;rw[nX]at h;clear b;go_wp2;go_ret;exact⟨_,rfl,ai h,s⟩
def ZY(V ao cap L w)(d:L.length<=1000000)(b:aK w V #[.slice ao L.length cap] 122)(c:fP w ao L):Calls Gh.prog.{u} 19 #[.pointer (some ⟨V,0,none⟩)] w λe w'=> ∃v,e=.returned v/\w'.ownsRow w.heap.size 52 5 v L.length (kE L)/\Below w.heap.size w w':=by have f:=a4m.{u} ao cap L w d c;have h:=(b.cell 0).trans (show _=some (.slice ao L.length cap)from rfl);clear c b;go_enter Gh.func19,Tryz.ntmps19;go_wp2_with (go_at_call 51;refine f.mono ?_;rintro e i ⟨v,rfl,a,g⟩);go_ret;exact⟨v,rfl,a,g⟩
end
section
universe u
open Go.RowKit Go.Shelf
attribute [local go_sem ↓] Go.wp_at_zero Go.wp_at_succ
def jP(to:Int)(r:Rw):aT:=⟨r.addr,r.len,r.tag,if r.az=to then 16 else r.met⟩
def Tk(to r w):Calls Gh.prog.{u} 91 #[.int .i64 to,.agg #[.int .u32 r.addr,.int .i64 r.len,.int .i64 r.tag,.int .i64 r.met,.int .i64 r.az,.int .i64 r.bM,.bool r.ci]] w λe w'=>e=.returned (.agg #[.int .u32 (jP to r).addr,.int .i64 (jP to r).len,.int .i64 (jP to r).tag,.int .i64 (jP to r).met])/\aL w w':=by
 by_cases h:r.az=to
 .have e:(jP to r).met=16:=if_pos h;rw[e];clear e;go_enter Gh.func91,Tryz.ntmps91;go_wp2;exact bodyPost_ret (v:=.agg #[.int .u32 r.addr,.int .i64 r.len,.int .i64 r.tag,.int .i64 16]) (by simp[results,Tryz.results91,go_sem]) rfl ⟨rfl,((aL.refl w).alloc _).alloc _⟩
 .have e:(jP to r).met=r.met:=if_neg h;rw[e];clear e;go_enter Gh.func91,Tryz.ntmps91;go_wp2;exact bodyPost_ret (v:=.agg #[.int .u32 r.addr,.int .i64 r.len,.int .i64 r.tag,.int .i64 r.met]) (by simp[results,Tryz.results91,go_sem]) rfl ⟨rfl,((aL.refl w).alloc _).alloc _⟩
def dz(to:Int)(L:List Rw):List aT:=L.map (jP to)
def S8(to)(L:List Rw)(k)(h:k<L.length):eY (dz to (L.take (k+1)))=eY (dz to (L.take k))++jf (jP to L[k]):=by rw[kL h];simp only[dz,eY,nW,List.flatMap_append,cA,d7,jF,List.flatMap_nil,a6W]
def Qq(e):∀u∈jf e,u.oneCell'=true:=by intro u a;simp[jf]at a;obtain rfl|rfl|rfl|rfl:=a<;>rfl
def a4k(to ao cap L w)(O:L.length<=1000000)(C:fP w ao L):Calls Gh.prog.{u} 90 #[.agg #[.slice ao L.length cap],.func (.func 91) #[.int .i64 to] #[]] w λe w'=> ∃g,e=.returned (.slice (some ⟨g,0,none⟩) L.length L.length)/\w'.ownsRow w.heap.size 42 4 (.slice (some ⟨g,0,none⟩) L.length L.length) L.length (eY (dz to L))/\Below w.heap.size w w':=by
 obtain⟨D,n,s,o,t⟩:=info_parts Gh.Fi.{u};have J:=am C;have K:=am (aK.new w #[.slice ao L.length cap] 120);clear C;go_enter Gh.func90,Tryz.ntmps90;go_wp2_with (at_make;go_loud (refine wpList_make_own _ rfl _ _ 43 rfl w.heap.size 42 D (.agg #[.int .u32 0,.int .i64 0,.int .i64 0,.int .i64 0]) 4 Gh.underlying43 n s o _ _ _ L.length rfl rfl (by omega) (by rw[t];omega) (by unfold maxLen;omega) (by simp) ?_);intro w2 a j;have F:=(((ai K).below ((Below.refl _ _).grown j (aF _) (by simp)) (by simp)).cell 0).trans (show _=some (.slice ao L.length cap)from rfl));simp only[World.size_alloc]at a;have M:w.heap.size+2<=w2.heap.size:=iH a;have v:Below w.heap.size w w2:=(bH w _).trans ((Below.refl _ _).grown j (by simp) (by simp));clear j F
 go_loopw [5,15] (λd i wr=> ∃k:Nat,k<=L.length/\i=.int .i64 k/\d=.slice (some ⟨w.heap.size+1,0,none⟩) k L.length/\wr.ownsRow w.heap.size 42 4 (.slice (some ⟨w.heap.size+1,0,none⟩) k L.length) k (eY (dz to (L.take k)))/\Below w.heap.size w wr) (λ_ i _=>L.length - (intOf i).toNat)
 case atStart=>exact⟨0,by omega,rfl,rfl,by simpa[eY,dz]using a,v⟩
 case round=>
  obtain⟨k,P,rfl,rfl,b,r⟩:=hrel;by_cases f:k<L.length
  .rcases jx (ai J) r with h0|⟨g,N,rfl,p⟩
   .rw[h0]at f;simp at f
   .obtain⟨F,c1,c2,Q,R,S,T⟩:=p k f;have x:=am (S8 to L k f);have H:=am r;clear r p;have U:(0:Int)<=(k:Int):=by omega
    have V:(k:Int)<(L.length:Int):=by omega
    generalize L[k]=E at*;go_wp2_with (first|(go_at_call 91;refine(Tk to E _).mono ?_;rintro e I ⟨rfl,q⟩;have c:=((aL.refl wr).alloc _).trans q;have l:=lj b (c.below.block _ (iH b));have y:=am c;clear q c)|(at_builtin;go_loud (refine wpList_append_fits _ rfl (.tmp 19) (.tmp 23) 43 rfl w.heap.size 42 D 4 Gh.underlying43 n o (w.heap.size+1) k L.length _ rfl (l.alloc _) ⟨I.heap.size,0,none⟩ 1 1 (jf (jP to E)) rfl rfl (by exact World.news_of_block (heap_alloc_new I _)) (Qq _) (by omega) ?_;intro W m z)))
    go_roundw
    case rel=>refine⟨k+1,by omega,by go_num,rfl,by rw[ai x];exact m,?_⟩;have A:=(ai H).trans ((ai y).below.mono (ai H).size);exact(A.alloc A.size _).grown z (by have:=A.size;simp;omega) (by simp)
    case measure=>simp[intOf];omega
  .have B:k=L.length:=by omega
   subst B;have h:=am b;rw[nX]at h;clear b;go_wp2;go_ret;exact⟨_,rfl,ai h,r⟩
end
end Go.Proofs.q
end
