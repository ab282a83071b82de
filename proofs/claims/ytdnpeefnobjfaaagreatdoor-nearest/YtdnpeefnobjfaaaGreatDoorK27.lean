import Derived.Test.YtdnpeefnobjfaaaGreatDoorK22
set_option maxRecDepth 100000
set_option maxHeartbeats 4000000
set_option linter.all false
section
namespace Go.Proofs.q
open Go.RowKit Go.Shelf Go.Lib
attribute [local go_sem ↓] Go.wp_at_zero Go.wp_at_succ
def Oy(R V base a L cv v w)(x:dK w base R a L V cv v)(y:a.length<=8)(Q:L.length<=100)(S:jb L):Calls Gh.prog.{0} 53 #[.pointer (some ⟨R,0,none⟩),.func (.func 55) #[] #[]] w λe q=> ∃u r c,e=.returned u/\dK q base R a (d7 L) r cv c/\w.grownBy q (some R)/\w.heap.size<=r/\q.ownsRow w.heap.size 137 7 c (d7 L).length (aK (d7 L))/\q.ownsRow w.heap.size 64 2 u (a.length*aY (id L).length) (jI a.length (id L)):=by
 have z:=x.blk.lt;have d:aJ w (((w.alloc (.cells #[.pointer (some ⟨R,0,none⟩)] 33)).alloc (.cells #[.func (.func 55) #[] #[]] 129)).alloc (.cells #[.slice none 0 0] 46)):=(((aJ.refl w).alloc _).alloc _).alloc _;have h:(((w.alloc (.cells #[.pointer (some ⟨R,0,none⟩)] 33)).alloc (.cells #[.func (.func 55) #[] #[]] 129)).alloc (.cells #[.slice none 0 0] 46)).heap.size=w.heap.size+3:=a9i
 have O:aE (((w.alloc (.cells #[.pointer (some ⟨R,0,none⟩)] 33)).alloc (.cells #[.func (.func 55) #[] #[]] 129)).alloc (.cells #[.slice none 0 0] 46)) w.heap.size #[.pointer (some ⟨R,0,none⟩)] 33:=((aE.new w _ _).alloc _).alloc _;have P:aE (((w.alloc (.cells #[.pointer (some ⟨R,0,none⟩)] 33)).alloc (.cells #[.func (.func 55) #[] #[]] 129)).alloc (.cells #[.slice none 0 0] 46)) (w.heap.size+1) #[.func (.func 55) #[] #[]] 129:=(mK w _ _ _ _).alloc _;have s:aE (((w.alloc (.cells #[.pointer (some ⟨R,0,none⟩)] 33)).alloc (.cells #[.func (.func 55) #[] #[]] 129)).alloc (.cells #[.slice none 0 0] 46)) (w.heap.size+2) #[.slice none 0 0] 46:=by have:=aE.new ((w.alloc (.cells #[.pointer (some ⟨R,0,none⟩)] 33)).alloc (.cells #[.func (.func 55) #[] #[]] 129)) #[.slice none 0 0] 46;simpa only[World.size_alloc]using this
 have b:=x.below d.below;have A:=PL w.heap.size (w.heap.size+1) (w.heap.size+2) (a.length*aY (id L).length) R V base (.slice none 0 0) (jI a.length (id L)) a L (d7 L) cv v (((w.alloc (.cells #[.pointer (some ⟨R,0,none⟩)] 33)).alloc (.cells #[.func (.func 55) #[] #[]] 129)).alloc (.cells #[.slice none 0 0] 46)) b b.AJ s
  (λW i=>Ox w.heap.size (w.heap.size+1) (w.heap.size+2) R base (.slice none 0 0) (.int .i32 1) (.int .u32 0) (.pointer (some ⟨V,0,none⟩)) cv v a L W
   ((((O.other (p:=⟨R,1,none⟩) (b0W z) (.int .i32 1)).below i (by rw[h];omega)).cell 0).trans rfl)
   ((((P.other (p:=⟨R,1,none⟩) (show R≠w.heap.size+1 by omega) (.int .i32 1)).below i (by rw[h];omega)).cell 0).trans rfl)
   ((s.other (p:=⟨R,1,none⟩) (show R≠w.heap.size+2 by omega) (.int .i32 1)).below i (by rw[h];omega))
   ((b.blk.set 1 (.int .i32 1)).below i (by rw[h];omega)) (b.Ih i) y Q S (b.locked i))
 have B:=ak d;have C:=ak s;have D:=ak h;clear x b O P s d h;go_enter Gh.func53,Tryz.ntmps53;go_wp2_with (go_at_call 44;refine A.mono ?_;rintro e T ⟨rfl,r,c,u,j,f,E,l,g⟩;obtain⟨U,X,rfl⟩:=dH g;have F:=((af C).set 0 (.slice U (a.length*aY (id L).length) X));have n:aE T (w.heap.size+2) _ _:=(f.block (w.heap.size+2) F.lt a9l).trans F;have Y:=n.cell 0;simp at Y;have H:=ak j;have I:=ak f;have J:=ak l;have K:=ak g;clear j f l g F n);go_ret;have M:=af D;rw[M]at E;refine⟨_,r,c,rfl,af H,?_,a9h,dY (af J) (by rw[M];omega),dY (af K) (by rw[M];omega)⟩;have o:=af I;have t:=af B;refine⟨o.os.trans t.below.os,o.tape.trans t.below.tape,o.output.trans t.below.output,?_,λk Z N=>?_⟩
 .have:=o.size;simp at this;omega
 .rw[o.block k a9l N,Below.heap_setCell _ _ _ _ (show k≠w.heap.size+2 by omega)];exact t.below.block k Z
def a5F(R V base a L cv g w)(h:dK w base R a L V cv g)(f:a.length<=8)(i:L.length<=100)(j:jb L):Calls Gh.prog.{0} 21 #[.pointer (some ⟨R,0,none⟩)] w λe c=> ∃u d b,e=.returned u/\dK c base R a (d7 L) d cv b/\w.grownBy c (some R)/\w.heap.size<=d/\c.ownsRow w.heap.size 137 7 b (d7 L).length (aK (d7 L))/\c.ownsRow w.heap.size 64 2 u (a.length*aY (id L).length) (jI a.length (id L)):=by have k:=Oy R V base a L cv g w h f i j;clear h;go_enter Gh.func21,Tryz.ntmps21;go_wp2_with (go_at_call 53;refine k.mono ?_;rintro e r ⟨u,d,b,rfl,l,n,o,p,q⟩);go_ret;exact⟨_,d,b,rfl,l,n,o,p,q⟩
end Go.Proofs.q
end
