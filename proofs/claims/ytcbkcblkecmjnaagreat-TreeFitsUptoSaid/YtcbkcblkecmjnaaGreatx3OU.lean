/-
  The laws as plain functions. No condition.
-/
import Derived.KernelRfl
import Derived.Test.YtcbkcblkecmjnaaGreatx3T
import Derived.Test.YtcbkcblkecmjnaaGreatx3OpenU
namespace Go.Proofs.YtcbkcblkecmjnaaGreat
open Go Go.RowKit
def zav (x:za):Prop:=(x.Name.length≤140737488351232∧x.Name.length≤1048576)∧((Lit.int .i64 x.Number).wf=true)∧((Lit.int .i64 x.Kind).wf=true)∧(True)∧(True)∧((Lit.int .i64 x.Of).wf=true)
theorem zEx:zgI Tryz.prog 64 zb zav:=zmQ (S:=fun l=>∃y0 l0,l=Rp.str.lv y0++l0∧(y0.length≤140737488351232∧y0.length≤1048576)∧∃y1 l1,l0=(Rp.int .i64).lv y1++l1∧((Lit.int .i64 y1).wf=true)∧∃y2 l2,l1=(Rp.int .i64).lv y2++l2∧((Lit.int .i64 y2).wf=true)∧∃y3 l3,l2=Rp.bool.lv y3++l3∧(True)∧∃y4 l4,l3=Rp.bool.lv y4++l4∧(True)∧∃y5 l5,l4=(Rp.int .i64).lv y5++l5∧((Lit.int .i64 y5).wf=true)∧l5=[]) Tryz.underlying64 (by kernel_rfl) (by intro n;refine zdz (r:=Rp.str) (W:=fun x=>x.length≤140737488351232∧x.length≤1048576) ((fun _=>zoq Tryz.underlying9) n) rfl (by kernel_rfl) ?_;refine zdz (r:=(Rp.int .i64)) (W:=fun x=>(Lit.int .i64 x).wf=true) ((fun _=>zjo Tryz.underlying3) n) rfl (by kernel_rfl) ?_;refine zdz (r:=(Rp.int .i64)) (W:=fun x=>(Lit.int .i64 x).wf=true) ((fun _=>zjo Tryz.underlying3) n) rfl (by kernel_rfl) ?_;refine zdz (r:=Rp.bool) (W:=fun x=>True) ((fun _=>zqM Tryz.underlying4) n) rfl (by kernel_rfl) ?_;refine zdz (r:=Rp.bool) (W:=fun x=>True) ((fun _=>zqM Tryz.underlying4) n) rfl (by kernel_rfl) ?_;refine zdz (r:=(Rp.int .i64)) (W:=fun x=>(Lit.int .i64 x).wf=true) ((fun _=>zjo Tryz.underlying3) n) rfl (by kernel_rfl) ?_;exact @zoN _ _ _) (by rintro _ ⟨y0,l0,rfl,w0,y1,l1,rfl,w1,y2,l2,rfl,w2,y3,l3,rfl,w3,y4,l4,rfl,w4,y5,l5,rfl,w5,rfl⟩;exact ⟨⟨y0,y1,y2,y3,y4,y5⟩,rfl,w0,w1,w2,w3,w4,w5⟩)
theorem zFN:zgI Tryz.prog 71 (Rp.list zb) (fun x=>x.length*48≤140737488351232∧x.length≤1048576∧∀x'∈x,zav x'):=ziP Tryz.underlying71 (by kernel_rfl) (by kernel_rfl) zEx
def zhh (x:zg):Prop:=(x.Name.length≤140737488351232∧x.Name.length≤1048576)∧(x.Fields.length*48≤140737488351232∧x.Fields.length≤1048576∧∀x_Fields'∈x.Fields,zav x_Fields')
theorem zFO:zgI Tryz.prog 73 zi zhh:=zmQ (S:=fun l=>∃y0 l0,l=Rp.str.lv y0++l0∧(y0.length≤140737488351232∧y0.length≤1048576)∧∃y1 l1,l0=(Rp.list zb).lv y1++l1∧(y1.length*48≤140737488351232∧y1.length≤1048576∧∀y1'∈y1,zav y1')∧l1=[]) Tryz.underlying73 (by kernel_rfl) (by intro n;refine zdz (r:=Rp.str) (W:=fun x=>x.length≤140737488351232∧x.length≤1048576) ((fun _=>zoq Tryz.underlying9) n) rfl (by kernel_rfl) ?_;refine zdz (r:=(Rp.list zb)) (W:=fun x=>x.length*48≤140737488351232∧x.length≤1048576∧∀x'∈x,zav x') (zFN n) rfl (by kernel_rfl) ?_;exact @zoN _ _ _) (by rintro _ ⟨y0,l0,rfl,w0,y1,l1,rfl,w1,rfl⟩;exact ⟨⟨y0,y1⟩,rfl,w0,w1⟩)
theorem zFK:zgI Tryz.prog 23 (Rp.list zi) (fun x=>x.length*40≤140737488351232∧x.length≤1048576∧∀x'∈x,zhh x'):=ziP Tryz.underlying23 (by kernel_rfl) (by kernel_rfl) zFO
mutual
def zbY:zf→Prop
  | ⟨x0,x1⟩=>(x0.length*80≤140737488351232∧x0.length≤1048576∧zbp x0)∧(x1.length*16≤140737488351232∧x1.length≤1048576∧∀x1'∈x1,x1'.length≤140737488351232∧x1'.length≤1048576)
def zde:List zf→Prop
  | []=>True
  | x::l=>zbY x∧zde l
def zaq:zc→Prop
  | ⟨x0,x1,x2,x3⟩=>((Lit.int .i64 x0).wf=true)∧(x1.length*8≤140737488351232∧x1.length≤1048576∧∀x1'∈x1,(Lit.int .u64 x1').wf=true)∧(x2.length*16≤140737488351232∧x2.length≤1048576∧∀x2'∈x2,x2'.length≤140737488351232∧x2'.length≤1048576)∧(x3.length*48≤140737488351232∧x3.length≤1048576∧zde x3)
def zbp:List zc→Prop
  | []=>True
  | x::l=>zaq x∧zbp l
end
theorem zgt:∀(l:List zf),zde l↔∀x∈l,zbY x
  | []=>by simp [zde]
  | x::l=>by rw [zde,zgt l];simp
theorem zja (x:zf):zbY x↔(x.Values.length*80≤140737488351232∧x.Values.length≤1048576∧zbp x.Values)∧(x.Unknown.length*16≤140737488351232∧x.Unknown.length≤1048576∧∀x_Unknown'∈x.Unknown,x_Unknown'.length≤140737488351232∧x_Unknown'.length≤1048576):=by cases x;simp only [zbY]
theorem zdE:∀(l:List zc),zbp l↔∀x∈l,zaq x
  | []=>by simp [zbp]
  | x::l=>by rw [zbp,zdE l];simp
theorem zfJ (x:zc):zaq x↔((Lit.int .i64 x.Number).wf=true)∧(x.Words.length*8≤140737488351232∧x.Words.length≤1048576∧∀x_Words'∈x.Words,(Lit.int .u64 x_Words').wf=true)∧(x.Texts.length*16≤140737488351232∧x.Texts.length≤1048576∧∀x_Texts'∈x.Texts,x_Texts'.length≤140737488351232∧x_Texts'.length≤1048576)∧(x.Subs.length*48≤140737488351232∧x.Subs.length≤1048576∧zde x.Subs):=by cases x;simp only [zaq]
theorem zEw:zgI Tryz.prog 28 (Rp.list Rp.str) (fun x=>x.length*16≤140737488351232∧x.length≤1048576∧∀x'∈x,x'.length≤140737488351232∧x'.length≤1048576):=ziP Tryz.underlying28 (by kernel_rfl) (by kernel_rfl) (fun _=>zoq Tryz.underlying9)
theorem zFL:zgI Tryz.prog 47 (Rp.list (Rp.int .u64)) (fun x=>x.length*8≤140737488351232∧x.length≤1048576∧∀x'∈x,(Lit.int .u64 x').wf=true):=ziP Tryz.underlying47 (by kernel_rfl) (by kernel_rfl) (fun _=>zjo Tryz.underlying75)
theorem zFa:∀(n m:Nat),m≤n→zhD Tryz.prog m 30 zj zbY∧zhD Tryz.prog m 50 zd zaq:=by
  intro n
  induction n with
  | zero => intro m hm; obtain rfl : m = 0 := by omega
            exact ⟨zfV,zfV⟩
  | succ n ih=>
    intro m hm
    cases m with
    | zero=>exact ⟨zfV,zfV⟩
    | succ m=>
      refine ⟨?_,?_⟩
      · refine zkJ (S:=fun l=>∃y0 l0,l=(Rp.list zd).lv y0++l0∧(y0.length*80≤140737488351232∧y0.length≤1048576∧∀y∈y0,zaq y)∧∃y1 l1,l0=(Rp.list Rp.str).lv y1++l1∧(y1.length*16≤140737488351232∧y1.length≤1048576∧∀y1'∈y1,y1'.length≤140737488351232∧y1'.length≤1048576)∧l1=[]) Tryz.underlying30 (by kernel_rfl) (by refine zdz (r:=Rp.list zd) (W:=fun x=>x.length*80≤140737488351232∧x.length≤1048576∧∀y∈x,zaq y) (zpb Tryz.underlying27 (by kernel_rfl) (by kernel_rfl) (fun q hq=>(ih q (by omega)).2)) rfl (by kernel_rfl) ?_;refine zdz (r:=(Rp.list Rp.str)) (W:=fun x=>x.length*16≤140737488351232∧x.length≤1048576∧∀x'∈x,x'.length≤140737488351232∧x'.length≤1048576) (zEw m) rfl (by kernel_rfl) ?_;exact @zoN _ _ _) ?_
        rintro _ ⟨y0,l0,rfl,w0,y1,l1,rfl,w1,rfl⟩
        exact ⟨⟨y0,y1⟩,by rw [zab]<;>rfl,(zja _).2 ⟨⟨w0.1,w0.2.1,(zdE _).2 w0.2.2⟩,w1⟩⟩
      · refine zkJ (S:=fun l=>∃y0 l0,l=(Rp.int .i64).lv y0++l0∧((Lit.int .i64 y0).wf=true)∧∃y1 l1,l0=(Rp.list (Rp.int .u64)).lv y1++l1∧(y1.length*8≤140737488351232∧y1.length≤1048576∧∀y1'∈y1,(Lit.int .u64 y1').wf=true)∧∃y2 l2,l1=(Rp.list Rp.str).lv y2++l2∧(y2.length*16≤140737488351232∧y2.length≤1048576∧∀y2'∈y2,y2'.length≤140737488351232∧y2'.length≤1048576)∧∃y3 l3,l2=(Rp.list zj).lv y3++l3∧(y3.length*48≤140737488351232∧y3.length≤1048576∧∀y∈y3,zbY y)∧l3=[]) Tryz.underlying50 (by kernel_rfl) (by refine zdz (r:=(Rp.int .i64)) (W:=fun x=>(Lit.int .i64 x).wf=true) ((fun _=>zjo Tryz.underlying3) m) rfl (by kernel_rfl) ?_;refine zdz (r:=(Rp.list (Rp.int .u64))) (W:=fun x=>x.length*8≤140737488351232∧x.length≤1048576∧∀x'∈x,(Lit.int .u64 x').wf=true) (zFL m) rfl (by kernel_rfl) ?_;refine zdz (r:=(Rp.list Rp.str)) (W:=fun x=>x.length*16≤140737488351232∧x.length≤1048576∧∀x'∈x,x'.length≤140737488351232∧x'.length≤1048576) (zEw m) rfl (by kernel_rfl) ?_;refine zdz (r:=Rp.list zj) (W:=fun x=>x.length*48≤140737488351232∧x.length≤1048576∧∀y∈x,zbY y) (zpb Tryz.underlying48 (by kernel_rfl) (by kernel_rfl) (fun q hq=>(ih q (by omega)).1)) rfl (by kernel_rfl) ?_;exact @zoN _ _ _) ?_
        rintro _ ⟨y0,l0,rfl,w0,y1,l1,rfl,w1,y2,l2,rfl,w2,y3,l3,rfl,w3,rfl⟩
        exact ⟨⟨y0,y1,y2,y3⟩,by rw [zx]<;>rfl,(zfJ _).2 ⟨w0,w1,w2,⟨w3.1,w3.2.1,(zgt _).2 w3.2.2⟩⟩⟩
theorem zFM:zgI Tryz.prog 50 zd zaq:=fun n=>(zFa n n (Nat.le_refl _)).2
end Go.Proofs.YtcbkcblkecmjnaaGreat
