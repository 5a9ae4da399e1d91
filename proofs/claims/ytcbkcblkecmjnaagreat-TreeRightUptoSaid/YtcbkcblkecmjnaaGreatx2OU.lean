/-
  The laws as plain functions. No condition.
-/
import Derived.KernelRfl
import Derived.Test.YtcbkcblkecmjnaaGreatx2T
import Derived.Test.YtcbkcblkecmjnaaGreatx2OpenU
namespace Go.Proofs.YtcbkcblkecmjnaaGreat
open Go Go.RowKit
def zbe (x:ze):Prop:=(x.Name.length≤140737488351232∧x.Name.length≤1048576)∧((Lit.int .i64 x.Number).wf=true)∧((Lit.int .i64 x.Kind).wf=true)∧(True)∧(True)∧((Lit.int .i64 x.Of).wf=true)
theorem zIW:ziF Tryz.prog 64 zf zbe:=zpt (S:=fun l=>∃y0 l0,l=Rp.str.lv y0++l0∧(y0.length≤140737488351232∧y0.length≤1048576)∧∃y1 l1,l0=(Rp.int .i64).lv y1++l1∧((Lit.int .i64 y1).wf=true)∧∃y2 l2,l1=(Rp.int .i64).lv y2++l2∧((Lit.int .i64 y2).wf=true)∧∃y3 l3,l2=Rp.bool.lv y3++l3∧(True)∧∃y4 l4,l3=Rp.bool.lv y4++l4∧(True)∧∃y5 l5,l4=(Rp.int .i64).lv y5++l5∧((Lit.int .i64 y5).wf=true)∧l5=[]) Tryz.underlying64 (by kernel_rfl) (by intro n;refine zeO (r:=Rp.str) (W:=fun x=>x.length≤140737488351232∧x.length≤1048576) ((fun _=>zqW Tryz.underlying9) n) rfl (by kernel_rfl) ?_;refine zeO (r:=(Rp.int .i64)) (W:=fun x=>(Lit.int .i64 x).wf=true) ((fun _=>zlJ Tryz.underlying3) n) rfl (by kernel_rfl) ?_;refine zeO (r:=(Rp.int .i64)) (W:=fun x=>(Lit.int .i64 x).wf=true) ((fun _=>zlJ Tryz.underlying3) n) rfl (by kernel_rfl) ?_;refine zeO (r:=Rp.bool) (W:=fun x=>True) ((fun _=>ztA Tryz.underlying4) n) rfl (by kernel_rfl) ?_;refine zeO (r:=Rp.bool) (W:=fun x=>True) ((fun _=>ztA Tryz.underlying4) n) rfl (by kernel_rfl) ?_;refine zeO (r:=(Rp.int .i64)) (W:=fun x=>(Lit.int .i64 x).wf=true) ((fun _=>zlJ Tryz.underlying3) n) rfl (by kernel_rfl) ?_;exact @zrz _ _ _) (by rintro _ ⟨y0,l0,rfl,w0,y1,l1,rfl,w1,y2,l2,rfl,w2,y3,l3,rfl,w3,y4,l4,rfl,w4,y5,l5,rfl,w5,rfl⟩;exact ⟨⟨y0,y1,y2,y3,y4,y5⟩,rfl,w0,w1,w2,w3,w4,w5⟩)
theorem zIX:ziF Tryz.prog 71 (Rp.list zf) (fun x=>x.length*48≤140737488351232∧x.length≤1048576∧∀x'∈x,zbe x'):=zlk Tryz.underlying71 (by kernel_rfl) (by kernel_rfl) zIW
def zjk (x:zh):Prop:=(x.Name.length≤140737488351232∧x.Name.length≤1048576)∧(x.Fields.length*48≤140737488351232∧x.Fields.length≤1048576∧∀x_Fields'∈x.Fields,zbe x_Fields')
theorem zIY:ziF Tryz.prog 73 zi zjk:=zpt (S:=fun l=>∃y0 l0,l=Rp.str.lv y0++l0∧(y0.length≤140737488351232∧y0.length≤1048576)∧∃y1 l1,l0=(Rp.list zf).lv y1++l1∧(y1.length*48≤140737488351232∧y1.length≤1048576∧∀y1'∈y1,zbe y1')∧l1=[]) Tryz.underlying73 (by kernel_rfl) (by intro n;refine zeO (r:=Rp.str) (W:=fun x=>x.length≤140737488351232∧x.length≤1048576) ((fun _=>zqW Tryz.underlying9) n) rfl (by kernel_rfl) ?_;refine zeO (r:=(Rp.list zf)) (W:=fun x=>x.length*48≤140737488351232∧x.length≤1048576∧∀x'∈x,zbe x') (zIX n) rfl (by kernel_rfl) ?_;exact @zrz _ _ _) (by rintro _ ⟨y0,l0,rfl,w0,y1,l1,rfl,w1,rfl⟩;exact ⟨⟨y0,y1⟩,rfl,w0,w1⟩)
theorem zIU:ziF Tryz.prog 23 (Rp.list zi) (fun x=>x.length*40≤140737488351232∧x.length≤1048576∧∀x'∈x,zjk x'):=zlk Tryz.underlying23 (by kernel_rfl) (by kernel_rfl) zIY
mutual
def zbY:zc→Prop
  | ⟨x0,x1⟩=>(x0.length*80≤140737488351232∧x0.length≤1048576∧zcj x0)∧(x1.length*16≤140737488351232∧x1.length≤1048576∧∀x1'∈x1,x1'.length≤140737488351232∧x1'.length≤1048576)
def zeq:List zc→Prop
  | []=>True
  | x::l=>zbY x∧zeq l
def zbf:zb→Prop
  | ⟨x0,x1,x2,x3⟩=>((Lit.int .i64 x0).wf=true)∧(x1.length*8≤140737488351232∧x1.length≤1048576∧∀x1'∈x1,(Lit.int .u64 x1').wf=true)∧(x2.length*16≤140737488351232∧x2.length≤1048576∧∀x2'∈x2,x2'.length≤140737488351232∧x2'.length≤1048576)∧(x3.length*48≤140737488351232∧x3.length≤1048576∧zeq x3)
def zcj:List zb→Prop
  | []=>True
  | x::l=>zbf x∧zcj l
end
theorem zih:∀(l:List zc),zeq l↔∀x∈l,zbY x
  | []=>by simp [zeq]
  | x::l=>by rw [zeq,zih l];simp
theorem zlw (x:zc):zbY x↔(x.Values.length*80≤140737488351232∧x.Values.length≤1048576∧zcj x.Values)∧(x.Unknown.length*16≤140737488351232∧x.Unknown.length≤1048576∧∀x_Unknown'∈x.Unknown,x_Unknown'.length≤140737488351232∧x_Unknown'.length≤1048576):=by cases x;simp only [zbY]
theorem zeV:∀(l:List zb),zcj l↔∀x∈l,zbf x
  | []=>by simp [zcj]
  | x::l=>by rw [zcj,zeV l];simp
theorem zhu (x:zb):zbf x↔((Lit.int .i64 x.Number).wf=true)∧(x.Words.length*8≤140737488351232∧x.Words.length≤1048576∧∀x_Words'∈x.Words,(Lit.int .u64 x_Words').wf=true)∧(x.Texts.length*16≤140737488351232∧x.Texts.length≤1048576∧∀x_Texts'∈x.Texts,x_Texts'.length≤140737488351232∧x_Texts'.length≤1048576)∧(x.Subs.length*48≤140737488351232∧x.Subs.length≤1048576∧zeq x.Subs):=by cases x;simp only [zbf]
theorem zHH:ziF Tryz.prog 28 (Rp.list Rp.str) (fun x=>x.length*16≤140737488351232∧x.length≤1048576∧∀x'∈x,x'.length≤140737488351232∧x'.length≤1048576):=zlk Tryz.underlying28 (by kernel_rfl) (by kernel_rfl) (fun _=>zqW Tryz.underlying9)
theorem zIV:ziF Tryz.prog 47 (Rp.list (Rp.int .u64)) (fun x=>x.length*8≤140737488351232∧x.length≤1048576∧∀x'∈x,(Lit.int .u64 x').wf=true):=zlk Tryz.underlying47 (by kernel_rfl) (by kernel_rfl) (fun _=>zlJ Tryz.underlying75)
theorem zIl:∀(n m:Nat),m≤n→zjK Tryz.prog m 30 zd zbY∧zjK Tryz.prog m 50 za zbf:=by
  intro n
  induction n with
  | zero => intro m hm; obtain rfl : m = 0 := by omega
            exact ⟨zhI,zhI⟩
  | succ n ih=>
    intro m hm
    cases m with
    | zero=>exact ⟨zhI,zhI⟩
    | succ m=>
      refine ⟨?_,?_⟩
      · refine znb (S:=fun l=>∃y0 l0,l=(Rp.list za).lv y0++l0∧(y0.length*80≤140737488351232∧y0.length≤1048576∧∀y∈y0,zbf y)∧∃y1 l1,l0=(Rp.list Rp.str).lv y1++l1∧(y1.length*16≤140737488351232∧y1.length≤1048576∧∀y1'∈y1,y1'.length≤140737488351232∧y1'.length≤1048576)∧l1=[]) Tryz.underlying30 (by kernel_rfl) (by refine zeO (r:=Rp.list za) (W:=fun x=>x.length*80≤140737488351232∧x.length≤1048576∧∀y∈x,zbf y) (zrN Tryz.underlying27 (by kernel_rfl) (by kernel_rfl) (fun q hq=>(ih q (by omega)).2)) rfl (by kernel_rfl) ?_;refine zeO (r:=(Rp.list Rp.str)) (W:=fun x=>x.length*16≤140737488351232∧x.length≤1048576∧∀x'∈x,x'.length≤140737488351232∧x'.length≤1048576) (zHH m) rfl (by kernel_rfl) ?_;exact @zrz _ _ _) ?_
        rintro _ ⟨y0,l0,rfl,w0,y1,l1,rfl,w1,rfl⟩
        exact ⟨⟨y0,y1⟩,by rw [zo]<;>rfl,(zlw _).2 ⟨⟨w0.1,w0.2.1,(zeV _).2 w0.2.2⟩,w1⟩⟩
      · refine znb (S:=fun l=>∃y0 l0,l=(Rp.int .i64).lv y0++l0∧((Lit.int .i64 y0).wf=true)∧∃y1 l1,l0=(Rp.list (Rp.int .u64)).lv y1++l1∧(y1.length*8≤140737488351232∧y1.length≤1048576∧∀y1'∈y1,(Lit.int .u64 y1').wf=true)∧∃y2 l2,l1=(Rp.list Rp.str).lv y2++l2∧(y2.length*16≤140737488351232∧y2.length≤1048576∧∀y2'∈y2,y2'.length≤140737488351232∧y2'.length≤1048576)∧∃y3 l3,l2=(Rp.list zd).lv y3++l3∧(y3.length*48≤140737488351232∧y3.length≤1048576∧∀y∈y3,zbY y)∧l3=[]) Tryz.underlying50 (by kernel_rfl) (by refine zeO (r:=(Rp.int .i64)) (W:=fun x=>(Lit.int .i64 x).wf=true) ((fun _=>zlJ Tryz.underlying3) m) rfl (by kernel_rfl) ?_;refine zeO (r:=(Rp.list (Rp.int .u64))) (W:=fun x=>x.length*8≤140737488351232∧x.length≤1048576∧∀x'∈x,(Lit.int .u64 x').wf=true) (zIV m) rfl (by kernel_rfl) ?_;refine zeO (r:=(Rp.list Rp.str)) (W:=fun x=>x.length*16≤140737488351232∧x.length≤1048576∧∀x'∈x,x'.length≤140737488351232∧x'.length≤1048576) (zHH m) rfl (by kernel_rfl) ?_;refine zeO (r:=Rp.list zd) (W:=fun x=>x.length*48≤140737488351232∧x.length≤1048576∧∀y∈x,zbY y) (zrN Tryz.underlying48 (by kernel_rfl) (by kernel_rfl) (fun q hq=>(ih q (by omega)).1)) rfl (by kernel_rfl) ?_;exact @zrz _ _ _) ?_
        rintro _ ⟨y0,l0,rfl,w0,y1,l1,rfl,w1,y2,l2,rfl,w2,y3,l3,rfl,w3,rfl⟩
        exact ⟨⟨y0,y1,y2,y3⟩,by rw [zq]<;>rfl,(zhu _).2 ⟨w0,w1,w2,⟨w3.1,w3.2.1,(zih _).2 w3.2.2⟩⟩⟩
theorem zHI:ziF Tryz.prog 30 zd zbY:=fun n=>(zIl n n (Nat.le_refl _)).1
end Go.Proofs.YtcbkcblkecmjnaaGreat
