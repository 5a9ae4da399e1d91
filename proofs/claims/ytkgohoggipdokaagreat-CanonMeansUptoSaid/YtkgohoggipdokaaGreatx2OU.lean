/-
  The laws as plain functions. No condition.
-/
import Derived.KernelRfl
import Derived.Test.YtkgohoggipdokaaGreatx2T
import Derived.Test.YtkgohoggipdokaaGreatx2OpenU
namespace Go.Proofs.YtkgohoggipdokaaGreat
open Go Go.RowKit
def zaR (x:za):Prop:=(x.Name.length<=140737488351232/\x.Name.length<=1048576)/\((Lit.int .i64 x.Number).wf=true)/\((Lit.int .i64 x.Kind).wf=true)/\(True)/\(True)/\((Lit.int .i64 x.Of).wf=true)
theorem zKz:zgM Tryz.prog 47 zf zaR:=znD (S:=fun l=>∃y0 l0,l=Rp.str.lv y0++l0/\(y0.length<=140737488351232/\y0.length<=1048576)/\∃y1 l1,l0=(Rp.int .i64).lv y1++l1/\((Lit.int .i64 y1).wf=true)/\∃y2 l2,l1=(Rp.int .i64).lv y2++l2/\((Lit.int .i64 y2).wf=true)/\∃y3 l3,l2=Rp.bool.lv y3++l3/\(True)/\∃y4 l4,l3=Rp.bool.lv y4++l4/\(True)/\∃y5 l5,l4=(Rp.int .i64).lv y5++l5/\((Lit.int .i64 y5).wf=true)/\l5=[]) Tryz.underlying47 (by kernel_rfl) (by intro n;refine zdD (r:=Rp.str) (W:=fun x=>x.length<=140737488351232/\x.length<=1048576) ((fun _=>zpz Tryz.underlying9) n) rfl (by kernel_rfl) ?_;refine zdD (r:=(Rp.int .i64)) (W:=fun x=>(Lit.int .i64 x).wf=true) ((fun _=>zkq Tryz.underlying3) n) rfl (by kernel_rfl) ?_;refine zdD (r:=(Rp.int .i64)) (W:=fun x=>(Lit.int .i64 x).wf=true) ((fun _=>zkq Tryz.underlying3) n) rfl (by kernel_rfl) ?_;refine zdD (r:=Rp.bool) (W:=fun x=>True) ((fun _=>zsv Tryz.underlying4) n) rfl (by kernel_rfl) ?_;refine zdD (r:=Rp.bool) (W:=fun x=>True) ((fun _=>zsv Tryz.underlying4) n) rfl (by kernel_rfl) ?_;refine zdD (r:=(Rp.int .i64)) (W:=fun x=>(Lit.int .i64 x).wf=true) ((fun _=>zkq Tryz.underlying3) n) rfl (by kernel_rfl) ?_;exact @zqh _ _ _) (by rintro _ ⟨y0,l0,rfl,w0,y1,l1,rfl,w1,y2,l2,rfl,w2,y3,l3,rfl,w3,y4,l4,rfl,w4,y5,l5,rfl,w5,rfl⟩;exact ⟨⟨y0,y1,y2,y3,y4,y5⟩,rfl,w0,w1,w2,w3,w4,w5⟩)
theorem zKB:zgM Tryz.prog 69 (Rp.list zf) (fun x=>x.length*48<=140737488351232/\x.length<=1048576/\∀x'∈x,zaR x'):=zjI Tryz.underlying69 (by kernel_rfl) (by kernel_rfl) zKz
def zhv (x:zd):Prop:=(x.Name.length<=140737488351232/\x.Name.length<=1048576)/\(x.Fields.length*48<=140737488351232/\x.Fields.length<=1048576/\∀x_Fields'∈x.Fields,zaR x_Fields')
theorem zKC:zgM Tryz.prog 71 zi zhv:=znD (S:=fun l=>∃y0 l0,l=Rp.str.lv y0++l0/\(y0.length<=140737488351232/\y0.length<=1048576)/\∃y1 l1,l0=(Rp.list zf).lv y1++l1/\(y1.length*48<=140737488351232/\y1.length<=1048576/\∀y1'∈y1,zaR y1')/\l1=[]) Tryz.underlying71 (by kernel_rfl) (by intro n;refine zdD (r:=Rp.str) (W:=fun x=>x.length<=140737488351232/\x.length<=1048576) ((fun _=>zpz Tryz.underlying9) n) rfl (by kernel_rfl) ?_;refine zdD (r:=(Rp.list zf)) (W:=fun x=>x.length*48<=140737488351232/\x.length<=1048576/\∀x'∈x,zaR x') (zKB n) rfl (by kernel_rfl) ?_;exact @zqh _ _ _) (by rintro _ ⟨y0,l0,rfl,w0,y1,l1,rfl,w1,rfl⟩;exact ⟨⟨y0,y1⟩,rfl,w0,w1⟩)
theorem zKy:zgM Tryz.prog 23 (Rp.list zi) (fun x=>x.length*40<=140737488351232/\x.length<=1048576/\∀x'∈x,zhv x'):=zjI Tryz.underlying23 (by kernel_rfl) (by kernel_rfl) zKC
mutual
def zbp:zc->Prop
  | ⟨x0,x1⟩=>(x0.length*80<=140737488351232/\x0.length<=1048576/\zbu x0)/\(x1.length*16<=140737488351232/\x1.length<=1048576/\∀x1'∈x1,x1'.length<=140737488351232/\x1'.length<=1048576)
def zdj:List zc->Prop
  | []=>True
  | x::l=>zbp x/\zdj l
def zaS:zb->Prop
  | ⟨x0,x1,x2,x3⟩=>((Lit.int .i64 x0).wf=true)/\(x1.length*8<=140737488351232/\x1.length<=1048576/\∀x1'∈x1,(Lit.int .u64 x1').wf=true)/\(x2.length*16<=140737488351232/\x2.length<=1048576/\∀x2'∈x2,x2'.length<=140737488351232/\x2'.length<=1048576)/\(x3.length*48<=140737488351232/\x3.length<=1048576/\zdj x3)
def zbu:List zb->Prop
  | []=>True
  | x::l=>zaS x/\zbu l
end
theorem zgy:∀(l:List zc),zdj l↔∀x∈l,zbp x
  | []=>by simp [zdj]
  | x::l=>by rw [zdj,zgy l];simp
theorem zkb (x:zc):zbp x↔(x.Values.length*80<=140737488351232/\x.Values.length<=1048576/\zbu x.Values)/\(x.Unknown.length*16<=140737488351232/\x.Unknown.length<=1048576/\∀x_Unknown'∈x.Unknown,x_Unknown'.length<=140737488351232/\x_Unknown'.length<=1048576):=by cases x;simp only [zbp]
theorem zdL:∀(l:List zb),zbu l↔∀x∈l,zaS x
  | []=>by simp [zbu]
  | x::l=>by rw [zbu,zdL l];simp
theorem zfZ (x:zb):zaS x↔((Lit.int .i64 x.Number).wf=true)/\(x.Words.length*8<=140737488351232/\x.Words.length<=1048576/\∀x_Words'∈x.Words,(Lit.int .u64 x_Words').wf=true)/\(x.Texts.length*16<=140737488351232/\x.Texts.length<=1048576/\∀x_Texts'∈x.Texts,x_Texts'.length<=140737488351232/\x_Texts'.length<=1048576)/\(x.Subs.length*48<=140737488351232/\x.Subs.length<=1048576/\zdj x.Subs):=by cases x;simp only [zaS]
theorem zIQ:zgM Tryz.prog 25 (Rp.list Rp.str) (fun x=>x.length*16<=140737488351232/\x.length<=1048576/\∀x'∈x,x'.length<=140737488351232/\x'.length<=1048576):=zjI Tryz.underlying25 (by kernel_rfl) (by kernel_rfl) (fun _=>zpz Tryz.underlying9)
theorem zKA:zgM Tryz.prog 48 (Rp.list (Rp.int .u64)) (fun x=>x.length*8<=140737488351232/\x.length<=1048576/\∀x'∈x,(Lit.int .u64 x').wf=true):=zjI Tryz.underlying48 (by kernel_rfl) (by kernel_rfl) (fun _=>zkq Tryz.underlying72)
theorem zJG:∀(n m:Nat),m<=n->zic Tryz.prog m 27 zj zbp/\zic Tryz.prog m 51 zh zaS:=by
  intro n
  induction n with
  | zero => intro m hm; obtain rfl : m = 0 := by omega
            exact ⟨zge,zge⟩
  | succ n ih=>
    intro m hm;cases m with
    | zero=>exact ⟨zge,zge⟩
    | succ m=>
      refine ⟨?_,?_⟩
      · refine zln (S:=fun l=>∃y0 l0,l=(Rp.list zh).lv y0++l0/\(y0.length*80<=140737488351232/\y0.length<=1048576/\∀y∈y0,zaS y)/\∃y1 l1,l0=(Rp.list Rp.str).lv y1++l1/\(y1.length*16<=140737488351232/\y1.length<=1048576/\∀y1'∈y1,y1'.length<=140737488351232/\y1'.length<=1048576)/\l1=[]) Tryz.underlying27 (by kernel_rfl) (by refine zdD (r:=Rp.list zh) (W:=fun x=>x.length*80<=140737488351232/\x.length<=1048576/\∀y∈x,zaS y) (zqw Tryz.underlying24 (by kernel_rfl) (by kernel_rfl) (fun q hq=>(ih q (by omega)).2)) rfl (by kernel_rfl) ?_;refine zdD (r:=(Rp.list Rp.str)) (W:=fun x=>x.length*16<=140737488351232/\x.length<=1048576/\∀x'∈x,x'.length<=140737488351232/\x'.length<=1048576) (zIQ m) rfl (by kernel_rfl) ?_;exact @zqh _ _ _) ?_;rintro _ ⟨y0,l0,rfl,w0,y1,l1,rfl,w1,rfl⟩;exact ⟨⟨y0,y1⟩,by rw [zak]<;>rfl,(zkb _).2 ⟨⟨w0.1,w0.2.1,(zdL _).2 w0.2.2⟩,w1⟩⟩
      · refine zln (S:=fun l=>∃y0 l0,l=(Rp.int .i64).lv y0++l0/\((Lit.int .i64 y0).wf=true)/\∃y1 l1,l0=(Rp.list (Rp.int .u64)).lv y1++l1/\(y1.length*8<=140737488351232/\y1.length<=1048576/\∀y1'∈y1,(Lit.int .u64 y1').wf=true)/\∃y2 l2,l1=(Rp.list Rp.str).lv y2++l2/\(y2.length*16<=140737488351232/\y2.length<=1048576/\∀y2'∈y2,y2'.length<=140737488351232/\y2'.length<=1048576)/\∃y3 l3,l2=(Rp.list zj).lv y3++l3/\(y3.length*48<=140737488351232/\y3.length<=1048576/\∀y∈y3,zbp y)/\l3=[]) Tryz.underlying51 (by kernel_rfl) (by refine zdD (r:=(Rp.int .i64)) (W:=fun x=>(Lit.int .i64 x).wf=true) ((fun _=>zkq Tryz.underlying3) m) rfl (by kernel_rfl) ?_;refine zdD (r:=(Rp.list (Rp.int .u64))) (W:=fun x=>x.length*8<=140737488351232/\x.length<=1048576/\∀x'∈x,(Lit.int .u64 x').wf=true) (zKA m) rfl (by kernel_rfl) ?_;refine zdD (r:=(Rp.list Rp.str)) (W:=fun x=>x.length*16<=140737488351232/\x.length<=1048576/\∀x'∈x,x'.length<=140737488351232/\x'.length<=1048576) (zIQ m) rfl (by kernel_rfl) ?_;refine zdD (r:=Rp.list zj) (W:=fun x=>x.length*48<=140737488351232/\x.length<=1048576/\∀y∈x,zbp y) (zqw Tryz.underlying49 (by kernel_rfl) (by kernel_rfl) (fun q hq=>(ih q (by omega)).1)) rfl (by kernel_rfl) ?_;exact @zqh _ _ _) ?_;rintro _ ⟨y0,l0,rfl,w0,y1,l1,rfl,w1,y2,l2,rfl,w2,y3,l3,rfl,w3,rfl⟩;exact ⟨⟨y0,y1,y2,y3⟩,by rw [zad]<;>rfl,(zfZ _).2 ⟨w0,w1,w2,⟨w3.1,w3.2.1,(zgy _).2 w3.2.2⟩⟩⟩
theorem zIR:zgM Tryz.prog 27 zj zbp:=fun n=>(zJG n n (xA _)).1
end Go.Proofs.YtkgohoggipdokaaGreat
