/-
  The laws as plain functions. No condition.
-/
import Derived.KernelRfl
import Derived.Test.YtekgmimingolbaaGreatx1T
import Derived.Test.YtekgmimingolbaaGreatx1OpenU
namespace Go.Proofs.YtekgmimingolbaaGreat
open Go Go.RowKit
def zbn (x:ze):Prop:=(x.Name.length<=140737488351232/\x.Name.length<=1048576)/\((Lit.int .i64 x.Number).wf=true)/\((Lit.int .i64 x.Kind).wf=true)/\(True)/\(True)/\((Lit.int .i64 x.Of).wf=true)
theorem zLe:zjY Tryz.prog 65 zg zbn:=zrd (S:=fun l=>∃y0 l0,l=Rp.str.lv y0++l0/\(y0.length<=140737488351232/\y0.length<=1048576)/\∃y1 l1,l0=(Rp.int .i64).lv y1++l1/\((Lit.int .i64 y1).wf=true)/\∃y2 l2,l1=(Rp.int .i64).lv y2++l2/\((Lit.int .i64 y2).wf=true)/\∃y3 l3,l2=Rp.bool.lv y3++l3/\(True)/\∃y4 l4,l3=Rp.bool.lv y4++l4/\(True)/\∃y5 l5,l4=(Rp.int .i64).lv y5++l5/\((Lit.int .i64 y5).wf=true)/\l5=[]) Tryz.underlying65 (by kernel_rfl) (by intro n;refine zfT (r:=Rp.str) (W:=fun x=>x.length<=140737488351232/\x.length<=1048576) ((fun _=>zsY Tryz.underlying9) n) rfl (by kernel_rfl) ?_;refine zfT (r:=(Rp.int .i64)) (W:=fun x=>(Lit.int .i64 x).wf=true) ((fun _=>zmO Tryz.underlying3) n) rfl (by kernel_rfl) ?_;refine zfT (r:=(Rp.int .i64)) (W:=fun x=>(Lit.int .i64 x).wf=true) ((fun _=>zmO Tryz.underlying3) n) rfl (by kernel_rfl) ?_;refine zfT (r:=Rp.bool) (W:=fun x=>True) ((fun _=>zvq Tryz.underlying4) n) rfl (by kernel_rfl) ?_;refine zfT (r:=Rp.bool) (W:=fun x=>True) ((fun _=>zvq Tryz.underlying4) n) rfl (by kernel_rfl) ?_;refine zfT (r:=(Rp.int .i64)) (W:=fun x=>(Lit.int .i64 x).wf=true) ((fun _=>zmO Tryz.underlying3) n) rfl (by kernel_rfl) ?_;exact @ztC _ _ _) (by rintro _ ⟨y0,l0,rfl,w0,y1,l1,rfl,w1,y2,l2,rfl,w2,y3,l3,rfl,w3,y4,l4,rfl,w4,y5,l5,rfl,w5,rfl⟩;exact ⟨⟨y0,y1,y2,y3,y4,y5⟩,rfl,w0,w1,w2,w3,w4,w5⟩)
theorem zLf:zjY Tryz.prog 80 (Rp.list zg) (fun x=>x.length*48<=140737488351232/\x.length<=1048576/\∀x'∈x,zbn x'):=zmo Tryz.underlying80 (by kernel_rfl) (by kernel_rfl) zLe
def zkC (x:zf):Prop:=(x.Name.length<=140737488351232/\x.Name.length<=1048576)/\(x.Fields.length*48<=140737488351232/\x.Fields.length<=1048576/\∀x_Fields'∈x.Fields,zbn x_Fields')
theorem zLg:zjY Tryz.prog 82 zj zkC:=zrd (S:=fun l=>∃y0 l0,l=Rp.str.lv y0++l0/\(y0.length<=140737488351232/\y0.length<=1048576)/\∃y1 l1,l0=(Rp.list zg).lv y1++l1/\(y1.length*48<=140737488351232/\y1.length<=1048576/\∀y1'∈y1,zbn y1')/\l1=[]) Tryz.underlying82 (by kernel_rfl) (by intro n;refine zfT (r:=Rp.str) (W:=fun x=>x.length<=140737488351232/\x.length<=1048576) ((fun _=>zsY Tryz.underlying9) n) rfl (by kernel_rfl) ?_;refine zfT (r:=(Rp.list zg)) (W:=fun x=>x.length*48<=140737488351232/\x.length<=1048576/\∀x'∈x,zbn x') (zLf n) rfl (by kernel_rfl) ?_;exact @ztC _ _ _) (by rintro _ ⟨y0,l0,rfl,w0,y1,l1,rfl,w1,rfl⟩;exact ⟨⟨y0,y1⟩,rfl,w0,w1⟩)
theorem zLc:zjY Tryz.prog 23 (Rp.list zj) (fun x=>x.length*40<=140737488351232/\x.length<=1048576/\∀x'∈x,zkC x'):=zmo Tryz.underlying23 (by kernel_rfl) (by kernel_rfl) zLg
mutual
def zco:zc->Prop
  | ⟨x0,x1⟩=>(x0.length*80<=140737488351232/\x0.length<=1048576/\zcB x0)/\(x1.length*16<=140737488351232/\x1.length<=1048576/\∀x1'∈x1,x1'.length<=140737488351232/\x1'.length<=1048576)
def zfu:List zc->Prop
  | []=>True
  | x::l=>zco x/\zfu l
def zbo:za->Prop
  | ⟨x0,x1,x2,x3⟩=>((Lit.int .i64 x0).wf=true)/\(x1.length*8<=140737488351232/\x1.length<=1048576/\∀x1'∈x1,(Lit.int .u64 x1').wf=true)/\(x2.length*16<=140737488351232/\x2.length<=1048576/\∀x2'∈x2,x2'.length<=140737488351232/\x2'.length<=1048576)/\(x3.length*48<=140737488351232/\x3.length<=1048576/\zfu x3)
def zcB:List za->Prop
  | []=>True
  | x::l=>zbo x/\zcB l
end
theorem zjB:∀(l:List zc),zfu l↔∀x∈l,zco x
  | []=>by simp [zfu]
  | x::l=>by rw [zfu,zjB l];simp
theorem zmA (x:zc):zco x↔(x.Values.length*80<=140737488351232/\x.Values.length<=1048576/\zcB x.Values)/\(x.Unknown.length*16<=140737488351232/\x.Unknown.length<=1048576/\∀x_Unknown'∈x.Unknown,x_Unknown'.length<=140737488351232/\x_Unknown'.length<=1048576):=by cases x;simp only [zco]
theorem zgd:∀(l:List za),zcB l↔∀x∈l,zbo x
  | []=>by simp [zcB]
  | x::l=>by rw [zcB,zgd l];simp
theorem ziK (x:za):zbo x↔((Lit.int .i64 x.Number).wf=true)/\(x.Words.length*8<=140737488351232/\x.Words.length<=1048576/\∀x_Words'∈x.Words,(Lit.int .u64 x_Words').wf=true)/\(x.Texts.length*16<=140737488351232/\x.Texts.length<=1048576/\∀x_Texts'∈x.Texts,x_Texts'.length<=140737488351232/\x_Texts'.length<=1048576)/\(x.Subs.length*48<=140737488351232/\x.Subs.length<=1048576/\zfu x.Subs):=by cases x;simp only [zbo]
theorem zJK:zjY Tryz.prog 25 (Rp.list Rp.str) (fun x=>x.length*16<=140737488351232/\x.length<=1048576/\∀x'∈x,x'.length<=140737488351232/\x'.length<=1048576):=zmo Tryz.underlying25 (by kernel_rfl) (by kernel_rfl) (fun _=>zsY Tryz.underlying9)
theorem zLd:zjY Tryz.prog 54 (Rp.list (Rp.int .u64)) (fun x=>x.length*8<=140737488351232/\x.length<=1048576/\∀x'∈x,(Lit.int .u64 x').wf=true):=zmo Tryz.underlying54 (by kernel_rfl) (by kernel_rfl) (fun _=>zmO Tryz.underlying83)
theorem zKr:∀(n m:Nat),m<=n->zkR Tryz.prog m 27 zd zco/\zkR Tryz.prog m 57 zb zbo:=by
  intro n
  induction n with
  | zero => intro m hm; obtain rfl : m = 0 := by omega
            exact ⟨ziX,ziX⟩
  | succ n ih=>
    intro m hm;cases m with
    | zero=>exact ⟨ziX,ziX⟩
    | succ m=>
      refine ⟨?_,?_⟩
      · refine zoq (S:=fun l=>∃y0 l0,l=(Rp.list zb).lv y0++l0/\(y0.length*80<=140737488351232/\y0.length<=1048576/\∀y∈y0,zbo y)/\∃y1 l1,l0=(Rp.list Rp.str).lv y1++l1/\(y1.length*16<=140737488351232/\y1.length<=1048576/\∀y1'∈y1,y1'.length<=140737488351232/\y1'.length<=1048576)/\l1=[]) Tryz.underlying27 (by kernel_rfl) (by refine zfT (r:=Rp.list zb) (W:=fun x=>x.length*80<=140737488351232/\x.length<=1048576/\∀y∈x,zbo y) (ztQ Tryz.underlying24 (by kernel_rfl) (by kernel_rfl) (fun q hq=>(ih q (by omega)).2)) rfl (by kernel_rfl) ?_;refine zfT (r:=(Rp.list Rp.str)) (W:=fun x=>x.length*16<=140737488351232/\x.length<=1048576/\∀x'∈x,x'.length<=140737488351232/\x'.length<=1048576) (zJK m) rfl (by kernel_rfl) ?_;exact @ztC _ _ _) ?_;rintro _ ⟨y0,l0,rfl,w0,y1,l1,rfl,w1,rfl⟩;exact ⟨⟨y0,y1⟩,by rw [zk]<;>rfl,(zmA _).2 ⟨⟨w0.1,w0.2.1,(zgd _).2 w0.2.2⟩,w1⟩⟩
      · refine zoq (S:=fun l=>∃y0 l0,l=(Rp.int .i64).lv y0++l0/\((Lit.int .i64 y0).wf=true)/\∃y1 l1,l0=(Rp.list (Rp.int .u64)).lv y1++l1/\(y1.length*8<=140737488351232/\y1.length<=1048576/\∀y1'∈y1,(Lit.int .u64 y1').wf=true)/\∃y2 l2,l1=(Rp.list Rp.str).lv y2++l2/\(y2.length*16<=140737488351232/\y2.length<=1048576/\∀y2'∈y2,y2'.length<=140737488351232/\y2'.length<=1048576)/\∃y3 l3,l2=(Rp.list zd).lv y3++l3/\(y3.length*48<=140737488351232/\y3.length<=1048576/\∀y∈y3,zco y)/\l3=[]) Tryz.underlying57 (by kernel_rfl) (by refine zfT (r:=(Rp.int .i64)) (W:=fun x=>(Lit.int .i64 x).wf=true) ((fun _=>zmO Tryz.underlying3) m) rfl (by kernel_rfl) ?_;refine zfT (r:=(Rp.list (Rp.int .u64))) (W:=fun x=>x.length*8<=140737488351232/\x.length<=1048576/\∀x'∈x,(Lit.int .u64 x').wf=true) (zLd m) rfl (by kernel_rfl) ?_;refine zfT (r:=(Rp.list Rp.str)) (W:=fun x=>x.length*16<=140737488351232/\x.length<=1048576/\∀x'∈x,x'.length<=140737488351232/\x'.length<=1048576) (zJK m) rfl (by kernel_rfl) ?_;refine zfT (r:=Rp.list zd) (W:=fun x=>x.length*48<=140737488351232/\x.length<=1048576/\∀y∈x,zco y) (ztQ Tryz.underlying55 (by kernel_rfl) (by kernel_rfl) (fun q hq=>(ih q (by omega)).1)) rfl (by kernel_rfl) ?_;exact @ztC _ _ _) ?_;rintro _ ⟨y0,l0,rfl,w0,y1,l1,rfl,w1,y2,l2,rfl,w2,y3,l3,rfl,w3,rfl⟩;exact ⟨⟨y0,y1,y2,y3⟩,by rw [zn]<;>rfl,(ziK _).2 ⟨w0,w1,w2,⟨w3.1,w3.2.1,(zjB _).2 w3.2.2⟩⟩⟩
theorem zJL:zjY Tryz.prog 27 zd zco:=fun n=>(zKr n n (xB _)).1
end Go.Proofs.YtekgmimingolbaaGreat
