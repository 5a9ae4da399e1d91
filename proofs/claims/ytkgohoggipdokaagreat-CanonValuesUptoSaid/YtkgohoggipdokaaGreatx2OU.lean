/-
  The laws as plain functions. No condition.
-/
import Derived.KernelRfl
import Derived.Test.YtkgohoggipdokaaGreatx2T
import Derived.Test.YtkgohoggipdokaaGreatx2OpenU
namespace Go.Proofs.YtkgohoggipdokaaGreat
open Go Go.RowKit
def zaj (x:zb):Prop:=(x.Name.length<=140737488351232/\x.Name.length<=1048576)/\((Lit.int .i64 x.Number).wf=true)/\((Lit.int .i64 x.Kind).wf=true)/\(True)/\(True)/\((Lit.int .i64 x.Of).wf=true)
theorem zFI:zhg Tryz.prog 47 zd zaj:=znP (S:=fun l=>∃y0 l0,l=Rp.str.lv y0++l0/\(y0.length<=140737488351232/\y0.length<=1048576)/\∃y1 l1,l0=(Rp.int .i64).lv y1++l1/\((Lit.int .i64 y1).wf=true)/\∃y2 l2,l1=(Rp.int .i64).lv y2++l2/\((Lit.int .i64 y2).wf=true)/\∃y3 l3,l2=Rp.bool.lv y3++l3/\(True)/\∃y4 l4,l3=Rp.bool.lv y4++l4/\(True)/\∃y5 l5,l4=(Rp.int .i64).lv y5++l5/\((Lit.int .i64 y5).wf=true)/\l5=[]) Tryz.underlying47 (by kernel_rfl) (by intro n;refine zeh (r:=Rp.str) (W:=fun x=>x.length<=140737488351232/\x.length<=1048576) ((fun _=>zpx Tryz.underlying9) n) rfl (by kernel_rfl) ?_;refine zeh (r:=(Rp.int .i64)) (W:=fun x=>(Lit.int .i64 x).wf=true) ((fun _=>zkp Tryz.underlying3) n) rfl (by kernel_rfl) ?_;refine zeh (r:=(Rp.int .i64)) (W:=fun x=>(Lit.int .i64 x).wf=true) ((fun _=>zkp Tryz.underlying3) n) rfl (by kernel_rfl) ?_;refine zeh (r:=Rp.bool) (W:=fun x=>True) ((fun _=>zrM Tryz.underlying4) n) rfl (by kernel_rfl) ?_;refine zeh (r:=Rp.bool) (W:=fun x=>True) ((fun _=>zrM Tryz.underlying4) n) rfl (by kernel_rfl) ?_;refine zeh (r:=(Rp.int .i64)) (W:=fun x=>(Lit.int .i64 x).wf=true) ((fun _=>zkp Tryz.underlying3) n) rfl (by kernel_rfl) ?_;exact @zqe _ _ _) (by rintro _ ⟨y0,l0,rfl,w0,y1,l1,rfl,w1,y2,l2,rfl,w2,y3,l3,rfl,w3,y4,l4,rfl,w4,y5,l5,rfl,w5,rfl⟩;exact ⟨⟨y0,y1,y2,y3,y4,y5⟩,rfl,w0,w1,w2,w3,w4,w5⟩)
theorem zHd:zhg Tryz.prog 69 (Rp.list zd) (fun x=>x.length*48<=140737488351232/\x.length<=1048576/\∀x'∈x,zaj x'):=zjC Tryz.underlying69 (by kernel_rfl) (by kernel_rfl) zFI
def zhJ (x:ze):Prop:=(x.Name.length<=140737488351232/\x.Name.length<=1048576)/\(x.Fields.length*48<=140737488351232/\x.Fields.length<=1048576/\∀x_Fields'∈x.Fields,zaj x_Fields')
theorem zHe:zhg Tryz.prog 71 zh zhJ:=znP (S:=fun l=>∃y0 l0,l=Rp.str.lv y0++l0/\(y0.length<=140737488351232/\y0.length<=1048576)/\∃y1 l1,l0=(Rp.list zd).lv y1++l1/\(y1.length*48<=140737488351232/\y1.length<=1048576/\∀y1'∈y1,zaj y1')/\l1=[]) Tryz.underlying71 (by kernel_rfl) (by intro n;refine zeh (r:=Rp.str) (W:=fun x=>x.length<=140737488351232/\x.length<=1048576) ((fun _=>zpx Tryz.underlying9) n) rfl (by kernel_rfl) ?_;refine zeh (r:=(Rp.list zd)) (W:=fun x=>x.length*48<=140737488351232/\x.length<=1048576/\∀x'∈x,zaj x') (zHd n) rfl (by kernel_rfl) ?_;exact @zqe _ _ _) (by rintro _ ⟨y0,l0,rfl,w0,y1,l1,rfl,w1,rfl⟩;exact ⟨⟨y0,y1⟩,rfl,w0,w1⟩)
theorem zHa:zhg Tryz.prog 23 (Rp.list zh) (fun x=>x.length*40<=140737488351232/\x.length<=1048576/\∀x'∈x,zhJ x'):=zjC Tryz.underlying23 (by kernel_rfl) (by kernel_rfl) zHe
mutual
def zcn:zc->Prop
  | ⟨x0,x1⟩=>(x0.length*80<=140737488351232/\x0.length<=1048576/\zbv x0)/\(x1.length*16<=140737488351232/\x1.length<=1048576/\∀x1'∈x1,x1'.length<=140737488351232/\x1'.length<=1048576)
def zdN:List zc->Prop
  | []=>True
  | x::l=>zcn x/\zdN l
def zag:za->Prop
  | ⟨x0,x1,x2,x3⟩=>((Lit.int .i64 x0).wf=true)/\(x1.length*8<=140737488351232/\x1.length<=1048576/\∀x1'∈x1,(Lit.int .u64 x1').wf=true)/\(x2.length*16<=140737488351232/\x2.length<=1048576/\∀x2'∈x2,x2'.length<=140737488351232/\x2'.length<=1048576)/\(x3.length*48<=140737488351232/\x3.length<=1048576/\zdN x3)
def zbv:List za->Prop
  | []=>True
  | x::l=>zag x/\zbv l
end
theorem zgW:∀(l:List zc),zdN l↔∀x∈l,zcn x
  | []=>by simp [zdN]
  | x::l=>by rw [zdN,zgW l];simp
theorem zjP (x:zc):zcn x↔(x.Values.length*80<=140737488351232/\x.Values.length<=1048576/\zbv x.Values)/\(x.Unknown.length*16<=140737488351232/\x.Unknown.length<=1048576/\∀x_Unknown'∈x.Unknown,x_Unknown'.length<=140737488351232/\x_Unknown'.length<=1048576):=by cases x;simp only [zcn]
theorem zel:∀(l:List za),zbv l↔∀x∈l,zag x
  | []=>by simp [zbv]
  | x::l=>by rw [zbv,zel l];simp
theorem zgw (x:za):zag x↔((Lit.int .i64 x.Number).wf=true)/\(x.Words.length*8<=140737488351232/\x.Words.length<=1048576/\∀x_Words'∈x.Words,(Lit.int .u64 x_Words').wf=true)/\(x.Texts.length*16<=140737488351232/\x.Texts.length<=1048576/\∀x_Texts'∈x.Texts,x_Texts'.length<=140737488351232/\x_Texts'.length<=1048576)/\(x.Subs.length*48<=140737488351232/\x.Subs.length<=1048576/\zdN x.Subs):=by cases x;simp only [zag]
theorem zFH:zhg Tryz.prog 25 (Rp.list Rp.str) (fun x=>x.length*16<=140737488351232/\x.length<=1048576/\∀x'∈x,x'.length<=140737488351232/\x'.length<=1048576):=zjC Tryz.underlying25 (by kernel_rfl) (by kernel_rfl) (fun _=>zpx Tryz.underlying9)
theorem zHb:zhg Tryz.prog 48 (Rp.list (Rp.int .u64)) (fun x=>x.length*8<=140737488351232/\x.length<=1048576/\∀x'∈x,(Lit.int .u64 x').wf=true):=zjC Tryz.underlying48 (by kernel_rfl) (by kernel_rfl) (fun _=>zkp Tryz.underlying72)
theorem zGq:∀(n m:Nat),m<=n->zih Tryz.prog m 27 zi zcn/\zih Tryz.prog m 51 zf zag:=by
  intro n
  induction n with
  | zero => intro m hm; obtain rfl : m = 0 := by omega
            exact ⟨zgE,zgE⟩
  | succ n ih=>
    intro m hm;cases m with
    | zero=>exact ⟨zgE,zgE⟩
    | succ m=>
      refine ⟨?_,?_⟩
      · refine zlG (S:=fun l=>∃y0 l0,l=(Rp.list zf).lv y0++l0/\(y0.length*80<=140737488351232/\y0.length<=1048576/\∀y∈y0,zag y)/\∃y1 l1,l0=(Rp.list Rp.str).lv y1++l1/\(y1.length*16<=140737488351232/\y1.length<=1048576/\∀y1'∈y1,y1'.length<=140737488351232/\y1'.length<=1048576)/\l1=[]) Tryz.underlying27 (by kernel_rfl) (by refine zeh (r:=Rp.list zf) (W:=fun x=>x.length*80<=140737488351232/\x.length<=1048576/\∀y∈x,zag y) (zqn Tryz.underlying24 (by kernel_rfl) (by kernel_rfl) (fun q hq=>(ih q (by omega)).2)) rfl (by kernel_rfl) ?_;refine zeh (r:=(Rp.list Rp.str)) (W:=fun x=>x.length*16<=140737488351232/\x.length<=1048576/\∀x'∈x,x'.length<=140737488351232/\x'.length<=1048576) (zFH m) rfl (by kernel_rfl) ?_;exact @zqe _ _ _) ?_;rintro _ ⟨y0,l0,rfl,w0,y1,l1,rfl,w1,rfl⟩;exact ⟨⟨y0,y1⟩,by rw [zbu]<;>rfl,(zjP _).2 ⟨⟨w0.1,w0.2.1,(zel _).2 w0.2.2⟩,w1⟩⟩
      · refine zlG (S:=fun l=>∃y0 l0,l=(Rp.int .i64).lv y0++l0/\((Lit.int .i64 y0).wf=true)/\∃y1 l1,l0=(Rp.list (Rp.int .u64)).lv y1++l1/\(y1.length*8<=140737488351232/\y1.length<=1048576/\∀y1'∈y1,(Lit.int .u64 y1').wf=true)/\∃y2 l2,l1=(Rp.list Rp.str).lv y2++l2/\(y2.length*16<=140737488351232/\y2.length<=1048576/\∀y2'∈y2,y2'.length<=140737488351232/\y2'.length<=1048576)/\∃y3 l3,l2=(Rp.list zi).lv y3++l3/\(y3.length*48<=140737488351232/\y3.length<=1048576/\∀y∈y3,zcn y)/\l3=[]) Tryz.underlying51 (by kernel_rfl) (by refine zeh (r:=(Rp.int .i64)) (W:=fun x=>(Lit.int .i64 x).wf=true) ((fun _=>zkp Tryz.underlying3) m) rfl (by kernel_rfl) ?_;refine zeh (r:=(Rp.list (Rp.int .u64))) (W:=fun x=>x.length*8<=140737488351232/\x.length<=1048576/\∀x'∈x,(Lit.int .u64 x').wf=true) (zHb m) rfl (by kernel_rfl) ?_;refine zeh (r:=(Rp.list Rp.str)) (W:=fun x=>x.length*16<=140737488351232/\x.length<=1048576/\∀x'∈x,x'.length<=140737488351232/\x'.length<=1048576) (zFH m) rfl (by kernel_rfl) ?_;refine zeh (r:=Rp.list zi) (W:=fun x=>x.length*48<=140737488351232/\x.length<=1048576/\∀y∈x,zcn y) (zqn Tryz.underlying49 (by kernel_rfl) (by kernel_rfl) (fun q hq=>(ih q (by omega)).1)) rfl (by kernel_rfl) ?_;exact @zqe _ _ _) ?_;rintro _ ⟨y0,l0,rfl,w0,y1,l1,rfl,w1,y2,l2,rfl,w2,y3,l3,rfl,w3,rfl⟩;exact ⟨⟨y0,y1,y2,y3⟩,by rw [zt]<;>rfl,(zgw _).2 ⟨w0,w1,w2,⟨w3.1,w3.2.1,(zgW _).2 w3.2.2⟩⟩⟩
theorem zHc:zhg Tryz.prog 51 zf zag:=fun n=>(zGq n n (xB _)).2
end Go.Proofs.YtkgohoggipdokaaGreat
