/-
  The laws as plain functions. No condition.
-/
import Derived.KernelRfl
import Derived.Test.YtkgohoggipdokaaGreatx3T
import Derived.Test.YtkgohoggipdokaaGreatx3OpenU
namespace Go.Proofs.YtkgohoggipdokaaGreat
open Go Go.RowKit
def zbg (x:zc):Prop:=(x.Name.length<=140737488351232/\x.Name.length<=1048576)/\((Lit.int .i64 x.Number).wf=true)/\((Lit.int .i64 x.Kind).wf=true)/\(True)/\(True)/\((Lit.int .i64 x.Of).wf=true)
theorem zNU:ziE Tryz.prog 47 zf zbg:=zqd (S:=fun l=>∃y0 l0,l=Rp.str.lv y0++l0/\(y0.length<=140737488351232/\y0.length<=1048576)/\∃y1 l1,l0=(Rp.int .i64).lv y1++l1/\((Lit.int .i64 y1).wf=true)/\∃y2 l2,l1=(Rp.int .i64).lv y2++l2/\((Lit.int .i64 y2).wf=true)/\∃y3 l3,l2=Rp.bool.lv y3++l3/\(True)/\∃y4 l4,l3=Rp.bool.lv y4++l4/\(True)/\∃y5 l5,l4=(Rp.int .i64).lv y5++l5/\((Lit.int .i64 y5).wf=true)/\l5=[]) Tryz.underlying47 (by kernel_rfl) (by intro n;refine zeM (r:=Rp.str) (W:=fun x=>x.length<=140737488351232/\x.length<=1048576) ((fun _=>zse Tryz.underlying9) n) rfl (by kernel_rfl) ?_;refine zeM (r:=(Rp.int .i64)) (W:=fun x=>(Lit.int .i64 x).wf=true) ((fun _=>zmq Tryz.underlying3) n) rfl (by kernel_rfl) ?_;refine zeM (r:=(Rp.int .i64)) (W:=fun x=>(Lit.int .i64 x).wf=true) ((fun _=>zmq Tryz.underlying3) n) rfl (by kernel_rfl) ?_;refine zeM (r:=Rp.bool) (W:=fun x=>True) ((fun _=>zvi Tryz.underlying4) n) rfl (by kernel_rfl) ?_;refine zeM (r:=Rp.bool) (W:=fun x=>True) ((fun _=>zvi Tryz.underlying4) n) rfl (by kernel_rfl) ?_;refine zeM (r:=(Rp.int .i64)) (W:=fun x=>(Lit.int .i64 x).wf=true) ((fun _=>zmq Tryz.underlying3) n) rfl (by kernel_rfl) ?_;exact @zsP _ _ _) (by rintro _ ⟨y0,l0,rfl,w0,y1,l1,rfl,w1,y2,l2,rfl,w2,y3,l3,rfl,w3,y4,l4,rfl,w4,y5,l5,rfl,w5,rfl⟩;exact ⟨⟨y0,y1,y2,y3,y4,y5⟩,rfl,w0,w1,w2,w3,w4,w5⟩)
theorem zNW:ziE Tryz.prog 69 (Rp.list zf) (fun x=>x.length*48<=140737488351232/\x.length<=1048576/\∀x'∈x,zbg x'):=zlF Tryz.underlying69 (by kernel_rfl) (by kernel_rfl) zNU
def zju (x:ze):Prop:=(x.Name.length<=140737488351232/\x.Name.length<=1048576)/\(x.Fields.length*48<=140737488351232/\x.Fields.length<=1048576/\∀x_Fields'∈x.Fields,zbg x_Fields')
theorem zNX:ziE Tryz.prog 71 zj zju:=zqd (S:=fun l=>∃y0 l0,l=Rp.str.lv y0++l0/\(y0.length<=140737488351232/\y0.length<=1048576)/\∃y1 l1,l0=(Rp.list zf).lv y1++l1/\(y1.length*48<=140737488351232/\y1.length<=1048576/\∀y1'∈y1,zbg y1')/\l1=[]) Tryz.underlying71 (by kernel_rfl) (by intro n;refine zeM (r:=Rp.str) (W:=fun x=>x.length<=140737488351232/\x.length<=1048576) ((fun _=>zse Tryz.underlying9) n) rfl (by kernel_rfl) ?_;refine zeM (r:=(Rp.list zf)) (W:=fun x=>x.length*48<=140737488351232/\x.length<=1048576/\∀x'∈x,zbg x') (zNW n) rfl (by kernel_rfl) ?_;exact @zsP _ _ _) (by rintro _ ⟨y0,l0,rfl,w0,y1,l1,rfl,w1,rfl⟩;exact ⟨⟨y0,y1⟩,rfl,w0,w1⟩)
theorem zNT:ziE Tryz.prog 23 (Rp.list zj) (fun x=>x.length*40<=140737488351232/\x.length<=1048576/\∀x'∈x,zju x'):=zlF Tryz.underlying23 (by kernel_rfl) (by kernel_rfl) zNX
mutual
def zbT:zb->Prop
  | ⟨x0,x1⟩=>(x0.length*80<=140737488351232/\x0.length<=1048576/\zbX x0)/\(x1.length*16<=140737488351232/\x1.length<=1048576/\∀x1'∈x1,x1'.length<=140737488351232/\x1'.length<=1048576)
def zek:List zb->Prop
  | []=>True
  | x::l=>zbT x/\zek l
def zbh:za->Prop
  | ⟨x0,x1,x2,x3⟩=>((Lit.int .i64 x0).wf=true)/\(x1.length*8<=140737488351232/\x1.length<=1048576/\∀x1'∈x1,(Lit.int .u64 x1').wf=true)/\(x2.length*16<=140737488351232/\x2.length<=1048576/\∀x2'∈x2,x2'.length<=140737488351232/\x2'.length<=1048576)/\(x3.length*48<=140737488351232/\x3.length<=1048576/\zek x3)
def zbX:List za->Prop
  | []=>True
  | x::l=>zbh x/\zbX l
end
theorem zih:∀(l:List zb),zek l↔∀x∈l,zbT x
  | []=>by simp [zek]
  | x::l=>by rw [zek,zih l];simp
theorem zlW (x:zb):zbT x↔(x.Values.length*80<=140737488351232/\x.Values.length<=1048576/\zbX x.Values)/\(x.Unknown.length*16<=140737488351232/\x.Unknown.length<=1048576/\∀x_Unknown'∈x.Unknown,x_Unknown'.length<=140737488351232/\x_Unknown'.length<=1048576):=by cases x;simp only [zbT]
theorem zeV:∀(l:List za),zbX l↔∀x∈l,zbh x
  | []=>by simp [zbX]
  | x::l=>by rw [zbX,zeV l];simp
theorem zhv (x:za):zbh x↔((Lit.int .i64 x.Number).wf=true)/\(x.Words.length*8<=140737488351232/\x.Words.length<=1048576/\∀x_Words'∈x.Words,(Lit.int .u64 x_Words').wf=true)/\(x.Texts.length*16<=140737488351232/\x.Texts.length<=1048576/\∀x_Texts'∈x.Texts,x_Texts'.length<=140737488351232/\x_Texts'.length<=1048576)/\(x.Subs.length*48<=140737488351232/\x.Subs.length<=1048576/\zek x.Subs):=by cases x;simp only [zbh]
theorem zMn:ziE Tryz.prog 25 (Rp.list Rp.str) (fun x=>x.length*16<=140737488351232/\x.length<=1048576/\∀x'∈x,x'.length<=140737488351232/\x'.length<=1048576):=zlF Tryz.underlying25 (by kernel_rfl) (by kernel_rfl) (fun _=>zse Tryz.underlying9)
theorem zNV:ziE Tryz.prog 48 (Rp.list (Rp.int .u64)) (fun x=>x.length*8<=140737488351232/\x.length<=1048576/\∀x'∈x,(Lit.int .u64 x').wf=true):=zlF Tryz.underlying48 (by kernel_rfl) (by kernel_rfl) (fun _=>zmq Tryz.underlying72)
theorem zMX:∀(n m:Nat),m<=n->zka Tryz.prog m 27 zg zbT/\zka Tryz.prog m 51 zd zbh:=by
  intro n
  induction n with
  | zero => intro m hm; obtain rfl : m = 0 := by omega
            exact ⟨zhG,zhG⟩
  | succ n ih=>
    intro m hm;cases m with
    | zero=>exact ⟨zhG,zhG⟩
    | succ m=>
      refine ⟨?_,?_⟩
      · refine znp (S:=fun l=>∃y0 l0,l=(Rp.list zd).lv y0++l0/\(y0.length*80<=140737488351232/\y0.length<=1048576/\∀y∈y0,zbh y)/\∃y1 l1,l0=(Rp.list Rp.str).lv y1++l1/\(y1.length*16<=140737488351232/\y1.length<=1048576/\∀y1'∈y1,y1'.length<=140737488351232/\y1'.length<=1048576)/\l1=[]) Tryz.underlying27 (by kernel_rfl) (by refine zeM (r:=Rp.list zd) (W:=fun x=>x.length*80<=140737488351232/\x.length<=1048576/\∀y∈x,zbh y) (zte Tryz.underlying24 (by kernel_rfl) (by kernel_rfl) (fun q hq=>(ih q (by omega)).2)) rfl (by kernel_rfl) ?_;refine zeM (r:=(Rp.list Rp.str)) (W:=fun x=>x.length*16<=140737488351232/\x.length<=1048576/\∀x'∈x,x'.length<=140737488351232/\x'.length<=1048576) (zMn m) rfl (by kernel_rfl) ?_;exact @zsP _ _ _) ?_;rintro _ ⟨y0,l0,rfl,w0,y1,l1,rfl,w1,rfl⟩;exact ⟨⟨y0,y1⟩,by rw [zaq]<;>rfl,(zlW _).2 ⟨⟨w0.1,w0.2.1,(zeV _).2 w0.2.2⟩,w1⟩⟩
      · refine znp (S:=fun l=>∃y0 l0,l=(Rp.int .i64).lv y0++l0/\((Lit.int .i64 y0).wf=true)/\∃y1 l1,l0=(Rp.list (Rp.int .u64)).lv y1++l1/\(y1.length*8<=140737488351232/\y1.length<=1048576/\∀y1'∈y1,(Lit.int .u64 y1').wf=true)/\∃y2 l2,l1=(Rp.list Rp.str).lv y2++l2/\(y2.length*16<=140737488351232/\y2.length<=1048576/\∀y2'∈y2,y2'.length<=140737488351232/\y2'.length<=1048576)/\∃y3 l3,l2=(Rp.list zg).lv y3++l3/\(y3.length*48<=140737488351232/\y3.length<=1048576/\∀y∈y3,zbT y)/\l3=[]) Tryz.underlying51 (by kernel_rfl) (by refine zeM (r:=(Rp.int .i64)) (W:=fun x=>(Lit.int .i64 x).wf=true) ((fun _=>zmq Tryz.underlying3) m) rfl (by kernel_rfl) ?_;refine zeM (r:=(Rp.list (Rp.int .u64))) (W:=fun x=>x.length*8<=140737488351232/\x.length<=1048576/\∀x'∈x,(Lit.int .u64 x').wf=true) (zNV m) rfl (by kernel_rfl) ?_;refine zeM (r:=(Rp.list Rp.str)) (W:=fun x=>x.length*16<=140737488351232/\x.length<=1048576/\∀x'∈x,x'.length<=140737488351232/\x'.length<=1048576) (zMn m) rfl (by kernel_rfl) ?_;refine zeM (r:=Rp.list zg) (W:=fun x=>x.length*48<=140737488351232/\x.length<=1048576/\∀y∈x,zbT y) (zte Tryz.underlying49 (by kernel_rfl) (by kernel_rfl) (fun q hq=>(ih q (by omega)).1)) rfl (by kernel_rfl) ?_;exact @zsP _ _ _) ?_;rintro _ ⟨y0,l0,rfl,w0,y1,l1,rfl,w1,y2,l2,rfl,w2,y3,l3,rfl,w3,rfl⟩;exact ⟨⟨y0,y1,y2,y3⟩,by rw [zG]<;>rfl,(zhv _).2 ⟨w0,w1,w2,⟨w3.1,w3.2.1,(zih _).2 w3.2.2⟩⟩⟩
theorem zMo:ziE Tryz.prog 27 zg zbT:=fun n=>(zMX n n (xE _)).1
end Go.Proofs.YtkgohoggipdokaaGreat
