/-
  The laws as plain functions. No condition.
-/
import Derived.KernelRfl
import Derived.Test.YtekgmimingolbaaGreatx1T
import Derived.Test.YtekgmimingolbaaGreatx1OpenU
namespace Go.Proofs.YtekgmimingolbaaGreat
open Go Go.RowKit
def zaZ (x:ze):Prop:=(x.Name.length<=140737488351232/\x.Name.length<=1048576)/\((Lit.int .i64 x.Number).wf=true)/\((Lit.int .i64 x.Kind).wf=true)/\(True)/\(True)/\((Lit.int .i64 x.Of).wf=true)
theorem zJI:zis Tryz.prog 65 zf zaZ:=zqz (S:=fun l=>∃y0 l0,l=Rp.str.lv y0++l0/\(y0.length<=140737488351232/\y0.length<=1048576)/\∃y1 l1,l0=(Rp.int .i64).lv y1++l1/\((Lit.int .i64 y1).wf=true)/\∃y2 l2,l1=(Rp.int .i64).lv y2++l2/\((Lit.int .i64 y2).wf=true)/\∃y3 l3,l2=Rp.bool.lv y3++l3/\(True)/\∃y4 l4,l3=Rp.bool.lv y4++l4/\(True)/\∃y5 l5,l4=(Rp.int .i64).lv y5++l5/\((Lit.int .i64 y5).wf=true)/\l5=[]) Tryz.underlying65 (by kernel_rfl) (by intro n;refine zfv (r:=Rp.str) (W:=fun x=>x.length<=140737488351232/\x.length<=1048576) ((fun _=>zsk Tryz.underlying9) n) rfl (by kernel_rfl) ?_;refine zfv (r:=(Rp.int .i64)) (W:=fun x=>(Lit.int .i64 x).wf=true) ((fun _=>zkE Tryz.underlying3) n) rfl (by kernel_rfl) ?_;refine zfv (r:=(Rp.int .i64)) (W:=fun x=>(Lit.int .i64 x).wf=true) ((fun _=>zkE Tryz.underlying3) n) rfl (by kernel_rfl) ?_;refine zfv (r:=Rp.bool) (W:=fun x=>True) ((fun _=>zuA Tryz.underlying4) n) rfl (by kernel_rfl) ?_;refine zfv (r:=Rp.bool) (W:=fun x=>True) ((fun _=>zuA Tryz.underlying4) n) rfl (by kernel_rfl) ?_;refine zfv (r:=(Rp.int .i64)) (W:=fun x=>(Lit.int .i64 x).wf=true) ((fun _=>zkE Tryz.underlying3) n) rfl (by kernel_rfl) ?_;exact @zsM _ _ _) (by rintro _ ⟨y0,l0,rfl,w0,y1,l1,rfl,w1,y2,l2,rfl,w2,y3,l3,rfl,w3,y4,l4,rfl,w4,y5,l5,rfl,w5,rfl⟩;exact ⟨⟨y0,y1,y2,y3,y4,y5⟩,rfl,w0,w1,w2,w3,w4,w5⟩)
theorem zJJ:zis Tryz.prog 80 (Rp.list zf) (fun x=>x.length*48<=140737488351232/\x.length<=1048576/\∀x'∈x,zaZ x'):=ziR Tryz.underlying80 (by kernel_rfl) (by kernel_rfl) zJI
def zjT (x:zg):Prop:=(x.Name.length<=140737488351232/\x.Name.length<=1048576)/\(x.Fields.length*48<=140737488351232/\x.Fields.length<=1048576/\∀x_Fields'∈x.Fields,zaZ x_Fields')
theorem zJK:zis Tryz.prog 82 zh zjT:=zqz (S:=fun l=>∃y0 l0,l=Rp.str.lv y0++l0/\(y0.length<=140737488351232/\y0.length<=1048576)/\∃y1 l1,l0=(Rp.list zf).lv y1++l1/\(y1.length*48<=140737488351232/\y1.length<=1048576/\∀y1'∈y1,zaZ y1')/\l1=[]) Tryz.underlying82 (by kernel_rfl) (by intro n;refine zfv (r:=Rp.str) (W:=fun x=>x.length<=140737488351232/\x.length<=1048576) ((fun _=>zsk Tryz.underlying9) n) rfl (by kernel_rfl) ?_;refine zfv (r:=(Rp.list zf)) (W:=fun x=>x.length*48<=140737488351232/\x.length<=1048576/\∀x'∈x,zaZ x') (zJJ n) rfl (by kernel_rfl) ?_;exact @zsM _ _ _) (by rintro _ ⟨y0,l0,rfl,w0,y1,l1,rfl,w1,rfl⟩;exact ⟨⟨y0,y1⟩,rfl,w0,w1⟩)
theorem zJD:zis Tryz.prog 23 (Rp.list zh) (fun x=>x.length*40<=140737488351232/\x.length<=1048576/\∀x'∈x,zjT x'):=ziR Tryz.underlying23 (by kernel_rfl) (by kernel_rfl) zJK
mutual
def zcA:zc->Prop
  | ⟨x0,x1⟩=>(x0.length*80<=140737488351232/\x0.length<=1048576/\zcm x0)/\(x1.length*16<=140737488351232/\x1.length<=1048576/\∀x1'∈x1,x1'.length<=140737488351232/\x1'.length<=1048576)
def zeU:List zc->Prop
  | []=>True
  | x::l=>zcA x/\zeU l
def zba:zb->Prop
  | ⟨x0,x1,x2,x3⟩=>((Lit.int .i64 x0).wf=true)/\(x1.length*8<=140737488351232/\x1.length<=1048576/\∀x1'∈x1,(Lit.int .u64 x1').wf=true)/\(x2.length*16<=140737488351232/\x2.length<=1048576/\∀x2'∈x2,x2'.length<=140737488351232/\x2'.length<=1048576)/\(x3.length*48<=140737488351232/\x3.length<=1048576/\zeU x3)
def zcm:List zb->Prop
  | []=>True
  | x::l=>zba x/\zcm l
end
theorem zjh:∀(l:List zc),zeU l↔∀x∈l,zcA x
  | []=>by simp [zeU]
  | x::l=>by rw [zeU,zjh l];simp
theorem zmb (x:zc):zcA x↔(x.Values.length*80<=140737488351232/\x.Values.length<=1048576/\zcm x.Values)/\(x.Unknown.length*16<=140737488351232/\x.Unknown.length<=1048576/\∀x_Unknown'∈x.Unknown,x_Unknown'.length<=140737488351232/\x_Unknown'.length<=1048576):=by cases x;simp only [zcA]
theorem zfF:∀(l:List zb),zcm l↔∀x∈l,zba x
  | []=>by simp [zcm]
  | x::l=>by rw [zcm,zfF l];simp
theorem zit (x:zb):zba x↔((Lit.int .i64 x.Number).wf=true)/\(x.Words.length*8<=140737488351232/\x.Words.length<=1048576/\∀x_Words'∈x.Words,(Lit.int .u64 x_Words').wf=true)/\(x.Texts.length*16<=140737488351232/\x.Texts.length<=1048576/\∀x_Texts'∈x.Texts,x_Texts'.length<=140737488351232/\x_Texts'.length<=1048576)/\(x.Subs.length*48<=140737488351232/\x.Subs.length<=1048576/\zeU x.Subs):=by cases x;simp only [zba]
theorem zIp:zis Tryz.prog 25 (Rp.list Rp.str) (fun x=>x.length*16<=140737488351232/\x.length<=1048576/\∀x'∈x,x'.length<=140737488351232/\x'.length<=1048576):=ziR Tryz.underlying25 (by kernel_rfl) (by kernel_rfl) (fun _=>zsk Tryz.underlying9)
theorem zJH:zis Tryz.prog 54 (Rp.list (Rp.int .u64)) (fun x=>x.length*8<=140737488351232/\x.length<=1048576/\∀x'∈x,(Lit.int .u64 x').wf=true):=ziR Tryz.underlying54 (by kernel_rfl) (by kernel_rfl) (fun _=>zkE Tryz.underlying83)
theorem zIS:∀(n m:Nat),m<=n->zkv Tryz.prog m 27 zd zcA/\zkv Tryz.prog m 57 za zba:=by
  intro n
  induction n with
  | zero => intro m hm; obtain rfl : m = 0 := by omega
            exact ⟨ziD,ziD⟩
  | succ n ih=>
    intro m hm;cases m with
    | zero=>exact ⟨ziD,ziD⟩
    | succ m=>
      refine ⟨?_,?_⟩
      · refine znS (S:=fun l=>∃y0 l0,l=(Rp.list za).lv y0++l0/\(y0.length*80<=140737488351232/\y0.length<=1048576/\∀y∈y0,zba y)/\∃y1 l1,l0=(Rp.list Rp.str).lv y1++l1/\(y1.length*16<=140737488351232/\y1.length<=1048576/\∀y1'∈y1,y1'.length<=140737488351232/\y1'.length<=1048576)/\l1=[]) Tryz.underlying27 (by kernel_rfl) (by refine zfv (r:=Rp.list za) (W:=fun x=>x.length*80<=140737488351232/\x.length<=1048576/\∀y∈x,zba y) (zsZ Tryz.underlying24 (by kernel_rfl) (by kernel_rfl) (fun q hq=>(ih q (by omega)).2)) rfl (by kernel_rfl) ?_;refine zfv (r:=(Rp.list Rp.str)) (W:=fun x=>x.length*16<=140737488351232/\x.length<=1048576/\∀x'∈x,x'.length<=140737488351232/\x'.length<=1048576) (zIp m) rfl (by kernel_rfl) ?_;exact @zsM _ _ _) ?_;rintro _ ⟨y0,l0,rfl,w0,y1,l1,rfl,w1,rfl⟩;exact ⟨⟨y0,y1⟩,by rw [zi]<;>rfl,(zmb _).2 ⟨⟨w0.1,w0.2.1,(zfF _).2 w0.2.2⟩,w1⟩⟩
      · refine znS (S:=fun l=>∃y0 l0,l=(Rp.int .i64).lv y0++l0/\((Lit.int .i64 y0).wf=true)/\∃y1 l1,l0=(Rp.list (Rp.int .u64)).lv y1++l1/\(y1.length*8<=140737488351232/\y1.length<=1048576/\∀y1'∈y1,(Lit.int .u64 y1').wf=true)/\∃y2 l2,l1=(Rp.list Rp.str).lv y2++l2/\(y2.length*16<=140737488351232/\y2.length<=1048576/\∀y2'∈y2,y2'.length<=140737488351232/\y2'.length<=1048576)/\∃y3 l3,l2=(Rp.list zd).lv y3++l3/\(y3.length*48<=140737488351232/\y3.length<=1048576/\∀y∈y3,zcA y)/\l3=[]) Tryz.underlying57 (by kernel_rfl) (by refine zfv (r:=(Rp.int .i64)) (W:=fun x=>(Lit.int .i64 x).wf=true) ((fun _=>zkE Tryz.underlying3) m) rfl (by kernel_rfl) ?_;refine zfv (r:=(Rp.list (Rp.int .u64))) (W:=fun x=>x.length*8<=140737488351232/\x.length<=1048576/\∀x'∈x,(Lit.int .u64 x').wf=true) (zJH m) rfl (by kernel_rfl) ?_;refine zfv (r:=(Rp.list Rp.str)) (W:=fun x=>x.length*16<=140737488351232/\x.length<=1048576/\∀x'∈x,x'.length<=140737488351232/\x'.length<=1048576) (zIp m) rfl (by kernel_rfl) ?_;refine zfv (r:=Rp.list zd) (W:=fun x=>x.length*48<=140737488351232/\x.length<=1048576/\∀y∈x,zcA y) (zsZ Tryz.underlying55 (by kernel_rfl) (by kernel_rfl) (fun q hq=>(ih q (by omega)).1)) rfl (by kernel_rfl) ?_;exact @zsM _ _ _) ?_;rintro _ ⟨y0,l0,rfl,w0,y1,l1,rfl,w1,y2,l2,rfl,w2,y3,l3,rfl,w3,rfl⟩;exact ⟨⟨y0,y1,y2,y3⟩,by rw [zk]<;>rfl,(zit _).2 ⟨w0,w1,w2,⟨w3.1,w3.2.1,(zjh _).2 w3.2.2⟩⟩⟩
theorem zJE:zis Tryz.prog 27 zd zcA:=fun n=>(zIS n n (xA _)).1
theorem zJG:zis Tryz.prog 53 (Rp.list (Rp.int .i64)) (fun x=>x.length*8<=140737488351232/\x.length<=1048576/\∀x'∈x,(Lit.int .i64 x').wf=true):=ziR Tryz.underlying53 (by kernel_rfl) (by kernel_rfl) (fun _=>zkE Tryz.underlying3)
theorem zJF:zis Tryz.prog 45 (Rp.list (Rp.list (Rp.int .i64))) (fun x=>x.length*24<=140737488351232/\x.length<=1048576/\∀x'∈x,(x'.length*8<=140737488351232/\x'.length<=1048576/\∀x_'∈x',(Lit.int .i64 x_').wf=true)):=ziR Tryz.underlying45 (by kernel_rfl) (by kernel_rfl) zJG
end Go.Proofs.YtekgmimingolbaaGreat
