/-
  The Go functions do what the plain functions say. No condition.
-/
import Derived.Test.YtcbkcblkecmjnaaGreatx3G13
namespace Go.Proofs.YtcbkcblkecmjnaaGreat
open Go Go.RowKit
set_option linter.unusedVariables false
set_option maxRecDepth 100000
set_option maxHeartbeats 3200000
theorem zkp {fuel:Nat} {sv:(List zg)} {f:za} {v:zc} {r:Bool} (h:zdd fuel sv f v=some r):FnOk Tryz.prog 5 [.sl zi [0] sv,.rc zb [0] f,.rc zd [0] v] [kB r]:=by
 refine zC (E:=⟨[(6,kB r)],[]⟩) 32 Tryz.func5 rfl rfl rfl ⟨rfl,trivial⟩ (fun Xt=>?_)
 refine zr ?_
 unfold zdd at h
 refine jr (ral 1 [11] [.rc zd [0] v] rfl (zds 12 [kI v.Number,.sl (Rp.int .u64) [0] v.Words,.sl Rp.str [0] v.Texts,.sl zj [0] v.Subs] [0] rfl rfl rfl (by rw [zx]<;>rfl) rfl) rfl rf) ?_
 obtain ⟨rv,h_rv,h⟩:=bnd h
 refine jr (rl 0 [1] 11 Tryz.call7 (zmg h_rv) rf) ?_
 rcases zn h with ⟨hc1,h⟩| ⟨hc1,h⟩
 ·
  refine jT hc1 ?_
  refine jp ?_
  obtain rfl:=sj h
  exact zy lzz
 refine jF hc1 ?_
 obtain ⟨g,h_g,h⟩:=bnd h
 refine zS ⟨[(0,.sl zi [0] sv),(4,.ptr 11 0),(5,.ptr 12 0),(21,kB g)],[⟨11,64,[kS f.Name,kI f.Number,kI f.Kind,kB f.Repeated,kB f.Packed,kI f.Of]⟩,⟨12,50,[kI v.Number,.sl (Rp.int .u64) [0] v.Words,.sl Rp.str [0] v.Texts,.sl zj [0] v.Subs]⟩]⟩ ?_ ?_
 ·
  obtain ⟨rv2,h_rv2,h_g⟩:=bnd h_g
  refine (rl 1 [0] 11 Tryz.call8 (znI h_rv2) (rsl 2 [] 12 (!rv2) (fun hc2=>?_) (fun hc2=>?_)))
  ·
   replace h_g:=iteT h_g hc2
   obtain rfl:=sj h_g
   exact (rel [] lzz)
  replace h_g:=iteF h_g hc2
  obtain ⟨rv3,h_rv3,h_g⟩:=bnd h_g
  refine (rl 1 [0] 11 Tryz.call17 (zmn h_rv3) (rsl 3 [] 17 (!rv3) (fun hc3=>?_) (fun hc3=>?_)))
  ·
   replace h_g:=iteT h_g hc3
   obtain rfl:=sj h_g
   exact (rel [] lzz)
  replace h_g:=iteF h_g hc3
  obtain ⟨rv4,h_rv4,h_g⟩:=bnd h_g
  obtain rfl:=sj h_g
  exact (rc 1 rfl (zH.le (ins':=[(.tmp 18,.ag [kI v.Number,.sl (Rp.int .u64) [0] v.Words,.sl Rp.str [0] v.Texts,.sl zj [0] v.Subs]),(.const (.int .i64 70),kI 70)]) (zbz (args:=[.tmp 18,.const (.int .i64 70)]) [.rc zd [0] v,kI 70] [0] 11 rfl Tryz.call26 (zjI h_rv4) rfl rfl rfl rfl rfl) ⟨⟨rfl,zcP zd [0] v [kI v.Number,.sl (Rp.int .u64) [0] v.Words,.sl Rp.str [0] v.Texts,.sl zj [0] v.Subs] (by rw [zx]<;>rfl) rfl⟩,⟨rfl,AV.le_refl _⟩,trivial⟩) (rel [] lzz))
 rcases zn h with ⟨hc4,h⟩| ⟨hc4,h⟩
 ·
  refine jT hc4 ?_
  refine jp ?_
  obtain rfl:=sj h
  exact zy lzz
 refine jF hc4 ?_
 obtain ⟨rv5,h_rv5,h⟩:=bnd h
 obtain ⟨rv6,h_rv6,h⟩:=bnd h
 obtain ⟨rv7,h_rv7,h⟩:=bnd h
 refine jd [6] [] zcp (by exact (ly [.ptr 11 0] (zsm (r:=zb) (b:=⟨11,64,[kS f.Name,kI f.Number,kI f.Kind,kB f.Repeated,kB f.Packed,kI f.Of]⟩) f [] rfl ⟨Tryz.isAgg64,Tryz.sizeOf64⟩ rfl rfl) rfl (lw_e (ly [.ptr 12 0] (zrs (b:=⟨12,50,[kI v.Number,.sl (Rp.int .u64) [0] v.Words,.sl Rp.str [0] v.Texts,.sl zj [0] v.Subs]⟩) [kI v.Number,.sl (Rp.int .u64) [0] v.Words,.sl Rp.str [0] v.Texts,.sl zj [0] v.Subs] rfl ⟨Tryz.isAgg50,Tryz.sizeOf50⟩ rfl rfl) rfl (lx (lf1 27 (zH.le (ins':=[(.tmp 22,.rc zb [] f),(.tmp 23,.sl zi [0] sv),(.tmp 24,.ag [kI v.Number,.sl (Rp.int .u64) [0] v.Words,.sl Rp.str [0] v.Texts,.sl zj [0] v.Subs])]) (zbz (args:=[.tmp 22,.tmp 23,.tmp 24]) [.rc zb [] f,.sl zi [0] sv,.rc zd [0] v] [0] 11 rfl Tryz.call27 (zwa h_rv5) rfl rfl rfl rfl rfl) ⟨⟨rfl,AV.le_refl _⟩,⟨rfl,AV.le_refl _⟩,⟨rfl,zcP zd [0] v [kI v.Number,.sl (Rp.int .u64) [0] v.Words,.sl Rp.str [0] v.Texts,.sl zj [0] v.Subs] (by rw [zx]<;>rfl) rfl⟩,trivial⟩)) (lw_e (ly [.ptr 11 0] (zsm (r:=zb) (b:=⟨11,64,[kS f.Name,kI f.Number,kI f.Kind,kB f.Repeated,kB f.Packed,kI f.Of]⟩) f [] rfl ⟨Tryz.isAgg64,Tryz.sizeOf64⟩ rfl rfl) rfl (ly [.ptr 12 0] (zrs (b:=⟨12,50,[kI v.Number,.sl (Rp.int .u64) [0] v.Words,.sl Rp.str [0] v.Texts,.sl zj [0] v.Subs]⟩) [kI v.Number,.sl (Rp.int .u64) [0] v.Words,.sl Rp.str [0] v.Texts,.sl zj [0] v.Subs] rfl ⟨Tryz.isAgg50,Tryz.sizeOf50⟩ rfl rfl) rfl (lx (lf1 24 (zH.le (ins':=[(.tmp 28,.ag [kI v.Number,.sl (Rp.int .u64) [0] v.Words,.sl Rp.str [0] v.Texts,.sl zj [0] v.Subs])]) (zbz (args:=[.tmp 28]) [.rc zd [0] v] [0] 11 rfl Tryz.call24 (zkV h_rv6) rfl rfl rfl rfl rfl) ⟨⟨rfl,zcP zd [0] v [kI v.Number,.sl (Rp.int .u64) [0] v.Words,.sl Rp.str [0] v.Texts,.sl zj [0] v.Subs] (by rw [zx]<;>rfl) rfl⟩,trivial⟩)) (lx (lf1 28 (zH.le (ins':=[(.tmp 26,.sl zi [0] sv),(.tmp 27,.rc zb [] f),(.tmp 29,.ag [kI rv6.Number,.sl (Rp.int .u64) [0] rv6.Words,.sl Rp.str [0] rv6.Texts,.own zj 39 14 [15,0] rv6.Subs])]) (zbz (args:=[.tmp 26,.tmp 27,.tmp 29]) [.sl zi [0] sv,.rc zb [] f,.rc zd [0,14,15] rv6] [0,14,15] 14 rfl Tryz.call28 (zmF h_rv7) rfl rfl rfl rfl rfl) ⟨⟨rfl,AV.le_refl _⟩,⟨rfl,AV.le_refl _⟩,⟨rfl,zcP zd [0,14,15] rv6 [kI rv6.Number,.sl (Rp.int .u64) [0] rv6.Words,.sl Rp.str [0] rv6.Texts,.own zj 39 14 [15,0] rv6.Subs] (by rw [zx]<;>rfl) rfl⟩,trivial⟩)) l0)))))))))) ?_
 obtain rfl:=sj h
 exact zy lzz
end Go.Proofs.YtcbkcblkecmjnaaGreat
