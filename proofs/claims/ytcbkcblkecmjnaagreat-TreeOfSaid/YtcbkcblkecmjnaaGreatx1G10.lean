/-
  The Go functions do what the plain functions say. No condition.
-/
import Derived.Test.YtcbkcblkecmjnaaGreatx1G9
namespace Go.Proofs.YtcbkcblkecmjnaaGreat
open Go Go.RowKit
set_option linter.unusedVariables false
set_option maxRecDepth 100000
set_option maxHeartbeats 3200000
theorem zrr {sv:(List zh)} {r:Bool} (h:zht sv=some r):FnOk Tryz.prog 52 [.sl zi [0] sv] [kB r]:=by
 refine zB (E:=⟨[(2,kB r)],[]⟩) 12 Tryz.func52 rfl rfl rfl ⟨rfl,trivial⟩ (fun Xt=>?_)
 refine zr ?_
 unfold zht at h
 refine jp ?_
 obtain ⟨rv,h_rv,h⟩:=bnd h
 refine jr (rl 1 [0] 9 Tryz.call80 (zrq h_rv) (rfl' [11])) ?_
 refine jp ?_
 obtain rfl:=sj h
 exact zx lzz
theorem zww {m:zh} {b:(List UInt8)} {fromv:Int} {r:(zf×Int)} (h:zls m b fromv=some r):FnOk Tryz.prog 133 [.rc zi [0] m,.sl Rp.byte [0] b,kI fromv] [.rc zg [] r.1,k8 r.2]:=by
 refine zB (E:=⟨[(6,.ptr 2 0),(7,k8 r.2)],[⟨2,113,[kI r.1.Record.Number,kI r.1.Record.Wire,kI r.1.Record.From,kI r.1.Record.At,kI r.1.Record.To,kI r.1.Field,kB r.1.Run]⟩]⟩) 15 Tryz.func133 rfl rfl rfl ⟨⟨_,_,rfl,rfl,rfl,rfl,⟨Tryz.isAgg113,Tryz.sizeOf113⟩⟩,rfl,trivial⟩ (fun Xt=>?_)
 refine zr ?_
 unfold zls at h
 refine jr (ra 0 [.rc zi [0] m] rfl (zeC 13 [kS m.Name,.sl za [0] m.Fields] [0] rfl rfl rfl rfl rfl) rfl (rfl' [14])) ?_
 obtain ⟨rv2,h_rv2,h⟩:=bnd h
 refine jr (rc 3 rfl (zkZ (rk:=zQ) (rv:=zR) 15 rfl) (rkl 0 [] ⟨[(6,.ptr 14 0),(8,.ag [kS m.Name,.sl za [0] m.Fields]),(9,.sl Rp.byte [0] b),(10,kI fromv),(11,.om zQ zR 15 [] ([]:(List (zK×zP))))],[⟨14,113,[kI 0,kI 0,kI 0,kI 0,kI 0,kI 0,kB false]⟩]⟩ (zgh ⟨[(6,.ptr 14 0),(8,.ag [kS m.Name,.sl za [0] m.Fields]),(9,.sl Rp.byte [0] b),(10,kI fromv),(11,.om zQ zR 15 [0] rv2.2.2)],[⟨14,113,[kI 0,kI 0,kI 0,kI 0,kI 0,kI 0,kB false]⟩]⟩ (zmy.le (ins':=[(.tmp 8,.ag [kS m.Name,.sl za [0] m.Fields]),(.tmp 9,.sl Rp.byte [0] b),(.tmp 10,kI fromv),(.tmp 11,.om zQ zR 15 [] ([]:(List (zK×zP))))]) (zkj (args:=[.tmp 8,.tmp 9,.tmp 10,.tmp 11]) [.rc zi [0] m,.sl Rp.byte [0] b,kI fromv,.om zQ zR 15 [] ([]:(List (zK×zP)))] [(15,2)] [0] 15 [] rfl Tryz.call88 (zpL h_rv2) rfl rfl (by kernel_rfl) rfl rfl rfl) ⟨⟨rfl,zcw zi [0] m [kS m.Name,.sl za [0] m.Fields] rfl rfl⟩,⟨rfl,AV.le_refl _⟩,⟨rfl,AV.le_refl _⟩,⟨rfl,AV.le_refl _⟩,trivial⟩) rfl (by kernel_rfl) (by kernel_rfl) ⟨⟨_,rfl,zv rfl⟩,⟨_,rfl,zv rfl⟩,⟨_,rfl,zv rfl⟩,⟨_,rfl,zv rfl⟩,⟨_,rfl,zea 0 rfl⟩,trivial⟩ ⟨⟨_,rfl,rfl,rfl,⟨zv rfl,zv rfl,zv rfl,zv rfl,zv rfl,zv rfl,zv rfl,trivial⟩⟩,trivial⟩ rf))) ?_
 obtain rfl:=sj h
 refine zx ?_
 refine lk [6,7] [14] 14 2 ?_
 exact lzz
theorem zol {k:Int} {b:(List UInt8)} {r:(Int×(List UInt8))} (h:zhT k b=some r):FnOk Tryz.prog 150 [kI k,.sl Rp.byte [0] b] [.fv 170 [.bp (Rp.int .i64) 3 917000 [] r.1,.bp (Rp.list Rp.byte) 24 917001 [0] r.2]]:=by
 refine zB (E:=⟨[(4,.fv 170 [.bp (Rp.int .i64) 3 917000 [] r.1,.bp (Rp.list Rp.byte) 24 917001 [0] r.2])],[]⟩) 6 Tryz.func150 rfl rfl rfl ⟨rfl,trivial⟩ (fun Xt=>?_)
 refine zr ?_
 unfold zhT at h
 refine jq [917000,917001] ?_
 refine jr (ra 0 [.ptr 917000 0,.ptr 917001 0] rfl (zEt (g:=170) [.tmp 2,.tmp 3] [⟨917000,3,[kI k]⟩,⟨917001,24,[.sl Rp.byte [0] b]⟩] [.bp (Rp.int .i64) 3 917000 [] k,.bp (Rp.list Rp.byte) 24 917001 [0] b] rfl ⟨⟨rfl,rfl,rfl,rfl⟩,⟨rfl,rfl,rfl,rfl⟩,trivial⟩ rfl) rfl rf) ?_
 obtain rfl:=sj h
 exact zx lzz
theorem zyf {m:zh} {b:(List UInt8)} {r:((List zf)×Int×Int)} (h:znm m b=some r):FnOk Tryz.prog 58 [.rc zi [0] m,.sl Rp.byte [0] b] [.own zg 113 2 [] r.1,kI r.2.1,k8 r.2.2]:=by
 refine zB (E:=⟨[(4,.own zg 113 2 [] r.1),(5,kI r.2.1),(6,k8 r.2.2)],[]⟩) 36 Tryz.func58 rfl rfl rfl ⟨rfl,rfl,rfl,trivial⟩ (fun Xt=>?_)
 refine zr ?_
 unfold znm at h
 refine jr (ra 0 [.rc zi [0] m] rfl (zeC 19 [kS m.Name,.sl za [0] m.Fields] [0] rfl rfl rfl rfl rfl) rfl rf) ?_
 refine jr (rc 0 rfl (zkZ (rk:=zQ) (rv:=zR) 20 rfl) rf) ?_
 refine jp ?_
 refine zy ?_
 obtain ⟨q,h_q,h⟩:=bnd h
 refine zah (fun s:((List zf)×(List (zK×zP))×Int)=>zcN b m s.1 s.2.1 s.2.2) (fun s=>⟨[(1,.sl Rp.byte [0] b),(2,.ptr 19 0),(4,.own zg 113 26 [] s.1),(7,.om zQ zR 20 [0] s.2.1),(8,kI s.2.2)],[⟨19,73,[kS m.Name,.sl za [0] m.Fields]⟩]⟩) (fun o e a w=>match o with| (.inl v_)=>e= .exit 0∧Sx ⟨⟨36,[]⟩,Xt,false,#[]⟩ ⟨[(4,.own zg 113 26 [] v_)],[]⟩ a w| (.inr v_)=>e= .ret∧Sx ⟨⟨36,[]⟩,Xt,false,#[]⟩ ⟨[(4,kN),(5,kI v_.1),(6,k8 v_.2)],[]⟩ a w) ?_ h_q ?_ ?_
 ·
  clear h
  intro s o h
  obtain ⟨l,met,fromv⟩:=s
  refine zr ?_
  replace h:zcN b m l met fromv=some o:=h
  unfold zcN at h
  refine jp ?_
  rcases zn h with ⟨hc1,h⟩| ⟨hc1,h⟩
  ·
   refine jT hc1 ?_
   refine zy ?_
   obtain ⟨rv2,h_rv2,h⟩:=bnd h
   refine jr (rkl 4 [] ⟨[(1,.sl Rp.byte [0] b),(2,.ptr 19 0),(4,.own zg 113 26 [] l),(7,.om zQ zR 20 [0] met),(8,kI fromv),(17,.ag [kS m.Name,.sl za [0] m.Fields]),(18,.sl Rp.byte [0] b),(19,kI fromv),(20,.om zQ zR 20 [0] met)],[⟨19,73,[kS m.Name,.sl za [0] m.Fields]⟩]⟩ (zgh ⟨[(1,.sl Rp.byte [0] b),(2,.ptr 19 0),(4,.own zg 113 26 [] l),(7,.om zQ zR 20 [0] rv2.2.2),(8,kI fromv),(17,.ag [kS m.Name,.sl za [0] m.Fields]),(18,.sl Rp.byte [0] b),(19,kI fromv),(20,.om zQ zR 20 [0] rv2.2.2)],[⟨19,73,[kS m.Name,.sl za [0] m.Fields]⟩]⟩ (zmy.le (ins':=[(.tmp 17,.ag [kS m.Name,.sl za [0] m.Fields]),(.tmp 18,.sl Rp.byte [0] b),(.tmp 19,kI fromv),(.tmp 20,.om zQ zR 20 [0] met)]) (zkj (args:=[.tmp 17,.tmp 18,.tmp 19,.tmp 20]) [.rc zi [0] m,.sl Rp.byte [0] b,kI fromv,.om zQ zR 20 [0] met] [(20,2)] [0] 26 [] rfl Tryz.call88 (zpL h_rv2) rfl rfl (by kernel_rfl) rfl rfl rfl) ⟨⟨rfl,zcw zi [0] m [kS m.Name,.sl za [0] m.Fields] rfl rfl⟩,⟨rfl,AV.le_refl _⟩,⟨rfl,AV.le_refl _⟩,⟨rfl,AV.le_refl _⟩,trivial⟩) rfl (by kernel_rfl) (by kernel_rfl) ⟨⟨_,rfl,zv rfl⟩,⟨_,rfl,zv rfl⟩,⟨_,rfl,zv rfl⟩,⟨_,rfl,zea 0 rfl⟩,⟨_,rfl,zv rfl⟩,⟨_,rfl,zv rfl⟩,⟨_,rfl,zv rfl⟩,⟨_,rfl,zv rfl⟩,⟨_,rfl,zea 0 rfl⟩,trivial⟩ ⟨⟨_,rfl,rfl,rfl,⟨zv rfl,zv rfl,trivial⟩⟩,trivial⟩ (rfl' [29]))) ?_
   refine jp ?_
   rcases zn h with ⟨hc2,h⟩| ⟨hc2,h⟩
   ·
    refine jT hc2 ?_
    refine jp ?_
    obtain rfl:=sj h
    exact zbq lzz
   refine jF hc2 ?_
   obtain ⟨v,h_v,h⟩:=bnd h
   refine jr (lb 1 zg [] rv2.1 (rc 0 rfl (zcP [.rc zg [] rv2.1] 30 [] ([rv2.1]:(List zf)) rfl zkN rfl rfl rfl rfl) (ra 0 [.own zg 113 26 [] l,.own zg 113 30 [] ([rv2.1]:(List zf))] rfl (zeA 26 [] rfl zkN.el rfl (zbJ _ _ _ _ _) (zay _ _ _ _ _) h_v (.inl zhp) rfl) rfl rf))) ?_
   refine jp ?_
   refine zT ?_
   obtain rfl:=sj h
   exact zE lzz
  refine jF hc1 ?_
  obtain rfl:=sj h
  exact zai rfl lzz
 ·
  refine zbn ⟨[(1,.sl Rp.byte [0] b),(2,.ptr 19 0),(4,kN),(7,.om zQ zR 20 [] ([]:(List (zK×zP)))),(8,kI 0)],[⟨19,73,[kS m.Name,.sl za [0] m.Fields]⟩]⟩ (by kernel_rfl) ?_
  refine zcK 4 (.own zg 113 26 [] []) rfl (zaj zg 113 26 [] rfl) ?_
  refine zcK 7 (.om zQ zR 20 [0] ([]:(List (zK×zP)))) rfl (zCG _ _ _ _ rfl rfl) ?_
  exact lzz
 rcases q with u| u2
 ·
  refine zaI _ rfl ?_
  refine jp ?_
  obtain rfl:=sj h
  refine zx ?_
  refine lk [4,5,6] [] 26 2 ?_
  exact lzz
 obtain rfl:=sj h
 refine zed ?_
 refine zbn ⟨[(4,kN),(5,kI u2.1),(6,k8 u2.2)],[]⟩ (by kernel_rfl) ?_
 refine zcK 4 (.own zg 113 2 [] (([],u2.1,u2.2):((List zf)×Int×Int)).1) rfl (zaj zg 113 2 [] rfl) ?_
 exact lzz
end Go.Proofs.YtcbkcblkecmjnaaGreat
