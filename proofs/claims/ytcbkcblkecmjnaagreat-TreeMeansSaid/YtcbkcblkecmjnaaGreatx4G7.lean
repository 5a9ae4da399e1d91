/-
  The Go functions do what the plain functions say. No condition.
-/
import Derived.Test.YtcbkcblkecmjnaaGreatx4G5
import Derived.Test.YtcbkcblkecmjnaaGreatx4G6
namespace Go.Proofs.YtcbkcblkecmjnaaGreat
open Go Go.RowKit
set_option linter.unusedVariables false
set_option maxRecDepth 100000
set_option maxHeartbeats 3200000
theorem znV {f:zc} {r:Bool} (h:zfc f=some r):FnOk Tryz.prog 125 [.rc zd [0] f] [kB r]:=by
 refine zD (E:=⟨[(2,kB r)],[]⟩) 10 Tryz.func125 rfl rfl rfl ⟨rfl,trivial⟩ (fun Xt=>?_)
 refine zv ?_
 unfold zfc at h
 refine jq [11] ?_
 obtain ⟨g,h_g,h⟩:=bnd h
 refine zap ⟨[(2,kB g)],[]⟩ ?_ ?_
 ·
  refine (rsl 3 [] 5 f.Repeated (fun hc1=>?_) (fun hc1=>?_))
  ·
   replace h_g:=iteT h_g hc1
   obtain ⟨rv,h_rv,h_g⟩:=bnd h_g
   obtain rfl:=sj h_g
   exact (rl 2 [1] 10 Tryz.call159 (zlj h_rv) rgg)
  replace h_g:=iteF h_g hc1
  obtain rfl:=sj h_g
  exact rgg
 obtain rfl:=sj h
 exact zA lzz
theorem zix {b:(List UInt8)} {fromv:Int} {r:(zx×Int)} (h:zfb b fromv=some r):FnOk Tryz.prog 98 [.sl Rp.byte [0] b,kI fromv] [.rc zaB [] r.1,k8 r.2]:=by
 refine zD (E:=⟨[(4,.ptr 2 0),(5,k8 r.2)],[⟨2,111,[kI r.1.Number,kI r.1.Wire,kI r.1.From,kI r.1.At,kI r.1.To]⟩]⟩) 62 Tryz.func98 rfl rfl rfl ⟨⟨_,_,rfl,rfl,rfl,rfl,⟨Tryz.isAgg111,Tryz.sizeOf111⟩⟩,rfl,trivial⟩ (fun Xt=>?_)
 refine zv ?_
 unfold zfb at h
 refine jq [12] ?_
 refine zap ⟨[(0,.sl Rp.byte [0] b),(1,kI fromv),(4,.ptr 12 0),(19,kB ((decide (fromv<0))|| (decide (fromv≥(b.length:Int)))))],[⟨12,111,[kI 0,kI 0,kI 0,kI 0,kI 0]⟩]⟩ ?_ ?_
 ·
  refine (rsl 3 [] 14 (decide (fromv<0)) (fun hc1=>?_) (fun hc1=>?_))
  · exact (rbl [] 19 true ((decide (fromv<0))|| (decide (fromv≥(b.length:Int)))) (by rw [hc1]<;>rfl))
  exact (rbl [] 19 (decide (fromv≥(b.length:Int))) ((decide (fromv<0))|| (decide (fromv≥(b.length:Int)))) (by rw [hc1]<;>rfl))
 rcases zp h with ⟨hc2,h⟩| ⟨hc2,h⟩
 ·
  refine jT hc2 ?_
  refine jr (rc 0 rfl (zam (r:=zaB) [] [] (⟨0,0,0,0,0⟩:zx) rfl zuN rfl rfl) rf) ?_
  obtain rfl:=sj h
  refine zA ?_
  refine lk [4,5] [12] 12 2 ?_
  exact lzz
 refine jF hc2 ?_
 obtain ⟨v2,h_v2,h⟩:=bnd h
 obtain ⟨rv,h_rv,h⟩:=bnd h
 refine jr (ra 2 [.sl Rp.byte [0] b,kI fromv] rfl (zfN (some (kI fromv)) none rfl zeq.el (zaa _ _ _) ⟨rfl,rfl⟩ ⟨rfl,rfl⟩ h_v2) rfl (rl 0 [0] 11 Tryz.call118 (zws h_rv) (rfl' [13]))) ?_
 refine jp ?_
 rcases zp h with ⟨hc3,h⟩| ⟨hc3,h⟩
 ·
  refine jT hc3 ?_
  refine jr (rc 0 rfl (zam (r:=zaB) [] [] (⟨0,0,0,0,0⟩:zx) rfl zuN rfl rfl) rf) ?_
  obtain rfl:=sj h
  refine zA ?_
  refine lk [4,5] [12] 12 2 ?_
  exact lzz
 refine jF hc3 ?_
 refine jp ?_
 obtain ⟨v3,h_v3,h⟩:=bnd h
 obtain ⟨rv2,h_rv2,h⟩:=bnd h
 refine jd [1,4,6,8,9,10,11] [12,13] zdz (by exact (lw_e (lw_e (lw_e (lw_e (ly [.sl Rp.byte [0] b,kI (IntKind.i64.wrap (fromv+rv.2.1))] (zfN (some (kI (IntKind.i64.wrap (fromv+rv.2.1)))) none rfl zeq.el (zaa _ _ _) ⟨rfl,rfl⟩ ⟨rfl,rfl⟩ h_v3) rfl (lx (lf1 119 (zbl [kI rv.1.Wire,.sl Rp.byte [0] v3] [0] 12 rfl Tryz.call119 (zrC h_rv2) rfl rfl rfl rfl rfl)) l0))))))) ?_
 refine jp ?_
 rcases zp h with ⟨hc4,h⟩| ⟨hc4,h⟩
 ·
  refine jT hc4 ?_
  refine jr (rc 0 rfl (zam (r:=zaB) [] [] (⟨0,0,0,0,0⟩:zx) rfl zuN rfl rfl) rf) ?_
  obtain rfl:=sj h
  refine zA ?_
  refine lk [4,5] [12] 12 2 ?_
  exact lzz
 refine jF hc4 ?_
 refine jr (rc 11 rfl (zam (r:=zaB) [kI rv.1.Number,kI rv.1.Wire,kI fromv,kI (IntKind.i64.wrap ((IntKind.i64.wrap (fromv+rv.2.1))+rv2.1)),kI (IntKind.i64.wrap ((IntKind.i64.wrap (fromv+rv.2.1))+rv2.2.1))] [] (⟨rv.1.Number,rv.1.Wire,fromv,(IntKind.i64.wrap ((IntKind.i64.wrap (fromv+rv.2.1))+rv2.1)),(IntKind.i64.wrap ((IntKind.i64.wrap (fromv+rv.2.1))+rv2.2.1))⟩:zx) rfl zuN rfl rfl) rf) ?_
 obtain rfl:=sj h
 refine zA ?_
 refine lk [4,5] [12] 12 2 ?_
 exact lzz
theorem zsC {f:zc} {wire:Int} {r:Bool} (h:ziI f wire=some r):FnOk Tryz.prog 136 [.rc zd [0] f,kI wire] [kB r]:=by
 refine zD (E:=⟨[(4,kB r)],[]⟩) 16 Tryz.func136 rfl rfl rfl ⟨rfl,trivial⟩ (fun Xt=>?_)
 refine zv ?_
 unfold ziI at h
 refine jq [11] ?_
 obtain ⟨g,h_g,h⟩:=bnd h
 refine zap ⟨[(4,kB g)],[]⟩ ?_ ?_
 ·
  refine (rsl 3 [] 7 f.Repeated (fun hc1=>?_) (fun hc1=>?_))
  ·
   replace h_g:=iteT h_g hc1
   refine (rsl 4 [] 11 (wire==2) (fun hc2=>?_) (fun hc2=>?_))
   ·
    replace h_g:=iteT h_g hc2
    obtain ⟨rv,h_rv,h_g⟩:=bnd h_g
    obtain rfl:=sj h_g
    exact (rl 2 [1] 10 Tryz.call159 (zlj h_rv) rgg)
   replace h_g:=iteF h_g hc2
   obtain rfl:=sj h_g
   exact rgg
  replace h_g:=iteF h_g hc1
  obtain rfl:=sj h_g
  exact rgg
 obtain rfl:=sj h
 exact zA lzz
theorem zrI {k:Int} {wv:Int} {r:Int} (h:zhy k wv=some r):FnOk Tryz.prog 177 [kI k,kU wv] [kI r]:=by
 refine zD (E:=⟨[(4,kI r)],[]⟩) 29 Tryz.func177 rfl rfl rfl ⟨rfl,trivial⟩ (fun Xt=>?_)
 refine zv ?_
 unfold zhy at h
 refine jp ?_
 obtain ⟨rv,h_rv,h⟩:=bnd h
 refine jr (rl 1 [1] 9 Tryz.call178 (zkH h_rv) rf) ?_
 refine zap ⟨[(0,kI k),(1,kU wv),(5,kI rv.1),(19,kB ((rv.2 !=0)|| (rv.1 !=0)))],[]⟩ ?_ ?_
 ·
  refine (rsl 3 [] 16 (rv.2 !=0) (fun hc1=>?_) (fun hc1=>?_))
  · exact (rbl [] 19 true ((rv.2 !=0)|| (rv.1 !=0)) (by rw [hc1]<;>rfl))
  exact (rbl [] 19 (rv.1 !=0) ((rv.2 !=0)|| (rv.1 !=0)) (by rw [hc1]<;>rfl))
 rcases zp h with ⟨hc2,h⟩| ⟨hc2,h⟩
 ·
  refine jT hc2 ?_
  refine jp ?_
  obtain rfl:=sj h
  exact zA lzz
 refine jF hc2 ?_
 obtain ⟨rv2,h_rv2,h⟩:=bnd h
 refine jr (rl 2 [1] 9 Tryz.call107 (zje h_rv2) rf) ?_
 obtain ⟨rv3,h_rv3,h⟩:=bnd h
 refine jr (rl 1 [1] 9 Tryz.call183 (zvl h_rv3) rf) ?_
 obtain rfl:=sj h
 exact zA lzz
theorem zuY {b:(List UInt8)} {r:Int} (h:zjZ b=some r):FnOk Tryz.prog 127 [.sl Rp.byte [0] b] [kI r]:=by
 refine zD (E:=⟨[(2,kI r)],[]⟩) 11 Tryz.func127 rfl rfl rfl ⟨rfl,trivial⟩ (fun Xt=>?_)
 refine zv ?_
 unfold zjZ at h
 refine jp ?_
 obtain ⟨rv,h_rv,h⟩:=bnd h
 refine jr (rl 1 [0] 9 Tryz.call160 (zwy h_rv) rf) ?_
 refine jp ?_
 obtain rfl:=sj h
 exact zA lzz
theorem zrH {k:Int} {b:(List UInt8)} {r:(Int×Int)} (h:zhx k b=some r):FnOk Tryz.prog 151 [kI k,.sl Rp.byte [0] b] [kU r.1,k8 r.2]:=by
 refine zD (E:=⟨[(4,kU r.1),(5,k8 r.2)],[]⟩) 22 Tryz.func151 rfl rfl rfl ⟨rfl,rfl,trivial⟩ (fun Xt=>?_)
 refine zv ?_
 unfold zhx at h
 refine jp ?_
 obtain ⟨rv,h_rv,h⟩:=bnd h
 refine jr (rl 2 [0] 9 Tryz.call173 (zpS h_rv) rf) ?_
 refine jp ?_
 rcases zp h with ⟨hc1,h⟩| ⟨hc1,h⟩
 ·
  refine jT hc1 ?_
  refine jp ?_
  obtain rfl:=sj h
  exact zA lzz
 refine jF hc1 ?_
 obtain ⟨rv2,h_rv2,h⟩:=bnd h
 refine jr (rl 2 [1] 9 Tryz.call107 (zje h_rv2) rf) ?_
 obtain rfl:=sj h
 exact zA lzz
theorem zuV {fuel:Nat} {x:ze} {r:ze} (h:zjT fuel x=some r):FnOk Tryz.prog 25 [.rc zf [0] x] [.ag [.own za 50 3 [0,4] r.Values,.own Rp.str 9 5 [] r.Unknown]]:=by
 refine zD (E:=⟨[(2,.ptr 2 0)],[⟨2,30,[.own za 50 3 [0,4] r.Values,.own Rp.str 9 5 [] r.Unknown]⟩]⟩) 9 Tryz.func25 rfl rfl rfl ⟨⟨_,_,rfl,rfl,rfl,⟨Tryz.isAgg30,Tryz.sizeOf30⟩⟩,trivial⟩ (fun Xt=>?_)
 refine zv ?_
 unfold zjT at h
 refine jr (ra 0 [.rc zf [0] x] rfl (zcQ 17 [.sl za [0] x.Values,.sl Rp.str [0] x.Unknown] [0] rfl rfl rfl (by rw [zE]<;>rfl) rfl) rfl (rfl' [18])) ?_
 obtain ⟨rv,h_rv,h⟩:=bnd h
 refine jr (rc 1 rfl (zL.le (ins':=[(.tmp 3,.ag [.sl za [0] x.Values,.sl Rp.str [0] x.Unknown])]) (zbl (args:=[.tmp 3]) [.rc zf [0] x] [0] 17 rfl Tryz.call48 (zkw h_rv) rfl rfl rfl rfl rfl) ⟨⟨rfl,zbk zf [0] x [.sl za [0] x.Values,.sl Rp.str [0] x.Unknown] (by rw [zE]<;>rfl) rfl⟩,trivial⟩) rf) ?_
 rcases zp h with ⟨hc1,h⟩| ⟨hc1,h⟩
 ·
  refine jT hc1 ?_
  refine jr (ra 0 [] rfl (zfX [] [kN,kN] rfl zBX rfl) rfl rf) ?_
  obtain rfl:=sj h
  refine zA ?_
  refine lk [2] [18] 18 2 ?_
  refine zbC ⟨[(2,.ptr 2 0)],[⟨2,30,[kN,kN]⟩]⟩ (by kernel_rfl) ?_
  refine zfA 2 0 (.own za 50 3 [0,4] ((⟨[],[]⟩:ze):ze).Values) rfl rfl (zbd za 50 3 [0,4] rfl) ?_
  refine zfA 2 1 (.own Rp.str 9 5 [] ((⟨[],[]⟩:ze):ze).Unknown) rfl rfl (zbd Rp.str 9 5 [] rfl) ?_
  exact lzz
 refine jF hc1 ?_
 obtain ⟨rv2,h_rv2,h⟩:=bnd h
 refine jr (rc 1 rfl (zL.le (ins':=[(.tmp 7,.ag [.sl za [0] x.Values,.sl Rp.str [0] x.Unknown])]) (zbl (args:=[.tmp 7]) [.rc zf [0] x] [0] 17 rfl Tryz.call51 (zrZ h_rv2) rfl rfl rfl rfl rfl) ⟨⟨rfl,zbk zf [0] x [.sl za [0] x.Values,.sl Rp.str [0] x.Unknown] (by rw [zE]<;>rfl) rfl⟩,trivial⟩) rf) ?_
 obtain rfl:=sj h
 refine zA ?_
 refine lk [2] [18] 18 2 ?_
 refine lk [2] [2] 20 3 ?_
 refine lk [2] [2] 22 5 ?_
 refine lk [2] [2] 21 4 ?_
 exact lzz
theorem ziA {m:zi} {number:Int} {r:(Int×Bool)} (h:zdF m number=some r):FnOk Tryz.prog 72 [.rc zj [0] m,kI number] [kI r.1,kB r.2]:=by
 refine zD (E:=⟨[(4,kI r.1),(5,kB r.2)],[]⟩) 11 Tryz.func72 rfl rfl rfl ⟨rfl,rfl,trivial⟩ (fun Xt=>?_)
 refine zv ?_
 unfold zdF at h
 refine jr (ra 0 [.rc zj [0] m] rfl (zcQ 11 [kS m.Name,.sl zd [0] m.Fields] [0] rfl rfl rfl rfl rfl) rfl (rfl' [909700])) ?_
 obtain ⟨rv,h_rv,h⟩:=bnd h
 refine jr (ra 1 [.ptr 909700 0] rfl (zyA (g:=97) [.tmp 3] [⟨909700,3,[kI number]⟩] [.ep (Rp.int .i64) [909700] number 0] rfl ⟨⟨rfl,rfl,rfl⟩,trivial⟩ rfl) rfl (rl 0 [0,909700] 10 Tryz.call96 (zfP h_rv) rf)) ?_
 obtain rfl:=sj h
 exact zA lzz
theorem zlE {k:Int} {l:(List Int)} {r:Bool} (h:zdS k l=some r):FnOk Tryz.prog 83 [kI k,.sl (Rp.int .u64) [0] l] [kB r]:=by
 refine zD (E:=⟨[(4,kB r)],[]⟩) 29 Tryz.func83 rfl rfl rfl ⟨rfl,trivial⟩ (fun Xt=>?_)
 refine zv ?_
 unfold zdS at h
 refine jp ?_
 refine jp ?_
 refine zH ?_
 obtain ⟨q,h_q,h⟩:=bnd h
 refine zaQ (fun s:Int=>zaz k l s) (fun s=>⟨[(0,kI k),(9,.sl (Rp.int .u64) [0] l),(10,kI (l.length:Int)),(11,kI s)],[]⟩) (fun o e a w=>match o with| (.inl v_)=>e= .exit 0∧Sx ⟨⟨29,[]⟩,Xt,false,#[]⟩ ⟨[],[]⟩ a w| (.inr v_)=>e= .ret∧Sx ⟨⟨29,[]⟩,Xt,false,#[]⟩ ⟨[(4,kB false)],[]⟩ a w) ?_ h_q lzz ?_
 ·
  clear h
  intro v o h
  refine zv ?_
  replace h:zaz k l v=some o:=h
  unfold zaz at h
  refine jp ?_
  rcases zp h with ⟨hc1,h⟩| ⟨hc1,h⟩
  ·
   refine jT hc1 ?_
   refine zH ?_
   obtain ⟨x,h_x,h⟩:=bnd h
   refine jr (ra 0 [.sl (Rp.int .u64) [0] l,kI v] rfl (zby rfl zkN.el (zaa _ _ _) h_x) rfl rf) ?_
   obtain ⟨rv,h_rv,h⟩:=bnd h
   refine jr (rl 2 [1] 10 Tryz.call107 (zje h_rv) rf) ?_
   refine zap ⟨[(0,kI k),(9,.sl (Rp.int .u64) [0] l),(10,kI (l.length:Int)),(11,kI v),(27,kB ((rv.2 !=0)|| (rv.1 !=x)))],[]⟩ ?_ ?_
   ·
    refine (rsl 3 [] 23 (rv.2 !=0) (fun hc2=>?_) (fun hc2=>?_))
    · exact (rbl [] 27 true ((rv.2 !=0)|| (rv.1 !=x)) (by rw [hc2]<;>rfl))
    exact (rbl [] 27 (rv.1 !=x) ((rv.2 !=0)|| (rv.1 !=x)) (by rw [hc2]<;>rfl))
   rcases zp h with ⟨hc3,h⟩| ⟨hc3,h⟩
   ·
    refine jT hc3 ?_
    refine jp ?_
    obtain rfl:=sj h
    exact zbR lzz
   refine jF hc3 ?_
   refine zau ?_
   refine jp ?_
   obtain rfl:=sj h
   exact zae lzz
  refine jF hc1 ?_
  obtain rfl:=sj h
  exact zaO rfl lzz
 rcases q with u| u2
 ·
  refine zbx _ rfl ?_
  refine jp ?_
  obtain rfl:=sj h
  exact zA lzz
 obtain rfl:=sj h
 exact zeg lzz
theorem zuW {fuel:Nat} {av:ze} {b:ze} {r:Bool} (h:zjU fuel av b=some r):FnOk Tryz.prog 22 [.rc zf [0] av,.rc zf [0] b] [kB r]:=by
 refine zD (E:=⟨[(4,kB r)],[]⟩) 12 Tryz.func22 rfl rfl rfl ⟨rfl,trivial⟩ (fun Xt=>?_)
 refine zv ?_
 unfold zjU at h
 refine jr (ra 0 [.rc zf [0] av] rfl (zcQ 11 [.sl za [0] av.Values,.sl Rp.str [0] av.Unknown] [0] rfl rfl rfl (by rw [zE]<;>rfl) rfl) rfl (ra 0 [.rc zf [0] b] rfl (zcQ 12 [.sl za [0] b.Values,.sl Rp.str [0] b.Unknown] [0] rfl rfl rfl (by rw [zE]<;>rfl) rfl) rfl rf)) ?_
 obtain ⟨g,h_g,h⟩:=bnd h
 refine zap ⟨[(4,kB g)],[]⟩ ?_ ?_
 ·
  obtain ⟨rv,h_rv,h_g⟩:=bnd h_g
  refine (rc 1 rfl (zL.le (ins':=[(.tmp 5,.ag [.sl za [0] av.Values,.sl Rp.str [0] av.Unknown])]) (zbl (args:=[.tmp 5]) [.rc zf [0] av] [0] 11 rfl Tryz.call48 (zkw h_rv) rfl rfl rfl rfl rfl) ⟨⟨rfl,zbk zf [0] av [.sl za [0] av.Values,.sl Rp.str [0] av.Unknown] (by rw [zE]<;>rfl) rfl⟩,trivial⟩) (rsl 1 [] 7 rv (fun hc1=>?_) (fun hc1=>?_)))
  ·
   replace h_g:=iteT h_g hc1
   obtain ⟨rv2,h_rv2,h_g⟩:=bnd h_g
   obtain rfl:=sj h_g
   exact (rc 2 rfl (zL.le (ins':=[(.tmp 8,.ag [.sl za [0] av.Values,.sl Rp.str [0] av.Unknown]),(.tmp 9,.ag [.sl za [0] b.Values,.sl Rp.str [0] b.Unknown])]) (zbl (args:=[.tmp 8,.tmp 9]) [.rc zf [0] av,.rc zf [0] b] [0] 11 rfl Tryz.call50 (zuX h_rv2) rfl rfl rfl rfl rfl) ⟨⟨rfl,zbk zf [0] av [.sl za [0] av.Values,.sl Rp.str [0] av.Unknown] (by rw [zE]<;>rfl) rfl⟩,⟨rfl,zbk zf [0] b [.sl za [0] b.Values,.sl Rp.str [0] b.Unknown] (by rw [zE]<;>rfl) rfl⟩,trivial⟩) rgg)
  replace h_g:=iteF h_g hc1
  obtain rfl:=sj h_g
  exact rgg
 obtain rfl:=sj h
 exact zA lzz
end Go.Proofs.YtcbkcblkecmjnaaGreat
