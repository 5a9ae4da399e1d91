/-
  The Go functions do what the plain functions say. No condition.
-/
import Derived.Test.YtcbkcblkecmjnaaGreatx4G12
namespace Go.Proofs.YtcbkcblkecmjnaaGreat
open Go Go.RowKit
set_option linter.unusedVariables false
set_option maxRecDepth 100000
set_option maxHeartbeats 3200000
theorem zmA {fuel:Nat} {sv:(List zi)} {root:Int} {b:(List UInt8)} {d:Int} {r:zz} (h:zhe fuel sv root b d=some r):FnOk Tryz.prog 57 [.sl zj [0] sv,kI root,.sl Rp.byte [0] b,kI d] [.rc zay [] r]:=by
 refine zD (E:=⟨[(8,.ptr 2 0)],[⟨2,105,[kI r.depth,kI r.place,k8 r.e]⟩]⟩) 29 Tryz.func57 rfl rfl rfl ⟨⟨_,_,rfl,rfl,rfl,rfl,⟨Tryz.isAgg105,Tryz.sizeOf105⟩⟩,trivial⟩ (fun Xt=>?_)
 refine zv ?_
 unfold zhe at h
 refine jq [12] ?_
 obtain ⟨rv,h_rv,h⟩:=bnd h
 refine jr (rl 3 [0] 11 Tryz.call47 (zmz h_rv) rf) ?_
 refine jp ?_
 rcases zp h with ⟨hc1,h⟩| ⟨hc1,h⟩
 ·
  refine jT hc1 ?_
  refine jr (rc 1 rfl (zam (r:=zay) [k8 rv] [] (⟨0,0,rv⟩:zz) rfl zpe rfl rfl) rf) ?_
  obtain rfl:=sj h
  refine zA ?_
  refine lk [8] [12] 12 2 ?_
  exact lzz
 refine jF hc1 ?_
 refine jr (rc 2 rfl (zjD (rk:=zk) (rv:=zh) 13 rfl) (ra 0 [.sl zj [0] sv,.sl Rp.byte [0] b,.om zk zh 13 [] ([]:(List (zm×zg)))] rfl (zfX [.sl zj [0] sv,.sl Rp.byte [0] b,.om zk zh 13 [] ([]:(List (zm×zg)))] [.sl zj [0] sv,.sl Rp.byte [0] b,.om zk zh 13 [] ([]:(List (zm×zg)))] rfl zEr rfl) rfl (rfl' [14]))) ?_
 obtain ⟨rv3,h_rv3,h⟩:=bnd h
 refine jr (rkl 5 [] ⟨[(8,.ptr 12 0),(23,.ag [.sl zj [0] sv,.sl Rp.byte [0] b,.om zk zh 13 [] ([]:(List (zm×zg)))]),(24,kI root),(26,kI (b.length:Int)),(27,kI d)],[⟨12,105,[kI 0,kI 0,k8 0]⟩]⟩ (zeU ⟨[(8,.ptr 12 0),(23,.ag [.sl zj [0] sv,.sl Rp.byte [0] b,.om zk zh 13 [0] rv3.2]),(24,kI root),(26,kI (b.length:Int)),(27,kI d)],[⟨12,105,[kI 0,kI 0,k8 0]⟩]⟩ (ziY [.ag [.sl zj [0] sv,.sl Rp.byte [0] b,.om zk zh 13 [] ([]:(List (zm×zg)))],kI root,kI 0,kI (b.length:Int),kI d] [(13,2)] [0] 14 [] rfl Tryz.call87 (zkT h_rv3) rfl rfl (by kernel_rfl) rfl rfl rfl) rfl (by kernel_rfl) (by kernel_rfl) ⟨⟨_,rfl,zt rfl⟩,⟨_,rfl,zjR ⟨zt rfl,zt rfl,zcU 0 rfl,trivial⟩⟩,⟨_,rfl,zt rfl⟩,⟨_,rfl,zt rfl⟩,⟨_,rfl,zt rfl⟩,trivial⟩ ⟨⟨_,rfl,rfl,rfl,⟨zt rfl,zt rfl,zt rfl,trivial⟩⟩,trivial⟩ rf)) ?_
 obtain rfl:=sj h
 refine zA ?_
 refine lk [8] [12] 12 2 ?_
 exact lzz
theorem zlK {fuel:Nat} {sv:(List zi)} {root:Int} {b:(List UInt8)} {d:Int} {r:(Int×Int)} (h:zgd fuel sv root b d=some r):FnOk Tryz.prog 32 [.sl zj [0] sv,kI root,.sl Rp.byte [0] b,kI d] [kI r.1,k8 r.2]:=by
 refine zD (E:=⟨[(8,kI r.1),(9,k8 r.2)],[]⟩) 20 Tryz.func32 rfl rfl rfl ⟨rfl,rfl,trivial⟩ (fun Xt=>?_)
 refine zv ?_
 unfold zgd at h
 refine jp ?_
 obtain ⟨rv,h_rv,h⟩:=bnd h
 refine jr (rl 4 [0] 9 Tryz.call57 (zmA h_rv) (rfl' [11])) ?_
 refine jd [8,9] [] zdz (by exact l0) ?_
 obtain rfl:=sj h
 exact zA lzz
theorem zsd {fuel:Nat} {sv:(List zi)} {root:Int} {b:(List UInt8)} {r:(Int×Int)} (h:zhH fuel sv root b=some r):FnOk Tryz.prog 30 [.sl zj [0] sv,kI root,.sl Rp.byte [0] b] [kI r.1,k8 r.2]:=by
 refine zD (E:=⟨[(6,kI r.1),(7,k8 r.2)],[]⟩) 20 Tryz.func30 rfl rfl rfl ⟨rfl,rfl,trivial⟩ (fun Xt=>?_)
 refine zv ?_
 unfold zhH at h
 refine jp ?_
 obtain ⟨rv,h_rv,h⟩:=bnd h
 refine jr (rl 3 [0] 9 Tryz.call57 (zmA h_rv) (rfl' [11])) ?_
 refine jp ?_
 rcases zp h with ⟨hc1,h⟩| ⟨hc1,h⟩
 ·
  refine jT hc1 ?_
  refine jd [6,7] [] zdz (by exact l0) ?_
  obtain rfl:=sj h
  exact zA lzz
 refine jF hc1 ?_
 refine jp ?_
 obtain rfl:=sj h
 exact zA lzz
theorem zkv {fuel:Nat} {sv:(List zi)} {root:Int} {b:(List UInt8)} {d:Int} {r:(ze×Int)} (h:zhj fuel sv root b d=some r):FnOk Tryz.prog 9 [.sl zj [0] sv,kI root,.sl Rp.byte [0] b,kI d] [.ag [.own za 50 3 [4] r.1.Values,.own Rp.str 9 5 [] r.1.Unknown],k8 r.2]:=by
 refine zD (E:=⟨[(8,.ptr 2 0),(9,k8 r.2)],[⟨2,30,[.own za 50 3 [4] r.1.Values,.own Rp.str 9 5 [] r.1.Unknown]⟩]⟩) 28 Tryz.func9 rfl rfl rfl ⟨⟨_,_,rfl,rfl,rfl,⟨Tryz.isAgg30,Tryz.sizeOf30⟩⟩,rfl,trivial⟩ (fun Xt=>?_)
 refine zv ?_
 unfold zhj at h
 refine jq [16] ?_
 obtain ⟨rv,h_rv,h⟩:=bnd h
 refine jr (rl 4 [0] 15 Tryz.call32 (zlK h_rv) rf) ?_
 refine jp ?_
 rcases zp h with ⟨hc1,h⟩| ⟨hc1,h⟩
 ·
  refine jT hc1 ?_
  refine jr (ra 0 [] rfl (zfX [] [kN,kN] rfl zBX rfl) rfl rf) ?_
  obtain rfl:=sj h
  refine zA ?_
  refine lk [8,9] [16] 16 2 ?_
  refine zbC ⟨[(8,.ptr 2 0),(9,k8 rv.2)],[⟨2,30,[kN,kN]⟩]⟩ (by kernel_rfl) ?_
  refine zfA 2 0 (.own za 50 3 [4] (((⟨[],[]⟩:ze),rv.2):(ze×Int)).1.Values) rfl rfl (zbd za 50 3 [4] rfl) ?_
  refine zfA 2 1 (.own Rp.str 9 5 [] (((⟨[],[]⟩:ze),rv.2):(ze×Int)).1.Unknown) rfl rfl (zbd Rp.str 9 5 [] rfl) ?_
  exact lzz
 refine jF hc1 ?_
 obtain ⟨rv2,h_rv2,h⟩:=bnd h
 refine jr (rl 3 [0] 15 Tryz.call33 (zpX h_rv2) rf) ?_
 obtain rfl:=sj h
 refine zA ?_
 refine lk [8,9] [16] 16 2 ?_
 refine lk [8,9] [2] 18 3 ?_
 refine lk [8,9] [2] 20 5 ?_
 refine lk [8,9] [2] 19 4 ?_
 exact lzz
theorem zwA {fuel:Nat} {sv:(List zi)} {root:Int} {b:(List UInt8)} {d:Int} {r:Bool} (h:zlL fuel sv root b d=some r):FnOk Tryz.prog 29 [.sl zj [0] sv,kI root,.sl Rp.byte [0] b,kI d] [kB r]:=by
 refine zD (E:=⟨[(8,kB r)],[]⟩) 21 Tryz.func29 rfl rfl rfl ⟨rfl,trivial⟩ (fun Xt=>?_)
 refine zv ?_
 unfold zlL at h
 refine jp ?_
 obtain ⟨rv,h_rv,h⟩:=bnd h
 refine jr (rl 4 [0] 9 Tryz.call32 (zlK h_rv) rf) ?_
 refine jp ?_
 obtain rfl:=sj h
 exact zA lzz
theorem zkO {fuel:Nat} {r:Bool} (h:zdq fuel=some r):FnOk Tryz.prog 7 [] [kB r]:=by
 refine zD (E:=⟨[(0,kB r)],[]⟩) 64 Tryz.func7 rfl rfl rfl ⟨rfl,trivial⟩ (fun Xt=>?_)
 refine zv ?_
 unfold zdq at h
 refine jp ?_
 refine jr (rc 0 rfl (zam (r:=zd) [kS [97],kI 1,kI 3] [] (⟨[97],1,3,false,false,0⟩:zc) rfl zEW rfl rfl) (rc 0 rfl (zfr [.rc zd [] (⟨[97],1,3,false,false,0⟩:zc)] 11 [] ([(⟨[97],1,3,false,false,0⟩:zc)]:(List zc)) rfl zmD rfl rfl rfl rfl) (ra 0 [kS [109],.own zd 64 11 [] ([(⟨[97],1,3,false,false,0⟩:zc)]:(List zc))] rfl (zfX [kS [109],.own zd 64 11 [] ([(⟨[97],1,3,false,false,0⟩:zc)]:(List zc))] [kS [109],.own zd 64 11 [] ([(⟨[97],1,3,false,false,0⟩:zc)]:(List zc))] rfl zEV rfl) rfl (ra 0 [.ag [kS [109],.own zd 64 11 [] ([(⟨[97],1,3,false,false,0⟩:zc)]:(List zc))]] rfl (zCT [.ag [kS [109],.own zd 64 11 [] ([(⟨[97],1,3,false,false,0⟩:zc)]:(List zc))]] 12 [kS [109],.own zd 64 11 [] ([(⟨[97],1,3,false,false,0⟩:zc)]:(List zc))] rfl zlP rfl rfl rfl) rfl rf)))) ?_
 obtain ⟨rv,h_rv,h⟩:=bnd h
 refine jr (rc 1 rfl (zfr [.lf (.int .u8 8),.lf (.int .u8 1),.lf (.int .u8 8),.lf (.int .u8 2)] 13 [] [(8:UInt8),(1:UInt8),(8:UInt8),(2:UInt8)] rfl zeq rfl rfl rfl rfl) (rc 0 rfl (zL.conv (ins:=[(.tmp 11,.bs 12 1),(.const (.int .i64 0),kI 0),(.tmp 12,.own Rp.byte 5 13 [] ([(8:UInt8),(1:UInt8),(8:UInt8),(2:UInt8)]:List UInt8)),(.const (.int .i64 0),kI 0)]) (zL.boxes (bxs:=[⟨12,73,[kS [109],.own zd 64 11 [] ([(⟨[97],1,3,false,false,0⟩:zc)]:(List zc))]⟩]) (zbl (args:=[.tmp 11,.const (.int .i64 0),.tmp 12,.const (.int .i64 0)]) [.sl zj [12,11] ([(⟨[109],([(⟨[97],1,3,false,false,0⟩:zc)]:(List zc))⟩:zi)]:List zi),kI 0,.own Rp.byte 5 13 [] ([(8:UInt8),(1:UInt8),(8:UInt8),(2:UInt8)]:List UInt8),kI 0] [12,11,13] 12 rfl Tryz.call9 (zkv h_rv) rfl rfl rfl rfl rfl)) ⟨⟨rfl,zDG zj [12,11] ([(⟨[109],([(⟨[97],1,3,false,false,0⟩:zc)]:(List zc))⟩:zi)]:List zi) ⟨12,73,[kS [109],.own zd 64 11 [] ([(⟨[97],1,3,false,false,0⟩:zc)]:(List zc))]⟩ List.mem_cons_self rfl rfl rfl⟩,⟨rfl,zlS _ _⟩,⟨rfl,zlS _ _⟩,⟨rfl,zlS _ _⟩,trivial⟩) (rfl' [18]))) ?_
 obtain ⟨x,h_x,h⟩:=bnd h
 refine jr (ra 1 [.bs 12 1,kI 0] rfl (zCV 0 rfl zlP.el rfl rfl) rfl (ra 2 [.own zd 64 11 [] ([(⟨[97],1,3,false,false,0⟩:zc)]:(List zc)),kI 0] rfl (zlk rfl zmD.el h_x) rfl (rkl 1 [] ⟨[(1,.bs 12 1),(2,.ptr 18 0),(3,k8 rv.2),(19,.own zd 64 11 [] ([(⟨[97],1,3,false,false,0⟩:zc)]:(List zc))),(21,.ptr 11 ((Int.toNat 0*zd.size)+3))],[⟨12,73,[kS [109],.own zd 64 11 [] ([(⟨[97],1,3,false,false,0⟩:zc)]:(List zc))]⟩,⟨18,30,[.own za 50 15 [16] rv.1.Values,.own Rp.str 9 17 [] rv.1.Unknown]⟩]⟩ (zeU ⟨[(1,.bs 12 1),(2,.ptr 18 0),(3,k8 rv.2),(19,.own zd 64 11 [] (([(⟨[97],1,3,false,false,0⟩:zc)]:(List zc)).set (Int.toNat 0) (⟨x.Name,x.Number,x.Kind,true,x.Packed,x.Of⟩:zc))),(21,.ptr 11 ((Int.toNat 0*zd.size)+3))],[⟨12,73,[kS [109],.own zd 64 11 [] (([(⟨[97],1,3,false,false,0⟩:zc)]:(List zc)).set (Int.toNat 0) (⟨x.Name,x.Number,x.Kind,true,x.Packed,x.Of⟩:zc))]⟩,⟨18,30,[.own za 50 15 [16] rv.1.Values,.own Rp.str 9 17 [] rv.1.Unknown]⟩]⟩ (zxJ (a:=kB true) (r:=zd) (e:=64) (ℓ:=11) (C:=[]) (xs:=([(⟨[97],1,3,false,false,0⟩:zc)]:(List zc))) (off:=((Int.toNat 0*zd.size)+3)) (.tmp 19) (Int.toNat 0) 3 x (⟨x.Name,x.Number,x.Kind,true,x.Packed,x.Of⟩:zc) [] rfl rfl Tryz.sizeOf4 rfl (zlU h_x) rfl rfl rfl) rfl (by kernel_rfl) (by kernel_rfl) ⟨⟨_,rfl,zt rfl⟩,⟨_,rfl,zt rfl⟩,⟨_,rfl,zt rfl⟩,⟨_,rfl,zcU 0 rfl⟩,⟨_,rfl,zt rfl⟩,trivial⟩ ⟨⟨_,rfl,rfl,rfl,⟨zt rfl,zcU 0 rfl,trivial⟩⟩,⟨_,rfl,rfl,rfl,⟨zt rfl,zt rfl,trivial⟩⟩,trivial⟩ rf)))) ?_
 obtain ⟨rv2,h_rv2,h⟩:=bnd h
 refine jr (rc 1 rfl (zfr [.lf (.int .u8 8),.lf (.int .u8 1),.lf (.int .u8 8),.lf (.int .u8 2)] 19 [] [(8:UInt8),(1:UInt8),(8:UInt8),(2:UInt8)] rfl zeq rfl rfl rfl rfl) (rc 0 rfl (zL.conv (ins:=[(.tmp 23,.bs 12 1),(.const (.int .i64 0),kI 0),(.tmp 24,.own Rp.byte 5 19 [] ([(8:UInt8),(1:UInt8),(8:UInt8),(2:UInt8)]:List UInt8)),(.const (.int .i64 0),kI 0)]) (zL.boxes (bxs:=[⟨12,73,[kS [109],.own zd 64 11 [] (([(⟨[97],1,3,false,false,0⟩:zc)]:(List zc)).set (Int.toNat 0) (⟨x.Name,x.Number,x.Kind,true,x.Packed,x.Of⟩:zc))]⟩]) (zbl (args:=[.tmp 23,.const (.int .i64 0),.tmp 24,.const (.int .i64 0)]) [.sl zj [12,11] ([(⟨[109],(([(⟨[97],1,3,false,false,0⟩:zc)]:(List zc)).set (Int.toNat 0) (⟨x.Name,x.Number,x.Kind,true,x.Packed,x.Of⟩:zc))⟩:zi)]:List zi),kI 0,.own Rp.byte 5 19 [] ([(8:UInt8),(1:UInt8),(8:UInt8),(2:UInt8)]:List UInt8),kI 0] [12,11,19] 18 rfl Tryz.call9 (zkv h_rv2) rfl rfl rfl rfl rfl)) ⟨⟨rfl,zDG zj [12,11] ([(⟨[109],(([(⟨[97],1,3,false,false,0⟩:zc)]:(List zc)).set (Int.toNat 0) (⟨x.Name,x.Number,x.Kind,true,x.Packed,x.Of⟩:zc))⟩:zi)]:List zi) ⟨12,73,[kS [109],.own zd 64 11 [] (([(⟨[97],1,3,false,false,0⟩:zc)]:(List zc)).set (Int.toNat 0) (⟨x.Name,x.Number,x.Kind,true,x.Packed,x.Of⟩:zc))]⟩ List.mem_cons_self rfl rfl rfl⟩,⟨rfl,zlS _ _⟩,⟨rfl,zlS _ _⟩,⟨rfl,zlS _ _⟩,trivial⟩) (rfl' [24]))) ?_
 obtain ⟨g,h_g,h⟩:=bnd h
 refine zap ⟨[(0,kB g)],[]⟩ ?_ ?_
 ·
  refine (rsl 7 [] 34 ((IntKind.i64.wrap ((IntKind.i64.wrap rv.2)+(IntKind.i64.wrap rv2.2)))==0) (fun hc1=>?_) (fun hc1=>?_))
  ·
   replace h_g:=iteT h_g hc1
   refine (rsl 6 [] 40 ((rv.1.Values.length:Int)==1) (fun hc2=>?_) (fun hc2=>?_))
   ·
    replace h_g:=iteT h_g hc2
    obtain ⟨x2,h_x2,h_g⟩:=bnd h_g
    obtain ⟨rv3,h_rv3,h_g⟩:=bnd h_g
    refine (ra 2 [.own za 50 15 [16] rv.1.Values,kI 0] rfl (zby rfl zja.el (zef _ _ _ _ _) h_x2) rfl (ra 1 [.ep za [15,16] x2 1] rfl (zkk (Rp.int .u64) x2.Words rfl rfl (by rw [zG]<;>rfl)) rfl (rc 0 rfl (zfr [kU 2] 25 [] ([2]:(List Int)) rfl zkN rfl rfl rfl rfl) (rl 0 [15,16,25] 24 Tryz.call31 (zhq h_rv3) (rsl 2 [] 49 rv3 (fun hc3=>?_) (fun hc3=>?_))))))
    ·
     replace h_g:=iteT h_g hc3
     refine (rsl 6 [] 55 ((rv2.1.Values.length:Int)==1) (fun hc4=>?_) (fun hc4=>?_))
     ·
      replace h_g:=iteT h_g hc4
      obtain ⟨x3,h_x3,h_g⟩:=bnd h_g
      obtain ⟨rv4,h_rv4,h_g⟩:=bnd h_g
      obtain rfl:=sj h_g
      exact (ra 2 [.own za 50 21 [22] rv2.1.Values,kI 0] rfl (zby rfl zja.el (zef _ _ _ _ _) h_x3) rfl (ra 1 [.ep za [21,22] x3 1] rfl (zkk (Rp.int .u64) x3.Words rfl rfl (by rw [zG]<;>rfl)) rfl (rc 0 rfl (zfr [kU 1,kU 2] 26 [] ([1,2]:(List Int)) rfl zkN rfl rfl rfl rfl) (rl 0 [21,22,26] 25 Tryz.call31 (zhq h_rv4) rgg))))
     replace h_g:=iteF h_g hc4
     obtain rfl:=sj h_g
     exact rgg
    replace h_g:=iteF h_g hc3
    obtain rfl:=sj h_g
    exact rgg
   replace h_g:=iteF h_g hc2
   obtain rfl:=sj h_g
   exact rgg
  replace h_g:=iteF h_g hc1
  obtain rfl:=sj h_g
  exact rgg
 obtain rfl:=sj h
 exact zA lzz
end Go.Proofs.YtcbkcblkecmjnaaGreat
