/-
  The Go functions do what the plain functions say. No condition.
-/
import Derived.Test.YtcbkcblkecmjnaaGreatx3G12
namespace Go.Proofs.YtcbkcblkecmjnaaGreat
open Go Go.RowKit
set_option linter.unusedVariables false
set_option maxRecDepth 100000
set_option maxHeartbeats 3200000
theorem ztG {fuel:Nat} {sv:(List zg)} {root:Int} {b:(List UInt8)} {d:Int} {r:zA} (h:zjF fuel sv root b d=some r):FnOk Tryz.prog 57 [.sl zi [0] sv,kI root,.sl Rp.byte [0] b,kI d] [.rc zaw [] r]:=by
 refine zC (E:=⟨[(8,.ptr 2 0)],[⟨2,105,[kI r.depth,kI r.place,k8 r.e]⟩]⟩) 29 Tryz.func57 rfl rfl rfl ⟨⟨_,_,rfl,rfl,rfl,rfl,⟨Tryz.isAgg105,Tryz.sizeOf105⟩⟩,trivial⟩ (fun Xt=>?_)
 refine zr ?_
 unfold zjF at h
 refine jq [12] ?_
 obtain ⟨rv,h_rv,h⟩:=bnd h
 refine jr (rl 3 [0] 11 Tryz.call47 (ztF h_rv) rf) ?_
 refine jp ?_
 rcases zn h with ⟨hc1,h⟩| ⟨hc1,h⟩
 ·
  refine jT hc1 ?_
  refine jr (rc 1 rfl (zV (r:=zaw) [k8 rv] [] (⟨0,0,rv⟩:zA) rfl zqp rfl rfl) rf) ?_
  obtain rfl:=sj h
  refine zy ?_
  refine lk [8] [12] 12 2 ?_
  exact lzz
 refine jF hc1 ?_
 refine jr (rc 2 rfl (zlb (rk:=zk) (rv:=zh) 13 rfl) (ra 0 [.sl zi [0] sv,.sl Rp.byte [0] b,.om zk zh 13 [] ([]:(List (zm×ze)))] rfl (zgU [.sl zi [0] sv,.sl Rp.byte [0] b,.om zk zh 13 [] ([]:(List (zm×ze)))] [.sl zi [0] sv,.sl Rp.byte [0] b,.om zk zh 13 [] ([]:(List (zm×ze)))] rfl zFh rfl) rfl (rfl' [14]))) ?_
 obtain ⟨rv3,h_rv3,h⟩:=bnd h
 refine jr (rkl 5 [] ⟨[(8,.ptr 12 0),(23,.ag [.sl zi [0] sv,.sl Rp.byte [0] b,.om zk zh 13 [] ([]:(List (zm×ze)))]),(24,kI root),(26,kI (b.length:Int)),(27,kI d)],[⟨12,105,[kI 0,kI 0,k8 0]⟩]⟩ (zfO ⟨[(8,.ptr 12 0),(23,.ag [.sl zi [0] sv,.sl Rp.byte [0] b,.om zk zh 13 [0] rv3.2]),(24,kI root),(26,kI (b.length:Int)),(27,kI d)],[⟨12,105,[kI 0,kI 0,k8 0]⟩]⟩ (zkg [.ag [.sl zi [0] sv,.sl Rp.byte [0] b,.om zk zh 13 [] ([]:(List (zm×ze)))],kI root,kI 0,kI (b.length:Int),kI d] [(13,2)] [0] 14 [] rfl Tryz.call87 (zmt h_rv3) rfl rfl (by kernel_rfl) rfl rfl rfl) rfl (by kernel_rfl) (by kernel_rfl) ⟨⟨_,rfl,zv rfl⟩,⟨_,rfl,zlp ⟨zv rfl,zv rfl,zdO 0 rfl,trivial⟩⟩,⟨_,rfl,zv rfl⟩,⟨_,rfl,zv rfl⟩,⟨_,rfl,zv rfl⟩,trivial⟩ ⟨⟨_,rfl,rfl,rfl,⟨zv rfl,zv rfl,zv rfl,trivial⟩⟩,trivial⟩ rf)) ?_
 obtain rfl:=sj h
 refine zy ?_
 refine lk [8] [12] 12 2 ?_
 exact lzz
theorem ztc {fuel:Nat} {sv:(List zg)} {root:Int} {b:(List UInt8)} {d:Int} {r:(Int×Int)} (h:ziv fuel sv root b d=some r):FnOk Tryz.prog 32 [.sl zi [0] sv,kI root,.sl Rp.byte [0] b,kI d] [kI r.1,k8 r.2]:=by
 refine zC (E:=⟨[(8,kI r.1),(9,k8 r.2)],[]⟩) 20 Tryz.func32 rfl rfl rfl ⟨rfl,rfl,trivial⟩ (fun Xt=>?_)
 refine zr ?_
 unfold ziv at h
 refine jp ?_
 obtain ⟨rv,h_rv,h⟩:=bnd h
 refine jr (rl 4 [0] 9 Tryz.call57 (ztG h_rv) (rfl' [11])) ?_
 refine jd [8,9] [] zcp (by exact l0) ?_
 obtain rfl:=sj h
 exact zy lzz
theorem zsY {fuel:Nat} {sv:(List zg)} {root:Int} {b:(List UInt8)} {d:Int} {r:(zf×Int)} (h:zki fuel sv root b d=some r):FnOk Tryz.prog 9 [.sl zi [0] sv,kI root,.sl Rp.byte [0] b,kI d] [.ag [.own zd 50 3 [4] r.1.Values,.own Rp.str 9 5 [] r.1.Unknown],k8 r.2]:=by
 refine zC (E:=⟨[(8,.ptr 2 0),(9,k8 r.2)],[⟨2,30,[.own zd 50 3 [4] r.1.Values,.own Rp.str 9 5 [] r.1.Unknown]⟩]⟩) 28 Tryz.func9 rfl rfl rfl ⟨⟨_,_,rfl,rfl,rfl,⟨Tryz.isAgg30,Tryz.sizeOf30⟩⟩,rfl,trivial⟩ (fun Xt=>?_)
 refine zr ?_
 unfold zki at h
 refine jq [16] ?_
 obtain ⟨rv,h_rv,h⟩:=bnd h
 refine jr (rl 4 [0] 15 Tryz.call32 (ztc h_rv) rf) ?_
 refine jp ?_
 rcases zn h with ⟨hc1,h⟩| ⟨hc1,h⟩
 ·
  refine jT hc1 ?_
  refine jr (ra 0 [] rfl (zgU [] [kN,kN] rfl zEA rfl) rfl rf) ?_
  obtain rfl:=sj h
  refine zy ?_
  refine lk [8,9] [16] 16 2 ?_
  refine zbU ⟨[(8,.ptr 2 0),(9,k8 rv.2)],[⟨2,30,[kN,kN]⟩]⟩ (by kernel_rfl) ?_
  refine zhk 2 0 (.own zd 50 3 [4] (((⟨[],[]⟩:zf),rv.2):(zf×Int)).1.Values) rfl rfl (zbE zd 50 3 [4] rfl) ?_
  refine zhk 2 1 (.own Rp.str 9 5 [] (((⟨[],[]⟩:zf),rv.2):(zf×Int)).1.Unknown) rfl rfl (zbE Rp.str 9 5 [] rfl) ?_
  exact lzz
 refine jF hc1 ?_
 obtain ⟨rv2,h_rv2,h⟩:=bnd h
 refine jr (rl 3 [0] 15 Tryz.call33 (zrd h_rv2) rf) ?_
 obtain rfl:=sj h
 refine zy ?_
 refine lk [8,9] [16] 16 2 ?_
 refine lk [8,9] [2] 18 3 ?_
 refine lk [8,9] [2] 20 5 ?_
 refine lk [8,9] [2] 19 4 ?_
 exact lzz
theorem zmg {fuel:Nat} {r:Bool} (h:zdY fuel=some r):FnOk Tryz.prog 7 [] [kB r]:=by
 refine zC (E:=⟨[(0,kB r)],[]⟩) 64 Tryz.func7 rfl rfl rfl ⟨rfl,trivial⟩ (fun Xt=>?_)
 refine zr ?_
 unfold zdY at h
 refine jp ?_
 refine jr (rc 0 rfl (zV (r:=zb) [kS [97],kI 1,kI 3] [] (⟨[97],1,3,false,false,0⟩:za) rfl zFW rfl rfl) (rc 0 rfl (zfa [.rc zb [] (⟨[97],1,3,false,false,0⟩:za)] 11 [] ([(⟨[97],1,3,false,false,0⟩:za)]:(List za)) rfl ziJ rfl rfl rfl rfl) (ra 0 [kS [109],.own zb 64 11 [] ([(⟨[97],1,3,false,false,0⟩:za)]:(List za))] rfl (zgU [kS [109],.own zb 64 11 [] ([(⟨[97],1,3,false,false,0⟩:za)]:(List za))] [kS [109],.own zb 64 11 [] ([(⟨[97],1,3,false,false,0⟩:za)]:(List za))] rfl zFV rfl) rfl (ra 0 [.ag [kS [109],.own zb 64 11 [] ([(⟨[97],1,3,false,false,0⟩:za)]:(List za))]] rfl (zDE [.ag [kS [109],.own zb 64 11 [] ([(⟨[97],1,3,false,false,0⟩:za)]:(List za))]] 12 [kS [109],.own zb 64 11 [] ([(⟨[97],1,3,false,false,0⟩:za)]:(List za))] rfl zge rfl rfl rfl) rfl rf)))) ?_
 obtain ⟨rv,h_rv,h⟩:=bnd h
 refine jr (rc 1 rfl (zfa [.lf (.int .u8 8),.lf (.int .u8 1),.lf (.int .u8 8),.lf (.int .u8 2)] 13 [] [(8:UInt8),(1:UInt8),(8:UInt8),(2:UInt8)] rfl zdD rfl rfl rfl rfl) (rc 0 rfl (zH.conv (ins:=[(.tmp 11,.bs 12 1),(.const (.int .i64 0),kI 0),(.tmp 12,.own Rp.byte 5 13 [] ([(8:UInt8),(1:UInt8),(8:UInt8),(2:UInt8)]:List UInt8)),(.const (.int .i64 0),kI 0)]) (zH.boxes (bxs:=[⟨12,73,[kS [109],.own zb 64 11 [] ([(⟨[97],1,3,false,false,0⟩:za)]:(List za))]⟩]) (zbz (args:=[.tmp 11,.const (.int .i64 0),.tmp 12,.const (.int .i64 0)]) [.sl zi [12,11] ([(⟨[109],([(⟨[97],1,3,false,false,0⟩:za)]:(List za))⟩:zg)]:List zg),kI 0,.own Rp.byte 5 13 [] ([(8:UInt8),(1:UInt8),(8:UInt8),(2:UInt8)]:List UInt8),kI 0] [12,11,13] 12 rfl Tryz.call9 (zsY h_rv) rfl rfl rfl rfl rfl)) ⟨⟨rfl,zEr zi [12,11] ([(⟨[109],([(⟨[97],1,3,false,false,0⟩:za)]:(List za))⟩:zg)]:List zg) ⟨12,73,[kS [109],.own zb 64 11 [] ([(⟨[97],1,3,false,false,0⟩:za)]:(List za))]⟩ List.mem_cons_self rfl rfl rfl⟩,⟨rfl,znr _ _⟩,⟨rfl,znr _ _⟩,⟨rfl,znr _ _⟩,trivial⟩) (rfl' [18]))) ?_
 obtain ⟨x,h_x,h⟩:=bnd h
 refine jr (ra 1 [.bs 12 1,kI 0] rfl (zDG 0 rfl zge.el rfl rfl) rfl (ra 2 [.own zb 64 11 [] ([(⟨[97],1,3,false,false,0⟩:za)]:(List za)),kI 0] rfl (zvu rfl ziJ.el h_x) rfl (rkl 1 [] ⟨[(1,.bs 12 1),(2,.ptr 18 0),(3,k8 rv.2),(19,.own zb 64 11 [] ([(⟨[97],1,3,false,false,0⟩:za)]:(List za))),(21,.ptr 11 ((Int.toNat 0*zb.size)+3))],[⟨12,73,[kS [109],.own zb 64 11 [] ([(⟨[97],1,3,false,false,0⟩:za)]:(List za))]⟩,⟨18,30,[.own zd 50 15 [16] rv.1.Values,.own Rp.str 9 17 [] rv.1.Unknown]⟩]⟩ (zfO ⟨[(1,.bs 12 1),(2,.ptr 18 0),(3,k8 rv.2),(19,.own zb 64 11 [] (([(⟨[97],1,3,false,false,0⟩:za)]:(List za)).set (Int.toNat 0) (⟨x.Name,x.Number,x.Kind,true,x.Packed,x.Of⟩:za))),(21,.ptr 11 ((Int.toNat 0*zb.size)+3))],[⟨12,73,[kS [109],.own zb 64 11 [] (([(⟨[97],1,3,false,false,0⟩:za)]:(List za)).set (Int.toNat 0) (⟨x.Name,x.Number,x.Kind,true,x.Packed,x.Of⟩:za))]⟩,⟨18,30,[.own zd 50 15 [16] rv.1.Values,.own Rp.str 9 17 [] rv.1.Unknown]⟩]⟩ (zFg (a:=kB true) (r:=zb) (e:=64) (ℓ:=11) (C:=[]) (xs:=([(⟨[97],1,3,false,false,0⟩:za)]:(List za))) (off:=((Int.toNat 0*zb.size)+3)) (.tmp 19) (Int.toNat 0) 3 x (⟨x.Name,x.Number,x.Kind,true,x.Packed,x.Of⟩:za) [] rfl rfl Tryz.sizeOf4 rfl (zro h_x) rfl rfl rfl) rfl (by kernel_rfl) (by kernel_rfl) ⟨⟨_,rfl,zv rfl⟩,⟨_,rfl,zv rfl⟩,⟨_,rfl,zv rfl⟩,⟨_,rfl,zdO 0 rfl⟩,⟨_,rfl,zv rfl⟩,trivial⟩ ⟨⟨_,rfl,rfl,rfl,⟨zv rfl,zdO 0 rfl,trivial⟩⟩,⟨_,rfl,rfl,rfl,⟨zv rfl,zv rfl,trivial⟩⟩,trivial⟩ rf)))) ?_
 obtain ⟨rv2,h_rv2,h⟩:=bnd h
 refine jr (rc 1 rfl (zfa [.lf (.int .u8 8),.lf (.int .u8 1),.lf (.int .u8 8),.lf (.int .u8 2)] 19 [] [(8:UInt8),(1:UInt8),(8:UInt8),(2:UInt8)] rfl zdD rfl rfl rfl rfl) (rc 0 rfl (zH.conv (ins:=[(.tmp 23,.bs 12 1),(.const (.int .i64 0),kI 0),(.tmp 24,.own Rp.byte 5 19 [] ([(8:UInt8),(1:UInt8),(8:UInt8),(2:UInt8)]:List UInt8)),(.const (.int .i64 0),kI 0)]) (zH.boxes (bxs:=[⟨12,73,[kS [109],.own zb 64 11 [] (([(⟨[97],1,3,false,false,0⟩:za)]:(List za)).set (Int.toNat 0) (⟨x.Name,x.Number,x.Kind,true,x.Packed,x.Of⟩:za))]⟩]) (zbz (args:=[.tmp 23,.const (.int .i64 0),.tmp 24,.const (.int .i64 0)]) [.sl zi [12,11] ([(⟨[109],(([(⟨[97],1,3,false,false,0⟩:za)]:(List za)).set (Int.toNat 0) (⟨x.Name,x.Number,x.Kind,true,x.Packed,x.Of⟩:za))⟩:zg)]:List zg),kI 0,.own Rp.byte 5 19 [] ([(8:UInt8),(1:UInt8),(8:UInt8),(2:UInt8)]:List UInt8),kI 0] [12,11,19] 18 rfl Tryz.call9 (zsY h_rv2) rfl rfl rfl rfl rfl)) ⟨⟨rfl,zEr zi [12,11] ([(⟨[109],(([(⟨[97],1,3,false,false,0⟩:za)]:(List za)).set (Int.toNat 0) (⟨x.Name,x.Number,x.Kind,true,x.Packed,x.Of⟩:za))⟩:zg)]:List zg) ⟨12,73,[kS [109],.own zb 64 11 [] (([(⟨[97],1,3,false,false,0⟩:za)]:(List za)).set (Int.toNat 0) (⟨x.Name,x.Number,x.Kind,true,x.Packed,x.Of⟩:za))]⟩ List.mem_cons_self rfl rfl rfl⟩,⟨rfl,znr _ _⟩,⟨rfl,znr _ _⟩,⟨rfl,znr _ _⟩,trivial⟩) (rfl' [24]))) ?_
 obtain ⟨g,h_g,h⟩:=bnd h
 refine zS ⟨[(0,kB g)],[]⟩ ?_ ?_
 ·
  refine (rsl 7 [] 34 ((IntKind.i64.wrap ((IntKind.i64.wrap rv.2)+(IntKind.i64.wrap rv2.2)))==0) (fun hc1=>?_) (fun hc1=>?_))
  ·
   replace h_g:=iteT h_g hc1
   refine (rsl 6 [] 40 ((rv.1.Values.length:Int)==1) (fun hc2=>?_) (fun hc2=>?_))
   ·
    replace h_g:=iteT h_g hc2
    obtain ⟨x2,h_x2,h_g⟩:=bnd h_g
    obtain ⟨rv3,h_rv3,h_g⟩:=bnd h_g
    refine (ra 2 [.own zd 50 15 [16] rv.1.Values,kI 0] rfl (zar rfl zpF.el (zeg _ _ _ _ _) h_x2) rfl (ra 1 [.ep zd [15,16] x2 1] rfl (zgv (Rp.int .u64) x2.Words rfl rfl (by rw [zx]<;>rfl)) rfl (rc 0 rfl (zfa [kU 2] 25 [] ([2]:(List Int)) rfl zob rfl rfl rfl rfl) (rl 0 [15,16,25] 24 Tryz.call31 (zie h_rv3) (rsl 2 [] 49 rv3 (fun hc3=>?_) (fun hc3=>?_))))))
    ·
     replace h_g:=iteT h_g hc3
     refine (rsl 6 [] 55 ((rv2.1.Values.length:Int)==1) (fun hc4=>?_) (fun hc4=>?_))
     ·
      replace h_g:=iteT h_g hc4
      obtain ⟨x3,h_x3,h_g⟩:=bnd h_g
      obtain ⟨rv4,h_rv4,h_g⟩:=bnd h_g
      obtain rfl:=sj h_g
      exact (ra 2 [.own zd 50 21 [22] rv2.1.Values,kI 0] rfl (zar rfl zpF.el (zeg _ _ _ _ _) h_x3) rfl (ra 1 [.ep zd [21,22] x3 1] rfl (zgv (Rp.int .u64) x3.Words rfl rfl (by rw [zx]<;>rfl)) rfl (rc 0 rfl (zfa [kU 1,kU 2] 26 [] ([1,2]:(List Int)) rfl zob rfl rfl rfl rfl) (rl 0 [21,22,26] 25 Tryz.call31 (zie h_rv4) rgg))))
     replace h_g:=iteF h_g hc4
     obtain rfl:=sj h_g
     exact rgg
    replace h_g:=iteF h_g hc3
    obtain rfl:=sj h_g
    exact rgg
   replace h_g:=iteF h_g hc2
   obtain rfl:=sj h_g
   exact rgg
  replace h_g:=iteF h_g hc1
  obtain rfl:=sj h_g
  exact rgg
 obtain rfl:=sj h
 exact zy lzz
end Go.Proofs.YtcbkcblkecmjnaaGreat
