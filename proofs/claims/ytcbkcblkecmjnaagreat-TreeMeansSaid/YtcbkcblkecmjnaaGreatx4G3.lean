/-
  The Go functions do what the plain functions say. No condition.
-/
import Derived.Test.YtcbkcblkecmjnaaGreatx4T
namespace Go.Proofs.YtcbkcblkecmjnaaGreat
open Go Go.RowKit
set_option linter.unusedVariables false
set_option maxRecDepth 100000
set_option maxHeartbeats 3200000
theorem zsa {rec_tree_depth:ze→Int→Option Int} (hrec_tree_depth:∀{x:ze} {most:Int} {r:Int},rec_tree_depth x most=some r→FnOk Tryz.prog 42 [.rc zf [0] x,kI most] [kI r]) {x:ze} {most:Int} {r:Int} (h:zgA rec_tree_depth x most=some r):FnOk Tryz.prog 42 [.rc zf [0] x,kI most] [kI r]:=by
 refine zD (E:=⟨[(4,kI r)],[]⟩) 40 Tryz.func42 rfl rfl rfl ⟨rfl,trivial⟩ (fun Xt=>?_)
 refine zv ?_
 unfold zgA at h
 refine jr (ra 0 [.rc zf [0] x] rfl (zcQ 11 [.sl za [0] x.Values,.sl Rp.str [0] x.Unknown] [0] rfl rfl rfl (by rw [zE]<;>rfl) rfl) rfl rf) ?_
 refine jp ?_
 refine jp ?_
 refine zH ?_
 obtain ⟨q2,h_q2,h⟩:=bnd h
 refine zaQ (fun s:(Int×Int)=>zcg most rec_tree_depth x s.1 s.2) (fun s=>⟨[(1,kI most),(5,kI s.1),(11,.sl za [0] x.Values),(12,kI (x.Values.length:Int)),(13,kI s.2)],[]⟩) (fun o e a w=>match o with| (.inl v_)=>e= .exit 0∧Sx ⟨⟨40,[]⟩,Xt,false,#[]⟩ ⟨[(5,kI v_)],[]⟩ a w| (.inr v_)=>e= .ret∧Sx ⟨⟨40,[]⟩,Xt,false,#[]⟩ ⟨[(4,kI v_)],[]⟩ a w) ?_ h_q2 lzz ?_
 ·
  clear h
  intro s o h
  obtain ⟨deep,v⟩:=s
  refine zv ?_
  replace h:zcg most rec_tree_depth x deep v=some o:=h
  unfold zcg at h
  refine jp ?_
  rcases zp h with ⟨hc1,h⟩| ⟨hc1,h⟩
  ·
   refine jT hc1 ?_
   refine zH ?_
   obtain ⟨x2,h_x2,h⟩:=bnd h
   refine jr (ra 0 [.sl za [0] x.Values,kI v] rfl (zby rfl zja.el (zaa _ _ _) h_x2) rfl (ra 0 [.ep za [0] x2 0] rfl (zds rfl ⟨Tryz.isAgg50,Tryz.sizeOf50⟩) rfl (ral 1 [13] [.ptr 13 0,.rc za [0] x2] rfl (zeY (r:=za) (b:=⟨13,50,[kI 0,kN,kN,kN]⟩) (off:=0) [kI x2.Number,.sl (Rp.int .u64) [0] x2.Words,.sl Rp.str [0] x2.Texts,.sl zf [0] x2.Subs] rfl Tryz.sizeOf50 rfl rfl (by rw [zG]<;>rfl) rfl) rfl rf))) ?_
   refine jp ?_
   refine zH ?_
   obtain ⟨q,h_q,h⟩:=bnd h
   refine zaQ (fun s:(Int×Int)=>zch most rec_tree_depth x2 s.1 s.2) (fun s=>⟨[(1,kI most),(5,kI s.1),(11,.sl za [0] x.Values),(12,kI (x.Values.length:Int)),(13,kI v),(18,.sl zf [0] x2.Subs),(19,kI (x2.Subs.length:Int)),(20,kI s.2)],[]⟩) (fun o e a w=>match o with| (.inl v_)=>e= .exit 2∧Sx ⟨⟨40,[]⟩,Xt,false,#[]⟩ ⟨[(1,kI most),(5,kI v_),(11,.sl za [0] x.Values),(12,kI (x.Values.length:Int)),(13,kI v)],[]⟩ a w| (.inr v_)=>e= .ret∧Sx ⟨⟨40,[]⟩,Xt,false,#[]⟩ ⟨[(4,kI v_)],[]⟩ a w) ?_ h_q lzz ?_
   ·
    clear h
    intro s o h
    obtain ⟨deep3,v3⟩:=s
    refine zv ?_
    replace h:zch most rec_tree_depth x2 deep3 v3=some o:=h
    unfold zch at h
    refine jp ?_
    rcases zp h with ⟨hc2,h⟩| ⟨hc2,h⟩
    ·
     refine jT hc2 ?_
     refine zH ?_
     obtain ⟨x3,h_x3,h⟩:=bnd h
     refine jr (ra 0 [.sl zf [0] x2.Subs,kI v3] rfl (zby rfl zmC.el (zaa _ _ _) h_x3) rfl (ra 0 [.ep zf [0] x3 0] rfl (zds rfl ⟨Tryz.isAgg30,Tryz.sizeOf30⟩) rfl (ral 1 [15] [.ptr 15 0,.rc zf [0] x3] rfl (zeY (r:=zf) (b:=⟨15,30,[kN,kN]⟩) (off:=0) [.sl za [0] x3.Values,.sl Rp.str [0] x3.Unknown] rfl Tryz.sizeOf30 rfl rfl (by rw [zE]<;>rfl) rfl) rfl rf))) ?_
     refine jp ?_
     rcases zp h with ⟨hc3,h⟩| ⟨hc3,h⟩
     ·
      refine jT hc3 ?_
      refine jp ?_
      obtain rfl:=sj h
      exact zbR lzz
     refine jF hc3 ?_
     obtain ⟨rv,h_rv,h⟩:=bnd h
     refine jr (rc 4 rfl (zL.le (ins':=[(.tmp 27,.ag [.sl za [0] x3.Values,.sl Rp.str [0] x3.Unknown]),(.tmp 29,kI (IntKind.i64.wrap (most - 1)))]) (zbl (args:=[.tmp 27,.tmp 29]) [.rc zf [0] x3,kI (IntKind.i64.wrap (most - 1))] [0] 14 rfl Tryz.call42 (hrec_tree_depth h_rv) rfl rfl rfl rfl rfl) ⟨⟨rfl,zbk zf [0] x3 [.sl za [0] x3.Values,.sl Rp.str [0] x3.Unknown] (by rw [zE]<;>rfl) rfl⟩,⟨rfl,AV.le_refl _⟩,trivial⟩) rf) ?_
     refine jp ?_
     rcases zp h with ⟨hc4,h⟩| ⟨hc4,h⟩
     ·
      refine jT hc4 ?_
      refine jp ?_
      obtain rfl:=sj h
      exact zbR lzz
     refine jF hc4 ?_
     refine zau ?_
     refine jp ?_
     obtain rfl:=sj h
     exact zae lzz
    refine jF hc2 ?_
    obtain rfl:=sj h
    exact zaO rfl lzz
   rcases q with u| u2
   ·
    refine zbx _ rfl ?_
    refine zau ?_
    refine jp ?_
    obtain rfl:=sj h
    exact zae lzz
   obtain rfl:=sj h
   exact zyu lzz
  refine jF hc1 ?_
  obtain rfl:=sj h
  exact zaO rfl lzz
 rcases q2 with u3| u4
 ·
  refine zbx _ rfl ?_
  refine jp ?_
  obtain rfl:=sj h
  exact zA lzz
 obtain rfl:=sj h
 exact zeg lzz
theorem zsv {fuel:Nat} {x:ze} {most:Int} {r:Int} (h:zdZ fuel x most=some r):FnOk Tryz.prog 42 [.rc zf [0] x,kI most] [kI r]:=by
  induction fuel generalizing x most r with
  | zero=>exact absurd h nofun
  | succ fuel ih=>exact zsa (fun hh=>ih hh) h
theorem zeO {sv:(List zb)} {r:(List zb)} (h:zaH sv=some r):FnOk Tryz.prog 77 [.sl za [0] sv] [.own za 50 2 [0] r]:=by
 refine zD (E:=⟨[(2,.own za 50 2 [0] r)],[]⟩) 8 Tryz.func77 rfl rfl rfl ⟨rfl,trivial⟩ (fun Xt=>?_)
 refine zv ?_
 unfold zaH at h
 refine jp ?_
 have hn1:=zlY h
 refine znx 1 4 true ⟨[(0,.sl za [0] sv),(3,.sl za [0] sv)],[]⟩ ⟨[(0,.sl za [0] sv),(4,kB true)],[]⟩ ⟨[(0,.sl za [0] sv),(4,kB false)],[]⟩ (by kernel_rfl) rfl rfl rfl (by kernel_rfl) rfl Tryz.underlying27 rfl (zaa _ _ _) (by kernel_rfl) (by kernel_rfl) (fun hx_=>?_) ?_
 ·
  replace h:=hn1.1 hx_
  refine jT rfl ?_
  refine jp ?_
  obtain rfl:=sj h
  refine zA ?_
  refine zbC ⟨[(2,kN)],[]⟩ (by kernel_rfl) ?_
  refine zcf 2 (.own za 50 2 [0] ([]:(List zb))) rfl (zbd za 50 2 [0] rfl) ?_
  exact lzz
 replace h:=hn1.2
 refine jF rfl ?_
 obtain ⟨v,h_v,h⟩:=bnd h
 refine jr (rc 0 rfl (zfr [] 12 [] ([]:(List zb)) rfl zja rfl rfl rfl rfl) (ra 1 [.own za 50 12 [] ([]:(List zb)),.sl za [0] sv] rfl (zhL 12 [0] rfl zja.el rfl (zdC _ _ _ _ _) (zaa _ _ _) h_v (.inr rfl) rfl) rfl rf)) ?_
 obtain rfl:=sj h
 refine zA ?_
 refine lk [2] [] 12 2 ?_
 exact lzz
theorem zdP {sv:(List Str)} {r:(List Str)} (h:zaT sv=some r):FnOk Tryz.prog 78 [.sl Rp.str [0] sv] [.own Rp.str 9 2 [] r]:=by
 refine zD (E:=⟨[(2,.own Rp.str 9 2 [] r)],[]⟩) 8 Tryz.func78 rfl rfl rfl ⟨rfl,trivial⟩ (fun Xt=>?_)
 refine zv ?_
 unfold zaT at h
 refine jp ?_
 have hn1:=zlY h
 refine znx 1 4 true ⟨[(0,.sl Rp.str [0] sv),(3,.sl Rp.str [0] sv)],[]⟩ ⟨[(0,.sl Rp.str [0] sv),(4,kB true)],[]⟩ ⟨[(0,.sl Rp.str [0] sv),(4,kB false)],[]⟩ (by kernel_rfl) rfl rfl rfl (by kernel_rfl) rfl Tryz.underlying28 rfl (zaa _ _ _) (by kernel_rfl) (by kernel_rfl) (fun hx_=>?_) ?_
 ·
  replace h:=hn1.1 hx_
  refine jT rfl ?_
  refine jp ?_
  obtain rfl:=sj h
  refine zA ?_
  refine zbC ⟨[(2,kN)],[]⟩ (by kernel_rfl) ?_
  refine zcf 2 (.own Rp.str 9 2 [] ([]:(List Str))) rfl (zbd Rp.str 9 2 [] rfl) ?_
  exact lzz
 replace h:=hn1.2
 refine jF rfl ?_
 obtain ⟨v,h_v,h⟩:=bnd h
 refine jr (rc 0 rfl (zfr [] 12 [] ([]:(List Str)) rfl zmB rfl rfl rfl rfl) (ra 1 [.own Rp.str 9 12 [] ([]:(List Str)),.sl Rp.str [0] sv] rfl (zhL 12 [] rfl zmB.el rfl (zdC _ _ _ _ _) (zaa _ _ _) h_v (.inl zts) rfl) rfl rf)) ?_
 obtain rfl:=sj h
 refine zA ?_
 refine lk [2] [] 12 2 ?_
 exact lzz
theorem zgx {sv:(List Int)} {r:(List Int)} (h:zbu sv=some r):FnOk Tryz.prog 101 [.sl (Rp.int .u64) [0] sv] [.own (Rp.int .u64) 75 2 [] r]:=by
 refine zD (E:=⟨[(2,.own (Rp.int .u64) 75 2 [] r)],[]⟩) 8 Tryz.func101 rfl rfl rfl ⟨rfl,trivial⟩ (fun Xt=>?_)
 refine zv ?_
 unfold zbu at h
 refine jp ?_
 have hn1:=zlY h
 refine znx 1 4 true ⟨[(0,.sl (Rp.int .u64) [0] sv),(3,.sl (Rp.int .u64) [0] sv)],[]⟩ ⟨[(0,.sl (Rp.int .u64) [0] sv),(4,kB true)],[]⟩ ⟨[(0,.sl (Rp.int .u64) [0] sv),(4,kB false)],[]⟩ (by kernel_rfl) rfl rfl rfl (by kernel_rfl) rfl Tryz.underlying47 rfl (zaa _ _ _) (by kernel_rfl) (by kernel_rfl) (fun hx_=>?_) ?_
 ·
  replace h:=hn1.1 hx_
  refine jT rfl ?_
  refine jp ?_
  obtain rfl:=sj h
  refine zA ?_
  refine zbC ⟨[(2,kN)],[]⟩ (by kernel_rfl) ?_
  refine zcf 2 (.own (Rp.int .u64) 75 2 [] ([]:(List Int))) rfl (zbd (Rp.int .u64) 75 2 [] rfl) ?_
  exact lzz
 replace h:=hn1.2
 refine jF rfl ?_
 obtain ⟨v,h_v,h⟩:=bnd h
 refine jr (rc 0 rfl (zfr [] 12 [] ([]:(List Int)) rfl zkN rfl rfl rfl rfl) (ra 1 [.own (Rp.int .u64) 75 12 [] ([]:(List Int)),.sl (Rp.int .u64) [0] sv] rfl (zhL 12 [] rfl zkN.el rfl (zdC _ _ _ _ _) (zaa _ _ _) h_v (.inl (zoV _)) rfl) rfl rf)) ?_
 obtain rfl:=sj h
 refine zA ?_
 refine lk [2] [] 12 2 ?_
 exact lzz
theorem zfu {sv:(List ze)} {r:(List ze)} (h:zbc sv=some r):FnOk Tryz.prog 102 [.sl zf [0] sv] [.own zf 30 2 [0] r]:=by
 refine zD (E:=⟨[(2,.own zf 30 2 [0] r)],[]⟩) 8 Tryz.func102 rfl rfl rfl ⟨rfl,trivial⟩ (fun Xt=>?_)
 refine zv ?_
 unfold zbc at h
 refine jp ?_
 have hn1:=zlY h
 refine znx 1 4 true ⟨[(0,.sl zf [0] sv),(3,.sl zf [0] sv)],[]⟩ ⟨[(0,.sl zf [0] sv),(4,kB true)],[]⟩ ⟨[(0,.sl zf [0] sv),(4,kB false)],[]⟩ (by kernel_rfl) rfl rfl rfl (by kernel_rfl) rfl Tryz.underlying48 rfl (zaa _ _ _) (by kernel_rfl) (by kernel_rfl) (fun hx_=>?_) ?_
 ·
  replace h:=hn1.1 hx_
  refine jT rfl ?_
  refine jp ?_
  obtain rfl:=sj h
  refine zA ?_
  refine zbC ⟨[(2,kN)],[]⟩ (by kernel_rfl) ?_
  refine zcf 2 (.own zf 30 2 [0] ([]:(List ze))) rfl (zbd zf 30 2 [0] rfl) ?_
  exact lzz
 replace h:=hn1.2
 refine jF rfl ?_
 obtain ⟨v,h_v,h⟩:=bnd h
 refine jr (rc 0 rfl (zfr [] 12 [] ([]:(List ze)) rfl zmC rfl rfl rfl rfl) (ra 1 [.own zf 30 12 [] ([]:(List ze)),.sl zf [0] sv] rfl (zhL 12 [0] rfl zmC.el rfl (zdC _ _ _ _ _) (zaa _ _ _) h_v (.inr rfl) rfl) rfl rf)) ?_
 obtain rfl:=sj h
 refine zA ?_
 refine lk [2] [] 12 2 ?_
 exact lzz
theorem zlz {f:zc} {v:Int} {r:Bool} (h:zdO f v=some r):FnOk Tryz.prog 97 [.rc zd [0] f,.ep (Rp.int .i64) [0] v 0] [kB r]:=by
 refine zD (E:=⟨[(3,kB r)],[]⟩) 8 Tryz.func97 rfl rfl rfl ⟨rfl,trivial⟩ (fun Xt=>?_)
 refine zv ?_
 unfold zdO at h
 refine jq [11] ?_
 refine jp ?_
 obtain rfl:=sj h
 exact zA lzz
theorem zgy {s1:(List Int)} {s2:(List Int)} {r:Bool} (h:zbv s1 s2=some r):FnOk Tryz.prog 99 [.sl (Rp.int .u64) [0] s1,.sl (Rp.int .u64) [0] s2] [kB r]:=by
 refine zD (E:=⟨[(4,kB r)],[]⟩) 26 Tryz.func99 rfl rfl rfl ⟨rfl,trivial⟩ (fun Xt=>?_)
 refine zv ?_
 unfold zbv at h
 refine jp ?_
 refine jp ?_
 rcases zp h with ⟨hc1,h⟩| ⟨hc1,h⟩
 ·
  refine jT hc1 ?_
  refine jp ?_
  obtain rfl:=sj h
  exact zA lzz
 refine jF hc1 ?_
 refine jp ?_
 refine zH ?_
 obtain ⟨q,h_q,h⟩:=bnd h
 refine zaQ (fun s:Int=>zad s1 s2 s) (fun s=>⟨[(0,.sl (Rp.int .u64) [0] s1),(1,.sl (Rp.int .u64) [0] s2),(12,kI (s1.length:Int)),(13,kI s)],[]⟩) (fun o e a w=>match o with| (.inl v_)=>e= .exit 0∧Sx ⟨⟨26,[]⟩,Xt,false,#[]⟩ ⟨[],[]⟩ a w| (.inr v_)=>e= .ret∧Sx ⟨⟨26,[]⟩,Xt,false,#[]⟩ ⟨[(4,kB false)],[]⟩ a w) ?_ h_q lzz ?_
 ·
  clear h
  intro v o h
  refine zv ?_
  replace h:zad s1 s2 v=some o:=h
  unfold zad at h
  refine jp ?_
  rcases zp h with ⟨hc2,h⟩| ⟨hc2,h⟩
  ·
   refine jT hc2 ?_
   refine zH ?_
   refine jp ?_
   obtain ⟨x,h_x,h⟩:=bnd h
   obtain ⟨x2,h_x2,h⟩:=bnd h
   refine jd [0,1,12,13,24] [] zdz (by exact (lw_e (lw_e (ly [.sl (Rp.int .u64) [0] s1,kI v] (zby rfl zkN.el (zaa _ _ _) h_x) rfl (lw_e (lw_e (lw_e (ly [.sl (Rp.int .u64) [0] s2,kI v] (zby rfl zkN.el (zaa _ _ _) h_x2) rfl l0)))))))) ?_
   rcases zp h with ⟨hc3,h⟩| ⟨hc3,h⟩
   ·
    refine jT hc3 ?_
    refine jp ?_
    obtain rfl:=sj h
    exact zbR lzz
   refine jF hc3 ?_
   refine zau ?_
   refine jp ?_
   obtain rfl:=sj h
   exact zae lzz
  refine jF hc2 ?_
  obtain rfl:=sj h
  exact zaO rfl lzz
 rcases q with u| u2
 ·
  refine zbx _ rfl ?_
  refine jp ?_
  obtain rfl:=sj h
  exact zA lzz
 obtain rfl:=sj h
 exact zeg lzz
theorem zdQ {s1:(List Str)} {s2:(List Str)} {r:Bool} (h:zaW s1 s2=some r):FnOk Tryz.prog 76 [.sl Rp.str [0] s1,.sl Rp.str [0] s2] [kB r]:=by
 refine zD (E:=⟨[(4,kB r)],[]⟩) 26 Tryz.func76 rfl rfl rfl ⟨rfl,trivial⟩ (fun Xt=>?_)
 refine zv ?_
 unfold zaW at h
 refine jp ?_
 refine jp ?_
 rcases zp h with ⟨hc1,h⟩| ⟨hc1,h⟩
 ·
  refine jT hc1 ?_
  refine jp ?_
  obtain rfl:=sj h
  exact zA lzz
 refine jF hc1 ?_
 refine jp ?_
 refine zH ?_
 obtain ⟨q,h_q,h⟩:=bnd h
 refine zaQ (fun s:Int=>zac s1 s2 s) (fun s=>⟨[(0,.sl Rp.str [0] s1),(1,.sl Rp.str [0] s2),(12,kI (s1.length:Int)),(13,kI s)],[]⟩) (fun o e a w=>match o with| (.inl v_)=>e= .exit 0∧Sx ⟨⟨26,[]⟩,Xt,false,#[]⟩ ⟨[],[]⟩ a w| (.inr v_)=>e= .ret∧Sx ⟨⟨26,[]⟩,Xt,false,#[]⟩ ⟨[(4,kB false)],[]⟩ a w) ?_ h_q lzz ?_
 ·
  clear h
  intro v o h
  refine zv ?_
  replace h:zac s1 s2 v=some o:=h
  unfold zac at h
  refine jp ?_
  rcases zp h with ⟨hc2,h⟩| ⟨hc2,h⟩
  ·
   refine jT hc2 ?_
   refine zH ?_
   refine jp ?_
   obtain ⟨x,h_x,h⟩:=bnd h
   obtain ⟨x2,h_x2,h⟩:=bnd h
   refine jd [0,1,12,13,24] [] zdz (by exact (lw_e (lw_e (ly [.sl Rp.str [0] s1,kI v] (zby rfl zmB.el (zaa _ _ _) h_x) rfl (lw_e (lw_e (lw_e (ly [.sl Rp.str [0] s2,kI v] (zby rfl zmB.el (zaa _ _ _) h_x2) rfl l0)))))))) ?_
   rcases zp h with ⟨hc3,h⟩| ⟨hc3,h⟩
   ·
    refine jT hc3 ?_
    refine jp ?_
    obtain rfl:=sj h
    exact zbR lzz
   refine jF hc3 ?_
   refine zau ?_
   refine jp ?_
   obtain rfl:=sj h
   exact zae lzz
  refine jF hc2 ?_
  obtain rfl:=sj h
  exact zaO rfl lzz
 rcases q with u| u2
 ·
  refine zbx _ rfl ?_
  refine jp ?_
  obtain rfl:=sj h
  exact zA lzz
 obtain rfl:=sj h
 exact zeg lzz
end Go.Proofs.YtcbkcblkecmjnaaGreat
