/-
  The Go functions do what the plain functions say. No condition.
-/
import Derived.Test.YtcbkcblkecmjnaaGreatx4G13
namespace Go.Proofs.YtcbkcblkecmjnaaGreat
open Go Go.RowKit
set_option linter.unusedVariables false
set_option maxRecDepth 100000
set_option maxHeartbeats 3200000
theorem ziK {fuel:Nat} {sv:(List zi)} {root:Int} {b:(List UInt8)} {d:Int} {r:Bool} (h:zcm fuel sv root b d=some r):FnOk Tryz.prog 6 [.sl zj [0] sv,kI root,.sl Rp.byte [0] b,kI d] [kB r]:=by
 refine zD (E:=⟨[(8,kB r)],[]⟩) 127 Tryz.func6 rfl rfl rfl ⟨rfl,trivial⟩ (fun Xt=>?_)
 refine zv ?_
 unfold zcm at h
 refine jp ?_
 obtain ⟨rv,h_rv,h⟩:=bnd h
 refine jr (rl 0 [1] 9 Tryz.call7 (zkO h_rv) rf) ?_
 rcases zp h with ⟨hc1,h⟩| ⟨hc1,h⟩
 ·
  refine jT hc1 ?_
  refine jp ?_
  obtain rfl:=sj h
  exact zA lzz
 refine jF hc1 ?_
 obtain ⟨rv2,h_rv2,h⟩:=bnd h
 refine zap ⟨[(0,.sl zj [0] sv),(1,kI root),(2,.sl Rp.byte [0] b),(3,kI d),(25,kB ((!rv2)|| (decide ((b.length:Int)>1500))))],[]⟩ ?_ ?_
 ·
  refine (rl 1 [0] 9 Tryz.call8 (zmj h_rv2) (rsl 2 [] 21 (!rv2) (fun hc2=>?_) (fun hc2=>?_)))
  · exact (rbl [] 25 true ((!rv2)|| (decide ((b.length:Int)>1500))) (by rw [hc2]<;>rfl))
  exact (rbl [] 25 (decide ((b.length:Int)>1500)) ((!rv2)|| (decide ((b.length:Int)>1500))) (by rw [hc2]<;>rfl))
 rcases zp h with ⟨hc3,h⟩| ⟨hc3,h⟩
 ·
  refine jT hc3 ?_
  refine jp ?_
  obtain rfl:=sj h
  exact zA lzz
 refine jF hc3 ?_
 obtain ⟨rv3,h_rv3,h⟩:=bnd h
 refine jr (rl 4 [0] 9 Tryz.call9 (zkv h_rv3) (rfl' [15])) ?_
 refine jp ?_
 rcases zp h with ⟨hc4,h⟩| ⟨hc4,h⟩
 ·
  refine jT hc4 ?_
  obtain ⟨rv4,h_rv4,h⟩:=bnd h
  refine jr (rl 4 [0] 14 Tryz.call29 (zwA h_rv4) rf) ?_
  obtain rfl:=sj h
  exact zA lzz
 refine jF hc4 ?_
 obtain ⟨rv5,h_rv5,h⟩:=bnd h
 refine jr (rl 3 [0] 14 Tryz.call30 (zsd h_rv5) rf) ?_
 obtain ⟨g,h_g,h⟩:=bnd h
 refine zfk (R:=fun e a w=>e= .normal∧Sx ⟨⟨127,[]⟩,Xt,false,#[]⟩ ⟨[(0,.sl zj [0] sv),(1,kI root),(2,.sl Rp.byte [0] b),(3,kI d),(9,.ptr 15 0),(72,kB g)],[⟨15,30,[.own za 50 12 [13] rv3.1.Values,.own Rp.str 9 14 [] rv3.1.Unknown]⟩]⟩ a w) ?_ (zhK ?_)
 ·
  refine zv ?_
  rcases Bool.eq_false_or_eq_true ((IntKind.i64.wrap rv5.2) !=0) with hc5| hc5
  ·
   replace h_g:=iteT h_g hc5
   obtain rfl:=sj h_g
   refine jd [0,1,2,3,9,72] [15] zdz (by exact (lw_e (lw_e (lw_e (lx (zgp ⟨[(52,kB ((IntKind.i64.wrap rv5.2) !=0))],[]⟩ (by kernel_rfl) hc5) l0))))) ?_
   exact zae lzz
  replace h_g:=iteF h_g hc5
  obtain ⟨rv6,h_rv6,h_g⟩:=bnd h_g
  rcases Bool.eq_false_or_eq_true (!rv6) with hc6| hc6
  ·
   replace h_g:=iteT h_g hc6
   obtain rfl:=sj h_g
   refine jd [0,1,2,3,9,72] [15] zdz (by exact (lw_e (lw_e (lw_e (lx (zgp ⟨[(52,kB ((IntKind.i64.wrap rv5.2) !=0))],[]⟩ (by kernel_rfl) hc5) (lw_e (lw_e (ly [.ptr 15 0] (zgq (b:=⟨15,30,[.own za 50 12 [13] rv3.1.Values,.own Rp.str 9 14 [] rv3.1.Unknown]⟩) [.own za 50 12 [13] rv3.1.Values,.own Rp.str 9 14 [] rv3.1.Unknown] rfl ⟨Tryz.isAgg30,Tryz.sizeOf30⟩ rfl rfl) rfl (lx (lf1 21 (zL.le (ins':=[(.tmp 54,.sl zj [0] sv),(.tmp 55,kI root),(.tmp 56,.ag [.own za 50 12 [13] rv3.1.Values,.own Rp.str 9 14 [] rv3.1.Unknown])]) (zbl (args:=[.tmp 54,.tmp 55,.tmp 56]) [.sl zj [0] sv,kI root,.rc zf [12,13,14] rv3.1] [0,12,13,14] 14 rfl Tryz.call21 (zjl h_rv6) rfl rfl rfl rfl rfl) ⟨⟨rfl,AV.le_refl _⟩,⟨rfl,AV.le_refl _⟩,⟨rfl,zbk zf [12,13,14] rv3.1 [.own za 50 12 [13] rv3.1.Values,.own Rp.str 9 14 [] rv3.1.Unknown] (by rw [zE]<;>rfl) rfl⟩,trivial⟩)) (lw_e (lw_e (lx (zgp ⟨[(59,kB (!rv6))],[]⟩ (by kernel_rfl) hc6) l0)))))))))))) ?_
   exact zae lzz
  replace h_g:=iteF h_g hc6
  obtain ⟨rv7,h_rv7,h_g⟩:=bnd h_g
  rcases Bool.eq_false_or_eq_true (decide (rv7>rv5.1)) with hc7| hc7
  ·
   replace h_g:=iteT h_g hc7
   obtain rfl:=sj h_g
   refine jd [0,1,2,3,9,72] [15] zdz (by exact (lw_e (lw_e (lw_e (lx (zgp ⟨[(52,kB ((IntKind.i64.wrap rv5.2) !=0))],[]⟩ (by kernel_rfl) hc5) (lw_e (lw_e (ly [.ptr 15 0] (zgq (b:=⟨15,30,[.own za 50 12 [13] rv3.1.Values,.own Rp.str 9 14 [] rv3.1.Unknown]⟩) [.own za 50 12 [13] rv3.1.Values,.own Rp.str 9 14 [] rv3.1.Unknown] rfl ⟨Tryz.isAgg30,Tryz.sizeOf30⟩ rfl rfl) rfl (lx (lf1 21 (zL.le (ins':=[(.tmp 54,.sl zj [0] sv),(.tmp 55,kI root),(.tmp 56,.ag [.own za 50 12 [13] rv3.1.Values,.own Rp.str 9 14 [] rv3.1.Unknown])]) (zbl (args:=[.tmp 54,.tmp 55,.tmp 56]) [.sl zj [0] sv,kI root,.rc zf [12,13,14] rv3.1] [0,12,13,14] 14 rfl Tryz.call21 (zjl h_rv6) rfl rfl rfl rfl rfl) ⟨⟨rfl,AV.le_refl _⟩,⟨rfl,AV.le_refl _⟩,⟨rfl,zbk zf [12,13,14] rv3.1 [.own za 50 12 [13] rv3.1.Values,.own Rp.str 9 14 [] rv3.1.Unknown] (by rw [zE]<;>rfl) rfl⟩,trivial⟩)) (lw_e (lw_e (lx (zgp ⟨[(59,kB (!rv6))],[]⟩ (by kernel_rfl) hc6) (ly [.ptr 15 0] (zgq (b:=⟨15,30,[.own za 50 12 [13] rv3.1.Values,.own Rp.str 9 14 [] rv3.1.Unknown]⟩) [.own za 50 12 [13] rv3.1.Values,.own Rp.str 9 14 [] rv3.1.Unknown] rfl ⟨Tryz.isAgg30,Tryz.sizeOf30⟩ rfl rfl) rfl (lx (lf1 14 (zL.le (ins':=[(.tmp 61,.ag [.own za 50 12 [13] rv3.1.Values,.own Rp.str 9 14 [] rv3.1.Unknown])]) (zbl (args:=[.tmp 61]) [.rc zf [12,13,14] rv3.1] [12,13,14] 14 rfl Tryz.call14 (zjk h_rv7) rfl rfl rfl rfl rfl) ⟨⟨rfl,zbk zf [12,13,14] rv3.1 [.own za 50 12 [13] rv3.1.Values,.own Rp.str 9 14 [] rv3.1.Unknown] (by rw [zE]<;>rfl) rfl⟩,trivial⟩)) (lw_e (lw_e (lw_e (lx (zgp ⟨[(65,kB (decide (rv7>rv5.1)))],[]⟩ (by kernel_rfl) hc7) l0)))))))))))))))))) ?_
   exact zae lzz
  replace h_g:=iteF h_g hc7
  obtain ⟨rv8,h_rv8,h_g⟩:=bnd h_g
  obtain ⟨rv9,h_rv9,h_g⟩:=bnd h_g
  obtain rfl:=sj h_g
  refine jd [0,1,2,3,9,72] [15] zdz (by exact (lw_e (lw_e (lw_e (lx (zgp ⟨[(52,kB ((IntKind.i64.wrap rv5.2) !=0))],[]⟩ (by kernel_rfl) hc5) (lw_e (lw_e (ly [.ptr 15 0] (zgq (b:=⟨15,30,[.own za 50 12 [13] rv3.1.Values,.own Rp.str 9 14 [] rv3.1.Unknown]⟩) [.own za 50 12 [13] rv3.1.Values,.own Rp.str 9 14 [] rv3.1.Unknown] rfl ⟨Tryz.isAgg30,Tryz.sizeOf30⟩ rfl rfl) rfl (lx (lf1 21 (zL.le (ins':=[(.tmp 54,.sl zj [0] sv),(.tmp 55,kI root),(.tmp 56,.ag [.own za 50 12 [13] rv3.1.Values,.own Rp.str 9 14 [] rv3.1.Unknown])]) (zbl (args:=[.tmp 54,.tmp 55,.tmp 56]) [.sl zj [0] sv,kI root,.rc zf [12,13,14] rv3.1] [0,12,13,14] 14 rfl Tryz.call21 (zjl h_rv6) rfl rfl rfl rfl rfl) ⟨⟨rfl,AV.le_refl _⟩,⟨rfl,AV.le_refl _⟩,⟨rfl,zbk zf [12,13,14] rv3.1 [.own za 50 12 [13] rv3.1.Values,.own Rp.str 9 14 [] rv3.1.Unknown] (by rw [zE]<;>rfl) rfl⟩,trivial⟩)) (lw_e (lw_e (lx (zgp ⟨[(59,kB (!rv6))],[]⟩ (by kernel_rfl) hc6) (ly [.ptr 15 0] (zgq (b:=⟨15,30,[.own za 50 12 [13] rv3.1.Values,.own Rp.str 9 14 [] rv3.1.Unknown]⟩) [.own za 50 12 [13] rv3.1.Values,.own Rp.str 9 14 [] rv3.1.Unknown] rfl ⟨Tryz.isAgg30,Tryz.sizeOf30⟩ rfl rfl) rfl (lx (lf1 14 (zL.le (ins':=[(.tmp 61,.ag [.own za 50 12 [13] rv3.1.Values,.own Rp.str 9 14 [] rv3.1.Unknown])]) (zbl (args:=[.tmp 61]) [.rc zf [12,13,14] rv3.1] [12,13,14] 14 rfl Tryz.call14 (zjk h_rv7) rfl rfl rfl rfl rfl) ⟨⟨rfl,zbk zf [12,13,14] rv3.1 [.own za 50 12 [13] rv3.1.Values,.own Rp.str 9 14 [] rv3.1.Unknown] (by rw [zE]<;>rfl) rfl⟩,trivial⟩)) (lw_e (lw_e (lw_e (lx (zgp ⟨[(65,kB (decide (rv7>rv5.1)))],[]⟩ (by kernel_rfl) hc7) (ly [.ptr 15 0] (zgq (b:=⟨15,30,[.own za 50 12 [13] rv3.1.Values,.own Rp.str 9 14 [] rv3.1.Unknown]⟩) [.own za 50 12 [13] rv3.1.Values,.own Rp.str 9 14 [] rv3.1.Unknown] rfl ⟨Tryz.isAgg30,Tryz.sizeOf30⟩ rfl rfl) rfl (ly [.ptr 15 0] (zgq (b:=⟨15,30,[.own za 50 12 [13] rv3.1.Values,.own Rp.str 9 14 [] rv3.1.Unknown]⟩) [.own za 50 12 [13] rv3.1.Values,.own Rp.str 9 14 [] rv3.1.Unknown] rfl ⟨Tryz.isAgg30,Tryz.sizeOf30⟩ rfl rfl) rfl (lx (lf1 25 (zL.le (ins':=[(.tmp 68,.ag [.own za 50 12 [13] rv3.1.Values,.own Rp.str 9 14 [] rv3.1.Unknown])]) (zbl (args:=[.tmp 68]) [.rc zf [12,13,14] rv3.1] [12,13,14] 14 rfl Tryz.call25 (zuV h_rv8) rfl rfl rfl rfl rfl) ⟨⟨rfl,zbk zf [12,13,14] rv3.1 [.own za 50 12 [13] rv3.1.Values,.own Rp.str 9 14 [] rv3.1.Unknown] (by rw [zE]<;>rfl) rfl⟩,trivial⟩)) (lx (lf1 22 (zL.le (ins':=[(.tmp 67,.ag [.own za 50 12 [13] rv3.1.Values,.own Rp.str 9 14 [] rv3.1.Unknown]),(.tmp 69,.ag [.own za 50 17 [12,13,14,18] rv8.Values,.own Rp.str 9 19 [] rv8.Unknown])]) (zbl (args:=[.tmp 67,.tmp 69]) [.rc zf [12,13,14] rv3.1,.rc zf [17,12,13,14,18,19] rv8] [12,13,14,17,18,19] 18 rfl Tryz.call22 (zuW h_rv9) rfl rfl rfl rfl rfl) ⟨⟨rfl,zbk zf [12,13,14] rv3.1 [.own za 50 12 [13] rv3.1.Values,.own Rp.str 9 14 [] rv3.1.Unknown] (by rw [zE]<;>rfl) rfl⟩,⟨rfl,zbk zf [17,12,13,14,18,19] rv8 [.own za 50 17 [12,13,14,18] rv8.Values,.own Rp.str 9 19 [] rv8.Unknown] (by rw [zE]<;>rfl) rfl⟩,trivial⟩)) l0)))))))))))))))))))))) ?_
  exact zae lzz
 rcases zp h with ⟨hc8,h⟩| ⟨hc8,h⟩
 ·
  refine jT hc8 ?_
  refine jp ?_
  obtain rfl:=sj h
  exact zA lzz
 refine jF hc8 ?_
 obtain ⟨v3,h_v3,h⟩:=bnd h
 obtain ⟨v4,h_v4,h⟩:=bnd h
 obtain ⟨rv10,h_rv10,h⟩:=bnd h
 refine jr (rc 2 rfl (zfr [] 20 [] ([]:(List UInt8)) rfl zeq rfl rfl rfl rfl) (ra 1 [.own Rp.byte 5 20 [] ([]:(List UInt8)),.sl Rp.byte [0] b] rfl (zhL 20 [] rfl zeq.el rfl (zdC _ _ _ _ _) (zaa _ _ _) h_v3 (.inl zmT) rfl) rfl (ra 1 [.own Rp.byte 5 20 [] v3,.sl Rp.byte [0] b] rfl (zhL 20 [] rfl zeq.el rfl (zdC _ _ _ _ _) (zaa _ _ _) h_v4 (.inl zmT) rfl) rfl (rl 1 [0,20] 19 Tryz.call9 (zkv h_rv10) (rfl' [25]))))) ?_
 refine zap ⟨[(9,.ptr 15 0),(13,.ptr 25 0),(106,kB (((IntKind.i64.wrap rv10.2) !=0)|| (((rv10.1.Values.length:Int) !=(rv3.1.Values.length:Int))|| ((rv10.1.Unknown.length:Int) !=(IntKind.i64.wrap (2*(rv3.1.Unknown.length:Int)))))))],[⟨15,30,[.own za 50 12 [13] rv3.1.Values,.own Rp.str 9 14 [] rv3.1.Unknown]⟩,⟨25,30,[.own za 50 22 [23] rv10.1.Values,.own Rp.str 9 24 [] rv10.1.Unknown]⟩]⟩ ?_ ?_
 ·
  refine (rsl 4 [] 88 ((IntKind.i64.wrap rv10.2) !=0) (fun hc9=>?_) (fun hc9=>?_))
  · exact (rbl [] 106 true (((IntKind.i64.wrap rv10.2) !=0)|| (((rv10.1.Values.length:Int) !=(rv3.1.Values.length:Int))|| ((rv10.1.Unknown.length:Int) !=(IntKind.i64.wrap (2*(rv3.1.Unknown.length:Int)))))) (by rw [hc9]<;>rfl))
  refine (rsl 9 [] 97 ((rv10.1.Values.length:Int) !=(rv3.1.Values.length:Int)) (fun hc10=>?_) (fun hc10=>?_))
  · exact (rbl [] 106 true (((IntKind.i64.wrap rv10.2) !=0)|| (((rv10.1.Values.length:Int) !=(rv3.1.Values.length:Int))|| ((rv10.1.Unknown.length:Int) !=(IntKind.i64.wrap (2*(rv3.1.Unknown.length:Int)))))) (by rw [hc9,hc10]<;>rfl))
  exact (rbl [] 106 ((rv10.1.Unknown.length:Int) !=(IntKind.i64.wrap (2*(rv3.1.Unknown.length:Int)))) (((IntKind.i64.wrap rv10.2) !=0)|| (((rv10.1.Values.length:Int) !=(rv3.1.Values.length:Int))|| ((rv10.1.Unknown.length:Int) !=(IntKind.i64.wrap (2*(rv3.1.Unknown.length:Int)))))) (by rw [hc9,hc10]<;>rfl))
 rcases zp h with ⟨hc11,h⟩| ⟨hc11,h⟩
 ·
  refine jT hc11 ?_
  refine jp ?_
  obtain rfl:=sj h
  exact zA lzz
 refine jF hc11 ?_
 refine jp ?_
 refine zH ?_
 obtain ⟨q,h_q,h⟩:=bnd h
 refine zaQ (fun s:Int=>zar rv10 rv3 s) (fun s=>⟨[(9,.ptr 15 0),(13,.ptr 25 0),(15,kI s)],[⟨15,30,[.own za 50 12 [13] rv3.1.Values,.own Rp.str 9 14 [] rv3.1.Unknown]⟩,⟨25,30,[.own za 50 22 [23] rv10.1.Values,.own Rp.str 9 24 [] rv10.1.Unknown]⟩]⟩) (fun o e a w=>match o with| (.inl v_)=>e= .exit 0∧Sx ⟨⟨127,[]⟩,Xt,false,#[]⟩ ⟨[],[]⟩ a w| (.inr v_)=>e= .ret∧Sx ⟨⟨127,[]⟩,Xt,false,#[]⟩ ⟨[(8,kB false)],[]⟩ a w) ?_ h_q lzz ?_
 ·
  clear h
  intro i o h
  refine zv ?_
  replace h:zar rv10 rv3 i=some o:=h
  unfold zar at h
  refine jp ?_
  rcases zp h with ⟨hc12,h⟩| ⟨hc12,h⟩
  ·
   refine jT hc12 ?_
   refine zH ?_
   obtain ⟨x,h_x,h⟩:=bnd h
   obtain ⟨x2,h_x2,h⟩:=bnd h
   refine jd [9,13,15,126] [15,25] zdz (by exact (lw_e (lw_e (lw_e (ly [.own za 50 22 [23] rv10.1.Values,kI i] (zby rfl zja.el (zef _ _ _ _ _) h_x) rfl (lw_e (ly [.ep za [22,23] x 0] (zBs (.int .i64 x.Number) rfl rfl (by rw [zG]<;>rfl) rfl) rfl (lw_e (lw_e (lw_e (ly [.own za 50 12 [13] rv3.1.Values,kI i] (zby rfl zja.el (zef _ _ _ _ _) h_x2) rfl (lw_e (ly [.ep za [12,13] x2 0] (zBs (.int .i64 x2.Number) rfl rfl (by rw [zG]<;>rfl) rfl) rfl l0))))))))))))) ?_
   rcases zp h with ⟨hc13,h⟩| ⟨hc13,h⟩
   ·
    refine jT hc13 ?_
    refine jp ?_
    obtain rfl:=sj h
    exact zbR lzz
   refine jF hc13 ?_
   refine zau ?_
   refine jp ?_
   obtain rfl:=sj h
   exact zae lzz
  refine jF hc12 ?_
  obtain rfl:=sj h
  exact zaO rfl lzz
 rcases q with u| u2
 ·
  refine zbx _ rfl ?_
  refine jp ?_
  obtain rfl:=sj h
  exact zA lzz
 obtain rfl:=sj h
 exact zeg lzz
end Go.Proofs.YtcbkcblkecmjnaaGreat
