/-
  The Go functions do what the plain functions say. No condition.
-/
import Derived.Test.YtcbkcblkecmjnaaGreatx2G5
import Derived.Test.YtcbkcblkecmjnaaGreatx2G6
namespace Go.Proofs.YtcbkcblkecmjnaaGreat
open Go Go.RowKit
set_option linter.unusedVariables false
set_option maxRecDepth 100000
set_option maxHeartbeats 3200000
theorem zrY {f:ze} {r:Bool} (h:zhL f=some r):FnOk Tryz.prog 125 [.rc zf [0] f] [kB r]:=by
 refine zC (E:=⟨[(2,kB r)],[]⟩) 10 Tryz.func125 rfl rfl rfl ⟨rfl,trivial⟩ (fun Xt=>?_)
 refine zp ?_
 unfold zhL at h
 refine jq [11] ?_
 obtain ⟨g,h_g,h⟩:=bnd h
 refine zW ⟨[(2,kB g)],[]⟩ ?_ ?_
 ·
  refine (rsl 3 [] 5 f.Repeated (fun hc1=>?_) (fun hc1=>?_))
  ·
   replace h_g:=iteT h_g hc1
   obtain ⟨rv,h_rv,h_g⟩:=bnd h_g
   obtain rfl:=sj h_g
   exact (rl 2 [1] 10 Tryz.call159 (zpp h_rv) rgg)
  replace h_g:=iteF h_g hc1
  obtain rfl:=sj h_g
  exact rgg
 obtain rfl:=sj h
 exact zz lzz
theorem zlO {b:(List UInt8)} {fromv:Int} {r:(zu×Int)} (h:zhJ b fromv=some r):FnOk Tryz.prog 98 [.sl Rp.byte [0] b,kI fromv] [.rc zY [] r.1,k8 r.2]:=by
 refine zC (E:=⟨[(4,.ptr 2 0),(5,k8 r.2)],[⟨2,111,[kI r.1.Number,kI r.1.Wire,kI r.1.From,kI r.1.At,kI r.1.To]⟩]⟩) 62 Tryz.func98 rfl rfl rfl ⟨⟨_,_,rfl,rfl,rfl,rfl,⟨Tryz.isAgg111,Tryz.sizeOf111⟩⟩,rfl,trivial⟩ (fun Xt=>?_)
 refine zp ?_
 unfold zhJ at h
 refine jq [12] ?_
 refine zW ⟨[(0,.sl Rp.byte [0] b),(1,kI fromv),(4,.ptr 12 0),(19,kB ((decide (fromv<0))|| (decide (fromv≥(b.length:Int)))))],[⟨12,111,[kI 0,kI 0,kI 0,kI 0,kI 0]⟩]⟩ ?_ ?_
 ·
  refine (rsl 3 [] 14 (decide (fromv<0)) (fun hc1=>?_) (fun hc1=>?_))
  · exact (rbl [] 19 true ((decide (fromv<0))|| (decide (fromv≥(b.length:Int)))) (by rw [hc1]<;>rfl))
  exact (rbl [] 19 (decide (fromv≥(b.length:Int))) ((decide (fromv<0))|| (decide (fromv≥(b.length:Int)))) (by rw [hc1]<;>rfl))
 rcases zm h with ⟨hc2,h⟩| ⟨hc2,h⟩
 ·
  refine jT hc2 ?_
  refine jr (rc 0 rfl (zan (r:=zY) [] [] (⟨0,0,0,0,0⟩:zu) rfl zyQ rfl rfl) rf) ?_
  obtain rfl:=sj h
  refine zz ?_
  refine lk [4,5] [12] 12 2 ?_
  exact lzz
 refine jF hc2 ?_
 obtain ⟨v2,h_v2,h⟩:=bnd h
 obtain ⟨rv,h_rv,h⟩:=bnd h
 refine jr (ra 2 [.sl Rp.byte [0] b,kI fromv] rfl (zik (some (kI fromv)) none rfl zeU.el (zJ _ _ _) ⟨rfl,rfl⟩ ⟨rfl,rfl⟩ h_v2) rfl (rl 0 [0] 11 Tryz.call118 (zAB h_rv) (rfl' [13]))) ?_
 refine jp ?_
 rcases zm h with ⟨hc3,h⟩| ⟨hc3,h⟩
 ·
  refine jT hc3 ?_
  refine jr (rc 0 rfl (zan (r:=zY) [] [] (⟨0,0,0,0,0⟩:zu) rfl zyQ rfl rfl) rf) ?_
  obtain rfl:=sj h
  refine zz ?_
  refine lk [4,5] [12] 12 2 ?_
  exact lzz
 refine jF hc3 ?_
 refine jp ?_
 obtain ⟨v3,h_v3,h⟩:=bnd h
 obtain ⟨rv2,h_rv2,h⟩:=bnd h
 refine jd [1,4,6,8,9,10,11] [12,13] zcc (by exact (lw_e (lw_e (lw_e (lw_e (ly [.sl Rp.byte [0] b,kI (IntKind.i64.wrap (fromv+rv.2.1))] (zik (some (kI (IntKind.i64.wrap (fromv+rv.2.1)))) none rfl zeU.el (zJ _ _ _) ⟨rfl,rfl⟩ ⟨rfl,rfl⟩ h_v3) rfl (lx (lf1 119 (zae [kI rv.1.Wire,.sl Rp.byte [0] v3] [0] 12 rfl Tryz.call119 (zvu h_rv2) rfl rfl rfl rfl rfl)) l0))))))) ?_
 refine jp ?_
 rcases zm h with ⟨hc4,h⟩| ⟨hc4,h⟩
 ·
  refine jT hc4 ?_
  refine jr (rc 0 rfl (zan (r:=zY) [] [] (⟨0,0,0,0,0⟩:zu) rfl zyQ rfl rfl) rf) ?_
  obtain rfl:=sj h
  refine zz ?_
  refine lk [4,5] [12] 12 2 ?_
  exact lzz
 refine jF hc4 ?_
 refine jr (rc 11 rfl (zan (r:=zY) [kI rv.1.Number,kI rv.1.Wire,kI fromv,kI (IntKind.i64.wrap ((IntKind.i64.wrap (fromv+rv.2.1))+rv2.1)),kI (IntKind.i64.wrap ((IntKind.i64.wrap (fromv+rv.2.1))+rv2.2.1))] [] (⟨rv.1.Number,rv.1.Wire,fromv,(IntKind.i64.wrap ((IntKind.i64.wrap (fromv+rv.2.1))+rv2.1)),(IntKind.i64.wrap ((IntKind.i64.wrap (fromv+rv.2.1))+rv2.2.1))⟩:zu) rfl zyQ rfl rfl) rf) ?_
 obtain rfl:=sj h
 refine zz ?_
 refine lk [4,5] [12] 12 2 ?_
 exact lzz
theorem zwF {f:ze} {wire:Int} {r:Bool} (h:zlX f wire=some r):FnOk Tryz.prog 136 [.rc zf [0] f,kI wire] [kB r]:=by
 refine zC (E:=⟨[(4,kB r)],[]⟩) 16 Tryz.func136 rfl rfl rfl ⟨rfl,trivial⟩ (fun Xt=>?_)
 refine zp ?_
 unfold zlX at h
 refine jq [11] ?_
 obtain ⟨g,h_g,h⟩:=bnd h
 refine zW ⟨[(4,kB g)],[]⟩ ?_ ?_
 ·
  refine (rsl 3 [] 7 f.Repeated (fun hc1=>?_) (fun hc1=>?_))
  ·
   replace h_g:=iteT h_g hc1
   refine (rsl 4 [] 11 (wire==2) (fun hc2=>?_) (fun hc2=>?_))
   ·
    replace h_g:=iteT h_g hc2
    obtain ⟨rv,h_rv,h_g⟩:=bnd h_g
    obtain rfl:=sj h_g
    exact (rl 2 [1] 10 Tryz.call159 (zpp h_rv) rgg)
   replace h_g:=iteF h_g hc2
   obtain rfl:=sj h_g
   exact rgg
  replace h_g:=iteF h_g hc1
  obtain rfl:=sj h_g
  exact rgg
 obtain rfl:=sj h
 exact zz lzz
theorem zvF {k:Int} {wv:Int} {r:Int} (h:zkF k wv=some r):FnOk Tryz.prog 177 [kI k,kU wv] [kI r]:=by
 refine zC (E:=⟨[(4,kI r)],[]⟩) 29 Tryz.func177 rfl rfl rfl ⟨rfl,trivial⟩ (fun Xt=>?_)
 refine zp ?_
 unfold zkF at h
 refine jp ?_
 obtain ⟨rv,h_rv,h⟩:=bnd h
 refine jr (rl 1 [1] 9 Tryz.call178 (zoz h_rv) rf) ?_
 refine zW ⟨[(0,kI k),(1,kU wv),(5,kI rv.1),(19,kB ((rv.2 !=0)|| (rv.1 !=0)))],[]⟩ ?_ ?_
 ·
  refine (rsl 3 [] 16 (rv.2 !=0) (fun hc1=>?_) (fun hc1=>?_))
  · exact (rbl [] 19 true ((rv.2 !=0)|| (rv.1 !=0)) (by rw [hc1]<;>rfl))
  exact (rbl [] 19 (rv.1 !=0) ((rv.2 !=0)|| (rv.1 !=0)) (by rw [hc1]<;>rfl))
 rcases zm h with ⟨hc2,h⟩| ⟨hc2,h⟩
 ·
  refine jT hc2 ?_
  refine jp ?_
  obtain rfl:=sj h
  exact zz lzz
 refine jF hc2 ?_
 obtain ⟨rv2,h_rv2,h⟩:=bnd h
 refine jr (rl 2 [1] 9 Tryz.call107 (zmY h_rv2) rf) ?_
 obtain ⟨rv3,h_rv3,h⟩:=bnd h
 refine jr (rl 1 [1] 9 Tryz.call183 (zzk h_rv3) rf) ?_
 obtain rfl:=sj h
 exact zz lzz
theorem zyX {b:(List UInt8)} {r:Int} (h:znP b=some r):FnOk Tryz.prog 127 [.sl Rp.byte [0] b] [kI r]:=by
 refine zC (E:=⟨[(2,kI r)],[]⟩) 11 Tryz.func127 rfl rfl rfl ⟨rfl,trivial⟩ (fun Xt=>?_)
 refine zp ?_
 unfold znP at h
 refine jp ?_
 obtain ⟨rv,h_rv,h⟩:=bnd h
 refine jr (rl 1 [0] 9 Tryz.call160 (zAI h_rv) rf) ?_
 refine jp ?_
 obtain rfl:=sj h
 exact zz lzz
theorem zvE {k:Int} {b:(List UInt8)} {r:(Int×Int)} (h:zkE k b=some r):FnOk Tryz.prog 151 [kI k,.sl Rp.byte [0] b] [kU r.1,k8 r.2]:=by
 refine zC (E:=⟨[(4,kU r.1),(5,k8 r.2)],[]⟩) 22 Tryz.func151 rfl rfl rfl ⟨rfl,rfl,trivial⟩ (fun Xt=>?_)
 refine zp ?_
 unfold zkE at h
 refine jp ?_
 obtain ⟨rv,h_rv,h⟩:=bnd h
 refine jr (rl 2 [0] 9 Tryz.call173 (ztO h_rv) rf) ?_
 refine jp ?_
 rcases zm h with ⟨hc1,h⟩| ⟨hc1,h⟩
 ·
  refine jT hc1 ?_
  refine jp ?_
  obtain rfl:=sj h
  exact zz lzz
 refine jF hc1 ?_
 obtain ⟨rv2,h_rv2,h⟩:=bnd h
 refine jr (rl 2 [1] 9 Tryz.call107 (zmY h_rv2) rf) ?_
 obtain rfl:=sj h
 exact zz lzz
theorem zoP {sv:(List zh)} {r:Bool} (h:zfB sv=some r):FnOk Tryz.prog 17 [.sl zi [0] sv] [kB r]:=by
 refine zC (E:=⟨[(2,kB r)],[]⟩) 14 Tryz.func17 rfl rfl rfl ⟨rfl,trivial⟩ (fun Xt=>?_)
 refine zp ?_
 unfold zfB at h
 refine jp ?_
 obtain ⟨rv,h_rv,h⟩:=bnd h
 refine jr (rl 1 [0] 9 Tryz.call43 (zoN h_rv) rf) ?_
 refine jp ?_
 obtain rfl:=sj h
 exact zz lzz
theorem zoL {b:(List UInt8)} {r:Bool} (h:zfx b=some r):FnOk Tryz.prog 56 [.sl Rp.byte [0] b] [kB r]:=by
 refine zC (E:=⟨[(2,kB r)],[]⟩) 16 Tryz.func56 rfl rfl rfl ⟨rfl,trivial⟩ (fun Xt=>?_)
 refine zp ?_
 unfold zfx at h
 refine jp ?_
 obtain ⟨rv,h_rv,h⟩:=bnd h
 refine jr (rl 3 [0] 9 Tryz.call86 (zoK h_rv) rf) ?_
 refine jp ?_
 obtain rfl:=sj h
 exact zz lzz
theorem zsc {fuel:Nat} {x:zc} {r:zc} (h:ziW fuel x=some r):FnOk Tryz.prog 25 [.rc zd [0] x] [.ag [.own za 50 3 [0,4] r.Values,.own Rp.str 9 5 [] r.Unknown]]:=by
 refine zC (E:=⟨[(2,.ptr 2 0)],[⟨2,30,[.own za 50 3 [0,4] r.Values,.own Rp.str 9 5 [] r.Unknown]⟩]⟩) 9 Tryz.func25 rfl rfl rfl ⟨⟨_,_,rfl,rfl,rfl,⟨Tryz.isAgg30,Tryz.sizeOf30⟩⟩,trivial⟩ (fun Xt=>?_)
 refine zp ?_
 unfold ziW at h
 refine jr (ra 0 [.rc zd [0] x] rfl (zcb 17 [.sl za [0] x.Values,.sl Rp.str [0] x.Unknown] [0] rfl rfl rfl (by rw [zo]<;>rfl) rfl) rfl (rfl' [18])) ?_
 obtain ⟨rv,h_rv,h⟩:=bnd h
 refine jr (rc 1 rfl (zG.le (ins':=[(.tmp 3,.ag [.sl za [0] x.Values,.sl Rp.str [0] x.Unknown])]) (zae (args:=[.tmp 3]) [.rc zd [0] x] [0] 17 rfl Tryz.call48 (zom h_rv) rfl rfl rfl rfl rfl) ⟨⟨rfl,zaa zd [0] x [.sl za [0] x.Values,.sl Rp.str [0] x.Unknown] (by rw [zo]<;>rfl) rfl⟩,trivial⟩) rf) ?_
 rcases zm h with ⟨hc1,h⟩| ⟨hc1,h⟩
 ·
  refine jT hc1 ?_
  refine jr (ra 0 [] rfl (zeP [] [kN,kN] rfl zCY rfl) rfl rf) ?_
  obtain rfl:=sj h
  refine zz ?_
  refine lk [2] [18] 18 2 ?_
  refine zbX ⟨[(2,.ptr 2 0)],[⟨2,30,[kN,kN]⟩]⟩ (by kernel_rfl) ?_
  refine zdN 2 0 (.own za 50 3 [0,4] ((⟨[],[]⟩:zc):zc).Values) rfl rfl (zbv za 50 3 [0,4] rfl) ?_
  refine zdN 2 1 (.own Rp.str 9 5 [] ((⟨[],[]⟩:zc):zc).Unknown) rfl rfl (zbv Rp.str 9 5 [] rfl) ?_
  exact lzz
 refine jF hc1 ?_
 obtain ⟨rv2,h_rv2,h⟩:=bnd h
 refine jr (rc 1 rfl (zG.le (ins':=[(.tmp 7,.ag [.sl za [0] x.Values,.sl Rp.str [0] x.Unknown])]) (zae (args:=[.tmp 7]) [.rc zd [0] x] [0] 17 rfl Tryz.call51 (zvU h_rv2) rfl rfl rfl rfl rfl) ⟨⟨rfl,zaa zd [0] x [.sl za [0] x.Values,.sl Rp.str [0] x.Unknown] (by rw [zo]<;>rfl) rfl⟩,trivial⟩) rf) ?_
 obtain rfl:=sj h
 refine zz ?_
 refine lk [2] [18] 18 2 ?_
 refine lk [2] [2] 20 3 ?_
 refine lk [2] [2] 22 5 ?_
 refine lk [2] [2] 21 4 ?_
 exact lzz
theorem zlR {m:zh} {number:Int} {r:(Int×Bool)} (h:zfP m number=some r):FnOk Tryz.prog 72 [.rc zi [0] m,kI number] [kI r.1,kB r.2]:=by
 refine zC (E:=⟨[(4,kI r.1),(5,kB r.2)],[]⟩) 11 Tryz.func72 rfl rfl rfl ⟨rfl,rfl,trivial⟩ (fun Xt=>?_)
 refine zp ?_
 unfold zfP at h
 refine jr (ra 0 [.rc zi [0] m] rfl (zcb 11 [kS m.Name,.sl zf [0] m.Fields] [0] rfl rfl rfl rfl rfl) rfl (rfl' [909700])) ?_
 obtain ⟨rv,h_rv,h⟩:=bnd h
 refine jr (ra 1 [.ptr 909700 0] rfl (zCF (g:=97) [.tmp 3] [⟨909700,3,[kI number]⟩] [.ep (Rp.int .i64) [909700] number 0] rfl ⟨⟨rfl,rfl,rfl⟩,trivial⟩ rfl) rfl (rl 0 [0,909700] 10 Tryz.call96 (ziM h_rv) rf)) ?_
 obtain rfl:=sj h
 exact zz lzz
theorem zpK {k:Int} {l:(List Int)} {r:Bool} (h:zgh k l=some r):FnOk Tryz.prog 83 [kI k,.sl (Rp.int .u64) [0] l] [kB r]:=by
 refine zC (E:=⟨[(4,kB r)],[]⟩) 29 Tryz.func83 rfl rfl rfl ⟨rfl,trivial⟩ (fun Xt=>?_)
 refine zp ?_
 unfold zgh at h
 refine jp ?_
 refine jp ?_
 refine zA ?_
 obtain ⟨q,h_q,h⟩:=bnd h
 refine zal (fun s:Int=>zaR k l s) (fun s=>⟨[(0,kI k),(9,.sl (Rp.int .u64) [0] l),(10,kI (l.length:Int)),(11,kI s)],[]⟩) (fun o e a w=>match o with| (.inl v_)=>e= .exit 0∧Sx ⟨⟨29,[]⟩,Xt,false,#[]⟩ ⟨[],[]⟩ a w| (.inr v_)=>e= .ret∧Sx ⟨⟨29,[]⟩,Xt,false,#[]⟩ ⟨[(4,kB false)],[]⟩ a w) ?_ h_q lzz ?_
 ·
  clear h
  intro v o h
  refine zp ?_
  replace h:zaR k l v=some o:=h
  unfold zaR at h
  refine jp ?_
  rcases zm h with ⟨hc1,h⟩| ⟨hc1,h⟩
  ·
   refine jT hc1 ?_
   refine zA ?_
   obtain ⟨x,h_x,h⟩:=bnd h
   refine jr (ra 0 [.sl (Rp.int .u64) [0] l,kI v] rfl (zao rfl zld.el (zJ _ _ _) h_x) rfl rf) ?_
   obtain ⟨rv,h_rv,h⟩:=bnd h
   refine jr (rl 2 [1] 10 Tryz.call107 (zmY h_rv) rf) ?_
   refine zW ⟨[(0,kI k),(9,.sl (Rp.int .u64) [0] l),(10,kI (l.length:Int)),(11,kI v),(27,kB ((rv.2 !=0)|| (rv.1 !=x)))],[]⟩ ?_ ?_
   ·
    refine (rsl 3 [] 23 (rv.2 !=0) (fun hc2=>?_) (fun hc2=>?_))
    · exact (rbl [] 27 true ((rv.2 !=0)|| (rv.1 !=x)) (by rw [hc2]<;>rfl))
    exact (rbl [] 27 (rv.1 !=x) ((rv.2 !=0)|| (rv.1 !=x)) (by rw [hc2]<;>rfl))
   rcases zm h with ⟨hc3,h⟩| ⟨hc3,h⟩
   ·
    refine jT hc3 ?_
    refine jp ?_
    obtain rfl:=sj h
    exact zaZ lzz
   refine jF hc3 ?_
   refine zag ?_
   refine jp ?_
   obtain rfl:=sj h
   exact zL lzz
  refine jF hc1 ?_
  obtain rfl:=sj h
  exact zam rfl lzz
 rcases q with u| u2
 ·
  refine zaD _ rfl ?_
  refine jp ?_
  obtain rfl:=sj h
  exact zz lzz
 obtain rfl:=sj h
 exact zcK lzz
theorem zjx {fuel:Nat} {av:zc} {b:zc} {r:Bool} (h:zlt fuel av b=some r):FnOk Tryz.prog 22 [.rc zd [0] av,.rc zd [0] b] [kB r]:=by
 refine zC (E:=⟨[(4,kB r)],[]⟩) 12 Tryz.func22 rfl rfl rfl ⟨rfl,trivial⟩ (fun Xt=>?_)
 refine zp ?_
 unfold zlt at h
 refine jr (ra 0 [.rc zd [0] av] rfl (zcb 11 [.sl za [0] av.Values,.sl Rp.str [0] av.Unknown] [0] rfl rfl rfl (by rw [zo]<;>rfl) rfl) rfl (ra 0 [.rc zd [0] b] rfl (zcb 12 [.sl za [0] b.Values,.sl Rp.str [0] b.Unknown] [0] rfl rfl rfl (by rw [zo]<;>rfl) rfl) rfl rf)) ?_
 obtain ⟨g,h_g,h⟩:=bnd h
 refine zW ⟨[(4,kB g)],[]⟩ ?_ ?_
 ·
  obtain ⟨rv,h_rv,h_g⟩:=bnd h_g
  refine (rc 1 rfl (zG.le (ins':=[(.tmp 5,.ag [.sl za [0] av.Values,.sl Rp.str [0] av.Unknown])]) (zae (args:=[.tmp 5]) [.rc zd [0] av] [0] 11 rfl Tryz.call48 (zom h_rv) rfl rfl rfl rfl rfl) ⟨⟨rfl,zaa zd [0] av [.sl za [0] av.Values,.sl Rp.str [0] av.Unknown] (by rw [zo]<;>rfl) rfl⟩,trivial⟩) (rsl 1 [] 7 rv (fun hc1=>?_) (fun hc1=>?_)))
  ·
   replace h_g:=iteT h_g hc1
   obtain ⟨rv2,h_rv2,h_g⟩:=bnd h_g
   obtain rfl:=sj h_g
   exact (rc 2 rfl (zG.le (ins':=[(.tmp 8,.ag [.sl za [0] av.Values,.sl Rp.str [0] av.Unknown]),(.tmp 9,.ag [.sl za [0] b.Values,.sl Rp.str [0] b.Unknown])]) (zae (args:=[.tmp 8,.tmp 9]) [.rc zd [0] av,.rc zd [0] b] [0] 11 rfl Tryz.call50 (zyW h_rv2) rfl rfl rfl rfl rfl) ⟨⟨rfl,zaa zd [0] av [.sl za [0] av.Values,.sl Rp.str [0] av.Unknown] (by rw [zo]<;>rfl) rfl⟩,⟨rfl,zaa zd [0] b [.sl za [0] b.Values,.sl Rp.str [0] b.Unknown] (by rw [zo]<;>rfl) rfl⟩,trivial⟩) rgg)
  replace h_g:=iteF h_g hc1
  obtain rfl:=sj h_g
  exact rgg
 obtain rfl:=sj h
 exact zz lzz
end Go.Proofs.YtcbkcblkecmjnaaGreat
