/-
  The Go functions do what the plain functions say. No condition.
-/
import Derived.Test.YtaglemhabeipfaaGreatx2T
set_option autoImplicit true
set_option relaxedAutoImplicit true
namespace Go.Proofs.YtaglemhabeipfaaGreat
open Go.IntKind (i64 u64 u8)
open Tryz
open Go Go.RowKit
set_option linter.unusedVariables false
set_option maxRecDepth 100000
set_option maxHeartbeats 3200000
abbrev zMw:=(mput ([]:(List (Int×zw))) 1 (⟨[105,110,116,51,50],0⟩:zw))
abbrev zMx:=(mput zMw 2 (⟨[105,110,116,54,52],0⟩:zw))
abbrev zMy:=(mput zMx 3 (⟨[117,105,110,116,51,50],0⟩:zw))
abbrev zMz:=(mput zMy 4 (⟨[117,105,110,116,54,52],0⟩:zw))
abbrev zMA:=(mput zMz 5 (⟨[115,105,110,116,51,50],0⟩:zw))
abbrev zMB:=(mput zMA 6 (⟨[115,105,110,116,54,52],0⟩:zw))
abbrev zMC:=(mput zMB 7 (⟨[98,111,111,108],0⟩:zw))
abbrev zMD:=(mput zMC 8 (⟨[101,110,117,109],0⟩:zw))
abbrev zME:=(mput zMD 9 (⟨[102,105,120,101,100,51,50],5⟩:zw))
abbrev zJk:=(mput zME 10 (⟨[115,102,105,120,101,100,51,50],5⟩:zw))
abbrev zJl:=(mput zJk 11 (⟨[102,108,111,97,116],5⟩:zw))
abbrev zJm:=(mput zJl 12 (⟨[102,105,120,101,100,54,52],1⟩:zw))
abbrev zJn:=(mput zJm 13 (⟨[115,102,105,120,101,100,54,52],1⟩:zw))
abbrev zEt:=(mput zJn 14 (⟨[100,111,117,98,108,101],1⟩:zw))
theorem zqN (h:zln=some r):wL 168 [] [.om wI zaH 2 [] r]:=by
 refine fi 20 func168 fun Xt=>?_
 unfold zln at h;refine jp (jr (rc 0 rfl (zlp (rk:=wI) (rv:=zaH) 12 rfl) (rc 0 rfl (zaj (r:=zaH) [kS [105,110,116,51,50],kI 0] [] (⟨[105,110,116,51,50],0⟩:zw) rfl zgP rfl rfl) (rms (D:=[]) 0 [] 12 [] ([]:(List (Int×zw))) 1 (⟨[105,110,116,51,50],0⟩:zw) [] zeS (zdx rfl rfl) (zcv rfl) (rc 0 rfl (zaj (r:=zaH) [kS [105,110,116,54,52],kI 0] [] (⟨[105,110,116,54,52],0⟩:zw) rfl zgP rfl rfl) (rms (D:=[]) 0 [] 12 [] zMw 2 (⟨[105,110,116,54,52],0⟩:zw) [] zeS (zdx rfl rfl) (zcv rfl) (rc 0 rfl (zaj (r:=zaH) [kS [117,105,110,116,51,50],kI 0] [] (⟨[117,105,110,116,51,50],0⟩:zw) rfl zgP rfl rfl) (rms (D:=[]) 0 [] 12 [] zMx 3 (⟨[117,105,110,116,51,50],0⟩:zw) [] zeS (zdx rfl rfl) (zcv rfl) (rc 0 rfl (zaj (r:=zaH) [kS [117,105,110,116,54,52],kI 0] [] (⟨[117,105,110,116,54,52],0⟩:zw) rfl zgP rfl rfl) (rms (D:=[]) 0 [] 12 [] zMy 4 (⟨[117,105,110,116,54,52],0⟩:zw) [] zeS (zdx rfl rfl) (zcv rfl) (rc 0 rfl (zaj (r:=zaH) [kS [115,105,110,116,51,50],kI 0] [] (⟨[115,105,110,116,51,50],0⟩:zw) rfl zgP rfl rfl) (rms (D:=[]) 0 [] 12 [] zMz 5 (⟨[115,105,110,116,51,50],0⟩:zw) [] zeS (zdx rfl rfl) (zcv rfl) (rc 0 rfl (zaj (r:=zaH) [kS [115,105,110,116,54,52],kI 0] [] (⟨[115,105,110,116,54,52],0⟩:zw) rfl zgP rfl rfl) (rms (D:=[]) 0 [] 12 [] zMA 6 (⟨[115,105,110,116,54,52],0⟩:zw) [] zeS (zdx rfl rfl) (zcv rfl) (rc 0 rfl (zaj (r:=zaH) [kS [98,111,111,108],kI 0] [] (⟨[98,111,111,108],0⟩:zw) rfl zgP rfl rfl) (rms (D:=[]) 0 [] 12 [] zMB 7 (⟨[98,111,111,108],0⟩:zw) [] zeS (zdx rfl rfl) (zcv rfl) (rc 0 rfl (zaj (r:=zaH) [kS [101,110,117,109],kI 0] [] (⟨[101,110,117,109],0⟩:zw) rfl zgP rfl rfl) (rms (D:=[]) 0 [] 12 [] zMC 8 (⟨[101,110,117,109],0⟩:zw) [] zeS (zdx rfl rfl) (zcv rfl) (rc 0 rfl (zaj (r:=zaH) [kS [102,105,120,101,100,51,50],kI 5] [] (⟨[102,105,120,101,100,51,50],5⟩:zw) rfl zgP rfl rfl) (rms (D:=[]) 0 [] 12 [] zMD 9 (⟨[102,105,120,101,100,51,50],5⟩:zw) [] zeS (zdx rfl rfl) (zcv rfl) (rc 0 rfl (zaj (r:=zaH) [kS [115,102,105,120,101,100,51,50],kI 5] [] (⟨[115,102,105,120,101,100,51,50],5⟩:zw) rfl zgP rfl rfl) (rms (D:=[]) 0 [] 12 [] zME 10 (⟨[115,102,105,120,101,100,51,50],5⟩:zw) [] zeS (zdx rfl rfl) (zcv rfl) (rc 0 rfl (zaj (r:=zaH) [kS [102,108,111,97,116],kI 5] [] (⟨[102,108,111,97,116],5⟩:zw) rfl zgP rfl rfl) (rms (D:=[]) 0 [] 12 [] zJk 11 (⟨[102,108,111,97,116],5⟩:zw) [] zeS (zdx rfl rfl) (zcv rfl) (rc 0 rfl (zaj (r:=zaH) [kS [102,105,120,101,100,54,52],kI 1] [] (⟨[102,105,120,101,100,54,52],1⟩:zw) rfl zgP rfl rfl) (rms (D:=[]) 0 [] 12 [] zJl 12 (⟨[102,105,120,101,100,54,52],1⟩:zw) [] zeS (zdx rfl rfl) (zcv rfl) (rc 0 rfl (zaj (r:=zaH) [kS [115,102,105,120,101,100,54,52],kI 1] [] (⟨[115,102,105,120,101,100,54,52],1⟩:zw) rfl zgP rfl rfl) (rms (D:=[]) 0 [] 12 [] zJm 13 (⟨[115,102,105,120,101,100,54,52],1⟩:zw) [] zeS (zdx rfl rfl) (zcv rfl) (rc 0 rfl (zaj (r:=zaH) [kS [100,111,117,98,108,101],kI 1] [] (⟨[100,111,117,98,108,101],1⟩:zw) rfl zgP rfl rfl) (rms (D:=[]) 0 [] 12 [] zJn 14 (⟨[100,111,117,98,108,101],1⟩:zw) [] zeS (zdx rfl rfl) (zcv rfl) (rc 0 rfl (zaj (r:=zaH) [kS [115,116,114,105,110,103],kI 2] [] (⟨[115,116,114,105,110,103],2⟩:zw) rfl zgP rfl rfl) (rms (D:=[]) 0 [] 12 [] zEt 15 (⟨[115,116,114,105,110,103],2⟩:zw) [] zeS (zdx rfl rfl) (zcv rfl) (rc 0 rfl (zaj (r:=zaH) [kS [98,121,116,101,115],kI 2] [] (⟨[98,121,116,101,115],2⟩:zw) rfl zgP rfl rfl) (rms (D:=[]) 0 [] 12 [] (mput zEt 15 (⟨[115,116,114,105,110,103],2⟩:zw)) 16 (⟨[98,121,116,101,115],2⟩:zw) [] zeS (zdx rfl rfl) (zcv rfl) (rc 0 rfl (zaj (r:=zaH) [kS [109,101,115,115,97,103,101],kI 2] [] (⟨[109,101,115,115,97,103,101],2⟩:zw) rfl zgP rfl rfl) (rms (D:=[]) 0 [] 12 [] (mput (mput zEt 15 (⟨[115,116,114,105,110,103],2⟩:zw)) 16 (⟨[98,121,116,101,115],2⟩:zw)) 17 (⟨[109,101,115,115,97,103,101],2⟩:zw) [] zeS (zdx rfl rfl) (zcv rfl) rf))))))))))))))))))))))))))))))))))) ?_);cases h;exact zG (lks [] [(12,2)] lzz)
theorem zmb (h:zfC c=some r):wL 203 [k8 c] [kB r]:=by
 refine fi 9 func203 fun Xt=>?_
 unfold zfC at h;refine jp (jg [] [] [(2,kB ((decide (c>=48))&&(decide (c<=57))))] ?_ ?_)
 ·refine (rsl 3 [] 5 (decide (c>=48)) ?_ ?_)<;>intro uP
  · exact (rbl [] 2 (decide (c<=57)) rfl (by grind))
  exact (rbl [] 2 false rfl (by grind))
 cases h;exact zG lzz
theorem zrt (h:zgl c=some r):wL 204 [k8 c] [kB r]:=by
 refine fi 21 func204 fun Xt=>?_
 unfold zgl at h;refine jp (jg [] [] [(2,kB (if (decide (c>=97)) then ((decide (c<=122))|| (if (decide (c>=65)) then ((decide (c<=90))|| (c==95)) else (c==95))) else (if (decide (c>=65)) then ((decide (c<=90))|| (c==95)) else (c==95))))] ?_ ?_)
 ·refine (rsl 3 [] 5 (decide (c>=97)) ?_ ?_)<;>intro uP
  ·refine (rsl 4 [] 9 (decide (c<=122)) ?_ ?_)<;>intro uT
   · exact (rbl [] 2 true rfl (by grind))
   refine (rsl 3 [] 12 (decide (c>=65)) ?_ ?_)<;>intro uV
   ·refine (rsl 5 [] 17 (decide (c<=90)) ?_ ?_)<;>intro uY
    · exact (rbl [] 2 true rfl (by grind))
    exact (rbl [] 2 (c==95) rfl (by grind))
   exact (rbl [] 2 (c==95) rfl (by grind))
  refine (rsl 7 [] 12 (decide (c>=65)) ?_ ?_)<;>intro ve
  ·refine (rsl 5 [] 17 (decide (c<=90)) ?_ ?_)<;>intro vh
   · exact (rbl [] 2 true rfl (by grind))
   exact (rbl [] 2 (c==95) rfl (by grind))
  exact (rbl [] 2 (c==95) rfl (by grind))
 cases h;exact zG lzz
theorem zru (h:zgm n=some r):wL 170 [kI n] [kB r]:=by
 refine fi 17 func170 fun Xt=>?_
 unfold zgm at h;refine jp (jg [] [] [(2,kB ((decide (n>=1))&&((decide (n<=536870911))&&((decide (n<19000))|| (decide (n>19999))))))] ?_ ?_)
 ·refine (rsl 3 [] 5 (decide (n>=1)) ?_ ?_)<;>intro uP
  ·refine (rsl 4 [] 9 (decide (n<=536870911)) ?_ ?_)<;>intro uT
   ·refine (rsl 3 [] 12 (decide (n<19000)) ?_ ?_)<;>intro uV
    · exact (rbl [] 2 true rfl (by grind))
    exact (rbl [] 2 (decide (n>19999)) rfl (by grind))
   exact (rbl [] 2 false rfl (by grind))
  exact (rbl [] 2 false rfl (by grind))
 cases h;exact zG lzz
theorem zlB (h:zcN sv v=some r):wL 205 [.sl wI [0] sv,kI v] [kI r]:=by
 refine fi 19 func205 fun Xt=>?_
 unfold zcN at h;refine jp (jp (zx (jb h fun q uW h=>jL uW [0,1,7] [] (fun s=>[(8,kI s)]) (fun| (.inl v_)=> .x 0 ⟨[],[]⟩| (.inr v_)=> .r ⟨[(4,kI v_)],[]⟩) ?_ lzz ?_)))
 ·clear h;intro v2 o h;unfold zbf at h;refine jp (jI h ?_ ?_)<;>intro uP h
  ·refine zx (jp (jb h fun x uZ h=>jr (rx 3 [0] zKR.el uZ rfl rfl rf) (jI h ?_ ?_)))<;>intro uT h
   ·cases h;exact jz'
   refine zam ?_;cases h;exact jy
  cases h;exact zaI rfl lzz
 rcases q with u| u2
 ·refine zbo _ rfl ?_;cases h;exact jz
 obtain rfl:=(sj h);exact zgz lzz
theorem zow (h:zeM c f=some r):wL 173 [.ag [kI c.size,.sl wI [0] c.kinds,.mp zL Rp.bool [0] c.names,.mp zh Rp.bool [0] c.numbers],.rc zc [0] f] [kB r]:=by
 refine fi 21 func173 fun Xt=>?_
 unfold zeM at h;refine jq [11,12] (jp (jI h ?_ ?_))<;>intro uP h
 ·refine jg [] [] [(4,kB ((decide (f.Of>=0))&&(decide (f.Of<c.size))))] ?_ ?_
  ·refine (rsl 4 [] 11 (decide (f.Of>=0)) ?_ ?_)<;>intro uT
   · exact (rbl [] 4 (decide (f.Of<c.size)) rfl (by grind))
   exact (rbl [] 4 false rfl (by grind))
  cases h;exact zG lzz
 cases h;exact jz
theorem ziK (h:zfP b=some r):wL 182 [.sl Rp.byte [0] b] [kU r.1,kI r.2.1,k8 r.2.2]:=by
 refine fi 38 func182 fun Xt=>?_
 unfold zfP at h;refine jp (jb h fun v vc h=>jr (ra 4 [.sl Rp.byte [0] b,kI (if (10:Int)<(b.length:Int) then 10 else (b.length:Int))] rfl (zgA none (some (kI (if (10:Int)<(b.length:Int) then 10 else (b.length:Int)))) rfl zcd.el (zbI _ _ _) ⟨rfl,rfl⟩ ⟨rfl,rfl⟩ vc) rfl rf) (zx (jb h fun q uW h=>jL uW [11,12] [] (fun s=>[(2,kU s.1),(13,kI s.2)]) (fun| (.inl v_)=> .x 0 ⟨[],[]⟩| (.inr v_)=> .r ⟨[(2,kU v_.1),(3,kI v_.2.1),(4,k8 v_.2.2)],[]⟩) ?_ lzz ?_)))
 ·clear h;intro s o h;obtain ⟨wv,v2⟩:=s;replace h:zeb v wv v2=some o:=h;unfold zeb at h;refine jp (jI h ?_ ?_)<;>intro uP h
  ·refine zx (jb h fun x uZ h=>jr (rx 1 [0] zcd.el uZ rfl rfl rf) (jg [2,5,6,11,12,13] [] [(23,kB ((v2==9)&&(decide ((x.toNat:Int)>1))))] ?_ ?_))
   ·refine (rsl 3 [] 20 (v2==9) ?_ ?_)<;>intro uT
    · exact (rbl [] 23 (decide ((x.toNat:Int)>1)) rfl (by grind))
    exact (rbl [] 23 false rfl (by grind))
   refine jI h ?_ ?_<;>intro uV h
   ·cases h;exact jz'
   refine jb h fun v4 vt h=>jr (ra 6 [kU (u64.wrap (andI .u8 (x.toNat:Int) 127)),kI (i64.wrap (7*v2))] rfl (zAE rfl vt) rfl rf) (jp (jI h ?_ ?_))<;>intro uY h
   ·cases h;exact jz'
   refine zam ?_;cases h;exact jy
  cases h;exact zaI rfl lzz
 rcases q with u| u2
 ·refine zbo _ rfl ?_;cases h;exact jz
 cases h;exact zgz lzz
theorem ztW (h:zhx wire=some r):wL 209 [kI wire] [kB r]:=by
 refine fi 9 func209 fun Xt=>?_
 unfold zhx at h;refine jp (jp (zx (jp (jI h ?_ ?_))))<;>intro uP h
 ·refine jI h ?_ ?_<;>intro uT h
  ·refine jp ?_;obtain rfl:=(sj h);exact zG lzz
  refine zam (jp ?_);obtain rfl:=(sj h);exact zG lzz
 refine jp (jI h ?_ ?_)<;>intro uV h
 ·refine jI h ?_ ?_<;>intro uY h
  ·refine jp ?_;obtain rfl:=(sj h);exact zG lzz
  refine zam (jp ?_);obtain rfl:=(sj h);exact zG lzz
 refine jp (jI h ?_ ?_)<;>intro ve h
 ·refine jI h ?_ ?_<;>intro vh h
  ·refine jp ?_;obtain rfl:=(sj h);exact zG lzz
  refine zam (jp ?_);obtain rfl:=(sj h);exact zG lzz
 refine jp (jI h ?_ ?_)<;>intro vq h
 ·refine jp ?_;obtain rfl:=(sj h);exact zG lzz
 refine zam (jp ?_);obtain rfl:=(sj h);exact zG lzz
theorem zvb (h:ziL f v=some r):wL 190 [.rc zc [0] f,.ep wI [0] v 0] [kB r]:=by
 refine fi 8 func190 fun Xt=>?_
 unfold ziL at h;refine jq [11] ?_;cases h;exact jz
theorem zki (h:zga k=some r):wL 185 [kI k] [kI r.1,k8 r.2]:=by
 refine fi 22 func185 fun Xt=>?_
 unfold zga at h;refine jp (jp (zx (jp (jb h fun p vm h=>jn (.n ⟨[(4,kI k),(5,kB p)],[]⟩) ?_ ?_))))
 ·replace h:=vm;refine jI h ?_ ?_<;>intro uP h
  ·cases h;exact zaJ lzz
  refine jp (jI h ?_ ?_)<;>intro uT h
  ·cases h;exact zaJ lzz
  refine jp (jI h ?_ ?_)<;>intro uV h
  ·cases h;exact zaJ lzz
  refine jp (jI h ?_ ?_)<;>intro uY h
  ·cases h;exact zaJ lzz
  refine jp (jI h ?_ ?_)<;>intro ve h
  ·cases h;exact zaJ lzz
  refine jp (jI h ?_ ?_)<;>intro vh h
  ·cases h;exact zaJ lzz
  refine jp (jI h ?_ ?_)<;>intro vq h
  ·cases h;exact zaJ lzz
  cases h;exact jy
 refine ziq (jI h ?_ ?_)<;>intro vu h
 ·cases h;exact jz
 refine jp (jb h fun p2 vB h=>jn (.n ⟨[(4,kI k),(14,kB p2)],[]⟩) ?_ ?_)
 ·replace h:=vB;refine jI h ?_ ?_<;>intro vx h
  ·cases h;exact zaJ lzz
  refine jp (jI h ?_ ?_)<;>intro vC h
  ·cases h;exact zaJ lzz
  cases h;exact jy
 refine ziq (jI h ?_ ?_)<;>intro vD h
 ·cases h;exact jz
 refine jp (jI h ?_ ?_)<;>intro vE h
 ·refine jI h ?_ ?_<;>intro vv h
  ·cases h;exact jz
  refine zam ?_;cases h;exact jz
 refine jp (jI h ?_ ?_)<;>intro vy h
 ·refine jI h ?_ ?_<;>intro we h
  ·cases h;exact jz
  refine zam ?_;cases h;exact jz
 refine jp (jI h ?_ ?_)<;>intro wh h
 ·cases h;exact jz
 refine zam ?_;cases h;exact jz
theorem zqI (h:zjb wv=some r):wL 212 [kU wv] [.lf (.int .u32 r)]:=by
 refine fi 5 func212 fun Xt=>?_
 unfold zjb at h;refine jp ?_;cases h;exact jz
theorem zvW (h:zjG n=some r):wL 210 [.lf (.int .i32 n)] [kU r]:=by
 refine fi 6 func210 fun Xt=>?_
 unfold zjG at h;refine jp ?_;cases h;exact jz
theorem zyf (h:znA wv=some r):wL 213 [kU wv] [kU r]:=by
 refine fi 5 func213 fun Xt=>?_
 unfold znA at h;refine jp ?_;cases h;exact jz
theorem zun (h:zmx wv=some r):wL 187 [kU wv] [kI r]:=by
 refine fi 13 func187 fun Xt=>?_
 unfold zmx at h;refine jp (jp (jr (ra 1 [kU wv,kU 7] rfl (zit rfl rfl) rfl rf) (zx (jb h fun q uW h=>jL uW [] [] (fun s=>[(0,kU s.1),(3,kI s.2)]) (fun o=> .x 0 ⟨[(3,kI o)],[]⟩) ?_ lzz ?_))))
 ·clear h;intro s o h;obtain ⟨wY,n⟩:=s;replace h:zhQ wY n=some o:=h;unfold zhQ at h;refine jp (jI h ?_ ?_)<;>intro uP h
  ·refine zx (jp (zam (jr (ra 1 [kU wY,kU 7] rfl (zit rfl rfl) rfl rf) ?_)));cases h;exact zaJ lzz
  cases h;exact zaI rfl lzz
 refine zbo _ rfl (jp ?_);obtain rfl:=(sj h);exact zG lzz
theorem zDt (h:zsX c=some r):wL 221 [k8 c] [kI r.1,.lf (.int .u32 r.2)]:=by
 refine fi 31 func221 fun Xt=>?_
 unfold zsX at h;refine jp (zx (jr (ra 1 [k8 c,kU 7] rfl (zit rfl rfl) rfl rf) (jI h ?_ ?_)))<;>intro uP h
 ·cases h;exact jz
 refine jr (ra 1 [k8 c,kU 5] rfl (zit rfl rfl) rfl rf) (jI h ?_ ?_)<;>intro uT h
 ·cases h;exact jz
 refine jr (ra 1 [k8 c,kU 4] rfl (zit rfl rfl) rfl rf) (jI h ?_ ?_)<;>intro uV h
 ·cases h;exact jz
 refine jr (ra 1 [k8 c,kU 3] rfl (zit rfl rfl) rfl rf) (jI h ?_ ?_)<;>intro uY h
 ·cases h;exact jz
 refine zam ?_;cases h;exact jz
theorem zDs (h:znm wv=some r):wL 222 [.lf (.int .u32 wv)] [kI r]:=by
 refine fi 22 func222 fun Xt=>?_
 unfold znm at h;refine jp (zx (jr (ra 1 [.lf (.int .u32 wv),kU 7] rfl (zit rfl rfl) rfl rf) (jI h ?_ ?_)))<;>intro uP h
 ·cases h;exact jz
 refine jr (ra 1 [.lf (.int .u32 wv),kU 11] rfl (zit rfl rfl) rfl rf) (jI h ?_ ?_)<;>intro uT h
 ·cases h;exact jz
 refine jr (ra 1 [.lf (.int .u32 wv),kU 11] rfl (zit rfl rfl) rfl rf) (jI h ?_ ?_)<;>intro uV h
 ·cases h;exact jz
 refine jr (ra 1 [.lf (.int .u32 wv),kU 16] rfl (zit rfl rfl) rfl rf) (jI h ?_ ?_)<;>intro uY h
 ·cases h;exact jz
 refine jp (jI h ?_ ?_)<;>intro ve h
 ·cases h;exact jz
 refine zam ?_;cases h;exact jz
theorem zAg (h:zmy b=some r):wL 217 [.sl Rp.byte [0] b] [kU r]:=by
 refine fi 26 func217 fun Xt=>?_
 unfold zmy at h;refine jp (jp (jb h fun v vc h=>jr (ra 4 [.sl Rp.byte [0] b,kI (if (8:Int)<(b.length:Int) then 8 else (b.length:Int))] rfl (zgA none (some (kI (if (8:Int)<(b.length:Int) then 8 else (b.length:Int)))) rfl zcd.el (zbI _ _ _) ⟨rfl,rfl⟩ ⟨rfl,rfl⟩ vc) rfl rf) (zx (jb h fun q uW h=>jL uW [10,11] [] (fun s=>[(3,kU s.1),(12,kI s.2)]) (fun o=> .x 0 ⟨[(3,kU o)],[]⟩) ?_ lzz ?_))))
 ·clear h;intro s o h;obtain ⟨wv,v2⟩:=s;replace h:zfR v wv v2=some o:=h;unfold zfR at h;refine jp (jI h ?_ ?_)<;>intro uP h
  ·refine zx (jb h fun x uZ h=>jr (rx 1 [0] zcd.el uZ rfl rfl rf) (jb h fun v3 vf h=>jr (ra 5 [kU (u64.wrap (x.toNat:Int)),kI (i64.wrap (8*v2))] rfl (zAE rfl vf) rfl rf) (zam ?_)));cases h;exact jy
  cases h;exact zaI rfl lzz
 refine zbo _ rfl (jp ?_);obtain rfl:=(sj h);exact zG lzz
theorem zvU (h:zjE wv n=some r):wL 206 [kU wv,kI n] [.own Rp.byte 5 2 [] r]:=by
 refine fi 26 func206 fun Xt=>?_
 unfold zjE at h;refine jp (jb h fun v vc h=>jr (ra 3 [kI (if (8:Int)<(if n<0 then 0 else n) then 8 else (if n<0 then 0 else n)),kI (if (8:Int)<(if n<0 then 0 else n) then 8 else (if n<0 then 0 else n))] rfl (zsi 12 rfl zcd rfl vc) rfl rf) (jp (zx (jb h fun q uW h=>jL uW [0,12] [] (fun s=>[(5,.own Rp.byte 5 12 [] s.1),(13,kI s.2)]) (fun o=> .x 0 ⟨[(5,.own Rp.byte 5 12 [] o)],[]⟩) ?_ lzz ?_))))
 ·clear h;intro s o h;obtain ⟨b,v2⟩:=s;replace h:zdO v wv b v2=some o:=h;unfold zdO at h;refine jp (jI h ?_ ?_)<;>intro uP h
  ·refine zx (jp (jb h fun v3 vf h=>jb h fun x uZ h=>jb h fun y2 vF h=>jr (ra 5 [kU wv,kI (i64.wrap (8*v2))] rfl (zit rfl vf) rfl (ra 1 [.own Rp.byte 5 12 [] b,kI v2] rfl (zwC rfl zcd.el uZ) rfl (rkl 0 [] ⟨[(0,kU wv),(5,.own Rp.byte 5 12 [] b),(12,kI (v.length:Int)),(13,kI v2),(22,k8 (u8.wrap v3)),(23,.ptr 12 (Int.toNat v2*Rp.byte.size))],[]⟩ (zAW (r:=Rp.byte) (e:=5) (C:=[]) (xs:=b) [5] (Int.toNat v2) 0 x y2 [] rfl rfl rfl rfl rfl rfl sizeOf5 rfl (by kernel_rfl) rfl (zrU uZ) rfl (zKi vF _) rfl rf)))) (zam ?_)));cases h;exact jy
  cases h;exact zaI rfl lzz
 refine zbo _ rfl (jp ?_);obtain rfl:=(sj h);exact zG (lks [] [(12,2)] lzz)
theorem zDk (h:zpA t=some r):wL 207 [.rc zbN [0] t] [kU r]:=by
 refine fi 11 func207 fun Xt=>?_
 unfold zpA at h;refine jq [11] (jr (ra 3 [kU (u64.wrap t.Number),kU 3] rfl (zAE rfl rfl) rfl rf) ?_);cases h;exact zG lzz
theorem zkE (h:zcx n=some r):wL 105 [kN,kI n] [.own Rp.byte 5 2 [] r]:=by
 refine fi 27 func105 fun Xt=>?_
 unfold zcx at h;refine jp (jp (jI h ?_ ?_))<;>intro uP h
 · exact absurd h nofun
 refine jr (ra 2 [kN] rfl (zze rfl underlying24) rfl rf) (jp (jI h ?_ ?_))<;>intro uT h
 ·refine jb h fun v vc h=>jb h fun v2 vi h=>jr (ra 2 [kN] rfl (zze rfl underlying24) rfl (ra 0 [kN,kI 0] rfl (zHy rfl zcd.el) rfl (ra 1 [kN,kI (i64.wrap (n - (i64.wrap (0 - 0))))] rfl (zLw 12 rfl underlying3 zcd rfl vc) rfl (ra 2 [.own Rp.byte 5 12 [] v,kI 0] rfl (zAD rfl zcd.el vi) rfl rf)))) (jp ?_);obtain rfl:=(sj h);exact zG (lks [] [(12,2)] lzz)
 refine jp ?_;cases h;exact zG lw
theorem zNc:zMn prog 145 5:=by
  intro w s u n m i cs ds hs hu hap h1s h1u hin hlim;have hT:ElT prog 24 5 1 1:=zcd.el;have hcl:cs.length=n:=by have:=hs.1;omega
  have hdl:ds.length=m:=by have:=hu.1;omega
  obtain ⟨A,c,hsf,hnc,hcm⟩:=zAP hs;obtain ⟨B,c2,huf,hmc,hcm2⟩:=zAP hu;have hml:(maxLen:Nat)=9223372036854775807:=rfl;refine zEb 6 func145 rfl rfl ?_;have e0:Ev ⟨#[s,.int .i64 (i:Int),u]++Array.replicate (f145.ntmps - 3) undef,[]⟩ 95 [(0,s),(1,.int .i64 (i:Int)),(2,u)]:=Ev.three _ _ _ (95 - 3);refine zeR (zaY ?_);refine wk e0 rfl rfl rfl (zgY rfl rfl) fun a e=>?_
  refine zhs (zeR (zaY ?_));refine wk e rfl rfl rfl (zaL rfl (e.at rfl)) fun a e=>?_
  refine wk e rfl rfl rfl (zaL rfl (e.at rfl)) fun a e=>?_
  refine wk e rfl rfl rfl (zFE rfl hT ((e.at rfl).trans hsf) (e.at rfl) hin hnc) fun a e=>?_
  refine zhs (zeR (zaY ?_));refine wk e rfl rfl rfl (zaL rfl (e.at rfl)) fun a e=>?_
  refine wk e rfl rfl rfl (zIN rfl ((e.at rfl).trans huf) hT.u) fun a e=>?_
  refine wk e rfl rfl rfl (zgY rfl (e.at rfl)) fun a e=>?_
  refine zhs (zeR (zeR (zaY ?_)));refine wk e rfl rfl rfl (zaL rfl (e.at rfl)) fun a e=>?_
  refine wk e rfl rfl rfl (zFF (j:=0) rfl (e.at rfl) rfl) fun a e=>?_
  refine zhs ?_;have e:=e.pick [(0,s),(1,.int .i64 (i:Int)),(2,u),(7,.int .i64 (m:Int)),(16,.bool (decide (m=0)))] ⟨rfl,rfl,rfl,rfl,rfl,trivial⟩;rcases pd m with hm0| hm
  · refine ziO ((e.at rfl).trans (congrArg Value.bool (xV hm0))) (zeR (zaY ?_));refine wk e rfl rfl rfl (zaL rfl (e.at rfl)) fun a e=>?_
    refine wk e rfl rfl rfl (zgY rfl (e.at rfl)) fun a e=>?_
    refine zhs (zxR ?_);have hd0:ds=[]:=yx (by omega);refine ⟨rfl,e.defers,?_⟩;rw [show a.tmps.getD 6 undef=s from e.at rfl];refine ⟨by rw [hsf];rfl,?_,⟨rfl,rfl,rfl,xE _,fun _ _ _=>rfl⟩,.inl rfl⟩;rw [hm0,hd0,yD,xW,qx];exact hs
  refine zjC ((e.at rfl).trans (congrArg Value.bool (ye (by omega)))) (zvH ?_);refine zeR (zaY ?_);refine wk e rfl rfl rfl (zaL rfl (e.at rfl)) fun a e=>?_
  refine wk e rfl rfl rfl (zIN rfl ((e.at rfl).trans hsf) hT.u) fun a e=>?_
  refine wk e rfl rfl rfl (zgY rfl (e.at rfl)) fun a e=>?_
  refine zhs (zeR (zeR (zaY ?_)));refine wk e rfl rfl rfl (zaL rfl (e.at rfl)) fun a e=>?_
  refine wk e rfl rfl rfl (zaL rfl (e.at rfl)) fun a e=>?_
  refine wk e rfl rfl rfl (zFF rfl (e.at rfl) (e.at rfl)) fun a e=>?_
  refine zhs ?_;have e:=e.pick [(0,s),(1,.int .i64 (i:Int)),(2,u),(7,.int .i64 (m:Int)),(8,.int .i64 (n:Int)),(22,.bool (decide (i=n)))] ⟨rfl,rfl,rfl,rfl,rfl,rfl,trivial⟩;by_cases hi0:i=n
  · refine ziO ((e.at rfl).trans (congrArg Value.bool (xV hi0))) (zeR (zaY ?_));refine wk e rfl rfl rfl (zaL rfl (e.at rfl)) fun a e=>?_
    refine wk e rfl rfl rfl (zaL rfl (e.at rfl)) fun a e=>?_
    refine zMN e rfl rfl rfl (zMX rfl hT (e.at rfl) (e.at rfl) hs hu h1u hlim) fun z a hz e=>?_
    refine wk e rfl rfl rfl (zgY rfl (e.at rfl)) fun a e=>?_
    refine zhs (zxR ?_);obtain ⟨hz1,hz2,hz3⟩:=hz;refine ⟨rfl,e.defers,?_⟩;rw [show a.tmps.getD 6 undef=z.1 from e.at rfl];refine ⟨by obtain ⟨A',c',h',_⟩:=zAP hz1;rw [h'];rfl,?_,hz2,hz3⟩;rw [hi0,<-hcl,pT,pw,xW,hcl];exact hz1
  refine zjC ((e.at rfl).trans (congrArg Value.bool (ye hi0))) (zvH ?_);have wP:i<n:=by omega
  refine zeR (zeR (zaY ?_));refine wk e rfl rfl rfl (zaL rfl (e.at rfl)) fun a e=>?_
  refine wk e rfl rfl rfl (zaL rfl (e.at rfl)) fun a e=>?_
  refine wk e rfl rfl rfl (zpT rfl (e.at rfl) (e.at rfl) (by omega)) fun a e=>?_
  refine wk e rfl rfl rfl (zaL rfl (e.at rfl)) fun a e=>?_
  refine wk e rfl rfl rfl (zMY rfl ((e.at rfl).trans hsf) hT.u) fun a e=>?_
  refine wk e rfl rfl rfl (zLe rfl (e.at rfl) (e.at rfl)) fun a e=>?_
  refine zhs ?_;have e:=e.pick [(0,s),(1,.int .i64 (i:Int)),(2,u),(7,.int .i64 (m:Int)),(8,.int .i64 (n:Int)),(31,.bool (decide (c<n+m)))] ⟨rfl,rfl,rfl,rfl,rfl,rfl,trivial⟩;obtain ⟨g,wX,ka,hg,_,hh,_,_,hcs,htake⟩:∃g wX ka,s= .slice (some ⟨g,0,none⟩) n wX/\0<=g/\w.heap[g]? =some (.cells ka 5 (0,0))/\n<=wX/\wX<=maxLen/\ka.size=wX*1/\ka.toList.take (n*1)=cs:=by
    rcases hs.2 with ⟨_,h0⟩| h
    · omega
    · exact h
  obtain ⟨gu,cap2,cur2,hgu,_,hhu,_,_,hcs2,htake2⟩:∃g wX ka,u= .slice (some ⟨g,0,none⟩) m wX/\0<=g/\w.heap[g]? =some (.cells ka 5 (0,0))/\m<=wX/\wX<=maxLen/\ka.size=wX*1/\ka.toList.take (m*1)=ds:=by
    rcases hu.2 with ⟨_,h0⟩| h
    · omega
    · exact h
  obtain rfl:wX=c:=by rw [hsf] at hg;cases hg;rfl
  rw [y8] at hcs hcs2 htake htake2;have hglt:g<w.heap.size:=(yh.1 hh).1;have hgult:gu<w.heap.size:=(yh.1 hhu).1;have hgg:gu≠g:=fun e=>hap g (by rw [hg];rfl) (by rw [hgu,e];rfl)
  have hdr:(cs.drop i).length=n - i:=by rw [yi,hcl]
  have h1d:∀v∈cs.drop i,v.oneCell'=true:=fun v hv=>h1s v (pz hv)
  by_cases hroom:wX<n+m
  · refine ziO ((e.at rfl).trans (congrArg Value.bool (xV hroom))) (zeR (zaY ?_));refine wk e rfl rfl rfl (zaL rfl (e.at rfl)) fun a e=>?_
    refine wk e rfl rfl rfl (zaL rfl (e.at rfl)) fun a e=>?_
    refine wk e rfl rfl rfl (zFD rfl hT ((e.at rfl).trans hg) (e.at rfl) (by omega) hnc) fun a e=>?_
    refine wk e rfl rfl rfl (zaL rfl (e.at rfl)) fun a e=>?_
    refine wk e rfl rfl rfl (zaL rfl (e.at rfl)) fun a e=>?_
    refine wk e rfl rfl rfl (zpT rfl (e.at rfl) (e.at rfl) (by omega)) fun a e=>?_
    refine wk e rfl rfl rfl (zaL rfl (e.at rfl)) fun a e=>?_
    refine wk e rfl rfl rfl (zLf rfl (e.at rfl) (e.at rfl) (by omega) (by omega)) fun a e=>?_
    refine zMN e rfl rfl rfl (zLd (olds:=cs.take i) rfl hT underlying3 (e.at rfl) (e.at rfl) (zsA hh (by rw [<-htake,qi,yU hin])) (by rw [xZ];omega) (by omega) (by omega) (by omega)) fun z a hz e=>?_
    refine wk e rfl rfl rfl (zgY rfl (e.at rfl)) fun a e=>?_
    refine zhs ?_;obtain ⟨z1,z2,z3,z4⟩:=hz;have hnm:i+(n+m - i)=n+m:=by omega
    rw [hnm] at z1;have e:=e.pick [(0,s),(1,.int .i64 (i:Int)),(2,u),(7,.int .i64 (m:Int)),(9,.slice (some ⟨w.heap.size,0,none⟩) (n+m) z.1)] ⟨rfl,rfl,rfl,rfl,congrArg (fun k=>some (Value.slice (some ⟨w.heap.size,0,none⟩) k z.1)) hnm,trivial⟩;have hG:=yV w.drew (.cells z.2 5);have hO:∀k,k<w.heap.size->(w.drew.alloc (.cells z.2 5)).heap[k]? =w.heap[k]? :=fun k hk=>heap_alloc_old w.drew _ hk
    refine zeR (zaY ?_);refine wk e rfl rfl rfl (zaL rfl (e.at rfl)) fun a e=>?_
    refine wk e rfl rfl rfl (zaL rfl (e.at rfl)) fun a e=>?_
    refine wk e rfl rfl rfl (znx rfl hT (e.at rfl) (e.at rfl) (by omega) z1 (by omega)) fun a e=>?_
    refine wk e rfl rfl rfl (zaL rfl (e.at rfl)) fun a e=>?_
    refine wk e rfl rfl rfl (zvj (cs:=ds) rfl hT (e.at rfl) ((e.at rfl).trans hgu) hG (by rw [hdl];simp only [Nat.min_def];split<;>omega) (fun j v hj=>by rw [xR];exact zsA ((hO gu hgult).trans hhu) htake2 j v hj) (by omega) h1u) fun a e=>?_
    refine zhs ?_;have e:=e.pick [(0,s),(1,.int .i64 (i:Int)),(2,u),(7,.int .i64 (m:Int)),(9,.slice (some ⟨w.heap.size,0,none⟩) (n+m) z.1)] ⟨rfl,rfl,rfl,rfl,rfl,trivial⟩;rw [hdl]
    generalize hW2:(w.drew.alloc (.cells z.2 5)).setRow w.heap.size (z.2.toList.take i++ds++z.2.toList.drop (i+m)).toArray=W2
    have hG2:W2.heap[w.heap.size]? =some (.cells (z.2.toList.take i++ds++z.2.toList.drop (i+m)).toArray 5 (0,0)):=by rw [<-hW2];exact y9 _ _ _ _ _ _ hG
    have hO2:∀k,k<w.heap.size->W2.heap[k]? =w.heap[k]? :=fun k hk=>by rw [<-hW2,qM _ _ _ _ (by omega)];exact hO k hk
    refine zeR (ztg [⟨[],46,.slice (some ⟨w.heap.size,0,none⟩) (n+m) z.1⟩,⟨[],47,.int .i64 (i:Int)⟩,⟨[],48,.int .i64 (m:Int)⟩,⟨[1,2],49,.int .i64 ((i+m:Nat):Int)⟩,⟨[0,3],50,.slice (some ⟨w.heap.size,i+m,none⟩) (n+m - (i+m)) (z.1 - (i+m))⟩,⟨[],51,s⟩,⟨[],52,.int .i64 (i:Int)⟩,⟨[5,6],53,.slice (some ⟨g,i,none⟩) (n - i) (wX - i)⟩] e zee rfl rfl rfl (by kernel_rfl) (by kernel_rfl) (by kernel_rfl) (fun k p hp=>?_) ⟨_,rfl,rfl,fun a e=>?_⟩)
    · rcases k with _| _| _| _| _| _| _| _| k
      · cases hp;exact ⟨_,rfl,rfl,rfl,fun a e=>zaL rfl (e.at rfl)⟩
      · cases hp;exact ⟨_,rfl,rfl,rfl,fun a e=>zaL rfl (e.at rfl)⟩
      · cases hp;exact ⟨_,rfl,rfl,rfl,fun a e=>zaL rfl (e.at rfl)⟩
      · cases hp;exact ⟨_,rfl,rfl,rfl,fun a e=>zpT rfl (e.at rfl) (e.at rfl) (by omega)⟩
      · cases hp;exact ⟨_,rfl,rfl,rfl,fun a e=>znx rfl hT (e.at rfl) (e.at rfl) (by omega) z1 (by omega)⟩
      · cases hp;exact ⟨_,rfl,rfl,rfl,fun a e=>zaL rfl (e.at rfl)⟩
      · cases hp;exact ⟨_,rfl,rfl,rfl,fun a e=>zaL rfl (e.at rfl)⟩
      · cases hp;exact ⟨_,rfl,rfl,rfl,fun a e=>znx rfl hT ((e.at rfl).trans hg) (e.at rfl) (by omega) hnc (by omega)⟩
      · cases hp
    have hl2:(z.2.toList.take i++ds++z.2.toList.drop (i+m)).toArray.size=z.1:=by simp only [qa,xD,xZ,yi,yJ];omega
    refine zzl e rfl rfl (zvj (cs:=cs.drop i) rfl hT (e.at rfl) (e.at rfl) hG2 (by rw [hdr];simp only [Nat.min_def];split<;>omega) (fun j v hj=>by rw [qN] at hj;exact zsA ((hO2 g hglt).trans hh) htake _ v hj) (by omega) h1d) fun a e=>?_
    have e:=e.pick [(9,.slice (some ⟨w.heap.size,0,none⟩) (n+m) z.1)] ⟨rfl,trivial⟩;rw [hdr];refine zeR (zaY ?_);refine wk e rfl rfl rfl (zaL rfl (e.at rfl)) fun a e=>?_
    refine wk e rfl rfl rfl (zgY rfl (e.at rfl)) fun a e=>?_
    refine zhs (zxR ?_);have hR:n+m<=z.2.toList.length:=by rw [yJ];omega
    obtain ⟨k1,k2⟩:=zJa hR z4 hcl hdl hin;refine ⟨rfl,e.defers,?_⟩;rw [show a.tmps.getD 6 undef= .slice (some ⟨w.heap.size,0,none⟩) (n+m) z.1 from e.at rfl];refine ⟨rfl,⟨by simp only [xD,xZ,yi];omega,.inr ⟨w.heap.size,z.1,_,rfl,xP _,y9 {W2 with drawn:=W2.drawn+1} _ _ _ _ _ hG2,z1,z2,?_,?_⟩⟩,?_,.inr rfl⟩
    · simp only [qa];rw [k2,yJ,y8];exact z3
    · rw [y8];exact k1
    · refine ⟨by rw [<-hW2];rfl,by rw [<-hW2];rfl,by rw [<-hW2];rfl,?_,fun k hk _=>?_⟩
      · have:W2.heap.size=w.heap.size+1:=by rw [<-hW2,zuH];exact Array.size_push ..
        rw [zuH];show w.heap.size<=W2.heap.size;omega
      · rw [qM _ _ _ _ (by omega)];exact hO2 k hk
  refine zjC ((e.at rfl).trans (congrArg Value.bool (ye hroom))) (zvH ?_);refine zeR (zaY ?_);refine wk e rfl rfl rfl (zaL rfl (e.at rfl)) fun a e=>?_
  refine wk e rfl rfl rfl (zaL rfl (e.at rfl)) fun a e=>?_
  refine wk e rfl rfl rfl (zaL rfl (e.at rfl)) fun a e=>?_
  refine wk e rfl rfl rfl (zpT rfl (e.at rfl) (e.at rfl) (by omega)) fun a e=>?_
  refine wk e rfl rfl rfl (zFD rfl hT ((e.at rfl).trans hg) (e.at rfl) (by omega) hnc) fun a e=>?_
  refine wk e rfl rfl rfl (zgY rfl (e.at rfl)) fun a e=>?_
  refine zhs ?_;have e:=e.pick [(0,.slice (some ⟨g,0,none⟩) (n+m) wX),(1,.int .i64 (i:Int)),(2,u),(7,.int .i64 (m:Int))] ⟨rfl,rfl,rfl,rfl,trivial⟩;have hfro:∀j,w.frozen? ⟨gu,j,none⟩=false:=fun j=>frozen_of_row w gu j cur2 5 hhu
  have hov:(callFunc 188 #[u,.slice (some ⟨g,i+m,none⟩) (n+m - (i+m)) (wX - (i+m))]).run prog w= .ok (.value (.bool false)) w:=by
    rw [run_callFunc_extern func188 (by kernel_rfl) (by kernel_rfl) (by kernel_rfl) (e:=Extern.SlicesOverlaps.overlaps #[24,24] #[4]) (by kernel_rfl),hgu,
      Lib.run_overlaps_apart w 24 4 5 hT.u 1 hT.size ⟨gu,0,none⟩ ⟨g,i+m,none⟩ m cap2 _ _ hgg 5 5 cur2.size ka.size (zzD hhu) (zzD hh) (by omega) (hfro 0) (hfro _)]
    rfl
  refine zeR (zeR (zaY ?_));refine wk e rfl rfl rfl (zaL rfl (e.at rfl)) fun a e=>?_
  refine wk e rfl rfl rfl (zaL rfl (e.at rfl)) fun a e=>?_
  refine wk e rfl rfl rfl (zaL rfl (e.at rfl)) fun a e=>?_
  refine wk e rfl rfl rfl (zaL rfl (e.at rfl)) fun a e=>?_
  refine wk e rfl rfl rfl (zpT rfl (e.at rfl) (e.at rfl) (by omega)) fun a e=>?_
  refine wk e rfl rfl rfl (znx rfl hT (e.at rfl) (e.at rfl) (by omega) (by omega) (by omega)) fun a e=>?_
  refine wk e rfl rfl rfl (zMZ rfl (e.at rfl) (e.at rfl) hov) fun a e=>?_
  refine wk e rfl rfl rfl (zNa rfl (e.at rfl)) fun a e=>?_
  refine zhs ?_;have e:=e.pick [(0,.slice (some ⟨g,0,none⟩) (n+m) wX),(1,.int .i64 (i:Int)),(2,u),(7,.int .i64 (m:Int)),(68,.bool true)] ⟨rfl,rfl,rfl,rfl,rfl,trivial⟩;refine ziO (e.at rfl) (zeR (ztg [⟨[],69,.slice (some ⟨g,0,none⟩) (n+m) wX⟩,⟨[],70,.int .i64 (i:Int)⟩,⟨[],71,.int .i64 (m:Int)⟩,⟨[1,2],72,.int .i64 ((i+m:Nat):Int)⟩,⟨[0,3],73,.slice (some ⟨g,i+m,none⟩) (n+m - (i+m)) (wX - (i+m))⟩,⟨[],74,.slice (some ⟨g,0,none⟩) (n+m) wX⟩,⟨[],75,.int .i64 (i:Int)⟩,⟨[5,6],76,.slice (some ⟨g,i,none⟩) (n+m - i) (wX - i)⟩] e zee rfl rfl rfl (by kernel_rfl) (by kernel_rfl) (by kernel_rfl) (fun k p hp=>?_) ⟨_,rfl,rfl,fun a e=>?_⟩))
  · rcases k with _| _| _| _| _| _| _| _| k
    · cases hp;exact ⟨_,rfl,rfl,rfl,fun a e=>zaL rfl (e.at rfl)⟩
    · cases hp;exact ⟨_,rfl,rfl,rfl,fun a e=>zaL rfl (e.at rfl)⟩
    · cases hp;exact ⟨_,rfl,rfl,rfl,fun a e=>zaL rfl (e.at rfl)⟩
    · cases hp;exact ⟨_,rfl,rfl,rfl,fun a e=>zpT rfl (e.at rfl) (e.at rfl) (by omega)⟩
    · cases hp;exact ⟨_,rfl,rfl,rfl,fun a e=>znx rfl hT (e.at rfl) (e.at rfl) (by omega) (by omega) (by omega)⟩
    · cases hp;exact ⟨_,rfl,rfl,rfl,fun a e=>zaL rfl (e.at rfl)⟩
    · cases hp;exact ⟨_,rfl,rfl,rfl,fun a e=>zaL rfl (e.at rfl)⟩
    · cases hp;exact ⟨_,rfl,rfl,rfl,fun a e=>znx rfl hT (e.at rfl) (e.at rfl) (by omega) (by omega) (by omega)⟩
    · cases hp
  have hR:n+m<=ka.toList.length:=by rw [yJ];omega
  obtain ⟨k1,k2,k3⟩:=zHo hR htake hcl hdl hin;have hh1:({w with drawn:=w.drawn+1}:World).heap[g]? =some (.cells ka 5 (0,0)):=hh;refine zzl e rfl rfl (zvj (cs:=cs.drop i) rfl hT (e.at rfl) (e.at rfl) hh1 (by rw [hdr];simp only [Nat.min_def];split<;>omega) (fun j v hj=>by rw [qN] at hj;exact zsA hh1 htake _ v hj) (by rw [hdr,hcs];omega) h1d) fun a e=>?_
  have e:=e.pick [(0,.slice (some ⟨g,0,none⟩) (n+m) wX),(1,.int .i64 (i:Int)),(2,u)] ⟨rfl,rfl,rfl,trivial⟩;rw [hdr];have hh2:=y9 ({w with drawn:=w.drawn+1}:World) g ka (ka.toList.take (i+m)++cs.drop i++ka.toList.drop (i+m+(n - i))).toArray _ _ hh1;have hu2:=(qM ({w with drawn:=w.drawn+1}:World) g gu (ka.toList.take (i+m)++cs.drop i++ka.toList.drop (i+m+(n - i))).toArray hgg).trans hhu;refine zeR (zaY ?_);refine wk e rfl rfl rfl (zaL rfl (e.at rfl)) fun a e=>?_
  refine wk e rfl rfl rfl (zaL rfl (e.at rfl)) fun a e=>?_
  refine wk e rfl rfl rfl (znx rfl hT (e.at rfl) (e.at rfl) (by omega) (by omega) (by omega)) fun a e=>?_
  refine wk e rfl rfl rfl (zaL rfl (e.at rfl)) fun a e=>?_
  refine wk e rfl rfl rfl (zvj (cs:=ds) rfl hT (e.at rfl) ((e.at rfl).trans hgu) hh2 (by rw [hdl];simp only [Nat.min_def];split<;>omega) (fun j v hj=>by rw [xR];exact zsA hu2 htake2 j v hj) (by rw [qa,k3,hdl];omega) h1u) fun a e=>?_
  refine zhs ?_;have e:=e.pick [(0,.slice (some ⟨g,0,none⟩) (n+m) wX)] ⟨rfl,trivial⟩;rw [hdl];refine zeR (zaY ?_);refine wk e rfl rfl rfl (zaL rfl (e.at rfl)) fun a e=>?_
  refine wk e rfl rfl rfl (zgY rfl (e.at rfl)) fun a e=>?_
  refine zhs (zxR (⟨rfl,e.defers,?_⟩));rw [show a.tmps.getD 6 undef= .slice (some ⟨g,0,none⟩) (n+m) wX from e.at rfl];refine ⟨rfl,⟨by simp only [xD,xZ,yi];omega,.inr ⟨g,wX,_,rfl,xP _,y9 _ _ _ _ _ _ hh2,by omega,hcm,?_,?_⟩⟩,?_,.inl (by rw [hg];rfl)⟩
  · simp only [qa];rw [k2,yJ,y8];exact hcs
  · rw [y8];exact k1
  · refine ⟨rfl,rfl,rfl,by simp [World.setRow],fun k hk w9=>?_⟩;have hkg:k≠g:=fun e=>w9 (by rw [hg,e];rfl)
    rw [qM _ _ _ _ hkg,qM _ _ _ _ hkg]
theorem zdQ (h:zcY av b=some r):wL 15 [.sl Rp.byte [0] av,.sl Rp.byte [0] b] [kB r]:=by
 refine fi 10 func15 fun Xt=>?_
 unfold zcY at h;refine jp (jr (ra 1 [.sl Rp.byte [0] av] rfl (ztB rfl underlying24 underlying5 underlying9 (zbI _ _ _)) rfl (ra 1 [.sl Rp.byte [0] b] rfl (ztB rfl underlying24 underlying5 underlying9 (zbI _ _ _)) rfl rf)) ?_);cases h;exact zG lzz
theorem zqw (h:zfz sv=some r):wL 8 [.sl zf [0] sv] [kB r]:=by
 refine fi 54 func8 fun Xt=>?_
 unfold zfz at h;refine jp (jp (jp (zx (jb h fun q2 vl h=>jL vl [0] [] (fun s=>[(3,kI s.1),(4,kI s.2)]) (fun o=> .x 0 ⟨[(3,kI o)],[]⟩) ?_ lzz ?_))))
 ·clear h;intro s o h;obtain ⟨n,i⟩:=s;replace h:zck sv n i=some o:=h;unfold zck at h;refine jp (jI h ?_ ?_)<;>intro uP h
  ·refine zx (jb h fun x uZ h=>jb h fun x2 vd h=>jd [0,3,4] [] zee (by exact (lwn 4 (di [0] znp.el uZ (lwn 7 (di [0] znp.el vd (lw_e (lx (ldl zf [0] x2 1 zc x2.Fields) l0))))))) (jp (zx (jb h fun q uW h=>jL uW [0,4] [] (fun s=>[(3,kI s.1),(5,kI s.2)]) (fun o=> .X 2 [0,4] [] [(3,kI o)] []) ?_ lzz ?_))))
   ·clear h;intro s o h;obtain ⟨n3,k⟩:=s;replace h:zcl i sv n3 k=some o:=h;unfold zcl at h;refine jb h fun x3 vn h=>jr (rx 3 [0] znp.el vn rfl rfl (rc 1 rfl (ldl zf [0] x3 1 zc x3.Fields) rf)) (jI h ?_ ?_)<;>intro uT h
    ·refine zx (jb h fun x4 vp h=>jb h fun x5 vz h=>jr (rx 3 [0] znp.el vp rfl rfl (rc 1 rfl (ldl zf [0] x4 1 zc x4.Fields) (rx 1 [0] zoq.el vz rfl rfl rf))) (zam ?_));cases h;exact jy
    cases h;exact zaI rfl lzz
   refine zbo _ rfl (zam ?_);cases h;exact jy
  cases h;exact zaI rfl lzz
 refine zbo _ rfl ?_;cases h;exact jz
theorem zkZ (h:zfL av b=some r):wL 28 [.sl Rp.byte [0] av,.sl Rp.byte [0] b] [kB r]:=by
 refine fi 10 func28 fun Xt=>?_
 unfold zfL at h;refine jp (jr (ra 1 [.sl Rp.byte [0] av] rfl (ztB rfl underlying24 underlying5 underlying9 (zbI _ _ _)) rfl (ra 1 [.sl Rp.byte [0] b] rfl (ztB rfl underlying24 underlying5 underlying9 (zbI _ _ _)) rfl rf)) ?_);cases h;exact zG lzz
theorem zyp (h:zlD b l=some r):wL 96 [.sl Rp.byte [0] b,.sl zj [0] l] [.own Rp.str 9 2 [] r]:=by
 refine fi 32 func96 fun Xt=>?_
 unfold zlD at h;refine jp (jb h fun v vc h=>jr (ra 2 [kI (l.length:Int),kI (l.length:Int)] rfl (zsi 12 rfl zqZ rfl vc) rfl rf) (jp (zx (jb h fun q uW h=>jL uW [0,11,12] [] (fun s=>[(5,.own Rp.str 9 12 [] s.1),(13,kI s.2)]) (fun o=> .x 0 ⟨[(5,.own Rp.str 9 12 [] o)],[]⟩) ?_ lzz ?_))))
 ·clear h;intro s o h;obtain ⟨all,v2⟩:=s;replace h:zfs b l all v2=some o:=h;unfold zfs at h;refine jp (jI h ?_ ?_)<;>intro uP h
  ·refine zx (jb h fun x uZ h=>jr (rx 1 [0] zra.el uZ rfl rfl (rc 0 rfl (lde zj [0] x zul) (rfl' [14]))) (jb h fun v3 vf h=>jb h fun x2 vd h=>jr (ra 9 [.sl Rp.byte [0] b,kI x.Record.At,kI x.Record.To] rfl (zgA (some (kI x.Record.At)) (some (kI x.Record.To)) rfl zcd.el (zbI _ _ _) ⟨rfl,rfl⟩ ⟨rfl,rfl⟩ vf) rfl (ra 0 [.sl Rp.byte [0] v3] rfl (ztB rfl underlying24 underlying5 underlying9 (zbI _ _ _)) rfl (ra 0 [.own Rp.str 9 12 [] all,kI v2] rfl (zwC rfl zqZ.el vd) rfl (rkl 0 [] ⟨[(0,.sl Rp.byte [0] b),(5,.own Rp.str 9 12 [] all),(11,.sl zj [0] l),(12,kI (l.length:Int)),(13,kI v2),(28,kS v3),(29,.ptr 12 (Int.toNat v2*Rp.str.size))],[]⟩ (zAW (r:=Rp.str) (e:=9) (C:=[]) (xs:=all) [5] (Int.toNat v2) 0 x2 v3 [] rfl rfl rfl rfl rfl rfl sizeOf9 rfl (by kernel_rfl) rfl (zrU vd) rfl (zvG rfl _) rfl rf))))) (zam ?_)));cases h;exact jy
  cases h;exact zaI rfl lzz
 refine zbo _ rfl (jp ?_);obtain rfl:=(sj h);exact zG (lks [] [(12,2)] lzz)
theorem zjV (h:zej v=some r):wL 65 [.rc zk [0] v] [kI r]:=by
 refine fi 14 func65 fun Xt=>?_
 unfold zej at h;refine jr (rc 0 rfl (lbx 11 [0] (zeH [0] v)) rf) ?_;cases h;exact jz
theorem zxD (wi:∀{x:zd} {ki:Int} {r:Int},xa x ki=some r->wL 106 [.rc zm [0] x,kI ki] [kI r]) (h:ziJ xa x ki=some r):wL 106 [.rc zm [0] x,kI ki] [kI r]:=by
 refine fi 40 func106 fun Xt=>?_
 unfold ziJ at h;refine jr (rc 0 rfl (lbx 11 [0] (zbd [0] x)) rf) (jp (jp (zx (jb h fun q2 vl h=>jL vl [1,11,12] [] (fun s=>[(5,kI s.1),(13,kI s.2)]) (fun| (.inl v_)=> .x 0 ⟨[(5,kI v_)],[]⟩| (.inr v_)=> .r ⟨[(4,kI v_)],[]⟩) ?_ lzz ?_))))
 ·clear h;intro s o h;obtain ⟨deep,v⟩:=s;replace h:zfq ki xa x deep v=some o:=h;unfold zfq at h;refine jp (jI h ?_ ?_)<;>intro uP h
  ·refine zx (jb h fun x2 vd h=>jr (rx 0 [0] zxT.el vd rfl rfl (rc 0 rfl (lde zk [0] x2 zoE) (ral 1 [13] [.ptr 13 0,.rc zk [0] x2] rfl (zgB (r:=zk) (b:=⟨13,133,[kI 0,kN,kN,kN]⟩) (off:=0) (zX [0] x2) rfl sizeOf133 rfl rfl (by rw [zan]<;>rfl) rfl) rfl rf))) (jp (zx (jb h fun q uW h=>jL uW [1,11,12,13,18,19] [] (fun s=>[(5,kI s.1),(20,kI s.2)]) (fun| (.inl v_)=> .X 2 [1,11,12,13] [] [(5,kI v_)] []| (.inr v_)=> .r ⟨[(4,kI v_)],[]⟩) ?_ lzz ?_))))
   ·clear h;intro s o h;obtain ⟨deep3,v3⟩:=s;replace h:zfr ki xa x2 deep3 v3=some o:=h;unfold zfr at h;refine jp (jI h ?_ ?_)<;>intro uT h
    ·refine zx (jb h fun x3 vn h=>jr (rx 0 [0] zrF.el vn rfl rfl (rc 0 rfl (lde zm [0] x3 zoF) (ral 1 [15] [.ptr 15 0,.rc zm [0] x3] rfl (zgB (r:=zm) (b:=⟨15,52,[kN,kN]⟩) (off:=0) (zaK [0] x3) rfl sizeOf52 rfl rfl (by rw [zaq]<;>rfl) rfl) rfl rf))) (jp (jI h ?_ ?_)))<;>intro uV h
     ·cases h;exact jz'
     refine jb h fun rv uR h=>jr (rc 4 rfl (lw0 14 call106 (wi uR) (.c (zaz [0] x3) (.k .n))) rf) (jp (jI h ?_ ?_))<;>intro uY h
     ·cases h;exact jz'
     refine zam ?_;cases h;exact jy
    cases h;exact zaI rfl lzz
   rcases q with u| u2
   ·refine zbo _ rfl (zam ?_);cases h;exact jy
   cases h;exact zFS lzz
  cases h;exact zaI rfl lzz
 rcases q2 with u3| u4
 ·refine zbo _ rfl (jp ?_);obtain rfl:=(sj h);exact zG lzz
 obtain rfl:=(sj h);exact zgz lzz
theorem zyl (h:zfp uX x ki=some r):wL 106 [.rc zm [0] x,kI ki] [kI r]:=by
  induction uX generalizing x ki r with
  | zero=>exact absurd h nofun
  | succ uX ih=>exact zxD (fun hh=>ih hh) h
theorem zpw (h:zfh f v=some r):wL 101 [.rc zc [0] f,.ep wI [0] v 0] [kB r]:=by
 refine fi 8 func101 fun Xt=>?_
 unfold zfh at h;refine jq [11] ?_;cases h;exact jz
theorem zgy (h:zbH wv b=some r):zht prog 70 [.ptr 800000 0,.sl Rp.byte [0] b] [] [⟨800000,98,(zr 800001 [0] wv)⟩] [800000] [⟨800000,98,(zr 800001 [0,2] r)⟩]:=by
 refine zkI (E:=⟨[(0,.ptr 800000 0)],[⟨800000,98,(zr 800001 [0,2] r)⟩]⟩) 23 [0] [(0,800000)] func70 rfl rfl rfl trivial ⟨⟨rfl,rfl,rfl⟩,trivial⟩ ⟨rfl,trivial⟩ (fun Xt old=>?_);refine zbe ?_;unfold zbH at h;refine jb h fun v vc h=>jr (rc 6 rfl (zkg [.sl Rp.byte [0] b] 12 [0] ([b]:(List (List UInt8))) rfl znq rfl rfl rfl rfl) (rc 0 rfl (lao 800001 [0] 24 12 [0] [0,12] znq.el vc (.inr rfl)) rf)) (jp ?_);cases h;exact zyY (lks [800000] [(12,2)] lzz)
theorem ziI (h:zbD s1 s2=some r):wL 107 [.sl wK [0] s1,.sl wK [0] s2] [kB r]:=by
 refine fi 26 func107 fun Xt=>?_
 unfold zbD at h;refine jp (jp (jI h ?_ ?_))<;>intro uP h
 ·refine jp ?_;obtain rfl:=(sj h);exact zG lzz
 refine jp (zx (jb h fun q uW h=>jL uW [0,1,12] [] (fun s=>[(13,kI s)]) (fun| (.inl v_)=> .x 0 ⟨[],[]⟩| (.inr v_)=> .r ⟨[(4,kB false)],[]⟩) ?_ lzz ?_))
 ·clear h;intro v o h;unfold zaF at h;refine jp (jI h ?_ ?_)<;>intro uT h
  ·refine zx (jp (jb h fun x uZ h=>jb h fun x2 vd h=>jd [0,1,12,13,24] [] zee (by exact (lwn 2 (di [0] zxU.el uZ (lwn 3 (di [0] zxU.el vd l0))))) (jI h ?_ ?_)))<;>intro uV h
   ·cases h;exact jz'
   refine zam ?_;cases h;exact jy
  cases h;exact zaI rfl lzz
 rcases q with u| u2
 ·refine zbo _ rfl (jp ?_);obtain rfl:=(sj h);exact zG lzz
 obtain rfl:=(sj h);exact zgz lzz
theorem zfi (h:zbl s1 s2=some r):wL 75 [.sl Rp.str [0] s1,.sl Rp.str [0] s2] [kB r]:=by
 refine fi 26 func75 fun Xt=>?_
 unfold zbl at h;refine jp (jp (jI h ?_ ?_))<;>intro uP h
 ·refine jp ?_;obtain rfl:=(sj h);exact zG lzz
 refine jp (zx (jb h fun q uW h=>jL uW [0,1,12] [] (fun s=>[(13,kI s)]) (fun| (.inl v_)=> .x 0 ⟨[],[]⟩| (.inr v_)=> .r ⟨[(4,kB false)],[]⟩) ?_ lzz ?_))
 ·clear h;intro v o h;unfold zaE at h;refine jp (jI h ?_ ?_)<;>intro uT h
  ·refine zx (jp (jb h fun x uZ h=>jb h fun x2 vd h=>jd [0,1,12,13,24] [] zee (by exact (lwn 2 (di [0] zqZ.el uZ (lwn 3 (di [0] zqZ.el vd l0))))) (jI h ?_ ?_)))<;>intro uV h
   ·cases h;exact jz'
   refine zam ?_;cases h;exact jy
  cases h;exact zaI rfl lzz
 rcases q with u| u2
 ·refine zbo _ rfl (jp ?_);obtain rfl:=(sj h);exact zG lzz
 obtain rfl:=(sj h);exact zgz lzz
end Go.Proofs.YtaglemhabeipfaaGreat
