/-
  The Go functions do what the plain functions say. No condition.
-/
import Derived.Test.YtnckiilakdkklaaGreatx2T
set_option autoImplicit true
set_option relaxedAutoImplicit true
namespace Go.Proofs.YtnckiilakdkklaaGreat
open Tryz
open Go Go.RowKit
set_option linter.unusedVariables false
set_option maxRecDepth 100000
set_option maxHeartbeats 3200000
abbrev zAy:=(mput ([]:(List (Int×zj))) 1 (⟨[105,110,116,51,50],0⟩:zj))
abbrev zAz:=(mput zAy 2 (⟨[105,110,116,54,52],0⟩:zj))
abbrev zAA:=(mput zAz 3 (⟨[117,105,110,116,51,50],0⟩:zj))
abbrev zAB:=(mput zAA 4 (⟨[117,105,110,116,54,52],0⟩:zj))
abbrev zAC:=(mput zAB 5 (⟨[115,105,110,116,51,50],0⟩:zj))
abbrev zAD:=(mput zAC 6 (⟨[115,105,110,116,54,52],0⟩:zj))
abbrev zAE:=(mput zAD 7 (⟨[98,111,111,108],0⟩:zj))
abbrev zAF:=(mput zAE 8 (⟨[101,110,117,109],0⟩:zj))
abbrev zAG:=(mput zAF 9 (⟨[102,105,120,101,100,51,50],5⟩:zj))
abbrev zya:=(mput zAG 10 (⟨[115,102,105,120,101,100,51,50],5⟩:zj))
abbrev zyb:=(mput zya 11 (⟨[102,108,111,97,116],5⟩:zj))
abbrev zyc:=(mput zyb 12 (⟨[102,105,120,101,100,54,52],1⟩:zj))
abbrev zyd:=(mput zyc 13 (⟨[115,102,105,120,101,100,54,52],1⟩:zj))
abbrev zuM:=(mput zyd 14 (⟨[100,111,117,98,108,101],1⟩:zj))
theorem zlb (h:zgV=some r):va 115 [] [.om u9 zU 2 [] r]:=by
 refine fi 20 func115 fun Xt=>?_
 unfold zgV at h;refine jp (jr (rc 0 rfl (zgY (rk:=u9) (rv:=zU) 12 rfl) (rc 0 rfl (zD (r:=zU) [kS [105,110,116,51,50],kI 0] [] (⟨[105,110,116,51,50],0⟩:zj) rfl zem rfl rfl) (rms (D:=[]) 0 [] 12 [] ([]:(List (Int×zj))) 1 (⟨[105,110,116,51,50],0⟩:zj) [] zcM (zcr rfl rfl) (zbA rfl) (rc 0 rfl (zD (r:=zU) [kS [105,110,116,54,52],kI 0] [] (⟨[105,110,116,54,52],0⟩:zj) rfl zem rfl rfl) (rms (D:=[]) 0 [] 12 [] zAy 2 (⟨[105,110,116,54,52],0⟩:zj) [] zcM (zcr rfl rfl) (zbA rfl) (rc 0 rfl (zD (r:=zU) [kS [117,105,110,116,51,50],kI 0] [] (⟨[117,105,110,116,51,50],0⟩:zj) rfl zem rfl rfl) (rms (D:=[]) 0 [] 12 [] zAz 3 (⟨[117,105,110,116,51,50],0⟩:zj) [] zcM (zcr rfl rfl) (zbA rfl) (rc 0 rfl (zD (r:=zU) [kS [117,105,110,116,54,52],kI 0] [] (⟨[117,105,110,116,54,52],0⟩:zj) rfl zem rfl rfl) (rms (D:=[]) 0 [] 12 [] zAA 4 (⟨[117,105,110,116,54,52],0⟩:zj) [] zcM (zcr rfl rfl) (zbA rfl) (rc 0 rfl (zD (r:=zU) [kS [115,105,110,116,51,50],kI 0] [] (⟨[115,105,110,116,51,50],0⟩:zj) rfl zem rfl rfl) (rms (D:=[]) 0 [] 12 [] zAB 5 (⟨[115,105,110,116,51,50],0⟩:zj) [] zcM (zcr rfl rfl) (zbA rfl) (rc 0 rfl (zD (r:=zU) [kS [115,105,110,116,54,52],kI 0] [] (⟨[115,105,110,116,54,52],0⟩:zj) rfl zem rfl rfl) (rms (D:=[]) 0 [] 12 [] zAC 6 (⟨[115,105,110,116,54,52],0⟩:zj) [] zcM (zcr rfl rfl) (zbA rfl) (rc 0 rfl (zD (r:=zU) [kS [98,111,111,108],kI 0] [] (⟨[98,111,111,108],0⟩:zj) rfl zem rfl rfl) (rms (D:=[]) 0 [] 12 [] zAD 7 (⟨[98,111,111,108],0⟩:zj) [] zcM (zcr rfl rfl) (zbA rfl) (rc 0 rfl (zD (r:=zU) [kS [101,110,117,109],kI 0] [] (⟨[101,110,117,109],0⟩:zj) rfl zem rfl rfl) (rms (D:=[]) 0 [] 12 [] zAE 8 (⟨[101,110,117,109],0⟩:zj) [] zcM (zcr rfl rfl) (zbA rfl) (rc 0 rfl (zD (r:=zU) [kS [102,105,120,101,100,51,50],kI 5] [] (⟨[102,105,120,101,100,51,50],5⟩:zj) rfl zem rfl rfl) (rms (D:=[]) 0 [] 12 [] zAF 9 (⟨[102,105,120,101,100,51,50],5⟩:zj) [] zcM (zcr rfl rfl) (zbA rfl) (rc 0 rfl (zD (r:=zU) [kS [115,102,105,120,101,100,51,50],kI 5] [] (⟨[115,102,105,120,101,100,51,50],5⟩:zj) rfl zem rfl rfl) (rms (D:=[]) 0 [] 12 [] zAG 10 (⟨[115,102,105,120,101,100,51,50],5⟩:zj) [] zcM (zcr rfl rfl) (zbA rfl) (rc 0 rfl (zD (r:=zU) [kS [102,108,111,97,116],kI 5] [] (⟨[102,108,111,97,116],5⟩:zj) rfl zem rfl rfl) (rms (D:=[]) 0 [] 12 [] zya 11 (⟨[102,108,111,97,116],5⟩:zj) [] zcM (zcr rfl rfl) (zbA rfl) (rc 0 rfl (zD (r:=zU) [kS [102,105,120,101,100,54,52],kI 1] [] (⟨[102,105,120,101,100,54,52],1⟩:zj) rfl zem rfl rfl) (rms (D:=[]) 0 [] 12 [] zyb 12 (⟨[102,105,120,101,100,54,52],1⟩:zj) [] zcM (zcr rfl rfl) (zbA rfl) (rc 0 rfl (zD (r:=zU) [kS [115,102,105,120,101,100,54,52],kI 1] [] (⟨[115,102,105,120,101,100,54,52],1⟩:zj) rfl zem rfl rfl) (rms (D:=[]) 0 [] 12 [] zyc 13 (⟨[115,102,105,120,101,100,54,52],1⟩:zj) [] zcM (zcr rfl rfl) (zbA rfl) (rc 0 rfl (zD (r:=zU) [kS [100,111,117,98,108,101],kI 1] [] (⟨[100,111,117,98,108,101],1⟩:zj) rfl zem rfl rfl) (rms (D:=[]) 0 [] 12 [] zyd 14 (⟨[100,111,117,98,108,101],1⟩:zj) [] zcM (zcr rfl rfl) (zbA rfl) (rc 0 rfl (zD (r:=zU) [kS [115,116,114,105,110,103],kI 2] [] (⟨[115,116,114,105,110,103],2⟩:zj) rfl zem rfl rfl) (rms (D:=[]) 0 [] 12 [] zuM 15 (⟨[115,116,114,105,110,103],2⟩:zj) [] zcM (zcr rfl rfl) (zbA rfl) (rc 0 rfl (zD (r:=zU) [kS [98,121,116,101,115],kI 2] [] (⟨[98,121,116,101,115],2⟩:zj) rfl zem rfl rfl) (rms (D:=[]) 0 [] 12 [] (mput zuM 15 (⟨[115,116,114,105,110,103],2⟩:zj)) 16 (⟨[98,121,116,101,115],2⟩:zj) [] zcM (zcr rfl rfl) (zbA rfl) (rc 0 rfl (zD (r:=zU) [kS [109,101,115,115,97,103,101],kI 2] [] (⟨[109,101,115,115,97,103,101],2⟩:zj) rfl zem rfl rfl) (rms (D:=[]) 0 [] 12 [] (mput (mput zuM 15 (⟨[115,116,114,105,110,103],2⟩:zj)) 16 (⟨[98,121,116,101,115],2⟩:zj)) 17 (⟨[109,101,115,115,97,103,101],2⟩:zj) [] zcM (zcr rfl rfl) (zbA rfl) rf))))))))))))))))))))))))))))))))))) ?_);cases h;exact zy (lks [] [(12,2)] lzz)
theorem zhG (h:zds c=some r):va 142 [k8 c] [kB r]:=by
 refine fi 9 func142 fun Xt=>?_
 unfold zds at h;refine jp (jg [] [] [(2,kB ((decide (c>=48))&&(decide (c<=57))))] ?_ ?_)
 ·refine (rsl 3 [] 5 (decide (c>=48)) ?_ ?_)<;>intro pA
  · exact (rbl [] 2 (decide (c<=57)) rfl (by grind))
  exact (rbl [] 2 false rfl (by grind))
 cases h;exact zy lzz
theorem zlI (h:zdO c=some r):va 143 [k8 c] [kB r]:=by
 refine fi 21 func143 fun Xt=>?_
 unfold zdO at h;refine jp (jg [] [] [(2,kB (if (decide (c>=97)) then ((decide (c<=122))|| (if (decide (c>=65)) then ((decide (c<=90))|| (c==95)) else (c==95))) else (if (decide (c>=65)) then ((decide (c<=90))|| (c==95)) else (c==95))))] ?_ ?_)
 ·refine (rsl 3 [] 5 (decide (c>=97)) ?_ ?_)<;>intro pA
  ·refine (rsl 4 [] 9 (decide (c<=122)) ?_ ?_)<;>intro pB
   · exact (rbl [] 2 true rfl (by grind))
   refine (rsl 3 [] 12 (decide (c>=65)) ?_ ?_)<;>intro pD
   ·refine (rsl 5 [] 17 (decide (c<=90)) ?_ ?_)<;>intro pF
    · exact (rbl [] 2 true rfl (by grind))
    exact (rbl [] 2 (c==95) rfl (by grind))
   exact (rbl [] 2 (c==95) rfl (by grind))
  refine (rsl 7 [] 12 (decide (c>=65)) ?_ ?_)<;>intro pJ
  ·refine (rsl 5 [] 17 (decide (c<=90)) ?_ ?_)<;>intro pM
   · exact (rbl [] 2 true rfl (by grind))
   exact (rbl [] 2 (c==95) rfl (by grind))
  exact (rbl [] 2 (c==95) rfl (by grind))
 cases h;exact zy lzz
theorem zlJ (h:zdP n=some r):va 117 [kI n] [kB r]:=by
 refine fi 17 func117 fun Xt=>?_
 unfold zdP at h;refine jp (jg [] [] [(2,kB ((decide (n>=1))&&((decide (n<=536870911))&&((decide (n<19000))|| (decide (n>19999))))))] ?_ ?_)
 ·refine (rsl 3 [] 5 (decide (n>=1)) ?_ ?_)<;>intro pA
  ·refine (rsl 4 [] 9 (decide (n<=536870911)) ?_ ?_)<;>intro pB
   ·refine (rsl 3 [] 12 (decide (n<19000)) ?_ ?_)<;>intro pD
    · exact (rbl [] 2 true rfl (by grind))
    exact (rbl [] 2 (decide (n>19999)) rfl (by grind))
   exact (rbl [] 2 false rfl (by grind))
  exact (rbl [] 2 false rfl (by grind))
 cases h;exact zy lzz
theorem zhe (h:zbz sv v=some r):va 144 [.sl u9 [0] sv,kI v] [kI r]:=by
 refine fi 19 func144 fun Xt=>?_
 unfold zbz at h;refine jp (jp (zr (jb h fun q pL h=>jL pL [0,1,7] [] (fun s=>[(8,kI s)]) (fun| (.inl v_)=> .x 0 ⟨[],[]⟩| (.inr v_)=> .r ⟨[(4,kI v_)],[]⟩) ?_ lzz ?_)))
 ·clear h;intro v2 o h;unfold zah at h;refine jp (jI h ?_ ?_)<;>intro pA h
  ·refine zr (jp (jb h fun x pN h=>jr (rx 3 [0] zus.el pN rfl rfl rf) (jI h ?_ ?_)))<;>intro pB h
   ·cases h;exact jz'
   refine zQ ?_;cases h;exact jy
  cases h;exact zan rfl lzz
 rcases q with u| u2
 ·refine zaQ _ rfl ?_;cases h;exact jz
 obtain rfl:=(sj h);exact zdo lzz
theorem zjG (h:zcK c f=some r):va 120 [.ag [kI c.size,.sl u9 [0] c.kinds,.mp zu Rp.bool [0] c.names,.mp zv Rp.bool [0] c.numbers],.rc za [0] f] [kB r]:=by
 refine fi 21 func120 fun Xt=>?_
 unfold zcK at h;refine jq [11,12] (jp (jI h ?_ ?_))<;>intro pA h
 ·refine jg [] [] [(4,kB ((decide (f.Of>=0))&&(decide (f.Of<c.size))))] ?_ ?_
  ·refine (rsl 4 [] 11 (decide (f.Of>=0)) ?_ ?_)<;>intro pB
   · exact (rbl [] 4 (decide (f.Of<c.size)) rfl (by grind))
   exact (rbl [] 4 false rfl (by grind))
  cases h;exact zy lzz
 cases h;exact jz
theorem zhh (h:zep b=some r):va 123 [.sl Rp.byte [0] b] [kU r.1,kI r.2.1,k8 r.2.2]:=by
 refine fi 38 func123 fun Xt=>?_
 unfold zep at h;refine jp (jb h fun v ud h=>jr (ra 4 [.sl Rp.byte [0] b,kI (if (10:Int)<(b.length:Int) then 10 else (b.length:Int))] rfl (zgX none (some (kI (if (10:Int)<(b.length:Int) then 10 else (b.length:Int)))) rfl zcq.el (zdb _ _ _) ⟨rfl,rfl⟩ ⟨rfl,rfl⟩ ud) rfl rf) (zr (jb h fun q pL h=>jL pL [11,12] [] (fun s=>[(2,kU s.1),(13,kI s.2)]) (fun| (.inl v_)=> .x 0 ⟨[],[]⟩| (.inr v_)=> .r ⟨[(2,kU v_.1),(3,kI v_.2.1),(4,k8 v_.2.2)],[]⟩) ?_ lzz ?_)))
 ·clear h;intro s o h;obtain ⟨wv,v2⟩:=s;replace h:zcg v wv v2=some o:=h;unfold zcg at h;refine jp (jI h ?_ ?_)<;>intro pA h
  ·refine zr (jb h fun x pN h=>jr (rx 1 [0] zcq.el pN rfl rfl rf) (jg [2,5,6,11,12,13] [] [(23,kB ((v2==9)&&(decide ((x.toNat:Int)>1))))] ?_ ?_))
   ·refine (rsl 3 [] 20 (v2==9) ?_ ?_)<;>intro pB
    · exact (rbl [] 23 (decide ((x.toNat:Int)>1)) rfl (by grind))
    exact (rbl [] 23 false rfl (by grind))
   refine jI h ?_ ?_<;>intro pD h
   ·cases h;exact jz'
   refine jb h fun v4 uw h=>jr (ra 6 [kU (IntKind.u64.wrap (andI .u8 (x.toNat:Int) 127)),kI (IntKind.i64.wrap (7*v2))] rfl (zyp rfl uw) rfl rf) (jp (jI h ?_ ?_))<;>intro pF h
   ·cases h;exact jz'
   refine zQ ?_;cases h;exact jy
  cases h;exact zan rfl lzz
 rcases q with u| u2
 ·refine zaQ _ rfl ?_;cases h;exact jz
 cases h;exact zdo lzz
theorem znu (h:zeG wire=some r):va 146 [kI wire] [kB r]:=by
 refine fi 9 func146 fun Xt=>?_
 unfold zeG at h;refine jp (jp (zr (jp (jI h ?_ ?_))))<;>intro pA h
 ·refine jI h ?_ ?_<;>intro pB h
  ·refine jp ?_;obtain rfl:=(sj h);exact zy lzz
  refine zQ (jp ?_);obtain rfl:=(sj h);exact zy lzz
 refine jp (jI h ?_ ?_)<;>intro pD h
 ·refine jI h ?_ ?_<;>intro pF h
  ·refine jp ?_;obtain rfl:=(sj h);exact zy lzz
  refine zQ (jp ?_);obtain rfl:=(sj h);exact zy lzz
 refine jp (jI h ?_ ?_)<;>intro pJ h
 ·refine jI h ?_ ?_<;>intro pM h
  ·refine jp ?_;obtain rfl:=(sj h);exact zy lzz
  refine zQ (jp ?_);obtain rfl:=(sj h);exact zy lzz
 refine jp (jI h ?_ ?_)<;>intro pP h
 ·refine jp ?_;obtain rfl:=(sj h);exact zy lzz
 refine zQ (jp ?_);obtain rfl:=(sj h);exact zy lzz
theorem zoc (h:zfs f v=some r):va 127 [.rc za [0] f,.ep u9 [0] v 0] [kB r]:=by
 refine fi 8 func127 fun Xt=>?_
 unfold zfs at h;refine jq [11] ?_;cases h;exact jz
theorem znW (h:zfl k=some r):va 149 [kI k] [kI r.1,k8 r.2]:=by
 refine fi 22 func149 fun Xt=>?_
 unfold zfl at h;refine jp (jp (zr (jp (jb h fun p pZ h=>jn (.n ⟨[(4,kI k),(5,kB p)],[]⟩) ?_ ?_))))
 ·replace h:=pZ;refine jI h ?_ ?_<;>intro pA h
  ·cases h;exact zS lzz
  refine jp (jI h ?_ ?_)<;>intro pB h
  ·cases h;exact zS lzz
  refine jp (jI h ?_ ?_)<;>intro pD h
  ·cases h;exact zS lzz
  refine jp (jI h ?_ ?_)<;>intro pF h
  ·cases h;exact zS lzz
  refine jp (jI h ?_ ?_)<;>intro pJ h
  ·cases h;exact zS lzz
  refine jp (jI h ?_ ?_)<;>intro pM h
  ·cases h;exact zS lzz
  refine jp (jI h ?_ ?_)<;>intro pP h
  ·cases h;exact zS lzz
  cases h;exact jy
 refine zdn (jI h ?_ ?_)<;>intro pS h
 ·cases h;exact jz
 refine jp (jb h fun p2 uo h=>jn (.n ⟨[(4,kI k),(14,kB p2)],[]⟩) ?_ ?_)
 ·replace h:=uo;refine jI h ?_ ?_<;>intro pV h
  ·cases h;exact zS lzz
  refine jp (jI h ?_ ?_)<;>intro pT h
  ·cases h;exact zS lzz
  cases h;exact jy
 refine zdn (jI h ?_ ?_)<;>intro ue h
 ·cases h;exact jz
 refine jp (jI h ?_ ?_)<;>intro pX h
 ·refine jI h ?_ ?_<;>intro uc h
  ·cases h;exact jz
  refine zQ ?_;cases h;exact jz
 refine jp (jI h ?_ ?_)<;>intro uf h
 ·refine jI h ?_ ?_<;>intro p7 h
  ·cases h;exact jz
  refine zQ ?_;cases h;exact jz
 refine jp (jI h ?_ ?_)<;>intro ug h
 ·cases h;exact jz
 refine zQ ?_;cases h;exact jz
theorem zla (h:zfz wv=some r):va 154 [kU wv] [.lf (.int .u32 r)]:=by
 refine fi 5 func154 fun Xt=>?_
 unfold zfz at h;refine jp ?_;cases h;exact jz
theorem zoH (h:zfZ n=some r):va 152 [.lf (.int .i32 n)] [kU r]:=by
 refine fi 6 func152 fun Xt=>?_
 unfold zfZ at h;refine jp ?_;cases h;exact jz
theorem zqv (h:ziU wv=some r):va 155 [kU wv] [kU r]:=by
 refine fi 5 func155 fun Xt=>?_
 unfold ziU at h;refine jp ?_;cases h;exact jz
theorem zsQ (h:zjO wv=some r):va 157 [kU wv] [kI r]:=by
 refine fi 13 func157 fun Xt=>?_
 unfold zjO at h;refine jp (jp (jr (ra 1 [kU wv,kU 7] rfl (zgt rfl rfl) rfl rf) (zr (jb h fun q pL h=>jL pL [] [] (fun s=>[(0,kU s.1),(3,kI s.2)]) (fun o=> .x 0 ⟨[(3,kI o)],[]⟩) ?_ lzz ?_))))
 ·clear h;intro s o h;obtain ⟨wv2,n⟩:=s;replace h:zeg wv2 n=some o:=h;unfold zeg at h;refine jp (jI h ?_ ?_)<;>intro pA h
  ·refine zr (jp (zQ (jr (ra 1 [kU wv2,kU 7] rfl (zgt rfl rfl) rfl rf) ?_)));cases h;exact zS lzz
  cases h;exact zan rfl lzz
 refine zaQ _ rfl (jp ?_);obtain rfl:=(sj h);exact zy lzz
theorem zug (h:zmN c=some r):va 159 [k8 c] [kI r.1,.lf (.int .u32 r.2)]:=by
 refine fi 31 func159 fun Xt=>?_
 unfold zmN at h;refine jp (zr (jr (ra 1 [k8 c,kU 7] rfl (zgt rfl rfl) rfl rf) (jI h ?_ ?_)))<;>intro pA h
 ·cases h;exact jz
 refine jr (ra 1 [k8 c,kU 5] rfl (zgt rfl rfl) rfl rf) (jI h ?_ ?_)<;>intro pB h
 ·cases h;exact jz
 refine jr (ra 1 [k8 c,kU 4] rfl (zgt rfl rfl) rfl rf) (jI h ?_ ?_)<;>intro pD h
 ·cases h;exact jz
 refine jr (ra 1 [k8 c,kU 3] rfl (zgt rfl rfl) rfl rf) (jI h ?_ ?_)<;>intro pF h
 ·cases h;exact jz
 refine zQ ?_;cases h;exact jz
theorem zuf (h:ziK wv=some r):va 160 [.lf (.int .u32 wv)] [kI r]:=by
 refine fi 22 func160 fun Xt=>?_
 unfold ziK at h;refine jp (zr (jr (ra 1 [.lf (.int .u32 wv),kU 7] rfl (zgt rfl rfl) rfl rf) (jI h ?_ ?_)))<;>intro pA h
 ·cases h;exact jz
 refine jr (ra 1 [.lf (.int .u32 wv),kU 11] rfl (zgt rfl rfl) rfl rf) (jI h ?_ ?_)<;>intro pB h
 ·cases h;exact jz
 refine jr (ra 1 [.lf (.int .u32 wv),kU 11] rfl (zgt rfl rfl) rfl rf) (jI h ?_ ?_)<;>intro pD h
 ·cases h;exact jz
 refine jr (ra 1 [.lf (.int .u32 wv),kU 16] rfl (zgt rfl rfl) rfl rf) (jI h ?_ ?_)<;>intro pF h
 ·cases h;exact jz
 refine jp (jI h ?_ ?_)<;>intro pJ h
 ·cases h;exact jz
 refine zQ ?_;cases h;exact jz
theorem zgF (h:zbo n=some r):va 45 [kN,kI n] [.own Rp.byte 5 2 [] r]:=by
 refine fi 27 func45 fun Xt=>?_
 unfold zbo at h;refine jp (jp (jI h ?_ ?_))<;>intro pA h
 · exact absurd h nofun
 refine jr (ra 2 [kN] rfl (zrf rfl underlying24) rfl rf) (jp (jI h ?_ ?_))<;>intro pB h
 ·refine jb h fun v ud h=>jb h fun v2 ut h=>jr (ra 2 [kN] rfl (zrf rfl underlying24) rfl (ra 0 [kN,kI 0] rfl (zwM rfl zcq.el) rfl (ra 1 [kN,kI (IntKind.i64.wrap (n - (IntKind.i64.wrap (0 - 0))))] rfl (zzK 12 rfl underlying3 zcq rfl ud) rfl (ra 2 [.own Rp.byte 5 12 [] v,kI 0] rfl (zzM rfl zcq.el ut) rfl rf)))) (jp ?_);obtain rfl:=(sj h);exact zy (lks [] [(12,2)] lzz)
 refine jp ?_;cases h;exact zy lw
theorem zga (h:zcS av b=some r):va 18 [.sl Rp.byte [0] av,.sl Rp.byte [0] b] [kB r]:=by
 refine fi 10 func18 fun Xt=>?_
 unfold zcS at h;refine jp (jr (ra 1 [.sl Rp.byte [0] av] rfl (zsh rfl underlying24 underlying5 underlying9 (zdb _ _ _)) rfl (ra 1 [.sl Rp.byte [0] b] rfl (zsh rfl underlying24 underlying5 underlying9 (zdb _ _ _)) rfl rf)) ?_);cases h;exact zy lzz
theorem zkT (h:zdk sv=some r):va 7 [.sl zf [0] sv] [kB r]:=by
 refine fi 54 func7 fun Xt=>?_
 unfold zdk at h;refine jp (jp (jp (zr (jb h fun q2 p8 h=>jL p8 [0] [] (fun s=>[(3,kI s.1),(4,kI s.2)]) (fun o=> .x 0 ⟨[(3,kI o)],[]⟩) ?_ lzz ?_))))
 ·clear h;intro s o h;obtain ⟨n,i⟩:=s;replace h:zbd sv n i=some o:=h;unfold zbd at h;refine jp (jI h ?_ ?_)<;>intro pA h
  ·refine zr (jb h fun x pN h=>jb h fun x2 pR h=>jd [0,3,4] [] zdw (by exact (lwn 4 (di [0] zdS.el pN (lwn 7 (di [0] zdS.el pR (lw_e (lx (ldl zf [0] x2 1 za x2.Fields) l0))))))) (jp (zr (jb h fun q pL h=>jL pL [0,4] [] (fun s=>[(3,kI s.1),(5,kI s.2)]) (fun o=> .X 2 [0,4] [] [(3,kI o)] []) ?_ lzz ?_))))
   ·clear h;intro s o h;obtain ⟨n3,k⟩:=s;replace h:zbe i sv n3 k=some o:=h;unfold zbe at h;refine jb h fun x3 p6 h=>jr (rx 3 [0] zdS.el p6 rfl rfl (rc 1 rfl (ldl zf [0] x3 1 za x3.Fields) rf)) (jI h ?_ ?_)<;>intro pB h
    ·refine zr (jb h fun x4 up h=>jb h fun x5 ui h=>jr (rx 3 [0] zdS.el up rfl rfl (rc 1 rfl (ldl zf [0] x4 1 za x4.Fields) (rx 1 [0] zgq.el ui rfl rfl rf))) (zQ ?_));cases h;exact jy
    cases h;exact zan rfl lzz
   refine zaQ _ rfl (zQ ?_);cases h;exact jy
  cases h;exact zan rfl lzz
 refine zaQ _ rfl ?_;cases h;exact jz
theorem zgb (h:zci sv=some r):va 77 [kS sv] [kB r]:=by
 refine fi 55 func77 fun Xt=>?_
 unfold zci at h;refine jp (jp (zr (jb h fun q pL h=>jL pL [0] [] (fun s=>[(3,kI s)]) (fun| (.inl v_)=> .x 0 ⟨[(0,kS sv)],[]⟩| (.inr v_)=> .r ⟨[(2,kB false)],[]⟩) ?_ lzz ?_)))
 ·clear h;intro i o h;unfold zaU at h;refine jp (jI h ?_ ?_)<;>intro pA h
  ·refine zr (jb h fun c uy h=>jr (ra 2 [kS sv,kI i] rfl (zsi rfl underlying9 uy) rfl rf) (jg [0,3] [] [(5,kB (if (decide ((c.toNat:Int)>=65)) then ((decide ((c.toNat:Int)<=90))|| (if (decide ((c.toNat:Int)>=97)) then ((decide ((c.toNat:Int)<=122))|| (((c.toNat:Int)==95)|| ((decide (i>0))&&((decide ((c.toNat:Int)>=48))&&(decide ((c.toNat:Int)<=57)))))) else (((c.toNat:Int)==95)|| ((decide (i>0))&&((decide ((c.toNat:Int)>=48))&&(decide ((c.toNat:Int)<=57))))))) else (if (decide ((c.toNat:Int)>=97)) then ((decide ((c.toNat:Int)<=122))|| (((c.toNat:Int)==95)|| ((decide (i>0))&&((decide ((c.toNat:Int)>=48))&&(decide ((c.toNat:Int)<=57)))))) else (((c.toNat:Int)==95)|| ((decide (i>0))&&((decide ((c.toNat:Int)>=48))&&(decide ((c.toNat:Int)<=57))))))))] ?_ ?_))
   ·refine (rsl 3 [] 17 (decide ((c.toNat:Int)>=65)) ?_ ?_)<;>intro pB
    ·refine (rsl 4 [] 21 (decide ((c.toNat:Int)<=90)) ?_ ?_)<;>intro pD
     · exact (rbl [] 5 true rfl (by grind))
     refine (rsl 3 [] 24 (decide ((c.toNat:Int)>=97)) ?_ ?_)<;>intro pF
     ·refine (rsl 5 [] 29 (decide ((c.toNat:Int)<=122)) ?_ ?_)<;>intro pJ
      · exact (rbl [] 5 true rfl (by grind))
      refine (rsl 4 [] 33 ((c.toNat:Int)==95) ?_ ?_)<;>intro pM
      · exact (rbl [] 5 true rfl (by grind))
      refine (rsl 3 [] 36 (decide (i>0)) ?_ ?_)<;>intro pP
      ·refine (rsl 4 [] 40 (decide ((c.toNat:Int)>=48)) ?_ ?_)<;>intro pS
       · exact (rbl [] 5 (decide ((c.toNat:Int)<=57)) rfl (by grind))
       exact (rbl [] 5 false rfl (by grind))
      exact (rbl [] 5 false rfl (by grind))
     refine (rsl 9 [] 33 ((c.toNat:Int)==95) ?_ ?_)<;>intro pV
     · exact (rbl [] 5 true rfl (by grind))
     refine (rsl 3 [] 36 (decide (i>0)) ?_ ?_)<;>intro pT
     ·refine (rsl 4 [] 40 (decide ((c.toNat:Int)>=48)) ?_ ?_)<;>intro ue
      · exact (rbl [] 5 (decide ((c.toNat:Int)<=57)) rfl (by grind))
      exact (rbl [] 5 false rfl (by grind))
     exact (rbl [] 5 false rfl (by grind))
    refine (rsl 7 [] 24 (decide ((c.toNat:Int)>=97)) ?_ ?_)<;>intro pX
    ·refine (rsl 5 [] 29 (decide ((c.toNat:Int)<=122)) ?_ ?_)<;>intro uc
     · exact (rbl [] 5 true rfl (by grind))
     refine (rsl 4 [] 33 ((c.toNat:Int)==95) ?_ ?_)<;>intro uf
     · exact (rbl [] 5 true rfl (by grind))
     refine (rsl 3 [] 36 (decide (i>0)) ?_ ?_)<;>intro p7
     ·refine (rsl 4 [] 40 (decide ((c.toNat:Int)>=48)) ?_ ?_)<;>intro ug
      · exact (rbl [] 5 (decide ((c.toNat:Int)<=57)) rfl (by grind))
      exact (rbl [] 5 false rfl (by grind))
     exact (rbl [] 5 false rfl (by grind))
    refine (rsl 9 [] 33 ((c.toNat:Int)==95) ?_ ?_)<;>intro uj
    · exact (rbl [] 5 true rfl (by grind))
    refine (rsl 3 [] 36 (decide (i>0)) ?_ ?_)<;>intro ul
    ·refine (rsl 4 [] 40 (decide ((c.toNat:Int)>=48)) ?_ ?_)<;>intro uq
     · exact (rbl [] 5 (decide ((c.toNat:Int)<=57)) rfl (by grind))
     exact (rbl [] 5 false rfl (by grind))
    exact (rbl [] 5 false rfl (by grind))
   refine jp (jI h ?_ ?_)<;>intro uz h
   ·cases h;exact jz'
   refine zQ ?_;cases h;exact jy
  cases h;exact zan rfl lzz
 rcases q with u| u2
 ·refine zaQ _ rfl (jg [] [] [(2,kB ((decide ((sv.length:Int)>=1))&&(decide ((sv.length:Int)<=60))))] ?_ ?_)
  ·refine (rsl 4 [] 50 (decide ((sv.length:Int)>=1)) ?_ ?_)<;>intro uA
   · exact (rbl [] 2 (decide ((sv.length:Int)<=60)) rfl (by grind))
   exact (rbl [] 2 false rfl (by grind))
  cases h;exact zy lzz
 obtain rfl:=(sj h);exact zdo lzz
theorem zdZ (h:zbT k=some r):va 64 [kI k] [kB r]:=by
 refine fi 9 func64 fun Xt=>?_
 unfold zbT at h;refine jp (jg [] [] [(2,kB ((decide (k>=1))&&(decide (k<=17))))] ?_ ?_)
 ·refine (rsl 3 [] 5 (decide (k>=1)) ?_ ?_)<;>intro pA
  · exact (rbl [] 2 (decide (k<=17)) rfl (by grind))
  exact (rbl [] 2 false rfl (by grind))
 cases h;exact zy lzz
theorem zdA (h:zbf k=some r):va 36 [kI k] [kB r]:=by
 refine fi 9 func36 fun Xt=>?_
 unfold zbf at h;refine jp (jg [] [] [(2,kB ((decide (k>=1))&&(decide (k<=14))))] ?_ ?_)
 ·refine (rsl 3 [] 5 (decide (k>=1)) ?_ ?_)<;>intro pA
  · exact (rbl [] 2 (decide (k<=14)) rfl (by grind))
  exact (rbl [] 2 false rfl (by grind))
 cases h;exact zy lzz
theorem zcT (h:zbh b vf=some r):va 59 [.sl Rp.byte [0] b,kI vf] [kU r.1,kI r.2.1,kI r.2.2]:=by
 refine fi 69 func59 fun Xt=>?_
 unfold zbh at h;refine jp (jp (zr (jb h fun q pL h=>jL pL [0,1] [] (fun s=>[(7,kI s)]) (fun o=> .X 0 [0,1] [] [(7,kI o)] []) ?_ lzz ?_)))
 ·clear h;intro n o h;unfold zaA at h;refine jb h fun g pC h=>jg [0,1,7] [] [(28,kB g)] ?_ ?_
  ·refine (rsI 7 16 pC ?_ ?_)<;>intro pA pC
   ·refine (rsI 4 20 pC ?_ ?_)<;>intro pB pC
    ·refine jb pC fun x pN pC=>?_;cases pC;exact (rx 4 [0] zcq.el pN rfl rfl rgg)
    cases pC;exact rgg
   cases pC;exact rgg
  refine jI h ?_ ?_<;>intro pD h
  ·refine zr (jp (zQ ?_));cases h;exact zS lzz
  cases h;exact zan rfl lzz
 refine zaQ _ rfl (jp (jI h ?_ ?_))<;>intro pF h
 ·cases h;exact jz
 refine jp (jI h ?_ ?_)<;>intro pJ h
 ·cases h;exact jz
 refine jb h fun g2 pG h=>jg [0,1,7] [] [(49,kB g2)] ?_ ?_
 ·refine (rsI 3 41 pG ?_ ?_)<;>intro pM pG
  ·refine jb pG fun x2 pR pG=>?_;cases pG;exact (rx 4 [0] zcq.el pR rfl rfl rgg)
  cases pG;exact rgg
 refine jI h ?_ ?_<;>intro pP h
 ·cases h;exact jz
 refine jp (jp (zr (jb h fun q2 p8 h=>jL p8 [0,1,7] [] (fun s=>[(8,kU s.1),(9,kI s.2)]) (fun o=> .x 2 ⟨[(7,kI q),(8,kU o)],[]⟩) ?_ lzz ?_)))
 ·clear h;intro s o h;obtain ⟨wv,i⟩:=s;replace h:zaS vf b wv i=some o:=h;unfold zaS at h;refine jp (jI h ?_ ?_)<;>intro pS h
  ·refine zr (jb h fun x3 p6 h=>jr (rx 6 [0] zcq.el p6 rfl rfl rf) (zQ ?_));cases h;exact jy
  cases h;exact zan rfl lzz
 refine zaQ _ rfl ?_;cases h;exact jz
theorem zjv (h:zcA p9 wire=some r):va 92 [kI p9,kI wire] [kB r]:=by
 refine fi 27 func92 fun Xt=>?_
 unfold zcA at h;refine jp (jg [] [] [(4,kB ((decide (p9>=1))&&((decide (p9<=536870911))&&((wire==0)|| ((wire==1)|| ((wire==2)|| (wire==5)))))))] ?_ ?_)
 ·refine (rsl 3 [] 7 (decide (p9>=1)) ?_ ?_)<;>intro pA
  ·refine (rsl 4 [] 11 (decide (p9<=536870911)) ?_ ?_)<;>intro pB
   ·refine (rsl 3 [] 14 (wire==0) ?_ ?_)<;>intro pD
    · exact (rbl [] 4 true rfl (by grind))
    refine (rsl 4 [] 18 (wire==1) ?_ ?_)<;>intro pF
    · exact (rbl [] 4 true rfl (by grind))
    refine (rsl 4 [] 22 (wire==2) ?_ ?_)<;>intro pJ
    · exact (rbl [] 4 true rfl (by grind))
    exact (rbl [] 4 (wire==5) rfl (by grind))
   exact (rbl [] 4 false rfl (by grind))
  exact (rbl [] 4 false rfl (by grind))
 cases h;exact zy lzz
theorem zjA (h:zcE m p9=some r):va 30 [.rc zf [0] m,kI p9] [kI r]:=by
 refine fi 22 func30 fun Xt=>?_
 unfold zcE at h;refine jr (ra 0 [.rc zf [0] m] rfl (zfH 11 (zC [0] m) [0] rfl rfl rfl rfl rfl) rfl rf) (jp (zr (jb h fun q pL h=>jL pL [1,2] [11] (fun s=>[(5,kI s)]) (fun| (.inl v_)=> .x 0 ⟨[],[]⟩| (.inr v_)=> .r ⟨[(4,kI v_)],[]⟩) ?_ lzz ?_)))
 ·clear h;intro i o h;unfold zaM at h;refine jp (jI h ?_ ?_)<;>intro pA h
  ·refine zr (jb h fun x pN h=>jr (rx 3 [0] zgq.el pN rfl rfl rf) (jI h ?_ ?_))<;>intro pB h
   ·cases h;exact jz'
   refine zQ ?_;cases h;exact jy
  cases h;exact zan rfl lzz
 rcases q with u| u2
 ·refine zaQ _ rfl ?_;cases h;exact jz
 obtain rfl:=(sj h);exact zdo lzz
theorem zjU (h:zcW k=some r):va 57 [kI k] [kI r]:=by
 refine fi 9 func57 fun Xt=>?_
 unfold zcW at h;refine jp (jp (jI h ?_ ?_))<;>intro pA h
 ·cases h;exact jz
 refine jp (jI h ?_ ?_)<;>intro pB h
 ·cases h;exact jz
 refine jp (jI h ?_ ?_)<;>intro pD h
 ·cases h;exact jz
 cases h;exact jz
theorem zkU (h:zdl rv=some r):va 93 [kI rv] [.own Rp.byte 5 2 [] r]:=by
 refine fi 68 func93 fun Xt=>?_
 unfold zdl at h;refine jp (jg [0] [] [(16,kB ((decide (rv<0))|| ((decide (rv>1114111))|| ((decide (rv>=55296))&&(decide (rv<=57343))))))] ?_ ?_)
 ·refine (rsl 3 [] 5 (decide (rv<0)) ?_ ?_)<;>intro pA
  · exact (rbl [] 16 true rfl (by grind))
  refine (rsl 4 [] 9 (decide (rv>1114111)) ?_ ?_)<;>intro pB
  · exact (rbl [] 16 true rfl (by grind))
  refine (rsl 3 [] 12 (decide (rv>=55296)) ?_ ?_)<;>intro pD
  · exact (rbl [] 16 (decide (rv<=57343)) rfl (by grind))
  exact (rbl [] 16 false rfl (by grind))
 refine jI h ?_ ?_<;>intro pF h
 ·refine jp ?_;cases h;exact zy lw
 refine jp (jI h ?_ ?_)<;>intro pJ h
 ·refine jb h fun y uB h=>jr (rc 2 rfl (zE.lw (zfj [.lf (.int .u8 (y.toNat:Int))] 12 [] [y] rfl zcq rfl rfl rfl rfl) (.l (zfT uB))) rf) ?_;cases h;exact zy (lks [] [(12,2)] lzz)
 refine jp (jI h ?_ ?_)<;>intro pM h
 ·refine jb h fun y2 uC h=>jb h fun y3 uI h=>jr (rc 8 rfl (zE.lw (zfj [.lf (.int .u8 (y2.toNat:Int)),.lf (.int .u8 (y3.toNat:Int))] 13 [] [y2,y3] rfl zcq rfl rfl rfl rfl) (.c (zfT uC) (.l (zfT uI)))) rf) ?_;cases h;exact zy (lks [] [(13,2)] lzz)
 refine jp (jI h ?_ ?_)<;>intro pP h
 ·refine jb h fun y4 uJ h=>jb h fun y5 uK h=>jb h fun y6 uL h=>jr (rc 13 rfl (zE.lw (zfj [.lf (.int .u8 (y4.toNat:Int)),.lf (.int .u8 (y5.toNat:Int)),.lf (.int .u8 (y6.toNat:Int))] 14 [] [y4,y5,y6] rfl zcq rfl rfl rfl rfl) (.c (zfT uJ) (.c (zfT uK) (.l (zfT uL))))) rf) ?_;cases h;exact zy (lks [] [(14,2)] lzz)
 refine jb h fun y7 uM h=>jb h fun y8 uN h=>jb h fun y9 uO h=>jb h fun y10 uP h=>jr (rc 18 rfl (zE.lw (zfj [.lf (.int .u8 (y7.toNat:Int)),.lf (.int .u8 (y8.toNat:Int)),.lf (.int .u8 (y9.toNat:Int)),.lf (.int .u8 (y10.toNat:Int))] 15 [] [y7,y8,y9,y10] rfl zcq rfl rfl rfl rfl) (.c (zfT uM) (.c (zfT uN) (.c (zfT uO) (.l (zfT uP)))))) rf) ?_;cases h;exact zy (lks [] [(15,2)] lzz)
end Go.Proofs.YtnckiilakdkklaaGreat
