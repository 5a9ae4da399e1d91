/-
  The Go functions do what the plain functions say. No condition.
-/
import Derived.Test.YtnckiilakdkklaaGreatx2G1
import Derived.Test.YtnckiilakdkklaaGreatx2Y
set_option autoImplicit true
set_option relaxedAutoImplicit true
namespace Go.Proofs.YtnckiilakdkklaaGreat
open Go.IntKind (i64)
open Tryz
open Go Go.RowKit
set_option linter.unusedVariables false
set_option maxRecDepth 100000
set_option maxHeartbeats 3200000
theorem ztv (h:zkd=some r):va 89 [] [.own u9 3 2 [] r]:=by
 refine fi 4 func89 fun Xt=>?_
 unfold zkd at h;refine jp (jb h fun rv pE h=>jb h fun v ud h=>jr (rl 0 [1] 11 call115 (zlb pE) (rkl 0 [] ⟨[(1,.om u9 zU 13 [] rv)],[]⟩ (zyD (rv:=zU) (m:=rv) 14 zyK rfl rfl rfl rfl rfl rfl call114 call52 rfl (zvH _ _ _ _ _) ud rfl rf))) ?_);obtain rfl:=(sj h);exact zy (lks [] [(14,2)] lzz)
theorem ziE (h:zdX ur=some r):va 116 [kS ur] [kB r]:=by
 refine fi 34 func116 fun Xt=>?_
 unfold zdX at h;refine jp (jb h fun g pC h=>jg [0] [] [(15,kB g)] ?_ ?_)
 ·refine (rsI 3 6 pC ?_ ?_)<;>intro pA pC
  ·cases pC;exact rgg
  refine (rsI 5 11 pC ?_ ?_)<;>intro pB pC
  ·cases pC;exact rgg
  refine jb pC fun c uy pC=>jb pC fun rv pE pC=>?_;cases pC;exact (ra 1 [kS ur,kI 0] rfl (zsi rfl underlying9 uy) rfl (rl 0 [1] 9 call142 (zhG pE) rgg))
 refine jI h ?_ ?_<;>intro pD h
 ·refine jp ?_;obtain rfl:=(sj h);exact zy lzz
 refine jp (zr (jb h fun q pL h=>jL pL [0,17] [] (fun s=>[(18,kI s)]) (fun| (.inl v_)=> .x 0 ⟨[],[]⟩| (.inr v_)=> .r ⟨[(2,kB false)],[]⟩) ?_ lzz ?_))
 ·clear h;intro v2 o h;unfold zbX at h;refine jp (jI h ?_ ?_)<;>intro pF h
  ·refine zr (jp (jb h fun g2 pG h=>jg [0,17,18] [] [(32,kB g2)] ?_ ?_))
   ·refine jb pG fun c2 uQ pG=>jb pG fun vc pI pG=>(ra 2 [kS ur,kI v2] rfl (zsi rfl underlying9 uQ) rfl (rl 0 [1] 10 call143 (zlI pI) (rsI 2 26 pG ?_ ?_)))<;>intro pJ pG
    ·refine jb pG fun c3 uR pG=>jb pG fun vh pQ pG=>?_;cases pG;exact (ra 2 [kS ur,kI v2] rfl (zsi rfl underlying9 uR) rfl (rl 0 [1] 10 call142 (zhG pQ) rgg))
    cases pG;exact rgg
   refine jI h ?_ ?_<;>intro pM h
   ·cases h;exact jz'
   refine zQ ?_;cases h;exact jy
  cases h;exact zan rfl lzz
 rcases q with u| u2
 ·refine zaQ _ rfl (jp ?_);obtain rfl:=(sj h);exact zy lzz
 obtain rfl:=(sj h);exact zdo lzz
theorem zgn (h:zaY sv v=some r):va 118 [.sl u9 [0] sv,kI v] [kB r]:=by
 refine fi 9 func118 fun Xt=>?_
 unfold zaY at h;refine jp (jb h fun rv pE h=>jr (rl 2 [0] 9 call144 (zhe pE) rf) ?_);cases h;exact zy lzz
theorem zmc (h:zgJ k=some r):va 129 [kI k] [kI r.1,k8 r.2]:=by
 refine fi 16 func129 fun Xt=>?_
 unfold zgJ at h;refine jp (jb h fun rv pE h=>jr (rl 0 [1] 9 call115 (zlb pE) (ra 1 [.om u9 zU 11 [] rv,kI k] rfl (zne (rk:=u9) (rv:=zU) (m:=rv) (k:=k) (.rc zU [] ((mget rv k).getD (⟨[],0⟩:zj))) rfl zcM (zcr rfl rfl) (zrX rfl)) rfl (rfl' [12]))) (jp (jI h ?_ ?_)))<;>intro pA h
 ·cases h;exact jz
 cases h;exact jz
theorem zsE (h:ziF t=some r):va 124 [.rc zde [0] t] [kB r]:=by
 refine fi 16 func124 fun Xt=>?_
 unfold ziF at h;refine jq [11] (jb h fun g pC h=>jg [] [] [(2,kB g)] ?_ ?_)
 ·refine (rsI 4 6 pC ?_ ?_)<;>intro pA pC
  ·refine (rsI 5 11 pC ?_ ?_)<;>intro pB pC
   ·refine jb pC fun rv pE pC=>?_;cases pC;exact (rl 2 [1] 10 call146 (znu pE) rgg)
   cases pC;exact rgg
  cases pC;exact rgg
 obtain rfl:=(sj h);exact zy lzz
theorem zkz (h:zeZ b=some r):va 125 [.sl Rp.byte [0] b] [kI r.1,k8 r.2]:=by
 refine fi 15 func125 fun Xt=>?_
 unfold zeZ at h;refine jp (jb h fun rv pE h=>jr (rl 1 [0] 9 call123 (zhh pE) rf) ?_);cases h;exact jz
theorem zce (h:zO sv v=some r):va 126 [.sl za [0] sv,.fv 127 [.ep u9 [0] v 0]] [kI r]:=by
 refine fi 19 func126 fun Xt=>?_
 unfold zO at h;refine jp (jp (zr (jb h fun q pL h=>jL pL [0,1,7] [] (fun s=>[(8,kI s)]) (fun| (.inl v_)=> .x 0 ⟨[],[]⟩| (.inr v_)=> .r ⟨[(4,kI v_)],[]⟩) ?_ lzz ?_)))
 ·clear h;intro v2 o h;unfold zw at h;refine jp (jI h ?_ ?_)<;>intro pA h
  ·refine zr (jp (jb h fun x pN h=>jb h fun rv pE h=>jr (rx 3 [0] zgq.el pN rfl rfl (rc 0 rfl (lde za [0] x znx) (ra 0 [.fv 127 [.ep u9 [0] v 0],.rc za [0] x] rfl (zyn (args:=[.tmp 15]) [.rc za [0] x] [0] 10 rfl (zzx _ _) call127 (zoc pE) rfl rfl rfl rfl rfl) rfl rf))) (jI h ?_ ?_)))<;>intro pB h
   ·cases h;exact jz'
   refine zQ ?_;cases h;exact jy
  cases h;exact zan rfl lzz
 rcases q with u| u2
 ·refine zaQ _ rfl ?_;cases h;exact jz
 obtain rfl:=(sj h);exact zdo lzz
theorem zoG (h:zfY wv=some r):va 153 [kU wv] [.lf (.int .i32 r)]:=by
 refine fi 6 func153 fun Xt=>?_
 unfold zfY at h;refine jp (jb h fun rv pE h=>jr (rl 1 [1] 9 call154 (zla pE) rf) ?_);cases h;exact zy lzz
theorem znQ (h:ziJ b=some r):va 158 [.sl Rp.byte [0] b] [kI r]:=by
 refine fi 48 func158 fun Xt=>?_
 unfold ziJ at h;refine jp (jp (jI h ?_ ?_))<;>intro pA h
 ·cases h;exact jz
 refine jb h fun x pN h=>jb h fun rv pE h=>jr (rx 1 [0] zcq.el pN rfl rfl (rl 1 [1] 9 call159 (zug pE) rf)) (jg [0,3,4] [] [(24,kB ((rv.1==0)|| (decide (rv.1>(b.length:Int)))))] ?_ ?_)
 ·refine (rsl 3 [] 19 (rv.1==0) ?_ ?_)<;>intro pB
  · exact (rbl [] 24 true rfl (by grind))
  exact (rbl [] 24 (decide (rv.1>(b.length:Int))) rfl (by grind))
 refine jI h ?_ ?_<;>intro pD h
 ·cases h;exact jz
 refine jb h fun v2 ut h=>jr (ra 2 [.sl Rp.byte [0] b,kI 1,kI rv.1] rfl (zgX (some (kI 1)) (some (kI rv.1)) rfl zcq.el (zdb _ _ _) ⟨rfl,rfl⟩ ⟨rfl,rfl⟩ ut) rfl rf) (zr (jb h fun q pL h=>jL pL [3,27,28] [] (fun s=>[(4,.lf (.int .u32 s.1)),(29,kI s.2)]) (fun| (.inl v_)=> .X 0 [3] [] [(4,.lf (.int .u32 v_))] []| (.inr v_)=> .r ⟨[(2,kI 0)],[]⟩) ?_ lzz ?_))
 ·clear h;intro s o h;obtain ⟨wv,v3⟩:=s;replace h:zdy v2 wv v3=some o:=h;unfold zdy at h;refine jp (jI h ?_ ?_)<;>intro pF h
  ·refine zr (jb h fun x2 pR h=>jr (rx 0 [0] zcq.el pR rfl rfl rf) (jr (ra 1 [k8 (x2.toNat:Int),kU 6] rfl (zgt rfl rfl) rfl rf) (jI h ?_ ?_)))<;>intro pJ h
   ·cases h;exact jz'
   refine jr (ra 1 [.lf (.int .u32 wv),kU 6] rfl (zyp rfl rfl) rfl rf) (zQ ?_);cases h;exact jy
  cases h;exact zan rfl lzz
 rcases q with u| u2
 ·refine zaQ _ rfl (jb h fun vc pI h=>jr (rl 2 [1] 10 call160 (zuf pI) rf) (jI h ?_ ?_))<;>intro pM h
  ·cases h;exact jz
  cases h;exact jz
 cases h;exact zdo lzz
theorem zdx (h:zay vq=some r):va 25 [.sl (Rp.list Rp.byte) [0] vq] [.own Rp.byte 5 2 [] r]:=by
 refine fi 36 func25 fun Xt=>?_
 unfold zay at h;refine jp (jp (jp (zr (jb h fun q pL h=>jL pL [0,9,10] [] (fun s=>[(3,kI s.1),(11,kI s.2)]) (fun o=> .X 0 [0] [] [(3,kI o)] []) ?_ lzz ?_))))
 ·clear h;intro s o h;obtain ⟨size,v⟩:=s;replace h:zaa vq size v=some o:=h;unfold zaa at h;refine jp (jI h ?_ ?_)<;>intro pA h
  ·refine zr (jb h fun x pN h=>jr (rx 0 [0] zmS.el pN rfl rfl (rc 0 rfl (ldl (Rp.list Rp.byte) [0] x 0 Rp.byte x) rf)) (jp (jp (jI h ?_ ?_))))<;>intro pB h
   · exact absurd h nofun
   refine zQ ?_;cases h;exact jy
  cases h;exact zan rfl lzz
 refine zaQ _ rfl (jb h fun rv pE h=>jr (rl 1 [1] 12 call45 (zgF pE) rf) (jp (zr (jb h fun q2 p8 h=>jL p8 [25,26] [] (fun s=>[(6,.own Rp.byte 5 14 [] s.1),(27,kI s.2)]) (fun o=> .x 2 ⟨[(6,.own Rp.byte 5 14 [] o)],[]⟩) ?_ lzz ?_))))
 ·clear h;intro s o h;obtain ⟨vt,v2⟩:=s;replace h:zab vq vt v2=some o:=h;unfold zab at h;refine jp (jI h ?_ ?_)<;>intro pD h
  ·refine zr (jb h fun x2 pR h=>jr (rx 0 [0] zmS.el pR rfl rfl (rc 0 rfl (ldl (Rp.list Rp.byte) [0] x2 0 Rp.byte x2) rf)) (jb h fun v3 pW h=>jr (rc 2 rfl (las 14 [] [0] [] zcq.el pW (.inl zpF)) rf) (zQ ?_)));cases h;exact jy
  cases h;exact zan rfl lzz
 refine zaQ _ rfl (jp ?_);obtain rfl:=(sj h);exact zy (lks [] [(14,2)] lzz)
theorem zjz (h:zcD sv i k=some r):va 78 [.sl zf [0] sv,kI i,kI k] [kI r]:=by
 refine fi 119 func78 fun Xt=>?_
 unfold zcD at h;refine jp (jb h fun x pN h=>jb h fun x2 pR h=>jr (rx 2 [0] zdS.el pN rfl rfl (rc 1 rfl (ldl zf [0] x 1 za x.Fields) (rx 1 [0] zgq.el pR rfl rfl (rc 0 rfl (lde za [0] x2 znx) (rfl' [11]))))) (jp (jp (zr (jb h fun q pL h=>jL pL [0,1,2,7] [11] (fun s=>[(8,kB s.1),(9,kB s.2.1),(10,kI s.2.2)]) (fun o=> .X 0 [0,7] [11] [(8,kB o.1),(9,kB o.2)] []) ?_ lzz ?_)))))
 ·clear h;intro s o h;obtain ⟨ur,p9,j⟩:=s;replace h:zaL i k sv x2 ur p9 j=some o:=h;unfold zaL at h;refine jp (jI h ?_ ?_)<;>intro pA h
  ·refine zr (jb h fun g pC h=>jn (.N [0,1,2,7,9,10] [11] [(8,kB g)] []) ?_ (zdn ?_))
   ·rcases zfi pC with ⟨pB,pC⟩| ⟨pB,pC⟩
    ·cases pC;exact jd [0,1,2,7,8,9,10] [11] zdw (by exact (lw_e (dg 24 pB l0))) (zS lzz)
    refine jb pC fun x3 p6 pC=>jb pC fun x4 up pC=>?_;cases pC;exact jd [0,1,2,7,8,9,10] [11] zdw (by exact (lw_e (dg 24 pB (lwn 2 (di [0] zdS.el p6 (lw_e (lx (ldl zf [0] x3 1 za x3.Fields) (lw_e (di [0] zgq.el up l0))))))))) (zS lzz)
   refine jb h fun g2 pG h=>jn (.N [0,1,2,7,8,10] [11] [(9,kB g2)] []) ?_ (zdn ?_)
   ·rcases zfi pG with ⟨pD,pG⟩| ⟨pD,pG⟩
    ·cases pG;exact jd [0,1,2,7,8,9,10] [11] zdw (by exact (lw_e (dg 39 pD l0))) (zS lzz)
    refine jb pG fun x5 ui pG=>jb pG fun x6 uv pG=>?_;cases pG;exact jd [0,1,2,7,8,9,10] [11] zdw (by exact (lw_e (dg 39 pD (lwn 2 (di [0] zdS.el ui (lw_e (lx (ldl zf [0] x5 1 za x5.Fields) (lw_e (di [0] zgq.el uv l0))))))))) (zS lzz)
   refine zQ ?_;cases h;exact jy
  cases h;exact zan rfl lzz
 refine zaQ _ rfl (jb h fun rv pE h=>jr (rl 2 [1] 11 call77 (zgb pE) rf) (jI h ?_ ?_))<;>intro pF h
 ·cases h;exact jz
 refine jp (jI h ?_ ?_)<;>intro pJ h
 ·cases h;exact jz
 refine jg [0,7,9] [11] [(76,kB ((decide (x2.Number<1))|| ((decide (x2.Number>536870911))|| ((decide (x2.Number>=19000))&&(decide (x2.Number<20000))))))] ?_ ?_
 ·refine (rsl 4 [] 62 (decide (x2.Number<1)) ?_ ?_)<;>intro pM
  · exact (rbl [] 76 true rfl (by grind))
  refine (rsl 5 [] 67 (decide (x2.Number>536870911)) ?_ ?_)<;>intro pP
  · exact (rbl [] 76 true rfl (by grind))
  refine (rsl 4 [] 71 (decide (x2.Number>=19000)) ?_ ?_)<;>intro pS
  · exact (rbl [] 76 (decide (x2.Number<20000)) rfl (by grind))
  exact (rbl [] 76 false rfl (by grind))
 refine jI h ?_ ?_<;>intro pV h
 ·cases h;exact jz
 refine jp (jI h ?_ ?_)<;>intro pT h
 ·cases h;exact jz
 refine jb h fun vc pI h=>jr (rl 2 [1] 11 call64 (zdZ pI) rf) (jI h ?_ ?_)<;>intro ue h
 ·cases h;exact jz
 refine jb h fun g3 uh h=>jg [0,7] [11] [(93,kB g3)] ?_ ?_
 ·refine (rsI 3 84 uh ?_ ?_)<;>intro pX uh
  ·refine (rsI 3 87 uh ?_ ?_)<;>intro uc uh
   ·refine jb uh fun vh pQ uh=>?_;cases uh;exact (rl 2 [1] 11 call36 (zdA pQ) (rel [] lzz))
   cases uh;exact (rel [] lzz)
  cases uh;exact (rel [] lzz)
 refine jI h ?_ ?_<;>intro uf h
 ·cases h;exact jz
 refine jg [] [] [(118,kB (if (x2.Kind==17) then ((decide (x2.Of<0))|| ((decide (x2.Of>=(sv.length:Int)))|| ((x2.Kind !=17)&&(x2.Of !=0)))) else ((x2.Kind !=17)&&(x2.Of !=0))))] ?_ ?_
 ·refine (rsl 4 [] 97 (x2.Kind==17) ?_ ?_)<;>intro p7
  ·refine (rsl 4 [] 101 (decide (x2.Of<0)) ?_ ?_)<;>intro ug
   · exact (rbl [] 118 true rfl (by grind))
   refine (rsl 8 [] 109 (decide (x2.Of>=(sv.length:Int))) ?_ ?_)<;>intro uj
   · exact (rbl [] 118 true rfl (by grind))
   refine (rsl 4 [] 113 (x2.Kind !=17) ?_ ?_)<;>intro ul
   · exact (rbl [] 118 (x2.Of !=0) rfl (by grind))
   exact (rbl [] 118 false rfl (by grind))
  refine (rsl 16 [] 113 (x2.Kind !=17) ?_ ?_)<;>intro uq
  · exact (rbl [] 118 (x2.Of !=0) rfl (by grind))
  exact (rbl [] 118 false rfl (by grind))
 refine jI h ?_ ?_<;>intro uz h
 ·cases h;exact jz
 cases h;exact jz
theorem zjR (h:zcU b vf=some r):va 79 [.sl Rp.byte [0] b,kI vf] [kI r.1,kI r.2.1,kI r.2.2.1,kI r.2.2.2]:=by
 refine fi 40 func79 fun Xt=>?_
 unfold zcU at h;refine jp (jb h fun rv pE h=>jr (rl 2 [0] 9 call59 (zcT pE) rf) (jp (jI h ?_ ?_)))<;>intro pA h
 ·cases h;exact jz
 refine jb h fun g pC h=>jg [8,9] [] [(32,kB g)] ?_ ?_
 ·refine (rsI 3 23 pC ?_ ?_)<;>intro pB pC
  ·cases pC;exact rgg
  refine jb pC fun vc pI pC=>?_;cases pC;exact (rl 6 [1] 9 call92 (zjv pI) rgg)
 refine jI h ?_ ?_<;>intro pD h
 ·cases h;exact jz
 cases h;exact jz
theorem zjV (h:zcX k b=some r):va 48 [kI k,.sl Rp.byte [0] b] [.own u9 3 2 [] r.1,kI r.2]:=by
 refine fi 48 func48 fun Xt=>?_
 unfold zcX at h;refine jp (jb h fun rv pE h=>jr (rl 1 [1] 12 call36 (zdA pE) rf) (jI h ?_ ?_))<;>intro pA h
 ·refine jp ?_;cases h;exact zy lw
 refine jp (jp (zr (jb h fun q pL h=>jL pL [0,1] [] (fun s=>[(6,.own u9 3 16 [] s.1),(7,kI s.2)]) (fun| (.inl v_)=> .x 0 ⟨[(6,.own u9 3 16 [] v_)],[]⟩| (.inr v_)=> .r ⟨[(4,kN),(5,kI v_)],[]⟩) ?_ lw ?_)))
 ·clear h;intro s o h;obtain ⟨out,vf⟩:=s;replace h:zaq b k out vf=some o:=h;unfold zaq at h;refine jp (jI h ?_ ?_)<;>intro pB h
  ·refine zr (jp (jp (jb h fun p pZ h=>jn (.N [0,1,6,7] [] [(8,kI p)] []) ?_ ?_)))
   ·replace h:=pZ;refine jI h ?_ ?_<;>intro pD h
    ·cases h;exact jy
    cases h;exact zS lzz
   refine zdn (jp (jb h fun p2 uo h=>jn (match p2 with| (.inl v_)=> .N [0,1,6,7] [] [(8,kI v_)] []| (.inr v_)=> .r ⟨[(4,kN),(5,kI v_)],[]⟩) ?_ ?_))
   ·replace h:=uo;refine jI h ?_ ?_<;>intro pF h
    ·refine jb h fun vc pI h=>jr (rl 2 [0] 15 call59 (zcT pI) rf) (jp (jI h ?_ ?_))<;>intro pJ h
     ·cases h;exact jz
     cases h;exact jy
    cases h;exact zS lzz
   rcases p2 with u| u2
   ·refine zdn (jp (jI h ?_ ?_))<;>intro pM h
    ·cases h;exact jz'
    refine jp (jb h fun v3 pW h=>jr (rc 2 rfl (zfj [kI (i64.wrap (vf+u))] 17 [] ([(i64.wrap (vf+u))]:(List Int)) rfl zus rfl rfl rfl rfl) (rc 0 rfl (lao 16 [] 3 17 [] [] zus.el pW (.inl (zwT _))) rf)) (zQ ?_));cases h;exact zS lzz
   cases h;exact zsc lzz
  cases h;exact zan rfl lzz
 rcases q with u3| u4
 ·refine zaQ _ rfl (jp ?_);cases h;exact zy (lks [] [(16,2)] lzz)
 cases h;exact zdo lw
theorem zjS (h:zcV b vf=some r):va 80 [.sl Rp.byte [0] b,kI vf] [kI r]:=by
 refine fi 61 func80 fun Xt=>?_
 unfold zcV at h;refine jp (jp (zr (jb h fun q2 p8 h=>jL p8 [0,1] [] (fun s=>[(5,kI s)]) (fun| (.inl v_)=> .x 0 ⟨[],[]⟩| (.inr v_)=> .r ⟨[(4,kI v_)],[]⟩) ?_ lzz ?_)))
 ·clear h;intro n o h;unfold zbu at h;refine jg [0,1,5] [] [(17,kB ((decide (n<=4))&&(decide ((i64.wrap (vf+n))<=(b.length:Int)))))] ?_ ?_
  ·refine (rsl 3 [] 10 (decide (n<=4)) ?_ ?_)<;>intro pA
   · exact (rbl [] 17 (decide ((i64.wrap (vf+n))<=(b.length:Int))) rfl (by grind))
   exact (rbl [] 17 false rfl (by grind))
  refine jI h ?_ ?_<;>intro pB h
  ·refine zr (jb h fun x pN h=>jr (rx 2 [0] zcq.el pN rfl rfl rf) (jp (jb h fun p pZ h=>jn (.N [0,1,5] [] [(6,kI p)] []) ?_ ?_)))
   ·replace h:=pZ;refine jI h ?_ ?_<;>intro pD h
    ·refine jb h fun x2 pR h=>jb h fun v3 pW h=>jr (rc 1 rfl (zfj [kI 0,kI 0,kI 32,kI 16,kI 8] 12 [] ([0,0,32,16,8]:(List Int)) rfl zus rfl rfl rfl rfl) (ra 1 [.own u9 3 12 [] ([0,0,32,16,8]:(List Int)),kI n] rfl (zhA rfl zus.el (zda _ _ _ _ _) pR) rfl (ra 1 [kI (i64.wrap (x.toNat:Int)),kI x2] rfl (zBs rfl pW) rfl rf))) ?_;cases h;exact zS lzz
    cases h;exact zS lzz
   refine zdn (jp (zr (jb h fun q pL h=>jL pL [0,1,5] [] (fun s=>[(6,kI s.1),(7,kI s.2)]) (fun o=> .X 2 [0,1,5] [] [(6,kI o)] []) ?_ lzz ?_)))
   ·clear h;intro s o h;obtain ⟨vc,i⟩:=s;replace h:zaT vf b n vc i=some o:=h;unfold zaT at h;refine jp (jI h ?_ ?_)<;>intro pF h
    ·refine zr (jb h fun x3 p6 h=>jr (rx 6 [0] zcq.el p6 rfl rfl rf) (zQ ?_));cases h;exact jy
    cases h;exact zan rfl lzz
   refine zaQ _ rfl (jb h fun rv4 pY h=>jb h fun v4 uw h=>jd [0,1,5,59] [] zdw (by exact (lw_e (lx (lf1 93 (lcd [kI q] 12 call93 (zkU pY))) (ly [.own Rp.byte 5 14 [] rv4] (zsh rfl underlying24 underlying5 underlying9 (zda _ _ _ _ _)) rfl (lwn 5 (ly [.sl Rp.byte [0] b,kI vf,kI (i64.wrap (vf+n))] (zgX (some (kI vf)) (some (kI (i64.wrap (vf+n)))) rfl zcq.el (zdb _ _ _) ⟨rfl,rfl⟩ ⟨rfl,rfl⟩ uw) rfl (ly [.sl Rp.byte [0] v4] (zsh rfl underlying24 underlying5 underlying9 (zdb _ _ _)) rfl l0))))))) (jI h ?_ ?_))<;>intro pJ h
   ·cases h;exact jz'
   refine zQ ?_;cases h;exact jy
  cases h;exact zan rfl lzz
 rcases q2 with u| u2
 ·refine zaQ _ rfl ?_;cases h;exact jz
 obtain rfl:=(sj h);exact zdo lzz
end Go.Proofs.YtnckiilakdkklaaGreat
