/-
  The Go functions do what the plain functions say. No condition.
-/
import Derived.Test.YtkgohoggipdokaaGreatx2G3
set_option autoImplicit true
set_option relaxedAutoImplicit true
namespace Go.Proofs.YtkgohoggipdokaaGreat
open Tryz
open Go Go.RowKit
set_option linter.unusedVariables false
set_option maxRecDepth 100000
set_option maxHeartbeats 3200000
theorem znl (h:zeR c uf f=some r):zrx prog 120 [.ag [kI c.size,.sl vR [0] c.kinds,.om zE Rp.bool 2 [0] c.names,.om zG Rp.bool 3 [0] c.numbers],kI uf,.rc zd [0] f] [kI r.1] [.ag [.any,.any,.om zE Rp.bool 2 [0] r.2.1,.om zG Rp.bool 3 [0] r.2.2],.any,.any]:=by
 refine zvf (E:=⟨[(0,.ag [.any,.any,.om zE Rp.bool 2 [0] r.2.1,.om zG Rp.bool 3 [0] r.2.2]),(6,kI r.1)],[]⟩) 63 [0] func120 rfl rfl rfl ⟨rfl,trivial⟩ ⟨.inr ⟨rfl,rfl⟩,.inl rfl,.inl rfl,trivial⟩ rfl (fun Xt old=>?_);refine zgg ?_;unfold zeR at h;refine jq [11,12] (jd [0,3,5,7,8] [11,12,13,14] zcM (by exact (lwn 3 (lx (zak (r:=zE) [kI uf,kS f.Name] [] (⟨uf,f.Name⟩:zp) rfl zDE rfl rfl) (lwn 3 (lx (zak (r:=zG) [kI uf,kI f.Number] [] (⟨uf,f.Number⟩:zr) rfl zGz rfl rfl) (lx (zya 13 [kI 0,kS []] rfl zeroValue233 rfl) (lx (zya 14 [kI 0,kI 0] rfl zeroValue235 rfl) (ly [.ptr 13 0,.rc zE [] (⟨uf,f.Name⟩:zp)] (zko (r:=zE) (b:=⟨13,233,[kI 0,kS []]⟩) (off:=0) [kI uf,kS f.Name] rfl sizeOf233 rfl rfl rfl rfl) rfl (ly [.ptr 14 0,.rc zG [] (⟨uf,f.Number⟩:zr)] (zko (r:=zG) (b:=⟨14,235,[kI 0,kI 0]⟩) (off:=0) [kI uf,kI f.Number] rfl sizeOf235 rfl rfl rfl rfl) rfl l0))))))))) (zm (jb h fun rv pY h=>jr (rl 2 [1] 13 call156 (zmk pY) rf) (jI h ?_ ?_))))<;>intro pV h
 ·refine jp ?_;cases h;exact zlZ lw
 refine jr (lb 2 zE [] (⟨uf,f.Name⟩:zp) (ra 0 [.om zE Rp.bool 2 [0] c.names,.rc zE [] (⟨uf,f.Name⟩:zp)] rfl (ztq (rk:=zE) (rv:=Rp.bool) (m:=c.names) (k:=(⟨uf,f.Name⟩:zp)) (kB ((mget c.names (⟨uf,f.Name⟩:zp)).getD false)) rfl zsu (zeE rfl) (zwj rfl rfl rfl)) rfl rf)) (jI h ?_ ?_)<;>intro pX h
 ·refine jp ?_;cases h;exact zlZ lw
 refine jb h fun vV ud h=>jr (rl 2 [1] 13 call157 (zpJ ud) rf) (jI h ?_ ?_)<;>intro pZ h
 ·refine jp ?_;cases h;exact zlZ lw
 refine jr (lb 2 zG [] (⟨uf,f.Number⟩:zr) (ra 0 [.om zG Rp.bool 3 [0] c.numbers,.rc zG [] (⟨uf,f.Number⟩:zr)] rfl (ztq (rk:=zG) (rv:=Rp.bool) (m:=c.numbers) (k:=(⟨uf,f.Number⟩:zr)) (kB ((mget c.numbers (⟨uf,f.Number⟩:zr)).getD false)) rfl zAw (zeE rfl) (zwj rfl rfl rfl)) rfl rf)) (jI h ?_ ?_)<;>intro p9 h
 ·refine jp ?_;cases h;exact zlZ lw
 refine jb h fun v8 uj h=>jr (rl 4 [0] 13 call158 (zja uj) rf) (jI h ?_ ?_)<;>intro uh h
 ·refine jp ?_;cases h;exact zlZ lw
 refine jb h fun g pW h=>jg [0,3,5,7,8] [11,12,13,14] [(44,kB g)] ?_ ?_
 ·refine (rsI 3 47 pW ?_ ?_)<;>intro ui pW
  ·refine jb pW fun rv4 uA pW=>?_;cases pW;exact (lb 0 zd [] f (rl 0 [1] 13 call159 (zqy uA) (rel [] lzz)))
  cases pW;exact (rel [] lzz)
 refine jI h ?_ ?_<;>intro uq h
 ·refine jp ?_;cases h;exact zlZ lw
 refine jb h fun rv5 uK h=>jr (lb 1 zd [] f (rl 0 [0,2,3] 13 call160 (znm uK) rf)) (jI h ?_ ?_)<;>intro uv h
 ·refine jp ?_;cases h;exact zlZ lw
 refine zS (jr (lb 2 zE [] (⟨uf,f.Name⟩:zp) (rms (C1:=[]) 0 [] 2 [0] c.names (⟨uf,f.Name⟩:zp) true [0] zsu (zeE rfl) (zfw rfl rfl) rf)) (jr (lb 2 zG [] (⟨uf,f.Number⟩:zr) (rms (C1:=[]) 0 [] 3 [0] c.numbers (⟨uf,f.Number⟩:zr) true [0] zAw (zeE rfl) (zfw rfl rfl) rf)) (jp ?_)));cases h;exact zlZ lw
theorem zwZ (h:zmn b=some r):vT 145 [.sl Rp.byte [0] b] [kB r]:=by
 refine fi 8 func145 fun Xt=>?_
 unfold zmn at h;refine jp (jb h fun rv pY h=>jr (rl 1 [0] 9 call175 (zwY pY) rf) ?_);cases h;exact zz lzz
theorem zqJ (h:zgI m text=some r):vT 142 [.rc zh [0] m,kS text] [kB r]:=by
 refine fi 33 func142 fun Xt=>?_
 unfold zgI at h;refine jr (ra 0 [.rc zh [0] m] rfl (zhl 11 (zbg [0] m) [0] rfl rfl rfl rfl rfl) rfl rf) (jb h fun v uy h=>jb h fun rv pY h=>jr (ra 1 [kS text] rfl (zmF 12 rfl underlying9 underlying35 underlying5 uy) rfl (rl 0 [12] 11 call164 (ztI pY) (rfl' [13]))) (jg [2,5] [11,13] [(23,kB ((rv.2 !=0)|| (rv.1.To !=(text.length:Int))))] ?_ ?_))
 ·refine (rsl 3 [] 17 (rv.2 !=0) ?_ ?_)<;>intro pV
  · exact (rbl [] 23 true rfl (by grind))
  exact (rbl [] 23 (rv.1.To !=(text.length:Int)) rfl (by grind))
 refine jI h ?_ ?_<;>intro pX h
 ·refine jp ?_;obtain rfl:=(sj h);exact zz lzz
 refine jb h fun vV ud h=>jr (rl 3 [0] 12 call64 (zhn ud) rf) ?_;cases h;exact jz
theorem zwL (h:zmi k=some r):vT 147 [kI k] [kI r]:=by
 refine fi 5 func147 fun Xt=>?_
 unfold zmi at h;refine jp (jb h fun rv pY h=>jr (rl 1 [1] 9 call149 (zog pY) rf) ?_);obtain rfl:=(sj h);exact zz lzz
theorem zpc (h:zir b uu wire value=some r):vT 116 [.sl Rp.byte [0] b,kI uu,kI wire,.sl Rp.byte [0] value] [.own Rp.byte 5 2 [] r.1,k8 r.2]:=by
 refine fi 39 func116 fun Xt=>?_
 unfold zir at h;refine jp (jb h fun rv pY h=>jr (rc 2 rfl (zak (r:=zbP) [kI uu,kI wire] [] (⟨uu,wire⟩:zQ) rfl zwR rfl rfl) (rl 0 [1] 13 call150 (FnOk.le (ins':=[kN,.rc zbP [0] (⟨uu,wire⟩:zQ)]) (zzH pY) ⟨zgm _ _,vU _,trivial⟩) rf)) (jb h fun g pW h=>jg [0,2,3,10] [] [(26,kB g)] ?_ ?_))
 ·refine (rsI 3 21 pW ?_ ?_)<;>intro pV pW
  ·cases pW;exact rgg
  refine jb pW fun vV ud pW=>?_;cases pW;exact (rl 2 [0] 14 call151 (ztJ ud) rgg)
 refine jI h ?_ ?_<;>intro pX h
 ·refine jp ?_;cases h;exact zz lw
 refine jp (jI h ?_ ?_)<;>intro pZ h
 ·refine jb h fun v8 uj h=>jr (rl 4 [15] 14 call152 (zlK uj) rf) (jb h fun rv4 uA h=>jr (rc 3 rfl (zgv [.sl Rp.byte [0] b,.own Rp.byte 5 16 [] v8,.sl Rp.byte [0] value] 17 [0,16] ([b,v8,value]:(List (List UInt8))) rfl zqQ rfl rfl rfl rfl) (rl 0 [17,0,16] 16 call66 (zcr uA) rf)) ?_);cases h;exact zz (lks [] [(18,2)] lzz)
 refine jb h fun rv5 uK h=>jr (rc 3 rfl (zgv [.sl Rp.byte [0] b,.own Rp.byte 5 15 [] rv.1,.sl Rp.byte [0] value] 19 [0,15] ([b,rv.1,value]:(List (List UInt8))) rfl zqQ rfl rfl rfl rfl) (rl 0 [19,0,15] 18 call66 (zcr uK) rf)) ?_;cases h;exact zz (lks [] [(20,2)] lzz)
theorem zuz (h:zjU k=some r):vT 115 [kI k] [kI r]:=by
 refine fi 9 func115 fun Xt=>?_
 unfold zjU at h;refine jp (jb h fun rv pY h=>jr (rl 1 [1] 9 call149 (zog pY) rf) (zm (jp (jI h ?_ ?_))))<;>intro pV h
 ·cases h;exact jz
 refine jp (jI h ?_ ?_)<;>intro pX h
 ·cases h;exact jz
 refine zS ?_;cases h;exact jz
theorem znj (ve:∀{sv:(List ze)} {f:zb} {v:za} {r:Bool},xj sv f v=some r->vT 21 [.sl zh [0] sv,.rc zd [0] f,.rc zf [0] v] [kB r]) (vr:∀{sv:(List ze)} {uo:Int} {x:zc} {r:Bool},xk sv uo x=some r->vT 34 [.sl zh [0] sv,kI uo,.rc zi [0] x] [kB r]) (h:zeo xj xk sv f v=some r):vT 21 [.sl zh [0] sv,.rc zd [0] f,.rc zf [0] v] [kB r]:=by
 refine fi 111 func21 fun Xt=>?_
 unfold zeo at h;refine jr (ral 1 [11] [.rc zf [0] v] rfl (zhl 12 (zB [0] v) [0] rfl rfl rfl (by rw [zt]<;>rfl) rfl) rfl rf) (jb h fun g pW h=>jg [0,4,5] [11,12] [(29,kB g)] ?_ ?_)
 ·refine jb pW fun rv pY pW=>(rc 1 rfl (lw0 11 call40 (ziQ pY) (.l (zam [0] v))) (rsI 2 14 pW ?_ ?_))<;>intro pV pW
  ·cases pW;exact (rel [] lzz)
  refine jb pW fun vV ud pW=>(rc 1 rfl (lw0 11 call40 (ziQ ud) (.l (zam [0] v))) (rsI 2 18 pW ?_ ?_))<;>intro pX pW
  ·refine (rsI 6 24 pW ?_ ?_)<;>intro pZ pW
   ·cases pW;exact (rel [] lzz)
   refine jb pW fun v8 uj pW=>?_;cases pW;exact (rl 2 [1] 11 call41 (zgt uj) (rel [] lzz))
  refine jb pW fun rv4 uA pW=>?_;cases pW;exact (rl 8 [1] 11 call41 (zgt uA) (rel [] lzz))
 refine jI h ?_ ?_<;>intro p9 h
 ·refine jp ?_;obtain rfl:=(sj h);exact zz lzz
 refine jp (jp (zm (jb h fun q ue h=>jL ue [0,4,5] [11,12] (fun s=>[(7,kB s.1),(8,kI s.2)]) (fun o=> .X 0 [0,4,5] [11,12] [(7,kB o)] []) ?_ lzz ?_)))
 ·clear h;intro s o h;obtain ⟨ok,i⟩:=s;replace h:zbq f v ok i=some o:=h;unfold zbq at h;refine jp (jI h ?_ ?_)<;>intro uh h
  ·refine zm (jb h fun g2 uc h=>jn (.N [0,4,5,8] [11,12] [(7,kB g2)] []) ?_ (zfz ?_))
   ·rcases zeP uc with ⟨ui,uc⟩| ⟨ui,uc⟩
    ·refine jb uc fun rv5 uK uc=>?_;rcases zeP uc with ⟨uq,uc⟩| ⟨uq,uc⟩
     ·refine jb uc fun x ul uc=>jb uc fun rv6 uY uc=>jb uc fun x2 up uc=>?_;cases uc;exact jd [0,4,5,7,8] [11,12] zcM (by exact (lw_e (dg 37 ui (lwn 2 (lx (lf1 42 (lcd [kI f.Kind] 12 call42 (zdo uK))) (lw_e (dg 42 uq (lwn 5 (di [0] zuq.el ul (lw_e (lx (lf1 43 (lcd [kI f.Kind,kU x] 12 call43 (zic uY))) (lwn 3 (di [0] zuq.el up l0))))))))))))) (zY lzz)
     cases uc;exact jd [0,4,5,7,8] [11,12] zcM (by exact (lw_e (dg 37 ui (lwn 2 (lx (lf1 42 (lcd [kI f.Kind] 12 call42 (zdo uK))) (lw_e (dg 42 uq l0))))))) (zY lzz)
    cases uc;exact jd [0,4,5,7,8] [11,12] zcM (by exact (lw_e (dg 37 ui l0))) (zY lzz)
   refine zS ?_;cases h;exact jy
  cases h;exact zX rfl lzz
 refine zau _ rfl (jp (zm (jb h fun q2 ur h=>jL ur [0,4,5] [11,12] (fun s=>[(7,kB s.1),(9,kI s.2)]) (fun o=> .X 2 [0,4,5] [11,12] [(7,kB o)] []) ?_ lzz ?_)))
 ·clear h;intro s o h;obtain ⟨ok4,i2⟩:=s;replace h:zbr f v ok4 i2=some o:=h;unfold zbr at h;refine jp (jI h ?_ ?_)<;>intro uv h
  ·refine zm (jb h fun g3 uk h=>jg [0,4,5,9] [11,12] [(7,kB g3)] ?_ ?_)
   ·refine (rsI 2 67 uk ?_ ?_)<;>intro ut uk
    ·refine (rsI 4 71 uk ?_ ?_)<;>intro uC uk
     ·cases uk;exact (rel [] lzz)
     refine (rsI 4 75 uk ?_ ?_)<;>intro uM uk
     ·refine jb uk fun x3 uw uk=>jb uk fun v3 uD uk=>jb uk fun rv7 uZ uk=>?_;cases uk;exact (rx 3 [0] zlg.el uw rfl rfl (ra 1 [kS x3] rfl (zmF 15 rfl underlying9 underlying35 underlying5 uD) rfl (rl 0 [15] 14 call44 (znf uZ) (rel [] lzz))))
     cases uk;exact (rel [] lzz)
    cases uk;exact (rel [] lzz)
   refine zS ?_;cases h;exact jy
  cases h;exact zX rfl lzz
 refine zau _ rfl (jp (zm (jb h fun q3 vd h=>jL vd [0,4,5] [11,12] (fun s=>[(7,kB s.1),(10,kI s.2)]) (fun o=> .x 4 ⟨[(7,kB o)],[]⟩) ?_ lzz ?_)))
 ·clear h;intro s o h;obtain ⟨ok7,i3⟩:=s;replace h:zbs f xk sv v ok7 i3=some o:=h;unfold zbs at h;refine jp (jI h ?_ ?_)<;>intro uE h
  ·refine zm (jb h fun g4 uN h=>jn (.N [0,4,5,10] [11,12] [(7,kB g4)] []) ?_ (zfz ?_))
   ·rcases zeP uN with ⟨uF,uN⟩| ⟨uF,uN⟩
    ·rcases zeP uN with ⟨uH,uN⟩| ⟨uH,uN⟩
     ·refine jb uN fun x4 uG uN=>jb uN fun rv8 u0 uN=>?_;cases uN;exact jd [0,4,5,7,10] [11,12] zcM (by exact (lw_e (dg 93 uF (lwn 4 (dg 98 uH (lwn 6 (di [0] zAR.el uG (lx (lde zi [0] x4 zBU) (lx (lf1 34 (lc0 15 call34 (vr u0))) l0))))))))) (zY lzz)
     cases uN;exact jd [0,4,5,7,10] [11,12] zcM (by exact (lw_e (dg 93 uF (lwn 4 (dg 98 uH l0))))) (zY lzz)
    cases uN;exact jd [0,4,5,7,10] [11,12] zcM (by exact (lw_e (dg 93 uF l0))) (zY lzz)
   refine zS ?_;cases h;exact jy
  cases h;exact zX rfl lzz
 refine zau _ rfl (jp ?_);obtain rfl:=(sj h);exact zz lzz
theorem zmy (ve:∀{sv:(List ze)} {f:zb} {v:za} {r:Bool},xj sv f v=some r->vT 21 [.sl zh [0] sv,.rc zd [0] f,.rc zf [0] v] [kB r]) (vr:∀{sv:(List ze)} {uo:Int} {x:zc} {r:Bool},xk sv uo x=some r->vT 34 [.sl zh [0] sv,kI uo,.rc zi [0] x] [kB r]) (h:zea xj xk sv uo x=some r):vT 34 [.sl zh [0] sv,kI uo,.rc zi [0] x] [kB r]:=by
 refine fi 118 func34 fun Xt=>?_
 unfold zea at h;refine jr (rc 0 rfl (lbx 11 [0] (zaM [0] x)) rf) (jg [0,1,5] [11] [(19,kB ((decide (uo<0))|| (decide (uo>=(sv.length:Int)))))] ?_ ?_)
 ·refine (rsl 3 [] 14 (decide (uo<0)) ?_ ?_)<;>intro pV
  · exact (rbl [] 19 true rfl (by grind))
  exact (rbl [] 19 (decide (uo>=(sv.length:Int))) rfl (by grind))
 refine jI h ?_ ?_<;>intro pX h
 ·refine jp ?_;obtain rfl:=(sj h);exact zz lzz
 refine jp (zm (jb h fun q ue h=>jL ue [0,1,5] [11] (fun s=>[(7,kI s)]) (fun| (.inl v_)=> .X 0 [0,1,5] [11] [] []| (.inr v_)=> .r ⟨[(6,kB false)],[]⟩) ?_ lzz ?_))
 ·clear h;intro i o h;unfold zaX at h;refine jp (jI h ?_ ?_)<;>intro pZ h
  ·refine zm (jb h fun x2 up h=>jb h fun x3 uw h=>jb h fun rv pY h=>jd [0,1,5,7,8] [11] zcM (by exact (lwn 2 (di [0] zgU.el up (lx (lde zh [0] x2 zuU) (lwn 3 (di [0] zox.el uw (lw_e (ly [.ep zf [0] x3 0] (zrf (.int .i64 x3.Number) rfl rfl (by rw [zt]<;>rfl) rfl) rfl (lx (lf1 35 (lc0 11 call35 (zgu pY))) l0))))))))) (jb h fun g pW h=>jn (.N [0,1,5,7] [11] [(77,kB g)] []) ?_ (zfz ?_)))
   ·rcases zeP pW with ⟨p9,pW⟩| ⟨p9,pW⟩
    ·cases pW;exact jd [0,1,5,7,77] [11] zcM (by exact (lwn 2 (dg 39 p9 l0))) (zY lzz)
    rcases zeP pW with ⟨uh,pW⟩| ⟨uh,pW⟩
    ·refine jb pW fun x4 uG pW=>jb pW fun x5 uJ pW=>?_;rcases zeP pW with ⟨ui,pW⟩| ⟨ui,pW⟩
     ·cases pW;exact jd [0,1,5,7,77] [11] zcM (by exact (lwn 2 (dg 39 p9 (lwn 2 (dg 42 uh (lwn 4 (di [0] zox.el uG (lw_e (ly [.ep zf [0] x4 0] (zrf (.int .i64 x4.Number) rfl rfl (by rw [zt]<;>rfl) rfl) rfl (lwn 3 (di [0] zox.el uJ (lw_e (ly [.ep zf [0] x5 0] (zrf (.int .i64 x5.Number) rfl rfl (by rw [zt]<;>rfl) rfl) rfl (lwn 3 (dg 59 ui l0))))))))))))))) (zY lzz)
     refine jb pW fun x6 uX pW=>jb pW fun x7 vf pW=>jb pW fun x8 vJ pW=>jb pW fun vV ud pW=>?_;cases pW;exact jd [0,1,5,7,77] [11] zcM (by exact (lwn 2 (dg 39 p9 (lwn 2 (dg 42 uh (lwn 4 (di [0] zox.el uG (lw_e (ly [.ep zf [0] x4 0] (zrf (.int .i64 x4.Number) rfl rfl (by rw [zt]<;>rfl) rfl) rfl (lwn 3 (di [0] zox.el uJ (lw_e (ly [.ep zf [0] x5 0] (zrf (.int .i64 x5.Number) rfl rfl (by rw [zt]<;>rfl) rfl) rfl (lwn 3 (dg 59 ui (lwn 3 (di [0] zgU.el uX (lw_e (lx (ldl zh [0] x6 1 zd x6.Fields) (lw_e (di [0] zmr.el vf (lx (lde zd [0] x7 zrB) (lwn 3 (di [0] zox.el vJ (lx (lde zf [0] x8 zzO) (lx (lf1 21 (lc0 11 call21 (ve ud))) l0)))))))))))))))))))))))))) (zY lzz)
    refine jb pW fun x9 vK pW=>jb pW fun x10 vL pW=>jb pW fun x11 vM pW=>jb pW fun v8 uj pW=>?_;cases pW;exact jd [0,1,5,7,77] [11] zcM (by exact (lwn 2 (dg 39 p9 (lwn 2 (dg 42 uh (lwn 20 (di [0] zgU.el vK (lw_e (lx (ldl zh [0] x9 1 zd x9.Fields) (lw_e (di [0] zmr.el vL (lx (lde zd [0] x10 zrB) (lwn 3 (di [0] zox.el vM (lx (lde zf [0] x11 zzO) (lx (lf1 21 (lc0 11 call21 (ve uj))) l0)))))))))))))))) (zY lzz)
   refine jI h ?_ ?_<;>intro uq h
   ·cases h;exact jz'
   refine zS ?_;cases h;exact jy
  cases h;exact zX rfl lzz
 rcases q with u| u4
 ·refine zau _ rfl (jp (zm (jb h fun q2 ur h=>jL ur [0,1,5] [11] (fun s=>[(9,kI s)]) (fun| (.inl v_)=> .x 2 ⟨[],[]⟩| (.inr v_)=> .r ⟨[(6,kB false)],[]⟩) ?_ lzz ?_)))
  ·clear h;intro i2 o h;unfold zaY at h;refine jp (jI h ?_ ?_)<;>intro uv h
   ·refine zm (jb h fun x12 vN h=>jb h fun v3 uD h=>jb h fun rv4 uA h=>jr (rx 3 [0] zlg.el vN rfl rfl (ra 1 [kS x12] rfl (zmF 14 rfl underlying9 underlying35 underlying5 uD) rfl (rl 0 [14] 13 call67 (znC uA) (rfl' [15])))) (jb h fun g2 uc h=>jn (.N [0,1,5,9] [11] [(117,kB g2)] []) ?_ (zfz ?_)))
    ·rcases zeP uc with ⟨ut,uc⟩| ⟨ut,uc⟩
     ·cases uc;exact jd [0,1,5,9,117] [11] zcM (by exact (lwn 2 (dg 96 ut l0))) (zY lzz)
     refine jb uc fun x13 vt uc=>?_;rcases zeP uc with ⟨uC,uc⟩| ⟨uC,uc⟩
     ·cases uc;exact jd [0,1,5,9,117] [11] zcM (by exact (lwn 2 (dg 96 ut (lwn 5 (di [0] zlg.el vt (lwn 4 (dg 107 uC l0))))))) (zY lzz)
     refine jb uc fun x14 vO uc=>jb uc fun rv5 uK uc=>?_;cases uc;exact jd [0,1,5,9,117] [11] zcM (by exact (lwn 2 (dg 96 ut (lwn 5 (di [0] zlg.el vt (lwn 4 (dg 107 uC (lwn 2 (di [0] zgU.el vO (lx (lde zh [0] x14 zuU) (lwn 2 (lx (lf1 35 (lc0 14 call35 (zgu uK))) l0)))))))))))) (zY lzz)
    refine jI h ?_ ?_<;>intro uM h
    ·cases h;exact jz'
    refine zS ?_;cases h;exact jy
   cases h;exact zX rfl lzz
  rcases q2 with u2| u3
  ·refine zau _ rfl (jp ?_);obtain rfl:=(sj h);exact zz lzz
  obtain rfl:=(sj h);exact zeQ lzz
 obtain rfl:=(sj h);exact zeQ lzz
theorem zfW (ug:Nat):(∀{sv:(List ze)} {f:zb} {v:za} {r:Bool},zbp ug sv f v=some r->vT 21 [.sl zh [0] sv,.rc zd [0] f,.rc zf [0] v] [kB r])/\(∀{sv:(List ze)} {uo:Int} {x:zc} {r:Bool},zdT ug sv uo x=some r->vT 34 [.sl zh [0] sv,kI uo,.rc zi [0] x] [kB r]):=by
  induction ug with
  | zero=>exact ⟨fun h=>absurd h nofun,fun h=>absurd h nofun⟩
  | succ ug ih=>exact ⟨fun h=>znj (fun hh=>ih.1 hh) (fun hh=>ih.2 hh) h,fun h=>zmy (fun hh=>ih.1 hh) (fun hh=>ih.2 hh) h⟩
theorem znF (h:zbp ug sv f v=some r):vT 21 [.sl zh [0] sv,.rc zd [0] f,.rc zf [0] v] [kB r]:=(zfW ug).1 h
theorem zlT (vu:∀{sv:(List ze)} {uo:Int} {x:zc} {r:(List UInt8)},xl sv uo x=some r->vT 15 [.sl zh [0] sv,kI uo,.rc zi [0] x] [.own Rp.byte 5 2 [] r]) (vv:∀{sv:(List ze)} {f:zb} {v:za} {r:(List UInt8)},xm sv f v=some r->vT 22 [.sl zh [0] sv,.rc zd [0] f,.rc zf [0] v] [.own Rp.byte 5 2 [] r]) (h:zdK xl xm sv uo x=some r):vT 15 [.sl zh [0] sv,kI uo,.rc zi [0] x] [.own Rp.byte 5 2 [] r]:=by
 refine fi 59 func15 fun Xt=>?_
 unfold zdK at h;refine jr (rc 0 rfl (lbx 15 [0] (zaM [0] x)) rf) (jp (jp (zm (jb h fun q ue h=>jL ue [0,1,5] [15] (fun s=>[(7,.own Rp.byte 5 18 [] s.1),(8,kI s.2)]) (fun o=> .X 0 [5] [15] [(7,.own Rp.byte 5 18 [] o)] []) ?_ lw ?_))))
 ·clear h;intro s o h;obtain ⟨out,i⟩:=s;replace h:zaF xm uo sv x out i=some o:=h;unfold zaF at h;refine jp (jI h ?_ ?_)<;>intro pV h
  ·refine zm (jb h fun x2 up h=>jb h fun x3 uw h=>jb h fun x4 uG h=>jb h fun rv pY h=>jb h fun x5 uJ h=>jb h fun x6 uX h=>jb h fun vV ud h=>jb h fun v uy h=>jd [0,1,5,7,8] [15] zcM (by exact (lwn 4 (di [0] zgU.el up (lw_e (lx (ldl zh [0] x2 1 zd x2.Fields) (lwn 2 (di [0] zgU.el uw (lx (lde zh [0] x3 zuU) (lwn 3 (di [0] zox.el uG (lw_e (ly [.ep zf [0] x4 0] (zrf (.int .i64 x4.Number) rfl rfl (by rw [zt]<;>rfl) rfl) rfl (lx (lf1 35 (lc0 17 call35 (zgu pY))) (di [0] zmr.el uJ (lx (lde zd [0] x5 zrB) (lwn 3 (di [0] zox.el uX (lx (lde zf [0] x6 zzO) (lx (lf1 22 (lc0 17 call22 (vv ud))) (lx (lao 18 [] 5 19 [] [] zcd.el uy (.inl zcm)) l0)))))))))))))))))))) (zS ?_));cases h;exact jy
  cases h;exact zX rfl lzz
 refine zau _ rfl (jp (zm (jb h fun q2 ur h=>jL ur [5] [15] (fun s=>[(7,.own Rp.byte 5 18 [] s.1),(9,kI s.2)]) (fun o=> .x 2 ⟨[(7,.own Rp.byte 5 18 [] o)],[]⟩) ?_ lzz ?_)))
 ·clear h;intro s o h;obtain ⟨out3,i2⟩:=s;replace h:zaG x out3 i2=some o:=h;unfold zaG at h;refine jp (jI h ?_ ?_)<;>intro pX h
  ·refine zm (jb h fun x7 vf h=>jb h fun v2 uB h=>jr (rx 4 [0] zlg.el vf rfl rfl (ra 1 [.own Rp.byte 5 18 [] out3,kS x7] rfl (zEz 18 rfl underlying9 zGM (zlX _ _ _ _ _) uB) rfl rf)) (zS ?_));cases h;exact jy
  cases h;exact zX rfl lzz
 refine zau _ rfl (jp ?_);obtain rfl:=(sj h);exact zz (lks [] [(18,2)] lzz)
theorem zmz (vu:∀{sv:(List ze)} {uo:Int} {x:zc} {r:(List UInt8)},xl sv uo x=some r->vT 15 [.sl zh [0] sv,kI uo,.rc zi [0] x] [.own Rp.byte 5 2 [] r]) (vv:∀{sv:(List ze)} {f:zb} {v:za} {r:(List UInt8)},xm sv f v=some r->vT 22 [.sl zh [0] sv,.rc zd [0] f,.rc zf [0] v] [.own Rp.byte 5 2 [] r]) (h:zeb ug xl xm sv f v=some r):vT 22 [.sl zh [0] sv,.rc zd [0] f,.rc zf [0] v] [.own Rp.byte 5 2 [] r]:=by
 refine fi 81 func22 fun Xt=>?_
 unfold zeb at h;refine jr (ral 1 [15] [.rc zf [0] v] rfl (zhl 16 (zB [0] v) [0] rfl rfl rfl (by rw [zt]<;>rfl) rfl) rfl rf) (jb h fun rv pY h=>jg [0,4,5] [15,16] [(16,kB (rv&&f.Repeated))] ?_ ?_)
 ·refine (rl 2 [1] 15 call42 (zdo pY) (rsl 1 [] 13 rv ?_ ?_))<;>intro pV
  · exact (rbl [] 16 f.Repeated rfl (by grind))
  exact (rbl [] 16 false rfl (by grind))
 refine jI h ?_ ?_<;>intro pX h
 ·refine jb h fun vV ud h=>jb h fun v8 uj h=>jd [6] [] zcM (by exact (lwn 6 (lx (lf1 46 (lc0 15 call46 (znE ud))) (lx (lf1 45 (lcd [kI f.Number,kI 2,.own Rp.byte 5 17 [] vV] 16 call45 (zfG uj))) l0)))) ?_;obtain rfl:=(sj h);exact zz (lks [] [(18,2)] lzz)
 refine jb h fun rv4 uA h=>jr (rl 2 [1] 17 call42 (zdo uA) rf) (jI h ?_ ?_)<;>intro pZ h
 ·refine jb h fun rv5 uK h=>jb h fun x ul h=>jb h fun rv6 uY h=>jb h fun rv7 uZ h=>jd [6] [] zcM (by exact (lwn 4 (lx (lf1 47 (lcd [kI f.Kind] 17 call47 (znD uK))) (lwn 4 (di [0] zuq.el ul (lw_e (lx (lf1 48 (lcd [kI f.Kind,kU x] 17 call48 (zjm uY))) (lx (lf1 45 (lcd [kI f.Number,kI rv5,.own Rp.byte 5 19 [] rv6] 18 call45 (zfG uZ))) l0)))))))) ?_;obtain rfl:=(sj h);exact zz (lks [] [(20,2)] lzz)
 refine jp (jp (zm (jb h fun q ue h=>jL ue [0,4,5] [15,16] (fun s=>[(7,.own Rp.byte 5 24 [] s.1),(8,kI s.2)]) (fun o=> .X 0 [0,4,5] [15,16] [(7,.own Rp.byte 5 24 [] o)] []) ?_ lw ?_)))
 ·clear h;intro s o h;obtain ⟨out,i⟩:=s;replace h:zaZ ug f v out i=some o:=h;unfold zaZ at h;refine jp (jI h ?_ ?_)<;>intro p9 h
  ·refine zm (jb h fun x2 up h=>jb h fun v3 uD h=>jb h fun rv8 u0 h=>jb h fun v4 uR h=>jd [0,4,5,7,8] [15,16] zcM (by exact (lwn 6 (di [0] zlg.el up (lw_e (ly [kS x2] (zmF 25 rfl underlying9 underlying35 underlying5 uD) rfl (lx (lf1 45 (lcd [kI f.Number,kI 2,.sl Rp.byte [25] v3] 24 call45 (zfG u0))) (lx (lao 24 [] 5 26 [] [] zcd.el uR (.inl zcm)) l0))))))) (zS ?_));cases h;exact jy
  cases h;exact zX rfl lzz
 refine zau _ rfl (jp (zm (jb h fun q2 ur h=>jL ur [0,4,5] [15,16] (fun s=>[(7,.own Rp.byte 5 24 [] s.1),(9,kI s.2)]) (fun o=> .x 2 ⟨[(7,.own Rp.byte 5 24 [] o)],[]⟩) ?_ lzz ?_)))
 ·clear h;intro s o h;obtain ⟨out3,i2⟩:=s;replace h:zba ug f xl sv v out3 i2=some o:=h;unfold zba at h;refine jp (jI h ?_ ?_)<;>intro uh h
  ·refine zm (jb h fun x3 uw h=>jb h fun rv9 vg h=>jb h fun rv10 vP h=>jb h fun v5 vQ h=>jd [0,4,5,7,9] [15,16] zcM (by exact (lwn 9 (di [0] zAR.el uw (lx (lde zi [0] x3 zBU) (lx (lf1 15 (lc0 26 call15 (vu vg))) (lx (lf1 45 (lcd [kI f.Number,kI 2,.own Rp.byte 5 28 [] rv9] 27 call45 (zfG vP))) (lx (lao 24 [] 5 29 [] [] zcd.el vQ (.inl zcm)) l0))))))) (zS ?_));cases h;exact jy
  cases h;exact zX rfl lzz
 refine zau _ rfl (jp ?_);obtain rfl:=(sj h);exact zz (lks [] [(24,2)] lzz)
theorem zfF (ug:Nat):(∀{sv:(List ze)} {uo:Int} {x:zc} {r:(List UInt8)},zdz ug sv uo x=some r->vT 15 [.sl zh [0] sv,kI uo,.rc zi [0] x] [.own Rp.byte 5 2 [] r])/\(∀{sv:(List ze)} {f:zb} {v:za} {r:(List UInt8)},zbN ug sv f v=some r->vT 22 [.sl zh [0] sv,.rc zd [0] f,.rc zf [0] v] [.own Rp.byte 5 2 [] r]):=by
  induction ug with
  | zero=>exact ⟨fun h=>absurd h nofun,fun h=>absurd h nofun⟩
  | succ ug ih=>exact ⟨fun h=>zlT (fun hh=>ih.1 hh) (fun hh=>ih.2 hh) h,fun h=>zmz (fun hh=>ih.1 hh) (fun hh=>ih.2 hh) h⟩
theorem znk (h:zbN ug sv f v=some r):vT 22 [.sl zh [0] sv,.rc zd [0] f,.rc zf [0] v] [.own Rp.byte 5 2 [] r]:=(zfF ug).2 h
end Go.Proofs.YtkgohoggipdokaaGreat
