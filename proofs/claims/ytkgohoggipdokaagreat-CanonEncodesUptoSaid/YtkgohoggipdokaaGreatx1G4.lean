/-
  The Go functions do what the plain functions say. No condition.
-/
import Derived.Test.YtkgohoggipdokaaGreatx1G3
set_option autoImplicit true
set_option relaxedAutoImplicit true
namespace Go.Proofs.YtkgohoggipdokaaGreat
open Tryz
open Go Go.RowKit
set_option linter.unusedVariables false
set_option maxRecDepth 100000
set_option maxHeartbeats 3200000
theorem znp (h:zeQ c uf f=some r):zrD prog 120 [.ag [kI c.size,.sl vR [0] c.kinds,.om zD Rp.bool 2 [0] c.names,.om zE Rp.bool 3 [0] c.numbers],kI uf,.rc ze [0] f] [kI r.1] [.ag [.any,.any,.om zD Rp.bool 2 [0] r.2.1,.om zE Rp.bool 3 [0] r.2.2],.any,.any]:=by
 refine zvk (E:=⟨[(0,.ag [.any,.any,.om zD Rp.bool 2 [0] r.2.1,.om zE Rp.bool 3 [0] r.2.2]),(6,kI r.1)],[]⟩) 63 [0] func120 rfl rfl rfl ⟨rfl,trivial⟩ ⟨.inr ⟨rfl,rfl⟩,.inl rfl,.inl rfl,trivial⟩ rfl (fun Xt old=>?_);refine zgf ?_;unfold zeQ at h;refine jq [11,12] (jd [0,3,5,7,8] [11,12,13,14] zcM (by exact (lwn 3 (lx (zai (r:=zD) [kI uf,kS f.Name] [] (⟨uf,f.Name⟩:zp) rfl zDL rfl rfl) (lwn 3 (lx (zai (r:=zE) [kI uf,kI f.Number] [] (⟨uf,f.Number⟩:zr) rfl zGD rfl rfl) (lx (zye 13 [kI 0,kS []] rfl zeroValue233 rfl) (lx (zye 14 [kI 0,kI 0] rfl zeroValue235 rfl) (ly [.ptr 13 0,.rc zD [] (⟨uf,f.Name⟩:zp)] (zkr (r:=zD) (b:=⟨13,233,[kI 0,kS []]⟩) (off:=0) [kI uf,kS f.Name] rfl sizeOf233 rfl rfl rfl rfl) rfl (ly [.ptr 14 0,.rc zE [] (⟨uf,f.Number⟩:zr)] (zkr (r:=zE) (b:=⟨14,235,[kI 0,kI 0]⟩) (off:=0) [kI uf,kI f.Number] rfl sizeOf235 rfl rfl rfl rfl) rfl l0))))))))) (zm (jb h fun rv pY h=>jr (rl 2 [1] 13 call156 (zml pY) rf) (jI h ?_ ?_))))<;>intro pV h
 ·refine jp ?_;cases h;exact zlZ lw
 refine jr (lb 2 zD [] (⟨uf,f.Name⟩:zp) (ra 0 [.om zD Rp.bool 2 [0] c.names,.rc zD [] (⟨uf,f.Name⟩:zp)] rfl (ztx (rk:=zD) (rv:=Rp.bool) (m:=c.names) (k:=(⟨uf,f.Name⟩:zp)) (kB ((mget c.names (⟨uf,f.Name⟩:zp)).getD false)) rfl zsB (zeE rfl) (zwr rfl rfl rfl)) rfl rf)) (jI h ?_ ?_)<;>intro pX h
 ·refine jp ?_;cases h;exact zlZ lw
 refine jb h fun vV ud h=>jr (rl 2 [1] 13 call157 (zpQ ud) rf) (jI h ?_ ?_)<;>intro pZ h
 ·refine jp ?_;cases h;exact zlZ lw
 refine jr (lb 2 zE [] (⟨uf,f.Number⟩:zr) (ra 0 [.om zE Rp.bool 3 [0] c.numbers,.rc zE [] (⟨uf,f.Number⟩:zr)] rfl (ztx (rk:=zE) (rv:=Rp.bool) (m:=c.numbers) (k:=(⟨uf,f.Number⟩:zr)) (kB ((mget c.numbers (⟨uf,f.Number⟩:zr)).getD false)) rfl zAE (zeE rfl) (zwr rfl rfl rfl)) rfl rf)) (jI h ?_ ?_)<;>intro p9 h
 ·refine jp ?_;cases h;exact zlZ lw
 refine jb h fun wa ul h=>jr (rl 4 [0] 13 call158 (zjd ul) rf) (jI h ?_ ?_)<;>intro ug h
 ·refine jp ?_;cases h;exact zlZ lw
 refine jb h fun g pW h=>jg [0,3,5,7,8] [11,12,13,14] [(44,kB g)] ?_ ?_
 ·refine (rsI 3 47 pW ?_ ?_)<;>intro uj pW
  ·refine jb pW fun rv4 uB pW=>?_;cases pW;exact (lb 0 ze [] f (rl 0 [1] 13 call159 (zqG uB) (rel [] lzz)))
  cases pW;exact (rel [] lzz)
 refine jI h ?_ ?_<;>intro up h
 ·refine jp ?_;cases h;exact zlZ lw
 refine jb h fun rv5 uK h=>jr (lb 1 ze [] f (rl 0 [0,2,3] 13 call160 (znq uK) rf)) (jI h ?_ ?_)<;>intro uu h
 ·refine jp ?_;cases h;exact zlZ lw
 refine zS (jr (lb 2 zD [] (⟨uf,f.Name⟩:zp) (rms (C1:=[]) 0 [] 2 [0] c.names (⟨uf,f.Name⟩:zp) true [0] zsB (zeE rfl) (zfs rfl rfl) rf)) (jr (lb 2 zE [] (⟨uf,f.Number⟩:zr) (rms (C1:=[]) 0 [] 3 [0] c.numbers (⟨uf,f.Number⟩:zr) true [0] zAE (zeE rfl) (zfs rfl rfl) rf)) (jp ?_)));cases h;exact zlZ lw
theorem zxg (h:zmo b=some r):vT 145 [.sl Rp.byte [0] b] [kB r]:=by
 refine fi 8 func145 fun Xt=>?_
 unfold zmo at h;refine jp (jb h fun rv pY h=>jr (rl 1 [0] 9 call175 (zxf pY) rf) ?_);cases h;exact zz lzz
theorem zqQ (h:zgG m text=some r):vT 142 [.rc zi [0] m,kS text] [kB r]:=by
 refine fi 33 func142 fun Xt=>?_
 unfold zgG at h;refine jr (ra 0 [.rc zi [0] m] rfl (zjo 11 (zbj [0] m) [0] rfl rfl rfl rfl rfl) rfl rf) (jb h fun v uy h=>jb h fun rv pY h=>jr (ra 1 [kS text] rfl (zmG 12 rfl underlying9 underlying35 underlying5 uy) rfl (rl 0 [12] 11 call164 (ztP pY) (rfl' [13]))) (jg [2,5] [11,13] [(23,kB ((rv.2 !=0)|| (rv.1.To !=(text.length:Int))))] ?_ ?_))
 ·refine (rsl 3 [] 17 (rv.2 !=0) ?_ ?_)<;>intro pV
  · exact (rbl [] 23 true rfl (by grind))
  exact (rbl [] 23 (rv.1.To !=(text.length:Int)) rfl (by grind))
 refine jI h ?_ ?_<;>intro pX h
 ·refine jp ?_;obtain rfl:=(sj h);exact zz lzz
 refine jb h fun vV ud h=>jr (rl 3 [0] 12 call64 (zhq ud) rf) ?_;cases h;exact jz
theorem zwT (h:zmj k=some r):vT 147 [kI k] [kI r]:=by
 refine fi 5 func147 fun Xt=>?_
 unfold zmj at h;refine jp (jb h fun rv pY h=>jr (rl 1 [1] 9 call149 (zoj pY) rf) ?_);obtain rfl:=(sj h);exact zz lzz
theorem zph (h:ziw b ut wire value=some r):vT 116 [.sl Rp.byte [0] b,kI ut,kI wire,.sl Rp.byte [0] value] [.own Rp.byte 5 2 [] r.1,k8 r.2]:=by
 refine fi 39 func116 fun Xt=>?_
 unfold ziw at h;refine jp (jb h fun rv pY h=>jr (rc 2 rfl (zai (r:=zbP) [kI ut,kI wire] [] (⟨ut,wire⟩:zP) rfl zwZ rfl rfl) (rl 0 [1] 13 call150 (FnOk.le (ins':=[kN,.rc zbP [0] (⟨ut,wire⟩:zP)]) (zzQ pY) ⟨zgl _ _,vU _,trivial⟩) rf)) (jb h fun g pW h=>jg [0,2,3,10] [] [(26,kB g)] ?_ ?_))
 ·refine (rsI 3 21 pW ?_ ?_)<;>intro pV pW
  ·cases pW;exact rgg
  refine jb pW fun vV ud pW=>?_;cases pW;exact (rl 2 [0] 14 call151 (ztQ ud) rgg)
 refine jI h ?_ ?_<;>intro pX h
 ·refine jp ?_;cases h;exact zz lw
 refine jp (jI h ?_ ?_)<;>intro pZ h
 ·refine jb h fun wa ul h=>jr (rl 4 [15] 14 call152 (zlM ul) rf) (jb h fun rv4 uB h=>jr (rc 3 rfl (zgt [.sl Rp.byte [0] b,.own Rp.byte 5 16 [] wa,.sl Rp.byte [0] value] 17 [0,16] ([b,wa,value]:(List (List UInt8))) rfl zqX rfl rfl rfl rfl) (rl 0 [17,0,16] 16 call66 (zcr uB) rf)) ?_);cases h;exact zz (lks [] [(18,2)] lzz)
 refine jb h fun rv5 uK h=>jr (rc 3 rfl (zgt [.sl Rp.byte [0] b,.own Rp.byte 5 15 [] rv.1,.sl Rp.byte [0] value] 19 [0,15] ([b,rv.1,value]:(List (List UInt8))) rfl zqX rfl rfl rfl rfl) (rl 0 [19,0,15] 18 call66 (zcr uK) rf)) ?_;cases h;exact zz (lks [] [(20,2)] lzz)
theorem zuE (h:zjX k=some r):vT 115 [kI k] [kI r]:=by
 refine fi 9 func115 fun Xt=>?_
 unfold zjX at h;refine jp (jb h fun rv pY h=>jr (rl 1 [1] 9 call149 (zoj pY) rf) (zm (jp (jI h ?_ ?_))))<;>intro pV h
 ·cases h;exact jz
 refine jp (jI h ?_ ?_)<;>intro pX h
 ·cases h;exact jz
 refine zS ?_;cases h;exact jz
theorem znJ (h:zfm sv ui=some r):vT 33 [.sl zi [0] sv,kI ui] [kI r]:=by
 refine fi 16 func33 fun Xt=>?_
 unfold zfm at h;refine jp (jb h fun rv pY h=>jr (rl 1 [0] 9 call20 (znm pY) rf) (jI h ?_ ?_))<;>intro pV h
 ·cases h;exact jz
 refine jg [] [] [(15,kB ((decide (ui<0))|| (decide (ui>=(sv.length:Int)))))] ?_ ?_
 ·refine (rsl 3 [] 10 (decide (ui<0)) ?_ ?_)<;>intro pX
  · exact (rbl [] 15 true rfl (by grind))
  exact (rbl [] 15 (decide (ui>=(sv.length:Int))) rfl (by grind))
 refine jI h ?_ ?_<;>intro pZ h
 ·cases h;exact jz
 cases h;exact jz
theorem znn (ve:∀{sv:(List zd)} {f:zb} {v:za} {r:Bool},xj sv f v=some r->vT 21 [.sl zi [0] sv,.rc ze [0] f,.rc zf [0] v] [kB r]) (vr:∀{sv:(List zd)} {ui:Int} {x:zc} {r:Bool},xk sv ui x=some r->vT 34 [.sl zi [0] sv,kI ui,.rc zh [0] x] [kB r]) (h:zeo xj xk sv f v=some r):vT 21 [.sl zi [0] sv,.rc ze [0] f,.rc zf [0] v] [kB r]:=by
 refine fi 111 func21 fun Xt=>?_
 unfold zeo at h;refine jr (ral 1 [11] [.rc zf [0] v] rfl (zjo 12 (zM [0] v) [0] rfl rfl rfl (by rw [zF]<;>rfl) rfl) rfl rf) (jb h fun g pW h=>jg [0,4,5] [11,12] [(29,kB g)] ?_ ?_)
 ·refine jb pW fun rv pY pW=>(rc 1 rfl (lw0 11 call40 (ziT pY) (.l (zca [0] v))) (rsI 2 14 pW ?_ ?_))<;>intro pV pW
  ·cases pW;exact (rel [] lzz)
  refine jb pW fun vV ud pW=>(rc 1 rfl (lw0 11 call40 (ziT ud) (.l (zca [0] v))) (rsI 2 18 pW ?_ ?_))<;>intro pX pW
  ·refine (rsI 6 24 pW ?_ ?_)<;>intro pZ pW
   ·cases pW;exact (rel [] lzz)
   refine jb pW fun wa ul pW=>?_;cases pW;exact (rl 2 [1] 11 call41 (zgr ul) (rel [] lzz))
  refine jb pW fun rv4 uB pW=>?_;cases pW;exact (rl 8 [1] 11 call41 (zgr uB) (rel [] lzz))
 refine jI h ?_ ?_<;>intro p9 h
 ·refine jp ?_;obtain rfl:=(sj h);exact zz lzz
 refine jp (jp (zm (jb h fun q ue h=>jL ue [0,4,5] [11,12] (fun s=>[(7,kB s.1),(8,kI s.2)]) (fun o=> .X 0 [0,4,5] [11,12] [(7,kB o)] []) ?_ lzz ?_)))
 ·clear h;intro s o h;obtain ⟨ok,i⟩:=s;replace h:zbs f v ok i=some o:=h;unfold zbs at h;refine jp (jI h ?_ ?_)<;>intro ug h
  ·refine zm (jb h fun g2 uc h=>jn (.N [0,4,5,8] [11,12] [(7,kB g2)] []) ?_ (zfv ?_))
   ·rcases zeP uc with ⟨uj,uc⟩| ⟨uj,uc⟩
    ·refine jb uc fun rv5 uK uc=>?_;rcases zeP uc with ⟨up,uc⟩| ⟨up,uc⟩
     ·refine jb uc fun x uk uc=>jb uc fun rv6 uY uc=>jb uc fun x2 uo uc=>?_;cases uc;exact jd [0,4,5,7,8] [11,12] zcM (by exact (lw_e (dg 37 uj (lwn 2 (lx (lf1 42 (lcd [kI f.Kind] 12 call42 (zdp uK))) (lw_e (dg 42 up (lwn 5 (di [0] zuv.el uk (lw_e (lx (lf1 43 (lcd [kI f.Kind,kU x] 12 call43 (zif uY))) (lwn 3 (di [0] zuv.el uo l0))))))))))))) (zX lzz)
     cases uc;exact jd [0,4,5,7,8] [11,12] zcM (by exact (lw_e (dg 37 uj (lwn 2 (lx (lf1 42 (lcd [kI f.Kind] 12 call42 (zdp uK))) (lw_e (dg 42 up l0))))))) (zX lzz)
    cases uc;exact jd [0,4,5,7,8] [11,12] zcM (by exact (lw_e (dg 37 uj l0))) (zX lzz)
   refine zS ?_;cases h;exact jy
  cases h;exact zV rfl lzz
 refine zat _ rfl (jp (zm (jb h fun q2 ur h=>jL ur [0,4,5] [11,12] (fun s=>[(7,kB s.1),(9,kI s.2)]) (fun o=> .X 2 [0,4,5] [11,12] [(7,kB o)] []) ?_ lzz ?_)))
 ·clear h;intro s o h;obtain ⟨ok4,i2⟩:=s;replace h:zbt f v ok4 i2=some o:=h;unfold zbt at h;refine jp (jI h ?_ ?_)<;>intro uu h
  ·refine zm (jb h fun g3 uq h=>jg [0,4,5,9] [11,12] [(7,kB g3)] ?_ ?_)
   ·refine (rsI 2 67 uq ?_ ?_)<;>intro uv uq
    ·refine (rsI 4 71 uq ?_ ?_)<;>intro uD uq
     ·cases uq;exact (rel [] lzz)
     refine (rsI 4 75 uq ?_ ?_)<;>intro uM uq
     ·refine jb uq fun x3 uw uq=>jb uq fun v3 uC uq=>jb uq fun rv7 uZ uq=>?_;cases uq;exact (rx 3 [0] zlj.el uw rfl rfl (ra 1 [kS x3] rfl (zmG 15 rfl underlying9 underlying35 underlying5 uC) rfl (rl 0 [15] 14 call44 (znj uZ) (rel [] lzz))))
     cases uq;exact (rel [] lzz)
    cases uq;exact (rel [] lzz)
   refine zS ?_;cases h;exact jy
  cases h;exact zV rfl lzz
 refine zat _ rfl (jp (zm (jb h fun q3 vd h=>jL vd [0,4,5] [11,12] (fun s=>[(7,kB s.1),(10,kI s.2)]) (fun o=> .x 4 ⟨[(7,kB o)],[]⟩) ?_ lzz ?_)))
 ·clear h;intro s o h;obtain ⟨ok7,i3⟩:=s;replace h:zbu f xk sv v ok7 i3=some o:=h;unfold zbu at h;refine jp (jI h ?_ ?_)<;>intro uE h
  ·refine zm (jb h fun g4 uN h=>jn (.N [0,4,5,10] [11,12] [(7,kB g4)] []) ?_ (zfv ?_))
   ·rcases zeP uN with ⟨uF,uN⟩| ⟨uF,uN⟩
    ·rcases zeP uN with ⟨uH,uN⟩| ⟨uH,uN⟩
     ·refine jb uN fun x4 uG uN=>jb uN fun rv8 u0 uN=>?_;cases uN;exact jd [0,4,5,7,10] [11,12] zcM (by exact (lw_e (dg 93 uF (lwn 4 (dg 98 uH (lwn 6 (di [0] zwd.el uG (lx (lde zh [0] x4 zzX) (lx (lf1 34 (lc0 15 call34 (vr u0))) l0))))))))) (zX lzz)
     cases uN;exact jd [0,4,5,7,10] [11,12] zcM (by exact (lw_e (dg 93 uF (lwn 4 (dg 98 uH l0))))) (zX lzz)
    cases uN;exact jd [0,4,5,7,10] [11,12] zcM (by exact (lw_e (dg 93 uF l0))) (zX lzz)
   refine zS ?_;cases h;exact jy
  cases h;exact zV rfl lzz
 refine zat _ rfl (jp ?_);obtain rfl:=(sj h);exact zz lzz
theorem zmz (ve:∀{sv:(List zd)} {f:zb} {v:za} {r:Bool},xj sv f v=some r->vT 21 [.sl zi [0] sv,.rc ze [0] f,.rc zf [0] v] [kB r]) (vr:∀{sv:(List zd)} {ui:Int} {x:zc} {r:Bool},xk sv ui x=some r->vT 34 [.sl zi [0] sv,kI ui,.rc zh [0] x] [kB r]) (h:zea xj xk sv ui x=some r):vT 34 [.sl zi [0] sv,kI ui,.rc zh [0] x] [kB r]:=by
 refine fi 118 func34 fun Xt=>?_
 unfold zea at h;refine jr (rc 0 rfl (lbx 11 [0] (zas [0] x)) rf) (jg [0,1,5] [11] [(19,kB ((decide (ui<0))|| (decide (ui>=(sv.length:Int)))))] ?_ ?_)
 ·refine (rsl 3 [] 14 (decide (ui<0)) ?_ ?_)<;>intro pV
  · exact (rbl [] 19 true rfl (by grind))
  exact (rbl [] 19 (decide (ui>=(sv.length:Int))) rfl (by grind))
 refine jI h ?_ ?_<;>intro pX h
 ·refine jp ?_;obtain rfl:=(sj h);exact zz lzz
 refine jp (zm (jb h fun q ue h=>jL ue [0,1,5] [11] (fun s=>[(7,kI s)]) (fun| (.inl v_)=> .X 0 [0,1,5] [11] [] []| (.inr v_)=> .r ⟨[(6,kB false)],[]⟩) ?_ lzz ?_))
 ·clear h;intro i o h;unfold zaZ at h;refine jp (jI h ?_ ?_)<;>intro pZ h
  ·refine zm (jb h fun x2 uo h=>jb h fun x3 uw h=>jb h fun rv pY h=>jd [0,1,5,7,8] [11] zcM (by exact (lwn 2 (di [0] zgU.el uo (lx (lde zi [0] x2 zuZ) (lwn 3 (di [0] zoA.el uw (lw_e (ly [.ep zf [0] x3 0] (zrl (.int .i64 x3.Number) rfl rfl (by rw [zF]<;>rfl) rfl) rfl (lx (lf1 35 (lc0 11 call35 (zgs pY))) l0))))))))) (jb h fun g pW h=>jn (.N [0,1,5,7] [11] [(77,kB g)] []) ?_ (zfv ?_)))
   ·rcases zeP pW with ⟨p9,pW⟩| ⟨p9,pW⟩
    ·cases pW;exact jd [0,1,5,7,77] [11] zcM (by exact (lwn 2 (dg 39 p9 l0))) (zX lzz)
    rcases zeP pW with ⟨ug,pW⟩| ⟨ug,pW⟩
    ·refine jb pW fun x4 uG pW=>jb pW fun x5 uJ pW=>?_;rcases zeP pW with ⟨uj,pW⟩| ⟨uj,pW⟩
     ·cases pW;exact jd [0,1,5,7,77] [11] zcM (by exact (lwn 2 (dg 39 p9 (lwn 2 (dg 42 ug (lwn 4 (di [0] zoA.el uG (lw_e (ly [.ep zf [0] x4 0] (zrl (.int .i64 x4.Number) rfl rfl (by rw [zF]<;>rfl) rfl) rfl (lwn 3 (di [0] zoA.el uJ (lw_e (ly [.ep zf [0] x5 0] (zrl (.int .i64 x5.Number) rfl rfl (by rw [zF]<;>rfl) rfl) rfl (lwn 3 (dg 59 uj l0))))))))))))))) (zX lzz)
     refine jb pW fun x6 uX pW=>jb pW fun x7 vf pW=>jb pW fun x8 vJ pW=>jb pW fun vV ud pW=>?_;cases pW;exact jd [0,1,5,7,77] [11] zcM (by exact (lwn 2 (dg 39 p9 (lwn 2 (dg 42 ug (lwn 4 (di [0] zoA.el uG (lw_e (ly [.ep zf [0] x4 0] (zrl (.int .i64 x4.Number) rfl rfl (by rw [zF]<;>rfl) rfl) rfl (lwn 3 (di [0] zoA.el uJ (lw_e (ly [.ep zf [0] x5 0] (zrl (.int .i64 x5.Number) rfl rfl (by rw [zF]<;>rfl) rfl) rfl (lwn 3 (dg 59 uj (lwn 3 (di [0] zgU.el uX (lw_e (lx (ldl zi [0] x6 1 ze x6.Fields) (lw_e (di [0] zms.el vf (lx (lde ze [0] x7 zrH) (lwn 3 (di [0] zoA.el vJ (lx (lde zf [0] x8 zzY) (lx (lf1 21 (lc0 11 call21 (ve ud))) l0)))))))))))))))))))))))))) (zX lzz)
    refine jb pW fun x9 vK pW=>jb pW fun x10 vL pW=>jb pW fun x11 vM pW=>jb pW fun wa ul pW=>?_;cases pW;exact jd [0,1,5,7,77] [11] zcM (by exact (lwn 2 (dg 39 p9 (lwn 2 (dg 42 ug (lwn 20 (di [0] zgU.el vK (lw_e (lx (ldl zi [0] x9 1 ze x9.Fields) (lw_e (di [0] zms.el vL (lx (lde ze [0] x10 zrH) (lwn 3 (di [0] zoA.el vM (lx (lde zf [0] x11 zzY) (lx (lf1 21 (lc0 11 call21 (ve ul))) l0)))))))))))))))) (zX lzz)
   refine jI h ?_ ?_<;>intro up h
   ·cases h;exact jz'
   refine zS ?_;cases h;exact jy
  cases h;exact zV rfl lzz
 rcases q with u| u4
 ·refine zat _ rfl (jp (zm (jb h fun q2 ur h=>jL ur [0,1,5] [11] (fun s=>[(9,kI s)]) (fun| (.inl v_)=> .x 2 ⟨[],[]⟩| (.inr v_)=> .r ⟨[(6,kB false)],[]⟩) ?_ lzz ?_)))
  ·clear h;intro i2 o h;unfold zba at h;refine jp (jI h ?_ ?_)<;>intro uu h
   ·refine zm (jb h fun x12 vN h=>jb h fun v3 uC h=>jb h fun rv4 uB h=>jr (rx 3 [0] zlj.el vN rfl rfl (ra 1 [kS x12] rfl (zmG 14 rfl underlying9 underlying35 underlying5 uC) rfl (rl 0 [14] 13 call67 (znG uB) (rfl' [15])))) (jb h fun g2 uc h=>jn (.N [0,1,5,9] [11] [(117,kB g2)] []) ?_ (zfv ?_)))
    ·rcases zeP uc with ⟨uv,uc⟩| ⟨uv,uc⟩
     ·cases uc;exact jd [0,1,5,9,117] [11] zcM (by exact (lwn 2 (dg 96 uv l0))) (zX lzz)
     refine jb uc fun x13 vt uc=>?_;rcases zeP uc with ⟨uD,uc⟩| ⟨uD,uc⟩
     ·cases uc;exact jd [0,1,5,9,117] [11] zcM (by exact (lwn 2 (dg 96 uv (lwn 5 (di [0] zlj.el vt (lwn 4 (dg 107 uD l0))))))) (zX lzz)
     refine jb uc fun x14 vO uc=>jb uc fun rv5 uK uc=>?_;cases uc;exact jd [0,1,5,9,117] [11] zcM (by exact (lwn 2 (dg 96 uv (lwn 5 (di [0] zlj.el vt (lwn 4 (dg 107 uD (lwn 2 (di [0] zgU.el vO (lx (lde zi [0] x14 zuZ) (lwn 2 (lx (lf1 35 (lc0 14 call35 (zgs uK))) l0)))))))))))) (zX lzz)
    refine jI h ?_ ?_<;>intro uM h
    ·cases h;exact jz'
    refine zS ?_;cases h;exact jy
   cases h;exact zV rfl lzz
  rcases q2 with u2| u3
  ·refine zat _ rfl (jp ?_);obtain rfl:=(sj h);exact zz lzz
  obtain rfl:=(sj h);exact zes lzz
 obtain rfl:=(sj h);exact zes lzz
theorem zfU (uh:Nat):(∀{sv:(List zd)} {f:zb} {v:za} {r:Bool},zdq uh sv f v=some r->vT 21 [.sl zi [0] sv,.rc ze [0] f,.rc zf [0] v] [kB r])/\(∀{sv:(List zd)} {ui:Int} {x:zc} {r:Bool},zbN uh sv ui x=some r->vT 34 [.sl zi [0] sv,kI ui,.rc zh [0] x] [kB r]):=by
  induction uh with
  | zero=>exact ⟨fun h=>absurd h nofun,fun h=>absurd h nofun⟩
  | succ uh ih=>exact ⟨fun h=>znn (fun hh=>ih.1 hh) (fun hh=>ih.2 hh) h,fun h=>zmz (fun hh=>ih.1 hh) (fun hh=>ih.2 hh) h⟩
theorem zno (h:zbN uh sv ui x=some r):vT 34 [.sl zi [0] sv,kI ui,.rc zh [0] x] [kB r]:=(zfU uh).2 h
theorem zlT (vu:∀{sv:(List zd)} {ui:Int} {x:zc} {r:(List UInt8)},xl sv ui x=some r->vT 15 [.sl zi [0] sv,kI ui,.rc zh [0] x] [.own Rp.byte 5 2 [] r]) (vv:∀{sv:(List zd)} {f:zb} {v:za} {r:(List UInt8)},xm sv f v=some r->vT 22 [.sl zi [0] sv,.rc ze [0] f,.rc zf [0] v] [.own Rp.byte 5 2 [] r]) (h:zdM xl xm sv ui x=some r):vT 15 [.sl zi [0] sv,kI ui,.rc zh [0] x] [.own Rp.byte 5 2 [] r]:=by
 refine fi 59 func15 fun Xt=>?_
 unfold zdM at h;refine jr (rc 0 rfl (lbx 15 [0] (zas [0] x)) rf) (jp (jp (zm (jb h fun q ue h=>jL ue [0,1,5] [15] (fun s=>[(7,.own Rp.byte 5 18 [] s.1),(8,kI s.2)]) (fun o=> .X 0 [5] [15] [(7,.own Rp.byte 5 18 [] o)] []) ?_ lw ?_))))
 ·clear h;intro s o h;obtain ⟨out,i⟩:=s;replace h:zaI xm ui sv x out i=some o:=h;unfold zaI at h;refine jp (jI h ?_ ?_)<;>intro pV h
  ·refine zm (jb h fun x2 uo h=>jb h fun x3 uw h=>jb h fun x4 uG h=>jb h fun rv pY h=>jb h fun x5 uJ h=>jb h fun x6 uX h=>jb h fun vV ud h=>jb h fun v uy h=>jd [0,1,5,7,8] [15] zcM (by exact (lwn 4 (di [0] zgU.el uo (lw_e (lx (ldl zi [0] x2 1 ze x2.Fields) (lwn 2 (di [0] zgU.el uw (lx (lde zi [0] x3 zuZ) (lwn 3 (di [0] zoA.el uG (lw_e (ly [.ep zf [0] x4 0] (zrl (.int .i64 x4.Number) rfl rfl (by rw [zF]<;>rfl) rfl) rfl (lx (lf1 35 (lc0 17 call35 (zgs pY))) (di [0] zms.el uJ (lx (lde ze [0] x5 zrH) (lwn 3 (di [0] zoA.el uX (lx (lde zf [0] x6 zzY) (lx (lf1 22 (lc0 17 call22 (vv ud))) (lx (lao 18 [] 5 19 [] [] zcd.el uy (.inl zcn)) l0)))))))))))))))))))) (zS ?_));cases h;exact jy
  cases h;exact zV rfl lzz
 refine zat _ rfl (jp (zm (jb h fun q2 ur h=>jL ur [5] [15] (fun s=>[(7,.own Rp.byte 5 18 [] s.1),(9,kI s.2)]) (fun o=> .x 2 ⟨[(7,.own Rp.byte 5 18 [] o)],[]⟩) ?_ lzz ?_)))
 ·clear h;intro s o h;obtain ⟨out3,i2⟩:=s;replace h:zaJ x out3 i2=some o:=h;unfold zaJ at h;refine jp (jI h ?_ ?_)<;>intro pX h
  ·refine zm (jb h fun x7 vf h=>jb h fun v2 uA h=>jr (rx 4 [0] zlj.el vf rfl rfl (ra 1 [.own Rp.byte 5 18 [] out3,kS x7] rfl (zEG 18 rfl underlying9 zGQ (zlX _ _ _ _ _) uA) rfl rf)) (zS ?_));cases h;exact jy
  cases h;exact zV rfl lzz
 refine zat _ rfl (jp ?_);obtain rfl:=(sj h);exact zz (lks [] [(18,2)] lzz)
theorem zmB (vu:∀{sv:(List zd)} {ui:Int} {x:zc} {r:(List UInt8)},xl sv ui x=some r->vT 15 [.sl zi [0] sv,kI ui,.rc zh [0] x] [.own Rp.byte 5 2 [] r]) (vv:∀{sv:(List zd)} {f:zb} {v:za} {r:(List UInt8)},xm sv f v=some r->vT 22 [.sl zi [0] sv,.rc ze [0] f,.rc zf [0] v] [.own Rp.byte 5 2 [] r]) (h:zeb uh xl xm sv f v=some r):vT 22 [.sl zi [0] sv,.rc ze [0] f,.rc zf [0] v] [.own Rp.byte 5 2 [] r]:=by
 refine fi 81 func22 fun Xt=>?_
 unfold zeb at h;refine jr (ral 1 [15] [.rc zf [0] v] rfl (zjo 16 (zM [0] v) [0] rfl rfl rfl (by rw [zF]<;>rfl) rfl) rfl rf) (jb h fun rv pY h=>jg [0,4,5] [15,16] [(16,kB (rv&&f.Repeated))] ?_ ?_)
 ·refine (rl 2 [1] 15 call42 (zdp pY) (rsl 1 [] 13 rv ?_ ?_))<;>intro pV
  · exact (rbl [] 16 f.Repeated rfl (by grind))
  exact (rbl [] 16 false rfl (by grind))
 refine jI h ?_ ?_<;>intro pX h
 ·refine jb h fun vV ud h=>jb h fun wa ul h=>jd [6] [] zcM (by exact (lwn 6 (lx (lf1 46 (lc0 15 call46 (znI ud))) (lx (lf1 45 (lcd [kI f.Number,kI 2,.own Rp.byte 5 17 [] vV] 16 call45 (zfC ul))) l0)))) ?_;obtain rfl:=(sj h);exact zz (lks [] [(18,2)] lzz)
 refine jb h fun rv4 uB h=>jr (rl 2 [1] 17 call42 (zdp uB) rf) (jI h ?_ ?_)<;>intro pZ h
 ·refine jb h fun rv5 uK h=>jb h fun x uk h=>jb h fun rv6 uY h=>jb h fun rv7 uZ h=>jd [6] [] zcM (by exact (lwn 4 (lx (lf1 47 (lcd [kI f.Kind] 17 call47 (znH uK))) (lwn 4 (di [0] zuv.el uk (lw_e (lx (lf1 48 (lcd [kI f.Kind,kU x] 17 call48 (zjr uY))) (lx (lf1 45 (lcd [kI f.Number,kI rv5,.own Rp.byte 5 19 [] rv6] 18 call45 (zfC uZ))) l0)))))))) ?_;obtain rfl:=(sj h);exact zz (lks [] [(20,2)] lzz)
 refine jp (jp (zm (jb h fun q ue h=>jL ue [0,4,5] [15,16] (fun s=>[(7,.own Rp.byte 5 24 [] s.1),(8,kI s.2)]) (fun o=> .X 0 [0,4,5] [15,16] [(7,.own Rp.byte 5 24 [] o)] []) ?_ lw ?_)))
 ·clear h;intro s o h;obtain ⟨out,i⟩:=s;replace h:zbb uh f v out i=some o:=h;unfold zbb at h;refine jp (jI h ?_ ?_)<;>intro p9 h
  ·refine zm (jb h fun x2 uo h=>jb h fun v3 uC h=>jb h fun rv8 u0 h=>jb h fun v4 uR h=>jd [0,4,5,7,8] [15,16] zcM (by exact (lwn 6 (di [0] zlj.el uo (lw_e (ly [kS x2] (zmG 25 rfl underlying9 underlying35 underlying5 uC) rfl (lx (lf1 45 (lcd [kI f.Number,kI 2,.sl Rp.byte [25] v3] 24 call45 (zfC u0))) (lx (lao 24 [] 5 26 [] [] zcd.el uR (.inl zcn)) l0))))))) (zS ?_));cases h;exact jy
  cases h;exact zV rfl lzz
 refine zat _ rfl (jp (zm (jb h fun q2 ur h=>jL ur [0,4,5] [15,16] (fun s=>[(7,.own Rp.byte 5 24 [] s.1),(9,kI s.2)]) (fun o=> .x 2 ⟨[(7,.own Rp.byte 5 24 [] o)],[]⟩) ?_ lzz ?_)))
 ·clear h;intro s o h;obtain ⟨out3,i2⟩:=s;replace h:zbc uh f xl sv v out3 i2=some o:=h;unfold zbc at h;refine jp (jI h ?_ ?_)<;>intro ug h
  ·refine zm (jb h fun x3 uw h=>jb h fun rv9 vg h=>jb h fun rv10 vP h=>jb h fun v5 vQ h=>jd [0,4,5,7,9] [15,16] zcM (by exact (lwn 9 (di [0] zwd.el uw (lx (lde zh [0] x3 zzX) (lx (lf1 15 (lc0 26 call15 (vu vg))) (lx (lf1 45 (lcd [kI f.Number,kI 2,.own Rp.byte 5 28 [] rv9] 27 call45 (zfC vP))) (lx (lao 24 [] 5 29 [] [] zcd.el vQ (.inl zcn)) l0))))))) (zS ?_));cases h;exact jy
  cases h;exact zV rfl lzz
 refine zat _ rfl (jp ?_);obtain rfl:=(sj h);exact zz (lks [] [(24,2)] lzz)
theorem zfB (uh:Nat):(∀{sv:(List zd)} {ui:Int} {x:zc} {r:(List UInt8)},zbC uh sv ui x=some r->vT 15 [.sl zi [0] sv,kI ui,.rc zh [0] x] [.own Rp.byte 5 2 [] r])/\(∀{sv:(List zd)} {f:zb} {v:za} {r:(List UInt8)},zdT uh sv f v=some r->vT 22 [.sl zi [0] sv,.rc ze [0] f,.rc zf [0] v] [.own Rp.byte 5 2 [] r]):=by
  induction uh with
  | zero=>exact ⟨fun h=>absurd h nofun,fun h=>absurd h nofun⟩
  | succ uh ih=>exact ⟨fun h=>zlT (fun hh=>ih.1 hh) (fun hh=>ih.2 hh) h,fun h=>zmB (fun hh=>ih.1 hh) (fun hh=>ih.2 hh) h⟩
theorem zmA (h:zbC uh sv ui x=some r):vT 15 [.sl zi [0] sv,kI ui,.rc zh [0] x] [.own Rp.byte 5 2 [] r]:=(zfB uh).1 h
end Go.Proofs.YtkgohoggipdokaaGreat
