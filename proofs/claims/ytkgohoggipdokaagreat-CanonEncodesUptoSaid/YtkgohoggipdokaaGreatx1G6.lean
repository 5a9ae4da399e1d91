/-
  The Go functions do what the plain functions say. No condition.
-/
import Derived.Test.YtkgohoggipdokaaGreatx1G5
set_option autoImplicit true
set_option relaxedAutoImplicit true
namespace Go.Proofs.YtkgohoggipdokaaGreat
open Tryz
open Go Go.RowKit
set_option linter.unusedVariables false
set_option maxRecDepth 100000
set_option maxHeartbeats 3200000
theorem zmY (h:zgM sv=some r):vT 38 [.sl zi [0] sv] [kB r]:=by
 refine fi 12 func38 fun Xt=>?_
 unfold zgM at h;refine jp (jb h fun rv pY h=>jr (rl 1 [0] 9 call72 (zsk pY) (rfl' [11])) ?_);cases h;exact jz
theorem zou (vh:∀{sv:(List zd)} {uf:Int} {l:(List zc)} {r:Bool},xp sv uf l=some r->vT 112 [.sl zi [0] sv,kI uf,.sl zh [0] l] [kB r]) (vi:∀{f:zb} {sv:(List zd)} {v:za} {r:Bool},xb f sv v=some r->vT 68 [.rc ze [0] f,.sl zi [0] sv,.rc zf [0] v] [kB r]) (vj:∀{sv:(List zd)} {uf:Int} {x:zc} {r:Bool},xe sv uf x=some r->vT 106 [.sl zi [0] sv,kI uf,.rc zh [0] x] [kB r]) (h:zeT xp xb xe sv uf l=some r):vT 112 [.sl zi [0] sv,kI uf,.sl zh [0] l] [kB r]:=by
 refine fi 29 func112 fun Xt=>?_
 unfold zeT at h;refine jp (jg [0,1,2] [] [(16,kB ((decide (uf<0))|| (decide (uf>=(sv.length:Int)))))] ?_ ?_)
 ·refine (rsl 3 [] 11 (decide (uf<0)) ?_ ?_)<;>intro pV
  · exact (rbl [] 16 true rfl (by grind))
  exact (rbl [] 16 (decide (uf>=(sv.length:Int))) rfl (by grind))
 refine jI h ?_ ?_<;>intro pX h
 ·refine jp ?_;obtain rfl:=(sj h);exact zz lzz
 refine jp (zm (jb h fun q ue h=>jL ue [0,1,17,18] [] (fun s=>[(19,kI s)]) (fun| (.inl v_)=> .x 0 ⟨[],[]⟩| (.inr v_)=> .r ⟨[(6,kB false)],[]⟩) ?_ lzz ?_))
 ·clear h;intro v2 o h;unfold zbD at h;refine jp (jI h ?_ ?_)<;>intro pZ h
  ·refine zm (jb h fun x uk h=>jr (rx 0 [0] zyZ.el uk rfl rfl (rc 0 rfl (lde zh [0] x zxm) (ral 1 [12] [.ptr 12 0,.rc zh [0] x] rfl (zkr (r:=zh) (b:=⟨12,27,[kN,kN]⟩) (off:=0) (zbk [0] x) rfl sizeOf27 rfl rfl (by rw [zaQ]<;>rfl) rfl) rfl rf))) (jb h fun rv pY h=>jr (rc 3 rfl (lw0 11 call106 (vj pY) (.k (.k (.l (zZ [0] x))))) rf) (jI h ?_ ?_)))<;>intro p9 h
   ·cases h;exact jz'
   refine zS ?_;cases h;exact jy
  cases h;exact zV rfl lzz
 rcases q with u| u2
 ·refine zat _ rfl (jp ?_);obtain rfl:=(sj h);exact zz lzz
 obtain rfl:=(sj h);exact zes lzz
theorem zuR (vh:∀{sv:(List zd)} {uf:Int} {l:(List zc)} {r:Bool},xp sv uf l=some r->vT 112 [.sl zi [0] sv,kI uf,.sl zh [0] l] [kB r]) (vi:∀{f:zb} {sv:(List zd)} {v:za} {r:Bool},xb f sv v=some r->vT 68 [.rc ze [0] f,.sl zi [0] sv,.rc zf [0] v] [kB r]) (vj:∀{sv:(List zd)} {uf:Int} {x:zc} {r:Bool},xe sv uf x=some r->vT 106 [.sl zi [0] sv,kI uf,.rc zh [0] x] [kB r]) (h:zjh xp xb xe f sv v=some r):vT 68 [.rc ze [0] f,.sl zi [0] sv,.rc zf [0] v] [kB r]:=by
 refine fi 69 func68 fun Xt=>?_
 unfold zjh at h;refine jr (ral 1 [11] [.rc zf [0] v] rfl (zjo 12 (zM [0] v) [0] rfl rfl rfl (by rw [zF]<;>rfl) rfl) rfl rf) (jb h fun rv pY h=>jr (rc 1 rfl (lw0 11 call93 (zos pY) (.l (zca [0] v))) rf) (jg [1,3,5,7] [11,12] [(20,kB ((rv==0)|| ((decide (rv>1))&&(!f.Repeated))))] ?_ ?_))
 ·refine (rsl 3 [] 12 (rv==0) ?_ ?_)<;>intro pV
  · exact (rbl [] 20 true rfl (by grind))
  refine (rsl 3 [] 15 (decide (rv>1)) ?_ ?_)<;>intro pX
  · exact (rbl [] 20 (!f.Repeated) rfl (by grind))
  exact (rbl [] 20 false rfl (by grind))
 refine jI h ?_ ?_<;>intro pZ h
 ·refine jp ?_;obtain rfl:=(sj h);exact zz lzz
 refine jp (zm (jp (jI h ?_ ?_)))<;>intro p9 h
 ·refine jb h fun g pW h=>jg [] [] [(6,kB g)] ?_ ?_
  ·refine (rsI 6 30 pW ?_ ?_)<;>intro ug pW
   ·refine jb pW fun vV ud pW=>?_;cases pW;exact (rl 2 [0] 11 call111 (zrB ud) rgg)
   cases pW;exact rgg
  obtain rfl:=(sj h);exact zz lzz
 refine jp (jI h ?_ ?_)<;>intro uj h
 ·cases h;exact jz
 refine jp (jI h ?_ ?_)<;>intro up h
 ·refine jb h fun g2 uc h=>jg [] [] [(6,kB g2)] ?_ ?_
  ·refine (rsI 6 49 uc ?_ ?_)<;>intro uu uc
   ·refine jb uc fun wa ul uc=>?_;cases uc;exact (rl 5 [0] 11 call112 (vh ul) rgg)
   cases uc;exact rgg
  obtain rfl:=(sj h);exact zz lzz
 refine zS (jb h fun g3 uq h=>jg [] [] [(6,kB g3)] ?_ ?_)
 ·refine (rsI 6 62 uq ?_ ?_)<;>intro uv uq
  ·refine jb uq fun rv4 uB uq=>?_;cases uq;exact (rl 4 [0] 11 call113 (zot uB) rgg)
  cases uq;exact rgg
 obtain rfl:=(sj h);exact zz lzz
theorem zpU (vh:∀{sv:(List zd)} {uf:Int} {l:(List zc)} {r:Bool},xp sv uf l=some r->vT 112 [.sl zi [0] sv,kI uf,.sl zh [0] l] [kB r]) (vi:∀{f:zb} {sv:(List zd)} {v:za} {r:Bool},xb f sv v=some r->vT 68 [.rc ze [0] f,.sl zi [0] sv,.rc zf [0] v] [kB r]) (vj:∀{sv:(List zd)} {uf:Int} {x:zc} {r:Bool},xe sv uf x=some r->vT 106 [.sl zi [0] sv,kI uf,.rc zh [0] x] [kB r]) (h:zfR xp xb xe sv uf x=some r):vT 106 [.sl zi [0] sv,kI uf,.rc zh [0] x] [kB r]:=by
 refine fi 67 func106 fun Xt=>?_
 unfold zfR at h;refine jr (rc 0 rfl (lbx 11 [0] (zas [0] x)) rf) (jb h fun x2 uo h=>jr (rx 2 [0] zgU.el uo rfl rfl (rc 0 rfl (lde zi [0] x2 zuZ) (ral 1 [12] [.ptr 12 0,.rc zi [0] x2] rfl (zkr (r:=zi) (b:=⟨12,71,[kS [],kN]⟩) (off:=0) (zbj [0] x2) rfl sizeOf71 rfl rfl rfl rfl) rfl rf))) (jp (jp (zm (jb h fun q ue h=>jL ue [0,5,7,20,21] [11,12] (fun s=>[(8,kI s.1),(22,kI s.2)]) (fun| (.inl v_)=> .X 0 [5,7] [11,12] [] []| (.inr v_)=> .r ⟨[(6,kB false)],[]⟩) ?_ lzz ?_)))))
 ·clear h;intro s o h;obtain ⟨last,v⟩:=s;replace h:zbG xb sv x x2 last v=some o:=h;unfold zbG at h;refine jp (jI h ?_ ?_)<;>intro pV h
  ·refine zm (jb h fun x3 uw h=>jr (rx 0 [0] zwc.el uw rfl rfl (rc 0 rfl (lde zf [0] x3 zsQ) (ral 1 [14] [.ptr 14 0,.rc zf [0] x3] rfl (zkr (r:=zf) (b:=⟨14,51,[kI 0,kN,kN,kN]⟩) (off:=0) (zM [0] x3) rfl sizeOf51 rfl rfl (by rw [zF]<;>rfl) rfl) rfl rf))) (jb h fun rv pY h=>jr (rl 3 [0] 13 call64 (zhq pY) rf) (jb h fun g pW h=>jn (.N [0,5,7,10,20,21,22] [11,12,14] [(51,kB g)] []) ?_ (zfv ?_))))
   ·rcases zeP pW with ⟨pX,pW⟩| ⟨pX,pW⟩
    ·cases pW;exact jd [0,5,7,10,20,21,22,51] [11,12,14] zcM (by exact (lwn 2 (dg 34 pX l0))) (zX lzz)
    rcases zeP pW with ⟨pZ,pW⟩| ⟨pZ,pW⟩
    ·cases pW;exact jd [0,5,7,10,20,21,22,51] [11,12,14] zcM (by exact (lwn 2 (dg 34 pX (lwn 5 (dg 40 pZ l0))))) (zX lzz)
    refine jb pW fun x4 uG pW=>jb pW fun vV ud pW=>?_;cases pW;exact jd [0,5,7,10,20,21,22,51] [11,12,14] zcM (by exact (lwn 2 (dg 34 pX (lwn 5 (dg 40 pZ (lwn 3 (di [0] zms.el uG (lx (lde ze [0] x4 zrH) (lw_e (lx (ldw 14 51 (zM [0] x3) zsQ) (lx (lf1 68 (lw0 13 call68 (vi ud) (.k (.k (.l (zca [0] x3)))))) l0))))))))))) (zX lzz)
   refine jI h ?_ ?_<;>intro p9 h
   ·cases h;exact jz'
   refine jp (zS ?_);cases h;exact jy
  cases h;exact zV rfl lzz
 rcases q with u| u4
 ·refine zat _ rfl (jp (zm (jb h fun q2 ur h=>jL ur [7,56,57] [12] (fun s=>[(58,kI s)]) (fun| (.inl v_)=> .x 2 ⟨[],[]⟩| (.inr v_)=> .r ⟨[(6,kB false)],[]⟩) ?_ lzz ?_)))
  ·clear h;intro v3 o h;unfold zbS at h;refine jp (jI h ?_ ?_)<;>intro ug h
   ·refine zm (jb h fun x5 uJ h=>jr (rx 0 [0] zlj.el uJ rfl rfl rf) (jb h fun wa ul h=>jr (rl 2 [0] 14 call142 (zqQ ul) rf) (jI h ?_ ?_)))<;>intro uj h
    ·cases h;exact jz'
    refine zS ?_;cases h;exact jy
   cases h;exact zV rfl lzz
  rcases q2 with u2| u3
  ·refine zat _ rfl (jp ?_);obtain rfl:=(sj h);exact zz lzz
  obtain rfl:=(sj h);exact zes lzz
 obtain rfl:=(sj h);exact zes lzz
theorem zhN (uh:Nat):(∀{sv:(List zd)} {uf:Int} {l:(List zc)} {r:Bool},zfQ uh sv uf l=some r->vT 112 [.sl zi [0] sv,kI uf,.sl zh [0] l] [kB r])/\(∀{f:zb} {sv:(List zd)} {v:za} {r:Bool},zhI uh f sv v=some r->vT 68 [.rc ze [0] f,.sl zi [0] sv,.rc zf [0] v] [kB r])/\(∀{sv:(List zd)} {uf:Int} {x:zc} {r:Bool},zdx uh sv uf x=some r->vT 106 [.sl zi [0] sv,kI uf,.rc zh [0] x] [kB r]):=by
  induction uh with
  | zero=>exact ⟨fun h=>absurd h nofun,fun h=>absurd h nofun,fun h=>absurd h nofun⟩
  | succ uh ih=>exact ⟨fun h=>zou (fun hh=>ih.1 hh) (fun hh=>ih.2.1 hh) (fun hh=>ih.2.2 hh) h,fun h=>zuR (fun hh=>ih.1 hh) (fun hh=>ih.2.1 hh) (fun hh=>ih.2.2 hh) h,fun h=>zpU (fun hh=>ih.1 hh) (fun hh=>ih.2.1 hh) (fun hh=>ih.2.2 hh) h⟩
theorem zqP (h:zdx uh sv uf x=some r):vT 106 [.sl zi [0] sv,kI uf,.rc zh [0] x] [kB r]:=(zhN uh).2.2 h
theorem zuD (h:zjW ut size=some r):vT 117 [kI ut,kI size] [.own Rp.byte 5 2 [] r]:=by
 refine fi 23 func117 fun Xt=>?_
 unfold zjW at h;refine jp (jb h fun rv pY h=>jr (rl 1 [1] 10 call153 (FnOk.le (ins':=[kN,kI ut,kN]) (zuI pY) ⟨zgl _ _,vU _,zgl _ _,trivial⟩) rf) (jb h fun vV ud h=>jr (rl 2 [1] 11 call148 (zpj ud) rf) (jb h fun v uy h=>jb h fun v2 uA h=>jr (ra 4 [.own Rp.byte 5 12 [] rv,kI (IntKind.i64.wrap ((rv.length:Int) - 1))] rfl (zAz rfl zcd.el uy) rfl (rc 1 rfl (lao 12 [] 5 13 [] [] zcd.el uA (.inl zcn)) rf)) ?_)));obtain rfl:=(sj h);exact zz (lks [] [(12,2)] lzz)
theorem znd (h:zeG wv f l=some r):zhc prog 69 [.ptr 800000 0,.rc ze [0] f,.sl vS [0] l] [] [⟨800000,76,(zj 800001 [0] wv)⟩] [800000] [⟨800000,76,(zj 800001 [0,2,3,4,5,6] r)⟩]:=by
 refine zjJ (E:=⟨[(0,.ptr 800000 0)],[⟨800000,76,(zj 800001 [0,2,3,4,5,6] r)⟩]⟩) 30 [0] [(0,800000)] func69 rfl rfl rfl trivial ⟨⟨rfl,rfl,rfl⟩,trivial⟩ ⟨rfl,trivial⟩ (fun Xt old=>?_);refine zgf ?_;unfold zeG at h;refine jq [17] (jb h fun rv pY h=>jr (rl 3 [0] 16 call114 (zyE pY) rf) (jp (jI h ?_ ?_)))<;>intro pV h
 ·refine jb h fun vV ud h=>jr (ra 4 [.ptr 800000 0,kI f.Number,kI 2,.own Rp.byte 5 18 [] rv.1] rfl (zgg (args:=[.tmp 17,.tmp 19,.const (.int .i64 2),.tmp 20]) [.ptr 800000 0,kI f.Number,kI 2,.own Rp.byte 5 18 [] rv.1] [⟨800000,76,(zj 800001 [0] wv)⟩] [(800000,800000),(800001,800001)] [0,18] 17 [800001] rfl call70 (zfY ud) rfl rfl rfl rfl rfl rfl rfl rfl) rfl rf) ?_;obtain rfl:=(sj h);exact zlZ (lks [800000] [(18,6),(19,6),(20,6)] lw)
 refine jb h fun wa ul h=>jb h fun rv4 uB h=>jd [0] [800000] zcM (by exact (lwn 5 (lx (lf1 115 (lcd [kI f.Kind] 19 call115 (zuE ul))) (lw_e (ly [.lf (.val (.func (.func 70) #[] #[])),.ptr 800000 0,kI f.Number,kI wa,.own Rp.byte 5 18 [] rv.1] (lf1 70 (zgg (args:=[.tmp 22,.tmp 24,.tmp 27,.tmp 28]) [.ptr 800000 0,kI f.Number,kI wa,.own Rp.byte 5 18 [] rv.1] [⟨800000,76,(zj 800001 [0] wv)⟩] [(800000,800000),(800001,800001)] [0,18] 19 [800001] rfl call70 (zfY uB) rfl rfl rfl rfl rfl rfl rfl rfl)) rfl l0))))) ?_;obtain rfl:=(sj h);exact zvn (lks [800000] [(18,6),(21,6),(22,6)] lw)
theorem zuS (h:zkC sv ui d=some r):vT 105 [.sl zi [0] sv,kI ui,kI d] [k8 r]:=by
 refine fi 28 func105 fun Xt=>?_
 unfold zkC at h;refine jp (zm (jb h fun rv pY h=>jr (rl 1 [0] 9 call38 (zmY pY) rf) (jI h ?_ ?_)))<;>intro pV h
 ·cases h;exact jz
 refine jg [] [] [(11,kB ((decide (ui<0))|| ((decide (ui>=(sv.length:Int)))|| ((decide (d<0))|| (decide (d>64))))))] ?_ ?_
 ·refine (rsl 3 [] 14 (decide (ui<0)) ?_ ?_)<;>intro pX
  · exact (rbl [] 11 true rfl (by grind))
  refine (rsl 6 [] 20 (decide (ui>=(sv.length:Int))) ?_ ?_)<;>intro pZ
  · exact (rbl [] 11 true rfl (by grind))
  refine (rsl 4 [] 24 (decide (d<0)) ?_ ?_)<;>intro p9
  · exact (rbl [] 11 true rfl (by grind))
  exact (rbl [] 11 (decide (d>64)) rfl (by grind))
 refine jI h ?_ ?_<;>intro ug h
 ·cases h;exact jz
 refine zS ?_;cases h;exact jz
theorem zlk (vk:∀{wv:zg} {sv:(List zd)} {uf:Int} {x:zc} {r:zg},xq wv sv uf x=some r->zhc prog 31 [.ptr 800000 0,.sl zi [0] sv,kI uf,.rc zh [0] x] [] [⟨800000,76,(zj 800001 [0] wv)⟩] [800000] [⟨800000,76,(zj 800001 [0,2] r)⟩]) (vl:∀{wv:zg} {sv:(List zd)} {f:zb} {x:zc} {r:zg},xc wv sv f x=some r->zhc prog 71 [.ptr 800000 0,.sl zi [0] sv,.rc ze [0] f,.rc zh [0] x] [] [⟨800000,76,(zj 800001 [0] wv)⟩] [800000] [⟨800000,76,(zj 800001 [0,2] r)⟩]) (vm:∀{wv:zg} {sv:(List zd)} {f:zb} {v:za} {r:zg},xd wv sv f v=some r->zhc prog 37 [.ptr 800000 0,.sl zi [0] sv,.rc ze [0] f,.rc zf [0] v] [] [⟨800000,76,(zj 800001 [0] wv)⟩] [800000] [⟨800000,76,(zj 800001 [0,2] r)⟩]) (h:zdk xq xc xd wv sv uf x=some r):zhc prog 31 [.ptr 800000 0,.sl zi [0] sv,kI uf,.rc zh [0] x] [] [⟨800000,76,(zj 800001 [0] wv)⟩] [800000] [⟨800000,76,(zj 800001 [0,2] r)⟩]:=by
 refine zjJ (E:=⟨[(0,.ptr 800000 0)],[⟨800000,76,(zj 800001 [0,2] r)⟩]⟩) 55 [0] [(0,800000)] func31 rfl rfl rfl trivial ⟨⟨rfl,rfl,rfl⟩,trivial⟩ ⟨rfl,trivial⟩ (fun Xt old=>?_);refine zgf ?_;unfold zdk at h;refine jr (rc 0 rfl (lbx 21 [0] (zas [0] x)) rf) (jb h fun x2 uo h=>jr (rx 2 [0] zgU.el uo rfl rfl (rc 0 rfl (lde zi [0] x2 zuZ) (ral 1 [22] [.ptr 22 0,.rc zi [0] x2] rfl (zkr (r:=zi) (b:=⟨22,71,[kS [],kN]⟩) (off:=0) (zbj [0] x2) rfl sizeOf71 rfl rfl rfl rfl) rfl rf))) (jp (zm (jb h fun q ue h=>jl ue [0,1,7,8,20,21] [21,22] (fun s=>[(22,kI s.1)]) (fun s=>[⟨800000,76,[.own (Rp.list Rp.byte) 35 800001 [0,23] s.2.1,kI s.2.2]⟩]) (fun o=> .X 0 [0,7] [21] [] [⟨800000,76,[.own (Rp.list Rp.byte) 35 800001 [0,23] o.1,kI o.2]⟩]) ?_ lw ?_))))
 ·clear h;intro s o h;obtain ⟨v,f,f2⟩:=s;replace h:zaA xd sv x x2 v f f2=some o:=h;unfold zaA at h;refine jp (jI h ?_ ?_)<;>intro pV h
  ·refine zm (jb h fun x3 uw h=>jr (rx 0 [0] zwc.el uw rfl rfl (rc 0 rfl (lde zf [0] x3 zsQ) (ral 1 [28] [.ptr 28 0,.rc zf [0] x3] rfl (zkr (r:=zf) (b:=⟨28,51,[kI 0,kN,kN,kN]⟩) (off:=0) (zM [0] x3) rfl sizeOf51 rfl rfl (by rw [zF]<;>rfl) rfl) rfl rf))) (jb h fun rv pY h=>jr (rl 3 [0] 27 call64 (zhq pY) rf) (jb h fun x4 uG h=>jb h fun vV ud h=>jd [0,1,7,8,20,21,22] [800000,21,22] zcM (by exact (lwn 5 (di [0] zms.el uG (lx (lde ze [0] x4 zrH) (lx (ldw 28 51 (zM [0] x3) zsQ) (lx (lf1 37 (zu.le (ins':=[(.tmp 33,.ptr 800000 0),(.tmp 34,.sl zi [0] sv),(.tmp 39,.rc ze [0] x4),(.tmp 40,.ag (zM [0] x3))]) (zgg (args:=[.tmp 33,.tmp 34,.tmp 39,.tmp 40]) [.ptr 800000 0,.sl zi [0] sv,.rc ze [0] x4,.rc zf [0] x3] [⟨800000,76,[.own (Rp.list Rp.byte) 35 800001 [0,23] f,kI f2]⟩] [(800000,800000),(800001,800001)] [0,23] 27 [800001] rfl call37 (vm ud) rfl rfl rfl rfl rfl rfl rfl rfl) ⟨⟨rfl,vU _⟩,⟨rfl,vU _⟩,⟨rfl,vU _⟩,⟨rfl,zca [0] x3⟩,trivial⟩)) l0)))))) (zS (jp ?_)))));cases h;exact zX (lks [800000,21,22] [(29,23)] lw)
  cases h;exact zV rfl lzz
 refine zat _ rfl (jp (zm (jb h fun q2 ur h=>jl ur [0,44,45] [] (fun s=>[(46,kI s.1)]) (fun s=>[⟨800000,76,[.own (Rp.list Rp.byte) 35 800001 [0,23,30] s.2.1,kI s.2.2]⟩]) (fun o=> .X 2 [0] [] [] [⟨800000,76,[.own (Rp.list Rp.byte) 35 800001 [0,23,30] o.1,kI o.2]⟩]) ?_ lw ?_)))
 ·clear h;intro s o h;obtain ⟨v2,f5,f6⟩:=s;replace h:zaB x v2 f5 f6=some o:=h;unfold zaB at h;refine jp (jI h ?_ ?_)<;>intro pX h
  ·refine zm (jb h fun x5 uJ h=>jr (rx 0 [0] zlj.el uJ rfl rfl rf) (jb h fun v3 uC h=>jb h fun wa ul h=>jr (ra 2 [kS x5] rfl (zmG 35 rfl underlying9 underlying35 underlying5 uC) rfl (ra 0 [.ptr 800000 0,.sl Rp.byte [35] v3] rfl (zgg (args:=[.tmp 50,.tmp 52]) [.ptr 800000 0,.sl Rp.byte [35] v3] [⟨800000,76,[.own (Rp.list Rp.byte) 35 800001 [0,23,30] f5,kI f6]⟩] [(800000,800000),(800001,800001)] [0,23,30,35] 34 [800001] rfl call65 (zgq ul) rfl rfl rfl rfl rfl rfl rfl rfl) rfl rf)) (zS (jp ?_))));cases h;exact zX (lks [800000] [(35,30),(36,30)] lw)
  cases h;exact zV rfl lzz
 refine zat _ rfl ?_;cases h;exact zvn (lks [800000] [(23,2),(30,2)] lw)
theorem znx (vk:∀{wv:zg} {sv:(List zd)} {uf:Int} {x:zc} {r:zg},xq wv sv uf x=some r->zhc prog 31 [.ptr 800000 0,.sl zi [0] sv,kI uf,.rc zh [0] x] [] [⟨800000,76,(zj 800001 [0] wv)⟩] [800000] [⟨800000,76,(zj 800001 [0,2] r)⟩]) (vl:∀{wv:zg} {sv:(List zd)} {f:zb} {x:zc} {r:zg},xc wv sv f x=some r->zhc prog 71 [.ptr 800000 0,.sl zi [0] sv,.rc ze [0] f,.rc zh [0] x] [] [⟨800000,76,(zj 800001 [0] wv)⟩] [800000] [⟨800000,76,(zj 800001 [0,2] r)⟩]) (vm:∀{wv:zg} {sv:(List zd)} {f:zb} {v:za} {r:zg},xd wv sv f v=some r->zhc prog 37 [.ptr 800000 0,.sl zi [0] sv,.rc ze [0] f,.rc zf [0] v] [] [⟨800000,76,(zj 800001 [0] wv)⟩] [800000] [⟨800000,76,(zj 800001 [0,2] r)⟩]) (h:zeF xq xc xd wv sv f x=some r):zhc prog 71 [.ptr 800000 0,.sl zi [0] sv,.rc ze [0] f,.rc zh [0] x] [] [⟨800000,76,(zj 800001 [0] wv)⟩] [800000] [⟨800000,76,(zj 800001 [0,2] r)⟩]:=by
 refine zjJ (E:=⟨[(0,.ptr 800000 0)],[⟨800000,76,(zj 800001 [0,2] r)⟩]⟩) 57 [0] [(0,800000)] func71 rfl rfl rfl trivial ⟨⟨rfl,rfl,rfl⟩,trivial⟩ ⟨rfl,trivial⟩ (fun Xt old=>?_);refine zgf ?_;unfold zeF at h;refine jr (ral 1 [16] [.rc zh [0] x] rfl (zjo 17 (zbk [0] x) [0] rfl rfl rfl (by rw [zaQ]<;>rfl) rfl) rfl rf) (jd [0,1,6,7,8,9] [800000,16,17] zcM (by exact l0) (jb h fun rv pY h=>jr (rc 1 rfl (zu.le (ins':=[(.tmp 19,.ptr 800000 0),(.const (.slice none 0 0),kN)]) (zgg (args:=[.tmp 19,.const (.slice none 0 0)]) [.ptr 800000 0,.sl Rp.byte [] ([]:(List UInt8))] [⟨800000,76,(zj 800001 [0] wv)⟩] [(800000,800000),(800001,800001)] [0] 16 [800001] rfl call65 (zgq pY) rfl rfl rfl rfl rfl rfl rfl rfl) ⟨⟨rfl,vU _⟩,⟨rfl,zgl _ _⟩,trivial⟩) rf) (jb h fun vV ud h=>jr (rc 5 rfl (zu.le (ins':=[(.tmp 21,.ptr 800000 0),(.tmp 22,.sl zi [0] sv),(.tmp 24,kI f.Of),(.tmp 25,.ag (zbk [0] x))]) (zgg (args:=[.tmp 21,.tmp 22,.tmp 24,.tmp 25]) [.ptr 800000 0,.sl zi [0] sv,kI f.Of,.rc zh [0] x] [⟨800000,76,(zj 800001 [0,18] rv)⟩] [(800000,800000),(800001,800001)] [0,18] 17 [800001] rfl call31 (vk ud) rfl rfl rfl rfl rfl rfl rfl rfl) ⟨⟨rfl,vU _⟩,⟨rfl,vU _⟩,⟨rfl,vU _⟩,⟨rfl,zZ [0] x⟩,trivial⟩) rf) (jb h fun wa ul h=>jb h fun x2 uo h=>jk [0,6,8,9] [800000,16] (zAr ⟨[(0,.ptr 800000 0),(8,kI (wv.pieces.length:Int))],[⟨800000,76,[.own (Rp.list Rp.byte) 35 800001 [0,18,19,20] (vV.pieces.set (Int.toNat (wv.pieces.length:Int)) wa),kI vV.size]⟩]⟩ [.ev,.ev,.ev,.ev,.ev,.ev,.ev,.ev,.ev,.ev,.ev,.ev,.ev,.ex [] [] [20] (.own Rp.byte 5 20 [] wa) [],.ex [] [] [] (.ptr 800001 (Int.toNat (wv.pieces.length:Int)*(Rp.list Rp.byte).size)) [],.raw [11,0,1,11,19] [800001] [] [.sl 30 (.own (Rp.list Rp.byte) 35 800001 [0,18,19,20] (vV.pieces.set (Int.toNat (wv.pieces.length:Int)) wa)),.bx ⟨800000,76,[.own (Rp.list Rp.byte) 35 800001 [0,18,19,20] (vV.pieces.set (Int.toNat (wv.pieces.length:Int)) wa),kI vV.size]⟩]] [⟨[(.func 117,.lf (.val (.func (.func 117) #[] #[]))),(.tmp 33,kI f.Number),(.tmp 39,kI (IntKind.i64.wrap (vV.size - wv.size)))],[],[]⟩,⟨[(.tmp 30,.own (Rp.list Rp.byte) 35 800001 [0,18,19] vV.pieces),(.tmp 31,kI (wv.pieces.length:Int))],[],[]⟩,⟨[],[],[.sl 30 (.own (Rp.list Rp.byte) 35 800001 [0,18,19] vV.pieces),.sl 41 (.ptr 800001 (Int.toNat (wv.pieces.length:Int)*(Rp.list Rp.byte).size)),.sl 40 (.own Rp.byte 5 20 [] wa),.sl 30 (.own (Rp.list Rp.byte) 35 800001 [0,18,19] vV.pieces),.bx ⟨800000,76,(zj 800001 [0,18,19] vV)⟩]⟩] [0,8] [800000] zcM (by kernel_rfl) (by exact (lwn 13 (lw_x (zu.cons _ (zFL (lcd [kI f.Number,kI (IntKind.i64.wrap (vV.size - wv.size))] 18 call117 (zuD ul)) rfl)) (lw_x (zFL (zDb rfl zqX.el uo) rfl) (lw_r (zBF (ins:=[(.tmp 30,.own (Rp.list Rp.byte) 35 800001 [0,18,19] vV.pieces),(.tmp 41,.ptr 800001 (Int.toNat (wv.pieces.length:Int)*(Rp.list Rp.byte).size)),(.tmp 40,.own Rp.byte 5 20 [] wa)]) [30] [(⟨800000,76,(zj 800001 [0,18,19] vV)⟩,⟨800000,76,[.own (Rp.list Rp.byte) 35 800001 [0,18,19,20] (vV.pieces.set (Int.toNat (wv.pieces.length:Int)) wa),kI vV.size]⟩)] (zGB (r:=(Rp.list Rp.byte)) (e:=35) (ℓ:=800001) (C:=[0,18,19]) (xs:=vV.pieces) (off:=(Int.toNat (wv.pieces.length:Int)*(Rp.list Rp.byte).size)) (.tmp 30) (Int.toNat (wv.pieces.length:Int)) 0 x2 wa [0,18,19,20] rfl rfl sizeOf35 rfl (zAl uo) rfl (zEX rfl _) rfl) ⟨trivial,trivial,trivial,trivial⟩ (fun _ _=>nofun) ⟨⟨rfl,rfl,rfl,⟨zpk 0 rfl,zaP rfl,trivial⟩⟩,trivial⟩) lw_0))))) (jb h fun x3 uw h=>jd [0] [800000] zcM (by exact (lwn 9 (ly [.own (Rp.list Rp.byte) 35 800001 [0,18,19,20] (vV.pieces.set (Int.toNat (wv.pieces.length:Int)) wa),kI (wv.pieces.length:Int)] (zAA rfl zqX.el (zlY _ _ _ _ _) uw) rfl (lx (ldl (Rp.list Rp.byte) [800001,0,18,19,20] x3 0 Rp.byte x3) (lwn 4 (ly [.ptr 800000 1,kI (IntKind.i64.wrap (vV.size+(x3.length:Int)))] (zwI (b:=⟨800000,76,[.own (Rp.list Rp.byte) 35 800001 [0,18,19,20] (vV.pieces.set (Int.toNat (wv.pieces.length:Int)) wa),kI vV.size]⟩) (off:=1) rfl sizeOf3 rfl rfl rfl) rfl l0)))))) ?_))))));cases h;exact zvn (lks [800000] [(18,2),(19,2),(20,2)] lw)
theorem zmv (vk:∀{wv:zg} {sv:(List zd)} {uf:Int} {x:zc} {r:zg},xq wv sv uf x=some r->zhc prog 31 [.ptr 800000 0,.sl zi [0] sv,kI uf,.rc zh [0] x] [] [⟨800000,76,(zj 800001 [0] wv)⟩] [800000] [⟨800000,76,(zj 800001 [0,2] r)⟩]) (vl:∀{wv:zg} {sv:(List zd)} {f:zb} {x:zc} {r:zg},xc wv sv f x=some r->zhc prog 71 [.ptr 800000 0,.sl zi [0] sv,.rc ze [0] f,.rc zh [0] x] [] [⟨800000,76,(zj 800001 [0] wv)⟩] [800000] [⟨800000,76,(zj 800001 [0,2] r)⟩]) (vm:∀{wv:zg} {sv:(List zd)} {f:zb} {v:za} {r:zg},xd wv sv f v=some r->zhc prog 37 [.ptr 800000 0,.sl zi [0] sv,.rc ze [0] f,.rc zf [0] v] [] [⟨800000,76,(zj 800001 [0] wv)⟩] [800000] [⟨800000,76,(zj 800001 [0,2] r)⟩]) (h:zdZ xq xc xd wv sv f v=some r):zhc prog 37 [.ptr 800000 0,.sl zi [0] sv,.rc ze [0] f,.rc zf [0] v] [] [⟨800000,76,(zj 800001 [0] wv)⟩] [800000] [⟨800000,76,(zj 800001 [0,2] r)⟩]:=by
 refine zjJ (E:=⟨[(0,.ptr 800000 0)],[⟨800000,76,(zj 800001 [0,2] r)⟩]⟩) 48 [0] [(0,800000)] func37 rfl rfl rfl trivial ⟨⟨rfl,rfl,rfl⟩,trivial⟩ ⟨rfl,trivial⟩ (fun Xt old=>?_);refine zgf ?_;unfold zdZ at h;refine jr (ral 1 [34] [.rc zf [0] v] rfl (zjo 35 (zM [0] v) [0] rfl rfl rfl (by rw [zF]<;>rfl) rfl) rfl rf) (jp (jb h fun p uL h=>jn (.N [0,1,6,7] [34,35] [] [⟨800000,76,[.own (Rp.list Rp.byte) 35 800001 [0,36,37,38,39,40] p.1,kI p.2]⟩]) ?_ ?_))
 ·replace h:=uL;refine jI h ?_ ?_<;>intro pV h
  ·refine jb h fun rv pY h=>jr (lb 1 ze [] f (ra 2 [.ptr 800000 0,.rc ze [] f,.sl vS [0] v.Words] rfl (zgg (args:=[.tmp 16,.tmp 17,.tmp 19]) [.ptr 800000 0,.rc ze [] f,.sl vS [0] v.Words] [⟨800000,76,(zj 800001 [0] wv)⟩] [(800000,800000),(800001,800001)] [0] 39 [800001] rfl call69 (znd pY) rfl rfl rfl rfl rfl rfl rfl rfl) rfl rf)) ?_;cases h;exact zX (lks [800000,34,35] [(41,40),(42,40),(43,40),(44,40),(45,40)] lw)
  cases h;exact zX lw
 refine zfv (jp (zm (jb h fun q ue h=>jl ue [0,1,6,7,22,23] [34,35] (fun s=>[(24,kI s.1)]) (fun s=>[⟨800000,76,[.own (Rp.list Rp.byte) 35 800001 [0,36,37,38,39,40,46] s.2.1,kI s.2.2]⟩]) (fun o=> .X 0 [0,1,6,7] [34,35] [] [⟨800000,76,[.own (Rp.list Rp.byte) 35 800001 [0,36,37,38,39,40,46] o.1,kI o.2]⟩]) ?_ lw ?_)))
 ·clear h;intro s o h;obtain ⟨v2,f4,f5⟩:=s;replace h:zaR f v v2 f4 f5=some o:=h;unfold zaR at h;refine jp (jI h ?_ ?_)<;>intro pX h
  ·refine zm (jb h fun x uk h=>jr (rx 0 [0] zlj.el uk rfl rfl rf) (jb h fun v3 uC h=>jb h fun vV ud h=>jr (ra 4 [kS x] rfl (zmG 53 rfl underlying9 underlying35 underlying5 uC) rfl (ra 0 [.ptr 800000 0,kI f.Number,kI 2,.sl Rp.byte [53] v3] rfl (zgg (args:=[.tmp 28,.tmp 30,.const (.int .i64 2),.tmp 32]) [.ptr 800000 0,kI f.Number,kI 2,.sl Rp.byte [53] v3] [⟨800000,76,[.own (Rp.list Rp.byte) 35 800001 [0,36,37,38,39,40,46] f4,kI f5]⟩] [(800000,800000),(800001,800001)] [0,36,37,38,39,40,46,53] 52 [800001] rfl call70 (zfY ud) rfl rfl rfl rfl rfl rfl rfl rfl) rfl rf)) (zS (jp ?_))));cases h;exact zX (lks [800000,34,35] [(53,46),(54,46),(55,46)] lw)
  cases h;exact zV rfl lzz
 refine zat _ rfl (jp (zm (jb h fun q2 ur h=>jl ur [0,1,6,36,37] [34] (fun s=>[(38,kI s.1)]) (fun s=>[⟨800000,76,[.own (Rp.list Rp.byte) 35 800001 [0,36,37,38,39,40,46,56] s.2.1,kI s.2.2]⟩]) (fun o=> .X 2 [0] [] [] [⟨800000,76,[.own (Rp.list Rp.byte) 35 800001 [0,36,37,38,39,40,46,56] o.1,kI o.2]⟩]) ?_ lw ?_)))
 ·clear h;intro s o h;obtain ⟨v4,f8,f9⟩:=s;replace h:zaS f xc sv v v4 f8 f9=some o:=h;unfold zaS at h;refine jp (jI h ?_ ?_)<;>intro pZ h
  ·refine zm (jb h fun x2 uo h=>jr (rx 0 [0] zyZ.el uo rfl rfl (rc 0 rfl (lde zh [0] x2 zxm) (ral 1 [61] [.ptr 61 0,.rc zh [0] x2] rfl (zkr (r:=zh) (b:=⟨61,27,[kN,kN]⟩) (off:=0) (zbk [0] x2) rfl sizeOf27 rfl rfl (by rw [zaQ]<;>rfl) rfl) rfl rf))) (jb h fun wa ul h=>jr (lb 2 ze [] f (rc 1 rfl (zu.le (ins':=[(.tmp 42,.ptr 800000 0),(.tmp 43,.sl zi [0] sv),(.tmp 44,.rc ze [] f),(.tmp 45,.ag (zbk [0] x2))]) (zgg (args:=[.tmp 42,.tmp 43,.tmp 44,.tmp 45]) [.ptr 800000 0,.sl zi [0] sv,.rc ze [] f,.rc zh [0] x2] [⟨800000,76,[.own (Rp.list Rp.byte) 35 800001 [0,36,37,38,39,40,46,56] f8,kI f9]⟩] [(800000,800000),(800001,800001)] [0,36,37,38,39,40,46,56] 60 [800001] rfl call71 (vl ul) rfl rfl rfl rfl rfl rfl rfl rfl) ⟨⟨rfl,vU _⟩,⟨rfl,vU _⟩,⟨rfl,vU _⟩,⟨rfl,zZ [0] x2⟩,trivial⟩) rf)) (zS (jp ?_))));cases h;exact zX (lks [800000,34] [(62,56)] lw)
  cases h;exact zV rfl lzz
 refine zat _ rfl ?_;cases h;exact zvn (lks [800000] [(36,2),(37,2),(38,2),(39,2),(40,2),(46,2),(56,2)] lw)
theorem zfG (uh:Nat):(∀{wv:zg} {sv:(List zd)} {uf:Int} {x:zc} {r:zg},zbi uh wv sv uf x=some r->zhc prog 31 [.ptr 800000 0,.sl zi [0] sv,kI uf,.rc zh [0] x] [] [⟨800000,76,(zj 800001 [0] wv)⟩] [800000] [⟨800000,76,(zj 800001 [0,2] r)⟩])/\(∀{wv:zg} {sv:(List zd)} {f:zb} {x:zc} {r:zg},zdQ uh wv sv f x=some r->zhc prog 71 [.ptr 800000 0,.sl zi [0] sv,.rc ze [0] f,.rc zh [0] x] [] [⟨800000,76,(zj 800001 [0] wv)⟩] [800000] [⟨800000,76,(zj 800001 [0,2] r)⟩])/\(∀{wv:zg} {sv:(List zd)} {f:zb} {v:za} {r:zg},zcN uh wv sv f v=some r->zhc prog 37 [.ptr 800000 0,.sl zi [0] sv,.rc ze [0] f,.rc zf [0] v] [] [⟨800000,76,(zj 800001 [0] wv)⟩] [800000] [⟨800000,76,(zj 800001 [0,2] r)⟩]):=by
  induction uh with
  | zero=>exact ⟨fun h=>absurd h nofun,fun h=>absurd h nofun,fun h=>absurd h nofun⟩
  | succ uh ih=>exact ⟨fun h=>zlk (fun hh=>ih.1 hh) (fun hh=>ih.2.1 hh) (fun hh=>ih.2.2 hh) h,fun h=>znx (fun hh=>ih.1 hh) (fun hh=>ih.2.1 hh) (fun hh=>ih.2.2 hh) h,fun h=>zmv (fun hh=>ih.1 hh) (fun hh=>ih.2.1 hh) (fun hh=>ih.2.2 hh) h⟩
theorem zhw (h:zbi uh wv sv uf x=some r):zhc prog 31 [.ptr 800000 0,.sl zi [0] sv,kI uf,.rc zh [0] x] [] [⟨800000,76,(zj 800001 [0] wv)⟩] [800000] [⟨800000,76,(zj 800001 [0,2] r)⟩]:=(zfG uh).1 h
end Go.Proofs.YtkgohoggipdokaaGreat
