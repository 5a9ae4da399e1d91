/-
  The Go functions do what the plain functions say. No condition.
-/
import Derived.Test.YtcbkcblkecmjnaaGreatx4G3
namespace Go.Proofs.YtcbkcblkecmjnaaGreat
open Go Go.RowKit
set_option linter.unusedVariables false
set_option maxRecDepth 100000
set_option maxHeartbeats 3200000
theorem zsx {rec_tree_same:ze→ze→Option Bool} {rec_tree_sameValue:zb→zb→Option Bool} {rec_slices_EqualFunc___tree_Value___tree_Value_tree_Value_tree_Value___tree_sameValue:(List zb)→(List zb)→Option Bool} {rec_slices_EqualFunc___tree_Msg___tree_Msg_tree_Msg_tree_Msg___tree_same:(List ze)→(List ze)→Option Bool} (hrec_tree_same:∀{av:ze} {b:ze} {r:Bool},rec_tree_same av b=some r→FnOk Tryz.prog 50 [.rc zf [0] av,.rc zf [0] b] [kB r]) (hrec_tree_sameValue:∀{v:zb} {wv:zb} {r:Bool},rec_tree_sameValue v wv=some r→FnOk Tryz.prog 75 [.rc za [0] v,.rc za [0] wv] [kB r]) (hrec_slices_EqualFunc___tree_Value___tree_Value_tree_Value_tree_Value___tree_sameValue:∀{s1:(List zb)} {s2:(List zb)} {r:Bool},rec_slices_EqualFunc___tree_Value___tree_Value_tree_Value_tree_Value___tree_sameValue s1 s2=some r→FnOk Tryz.prog 74 [.sl za [0] s1,.sl za [0] s2,.lf (.val (.func (.func 75) #[] #[]))] [kB r]) (hrec_slices_EqualFunc___tree_Msg___tree_Msg_tree_Msg_tree_Msg___tree_same:∀{s1:(List ze)} {s2:(List ze)} {r:Bool},rec_slices_EqualFunc___tree_Msg___tree_Msg_tree_Msg_tree_Msg___tree_same s1 s2=some r→FnOk Tryz.prog 100 [.sl zf [0] s1,.sl zf [0] s2,.lf (.val (.func (.func 50) #[] #[]))] [kB r]) {av:ze} {b:ze} {r:Bool} (h:zhG rec_tree_same rec_tree_sameValue rec_slices_EqualFunc___tree_Value___tree_Value_tree_Value_tree_Value___tree_sameValue rec_slices_EqualFunc___tree_Msg___tree_Msg_tree_Msg_tree_Msg___tree_same av b=some r):FnOk Tryz.prog 50 [.rc zf [0] av,.rc zf [0] b] [kB r]:=by
 refine zD (E:=⟨[(4,kB r)],[]⟩) 17 Tryz.func50 rfl rfl rfl ⟨rfl,trivial⟩ (fun Xt=>?_)
 refine zv ?_
 unfold zhG at h
 refine jr (ra 0 [.rc zf [0] av] rfl (zcQ 11 [.sl za [0] av.Values,.sl Rp.str [0] av.Unknown] [0] rfl rfl rfl (by rw [zE]<;>rfl) rfl) rfl (ra 0 [.rc zf [0] b] rfl (zcQ 12 [.sl za [0] b.Values,.sl Rp.str [0] b.Unknown] [0] rfl rfl rfl (by rw [zE]<;>rfl) rfl) rfl rf)) ?_
 obtain ⟨g,h_g,h⟩:=bnd h
 refine zap ⟨[(4,kB g)],[]⟩ ?_ ?_
 ·
  obtain ⟨rv,h_rv,h_g⟩:=bnd h_g
  refine (rl 4 [0] 11 Tryz.call74 (hrec_slices_EqualFunc___tree_Value___tree_Value_tree_Value_tree_Value___tree_sameValue h_rv) (rsl 1 [] 10 rv (fun hc1=>?_) (fun hc1=>?_)))
  ·
   replace h_g:=iteT h_g hc1
   obtain ⟨rv2,h_rv2,h_g⟩:=bnd h_g
   obtain rfl:=sj h_g
   exact (rl 4 [0] 11 Tryz.call76 (zdQ h_rv2) rgg)
  replace h_g:=iteF h_g hc1
  obtain rfl:=sj h_g
  exact rgg
 obtain rfl:=sj h
 exact zA lzz
theorem znd {rec_tree_same:ze→ze→Option Bool} {rec_tree_sameValue:zb→zb→Option Bool} {rec_slices_EqualFunc___tree_Value___tree_Value_tree_Value_tree_Value___tree_sameValue:(List zb)→(List zb)→Option Bool} {rec_slices_EqualFunc___tree_Msg___tree_Msg_tree_Msg_tree_Msg___tree_same:(List ze)→(List ze)→Option Bool} (hrec_tree_same:∀{av:ze} {b:ze} {r:Bool},rec_tree_same av b=some r→FnOk Tryz.prog 50 [.rc zf [0] av,.rc zf [0] b] [kB r]) (hrec_tree_sameValue:∀{v:zb} {wv:zb} {r:Bool},rec_tree_sameValue v wv=some r→FnOk Tryz.prog 75 [.rc za [0] v,.rc za [0] wv] [kB r]) (hrec_slices_EqualFunc___tree_Value___tree_Value_tree_Value_tree_Value___tree_sameValue:∀{s1:(List zb)} {s2:(List zb)} {r:Bool},rec_slices_EqualFunc___tree_Value___tree_Value_tree_Value_tree_Value___tree_sameValue s1 s2=some r→FnOk Tryz.prog 74 [.sl za [0] s1,.sl za [0] s2,.lf (.val (.func (.func 75) #[] #[]))] [kB r]) (hrec_slices_EqualFunc___tree_Msg___tree_Msg_tree_Msg_tree_Msg___tree_same:∀{s1:(List ze)} {s2:(List ze)} {r:Bool},rec_slices_EqualFunc___tree_Msg___tree_Msg_tree_Msg_tree_Msg___tree_same s1 s2=some r→FnOk Tryz.prog 100 [.sl zf [0] s1,.sl zf [0] s2,.lf (.val (.func (.func 50) #[] #[]))] [kB r]) {v:zb} {wv:zb} {r:Bool} (h:zeo rec_tree_same rec_tree_sameValue rec_slices_EqualFunc___tree_Value___tree_Value_tree_Value_tree_Value___tree_sameValue rec_slices_EqualFunc___tree_Msg___tree_Msg_tree_Msg_tree_Msg___tree_same v wv=some r):FnOk Tryz.prog 75 [.rc za [0] v,.rc za [0] wv] [kB r]:=by
 refine zD (E:=⟨[(4,kB r)],[]⟩) 31 Tryz.func75 rfl rfl rfl ⟨rfl,trivial⟩ (fun Xt=>?_)
 refine zv ?_
 unfold zeo at h
 refine jr (ra 0 [.rc za [0] v] rfl (zcQ 11 [kI v.Number,.sl (Rp.int .u64) [0] v.Words,.sl Rp.str [0] v.Texts,.sl zf [0] v.Subs] [0] rfl rfl rfl (by rw [zG]<;>rfl) rfl) rfl (ra 0 [.rc za [0] wv] rfl (zcQ 12 [kI wv.Number,.sl (Rp.int .u64) [0] wv.Words,.sl Rp.str [0] wv.Texts,.sl zf [0] wv.Subs] [0] rfl rfl rfl (by rw [zG]<;>rfl) rfl) rfl rf)) ?_
 obtain ⟨g,h_g,h⟩:=bnd h
 refine zap ⟨[(4,kB g)],[]⟩ ?_ ?_
 ·
  refine (rsl 6 [] 10 (v.Number==wv.Number) (fun hc1=>?_) (fun hc1=>?_))
  ·
   replace h_g:=iteT h_g hc1
   obtain ⟨rv,h_rv,h_g⟩:=bnd h_g
   refine (rl 4 [0] 11 Tryz.call99 (zgy h_rv) (rsl 2 [] 17 rv (fun hc2=>?_) (fun hc2=>?_)))
   ·
    replace h_g:=iteT h_g hc2
    obtain ⟨rv2,h_rv2,h_g⟩:=bnd h_g
    refine (rl 4 [0] 11 Tryz.call76 (zdQ h_rv2) (rsl 2 [] 24 rv2 (fun hc3=>?_) (fun hc3=>?_)))
    ·
     replace h_g:=iteT h_g hc3
     obtain ⟨rv3,h_rv3,h_g⟩:=bnd h_g
     obtain rfl:=sj h_g
     exact (rl 4 [0] 11 Tryz.call100 (hrec_slices_EqualFunc___tree_Msg___tree_Msg_tree_Msg_tree_Msg___tree_same h_rv3) rgg)
    replace h_g:=iteF h_g hc3
    obtain rfl:=sj h_g
    exact rgg
   replace h_g:=iteF h_g hc2
   obtain rfl:=sj h_g
   exact rgg
  replace h_g:=iteF h_g hc1
  obtain rfl:=sj h_g
  exact rgg
 obtain rfl:=sj h
 exact zA lzz
theorem zbr {rec_tree_same:ze→ze→Option Bool} {rec_tree_sameValue:zb→zb→Option Bool} {rec_slices_EqualFunc___tree_Value___tree_Value_tree_Value_tree_Value___tree_sameValue:(List zb)→(List zb)→Option Bool} {rec_slices_EqualFunc___tree_Msg___tree_Msg_tree_Msg_tree_Msg___tree_same:(List ze)→(List ze)→Option Bool} (hrec_tree_same:∀{av:ze} {b:ze} {r:Bool},rec_tree_same av b=some r→FnOk Tryz.prog 50 [.rc zf [0] av,.rc zf [0] b] [kB r]) (hrec_tree_sameValue:∀{v:zb} {wv:zb} {r:Bool},rec_tree_sameValue v wv=some r→FnOk Tryz.prog 75 [.rc za [0] v,.rc za [0] wv] [kB r]) (hrec_slices_EqualFunc___tree_Value___tree_Value_tree_Value_tree_Value___tree_sameValue:∀{s1:(List zb)} {s2:(List zb)} {r:Bool},rec_slices_EqualFunc___tree_Value___tree_Value_tree_Value_tree_Value___tree_sameValue s1 s2=some r→FnOk Tryz.prog 74 [.sl za [0] s1,.sl za [0] s2,.lf (.val (.func (.func 75) #[] #[]))] [kB r]) (hrec_slices_EqualFunc___tree_Msg___tree_Msg_tree_Msg_tree_Msg___tree_same:∀{s1:(List ze)} {s2:(List ze)} {r:Bool},rec_slices_EqualFunc___tree_Msg___tree_Msg_tree_Msg_tree_Msg___tree_same s1 s2=some r→FnOk Tryz.prog 100 [.sl zf [0] s1,.sl zf [0] s2,.lf (.val (.func (.func 50) #[] #[]))] [kB r]) {s1:(List zb)} {s2:(List zb)} {r:Bool} (h:zN rec_tree_same rec_tree_sameValue rec_slices_EqualFunc___tree_Value___tree_Value_tree_Value_tree_Value___tree_sameValue rec_slices_EqualFunc___tree_Msg___tree_Msg_tree_Msg_tree_Msg___tree_same s1 s2=some r):FnOk Tryz.prog 74 [.sl za [0] s1,.sl za [0] s2,.lf (.val (.func (.func 75) #[] #[]))] [kB r]:=by
 refine zD (E:=⟨[(6,kB r)],[]⟩) 32 Tryz.func74 rfl rfl rfl ⟨rfl,trivial⟩ (fun Xt=>?_)
 refine zv ?_
 unfold zN at h
 refine jp ?_
 refine jp ?_
 rcases zp h with ⟨hc1,h⟩| ⟨hc1,h⟩
 ·
  refine jT hc1 ?_
  refine jp ?_
  obtain rfl:=sj h
  exact zA lzz
 refine jF hc1 ?_
 refine jp ?_
 refine zH ?_
 obtain ⟨q,h_q,h⟩:=bnd h
 refine zaQ (fun s:Int=>zu rec_tree_sameValue s1 s2 s) (fun s=>⟨[(1,.sl za [0] s2),(2,.lf (.val (.func (.func 75) #[] #[]))),(15,.sl za [0] s1),(16,kI (s1.length:Int)),(17,kI s)],[]⟩) (fun o e a w=>match o with| (.inl v_)=>e= .exit 0∧Sx ⟨⟨32,[]⟩,Xt,false,#[]⟩ ⟨[],[]⟩ a w| (.inr v_)=>e= .ret∧Sx ⟨⟨32,[]⟩,Xt,false,#[]⟩ ⟨[(6,kB false)],[]⟩ a w) ?_ h_q lzz ?_
 ·
  clear h
  intro v o h
  refine zv ?_
  replace h:zu rec_tree_sameValue s1 s2 v=some o:=h
  unfold zu at h
  refine jp ?_
  rcases zp h with ⟨hc2,h⟩| ⟨hc2,h⟩
  ·
   refine jT hc2 ?_
   refine zH ?_
   obtain ⟨x,h_x,h⟩:=bnd h
   refine jr (ra 1 [.sl za [0] s1,kI v] rfl (zby rfl zja.el (zaa _ _ _) h_x) rfl (ra 0 [.ep za [0] x 0] rfl (zds rfl ⟨Tryz.isAgg50,Tryz.sizeOf50⟩) rfl (ral 2 [12] [.ptr 12 0,.rc za [0] x] rfl (zeY (r:=za) (b:=⟨12,50,[kI 0,kN,kN,kN]⟩) (off:=0) [kI x.Number,.sl (Rp.int .u64) [0] x.Words,.sl Rp.str [0] x.Texts,.sl zf [0] x.Subs] rfl Tryz.sizeOf50 rfl rfl (by rw [zG]<;>rfl) rfl) rfl rf))) ?_
   obtain ⟨x2,h_x2,h⟩:=bnd h
   refine jr (ra 2 [.sl za [0] s2,kI v] rfl (zby rfl zja.el (zaa _ _ _) h_x2) rfl (ra 0 [.ep za [0] x2 0] rfl (zds rfl ⟨Tryz.isAgg50,Tryz.sizeOf50⟩) rfl (ral 1 [13] [.ptr 13 0,.rc za [0] x2] rfl (zeY (r:=za) (b:=⟨13,50,[kI 0,kN,kN,kN]⟩) (off:=0) [kI x2.Number,.sl (Rp.int .u64) [0] x2.Words,.sl Rp.str [0] x2.Texts,.sl zf [0] x2.Subs] rfl Tryz.sizeOf50 rfl rfl (by rw [zG]<;>rfl) rfl) rfl rf))) ?_
   obtain ⟨rv,h_rv,h⟩:=bnd h
   refine jr (rc 3 rfl (zL.le (ins':=[(.tmp 26,.lf (.val (.func (.func 75) #[] #[]))),(.tmp 27,.ag [kI x.Number,.sl (Rp.int .u64) [0] x.Words,.sl Rp.str [0] x.Texts,.sl zf [0] x.Subs]),(.tmp 28,.ag [kI x2.Number,.sl (Rp.int .u64) [0] x2.Words,.sl Rp.str [0] x2.Texts,.sl zf [0] x2.Subs])]) (znG (args:=[.tmp 27,.tmp 28]) [.rc za [0] x,.rc za [0] x2] [0] 12 rfl (zvH _) Tryz.call75 (hrec_tree_sameValue h_rv) rfl rfl rfl rfl rfl) ⟨⟨rfl,AV.le_refl _⟩,⟨rfl,zbk za [0] x [kI x.Number,.sl (Rp.int .u64) [0] x.Words,.sl Rp.str [0] x.Texts,.sl zf [0] x.Subs] (by rw [zG]<;>rfl) rfl⟩,⟨rfl,zbk za [0] x2 [kI x2.Number,.sl (Rp.int .u64) [0] x2.Words,.sl Rp.str [0] x2.Texts,.sl zf [0] x2.Subs] (by rw [zG]<;>rfl) rfl⟩,trivial⟩) rf) ?_
   rcases zp h with ⟨hc3,h⟩| ⟨hc3,h⟩
   ·
    refine jT hc3 ?_
    refine jp ?_
    obtain rfl:=sj h
    exact zbR lzz
   refine jF hc3 ?_
   refine zau ?_
   refine jp ?_
   obtain rfl:=sj h
   exact zae lzz
  refine jF hc2 ?_
  obtain rfl:=sj h
  exact zaO rfl lzz
 rcases q with u| u2
 ·
  refine zbx _ rfl ?_
  refine jp ?_
  obtain rfl:=sj h
  exact zA lzz
 obtain rfl:=sj h
 exact zeg lzz
theorem zbL {rec_tree_same:ze→ze→Option Bool} {rec_tree_sameValue:zb→zb→Option Bool} {rec_slices_EqualFunc___tree_Value___tree_Value_tree_Value_tree_Value___tree_sameValue:(List zb)→(List zb)→Option Bool} {rec_slices_EqualFunc___tree_Msg___tree_Msg_tree_Msg_tree_Msg___tree_same:(List ze)→(List ze)→Option Bool} (hrec_tree_same:∀{av:ze} {b:ze} {r:Bool},rec_tree_same av b=some r→FnOk Tryz.prog 50 [.rc zf [0] av,.rc zf [0] b] [kB r]) (hrec_tree_sameValue:∀{v:zb} {wv:zb} {r:Bool},rec_tree_sameValue v wv=some r→FnOk Tryz.prog 75 [.rc za [0] v,.rc za [0] wv] [kB r]) (hrec_slices_EqualFunc___tree_Value___tree_Value_tree_Value_tree_Value___tree_sameValue:∀{s1:(List zb)} {s2:(List zb)} {r:Bool},rec_slices_EqualFunc___tree_Value___tree_Value_tree_Value_tree_Value___tree_sameValue s1 s2=some r→FnOk Tryz.prog 74 [.sl za [0] s1,.sl za [0] s2,.lf (.val (.func (.func 75) #[] #[]))] [kB r]) (hrec_slices_EqualFunc___tree_Msg___tree_Msg_tree_Msg_tree_Msg___tree_same:∀{s1:(List ze)} {s2:(List ze)} {r:Bool},rec_slices_EqualFunc___tree_Msg___tree_Msg_tree_Msg_tree_Msg___tree_same s1 s2=some r→FnOk Tryz.prog 100 [.sl zf [0] s1,.sl zf [0] s2,.lf (.val (.func (.func 50) #[] #[]))] [kB r]) {s1:(List ze)} {s2:(List ze)} {r:Bool} (h:zS rec_tree_same rec_tree_sameValue rec_slices_EqualFunc___tree_Value___tree_Value_tree_Value_tree_Value___tree_sameValue rec_slices_EqualFunc___tree_Msg___tree_Msg_tree_Msg_tree_Msg___tree_same s1 s2=some r):FnOk Tryz.prog 100 [.sl zf [0] s1,.sl zf [0] s2,.lf (.val (.func (.func 50) #[] #[]))] [kB r]:=by
 refine zD (E:=⟨[(6,kB r)],[]⟩) 32 Tryz.func100 rfl rfl rfl ⟨rfl,trivial⟩ (fun Xt=>?_)
 refine zv ?_
 unfold zS at h
 refine jp ?_
 refine jp ?_
 rcases zp h with ⟨hc1,h⟩| ⟨hc1,h⟩
 ·
  refine jT hc1 ?_
  refine jp ?_
  obtain rfl:=sj h
  exact zA lzz
 refine jF hc1 ?_
 refine jp ?_
 refine zH ?_
 obtain ⟨q,h_q,h⟩:=bnd h
 refine zaQ (fun s:Int=>zy rec_tree_same s1 s2 s) (fun s=>⟨[(1,.sl zf [0] s2),(2,.lf (.val (.func (.func 50) #[] #[]))),(15,.sl zf [0] s1),(16,kI (s1.length:Int)),(17,kI s)],[]⟩) (fun o e a w=>match o with| (.inl v_)=>e= .exit 0∧Sx ⟨⟨32,[]⟩,Xt,false,#[]⟩ ⟨[],[]⟩ a w| (.inr v_)=>e= .ret∧Sx ⟨⟨32,[]⟩,Xt,false,#[]⟩ ⟨[(6,kB false)],[]⟩ a w) ?_ h_q lzz ?_
 ·
  clear h
  intro v o h
  refine zv ?_
  replace h:zy rec_tree_same s1 s2 v=some o:=h
  unfold zy at h
  refine jp ?_
  rcases zp h with ⟨hc2,h⟩| ⟨hc2,h⟩
  ·
   refine jT hc2 ?_
   refine zH ?_
   obtain ⟨x,h_x,h⟩:=bnd h
   refine jr (ra 1 [.sl zf [0] s1,kI v] rfl (zby rfl zmC.el (zaa _ _ _) h_x) rfl (ra 0 [.ep zf [0] x 0] rfl (zds rfl ⟨Tryz.isAgg30,Tryz.sizeOf30⟩) rfl (ral 2 [12] [.ptr 12 0,.rc zf [0] x] rfl (zeY (r:=zf) (b:=⟨12,30,[kN,kN]⟩) (off:=0) [.sl za [0] x.Values,.sl Rp.str [0] x.Unknown] rfl Tryz.sizeOf30 rfl rfl (by rw [zE]<;>rfl) rfl) rfl rf))) ?_
   obtain ⟨x2,h_x2,h⟩:=bnd h
   refine jr (ra 2 [.sl zf [0] s2,kI v] rfl (zby rfl zmC.el (zaa _ _ _) h_x2) rfl (ra 0 [.ep zf [0] x2 0] rfl (zds rfl ⟨Tryz.isAgg30,Tryz.sizeOf30⟩) rfl (ral 1 [13] [.ptr 13 0,.rc zf [0] x2] rfl (zeY (r:=zf) (b:=⟨13,30,[kN,kN]⟩) (off:=0) [.sl za [0] x2.Values,.sl Rp.str [0] x2.Unknown] rfl Tryz.sizeOf30 rfl rfl (by rw [zE]<;>rfl) rfl) rfl rf))) ?_
   obtain ⟨rv,h_rv,h⟩:=bnd h
   refine jr (rc 3 rfl (zL.le (ins':=[(.tmp 26,.lf (.val (.func (.func 50) #[] #[]))),(.tmp 27,.ag [.sl za [0] x.Values,.sl Rp.str [0] x.Unknown]),(.tmp 28,.ag [.sl za [0] x2.Values,.sl Rp.str [0] x2.Unknown])]) (znG (args:=[.tmp 27,.tmp 28]) [.rc zf [0] x,.rc zf [0] x2] [0] 12 rfl (zvH _) Tryz.call50 (hrec_tree_same h_rv) rfl rfl rfl rfl rfl) ⟨⟨rfl,AV.le_refl _⟩,⟨rfl,zbk zf [0] x [.sl za [0] x.Values,.sl Rp.str [0] x.Unknown] (by rw [zE]<;>rfl) rfl⟩,⟨rfl,zbk zf [0] x2 [.sl za [0] x2.Values,.sl Rp.str [0] x2.Unknown] (by rw [zE]<;>rfl) rfl⟩,trivial⟩) rf) ?_
   rcases zp h with ⟨hc3,h⟩| ⟨hc3,h⟩
   ·
    refine jT hc3 ?_
    refine jp ?_
    obtain rfl:=sj h
    exact zbR lzz
   refine jF hc3 ?_
   refine zau ?_
   refine jp ?_
   obtain rfl:=sj h
   exact zae lzz
  refine jF hc2 ?_
  obtain rfl:=sj h
  exact zaO rfl lzz
 rcases q with u| u2
 ·
  refine zbx _ rfl ?_
  refine jp ?_
  obtain rfl:=sj h
  exact zA lzz
 obtain rfl:=sj h
 exact zeg lzz
theorem zgD (fuel:Nat):(∀{av:ze} {b:ze} {r:Bool},zen fuel av b=some r→FnOk Tryz.prog 50 [.rc zf [0] av,.rc zf [0] b] [kB r])∧(∀{v:zb} {wv:zb} {r:Bool},zcs fuel v wv=some r→FnOk Tryz.prog 75 [.rc za [0] v,.rc za [0] wv] [kB r])∧(∀{s1:(List zb)} {s2:(List zb)} {r:Bool},zJ fuel s1 s2=some r→FnOk Tryz.prog 74 [.sl za [0] s1,.sl za [0] s2,.lf (.val (.func (.func 75) #[] #[]))] [kB r])∧(∀{s1:(List ze)} {s2:(List ze)} {r:Bool},zP fuel s1 s2=some r→FnOk Tryz.prog 100 [.sl zf [0] s1,.sl zf [0] s2,.lf (.val (.func (.func 50) #[] #[]))] [kB r]):=by
  induction fuel with
  | zero=>exact ⟨fun h=>absurd h nofun,fun h=>absurd h nofun,fun h=>absurd h nofun,fun h=>absurd h nofun⟩
  | succ fuel ih=>exact ⟨fun h=>zsx (fun hh=>ih.1 hh) (fun hh=>ih.2.1 hh) (fun hh=>ih.2.2.1 hh) (fun hh=>ih.2.2.2 hh) h,fun h=>znd (fun hh=>ih.1 hh) (fun hh=>ih.2.1 hh) (fun hh=>ih.2.2.1 hh) (fun hh=>ih.2.2.2 hh) h,fun h=>zbr (fun hh=>ih.1 hh) (fun hh=>ih.2.1 hh) (fun hh=>ih.2.2.1 hh) (fun hh=>ih.2.2.2 hh) h,fun h=>zbL (fun hh=>ih.1 hh) (fun hh=>ih.2.1 hh) (fun hh=>ih.2.2.1 hh) (fun hh=>ih.2.2.2 hh) h⟩
theorem zuX {fuel:Nat} {av:ze} {b:ze} {r:Bool} (h:zen fuel av b=some r):FnOk Tryz.prog 50 [.rc zf [0] av,.rc zf [0] b] [kB r]:=(zgD fuel).1 h
end Go.Proofs.YtcbkcblkecmjnaaGreat
