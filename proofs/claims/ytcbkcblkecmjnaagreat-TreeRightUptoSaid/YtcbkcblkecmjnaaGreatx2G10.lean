/-
  The Go functions do what the plain functions say. No condition.
-/
import Derived.Test.YtcbkcblkecmjnaaGreatx2G9
namespace Go.Proofs.YtcbkcblkecmjnaaGreat
open Go Go.RowKit
set_option linter.unusedVariables false
set_option maxRecDepth 100000
set_option maxHeartbeats 3200000
theorem ztR {sv:(List zh)} {r:Bool} (h:zjs sv=some r):FnOk Tryz.prog 52 [.sl zi [0] sv] [kB r]:=by
 refine zC (E:=⟨[(2,kB r)],[]⟩) 12 Tryz.func52 rfl rfl rfl ⟨rfl,trivial⟩ (fun Xt=>?_)
 refine zp ?_
 unfold zjs at h
 refine jp ?_
 obtain ⟨rv,h_rv,h⟩:=bnd h
 refine jr (rl 1 [0] 9 Tryz.call80 (ztQ h_rv) (rfl' [11])) ?_
 refine jp ?_
 obtain rfl:=sj h
 exact zz lzz
theorem zyY {m:zh} {b:(List UInt8)} {fromv:Int} {r:(zg×Int)} (h:znS m b fromv=some r):FnOk Tryz.prog 133 [.rc zi [0] m,.sl Rp.byte [0] b,kI fromv] [.rc zj [] r.1,k8 r.2]:=by
 refine zC (E:=⟨[(6,.ptr 2 0),(7,k8 r.2)],[⟨2,113,[kI r.1.Record.Number,kI r.1.Record.Wire,kI r.1.Record.From,kI r.1.Record.At,kI r.1.Record.To,kI r.1.Field,kB r.1.Run]⟩]⟩) 15 Tryz.func133 rfl rfl rfl ⟨⟨_,_,rfl,rfl,rfl,rfl,⟨Tryz.isAgg113,Tryz.sizeOf113⟩⟩,rfl,trivial⟩ (fun Xt=>?_)
 refine zp ?_
 unfold znS at h
 refine jr (ra 0 [.rc zi [0] m] rfl (zcb 13 [kS m.Name,.sl zf [0] m.Fields] [0] rfl rfl rfl rfl rfl) rfl (rfl' [14])) ?_
 obtain ⟨rv2,h_rv2,h⟩:=bnd h
 refine jr (rc 3 rfl (znw (rk:=zad) (rv:=zaf) 15 rfl) (rkl 0 [] ⟨[(6,.ptr 14 0),(8,.ag [kS m.Name,.sl zf [0] m.Fields]),(9,.sl Rp.byte [0] b),(10,kI fromv),(11,.om zad zaf 15 [] ([]:(List (zS×zX))))],[⟨14,113,[kI 0,kI 0,kI 0,kI 0,kI 0,kI 0,kB false]⟩]⟩ (zhz ⟨[(6,.ptr 14 0),(8,.ag [kS m.Name,.sl zf [0] m.Fields]),(9,.sl Rp.byte [0] b),(10,kI fromv),(11,.om zad zaf 15 [0] rv2.2.2)],[⟨14,113,[kI 0,kI 0,kI 0,kI 0,kI 0,kI 0,kB false]⟩]⟩ (zor.le (ins':=[(.tmp 8,.ag [kS m.Name,.sl zf [0] m.Fields]),(.tmp 9,.sl Rp.byte [0] b),(.tmp 10,kI fromv),(.tmp 11,.om zad zaf 15 [] ([]:(List (zS×zX))))]) (zmy (args:=[.tmp 8,.tmp 9,.tmp 10,.tmp 11]) [.rc zi [0] m,.sl Rp.byte [0] b,kI fromv,.om zad zaf 15 [] ([]:(List (zS×zX)))] [(15,2)] [0] 15 [] rfl Tryz.call88 (zsq h_rv2) rfl rfl (by kernel_rfl) rfl rfl rfl) ⟨⟨rfl,zaa zi [0] m [kS m.Name,.sl zf [0] m.Fields] rfl rfl⟩,⟨rfl,AV.le_refl _⟩,⟨rfl,AV.le_refl _⟩,⟨rfl,AV.le_refl _⟩,trivial⟩) rfl (by kernel_rfl) (by kernel_rfl) ⟨⟨_,rfl,zx rfl⟩,⟨_,rfl,zx rfl⟩,⟨_,rfl,zx rfl⟩,⟨_,rfl,zx rfl⟩,⟨_,rfl,zeJ 0 rfl⟩,trivial⟩ ⟨⟨_,rfl,rfl,rfl,⟨zx rfl,zx rfl,zx rfl,zx rfl,zx rfl,zx rfl,zx rfl,trivial⟩⟩,trivial⟩ rf))) ?_
 obtain rfl:=sj h
 refine zz ?_
 refine lk [6,7] [14] 14 2 ?_
 exact lzz
theorem zqE {k:Int} {b:(List UInt8)} {r:(Int×(List UInt8))} (h:zjY k b=some r):FnOk Tryz.prog 150 [kI k,.sl Rp.byte [0] b] [.fv 170 [.bp (Rp.int .i64) 3 917000 [] r.1,.bp (Rp.list Rp.byte) 24 917001 [0] r.2]]:=by
 refine zC (E:=⟨[(4,.fv 170 [.bp (Rp.int .i64) 3 917000 [] r.1,.bp (Rp.list Rp.byte) 24 917001 [0] r.2])],[]⟩) 6 Tryz.func150 rfl rfl rfl ⟨rfl,trivial⟩ (fun Xt=>?_)
 refine zp ?_
 unfold zjY at h
 refine jq [917000,917001] ?_
 refine jr (ra 0 [.ptr 917000 0,.ptr 917001 0] rfl (zGT (g:=170) [.tmp 2,.tmp 3] [⟨917000,3,[kI k]⟩,⟨917001,24,[.sl Rp.byte [0] b]⟩] [.bp (Rp.int .i64) 3 917000 [] k,.bp (Rp.list Rp.byte) 24 917001 [0] b] rfl ⟨⟨rfl,rfl,rfl,rfl⟩,⟨rfl,rfl,rfl,rfl⟩,trivial⟩ rfl) rfl rf) ?_
 obtain rfl:=sj h
 exact zz lzz
theorem zAM {m:zh} {b:(List UInt8)} {r:((List zg)×Int×Int)} (h:zpS m b=some r):FnOk Tryz.prog 58 [.rc zi [0] m,.sl Rp.byte [0] b] [.own zj 113 2 [] r.1,kI r.2.1,k8 r.2.2]:=by
 refine zC (E:=⟨[(4,.own zj 113 2 [] r.1),(5,kI r.2.1),(6,k8 r.2.2)],[]⟩) 36 Tryz.func58 rfl rfl rfl ⟨rfl,rfl,rfl,trivial⟩ (fun Xt=>?_)
 refine zp ?_
 unfold zpS at h
 refine jr (ra 0 [.rc zi [0] m] rfl (zcb 19 [kS m.Name,.sl zf [0] m.Fields] [0] rfl rfl rfl rfl rfl) rfl rf) ?_
 refine jr (rc 0 rfl (znw (rk:=zad) (rv:=zaf) 20 rfl) rf) ?_
 refine jp ?_
 refine zA ?_
 obtain ⟨q,h_q,h⟩:=bnd h
 refine zal (fun s:((List zg)×(List (zS×zX))×Int)=>zdK b m s.1 s.2.1 s.2.2) (fun s=>⟨[(1,.sl Rp.byte [0] b),(2,.ptr 19 0),(4,.own zj 113 26 [] s.1),(7,.om zad zaf 20 [0] s.2.1),(8,kI s.2.2)],[⟨19,73,[kS m.Name,.sl zf [0] m.Fields]⟩]⟩) (fun o e a w=>match o with| (.inl v_)=>e= .exit 0∧Sx ⟨⟨36,[]⟩,Xt,false,#[]⟩ ⟨[(4,.own zj 113 26 [] v_)],[]⟩ a w| (.inr v_)=>e= .ret∧Sx ⟨⟨36,[]⟩,Xt,false,#[]⟩ ⟨[(4,kN),(5,kI v_.1),(6,k8 v_.2)],[]⟩ a w) ?_ h_q ?_ ?_
 ·
  clear h
  intro s o h
  obtain ⟨l,met,fromv⟩:=s
  refine zp ?_
  replace h:zdK b m l met fromv=some o:=h
  unfold zdK at h
  refine jp ?_
  rcases zm h with ⟨hc1,h⟩| ⟨hc1,h⟩
  ·
   refine jT hc1 ?_
   refine zA ?_
   obtain ⟨rv2,h_rv2,h⟩:=bnd h
   refine jr (rkl 4 [] ⟨[(1,.sl Rp.byte [0] b),(2,.ptr 19 0),(4,.own zj 113 26 [] l),(7,.om zad zaf 20 [0] met),(8,kI fromv),(17,.ag [kS m.Name,.sl zf [0] m.Fields]),(18,.sl Rp.byte [0] b),(19,kI fromv),(20,.om zad zaf 20 [0] met)],[⟨19,73,[kS m.Name,.sl zf [0] m.Fields]⟩]⟩ (zhz ⟨[(1,.sl Rp.byte [0] b),(2,.ptr 19 0),(4,.own zj 113 26 [] l),(7,.om zad zaf 20 [0] rv2.2.2),(8,kI fromv),(17,.ag [kS m.Name,.sl zf [0] m.Fields]),(18,.sl Rp.byte [0] b),(19,kI fromv),(20,.om zad zaf 20 [0] rv2.2.2)],[⟨19,73,[kS m.Name,.sl zf [0] m.Fields]⟩]⟩ (zor.le (ins':=[(.tmp 17,.ag [kS m.Name,.sl zf [0] m.Fields]),(.tmp 18,.sl Rp.byte [0] b),(.tmp 19,kI fromv),(.tmp 20,.om zad zaf 20 [0] met)]) (zmy (args:=[.tmp 17,.tmp 18,.tmp 19,.tmp 20]) [.rc zi [0] m,.sl Rp.byte [0] b,kI fromv,.om zad zaf 20 [0] met] [(20,2)] [0] 26 [] rfl Tryz.call88 (zsq h_rv2) rfl rfl (by kernel_rfl) rfl rfl rfl) ⟨⟨rfl,zaa zi [0] m [kS m.Name,.sl zf [0] m.Fields] rfl rfl⟩,⟨rfl,AV.le_refl _⟩,⟨rfl,AV.le_refl _⟩,⟨rfl,AV.le_refl _⟩,trivial⟩) rfl (by kernel_rfl) (by kernel_rfl) ⟨⟨_,rfl,zx rfl⟩,⟨_,rfl,zx rfl⟩,⟨_,rfl,zx rfl⟩,⟨_,rfl,zeJ 0 rfl⟩,⟨_,rfl,zx rfl⟩,⟨_,rfl,zx rfl⟩,⟨_,rfl,zx rfl⟩,⟨_,rfl,zx rfl⟩,⟨_,rfl,zeJ 0 rfl⟩,trivial⟩ ⟨⟨_,rfl,rfl,rfl,⟨zx rfl,zx rfl,trivial⟩⟩,trivial⟩ (rfl' [29]))) ?_
   refine jp ?_
   rcases zm h with ⟨hc2,h⟩| ⟨hc2,h⟩
   ·
    refine jT hc2 ?_
    refine jp ?_
    obtain rfl:=sj h
    exact zaZ lzz
   refine jF hc2 ?_
   obtain ⟨v,h_v,h⟩:=bnd h
   refine jr (lb 1 zj [] rv2.1 (rc 0 rfl (zfk [.rc zj [] rv2.1] 30 [] ([rv2.1]:(List zg)) rfl zni rfl rfl rfl rfl) (ra 0 [.own zj 113 26 [] l,.own zj 113 30 [] ([rv2.1]:(List zg))] rfl (zjS 26 [] rfl zni.el rfl (zfq _ _ _ _ _) (zfd _ _ _ _ _) h_v (.inl zjm) rfl) rfl rf))) ?_
   refine jp ?_
   refine zag ?_
   obtain rfl:=sj h
   exact zL lzz
  refine jF hc1 ?_
  obtain rfl:=sj h
  exact zam rfl lzz
 ·
  refine zbX ⟨[(1,.sl Rp.byte [0] b),(2,.ptr 19 0),(4,kN),(7,.om zad zaf 20 [] ([]:(List (zS×zX)))),(8,kI 0)],[⟨19,73,[kS m.Name,.sl zf [0] m.Fields]⟩]⟩ (by kernel_rfl) ?_
  refine zdF 4 (.own zj 113 26 [] []) rfl (zbv zj 113 26 [] rfl) ?_
  refine zdF 7 (.om zad zaf 20 [0] ([]:(List (zS×zX)))) rfl (zFn _ _ _ _ rfl rfl) ?_
  exact lzz
 rcases q with u| u2
 ·
  refine zaD _ rfl ?_
  refine jp ?_
  obtain rfl:=sj h
  refine zz ?_
  refine lk [4,5,6] [] 26 2 ?_
  exact lzz
 obtain rfl:=sj h
 refine zcK ?_
 refine zbX ⟨[(4,kN),(5,kI u2.1),(6,k8 u2.2)],[]⟩ (by kernel_rfl) ?_
 refine zdF 4 (.own zj 113 2 [] (([],u2.1,u2.2):((List zg)×Int×Int)).1) rfl (zbv zj 113 2 [] rfl) ?_
 exact lzz
theorem zpL {rec_tree_areMeanings:(List zh)→Int→(List zc)→Option Bool} {rec_tree_fits:ze→(List zh)→zb→Option Bool} {rec_tree_isMeaning:(List zh)→Int→zc→Option Bool} (hrec_tree_areMeanings:∀{sv:(List zh)} {message:Int} {l:(List zc)} {r:Bool},rec_tree_areMeanings sv message l=some r→FnOk Tryz.prog 82 [.sl zi [0] sv,kI message,.sl zd [0] l] [kB r]) (hrec_tree_fits:∀{f:ze} {sv:(List zh)} {v:zb} {r:Bool},rec_tree_fits f sv v=some r→FnOk Tryz.prog 53 [.rc zf [0] f,.sl zi [0] sv,.rc za [0] v] [kB r]) (hrec_tree_isMeaning:∀{sv:(List zh)} {message:Int} {x:zc} {r:Bool},rec_tree_isMeaning sv message x=some r→FnOk Tryz.prog 49 [.sl zi [0] sv,kI message,.rc zd [0] x] [kB r]) {sv:(List zh)} {message:Int} {l:(List zc)} {r:Bool} (h:zfF rec_tree_areMeanings rec_tree_fits rec_tree_isMeaning sv message l=some r):FnOk Tryz.prog 82 [.sl zi [0] sv,kI message,.sl zd [0] l] [kB r]:=by
 refine zC (E:=⟨[(6,kB r)],[]⟩) 29 Tryz.func82 rfl rfl rfl ⟨rfl,trivial⟩ (fun Xt=>?_)
 refine zp ?_
 unfold zfF at h
 refine jp ?_
 refine zW ⟨[(0,.sl zi [0] sv),(1,kI message),(2,.sl zd [0] l),(16,kB ((decide (message<0))|| (decide (message≥(sv.length:Int)))))],[]⟩ ?_ ?_
 ·
  refine (rsl 3 [] 11 (decide (message<0)) (fun hc1=>?_) (fun hc1=>?_))
  · exact (rbl [] 16 true ((decide (message<0))|| (decide (message≥(sv.length:Int)))) (by rw [hc1]<;>rfl))
  exact (rbl [] 16 (decide (message≥(sv.length:Int))) ((decide (message<0))|| (decide (message≥(sv.length:Int)))) (by rw [hc1]<;>rfl))
 rcases zm h with ⟨hc2,h⟩| ⟨hc2,h⟩
 ·
  refine jT hc2 ?_
  refine jp ?_
  obtain rfl:=sj h
  exact zz lzz
 refine jF hc2 ?_
 refine jp ?_
 refine zA ?_
 obtain ⟨q,h_q,h⟩:=bnd h
 refine zal (fun s:Int=>zbz l message rec_tree_isMeaning sv s) (fun s=>⟨[(0,.sl zi [0] sv),(1,kI message),(17,.sl zd [0] l),(18,kI (l.length:Int)),(19,kI s)],[]⟩) (fun o e a w=>match o with| (.inl v_)=>e= .exit 0∧Sx ⟨⟨29,[]⟩,Xt,false,#[]⟩ ⟨[],[]⟩ a w| (.inr v_)=>e= .ret∧Sx ⟨⟨29,[]⟩,Xt,false,#[]⟩ ⟨[(6,kB false)],[]⟩ a w) ?_ h_q lzz ?_
 ·
  clear h
  intro v2 o h
  refine zp ?_
  replace h:zbz l message rec_tree_isMeaning sv v2=some o:=h
  unfold zbz at h
  refine jp ?_
  rcases zm h with ⟨hc3,h⟩| ⟨hc3,h⟩
  ·
   refine jT hc3 ?_
   refine zA ?_
   obtain ⟨x,h_x,h⟩:=bnd h
   refine jr (ra 0 [.sl zd [0] l,kI v2] rfl (zao rfl zoG.el (zJ _ _ _) h_x) rfl (ra 0 [.ep zd [0] x 0] rfl (zci rfl ⟨Tryz.isAgg30,Tryz.sizeOf30⟩) rfl (ral 1 [12] [.ptr 12 0,.rc zd [0] x] rfl (zgA (r:=zd) (b:=⟨12,30,[kN,kN]⟩) (off:=0) [.sl za [0] x.Values,.sl Rp.str [0] x.Unknown] rfl Tryz.sizeOf30 rfl rfl (by rw [zo]<;>rfl) rfl) rfl rf))) ?_
   obtain ⟨rv,h_rv,h⟩:=bnd h
   refine jr (rc 3 rfl (zG.le (ins':=[(.tmp 23,.sl zi [0] sv),(.tmp 24,kI message),(.tmp 25,.ag [.sl za [0] x.Values,.sl Rp.str [0] x.Unknown])]) (zae (args:=[.tmp 23,.tmp 24,.tmp 25]) [.sl zi [0] sv,kI message,.rc zd [0] x] [0] 11 rfl Tryz.call49 (hrec_tree_isMeaning h_rv) rfl rfl rfl rfl rfl) ⟨⟨rfl,AV.le_refl _⟩,⟨rfl,AV.le_refl _⟩,⟨rfl,zaa zd [0] x [.sl za [0] x.Values,.sl Rp.str [0] x.Unknown] (by rw [zo]<;>rfl) rfl⟩,trivial⟩) rf) ?_
   rcases zm h with ⟨hc4,h⟩| ⟨hc4,h⟩
   ·
    refine jT hc4 ?_
    refine jp ?_
    obtain rfl:=sj h
    exact zaZ lzz
   refine jF hc4 ?_
   refine zag ?_
   refine jp ?_
   obtain rfl:=sj h
   exact zL lzz
  refine jF hc3 ?_
  obtain rfl:=sj h
  exact zam rfl lzz
 rcases q with u| u2
 ·
  refine zaD _ rfl ?_
  refine jp ?_
  obtain rfl:=sj h
  exact zz lzz
 obtain rfl:=sj h
 exact zcK lzz
theorem zwy {rec_tree_areMeanings:(List zh)→Int→(List zc)→Option Bool} {rec_tree_fits:ze→(List zh)→zb→Option Bool} {rec_tree_isMeaning:(List zh)→Int→zc→Option Bool} (hrec_tree_areMeanings:∀{sv:(List zh)} {message:Int} {l:(List zc)} {r:Bool},rec_tree_areMeanings sv message l=some r→FnOk Tryz.prog 82 [.sl zi [0] sv,kI message,.sl zd [0] l] [kB r]) (hrec_tree_fits:∀{f:ze} {sv:(List zh)} {v:zb} {r:Bool},rec_tree_fits f sv v=some r→FnOk Tryz.prog 53 [.rc zf [0] f,.sl zi [0] sv,.rc za [0] v] [kB r]) (hrec_tree_isMeaning:∀{sv:(List zh)} {message:Int} {x:zc} {r:Bool},rec_tree_isMeaning sv message x=some r→FnOk Tryz.prog 49 [.sl zi [0] sv,kI message,.rc zd [0] x] [kB r]) {f:ze} {sv:(List zh)} {v:zb} {r:Bool} (h:zkL rec_tree_areMeanings rec_tree_fits rec_tree_isMeaning f sv v=some r):FnOk Tryz.prog 53 [.rc zf [0] f,.sl zi [0] sv,.rc za [0] v] [kB r]:=by
 refine zC (E:=⟨[(6,kB r)],[]⟩) 69 Tryz.func53 rfl rfl rfl ⟨rfl,trivial⟩ (fun Xt=>?_)
 refine zp ?_
 unfold zkL at h
 refine jr (ral 1 [11] [.rc za [0] v] rfl (zcb 12 [kI v.Number,.sl (Rp.int .u64) [0] v.Words,.sl Rp.str [0] v.Texts,.sl zd [0] v.Subs] [0] rfl rfl rfl (by rw [zq]<;>rfl) rfl) rfl rf) ?_
 obtain ⟨rv,h_rv,h⟩:=bnd h
 refine jr (rc 1 rfl (zG.le (ins':=[(.tmp 8,.ag [kI v.Number,.sl (Rp.int .u64) [0] v.Words,.sl Rp.str [0] v.Texts,.sl zd [0] v.Subs])]) (zae (args:=[.tmp 8]) [.rc za [0] v] [0] 11 rfl Tryz.call62 (zkJ h_rv) rfl rfl rfl rfl rfl) ⟨⟨rfl,zaa za [0] v [kI v.Number,.sl (Rp.int .u64) [0] v.Words,.sl Rp.str [0] v.Texts,.sl zd [0] v.Subs] (by rw [zq]<;>rfl) rfl⟩,trivial⟩) rf) ?_
 refine zW ⟨[(1,.sl zi [0] sv),(3,.ptr 11 0),(5,.ptr 12 0),(7,kI rv),(20,kB ((rv==0)|| ((decide (rv>1))&&(!f.Repeated))))],[⟨11,64,[kS f.Name,kI f.Number,kI f.Kind,kB f.Repeated,kB f.Packed,kI f.Of]⟩,⟨12,50,[kI v.Number,.sl (Rp.int .u64) [0] v.Words,.sl Rp.str [0] v.Texts,.sl zd [0] v.Subs]⟩]⟩ ?_ ?_
 ·
  refine (rsl 3 [] 12 (rv==0) (fun hc1=>?_) (fun hc1=>?_))
  · exact (rbl [] 20 true ((rv==0)|| ((decide (rv>1))&&(!f.Repeated))) (by rw [hc1]<;>rfl))
  refine (rsl 3 [] 15 (decide (rv>1)) (fun hc2=>?_) (fun hc2=>?_))
  · exact (rbl [] 20 (!f.Repeated) ((rv==0)|| ((decide (rv>1))&&(!f.Repeated))) (by rw [hc1,hc2]<;>rfl))
  exact (rbl [] 20 false ((rv==0)|| ((decide (rv>1))&&(!f.Repeated))) (by rw [hc1,hc2]<;>rfl))
 rcases zm h with ⟨hc3,h⟩| ⟨hc3,h⟩
 ·
  refine jT hc3 ?_
  refine jp ?_
  obtain rfl:=sj h
  exact zz lzz
 refine jF hc3 ?_
 refine jp ?_
 refine zA ?_
 refine jp ?_
 rcases zm h with ⟨hc4,h⟩| ⟨hc4,h⟩
 ·
  refine jT hc4 ?_
  obtain ⟨g,h_g,h⟩:=bnd h
  refine zW ⟨[(6,kB g)],[]⟩ ?_ ?_
  ·
   refine (rsl 6 [] 30 ((v.Texts.length:Int)==rv) (fun hc5=>?_) (fun hc5=>?_))
   ·
    replace h_g:=iteT h_g hc5
    obtain ⟨rv2,h_rv2,h_g⟩:=bnd h_g
    obtain rfl:=sj h_g
    exact (rl 2 [0] 11 Tryz.call81 (zti h_rv2) rgg)
   replace h_g:=iteF h_g hc5
   obtain rfl:=sj h_g
   exact rgg
  obtain rfl:=sj h
  exact zz lzz
 refine jF hc4 ?_
 refine jp ?_
 rcases zm h with ⟨hc6,h⟩| ⟨hc6,h⟩
 ·
  refine jT hc6 ?_
  refine jp ?_
  obtain rfl:=sj h
  exact zz lzz
 refine jF hc6 ?_
 refine jp ?_
 rcases zm h with ⟨hc7,h⟩| ⟨hc7,h⟩
 ·
  refine jT hc7 ?_
  obtain ⟨g2,h_g2,h⟩:=bnd h
  refine zW ⟨[(6,kB g2)],[]⟩ ?_ ?_
  ·
   refine (rsl 6 [] 49 ((v.Subs.length:Int)==rv) (fun hc8=>?_) (fun hc8=>?_))
   ·
    replace h_g2:=iteT h_g2 hc8
    obtain ⟨rv3,h_rv3,h_g2⟩:=bnd h_g2
    obtain rfl:=sj h_g2
    exact (rl 5 [0] 11 Tryz.call82 (hrec_tree_areMeanings h_rv3) rgg)
   replace h_g2:=iteF h_g2 hc8
   obtain rfl:=sj h_g2
   exact rgg
  obtain rfl:=sj h
  exact zz lzz
 refine jF hc7 ?_
 refine zag ?_
 obtain ⟨g3,h_g3,h⟩:=bnd h
 refine zW ⟨[(6,kB g3)],[]⟩ ?_ ?_
 ·
  refine (rsl 6 [] 62 ((v.Words.length:Int)==rv) (fun hc9=>?_) (fun hc9=>?_))
  ·
   replace h_g3:=iteT h_g3 hc9
   obtain ⟨rv4,h_rv4,h_g3⟩:=bnd h_g3
   obtain rfl:=sj h_g3
   exact (rl 4 [0] 11 Tryz.call83 (zpK h_rv4) rgg)
  replace h_g3:=iteF h_g3 hc9
  obtain rfl:=sj h_g3
  exact rgg
 obtain rfl:=sj h
 exact zz lzz
theorem zrj {rec_tree_areMeanings:(List zh)→Int→(List zc)→Option Bool} {rec_tree_fits:ze→(List zh)→zb→Option Bool} {rec_tree_isMeaning:(List zh)→Int→zc→Option Bool} (hrec_tree_areMeanings:∀{sv:(List zh)} {message:Int} {l:(List zc)} {r:Bool},rec_tree_areMeanings sv message l=some r→FnOk Tryz.prog 82 [.sl zi [0] sv,kI message,.sl zd [0] l] [kB r]) (hrec_tree_fits:∀{f:ze} {sv:(List zh)} {v:zb} {r:Bool},rec_tree_fits f sv v=some r→FnOk Tryz.prog 53 [.rc zf [0] f,.sl zi [0] sv,.rc za [0] v] [kB r]) (hrec_tree_isMeaning:∀{sv:(List zh)} {message:Int} {x:zc} {r:Bool},rec_tree_isMeaning sv message x=some r→FnOk Tryz.prog 49 [.sl zi [0] sv,kI message,.rc zd [0] x] [kB r]) {sv:(List zh)} {message:Int} {x:zc} {r:Bool} (h:zgI rec_tree_areMeanings rec_tree_fits rec_tree_isMeaning sv message x=some r):FnOk Tryz.prog 49 [.sl zi [0] sv,kI message,.rc zd [0] x] [kB r]:=by
 refine zC (E:=⟨[(6,kB r)],[]⟩) 67 Tryz.func49 rfl rfl rfl ⟨rfl,trivial⟩ (fun Xt=>?_)
 refine zp ?_
 unfold zgI at h
 refine jr (ra 0 [.rc zd [0] x] rfl (zcb 11 [.sl za [0] x.Values,.sl Rp.str [0] x.Unknown] [0] rfl rfl rfl (by rw [zo]<;>rfl) rfl) rfl rf) ?_
 obtain ⟨x2,h_x2,h⟩:=bnd h
 refine jr (ra 2 [.sl zi [0] sv,kI message] rfl (zao rfl zhT.el (zJ _ _ _) h_x2) rfl (ra 0 [.ep zi [0] x2 0] rfl (zci rfl ⟨Tryz.isAgg73,Tryz.sizeOf73⟩) rfl (ral 1 [12] [.ptr 12 0,.rc zi [0] x2] rfl (zgA (r:=zi) (b:=⟨12,73,[kS [],kN]⟩) (off:=0) [kS x2.Name,.sl zf [0] x2.Fields] rfl Tryz.sizeOf73 rfl rfl rfl rfl) rfl rf))) ?_
 refine jp ?_
 refine jp ?_
 refine zA ?_
 obtain ⟨q,h_q,h⟩:=bnd h
 refine zal (fun s:(Int×Int)=>zcd rec_tree_fits sv x x2 s.1 s.2) (fun s=>⟨[(0,.sl zi [0] sv),(5,.ptr 11 0),(7,.ptr 12 0),(8,kI s.1),(20,.sl za [0] x.Values),(21,kI (x.Values.length:Int)),(22,kI s.2)],[⟨11,30,[.sl za [0] x.Values,.sl Rp.str [0] x.Unknown]⟩,⟨12,73,[kS x2.Name,.sl zf [0] x2.Fields]⟩]⟩) (fun o e a w=>match o with| (.inl v_)=>e= .exit 0∧Sx ⟨⟨67,[]⟩,Xt,false,#[]⟩ ⟨[(5,.ptr 11 0),(7,.ptr 12 0)],[⟨11,30,[.sl za [0] x.Values,.sl Rp.str [0] x.Unknown]⟩,⟨12,73,[kS x2.Name,.sl zf [0] x2.Fields]⟩]⟩ a w| (.inr v_)=>e= .ret∧Sx ⟨⟨67,[]⟩,Xt,false,#[]⟩ ⟨[(6,kB false)],[]⟩ a w) ?_ h_q lzz ?_
 ·
  clear h
  intro s o h
  obtain ⟨last,v⟩:=s
  refine zp ?_
  replace h:zcd rec_tree_fits sv x x2 last v=some o:=h
  unfold zcd at h
  refine jp ?_
  rcases zm h with ⟨hc1,h⟩| ⟨hc1,h⟩
  ·
   refine jT hc1 ?_
   refine zA ?_
   obtain ⟨x3,h_x3,h⟩:=bnd h
   refine jr (ra 0 [.sl za [0] x.Values,kI v] rfl (zao rfl zkQ.el (zJ _ _ _) h_x3) rfl (ra 0 [.ep za [0] x3 0] rfl (zci rfl ⟨Tryz.isAgg50,Tryz.sizeOf50⟩) rfl (ral 1 [14] [.ptr 14 0,.rc za [0] x3] rfl (zgA (r:=za) (b:=⟨14,50,[kI 0,kN,kN,kN]⟩) (off:=0) [kI x3.Number,.sl (Rp.int .u64) [0] x3.Words,.sl Rp.str [0] x3.Texts,.sl zd [0] x3.Subs] rfl Tryz.sizeOf50 rfl rfl (by rw [zq]<;>rfl) rfl) rfl rf))) ?_
   obtain ⟨rv,h_rv,h⟩:=bnd h
   refine jr (rl 3 [0] 13 Tryz.call72 (zlR h_rv) rf) ?_
   obtain ⟨g,h_g,h⟩:=bnd h
   refine zcT (R:=fun e a w=>e= .normal∧Sx ⟨⟨67,[]⟩,Xt,false,#[]⟩ ⟨[(0,.sl zi [0] sv),(5,.ptr 11 0),(7,.ptr 12 0),(10,.ptr 14 0),(20,.sl za [0] x.Values),(21,kI (x.Values.length:Int)),(22,kI v),(51,kB g)],[⟨11,30,[.sl za [0] x.Values,.sl Rp.str [0] x.Unknown]⟩,⟨12,73,[kS x2.Name,.sl zf [0] x2.Fields]⟩,⟨14,50,[kI x3.Number,.sl (Rp.int .u64) [0] x3.Words,.sl Rp.str [0] x3.Texts,.sl zd [0] x3.Subs]⟩]⟩ a w) ?_ (zeF ?_)
   ·
    refine zp ?_
    rcases Bool.eq_false_or_eq_true (!rv.2) with hc2| hc2
    ·
     replace h_g:=iteT h_g hc2
     obtain rfl:=sj h_g
     refine jd [0,5,7,10,20,21,22,51] [11,12,14] zcc (by exact (lw_e (lw_e (lx (zbb ⟨[(34,kB (!rv.2))],[]⟩ (by kernel_rfl) hc2) l0)))) ?_
     exact zL lzz
    replace h_g:=iteF h_g hc2
    rcases Bool.eq_false_or_eq_true (decide (x3.Number≤last)) with hc3| hc3
    ·
     replace h_g:=iteT h_g hc3
     obtain rfl:=sj h_g
     refine jd [0,5,7,10,20,21,22,51] [11,12,14] zcc (by exact (lw_e (lw_e (lx (zbb ⟨[(34,kB (!rv.2))],[]⟩ (by kernel_rfl) hc2) (lw_e (lw_e (lw_e (lw_e (lw_e (lx (zbb ⟨[(40,kB (decide (x3.Number≤last)))],[]⟩ (by kernel_rfl) hc3) l0)))))))))) ?_
     exact zL lzz
    replace h_g:=iteF h_g hc3
    obtain ⟨x4,h_x4,h_g⟩:=bnd h_g
    obtain ⟨rv2,h_rv2,h_g⟩:=bnd h_g
    obtain rfl:=sj h_g
    refine jd [0,5,7,10,20,21,22,51] [11,12,14] zcc (by exact (lw_e (lw_e (lx (zbb ⟨[(34,kB (!rv.2))],[]⟩ (by kernel_rfl) hc2) (lw_e (lw_e (lw_e (lw_e (lw_e (lx (zbb ⟨[(40,kB (decide (x3.Number≤last)))],[]⟩ (by kernel_rfl) hc3) (lw_e (lw_e (lw_e (ly [.sl zf [0] x2.Fields,kI rv.1] (zao rfl zle.el (zJ _ _ _) h_x4) rfl (ly [.ep zf [0] x4 0] (zci rfl ⟨Tryz.isAgg64,Tryz.sizeOf64⟩) rfl (lw_e (ly [.ptr 14 0] (zba (b:=⟨14,50,[kI x3.Number,.sl (Rp.int .u64) [0] x3.Words,.sl Rp.str [0] x3.Texts,.sl zd [0] x3.Subs]⟩) [kI x3.Number,.sl (Rp.int .u64) [0] x3.Words,.sl Rp.str [0] x3.Texts,.sl zd [0] x3.Subs] rfl ⟨Tryz.isAgg50,Tryz.sizeOf50⟩ rfl rfl) rfl (lx (lf1 53 (zG.le (ins':=[(.tmp 46,.rc zf [0] x4),(.tmp 47,.sl zi [0] sv),(.tmp 48,.ag [kI x3.Number,.sl (Rp.int .u64) [0] x3.Words,.sl Rp.str [0] x3.Texts,.sl zd [0] x3.Subs])]) (zae (args:=[.tmp 46,.tmp 47,.tmp 48]) [.rc zf [0] x4,.sl zi [0] sv,.rc za [0] x3] [0] 13 rfl Tryz.call53 (hrec_tree_fits h_rv2) rfl rfl rfl rfl rfl) ⟨⟨rfl,AV.le_refl _⟩,⟨rfl,AV.le_refl _⟩,⟨rfl,zaa za [0] x3 [kI x3.Number,.sl (Rp.int .u64) [0] x3.Words,.sl Rp.str [0] x3.Texts,.sl zd [0] x3.Subs] (by rw [zq]<;>rfl) rfl⟩,trivial⟩)) l0)))))))))))))))))) ?_
    exact zL lzz
   rcases zm h with ⟨hc4,h⟩| ⟨hc4,h⟩
   ·
    refine jT hc4 ?_
    refine jp ?_
    obtain rfl:=sj h
    exact zaZ lzz
   refine jF hc4 ?_
   refine jp ?_
   refine zag ?_
   refine jp ?_
   obtain rfl:=sj h
   exact zL lzz
  refine jF hc1 ?_
  obtain rfl:=sj h
  exact zam rfl lzz
 rcases q with u| u4
 ·
  refine zaD _ rfl ?_
  refine jp ?_
  refine zA ?_
  obtain ⟨q2,h_q2,h⟩:=bnd h
  refine zal (fun s:Int=>zce x x2 s) (fun s=>⟨[(7,.ptr 12 0),(56,.sl Rp.str [0] x.Unknown),(57,kI (x.Unknown.length:Int)),(58,kI s)],[⟨12,73,[kS x2.Name,.sl zf [0] x2.Fields]⟩]⟩) (fun o e a w=>match o with| (.inl v_)=>e= .exit 2∧Sx ⟨⟨67,[]⟩,Xt,false,#[]⟩ ⟨[],[]⟩ a w| (.inr v_)=>e= .ret∧Sx ⟨⟨67,[]⟩,Xt,false,#[]⟩ ⟨[(6,kB false)],[]⟩ a w) ?_ h_q2 lzz ?_
  ·
   clear h
   intro v3 o h
   refine zp ?_
   replace h:zce x x2 v3=some o:=h
   unfold zce at h
   refine jp ?_
   rcases zm h with ⟨hc5,h⟩| ⟨hc5,h⟩
   ·
    refine jT hc5 ?_
    refine zA ?_
    obtain ⟨x5,h_x5,h⟩:=bnd h
    refine jr (ra 0 [.sl Rp.str [0] x.Unknown,kI v3] rfl (zao rfl zif.el (zJ _ _ _) h_x5) rfl rf) ?_
    obtain ⟨rv3,h_rv3,h⟩:=bnd h
    refine jr (rl 2 [0] 14 Tryz.call73 (zsi h_rv3) rf) ?_
    rcases zm h with ⟨hc6,h⟩| ⟨hc6,h⟩
    ·
     refine jT hc6 ?_
     refine jp ?_
     obtain rfl:=sj h
     exact zaZ lzz
    refine jF hc6 ?_
    refine zag ?_
    refine jp ?_
    obtain rfl:=sj h
    exact zL lzz
   refine jF hc5 ?_
   obtain rfl:=sj h
   exact zam rfl lzz
  rcases q2 with u2| u3
  ·
   refine zaD _ rfl ?_
   refine jp ?_
   obtain rfl:=sj h
   exact zz lzz
  obtain rfl:=sj h
  exact zcK lzz
 obtain rfl:=sj h
 exact zcK lzz
theorem zjh (fuel:Nat):(∀{sv:(List zh)} {message:Int} {l:(List zc)} {r:Bool},zgG fuel sv message l=some r→FnOk Tryz.prog 82 [.sl zi [0] sv,kI message,.sl zd [0] l] [kB r])∧(∀{f:ze} {sv:(List zh)} {v:zb} {r:Bool},ziZ fuel f sv v=some r→FnOk Tryz.prog 53 [.rc zf [0] f,.sl zi [0] sv,.rc za [0] v] [kB r])∧(∀{sv:(List zh)} {message:Int} {x:zc} {r:Bool},zeb fuel sv message x=some r→FnOk Tryz.prog 49 [.sl zi [0] sv,kI message,.rc zd [0] x] [kB r]):=by
  induction fuel with
  | zero=>exact ⟨fun h=>absurd h nofun,fun h=>absurd h nofun,fun h=>absurd h nofun⟩
  | succ fuel ih=>exact ⟨fun h=>zpL (fun hh=>ih.1 hh) (fun hh=>ih.2.1 hh) (fun hh=>ih.2.2 hh) h,fun h=>zwy (fun hh=>ih.1 hh) (fun hh=>ih.2.1 hh) (fun hh=>ih.2.2 hh) h,fun h=>zrj (fun hh=>ih.1 hh) (fun hh=>ih.2.1 hh) (fun hh=>ih.2.2 hh) h⟩
theorem zsh {fuel:Nat} {sv:(List zh)} {message:Int} {x:zc} {r:Bool} (h:zeb fuel sv message x=some r):FnOk Tryz.prog 49 [.sl zi [0] sv,kI message,.rc zd [0] x] [kB r]:=(zjh fuel).2.2 h
end Go.Proofs.YtcbkcblkecmjnaaGreat
