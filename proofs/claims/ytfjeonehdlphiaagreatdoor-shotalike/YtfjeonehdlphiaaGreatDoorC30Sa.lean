/- Sa: part 30 of what the proofs need. -/
import Derived.Test.YtfjeonehdlphiaaGreatDoorC29Sa
set_option linter.unusedVariables false
set_option maxHeartbeats 6400000
set_option maxRecDepth 100000
namespace Go.Proofs.YtfjeonehdlphiaaGreatDoor
open Go.RowKit
def XUXS (s:List UInt8):Prop:=∀(a b:Nat) (d:Bool) (r:List UInt8),1≤a→a≤64→1≤b→b≤64→s≠headT a b (hdM d)++r
theorem qU0Y {s:List UInt8} (h:jaI1 (guess s).1 (guess s).2.1 (guess s).2.2=false):XUXS s:=by
 intro a b d r h1 h2 h3 h4 e
 have hg:=ji4T (a:=a) (b:=b) (by omega) (by omega) d r
 rw[←e] at hg
 rw[hg] at h
 have:=jwGN d h1 h2 h3 h4
 rw[this] at h
 cases h
theorem X0u4 {s:List UInt8} {x y:Nat} {d:Bool} (hg:guess s=((x:Int),(y:Int),((hdM d:Nat):Int))) (h:Lib.hasPrefix s (headT x y (hdM d))=false):XUXS s:=by
 intro a b d' r h1 h2 h3 h4 e
 have hg2:=ji4T (a:=a) (b:=b) (by omega) (by omega) d' r
 rw[←e,hg] at hg2
 simp only[Prod.mk.injEq] at hg2
 obtain ⟨e1,e2,e3⟩:=hg2
 have ea:x=a:=by omega
 have eb:y=b:=by omega
 have ed:d=d':=qxjb (by omega)
 subst ea eb ed
 rw[e,Lib.hasPrefix] at h
 rw[List.isPrefixOf_iff_prefix.2 ⟨r,rfl⟩] at h
 cases h
theorem qtWN {s p:List UInt8} (h:Lib.hasPrefix s p=true):s=p++Lib.trimPrefix s p:=by
 rw[Lib.trimPrefix,if_pos h]
 obtain ⟨r,rfl⟩:=List.isPrefixOf_iff_prefix.1 h
 simp
theorem q1HI (s:List UInt8) (hs:s.length≤140737488355328) (w:World) (hp:PowAt w):Calls Tryz.prog 36 #[.string (str s)] w fun e w'=>Below w.heap.size w w' ∧
    ((∃(x y:Nat) (d:Bool) (L:List UInt8),e=.returned (.tuple #[.agg #[.int .i64 x,.int .i64 y,.int .i64 (hdM d:Nat)],.string (str L),.bool true])∧1≤x∧x≤64∧1≤y∧y≤64∧s=headT x y (hdM d)++L) ∨
     (∃(a b c:Int) (L:List UInt8),e=.returned (.tuple #[.agg #[.int .i64 a,.int .i64 b,.int .i64 c],.string (str L),.bool false])∧XUXS s)):=by
  have HG:=hide (fun u=>Xowz s hs u)
  have HP:=hide (fun (u:World) (hu:Below w.heap.size w u)=>hp.below hu (Nat.le_refl _))
  have HR:=hide (fun u=>j8Wp (guess s).1 (guess s).2.1 (guess s).2.2 u)
  have HNR:=hide (fun h=>qU0Y (s:=s) h)
  obtain ⟨a,b,c,hg⟩:∃a b c,guess s=(a,b,c):=⟨_,_,_,rfl⟩
  rw[hg] at HG HR HNR
  simp only at HG HR HNR
  have HGG:=hide hg
  clear hg
  have a1:=al1 w (Obj.cells #[.int .i64 0,.int .i64 0,.int .i64 0] 82)
  have HB:=hide (qUNz w (Obj.cells #[.int .i64 0,.int .i64 0,.int .i64 0] 82))
  have hl1:=(Array.getElem?_eq_some_iff.1 a1).1
  go_enter Tryz.func36,Tryz.ntmps36
  go_wp2_with fail
  generalize w.alloc (Obj.cells #[.int .i64 0,.int .i64 0,.int .i64 0] 82)=U at *
  refine (HG.out U).mono ?_
  rintro e V1 ⟨rfl,hb1⟩
  have t1:=al1 V1 (Obj.cells #[.int .i64 a,.int .i64 b,.int .i64 c] 82)
  have hb2:=quJN hb1 (qUNz V1 (Obj.cells #[.int .i64 a,.int .i64 b,.int .i64 c] 82))
  have HSZ:=hide hb1.size
  obtain ⟨p0,p1,p2⟩:=z5EY t1
  have lt1:=(Array.getElem?_eq_some_iff.1 t1).1
  clear hb1
  go_wp2_with fail
  clear p0 p1 p2
  generalize V1.alloc (Obj.cells #[.int .i64 a,.int .i64 b,.int .i64 c] 82)=U1 at *
  refine (HR.out U1).mono ?_
  rintro e V2 ⟨rfl,hb3⟩
  have k0:=((quJN hb2 hb3).block _ hl1).trans a1
  have k1:=(hb3.block _ lt1).trans t1
  have hbb:=quJN (quJN HB.out hb2) hb3
  clear hb2 hb3 a1 t1 lt1
  by_cases hrt:jaI1 a b c=true
  rotate_left
  · replace hrt : jaI1 a b c = false := by simpa using hrt
    have HNH:=hide (HNR.out hrt)
    rw[hrt]
    obtain ⟨z0,z1,z2⟩:=z5EY k0
    have f0:=Lib.frozen_of_heap k0 0
    have f1:=Lib.frozen_of_heap k0 1
    have f2:=Lib.frozen_of_heap k0 2
    have HF:=hide (zHqh hbb (Nat.le_refl _) (.int .i64 0) (.int .i64 0) (.int .i64 0))
    clear hrt HR HNR HG
    go_wp2
    refine bodyPost_ret (v:=.tuple #[.agg #[.int .i64 0,.int .i64 0,.int .i64 0],.string ByteArray.empty,.bool false]) (by simp[results,Tryz.results36,go_sem,z0,z1,z2];rfl) rfl ⟨HF.out,.inr ⟨0,0,0,[],rfl,HNH.out⟩⟩
  rw[hrt]
  obtain ⟨x,y,d,rfl,rfl,rfl,h1,h2,h3,h4⟩:=XNJM hrt
  have HT:=hide (fun (u:World) (hu:PowAt u)=>qihl x y (hdM d) (by omega) (by omega) (by cases d<;>decide) u hu)
  have hpw:=HP.out _ hbb
  obtain ⟨p0,p1,p2⟩:=z5EY k1
  have hl2:=(Array.getElem?_eq_some_iff.1 k1).1
  have hl3:=(Array.getElem?_eq_some_iff.1 k0).1
  have HYES:=hide (fun (h:Lib.hasPrefix s (headT x y (hdM d))=true)=>qtWN h)
  have HNO:=hide (fun (h:Lib.hasPrefix s (headT x y (hdM d))=false)=>X0u4 HGG.out h)
  have HCP:=hide (fun (u:World)=>Tryz.strings_CutPrefix (str s) (str (headT x y (hdM d))) u)
  have H14:=hide (And.intro h1 (And.intro h2 (And.intro h3 h4)))
  clear hrt HR HNR HG HGG h1 h2 h3 h4
  generalize hHH:headT x y (hdM d)=HH at *
  have HHH:=hide hHH
  clear hHH
  generalize hCC:((hdM d:Nat):Int)=C at *
  have HCC:=hide hCC
  clear hCC
  go_wp2_with fail
  refine (HT.out V2 hpw).mono ?_
  rintro e V3 ⟨rfl,hb4⟩
  clear p0 p1 p2
  go_wp2_with fail
  refine (HCP.out V3).mono ?_
  rintro e V4 ⟨rfl,rfl⟩
  replace k0:=(hb4.block _ hl3).trans k0
  replace k1:=(hb4.block _ hl2).trans k1
  replace hbb:=quJN hbb hb4
  obtain ⟨p0,p1,p2⟩:=z5EY k1
  obtain ⟨z0,z1,z2⟩:=z5EY k0
  have f0:=Lib.frozen_of_heap k0 0
  have f1:=Lib.frozen_of_heap k0 1
  have f2:=Lib.frozen_of_heap k0 2
  have hne:V1.heap.size≠w.heap.size:=by have:=HSZ.out;omega
  have HF:=hide (zHqh hbb (Nat.le_refl _) (.int .i64 x) (.int .i64 y) (.int .i64 C))
  simp only[jrcE]
  have HLS:=hide (show ∀l:List UInt8,(⟨l.toArray⟩:ByteArray)=str l from fun _=>rfl)
  rw[HLS.out]
  obtain ⟨LL,hLL⟩:∃LL,Lib.trimPrefix s HH=LL:=⟨_,rfl⟩
  rw[hLL] at HYES ⊢
  have HLL:=hide hLL
  clear hLL
  generalize Lib.hasPrefix s HH=OK at *
  clear hb4 hpw HT HCP HP
  go_wp2
  refine bodyPost_ret (v:=.tuple #[.agg #[.int .i64 x,.int .i64 y,.int .i64 C],.string (str LL),.bool OK]) (by simp[results,Tryz.results36,go_sem,z0,z1,z2];rfl) rfl ⟨HF.out,?_⟩
  cases OK
  · exact .inr ⟨_, _, _, LL, rfl, HNO.out rfl⟩
  · exact .inl ⟨x, y, d, LL, by rw [HCC.out], H14.out.1, H14.out.2.1, H14.out.2.2.1, H14.out.2.2.2, by rw [HHH.out]; exact HYES.out rfl⟩
end Go.Proofs.YtfjeonehdlphiaaGreatDoor
