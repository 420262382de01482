/- Re: part 3 of what the proofs need. -/
import Derived.Test.YtfjeonehdlphiaaGreatDoorC1Re
import Derived.Test.YtfjeonehdlphiaaGreatDoorC2Re
open Go.Obj renaming cells → ka
open Go.Lib renaming cell_of_heap → kb
open Nat renaming le_refl → kc, le_trans → kd, zero_le → kf
open List renaming take_succ_eq_append_getElem → ke, take_of_length_le → kg
set_option linter.unusedVariables false
set_option maxHeartbeats 1600000
set_option maxRecDepth 100000
namespace Go.Proofs.YtfjeonehdlphiaaGreatDoor
open Go.RowKit
theorem qmUZ (v:Value) (ls:List Pt) (x:Int) (h0:0≤x) (h1:x≤65535) (hcv:jhAl ls) (w:World) (hv:IsPts w v ls) :
  Calls Tryz.prog 190 #[v,.int .i64 x] w fun e w'=>e=.returned (.int .i64 (qy0p ls x))∧Below w.heap.size w w':=by
 obtain ⟨ao,ca,rfl,hla,hc⟩:=hv
 have hl2:=hcv.two
 have hl16:=hcv.most
 obtain ⟨bk,off,hao,hbl,hcell⟩:∃b off,ao=some ⟨b,off,none⟩∧b<w.heap.size∧∀j,j<ls.length →
   w.cell? ⟨b,off+j*2,none⟩=some (.int .i64 (ptAt ls j).1)∧w.cell? ⟨b,off+j*2+1,none⟩=some (.int .i64 (ptAt ls j).2):=by
  rcases hc with h|h
  ·subst h;simp at hl2
  ·exact h
 subst hao
 have HCELL:=hide hcell;clear hcell hc
 have HCV:=hide hcv;clear hcv
 go_enter Tryz.func190,Tryz.ntmps190
 go_wp2
 go_loop [5] (fun i=>∃k:Nat,k<ls.length∧i=.int .i64 k∧Hid (∀j,j<k→(ptAt ls j).1<x)) (fun i=>ls.length-(intOf i).toNat)
 case atStart=>exact ⟨0,by omega,rfl,fun j hj=>by omega⟩
 case round =>
  obtain ⟨k,hk,rfl,HJ⟩:=hrel
  obtain ⟨c0,c1⟩:=HCELL.out k hk
  by_cases hx:(ptAt ls k).1<x
  ·have hd:decide ((ptAt ls k).1<x)=true:=by simpa using hx
   have hk2:k+1<ls.length:=by
    rcases Nat.eq_or_lt_of_le (show k≤ls.length-1 by omega) with e|hlt
    ·have:=HCV.out.last;rw[←e] at this;omega
    ·omega
   go_wp2
   go_round
   case rel=>exact ⟨k+1,hk2,by go_num,fun j hj=>by
    rcases Nat.eq_or_lt_of_le (show j≤k by omega) with e|hlt
    ·rw[e];exact hx
    ·exact HJ.out j hlt⟩
   case measure=>simp[intOf];omega
  ·have hd:decide ((ptAt ls k).1<x)=false:=by simpa using hx
   have hat:isAt ls x k:=⟨hk,by omega,HJ.out⟩
   have HE:=hide (jMoW hat)
   by_cases he:(ptAt ls k).1=x
   ·have hb:((ptAt ls k).1 == x)=true:=by simpa using he
    have HE2:=hide (show (ptAt ls k).2=qy0p ls x by rw[HE.out,if_pos he])
    clear HE he
    go_wp2
    go_ret
    exact ⟨jx9N HE2.out,qUNz _ _⟩
   ·have hb:((ptAt ls k).1 == x)=false:=by simpa using he
    obtain ⟨i,rfl⟩:∃i,k=i+1:=by
     cases k with
     | zero=>exact absurd (by have:=HCV.out.first;omega) he
     | succ i=>exact ⟨i,rfl⟩
    have HE2:=hide (show qy0p ls x=Xp0K ls (i+1) x by rw[HE.out,if_neg he])
    obtain ⟨d0,d1⟩:=HCELL.out i (by omega)
    have hlt:=HJ.out i (by omega)
    obtain ⟨m0,m1,m2,m3⟩:=jwsP HCV.out i hk x (by omega) (by omega)
    obtain ⟨y0,y1⟩:=HCV.out.y i (by omega)
    obtain ⟨y2,y3⟩:=HCV.out.y (i+1) hk
    obtain ⟨x0,x1⟩:=HCV.out.x i (by omega)
    obtain ⟨x2,x3⟩:=HCV.out.x (i+1) hk
    obtain ⟨s0,s1⟩:=HCV.out.step i hk
    rw[Xp0K,Nat.add_sub_cancel] at m2 m3 HE2
    have hne:¬(ptAt ls (i+1)).1-(ptAt ls i).1=0:=by omega
    clear HE he hx hat
    generalize (ptAt ls (i+1)).1=X2 at *
    generalize (ptAt ls i).1=X1 at *
    generalize (ptAt ls (i+1)).2=Y2 at *
    generalize (ptAt ls i).2=Y1 at *
    obtain ⟨M,hM⟩:∃M,(Y2-Y1)*(x-X1)=M:=⟨_,rfl⟩
    rw[hM] at m0 m1 m2 m3 HE2
    obtain ⟨D,hD⟩:∃D,X2-X1=D:=⟨_,rfl⟩
    rw[hD] at m2 m3 HE2 hne
    have hD0:0<D:=by omega
    have hq0:0≤M / D:=Int.ediv_nonneg m0 (by omega)
    have hDz:(D == 0)=false:=by simpa using hne
    go_wp2
    go_region
    go_wp2
    go_ret
    exact ⟨jx9N HE2.out.symm,((be2 _ _ _).drew)⟩
theorem jHKJ (v:Value) (ls:List Pt) (w:World) (hv:IsPts w v ls) :
  Calls Tryz.prog 189 #[v] w fun e w'=>e=.returned (.bool (zamz ls))∧Below w.heap.size w w':=by
 obtain ⟨ao,ca,rfl,hla,hc⟩:=hv
 obtain ⟨R,hR⟩:∃R,zamz ls=R:=⟨_,rfl⟩
 rw[hR]
 have HB0:=hide (qUNz w (ka #[.int .i64 (ls.length:Int)] 3))
 by_cases hn:2≤(ls.length:Int)∧(ls.length:Int)≤16
 ·have hal:allIn 2 16 [(ls.length:Int)]=true:=by simp[allIn];omega
  have hdn:decide (2≤(ls.length:Int)∧(ls.length:Int)≤16)=true:=by simpa using hn
  obtain ⟨bk,off,hao,hbl,hcell⟩:∃b off,ao=some ⟨b,off,none⟩∧b<w.heap.size∧∀j,j<ls.length →
    w.cell? ⟨b,off+j*2,none⟩=some (.int .i64 (ptAt ls j).1)∧w.cell? ⟨b,off+j*2+1,none⟩=some (.int .i64 (ptAt ls j).2):=by
   rcases hc with h|h
   ·subst h;simp at hn
   ·exact h
  subst hao
  have HCELL:=hide hcell;clear hcell hc
  obtain ⟨n0,n1⟩:=hn
  have p0:=(HB0.out.cell (p:=⟨bk,off+0*2,none⟩) hbl).trans (HCELL.out 0 (by omega)).1
  have p1:=(HB0.out.cell (p:=⟨bk,off+(ls.length-1)*2,none⟩) hbl).trans (HCELL.out (ls.length-1) (by omega)).1
  rw[Nat.zero_mul,Nat.add_zero] at p0
  by_cases hf:(ptAt ls 0).1=0
  ·by_cases ht:(ptAt ls (ls.length-1)).1=65535
   ·have HR:=hide (show R=ptsOk ls ls.length by rw[←hR,zamz,jMWf,hdn,hf,ht];rfl)
    rw[hf] at p0
    rw[ht] at p1
    clear hR hdn hf ht
    go_enter Tryz.func189,Tryz.ntmps189
    go_wp2_with fail
    refine (qFis 2 16 _ [(ls.length:Int)] _ (ints1 w _)).mono ?_
    rintro e w1 ⟨rfl,rfl⟩
    rw[hal]
    go_wp2_with fail
    clear p0 p1 hal
    generalize w.alloc (ka #[.int .i64 (ls.length:Int)] 3)=U at *
    go_loopw [29] (fun i wr=>∃k:Nat,k≤ls.length∧i=.int .i64 k∧Hid (ptsOk ls k=true)∧Below w.heap.size w wr) (fun i _=>ls.length-(intOf i).toNat)
    case atStart=>exact ⟨0,kf _,rfl,rfl,HB0.out⟩
    case round =>
     obtain ⟨k,hk,rfl,HA,hbel⟩:=hrel
     by_cases hlt:k<ls.length
     ·have hd:decide ((k:Int)<(ls.length:Int))=true:=by simp;omega
      have c0:=(hbel.cell (p:=⟨bk,off+k*2,none⟩) hbl).trans (HCELL.out k hlt).1
      have c1:=(hbel.cell (p:=⟨bk,off+k*2+1,none⟩) hbl).trans (HCELL.out k hlt).2
      have HS:=hide (qYjQ ls k)
      have HF:=hide (fun h=>qhxg ls k ls.length hlt h)
      have hbel2:=(hbel.alloc hbel.size (ka #[.int .i64 (ptAt ls k).1,.int .i64 (ptAt ls k).2] 66)).alloc (by have:=hbel.size;simp;omega) (ka #[.int .i64 (ptAt ls k).2] 3)
      have hi1:jCvT ((wr.alloc (ka #[.int .i64 (ptAt ls k).1,.int .i64 (ptAt ls k).2] 66)).alloc (ka #[.int .i64 (ptAt ls k).2] 3)) (.slice (some ⟨wr.heap.size+1,0,none⟩) 1 1) [(ptAt ls k).2]:=by
       have:=ints1 (wr.alloc (ka #[.int .i64 (ptAt ls k).1,.int .i64 (ptAt ls k).2] 66)) (ptAt ls k).2
       rw[World.size_alloc] at this;exact this
      by_cases hy:ptY ls k=true
      ·have hal:allIn 0 65535 [(ptAt ls k).2]=true:=by
        have:=of_decide_eq_true hy
        simp[allIn];omega
       have hpr:∀i,k=i+1→wr.cell? ⟨bk,off+i*2,none⟩=some (.int .i64 (ptAt ls i).1)∧wr.cell? ⟨bk,off+i*2+1,none⟩=some (.int .i64 (ptAt ls i).2):=fun i e =>
        ⟨(hbel.cell (p:=⟨bk,off+i*2,none⟩) hbl).trans (HCELL.out i (by omega)).1,(hbel.cell (p:=⟨bk,off+i*2+1,none⟩) hbl).trans (HCELL.out i (by omega)).2⟩
       cases k with
       | zero =>
        have HT:=hide (show ptsOk ls (0+1)=true by rw[HS.out,HA.out,hy];simp[Xqx5])
        clear hy HS HF hpr
        simp only[Nat.zero_mul,Nat.add_zero] at c0 c1
        go_wp2_with fail
        refine (qFis 0 65535 _ [(ptAt ls 0).2] _ hi1).mono ?_
        rintro e w2 ⟨rfl,rfl⟩
        rw[hal]
        go_wp2_with fail
        go_quiet (fail)
        go_wp2
        go_roundw
        case rel=>exact ⟨0+1,by omega,by go_num,HT,below_drewN hbel2 _⟩
        case measure=>simp[intOf];omega
       | succ i =>
        obtain ⟨d0,d1⟩:=hpr i rfl
        clear hpr
        have hwi:IntKind.i64.wrap (i:Int)=(i:Int):=IntWalk.i64_in _ (by omega)
        have hil:i<ls.length:=by omega
        have hil2:(i:Int)<(ls.length:Int):=by omega
        have hil3:0≤(i:Int):=by omega
        have hbw:bk<wr.heap.size:=Nat.lt_of_lt_of_le hbl hbel.size
        have hb2:=be2 wr (ka #[.int .i64 (ptAt ls (i+1)).1,.int .i64 (ptAt ls (i+1)).2] 66) (ka #[.int .i64 (ptAt ls (i+1)).2] 3)
        have t0:=(hb2.cell (p:=⟨bk,off+i*2,none⟩) hbw).trans d0
        have t1:=(hb2.cell (p:=⟨bk,off+i*2+1,none⟩) hbw).trans d1
        have gg:=(al2 wr (ka #[.int .i64 (ptAt ls (i+1)).1,.int .i64 (ptAt ls (i+1)).2] 66) (ka #[.int .i64 (ptAt ls (i+1)).2] 3)).1
        have t2:((wr.alloc (ka #[.int .i64 (ptAt ls (i+1)).1,.int .i64 (ptAt ls (i+1)).2] 66)).alloc (ka #[.int .i64 (ptAt ls (i+1)).2] 3)).cell? ⟨wr.heap.size,0,none⟩=some (.int .i64 (ptAt ls (i+1)).1):=by rw[kb gg];rfl
        have t3:((wr.alloc (ka #[.int .i64 (ptAt ls (i+1)).1,.int .i64 (ptAt ls (i+1)).2] 66)).alloc (ka #[.int .i64 (ptAt ls (i+1)).2] 3)).cell? ⟨wr.heap.size,1,none⟩=some (.int .i64 (ptAt ls (i+1)).2):=by rw[kb gg];rfl
        clear gg hb2 d0 d1
        by_cases hs:(ptAt ls i).1<(ptAt ls (i+1)).1
        ·have hsb:decide ((ptAt ls (i+1)).1≤(ptAt ls i).1)=false:=by simp;omega
         by_cases hs2:(ptAt ls i).2≤(ptAt ls (i+1)).2
         ·have hsb2:decide ((ptAt ls (i+1)).2<(ptAt ls i).2)=false:=by simp;omega
          have HT:=hide (show ptsOk ls (i+1+1)=true by rw[HS.out,HA.out,hy];simp[Xqx5,hs,hs2])
          clear hy HS HF hs hs2
          go_wp2_with fail
          refine (qFis 0 65535 _ [(ptAt ls (i+1)).2] _ hi1).mono ?_
          rintro e w2 ⟨rfl,rfl⟩
          rw[hal]
          clear c0 c1 hi1
          generalize (wr.alloc (ka #[.int .i64 (ptAt ls (i+1)).1,.int .i64 (ptAt ls (i+1)).2] 66)).alloc (ka #[.int .i64 (ptAt ls (i+1)).2] 3)=U2 at *
          go_wp2_with fail
          go_quiet (fail)
          go_wp2
          go_roundw
          case rel=>exact ⟨i+1+1,by omega,by go_num,HT,below_drewN hbel2 _⟩
          case measure=>simp[intOf];omega
         ·have hsb2:decide ((ptAt ls (i+1)).2<(ptAt ls i).2)=true:=by simp;omega
          have HX:=hide (show false=R by rw[HR.out,HF.out (by rw[hy];simp[Xqx5];omega)])
          clear hy HS HF hs hs2
          go_wp2_with fail
          refine (qFis 0 65535 _ [(ptAt ls (i+1)).2] _ hi1).mono ?_
          rintro e w2 ⟨rfl,rfl⟩
          rw[hal]
          clear c0 c1 hi1
          generalize (wr.alloc (ka #[.int .i64 (ptAt ls (i+1)).1,.int .i64 (ptAt ls (i+1)).2] 66)).alloc (ka #[.int .i64 (ptAt ls (i+1)).2] 3)=U2 at *
          go_wp2_with fail
          go_quiet (fail)
          go_wp2
          go_ret
          exact ⟨j3Zs HX.out,below_drewN hbel2 _⟩
        ·have hsb:decide ((ptAt ls (i+1)).1≤(ptAt ls i).1)=true:=by simp;omega
         have HX:=hide (show false=R by rw[HR.out,HF.out (by rw[hy];simp[Xqx5];omega)])
         clear hy HS HF hs
         go_wp2_with fail
         refine (qFis 0 65535 _ [(ptAt ls (i+1)).2] _ hi1).mono ?_
         rintro e w2 ⟨rfl,rfl⟩
         rw[hal]
         clear c0 c1 hi1
         generalize (wr.alloc (ka #[.int .i64 (ptAt ls (i+1)).1,.int .i64 (ptAt ls (i+1)).2] 66)).alloc (ka #[.int .i64 (ptAt ls (i+1)).2] 3)=U2 at *
         go_wp2_with fail
         go_quiet (fail)
         go_wp2
         go_ret
         exact ⟨j3Zs HX.out,below_drewN hbel2 _⟩
      ·have hy:ptY ls k=false:=by simpa using hy
       have hal:allIn 0 65535 [(ptAt ls k).2]=false:=by
        have:=of_decide_eq_false hy
        rw[Bool.eq_false_iff];simp[allIn];omega
       have HX:=hide (show false=R by rw[HR.out,HF.out (by rw[hy];rfl)])
       clear hy HS HF
       go_wp2_with fail
       refine (qFis 0 65535 _ [(ptAt ls k).2] _ hi1).mono ?_
       rintro e w2 ⟨rfl,rfl⟩
       rw[hal]
       go_wp2
       go_ret
       exact ⟨j3Zs HX.out,hbel2⟩
     ·have hd:decide ((k:Int)<(ls.length:Int))=false:=by simp;omega
      have HX:=hide (show true=R by rw[HR.out,←HA.out,show k=ls.length by omega])
      go_wp2
      go_ret
      exact ⟨j3Zs HX.out,hbel⟩
   ·have HX:=hide (show false=R by rw[←hR,zamz,jMWf];simp[ht])
    have hb:((ptAt ls (ls.length-1)).1 != 65535)=true:=by simpa using ht
    rw[hf] at p0
    clear hR hdn hf ht
    go_enter Tryz.func189,Tryz.ntmps189
    go_wp2_with fail
    refine (qFis 2 16 _ [(ls.length:Int)] _ (ints1 w _)).mono ?_
    rintro e w1 ⟨rfl,rfl⟩
    rw[hal]
    go_wp2
    go_ret
    exact ⟨j3Zs HX.out,HB0.out⟩
  ·have HX:=hide (show false=R by rw[←hR,zamz,jMWf];simp[hf])
   have hb:((ptAt ls 0).1 != 0)=true:=by simpa using hf
   clear hR hdn hf
   go_enter Tryz.func189,Tryz.ntmps189
   go_wp2_with fail
   refine (qFis 2 16 _ [(ls.length:Int)] _ (ints1 w _)).mono ?_
   rintro e w1 ⟨rfl,rfl⟩
   rw[hal]
   go_wp2
   go_ret
   exact ⟨j3Zs HX.out,HB0.out⟩
 ·have hal:allIn 2 16 [(ls.length:Int)]=false:=by rw[Bool.eq_false_iff];simp[allIn];omega
  have hdn:decide (2≤(ls.length:Int)∧(ls.length:Int)≤16)=false:=by simpa using hn
  have HX:=hide (show false=R by rw[←hR,zamz,jMWf,hdn];rfl)
  clear hR hn hdn
  go_enter Tryz.func189,Tryz.ntmps189
  go_wp2_with fail
  refine (qFis 2 16 _ [(ls.length:Int)] _ (ints1 w _)).mono ?_
  rintro e w1 ⟨rfl,rfl⟩
  rw[hal]
  go_wp2
  go_ret
  exact ⟨j3Zs HX.out,HB0.out⟩
theorem jszi (n:Int) (h0:0≤n) (h1:n≤1000000000000000) (w:World) :
  Calls Tryz.prog 196 #[.int .i64 n] w fun e w'=>e=.returned (.int .i64 ((n+7) / 8))∧w=w':=by
 go_enter Tryz.func196,Tryz.ntmps196
 go_wp2
 go_ret
 exact ⟨rfl,rfl⟩
theorem zRqm (s:ByteArray) (w:World) (hs:s.size≤maxLen) :
  Calls Tryz.prog 208 #[.string s] w fun e w'=>e=.returned (.bool (allB s.data.toList))∧w=w':=by
 unfold maxLen at hs
 go_enter Tryz.func208,Tryz.ntmps208
 go_wp2
 go_loop [6] (fun i=>∃k:Nat,k≤s.size∧i=.int .i64 k∧Hid (allB (s.data.toList.take k)=true)) (fun i=>s.size-(intOf i).toNat)
 case atStart=>exact ⟨0,kf _,rfl,rfl⟩
 case round =>
  obtain ⟨k,hk,rfl,H⟩:=hrel
  by_cases hlt:k<s.size
  ·have step:(s[k].toNat:Int)=48∨(s[k].toNat:Int)=49→Hid (allB (s.data.toList.take (k+1))=true):=fun h=>by
    show allB _=true
    rw[qjCJ s k hlt,XWpK,H.out];simp[isBit];omega
   have stop:¬(s[k].toNat:Int)=48→¬(s[k].toNat:Int)=49→allB s.data.toList=false:=fun a b =>
    XzAH k (by simpa using hlt) (by rw[XWox s k hlt];omega) (by rw[XWox s k hlt];omega)
   have step:=hide step
   have stop:=hide stop
   go_wp2
   ·go_round
    case rel=>exact ⟨k+1,by omega,by go_num,(zcHp step) (.inl (by assumption))⟩
    case measure=>simp[intOf];omega
   ·rename_i h _
    simp only[bne_iff_ne,ne_eq] at h
    go_ret
    exact ⟨j3Zs (by rw[(zcHp stop) h.1 h.2]),rfl⟩
   ·rename_i h
    simp only[bne_eq_false_iff_eq] at h
    go_round
    case rel=>exact ⟨k+1,by omega,by go_num,(zcHp step) h⟩
    case measure=>simp[intOf];omega
  ·go_wp2
   go_ret
   exact ⟨j3Zs (by rw[←H.out,j7UF _ _ (by omega)]),rfl⟩
theorem qfml (n:Int) (w:World) :
  Calls Tryz.prog 172 #[.int .i64 n] w fun e w'=>e=.returned (.bool (XSys n))∧w=w':=by
 by_cases h1:1≤n
 all_goals by_cases h2:n≤16
 all_goals
  go_enter Tryz.func172,Tryz.ntmps172
  go_wp2
  go_ret
  exact ⟨j3Zs (by simp[XSys,h1,h2]),rfl⟩
theorem Tryz.infoU8:(Tryz.prog.info? 5).map (fun i=>(i.zero,i.size,i.bytes))=some (some (.int .u8 0),1,1):=by kernel_rfl
theorem jSrY {n:Nat} (h:n≤16):wrap64 ((2:Int) ^ n)=((2 ^ n:Nat):Int):=by
 have:=pow16 h
 rw[q5J9]
 generalize 2 ^ n=p at *
 exact IntWalk.wrap64_in _ (by omega)
def jkag (n size k:Nat):List Value:=List.replicate (size-k) (.int .u8 0)++byt (jJyG n k)
theorem jZd5 (n size k:Nat) (h:k<size):(jkag n size k)[size-1-k]?=some (.int .u8 0):=by
 rw[jkag,List.getElem?_append_left (by simp;omega),List.getElem?_replicate,if_pos (by omega)]
theorem jmx6 (n size k:Nat) (h:k<size):(jkag n size k).set (size-1-k) (.int .u8 (48+(n / 2 ^ k % 2:Nat):Int))=jkag n size (k+1):=by
 rw[jkag,jkag,XCcv,List.set_append_left _ _ (by simp;omega)]
 have:size-k=(size-1-k)+1:=by omega
 rw[this,List.replicate_succ',List.set_append_right _ _ (by simp)]
 simp only[List.length_replicate,Nat.sub_self,List.set_cons_zero]
 rw[show size-(k+1)=size-1-k by omega]
 simp only[byt,List.map_cons,List.append_assoc,List.cons_append,List.nil_append]
 congr 3
 have:n / 2 ^ k % 2<2:=Nat.mod_lt _ (by decide)
 simp[UInt8.toNat_ofNat']
 omega
theorem zq4v (n size:Nat):jkag n size 0=(madeCells (Value.int .u8 0).cells (size*1)).toList:=by
 rw[show (Value.int .u8 0).cells=#[Value.int .u8 0] from rfl,toList_madeCells_one];simp[jkag,jJyG,byt]
theorem qfAe (n size:Nat):jkag n size size=byt (jJyG n size):=by simp[jkag]
theorem XFu1 (n size:Nat) (h16:size≤16) (hn:n<2 ^ size) (w:World) :
  Calls Tryz.prog 173 #[.int .i64 n,.int .i64 size] w fun e w'=>e=.returned (.tuple #[.string (str (jJyG n size)),.int .i64 0])∧Below w.heap.size w w':=by
 obtain ⟨p,hp⟩:∃p:Nat,p=2 ^ size:=⟨_,rfl⟩
 have hw:=jSrY h16
 have hp16:=pow16 h16
 rw[←hp] at hw hn hp16
 have HP:=hide hp;clear hp
 obtain ⟨i0,hi,hz0,hz1,hz2⟩:=info_parts Tryz.infoU8
 go_enter Tryz.func173,Tryz.ntmps173
 go_wp2_with (at_make;refine wpList_make_full _ rfl _ _ 74 rfl w.heap.size 5 i0 (.int .u8 0) 1 Tryz.underlying74 hi hz0 hz1 .i64 .i64 _ _ size rfl rfl rfl rfl (by rw[hz2];omega) (by unfold maxLen;omega) (kc _) ?_;intro w1 hown hgr)
 go_loopw [28] (fun i wr=>∃k:Nat,k≤size∧i=.int .i64 k∧wr.ownsRow w.heap.size 5 1 (.slice (some ⟨w.heap.size,0,none⟩) size size) size (jkag n size k)∧Below w.heap.size w wr)
  (fun i _=>size-(intOf i).toNat)
 case atStart=>exact ⟨0,kf _,rfl,by rw[zq4v];exact hown,(Below.refl _ _).grown hgr (kc _) (by simp)⟩
 case round =>
  obtain ⟨k,hk,rfl,ho,hb⟩:=hrel
  by_cases hlt:k<size
  ·have hc:=ho.cellAt (size-1-k) (by omega)
   rw[jZd5 n size k hlt] at hc
   have hf:=ho.frozenAt (size-1-k)
   have hs:=ho.stored (size-1-k) (.int .u8 (48+(n / 2 ^ k % 2:Nat):Int))
   rw[jmx6 n size k hlt] at hs
   have HS:=hide hs;clear hs
   go_wp2
   go_roundw
   case rel =>
    rw[zwz8]
    exact ⟨k+1,by omega,by go_num,HS.out.1,hb.setCell (kc _) _⟩
   case measure=>simp[intOf];omega
  ·obtain rfl:k=size:=by omega
   rw[qfAe] at ho
   have hcv:=jxMI (dst:=9) Tryz.underlying74 Tryz.underlying5 Tryz.underlying9 ho
   go_wp2
   go_ret2
   exact ⟨rfl,hb⟩
theorem zMWq (n size:Int) (h:size<0∨16<size∨(0≤size∧size≤16∧n<0)∨∃k p:Nat,size=k∧k≤16∧p=2 ^ k∧(p:Int)≤n) (w:World) :
  Calls Tryz.prog 173 #[.int .i64 n,.int .i64 size] w fun e w'=>e=.returned (.tuple #[.string (str []),.int .i64 3])∧w=w':=by
 rcases h with h|h|⟨h1,h2,h3⟩|⟨k,p,rfl,hk,hp,hle⟩
 ·go_enter Tryz.func173,Tryz.ntmps173
  go_wp2
  go_ret2
  exact ⟨rfl,rfl⟩
 ·go_enter Tryz.func173,Tryz.ntmps173
  go_wp2
  go_ret2
  exact ⟨rfl,rfl⟩
 ·go_enter Tryz.func173,Tryz.ntmps173
  go_wp2
  go_ret2
  exact ⟨rfl,rfl⟩
 ·have hw:=jSrY hk
  rw[←hp] at hw
  have h0:0≤n:=by omega
  clear hp
  go_enter Tryz.func173,Tryz.ntmps173
  go_wp2
  go_ret2
  exact ⟨rfl,rfl⟩
theorem jz4N (n size:Int) (w:World) :
  Calls Tryz.prog 173 #[.int .i64 n,.int .i64 size] w fun e w'=>e=.returned (.tuple #[.string (numS n size),.int .i64 (numE n size)])∧Below w.heap.size w w':=by
 rcases XhgL n size with ⟨m,k,rfl,rfl,h1,h2,h3⟩|⟨h1,h2⟩
 ·refine (XFu1 m k h1 h2 w).mono fun e w' ⟨he,hb⟩=>⟨?_,hb⟩
  rw[he,numS,numE,if_pos h3,if_pos h3];simp
 ·refine (zMWq n size h2 w).mono fun e w' ⟨he,hb⟩=>⟨?_,hb ▸ Below.refl _ _⟩
  rw[he,numS,numE,if_neg (by simp[h1]),if_neg (by simp[h1])]
theorem jIcm (v:Value) (xs:List Int) (w:World) (hv:jCvT w v xs) :
  Calls Tryz.prog 120 #[v] w fun e w'=>e=.returned (.int .i64 (qO3F xs))∧w=w':=by
 obtain ⟨ao,ca,rfl,hla,hc⟩:=hv
 have HC:=hide hc;clear hc
 by_cases hl:1≤xs.length∧xs.length≤17
 ·obtain ⟨hl1,hl2⟩:=hl
  have hd1:decide ((xs.length:Int)<1)=false:=by simp;omega
  have hd2:decide (17<(xs.length:Int))=false:=by simp;omega
  obtain ⟨b,off,hao,hbl,hcell⟩:∃b off,ao=some ⟨b,off,none⟩∧b<w.heap.size∧∀j (h:j<xs.length),w.cell? ⟨b,off+j,none⟩=some (.int .i64 xs[j]):=by
   rcases HC.out with h|h
   ·subst h;exact absurd hl1 (by simp)
   ·exact h
  subst hao
  have HCELL:=hide hcell;clear hcell HC
  go_enter Tryz.func120,Tryz.ntmps120
  go_wp2
  go_loop [3,16] (fun t i=>∃k:Nat,k≤xs.length∧i=.int .i64 k∧t=.int .i64 (ksum (xs.take k):Nat)∧Hid (qtFp (xs.take k)=true)) (fun _ i=>xs.length-(intOf i).toNat)
  case atStart=>exact ⟨0,kf _,rfl,rfl,rfl⟩
  case round =>
   obtain ⟨k,hk,rfl,rfl,HA⟩:=hrel
   have hks:ksum (xs.take k)≤557056:=by
    have h1:=zlvS (xs.take k)
    have h2:(xs.take k).length≤17:=by simp;omega
    omega
   by_cases hlt:k<xs.length
   ·have c1:=HCELL.out k hlt
    have HT:=hide (show xs.take (k+1)=xs.take k++[xs[k]] from ke hlt)
    by_cases hx0:0≤xs[k]
    ·by_cases hx1:xs[k]≤15
     ·have HO:=hide (show qtFp (xs.take (k+1))=true by rw[HT.out,X0sA,HA.out];simp[lenOk,hx0,hx1])
      by_cases hx2:0<xs[k]
      ·obtain ⟨m,hm⟩:=Int.eq_ofNat_of_zero_le hx0
       rw[hm] at c1 hx1 hx2
       have HK:=hide (show ksum (xs.take (k+1))=ksum (xs.take k)+2 ^ (15-m) by
        rw[HT.out,qDB7,hm,wt,if_pos hx2];simp)
       have hw:=jSrY (n:=15-m) (by omega)
       have hp:=pow16 (n:=15-m) (by omega)
       generalize 2 ^ (15-m)=p at *
       clear hm hx0
       generalize ksum (xs.take k)=S at *
       go_wp2
       go_round
       case rel=>exact ⟨k+1,by omega,by go_num,by rw[HK.out];go_num,HO⟩
       case measure=>simp[intOf];omega
      ·obtain hm:xs[k]=0:=by omega
       have HK:=hide (show ksum (xs.take (k+1))=ksum (xs.take k) by
        rw[HT.out,qDB7,wt,if_neg hx2];simp)
       rw[hm] at c1
       clear hx0 hx1 hx2 hm
       generalize ksum (xs.take k)=S at *
       go_wp2
       go_round
       case rel=>exact ⟨k+1,by omega,by go_num,by rw[HK.out],HO⟩
       case measure=>simp[intOf];omega
     ·have HE:Hid (qO3F xs=3):=by show _=_;rw[qO3F,if_pos ⟨hl1,hl2⟩,zrc5 xs k hlt (by simp[lenOk];omega)];rfl
      go_wp2
      go_ret
      rw[HE.out]
      exact ⟨rfl,rfl⟩
    ·have HE:Hid (qO3F xs=3):=by show _=_;rw[qO3F,if_pos ⟨hl1,hl2⟩,zrc5 xs k hlt (by simp[lenOk];omega)];rfl
     go_wp2
     go_ret
     rw[HE.out]
     exact ⟨rfl,rfl⟩
   ·have HX:xs.take k=xs:=kg (by omega)
    rw[HX] at HA hks ⊢
    clear HX
    by_cases hz:ksum xs=0
    ·have HE:Hid (qO3F xs=1):=by show _=_;rw[qO3F,if_pos ⟨hl1,hl2⟩,if_pos HA.out,if_pos (.inl hz)]
     rw[hz]
     go_wp2
     go_ret
     rw[HE.out]
     exact ⟨rfl,rfl⟩
    ·by_cases hb:32768<ksum xs
     ·have HE:Hid (qO3F xs=1):=by show _=_;rw[qO3F,if_pos ⟨hl1,hl2⟩,if_pos HA.out,if_pos (.inr hb)]
      generalize ksum xs=S at *
      go_wp2
      go_ret
      rw[HE.out]
      exact ⟨rfl,rfl⟩
     ·have HE:Hid (qO3F xs=0):=by show _=_;rw[qO3F,if_pos ⟨hl1,hl2⟩,if_pos HA.out,if_neg (by omega)]
      generalize ksum xs=S at *
      have hz2:((S:Int) == 0)=false:=by simp;omega
      have hb2:decide (32768<(S:Int))=false:=by simp;omega
      go_wp2
      go_ret
      rw[HE.out]
      exact ⟨rfl,rfl⟩
 ·have HE:Hid (qO3F xs=2):=by show _=_;rw[qO3F,if_neg hl]
  by_cases h1:xs.length<1
  ·have hd1:decide ((xs.length:Int)<1)=true:=by simp;omega
   go_enter Tryz.func120,Tryz.ntmps120
   go_wp2
   go_ret
   rw[HE.out]
   exact ⟨rfl,rfl⟩
  ·have hd1:decide ((xs.length:Int)<1)=false:=by simp;omega
   have hd2:decide (17<(xs.length:Int))=true:=by simp;omega
   go_enter Tryz.func120,Tryz.ntmps120
   go_wp2
   go_ret
   rw[HE.out]
   exact ⟨rfl,rfl⟩
theorem jVE5 (v:Value) (xs:List Int) (w:World) (hv:jCvT w v xs) :
  Calls Tryz.prog 130 #[v] w fun e w'=>e=.returned (.int .i64 (qO3F xs))∧w=w':=by
 obtain ⟨ao,ca,rfl,hla,hc⟩:=hv
 have HC:=hide hc;clear hc
 by_cases hl:1≤xs.length∧xs.length≤17
 ·obtain ⟨hl1,hl2⟩:=hl
  have hd1:decide (1≤(xs.length:Int)∧(xs.length:Int)≤17)=true:=by simp;omega
  obtain ⟨b,off,hao,hbl,hcell⟩:∃b off,ao=some ⟨b,off,none⟩∧b<w.heap.size∧∀j (h:j<xs.length),w.cell? ⟨b,off+j,none⟩=some (.int .i64 xs[j]):=by
   rcases HC.out with h|h
   ·subst h;exact absurd hl1 (by simp)
   ·exact h
  subst hao
  have HCELL:=hide hcell;clear hcell HC
  go_enter Tryz.func130,Tryz.ntmps130
  go_wp2_with (go_at_call 33;refine (qVbC _ _ _ _).mono ?_;rintro e w1 ⟨rfl,rfl⟩)
  go_loop [3,4,5] (fun t u i=>∃k:Nat,k≤xs.length∧i=.int .i64 k∧t=.int .i64 (ksum (xs.take k):Nat)∧u=.bool (ji94 (xs.take k))∧Hid (qtFp (xs.take k)=true)) (fun _ _ i=>xs.length-(intOf i).toNat)
  case atStart=>exact ⟨0,kf _,rfl,rfl,rfl,rfl⟩
  case round =>
   obtain ⟨k,hk,rfl,rfl,rfl,HA⟩:=hrel
   have hks:ksum (xs.take k)≤557056:=by
    have h1:=zlvS (xs.take k)
    have h2:(xs.take k).length≤17:=by simp;omega
    omega
   by_cases hlt:k<xs.length
   ·have c1:=HCELL.out k hlt
    have HT:=hide (show xs.take (k+1)=xs.take k++[xs[k]] from ke hlt)
    by_cases hx0:0≤xs[k]
    ·by_cases hx1:xs[k]≤15
     ·have HO:=hide (show qtFp (xs.take (k+1))=true by rw[HT.out,X0sA,HA.out];simp[lenOk,hx0,hx1])
      by_cases hx2:0<xs[k]
      ·obtain ⟨m,hm⟩:=Int.eq_ofNat_of_zero_le hx0
       have HU:=hide (show ji94 (xs.take (k+1))=true by rw[HT.out,qiqj];simp[hx2])
       rw[hm] at c1 hx1 hx2
       have HK:=hide (show ksum (xs.take (k+1))=ksum (xs.take k)+2 ^ (15-m) by
        rw[HT.out,qDB7,hm,wt,if_pos hx2];simp)
       have hw:=jSrY (n:=15-m) (by omega)
       have hp:=pow16 (n:=15-m) (by omega)
       generalize 2 ^ (15-m)=p at *
       clear hm hx0
       have hq:decide ((m:Int)≤15)=true:=by simpa using hx1
       generalize ksum (xs.take k)=S at *
       go_wp2_with (go_at_call 33;refine (qVbC _ _ _ _).mono ?_;rintro e w1 ⟨rfl,rfl⟩)
       go_round
       case rel=>exact ⟨k+1,by omega,by go_num,by rw[HK.out];go_num,by rw[HU.out],HO⟩
       case measure=>simp[intOf];omega
      ·obtain hm:xs[k]=0:=by omega
       have HU:=hide (show ji94 (xs.take (k+1))=ji94 (xs.take k) by rw[HT.out,qiqj];simp[hx2])
       have HK:=hide (show ksum (xs.take (k+1))=ksum (xs.take k) by
        rw[HT.out,qDB7,wt,if_neg hx2];simp)
       rw[hm] at c1
       clear hx0 hx1 hx2 hm
       generalize ksum (xs.take k)=S at *
       generalize ji94 (xs.take k)=U at *
       go_wp2_with (go_at_call 33;refine (qVbC _ _ _ _).mono ?_;rintro e w1 ⟨rfl,rfl⟩)
       go_round
       case rel=>exact ⟨k+1,by omega,by go_num,by rw[HK.out],by rw[HU.out],HO⟩
       case measure=>simp[intOf];omega
     ·have HE:Hid (qO3F xs=3):=by show _=_;rw[qO3F,if_pos ⟨hl1,hl2⟩,zrc5 xs k hlt (by simp[lenOk];omega)];rfl
      have hq:decide (xs[k]≤15)=false:=by simpa using hx1
      go_wp2_with (go_at_call 33;refine (qVbC _ _ _ _).mono ?_;rintro e w1 ⟨rfl,rfl⟩)
      go_ret
      rw[HE.out]
      exact ⟨rfl,rfl⟩
    ·have HE:Hid (qO3F xs=3):=by show _=_;rw[qO3F,if_pos ⟨hl1,hl2⟩,zrc5 xs k hlt (by simp[lenOk];omega)];rfl
     have hq:decide (0≤xs[k])=false:=by simpa using hx0
     go_wp2_with (go_at_call 33;refine (qVbC _ _ _ _).mono ?_;rintro e w1 ⟨rfl,rfl⟩)
     go_ret
     rw[HE.out]
     exact ⟨rfl,rfl⟩
   ·have HX:xs.take k=xs:=kg (by omega)
    have HZ:=hide (q4z2 xs)
    rw[HX] at HA hks ⊢
    clear HX
    by_cases hz:ksum xs=0
    ·have HE:Hid (qO3F xs=1):=by show _=_;rw[qO3F,if_pos ⟨hl1,hl2⟩,if_pos HA.out,if_pos (.inl hz)]
     have hu:=HZ.out.1 hz
     go_wp2
     go_ret
     rw[HE.out]
     exact ⟨rfl,rfl⟩
    ·have hu:ji94 xs=true:=by
      cases h:ji94 xs with
      | true=>rfl
      | false=>exact absurd (HZ.out.2 h) hz
     by_cases hb:32768<ksum xs
     ·have HE:Hid (qO3F xs=1):=by show _=_;rw[qO3F,if_pos ⟨hl1,hl2⟩,if_pos HA.out,if_pos (.inr hb)]
      clear HZ
      generalize ksum xs=S at *
      go_wp2
      go_ret
      rw[HE.out]
      exact ⟨rfl,rfl⟩
     ·have HE:Hid (qO3F xs=0):=by show _=_;rw[qO3F,if_pos ⟨hl1,hl2⟩,if_pos HA.out,if_neg (by omega)]
      clear HZ
      generalize ksum xs=S at *
      go_wp2
      go_ret
      rw[HE.out]
      exact ⟨rfl,rfl⟩
 ·have HE:Hid (qO3F xs=2):=by show _=_;rw[qO3F,if_neg hl]
  have hd1:decide (1≤(xs.length:Int)∧(xs.length:Int)≤17)=false:=by
   rw[decide_eq_false_iff_not];omega
  go_enter Tryz.func130,Tryz.ntmps130
  go_wp2_with (go_at_call 33;refine (qVbC _ _ _ _).mono ?_;rintro e w1 ⟨rfl,rfl⟩)
  go_ret
  rw[HE.out]
  exact ⟨rfl,rfl⟩
theorem zgrb (s:ByteArray) (hs:s.size≤140737488355328) (hb:allB s.data.toList=true) (w:World) :
  Calls Tryz.prog 174 #[.string s] w fun e w'=>e=.returned (.tuple #[.string (str (bytesOf s.data.toList)),.int .i64 0])∧Below w.heap.size w w':=by
 have hs0:s.size≤maxLen:=by unfold maxLen;omega
 obtain ⟨i0,hi,hz0,hz1,hz2⟩:=info_parts Tryz.infoU8
 obtain ⟨n,hn⟩:∃n,n=(s.size+7) / 8:=⟨_,rfl⟩
 have HN:=hide hn;clear hn
 have HB:=hide hb
 go_enter Tryz.func174,Tryz.ntmps174
 go_wp2_with (first|(go_at_call 208;refine (zRqm _ _ hs0).mono ?_;rintro e w' ⟨rfl,rfl⟩)|(go_at_call 196;refine (jszi _ (by omega) (by omega) _).mono ?_;rintro e w' ⟨rfl,rfl⟩)|(at_make;refine wpList_make_full _ rfl _ _ 74 rfl w.heap.size 5 i0 (.int .u8 0) 1 Tryz.underlying74 hi hz0 hz1 .i64 .i64 _ _ n rfl rfl ?_ ?_ ?_ ?_ (kc _) ?_;(have:=HN.out;omega);(have:=HN.out;omega);(have:=HN.out;rw[hz2];omega);(have:=HN.out;unfold maxLen;omega);intro w1 hown hgr))
 clear hb
 go_loopw [15] (fun i wr=>∃k:Nat,k≤s.size∧i=.int .i64 k∧wr.ownsRow w.heap.size 5 1 (.slice (some ⟨w.heap.size,0,none⟩) n n) n (jlEz s.data.toList n k)∧Below w.heap.size w wr)
  (fun i _=>s.size-(intOf i).toNat)
 case atStart=>exact ⟨0,kf _,rfl,by rw[qejR];exact hown,(Below.refl _ _).grown hgr (kc _) (by simp)⟩
 case round =>
  obtain ⟨k,hk,rfl,ho,hb⟩:=hrel
  clear hown hgr
  by_cases hlt:k<s.size
  ·have hkn:k / 8<n:=by have:=HN.out;omega
   have hc:=ho.cellAt (k / 8) (by omega)
   rw[jgjF _ _ _ _ hkn] at hc
   have hf:=ho.frozenAt (k / 8)
   have hb2:=(XwGy s.data.toList k).2
   have h4:48≤(s[k].toNat:Int)∧(s[k].toNat:Int)≤49:=by
    have:=XUy1 HB.out k (by simpa using hlt)
    rw[XWox s k hlt] at this
    omega
   obtain ⟨h4,h5⟩:=h4
   have hst:=ho.stored (k / 8) (.int .u8 (accAt s.data.toList (k+1) (k / 8):Nat))
   rw[jd6N _ _ _ _ rfl,←qNlo s.data.toList k (s[k].toNat:Int) (by
    rw[qRy9 _ _ (by simpa using hlt) HB.out,XWox s k hlt];omega)] at hst
   have HS:=hide hst;clear hst
   generalize accAt s.data.toList k (k / 8)=a at *
   go_wp2
   go_region
   go_wp2
   go_roundw
   case rel =>
    exact ⟨k+1,by omega,by go_num,HS.out.1.drew,(hb.setCell (kc _) _).drew⟩
   case measure=>simp[intOf];omega
  ·obtain rfl:k=s.size:=by omega
   have hown2:wr.ownsRow w.heap.size 5 1 (.slice (some ⟨w.heap.size,0,none⟩) n n) n (byt (bytesOf s.data.toList)):=by
    have:=qew6 s.data.toList
    rw[qAMg,←HN.out] at this
    rw[←this];exact ho
   clear ho
   have hcv:=jxMI (dst:=9) Tryz.underlying74 Tryz.underlying5 Tryz.underlying9 hown2
   go_wp2
   go_ret2
   exact ⟨rfl,hb⟩
def jOLD (l:List UInt8) (q:Nat):List UInt8:=(List.range q).map fun q=>UInt8.ofNat (j0NY l (8*q) 8)
theorem qCly (l:List UInt8) (q:Nat):jOLD l (q+1)=jOLD l q++[UInt8.ofNat (j0NY l (8*q) 8)]:=by
 simp[jOLD,List.range_succ]
theorem XxhP (s:ByteArray) (hs:s.size≤140737488355328) (w:World) :
  Calls Tryz.prog 134 #[.string s] w fun e w'=>e=.returned (.string (str (bytesOf s.data.toList)))∧Below w.heap.size w w':=by
 obtain ⟨i0,hi,hz0,hz1,hz2⟩:=info_parts Tryz.infoU8
 obtain ⟨n,hn⟩:∃n,n=s.size / 8+1:=⟨_,rfl⟩
 have HN:=hide hn;clear hn
 go_enter Tryz.func134,Tryz.ntmps134
 go_wp2_with (at_make;refine wpList_make_own _ rfl _ _ 74 rfl w.heap.size 5 i0 (.int .u8 0) 1 Tryz.underlying74 hi hz0 hz1 .i64 .i64 _ n rfl rfl ?_ ?_ ?_ (kc _) ?_;(have:=HN.out;omega);(have:=HN.out;rw[hz2];omega);(have:=HN.out;unfold maxLen;omega);intro w1 hown hgr)
 go_loopw [3,4] (fun v i wr=>∃q:Nat,8*q≤s.size+7∧i=.int .i64 (8*(q:Int))∧v=.slice (some ⟨w.heap.size,0,none⟩) q n ∧
   wr.ownsRow w.heap.size 5 1 (.slice (some ⟨w.heap.size,0,none⟩) q n) q (byt (jOLD s.data.toList q))∧Below w.heap.size w wr)
  (fun _ i _=>s.size+8-(intOf i).toNat)
 case atStart=>exact ⟨0,kf _,rfl,rfl,hown,(Below.refl _ _).grown hgr (kc _) (by simp)⟩
 case round =>
  obtain ⟨q,hq,rfl,rfl,ho,hb⟩:=hrel
  clear hown hgr
  by_cases hlt:8*q<s.size
  ·have hd:decide (8*(q:Int)<(s.size:Int))=true:=by simp;omega
   go_wp2
   go_loop [5,6] (fun t i=>∃j:Nat,j≤8∧i=.int .i64 (8*(q:Int)+(j:Int))∧t=.int .i64 (j0NY s.data.toList (8*q) j:Nat)) (fun _ i=>8*q+8-(intOf i).toNat)
   case atStart=>exact ⟨0,kf _,by go_num,rfl⟩
   case round =>
    obtain ⟨j,hj,rfl,rfl⟩:=hrel
    have hp:=X0uq s.data.toList (8*q) j
    have hp2:2 ^ j≤2 ^ 8:=Nat.pow_le_pow_right (by decide) hj
    have hp3:j0NY s.data.toList (8*q) j<256:=by omega
    clear hp hp2
    have hstep:j0NY s.data.toList (8*q) (j+1)=2*j0NY s.data.toList (8*q) j+bitAt s.data.toList (8*q+j):=rfl
    by_cases hj8:j<8
    ·by_cases h1:8*q+j<s.size
     ·by_cases h2:(s[8*q+j].toNat:Int)=49
      ·rw[j9OI _ _ (by simpa using h1) (by rw[XWox s _ h1];omega)] at hstep
       have HS:=hide hstep;clear hstep
       generalize j0NY s.data.toList (8*q) j=pv at *
       go_wp2
       go_round
       case rel=>exact ⟨j+1,by omega,by go_num,by rw[HS.out];go_num⟩
       case measure=>simp[intOf];omega
      ·rw[qAMN _ _ (by simpa using h1) (by rw[XWox s _ h1];omega)] at hstep
       have HS:=hide hstep;clear hstep
       have h2':((s[8*q+j].toNat:Int) == 49)=false:=by simpa using h2
       generalize j0NY s.data.toList (8*q) j=pv at *
       go_wp2
       go_round
       case rel=>exact ⟨j+1,by omega,by go_num,by rw[HS.out];go_num⟩
       case measure=>simp[intOf];omega
     ·rw[jVw1 _ _ (by rw[qAMg];omega)] at hstep
      have HS:=hide hstep;clear hstep
      generalize j0NY s.data.toList (8*q) j=pv at *
      go_wp2
      go_round
      case rel=>exact ⟨j+1,by omega,by go_num,by rw[HS.out];go_num⟩
      case measure=>simp[intOf];omega
    ·obtain rfl:j=8:=by omega
     clear hstep
     have hlt2:q<n:=by have:=HN.out;omega
     have HU:=hide (qCly s.data.toList q)
     generalize j0NY s.data.toList (8*q) 8=pv at *
     go_wp2_with (at_builtin;refine wpList_append_fits _ rfl _ _ 74 rfl w.heap.size 5 i0 1 Tryz.underlying74 hi hz1 w.heap.size q n _ rfl (ho.alloc _) ⟨wr.heap.size,0,none⟩ 1 1 [.int .u8 pv] rfl rfl ?_ ?_ (by omega) ?_;(intro a u hu;obtain ⟨rfl,rfl⟩:=X4yv hu;simp[Addr.add]);(intro u hu;simp at hu;subst hu;rfl);intro w2 ho2 hgr2)
     have ho3:w2.ownsRow w.heap.size 5 1 (.slice (some ⟨w.heap.size,0,none⟩) (q+1) n) (q+1) (byt (jOLD s.data.toList (q+1))):=by
      rw[HU.out,zP44,XE8Y pv hp3];exact ho2
     go_roundw
     case rel=>exact ⟨q+1,by omega,by go_num,rfl,ho3,(hb.alloc hb.size _).grown hgr2 (by have:=hb.size;simp;omega) (by simp)⟩
     case measure=>simp[intOf];omega
  ·have hq2:q=(s.size+7) / 8:=by omega
   have hown2:wr.ownsRow w.heap.size 5 1 (.slice (some ⟨w.heap.size,0,none⟩) q n) q (byt (bytesOf s.data.toList)):=by
    have:bytesOf s.data.toList=jOLD s.data.toList q:=by rw[bytesOf,jOLD,qAMg,hq2]
    rw[this];exact ho
   clear ho hq2
   have hcv:=jxMI (dst:=9) Tryz.underlying74 Tryz.underlying5 Tryz.underlying9 hown2
   go_wp2
   go_ret
   exact ⟨rfl,hb⟩
theorem qJyw (n:Int) (w:World):Calls Tryz.prog 175 #[.int .i64 n] w fun e w'=>e=.returned (.bool (qkcw n))∧w=w':=by
 by_cases h1:1≤n
 all_goals by_cases h2:n≤7
 all_goals
  go_enter Tryz.func175,Tryz.ntmps175
  go_wp2
  go_ret
  exact ⟨j3Zs (by simp[qkcw,h1,h2]),rfl⟩
theorem XhS6 (kind a b c:Int) (ha:0≤a∧a≤65535) (hb:0≤b∧b≤65535) (hc:0≤c∧c≤65535) (w:World) :
  Calls Tryz.prog 210 #[.int .i64 kind,.int .i64 a,.int .i64 b,.int .i64 c] w fun e w'=>e=.returned (.int .i64 (jA7c kind a b c))∧w=w':=by
 by_cases h1:kind=1
 ·subst h1
  go_enter Tryz.func210,Tryz.ntmps210
  go_wp2
  go_ret
  exact ⟨jx9N (by simp[jA7c]),rfl⟩
 by_cases h2:kind=2
 ·subst h2
  go_enter Tryz.func210,Tryz.ntmps210
  go_wp2
  go_ret
  exact ⟨jx9N (by simp[jA7c]),rfl⟩
 by_cases h3:kind=3
 ·subst h3
  go_enter Tryz.func210,Tryz.ntmps210
  go_wp2
  go_ret
  exact ⟨jx9N (by simp[jA7c]),rfl⟩
 by_cases h4:kind=4
 ·subst h4
  go_enter Tryz.func210,Tryz.ntmps210
  go_wp2
  go_ret
  exact ⟨jx9N (by simp[jA7c]),rfl⟩
 by_cases h5:kind=5
 ·subst h5
  go_enter Tryz.func210,Tryz.ntmps210
  go_wp2
  go_ret
  exact ⟨jx9N (by simp[jA7c]),rfl⟩
 by_cases h6:kind=6
 ·subst h6
  go_enter Tryz.func210,Tryz.ntmps210
  go_wp2
  go_ret
  exact ⟨jx9N (by simp[jA7c]),rfl⟩
 have k1:(kind == 1)=false:=by simpa using h1
 have k2:(kind == 2)=false:=by simpa using h2
 have k3:(kind == 3)=false:=by simpa using h3
 have k4:(kind == 4)=false:=by simpa using h4
 have k5:(kind == 5)=false:=by simpa using h5
 have k6:(kind == 6)=false:=by simpa using h6
 have HE:=hide (show (a+b) / 2=jA7c kind a b c by simp[jA7c,h1,h2,h3,h4,h5,h6])
 clear h1 h2 h3 h4 h5 h6
 go_enter Tryz.func210,Tryz.ntmps210
 go_wp2
 go_ret
 exact ⟨jx9N HE.out,rfl⟩
theorem z6N2 (kind a b c:Int) (ha:0≤a∧a≤65535) (hb:0≤b∧b≤65535) (hc:0≤c∧c≤65535) (w:World) :
  Calls Tryz.prog 210 #[.int .i64 kind,.int .i64 a,.int .i64 b,.int .i64 c] w fun e w'=>e=.returned (.int .i64 (jA7c kind a b c))∧w'=w :=
 (XhS6 kind a b c ha hb hc w).mono fun _ _ h=>⟨h.1,h.2.symm⟩
theorem jhhK (W k:Nat) (hW:1≤W):k / W*W+k % W=k∧(k / W≠0→W≤k)∧(k / W=0→k % W=k)∧k % W<W:=by
 have h1:=Nat.div_add_mod k W
 rw[Nat.mul_comm] at h1
 refine ⟨h1,fun h=>?_,fun h=>?_,Nat.mod_lt _ hW⟩
 ·refine Decidable.byContradiction fun hn=>h (Nat.div_eq_of_lt (by omega))
 ·rw[h,Nat.zero_mul,Nat.zero_add] at h1;exact h1
theorem XBmv (v:Value) (zs:List Int) (W X Y:Nat) (H kind:Int) (k:Nat) (w:World) (hv:jCvT w v zs) (hW1:1≤W) (hW:W≤64) (hk:k<zs.length) (hl:zs.length≤4096) (hz:qLlL zs=true) (hX:X=k % W) (hY:Y=k / W) :
  Calls Tryz.prog 179 #[.agg #[.int .i64 W,.int .i64 H,v],.int .i64 kind,.int .i64 X,.int .i64 Y] w fun e w'=>e=.returned (.int .i64 (gAt zs W kind k))∧Below w.heap.size w w':=by
 obtain ⟨p1,p2,p3,p4⟩:=jhhK W k hW1
 rw[←hX,←hY] at p1
 rw[←hY] at p2 p3
 rw[←hX] at p3 p4
 obtain ⟨ao,ca,rfl,hla,hc⟩:=hv
 obtain ⟨bk,off,hao,hbl,hcell⟩:∃b off,ao=some ⟨b,off,none⟩∧b<w.heap.size∧∀j (h:j<zs.length),w.cell? ⟨b,off+j,none⟩=some (.int .i64 zs[j]):=by
  rcases hc with h|h
  ·subst h;simp at hk
  ·exact h
 subst hao
 have HG:∀j,j<zs.length→∀o,(w.alloc o).cell? ⟨bk,off+j,none⟩=some (.int .i64 (zs.getD j 0)):=fun j hj o=>by
  rw[World.cell?_of_block (w:=w) (Below.heap_alloc w o bk hbl),hcell j hj];simp[List.getD,hj]
 have HCELL:=hide HG
 clear hcell hc HG
 obtain ⟨M,hM⟩:∃M:Nat,M=Y*W:=⟨_,rfl⟩
 rw[←hM] at p1
 have hm:(Y:Int)*(W:Int)=(M:Int):=by rw[hM];simp
 have hMW:Y≠0→W≤M:=fun h=>by rw[hM];exact Nat.le_mul_of_pos_left _ (by omega)
 clear hM
 have hs1:=qlb5 hz (k-1)
 have hs2:=qlb5 hz (k-W)
 have hs3:=qlb5 hz (k-W-1)
 clear hz
 by_cases hx:X=0
 ·by_cases hy:Y=0
  ·have HE:=hide (show 32768=gAt zs W kind k by rw[gAt,if_pos ⟨hX ▸ hx,hY ▸ hy⟩])
   subst hx hy
   clear hX hY HCELL hs1 hs2 hs3 p2 p3
   go_enter Tryz.func179,Tryz.ntmps179
   go_wp2
   go_ret
   exact ⟨jx9N HE.out,qUNz _ _⟩
  ·have HE:=hide (show zs.getD (k-W) 0=gAt zs W kind k by rw[gAt,if_neg (fun h=>hy (hY.trans h.2)),if_neg (fun h=>hy (hY.trans h)),if_pos (hX ▸ hx)])
   have hkW:=p2 hy
   have hc1:=HCELL.out (k-W) (by omega)
   have hyb:((Y:Int) == 0)=false:=by simp;omega
   subst hx
   obtain rfl:M=k:=by omega
   clear hX hY HCELL p3 p2 p1 hy hs1 hs3
   generalize zs.getD (M-W) 0=Z at *
   go_enter Tryz.func179,Tryz.ntmps179
   go_wp2
   go_ret
   exact ⟨jx9N HE.out,qUNz _ _⟩
 ·have hxb:((X:Int) == 0)=false:=by simp;omega
  by_cases hy:Y=0
  ·have HE:=hide (show zs.getD (k-1) 0=gAt zs W kind k by rw[gAt,if_neg (fun h=>hx (hX.trans h.1)),if_pos (hY ▸ hy)])
   have hc1:=HCELL.out (k-1) (by omega)
   subst hy
   obtain rfl:M=0:=by simp at hm;omega
   obtain rfl:X=k:=by omega
   clear hX hY HCELL p3 p2 hs2 hs3 p1
   generalize zs.getD (X-1) 0=Z at *
   go_enter Tryz.func179,Tryz.ntmps179
   go_wp2
   go_ret
   exact ⟨jx9N HE.out,qUNz _ _⟩
  ·have HE:=hide (show jA7c kind (zs.getD (k-1) 0) (zs.getD (k-W) 0) (zs.getD (k-W-1) 0)=gAt zs W kind k by rw[gAt,if_neg (fun h=>hx (hX.trans h.1)),if_neg (fun h=>hy (hY.trans h)),if_neg (fun h=>hx (hX.trans h))])
   have hkW:=p2 hy
   have hc1:=HCELL.out (k-1) (by omega)
   have hc2:=HCELL.out (k-W) (by omega)
   have hc3:=HCELL.out (k-W-1) (by omega)
   have hyb:((Y:Int) == 0)=false:=by simp;omega
   have hMW:=hMW hy
   have i1:(k:Int)-1=((k-1:Nat):Int):=by omega
   have i2:(k:Int)-(W:Int)=((k-W:Nat):Int):=by omega
   have i3:((k-W:Nat):Int)-1=((k-W-1:Nat):Int):=by omega
   have l1:k-1<zs.length:=by omega
   have l2:k-W<zs.length:=by omega
   have l3:k-W-1<zs.length:=by omega
   have hat:(M:Int)+(X:Int)=(k:Int):=by omega
   clear hX hY HCELL p3 p2 hy p1
   generalize zs.getD (k-1) 0=Z1 at *
   generalize zs.getD (k-W) 0=Z2 at *
   generalize zs.getD (k-W-1) 0=Z3 at *
   generalize k-W-1=j3 at *
   generalize k-W=j2 at *
   generalize k-1=j1 at *
   go_enter Tryz.func179,Tryz.ntmps179
   go_wp2_with fail
   have HW:=hide (qUNz w (ka #[.int .i64 W,.int .i64 H,.slice (some ⟨bk,off,none⟩) zs.length ca] 54))
   have hd1:=hc1 (ka #[.int .i64 W,.int .i64 H,.slice (some ⟨bk,off,none⟩) zs.length ca] 54)
   have hd2:=hc2 (ka #[.int .i64 W,.int .i64 H,.slice (some ⟨bk,off,none⟩) zs.length ca] 54)
   have hd3:=hc3 (ka #[.int .i64 W,.int .i64 H,.slice (some ⟨bk,off,none⟩) zs.length ca] 54)
   obtain ⟨e0,e1,e2⟩:=pl3 (Below.refl (w.alloc (ka #[.int .i64 W,.int .i64 H,.slice (some ⟨bk,off,none⟩) zs.length ca] 54)).heap.size _)
   clear hc1 hc2 hc3
   generalize w.alloc (ka #[.int .i64 W,.int .i64 H,.slice (some ⟨bk,off,none⟩) zs.length ca] 54)=w1 at *
   go_quiet ((go_at_call 210;exact Calls.quiet_of_same (z6N2 kind Z1 Z2 Z3 hs1 hs2 hs3 _)))
   go_wp2
   go_ret
   exact ⟨jx9N HE.out,below_drewN HW.out _⟩
theorem XkFC (s g:Int) (hs:0≤s∧s≤65535) (hg:-65536≤g∧g≤131070) (w:World) :
  Calls Tryz.prog 178 #[.int .i64 s,.int .i64 g] w fun e w'=>e=.returned (.int .i64 (dif s g))∧w=w':=by
 have ha:=andTop (s-g)
 by_cases h:32768<(s-g) % 65536
 ·have HE:=hide (show (s-g) % 65536-65536=dif s g by rw[dif,if_pos h])
  go_enter Tryz.func178,Tryz.ntmps178
  go_wp2
  go_ret
  exact ⟨jx9N HE.out,rfl⟩
 ·have HE:=hide (show (s-g) % 65536=dif s g by rw[dif,if_neg h])
  go_enter Tryz.func178,Tryz.ntmps178
  go_wp2
  go_ret
  exact ⟨jx9N HE.out,rfl⟩
theorem qPxP (N k:Nat):N / 2 ^ (k+1)=N / 2 ^ k / 2:=by rw[Nat.pow_succ,Nat.div_div_eq_div_mul]
theorem ziom {N k:Nat} (h:N / 2 ^ k≠0):k<blen N:=zXXi (by
 refine Decidable.byContradiction fun hn=>h (Nat.div_eq_of_lt (by omega)))
theorem jTGP {N k:Nat} (h:N / 2 ^ k=0):blen N≤k:=Xju9 (by
 have:=Nat.pow_pos (n:=k) (show 0<2 by decide)
 rcases Nat.div_eq_zero_iff.1 h with h|h<;>omega)
theorem XHCf (d:Int) (h0:-32768<d) (h1:d≤32768) (w:World) :
  Calls Tryz.prog 180 #[.int .i64 d] w fun e w'=>e=.returned (.int .i64 (cls d:Nat))∧w=w':=by
 have hN:∃N:Nat,N≤32768∧(d=N∨(d=-(N:Int)∧0<N)):=⟨d.natAbs,by omega,by omega⟩
 obtain ⟨N,hNb,hN⟩:=hN
 have HB:=hide (show blen N≤16 from Xju9 (by omega))
 have HC:=hide (show blen N=cls d by rw[cls];congr 1;omega)
 clear h0 h1
 generalize cls d=C at *
 rcases hN with rfl|⟨rfl,hpos⟩
 ·have hdc:decide ((N:Int) < -(N:Int))=false:=by simp
  go_enter Tryz.func180,Tryz.ntmps180
  go_wp2
  go_loop [3,4] (fun c n=>∃k:Nat,k≤16∧c=.int .i64 k∧n=.int .i64 ((N / 2 ^ k:Nat):Int)∧Hid (k≤blen N)) (fun c _=>16-(intOf c).toNat)
  case atStart=>exact ⟨0,by omega,rfl,by (simp;try omega),by show _≤_;omega⟩
  case round =>
   obtain ⟨k,hk,rfl,rfl,HK⟩:=hrel
   have HH:=hide (qPxP N k)
   have HM:=hide (@ziom N k)
   have HD:=hide (@jTGP N k)
   have hle:N / 2 ^ k≤32768:=kd (Nat.div_le_self _ _) hNb
   generalize N / 2 ^ k=n at *
   by_cases hn:n=0
   ·subst hn
    have HE:=hide (show (k:Int)=(C:Nat) by rw[←HC.out];have:=HD.out rfl;have:=HK.out;omega)
    go_wp2
    go_ret
    exact ⟨jx9N HE.out,rfl⟩
   ·have hlt:=HM.out hn
    have HK2:Hid (k+1≤blen N):=hlt
    have hk2:k+1≤16:=by have:=HB.out;omega
    clear hlt
    go_wp2
    go_round
    case rel=>exact ⟨k+1,hk2,by go_num,by rw[HH.out];go_num,HK2⟩
    case measure=>simp[intOf];omega
 ·have hdc:decide (-(N:Int) < - -(N:Int))=true:=by simp;omega
  have hdd:decide (-(N:Int)<(N:Int))=true:=by simp;omega
  have hnn:- -(N:Int)=(N:Int):=Int.neg_neg _
  go_enter Tryz.func180,Tryz.ntmps180
  go_wp2
  go_loop [3,4] (fun c n=>∃k:Nat,k≤16∧c=.int .i64 k∧n=.int .i64 ((N / 2 ^ k:Nat):Int)∧Hid (k≤blen N)) (fun c _=>16-(intOf c).toNat)
  case atStart=>exact ⟨0,by omega,rfl,by (simp;try omega),by show _≤_;omega⟩
  case round =>
   obtain ⟨k,hk,rfl,rfl,HK⟩:=hrel
   have HH:=hide (qPxP N k)
   have HM:=hide (@ziom N k)
   have HD:=hide (@jTGP N k)
   have hle:N / 2 ^ k≤32768:=kd (Nat.div_le_self _ _) hNb
   generalize N / 2 ^ k=n at *
   by_cases hn:n=0
   ·subst hn
    have HE:=hide (show (k:Int)=(C:Nat) by rw[←HC.out];have:=HD.out rfl;have:=HK.out;omega)
    go_wp2
    go_ret
    exact ⟨jx9N HE.out,rfl⟩
   ·have hlt:=HM.out hn
    have HK2:Hid (k+1≤blen N):=hlt
    have hk2:k+1≤16:=by have:=HB.out;omega
    clear hlt
    go_wp2
    go_round
    case rel=>exact ⟨k+1,hk2,by go_num,by rw[HH.out];go_num,HK2⟩
    case measure=>simp[intOf];omega
theorem zoPR {P:Program} (w:World) (g o:Nat) (ty:TypeId) (cs:Array Value) (d:TypeDesc) (hc:∀j v,cs.toList[j]?=some v→w.cell? ⟨g,o+j,none⟩=some v)
  (hu:P.underlying ty=some d) (hd:(match d with | .struct _ | .array _ _=>true|_=>false)=true) (hi:(P.info? ty).map (·.size)=some cs.size) :
  (loadVar ty ⟨g,o,none⟩).run P w=.ok (.agg cs) w:=by
 have hl:(loadCells ⟨g,o,none⟩ cs.toList.length).run P w=.ok cs.toList.toArray w :=
  run_loadCells_list (P:=P) w ⟨g,o,none⟩ cs.toList (fun j v hv=>by
   have hadd:(⟨g,o,none⟩:Addr).add j=⟨g,o+j,none⟩:=by unfold Addr.add;split<;>simp_all
   rw[hadd]
   exact hc j v hv)
 cases hq:P.info? ty with
 | none=>simp[hq] at hi
 | some i =>
  have hs:i.size=cs.size:=by simpa [hq] using hi
  have hagg:(isAgg ty).run P w=.ok true w:=by
   unfold isAgg
   rw[Sem.run_bind,run_underlying hu w]
   cases d<;>simp_all
  simp only[Array.length_toList,Array.toArray_toList] at hl
  simp[loadVar,Sem.run_bind,hagg,sizeOf,typeInfo,hq,hs,hl]
theorem XiYX {P:Program} {ops:Array Oper} {rest:List Oper} {o:Oper} {a:Act} {w:World} {Q:Exit→Act→World→Prop} (hgd:o.guard=none) (ty:TypeId) (x:Operand) (ho:o.op=.load ty x)
  (g of:Nat) (hx:a.eval x=.pointer (some ⟨g,of,none⟩)) (cs:Array Value) (d:TypeDesc) (hc:∀j v,cs.toList[j]?=some v→w.cell? ⟨g,of+j,none⟩=some v)
  (hu:P.underlying ty=some d) (hd:(match d with | .struct _ | .array _ _=>true|_=>false)=true) (hi:(P.info? ty).map (·.size)=some cs.size)
  (h:wpList P ops Q rest (a.put o.dst (.agg cs)) w):wpList P ops Q (o::rest) a w :=
 wpList_plain hgd fun _ hK=>by
  unfold Oper.wp execOp
  simp only[ho,hx,Instr.loadAt,Instr.sureAddr,Sem.run_bind,Sem.run_pure,Result.andThen_ok,zoPR w g of ty cs d hc hu hd hi]
  exact hK _ _ h
theorem XMYj {P:Program} {o:Oper} {a:Act} {w:World} (ty:TypeId) (x:Operand) (ho:o.op=.load ty x) (g:Nat) (hx:a.eval x=.pointer (some ⟨g,0,none⟩)) (t:TypeId) (cs:Array Value) (fr:Nat×Nat) (d:TypeDesc) (hg:w.heap[g]?=some (.cells cs t fr))
  (hu:P.underlying ty=some d) (hd:(match d with | .struct _ | .array _ _=>true|_=>false)=true) (hi:(P.info? ty).map (·.size)=some cs.size):(execOp a.eval o).run P w=.ok (.value (.agg cs)) w:=by
 unfold execOp
 simp only[ho,hx,Instr.loadAt,Instr.sureAddr,Sem.run_bind,Sem.run_pure,Result.andThen_ok,run_loadVar_row w g t ty cs fr d hg hu hd hi]
theorem znBh (w:World) (ls:List Pt) (cs:Array Value) (t:TypeId) (n:Nat) (hn:ls.length=n) (hc:∀j,j<n→cs[j*2]?=some (.int .i64 (ptAt ls j).1)∧cs[j*2+1]?=some (.int .i64 (ptAt ls j).2)) (hb:n≤4096):IsPts (w.alloc (.cells cs t)) (.slice (some ⟨w.heap.size,0,none⟩) n n) ls:=by
 subst hn
 refine ⟨_,_,rfl,by omega,.inr ⟨w.heap.size,0,rfl,by simp,fun j hj=>?_⟩⟩
 obtain ⟨h1,h2⟩:=hc j hj
 rw[Nat.zero_add]
 exact ⟨by rw[kb (al1 w _)];exact h1,by rw[kb (al1 w _)];exact h2⟩
theorem jMil (W H:Int) (v:Value) (zs:List Int) (x y:Int) (X Y WN k:Nat) (w:World) (hv:jCvT w v zs) (hW:W=WN) (hx:x=X) (hy:y=Y) (hm:Y*WN+X=k) (hk:k<zs.length) (hk2:zs.length≤4096) :
  Calls Tryz.prog 142 #[.agg #[.int .i64 W,.int .i64 H,v],.int .i64 x,.int .i64 y] w fun e w'=>e=.returned (.int .i64 (zs.getD k 0))∧Below w.heap.size w w':=by
 subst hx hy
 obtain ⟨ao,ca,rfl,hla,hc⟩:=hv
 obtain ⟨bk,off,hao,hbl,hcell⟩:∃b off,ao=some ⟨b,off,none⟩∧b<w.heap.size∧∀j (h:j<zs.length),w.cell? ⟨b,off+j,none⟩=some (.int .i64 zs[j]):=by
  rcases hc with h|h
  ·subst h;simp at hk
  ·exact h
 subst hao hW
 have hc1:∀o,(w.alloc o).cell? ⟨bk,off+k,none⟩=some (.int .i64 (zs.getD k 0)):=fun o=>by
  rw[World.cell?_of_block (w:=w) (Below.heap_alloc w o bk hbl),hcell k hk];simp[List.getD,hk]
 clear hcell hc
 obtain ⟨M,hM⟩:∃M:Nat,M=Y*WN:=⟨_,rfl⟩
 have hmm:(Y:Int)*(WN:Int)=(M:Int):=by rw[hM];simp
 rw[←hM] at hm
 have hat:(M:Int)+(X:Int)=(k:Int):=by omega
 clear hM
 generalize zs.getD k 0=Z at *
 go_enter Tryz.func142,Tryz.ntmps142
 go_wp2
 go_ret
 exact ⟨rfl,qUNz _ _⟩
theorem jGOh (n:Int) (b:Nat):(0≤n∧n.tdiv b=n / b)∨(n<0∧n.tdiv b=-((-n) / b)):=by
 by_cases h:0≤n
 ·exact .inl ⟨h,Int.tdiv_eq_ediv_of_nonneg h⟩
 ·refine .inr ⟨by omega,?_⟩
  have:=Int.neg_tdiv (-n) b
  rw[Int.neg_neg] at this
  rw[this,Int.tdiv_eq_ediv_of_nonneg (by omega)]
theorem zOIe (n:Int) (h0:-4000000≤n) (h1:n≤4000000) (w:World) :
  Calls Tryz.prog 143 #[.int .i64 n,.int .i64 2] w fun e w'=>e=.returned (.int .i64 (n / 2))∧w=w':=by
 have hc:=jGOh n 2
 obtain ⟨q,hq⟩:∃q,n.tdiv 2=q:=⟨_,rfl⟩
 simp only[show ((2:Nat):Int)=2 from rfl,hq] at hc
 by_cases ht:n<q*2
 ·have hd:decide (n<q*2)=true:=by simpa using ht
  have HE:=hide (show q-1=n / 2 by omega)
  have hb:-4000001≤q∧q≤4000000:=by omega
  clear hc ht
  go_enter Tryz.func143,Tryz.ntmps143
  go_wp2
  go_ret
  exact ⟨jx9N HE.out,rfl⟩
 ·have hd:decide (n<q*2)=false:=by simpa using ht
  have HE:=hide (show q=n / 2 by omega)
  have hb:-4000001≤q∧q≤4000000:=by omega
  clear hc ht
  go_enter Tryz.func143,Tryz.ntmps143
  go_wp2
  go_ret
  exact ⟨jx9N HE.out,rfl⟩
theorem z5HW (d:Int) (h0:-32768<d) (h1:d≤32768) (w:World) :
  Calls Tryz.prog 137 #[.int .i64 d] w fun e w'=>e=.returned (.int .i64 (cls d:Nat))∧w=w':=by
 have hN:∃N:Nat,N≤32768∧(d=N∨(d=-(N:Int)∧0<N)):=⟨d.natAbs,by omega,by omega⟩
 obtain ⟨N,hNb,hN⟩:=hN
 have HB:=hide (show blen N≤16 from Xju9 (by omega))
 have HC:=hide (show blen N=cls d by rw[cls];congr 1;omega)
 clear h0 h1
 generalize cls d=C at *
 rcases hN with rfl|⟨rfl,hpos⟩
 ·have hdc:decide ((N:Int) < -(N:Int))=false:=by simp
  go_enter Tryz.func137,Tryz.ntmps137
  go_wp2
  go_loop [3,4] (fun c n=>∃k:Nat,k≤16∧c=.int .i64 k∧n=.int .i64 ((N / 2 ^ k:Nat):Int)∧Hid (k≤blen N)) (fun c _=>16-(intOf c).toNat)
  case atStart=>exact ⟨0,by omega,rfl,by (simp;try omega),by show _≤_;omega⟩
  case round =>
   obtain ⟨k,hk,rfl,rfl,HK⟩:=hrel
   have HH:=hide (qPxP N k)
   have HM:=hide (@ziom N k)
   have HD:=hide (@jTGP N k)
   have hle:N / 2 ^ k≤32768:=kd (Nat.div_le_self _ _) hNb
   generalize N / 2 ^ k=n at *
   by_cases hn:n=0
   ·subst hn
    have HE:=hide (show (k:Int)=(C:Nat) by rw[←HC.out];have:=HD.out rfl;have:=HK.out;omega)
    go_wp2
    go_ret
    exact ⟨jx9N HE.out,rfl⟩
   ·have hlt:=HM.out hn
    have HK2:Hid (k+1≤blen N):=hlt
    have hk2:k+1≤16:=by have:=HB.out;omega
    clear hlt
    go_wp2
    go_round
    case rel=>exact ⟨k+1,hk2,by go_num,by rw[HH.out];go_num,HK2⟩
    case measure=>simp[intOf];omega
 ·have hdc:decide (-(N:Int) < - -(N:Int))=true:=by simp;omega
  have hdd:decide (-(N:Int)<(N:Int))=true:=by simp;omega
  have hnn:- -(N:Int)=(N:Int):=Int.neg_neg _
  go_enter Tryz.func137,Tryz.ntmps137
  go_wp2
  go_loop [3,4] (fun c n=>∃k:Nat,k≤16∧c=.int .i64 k∧n=.int .i64 ((N / 2 ^ k:Nat):Int)∧Hid (k≤blen N)) (fun c _=>16-(intOf c).toNat)
  case atStart=>exact ⟨0,by omega,rfl,by (simp;try omega),by show _≤_;omega⟩
  case round =>
   obtain ⟨k,hk,rfl,rfl,HK⟩:=hrel
   have HH:=hide (qPxP N k)
   have HM:=hide (@ziom N k)
   have HD:=hide (@jTGP N k)
   have hle:N / 2 ^ k≤32768:=kd (Nat.div_le_self _ _) hNb
   generalize N / 2 ^ k=n at *
   by_cases hn:n=0
   ·subst hn
    have HE:=hide (show (k:Int)=(C:Nat) by rw[←HC.out];have:=HD.out rfl;have:=HK.out;omega)
    go_wp2
    go_ret
    exact ⟨jx9N HE.out,rfl⟩
   ·have hlt:=HM.out hn
    have HK2:Hid (k+1≤blen N):=hlt
    have hk2:k+1≤16:=by have:=HB.out;omega
    clear hlt
    go_wp2
    go_round
    case rel=>exact ⟨k+1,hk2,by go_num,by rw[HH.out];go_num,HK2⟩
    case measure=>simp[intOf];omega
end Go.Proofs.YtfjeonehdlphiaaGreatDoor
