/- Sw: part 26 of what the proofs need. -/
import Derived.Test.YtfjeonehdlphiaaGreatDoorC25Sw
set_option linter.unusedVariables false
namespace Go.Proofs.YtfjeonehdlphiaaGreatDoor
theorem jblL {N:Nat} {zs:List Int} {B:Int} (h:∀j,0≤zAt zs j∧zAt zs j≤B) (W H:Nat) (px py:Fin N→Int) (cnt:Fin N→Bool) (pre:List (Fin N)) (s:Int×Nat) (h1:0≤s.1) (h2:s.1≤s.2*B) :
  0≤(pre.foldl (mStep zs W H px py cnt) s).1∧(pre.foldl (mStep zs W H px py cnt) s).1≤(pre.foldl (mStep zs W H px py cnt) s).2*B:=by
 induction pre generalizing s with
 | nil=>exact ⟨h1,h2⟩
 | cons x pre ih =>
  simp only[List.foldl_cons]
  have hz:=h ((py x).toNat*W+(px x).toNat)
  refine ih (mStep zs W H px py cnt s x) ?_ ?_
  ·unfold mStep
   split
   ·show 0≤s.1+zAt zs ((py x).toNat*W+(px x).toNat);omega
   ·exact h1
  ·unfold mStep
   split
   ·show s.1+zAt zs ((py x).toNat*W+(px x).toNat)≤((s.2+1:Nat):Int)*B
    have e:((s.2+1:Nat):Int)*B=s.2*B+B:=by rw[Int.natCast_add,Int.add_mul];simp
    omega
   ·exact h2
theorem jn73 {N:Nat} {zs:List Int} {B:Int} (h:∀j,0≤zAt zs j∧zAt zs j≤B) (W H:Nat) (px py:Fin N→Int) (cnt:Fin N→Bool):0≤meanV zs W H px py cnt∧meanV zs W H px py cnt≤B:=by
 have hB:0≤B:=by have:=h 0;omega
 obtain ⟨h1,h2⟩:=jblL h W H px py cnt (List.finRange N) (0,0) (Int.le_refl _) (by simp)
 unfold meanV mF
 generalize (List.finRange N).foldl (mStep zs W H px py cnt) (0,0)=s at *
 split
 ·exact ⟨Int.le_refl _,hB⟩
 ·rename_i hn
  refine ⟨Int.ediv_nonneg h1 (by omega),Int.ediv_le_of_le_mul (by omega) ?_⟩
  rw[Int.mul_comm];exact h2
theorem jwje {zs:List Int} {B:Int} (h:∀j,0≤zAt zs j∧zAt zs j≤B) (W H p X Y c:Nat):0≤partV zs W H p X Y c∧partV zs W H p X Y c≤B:=by
 unfold partV
 split
 ·exact h _
 ·exact jn73 h W H _ _ _
theorem ji4F (W H:Int) (zs:List Int) (phase:Int):(fillL W H zs phase).length=zs.length:=by simp[fillL]
theorem jSvB {W H:Int} {zs:List Int} (phase:Int) (h:q0fM W H zs=true):picOk W H (fillL W H zs phase)=true:=by
 obtain ⟨h1,h2,h3,_⟩:=qwcI h
 have hz:=XWrv (XAOl h)
 rw[jZMK,Bool.and_eq_true] at h
 rw[picOk,ji4F,h.1,Bool.true_and]
 refine List.all_eq_true.2 fun q hq=>?_
 obtain ⟨j,_,rfl⟩:=List.mem_map.1 hq
 exact (X1aR _).2 ⟨jwje hz _ _ _ _ _ 0,jwje hz _ _ _ _ _ 1,jwje hz _ _ _ _ _ 2⟩
end Go.Proofs.YtfjeonehdlphiaaGreatDoor
