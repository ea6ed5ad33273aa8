/- Several texts in one: QuotNum. -/
import Derived.Test.YtpfgdfpaoldhcaaGreatDoorSuAE
set_option maxHeartbeats 8000000
set_option maxRecDepth 100000
set_option linter.unusedVariables false
set_option linter.unusedSimpArgs false
namespace Go.Proofs.YtpfgdfpaoldhcaaGreatDoor
def zIz (da q:List Int) (y:Int) (k:Nat) (r:Int):Prop:=bv (da.drop k)=bv (q.drop k)*y+r∧0≤r∧r<y
theorem zOj {da q:List Int} {y:Int} (hy:0<y) (hq:q.length=da.length):zIz da q y da.length 0:=by
 refine⟨?_,Int.le_refl _,hy⟩
 rw[List.drop_of_length_le (Nat.le_refl _),List.drop_of_length_le zo,zD9]
 simp
theorem zIb (l:List Int) (k:Nat) (h:k<l.length):bv (l.drop k)=l.getD k 0+10000*bv (l.drop (k+1)):=by
 rw[List.drop_eq_getElem_cons h,zC8]
 simp[List.getD,List.getElem?_eq_getElem h]
theorem zSg {da q:List Int} {y r lo:Int} {k:Nat} (h:zIz da q y (k+1) r) (hk:k<da.length) (hq:q.length=da.length)
  (h1:y*lo≤da.getD k 0+10000*r) (h2:da.getD k 0+10000*r<y*(lo+1)):zIz da (q.set k lo) y k (da.getD k 0+10000*r-y*lo):=by
 obtain⟨e,r0,r1⟩:=h
 refine⟨?_,zo,by rw[Int.mul_add] at h2;omega⟩
 rw[zIb da k hk,zIb _ k zx,List.drop_set_of_lt zo,e]
 have:(q.set k lo).getD k 0=lo:=by simp[List.getD,show k<q.length by omega]
 rw[this]
 generalize da.getD k 0=x
 generalize bv (q.drop (k+1))=Q
 grind
theorem zOi {x y r:Int} (x1:x≤9999) (r1:r<y):x+10000*r<y*10000:=zo
theorem zSf {da q:List Int} {y r:Int} (h:zIz da q y 0 r):bv q=bv da/y∧r=bv da%y:=by
 obtain⟨e,r0,r1⟩:=h
 rw[List.drop_zero,List.drop_zero] at e
 have hy:0<y:=zo
 constructor
 ·rw[e,Int.add_comm,Int.add_mul_ediv_right _ _ zo,Int.ediv_eq_zero_of_lt r0 r1];omega
 ·rw[e,Int.add_comm,Int.add_mul_emod_self_right,Int.emod_eq_of_lt r0 r1]
theorem dig_cons {d:Int} {l:List Int} (h:Dig l) (h0:0≤d) (h1:d≤9999):Dig (d::l):=by
 intro x hx
 rcases List.mem_cons.1 hx with rfl | hx
 ·exact⟨h0,h1⟩
 ·exact h x hx
end Go.Proofs.YtpfgdfpaoldhcaaGreatDoor
