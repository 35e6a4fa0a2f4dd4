/- The drawn regions of FlatTakes' loop, over any frame. -/
import Derived.Test.YtfbcmcckgjfdhaaDl
set_option linter.unusedVariables false
set_option linter.unusedSimpArgs false
namespace Go.Proofs.Ytfbcmcckgjfdhaa
open Go.RowKit Go.Sort

/-- The region of that number. -/
def findRg (n : Nat) : Code → Option Code
  | .region i ops b => if i = n then some (.region i ops b) else none
  | .loop c => findRg n c
  | .seq a b => match findRg n a with
    | some c => some c
    | none => findRg n b
  | .block _ c => findRg n c
  | .scope c => findRg n c
  | .cond _ a b => match findRg n a with
    | some c => some c
    | none => findRg n b
  | _ => none
noncomputable def rg23 : Code := ((Try.f4.body.bind (findRg 23)).getD .skip)
noncomputable def rg25 : Code := ((Try.f4.body.bind (findRg 25)).getD .skip)
noncomputable def rg27 : Code := ((Try.f4.body.bind (findRg 27)).getD .skip)
noncomputable def rg28 : Code := ((Try.f4.body.bind (findRg 28)).getD .skip)

def TkV000 (gG k : Nat) (t : Nat) (v : Value) (w : World) : Prop :=
  match t with
  | 173 => v = .int .i64 2
  | 174 => v = .bool false
  | 175 => v = .bool false
  | 176 => v = undef
  | 177 => v = undef
  | 178 => v = undef
  | 179 => v = undef
  | 180 => v = undef
  | 181 => v = undef
  | 182 => v = undef
  | 183 => v = undef
  | 184 => v = undef
  | 185 => v = undef
  | 186 => v = undef
  | 187 => v = undef
  | 188 => v = undef
  | 189 => v = undef
  | 190 => v = undef
  | 191 => v = undef
  | 192 => v = undef
  | 193 => v = .bool false
  | 194 => v = .bool false
  | 195 => v = .int .i64 2
  | 196 => v = .bool false
  | 197 => v = .bool false
  | 198 => v = undef
  | 199 => v = undef
  | 200 => v = undef
  | 201 => v = undef
  | 202 => v = undef
  | 203 => v = undef
  | 204 => v = undef
  | 205 => v = undef
  | 206 => v = undef
  | 207 => v = undef
  | 208 => v = undef
  | 209 => v = undef
  | 210 => v = undef
  | 211 => v = undef
  | 212 => v = undef
  | 213 => v = undef
  | 214 => v = undef
  | 215 => v = .bool false
  | 216 => v = .bool false
  | 217 => v = .bool false
  | 218 => v = .int .i64 2
  | 219 => v = .bool false
  | 220 => v = .bool false
  | 221 => v = undef
  | 222 => v = undef
  | 223 => v = undef
  | 224 => v = undef
  | 225 => v = undef
  | 226 => v = undef
  | 227 => v = undef
  | 228 => v = undef
  | 229 => v = undef
  | 230 => v = undef
  | 231 => v = undef
  | 232 => v = undef
  | 233 => v = undef
  | 234 => v = undef
  | 235 => v = undef
  | 236 => v = undef
  | 237 => v = undef
  | 238 => v = .bool false
  | 239 => v = .bool false
  | _ => True
theorem TkV000.on {gG k : Nat} {t : Nat} {v : Value} {w w' : World} (h : TkV000 gG k t v w) (hb : Below w.heap.size w w') : TkV000 gG k t v w' := by
  unfold TkV000 at *
  split at h <;> first | exact h | exact h

set_option maxRecDepth 100000 in
set_option maxHeartbeats 4000000 in
theorem tk28_000 (gG k : Nat) (a0 : Act) (w0 : World) (Q : Exit → Act → World → Prop) (hsz : a0.tmps.size = 315) (o21 : a0.tmps[21]? = some (.pointer (some ⟨gG, 0, none⟩))) (o23 : a0.tmps[23]? = some (.int .i64 (k : Int))) (o5 : a0.tmps[5]? = some (.int .i64 2)) (o8 : a0.tmps[8]? = some (.int .i64 2)) (o11 : a0.tmps[11]? = some (.int .i64 2))
    (done : ∀ (fv : Nat → Value) (wf : World), Below w0.heap.size w0 wf → fv 239 = .bool false → Q .normal (puts a0 [173, 174, 175, 176, 177, 178, 179, 180, 181, 182, 183, 184, 185, 186, 187, 188, 189, 190, 191, 192, 193, 194, 195, 196, 197, 198, 199, 200, 201, 202, 203, 204, 205, 206, 207, 208, 209, 210, 211, 212, 213, 214, 215, 216, 217, 218, 219, 220, 221, 222, 223, 224, 225, 226, 227, 228, 229, 230, 231, 232, 233, 234, 235, 236, 237, 238, 239] fv) wf) : Code.wp Try.prog rg28 Q a0 w0 := by
  unfold rg28
  conv => arg 2; whnf
  refine wp_region_inv [173, 174, 175, 176, 177, 178, 179, 180, 181, 182, 183, 184, 185, 186, 187, 188, 189, 190, 191, 192, 193, 194, 195, 196, 197, 198, 199, 200, 201, 202, 203, 204, 205, 206, 207, 208, 209, 210, 211, 212, 213, 214, 215, 216, 217, 218, 219, 220, 221, 222, 223, 224, 225, 226, 227, 228, 229, 230, 231, 232, 233, 234, 235, 236, 237, 238, 239] (by kernel_rfl) (by kernel_rfl) (fun w' => Below w0.heap.size w0 w') (fun wa wb => Below wa.heap.size wa wb) (TkV000 gG k) (by rw [hsz]; kernel_rfl) (fun wa wb h1 h2 => h2.trans (h1.mono h2.size)) (fun t v wa wb h1 h2 => h2.on h1) (Below.refl _ _).drew (steps_of ?_) ?_
  · skip
    refine Steps1.cons (fun ax wx hS hG => ?_) (Steps1.cons (fun ax wx hS hG => ?_) (Steps1.cons (fun ax wx hS hG => ?_) (Steps1.cons (fun ax wx hS hG => ?_) (Steps1.cons (fun ax wx hS hG => ?_) (Steps1.cons (fun ax wx hS hG => ?_) (Steps1.cons (fun ax wx hS hG => ?_) (Steps1.cons (fun ax wx hS hG => ?_) (Steps1.cons (fun ax wx hS hG => ?_) (Steps1.cons (fun ax wx hS hG => ?_) (Steps1.cons (fun ax wx hS hG => ?_) (Steps1.cons (fun ax wx hS hG => ?_) (Steps1.cons (fun ax wx hS hG => ?_) (Steps1.cons (fun ax wx hS hG => ?_) (Steps1.cons (fun ax wx hS hG => ?_) (Steps1.cons (fun ax wx hS hG => ?_) (Steps1.cons (fun ax wx hS hG => ?_) (Steps1.cons (fun ax wx hS hG => ?_) (Steps1.cons (fun ax wx hS hG => ?_) (Steps1.cons (fun ax wx hS hG => ?_) (Steps1.cons (fun ax wx hS hG => ?_) (Steps1.cons (fun ax wx hS hG => ?_) (Steps1.cons (fun ax wx hS hG => ?_) (Steps1.cons (fun ax wx hS hG => ?_) (Steps1.cons (fun ax wx hS hG => ?_) (Steps1.cons (fun ax wx hS hG => ?_) (Steps1.cons (fun ax wx hS hG => ?_) (Steps1.cons (fun ax wx hS hG => ?_) (Steps1.cons (fun ax wx hS hG => ?_) (Steps1.cons (fun ax wx hS hG => ?_) (Steps1.cons (fun ax wx hS hG => ?_) (Steps1.cons (fun ax wx hS hG => ?_) (Steps1.cons (fun ax wx hS hG => ?_) (Steps1.cons (fun ax wx hS hG => ?_) (Steps1.cons (fun ax wx hS hG => ?_) (Steps1.cons (fun ax wx hS hG => ?_) (Steps1.cons (fun ax wx hS hG => ?_) (Steps1.cons (fun ax wx hS hG => ?_) (Steps1.cons (fun ax wx hS hG => ?_) (Steps1.cons (fun ax wx hS hG => ?_) (Steps1.cons (fun ax wx hS hG => ?_) (Steps1.cons (fun ax wx hS hG => ?_) (Steps1.cons (fun ax wx hS hG => ?_) (Steps1.cons (fun ax wx hS hG => ?_) (Steps1.cons (fun ax wx hS hG => ?_) (Steps1.cons (fun ax wx hS hG => ?_) (Steps1.cons (fun ax wx hS hG => ?_) (Steps1.cons (fun ax wx hS hG => ?_) (Steps1.cons (fun ax wx hS hG => ?_) (Steps1.cons (fun ax wx hS hG => ?_) (Steps1.cons (fun ax wx hS hG => ?_) (Steps1.cons (fun ax wx hS hG => ?_) (Steps1.cons (fun ax wx hS hG => ?_) (Steps1.cons (fun ax wx hS hG => ?_) (Steps1.cons (fun ax wx hS hG => ?_) (Steps1.cons (fun ax wx hS hG => ?_) (Steps1.cons (fun ax wx hS hG => ?_) (Steps1.cons (fun ax wx hS hG => ?_) (Steps1.cons (fun ax wx hS hG => ?_) (Steps1.cons (fun ax wx hS hG => ?_) (Steps1.cons (fun ax wx hS hG => ?_) (Steps1.cons (fun ax wx hS hG => ?_) (Steps1.cons (fun ax wx hS hG => ?_) (Steps1.cons (fun ax wx hS hG => ?_) (Steps1.cons (fun ax wx hS hG => ?_) (Steps1.cons (fun ax wx hS hG => ?_) (Steps1.cons (fun ax wx hS hG => ?_) Steps1.nil))))))))))))))))))))))))))))))))))))))))))))))))))))))))))))))))))
    · have q5 := (hG.old 5 (by kernel_rfl) (by kernel_rfl)).trans o5
      refine step_value (v := .int .i64 2) (w' := wx) rfl rfl ?_ (Below.refl _ _) (fun d hd => by cases hd; exact rfl)
      go_simp
    · obtain ⟨_, q173, rfl⟩ := hG.new 173 (by kernel_rfl) (by kernel_rfl)
      refine step_value (v := .bool false) (w' := wx) rfl rfl ?_ (Below.refl _ _) (fun d hd => by cases hd; exact rfl)
      go_simp
    · obtain ⟨_, q174, rfl⟩ := hG.new 174 (by kernel_rfl) (by kernel_rfl)
      refine step_value (v := .bool false) (w' := wx) rfl rfl ?_ (Below.refl _ _) (fun d hd => by cases hd; exact rfl)
      go_simp
    · obtain ⟨_, q175, rfl⟩ := hG.new 175 (by kernel_rfl) (by kernel_rfl)
      refine step_past rfl (by simp [Region.wanted, yielded, q175]) (Below.refl _ _) (fun d hd => by cases hd; exact rfl)
    · obtain ⟨_, q175, rfl⟩ := hG.new 175 (by kernel_rfl) (by kernel_rfl)
      refine step_past rfl (by simp [Region.wanted, yielded, q175]) (Below.refl _ _) (fun d hd => by cases hd; exact rfl)
    · obtain ⟨_, q175, rfl⟩ := hG.new 175 (by kernel_rfl) (by kernel_rfl)
      refine step_past rfl (by simp [Region.wanted, yielded, q175]) (Below.refl _ _) (fun d hd => by cases hd; exact rfl)
    · obtain ⟨_, q175, rfl⟩ := hG.new 175 (by kernel_rfl) (by kernel_rfl)
      refine step_past rfl (by simp [Region.wanted, yielded, q175]) (Below.refl _ _) (fun d hd => by cases hd; exact rfl)
    · obtain ⟨_, q179, rfl⟩ := hG.new 179 (by kernel_rfl) (by kernel_rfl)
      refine step_past rfl (by simp [Region.wanted, yielded, q179, undef]) (Below.refl _ _) (fun d hd => by cases hd; exact rfl)
    · obtain ⟨_, q179, rfl⟩ := hG.new 179 (by kernel_rfl) (by kernel_rfl)
      refine step_past rfl (by simp [Region.wanted, yielded, q179, undef]) (Below.refl _ _) (fun d hd => by cases hd; exact rfl)
    · obtain ⟨_, q179, rfl⟩ := hG.new 179 (by kernel_rfl) (by kernel_rfl)
      refine step_past rfl (by simp [Region.wanted, yielded, q179, undef]) (Below.refl _ _) (fun d hd => by cases hd; exact rfl)
    · obtain ⟨_, q179, rfl⟩ := hG.new 179 (by kernel_rfl) (by kernel_rfl)
      refine step_past rfl (by simp [Region.wanted, yielded, q179, undef]) (Below.refl _ _) (fun d hd => by cases hd; exact rfl)
    · obtain ⟨_, q175, rfl⟩ := hG.new 175 (by kernel_rfl) (by kernel_rfl)
      refine step_past rfl (by simp [Region.wanted, yielded, q175]) (Below.refl _ _) (fun d hd => by cases hd; exact rfl)
    · obtain ⟨_, q175, rfl⟩ := hG.new 175 (by kernel_rfl) (by kernel_rfl)
      refine step_past rfl (by simp [Region.wanted, yielded, q175]) (Below.refl _ _) (fun d hd => by cases hd; exact rfl)
    · obtain ⟨_, q185, rfl⟩ := hG.new 185 (by kernel_rfl) (by kernel_rfl)
      refine step_past rfl (by simp [Region.wanted, yielded, q185, undef]) (Below.refl _ _) (fun d hd => by cases hd; exact rfl)
    · obtain ⟨_, q185, rfl⟩ := hG.new 185 (by kernel_rfl) (by kernel_rfl)
      refine step_past rfl (by simp [Region.wanted, yielded, q185, undef]) (Below.refl _ _) (fun d hd => by cases hd; exact rfl)
    · obtain ⟨_, q185, rfl⟩ := hG.new 185 (by kernel_rfl) (by kernel_rfl)
      refine step_past rfl (by simp [Region.wanted, yielded, q185, undef]) (Below.refl _ _) (fun d hd => by cases hd; exact rfl)
    · obtain ⟨_, q185, rfl⟩ := hG.new 185 (by kernel_rfl) (by kernel_rfl)
      refine step_past rfl (by simp [Region.wanted, yielded, q185, undef]) (Below.refl _ _) (fun d hd => by cases hd; exact rfl)
    · obtain ⟨_, q185, rfl⟩ := hG.new 185 (by kernel_rfl) (by kernel_rfl)
      refine step_past rfl (by simp [Region.wanted, yielded, q185, undef]) (Below.refl _ _) (fun d hd => by cases hd; exact rfl)
    · obtain ⟨_, q185, rfl⟩ := hG.new 185 (by kernel_rfl) (by kernel_rfl)
      refine step_past rfl (by simp [Region.wanted, yielded, q185, undef]) (Below.refl _ _) (fun d hd => by cases hd; exact rfl)
    · obtain ⟨_, q175, rfl⟩ := hG.new 175 (by kernel_rfl) (by kernel_rfl)
      refine step_past rfl (by simp [Region.wanted, yielded, q175]) (Below.refl _ _) (fun d hd => by cases hd; exact rfl)
    · obtain ⟨_, q175, rfl⟩ := hG.new 175 (by kernel_rfl) (by kernel_rfl)
      obtain ⟨_, q192, rfl⟩ := hG.new 192 (by kernel_rfl) (by kernel_rfl)
      refine step_value (v := .bool false) (w' := wx) rfl rfl ?_ (Below.refl _ _) (fun d hd => by cases hd; exact rfl)
      go_simp
    · obtain ⟨_, q193, rfl⟩ := hG.new 193 (by kernel_rfl) (by kernel_rfl)
      refine step_value (v := .bool false) (w' := wx) rfl rfl ?_ (Below.refl _ _) (fun d hd => by cases hd; exact rfl)
      go_simp
    · have q8 := (hG.old 8 (by kernel_rfl) (by kernel_rfl)).trans o8
      obtain ⟨_, q194, rfl⟩ := hG.new 194 (by kernel_rfl) (by kernel_rfl)
      refine step_value (v := .int .i64 2) (w' := wx) rfl (by simp [Region.wanted, yielded, q194]) ?_ (Below.refl _ _) (fun d hd => by cases hd; exact rfl)
      go_simp
    · obtain ⟨_, q195, rfl⟩ := hG.new 195 (by kernel_rfl) (by kernel_rfl)
      obtain ⟨_, q194, rfl⟩ := hG.new 194 (by kernel_rfl) (by kernel_rfl)
      refine step_value (v := .bool false) (w' := wx) rfl (by simp [Region.wanted, yielded, q194]) ?_ (Below.refl _ _) (fun d hd => by cases hd; exact rfl)
      go_simp
    · obtain ⟨_, q196, rfl⟩ := hG.new 196 (by kernel_rfl) (by kernel_rfl)
      obtain ⟨_, q194, rfl⟩ := hG.new 194 (by kernel_rfl) (by kernel_rfl)
      refine step_value (v := .bool false) (w' := wx) rfl (by simp [Region.wanted, yielded, q194]) ?_ (Below.refl _ _) (fun d hd => by cases hd; exact rfl)
      go_simp
    · obtain ⟨_, q197, rfl⟩ := hG.new 197 (by kernel_rfl) (by kernel_rfl)
      refine step_past rfl (by simp [Region.wanted, yielded, q197]) (Below.refl _ _) (fun d hd => by cases hd; exact rfl)
    · obtain ⟨_, q197, rfl⟩ := hG.new 197 (by kernel_rfl) (by kernel_rfl)
      refine step_past rfl (by simp [Region.wanted, yielded, q197]) (Below.refl _ _) (fun d hd => by cases hd; exact rfl)
    · obtain ⟨_, q197, rfl⟩ := hG.new 197 (by kernel_rfl) (by kernel_rfl)
      refine step_past rfl (by simp [Region.wanted, yielded, q197]) (Below.refl _ _) (fun d hd => by cases hd; exact rfl)
    · obtain ⟨_, q197, rfl⟩ := hG.new 197 (by kernel_rfl) (by kernel_rfl)
      refine step_past rfl (by simp [Region.wanted, yielded, q197]) (Below.refl _ _) (fun d hd => by cases hd; exact rfl)
    · obtain ⟨_, q201, rfl⟩ := hG.new 201 (by kernel_rfl) (by kernel_rfl)
      refine step_past rfl (by simp [Region.wanted, yielded, q201, undef]) (Below.refl _ _) (fun d hd => by cases hd; exact rfl)
    · obtain ⟨_, q201, rfl⟩ := hG.new 201 (by kernel_rfl) (by kernel_rfl)
      refine step_past rfl (by simp [Region.wanted, yielded, q201, undef]) (Below.refl _ _) (fun d hd => by cases hd; exact rfl)
    · obtain ⟨_, q201, rfl⟩ := hG.new 201 (by kernel_rfl) (by kernel_rfl)
      refine step_past rfl (by simp [Region.wanted, yielded, q201, undef]) (Below.refl _ _) (fun d hd => by cases hd; exact rfl)
    · obtain ⟨_, q201, rfl⟩ := hG.new 201 (by kernel_rfl) (by kernel_rfl)
      refine step_past rfl (by simp [Region.wanted, yielded, q201, undef]) (Below.refl _ _) (fun d hd => by cases hd; exact rfl)
    · obtain ⟨_, q197, rfl⟩ := hG.new 197 (by kernel_rfl) (by kernel_rfl)
      refine step_past rfl (by simp [Region.wanted, yielded, q197]) (Below.refl _ _) (fun d hd => by cases hd; exact rfl)
    · obtain ⟨_, q197, rfl⟩ := hG.new 197 (by kernel_rfl) (by kernel_rfl)
      refine step_past rfl (by simp [Region.wanted, yielded, q197]) (Below.refl _ _) (fun d hd => by cases hd; exact rfl)
    · obtain ⟨_, q207, rfl⟩ := hG.new 207 (by kernel_rfl) (by kernel_rfl)
      refine step_past rfl (by simp [Region.wanted, yielded, q207, undef]) (Below.refl _ _) (fun d hd => by cases hd; exact rfl)
    · obtain ⟨_, q207, rfl⟩ := hG.new 207 (by kernel_rfl) (by kernel_rfl)
      refine step_past rfl (by simp [Region.wanted, yielded, q207, undef]) (Below.refl _ _) (fun d hd => by cases hd; exact rfl)
    · obtain ⟨_, q207, rfl⟩ := hG.new 207 (by kernel_rfl) (by kernel_rfl)
      refine step_past rfl (by simp [Region.wanted, yielded, q207, undef]) (Below.refl _ _) (fun d hd => by cases hd; exact rfl)
    · obtain ⟨_, q207, rfl⟩ := hG.new 207 (by kernel_rfl) (by kernel_rfl)
      refine step_past rfl (by simp [Region.wanted, yielded, q207, undef]) (Below.refl _ _) (fun d hd => by cases hd; exact rfl)
    · obtain ⟨_, q207, rfl⟩ := hG.new 207 (by kernel_rfl) (by kernel_rfl)
      refine step_past rfl (by simp [Region.wanted, yielded, q207, undef]) (Below.refl _ _) (fun d hd => by cases hd; exact rfl)
    · obtain ⟨_, q207, rfl⟩ := hG.new 207 (by kernel_rfl) (by kernel_rfl)
      refine step_past rfl (by simp [Region.wanted, yielded, q207, undef]) (Below.refl _ _) (fun d hd => by cases hd; exact rfl)
    · obtain ⟨_, q197, rfl⟩ := hG.new 197 (by kernel_rfl) (by kernel_rfl)
      refine step_past rfl (by simp [Region.wanted, yielded, q197]) (Below.refl _ _) (fun d hd => by cases hd; exact rfl)
    · obtain ⟨_, q197, rfl⟩ := hG.new 197 (by kernel_rfl) (by kernel_rfl)
      obtain ⟨_, q214, rfl⟩ := hG.new 214 (by kernel_rfl) (by kernel_rfl)
      obtain ⟨_, q194, rfl⟩ := hG.new 194 (by kernel_rfl) (by kernel_rfl)
      refine step_value (v := .bool false) (w' := wx) rfl (by simp [Region.wanted, yielded, q194]) ?_ (Below.refl _ _) (fun d hd => by cases hd; exact rfl)
      go_simp
    · obtain ⟨_, q194, rfl⟩ := hG.new 194 (by kernel_rfl) (by kernel_rfl)
      obtain ⟨_, q215, rfl⟩ := hG.new 215 (by kernel_rfl) (by kernel_rfl)
      refine step_value (v := .bool false) (w' := wx) rfl rfl ?_ (Below.refl _ _) (fun d hd => by cases hd; exact rfl)
      go_simp
    · obtain ⟨_, q216, rfl⟩ := hG.new 216 (by kernel_rfl) (by kernel_rfl)
      refine step_value (v := .bool false) (w' := wx) rfl rfl ?_ (Below.refl _ _) (fun d hd => by cases hd; exact rfl)
      go_simp
    · have q11 := (hG.old 11 (by kernel_rfl) (by kernel_rfl)).trans o11
      obtain ⟨_, q217, rfl⟩ := hG.new 217 (by kernel_rfl) (by kernel_rfl)
      refine step_value (v := .int .i64 2) (w' := wx) rfl (by simp [Region.wanted, yielded, q217]) ?_ (Below.refl _ _) (fun d hd => by cases hd; exact rfl)
      go_simp
    · obtain ⟨_, q218, rfl⟩ := hG.new 218 (by kernel_rfl) (by kernel_rfl)
      obtain ⟨_, q217, rfl⟩ := hG.new 217 (by kernel_rfl) (by kernel_rfl)
      refine step_value (v := .bool false) (w' := wx) rfl (by simp [Region.wanted, yielded, q217]) ?_ (Below.refl _ _) (fun d hd => by cases hd; exact rfl)
      go_simp
    · obtain ⟨_, q219, rfl⟩ := hG.new 219 (by kernel_rfl) (by kernel_rfl)
      obtain ⟨_, q217, rfl⟩ := hG.new 217 (by kernel_rfl) (by kernel_rfl)
      refine step_value (v := .bool false) (w' := wx) rfl (by simp [Region.wanted, yielded, q217]) ?_ (Below.refl _ _) (fun d hd => by cases hd; exact rfl)
      go_simp
    · obtain ⟨_, q220, rfl⟩ := hG.new 220 (by kernel_rfl) (by kernel_rfl)
      refine step_past rfl (by simp [Region.wanted, yielded, q220]) (Below.refl _ _) (fun d hd => by cases hd; exact rfl)
    · obtain ⟨_, q220, rfl⟩ := hG.new 220 (by kernel_rfl) (by kernel_rfl)
      refine step_past rfl (by simp [Region.wanted, yielded, q220]) (Below.refl _ _) (fun d hd => by cases hd; exact rfl)
    · obtain ⟨_, q220, rfl⟩ := hG.new 220 (by kernel_rfl) (by kernel_rfl)
      refine step_past rfl (by simp [Region.wanted, yielded, q220]) (Below.refl _ _) (fun d hd => by cases hd; exact rfl)
    · obtain ⟨_, q220, rfl⟩ := hG.new 220 (by kernel_rfl) (by kernel_rfl)
      refine step_past rfl (by simp [Region.wanted, yielded, q220]) (Below.refl _ _) (fun d hd => by cases hd; exact rfl)
    · obtain ⟨_, q224, rfl⟩ := hG.new 224 (by kernel_rfl) (by kernel_rfl)
      refine step_past rfl (by simp [Region.wanted, yielded, q224, undef]) (Below.refl _ _) (fun d hd => by cases hd; exact rfl)
    · obtain ⟨_, q224, rfl⟩ := hG.new 224 (by kernel_rfl) (by kernel_rfl)
      refine step_past rfl (by simp [Region.wanted, yielded, q224, undef]) (Below.refl _ _) (fun d hd => by cases hd; exact rfl)
    · obtain ⟨_, q224, rfl⟩ := hG.new 224 (by kernel_rfl) (by kernel_rfl)
      refine step_past rfl (by simp [Region.wanted, yielded, q224, undef]) (Below.refl _ _) (fun d hd => by cases hd; exact rfl)
    · obtain ⟨_, q224, rfl⟩ := hG.new 224 (by kernel_rfl) (by kernel_rfl)
      refine step_past rfl (by simp [Region.wanted, yielded, q224, undef]) (Below.refl _ _) (fun d hd => by cases hd; exact rfl)
    · obtain ⟨_, q220, rfl⟩ := hG.new 220 (by kernel_rfl) (by kernel_rfl)
      refine step_past rfl (by simp [Region.wanted, yielded, q220]) (Below.refl _ _) (fun d hd => by cases hd; exact rfl)
    · obtain ⟨_, q220, rfl⟩ := hG.new 220 (by kernel_rfl) (by kernel_rfl)
      refine step_past rfl (by simp [Region.wanted, yielded, q220]) (Below.refl _ _) (fun d hd => by cases hd; exact rfl)
    · obtain ⟨_, q230, rfl⟩ := hG.new 230 (by kernel_rfl) (by kernel_rfl)
      refine step_past rfl (by simp [Region.wanted, yielded, q230, undef]) (Below.refl _ _) (fun d hd => by cases hd; exact rfl)
    · obtain ⟨_, q230, rfl⟩ := hG.new 230 (by kernel_rfl) (by kernel_rfl)
      refine step_past rfl (by simp [Region.wanted, yielded, q230, undef]) (Below.refl _ _) (fun d hd => by cases hd; exact rfl)
    · obtain ⟨_, q230, rfl⟩ := hG.new 230 (by kernel_rfl) (by kernel_rfl)
      refine step_past rfl (by simp [Region.wanted, yielded, q230, undef]) (Below.refl _ _) (fun d hd => by cases hd; exact rfl)
    · obtain ⟨_, q230, rfl⟩ := hG.new 230 (by kernel_rfl) (by kernel_rfl)
      refine step_past rfl (by simp [Region.wanted, yielded, q230, undef]) (Below.refl _ _) (fun d hd => by cases hd; exact rfl)
    · obtain ⟨_, q230, rfl⟩ := hG.new 230 (by kernel_rfl) (by kernel_rfl)
      refine step_past rfl (by simp [Region.wanted, yielded, q230, undef]) (Below.refl _ _) (fun d hd => by cases hd; exact rfl)
    · obtain ⟨_, q230, rfl⟩ := hG.new 230 (by kernel_rfl) (by kernel_rfl)
      refine step_past rfl (by simp [Region.wanted, yielded, q230, undef]) (Below.refl _ _) (fun d hd => by cases hd; exact rfl)
    · obtain ⟨_, q220, rfl⟩ := hG.new 220 (by kernel_rfl) (by kernel_rfl)
      refine step_past rfl (by simp [Region.wanted, yielded, q220]) (Below.refl _ _) (fun d hd => by cases hd; exact rfl)
    · obtain ⟨_, q220, rfl⟩ := hG.new 220 (by kernel_rfl) (by kernel_rfl)
      obtain ⟨_, q237, rfl⟩ := hG.new 237 (by kernel_rfl) (by kernel_rfl)
      obtain ⟨_, q217, rfl⟩ := hG.new 217 (by kernel_rfl) (by kernel_rfl)
      refine step_value (v := .bool false) (w' := wx) rfl (by simp [Region.wanted, yielded, q217]) ?_ (Below.refl _ _) (fun d hd => by cases hd; exact rfl)
      go_simp
    · obtain ⟨_, q217, rfl⟩ := hG.new 217 (by kernel_rfl) (by kernel_rfl)
      obtain ⟨_, q238, rfl⟩ := hG.new 238 (by kernel_rfl) (by kernel_rfl)
      refine step_value (v := .bool false) (w' := wx) rfl rfl ?_ (Below.refl _ _) (fun d hd => by cases hd; exact rfl)
      go_simp
  intro fv wf hSf hV8
  have e239 : fv 239 = .bool false := hV8 239 (by decide)
  exact done fv wf hSf e239

def TkV001 (gG k : Nat) (adC : Addr) (nC cC : Nat) (cs : Int) (ck cb ca : ByteArray) (ch cg : Bool) (t : Nat) (v : Value) (w : World) : Prop :=
  match t with
  | 173 => v = .int .i64 2
  | 174 => v = .bool false
  | 175 => v = .bool false
  | 176 => v = undef
  | 177 => v = undef
  | 178 => v = undef
  | 179 => v = undef
  | 180 => v = undef
  | 181 => v = undef
  | 182 => v = undef
  | 183 => v = undef
  | 184 => v = undef
  | 185 => v = undef
  | 186 => v = undef
  | 187 => v = undef
  | 188 => v = undef
  | 189 => v = undef
  | 190 => v = undef
  | 191 => v = undef
  | 192 => v = undef
  | 193 => v = .bool false
  | 194 => v = .bool false
  | 195 => v = .int .i64 2
  | 196 => v = .bool false
  | 197 => v = .bool false
  | 198 => v = undef
  | 199 => v = undef
  | 200 => v = undef
  | 201 => v = undef
  | 202 => v = undef
  | 203 => v = undef
  | 204 => v = undef
  | 205 => v = undef
  | 206 => v = undef
  | 207 => v = undef
  | 208 => v = undef
  | 209 => v = undef
  | 210 => v = undef
  | 211 => v = undef
  | 212 => v = undef
  | 213 => v = undef
  | 214 => v = undef
  | 215 => v = .bool false
  | 216 => v = .bool false
  | 217 => v = .bool false
  | 218 => v = .int .i64 0
  | 219 => v = .bool true
  | 220 => v = .bool true
  | 221 => v = .pointer (some ⟨gG, 2, none⟩)
  | 222 => v = .bool true
  | 223 => v = .bool false
  | 224 => v = .bool false
  | 225 => v = .int .i64 (k : Int)
  | 226 => v = .slice (some adC) nC cC
  | 227 => v = .int .i64 (nC : Int)
  | 228 => v = .bool false
  | 229 => v = .bool false
  | 230 => v = .bool false
  | 231 => v = .slice (some adC) nC cC
  | 232 => v = .int .i64 (k : Int)
  | 233 => v = .pointer (some (adC.add (k * 6)))
  | 234 => v = .agg #[.int .i64 cs, .string ck, .bool ch, .string cb, .bool cg, .string ca]
  | 235 => v = .agg #[.int .i64 cs, .string ck, .bool ch, .string cb, .bool cg, .string ca]
  | 236 => v = .bool false
  | 237 => v = .bool false
  | 238 => v = .bool false
  | 239 => v = .bool false
  | _ => True
theorem TkV001.on {gG k : Nat} {adC : Addr} {nC cC : Nat} {cs : Int} {ck cb ca : ByteArray} {ch cg : Bool} {t : Nat} {v : Value} {w w' : World} (h : TkV001 gG k adC nC cC cs ck cb ca ch cg t v w) (hb : Below w.heap.size w w') : TkV001 gG k adC nC cC cs ck cb ca ch cg t v w' := by
  unfold TkV001 at *
  split at h <;> first | exact h | exact h

set_option maxRecDepth 100000 in
set_option maxHeartbeats 4000000 in
theorem tk28_001 (gG k : Nat) (adC : Addr) (nC cC : Nat) (cs : Int) (ck cb ca : ByteArray) (ch cg : Bool) (a0 : Act) (w0 : World) (Q : Exit → Act → World → Prop) (hsz : a0.tmps.size = 315) (o21 : a0.tmps[21]? = some (.pointer (some ⟨gG, 0, none⟩))) (o23 : a0.tmps[23]? = some (.int .i64 (k : Int))) (o5 : a0.tmps[5]? = some (.int .i64 2)) (o8 : a0.tmps[8]? = some (.int .i64 2)) (o11 : a0.tmps[11]? = some (.int .i64 0)) (gxC : Nat) (o9 : a0.tmps[9]? = some (.slice (some adC) nC cC)) (o28 : a0.tmps[28]? = some (.pointer (some ⟨gxC, 0, none⟩))) (HLTC : Hid (k < nC)) (HGEC : Hid (decide ((nC : Int) ≤ (k : Int)) = false)) (HGFC : Hid (decide (nC ≤ k) = false)) (HGC : Hid (∀ wx, Below w0.heap.size w0 wx → wx.cell? ⟨gG, 2, none⟩ = some (.bool true))) (HVC : Hid (∀ wx, Below w0.heap.size w0 wx → wx.cell? (adC.add (k * 6)) = some (.int .i64 cs) ∧ wx.cell? ⟨(adC.add (k * 6)).block, (adC.add (k * 6)).off + 1, none⟩ = some (.string ck) ∧ wx.cell? ⟨(adC.add (k * 6)).block, (adC.add (k * 6)).off + 2, none⟩ = some (.bool ch) ∧ wx.cell? ⟨(adC.add (k * 6)).block, (adC.add (k * 6)).off + 3, none⟩ = some (.string cb) ∧ wx.cell? ⟨(adC.add (k * 6)).block, (adC.add (k * 6)).off + 4, none⟩ = some (.bool cg) ∧ wx.cell? ⟨(adC.add (k * 6)).block, (adC.add (k * 6)).off + 5, none⟩ = some (.string ca))) (HXC : Hid (∀ wx, Below w0.heap.size w0 wx → wx.cell? ⟨gxC, 0, none⟩ = some (.int .i64 cs) ∧ wx.cell? ⟨gxC, 1, none⟩ = some (.string ck) ∧ wx.cell? ⟨gxC, 2, none⟩ = some (.bool ch) ∧ wx.cell? ⟨gxC, 3, none⟩ = some (.string cb) ∧ wx.cell? ⟨gxC, 4, none⟩ = some (.bool cg) ∧ wx.cell? ⟨gxC, 5, none⟩ = some (.string ca)))
    (done : ∀ (fv : Nat → Value) (wf : World), Below w0.heap.size w0 wf → fv 239 = .bool false → Q .normal (puts a0 [173, 174, 175, 176, 177, 178, 179, 180, 181, 182, 183, 184, 185, 186, 187, 188, 189, 190, 191, 192, 193, 194, 195, 196, 197, 198, 199, 200, 201, 202, 203, 204, 205, 206, 207, 208, 209, 210, 211, 212, 213, 214, 215, 216, 217, 218, 219, 220, 221, 222, 223, 224, 225, 226, 227, 228, 229, 230, 231, 232, 233, 234, 235, 236, 237, 238, 239] fv) wf) : Code.wp Try.prog rg28 Q a0 w0 := by
  unfold rg28
  conv => arg 2; whnf
  refine wp_region_inv [173, 174, 175, 176, 177, 178, 179, 180, 181, 182, 183, 184, 185, 186, 187, 188, 189, 190, 191, 192, 193, 194, 195, 196, 197, 198, 199, 200, 201, 202, 203, 204, 205, 206, 207, 208, 209, 210, 211, 212, 213, 214, 215, 216, 217, 218, 219, 220, 221, 222, 223, 224, 225, 226, 227, 228, 229, 230, 231, 232, 233, 234, 235, 236, 237, 238, 239] (by kernel_rfl) (by kernel_rfl) (fun w' => Below w0.heap.size w0 w') (fun wa wb => Below wa.heap.size wa wb) (TkV001 gG k adC nC cC cs ck cb ca ch cg) (by rw [hsz]; kernel_rfl) (fun wa wb h1 h2 => h2.trans (h1.mono h2.size)) (fun t v wa wb h1 h2 => h2.on h1) (Below.refl _ _).drew (steps_of ?_) ?_
  · skip
    refine Steps1.cons (fun ax wx hS hG => ?_) (Steps1.cons (fun ax wx hS hG => ?_) (Steps1.cons (fun ax wx hS hG => ?_) (Steps1.cons (fun ax wx hS hG => ?_) (Steps1.cons (fun ax wx hS hG => ?_) (Steps1.cons (fun ax wx hS hG => ?_) (Steps1.cons (fun ax wx hS hG => ?_) (Steps1.cons (fun ax wx hS hG => ?_) (Steps1.cons (fun ax wx hS hG => ?_) (Steps1.cons (fun ax wx hS hG => ?_) (Steps1.cons (fun ax wx hS hG => ?_) (Steps1.cons (fun ax wx hS hG => ?_) (Steps1.cons (fun ax wx hS hG => ?_) (Steps1.cons (fun ax wx hS hG => ?_) (Steps1.cons (fun ax wx hS hG => ?_) (Steps1.cons (fun ax wx hS hG => ?_) (Steps1.cons (fun ax wx hS hG => ?_) (Steps1.cons (fun ax wx hS hG => ?_) (Steps1.cons (fun ax wx hS hG => ?_) (Steps1.cons (fun ax wx hS hG => ?_) (Steps1.cons (fun ax wx hS hG => ?_) (Steps1.cons (fun ax wx hS hG => ?_) (Steps1.cons (fun ax wx hS hG => ?_) (Steps1.cons (fun ax wx hS hG => ?_) (Steps1.cons (fun ax wx hS hG => ?_) (Steps1.cons (fun ax wx hS hG => ?_) (Steps1.cons (fun ax wx hS hG => ?_) (Steps1.cons (fun ax wx hS hG => ?_) (Steps1.cons (fun ax wx hS hG => ?_) (Steps1.cons (fun ax wx hS hG => ?_) (Steps1.cons (fun ax wx hS hG => ?_) (Steps1.cons (fun ax wx hS hG => ?_) (Steps1.cons (fun ax wx hS hG => ?_) (Steps1.cons (fun ax wx hS hG => ?_) (Steps1.cons (fun ax wx hS hG => ?_) (Steps1.cons (fun ax wx hS hG => ?_) (Steps1.cons (fun ax wx hS hG => ?_) (Steps1.cons (fun ax wx hS hG => ?_) (Steps1.cons (fun ax wx hS hG => ?_) (Steps1.cons (fun ax wx hS hG => ?_) (Steps1.cons (fun ax wx hS hG => ?_) (Steps1.cons (fun ax wx hS hG => ?_) (Steps1.cons (fun ax wx hS hG => ?_) (Steps1.cons (fun ax wx hS hG => ?_) (Steps1.cons (fun ax wx hS hG => ?_) (Steps1.cons (fun ax wx hS hG => ?_) (Steps1.cons (fun ax wx hS hG => ?_) (Steps1.cons (fun ax wx hS hG => ?_) (Steps1.cons (fun ax wx hS hG => ?_) (Steps1.cons (fun ax wx hS hG => ?_) (Steps1.cons (fun ax wx hS hG => ?_) (Steps1.cons (fun ax wx hS hG => ?_) (Steps1.cons (fun ax wx hS hG => ?_) (Steps1.cons (fun ax wx hS hG => ?_) (Steps1.cons (fun ax wx hS hG => ?_) (Steps1.cons (fun ax wx hS hG => ?_) (Steps1.cons (fun ax wx hS hG => ?_) (Steps1.cons (fun ax wx hS hG => ?_) (Steps1.cons (fun ax wx hS hG => ?_) (Steps1.cons (fun ax wx hS hG => ?_) (Steps1.cons (fun ax wx hS hG => ?_) (Steps1.cons (fun ax wx hS hG => ?_) (Steps1.cons (fun ax wx hS hG => ?_) (Steps1.cons (fun ax wx hS hG => ?_) (Steps1.cons (fun ax wx hS hG => ?_) (Steps1.cons (fun ax wx hS hG => ?_) (Steps1.cons (fun ax wx hS hG => ?_) Steps1.nil))))))))))))))))))))))))))))))))))))))))))))))))))))))))))))))))))
    · have q5 := (hG.old 5 (by kernel_rfl) (by kernel_rfl)).trans o5
      refine step_value (v := .int .i64 2) (w' := wx) rfl rfl ?_ (Below.refl _ _) (fun d hd => by cases hd; exact rfl)
      go_simp
    · obtain ⟨_, q173, rfl⟩ := hG.new 173 (by kernel_rfl) (by kernel_rfl)
      refine step_value (v := .bool false) (w' := wx) rfl rfl ?_ (Below.refl _ _) (fun d hd => by cases hd; exact rfl)
      go_simp
    · obtain ⟨_, q174, rfl⟩ := hG.new 174 (by kernel_rfl) (by kernel_rfl)
      refine step_value (v := .bool false) (w' := wx) rfl rfl ?_ (Below.refl _ _) (fun d hd => by cases hd; exact rfl)
      go_simp
    · obtain ⟨_, q175, rfl⟩ := hG.new 175 (by kernel_rfl) (by kernel_rfl)
      refine step_past rfl (by simp [Region.wanted, yielded, q175]) (Below.refl _ _) (fun d hd => by cases hd; exact rfl)
    · obtain ⟨_, q175, rfl⟩ := hG.new 175 (by kernel_rfl) (by kernel_rfl)
      refine step_past rfl (by simp [Region.wanted, yielded, q175]) (Below.refl _ _) (fun d hd => by cases hd; exact rfl)
    · obtain ⟨_, q175, rfl⟩ := hG.new 175 (by kernel_rfl) (by kernel_rfl)
      refine step_past rfl (by simp [Region.wanted, yielded, q175]) (Below.refl _ _) (fun d hd => by cases hd; exact rfl)
    · obtain ⟨_, q175, rfl⟩ := hG.new 175 (by kernel_rfl) (by kernel_rfl)
      refine step_past rfl (by simp [Region.wanted, yielded, q175]) (Below.refl _ _) (fun d hd => by cases hd; exact rfl)
    · obtain ⟨_, q179, rfl⟩ := hG.new 179 (by kernel_rfl) (by kernel_rfl)
      refine step_past rfl (by simp [Region.wanted, yielded, q179, undef]) (Below.refl _ _) (fun d hd => by cases hd; exact rfl)
    · obtain ⟨_, q179, rfl⟩ := hG.new 179 (by kernel_rfl) (by kernel_rfl)
      refine step_past rfl (by simp [Region.wanted, yielded, q179, undef]) (Below.refl _ _) (fun d hd => by cases hd; exact rfl)
    · obtain ⟨_, q179, rfl⟩ := hG.new 179 (by kernel_rfl) (by kernel_rfl)
      refine step_past rfl (by simp [Region.wanted, yielded, q179, undef]) (Below.refl _ _) (fun d hd => by cases hd; exact rfl)
    · obtain ⟨_, q179, rfl⟩ := hG.new 179 (by kernel_rfl) (by kernel_rfl)
      refine step_past rfl (by simp [Region.wanted, yielded, q179, undef]) (Below.refl _ _) (fun d hd => by cases hd; exact rfl)
    · obtain ⟨_, q175, rfl⟩ := hG.new 175 (by kernel_rfl) (by kernel_rfl)
      refine step_past rfl (by simp [Region.wanted, yielded, q175]) (Below.refl _ _) (fun d hd => by cases hd; exact rfl)
    · obtain ⟨_, q175, rfl⟩ := hG.new 175 (by kernel_rfl) (by kernel_rfl)
      refine step_past rfl (by simp [Region.wanted, yielded, q175]) (Below.refl _ _) (fun d hd => by cases hd; exact rfl)
    · obtain ⟨_, q185, rfl⟩ := hG.new 185 (by kernel_rfl) (by kernel_rfl)
      refine step_past rfl (by simp [Region.wanted, yielded, q185, undef]) (Below.refl _ _) (fun d hd => by cases hd; exact rfl)
    · obtain ⟨_, q185, rfl⟩ := hG.new 185 (by kernel_rfl) (by kernel_rfl)
      refine step_past rfl (by simp [Region.wanted, yielded, q185, undef]) (Below.refl _ _) (fun d hd => by cases hd; exact rfl)
    · obtain ⟨_, q185, rfl⟩ := hG.new 185 (by kernel_rfl) (by kernel_rfl)
      refine step_past rfl (by simp [Region.wanted, yielded, q185, undef]) (Below.refl _ _) (fun d hd => by cases hd; exact rfl)
    · obtain ⟨_, q185, rfl⟩ := hG.new 185 (by kernel_rfl) (by kernel_rfl)
      refine step_past rfl (by simp [Region.wanted, yielded, q185, undef]) (Below.refl _ _) (fun d hd => by cases hd; exact rfl)
    · obtain ⟨_, q185, rfl⟩ := hG.new 185 (by kernel_rfl) (by kernel_rfl)
      refine step_past rfl (by simp [Region.wanted, yielded, q185, undef]) (Below.refl _ _) (fun d hd => by cases hd; exact rfl)
    · obtain ⟨_, q185, rfl⟩ := hG.new 185 (by kernel_rfl) (by kernel_rfl)
      refine step_past rfl (by simp [Region.wanted, yielded, q185, undef]) (Below.refl _ _) (fun d hd => by cases hd; exact rfl)
    · obtain ⟨_, q175, rfl⟩ := hG.new 175 (by kernel_rfl) (by kernel_rfl)
      refine step_past rfl (by simp [Region.wanted, yielded, q175]) (Below.refl _ _) (fun d hd => by cases hd; exact rfl)
    · obtain ⟨_, q175, rfl⟩ := hG.new 175 (by kernel_rfl) (by kernel_rfl)
      obtain ⟨_, q192, rfl⟩ := hG.new 192 (by kernel_rfl) (by kernel_rfl)
      refine step_value (v := .bool false) (w' := wx) rfl rfl ?_ (Below.refl _ _) (fun d hd => by cases hd; exact rfl)
      go_simp
    · obtain ⟨_, q193, rfl⟩ := hG.new 193 (by kernel_rfl) (by kernel_rfl)
      refine step_value (v := .bool false) (w' := wx) rfl rfl ?_ (Below.refl _ _) (fun d hd => by cases hd; exact rfl)
      go_simp
    · have q8 := (hG.old 8 (by kernel_rfl) (by kernel_rfl)).trans o8
      obtain ⟨_, q194, rfl⟩ := hG.new 194 (by kernel_rfl) (by kernel_rfl)
      refine step_value (v := .int .i64 2) (w' := wx) rfl (by simp [Region.wanted, yielded, q194]) ?_ (Below.refl _ _) (fun d hd => by cases hd; exact rfl)
      go_simp
    · obtain ⟨_, q195, rfl⟩ := hG.new 195 (by kernel_rfl) (by kernel_rfl)
      obtain ⟨_, q194, rfl⟩ := hG.new 194 (by kernel_rfl) (by kernel_rfl)
      refine step_value (v := .bool false) (w' := wx) rfl (by simp [Region.wanted, yielded, q194]) ?_ (Below.refl _ _) (fun d hd => by cases hd; exact rfl)
      go_simp
    · obtain ⟨_, q196, rfl⟩ := hG.new 196 (by kernel_rfl) (by kernel_rfl)
      obtain ⟨_, q194, rfl⟩ := hG.new 194 (by kernel_rfl) (by kernel_rfl)
      refine step_value (v := .bool false) (w' := wx) rfl (by simp [Region.wanted, yielded, q194]) ?_ (Below.refl _ _) (fun d hd => by cases hd; exact rfl)
      go_simp
    · obtain ⟨_, q197, rfl⟩ := hG.new 197 (by kernel_rfl) (by kernel_rfl)
      refine step_past rfl (by simp [Region.wanted, yielded, q197]) (Below.refl _ _) (fun d hd => by cases hd; exact rfl)
    · obtain ⟨_, q197, rfl⟩ := hG.new 197 (by kernel_rfl) (by kernel_rfl)
      refine step_past rfl (by simp [Region.wanted, yielded, q197]) (Below.refl _ _) (fun d hd => by cases hd; exact rfl)
    · obtain ⟨_, q197, rfl⟩ := hG.new 197 (by kernel_rfl) (by kernel_rfl)
      refine step_past rfl (by simp [Region.wanted, yielded, q197]) (Below.refl _ _) (fun d hd => by cases hd; exact rfl)
    · obtain ⟨_, q197, rfl⟩ := hG.new 197 (by kernel_rfl) (by kernel_rfl)
      refine step_past rfl (by simp [Region.wanted, yielded, q197]) (Below.refl _ _) (fun d hd => by cases hd; exact rfl)
    · obtain ⟨_, q201, rfl⟩ := hG.new 201 (by kernel_rfl) (by kernel_rfl)
      refine step_past rfl (by simp [Region.wanted, yielded, q201, undef]) (Below.refl _ _) (fun d hd => by cases hd; exact rfl)
    · obtain ⟨_, q201, rfl⟩ := hG.new 201 (by kernel_rfl) (by kernel_rfl)
      refine step_past rfl (by simp [Region.wanted, yielded, q201, undef]) (Below.refl _ _) (fun d hd => by cases hd; exact rfl)
    · obtain ⟨_, q201, rfl⟩ := hG.new 201 (by kernel_rfl) (by kernel_rfl)
      refine step_past rfl (by simp [Region.wanted, yielded, q201, undef]) (Below.refl _ _) (fun d hd => by cases hd; exact rfl)
    · obtain ⟨_, q201, rfl⟩ := hG.new 201 (by kernel_rfl) (by kernel_rfl)
      refine step_past rfl (by simp [Region.wanted, yielded, q201, undef]) (Below.refl _ _) (fun d hd => by cases hd; exact rfl)
    · obtain ⟨_, q197, rfl⟩ := hG.new 197 (by kernel_rfl) (by kernel_rfl)
      refine step_past rfl (by simp [Region.wanted, yielded, q197]) (Below.refl _ _) (fun d hd => by cases hd; exact rfl)
    · obtain ⟨_, q197, rfl⟩ := hG.new 197 (by kernel_rfl) (by kernel_rfl)
      refine step_past rfl (by simp [Region.wanted, yielded, q197]) (Below.refl _ _) (fun d hd => by cases hd; exact rfl)
    · obtain ⟨_, q207, rfl⟩ := hG.new 207 (by kernel_rfl) (by kernel_rfl)
      refine step_past rfl (by simp [Region.wanted, yielded, q207, undef]) (Below.refl _ _) (fun d hd => by cases hd; exact rfl)
    · obtain ⟨_, q207, rfl⟩ := hG.new 207 (by kernel_rfl) (by kernel_rfl)
      refine step_past rfl (by simp [Region.wanted, yielded, q207, undef]) (Below.refl _ _) (fun d hd => by cases hd; exact rfl)
    · obtain ⟨_, q207, rfl⟩ := hG.new 207 (by kernel_rfl) (by kernel_rfl)
      refine step_past rfl (by simp [Region.wanted, yielded, q207, undef]) (Below.refl _ _) (fun d hd => by cases hd; exact rfl)
    · obtain ⟨_, q207, rfl⟩ := hG.new 207 (by kernel_rfl) (by kernel_rfl)
      refine step_past rfl (by simp [Region.wanted, yielded, q207, undef]) (Below.refl _ _) (fun d hd => by cases hd; exact rfl)
    · obtain ⟨_, q207, rfl⟩ := hG.new 207 (by kernel_rfl) (by kernel_rfl)
      refine step_past rfl (by simp [Region.wanted, yielded, q207, undef]) (Below.refl _ _) (fun d hd => by cases hd; exact rfl)
    · obtain ⟨_, q207, rfl⟩ := hG.new 207 (by kernel_rfl) (by kernel_rfl)
      refine step_past rfl (by simp [Region.wanted, yielded, q207, undef]) (Below.refl _ _) (fun d hd => by cases hd; exact rfl)
    · obtain ⟨_, q197, rfl⟩ := hG.new 197 (by kernel_rfl) (by kernel_rfl)
      refine step_past rfl (by simp [Region.wanted, yielded, q197]) (Below.refl _ _) (fun d hd => by cases hd; exact rfl)
    · obtain ⟨_, q197, rfl⟩ := hG.new 197 (by kernel_rfl) (by kernel_rfl)
      obtain ⟨_, q214, rfl⟩ := hG.new 214 (by kernel_rfl) (by kernel_rfl)
      obtain ⟨_, q194, rfl⟩ := hG.new 194 (by kernel_rfl) (by kernel_rfl)
      refine step_value (v := .bool false) (w' := wx) rfl (by simp [Region.wanted, yielded, q194]) ?_ (Below.refl _ _) (fun d hd => by cases hd; exact rfl)
      go_simp
    · obtain ⟨_, q194, rfl⟩ := hG.new 194 (by kernel_rfl) (by kernel_rfl)
      obtain ⟨_, q215, rfl⟩ := hG.new 215 (by kernel_rfl) (by kernel_rfl)
      refine step_value (v := .bool false) (w' := wx) rfl rfl ?_ (Below.refl _ _) (fun d hd => by cases hd; exact rfl)
      go_simp
    · obtain ⟨_, q216, rfl⟩ := hG.new 216 (by kernel_rfl) (by kernel_rfl)
      refine step_value (v := .bool false) (w' := wx) rfl rfl ?_ (Below.refl _ _) (fun d hd => by cases hd; exact rfl)
      go_simp
    · have q11 := (hG.old 11 (by kernel_rfl) (by kernel_rfl)).trans o11
      obtain ⟨_, q217, rfl⟩ := hG.new 217 (by kernel_rfl) (by kernel_rfl)
      refine step_value (v := .int .i64 0) (w' := wx) rfl (by simp [Region.wanted, yielded, q217]) ?_ (Below.refl _ _) (fun d hd => by cases hd; exact rfl)
      go_simp
    · obtain ⟨_, q218, rfl⟩ := hG.new 218 (by kernel_rfl) (by kernel_rfl)
      obtain ⟨_, q217, rfl⟩ := hG.new 217 (by kernel_rfl) (by kernel_rfl)
      refine step_value (v := .bool true) (w' := wx) rfl (by simp [Region.wanted, yielded, q217]) ?_ (Below.refl _ _) (fun d hd => by cases hd; exact rfl)
      go_simp
    · obtain ⟨_, q219, rfl⟩ := hG.new 219 (by kernel_rfl) (by kernel_rfl)
      obtain ⟨_, q217, rfl⟩ := hG.new 217 (by kernel_rfl) (by kernel_rfl)
      refine step_value (v := .bool true) (w' := wx) rfl (by simp [Region.wanted, yielded, q217]) ?_ (Below.refl _ _) (fun d hd => by cases hd; exact rfl)
      go_simp
    · have q21 := (hG.old 21 (by kernel_rfl) (by kernel_rfl)).trans o21
      obtain ⟨_, q220, rfl⟩ := hG.new 220 (by kernel_rfl) (by kernel_rfl)
      refine step_value (v := .pointer (some ⟨gG, 2, none⟩)) (w' := wx) rfl (by simp [Region.wanted, yielded, q220]) ?_ (Below.refl _ _) (fun d hd => by cases hd; exact rfl)
      go_simp
    · obtain ⟨_, q221, rfl⟩ := hG.new 221 (by kernel_rfl) (by kernel_rfl)
      obtain ⟨_, q220, rfl⟩ := hG.new 220 (by kernel_rfl) (by kernel_rfl)
      have z0 := HGC.out wx hS
      refine step_value (v := .bool true) (w' := wx) rfl (by simp [Region.wanted, yielded, q220]) ?_ (Below.refl _ _) (fun d hd => by cases hd; exact rfl)
      go_simp
    · obtain ⟨_, q222, rfl⟩ := hG.new 222 (by kernel_rfl) (by kernel_rfl)
      obtain ⟨_, q220, rfl⟩ := hG.new 220 (by kernel_rfl) (by kernel_rfl)
      refine step_value (v := .bool false) (w' := wx) rfl (by simp [Region.wanted, yielded, q220]) ?_ (Below.refl _ _) (fun d hd => by cases hd; exact rfl)
      go_simp
    · obtain ⟨_, q223, rfl⟩ := hG.new 223 (by kernel_rfl) (by kernel_rfl)
      obtain ⟨_, q220, rfl⟩ := hG.new 220 (by kernel_rfl) (by kernel_rfl)
      refine step_value (v := .bool false) (w' := wx) rfl (by simp [Region.wanted, yielded, q220]) ?_ (Below.refl _ _) (fun d hd => by cases hd; exact rfl)
      go_simp
    · have q23 := (hG.old 23 (by kernel_rfl) (by kernel_rfl)).trans o23
      obtain ⟨_, q224, rfl⟩ := hG.new 224 (by kernel_rfl) (by kernel_rfl)
      refine step_value (v := .int .i64 (k : Int)) (w' := wx) rfl (by simp [Region.wanted, yielded, q224]) ?_ (Below.refl _ _) (fun d hd => by cases hd; exact rfl)
      go_simp
    · have q9 := (hG.old 9 (by kernel_rfl) (by kernel_rfl)).trans o9
      obtain ⟨_, q224, rfl⟩ := hG.new 224 (by kernel_rfl) (by kernel_rfl)
      refine step_value (v := .slice (some adC) nC cC) (w' := wx) rfl (by simp [Region.wanted, yielded, q224]) ?_ (Below.refl _ _) (fun d hd => by cases hd; exact rfl)
      go_simp
    · obtain ⟨_, q226, rfl⟩ := hG.new 226 (by kernel_rfl) (by kernel_rfl)
      obtain ⟨_, q224, rfl⟩ := hG.new 224 (by kernel_rfl) (by kernel_rfl)
      refine step_value (v := .int .i64 (nC : Int)) (w' := wx) rfl (by simp [Region.wanted, yielded, q224]) ?_ (Below.refl _ _) (fun d hd => by cases hd; exact rfl)
      go_simp
    · obtain ⟨_, q225, rfl⟩ := hG.new 225 (by kernel_rfl) (by kernel_rfl)
      obtain ⟨_, q227, rfl⟩ := hG.new 227 (by kernel_rfl) (by kernel_rfl)
      obtain ⟨_, q224, rfl⟩ := hG.new 224 (by kernel_rfl) (by kernel_rfl)
      refine step_value (v := .bool false) (w' := wx) rfl (by simp [Region.wanted, yielded, q224]) ?_ (Below.refl _ _) (fun d hd => by cases hd; exact rfl)
      have hq := HLTC.out
      have hq1 := HGEC.out
      have hq2 := HGFC.out
      go_simp
    · obtain ⟨_, q224, rfl⟩ := hG.new 224 (by kernel_rfl) (by kernel_rfl)
      obtain ⟨_, q228, rfl⟩ := hG.new 228 (by kernel_rfl) (by kernel_rfl)
      obtain ⟨_, q220, rfl⟩ := hG.new 220 (by kernel_rfl) (by kernel_rfl)
      refine step_value (v := .bool false) (w' := wx) rfl (by simp [Region.wanted, yielded, q220]) ?_ (Below.refl _ _) (fun d hd => by cases hd; exact rfl)
      go_simp
    · obtain ⟨_, q229, rfl⟩ := hG.new 229 (by kernel_rfl) (by kernel_rfl)
      obtain ⟨_, q220, rfl⟩ := hG.new 220 (by kernel_rfl) (by kernel_rfl)
      refine step_value (v := .bool false) (w' := wx) rfl (by simp [Region.wanted, yielded, q220]) ?_ (Below.refl _ _) (fun d hd => by cases hd; exact rfl)
      go_simp
    · have q9 := (hG.old 9 (by kernel_rfl) (by kernel_rfl)).trans o9
      obtain ⟨_, q230, rfl⟩ := hG.new 230 (by kernel_rfl) (by kernel_rfl)
      refine step_value (v := .slice (some adC) nC cC) (w' := wx) rfl (by simp [Region.wanted, yielded, q230]) ?_ (Below.refl _ _) (fun d hd => by cases hd; exact rfl)
      go_simp
    · have q23 := (hG.old 23 (by kernel_rfl) (by kernel_rfl)).trans o23
      obtain ⟨_, q230, rfl⟩ := hG.new 230 (by kernel_rfl) (by kernel_rfl)
      refine step_value (v := .int .i64 (k : Int)) (w' := wx) rfl (by simp [Region.wanted, yielded, q230]) ?_ (Below.refl _ _) (fun d hd => by cases hd; exact rfl)
      go_simp
    · obtain ⟨_, q231, rfl⟩ := hG.new 231 (by kernel_rfl) (by kernel_rfl)
      obtain ⟨_, q232, rfl⟩ := hG.new 232 (by kernel_rfl) (by kernel_rfl)
      obtain ⟨_, q230, rfl⟩ := hG.new 230 (by kernel_rfl) (by kernel_rfl)
      refine step_value (v := .pointer (some (adC.add (k * 6)))) (w' := wx) rfl (by simp [Region.wanted, yielded, q230]) ?_ (Below.refl _ _) (fun d hd => by cases hd; exact rfl)
      have hq := HLTC.out
      go_simp
    · obtain ⟨_, q233, rfl⟩ := hG.new 233 (by kernel_rfl) (by kernel_rfl)
      obtain ⟨_, q230, rfl⟩ := hG.new 230 (by kernel_rfl) (by kernel_rfl)
      obtain ⟨z0, z1, z2, z3, z4, z5⟩ := HVC.out wx hS
      refine step_value (v := .agg #[.int .i64 cs, .string ck, .bool ch, .string cb, .bool cg, .string ca]) (w' := wx) rfl (by simp [Region.wanted, yielded, q230]) ?_ (Below.refl _ _) (fun d hd => by cases hd; exact rfl)
      go_simp
    · have q28 := (hG.old 28 (by kernel_rfl) (by kernel_rfl)).trans o28
      obtain ⟨_, q230, rfl⟩ := hG.new 230 (by kernel_rfl) (by kernel_rfl)
      obtain ⟨z0, z1, z2, z3, z4, z5⟩ := HXC.out wx hS
      refine step_value (v := .agg #[.int .i64 cs, .string ck, .bool ch, .string cb, .bool cg, .string ca]) (w' := wx) rfl (by simp [Region.wanted, yielded, q230]) ?_ (Below.refl _ _) (fun d hd => by cases hd; exact rfl)
      go_simp
    · obtain ⟨_, q234, rfl⟩ := hG.new 234 (by kernel_rfl) (by kernel_rfl)
      obtain ⟨_, q235, rfl⟩ := hG.new 235 (by kernel_rfl) (by kernel_rfl)
      obtain ⟨_, q230, rfl⟩ := hG.new 230 (by kernel_rfl) (by kernel_rfl)
      refine step_value (v := .bool false) (w' := wx) rfl (by simp [Region.wanted, yielded, q230]) ?_ (Below.refl _ _) (fun d hd => by cases hd; exact rfl)
      go_simp
    · obtain ⟨_, q230, rfl⟩ := hG.new 230 (by kernel_rfl) (by kernel_rfl)
      obtain ⟨_, q236, rfl⟩ := hG.new 236 (by kernel_rfl) (by kernel_rfl)
      obtain ⟨_, q220, rfl⟩ := hG.new 220 (by kernel_rfl) (by kernel_rfl)
      refine step_value (v := .bool false) (w' := wx) rfl (by simp [Region.wanted, yielded, q220]) ?_ (Below.refl _ _) (fun d hd => by cases hd; exact rfl)
      go_simp
    · obtain ⟨_, q220, rfl⟩ := hG.new 220 (by kernel_rfl) (by kernel_rfl)
      obtain ⟨_, q237, rfl⟩ := hG.new 237 (by kernel_rfl) (by kernel_rfl)
      obtain ⟨_, q217, rfl⟩ := hG.new 217 (by kernel_rfl) (by kernel_rfl)
      refine step_value (v := .bool false) (w' := wx) rfl (by simp [Region.wanted, yielded, q217]) ?_ (Below.refl _ _) (fun d hd => by cases hd; exact rfl)
      go_simp
    · obtain ⟨_, q217, rfl⟩ := hG.new 217 (by kernel_rfl) (by kernel_rfl)
      obtain ⟨_, q238, rfl⟩ := hG.new 238 (by kernel_rfl) (by kernel_rfl)
      refine step_value (v := .bool false) (w' := wx) rfl rfl ?_ (Below.refl _ _) (fun d hd => by cases hd; exact rfl)
      go_simp
  intro fv wf hSf hV8
  have e239 : fv 239 = .bool false := hV8 239 (by decide)
  exact done fv wf hSf e239

def TkV010 (gG k : Nat) (adP : Addr) (nP cP : Nat) (pk pv : ByteArray) (t : Nat) (v : Value) (w : World) : Prop :=
  match t with
  | 173 => v = .int .i64 2
  | 174 => v = .bool false
  | 175 => v = .bool false
  | 176 => v = undef
  | 177 => v = undef
  | 178 => v = undef
  | 179 => v = undef
  | 180 => v = undef
  | 181 => v = undef
  | 182 => v = undef
  | 183 => v = undef
  | 184 => v = undef
  | 185 => v = undef
  | 186 => v = undef
  | 187 => v = undef
  | 188 => v = undef
  | 189 => v = undef
  | 190 => v = undef
  | 191 => v = undef
  | 192 => v = undef
  | 193 => v = .bool false
  | 194 => v = .bool false
  | 195 => v = .int .i64 0
  | 196 => v = .bool true
  | 197 => v = .bool true
  | 198 => v = .pointer (some ⟨gG, 1, none⟩)
  | 199 => v = .bool true
  | 200 => v = .bool false
  | 201 => v = .bool false
  | 202 => v = .int .i64 (k : Int)
  | 203 => v = .slice (some adP) nP cP
  | 204 => v = .int .i64 (nP : Int)
  | 205 => v = .bool false
  | 206 => v = .bool false
  | 207 => v = .bool false
  | 208 => v = .slice (some adP) nP cP
  | 209 => v = .int .i64 (k : Int)
  | 210 => v = .pointer (some (adP.add (k * 2)))
  | 211 => v = .agg #[.string pk, .string pv]
  | 212 => v = .agg #[.string pk, .string pv]
  | 213 => v = .bool false
  | 214 => v = .bool false
  | 215 => v = .bool false
  | 216 => v = .bool false
  | 217 => v = .bool false
  | 218 => v = .int .i64 2
  | 219 => v = .bool false
  | 220 => v = .bool false
  | 221 => v = undef
  | 222 => v = undef
  | 223 => v = undef
  | 224 => v = undef
  | 225 => v = undef
  | 226 => v = undef
  | 227 => v = undef
  | 228 => v = undef
  | 229 => v = undef
  | 230 => v = undef
  | 231 => v = undef
  | 232 => v = undef
  | 233 => v = undef
  | 234 => v = undef
  | 235 => v = undef
  | 236 => v = undef
  | 237 => v = undef
  | 238 => v = .bool false
  | 239 => v = .bool false
  | _ => True
theorem TkV010.on {gG k : Nat} {adP : Addr} {nP cP : Nat} {pk pv : ByteArray} {t : Nat} {v : Value} {w w' : World} (h : TkV010 gG k adP nP cP pk pv t v w) (hb : Below w.heap.size w w') : TkV010 gG k adP nP cP pk pv t v w' := by
  unfold TkV010 at *
  split at h <;> first | exact h | exact h

set_option maxRecDepth 100000 in
set_option maxHeartbeats 4000000 in
theorem tk28_010 (gG k : Nat) (adP : Addr) (nP cP : Nat) (pk pv : ByteArray) (a0 : Act) (w0 : World) (Q : Exit → Act → World → Prop) (hsz : a0.tmps.size = 315) (o21 : a0.tmps[21]? = some (.pointer (some ⟨gG, 0, none⟩))) (o23 : a0.tmps[23]? = some (.int .i64 (k : Int))) (o5 : a0.tmps[5]? = some (.int .i64 2)) (o8 : a0.tmps[8]? = some (.int .i64 0)) (gxP : Nat) (o6 : a0.tmps[6]? = some (.slice (some adP) nP cP)) (o26 : a0.tmps[26]? = some (.pointer (some ⟨gxP, 0, none⟩))) (HLTP : Hid (k < nP)) (HGEP : Hid (decide ((nP : Int) ≤ (k : Int)) = false)) (HGFP : Hid (decide (nP ≤ k) = false)) (HGP : Hid (∀ wx, Below w0.heap.size w0 wx → wx.cell? ⟨gG, 1, none⟩ = some (.bool true))) (HVP : Hid (∀ wx, Below w0.heap.size w0 wx → wx.cell? (adP.add (k * 2)) = some (.string pk) ∧ wx.cell? ⟨(adP.add (k * 2)).block, (adP.add (k * 2)).off + 1, none⟩ = some (.string pv))) (HXP : Hid (∀ wx, Below w0.heap.size w0 wx → wx.cell? ⟨gxP, 0, none⟩ = some (.string pk) ∧ wx.cell? ⟨gxP, 1, none⟩ = some (.string pv))) (o11 : a0.tmps[11]? = some (.int .i64 2))
    (done : ∀ (fv : Nat → Value) (wf : World), Below w0.heap.size w0 wf → fv 239 = .bool false → Q .normal (puts a0 [173, 174, 175, 176, 177, 178, 179, 180, 181, 182, 183, 184, 185, 186, 187, 188, 189, 190, 191, 192, 193, 194, 195, 196, 197, 198, 199, 200, 201, 202, 203, 204, 205, 206, 207, 208, 209, 210, 211, 212, 213, 214, 215, 216, 217, 218, 219, 220, 221, 222, 223, 224, 225, 226, 227, 228, 229, 230, 231, 232, 233, 234, 235, 236, 237, 238, 239] fv) wf) : Code.wp Try.prog rg28 Q a0 w0 := by
  unfold rg28
  conv => arg 2; whnf
  refine wp_region_inv [173, 174, 175, 176, 177, 178, 179, 180, 181, 182, 183, 184, 185, 186, 187, 188, 189, 190, 191, 192, 193, 194, 195, 196, 197, 198, 199, 200, 201, 202, 203, 204, 205, 206, 207, 208, 209, 210, 211, 212, 213, 214, 215, 216, 217, 218, 219, 220, 221, 222, 223, 224, 225, 226, 227, 228, 229, 230, 231, 232, 233, 234, 235, 236, 237, 238, 239] (by kernel_rfl) (by kernel_rfl) (fun w' => Below w0.heap.size w0 w') (fun wa wb => Below wa.heap.size wa wb) (TkV010 gG k adP nP cP pk pv) (by rw [hsz]; kernel_rfl) (fun wa wb h1 h2 => h2.trans (h1.mono h2.size)) (fun t v wa wb h1 h2 => h2.on h1) (Below.refl _ _).drew (steps_of ?_) ?_
  · skip
    refine Steps1.cons (fun ax wx hS hG => ?_) (Steps1.cons (fun ax wx hS hG => ?_) (Steps1.cons (fun ax wx hS hG => ?_) (Steps1.cons (fun ax wx hS hG => ?_) (Steps1.cons (fun ax wx hS hG => ?_) (Steps1.cons (fun ax wx hS hG => ?_) (Steps1.cons (fun ax wx hS hG => ?_) (Steps1.cons (fun ax wx hS hG => ?_) (Steps1.cons (fun ax wx hS hG => ?_) (Steps1.cons (fun ax wx hS hG => ?_) (Steps1.cons (fun ax wx hS hG => ?_) (Steps1.cons (fun ax wx hS hG => ?_) (Steps1.cons (fun ax wx hS hG => ?_) (Steps1.cons (fun ax wx hS hG => ?_) (Steps1.cons (fun ax wx hS hG => ?_) (Steps1.cons (fun ax wx hS hG => ?_) (Steps1.cons (fun ax wx hS hG => ?_) (Steps1.cons (fun ax wx hS hG => ?_) (Steps1.cons (fun ax wx hS hG => ?_) (Steps1.cons (fun ax wx hS hG => ?_) (Steps1.cons (fun ax wx hS hG => ?_) (Steps1.cons (fun ax wx hS hG => ?_) (Steps1.cons (fun ax wx hS hG => ?_) (Steps1.cons (fun ax wx hS hG => ?_) (Steps1.cons (fun ax wx hS hG => ?_) (Steps1.cons (fun ax wx hS hG => ?_) (Steps1.cons (fun ax wx hS hG => ?_) (Steps1.cons (fun ax wx hS hG => ?_) (Steps1.cons (fun ax wx hS hG => ?_) (Steps1.cons (fun ax wx hS hG => ?_) (Steps1.cons (fun ax wx hS hG => ?_) (Steps1.cons (fun ax wx hS hG => ?_) (Steps1.cons (fun ax wx hS hG => ?_) (Steps1.cons (fun ax wx hS hG => ?_) (Steps1.cons (fun ax wx hS hG => ?_) (Steps1.cons (fun ax wx hS hG => ?_) (Steps1.cons (fun ax wx hS hG => ?_) (Steps1.cons (fun ax wx hS hG => ?_) (Steps1.cons (fun ax wx hS hG => ?_) (Steps1.cons (fun ax wx hS hG => ?_) (Steps1.cons (fun ax wx hS hG => ?_) (Steps1.cons (fun ax wx hS hG => ?_) (Steps1.cons (fun ax wx hS hG => ?_) (Steps1.cons (fun ax wx hS hG => ?_) (Steps1.cons (fun ax wx hS hG => ?_) (Steps1.cons (fun ax wx hS hG => ?_) (Steps1.cons (fun ax wx hS hG => ?_) (Steps1.cons (fun ax wx hS hG => ?_) (Steps1.cons (fun ax wx hS hG => ?_) (Steps1.cons (fun ax wx hS hG => ?_) (Steps1.cons (fun ax wx hS hG => ?_) (Steps1.cons (fun ax wx hS hG => ?_) (Steps1.cons (fun ax wx hS hG => ?_) (Steps1.cons (fun ax wx hS hG => ?_) (Steps1.cons (fun ax wx hS hG => ?_) (Steps1.cons (fun ax wx hS hG => ?_) (Steps1.cons (fun ax wx hS hG => ?_) (Steps1.cons (fun ax wx hS hG => ?_) (Steps1.cons (fun ax wx hS hG => ?_) (Steps1.cons (fun ax wx hS hG => ?_) (Steps1.cons (fun ax wx hS hG => ?_) (Steps1.cons (fun ax wx hS hG => ?_) (Steps1.cons (fun ax wx hS hG => ?_) (Steps1.cons (fun ax wx hS hG => ?_) (Steps1.cons (fun ax wx hS hG => ?_) (Steps1.cons (fun ax wx hS hG => ?_) (Steps1.cons (fun ax wx hS hG => ?_) Steps1.nil))))))))))))))))))))))))))))))))))))))))))))))))))))))))))))))))))
    · have q5 := (hG.old 5 (by kernel_rfl) (by kernel_rfl)).trans o5
      refine step_value (v := .int .i64 2) (w' := wx) rfl rfl ?_ (Below.refl _ _) (fun d hd => by cases hd; exact rfl)
      go_simp
    · obtain ⟨_, q173, rfl⟩ := hG.new 173 (by kernel_rfl) (by kernel_rfl)
      refine step_value (v := .bool false) (w' := wx) rfl rfl ?_ (Below.refl _ _) (fun d hd => by cases hd; exact rfl)
      go_simp
    · obtain ⟨_, q174, rfl⟩ := hG.new 174 (by kernel_rfl) (by kernel_rfl)
      refine step_value (v := .bool false) (w' := wx) rfl rfl ?_ (Below.refl _ _) (fun d hd => by cases hd; exact rfl)
      go_simp
    · obtain ⟨_, q175, rfl⟩ := hG.new 175 (by kernel_rfl) (by kernel_rfl)
      refine step_past rfl (by simp [Region.wanted, yielded, q175]) (Below.refl _ _) (fun d hd => by cases hd; exact rfl)
    · obtain ⟨_, q175, rfl⟩ := hG.new 175 (by kernel_rfl) (by kernel_rfl)
      refine step_past rfl (by simp [Region.wanted, yielded, q175]) (Below.refl _ _) (fun d hd => by cases hd; exact rfl)
    · obtain ⟨_, q175, rfl⟩ := hG.new 175 (by kernel_rfl) (by kernel_rfl)
      refine step_past rfl (by simp [Region.wanted, yielded, q175]) (Below.refl _ _) (fun d hd => by cases hd; exact rfl)
    · obtain ⟨_, q175, rfl⟩ := hG.new 175 (by kernel_rfl) (by kernel_rfl)
      refine step_past rfl (by simp [Region.wanted, yielded, q175]) (Below.refl _ _) (fun d hd => by cases hd; exact rfl)
    · obtain ⟨_, q179, rfl⟩ := hG.new 179 (by kernel_rfl) (by kernel_rfl)
      refine step_past rfl (by simp [Region.wanted, yielded, q179, undef]) (Below.refl _ _) (fun d hd => by cases hd; exact rfl)
    · obtain ⟨_, q179, rfl⟩ := hG.new 179 (by kernel_rfl) (by kernel_rfl)
      refine step_past rfl (by simp [Region.wanted, yielded, q179, undef]) (Below.refl _ _) (fun d hd => by cases hd; exact rfl)
    · obtain ⟨_, q179, rfl⟩ := hG.new 179 (by kernel_rfl) (by kernel_rfl)
      refine step_past rfl (by simp [Region.wanted, yielded, q179, undef]) (Below.refl _ _) (fun d hd => by cases hd; exact rfl)
    · obtain ⟨_, q179, rfl⟩ := hG.new 179 (by kernel_rfl) (by kernel_rfl)
      refine step_past rfl (by simp [Region.wanted, yielded, q179, undef]) (Below.refl _ _) (fun d hd => by cases hd; exact rfl)
    · obtain ⟨_, q175, rfl⟩ := hG.new 175 (by kernel_rfl) (by kernel_rfl)
      refine step_past rfl (by simp [Region.wanted, yielded, q175]) (Below.refl _ _) (fun d hd => by cases hd; exact rfl)
    · obtain ⟨_, q175, rfl⟩ := hG.new 175 (by kernel_rfl) (by kernel_rfl)
      refine step_past rfl (by simp [Region.wanted, yielded, q175]) (Below.refl _ _) (fun d hd => by cases hd; exact rfl)
    · obtain ⟨_, q185, rfl⟩ := hG.new 185 (by kernel_rfl) (by kernel_rfl)
      refine step_past rfl (by simp [Region.wanted, yielded, q185, undef]) (Below.refl _ _) (fun d hd => by cases hd; exact rfl)
    · obtain ⟨_, q185, rfl⟩ := hG.new 185 (by kernel_rfl) (by kernel_rfl)
      refine step_past rfl (by simp [Region.wanted, yielded, q185, undef]) (Below.refl _ _) (fun d hd => by cases hd; exact rfl)
    · obtain ⟨_, q185, rfl⟩ := hG.new 185 (by kernel_rfl) (by kernel_rfl)
      refine step_past rfl (by simp [Region.wanted, yielded, q185, undef]) (Below.refl _ _) (fun d hd => by cases hd; exact rfl)
    · obtain ⟨_, q185, rfl⟩ := hG.new 185 (by kernel_rfl) (by kernel_rfl)
      refine step_past rfl (by simp [Region.wanted, yielded, q185, undef]) (Below.refl _ _) (fun d hd => by cases hd; exact rfl)
    · obtain ⟨_, q185, rfl⟩ := hG.new 185 (by kernel_rfl) (by kernel_rfl)
      refine step_past rfl (by simp [Region.wanted, yielded, q185, undef]) (Below.refl _ _) (fun d hd => by cases hd; exact rfl)
    · obtain ⟨_, q185, rfl⟩ := hG.new 185 (by kernel_rfl) (by kernel_rfl)
      refine step_past rfl (by simp [Region.wanted, yielded, q185, undef]) (Below.refl _ _) (fun d hd => by cases hd; exact rfl)
    · obtain ⟨_, q175, rfl⟩ := hG.new 175 (by kernel_rfl) (by kernel_rfl)
      refine step_past rfl (by simp [Region.wanted, yielded, q175]) (Below.refl _ _) (fun d hd => by cases hd; exact rfl)
    · obtain ⟨_, q175, rfl⟩ := hG.new 175 (by kernel_rfl) (by kernel_rfl)
      obtain ⟨_, q192, rfl⟩ := hG.new 192 (by kernel_rfl) (by kernel_rfl)
      refine step_value (v := .bool false) (w' := wx) rfl rfl ?_ (Below.refl _ _) (fun d hd => by cases hd; exact rfl)
      go_simp
    · obtain ⟨_, q193, rfl⟩ := hG.new 193 (by kernel_rfl) (by kernel_rfl)
      refine step_value (v := .bool false) (w' := wx) rfl rfl ?_ (Below.refl _ _) (fun d hd => by cases hd; exact rfl)
      go_simp
    · have q8 := (hG.old 8 (by kernel_rfl) (by kernel_rfl)).trans o8
      obtain ⟨_, q194, rfl⟩ := hG.new 194 (by kernel_rfl) (by kernel_rfl)
      refine step_value (v := .int .i64 0) (w' := wx) rfl (by simp [Region.wanted, yielded, q194]) ?_ (Below.refl _ _) (fun d hd => by cases hd; exact rfl)
      go_simp
    · obtain ⟨_, q195, rfl⟩ := hG.new 195 (by kernel_rfl) (by kernel_rfl)
      obtain ⟨_, q194, rfl⟩ := hG.new 194 (by kernel_rfl) (by kernel_rfl)
      refine step_value (v := .bool true) (w' := wx) rfl (by simp [Region.wanted, yielded, q194]) ?_ (Below.refl _ _) (fun d hd => by cases hd; exact rfl)
      go_simp
    · obtain ⟨_, q196, rfl⟩ := hG.new 196 (by kernel_rfl) (by kernel_rfl)
      obtain ⟨_, q194, rfl⟩ := hG.new 194 (by kernel_rfl) (by kernel_rfl)
      refine step_value (v := .bool true) (w' := wx) rfl (by simp [Region.wanted, yielded, q194]) ?_ (Below.refl _ _) (fun d hd => by cases hd; exact rfl)
      go_simp
    · have q21 := (hG.old 21 (by kernel_rfl) (by kernel_rfl)).trans o21
      obtain ⟨_, q197, rfl⟩ := hG.new 197 (by kernel_rfl) (by kernel_rfl)
      refine step_value (v := .pointer (some ⟨gG, 1, none⟩)) (w' := wx) rfl (by simp [Region.wanted, yielded, q197]) ?_ (Below.refl _ _) (fun d hd => by cases hd; exact rfl)
      go_simp
    · obtain ⟨_, q198, rfl⟩ := hG.new 198 (by kernel_rfl) (by kernel_rfl)
      obtain ⟨_, q197, rfl⟩ := hG.new 197 (by kernel_rfl) (by kernel_rfl)
      have z0 := HGP.out wx hS
      refine step_value (v := .bool true) (w' := wx) rfl (by simp [Region.wanted, yielded, q197]) ?_ (Below.refl _ _) (fun d hd => by cases hd; exact rfl)
      go_simp
    · obtain ⟨_, q199, rfl⟩ := hG.new 199 (by kernel_rfl) (by kernel_rfl)
      obtain ⟨_, q197, rfl⟩ := hG.new 197 (by kernel_rfl) (by kernel_rfl)
      refine step_value (v := .bool false) (w' := wx) rfl (by simp [Region.wanted, yielded, q197]) ?_ (Below.refl _ _) (fun d hd => by cases hd; exact rfl)
      go_simp
    · obtain ⟨_, q200, rfl⟩ := hG.new 200 (by kernel_rfl) (by kernel_rfl)
      obtain ⟨_, q197, rfl⟩ := hG.new 197 (by kernel_rfl) (by kernel_rfl)
      refine step_value (v := .bool false) (w' := wx) rfl (by simp [Region.wanted, yielded, q197]) ?_ (Below.refl _ _) (fun d hd => by cases hd; exact rfl)
      go_simp
    · have q23 := (hG.old 23 (by kernel_rfl) (by kernel_rfl)).trans o23
      obtain ⟨_, q201, rfl⟩ := hG.new 201 (by kernel_rfl) (by kernel_rfl)
      refine step_value (v := .int .i64 (k : Int)) (w' := wx) rfl (by simp [Region.wanted, yielded, q201]) ?_ (Below.refl _ _) (fun d hd => by cases hd; exact rfl)
      go_simp
    · have q6 := (hG.old 6 (by kernel_rfl) (by kernel_rfl)).trans o6
      obtain ⟨_, q201, rfl⟩ := hG.new 201 (by kernel_rfl) (by kernel_rfl)
      refine step_value (v := .slice (some adP) nP cP) (w' := wx) rfl (by simp [Region.wanted, yielded, q201]) ?_ (Below.refl _ _) (fun d hd => by cases hd; exact rfl)
      go_simp
    · obtain ⟨_, q203, rfl⟩ := hG.new 203 (by kernel_rfl) (by kernel_rfl)
      obtain ⟨_, q201, rfl⟩ := hG.new 201 (by kernel_rfl) (by kernel_rfl)
      refine step_value (v := .int .i64 (nP : Int)) (w' := wx) rfl (by simp [Region.wanted, yielded, q201]) ?_ (Below.refl _ _) (fun d hd => by cases hd; exact rfl)
      go_simp
    · obtain ⟨_, q202, rfl⟩ := hG.new 202 (by kernel_rfl) (by kernel_rfl)
      obtain ⟨_, q204, rfl⟩ := hG.new 204 (by kernel_rfl) (by kernel_rfl)
      obtain ⟨_, q201, rfl⟩ := hG.new 201 (by kernel_rfl) (by kernel_rfl)
      refine step_value (v := .bool false) (w' := wx) rfl (by simp [Region.wanted, yielded, q201]) ?_ (Below.refl _ _) (fun d hd => by cases hd; exact rfl)
      have hq := HLTP.out
      have hq1 := HGEP.out
      have hq2 := HGFP.out
      go_simp
    · obtain ⟨_, q201, rfl⟩ := hG.new 201 (by kernel_rfl) (by kernel_rfl)
      obtain ⟨_, q205, rfl⟩ := hG.new 205 (by kernel_rfl) (by kernel_rfl)
      obtain ⟨_, q197, rfl⟩ := hG.new 197 (by kernel_rfl) (by kernel_rfl)
      refine step_value (v := .bool false) (w' := wx) rfl (by simp [Region.wanted, yielded, q197]) ?_ (Below.refl _ _) (fun d hd => by cases hd; exact rfl)
      go_simp
    · obtain ⟨_, q206, rfl⟩ := hG.new 206 (by kernel_rfl) (by kernel_rfl)
      obtain ⟨_, q197, rfl⟩ := hG.new 197 (by kernel_rfl) (by kernel_rfl)
      refine step_value (v := .bool false) (w' := wx) rfl (by simp [Region.wanted, yielded, q197]) ?_ (Below.refl _ _) (fun d hd => by cases hd; exact rfl)
      go_simp
    · have q6 := (hG.old 6 (by kernel_rfl) (by kernel_rfl)).trans o6
      obtain ⟨_, q207, rfl⟩ := hG.new 207 (by kernel_rfl) (by kernel_rfl)
      refine step_value (v := .slice (some adP) nP cP) (w' := wx) rfl (by simp [Region.wanted, yielded, q207]) ?_ (Below.refl _ _) (fun d hd => by cases hd; exact rfl)
      go_simp
    · have q23 := (hG.old 23 (by kernel_rfl) (by kernel_rfl)).trans o23
      obtain ⟨_, q207, rfl⟩ := hG.new 207 (by kernel_rfl) (by kernel_rfl)
      refine step_value (v := .int .i64 (k : Int)) (w' := wx) rfl (by simp [Region.wanted, yielded, q207]) ?_ (Below.refl _ _) (fun d hd => by cases hd; exact rfl)
      go_simp
    · obtain ⟨_, q208, rfl⟩ := hG.new 208 (by kernel_rfl) (by kernel_rfl)
      obtain ⟨_, q209, rfl⟩ := hG.new 209 (by kernel_rfl) (by kernel_rfl)
      obtain ⟨_, q207, rfl⟩ := hG.new 207 (by kernel_rfl) (by kernel_rfl)
      refine step_value (v := .pointer (some (adP.add (k * 2)))) (w' := wx) rfl (by simp [Region.wanted, yielded, q207]) ?_ (Below.refl _ _) (fun d hd => by cases hd; exact rfl)
      have hq := HLTP.out
      go_simp
    · obtain ⟨_, q210, rfl⟩ := hG.new 210 (by kernel_rfl) (by kernel_rfl)
      obtain ⟨_, q207, rfl⟩ := hG.new 207 (by kernel_rfl) (by kernel_rfl)
      obtain ⟨z0, z1⟩ := HVP.out wx hS
      refine step_value (v := .agg #[.string pk, .string pv]) (w' := wx) rfl (by simp [Region.wanted, yielded, q207]) ?_ (Below.refl _ _) (fun d hd => by cases hd; exact rfl)
      go_simp
    · have q26 := (hG.old 26 (by kernel_rfl) (by kernel_rfl)).trans o26
      obtain ⟨_, q207, rfl⟩ := hG.new 207 (by kernel_rfl) (by kernel_rfl)
      obtain ⟨z0, z1⟩ := HXP.out wx hS
      refine step_value (v := .agg #[.string pk, .string pv]) (w' := wx) rfl (by simp [Region.wanted, yielded, q207]) ?_ (Below.refl _ _) (fun d hd => by cases hd; exact rfl)
      go_simp
    · obtain ⟨_, q211, rfl⟩ := hG.new 211 (by kernel_rfl) (by kernel_rfl)
      obtain ⟨_, q212, rfl⟩ := hG.new 212 (by kernel_rfl) (by kernel_rfl)
      obtain ⟨_, q207, rfl⟩ := hG.new 207 (by kernel_rfl) (by kernel_rfl)
      refine step_value (v := .bool false) (w' := wx) rfl (by simp [Region.wanted, yielded, q207]) ?_ (Below.refl _ _) (fun d hd => by cases hd; exact rfl)
      go_simp
    · obtain ⟨_, q207, rfl⟩ := hG.new 207 (by kernel_rfl) (by kernel_rfl)
      obtain ⟨_, q213, rfl⟩ := hG.new 213 (by kernel_rfl) (by kernel_rfl)
      obtain ⟨_, q197, rfl⟩ := hG.new 197 (by kernel_rfl) (by kernel_rfl)
      refine step_value (v := .bool false) (w' := wx) rfl (by simp [Region.wanted, yielded, q197]) ?_ (Below.refl _ _) (fun d hd => by cases hd; exact rfl)
      go_simp
    · obtain ⟨_, q197, rfl⟩ := hG.new 197 (by kernel_rfl) (by kernel_rfl)
      obtain ⟨_, q214, rfl⟩ := hG.new 214 (by kernel_rfl) (by kernel_rfl)
      obtain ⟨_, q194, rfl⟩ := hG.new 194 (by kernel_rfl) (by kernel_rfl)
      refine step_value (v := .bool false) (w' := wx) rfl (by simp [Region.wanted, yielded, q194]) ?_ (Below.refl _ _) (fun d hd => by cases hd; exact rfl)
      go_simp
    · obtain ⟨_, q194, rfl⟩ := hG.new 194 (by kernel_rfl) (by kernel_rfl)
      obtain ⟨_, q215, rfl⟩ := hG.new 215 (by kernel_rfl) (by kernel_rfl)
      refine step_value (v := .bool false) (w' := wx) rfl rfl ?_ (Below.refl _ _) (fun d hd => by cases hd; exact rfl)
      go_simp
    · obtain ⟨_, q216, rfl⟩ := hG.new 216 (by kernel_rfl) (by kernel_rfl)
      refine step_value (v := .bool false) (w' := wx) rfl rfl ?_ (Below.refl _ _) (fun d hd => by cases hd; exact rfl)
      go_simp
    · have q11 := (hG.old 11 (by kernel_rfl) (by kernel_rfl)).trans o11
      obtain ⟨_, q217, rfl⟩ := hG.new 217 (by kernel_rfl) (by kernel_rfl)
      refine step_value (v := .int .i64 2) (w' := wx) rfl (by simp [Region.wanted, yielded, q217]) ?_ (Below.refl _ _) (fun d hd => by cases hd; exact rfl)
      go_simp
    · obtain ⟨_, q218, rfl⟩ := hG.new 218 (by kernel_rfl) (by kernel_rfl)
      obtain ⟨_, q217, rfl⟩ := hG.new 217 (by kernel_rfl) (by kernel_rfl)
      refine step_value (v := .bool false) (w' := wx) rfl (by simp [Region.wanted, yielded, q217]) ?_ (Below.refl _ _) (fun d hd => by cases hd; exact rfl)
      go_simp
    · obtain ⟨_, q219, rfl⟩ := hG.new 219 (by kernel_rfl) (by kernel_rfl)
      obtain ⟨_, q217, rfl⟩ := hG.new 217 (by kernel_rfl) (by kernel_rfl)
      refine step_value (v := .bool false) (w' := wx) rfl (by simp [Region.wanted, yielded, q217]) ?_ (Below.refl _ _) (fun d hd => by cases hd; exact rfl)
      go_simp
    · obtain ⟨_, q220, rfl⟩ := hG.new 220 (by kernel_rfl) (by kernel_rfl)
      refine step_past rfl (by simp [Region.wanted, yielded, q220]) (Below.refl _ _) (fun d hd => by cases hd; exact rfl)
    · obtain ⟨_, q220, rfl⟩ := hG.new 220 (by kernel_rfl) (by kernel_rfl)
      refine step_past rfl (by simp [Region.wanted, yielded, q220]) (Below.refl _ _) (fun d hd => by cases hd; exact rfl)
    · obtain ⟨_, q220, rfl⟩ := hG.new 220 (by kernel_rfl) (by kernel_rfl)
      refine step_past rfl (by simp [Region.wanted, yielded, q220]) (Below.refl _ _) (fun d hd => by cases hd; exact rfl)
    · obtain ⟨_, q220, rfl⟩ := hG.new 220 (by kernel_rfl) (by kernel_rfl)
      refine step_past rfl (by simp [Region.wanted, yielded, q220]) (Below.refl _ _) (fun d hd => by cases hd; exact rfl)
    · obtain ⟨_, q224, rfl⟩ := hG.new 224 (by kernel_rfl) (by kernel_rfl)
      refine step_past rfl (by simp [Region.wanted, yielded, q224, undef]) (Below.refl _ _) (fun d hd => by cases hd; exact rfl)
    · obtain ⟨_, q224, rfl⟩ := hG.new 224 (by kernel_rfl) (by kernel_rfl)
      refine step_past rfl (by simp [Region.wanted, yielded, q224, undef]) (Below.refl _ _) (fun d hd => by cases hd; exact rfl)
    · obtain ⟨_, q224, rfl⟩ := hG.new 224 (by kernel_rfl) (by kernel_rfl)
      refine step_past rfl (by simp [Region.wanted, yielded, q224, undef]) (Below.refl _ _) (fun d hd => by cases hd; exact rfl)
    · obtain ⟨_, q224, rfl⟩ := hG.new 224 (by kernel_rfl) (by kernel_rfl)
      refine step_past rfl (by simp [Region.wanted, yielded, q224, undef]) (Below.refl _ _) (fun d hd => by cases hd; exact rfl)
    · obtain ⟨_, q220, rfl⟩ := hG.new 220 (by kernel_rfl) (by kernel_rfl)
      refine step_past rfl (by simp [Region.wanted, yielded, q220]) (Below.refl _ _) (fun d hd => by cases hd; exact rfl)
    · obtain ⟨_, q220, rfl⟩ := hG.new 220 (by kernel_rfl) (by kernel_rfl)
      refine step_past rfl (by simp [Region.wanted, yielded, q220]) (Below.refl _ _) (fun d hd => by cases hd; exact rfl)
    · obtain ⟨_, q230, rfl⟩ := hG.new 230 (by kernel_rfl) (by kernel_rfl)
      refine step_past rfl (by simp [Region.wanted, yielded, q230, undef]) (Below.refl _ _) (fun d hd => by cases hd; exact rfl)
    · obtain ⟨_, q230, rfl⟩ := hG.new 230 (by kernel_rfl) (by kernel_rfl)
      refine step_past rfl (by simp [Region.wanted, yielded, q230, undef]) (Below.refl _ _) (fun d hd => by cases hd; exact rfl)
    · obtain ⟨_, q230, rfl⟩ := hG.new 230 (by kernel_rfl) (by kernel_rfl)
      refine step_past rfl (by simp [Region.wanted, yielded, q230, undef]) (Below.refl _ _) (fun d hd => by cases hd; exact rfl)
    · obtain ⟨_, q230, rfl⟩ := hG.new 230 (by kernel_rfl) (by kernel_rfl)
      refine step_past rfl (by simp [Region.wanted, yielded, q230, undef]) (Below.refl _ _) (fun d hd => by cases hd; exact rfl)
    · obtain ⟨_, q230, rfl⟩ := hG.new 230 (by kernel_rfl) (by kernel_rfl)
      refine step_past rfl (by simp [Region.wanted, yielded, q230, undef]) (Below.refl _ _) (fun d hd => by cases hd; exact rfl)
    · obtain ⟨_, q230, rfl⟩ := hG.new 230 (by kernel_rfl) (by kernel_rfl)
      refine step_past rfl (by simp [Region.wanted, yielded, q230, undef]) (Below.refl _ _) (fun d hd => by cases hd; exact rfl)
    · obtain ⟨_, q220, rfl⟩ := hG.new 220 (by kernel_rfl) (by kernel_rfl)
      refine step_past rfl (by simp [Region.wanted, yielded, q220]) (Below.refl _ _) (fun d hd => by cases hd; exact rfl)
    · obtain ⟨_, q220, rfl⟩ := hG.new 220 (by kernel_rfl) (by kernel_rfl)
      obtain ⟨_, q237, rfl⟩ := hG.new 237 (by kernel_rfl) (by kernel_rfl)
      obtain ⟨_, q217, rfl⟩ := hG.new 217 (by kernel_rfl) (by kernel_rfl)
      refine step_value (v := .bool false) (w' := wx) rfl (by simp [Region.wanted, yielded, q217]) ?_ (Below.refl _ _) (fun d hd => by cases hd; exact rfl)
      go_simp
    · obtain ⟨_, q217, rfl⟩ := hG.new 217 (by kernel_rfl) (by kernel_rfl)
      obtain ⟨_, q238, rfl⟩ := hG.new 238 (by kernel_rfl) (by kernel_rfl)
      refine step_value (v := .bool false) (w' := wx) rfl rfl ?_ (Below.refl _ _) (fun d hd => by cases hd; exact rfl)
      go_simp
  intro fv wf hSf hV8
  have e239 : fv 239 = .bool false := hV8 239 (by decide)
  exact done fv wf hSf e239

def TkV011 (gG k : Nat) (adP : Addr) (nP cP : Nat) (pk pv : ByteArray) (adC : Addr) (nC cC : Nat) (cs : Int) (ck cb ca : ByteArray) (ch cg : Bool) (t : Nat) (v : Value) (w : World) : Prop :=
  match t with
  | 173 => v = .int .i64 2
  | 174 => v = .bool false
  | 175 => v = .bool false
  | 176 => v = undef
  | 177 => v = undef
  | 178 => v = undef
  | 179 => v = undef
  | 180 => v = undef
  | 181 => v = undef
  | 182 => v = undef
  | 183 => v = undef
  | 184 => v = undef
  | 185 => v = undef
  | 186 => v = undef
  | 187 => v = undef
  | 188 => v = undef
  | 189 => v = undef
  | 190 => v = undef
  | 191 => v = undef
  | 192 => v = undef
  | 193 => v = .bool false
  | 194 => v = .bool false
  | 195 => v = .int .i64 0
  | 196 => v = .bool true
  | 197 => v = .bool true
  | 198 => v = .pointer (some ⟨gG, 1, none⟩)
  | 199 => v = .bool true
  | 200 => v = .bool false
  | 201 => v = .bool false
  | 202 => v = .int .i64 (k : Int)
  | 203 => v = .slice (some adP) nP cP
  | 204 => v = .int .i64 (nP : Int)
  | 205 => v = .bool false
  | 206 => v = .bool false
  | 207 => v = .bool false
  | 208 => v = .slice (some adP) nP cP
  | 209 => v = .int .i64 (k : Int)
  | 210 => v = .pointer (some (adP.add (k * 2)))
  | 211 => v = .agg #[.string pk, .string pv]
  | 212 => v = .agg #[.string pk, .string pv]
  | 213 => v = .bool false
  | 214 => v = .bool false
  | 215 => v = .bool false
  | 216 => v = .bool false
  | 217 => v = .bool false
  | 218 => v = .int .i64 0
  | 219 => v = .bool true
  | 220 => v = .bool true
  | 221 => v = .pointer (some ⟨gG, 2, none⟩)
  | 222 => v = .bool true
  | 223 => v = .bool false
  | 224 => v = .bool false
  | 225 => v = .int .i64 (k : Int)
  | 226 => v = .slice (some adC) nC cC
  | 227 => v = .int .i64 (nC : Int)
  | 228 => v = .bool false
  | 229 => v = .bool false
  | 230 => v = .bool false
  | 231 => v = .slice (some adC) nC cC
  | 232 => v = .int .i64 (k : Int)
  | 233 => v = .pointer (some (adC.add (k * 6)))
  | 234 => v = .agg #[.int .i64 cs, .string ck, .bool ch, .string cb, .bool cg, .string ca]
  | 235 => v = .agg #[.int .i64 cs, .string ck, .bool ch, .string cb, .bool cg, .string ca]
  | 236 => v = .bool false
  | 237 => v = .bool false
  | 238 => v = .bool false
  | 239 => v = .bool false
  | _ => True
theorem TkV011.on {gG k : Nat} {adP : Addr} {nP cP : Nat} {pk pv : ByteArray} {adC : Addr} {nC cC : Nat} {cs : Int} {ck cb ca : ByteArray} {ch cg : Bool} {t : Nat} {v : Value} {w w' : World} (h : TkV011 gG k adP nP cP pk pv adC nC cC cs ck cb ca ch cg t v w) (hb : Below w.heap.size w w') : TkV011 gG k adP nP cP pk pv adC nC cC cs ck cb ca ch cg t v w' := by
  unfold TkV011 at *
  split at h <;> first | exact h | exact h

set_option maxRecDepth 100000 in
set_option maxHeartbeats 4000000 in
theorem tk28_011 (gG k : Nat) (adP : Addr) (nP cP : Nat) (pk pv : ByteArray) (adC : Addr) (nC cC : Nat) (cs : Int) (ck cb ca : ByteArray) (ch cg : Bool) (a0 : Act) (w0 : World) (Q : Exit → Act → World → Prop) (hsz : a0.tmps.size = 315) (o21 : a0.tmps[21]? = some (.pointer (some ⟨gG, 0, none⟩))) (o23 : a0.tmps[23]? = some (.int .i64 (k : Int))) (o5 : a0.tmps[5]? = some (.int .i64 2)) (o8 : a0.tmps[8]? = some (.int .i64 0)) (gxP : Nat) (o6 : a0.tmps[6]? = some (.slice (some adP) nP cP)) (o26 : a0.tmps[26]? = some (.pointer (some ⟨gxP, 0, none⟩))) (HLTP : Hid (k < nP)) (HGEP : Hid (decide ((nP : Int) ≤ (k : Int)) = false)) (HGFP : Hid (decide (nP ≤ k) = false)) (HGP : Hid (∀ wx, Below w0.heap.size w0 wx → wx.cell? ⟨gG, 1, none⟩ = some (.bool true))) (HVP : Hid (∀ wx, Below w0.heap.size w0 wx → wx.cell? (adP.add (k * 2)) = some (.string pk) ∧ wx.cell? ⟨(adP.add (k * 2)).block, (adP.add (k * 2)).off + 1, none⟩ = some (.string pv))) (HXP : Hid (∀ wx, Below w0.heap.size w0 wx → wx.cell? ⟨gxP, 0, none⟩ = some (.string pk) ∧ wx.cell? ⟨gxP, 1, none⟩ = some (.string pv))) (o11 : a0.tmps[11]? = some (.int .i64 0)) (gxC : Nat) (o9 : a0.tmps[9]? = some (.slice (some adC) nC cC)) (o28 : a0.tmps[28]? = some (.pointer (some ⟨gxC, 0, none⟩))) (HLTC : Hid (k < nC)) (HGEC : Hid (decide ((nC : Int) ≤ (k : Int)) = false)) (HGFC : Hid (decide (nC ≤ k) = false)) (HGC : Hid (∀ wx, Below w0.heap.size w0 wx → wx.cell? ⟨gG, 2, none⟩ = some (.bool true))) (HVC : Hid (∀ wx, Below w0.heap.size w0 wx → wx.cell? (adC.add (k * 6)) = some (.int .i64 cs) ∧ wx.cell? ⟨(adC.add (k * 6)).block, (adC.add (k * 6)).off + 1, none⟩ = some (.string ck) ∧ wx.cell? ⟨(adC.add (k * 6)).block, (adC.add (k * 6)).off + 2, none⟩ = some (.bool ch) ∧ wx.cell? ⟨(adC.add (k * 6)).block, (adC.add (k * 6)).off + 3, none⟩ = some (.string cb) ∧ wx.cell? ⟨(adC.add (k * 6)).block, (adC.add (k * 6)).off + 4, none⟩ = some (.bool cg) ∧ wx.cell? ⟨(adC.add (k * 6)).block, (adC.add (k * 6)).off + 5, none⟩ = some (.string ca))) (HXC : Hid (∀ wx, Below w0.heap.size w0 wx → wx.cell? ⟨gxC, 0, none⟩ = some (.int .i64 cs) ∧ wx.cell? ⟨gxC, 1, none⟩ = some (.string ck) ∧ wx.cell? ⟨gxC, 2, none⟩ = some (.bool ch) ∧ wx.cell? ⟨gxC, 3, none⟩ = some (.string cb) ∧ wx.cell? ⟨gxC, 4, none⟩ = some (.bool cg) ∧ wx.cell? ⟨gxC, 5, none⟩ = some (.string ca)))
    (done : ∀ (fv : Nat → Value) (wf : World), Below w0.heap.size w0 wf → fv 239 = .bool false → Q .normal (puts a0 [173, 174, 175, 176, 177, 178, 179, 180, 181, 182, 183, 184, 185, 186, 187, 188, 189, 190, 191, 192, 193, 194, 195, 196, 197, 198, 199, 200, 201, 202, 203, 204, 205, 206, 207, 208, 209, 210, 211, 212, 213, 214, 215, 216, 217, 218, 219, 220, 221, 222, 223, 224, 225, 226, 227, 228, 229, 230, 231, 232, 233, 234, 235, 236, 237, 238, 239] fv) wf) : Code.wp Try.prog rg28 Q a0 w0 := by
  unfold rg28
  conv => arg 2; whnf
  refine wp_region_inv [173, 174, 175, 176, 177, 178, 179, 180, 181, 182, 183, 184, 185, 186, 187, 188, 189, 190, 191, 192, 193, 194, 195, 196, 197, 198, 199, 200, 201, 202, 203, 204, 205, 206, 207, 208, 209, 210, 211, 212, 213, 214, 215, 216, 217, 218, 219, 220, 221, 222, 223, 224, 225, 226, 227, 228, 229, 230, 231, 232, 233, 234, 235, 236, 237, 238, 239] (by kernel_rfl) (by kernel_rfl) (fun w' => Below w0.heap.size w0 w') (fun wa wb => Below wa.heap.size wa wb) (TkV011 gG k adP nP cP pk pv adC nC cC cs ck cb ca ch cg) (by rw [hsz]; kernel_rfl) (fun wa wb h1 h2 => h2.trans (h1.mono h2.size)) (fun t v wa wb h1 h2 => h2.on h1) (Below.refl _ _).drew (steps_of ?_) ?_
  · skip
    refine Steps1.cons (fun ax wx hS hG => ?_) (Steps1.cons (fun ax wx hS hG => ?_) (Steps1.cons (fun ax wx hS hG => ?_) (Steps1.cons (fun ax wx hS hG => ?_) (Steps1.cons (fun ax wx hS hG => ?_) (Steps1.cons (fun ax wx hS hG => ?_) (Steps1.cons (fun ax wx hS hG => ?_) (Steps1.cons (fun ax wx hS hG => ?_) (Steps1.cons (fun ax wx hS hG => ?_) (Steps1.cons (fun ax wx hS hG => ?_) (Steps1.cons (fun ax wx hS hG => ?_) (Steps1.cons (fun ax wx hS hG => ?_) (Steps1.cons (fun ax wx hS hG => ?_) (Steps1.cons (fun ax wx hS hG => ?_) (Steps1.cons (fun ax wx hS hG => ?_) (Steps1.cons (fun ax wx hS hG => ?_) (Steps1.cons (fun ax wx hS hG => ?_) (Steps1.cons (fun ax wx hS hG => ?_) (Steps1.cons (fun ax wx hS hG => ?_) (Steps1.cons (fun ax wx hS hG => ?_) (Steps1.cons (fun ax wx hS hG => ?_) (Steps1.cons (fun ax wx hS hG => ?_) (Steps1.cons (fun ax wx hS hG => ?_) (Steps1.cons (fun ax wx hS hG => ?_) (Steps1.cons (fun ax wx hS hG => ?_) (Steps1.cons (fun ax wx hS hG => ?_) (Steps1.cons (fun ax wx hS hG => ?_) (Steps1.cons (fun ax wx hS hG => ?_) (Steps1.cons (fun ax wx hS hG => ?_) (Steps1.cons (fun ax wx hS hG => ?_) (Steps1.cons (fun ax wx hS hG => ?_) (Steps1.cons (fun ax wx hS hG => ?_) (Steps1.cons (fun ax wx hS hG => ?_) (Steps1.cons (fun ax wx hS hG => ?_) (Steps1.cons (fun ax wx hS hG => ?_) (Steps1.cons (fun ax wx hS hG => ?_) (Steps1.cons (fun ax wx hS hG => ?_) (Steps1.cons (fun ax wx hS hG => ?_) (Steps1.cons (fun ax wx hS hG => ?_) (Steps1.cons (fun ax wx hS hG => ?_) (Steps1.cons (fun ax wx hS hG => ?_) (Steps1.cons (fun ax wx hS hG => ?_) (Steps1.cons (fun ax wx hS hG => ?_) (Steps1.cons (fun ax wx hS hG => ?_) (Steps1.cons (fun ax wx hS hG => ?_) (Steps1.cons (fun ax wx hS hG => ?_) (Steps1.cons (fun ax wx hS hG => ?_) (Steps1.cons (fun ax wx hS hG => ?_) (Steps1.cons (fun ax wx hS hG => ?_) (Steps1.cons (fun ax wx hS hG => ?_) (Steps1.cons (fun ax wx hS hG => ?_) (Steps1.cons (fun ax wx hS hG => ?_) (Steps1.cons (fun ax wx hS hG => ?_) (Steps1.cons (fun ax wx hS hG => ?_) (Steps1.cons (fun ax wx hS hG => ?_) (Steps1.cons (fun ax wx hS hG => ?_) (Steps1.cons (fun ax wx hS hG => ?_) (Steps1.cons (fun ax wx hS hG => ?_) (Steps1.cons (fun ax wx hS hG => ?_) (Steps1.cons (fun ax wx hS hG => ?_) (Steps1.cons (fun ax wx hS hG => ?_) (Steps1.cons (fun ax wx hS hG => ?_) (Steps1.cons (fun ax wx hS hG => ?_) (Steps1.cons (fun ax wx hS hG => ?_) (Steps1.cons (fun ax wx hS hG => ?_) (Steps1.cons (fun ax wx hS hG => ?_) (Steps1.cons (fun ax wx hS hG => ?_) Steps1.nil))))))))))))))))))))))))))))))))))))))))))))))))))))))))))))))))))
    · have q5 := (hG.old 5 (by kernel_rfl) (by kernel_rfl)).trans o5
      refine step_value (v := .int .i64 2) (w' := wx) rfl rfl ?_ (Below.refl _ _) (fun d hd => by cases hd; exact rfl)
      go_simp
    · obtain ⟨_, q173, rfl⟩ := hG.new 173 (by kernel_rfl) (by kernel_rfl)
      refine step_value (v := .bool false) (w' := wx) rfl rfl ?_ (Below.refl _ _) (fun d hd => by cases hd; exact rfl)
      go_simp
    · obtain ⟨_, q174, rfl⟩ := hG.new 174 (by kernel_rfl) (by kernel_rfl)
      refine step_value (v := .bool false) (w' := wx) rfl rfl ?_ (Below.refl _ _) (fun d hd => by cases hd; exact rfl)
      go_simp
    · obtain ⟨_, q175, rfl⟩ := hG.new 175 (by kernel_rfl) (by kernel_rfl)
      refine step_past rfl (by simp [Region.wanted, yielded, q175]) (Below.refl _ _) (fun d hd => by cases hd; exact rfl)
    · obtain ⟨_, q175, rfl⟩ := hG.new 175 (by kernel_rfl) (by kernel_rfl)
      refine step_past rfl (by simp [Region.wanted, yielded, q175]) (Below.refl _ _) (fun d hd => by cases hd; exact rfl)
    · obtain ⟨_, q175, rfl⟩ := hG.new 175 (by kernel_rfl) (by kernel_rfl)
      refine step_past rfl (by simp [Region.wanted, yielded, q175]) (Below.refl _ _) (fun d hd => by cases hd; exact rfl)
    · obtain ⟨_, q175, rfl⟩ := hG.new 175 (by kernel_rfl) (by kernel_rfl)
      refine step_past rfl (by simp [Region.wanted, yielded, q175]) (Below.refl _ _) (fun d hd => by cases hd; exact rfl)
    · obtain ⟨_, q179, rfl⟩ := hG.new 179 (by kernel_rfl) (by kernel_rfl)
      refine step_past rfl (by simp [Region.wanted, yielded, q179, undef]) (Below.refl _ _) (fun d hd => by cases hd; exact rfl)
    · obtain ⟨_, q179, rfl⟩ := hG.new 179 (by kernel_rfl) (by kernel_rfl)
      refine step_past rfl (by simp [Region.wanted, yielded, q179, undef]) (Below.refl _ _) (fun d hd => by cases hd; exact rfl)
    · obtain ⟨_, q179, rfl⟩ := hG.new 179 (by kernel_rfl) (by kernel_rfl)
      refine step_past rfl (by simp [Region.wanted, yielded, q179, undef]) (Below.refl _ _) (fun d hd => by cases hd; exact rfl)
    · obtain ⟨_, q179, rfl⟩ := hG.new 179 (by kernel_rfl) (by kernel_rfl)
      refine step_past rfl (by simp [Region.wanted, yielded, q179, undef]) (Below.refl _ _) (fun d hd => by cases hd; exact rfl)
    · obtain ⟨_, q175, rfl⟩ := hG.new 175 (by kernel_rfl) (by kernel_rfl)
      refine step_past rfl (by simp [Region.wanted, yielded, q175]) (Below.refl _ _) (fun d hd => by cases hd; exact rfl)
    · obtain ⟨_, q175, rfl⟩ := hG.new 175 (by kernel_rfl) (by kernel_rfl)
      refine step_past rfl (by simp [Region.wanted, yielded, q175]) (Below.refl _ _) (fun d hd => by cases hd; exact rfl)
    · obtain ⟨_, q185, rfl⟩ := hG.new 185 (by kernel_rfl) (by kernel_rfl)
      refine step_past rfl (by simp [Region.wanted, yielded, q185, undef]) (Below.refl _ _) (fun d hd => by cases hd; exact rfl)
    · obtain ⟨_, q185, rfl⟩ := hG.new 185 (by kernel_rfl) (by kernel_rfl)
      refine step_past rfl (by simp [Region.wanted, yielded, q185, undef]) (Below.refl _ _) (fun d hd => by cases hd; exact rfl)
    · obtain ⟨_, q185, rfl⟩ := hG.new 185 (by kernel_rfl) (by kernel_rfl)
      refine step_past rfl (by simp [Region.wanted, yielded, q185, undef]) (Below.refl _ _) (fun d hd => by cases hd; exact rfl)
    · obtain ⟨_, q185, rfl⟩ := hG.new 185 (by kernel_rfl) (by kernel_rfl)
      refine step_past rfl (by simp [Region.wanted, yielded, q185, undef]) (Below.refl _ _) (fun d hd => by cases hd; exact rfl)
    · obtain ⟨_, q185, rfl⟩ := hG.new 185 (by kernel_rfl) (by kernel_rfl)
      refine step_past rfl (by simp [Region.wanted, yielded, q185, undef]) (Below.refl _ _) (fun d hd => by cases hd; exact rfl)
    · obtain ⟨_, q185, rfl⟩ := hG.new 185 (by kernel_rfl) (by kernel_rfl)
      refine step_past rfl (by simp [Region.wanted, yielded, q185, undef]) (Below.refl _ _) (fun d hd => by cases hd; exact rfl)
    · obtain ⟨_, q175, rfl⟩ := hG.new 175 (by kernel_rfl) (by kernel_rfl)
      refine step_past rfl (by simp [Region.wanted, yielded, q175]) (Below.refl _ _) (fun d hd => by cases hd; exact rfl)
    · obtain ⟨_, q175, rfl⟩ := hG.new 175 (by kernel_rfl) (by kernel_rfl)
      obtain ⟨_, q192, rfl⟩ := hG.new 192 (by kernel_rfl) (by kernel_rfl)
      refine step_value (v := .bool false) (w' := wx) rfl rfl ?_ (Below.refl _ _) (fun d hd => by cases hd; exact rfl)
      go_simp
    · obtain ⟨_, q193, rfl⟩ := hG.new 193 (by kernel_rfl) (by kernel_rfl)
      refine step_value (v := .bool false) (w' := wx) rfl rfl ?_ (Below.refl _ _) (fun d hd => by cases hd; exact rfl)
      go_simp
    · have q8 := (hG.old 8 (by kernel_rfl) (by kernel_rfl)).trans o8
      obtain ⟨_, q194, rfl⟩ := hG.new 194 (by kernel_rfl) (by kernel_rfl)
      refine step_value (v := .int .i64 0) (w' := wx) rfl (by simp [Region.wanted, yielded, q194]) ?_ (Below.refl _ _) (fun d hd => by cases hd; exact rfl)
      go_simp
    · obtain ⟨_, q195, rfl⟩ := hG.new 195 (by kernel_rfl) (by kernel_rfl)
      obtain ⟨_, q194, rfl⟩ := hG.new 194 (by kernel_rfl) (by kernel_rfl)
      refine step_value (v := .bool true) (w' := wx) rfl (by simp [Region.wanted, yielded, q194]) ?_ (Below.refl _ _) (fun d hd => by cases hd; exact rfl)
      go_simp
    · obtain ⟨_, q196, rfl⟩ := hG.new 196 (by kernel_rfl) (by kernel_rfl)
      obtain ⟨_, q194, rfl⟩ := hG.new 194 (by kernel_rfl) (by kernel_rfl)
      refine step_value (v := .bool true) (w' := wx) rfl (by simp [Region.wanted, yielded, q194]) ?_ (Below.refl _ _) (fun d hd => by cases hd; exact rfl)
      go_simp
    · have q21 := (hG.old 21 (by kernel_rfl) (by kernel_rfl)).trans o21
      obtain ⟨_, q197, rfl⟩ := hG.new 197 (by kernel_rfl) (by kernel_rfl)
      refine step_value (v := .pointer (some ⟨gG, 1, none⟩)) (w' := wx) rfl (by simp [Region.wanted, yielded, q197]) ?_ (Below.refl _ _) (fun d hd => by cases hd; exact rfl)
      go_simp
    · obtain ⟨_, q198, rfl⟩ := hG.new 198 (by kernel_rfl) (by kernel_rfl)
      obtain ⟨_, q197, rfl⟩ := hG.new 197 (by kernel_rfl) (by kernel_rfl)
      have z0 := HGP.out wx hS
      refine step_value (v := .bool true) (w' := wx) rfl (by simp [Region.wanted, yielded, q197]) ?_ (Below.refl _ _) (fun d hd => by cases hd; exact rfl)
      go_simp
    · obtain ⟨_, q199, rfl⟩ := hG.new 199 (by kernel_rfl) (by kernel_rfl)
      obtain ⟨_, q197, rfl⟩ := hG.new 197 (by kernel_rfl) (by kernel_rfl)
      refine step_value (v := .bool false) (w' := wx) rfl (by simp [Region.wanted, yielded, q197]) ?_ (Below.refl _ _) (fun d hd => by cases hd; exact rfl)
      go_simp
    · obtain ⟨_, q200, rfl⟩ := hG.new 200 (by kernel_rfl) (by kernel_rfl)
      obtain ⟨_, q197, rfl⟩ := hG.new 197 (by kernel_rfl) (by kernel_rfl)
      refine step_value (v := .bool false) (w' := wx) rfl (by simp [Region.wanted, yielded, q197]) ?_ (Below.refl _ _) (fun d hd => by cases hd; exact rfl)
      go_simp
    · have q23 := (hG.old 23 (by kernel_rfl) (by kernel_rfl)).trans o23
      obtain ⟨_, q201, rfl⟩ := hG.new 201 (by kernel_rfl) (by kernel_rfl)
      refine step_value (v := .int .i64 (k : Int)) (w' := wx) rfl (by simp [Region.wanted, yielded, q201]) ?_ (Below.refl _ _) (fun d hd => by cases hd; exact rfl)
      go_simp
    · have q6 := (hG.old 6 (by kernel_rfl) (by kernel_rfl)).trans o6
      obtain ⟨_, q201, rfl⟩ := hG.new 201 (by kernel_rfl) (by kernel_rfl)
      refine step_value (v := .slice (some adP) nP cP) (w' := wx) rfl (by simp [Region.wanted, yielded, q201]) ?_ (Below.refl _ _) (fun d hd => by cases hd; exact rfl)
      go_simp
    · obtain ⟨_, q203, rfl⟩ := hG.new 203 (by kernel_rfl) (by kernel_rfl)
      obtain ⟨_, q201, rfl⟩ := hG.new 201 (by kernel_rfl) (by kernel_rfl)
      refine step_value (v := .int .i64 (nP : Int)) (w' := wx) rfl (by simp [Region.wanted, yielded, q201]) ?_ (Below.refl _ _) (fun d hd => by cases hd; exact rfl)
      go_simp
    · obtain ⟨_, q202, rfl⟩ := hG.new 202 (by kernel_rfl) (by kernel_rfl)
      obtain ⟨_, q204, rfl⟩ := hG.new 204 (by kernel_rfl) (by kernel_rfl)
      obtain ⟨_, q201, rfl⟩ := hG.new 201 (by kernel_rfl) (by kernel_rfl)
      refine step_value (v := .bool false) (w' := wx) rfl (by simp [Region.wanted, yielded, q201]) ?_ (Below.refl _ _) (fun d hd => by cases hd; exact rfl)
      have hq := HLTP.out
      have hq1 := HGEP.out
      have hq2 := HGFP.out
      go_simp
    · obtain ⟨_, q201, rfl⟩ := hG.new 201 (by kernel_rfl) (by kernel_rfl)
      obtain ⟨_, q205, rfl⟩ := hG.new 205 (by kernel_rfl) (by kernel_rfl)
      obtain ⟨_, q197, rfl⟩ := hG.new 197 (by kernel_rfl) (by kernel_rfl)
      refine step_value (v := .bool false) (w' := wx) rfl (by simp [Region.wanted, yielded, q197]) ?_ (Below.refl _ _) (fun d hd => by cases hd; exact rfl)
      go_simp
    · obtain ⟨_, q206, rfl⟩ := hG.new 206 (by kernel_rfl) (by kernel_rfl)
      obtain ⟨_, q197, rfl⟩ := hG.new 197 (by kernel_rfl) (by kernel_rfl)
      refine step_value (v := .bool false) (w' := wx) rfl (by simp [Region.wanted, yielded, q197]) ?_ (Below.refl _ _) (fun d hd => by cases hd; exact rfl)
      go_simp
    · have q6 := (hG.old 6 (by kernel_rfl) (by kernel_rfl)).trans o6
      obtain ⟨_, q207, rfl⟩ := hG.new 207 (by kernel_rfl) (by kernel_rfl)
      refine step_value (v := .slice (some adP) nP cP) (w' := wx) rfl (by simp [Region.wanted, yielded, q207]) ?_ (Below.refl _ _) (fun d hd => by cases hd; exact rfl)
      go_simp
    · have q23 := (hG.old 23 (by kernel_rfl) (by kernel_rfl)).trans o23
      obtain ⟨_, q207, rfl⟩ := hG.new 207 (by kernel_rfl) (by kernel_rfl)
      refine step_value (v := .int .i64 (k : Int)) (w' := wx) rfl (by simp [Region.wanted, yielded, q207]) ?_ (Below.refl _ _) (fun d hd => by cases hd; exact rfl)
      go_simp
    · obtain ⟨_, q208, rfl⟩ := hG.new 208 (by kernel_rfl) (by kernel_rfl)
      obtain ⟨_, q209, rfl⟩ := hG.new 209 (by kernel_rfl) (by kernel_rfl)
      obtain ⟨_, q207, rfl⟩ := hG.new 207 (by kernel_rfl) (by kernel_rfl)
      refine step_value (v := .pointer (some (adP.add (k * 2)))) (w' := wx) rfl (by simp [Region.wanted, yielded, q207]) ?_ (Below.refl _ _) (fun d hd => by cases hd; exact rfl)
      have hq := HLTP.out
      go_simp
    · obtain ⟨_, q210, rfl⟩ := hG.new 210 (by kernel_rfl) (by kernel_rfl)
      obtain ⟨_, q207, rfl⟩ := hG.new 207 (by kernel_rfl) (by kernel_rfl)
      obtain ⟨z0, z1⟩ := HVP.out wx hS
      refine step_value (v := .agg #[.string pk, .string pv]) (w' := wx) rfl (by simp [Region.wanted, yielded, q207]) ?_ (Below.refl _ _) (fun d hd => by cases hd; exact rfl)
      go_simp
    · have q26 := (hG.old 26 (by kernel_rfl) (by kernel_rfl)).trans o26
      obtain ⟨_, q207, rfl⟩ := hG.new 207 (by kernel_rfl) (by kernel_rfl)
      obtain ⟨z0, z1⟩ := HXP.out wx hS
      refine step_value (v := .agg #[.string pk, .string pv]) (w' := wx) rfl (by simp [Region.wanted, yielded, q207]) ?_ (Below.refl _ _) (fun d hd => by cases hd; exact rfl)
      go_simp
    · obtain ⟨_, q211, rfl⟩ := hG.new 211 (by kernel_rfl) (by kernel_rfl)
      obtain ⟨_, q212, rfl⟩ := hG.new 212 (by kernel_rfl) (by kernel_rfl)
      obtain ⟨_, q207, rfl⟩ := hG.new 207 (by kernel_rfl) (by kernel_rfl)
      refine step_value (v := .bool false) (w' := wx) rfl (by simp [Region.wanted, yielded, q207]) ?_ (Below.refl _ _) (fun d hd => by cases hd; exact rfl)
      go_simp
    · obtain ⟨_, q207, rfl⟩ := hG.new 207 (by kernel_rfl) (by kernel_rfl)
      obtain ⟨_, q213, rfl⟩ := hG.new 213 (by kernel_rfl) (by kernel_rfl)
      obtain ⟨_, q197, rfl⟩ := hG.new 197 (by kernel_rfl) (by kernel_rfl)
      refine step_value (v := .bool false) (w' := wx) rfl (by simp [Region.wanted, yielded, q197]) ?_ (Below.refl _ _) (fun d hd => by cases hd; exact rfl)
      go_simp
    · obtain ⟨_, q197, rfl⟩ := hG.new 197 (by kernel_rfl) (by kernel_rfl)
      obtain ⟨_, q214, rfl⟩ := hG.new 214 (by kernel_rfl) (by kernel_rfl)
      obtain ⟨_, q194, rfl⟩ := hG.new 194 (by kernel_rfl) (by kernel_rfl)
      refine step_value (v := .bool false) (w' := wx) rfl (by simp [Region.wanted, yielded, q194]) ?_ (Below.refl _ _) (fun d hd => by cases hd; exact rfl)
      go_simp
    · obtain ⟨_, q194, rfl⟩ := hG.new 194 (by kernel_rfl) (by kernel_rfl)
      obtain ⟨_, q215, rfl⟩ := hG.new 215 (by kernel_rfl) (by kernel_rfl)
      refine step_value (v := .bool false) (w' := wx) rfl rfl ?_ (Below.refl _ _) (fun d hd => by cases hd; exact rfl)
      go_simp
    · obtain ⟨_, q216, rfl⟩ := hG.new 216 (by kernel_rfl) (by kernel_rfl)
      refine step_value (v := .bool false) (w' := wx) rfl rfl ?_ (Below.refl _ _) (fun d hd => by cases hd; exact rfl)
      go_simp
    · have q11 := (hG.old 11 (by kernel_rfl) (by kernel_rfl)).trans o11
      obtain ⟨_, q217, rfl⟩ := hG.new 217 (by kernel_rfl) (by kernel_rfl)
      refine step_value (v := .int .i64 0) (w' := wx) rfl (by simp [Region.wanted, yielded, q217]) ?_ (Below.refl _ _) (fun d hd => by cases hd; exact rfl)
      go_simp
    · obtain ⟨_, q218, rfl⟩ := hG.new 218 (by kernel_rfl) (by kernel_rfl)
      obtain ⟨_, q217, rfl⟩ := hG.new 217 (by kernel_rfl) (by kernel_rfl)
      refine step_value (v := .bool true) (w' := wx) rfl (by simp [Region.wanted, yielded, q217]) ?_ (Below.refl _ _) (fun d hd => by cases hd; exact rfl)
      go_simp
    · obtain ⟨_, q219, rfl⟩ := hG.new 219 (by kernel_rfl) (by kernel_rfl)
      obtain ⟨_, q217, rfl⟩ := hG.new 217 (by kernel_rfl) (by kernel_rfl)
      refine step_value (v := .bool true) (w' := wx) rfl (by simp [Region.wanted, yielded, q217]) ?_ (Below.refl _ _) (fun d hd => by cases hd; exact rfl)
      go_simp
    · have q21 := (hG.old 21 (by kernel_rfl) (by kernel_rfl)).trans o21
      obtain ⟨_, q220, rfl⟩ := hG.new 220 (by kernel_rfl) (by kernel_rfl)
      refine step_value (v := .pointer (some ⟨gG, 2, none⟩)) (w' := wx) rfl (by simp [Region.wanted, yielded, q220]) ?_ (Below.refl _ _) (fun d hd => by cases hd; exact rfl)
      go_simp
    · obtain ⟨_, q221, rfl⟩ := hG.new 221 (by kernel_rfl) (by kernel_rfl)
      obtain ⟨_, q220, rfl⟩ := hG.new 220 (by kernel_rfl) (by kernel_rfl)
      have z0 := HGC.out wx hS
      refine step_value (v := .bool true) (w' := wx) rfl (by simp [Region.wanted, yielded, q220]) ?_ (Below.refl _ _) (fun d hd => by cases hd; exact rfl)
      go_simp
    · obtain ⟨_, q222, rfl⟩ := hG.new 222 (by kernel_rfl) (by kernel_rfl)
      obtain ⟨_, q220, rfl⟩ := hG.new 220 (by kernel_rfl) (by kernel_rfl)
      refine step_value (v := .bool false) (w' := wx) rfl (by simp [Region.wanted, yielded, q220]) ?_ (Below.refl _ _) (fun d hd => by cases hd; exact rfl)
      go_simp
    · obtain ⟨_, q223, rfl⟩ := hG.new 223 (by kernel_rfl) (by kernel_rfl)
      obtain ⟨_, q220, rfl⟩ := hG.new 220 (by kernel_rfl) (by kernel_rfl)
      refine step_value (v := .bool false) (w' := wx) rfl (by simp [Region.wanted, yielded, q220]) ?_ (Below.refl _ _) (fun d hd => by cases hd; exact rfl)
      go_simp
    · have q23 := (hG.old 23 (by kernel_rfl) (by kernel_rfl)).trans o23
      obtain ⟨_, q224, rfl⟩ := hG.new 224 (by kernel_rfl) (by kernel_rfl)
      refine step_value (v := .int .i64 (k : Int)) (w' := wx) rfl (by simp [Region.wanted, yielded, q224]) ?_ (Below.refl _ _) (fun d hd => by cases hd; exact rfl)
      go_simp
    · have q9 := (hG.old 9 (by kernel_rfl) (by kernel_rfl)).trans o9
      obtain ⟨_, q224, rfl⟩ := hG.new 224 (by kernel_rfl) (by kernel_rfl)
      refine step_value (v := .slice (some adC) nC cC) (w' := wx) rfl (by simp [Region.wanted, yielded, q224]) ?_ (Below.refl _ _) (fun d hd => by cases hd; exact rfl)
      go_simp
    · obtain ⟨_, q226, rfl⟩ := hG.new 226 (by kernel_rfl) (by kernel_rfl)
      obtain ⟨_, q224, rfl⟩ := hG.new 224 (by kernel_rfl) (by kernel_rfl)
      refine step_value (v := .int .i64 (nC : Int)) (w' := wx) rfl (by simp [Region.wanted, yielded, q224]) ?_ (Below.refl _ _) (fun d hd => by cases hd; exact rfl)
      go_simp
    · obtain ⟨_, q225, rfl⟩ := hG.new 225 (by kernel_rfl) (by kernel_rfl)
      obtain ⟨_, q227, rfl⟩ := hG.new 227 (by kernel_rfl) (by kernel_rfl)
      obtain ⟨_, q224, rfl⟩ := hG.new 224 (by kernel_rfl) (by kernel_rfl)
      refine step_value (v := .bool false) (w' := wx) rfl (by simp [Region.wanted, yielded, q224]) ?_ (Below.refl _ _) (fun d hd => by cases hd; exact rfl)
      have hq := HLTC.out
      have hq1 := HGEC.out
      have hq2 := HGFC.out
      go_simp
    · obtain ⟨_, q224, rfl⟩ := hG.new 224 (by kernel_rfl) (by kernel_rfl)
      obtain ⟨_, q228, rfl⟩ := hG.new 228 (by kernel_rfl) (by kernel_rfl)
      obtain ⟨_, q220, rfl⟩ := hG.new 220 (by kernel_rfl) (by kernel_rfl)
      refine step_value (v := .bool false) (w' := wx) rfl (by simp [Region.wanted, yielded, q220]) ?_ (Below.refl _ _) (fun d hd => by cases hd; exact rfl)
      go_simp
    · obtain ⟨_, q229, rfl⟩ := hG.new 229 (by kernel_rfl) (by kernel_rfl)
      obtain ⟨_, q220, rfl⟩ := hG.new 220 (by kernel_rfl) (by kernel_rfl)
      refine step_value (v := .bool false) (w' := wx) rfl (by simp [Region.wanted, yielded, q220]) ?_ (Below.refl _ _) (fun d hd => by cases hd; exact rfl)
      go_simp
    · have q9 := (hG.old 9 (by kernel_rfl) (by kernel_rfl)).trans o9
      obtain ⟨_, q230, rfl⟩ := hG.new 230 (by kernel_rfl) (by kernel_rfl)
      refine step_value (v := .slice (some adC) nC cC) (w' := wx) rfl (by simp [Region.wanted, yielded, q230]) ?_ (Below.refl _ _) (fun d hd => by cases hd; exact rfl)
      go_simp
    · have q23 := (hG.old 23 (by kernel_rfl) (by kernel_rfl)).trans o23
      obtain ⟨_, q230, rfl⟩ := hG.new 230 (by kernel_rfl) (by kernel_rfl)
      refine step_value (v := .int .i64 (k : Int)) (w' := wx) rfl (by simp [Region.wanted, yielded, q230]) ?_ (Below.refl _ _) (fun d hd => by cases hd; exact rfl)
      go_simp
    · obtain ⟨_, q231, rfl⟩ := hG.new 231 (by kernel_rfl) (by kernel_rfl)
      obtain ⟨_, q232, rfl⟩ := hG.new 232 (by kernel_rfl) (by kernel_rfl)
      obtain ⟨_, q230, rfl⟩ := hG.new 230 (by kernel_rfl) (by kernel_rfl)
      refine step_value (v := .pointer (some (adC.add (k * 6)))) (w' := wx) rfl (by simp [Region.wanted, yielded, q230]) ?_ (Below.refl _ _) (fun d hd => by cases hd; exact rfl)
      have hq := HLTC.out
      go_simp
    · obtain ⟨_, q233, rfl⟩ := hG.new 233 (by kernel_rfl) (by kernel_rfl)
      obtain ⟨_, q230, rfl⟩ := hG.new 230 (by kernel_rfl) (by kernel_rfl)
      obtain ⟨z0, z1, z2, z3, z4, z5⟩ := HVC.out wx hS
      refine step_value (v := .agg #[.int .i64 cs, .string ck, .bool ch, .string cb, .bool cg, .string ca]) (w' := wx) rfl (by simp [Region.wanted, yielded, q230]) ?_ (Below.refl _ _) (fun d hd => by cases hd; exact rfl)
      go_simp
    · have q28 := (hG.old 28 (by kernel_rfl) (by kernel_rfl)).trans o28
      obtain ⟨_, q230, rfl⟩ := hG.new 230 (by kernel_rfl) (by kernel_rfl)
      obtain ⟨z0, z1, z2, z3, z4, z5⟩ := HXC.out wx hS
      refine step_value (v := .agg #[.int .i64 cs, .string ck, .bool ch, .string cb, .bool cg, .string ca]) (w' := wx) rfl (by simp [Region.wanted, yielded, q230]) ?_ (Below.refl _ _) (fun d hd => by cases hd; exact rfl)
      go_simp
    · obtain ⟨_, q234, rfl⟩ := hG.new 234 (by kernel_rfl) (by kernel_rfl)
      obtain ⟨_, q235, rfl⟩ := hG.new 235 (by kernel_rfl) (by kernel_rfl)
      obtain ⟨_, q230, rfl⟩ := hG.new 230 (by kernel_rfl) (by kernel_rfl)
      refine step_value (v := .bool false) (w' := wx) rfl (by simp [Region.wanted, yielded, q230]) ?_ (Below.refl _ _) (fun d hd => by cases hd; exact rfl)
      go_simp
    · obtain ⟨_, q230, rfl⟩ := hG.new 230 (by kernel_rfl) (by kernel_rfl)
      obtain ⟨_, q236, rfl⟩ := hG.new 236 (by kernel_rfl) (by kernel_rfl)
      obtain ⟨_, q220, rfl⟩ := hG.new 220 (by kernel_rfl) (by kernel_rfl)
      refine step_value (v := .bool false) (w' := wx) rfl (by simp [Region.wanted, yielded, q220]) ?_ (Below.refl _ _) (fun d hd => by cases hd; exact rfl)
      go_simp
    · obtain ⟨_, q220, rfl⟩ := hG.new 220 (by kernel_rfl) (by kernel_rfl)
      obtain ⟨_, q237, rfl⟩ := hG.new 237 (by kernel_rfl) (by kernel_rfl)
      obtain ⟨_, q217, rfl⟩ := hG.new 217 (by kernel_rfl) (by kernel_rfl)
      refine step_value (v := .bool false) (w' := wx) rfl (by simp [Region.wanted, yielded, q217]) ?_ (Below.refl _ _) (fun d hd => by cases hd; exact rfl)
      go_simp
    · obtain ⟨_, q217, rfl⟩ := hG.new 217 (by kernel_rfl) (by kernel_rfl)
      obtain ⟨_, q238, rfl⟩ := hG.new 238 (by kernel_rfl) (by kernel_rfl)
      refine step_value (v := .bool false) (w' := wx) rfl rfl ?_ (Below.refl _ _) (fun d hd => by cases hd; exact rfl)
      go_simp
  intro fv wf hSf hV8
  have e239 : fv 239 = .bool false := hV8 239 (by decide)
  exact done fv wf hSf e239

def TkV100 (gG k : Nat) (adN : Addr) (nN cN : Nat) (xk : Int) (xkey xval : ByteArray) (xn : UInt64) (t : Nat) (v : Value) (w : World) : Prop :=
  match t with
  | 173 => v = .int .i64 0
  | 174 => v = .bool true
  | 175 => v = .bool true
  | 176 => v = .pointer (some ⟨gG, 0, none⟩)
  | 177 => v = .bool true
  | 178 => v = .bool false
  | 179 => v = .bool false
  | 180 => v = .int .i64 (k : Int)
  | 181 => v = .slice (some adN) nN cN
  | 182 => v = .int .i64 (nN : Int)
  | 183 => v = .bool false
  | 184 => v = .bool false
  | 185 => v = .bool false
  | 186 => v = .slice (some adN) nN cN
  | 187 => v = .int .i64 (k : Int)
  | 188 => v = .pointer (some (adN.add (k * 4)))
  | 189 => v = .agg #[.int .i64 xk, .string xkey, .string xval, .int .u64 (xn.toNat : Int)]
  | 190 => v = .agg #[.int .i64 xk, .string xkey, .string xval, .int .u64 (xn.toNat : Int)]
  | 191 => v = .bool false
  | 192 => v = .bool false
  | 193 => v = .bool false
  | 194 => v = .bool false
  | 195 => v = .int .i64 2
  | 196 => v = .bool false
  | 197 => v = .bool false
  | 198 => v = undef
  | 199 => v = undef
  | 200 => v = undef
  | 201 => v = undef
  | 202 => v = undef
  | 203 => v = undef
  | 204 => v = undef
  | 205 => v = undef
  | 206 => v = undef
  | 207 => v = undef
  | 208 => v = undef
  | 209 => v = undef
  | 210 => v = undef
  | 211 => v = undef
  | 212 => v = undef
  | 213 => v = undef
  | 214 => v = undef
  | 215 => v = .bool false
  | 216 => v = .bool false
  | 217 => v = .bool false
  | 218 => v = .int .i64 2
  | 219 => v = .bool false
  | 220 => v = .bool false
  | 221 => v = undef
  | 222 => v = undef
  | 223 => v = undef
  | 224 => v = undef
  | 225 => v = undef
  | 226 => v = undef
  | 227 => v = undef
  | 228 => v = undef
  | 229 => v = undef
  | 230 => v = undef
  | 231 => v = undef
  | 232 => v = undef
  | 233 => v = undef
  | 234 => v = undef
  | 235 => v = undef
  | 236 => v = undef
  | 237 => v = undef
  | 238 => v = .bool false
  | 239 => v = .bool false
  | _ => True
theorem TkV100.on {gG k : Nat} {adN : Addr} {nN cN : Nat} {xk : Int} {xkey xval : ByteArray} {xn : UInt64} {t : Nat} {v : Value} {w w' : World} (h : TkV100 gG k adN nN cN xk xkey xval xn t v w) (hb : Below w.heap.size w w') : TkV100 gG k adN nN cN xk xkey xval xn t v w' := by
  unfold TkV100 at *
  split at h <;> first | exact h | exact h

set_option maxRecDepth 100000 in
set_option maxHeartbeats 4000000 in
theorem tk28_100 (gG k : Nat) (adN : Addr) (nN cN : Nat) (xk : Int) (xkey xval : ByteArray) (xn : UInt64) (a0 : Act) (w0 : World) (Q : Exit → Act → World → Prop) (hsz : a0.tmps.size = 315) (o21 : a0.tmps[21]? = some (.pointer (some ⟨gG, 0, none⟩))) (o23 : a0.tmps[23]? = some (.int .i64 (k : Int))) (o5 : a0.tmps[5]? = some (.int .i64 0)) (gxN : Nat) (o3 : a0.tmps[3]? = some (.slice (some adN) nN cN)) (o24 : a0.tmps[24]? = some (.pointer (some ⟨gxN, 0, none⟩))) (HLTN : Hid (k < nN)) (HGEN : Hid (decide ((nN : Int) ≤ (k : Int)) = false)) (HGFN : Hid (decide (nN ≤ k) = false)) (HGN : Hid (∀ wx, Below w0.heap.size w0 wx → wx.cell? ⟨gG, 0, none⟩ = some (.bool true))) (HVN : Hid (∀ wx, Below w0.heap.size w0 wx → wx.cell? (adN.add (k * 4)) = some (.int .i64 xk) ∧ wx.cell? ⟨(adN.add (k * 4)).block, (adN.add (k * 4)).off + 1, none⟩ = some (.string xkey) ∧ wx.cell? ⟨(adN.add (k * 4)).block, (adN.add (k * 4)).off + 2, none⟩ = some (.string xval) ∧ wx.cell? ⟨(adN.add (k * 4)).block, (adN.add (k * 4)).off + 3, none⟩ = some (.int .u64 (xn.toNat : Int)))) (HXN : Hid (∀ wx, Below w0.heap.size w0 wx → wx.cell? ⟨gxN, 0, none⟩ = some (.int .i64 xk) ∧ wx.cell? ⟨gxN, 1, none⟩ = some (.string xkey) ∧ wx.cell? ⟨gxN, 2, none⟩ = some (.string xval) ∧ wx.cell? ⟨gxN, 3, none⟩ = some (.int .u64 (xn.toNat : Int)))) (o8 : a0.tmps[8]? = some (.int .i64 2)) (o11 : a0.tmps[11]? = some (.int .i64 2))
    (done : ∀ (fv : Nat → Value) (wf : World), Below w0.heap.size w0 wf → fv 239 = .bool false → Q .normal (puts a0 [173, 174, 175, 176, 177, 178, 179, 180, 181, 182, 183, 184, 185, 186, 187, 188, 189, 190, 191, 192, 193, 194, 195, 196, 197, 198, 199, 200, 201, 202, 203, 204, 205, 206, 207, 208, 209, 210, 211, 212, 213, 214, 215, 216, 217, 218, 219, 220, 221, 222, 223, 224, 225, 226, 227, 228, 229, 230, 231, 232, 233, 234, 235, 236, 237, 238, 239] fv) wf) : Code.wp Try.prog rg28 Q a0 w0 := by
  unfold rg28
  conv => arg 2; whnf
  refine wp_region_inv [173, 174, 175, 176, 177, 178, 179, 180, 181, 182, 183, 184, 185, 186, 187, 188, 189, 190, 191, 192, 193, 194, 195, 196, 197, 198, 199, 200, 201, 202, 203, 204, 205, 206, 207, 208, 209, 210, 211, 212, 213, 214, 215, 216, 217, 218, 219, 220, 221, 222, 223, 224, 225, 226, 227, 228, 229, 230, 231, 232, 233, 234, 235, 236, 237, 238, 239] (by kernel_rfl) (by kernel_rfl) (fun w' => Below w0.heap.size w0 w') (fun wa wb => Below wa.heap.size wa wb) (TkV100 gG k adN nN cN xk xkey xval xn) (by rw [hsz]; kernel_rfl) (fun wa wb h1 h2 => h2.trans (h1.mono h2.size)) (fun t v wa wb h1 h2 => h2.on h1) (Below.refl _ _).drew (steps_of ?_) ?_
  · skip
    refine Steps1.cons (fun ax wx hS hG => ?_) (Steps1.cons (fun ax wx hS hG => ?_) (Steps1.cons (fun ax wx hS hG => ?_) (Steps1.cons (fun ax wx hS hG => ?_) (Steps1.cons (fun ax wx hS hG => ?_) (Steps1.cons (fun ax wx hS hG => ?_) (Steps1.cons (fun ax wx hS hG => ?_) (Steps1.cons (fun ax wx hS hG => ?_) (Steps1.cons (fun ax wx hS hG => ?_) (Steps1.cons (fun ax wx hS hG => ?_) (Steps1.cons (fun ax wx hS hG => ?_) (Steps1.cons (fun ax wx hS hG => ?_) (Steps1.cons (fun ax wx hS hG => ?_) (Steps1.cons (fun ax wx hS hG => ?_) (Steps1.cons (fun ax wx hS hG => ?_) (Steps1.cons (fun ax wx hS hG => ?_) (Steps1.cons (fun ax wx hS hG => ?_) (Steps1.cons (fun ax wx hS hG => ?_) (Steps1.cons (fun ax wx hS hG => ?_) (Steps1.cons (fun ax wx hS hG => ?_) (Steps1.cons (fun ax wx hS hG => ?_) (Steps1.cons (fun ax wx hS hG => ?_) (Steps1.cons (fun ax wx hS hG => ?_) (Steps1.cons (fun ax wx hS hG => ?_) (Steps1.cons (fun ax wx hS hG => ?_) (Steps1.cons (fun ax wx hS hG => ?_) (Steps1.cons (fun ax wx hS hG => ?_) (Steps1.cons (fun ax wx hS hG => ?_) (Steps1.cons (fun ax wx hS hG => ?_) (Steps1.cons (fun ax wx hS hG => ?_) (Steps1.cons (fun ax wx hS hG => ?_) (Steps1.cons (fun ax wx hS hG => ?_) (Steps1.cons (fun ax wx hS hG => ?_) (Steps1.cons (fun ax wx hS hG => ?_) (Steps1.cons (fun ax wx hS hG => ?_) (Steps1.cons (fun ax wx hS hG => ?_) (Steps1.cons (fun ax wx hS hG => ?_) (Steps1.cons (fun ax wx hS hG => ?_) (Steps1.cons (fun ax wx hS hG => ?_) (Steps1.cons (fun ax wx hS hG => ?_) (Steps1.cons (fun ax wx hS hG => ?_) (Steps1.cons (fun ax wx hS hG => ?_) (Steps1.cons (fun ax wx hS hG => ?_) (Steps1.cons (fun ax wx hS hG => ?_) (Steps1.cons (fun ax wx hS hG => ?_) (Steps1.cons (fun ax wx hS hG => ?_) (Steps1.cons (fun ax wx hS hG => ?_) (Steps1.cons (fun ax wx hS hG => ?_) (Steps1.cons (fun ax wx hS hG => ?_) (Steps1.cons (fun ax wx hS hG => ?_) (Steps1.cons (fun ax wx hS hG => ?_) (Steps1.cons (fun ax wx hS hG => ?_) (Steps1.cons (fun ax wx hS hG => ?_) (Steps1.cons (fun ax wx hS hG => ?_) (Steps1.cons (fun ax wx hS hG => ?_) (Steps1.cons (fun ax wx hS hG => ?_) (Steps1.cons (fun ax wx hS hG => ?_) (Steps1.cons (fun ax wx hS hG => ?_) (Steps1.cons (fun ax wx hS hG => ?_) (Steps1.cons (fun ax wx hS hG => ?_) (Steps1.cons (fun ax wx hS hG => ?_) (Steps1.cons (fun ax wx hS hG => ?_) (Steps1.cons (fun ax wx hS hG => ?_) (Steps1.cons (fun ax wx hS hG => ?_) (Steps1.cons (fun ax wx hS hG => ?_) (Steps1.cons (fun ax wx hS hG => ?_) (Steps1.cons (fun ax wx hS hG => ?_) Steps1.nil))))))))))))))))))))))))))))))))))))))))))))))))))))))))))))))))))
    · have q5 := (hG.old 5 (by kernel_rfl) (by kernel_rfl)).trans o5
      refine step_value (v := .int .i64 0) (w' := wx) rfl rfl ?_ (Below.refl _ _) (fun d hd => by cases hd; exact rfl)
      go_simp
    · obtain ⟨_, q173, rfl⟩ := hG.new 173 (by kernel_rfl) (by kernel_rfl)
      refine step_value (v := .bool true) (w' := wx) rfl rfl ?_ (Below.refl _ _) (fun d hd => by cases hd; exact rfl)
      go_simp
    · obtain ⟨_, q174, rfl⟩ := hG.new 174 (by kernel_rfl) (by kernel_rfl)
      refine step_value (v := .bool true) (w' := wx) rfl rfl ?_ (Below.refl _ _) (fun d hd => by cases hd; exact rfl)
      go_simp
    · have q21 := (hG.old 21 (by kernel_rfl) (by kernel_rfl)).trans o21
      obtain ⟨_, q175, rfl⟩ := hG.new 175 (by kernel_rfl) (by kernel_rfl)
      refine step_value (v := .pointer (some ⟨gG, 0, none⟩)) (w' := wx) rfl (by simp [Region.wanted, yielded, q175]) ?_ (Below.refl _ _) (fun d hd => by cases hd; exact rfl)
      go_simp
    · obtain ⟨_, q176, rfl⟩ := hG.new 176 (by kernel_rfl) (by kernel_rfl)
      obtain ⟨_, q175, rfl⟩ := hG.new 175 (by kernel_rfl) (by kernel_rfl)
      have z0 := HGN.out wx hS
      refine step_value (v := .bool true) (w' := wx) rfl (by simp [Region.wanted, yielded, q175]) ?_ (Below.refl _ _) (fun d hd => by cases hd; exact rfl)
      go_simp
    · obtain ⟨_, q177, rfl⟩ := hG.new 177 (by kernel_rfl) (by kernel_rfl)
      obtain ⟨_, q175, rfl⟩ := hG.new 175 (by kernel_rfl) (by kernel_rfl)
      refine step_value (v := .bool false) (w' := wx) rfl (by simp [Region.wanted, yielded, q175]) ?_ (Below.refl _ _) (fun d hd => by cases hd; exact rfl)
      go_simp
    · obtain ⟨_, q178, rfl⟩ := hG.new 178 (by kernel_rfl) (by kernel_rfl)
      obtain ⟨_, q175, rfl⟩ := hG.new 175 (by kernel_rfl) (by kernel_rfl)
      refine step_value (v := .bool false) (w' := wx) rfl (by simp [Region.wanted, yielded, q175]) ?_ (Below.refl _ _) (fun d hd => by cases hd; exact rfl)
      go_simp
    · have q23 := (hG.old 23 (by kernel_rfl) (by kernel_rfl)).trans o23
      obtain ⟨_, q179, rfl⟩ := hG.new 179 (by kernel_rfl) (by kernel_rfl)
      refine step_value (v := .int .i64 (k : Int)) (w' := wx) rfl (by simp [Region.wanted, yielded, q179]) ?_ (Below.refl _ _) (fun d hd => by cases hd; exact rfl)
      go_simp
    · have q3 := (hG.old 3 (by kernel_rfl) (by kernel_rfl)).trans o3
      obtain ⟨_, q179, rfl⟩ := hG.new 179 (by kernel_rfl) (by kernel_rfl)
      refine step_value (v := .slice (some adN) nN cN) (w' := wx) rfl (by simp [Region.wanted, yielded, q179]) ?_ (Below.refl _ _) (fun d hd => by cases hd; exact rfl)
      go_simp
    · obtain ⟨_, q181, rfl⟩ := hG.new 181 (by kernel_rfl) (by kernel_rfl)
      obtain ⟨_, q179, rfl⟩ := hG.new 179 (by kernel_rfl) (by kernel_rfl)
      refine step_value (v := .int .i64 (nN : Int)) (w' := wx) rfl (by simp [Region.wanted, yielded, q179]) ?_ (Below.refl _ _) (fun d hd => by cases hd; exact rfl)
      go_simp
    · obtain ⟨_, q180, rfl⟩ := hG.new 180 (by kernel_rfl) (by kernel_rfl)
      obtain ⟨_, q182, rfl⟩ := hG.new 182 (by kernel_rfl) (by kernel_rfl)
      obtain ⟨_, q179, rfl⟩ := hG.new 179 (by kernel_rfl) (by kernel_rfl)
      refine step_value (v := .bool false) (w' := wx) rfl (by simp [Region.wanted, yielded, q179]) ?_ (Below.refl _ _) (fun d hd => by cases hd; exact rfl)
      have hq := HLTN.out
      have hq1 := HGEN.out
      have hq2 := HGFN.out
      go_simp
    · obtain ⟨_, q179, rfl⟩ := hG.new 179 (by kernel_rfl) (by kernel_rfl)
      obtain ⟨_, q183, rfl⟩ := hG.new 183 (by kernel_rfl) (by kernel_rfl)
      obtain ⟨_, q175, rfl⟩ := hG.new 175 (by kernel_rfl) (by kernel_rfl)
      refine step_value (v := .bool false) (w' := wx) rfl (by simp [Region.wanted, yielded, q175]) ?_ (Below.refl _ _) (fun d hd => by cases hd; exact rfl)
      go_simp
    · obtain ⟨_, q184, rfl⟩ := hG.new 184 (by kernel_rfl) (by kernel_rfl)
      obtain ⟨_, q175, rfl⟩ := hG.new 175 (by kernel_rfl) (by kernel_rfl)
      refine step_value (v := .bool false) (w' := wx) rfl (by simp [Region.wanted, yielded, q175]) ?_ (Below.refl _ _) (fun d hd => by cases hd; exact rfl)
      go_simp
    · have q3 := (hG.old 3 (by kernel_rfl) (by kernel_rfl)).trans o3
      obtain ⟨_, q185, rfl⟩ := hG.new 185 (by kernel_rfl) (by kernel_rfl)
      refine step_value (v := .slice (some adN) nN cN) (w' := wx) rfl (by simp [Region.wanted, yielded, q185]) ?_ (Below.refl _ _) (fun d hd => by cases hd; exact rfl)
      go_simp
    · have q23 := (hG.old 23 (by kernel_rfl) (by kernel_rfl)).trans o23
      obtain ⟨_, q185, rfl⟩ := hG.new 185 (by kernel_rfl) (by kernel_rfl)
      refine step_value (v := .int .i64 (k : Int)) (w' := wx) rfl (by simp [Region.wanted, yielded, q185]) ?_ (Below.refl _ _) (fun d hd => by cases hd; exact rfl)
      go_simp
    · obtain ⟨_, q186, rfl⟩ := hG.new 186 (by kernel_rfl) (by kernel_rfl)
      obtain ⟨_, q187, rfl⟩ := hG.new 187 (by kernel_rfl) (by kernel_rfl)
      obtain ⟨_, q185, rfl⟩ := hG.new 185 (by kernel_rfl) (by kernel_rfl)
      refine step_value (v := .pointer (some (adN.add (k * 4)))) (w' := wx) rfl (by simp [Region.wanted, yielded, q185]) ?_ (Below.refl _ _) (fun d hd => by cases hd; exact rfl)
      have hq := HLTN.out
      go_simp
    · obtain ⟨_, q188, rfl⟩ := hG.new 188 (by kernel_rfl) (by kernel_rfl)
      obtain ⟨_, q185, rfl⟩ := hG.new 185 (by kernel_rfl) (by kernel_rfl)
      obtain ⟨z0, z1, z2, z3⟩ := HVN.out wx hS
      refine step_value (v := .agg #[.int .i64 xk, .string xkey, .string xval, .int .u64 (xn.toNat : Int)]) (w' := wx) rfl (by simp [Region.wanted, yielded, q185]) ?_ (Below.refl _ _) (fun d hd => by cases hd; exact rfl)
      go_simp
    · have q24 := (hG.old 24 (by kernel_rfl) (by kernel_rfl)).trans o24
      obtain ⟨_, q185, rfl⟩ := hG.new 185 (by kernel_rfl) (by kernel_rfl)
      obtain ⟨z0, z1, z2, z3⟩ := HXN.out wx hS
      refine step_value (v := .agg #[.int .i64 xk, .string xkey, .string xval, .int .u64 (xn.toNat : Int)]) (w' := wx) rfl (by simp [Region.wanted, yielded, q185]) ?_ (Below.refl _ _) (fun d hd => by cases hd; exact rfl)
      go_simp
    · obtain ⟨_, q189, rfl⟩ := hG.new 189 (by kernel_rfl) (by kernel_rfl)
      obtain ⟨_, q190, rfl⟩ := hG.new 190 (by kernel_rfl) (by kernel_rfl)
      obtain ⟨_, q185, rfl⟩ := hG.new 185 (by kernel_rfl) (by kernel_rfl)
      refine step_value (v := .bool false) (w' := wx) rfl (by simp [Region.wanted, yielded, q185]) ?_ (Below.refl _ _) (fun d hd => by cases hd; exact rfl)
      go_simp
    · obtain ⟨_, q185, rfl⟩ := hG.new 185 (by kernel_rfl) (by kernel_rfl)
      obtain ⟨_, q191, rfl⟩ := hG.new 191 (by kernel_rfl) (by kernel_rfl)
      obtain ⟨_, q175, rfl⟩ := hG.new 175 (by kernel_rfl) (by kernel_rfl)
      refine step_value (v := .bool false) (w' := wx) rfl (by simp [Region.wanted, yielded, q175]) ?_ (Below.refl _ _) (fun d hd => by cases hd; exact rfl)
      go_simp
    · obtain ⟨_, q175, rfl⟩ := hG.new 175 (by kernel_rfl) (by kernel_rfl)
      obtain ⟨_, q192, rfl⟩ := hG.new 192 (by kernel_rfl) (by kernel_rfl)
      refine step_value (v := .bool false) (w' := wx) rfl rfl ?_ (Below.refl _ _) (fun d hd => by cases hd; exact rfl)
      go_simp
    · obtain ⟨_, q193, rfl⟩ := hG.new 193 (by kernel_rfl) (by kernel_rfl)
      refine step_value (v := .bool false) (w' := wx) rfl rfl ?_ (Below.refl _ _) (fun d hd => by cases hd; exact rfl)
      go_simp
    · have q8 := (hG.old 8 (by kernel_rfl) (by kernel_rfl)).trans o8
      obtain ⟨_, q194, rfl⟩ := hG.new 194 (by kernel_rfl) (by kernel_rfl)
      refine step_value (v := .int .i64 2) (w' := wx) rfl (by simp [Region.wanted, yielded, q194]) ?_ (Below.refl _ _) (fun d hd => by cases hd; exact rfl)
      go_simp
    · obtain ⟨_, q195, rfl⟩ := hG.new 195 (by kernel_rfl) (by kernel_rfl)
      obtain ⟨_, q194, rfl⟩ := hG.new 194 (by kernel_rfl) (by kernel_rfl)
      refine step_value (v := .bool false) (w' := wx) rfl (by simp [Region.wanted, yielded, q194]) ?_ (Below.refl _ _) (fun d hd => by cases hd; exact rfl)
      go_simp
    · obtain ⟨_, q196, rfl⟩ := hG.new 196 (by kernel_rfl) (by kernel_rfl)
      obtain ⟨_, q194, rfl⟩ := hG.new 194 (by kernel_rfl) (by kernel_rfl)
      refine step_value (v := .bool false) (w' := wx) rfl (by simp [Region.wanted, yielded, q194]) ?_ (Below.refl _ _) (fun d hd => by cases hd; exact rfl)
      go_simp
    · obtain ⟨_, q197, rfl⟩ := hG.new 197 (by kernel_rfl) (by kernel_rfl)
      refine step_past rfl (by simp [Region.wanted, yielded, q197]) (Below.refl _ _) (fun d hd => by cases hd; exact rfl)
    · obtain ⟨_, q197, rfl⟩ := hG.new 197 (by kernel_rfl) (by kernel_rfl)
      refine step_past rfl (by simp [Region.wanted, yielded, q197]) (Below.refl _ _) (fun d hd => by cases hd; exact rfl)
    · obtain ⟨_, q197, rfl⟩ := hG.new 197 (by kernel_rfl) (by kernel_rfl)
      refine step_past rfl (by simp [Region.wanted, yielded, q197]) (Below.refl _ _) (fun d hd => by cases hd; exact rfl)
    · obtain ⟨_, q197, rfl⟩ := hG.new 197 (by kernel_rfl) (by kernel_rfl)
      refine step_past rfl (by simp [Region.wanted, yielded, q197]) (Below.refl _ _) (fun d hd => by cases hd; exact rfl)
    · obtain ⟨_, q201, rfl⟩ := hG.new 201 (by kernel_rfl) (by kernel_rfl)
      refine step_past rfl (by simp [Region.wanted, yielded, q201, undef]) (Below.refl _ _) (fun d hd => by cases hd; exact rfl)
    · obtain ⟨_, q201, rfl⟩ := hG.new 201 (by kernel_rfl) (by kernel_rfl)
      refine step_past rfl (by simp [Region.wanted, yielded, q201, undef]) (Below.refl _ _) (fun d hd => by cases hd; exact rfl)
    · obtain ⟨_, q201, rfl⟩ := hG.new 201 (by kernel_rfl) (by kernel_rfl)
      refine step_past rfl (by simp [Region.wanted, yielded, q201, undef]) (Below.refl _ _) (fun d hd => by cases hd; exact rfl)
    · obtain ⟨_, q201, rfl⟩ := hG.new 201 (by kernel_rfl) (by kernel_rfl)
      refine step_past rfl (by simp [Region.wanted, yielded, q201, undef]) (Below.refl _ _) (fun d hd => by cases hd; exact rfl)
    · obtain ⟨_, q197, rfl⟩ := hG.new 197 (by kernel_rfl) (by kernel_rfl)
      refine step_past rfl (by simp [Region.wanted, yielded, q197]) (Below.refl _ _) (fun d hd => by cases hd; exact rfl)
    · obtain ⟨_, q197, rfl⟩ := hG.new 197 (by kernel_rfl) (by kernel_rfl)
      refine step_past rfl (by simp [Region.wanted, yielded, q197]) (Below.refl _ _) (fun d hd => by cases hd; exact rfl)
    · obtain ⟨_, q207, rfl⟩ := hG.new 207 (by kernel_rfl) (by kernel_rfl)
      refine step_past rfl (by simp [Region.wanted, yielded, q207, undef]) (Below.refl _ _) (fun d hd => by cases hd; exact rfl)
    · obtain ⟨_, q207, rfl⟩ := hG.new 207 (by kernel_rfl) (by kernel_rfl)
      refine step_past rfl (by simp [Region.wanted, yielded, q207, undef]) (Below.refl _ _) (fun d hd => by cases hd; exact rfl)
    · obtain ⟨_, q207, rfl⟩ := hG.new 207 (by kernel_rfl) (by kernel_rfl)
      refine step_past rfl (by simp [Region.wanted, yielded, q207, undef]) (Below.refl _ _) (fun d hd => by cases hd; exact rfl)
    · obtain ⟨_, q207, rfl⟩ := hG.new 207 (by kernel_rfl) (by kernel_rfl)
      refine step_past rfl (by simp [Region.wanted, yielded, q207, undef]) (Below.refl _ _) (fun d hd => by cases hd; exact rfl)
    · obtain ⟨_, q207, rfl⟩ := hG.new 207 (by kernel_rfl) (by kernel_rfl)
      refine step_past rfl (by simp [Region.wanted, yielded, q207, undef]) (Below.refl _ _) (fun d hd => by cases hd; exact rfl)
    · obtain ⟨_, q207, rfl⟩ := hG.new 207 (by kernel_rfl) (by kernel_rfl)
      refine step_past rfl (by simp [Region.wanted, yielded, q207, undef]) (Below.refl _ _) (fun d hd => by cases hd; exact rfl)
    · obtain ⟨_, q197, rfl⟩ := hG.new 197 (by kernel_rfl) (by kernel_rfl)
      refine step_past rfl (by simp [Region.wanted, yielded, q197]) (Below.refl _ _) (fun d hd => by cases hd; exact rfl)
    · obtain ⟨_, q197, rfl⟩ := hG.new 197 (by kernel_rfl) (by kernel_rfl)
      obtain ⟨_, q214, rfl⟩ := hG.new 214 (by kernel_rfl) (by kernel_rfl)
      obtain ⟨_, q194, rfl⟩ := hG.new 194 (by kernel_rfl) (by kernel_rfl)
      refine step_value (v := .bool false) (w' := wx) rfl (by simp [Region.wanted, yielded, q194]) ?_ (Below.refl _ _) (fun d hd => by cases hd; exact rfl)
      go_simp
    · obtain ⟨_, q194, rfl⟩ := hG.new 194 (by kernel_rfl) (by kernel_rfl)
      obtain ⟨_, q215, rfl⟩ := hG.new 215 (by kernel_rfl) (by kernel_rfl)
      refine step_value (v := .bool false) (w' := wx) rfl rfl ?_ (Below.refl _ _) (fun d hd => by cases hd; exact rfl)
      go_simp
    · obtain ⟨_, q216, rfl⟩ := hG.new 216 (by kernel_rfl) (by kernel_rfl)
      refine step_value (v := .bool false) (w' := wx) rfl rfl ?_ (Below.refl _ _) (fun d hd => by cases hd; exact rfl)
      go_simp
    · have q11 := (hG.old 11 (by kernel_rfl) (by kernel_rfl)).trans o11
      obtain ⟨_, q217, rfl⟩ := hG.new 217 (by kernel_rfl) (by kernel_rfl)
      refine step_value (v := .int .i64 2) (w' := wx) rfl (by simp [Region.wanted, yielded, q217]) ?_ (Below.refl _ _) (fun d hd => by cases hd; exact rfl)
      go_simp
    · obtain ⟨_, q218, rfl⟩ := hG.new 218 (by kernel_rfl) (by kernel_rfl)
      obtain ⟨_, q217, rfl⟩ := hG.new 217 (by kernel_rfl) (by kernel_rfl)
      refine step_value (v := .bool false) (w' := wx) rfl (by simp [Region.wanted, yielded, q217]) ?_ (Below.refl _ _) (fun d hd => by cases hd; exact rfl)
      go_simp
    · obtain ⟨_, q219, rfl⟩ := hG.new 219 (by kernel_rfl) (by kernel_rfl)
      obtain ⟨_, q217, rfl⟩ := hG.new 217 (by kernel_rfl) (by kernel_rfl)
      refine step_value (v := .bool false) (w' := wx) rfl (by simp [Region.wanted, yielded, q217]) ?_ (Below.refl _ _) (fun d hd => by cases hd; exact rfl)
      go_simp
    · obtain ⟨_, q220, rfl⟩ := hG.new 220 (by kernel_rfl) (by kernel_rfl)
      refine step_past rfl (by simp [Region.wanted, yielded, q220]) (Below.refl _ _) (fun d hd => by cases hd; exact rfl)
    · obtain ⟨_, q220, rfl⟩ := hG.new 220 (by kernel_rfl) (by kernel_rfl)
      refine step_past rfl (by simp [Region.wanted, yielded, q220]) (Below.refl _ _) (fun d hd => by cases hd; exact rfl)
    · obtain ⟨_, q220, rfl⟩ := hG.new 220 (by kernel_rfl) (by kernel_rfl)
      refine step_past rfl (by simp [Region.wanted, yielded, q220]) (Below.refl _ _) (fun d hd => by cases hd; exact rfl)
    · obtain ⟨_, q220, rfl⟩ := hG.new 220 (by kernel_rfl) (by kernel_rfl)
      refine step_past rfl (by simp [Region.wanted, yielded, q220]) (Below.refl _ _) (fun d hd => by cases hd; exact rfl)
    · obtain ⟨_, q224, rfl⟩ := hG.new 224 (by kernel_rfl) (by kernel_rfl)
      refine step_past rfl (by simp [Region.wanted, yielded, q224, undef]) (Below.refl _ _) (fun d hd => by cases hd; exact rfl)
    · obtain ⟨_, q224, rfl⟩ := hG.new 224 (by kernel_rfl) (by kernel_rfl)
      refine step_past rfl (by simp [Region.wanted, yielded, q224, undef]) (Below.refl _ _) (fun d hd => by cases hd; exact rfl)
    · obtain ⟨_, q224, rfl⟩ := hG.new 224 (by kernel_rfl) (by kernel_rfl)
      refine step_past rfl (by simp [Region.wanted, yielded, q224, undef]) (Below.refl _ _) (fun d hd => by cases hd; exact rfl)
    · obtain ⟨_, q224, rfl⟩ := hG.new 224 (by kernel_rfl) (by kernel_rfl)
      refine step_past rfl (by simp [Region.wanted, yielded, q224, undef]) (Below.refl _ _) (fun d hd => by cases hd; exact rfl)
    · obtain ⟨_, q220, rfl⟩ := hG.new 220 (by kernel_rfl) (by kernel_rfl)
      refine step_past rfl (by simp [Region.wanted, yielded, q220]) (Below.refl _ _) (fun d hd => by cases hd; exact rfl)
    · obtain ⟨_, q220, rfl⟩ := hG.new 220 (by kernel_rfl) (by kernel_rfl)
      refine step_past rfl (by simp [Region.wanted, yielded, q220]) (Below.refl _ _) (fun d hd => by cases hd; exact rfl)
    · obtain ⟨_, q230, rfl⟩ := hG.new 230 (by kernel_rfl) (by kernel_rfl)
      refine step_past rfl (by simp [Region.wanted, yielded, q230, undef]) (Below.refl _ _) (fun d hd => by cases hd; exact rfl)
    · obtain ⟨_, q230, rfl⟩ := hG.new 230 (by kernel_rfl) (by kernel_rfl)
      refine step_past rfl (by simp [Region.wanted, yielded, q230, undef]) (Below.refl _ _) (fun d hd => by cases hd; exact rfl)
    · obtain ⟨_, q230, rfl⟩ := hG.new 230 (by kernel_rfl) (by kernel_rfl)
      refine step_past rfl (by simp [Region.wanted, yielded, q230, undef]) (Below.refl _ _) (fun d hd => by cases hd; exact rfl)
    · obtain ⟨_, q230, rfl⟩ := hG.new 230 (by kernel_rfl) (by kernel_rfl)
      refine step_past rfl (by simp [Region.wanted, yielded, q230, undef]) (Below.refl _ _) (fun d hd => by cases hd; exact rfl)
    · obtain ⟨_, q230, rfl⟩ := hG.new 230 (by kernel_rfl) (by kernel_rfl)
      refine step_past rfl (by simp [Region.wanted, yielded, q230, undef]) (Below.refl _ _) (fun d hd => by cases hd; exact rfl)
    · obtain ⟨_, q230, rfl⟩ := hG.new 230 (by kernel_rfl) (by kernel_rfl)
      refine step_past rfl (by simp [Region.wanted, yielded, q230, undef]) (Below.refl _ _) (fun d hd => by cases hd; exact rfl)
    · obtain ⟨_, q220, rfl⟩ := hG.new 220 (by kernel_rfl) (by kernel_rfl)
      refine step_past rfl (by simp [Region.wanted, yielded, q220]) (Below.refl _ _) (fun d hd => by cases hd; exact rfl)
    · obtain ⟨_, q220, rfl⟩ := hG.new 220 (by kernel_rfl) (by kernel_rfl)
      obtain ⟨_, q237, rfl⟩ := hG.new 237 (by kernel_rfl) (by kernel_rfl)
      obtain ⟨_, q217, rfl⟩ := hG.new 217 (by kernel_rfl) (by kernel_rfl)
      refine step_value (v := .bool false) (w' := wx) rfl (by simp [Region.wanted, yielded, q217]) ?_ (Below.refl _ _) (fun d hd => by cases hd; exact rfl)
      go_simp
    · obtain ⟨_, q217, rfl⟩ := hG.new 217 (by kernel_rfl) (by kernel_rfl)
      obtain ⟨_, q238, rfl⟩ := hG.new 238 (by kernel_rfl) (by kernel_rfl)
      refine step_value (v := .bool false) (w' := wx) rfl rfl ?_ (Below.refl _ _) (fun d hd => by cases hd; exact rfl)
      go_simp
  intro fv wf hSf hV8
  have e239 : fv 239 = .bool false := hV8 239 (by decide)
  exact done fv wf hSf e239

def TkV101 (gG k : Nat) (adN : Addr) (nN cN : Nat) (xk : Int) (xkey xval : ByteArray) (xn : UInt64) (adC : Addr) (nC cC : Nat) (cs : Int) (ck cb ca : ByteArray) (ch cg : Bool) (t : Nat) (v : Value) (w : World) : Prop :=
  match t with
  | 173 => v = .int .i64 0
  | 174 => v = .bool true
  | 175 => v = .bool true
  | 176 => v = .pointer (some ⟨gG, 0, none⟩)
  | 177 => v = .bool true
  | 178 => v = .bool false
  | 179 => v = .bool false
  | 180 => v = .int .i64 (k : Int)
  | 181 => v = .slice (some adN) nN cN
  | 182 => v = .int .i64 (nN : Int)
  | 183 => v = .bool false
  | 184 => v = .bool false
  | 185 => v = .bool false
  | 186 => v = .slice (some adN) nN cN
  | 187 => v = .int .i64 (k : Int)
  | 188 => v = .pointer (some (adN.add (k * 4)))
  | 189 => v = .agg #[.int .i64 xk, .string xkey, .string xval, .int .u64 (xn.toNat : Int)]
  | 190 => v = .agg #[.int .i64 xk, .string xkey, .string xval, .int .u64 (xn.toNat : Int)]
  | 191 => v = .bool false
  | 192 => v = .bool false
  | 193 => v = .bool false
  | 194 => v = .bool false
  | 195 => v = .int .i64 2
  | 196 => v = .bool false
  | 197 => v = .bool false
  | 198 => v = undef
  | 199 => v = undef
  | 200 => v = undef
  | 201 => v = undef
  | 202 => v = undef
  | 203 => v = undef
  | 204 => v = undef
  | 205 => v = undef
  | 206 => v = undef
  | 207 => v = undef
  | 208 => v = undef
  | 209 => v = undef
  | 210 => v = undef
  | 211 => v = undef
  | 212 => v = undef
  | 213 => v = undef
  | 214 => v = undef
  | 215 => v = .bool false
  | 216 => v = .bool false
  | 217 => v = .bool false
  | 218 => v = .int .i64 0
  | 219 => v = .bool true
  | 220 => v = .bool true
  | 221 => v = .pointer (some ⟨gG, 2, none⟩)
  | 222 => v = .bool true
  | 223 => v = .bool false
  | 224 => v = .bool false
  | 225 => v = .int .i64 (k : Int)
  | 226 => v = .slice (some adC) nC cC
  | 227 => v = .int .i64 (nC : Int)
  | 228 => v = .bool false
  | 229 => v = .bool false
  | 230 => v = .bool false
  | 231 => v = .slice (some adC) nC cC
  | 232 => v = .int .i64 (k : Int)
  | 233 => v = .pointer (some (adC.add (k * 6)))
  | 234 => v = .agg #[.int .i64 cs, .string ck, .bool ch, .string cb, .bool cg, .string ca]
  | 235 => v = .agg #[.int .i64 cs, .string ck, .bool ch, .string cb, .bool cg, .string ca]
  | 236 => v = .bool false
  | 237 => v = .bool false
  | 238 => v = .bool false
  | 239 => v = .bool false
  | _ => True
theorem TkV101.on {gG k : Nat} {adN : Addr} {nN cN : Nat} {xk : Int} {xkey xval : ByteArray} {xn : UInt64} {adC : Addr} {nC cC : Nat} {cs : Int} {ck cb ca : ByteArray} {ch cg : Bool} {t : Nat} {v : Value} {w w' : World} (h : TkV101 gG k adN nN cN xk xkey xval xn adC nC cC cs ck cb ca ch cg t v w) (hb : Below w.heap.size w w') : TkV101 gG k adN nN cN xk xkey xval xn adC nC cC cs ck cb ca ch cg t v w' := by
  unfold TkV101 at *
  split at h <;> first | exact h | exact h

set_option maxRecDepth 100000 in
set_option maxHeartbeats 4000000 in
theorem tk28_101 (gG k : Nat) (adN : Addr) (nN cN : Nat) (xk : Int) (xkey xval : ByteArray) (xn : UInt64) (adC : Addr) (nC cC : Nat) (cs : Int) (ck cb ca : ByteArray) (ch cg : Bool) (a0 : Act) (w0 : World) (Q : Exit → Act → World → Prop) (hsz : a0.tmps.size = 315) (o21 : a0.tmps[21]? = some (.pointer (some ⟨gG, 0, none⟩))) (o23 : a0.tmps[23]? = some (.int .i64 (k : Int))) (o5 : a0.tmps[5]? = some (.int .i64 0)) (gxN : Nat) (o3 : a0.tmps[3]? = some (.slice (some adN) nN cN)) (o24 : a0.tmps[24]? = some (.pointer (some ⟨gxN, 0, none⟩))) (HLTN : Hid (k < nN)) (HGEN : Hid (decide ((nN : Int) ≤ (k : Int)) = false)) (HGFN : Hid (decide (nN ≤ k) = false)) (HGN : Hid (∀ wx, Below w0.heap.size w0 wx → wx.cell? ⟨gG, 0, none⟩ = some (.bool true))) (HVN : Hid (∀ wx, Below w0.heap.size w0 wx → wx.cell? (adN.add (k * 4)) = some (.int .i64 xk) ∧ wx.cell? ⟨(adN.add (k * 4)).block, (adN.add (k * 4)).off + 1, none⟩ = some (.string xkey) ∧ wx.cell? ⟨(adN.add (k * 4)).block, (adN.add (k * 4)).off + 2, none⟩ = some (.string xval) ∧ wx.cell? ⟨(adN.add (k * 4)).block, (adN.add (k * 4)).off + 3, none⟩ = some (.int .u64 (xn.toNat : Int)))) (HXN : Hid (∀ wx, Below w0.heap.size w0 wx → wx.cell? ⟨gxN, 0, none⟩ = some (.int .i64 xk) ∧ wx.cell? ⟨gxN, 1, none⟩ = some (.string xkey) ∧ wx.cell? ⟨gxN, 2, none⟩ = some (.string xval) ∧ wx.cell? ⟨gxN, 3, none⟩ = some (.int .u64 (xn.toNat : Int)))) (o8 : a0.tmps[8]? = some (.int .i64 2)) (o11 : a0.tmps[11]? = some (.int .i64 0)) (gxC : Nat) (o9 : a0.tmps[9]? = some (.slice (some adC) nC cC)) (o28 : a0.tmps[28]? = some (.pointer (some ⟨gxC, 0, none⟩))) (HLTC : Hid (k < nC)) (HGEC : Hid (decide ((nC : Int) ≤ (k : Int)) = false)) (HGFC : Hid (decide (nC ≤ k) = false)) (HGC : Hid (∀ wx, Below w0.heap.size w0 wx → wx.cell? ⟨gG, 2, none⟩ = some (.bool true))) (HVC : Hid (∀ wx, Below w0.heap.size w0 wx → wx.cell? (adC.add (k * 6)) = some (.int .i64 cs) ∧ wx.cell? ⟨(adC.add (k * 6)).block, (adC.add (k * 6)).off + 1, none⟩ = some (.string ck) ∧ wx.cell? ⟨(adC.add (k * 6)).block, (adC.add (k * 6)).off + 2, none⟩ = some (.bool ch) ∧ wx.cell? ⟨(adC.add (k * 6)).block, (adC.add (k * 6)).off + 3, none⟩ = some (.string cb) ∧ wx.cell? ⟨(adC.add (k * 6)).block, (adC.add (k * 6)).off + 4, none⟩ = some (.bool cg) ∧ wx.cell? ⟨(adC.add (k * 6)).block, (adC.add (k * 6)).off + 5, none⟩ = some (.string ca))) (HXC : Hid (∀ wx, Below w0.heap.size w0 wx → wx.cell? ⟨gxC, 0, none⟩ = some (.int .i64 cs) ∧ wx.cell? ⟨gxC, 1, none⟩ = some (.string ck) ∧ wx.cell? ⟨gxC, 2, none⟩ = some (.bool ch) ∧ wx.cell? ⟨gxC, 3, none⟩ = some (.string cb) ∧ wx.cell? ⟨gxC, 4, none⟩ = some (.bool cg) ∧ wx.cell? ⟨gxC, 5, none⟩ = some (.string ca)))
    (done : ∀ (fv : Nat → Value) (wf : World), Below w0.heap.size w0 wf → fv 239 = .bool false → Q .normal (puts a0 [173, 174, 175, 176, 177, 178, 179, 180, 181, 182, 183, 184, 185, 186, 187, 188, 189, 190, 191, 192, 193, 194, 195, 196, 197, 198, 199, 200, 201, 202, 203, 204, 205, 206, 207, 208, 209, 210, 211, 212, 213, 214, 215, 216, 217, 218, 219, 220, 221, 222, 223, 224, 225, 226, 227, 228, 229, 230, 231, 232, 233, 234, 235, 236, 237, 238, 239] fv) wf) : Code.wp Try.prog rg28 Q a0 w0 := by
  unfold rg28
  conv => arg 2; whnf
  refine wp_region_inv [173, 174, 175, 176, 177, 178, 179, 180, 181, 182, 183, 184, 185, 186, 187, 188, 189, 190, 191, 192, 193, 194, 195, 196, 197, 198, 199, 200, 201, 202, 203, 204, 205, 206, 207, 208, 209, 210, 211, 212, 213, 214, 215, 216, 217, 218, 219, 220, 221, 222, 223, 224, 225, 226, 227, 228, 229, 230, 231, 232, 233, 234, 235, 236, 237, 238, 239] (by kernel_rfl) (by kernel_rfl) (fun w' => Below w0.heap.size w0 w') (fun wa wb => Below wa.heap.size wa wb) (TkV101 gG k adN nN cN xk xkey xval xn adC nC cC cs ck cb ca ch cg) (by rw [hsz]; kernel_rfl) (fun wa wb h1 h2 => h2.trans (h1.mono h2.size)) (fun t v wa wb h1 h2 => h2.on h1) (Below.refl _ _).drew (steps_of ?_) ?_
  · skip
    refine Steps1.cons (fun ax wx hS hG => ?_) (Steps1.cons (fun ax wx hS hG => ?_) (Steps1.cons (fun ax wx hS hG => ?_) (Steps1.cons (fun ax wx hS hG => ?_) (Steps1.cons (fun ax wx hS hG => ?_) (Steps1.cons (fun ax wx hS hG => ?_) (Steps1.cons (fun ax wx hS hG => ?_) (Steps1.cons (fun ax wx hS hG => ?_) (Steps1.cons (fun ax wx hS hG => ?_) (Steps1.cons (fun ax wx hS hG => ?_) (Steps1.cons (fun ax wx hS hG => ?_) (Steps1.cons (fun ax wx hS hG => ?_) (Steps1.cons (fun ax wx hS hG => ?_) (Steps1.cons (fun ax wx hS hG => ?_) (Steps1.cons (fun ax wx hS hG => ?_) (Steps1.cons (fun ax wx hS hG => ?_) (Steps1.cons (fun ax wx hS hG => ?_) (Steps1.cons (fun ax wx hS hG => ?_) (Steps1.cons (fun ax wx hS hG => ?_) (Steps1.cons (fun ax wx hS hG => ?_) (Steps1.cons (fun ax wx hS hG => ?_) (Steps1.cons (fun ax wx hS hG => ?_) (Steps1.cons (fun ax wx hS hG => ?_) (Steps1.cons (fun ax wx hS hG => ?_) (Steps1.cons (fun ax wx hS hG => ?_) (Steps1.cons (fun ax wx hS hG => ?_) (Steps1.cons (fun ax wx hS hG => ?_) (Steps1.cons (fun ax wx hS hG => ?_) (Steps1.cons (fun ax wx hS hG => ?_) (Steps1.cons (fun ax wx hS hG => ?_) (Steps1.cons (fun ax wx hS hG => ?_) (Steps1.cons (fun ax wx hS hG => ?_) (Steps1.cons (fun ax wx hS hG => ?_) (Steps1.cons (fun ax wx hS hG => ?_) (Steps1.cons (fun ax wx hS hG => ?_) (Steps1.cons (fun ax wx hS hG => ?_) (Steps1.cons (fun ax wx hS hG => ?_) (Steps1.cons (fun ax wx hS hG => ?_) (Steps1.cons (fun ax wx hS hG => ?_) (Steps1.cons (fun ax wx hS hG => ?_) (Steps1.cons (fun ax wx hS hG => ?_) (Steps1.cons (fun ax wx hS hG => ?_) (Steps1.cons (fun ax wx hS hG => ?_) (Steps1.cons (fun ax wx hS hG => ?_) (Steps1.cons (fun ax wx hS hG => ?_) (Steps1.cons (fun ax wx hS hG => ?_) (Steps1.cons (fun ax wx hS hG => ?_) (Steps1.cons (fun ax wx hS hG => ?_) (Steps1.cons (fun ax wx hS hG => ?_) (Steps1.cons (fun ax wx hS hG => ?_) (Steps1.cons (fun ax wx hS hG => ?_) (Steps1.cons (fun ax wx hS hG => ?_) (Steps1.cons (fun ax wx hS hG => ?_) (Steps1.cons (fun ax wx hS hG => ?_) (Steps1.cons (fun ax wx hS hG => ?_) (Steps1.cons (fun ax wx hS hG => ?_) (Steps1.cons (fun ax wx hS hG => ?_) (Steps1.cons (fun ax wx hS hG => ?_) (Steps1.cons (fun ax wx hS hG => ?_) (Steps1.cons (fun ax wx hS hG => ?_) (Steps1.cons (fun ax wx hS hG => ?_) (Steps1.cons (fun ax wx hS hG => ?_) (Steps1.cons (fun ax wx hS hG => ?_) (Steps1.cons (fun ax wx hS hG => ?_) (Steps1.cons (fun ax wx hS hG => ?_) (Steps1.cons (fun ax wx hS hG => ?_) (Steps1.cons (fun ax wx hS hG => ?_) Steps1.nil))))))))))))))))))))))))))))))))))))))))))))))))))))))))))))))))))
    · have q5 := (hG.old 5 (by kernel_rfl) (by kernel_rfl)).trans o5
      refine step_value (v := .int .i64 0) (w' := wx) rfl rfl ?_ (Below.refl _ _) (fun d hd => by cases hd; exact rfl)
      go_simp
    · obtain ⟨_, q173, rfl⟩ := hG.new 173 (by kernel_rfl) (by kernel_rfl)
      refine step_value (v := .bool true) (w' := wx) rfl rfl ?_ (Below.refl _ _) (fun d hd => by cases hd; exact rfl)
      go_simp
    · obtain ⟨_, q174, rfl⟩ := hG.new 174 (by kernel_rfl) (by kernel_rfl)
      refine step_value (v := .bool true) (w' := wx) rfl rfl ?_ (Below.refl _ _) (fun d hd => by cases hd; exact rfl)
      go_simp
    · have q21 := (hG.old 21 (by kernel_rfl) (by kernel_rfl)).trans o21
      obtain ⟨_, q175, rfl⟩ := hG.new 175 (by kernel_rfl) (by kernel_rfl)
      refine step_value (v := .pointer (some ⟨gG, 0, none⟩)) (w' := wx) rfl (by simp [Region.wanted, yielded, q175]) ?_ (Below.refl _ _) (fun d hd => by cases hd; exact rfl)
      go_simp
    · obtain ⟨_, q176, rfl⟩ := hG.new 176 (by kernel_rfl) (by kernel_rfl)
      obtain ⟨_, q175, rfl⟩ := hG.new 175 (by kernel_rfl) (by kernel_rfl)
      have z0 := HGN.out wx hS
      refine step_value (v := .bool true) (w' := wx) rfl (by simp [Region.wanted, yielded, q175]) ?_ (Below.refl _ _) (fun d hd => by cases hd; exact rfl)
      go_simp
    · obtain ⟨_, q177, rfl⟩ := hG.new 177 (by kernel_rfl) (by kernel_rfl)
      obtain ⟨_, q175, rfl⟩ := hG.new 175 (by kernel_rfl) (by kernel_rfl)
      refine step_value (v := .bool false) (w' := wx) rfl (by simp [Region.wanted, yielded, q175]) ?_ (Below.refl _ _) (fun d hd => by cases hd; exact rfl)
      go_simp
    · obtain ⟨_, q178, rfl⟩ := hG.new 178 (by kernel_rfl) (by kernel_rfl)
      obtain ⟨_, q175, rfl⟩ := hG.new 175 (by kernel_rfl) (by kernel_rfl)
      refine step_value (v := .bool false) (w' := wx) rfl (by simp [Region.wanted, yielded, q175]) ?_ (Below.refl _ _) (fun d hd => by cases hd; exact rfl)
      go_simp
    · have q23 := (hG.old 23 (by kernel_rfl) (by kernel_rfl)).trans o23
      obtain ⟨_, q179, rfl⟩ := hG.new 179 (by kernel_rfl) (by kernel_rfl)
      refine step_value (v := .int .i64 (k : Int)) (w' := wx) rfl (by simp [Region.wanted, yielded, q179]) ?_ (Below.refl _ _) (fun d hd => by cases hd; exact rfl)
      go_simp
    · have q3 := (hG.old 3 (by kernel_rfl) (by kernel_rfl)).trans o3
      obtain ⟨_, q179, rfl⟩ := hG.new 179 (by kernel_rfl) (by kernel_rfl)
      refine step_value (v := .slice (some adN) nN cN) (w' := wx) rfl (by simp [Region.wanted, yielded, q179]) ?_ (Below.refl _ _) (fun d hd => by cases hd; exact rfl)
      go_simp
    · obtain ⟨_, q181, rfl⟩ := hG.new 181 (by kernel_rfl) (by kernel_rfl)
      obtain ⟨_, q179, rfl⟩ := hG.new 179 (by kernel_rfl) (by kernel_rfl)
      refine step_value (v := .int .i64 (nN : Int)) (w' := wx) rfl (by simp [Region.wanted, yielded, q179]) ?_ (Below.refl _ _) (fun d hd => by cases hd; exact rfl)
      go_simp
    · obtain ⟨_, q180, rfl⟩ := hG.new 180 (by kernel_rfl) (by kernel_rfl)
      obtain ⟨_, q182, rfl⟩ := hG.new 182 (by kernel_rfl) (by kernel_rfl)
      obtain ⟨_, q179, rfl⟩ := hG.new 179 (by kernel_rfl) (by kernel_rfl)
      refine step_value (v := .bool false) (w' := wx) rfl (by simp [Region.wanted, yielded, q179]) ?_ (Below.refl _ _) (fun d hd => by cases hd; exact rfl)
      have hq := HLTN.out
      have hq1 := HGEN.out
      have hq2 := HGFN.out
      go_simp
    · obtain ⟨_, q179, rfl⟩ := hG.new 179 (by kernel_rfl) (by kernel_rfl)
      obtain ⟨_, q183, rfl⟩ := hG.new 183 (by kernel_rfl) (by kernel_rfl)
      obtain ⟨_, q175, rfl⟩ := hG.new 175 (by kernel_rfl) (by kernel_rfl)
      refine step_value (v := .bool false) (w' := wx) rfl (by simp [Region.wanted, yielded, q175]) ?_ (Below.refl _ _) (fun d hd => by cases hd; exact rfl)
      go_simp
    · obtain ⟨_, q184, rfl⟩ := hG.new 184 (by kernel_rfl) (by kernel_rfl)
      obtain ⟨_, q175, rfl⟩ := hG.new 175 (by kernel_rfl) (by kernel_rfl)
      refine step_value (v := .bool false) (w' := wx) rfl (by simp [Region.wanted, yielded, q175]) ?_ (Below.refl _ _) (fun d hd => by cases hd; exact rfl)
      go_simp
    · have q3 := (hG.old 3 (by kernel_rfl) (by kernel_rfl)).trans o3
      obtain ⟨_, q185, rfl⟩ := hG.new 185 (by kernel_rfl) (by kernel_rfl)
      refine step_value (v := .slice (some adN) nN cN) (w' := wx) rfl (by simp [Region.wanted, yielded, q185]) ?_ (Below.refl _ _) (fun d hd => by cases hd; exact rfl)
      go_simp
    · have q23 := (hG.old 23 (by kernel_rfl) (by kernel_rfl)).trans o23
      obtain ⟨_, q185, rfl⟩ := hG.new 185 (by kernel_rfl) (by kernel_rfl)
      refine step_value (v := .int .i64 (k : Int)) (w' := wx) rfl (by simp [Region.wanted, yielded, q185]) ?_ (Below.refl _ _) (fun d hd => by cases hd; exact rfl)
      go_simp
    · obtain ⟨_, q186, rfl⟩ := hG.new 186 (by kernel_rfl) (by kernel_rfl)
      obtain ⟨_, q187, rfl⟩ := hG.new 187 (by kernel_rfl) (by kernel_rfl)
      obtain ⟨_, q185, rfl⟩ := hG.new 185 (by kernel_rfl) (by kernel_rfl)
      refine step_value (v := .pointer (some (adN.add (k * 4)))) (w' := wx) rfl (by simp [Region.wanted, yielded, q185]) ?_ (Below.refl _ _) (fun d hd => by cases hd; exact rfl)
      have hq := HLTN.out
      go_simp
    · obtain ⟨_, q188, rfl⟩ := hG.new 188 (by kernel_rfl) (by kernel_rfl)
      obtain ⟨_, q185, rfl⟩ := hG.new 185 (by kernel_rfl) (by kernel_rfl)
      obtain ⟨z0, z1, z2, z3⟩ := HVN.out wx hS
      refine step_value (v := .agg #[.int .i64 xk, .string xkey, .string xval, .int .u64 (xn.toNat : Int)]) (w' := wx) rfl (by simp [Region.wanted, yielded, q185]) ?_ (Below.refl _ _) (fun d hd => by cases hd; exact rfl)
      go_simp
    · have q24 := (hG.old 24 (by kernel_rfl) (by kernel_rfl)).trans o24
      obtain ⟨_, q185, rfl⟩ := hG.new 185 (by kernel_rfl) (by kernel_rfl)
      obtain ⟨z0, z1, z2, z3⟩ := HXN.out wx hS
      refine step_value (v := .agg #[.int .i64 xk, .string xkey, .string xval, .int .u64 (xn.toNat : Int)]) (w' := wx) rfl (by simp [Region.wanted, yielded, q185]) ?_ (Below.refl _ _) (fun d hd => by cases hd; exact rfl)
      go_simp
    · obtain ⟨_, q189, rfl⟩ := hG.new 189 (by kernel_rfl) (by kernel_rfl)
      obtain ⟨_, q190, rfl⟩ := hG.new 190 (by kernel_rfl) (by kernel_rfl)
      obtain ⟨_, q185, rfl⟩ := hG.new 185 (by kernel_rfl) (by kernel_rfl)
      refine step_value (v := .bool false) (w' := wx) rfl (by simp [Region.wanted, yielded, q185]) ?_ (Below.refl _ _) (fun d hd => by cases hd; exact rfl)
      go_simp
    · obtain ⟨_, q185, rfl⟩ := hG.new 185 (by kernel_rfl) (by kernel_rfl)
      obtain ⟨_, q191, rfl⟩ := hG.new 191 (by kernel_rfl) (by kernel_rfl)
      obtain ⟨_, q175, rfl⟩ := hG.new 175 (by kernel_rfl) (by kernel_rfl)
      refine step_value (v := .bool false) (w' := wx) rfl (by simp [Region.wanted, yielded, q175]) ?_ (Below.refl _ _) (fun d hd => by cases hd; exact rfl)
      go_simp
    · obtain ⟨_, q175, rfl⟩ := hG.new 175 (by kernel_rfl) (by kernel_rfl)
      obtain ⟨_, q192, rfl⟩ := hG.new 192 (by kernel_rfl) (by kernel_rfl)
      refine step_value (v := .bool false) (w' := wx) rfl rfl ?_ (Below.refl _ _) (fun d hd => by cases hd; exact rfl)
      go_simp
    · obtain ⟨_, q193, rfl⟩ := hG.new 193 (by kernel_rfl) (by kernel_rfl)
      refine step_value (v := .bool false) (w' := wx) rfl rfl ?_ (Below.refl _ _) (fun d hd => by cases hd; exact rfl)
      go_simp
    · have q8 := (hG.old 8 (by kernel_rfl) (by kernel_rfl)).trans o8
      obtain ⟨_, q194, rfl⟩ := hG.new 194 (by kernel_rfl) (by kernel_rfl)
      refine step_value (v := .int .i64 2) (w' := wx) rfl (by simp [Region.wanted, yielded, q194]) ?_ (Below.refl _ _) (fun d hd => by cases hd; exact rfl)
      go_simp
    · obtain ⟨_, q195, rfl⟩ := hG.new 195 (by kernel_rfl) (by kernel_rfl)
      obtain ⟨_, q194, rfl⟩ := hG.new 194 (by kernel_rfl) (by kernel_rfl)
      refine step_value (v := .bool false) (w' := wx) rfl (by simp [Region.wanted, yielded, q194]) ?_ (Below.refl _ _) (fun d hd => by cases hd; exact rfl)
      go_simp
    · obtain ⟨_, q196, rfl⟩ := hG.new 196 (by kernel_rfl) (by kernel_rfl)
      obtain ⟨_, q194, rfl⟩ := hG.new 194 (by kernel_rfl) (by kernel_rfl)
      refine step_value (v := .bool false) (w' := wx) rfl (by simp [Region.wanted, yielded, q194]) ?_ (Below.refl _ _) (fun d hd => by cases hd; exact rfl)
      go_simp
    · obtain ⟨_, q197, rfl⟩ := hG.new 197 (by kernel_rfl) (by kernel_rfl)
      refine step_past rfl (by simp [Region.wanted, yielded, q197]) (Below.refl _ _) (fun d hd => by cases hd; exact rfl)
    · obtain ⟨_, q197, rfl⟩ := hG.new 197 (by kernel_rfl) (by kernel_rfl)
      refine step_past rfl (by simp [Region.wanted, yielded, q197]) (Below.refl _ _) (fun d hd => by cases hd; exact rfl)
    · obtain ⟨_, q197, rfl⟩ := hG.new 197 (by kernel_rfl) (by kernel_rfl)
      refine step_past rfl (by simp [Region.wanted, yielded, q197]) (Below.refl _ _) (fun d hd => by cases hd; exact rfl)
    · obtain ⟨_, q197, rfl⟩ := hG.new 197 (by kernel_rfl) (by kernel_rfl)
      refine step_past rfl (by simp [Region.wanted, yielded, q197]) (Below.refl _ _) (fun d hd => by cases hd; exact rfl)
    · obtain ⟨_, q201, rfl⟩ := hG.new 201 (by kernel_rfl) (by kernel_rfl)
      refine step_past rfl (by simp [Region.wanted, yielded, q201, undef]) (Below.refl _ _) (fun d hd => by cases hd; exact rfl)
    · obtain ⟨_, q201, rfl⟩ := hG.new 201 (by kernel_rfl) (by kernel_rfl)
      refine step_past rfl (by simp [Region.wanted, yielded, q201, undef]) (Below.refl _ _) (fun d hd => by cases hd; exact rfl)
    · obtain ⟨_, q201, rfl⟩ := hG.new 201 (by kernel_rfl) (by kernel_rfl)
      refine step_past rfl (by simp [Region.wanted, yielded, q201, undef]) (Below.refl _ _) (fun d hd => by cases hd; exact rfl)
    · obtain ⟨_, q201, rfl⟩ := hG.new 201 (by kernel_rfl) (by kernel_rfl)
      refine step_past rfl (by simp [Region.wanted, yielded, q201, undef]) (Below.refl _ _) (fun d hd => by cases hd; exact rfl)
    · obtain ⟨_, q197, rfl⟩ := hG.new 197 (by kernel_rfl) (by kernel_rfl)
      refine step_past rfl (by simp [Region.wanted, yielded, q197]) (Below.refl _ _) (fun d hd => by cases hd; exact rfl)
    · obtain ⟨_, q197, rfl⟩ := hG.new 197 (by kernel_rfl) (by kernel_rfl)
      refine step_past rfl (by simp [Region.wanted, yielded, q197]) (Below.refl _ _) (fun d hd => by cases hd; exact rfl)
    · obtain ⟨_, q207, rfl⟩ := hG.new 207 (by kernel_rfl) (by kernel_rfl)
      refine step_past rfl (by simp [Region.wanted, yielded, q207, undef]) (Below.refl _ _) (fun d hd => by cases hd; exact rfl)
    · obtain ⟨_, q207, rfl⟩ := hG.new 207 (by kernel_rfl) (by kernel_rfl)
      refine step_past rfl (by simp [Region.wanted, yielded, q207, undef]) (Below.refl _ _) (fun d hd => by cases hd; exact rfl)
    · obtain ⟨_, q207, rfl⟩ := hG.new 207 (by kernel_rfl) (by kernel_rfl)
      refine step_past rfl (by simp [Region.wanted, yielded, q207, undef]) (Below.refl _ _) (fun d hd => by cases hd; exact rfl)
    · obtain ⟨_, q207, rfl⟩ := hG.new 207 (by kernel_rfl) (by kernel_rfl)
      refine step_past rfl (by simp [Region.wanted, yielded, q207, undef]) (Below.refl _ _) (fun d hd => by cases hd; exact rfl)
    · obtain ⟨_, q207, rfl⟩ := hG.new 207 (by kernel_rfl) (by kernel_rfl)
      refine step_past rfl (by simp [Region.wanted, yielded, q207, undef]) (Below.refl _ _) (fun d hd => by cases hd; exact rfl)
    · obtain ⟨_, q207, rfl⟩ := hG.new 207 (by kernel_rfl) (by kernel_rfl)
      refine step_past rfl (by simp [Region.wanted, yielded, q207, undef]) (Below.refl _ _) (fun d hd => by cases hd; exact rfl)
    · obtain ⟨_, q197, rfl⟩ := hG.new 197 (by kernel_rfl) (by kernel_rfl)
      refine step_past rfl (by simp [Region.wanted, yielded, q197]) (Below.refl _ _) (fun d hd => by cases hd; exact rfl)
    · obtain ⟨_, q197, rfl⟩ := hG.new 197 (by kernel_rfl) (by kernel_rfl)
      obtain ⟨_, q214, rfl⟩ := hG.new 214 (by kernel_rfl) (by kernel_rfl)
      obtain ⟨_, q194, rfl⟩ := hG.new 194 (by kernel_rfl) (by kernel_rfl)
      refine step_value (v := .bool false) (w' := wx) rfl (by simp [Region.wanted, yielded, q194]) ?_ (Below.refl _ _) (fun d hd => by cases hd; exact rfl)
      go_simp
    · obtain ⟨_, q194, rfl⟩ := hG.new 194 (by kernel_rfl) (by kernel_rfl)
      obtain ⟨_, q215, rfl⟩ := hG.new 215 (by kernel_rfl) (by kernel_rfl)
      refine step_value (v := .bool false) (w' := wx) rfl rfl ?_ (Below.refl _ _) (fun d hd => by cases hd; exact rfl)
      go_simp
    · obtain ⟨_, q216, rfl⟩ := hG.new 216 (by kernel_rfl) (by kernel_rfl)
      refine step_value (v := .bool false) (w' := wx) rfl rfl ?_ (Below.refl _ _) (fun d hd => by cases hd; exact rfl)
      go_simp
    · have q11 := (hG.old 11 (by kernel_rfl) (by kernel_rfl)).trans o11
      obtain ⟨_, q217, rfl⟩ := hG.new 217 (by kernel_rfl) (by kernel_rfl)
      refine step_value (v := .int .i64 0) (w' := wx) rfl (by simp [Region.wanted, yielded, q217]) ?_ (Below.refl _ _) (fun d hd => by cases hd; exact rfl)
      go_simp
    · obtain ⟨_, q218, rfl⟩ := hG.new 218 (by kernel_rfl) (by kernel_rfl)
      obtain ⟨_, q217, rfl⟩ := hG.new 217 (by kernel_rfl) (by kernel_rfl)
      refine step_value (v := .bool true) (w' := wx) rfl (by simp [Region.wanted, yielded, q217]) ?_ (Below.refl _ _) (fun d hd => by cases hd; exact rfl)
      go_simp
    · obtain ⟨_, q219, rfl⟩ := hG.new 219 (by kernel_rfl) (by kernel_rfl)
      obtain ⟨_, q217, rfl⟩ := hG.new 217 (by kernel_rfl) (by kernel_rfl)
      refine step_value (v := .bool true) (w' := wx) rfl (by simp [Region.wanted, yielded, q217]) ?_ (Below.refl _ _) (fun d hd => by cases hd; exact rfl)
      go_simp
    · have q21 := (hG.old 21 (by kernel_rfl) (by kernel_rfl)).trans o21
      obtain ⟨_, q220, rfl⟩ := hG.new 220 (by kernel_rfl) (by kernel_rfl)
      refine step_value (v := .pointer (some ⟨gG, 2, none⟩)) (w' := wx) rfl (by simp [Region.wanted, yielded, q220]) ?_ (Below.refl _ _) (fun d hd => by cases hd; exact rfl)
      go_simp
    · obtain ⟨_, q221, rfl⟩ := hG.new 221 (by kernel_rfl) (by kernel_rfl)
      obtain ⟨_, q220, rfl⟩ := hG.new 220 (by kernel_rfl) (by kernel_rfl)
      have z0 := HGC.out wx hS
      refine step_value (v := .bool true) (w' := wx) rfl (by simp [Region.wanted, yielded, q220]) ?_ (Below.refl _ _) (fun d hd => by cases hd; exact rfl)
      go_simp
    · obtain ⟨_, q222, rfl⟩ := hG.new 222 (by kernel_rfl) (by kernel_rfl)
      obtain ⟨_, q220, rfl⟩ := hG.new 220 (by kernel_rfl) (by kernel_rfl)
      refine step_value (v := .bool false) (w' := wx) rfl (by simp [Region.wanted, yielded, q220]) ?_ (Below.refl _ _) (fun d hd => by cases hd; exact rfl)
      go_simp
    · obtain ⟨_, q223, rfl⟩ := hG.new 223 (by kernel_rfl) (by kernel_rfl)
      obtain ⟨_, q220, rfl⟩ := hG.new 220 (by kernel_rfl) (by kernel_rfl)
      refine step_value (v := .bool false) (w' := wx) rfl (by simp [Region.wanted, yielded, q220]) ?_ (Below.refl _ _) (fun d hd => by cases hd; exact rfl)
      go_simp
    · have q23 := (hG.old 23 (by kernel_rfl) (by kernel_rfl)).trans o23
      obtain ⟨_, q224, rfl⟩ := hG.new 224 (by kernel_rfl) (by kernel_rfl)
      refine step_value (v := .int .i64 (k : Int)) (w' := wx) rfl (by simp [Region.wanted, yielded, q224]) ?_ (Below.refl _ _) (fun d hd => by cases hd; exact rfl)
      go_simp
    · have q9 := (hG.old 9 (by kernel_rfl) (by kernel_rfl)).trans o9
      obtain ⟨_, q224, rfl⟩ := hG.new 224 (by kernel_rfl) (by kernel_rfl)
      refine step_value (v := .slice (some adC) nC cC) (w' := wx) rfl (by simp [Region.wanted, yielded, q224]) ?_ (Below.refl _ _) (fun d hd => by cases hd; exact rfl)
      go_simp
    · obtain ⟨_, q226, rfl⟩ := hG.new 226 (by kernel_rfl) (by kernel_rfl)
      obtain ⟨_, q224, rfl⟩ := hG.new 224 (by kernel_rfl) (by kernel_rfl)
      refine step_value (v := .int .i64 (nC : Int)) (w' := wx) rfl (by simp [Region.wanted, yielded, q224]) ?_ (Below.refl _ _) (fun d hd => by cases hd; exact rfl)
      go_simp
    · obtain ⟨_, q225, rfl⟩ := hG.new 225 (by kernel_rfl) (by kernel_rfl)
      obtain ⟨_, q227, rfl⟩ := hG.new 227 (by kernel_rfl) (by kernel_rfl)
      obtain ⟨_, q224, rfl⟩ := hG.new 224 (by kernel_rfl) (by kernel_rfl)
      refine step_value (v := .bool false) (w' := wx) rfl (by simp [Region.wanted, yielded, q224]) ?_ (Below.refl _ _) (fun d hd => by cases hd; exact rfl)
      have hq := HLTC.out
      have hq1 := HGEC.out
      have hq2 := HGFC.out
      go_simp
    · obtain ⟨_, q224, rfl⟩ := hG.new 224 (by kernel_rfl) (by kernel_rfl)
      obtain ⟨_, q228, rfl⟩ := hG.new 228 (by kernel_rfl) (by kernel_rfl)
      obtain ⟨_, q220, rfl⟩ := hG.new 220 (by kernel_rfl) (by kernel_rfl)
      refine step_value (v := .bool false) (w' := wx) rfl (by simp [Region.wanted, yielded, q220]) ?_ (Below.refl _ _) (fun d hd => by cases hd; exact rfl)
      go_simp
    · obtain ⟨_, q229, rfl⟩ := hG.new 229 (by kernel_rfl) (by kernel_rfl)
      obtain ⟨_, q220, rfl⟩ := hG.new 220 (by kernel_rfl) (by kernel_rfl)
      refine step_value (v := .bool false) (w' := wx) rfl (by simp [Region.wanted, yielded, q220]) ?_ (Below.refl _ _) (fun d hd => by cases hd; exact rfl)
      go_simp
    · have q9 := (hG.old 9 (by kernel_rfl) (by kernel_rfl)).trans o9
      obtain ⟨_, q230, rfl⟩ := hG.new 230 (by kernel_rfl) (by kernel_rfl)
      refine step_value (v := .slice (some adC) nC cC) (w' := wx) rfl (by simp [Region.wanted, yielded, q230]) ?_ (Below.refl _ _) (fun d hd => by cases hd; exact rfl)
      go_simp
    · have q23 := (hG.old 23 (by kernel_rfl) (by kernel_rfl)).trans o23
      obtain ⟨_, q230, rfl⟩ := hG.new 230 (by kernel_rfl) (by kernel_rfl)
      refine step_value (v := .int .i64 (k : Int)) (w' := wx) rfl (by simp [Region.wanted, yielded, q230]) ?_ (Below.refl _ _) (fun d hd => by cases hd; exact rfl)
      go_simp
    · obtain ⟨_, q231, rfl⟩ := hG.new 231 (by kernel_rfl) (by kernel_rfl)
      obtain ⟨_, q232, rfl⟩ := hG.new 232 (by kernel_rfl) (by kernel_rfl)
      obtain ⟨_, q230, rfl⟩ := hG.new 230 (by kernel_rfl) (by kernel_rfl)
      refine step_value (v := .pointer (some (adC.add (k * 6)))) (w' := wx) rfl (by simp [Region.wanted, yielded, q230]) ?_ (Below.refl _ _) (fun d hd => by cases hd; exact rfl)
      have hq := HLTC.out
      go_simp
    · obtain ⟨_, q233, rfl⟩ := hG.new 233 (by kernel_rfl) (by kernel_rfl)
      obtain ⟨_, q230, rfl⟩ := hG.new 230 (by kernel_rfl) (by kernel_rfl)
      obtain ⟨z0, z1, z2, z3, z4, z5⟩ := HVC.out wx hS
      refine step_value (v := .agg #[.int .i64 cs, .string ck, .bool ch, .string cb, .bool cg, .string ca]) (w' := wx) rfl (by simp [Region.wanted, yielded, q230]) ?_ (Below.refl _ _) (fun d hd => by cases hd; exact rfl)
      go_simp
    · have q28 := (hG.old 28 (by kernel_rfl) (by kernel_rfl)).trans o28
      obtain ⟨_, q230, rfl⟩ := hG.new 230 (by kernel_rfl) (by kernel_rfl)
      obtain ⟨z0, z1, z2, z3, z4, z5⟩ := HXC.out wx hS
      refine step_value (v := .agg #[.int .i64 cs, .string ck, .bool ch, .string cb, .bool cg, .string ca]) (w' := wx) rfl (by simp [Region.wanted, yielded, q230]) ?_ (Below.refl _ _) (fun d hd => by cases hd; exact rfl)
      go_simp
    · obtain ⟨_, q234, rfl⟩ := hG.new 234 (by kernel_rfl) (by kernel_rfl)
      obtain ⟨_, q235, rfl⟩ := hG.new 235 (by kernel_rfl) (by kernel_rfl)
      obtain ⟨_, q230, rfl⟩ := hG.new 230 (by kernel_rfl) (by kernel_rfl)
      refine step_value (v := .bool false) (w' := wx) rfl (by simp [Region.wanted, yielded, q230]) ?_ (Below.refl _ _) (fun d hd => by cases hd; exact rfl)
      go_simp
    · obtain ⟨_, q230, rfl⟩ := hG.new 230 (by kernel_rfl) (by kernel_rfl)
      obtain ⟨_, q236, rfl⟩ := hG.new 236 (by kernel_rfl) (by kernel_rfl)
      obtain ⟨_, q220, rfl⟩ := hG.new 220 (by kernel_rfl) (by kernel_rfl)
      refine step_value (v := .bool false) (w' := wx) rfl (by simp [Region.wanted, yielded, q220]) ?_ (Below.refl _ _) (fun d hd => by cases hd; exact rfl)
      go_simp
    · obtain ⟨_, q220, rfl⟩ := hG.new 220 (by kernel_rfl) (by kernel_rfl)
      obtain ⟨_, q237, rfl⟩ := hG.new 237 (by kernel_rfl) (by kernel_rfl)
      obtain ⟨_, q217, rfl⟩ := hG.new 217 (by kernel_rfl) (by kernel_rfl)
      refine step_value (v := .bool false) (w' := wx) rfl (by simp [Region.wanted, yielded, q217]) ?_ (Below.refl _ _) (fun d hd => by cases hd; exact rfl)
      go_simp
    · obtain ⟨_, q217, rfl⟩ := hG.new 217 (by kernel_rfl) (by kernel_rfl)
      obtain ⟨_, q238, rfl⟩ := hG.new 238 (by kernel_rfl) (by kernel_rfl)
      refine step_value (v := .bool false) (w' := wx) rfl rfl ?_ (Below.refl _ _) (fun d hd => by cases hd; exact rfl)
      go_simp
  intro fv wf hSf hV8
  have e239 : fv 239 = .bool false := hV8 239 (by decide)
  exact done fv wf hSf e239

def TkV110 (gG k : Nat) (adN : Addr) (nN cN : Nat) (xk : Int) (xkey xval : ByteArray) (xn : UInt64) (adP : Addr) (nP cP : Nat) (pk pv : ByteArray) (t : Nat) (v : Value) (w : World) : Prop :=
  match t with
  | 173 => v = .int .i64 0
  | 174 => v = .bool true
  | 175 => v = .bool true
  | 176 => v = .pointer (some ⟨gG, 0, none⟩)
  | 177 => v = .bool true
  | 178 => v = .bool false
  | 179 => v = .bool false
  | 180 => v = .int .i64 (k : Int)
  | 181 => v = .slice (some adN) nN cN
  | 182 => v = .int .i64 (nN : Int)
  | 183 => v = .bool false
  | 184 => v = .bool false
  | 185 => v = .bool false
  | 186 => v = .slice (some adN) nN cN
  | 187 => v = .int .i64 (k : Int)
  | 188 => v = .pointer (some (adN.add (k * 4)))
  | 189 => v = .agg #[.int .i64 xk, .string xkey, .string xval, .int .u64 (xn.toNat : Int)]
  | 190 => v = .agg #[.int .i64 xk, .string xkey, .string xval, .int .u64 (xn.toNat : Int)]
  | 191 => v = .bool false
  | 192 => v = .bool false
  | 193 => v = .bool false
  | 194 => v = .bool false
  | 195 => v = .int .i64 0
  | 196 => v = .bool true
  | 197 => v = .bool true
  | 198 => v = .pointer (some ⟨gG, 1, none⟩)
  | 199 => v = .bool true
  | 200 => v = .bool false
  | 201 => v = .bool false
  | 202 => v = .int .i64 (k : Int)
  | 203 => v = .slice (some adP) nP cP
  | 204 => v = .int .i64 (nP : Int)
  | 205 => v = .bool false
  | 206 => v = .bool false
  | 207 => v = .bool false
  | 208 => v = .slice (some adP) nP cP
  | 209 => v = .int .i64 (k : Int)
  | 210 => v = .pointer (some (adP.add (k * 2)))
  | 211 => v = .agg #[.string pk, .string pv]
  | 212 => v = .agg #[.string pk, .string pv]
  | 213 => v = .bool false
  | 214 => v = .bool false
  | 215 => v = .bool false
  | 216 => v = .bool false
  | 217 => v = .bool false
  | 218 => v = .int .i64 2
  | 219 => v = .bool false
  | 220 => v = .bool false
  | 221 => v = undef
  | 222 => v = undef
  | 223 => v = undef
  | 224 => v = undef
  | 225 => v = undef
  | 226 => v = undef
  | 227 => v = undef
  | 228 => v = undef
  | 229 => v = undef
  | 230 => v = undef
  | 231 => v = undef
  | 232 => v = undef
  | 233 => v = undef
  | 234 => v = undef
  | 235 => v = undef
  | 236 => v = undef
  | 237 => v = undef
  | 238 => v = .bool false
  | 239 => v = .bool false
  | _ => True
theorem TkV110.on {gG k : Nat} {adN : Addr} {nN cN : Nat} {xk : Int} {xkey xval : ByteArray} {xn : UInt64} {adP : Addr} {nP cP : Nat} {pk pv : ByteArray} {t : Nat} {v : Value} {w w' : World} (h : TkV110 gG k adN nN cN xk xkey xval xn adP nP cP pk pv t v w) (hb : Below w.heap.size w w') : TkV110 gG k adN nN cN xk xkey xval xn adP nP cP pk pv t v w' := by
  unfold TkV110 at *
  split at h <;> first | exact h | exact h

set_option maxRecDepth 100000 in
set_option maxHeartbeats 4000000 in
theorem tk28_110 (gG k : Nat) (adN : Addr) (nN cN : Nat) (xk : Int) (xkey xval : ByteArray) (xn : UInt64) (adP : Addr) (nP cP : Nat) (pk pv : ByteArray) (a0 : Act) (w0 : World) (Q : Exit → Act → World → Prop) (hsz : a0.tmps.size = 315) (o21 : a0.tmps[21]? = some (.pointer (some ⟨gG, 0, none⟩))) (o23 : a0.tmps[23]? = some (.int .i64 (k : Int))) (o5 : a0.tmps[5]? = some (.int .i64 0)) (gxN : Nat) (o3 : a0.tmps[3]? = some (.slice (some adN) nN cN)) (o24 : a0.tmps[24]? = some (.pointer (some ⟨gxN, 0, none⟩))) (HLTN : Hid (k < nN)) (HGEN : Hid (decide ((nN : Int) ≤ (k : Int)) = false)) (HGFN : Hid (decide (nN ≤ k) = false)) (HGN : Hid (∀ wx, Below w0.heap.size w0 wx → wx.cell? ⟨gG, 0, none⟩ = some (.bool true))) (HVN : Hid (∀ wx, Below w0.heap.size w0 wx → wx.cell? (adN.add (k * 4)) = some (.int .i64 xk) ∧ wx.cell? ⟨(adN.add (k * 4)).block, (adN.add (k * 4)).off + 1, none⟩ = some (.string xkey) ∧ wx.cell? ⟨(adN.add (k * 4)).block, (adN.add (k * 4)).off + 2, none⟩ = some (.string xval) ∧ wx.cell? ⟨(adN.add (k * 4)).block, (adN.add (k * 4)).off + 3, none⟩ = some (.int .u64 (xn.toNat : Int)))) (HXN : Hid (∀ wx, Below w0.heap.size w0 wx → wx.cell? ⟨gxN, 0, none⟩ = some (.int .i64 xk) ∧ wx.cell? ⟨gxN, 1, none⟩ = some (.string xkey) ∧ wx.cell? ⟨gxN, 2, none⟩ = some (.string xval) ∧ wx.cell? ⟨gxN, 3, none⟩ = some (.int .u64 (xn.toNat : Int)))) (o8 : a0.tmps[8]? = some (.int .i64 0)) (gxP : Nat) (o6 : a0.tmps[6]? = some (.slice (some adP) nP cP)) (o26 : a0.tmps[26]? = some (.pointer (some ⟨gxP, 0, none⟩))) (HLTP : Hid (k < nP)) (HGEP : Hid (decide ((nP : Int) ≤ (k : Int)) = false)) (HGFP : Hid (decide (nP ≤ k) = false)) (HGP : Hid (∀ wx, Below w0.heap.size w0 wx → wx.cell? ⟨gG, 1, none⟩ = some (.bool true))) (HVP : Hid (∀ wx, Below w0.heap.size w0 wx → wx.cell? (adP.add (k * 2)) = some (.string pk) ∧ wx.cell? ⟨(adP.add (k * 2)).block, (adP.add (k * 2)).off + 1, none⟩ = some (.string pv))) (HXP : Hid (∀ wx, Below w0.heap.size w0 wx → wx.cell? ⟨gxP, 0, none⟩ = some (.string pk) ∧ wx.cell? ⟨gxP, 1, none⟩ = some (.string pv))) (o11 : a0.tmps[11]? = some (.int .i64 2))
    (done : ∀ (fv : Nat → Value) (wf : World), Below w0.heap.size w0 wf → fv 239 = .bool false → Q .normal (puts a0 [173, 174, 175, 176, 177, 178, 179, 180, 181, 182, 183, 184, 185, 186, 187, 188, 189, 190, 191, 192, 193, 194, 195, 196, 197, 198, 199, 200, 201, 202, 203, 204, 205, 206, 207, 208, 209, 210, 211, 212, 213, 214, 215, 216, 217, 218, 219, 220, 221, 222, 223, 224, 225, 226, 227, 228, 229, 230, 231, 232, 233, 234, 235, 236, 237, 238, 239] fv) wf) : Code.wp Try.prog rg28 Q a0 w0 := by
  unfold rg28
  conv => arg 2; whnf
  refine wp_region_inv [173, 174, 175, 176, 177, 178, 179, 180, 181, 182, 183, 184, 185, 186, 187, 188, 189, 190, 191, 192, 193, 194, 195, 196, 197, 198, 199, 200, 201, 202, 203, 204, 205, 206, 207, 208, 209, 210, 211, 212, 213, 214, 215, 216, 217, 218, 219, 220, 221, 222, 223, 224, 225, 226, 227, 228, 229, 230, 231, 232, 233, 234, 235, 236, 237, 238, 239] (by kernel_rfl) (by kernel_rfl) (fun w' => Below w0.heap.size w0 w') (fun wa wb => Below wa.heap.size wa wb) (TkV110 gG k adN nN cN xk xkey xval xn adP nP cP pk pv) (by rw [hsz]; kernel_rfl) (fun wa wb h1 h2 => h2.trans (h1.mono h2.size)) (fun t v wa wb h1 h2 => h2.on h1) (Below.refl _ _).drew (steps_of ?_) ?_
  · skip
    refine Steps1.cons (fun ax wx hS hG => ?_) (Steps1.cons (fun ax wx hS hG => ?_) (Steps1.cons (fun ax wx hS hG => ?_) (Steps1.cons (fun ax wx hS hG => ?_) (Steps1.cons (fun ax wx hS hG => ?_) (Steps1.cons (fun ax wx hS hG => ?_) (Steps1.cons (fun ax wx hS hG => ?_) (Steps1.cons (fun ax wx hS hG => ?_) (Steps1.cons (fun ax wx hS hG => ?_) (Steps1.cons (fun ax wx hS hG => ?_) (Steps1.cons (fun ax wx hS hG => ?_) (Steps1.cons (fun ax wx hS hG => ?_) (Steps1.cons (fun ax wx hS hG => ?_) (Steps1.cons (fun ax wx hS hG => ?_) (Steps1.cons (fun ax wx hS hG => ?_) (Steps1.cons (fun ax wx hS hG => ?_) (Steps1.cons (fun ax wx hS hG => ?_) (Steps1.cons (fun ax wx hS hG => ?_) (Steps1.cons (fun ax wx hS hG => ?_) (Steps1.cons (fun ax wx hS hG => ?_) (Steps1.cons (fun ax wx hS hG => ?_) (Steps1.cons (fun ax wx hS hG => ?_) (Steps1.cons (fun ax wx hS hG => ?_) (Steps1.cons (fun ax wx hS hG => ?_) (Steps1.cons (fun ax wx hS hG => ?_) (Steps1.cons (fun ax wx hS hG => ?_) (Steps1.cons (fun ax wx hS hG => ?_) (Steps1.cons (fun ax wx hS hG => ?_) (Steps1.cons (fun ax wx hS hG => ?_) (Steps1.cons (fun ax wx hS hG => ?_) (Steps1.cons (fun ax wx hS hG => ?_) (Steps1.cons (fun ax wx hS hG => ?_) (Steps1.cons (fun ax wx hS hG => ?_) (Steps1.cons (fun ax wx hS hG => ?_) (Steps1.cons (fun ax wx hS hG => ?_) (Steps1.cons (fun ax wx hS hG => ?_) (Steps1.cons (fun ax wx hS hG => ?_) (Steps1.cons (fun ax wx hS hG => ?_) (Steps1.cons (fun ax wx hS hG => ?_) (Steps1.cons (fun ax wx hS hG => ?_) (Steps1.cons (fun ax wx hS hG => ?_) (Steps1.cons (fun ax wx hS hG => ?_) (Steps1.cons (fun ax wx hS hG => ?_) (Steps1.cons (fun ax wx hS hG => ?_) (Steps1.cons (fun ax wx hS hG => ?_) (Steps1.cons (fun ax wx hS hG => ?_) (Steps1.cons (fun ax wx hS hG => ?_) (Steps1.cons (fun ax wx hS hG => ?_) (Steps1.cons (fun ax wx hS hG => ?_) (Steps1.cons (fun ax wx hS hG => ?_) (Steps1.cons (fun ax wx hS hG => ?_) (Steps1.cons (fun ax wx hS hG => ?_) (Steps1.cons (fun ax wx hS hG => ?_) (Steps1.cons (fun ax wx hS hG => ?_) (Steps1.cons (fun ax wx hS hG => ?_) (Steps1.cons (fun ax wx hS hG => ?_) (Steps1.cons (fun ax wx hS hG => ?_) (Steps1.cons (fun ax wx hS hG => ?_) (Steps1.cons (fun ax wx hS hG => ?_) (Steps1.cons (fun ax wx hS hG => ?_) (Steps1.cons (fun ax wx hS hG => ?_) (Steps1.cons (fun ax wx hS hG => ?_) (Steps1.cons (fun ax wx hS hG => ?_) (Steps1.cons (fun ax wx hS hG => ?_) (Steps1.cons (fun ax wx hS hG => ?_) (Steps1.cons (fun ax wx hS hG => ?_) (Steps1.cons (fun ax wx hS hG => ?_) Steps1.nil))))))))))))))))))))))))))))))))))))))))))))))))))))))))))))))))))
    · have q5 := (hG.old 5 (by kernel_rfl) (by kernel_rfl)).trans o5
      refine step_value (v := .int .i64 0) (w' := wx) rfl rfl ?_ (Below.refl _ _) (fun d hd => by cases hd; exact rfl)
      go_simp
    · obtain ⟨_, q173, rfl⟩ := hG.new 173 (by kernel_rfl) (by kernel_rfl)
      refine step_value (v := .bool true) (w' := wx) rfl rfl ?_ (Below.refl _ _) (fun d hd => by cases hd; exact rfl)
      go_simp
    · obtain ⟨_, q174, rfl⟩ := hG.new 174 (by kernel_rfl) (by kernel_rfl)
      refine step_value (v := .bool true) (w' := wx) rfl rfl ?_ (Below.refl _ _) (fun d hd => by cases hd; exact rfl)
      go_simp
    · have q21 := (hG.old 21 (by kernel_rfl) (by kernel_rfl)).trans o21
      obtain ⟨_, q175, rfl⟩ := hG.new 175 (by kernel_rfl) (by kernel_rfl)
      refine step_value (v := .pointer (some ⟨gG, 0, none⟩)) (w' := wx) rfl (by simp [Region.wanted, yielded, q175]) ?_ (Below.refl _ _) (fun d hd => by cases hd; exact rfl)
      go_simp
    · obtain ⟨_, q176, rfl⟩ := hG.new 176 (by kernel_rfl) (by kernel_rfl)
      obtain ⟨_, q175, rfl⟩ := hG.new 175 (by kernel_rfl) (by kernel_rfl)
      have z0 := HGN.out wx hS
      refine step_value (v := .bool true) (w' := wx) rfl (by simp [Region.wanted, yielded, q175]) ?_ (Below.refl _ _) (fun d hd => by cases hd; exact rfl)
      go_simp
    · obtain ⟨_, q177, rfl⟩ := hG.new 177 (by kernel_rfl) (by kernel_rfl)
      obtain ⟨_, q175, rfl⟩ := hG.new 175 (by kernel_rfl) (by kernel_rfl)
      refine step_value (v := .bool false) (w' := wx) rfl (by simp [Region.wanted, yielded, q175]) ?_ (Below.refl _ _) (fun d hd => by cases hd; exact rfl)
      go_simp
    · obtain ⟨_, q178, rfl⟩ := hG.new 178 (by kernel_rfl) (by kernel_rfl)
      obtain ⟨_, q175, rfl⟩ := hG.new 175 (by kernel_rfl) (by kernel_rfl)
      refine step_value (v := .bool false) (w' := wx) rfl (by simp [Region.wanted, yielded, q175]) ?_ (Below.refl _ _) (fun d hd => by cases hd; exact rfl)
      go_simp
    · have q23 := (hG.old 23 (by kernel_rfl) (by kernel_rfl)).trans o23
      obtain ⟨_, q179, rfl⟩ := hG.new 179 (by kernel_rfl) (by kernel_rfl)
      refine step_value (v := .int .i64 (k : Int)) (w' := wx) rfl (by simp [Region.wanted, yielded, q179]) ?_ (Below.refl _ _) (fun d hd => by cases hd; exact rfl)
      go_simp
    · have q3 := (hG.old 3 (by kernel_rfl) (by kernel_rfl)).trans o3
      obtain ⟨_, q179, rfl⟩ := hG.new 179 (by kernel_rfl) (by kernel_rfl)
      refine step_value (v := .slice (some adN) nN cN) (w' := wx) rfl (by simp [Region.wanted, yielded, q179]) ?_ (Below.refl _ _) (fun d hd => by cases hd; exact rfl)
      go_simp
    · obtain ⟨_, q181, rfl⟩ := hG.new 181 (by kernel_rfl) (by kernel_rfl)
      obtain ⟨_, q179, rfl⟩ := hG.new 179 (by kernel_rfl) (by kernel_rfl)
      refine step_value (v := .int .i64 (nN : Int)) (w' := wx) rfl (by simp [Region.wanted, yielded, q179]) ?_ (Below.refl _ _) (fun d hd => by cases hd; exact rfl)
      go_simp
    · obtain ⟨_, q180, rfl⟩ := hG.new 180 (by kernel_rfl) (by kernel_rfl)
      obtain ⟨_, q182, rfl⟩ := hG.new 182 (by kernel_rfl) (by kernel_rfl)
      obtain ⟨_, q179, rfl⟩ := hG.new 179 (by kernel_rfl) (by kernel_rfl)
      refine step_value (v := .bool false) (w' := wx) rfl (by simp [Region.wanted, yielded, q179]) ?_ (Below.refl _ _) (fun d hd => by cases hd; exact rfl)
      have hq := HLTN.out
      have hq1 := HGEN.out
      have hq2 := HGFN.out
      go_simp
    · obtain ⟨_, q179, rfl⟩ := hG.new 179 (by kernel_rfl) (by kernel_rfl)
      obtain ⟨_, q183, rfl⟩ := hG.new 183 (by kernel_rfl) (by kernel_rfl)
      obtain ⟨_, q175, rfl⟩ := hG.new 175 (by kernel_rfl) (by kernel_rfl)
      refine step_value (v := .bool false) (w' := wx) rfl (by simp [Region.wanted, yielded, q175]) ?_ (Below.refl _ _) (fun d hd => by cases hd; exact rfl)
      go_simp
    · obtain ⟨_, q184, rfl⟩ := hG.new 184 (by kernel_rfl) (by kernel_rfl)
      obtain ⟨_, q175, rfl⟩ := hG.new 175 (by kernel_rfl) (by kernel_rfl)
      refine step_value (v := .bool false) (w' := wx) rfl (by simp [Region.wanted, yielded, q175]) ?_ (Below.refl _ _) (fun d hd => by cases hd; exact rfl)
      go_simp
    · have q3 := (hG.old 3 (by kernel_rfl) (by kernel_rfl)).trans o3
      obtain ⟨_, q185, rfl⟩ := hG.new 185 (by kernel_rfl) (by kernel_rfl)
      refine step_value (v := .slice (some adN) nN cN) (w' := wx) rfl (by simp [Region.wanted, yielded, q185]) ?_ (Below.refl _ _) (fun d hd => by cases hd; exact rfl)
      go_simp
    · have q23 := (hG.old 23 (by kernel_rfl) (by kernel_rfl)).trans o23
      obtain ⟨_, q185, rfl⟩ := hG.new 185 (by kernel_rfl) (by kernel_rfl)
      refine step_value (v := .int .i64 (k : Int)) (w' := wx) rfl (by simp [Region.wanted, yielded, q185]) ?_ (Below.refl _ _) (fun d hd => by cases hd; exact rfl)
      go_simp
    · obtain ⟨_, q186, rfl⟩ := hG.new 186 (by kernel_rfl) (by kernel_rfl)
      obtain ⟨_, q187, rfl⟩ := hG.new 187 (by kernel_rfl) (by kernel_rfl)
      obtain ⟨_, q185, rfl⟩ := hG.new 185 (by kernel_rfl) (by kernel_rfl)
      refine step_value (v := .pointer (some (adN.add (k * 4)))) (w' := wx) rfl (by simp [Region.wanted, yielded, q185]) ?_ (Below.refl _ _) (fun d hd => by cases hd; exact rfl)
      have hq := HLTN.out
      go_simp
    · obtain ⟨_, q188, rfl⟩ := hG.new 188 (by kernel_rfl) (by kernel_rfl)
      obtain ⟨_, q185, rfl⟩ := hG.new 185 (by kernel_rfl) (by kernel_rfl)
      obtain ⟨z0, z1, z2, z3⟩ := HVN.out wx hS
      refine step_value (v := .agg #[.int .i64 xk, .string xkey, .string xval, .int .u64 (xn.toNat : Int)]) (w' := wx) rfl (by simp [Region.wanted, yielded, q185]) ?_ (Below.refl _ _) (fun d hd => by cases hd; exact rfl)
      go_simp
    · have q24 := (hG.old 24 (by kernel_rfl) (by kernel_rfl)).trans o24
      obtain ⟨_, q185, rfl⟩ := hG.new 185 (by kernel_rfl) (by kernel_rfl)
      obtain ⟨z0, z1, z2, z3⟩ := HXN.out wx hS
      refine step_value (v := .agg #[.int .i64 xk, .string xkey, .string xval, .int .u64 (xn.toNat : Int)]) (w' := wx) rfl (by simp [Region.wanted, yielded, q185]) ?_ (Below.refl _ _) (fun d hd => by cases hd; exact rfl)
      go_simp
    · obtain ⟨_, q189, rfl⟩ := hG.new 189 (by kernel_rfl) (by kernel_rfl)
      obtain ⟨_, q190, rfl⟩ := hG.new 190 (by kernel_rfl) (by kernel_rfl)
      obtain ⟨_, q185, rfl⟩ := hG.new 185 (by kernel_rfl) (by kernel_rfl)
      refine step_value (v := .bool false) (w' := wx) rfl (by simp [Region.wanted, yielded, q185]) ?_ (Below.refl _ _) (fun d hd => by cases hd; exact rfl)
      go_simp
    · obtain ⟨_, q185, rfl⟩ := hG.new 185 (by kernel_rfl) (by kernel_rfl)
      obtain ⟨_, q191, rfl⟩ := hG.new 191 (by kernel_rfl) (by kernel_rfl)
      obtain ⟨_, q175, rfl⟩ := hG.new 175 (by kernel_rfl) (by kernel_rfl)
      refine step_value (v := .bool false) (w' := wx) rfl (by simp [Region.wanted, yielded, q175]) ?_ (Below.refl _ _) (fun d hd => by cases hd; exact rfl)
      go_simp
    · obtain ⟨_, q175, rfl⟩ := hG.new 175 (by kernel_rfl) (by kernel_rfl)
      obtain ⟨_, q192, rfl⟩ := hG.new 192 (by kernel_rfl) (by kernel_rfl)
      refine step_value (v := .bool false) (w' := wx) rfl rfl ?_ (Below.refl _ _) (fun d hd => by cases hd; exact rfl)
      go_simp
    · obtain ⟨_, q193, rfl⟩ := hG.new 193 (by kernel_rfl) (by kernel_rfl)
      refine step_value (v := .bool false) (w' := wx) rfl rfl ?_ (Below.refl _ _) (fun d hd => by cases hd; exact rfl)
      go_simp
    · have q8 := (hG.old 8 (by kernel_rfl) (by kernel_rfl)).trans o8
      obtain ⟨_, q194, rfl⟩ := hG.new 194 (by kernel_rfl) (by kernel_rfl)
      refine step_value (v := .int .i64 0) (w' := wx) rfl (by simp [Region.wanted, yielded, q194]) ?_ (Below.refl _ _) (fun d hd => by cases hd; exact rfl)
      go_simp
    · obtain ⟨_, q195, rfl⟩ := hG.new 195 (by kernel_rfl) (by kernel_rfl)
      obtain ⟨_, q194, rfl⟩ := hG.new 194 (by kernel_rfl) (by kernel_rfl)
      refine step_value (v := .bool true) (w' := wx) rfl (by simp [Region.wanted, yielded, q194]) ?_ (Below.refl _ _) (fun d hd => by cases hd; exact rfl)
      go_simp
    · obtain ⟨_, q196, rfl⟩ := hG.new 196 (by kernel_rfl) (by kernel_rfl)
      obtain ⟨_, q194, rfl⟩ := hG.new 194 (by kernel_rfl) (by kernel_rfl)
      refine step_value (v := .bool true) (w' := wx) rfl (by simp [Region.wanted, yielded, q194]) ?_ (Below.refl _ _) (fun d hd => by cases hd; exact rfl)
      go_simp
    · have q21 := (hG.old 21 (by kernel_rfl) (by kernel_rfl)).trans o21
      obtain ⟨_, q197, rfl⟩ := hG.new 197 (by kernel_rfl) (by kernel_rfl)
      refine step_value (v := .pointer (some ⟨gG, 1, none⟩)) (w' := wx) rfl (by simp [Region.wanted, yielded, q197]) ?_ (Below.refl _ _) (fun d hd => by cases hd; exact rfl)
      go_simp
    · obtain ⟨_, q198, rfl⟩ := hG.new 198 (by kernel_rfl) (by kernel_rfl)
      obtain ⟨_, q197, rfl⟩ := hG.new 197 (by kernel_rfl) (by kernel_rfl)
      have z0 := HGP.out wx hS
      refine step_value (v := .bool true) (w' := wx) rfl (by simp [Region.wanted, yielded, q197]) ?_ (Below.refl _ _) (fun d hd => by cases hd; exact rfl)
      go_simp
    · obtain ⟨_, q199, rfl⟩ := hG.new 199 (by kernel_rfl) (by kernel_rfl)
      obtain ⟨_, q197, rfl⟩ := hG.new 197 (by kernel_rfl) (by kernel_rfl)
      refine step_value (v := .bool false) (w' := wx) rfl (by simp [Region.wanted, yielded, q197]) ?_ (Below.refl _ _) (fun d hd => by cases hd; exact rfl)
      go_simp
    · obtain ⟨_, q200, rfl⟩ := hG.new 200 (by kernel_rfl) (by kernel_rfl)
      obtain ⟨_, q197, rfl⟩ := hG.new 197 (by kernel_rfl) (by kernel_rfl)
      refine step_value (v := .bool false) (w' := wx) rfl (by simp [Region.wanted, yielded, q197]) ?_ (Below.refl _ _) (fun d hd => by cases hd; exact rfl)
      go_simp
    · have q23 := (hG.old 23 (by kernel_rfl) (by kernel_rfl)).trans o23
      obtain ⟨_, q201, rfl⟩ := hG.new 201 (by kernel_rfl) (by kernel_rfl)
      refine step_value (v := .int .i64 (k : Int)) (w' := wx) rfl (by simp [Region.wanted, yielded, q201]) ?_ (Below.refl _ _) (fun d hd => by cases hd; exact rfl)
      go_simp
    · have q6 := (hG.old 6 (by kernel_rfl) (by kernel_rfl)).trans o6
      obtain ⟨_, q201, rfl⟩ := hG.new 201 (by kernel_rfl) (by kernel_rfl)
      refine step_value (v := .slice (some adP) nP cP) (w' := wx) rfl (by simp [Region.wanted, yielded, q201]) ?_ (Below.refl _ _) (fun d hd => by cases hd; exact rfl)
      go_simp
    · obtain ⟨_, q203, rfl⟩ := hG.new 203 (by kernel_rfl) (by kernel_rfl)
      obtain ⟨_, q201, rfl⟩ := hG.new 201 (by kernel_rfl) (by kernel_rfl)
      refine step_value (v := .int .i64 (nP : Int)) (w' := wx) rfl (by simp [Region.wanted, yielded, q201]) ?_ (Below.refl _ _) (fun d hd => by cases hd; exact rfl)
      go_simp
    · obtain ⟨_, q202, rfl⟩ := hG.new 202 (by kernel_rfl) (by kernel_rfl)
      obtain ⟨_, q204, rfl⟩ := hG.new 204 (by kernel_rfl) (by kernel_rfl)
      obtain ⟨_, q201, rfl⟩ := hG.new 201 (by kernel_rfl) (by kernel_rfl)
      refine step_value (v := .bool false) (w' := wx) rfl (by simp [Region.wanted, yielded, q201]) ?_ (Below.refl _ _) (fun d hd => by cases hd; exact rfl)
      have hq := HLTP.out
      have hq1 := HGEP.out
      have hq2 := HGFP.out
      go_simp
    · obtain ⟨_, q201, rfl⟩ := hG.new 201 (by kernel_rfl) (by kernel_rfl)
      obtain ⟨_, q205, rfl⟩ := hG.new 205 (by kernel_rfl) (by kernel_rfl)
      obtain ⟨_, q197, rfl⟩ := hG.new 197 (by kernel_rfl) (by kernel_rfl)
      refine step_value (v := .bool false) (w' := wx) rfl (by simp [Region.wanted, yielded, q197]) ?_ (Below.refl _ _) (fun d hd => by cases hd; exact rfl)
      go_simp
    · obtain ⟨_, q206, rfl⟩ := hG.new 206 (by kernel_rfl) (by kernel_rfl)
      obtain ⟨_, q197, rfl⟩ := hG.new 197 (by kernel_rfl) (by kernel_rfl)
      refine step_value (v := .bool false) (w' := wx) rfl (by simp [Region.wanted, yielded, q197]) ?_ (Below.refl _ _) (fun d hd => by cases hd; exact rfl)
      go_simp
    · have q6 := (hG.old 6 (by kernel_rfl) (by kernel_rfl)).trans o6
      obtain ⟨_, q207, rfl⟩ := hG.new 207 (by kernel_rfl) (by kernel_rfl)
      refine step_value (v := .slice (some adP) nP cP) (w' := wx) rfl (by simp [Region.wanted, yielded, q207]) ?_ (Below.refl _ _) (fun d hd => by cases hd; exact rfl)
      go_simp
    · have q23 := (hG.old 23 (by kernel_rfl) (by kernel_rfl)).trans o23
      obtain ⟨_, q207, rfl⟩ := hG.new 207 (by kernel_rfl) (by kernel_rfl)
      refine step_value (v := .int .i64 (k : Int)) (w' := wx) rfl (by simp [Region.wanted, yielded, q207]) ?_ (Below.refl _ _) (fun d hd => by cases hd; exact rfl)
      go_simp
    · obtain ⟨_, q208, rfl⟩ := hG.new 208 (by kernel_rfl) (by kernel_rfl)
      obtain ⟨_, q209, rfl⟩ := hG.new 209 (by kernel_rfl) (by kernel_rfl)
      obtain ⟨_, q207, rfl⟩ := hG.new 207 (by kernel_rfl) (by kernel_rfl)
      refine step_value (v := .pointer (some (adP.add (k * 2)))) (w' := wx) rfl (by simp [Region.wanted, yielded, q207]) ?_ (Below.refl _ _) (fun d hd => by cases hd; exact rfl)
      have hq := HLTP.out
      go_simp
    · obtain ⟨_, q210, rfl⟩ := hG.new 210 (by kernel_rfl) (by kernel_rfl)
      obtain ⟨_, q207, rfl⟩ := hG.new 207 (by kernel_rfl) (by kernel_rfl)
      obtain ⟨z0, z1⟩ := HVP.out wx hS
      refine step_value (v := .agg #[.string pk, .string pv]) (w' := wx) rfl (by simp [Region.wanted, yielded, q207]) ?_ (Below.refl _ _) (fun d hd => by cases hd; exact rfl)
      go_simp
    · have q26 := (hG.old 26 (by kernel_rfl) (by kernel_rfl)).trans o26
      obtain ⟨_, q207, rfl⟩ := hG.new 207 (by kernel_rfl) (by kernel_rfl)
      obtain ⟨z0, z1⟩ := HXP.out wx hS
      refine step_value (v := .agg #[.string pk, .string pv]) (w' := wx) rfl (by simp [Region.wanted, yielded, q207]) ?_ (Below.refl _ _) (fun d hd => by cases hd; exact rfl)
      go_simp
    · obtain ⟨_, q211, rfl⟩ := hG.new 211 (by kernel_rfl) (by kernel_rfl)
      obtain ⟨_, q212, rfl⟩ := hG.new 212 (by kernel_rfl) (by kernel_rfl)
      obtain ⟨_, q207, rfl⟩ := hG.new 207 (by kernel_rfl) (by kernel_rfl)
      refine step_value (v := .bool false) (w' := wx) rfl (by simp [Region.wanted, yielded, q207]) ?_ (Below.refl _ _) (fun d hd => by cases hd; exact rfl)
      go_simp
    · obtain ⟨_, q207, rfl⟩ := hG.new 207 (by kernel_rfl) (by kernel_rfl)
      obtain ⟨_, q213, rfl⟩ := hG.new 213 (by kernel_rfl) (by kernel_rfl)
      obtain ⟨_, q197, rfl⟩ := hG.new 197 (by kernel_rfl) (by kernel_rfl)
      refine step_value (v := .bool false) (w' := wx) rfl (by simp [Region.wanted, yielded, q197]) ?_ (Below.refl _ _) (fun d hd => by cases hd; exact rfl)
      go_simp
    · obtain ⟨_, q197, rfl⟩ := hG.new 197 (by kernel_rfl) (by kernel_rfl)
      obtain ⟨_, q214, rfl⟩ := hG.new 214 (by kernel_rfl) (by kernel_rfl)
      obtain ⟨_, q194, rfl⟩ := hG.new 194 (by kernel_rfl) (by kernel_rfl)
      refine step_value (v := .bool false) (w' := wx) rfl (by simp [Region.wanted, yielded, q194]) ?_ (Below.refl _ _) (fun d hd => by cases hd; exact rfl)
      go_simp
    · obtain ⟨_, q194, rfl⟩ := hG.new 194 (by kernel_rfl) (by kernel_rfl)
      obtain ⟨_, q215, rfl⟩ := hG.new 215 (by kernel_rfl) (by kernel_rfl)
      refine step_value (v := .bool false) (w' := wx) rfl rfl ?_ (Below.refl _ _) (fun d hd => by cases hd; exact rfl)
      go_simp
    · obtain ⟨_, q216, rfl⟩ := hG.new 216 (by kernel_rfl) (by kernel_rfl)
      refine step_value (v := .bool false) (w' := wx) rfl rfl ?_ (Below.refl _ _) (fun d hd => by cases hd; exact rfl)
      go_simp
    · have q11 := (hG.old 11 (by kernel_rfl) (by kernel_rfl)).trans o11
      obtain ⟨_, q217, rfl⟩ := hG.new 217 (by kernel_rfl) (by kernel_rfl)
      refine step_value (v := .int .i64 2) (w' := wx) rfl (by simp [Region.wanted, yielded, q217]) ?_ (Below.refl _ _) (fun d hd => by cases hd; exact rfl)
      go_simp
    · obtain ⟨_, q218, rfl⟩ := hG.new 218 (by kernel_rfl) (by kernel_rfl)
      obtain ⟨_, q217, rfl⟩ := hG.new 217 (by kernel_rfl) (by kernel_rfl)
      refine step_value (v := .bool false) (w' := wx) rfl (by simp [Region.wanted, yielded, q217]) ?_ (Below.refl _ _) (fun d hd => by cases hd; exact rfl)
      go_simp
    · obtain ⟨_, q219, rfl⟩ := hG.new 219 (by kernel_rfl) (by kernel_rfl)
      obtain ⟨_, q217, rfl⟩ := hG.new 217 (by kernel_rfl) (by kernel_rfl)
      refine step_value (v := .bool false) (w' := wx) rfl (by simp [Region.wanted, yielded, q217]) ?_ (Below.refl _ _) (fun d hd => by cases hd; exact rfl)
      go_simp
    · obtain ⟨_, q220, rfl⟩ := hG.new 220 (by kernel_rfl) (by kernel_rfl)
      refine step_past rfl (by simp [Region.wanted, yielded, q220]) (Below.refl _ _) (fun d hd => by cases hd; exact rfl)
    · obtain ⟨_, q220, rfl⟩ := hG.new 220 (by kernel_rfl) (by kernel_rfl)
      refine step_past rfl (by simp [Region.wanted, yielded, q220]) (Below.refl _ _) (fun d hd => by cases hd; exact rfl)
    · obtain ⟨_, q220, rfl⟩ := hG.new 220 (by kernel_rfl) (by kernel_rfl)
      refine step_past rfl (by simp [Region.wanted, yielded, q220]) (Below.refl _ _) (fun d hd => by cases hd; exact rfl)
    · obtain ⟨_, q220, rfl⟩ := hG.new 220 (by kernel_rfl) (by kernel_rfl)
      refine step_past rfl (by simp [Region.wanted, yielded, q220]) (Below.refl _ _) (fun d hd => by cases hd; exact rfl)
    · obtain ⟨_, q224, rfl⟩ := hG.new 224 (by kernel_rfl) (by kernel_rfl)
      refine step_past rfl (by simp [Region.wanted, yielded, q224, undef]) (Below.refl _ _) (fun d hd => by cases hd; exact rfl)
    · obtain ⟨_, q224, rfl⟩ := hG.new 224 (by kernel_rfl) (by kernel_rfl)
      refine step_past rfl (by simp [Region.wanted, yielded, q224, undef]) (Below.refl _ _) (fun d hd => by cases hd; exact rfl)
    · obtain ⟨_, q224, rfl⟩ := hG.new 224 (by kernel_rfl) (by kernel_rfl)
      refine step_past rfl (by simp [Region.wanted, yielded, q224, undef]) (Below.refl _ _) (fun d hd => by cases hd; exact rfl)
    · obtain ⟨_, q224, rfl⟩ := hG.new 224 (by kernel_rfl) (by kernel_rfl)
      refine step_past rfl (by simp [Region.wanted, yielded, q224, undef]) (Below.refl _ _) (fun d hd => by cases hd; exact rfl)
    · obtain ⟨_, q220, rfl⟩ := hG.new 220 (by kernel_rfl) (by kernel_rfl)
      refine step_past rfl (by simp [Region.wanted, yielded, q220]) (Below.refl _ _) (fun d hd => by cases hd; exact rfl)
    · obtain ⟨_, q220, rfl⟩ := hG.new 220 (by kernel_rfl) (by kernel_rfl)
      refine step_past rfl (by simp [Region.wanted, yielded, q220]) (Below.refl _ _) (fun d hd => by cases hd; exact rfl)
    · obtain ⟨_, q230, rfl⟩ := hG.new 230 (by kernel_rfl) (by kernel_rfl)
      refine step_past rfl (by simp [Region.wanted, yielded, q230, undef]) (Below.refl _ _) (fun d hd => by cases hd; exact rfl)
    · obtain ⟨_, q230, rfl⟩ := hG.new 230 (by kernel_rfl) (by kernel_rfl)
      refine step_past rfl (by simp [Region.wanted, yielded, q230, undef]) (Below.refl _ _) (fun d hd => by cases hd; exact rfl)
    · obtain ⟨_, q230, rfl⟩ := hG.new 230 (by kernel_rfl) (by kernel_rfl)
      refine step_past rfl (by simp [Region.wanted, yielded, q230, undef]) (Below.refl _ _) (fun d hd => by cases hd; exact rfl)
    · obtain ⟨_, q230, rfl⟩ := hG.new 230 (by kernel_rfl) (by kernel_rfl)
      refine step_past rfl (by simp [Region.wanted, yielded, q230, undef]) (Below.refl _ _) (fun d hd => by cases hd; exact rfl)
    · obtain ⟨_, q230, rfl⟩ := hG.new 230 (by kernel_rfl) (by kernel_rfl)
      refine step_past rfl (by simp [Region.wanted, yielded, q230, undef]) (Below.refl _ _) (fun d hd => by cases hd; exact rfl)
    · obtain ⟨_, q230, rfl⟩ := hG.new 230 (by kernel_rfl) (by kernel_rfl)
      refine step_past rfl (by simp [Region.wanted, yielded, q230, undef]) (Below.refl _ _) (fun d hd => by cases hd; exact rfl)
    · obtain ⟨_, q220, rfl⟩ := hG.new 220 (by kernel_rfl) (by kernel_rfl)
      refine step_past rfl (by simp [Region.wanted, yielded, q220]) (Below.refl _ _) (fun d hd => by cases hd; exact rfl)
    · obtain ⟨_, q220, rfl⟩ := hG.new 220 (by kernel_rfl) (by kernel_rfl)
      obtain ⟨_, q237, rfl⟩ := hG.new 237 (by kernel_rfl) (by kernel_rfl)
      obtain ⟨_, q217, rfl⟩ := hG.new 217 (by kernel_rfl) (by kernel_rfl)
      refine step_value (v := .bool false) (w' := wx) rfl (by simp [Region.wanted, yielded, q217]) ?_ (Below.refl _ _) (fun d hd => by cases hd; exact rfl)
      go_simp
    · obtain ⟨_, q217, rfl⟩ := hG.new 217 (by kernel_rfl) (by kernel_rfl)
      obtain ⟨_, q238, rfl⟩ := hG.new 238 (by kernel_rfl) (by kernel_rfl)
      refine step_value (v := .bool false) (w' := wx) rfl rfl ?_ (Below.refl _ _) (fun d hd => by cases hd; exact rfl)
      go_simp
  intro fv wf hSf hV8
  have e239 : fv 239 = .bool false := hV8 239 (by decide)
  exact done fv wf hSf e239

def TkV111 (gG k : Nat) (adN : Addr) (nN cN : Nat) (xk : Int) (xkey xval : ByteArray) (xn : UInt64) (adP : Addr) (nP cP : Nat) (pk pv : ByteArray) (adC : Addr) (nC cC : Nat) (cs : Int) (ck cb ca : ByteArray) (ch cg : Bool) (t : Nat) (v : Value) (w : World) : Prop :=
  match t with
  | 173 => v = .int .i64 0
  | 174 => v = .bool true
  | 175 => v = .bool true
  | 176 => v = .pointer (some ⟨gG, 0, none⟩)
  | 177 => v = .bool true
  | 178 => v = .bool false
  | 179 => v = .bool false
  | 180 => v = .int .i64 (k : Int)
  | 181 => v = .slice (some adN) nN cN
  | 182 => v = .int .i64 (nN : Int)
  | 183 => v = .bool false
  | 184 => v = .bool false
  | 185 => v = .bool false
  | 186 => v = .slice (some adN) nN cN
  | 187 => v = .int .i64 (k : Int)
  | 188 => v = .pointer (some (adN.add (k * 4)))
  | 189 => v = .agg #[.int .i64 xk, .string xkey, .string xval, .int .u64 (xn.toNat : Int)]
  | 190 => v = .agg #[.int .i64 xk, .string xkey, .string xval, .int .u64 (xn.toNat : Int)]
  | 191 => v = .bool false
  | 192 => v = .bool false
  | 193 => v = .bool false
  | 194 => v = .bool false
  | 195 => v = .int .i64 0
  | 196 => v = .bool true
  | 197 => v = .bool true
  | 198 => v = .pointer (some ⟨gG, 1, none⟩)
  | 199 => v = .bool true
  | 200 => v = .bool false
  | 201 => v = .bool false
  | 202 => v = .int .i64 (k : Int)
  | 203 => v = .slice (some adP) nP cP
  | 204 => v = .int .i64 (nP : Int)
  | 205 => v = .bool false
  | 206 => v = .bool false
  | 207 => v = .bool false
  | 208 => v = .slice (some adP) nP cP
  | 209 => v = .int .i64 (k : Int)
  | 210 => v = .pointer (some (adP.add (k * 2)))
  | 211 => v = .agg #[.string pk, .string pv]
  | 212 => v = .agg #[.string pk, .string pv]
  | 213 => v = .bool false
  | 214 => v = .bool false
  | 215 => v = .bool false
  | 216 => v = .bool false
  | 217 => v = .bool false
  | 218 => v = .int .i64 0
  | 219 => v = .bool true
  | 220 => v = .bool true
  | 221 => v = .pointer (some ⟨gG, 2, none⟩)
  | 222 => v = .bool true
  | 223 => v = .bool false
  | 224 => v = .bool false
  | 225 => v = .int .i64 (k : Int)
  | 226 => v = .slice (some adC) nC cC
  | 227 => v = .int .i64 (nC : Int)
  | 228 => v = .bool false
  | 229 => v = .bool false
  | 230 => v = .bool false
  | 231 => v = .slice (some adC) nC cC
  | 232 => v = .int .i64 (k : Int)
  | 233 => v = .pointer (some (adC.add (k * 6)))
  | 234 => v = .agg #[.int .i64 cs, .string ck, .bool ch, .string cb, .bool cg, .string ca]
  | 235 => v = .agg #[.int .i64 cs, .string ck, .bool ch, .string cb, .bool cg, .string ca]
  | 236 => v = .bool false
  | 237 => v = .bool false
  | 238 => v = .bool false
  | 239 => v = .bool false
  | _ => True
theorem TkV111.on {gG k : Nat} {adN : Addr} {nN cN : Nat} {xk : Int} {xkey xval : ByteArray} {xn : UInt64} {adP : Addr} {nP cP : Nat} {pk pv : ByteArray} {adC : Addr} {nC cC : Nat} {cs : Int} {ck cb ca : ByteArray} {ch cg : Bool} {t : Nat} {v : Value} {w w' : World} (h : TkV111 gG k adN nN cN xk xkey xval xn adP nP cP pk pv adC nC cC cs ck cb ca ch cg t v w) (hb : Below w.heap.size w w') : TkV111 gG k adN nN cN xk xkey xval xn adP nP cP pk pv adC nC cC cs ck cb ca ch cg t v w' := by
  unfold TkV111 at *
  split at h <;> first | exact h | exact h

set_option maxRecDepth 100000 in
set_option maxHeartbeats 4000000 in
theorem tk28_111 (gG k : Nat) (adN : Addr) (nN cN : Nat) (xk : Int) (xkey xval : ByteArray) (xn : UInt64) (adP : Addr) (nP cP : Nat) (pk pv : ByteArray) (adC : Addr) (nC cC : Nat) (cs : Int) (ck cb ca : ByteArray) (ch cg : Bool) (a0 : Act) (w0 : World) (Q : Exit → Act → World → Prop) (hsz : a0.tmps.size = 315) (o21 : a0.tmps[21]? = some (.pointer (some ⟨gG, 0, none⟩))) (o23 : a0.tmps[23]? = some (.int .i64 (k : Int))) (o5 : a0.tmps[5]? = some (.int .i64 0)) (gxN : Nat) (o3 : a0.tmps[3]? = some (.slice (some adN) nN cN)) (o24 : a0.tmps[24]? = some (.pointer (some ⟨gxN, 0, none⟩))) (HLTN : Hid (k < nN)) (HGEN : Hid (decide ((nN : Int) ≤ (k : Int)) = false)) (HGFN : Hid (decide (nN ≤ k) = false)) (HGN : Hid (∀ wx, Below w0.heap.size w0 wx → wx.cell? ⟨gG, 0, none⟩ = some (.bool true))) (HVN : Hid (∀ wx, Below w0.heap.size w0 wx → wx.cell? (adN.add (k * 4)) = some (.int .i64 xk) ∧ wx.cell? ⟨(adN.add (k * 4)).block, (adN.add (k * 4)).off + 1, none⟩ = some (.string xkey) ∧ wx.cell? ⟨(adN.add (k * 4)).block, (adN.add (k * 4)).off + 2, none⟩ = some (.string xval) ∧ wx.cell? ⟨(adN.add (k * 4)).block, (adN.add (k * 4)).off + 3, none⟩ = some (.int .u64 (xn.toNat : Int)))) (HXN : Hid (∀ wx, Below w0.heap.size w0 wx → wx.cell? ⟨gxN, 0, none⟩ = some (.int .i64 xk) ∧ wx.cell? ⟨gxN, 1, none⟩ = some (.string xkey) ∧ wx.cell? ⟨gxN, 2, none⟩ = some (.string xval) ∧ wx.cell? ⟨gxN, 3, none⟩ = some (.int .u64 (xn.toNat : Int)))) (o8 : a0.tmps[8]? = some (.int .i64 0)) (gxP : Nat) (o6 : a0.tmps[6]? = some (.slice (some adP) nP cP)) (o26 : a0.tmps[26]? = some (.pointer (some ⟨gxP, 0, none⟩))) (HLTP : Hid (k < nP)) (HGEP : Hid (decide ((nP : Int) ≤ (k : Int)) = false)) (HGFP : Hid (decide (nP ≤ k) = false)) (HGP : Hid (∀ wx, Below w0.heap.size w0 wx → wx.cell? ⟨gG, 1, none⟩ = some (.bool true))) (HVP : Hid (∀ wx, Below w0.heap.size w0 wx → wx.cell? (adP.add (k * 2)) = some (.string pk) ∧ wx.cell? ⟨(adP.add (k * 2)).block, (adP.add (k * 2)).off + 1, none⟩ = some (.string pv))) (HXP : Hid (∀ wx, Below w0.heap.size w0 wx → wx.cell? ⟨gxP, 0, none⟩ = some (.string pk) ∧ wx.cell? ⟨gxP, 1, none⟩ = some (.string pv))) (o11 : a0.tmps[11]? = some (.int .i64 0)) (gxC : Nat) (o9 : a0.tmps[9]? = some (.slice (some adC) nC cC)) (o28 : a0.tmps[28]? = some (.pointer (some ⟨gxC, 0, none⟩))) (HLTC : Hid (k < nC)) (HGEC : Hid (decide ((nC : Int) ≤ (k : Int)) = false)) (HGFC : Hid (decide (nC ≤ k) = false)) (HGC : Hid (∀ wx, Below w0.heap.size w0 wx → wx.cell? ⟨gG, 2, none⟩ = some (.bool true))) (HVC : Hid (∀ wx, Below w0.heap.size w0 wx → wx.cell? (adC.add (k * 6)) = some (.int .i64 cs) ∧ wx.cell? ⟨(adC.add (k * 6)).block, (adC.add (k * 6)).off + 1, none⟩ = some (.string ck) ∧ wx.cell? ⟨(adC.add (k * 6)).block, (adC.add (k * 6)).off + 2, none⟩ = some (.bool ch) ∧ wx.cell? ⟨(adC.add (k * 6)).block, (adC.add (k * 6)).off + 3, none⟩ = some (.string cb) ∧ wx.cell? ⟨(adC.add (k * 6)).block, (adC.add (k * 6)).off + 4, none⟩ = some (.bool cg) ∧ wx.cell? ⟨(adC.add (k * 6)).block, (adC.add (k * 6)).off + 5, none⟩ = some (.string ca))) (HXC : Hid (∀ wx, Below w0.heap.size w0 wx → wx.cell? ⟨gxC, 0, none⟩ = some (.int .i64 cs) ∧ wx.cell? ⟨gxC, 1, none⟩ = some (.string ck) ∧ wx.cell? ⟨gxC, 2, none⟩ = some (.bool ch) ∧ wx.cell? ⟨gxC, 3, none⟩ = some (.string cb) ∧ wx.cell? ⟨gxC, 4, none⟩ = some (.bool cg) ∧ wx.cell? ⟨gxC, 5, none⟩ = some (.string ca)))
    (done : ∀ (fv : Nat → Value) (wf : World), Below w0.heap.size w0 wf → fv 239 = .bool false → Q .normal (puts a0 [173, 174, 175, 176, 177, 178, 179, 180, 181, 182, 183, 184, 185, 186, 187, 188, 189, 190, 191, 192, 193, 194, 195, 196, 197, 198, 199, 200, 201, 202, 203, 204, 205, 206, 207, 208, 209, 210, 211, 212, 213, 214, 215, 216, 217, 218, 219, 220, 221, 222, 223, 224, 225, 226, 227, 228, 229, 230, 231, 232, 233, 234, 235, 236, 237, 238, 239] fv) wf) : Code.wp Try.prog rg28 Q a0 w0 := by
  unfold rg28
  conv => arg 2; whnf
  refine wp_region_inv [173, 174, 175, 176, 177, 178, 179, 180, 181, 182, 183, 184, 185, 186, 187, 188, 189, 190, 191, 192, 193, 194, 195, 196, 197, 198, 199, 200, 201, 202, 203, 204, 205, 206, 207, 208, 209, 210, 211, 212, 213, 214, 215, 216, 217, 218, 219, 220, 221, 222, 223, 224, 225, 226, 227, 228, 229, 230, 231, 232, 233, 234, 235, 236, 237, 238, 239] (by kernel_rfl) (by kernel_rfl) (fun w' => Below w0.heap.size w0 w') (fun wa wb => Below wa.heap.size wa wb) (TkV111 gG k adN nN cN xk xkey xval xn adP nP cP pk pv adC nC cC cs ck cb ca ch cg) (by rw [hsz]; kernel_rfl) (fun wa wb h1 h2 => h2.trans (h1.mono h2.size)) (fun t v wa wb h1 h2 => h2.on h1) (Below.refl _ _).drew (steps_of ?_) ?_
  · skip
    refine Steps1.cons (fun ax wx hS hG => ?_) (Steps1.cons (fun ax wx hS hG => ?_) (Steps1.cons (fun ax wx hS hG => ?_) (Steps1.cons (fun ax wx hS hG => ?_) (Steps1.cons (fun ax wx hS hG => ?_) (Steps1.cons (fun ax wx hS hG => ?_) (Steps1.cons (fun ax wx hS hG => ?_) (Steps1.cons (fun ax wx hS hG => ?_) (Steps1.cons (fun ax wx hS hG => ?_) (Steps1.cons (fun ax wx hS hG => ?_) (Steps1.cons (fun ax wx hS hG => ?_) (Steps1.cons (fun ax wx hS hG => ?_) (Steps1.cons (fun ax wx hS hG => ?_) (Steps1.cons (fun ax wx hS hG => ?_) (Steps1.cons (fun ax wx hS hG => ?_) (Steps1.cons (fun ax wx hS hG => ?_) (Steps1.cons (fun ax wx hS hG => ?_) (Steps1.cons (fun ax wx hS hG => ?_) (Steps1.cons (fun ax wx hS hG => ?_) (Steps1.cons (fun ax wx hS hG => ?_) (Steps1.cons (fun ax wx hS hG => ?_) (Steps1.cons (fun ax wx hS hG => ?_) (Steps1.cons (fun ax wx hS hG => ?_) (Steps1.cons (fun ax wx hS hG => ?_) (Steps1.cons (fun ax wx hS hG => ?_) (Steps1.cons (fun ax wx hS hG => ?_) (Steps1.cons (fun ax wx hS hG => ?_) (Steps1.cons (fun ax wx hS hG => ?_) (Steps1.cons (fun ax wx hS hG => ?_) (Steps1.cons (fun ax wx hS hG => ?_) (Steps1.cons (fun ax wx hS hG => ?_) (Steps1.cons (fun ax wx hS hG => ?_) (Steps1.cons (fun ax wx hS hG => ?_) (Steps1.cons (fun ax wx hS hG => ?_) (Steps1.cons (fun ax wx hS hG => ?_) (Steps1.cons (fun ax wx hS hG => ?_) (Steps1.cons (fun ax wx hS hG => ?_) (Steps1.cons (fun ax wx hS hG => ?_) (Steps1.cons (fun ax wx hS hG => ?_) (Steps1.cons (fun ax wx hS hG => ?_) (Steps1.cons (fun ax wx hS hG => ?_) (Steps1.cons (fun ax wx hS hG => ?_) (Steps1.cons (fun ax wx hS hG => ?_) (Steps1.cons (fun ax wx hS hG => ?_) (Steps1.cons (fun ax wx hS hG => ?_) (Steps1.cons (fun ax wx hS hG => ?_) (Steps1.cons (fun ax wx hS hG => ?_) (Steps1.cons (fun ax wx hS hG => ?_) (Steps1.cons (fun ax wx hS hG => ?_) (Steps1.cons (fun ax wx hS hG => ?_) (Steps1.cons (fun ax wx hS hG => ?_) (Steps1.cons (fun ax wx hS hG => ?_) (Steps1.cons (fun ax wx hS hG => ?_) (Steps1.cons (fun ax wx hS hG => ?_) (Steps1.cons (fun ax wx hS hG => ?_) (Steps1.cons (fun ax wx hS hG => ?_) (Steps1.cons (fun ax wx hS hG => ?_) (Steps1.cons (fun ax wx hS hG => ?_) (Steps1.cons (fun ax wx hS hG => ?_) (Steps1.cons (fun ax wx hS hG => ?_) (Steps1.cons (fun ax wx hS hG => ?_) (Steps1.cons (fun ax wx hS hG => ?_) (Steps1.cons (fun ax wx hS hG => ?_) (Steps1.cons (fun ax wx hS hG => ?_) (Steps1.cons (fun ax wx hS hG => ?_) (Steps1.cons (fun ax wx hS hG => ?_) (Steps1.cons (fun ax wx hS hG => ?_) Steps1.nil))))))))))))))))))))))))))))))))))))))))))))))))))))))))))))))))))
    · have q5 := (hG.old 5 (by kernel_rfl) (by kernel_rfl)).trans o5
      refine step_value (v := .int .i64 0) (w' := wx) rfl rfl ?_ (Below.refl _ _) (fun d hd => by cases hd; exact rfl)
      go_simp
    · obtain ⟨_, q173, rfl⟩ := hG.new 173 (by kernel_rfl) (by kernel_rfl)
      refine step_value (v := .bool true) (w' := wx) rfl rfl ?_ (Below.refl _ _) (fun d hd => by cases hd; exact rfl)
      go_simp
    · obtain ⟨_, q174, rfl⟩ := hG.new 174 (by kernel_rfl) (by kernel_rfl)
      refine step_value (v := .bool true) (w' := wx) rfl rfl ?_ (Below.refl _ _) (fun d hd => by cases hd; exact rfl)
      go_simp
    · have q21 := (hG.old 21 (by kernel_rfl) (by kernel_rfl)).trans o21
      obtain ⟨_, q175, rfl⟩ := hG.new 175 (by kernel_rfl) (by kernel_rfl)
      refine step_value (v := .pointer (some ⟨gG, 0, none⟩)) (w' := wx) rfl (by simp [Region.wanted, yielded, q175]) ?_ (Below.refl _ _) (fun d hd => by cases hd; exact rfl)
      go_simp
    · obtain ⟨_, q176, rfl⟩ := hG.new 176 (by kernel_rfl) (by kernel_rfl)
      obtain ⟨_, q175, rfl⟩ := hG.new 175 (by kernel_rfl) (by kernel_rfl)
      have z0 := HGN.out wx hS
      refine step_value (v := .bool true) (w' := wx) rfl (by simp [Region.wanted, yielded, q175]) ?_ (Below.refl _ _) (fun d hd => by cases hd; exact rfl)
      go_simp
    · obtain ⟨_, q177, rfl⟩ := hG.new 177 (by kernel_rfl) (by kernel_rfl)
      obtain ⟨_, q175, rfl⟩ := hG.new 175 (by kernel_rfl) (by kernel_rfl)
      refine step_value (v := .bool false) (w' := wx) rfl (by simp [Region.wanted, yielded, q175]) ?_ (Below.refl _ _) (fun d hd => by cases hd; exact rfl)
      go_simp
    · obtain ⟨_, q178, rfl⟩ := hG.new 178 (by kernel_rfl) (by kernel_rfl)
      obtain ⟨_, q175, rfl⟩ := hG.new 175 (by kernel_rfl) (by kernel_rfl)
      refine step_value (v := .bool false) (w' := wx) rfl (by simp [Region.wanted, yielded, q175]) ?_ (Below.refl _ _) (fun d hd => by cases hd; exact rfl)
      go_simp
    · have q23 := (hG.old 23 (by kernel_rfl) (by kernel_rfl)).trans o23
      obtain ⟨_, q179, rfl⟩ := hG.new 179 (by kernel_rfl) (by kernel_rfl)
      refine step_value (v := .int .i64 (k : Int)) (w' := wx) rfl (by simp [Region.wanted, yielded, q179]) ?_ (Below.refl _ _) (fun d hd => by cases hd; exact rfl)
      go_simp
    · have q3 := (hG.old 3 (by kernel_rfl) (by kernel_rfl)).trans o3
      obtain ⟨_, q179, rfl⟩ := hG.new 179 (by kernel_rfl) (by kernel_rfl)
      refine step_value (v := .slice (some adN) nN cN) (w' := wx) rfl (by simp [Region.wanted, yielded, q179]) ?_ (Below.refl _ _) (fun d hd => by cases hd; exact rfl)
      go_simp
    · obtain ⟨_, q181, rfl⟩ := hG.new 181 (by kernel_rfl) (by kernel_rfl)
      obtain ⟨_, q179, rfl⟩ := hG.new 179 (by kernel_rfl) (by kernel_rfl)
      refine step_value (v := .int .i64 (nN : Int)) (w' := wx) rfl (by simp [Region.wanted, yielded, q179]) ?_ (Below.refl _ _) (fun d hd => by cases hd; exact rfl)
      go_simp
    · obtain ⟨_, q180, rfl⟩ := hG.new 180 (by kernel_rfl) (by kernel_rfl)
      obtain ⟨_, q182, rfl⟩ := hG.new 182 (by kernel_rfl) (by kernel_rfl)
      obtain ⟨_, q179, rfl⟩ := hG.new 179 (by kernel_rfl) (by kernel_rfl)
      refine step_value (v := .bool false) (w' := wx) rfl (by simp [Region.wanted, yielded, q179]) ?_ (Below.refl _ _) (fun d hd => by cases hd; exact rfl)
      have hq := HLTN.out
      have hq1 := HGEN.out
      have hq2 := HGFN.out
      go_simp
    · obtain ⟨_, q179, rfl⟩ := hG.new 179 (by kernel_rfl) (by kernel_rfl)
      obtain ⟨_, q183, rfl⟩ := hG.new 183 (by kernel_rfl) (by kernel_rfl)
      obtain ⟨_, q175, rfl⟩ := hG.new 175 (by kernel_rfl) (by kernel_rfl)
      refine step_value (v := .bool false) (w' := wx) rfl (by simp [Region.wanted, yielded, q175]) ?_ (Below.refl _ _) (fun d hd => by cases hd; exact rfl)
      go_simp
    · obtain ⟨_, q184, rfl⟩ := hG.new 184 (by kernel_rfl) (by kernel_rfl)
      obtain ⟨_, q175, rfl⟩ := hG.new 175 (by kernel_rfl) (by kernel_rfl)
      refine step_value (v := .bool false) (w' := wx) rfl (by simp [Region.wanted, yielded, q175]) ?_ (Below.refl _ _) (fun d hd => by cases hd; exact rfl)
      go_simp
    · have q3 := (hG.old 3 (by kernel_rfl) (by kernel_rfl)).trans o3
      obtain ⟨_, q185, rfl⟩ := hG.new 185 (by kernel_rfl) (by kernel_rfl)
      refine step_value (v := .slice (some adN) nN cN) (w' := wx) rfl (by simp [Region.wanted, yielded, q185]) ?_ (Below.refl _ _) (fun d hd => by cases hd; exact rfl)
      go_simp
    · have q23 := (hG.old 23 (by kernel_rfl) (by kernel_rfl)).trans o23
      obtain ⟨_, q185, rfl⟩ := hG.new 185 (by kernel_rfl) (by kernel_rfl)
      refine step_value (v := .int .i64 (k : Int)) (w' := wx) rfl (by simp [Region.wanted, yielded, q185]) ?_ (Below.refl _ _) (fun d hd => by cases hd; exact rfl)
      go_simp
    · obtain ⟨_, q186, rfl⟩ := hG.new 186 (by kernel_rfl) (by kernel_rfl)
      obtain ⟨_, q187, rfl⟩ := hG.new 187 (by kernel_rfl) (by kernel_rfl)
      obtain ⟨_, q185, rfl⟩ := hG.new 185 (by kernel_rfl) (by kernel_rfl)
      refine step_value (v := .pointer (some (adN.add (k * 4)))) (w' := wx) rfl (by simp [Region.wanted, yielded, q185]) ?_ (Below.refl _ _) (fun d hd => by cases hd; exact rfl)
      have hq := HLTN.out
      go_simp
    · obtain ⟨_, q188, rfl⟩ := hG.new 188 (by kernel_rfl) (by kernel_rfl)
      obtain ⟨_, q185, rfl⟩ := hG.new 185 (by kernel_rfl) (by kernel_rfl)
      obtain ⟨z0, z1, z2, z3⟩ := HVN.out wx hS
      refine step_value (v := .agg #[.int .i64 xk, .string xkey, .string xval, .int .u64 (xn.toNat : Int)]) (w' := wx) rfl (by simp [Region.wanted, yielded, q185]) ?_ (Below.refl _ _) (fun d hd => by cases hd; exact rfl)
      go_simp
    · have q24 := (hG.old 24 (by kernel_rfl) (by kernel_rfl)).trans o24
      obtain ⟨_, q185, rfl⟩ := hG.new 185 (by kernel_rfl) (by kernel_rfl)
      obtain ⟨z0, z1, z2, z3⟩ := HXN.out wx hS
      refine step_value (v := .agg #[.int .i64 xk, .string xkey, .string xval, .int .u64 (xn.toNat : Int)]) (w' := wx) rfl (by simp [Region.wanted, yielded, q185]) ?_ (Below.refl _ _) (fun d hd => by cases hd; exact rfl)
      go_simp
    · obtain ⟨_, q189, rfl⟩ := hG.new 189 (by kernel_rfl) (by kernel_rfl)
      obtain ⟨_, q190, rfl⟩ := hG.new 190 (by kernel_rfl) (by kernel_rfl)
      obtain ⟨_, q185, rfl⟩ := hG.new 185 (by kernel_rfl) (by kernel_rfl)
      refine step_value (v := .bool false) (w' := wx) rfl (by simp [Region.wanted, yielded, q185]) ?_ (Below.refl _ _) (fun d hd => by cases hd; exact rfl)
      go_simp
    · obtain ⟨_, q185, rfl⟩ := hG.new 185 (by kernel_rfl) (by kernel_rfl)
      obtain ⟨_, q191, rfl⟩ := hG.new 191 (by kernel_rfl) (by kernel_rfl)
      obtain ⟨_, q175, rfl⟩ := hG.new 175 (by kernel_rfl) (by kernel_rfl)
      refine step_value (v := .bool false) (w' := wx) rfl (by simp [Region.wanted, yielded, q175]) ?_ (Below.refl _ _) (fun d hd => by cases hd; exact rfl)
      go_simp
    · obtain ⟨_, q175, rfl⟩ := hG.new 175 (by kernel_rfl) (by kernel_rfl)
      obtain ⟨_, q192, rfl⟩ := hG.new 192 (by kernel_rfl) (by kernel_rfl)
      refine step_value (v := .bool false) (w' := wx) rfl rfl ?_ (Below.refl _ _) (fun d hd => by cases hd; exact rfl)
      go_simp
    · obtain ⟨_, q193, rfl⟩ := hG.new 193 (by kernel_rfl) (by kernel_rfl)
      refine step_value (v := .bool false) (w' := wx) rfl rfl ?_ (Below.refl _ _) (fun d hd => by cases hd; exact rfl)
      go_simp
    · have q8 := (hG.old 8 (by kernel_rfl) (by kernel_rfl)).trans o8
      obtain ⟨_, q194, rfl⟩ := hG.new 194 (by kernel_rfl) (by kernel_rfl)
      refine step_value (v := .int .i64 0) (w' := wx) rfl (by simp [Region.wanted, yielded, q194]) ?_ (Below.refl _ _) (fun d hd => by cases hd; exact rfl)
      go_simp
    · obtain ⟨_, q195, rfl⟩ := hG.new 195 (by kernel_rfl) (by kernel_rfl)
      obtain ⟨_, q194, rfl⟩ := hG.new 194 (by kernel_rfl) (by kernel_rfl)
      refine step_value (v := .bool true) (w' := wx) rfl (by simp [Region.wanted, yielded, q194]) ?_ (Below.refl _ _) (fun d hd => by cases hd; exact rfl)
      go_simp
    · obtain ⟨_, q196, rfl⟩ := hG.new 196 (by kernel_rfl) (by kernel_rfl)
      obtain ⟨_, q194, rfl⟩ := hG.new 194 (by kernel_rfl) (by kernel_rfl)
      refine step_value (v := .bool true) (w' := wx) rfl (by simp [Region.wanted, yielded, q194]) ?_ (Below.refl _ _) (fun d hd => by cases hd; exact rfl)
      go_simp
    · have q21 := (hG.old 21 (by kernel_rfl) (by kernel_rfl)).trans o21
      obtain ⟨_, q197, rfl⟩ := hG.new 197 (by kernel_rfl) (by kernel_rfl)
      refine step_value (v := .pointer (some ⟨gG, 1, none⟩)) (w' := wx) rfl (by simp [Region.wanted, yielded, q197]) ?_ (Below.refl _ _) (fun d hd => by cases hd; exact rfl)
      go_simp
    · obtain ⟨_, q198, rfl⟩ := hG.new 198 (by kernel_rfl) (by kernel_rfl)
      obtain ⟨_, q197, rfl⟩ := hG.new 197 (by kernel_rfl) (by kernel_rfl)
      have z0 := HGP.out wx hS
      refine step_value (v := .bool true) (w' := wx) rfl (by simp [Region.wanted, yielded, q197]) ?_ (Below.refl _ _) (fun d hd => by cases hd; exact rfl)
      go_simp
    · obtain ⟨_, q199, rfl⟩ := hG.new 199 (by kernel_rfl) (by kernel_rfl)
      obtain ⟨_, q197, rfl⟩ := hG.new 197 (by kernel_rfl) (by kernel_rfl)
      refine step_value (v := .bool false) (w' := wx) rfl (by simp [Region.wanted, yielded, q197]) ?_ (Below.refl _ _) (fun d hd => by cases hd; exact rfl)
      go_simp
    · obtain ⟨_, q200, rfl⟩ := hG.new 200 (by kernel_rfl) (by kernel_rfl)
      obtain ⟨_, q197, rfl⟩ := hG.new 197 (by kernel_rfl) (by kernel_rfl)
      refine step_value (v := .bool false) (w' := wx) rfl (by simp [Region.wanted, yielded, q197]) ?_ (Below.refl _ _) (fun d hd => by cases hd; exact rfl)
      go_simp
    · have q23 := (hG.old 23 (by kernel_rfl) (by kernel_rfl)).trans o23
      obtain ⟨_, q201, rfl⟩ := hG.new 201 (by kernel_rfl) (by kernel_rfl)
      refine step_value (v := .int .i64 (k : Int)) (w' := wx) rfl (by simp [Region.wanted, yielded, q201]) ?_ (Below.refl _ _) (fun d hd => by cases hd; exact rfl)
      go_simp
    · have q6 := (hG.old 6 (by kernel_rfl) (by kernel_rfl)).trans o6
      obtain ⟨_, q201, rfl⟩ := hG.new 201 (by kernel_rfl) (by kernel_rfl)
      refine step_value (v := .slice (some adP) nP cP) (w' := wx) rfl (by simp [Region.wanted, yielded, q201]) ?_ (Below.refl _ _) (fun d hd => by cases hd; exact rfl)
      go_simp
    · obtain ⟨_, q203, rfl⟩ := hG.new 203 (by kernel_rfl) (by kernel_rfl)
      obtain ⟨_, q201, rfl⟩ := hG.new 201 (by kernel_rfl) (by kernel_rfl)
      refine step_value (v := .int .i64 (nP : Int)) (w' := wx) rfl (by simp [Region.wanted, yielded, q201]) ?_ (Below.refl _ _) (fun d hd => by cases hd; exact rfl)
      go_simp
    · obtain ⟨_, q202, rfl⟩ := hG.new 202 (by kernel_rfl) (by kernel_rfl)
      obtain ⟨_, q204, rfl⟩ := hG.new 204 (by kernel_rfl) (by kernel_rfl)
      obtain ⟨_, q201, rfl⟩ := hG.new 201 (by kernel_rfl) (by kernel_rfl)
      refine step_value (v := .bool false) (w' := wx) rfl (by simp [Region.wanted, yielded, q201]) ?_ (Below.refl _ _) (fun d hd => by cases hd; exact rfl)
      have hq := HLTP.out
      have hq1 := HGEP.out
      have hq2 := HGFP.out
      go_simp
    · obtain ⟨_, q201, rfl⟩ := hG.new 201 (by kernel_rfl) (by kernel_rfl)
      obtain ⟨_, q205, rfl⟩ := hG.new 205 (by kernel_rfl) (by kernel_rfl)
      obtain ⟨_, q197, rfl⟩ := hG.new 197 (by kernel_rfl) (by kernel_rfl)
      refine step_value (v := .bool false) (w' := wx) rfl (by simp [Region.wanted, yielded, q197]) ?_ (Below.refl _ _) (fun d hd => by cases hd; exact rfl)
      go_simp
    · obtain ⟨_, q206, rfl⟩ := hG.new 206 (by kernel_rfl) (by kernel_rfl)
      obtain ⟨_, q197, rfl⟩ := hG.new 197 (by kernel_rfl) (by kernel_rfl)
      refine step_value (v := .bool false) (w' := wx) rfl (by simp [Region.wanted, yielded, q197]) ?_ (Below.refl _ _) (fun d hd => by cases hd; exact rfl)
      go_simp
    · have q6 := (hG.old 6 (by kernel_rfl) (by kernel_rfl)).trans o6
      obtain ⟨_, q207, rfl⟩ := hG.new 207 (by kernel_rfl) (by kernel_rfl)
      refine step_value (v := .slice (some adP) nP cP) (w' := wx) rfl (by simp [Region.wanted, yielded, q207]) ?_ (Below.refl _ _) (fun d hd => by cases hd; exact rfl)
      go_simp
    · have q23 := (hG.old 23 (by kernel_rfl) (by kernel_rfl)).trans o23
      obtain ⟨_, q207, rfl⟩ := hG.new 207 (by kernel_rfl) (by kernel_rfl)
      refine step_value (v := .int .i64 (k : Int)) (w' := wx) rfl (by simp [Region.wanted, yielded, q207]) ?_ (Below.refl _ _) (fun d hd => by cases hd; exact rfl)
      go_simp
    · obtain ⟨_, q208, rfl⟩ := hG.new 208 (by kernel_rfl) (by kernel_rfl)
      obtain ⟨_, q209, rfl⟩ := hG.new 209 (by kernel_rfl) (by kernel_rfl)
      obtain ⟨_, q207, rfl⟩ := hG.new 207 (by kernel_rfl) (by kernel_rfl)
      refine step_value (v := .pointer (some (adP.add (k * 2)))) (w' := wx) rfl (by simp [Region.wanted, yielded, q207]) ?_ (Below.refl _ _) (fun d hd => by cases hd; exact rfl)
      have hq := HLTP.out
      go_simp
    · obtain ⟨_, q210, rfl⟩ := hG.new 210 (by kernel_rfl) (by kernel_rfl)
      obtain ⟨_, q207, rfl⟩ := hG.new 207 (by kernel_rfl) (by kernel_rfl)
      obtain ⟨z0, z1⟩ := HVP.out wx hS
      refine step_value (v := .agg #[.string pk, .string pv]) (w' := wx) rfl (by simp [Region.wanted, yielded, q207]) ?_ (Below.refl _ _) (fun d hd => by cases hd; exact rfl)
      go_simp
    · have q26 := (hG.old 26 (by kernel_rfl) (by kernel_rfl)).trans o26
      obtain ⟨_, q207, rfl⟩ := hG.new 207 (by kernel_rfl) (by kernel_rfl)
      obtain ⟨z0, z1⟩ := HXP.out wx hS
      refine step_value (v := .agg #[.string pk, .string pv]) (w' := wx) rfl (by simp [Region.wanted, yielded, q207]) ?_ (Below.refl _ _) (fun d hd => by cases hd; exact rfl)
      go_simp
    · obtain ⟨_, q211, rfl⟩ := hG.new 211 (by kernel_rfl) (by kernel_rfl)
      obtain ⟨_, q212, rfl⟩ := hG.new 212 (by kernel_rfl) (by kernel_rfl)
      obtain ⟨_, q207, rfl⟩ := hG.new 207 (by kernel_rfl) (by kernel_rfl)
      refine step_value (v := .bool false) (w' := wx) rfl (by simp [Region.wanted, yielded, q207]) ?_ (Below.refl _ _) (fun d hd => by cases hd; exact rfl)
      go_simp
    · obtain ⟨_, q207, rfl⟩ := hG.new 207 (by kernel_rfl) (by kernel_rfl)
      obtain ⟨_, q213, rfl⟩ := hG.new 213 (by kernel_rfl) (by kernel_rfl)
      obtain ⟨_, q197, rfl⟩ := hG.new 197 (by kernel_rfl) (by kernel_rfl)
      refine step_value (v := .bool false) (w' := wx) rfl (by simp [Region.wanted, yielded, q197]) ?_ (Below.refl _ _) (fun d hd => by cases hd; exact rfl)
      go_simp
    · obtain ⟨_, q197, rfl⟩ := hG.new 197 (by kernel_rfl) (by kernel_rfl)
      obtain ⟨_, q214, rfl⟩ := hG.new 214 (by kernel_rfl) (by kernel_rfl)
      obtain ⟨_, q194, rfl⟩ := hG.new 194 (by kernel_rfl) (by kernel_rfl)
      refine step_value (v := .bool false) (w' := wx) rfl (by simp [Region.wanted, yielded, q194]) ?_ (Below.refl _ _) (fun d hd => by cases hd; exact rfl)
      go_simp
    · obtain ⟨_, q194, rfl⟩ := hG.new 194 (by kernel_rfl) (by kernel_rfl)
      obtain ⟨_, q215, rfl⟩ := hG.new 215 (by kernel_rfl) (by kernel_rfl)
      refine step_value (v := .bool false) (w' := wx) rfl rfl ?_ (Below.refl _ _) (fun d hd => by cases hd; exact rfl)
      go_simp
    · obtain ⟨_, q216, rfl⟩ := hG.new 216 (by kernel_rfl) (by kernel_rfl)
      refine step_value (v := .bool false) (w' := wx) rfl rfl ?_ (Below.refl _ _) (fun d hd => by cases hd; exact rfl)
      go_simp
    · have q11 := (hG.old 11 (by kernel_rfl) (by kernel_rfl)).trans o11
      obtain ⟨_, q217, rfl⟩ := hG.new 217 (by kernel_rfl) (by kernel_rfl)
      refine step_value (v := .int .i64 0) (w' := wx) rfl (by simp [Region.wanted, yielded, q217]) ?_ (Below.refl _ _) (fun d hd => by cases hd; exact rfl)
      go_simp
    · obtain ⟨_, q218, rfl⟩ := hG.new 218 (by kernel_rfl) (by kernel_rfl)
      obtain ⟨_, q217, rfl⟩ := hG.new 217 (by kernel_rfl) (by kernel_rfl)
      refine step_value (v := .bool true) (w' := wx) rfl (by simp [Region.wanted, yielded, q217]) ?_ (Below.refl _ _) (fun d hd => by cases hd; exact rfl)
      go_simp
    · obtain ⟨_, q219, rfl⟩ := hG.new 219 (by kernel_rfl) (by kernel_rfl)
      obtain ⟨_, q217, rfl⟩ := hG.new 217 (by kernel_rfl) (by kernel_rfl)
      refine step_value (v := .bool true) (w' := wx) rfl (by simp [Region.wanted, yielded, q217]) ?_ (Below.refl _ _) (fun d hd => by cases hd; exact rfl)
      go_simp
    · have q21 := (hG.old 21 (by kernel_rfl) (by kernel_rfl)).trans o21
      obtain ⟨_, q220, rfl⟩ := hG.new 220 (by kernel_rfl) (by kernel_rfl)
      refine step_value (v := .pointer (some ⟨gG, 2, none⟩)) (w' := wx) rfl (by simp [Region.wanted, yielded, q220]) ?_ (Below.refl _ _) (fun d hd => by cases hd; exact rfl)
      go_simp
    · obtain ⟨_, q221, rfl⟩ := hG.new 221 (by kernel_rfl) (by kernel_rfl)
      obtain ⟨_, q220, rfl⟩ := hG.new 220 (by kernel_rfl) (by kernel_rfl)
      have z0 := HGC.out wx hS
      refine step_value (v := .bool true) (w' := wx) rfl (by simp [Region.wanted, yielded, q220]) ?_ (Below.refl _ _) (fun d hd => by cases hd; exact rfl)
      go_simp
    · obtain ⟨_, q222, rfl⟩ := hG.new 222 (by kernel_rfl) (by kernel_rfl)
      obtain ⟨_, q220, rfl⟩ := hG.new 220 (by kernel_rfl) (by kernel_rfl)
      refine step_value (v := .bool false) (w' := wx) rfl (by simp [Region.wanted, yielded, q220]) ?_ (Below.refl _ _) (fun d hd => by cases hd; exact rfl)
      go_simp
    · obtain ⟨_, q223, rfl⟩ := hG.new 223 (by kernel_rfl) (by kernel_rfl)
      obtain ⟨_, q220, rfl⟩ := hG.new 220 (by kernel_rfl) (by kernel_rfl)
      refine step_value (v := .bool false) (w' := wx) rfl (by simp [Region.wanted, yielded, q220]) ?_ (Below.refl _ _) (fun d hd => by cases hd; exact rfl)
      go_simp
    · have q23 := (hG.old 23 (by kernel_rfl) (by kernel_rfl)).trans o23
      obtain ⟨_, q224, rfl⟩ := hG.new 224 (by kernel_rfl) (by kernel_rfl)
      refine step_value (v := .int .i64 (k : Int)) (w' := wx) rfl (by simp [Region.wanted, yielded, q224]) ?_ (Below.refl _ _) (fun d hd => by cases hd; exact rfl)
      go_simp
    · have q9 := (hG.old 9 (by kernel_rfl) (by kernel_rfl)).trans o9
      obtain ⟨_, q224, rfl⟩ := hG.new 224 (by kernel_rfl) (by kernel_rfl)
      refine step_value (v := .slice (some adC) nC cC) (w' := wx) rfl (by simp [Region.wanted, yielded, q224]) ?_ (Below.refl _ _) (fun d hd => by cases hd; exact rfl)
      go_simp
    · obtain ⟨_, q226, rfl⟩ := hG.new 226 (by kernel_rfl) (by kernel_rfl)
      obtain ⟨_, q224, rfl⟩ := hG.new 224 (by kernel_rfl) (by kernel_rfl)
      refine step_value (v := .int .i64 (nC : Int)) (w' := wx) rfl (by simp [Region.wanted, yielded, q224]) ?_ (Below.refl _ _) (fun d hd => by cases hd; exact rfl)
      go_simp
    · obtain ⟨_, q225, rfl⟩ := hG.new 225 (by kernel_rfl) (by kernel_rfl)
      obtain ⟨_, q227, rfl⟩ := hG.new 227 (by kernel_rfl) (by kernel_rfl)
      obtain ⟨_, q224, rfl⟩ := hG.new 224 (by kernel_rfl) (by kernel_rfl)
      refine step_value (v := .bool false) (w' := wx) rfl (by simp [Region.wanted, yielded, q224]) ?_ (Below.refl _ _) (fun d hd => by cases hd; exact rfl)
      have hq := HLTC.out
      have hq1 := HGEC.out
      have hq2 := HGFC.out
      go_simp
    · obtain ⟨_, q224, rfl⟩ := hG.new 224 (by kernel_rfl) (by kernel_rfl)
      obtain ⟨_, q228, rfl⟩ := hG.new 228 (by kernel_rfl) (by kernel_rfl)
      obtain ⟨_, q220, rfl⟩ := hG.new 220 (by kernel_rfl) (by kernel_rfl)
      refine step_value (v := .bool false) (w' := wx) rfl (by simp [Region.wanted, yielded, q220]) ?_ (Below.refl _ _) (fun d hd => by cases hd; exact rfl)
      go_simp
    · obtain ⟨_, q229, rfl⟩ := hG.new 229 (by kernel_rfl) (by kernel_rfl)
      obtain ⟨_, q220, rfl⟩ := hG.new 220 (by kernel_rfl) (by kernel_rfl)
      refine step_value (v := .bool false) (w' := wx) rfl (by simp [Region.wanted, yielded, q220]) ?_ (Below.refl _ _) (fun d hd => by cases hd; exact rfl)
      go_simp
    · have q9 := (hG.old 9 (by kernel_rfl) (by kernel_rfl)).trans o9
      obtain ⟨_, q230, rfl⟩ := hG.new 230 (by kernel_rfl) (by kernel_rfl)
      refine step_value (v := .slice (some adC) nC cC) (w' := wx) rfl (by simp [Region.wanted, yielded, q230]) ?_ (Below.refl _ _) (fun d hd => by cases hd; exact rfl)
      go_simp
    · have q23 := (hG.old 23 (by kernel_rfl) (by kernel_rfl)).trans o23
      obtain ⟨_, q230, rfl⟩ := hG.new 230 (by kernel_rfl) (by kernel_rfl)
      refine step_value (v := .int .i64 (k : Int)) (w' := wx) rfl (by simp [Region.wanted, yielded, q230]) ?_ (Below.refl _ _) (fun d hd => by cases hd; exact rfl)
      go_simp
    · obtain ⟨_, q231, rfl⟩ := hG.new 231 (by kernel_rfl) (by kernel_rfl)
      obtain ⟨_, q232, rfl⟩ := hG.new 232 (by kernel_rfl) (by kernel_rfl)
      obtain ⟨_, q230, rfl⟩ := hG.new 230 (by kernel_rfl) (by kernel_rfl)
      refine step_value (v := .pointer (some (adC.add (k * 6)))) (w' := wx) rfl (by simp [Region.wanted, yielded, q230]) ?_ (Below.refl _ _) (fun d hd => by cases hd; exact rfl)
      have hq := HLTC.out
      go_simp
    · obtain ⟨_, q233, rfl⟩ := hG.new 233 (by kernel_rfl) (by kernel_rfl)
      obtain ⟨_, q230, rfl⟩ := hG.new 230 (by kernel_rfl) (by kernel_rfl)
      obtain ⟨z0, z1, z2, z3, z4, z5⟩ := HVC.out wx hS
      refine step_value (v := .agg #[.int .i64 cs, .string ck, .bool ch, .string cb, .bool cg, .string ca]) (w' := wx) rfl (by simp [Region.wanted, yielded, q230]) ?_ (Below.refl _ _) (fun d hd => by cases hd; exact rfl)
      go_simp
    · have q28 := (hG.old 28 (by kernel_rfl) (by kernel_rfl)).trans o28
      obtain ⟨_, q230, rfl⟩ := hG.new 230 (by kernel_rfl) (by kernel_rfl)
      obtain ⟨z0, z1, z2, z3, z4, z5⟩ := HXC.out wx hS
      refine step_value (v := .agg #[.int .i64 cs, .string ck, .bool ch, .string cb, .bool cg, .string ca]) (w' := wx) rfl (by simp [Region.wanted, yielded, q230]) ?_ (Below.refl _ _) (fun d hd => by cases hd; exact rfl)
      go_simp
    · obtain ⟨_, q234, rfl⟩ := hG.new 234 (by kernel_rfl) (by kernel_rfl)
      obtain ⟨_, q235, rfl⟩ := hG.new 235 (by kernel_rfl) (by kernel_rfl)
      obtain ⟨_, q230, rfl⟩ := hG.new 230 (by kernel_rfl) (by kernel_rfl)
      refine step_value (v := .bool false) (w' := wx) rfl (by simp [Region.wanted, yielded, q230]) ?_ (Below.refl _ _) (fun d hd => by cases hd; exact rfl)
      go_simp
    · obtain ⟨_, q230, rfl⟩ := hG.new 230 (by kernel_rfl) (by kernel_rfl)
      obtain ⟨_, q236, rfl⟩ := hG.new 236 (by kernel_rfl) (by kernel_rfl)
      obtain ⟨_, q220, rfl⟩ := hG.new 220 (by kernel_rfl) (by kernel_rfl)
      refine step_value (v := .bool false) (w' := wx) rfl (by simp [Region.wanted, yielded, q220]) ?_ (Below.refl _ _) (fun d hd => by cases hd; exact rfl)
      go_simp
    · obtain ⟨_, q220, rfl⟩ := hG.new 220 (by kernel_rfl) (by kernel_rfl)
      obtain ⟨_, q237, rfl⟩ := hG.new 237 (by kernel_rfl) (by kernel_rfl)
      obtain ⟨_, q217, rfl⟩ := hG.new 217 (by kernel_rfl) (by kernel_rfl)
      refine step_value (v := .bool false) (w' := wx) rfl (by simp [Region.wanted, yielded, q217]) ?_ (Below.refl _ _) (fun d hd => by cases hd; exact rfl)
      go_simp
    · obtain ⟨_, q217, rfl⟩ := hG.new 217 (by kernel_rfl) (by kernel_rfl)
      obtain ⟨_, q238, rfl⟩ := hG.new 238 (by kernel_rfl) (by kernel_rfl)
      refine step_value (v := .bool false) (w' := wx) rfl rfl ?_ (Below.refl _ _) (fun d hd => by cases hd; exact rfl)
      go_simp
  intro fv wf hSf hV8
  have e239 : fv 239 = .bool false := hV8 239 (by decide)
  exact done fv wf hSf e239

def TkN (lx ly enc : ByteArray) (gL : Nat) (xk : Int) (xkey xval : ByteArray) (xn : UInt64) (p t : Nat) (v : Value) (w : World) : Prop :=
  match t with
  | 148 => v = .pointer (some ⟨gL, 0, none⟩)
  | 149 => v = .string lx
  | 150 => v = .agg #[.int .i64 xk, .string xkey, .string xval, .int .u64 (xn.toNat : Int)]
  | 151 => v = .string enc
  | 152 => v = .int .i64 (enc.size : Int)
  | 153 => v = .string ly
  | 154 => v = .pointer (some ⟨gL, 0, none⟩)
  | _ => True
theorem TkN.on {lx ly enc : ByteArray} {gL : Nat} {xk : Int} {xkey xval : ByteArray} {xn : UInt64} {p t : Nat} {v : Value} {w w' : World} (h : TkN lx ly enc gL xk xkey xval xn p t v w) (hb : Below w.heap.size w w') : TkN lx ly enc gL xk xkey xval xn p t v w' := by
  unfold TkN at *
  split at h <;> first | exact h | exact NewB.on h hb

set_option maxRecDepth 100000 in
set_option maxHeartbeats 4000000 in
theorem tk23 (l0 l1 l2 ly enc : ByteArray) (gL gx : Nat) (xk : Int) (xkey xval : ByteArray) (xn : UInt64) (a0 : Act) (w0 : World) (Q : Exit → Act → World → Prop) (hsz : a0.tmps.size = 315) (o22 : a0.tmps[22]? = some (.pointer (some ⟨gL, 0, none⟩))) (o24 : a0.tmps[24]? = some (.pointer (some ⟨gx, 0, none⟩)))
    (HLB : Hid (Box w0 gL 60 #[.string l0, .string l1, .string l2])) (HXB : Hid (Box w0 gx 62 #[.int .i64 xk, .string xkey, .string xval, .int .u64 (xn.toNat : Int)])) (hne : gx ≠ gL) (HNB : Hid (∀ w : World, Calls Try.prog 32 #[.agg #[.int .i64 xk, .string xkey, .string xval, .int .u64 (xn.toNat : Int)]] w fun e w' => e = .returned (.string enc) ∧ Below w.heap.size w w'))
    (hy1 : l0.extract enc.size l0.size = ly) (hy2 : enc.size ≤ l0.size)
    (done : ∀ (fv : Nat → Value) (wf : World), Ex gL w0 wf → Box wf gL 60 #[.string ly, .string l1, .string l2] → Q .normal (puts a0 [148, 149, 150, 151, 152, 153, 154] fv) wf) : Code.wp Try.prog rg23 Q a0 w0 := by
  have HLC := Lib.hid (show ∀ wx, Below w0.heap.size w0 wx → wx.cell? ⟨gL, 0, none⟩ = some (.string l0) from fun wx hx => (HLB.out.on hx).cell 0 rfl)
  have HXC := Lib.hid (show ∀ wx, Ex gL w0 wx → wx.cell? ⟨gx, 0, none⟩ = some (.int .i64 xk) ∧ wx.cell? ⟨gx, 1, none⟩ = some (.string xkey) ∧ wx.cell? ⟨gx, 2, none⟩ = some (.string xval) ∧ wx.cell? ⟨gx, 3, none⟩ = some (.int .u64 (xn.toNat : Int)) from fun wx hx => by
    have hb := hx.box HXB.out hne
    exact ⟨hb.cell 0 rfl, hb.cell 1 rfl, hb.cell 2 rfl, hb.cell 3 rfl⟩)
  have HY1 := Lib.hid hy1
  have HY2 := Lib.hid hy2
  have HY3 := Lib.hid (show (enc.size : Int) ≤ (l0.size : Int) from by omega)
  clear hy1 hy2 HXB
  unfold rg23
  conv => arg 2; whnf
  refine wp_region_phase 14 [148, 149, 150, 151, 152, 153, 154] (by kernel_rfl) [7] [] (fun _ _ => True) 1 rfl (by kernel_rfl) (ResS w0 gL 60 #[.string ly, .string l1, .string l2]) (fun wa wb => Below wa.heap.size wa wb) (TkN l0 ly enc gL xk xkey xval xn) (by rw [hsz]; kernel_rfl) (fun _ wa wb h1 h2 => h2.on h1) (fun _ t v wa wb h1 h2 => h2.on h1) (fun _ _ _ _ _ _ _ => trivial) (ResS.start _ _ _ _) trivial (phase1 ?_ ?_) ?_
  · refine Steps1.cons (fun _ ax wx hS _ hG => ?_) (Steps1.cons (fun _ ax wx hS _ hG => ?_) (Steps1.cons (fun _ ax wx hS _ hG => ?_) (Steps1.cons (fun _ ax wx hS _ hG => ?_) (Steps1.cons (fun _ ax wx hS _ hG => ?_) (Steps1.cons (fun _ ax wx hS _ hG => ?_) (Steps1.cons (fun _ ax wx hS _ hG => ?_) (Steps1.cons (fun _ ax wx hS _ hG => ?_) Steps1.nil)))))))
    · have q22 := (hG.old 22 (by kernel_rfl) (by kernel_rfl)).trans o22
      refine step_slot rfl rfl rfl (step_value (v := .pointer (some ⟨gL, 0, none⟩)) (w' := wx) rfl rfl ?_ (Below.refl _ _) (fun d hd => by cases hd; exact rfl))
      go_simp
    · obtain ⟨_, q148, rfl⟩ := hG.new 148 (by kernel_rfl) (by kernel_rfl)
      have z0 := HLC.out wx (hS.fresh rfl)
      refine step_slot rfl rfl rfl (step_value (v := .string l0) (w' := wx) rfl rfl ?_ (Below.refl _ _) (fun d hd => by cases hd; exact rfl))
      go_simp
    · have q24 := (hG.old 24 (by kernel_rfl) (by kernel_rfl)).trans o24
      obtain ⟨z0, z1, z2, z3⟩ := HXC.out wx hS.ex
      refine step_slot rfl rfl rfl (step_value (v := .agg #[.int .i64 xk, .string xkey, .string xval, .int .u64 (xn.toNat : Int)]) (w' := wx) rfl rfl ?_ (Below.refl _ _) (fun d hd => by cases hd; exact rfl))
      go_simp
    · obtain ⟨_, q150, rfl⟩ := hG.new 150 (by kernel_rfl) (by kernel_rfl)
      refine step_slot rfl rfl rfl (step_call (w1 := wx) (f := 32) (args := #[.agg #[.int .i64 xk, .string xkey, .string xval, .int .u64 (xn.toNat : Int)]]) rfl rfl ?_ ((HNB.out wx).mono ?_))
      · skip
        go_simp
      · rintro e w' ⟨rfl, hq⟩
        exact ⟨_, rfl, hq, fun d hd => by cases hd; exact rfl⟩
    · obtain ⟨_, q151, rfl⟩ := hG.new 151 (by kernel_rfl) (by kernel_rfl)
      refine step_slot rfl rfl rfl (step_value (v := .int .i64 (enc.size : Int)) (w' := wx) rfl rfl ?_ (Below.refl _ _) (fun d hd => by cases hd; exact rfl))
      go_simp
    · obtain ⟨_, q149, rfl⟩ := hG.new 149 (by kernel_rfl) (by kernel_rfl)
      obtain ⟨_, q152, rfl⟩ := hG.new 152 (by kernel_rfl) (by kernel_rfl)
      refine step_slot rfl rfl rfl (step_value (v := .string ly) (w' := wx) rfl rfl ?_ (Below.refl _ _) (fun d hd => by cases hd; exact rfl))
      have h1 := HY1.out
      have h2 := HY2.out
      have h3 := HY3.out
      go_simp
    · have q22 := (hG.old 22 (by kernel_rfl) (by kernel_rfl)).trans o22
      refine step_slot rfl rfl rfl (step_value (v := .pointer (some ⟨gL, 0, none⟩)) (w' := wx) rfl rfl ?_ (Below.refl _ _) (fun d hd => by cases hd; exact rfl))
      go_simp
    · obtain ⟨_, q154, rfl⟩ := hG.new 154 (by kernel_rfl) (by kernel_rfl)
      obtain ⟨_, q153, rfl⟩ := hG.new 153 (by kernel_rfl) (by kernel_rfl)
      have hbq := HLB.out.on (hS.fresh rfl)
      have f0 := Box.free hbq 0
      have m0 := Box.cell hbq 0 rfl
      skip
      refine step_store (w' := (wx.setCell ⟨gL, 0, none⟩ (.string ly))) rfl rfl rfl rfl ?_ (⟨(Ex.trans hS.ex (Ex.set (g := gL) (i := 0) _ (.string ly))), fun h => absurd h (by decide), fun _ => (Box.set hbq 0 (.string ly))⟩) trivial ?_
      · clear hbq hS
        go_simp
      · intro t u _ hu hV
        unfold TkN at *
        split at hV <;> exact hV
  · refine Steps1.cons (fun hin _ _ _ _ _ => out (by kernel_rfl) hin) (Steps1.cons (fun hin _ _ _ _ _ => out (by kernel_rfl) hin) (Steps1.cons (fun hin _ _ _ _ _ => out (by kernel_rfl) hin) (Steps1.cons (fun hin _ _ _ _ _ => out (by kernel_rfl) hin) (Steps1.cons (fun hin _ _ _ _ _ => out (by kernel_rfl) hin) (Steps1.cons (fun hin _ _ _ _ _ => out (by kernel_rfl) hin) (Steps1.cons (fun hin _ _ _ _ _ => out (by kernel_rfl) hin) (Steps1.cons (fun hin _ _ _ _ _ => out (by kernel_rfl) hin) Steps1.nil)))))))
  intro fv wa hS8 _ hV8
  exact done fv wa hS8.ex (hS8.done rfl)

def TkP (lx ly enc : ByteArray) (gL : Nat) (pk pv : ByteArray) (p t : Nat) (v : Value) (w : World) : Prop :=
  match t with
  | 157 => v = .pointer (some ⟨gL, 1, none⟩)
  | 158 => v = .string lx
  | 159 => v = .agg #[.string pk, .string pv]
  | 160 => v = .string enc
  | 161 => v = .int .i64 (enc.size : Int)
  | 162 => v = .string ly
  | 163 => v = .pointer (some ⟨gL, 1, none⟩)
  | _ => True
theorem TkP.on {lx ly enc : ByteArray} {gL : Nat} {pk pv : ByteArray} {p t : Nat} {v : Value} {w w' : World} (h : TkP lx ly enc gL pk pv p t v w) (hb : Below w.heap.size w w') : TkP lx ly enc gL pk pv p t v w' := by
  unfold TkP at *
  split at h <;> first | exact h | exact NewB.on h hb

set_option maxRecDepth 100000 in
set_option maxHeartbeats 4000000 in
theorem tk25 (l0 l1 l2 ly enc : ByteArray) (gL gx : Nat) (pk pv : ByteArray) (a0 : Act) (w0 : World) (Q : Exit → Act → World → Prop) (hsz : a0.tmps.size = 315) (o22 : a0.tmps[22]? = some (.pointer (some ⟨gL, 0, none⟩))) (o26 : a0.tmps[26]? = some (.pointer (some ⟨gx, 0, none⟩)))
    (HLB : Hid (Box w0 gL 60 #[.string l0, .string l1, .string l2])) (HXB : Hid (Box w0 gx 66 #[.string pk, .string pv])) (hne : gx ≠ gL) (HNB : Hid (∀ w : World, Calls Try.prog 33 #[.agg #[.string pk, .string pv]] w fun e w' => e = .returned (.string enc) ∧ Below w.heap.size w w'))
    (hy1 : l1.extract enc.size l1.size = ly) (hy2 : enc.size ≤ l1.size)
    (done : ∀ (fv : Nat → Value) (wf : World), Ex gL w0 wf → Box wf gL 60 #[.string l0, .string ly, .string l2] → Q .normal (puts a0 [157, 158, 159, 160, 161, 162, 163] fv) wf) : Code.wp Try.prog rg25 Q a0 w0 := by
  have HLC := Lib.hid (show ∀ wx, Below w0.heap.size w0 wx → wx.cell? ⟨gL, 1, none⟩ = some (.string l1) from fun wx hx => (HLB.out.on hx).cell 1 rfl)
  have HXC := Lib.hid (show ∀ wx, Ex gL w0 wx → wx.cell? ⟨gx, 0, none⟩ = some (.string pk) ∧ wx.cell? ⟨gx, 1, none⟩ = some (.string pv) from fun wx hx => by
    have hb := hx.box HXB.out hne
    exact ⟨hb.cell 0 rfl, hb.cell 1 rfl⟩)
  have HY1 := Lib.hid hy1
  have HY2 := Lib.hid hy2
  have HY3 := Lib.hid (show (enc.size : Int) ≤ (l1.size : Int) from by omega)
  clear hy1 hy2 HXB
  unfold rg25
  conv => arg 2; whnf
  refine wp_region_phase 14 [157, 158, 159, 160, 161, 162, 163] (by kernel_rfl) [7] [] (fun _ _ => True) 1 rfl (by kernel_rfl) (ResS w0 gL 60 #[.string l0, .string ly, .string l2]) (fun wa wb => Below wa.heap.size wa wb) (TkP l1 ly enc gL pk pv) (by rw [hsz]; kernel_rfl) (fun _ wa wb h1 h2 => h2.on h1) (fun _ t v wa wb h1 h2 => h2.on h1) (fun _ _ _ _ _ _ _ => trivial) (ResS.start _ _ _ _) trivial (phase1 ?_ ?_) ?_
  · refine Steps1.cons (fun _ ax wx hS _ hG => ?_) (Steps1.cons (fun _ ax wx hS _ hG => ?_) (Steps1.cons (fun _ ax wx hS _ hG => ?_) (Steps1.cons (fun _ ax wx hS _ hG => ?_) (Steps1.cons (fun _ ax wx hS _ hG => ?_) (Steps1.cons (fun _ ax wx hS _ hG => ?_) (Steps1.cons (fun _ ax wx hS _ hG => ?_) (Steps1.cons (fun _ ax wx hS _ hG => ?_) Steps1.nil)))))))
    · have q22 := (hG.old 22 (by kernel_rfl) (by kernel_rfl)).trans o22
      refine step_slot rfl rfl rfl (step_value (v := .pointer (some ⟨gL, 1, none⟩)) (w' := wx) rfl rfl ?_ (Below.refl _ _) (fun d hd => by cases hd; exact rfl))
      go_simp
    · obtain ⟨_, q157, rfl⟩ := hG.new 157 (by kernel_rfl) (by kernel_rfl)
      have z0 := HLC.out wx (hS.fresh rfl)
      refine step_slot rfl rfl rfl (step_value (v := .string l1) (w' := wx) rfl rfl ?_ (Below.refl _ _) (fun d hd => by cases hd; exact rfl))
      go_simp
    · have q26 := (hG.old 26 (by kernel_rfl) (by kernel_rfl)).trans o26
      obtain ⟨z0, z1⟩ := HXC.out wx hS.ex
      refine step_slot rfl rfl rfl (step_value (v := .agg #[.string pk, .string pv]) (w' := wx) rfl rfl ?_ (Below.refl _ _) (fun d hd => by cases hd; exact rfl))
      go_simp
    · obtain ⟨_, q159, rfl⟩ := hG.new 159 (by kernel_rfl) (by kernel_rfl)
      refine step_slot rfl rfl rfl (step_call (w1 := wx) (f := 33) (args := #[.agg #[.string pk, .string pv]]) rfl rfl ?_ ((HNB.out wx).mono ?_))
      · skip
        go_simp
      · rintro e w' ⟨rfl, hq⟩
        exact ⟨_, rfl, hq, fun d hd => by cases hd; exact rfl⟩
    · obtain ⟨_, q160, rfl⟩ := hG.new 160 (by kernel_rfl) (by kernel_rfl)
      refine step_slot rfl rfl rfl (step_value (v := .int .i64 (enc.size : Int)) (w' := wx) rfl rfl ?_ (Below.refl _ _) (fun d hd => by cases hd; exact rfl))
      go_simp
    · obtain ⟨_, q158, rfl⟩ := hG.new 158 (by kernel_rfl) (by kernel_rfl)
      obtain ⟨_, q161, rfl⟩ := hG.new 161 (by kernel_rfl) (by kernel_rfl)
      refine step_slot rfl rfl rfl (step_value (v := .string ly) (w' := wx) rfl rfl ?_ (Below.refl _ _) (fun d hd => by cases hd; exact rfl))
      have h1 := HY1.out
      have h2 := HY2.out
      have h3 := HY3.out
      go_simp
    · have q22 := (hG.old 22 (by kernel_rfl) (by kernel_rfl)).trans o22
      refine step_slot rfl rfl rfl (step_value (v := .pointer (some ⟨gL, 1, none⟩)) (w' := wx) rfl rfl ?_ (Below.refl _ _) (fun d hd => by cases hd; exact rfl))
      go_simp
    · obtain ⟨_, q163, rfl⟩ := hG.new 163 (by kernel_rfl) (by kernel_rfl)
      obtain ⟨_, q162, rfl⟩ := hG.new 162 (by kernel_rfl) (by kernel_rfl)
      have hbq := HLB.out.on (hS.fresh rfl)
      have f1 := Box.free hbq 1
      have m1 := Box.cell hbq 1 rfl
      skip
      refine step_store (w' := (wx.setCell ⟨gL, 1, none⟩ (.string ly))) rfl rfl rfl rfl ?_ (⟨(Ex.trans hS.ex (Ex.set (g := gL) (i := 1) _ (.string ly))), fun h => absurd h (by decide), fun _ => (Box.set hbq 1 (.string ly))⟩) trivial ?_
      · clear hbq hS
        go_simp
      · intro t u _ hu hV
        unfold TkP at *
        split at hV <;> exact hV
  · refine Steps1.cons (fun hin _ _ _ _ _ => out (by kernel_rfl) hin) (Steps1.cons (fun hin _ _ _ _ _ => out (by kernel_rfl) hin) (Steps1.cons (fun hin _ _ _ _ _ => out (by kernel_rfl) hin) (Steps1.cons (fun hin _ _ _ _ _ => out (by kernel_rfl) hin) (Steps1.cons (fun hin _ _ _ _ _ => out (by kernel_rfl) hin) (Steps1.cons (fun hin _ _ _ _ _ => out (by kernel_rfl) hin) (Steps1.cons (fun hin _ _ _ _ _ => out (by kernel_rfl) hin) (Steps1.cons (fun hin _ _ _ _ _ => out (by kernel_rfl) hin) Steps1.nil)))))))
  intro fv wa hS8 _ hV8
  exact done fv wa hS8.ex (hS8.done rfl)

def TkC (lx ly enc : ByteArray) (gL : Nat) (cs : Int) (ck cb ca : ByteArray) (ch cg : Bool) (p t : Nat) (v : Value) (w : World) : Prop :=
  match t with
  | 166 => v = .pointer (some ⟨gL, 2, none⟩)
  | 167 => v = .string lx
  | 168 => v = .agg #[.int .i64 cs, .string ck, .bool ch, .string cb, .bool cg, .string ca]
  | 169 => v = .string enc
  | 170 => v = .int .i64 (enc.size : Int)
  | 171 => v = .string ly
  | 172 => v = .pointer (some ⟨gL, 2, none⟩)
  | _ => True
theorem TkC.on {lx ly enc : ByteArray} {gL : Nat} {cs : Int} {ck cb ca : ByteArray} {ch cg : Bool} {p t : Nat} {v : Value} {w w' : World} (h : TkC lx ly enc gL cs ck cb ca ch cg p t v w) (hb : Below w.heap.size w w') : TkC lx ly enc gL cs ck cb ca ch cg p t v w' := by
  unfold TkC at *
  split at h <;> first | exact h | exact NewB.on h hb

set_option maxRecDepth 100000 in
set_option maxHeartbeats 4000000 in
theorem tk27 (l0 l1 l2 ly enc : ByteArray) (gL gx : Nat) (cs : Int) (ck cb ca : ByteArray) (ch cg : Bool) (a0 : Act) (w0 : World) (Q : Exit → Act → World → Prop) (hsz : a0.tmps.size = 315) (o22 : a0.tmps[22]? = some (.pointer (some ⟨gL, 0, none⟩))) (o28 : a0.tmps[28]? = some (.pointer (some ⟨gx, 0, none⟩)))
    (HLB : Hid (Box w0 gL 60 #[.string l0, .string l1, .string l2])) (HXB : Hid (Box w0 gx 42 #[.int .i64 cs, .string ck, .bool ch, .string cb, .bool cg, .string ca])) (hne : gx ≠ gL) (HNB : Hid (∀ w : World, Calls Try.prog 34 #[.agg #[.int .i64 cs, .string ck, .bool ch, .string cb, .bool cg, .string ca]] w fun e w' => e = .returned (.string enc) ∧ Below w.heap.size w w'))
    (hy1 : l2.extract enc.size l2.size = ly) (hy2 : enc.size ≤ l2.size)
    (done : ∀ (fv : Nat → Value) (wf : World), Ex gL w0 wf → Box wf gL 60 #[.string l0, .string l1, .string ly] → Q .normal (puts a0 [166, 167, 168, 169, 170, 171, 172] fv) wf) : Code.wp Try.prog rg27 Q a0 w0 := by
  have HLC := Lib.hid (show ∀ wx, Below w0.heap.size w0 wx → wx.cell? ⟨gL, 2, none⟩ = some (.string l2) from fun wx hx => (HLB.out.on hx).cell 2 rfl)
  have HXC := Lib.hid (show ∀ wx, Ex gL w0 wx → wx.cell? ⟨gx, 0, none⟩ = some (.int .i64 cs) ∧ wx.cell? ⟨gx, 1, none⟩ = some (.string ck) ∧ wx.cell? ⟨gx, 2, none⟩ = some (.bool ch) ∧ wx.cell? ⟨gx, 3, none⟩ = some (.string cb) ∧ wx.cell? ⟨gx, 4, none⟩ = some (.bool cg) ∧ wx.cell? ⟨gx, 5, none⟩ = some (.string ca) from fun wx hx => by
    have hb := hx.box HXB.out hne
    exact ⟨hb.cell 0 rfl, hb.cell 1 rfl, hb.cell 2 rfl, hb.cell 3 rfl, hb.cell 4 rfl, hb.cell 5 rfl⟩)
  have HY1 := Lib.hid hy1
  have HY2 := Lib.hid hy2
  have HY3 := Lib.hid (show (enc.size : Int) ≤ (l2.size : Int) from by omega)
  clear hy1 hy2 HXB
  unfold rg27
  conv => arg 2; whnf
  refine wp_region_phase 14 [166, 167, 168, 169, 170, 171, 172] (by kernel_rfl) [7] [] (fun _ _ => True) 1 rfl (by kernel_rfl) (ResS w0 gL 60 #[.string l0, .string l1, .string ly]) (fun wa wb => Below wa.heap.size wa wb) (TkC l2 ly enc gL cs ck cb ca ch cg) (by rw [hsz]; kernel_rfl) (fun _ wa wb h1 h2 => h2.on h1) (fun _ t v wa wb h1 h2 => h2.on h1) (fun _ _ _ _ _ _ _ => trivial) (ResS.start _ _ _ _) trivial (phase1 ?_ ?_) ?_
  · refine Steps1.cons (fun _ ax wx hS _ hG => ?_) (Steps1.cons (fun _ ax wx hS _ hG => ?_) (Steps1.cons (fun _ ax wx hS _ hG => ?_) (Steps1.cons (fun _ ax wx hS _ hG => ?_) (Steps1.cons (fun _ ax wx hS _ hG => ?_) (Steps1.cons (fun _ ax wx hS _ hG => ?_) (Steps1.cons (fun _ ax wx hS _ hG => ?_) (Steps1.cons (fun _ ax wx hS _ hG => ?_) Steps1.nil)))))))
    · have q22 := (hG.old 22 (by kernel_rfl) (by kernel_rfl)).trans o22
      refine step_slot rfl rfl rfl (step_value (v := .pointer (some ⟨gL, 2, none⟩)) (w' := wx) rfl rfl ?_ (Below.refl _ _) (fun d hd => by cases hd; exact rfl))
      go_simp
    · obtain ⟨_, q166, rfl⟩ := hG.new 166 (by kernel_rfl) (by kernel_rfl)
      have z0 := HLC.out wx (hS.fresh rfl)
      refine step_slot rfl rfl rfl (step_value (v := .string l2) (w' := wx) rfl rfl ?_ (Below.refl _ _) (fun d hd => by cases hd; exact rfl))
      go_simp
    · have q28 := (hG.old 28 (by kernel_rfl) (by kernel_rfl)).trans o28
      obtain ⟨z0, z1, z2, z3, z4, z5⟩ := HXC.out wx hS.ex
      refine step_slot rfl rfl rfl (step_value (v := .agg #[.int .i64 cs, .string ck, .bool ch, .string cb, .bool cg, .string ca]) (w' := wx) rfl rfl ?_ (Below.refl _ _) (fun d hd => by cases hd; exact rfl))
      go_simp
    · obtain ⟨_, q168, rfl⟩ := hG.new 168 (by kernel_rfl) (by kernel_rfl)
      refine step_slot rfl rfl rfl (step_call (w1 := wx) (f := 34) (args := #[.agg #[.int .i64 cs, .string ck, .bool ch, .string cb, .bool cg, .string ca]]) rfl rfl ?_ ((HNB.out wx).mono ?_))
      · skip
        go_simp
      · rintro e w' ⟨rfl, hq⟩
        exact ⟨_, rfl, hq, fun d hd => by cases hd; exact rfl⟩
    · obtain ⟨_, q169, rfl⟩ := hG.new 169 (by kernel_rfl) (by kernel_rfl)
      refine step_slot rfl rfl rfl (step_value (v := .int .i64 (enc.size : Int)) (w' := wx) rfl rfl ?_ (Below.refl _ _) (fun d hd => by cases hd; exact rfl))
      go_simp
    · obtain ⟨_, q167, rfl⟩ := hG.new 167 (by kernel_rfl) (by kernel_rfl)
      obtain ⟨_, q170, rfl⟩ := hG.new 170 (by kernel_rfl) (by kernel_rfl)
      refine step_slot rfl rfl rfl (step_value (v := .string ly) (w' := wx) rfl rfl ?_ (Below.refl _ _) (fun d hd => by cases hd; exact rfl))
      have h1 := HY1.out
      have h2 := HY2.out
      have h3 := HY3.out
      go_simp
    · have q22 := (hG.old 22 (by kernel_rfl) (by kernel_rfl)).trans o22
      refine step_slot rfl rfl rfl (step_value (v := .pointer (some ⟨gL, 2, none⟩)) (w' := wx) rfl rfl ?_ (Below.refl _ _) (fun d hd => by cases hd; exact rfl))
      go_simp
    · obtain ⟨_, q172, rfl⟩ := hG.new 172 (by kernel_rfl) (by kernel_rfl)
      obtain ⟨_, q171, rfl⟩ := hG.new 171 (by kernel_rfl) (by kernel_rfl)
      have hbq := HLB.out.on (hS.fresh rfl)
      have f2 := Box.free hbq 2
      have m2 := Box.cell hbq 2 rfl
      skip
      refine step_store (w' := (wx.setCell ⟨gL, 2, none⟩ (.string ly))) rfl rfl rfl rfl ?_ (⟨(Ex.trans hS.ex (Ex.set (g := gL) (i := 2) _ (.string ly))), fun h => absurd h (by decide), fun _ => (Box.set hbq 2 (.string ly))⟩) trivial ?_
      · clear hbq hS
        go_simp
      · intro t u _ hu hV
        unfold TkC at *
        split at hV <;> exact hV
  · refine Steps1.cons (fun hin _ _ _ _ _ => out (by kernel_rfl) hin) (Steps1.cons (fun hin _ _ _ _ _ => out (by kernel_rfl) hin) (Steps1.cons (fun hin _ _ _ _ _ => out (by kernel_rfl) hin) (Steps1.cons (fun hin _ _ _ _ _ => out (by kernel_rfl) hin) (Steps1.cons (fun hin _ _ _ _ _ => out (by kernel_rfl) hin) (Steps1.cons (fun hin _ _ _ _ _ => out (by kernel_rfl) hin) (Steps1.cons (fun hin _ _ _ _ _ => out (by kernel_rfl) hin) (Steps1.cons (fun hin _ _ _ _ _ => out (by kernel_rfl) hin) Steps1.nil)))))))
  intro fv wa hS8 _ hV8
  exact done fv wa hS8.ex (hS8.done rfl)

end Go.Proofs.Ytfbcmcckgjfdhaa
