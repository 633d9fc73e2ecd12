/-
  append to a list of the call's own, and where the new list lies: for two lists of one type that grow side by side.
-/
import Derived.Test.YtciijaejldfcaaaTimQ
import Derived.Maps.AppendAt
namespace Go.Proofs.Ytciijaejldfcaaa
open Go.RowKit

section
variable {α : Type} {enc : α → List Value} {k : Nat}
theorem run_append_ga {P : Program} (hk : ∀ x, (enc x).length = k) (hpos : 0 < k) (t e : TypeId) (i : TypeInfo) (z : Value) (bytes : Nat) (ht : P.underlying t = some (.slice e)) (hi : P.info? e = some i) (hz : i.zero = some z) (hsize : i.size = k) (hby : i.bytes = bytes) (hzs : z.cells.size = k)
    (w : World) (ty : TypeId) (base : Nat) (v vx : Value) (l m : List α) (hown : OwnG enc k e w base v l) (hr : ValG enc k w vx m) (h1 : ∀ x ∈ m, ∀ u ∈ enc x, u.oneCell' = true) (hm : l.length + m.length ≤ maxLen) (hlen : (l.length + m.length) * bytes ≤ 140737488355328) (hbase : base ≤ w.heap.size) :
    ∃ v' w', (Builtin.append_ #[t, t] ty #[v, vx]).run P w = .ok v' w' ∧ OwnG enc k e w' base v' (l ++ m) ∧ w.grownBy w' v.ownBlock ∧ (v'.ownBlock = v.ownBlock ∨ v'.ownBlock = some w.heap.size) := by
  rcases hr with ⟨rfl, rfl⟩ | ⟨b, off, cap, rfl, hm', hb, hat, -⟩
  · exact ⟨v, w, run_append_of_nil' w base t ty e i k ht hi v l.length _ hown 0, by simpa using hown, ⟨rfl, rfl, rfl, Nat.le_refl _, fun _ _ _ => rfl⟩, .inl rfl⟩
  · have ea : ∀ q : Nat, (⟨b, off, none⟩ : Addr).add q = ⟨b, off + q, none⟩ := by intro q; unfold Addr.add; split <;> simp_all
    obtain ⟨v', w', h1', h2, h3, _, h5⟩ := run_append_own_at (P := P) w base t ty e i _ k bytes ht hi hz hsize hby hzs hpos v l.length _ hown ⟨b, off, none⟩ m.length cap (m.flatMap enc) (encs_len enc k hk m)
      (by
        intro j u hj
        obtain ⟨x, hx, hu⟩ := encs_get enc k hk hpos m j u hj
        have := hat _ x hx _ u hu
        rw [Nat.add_assoc, Nat.mul_comm, Nat.div_add_mod] at this
        rw [ea]; exact this)
      (by intro u hu; simp only [List.mem_flatMap] at hu; obtain ⟨x, hx, hd⟩ := hu; exact h1 x hx u hd)
      hm hlen hbase
    refine ⟨v', w', h1', ?_, h3, h5⟩
    unfold OwnG
    rw [List.length_append, List.flatMap_append]
    exact h2

theorem wpList_append_ga {P : Program} (hk : ∀ x, (enc x).length = k) (hpos : 0 < k) (t e : TypeId) (i : TypeInfo) (z : Value) (bytes : Nat) (ht : P.underlying t = some (.slice e)) (hi : P.info? e = some i) (hz : i.zero = some z) (hsize : i.size = k) (hby : i.bytes = bytes) (hzs : z.cells.size = k)
    {ops : Array Oper} {rest : List Oper} {o : Oper} {a : Act} {Q : Exit → Act → World → Prop} (w : World) (hgd : o.guard = none) (s x : Operand)
    (ho : o.op = .call { callee := .builtin .append, args := #[s, x], argTypes := #[t, t] })
    (base : Nat) (v vx : Value) (l m : List α) (hs : a.eval s = v) (hx : a.eval x = vx) (hown : OwnG enc k e w base v l) (hr : ValG enc k w vx m) (h1 : ∀ x ∈ m, ∀ u ∈ enc x, u.oneCell' = true)
    (hm : l.length + m.length ≤ maxLen) (hlen : (l.length + m.length) * bytes ≤ 140737488355328) (hbase : base ≤ w.heap.size)
    (h : ∀ v' w', OwnG enc k e w' base v' (l ++ m) → w.grownBy w' v.ownBlock → (v'.ownBlock = v.ownBlock ∨ v'.ownBlock = some w.heap.size) → wpList P ops Q rest (a.put o.dst v') w') : wpList P ops Q (o :: rest) a w :=
  wpList_plain hgd fun _ hK => by
    obtain ⟨v', w', hrun, h2, h3, h4⟩ := run_append_ga hk hpos t e i z bytes ht hi hz hsize hby hzs w o.type base v vx l m hown hr h1 hm hlen hbase
    unfold Oper.wp execOp
    simp only [ho, resolve, invoke, builtin, Sem.run_bind, Sem.run_pure, Result.andThen_ok, List.map_toArray, List.map_cons, List.map_nil, hs, hx, hrun]
    exact hK _ _ (h v' w' h2 h3 h4)
end

/-- Two values whose blocks differ. -/
def Apart (a b : Value) : Prop := a.ownBlock = none ∨ b.ownBlock = none ∨ a.ownBlock ≠ b.ownBlock
theorem Apart.left {a b : Value} (h : Apart a b) : a.ownBlock = none ∨ a.ownBlock ≠ b.ownBlock := by
  rcases h with h | h | h
  · exact .inl h
  · rcases ha : a.ownBlock with _ | x
    · exact .inl rfl
    · right; rw [h]; simp
  · exact .inr h
theorem Apart.symm {a b : Value} (h : Apart a b) : Apart b a := by
  rcases h with h | h | h
  · exact .inr (.inl h)
  · exact .inl h
  · exact .inr (.inr fun e => h e.symm)
theorem Apart.grow {a b a' : Value} {H : Nat} (h : Apart a b) (ha : a'.ownBlock = a.ownBlock ∨ a'.ownBlock = some H) (hb : ∀ x, b.ownBlock = some x → x < H) : Apart a' b := by
  rcases ha with ha | ha
  · unfold Apart; rw [ha]; exact h
  · rcases hbb : b.ownBlock with _ | x
    · exact .inr (.inl hbb)
    · right; right
      rw [ha, hbb]
      intro e
      injection e with e
      have := hb x hbb
      omega

end Go.Proofs.Ytciijaejldfcaaa
