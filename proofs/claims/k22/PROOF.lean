import PyProof.Rows.All
import Wide.All
import OpenK.AllK
import Wide.FinOn
import Lean
import PyProof.EqAt
import PyProof.EqKinds
import PyProof.TupleCall
import PyProof.NeKinds
import KE.KSortTup
import PyProof.Rows.SortShell
import PyProof.Draws
import PyProof.TupleIter
import PyProof.MinMaxWalk
import PyProof.ListNew
import KE.KRevIter
import PySem.Challenge.RW_fitmost_k22_whole_numbers_of_both_and_ap
set_option Elab.async false
set_option linter.all false
set_option maxRecDepth 100000
set_option maxHeartbeats 4000000
set_option genSizeOfSpec false
namespace L2
open PySem PySem.Spec PyProof.Rows
noncomputable abbrev Key := Sum Int Str
noncomputable def keyIs : Key → Value → Bool
  | .inl k, v => Value.isInt k v
  | .inr x, v => Value.isStrOf x v
noncomputable def keyH (w : World) : Key → Int
  | .inl k => hashInt k
  | .inr x => hashStr w x
theorem keyIs_shape : ∀ {k : Key} {v : Value}, keyIs k v = true → (∃ i t, k = Sum.inl i ∧ v = Value.int i t) ∨ (∃ x t, k = Sum.inr x ∧ v = Value.str x t)
  | .inl i, v, h => by
    obtain ⟨t, e⟩ := Value.isInt_shape (k := i) (v := v) h
    exact .inl ⟨i, t, rfl, e⟩
  | .inr x, v, h => by
    obtain ⟨t, e⟩ := Value.isStrOf_shape (x := x) (v := v) h
    exact .inr ⟨x, t, rfl, e⟩
theorem key_ll (a b : Int) : decide ((Sum.inl a : Key) = Sum.inl b) = (a == b) := by
  by_cases e : a = b
  · subst e; simp
  · have h : ¬ (Sum.inl a : Key) = Sum.inl b := fun q => e (Sum.inl.inj q)
    rw [decide_eq_false h]
    exact (beq_eq_false_iff_ne.mpr e).symm
theorem key_rr (a b : Str) : decide ((Sum.inr a : Key) = Sum.inr b) = decide (a = b) := by
  by_cases e : a = b
  · subst e; simp
  · have h : ¬ (Sum.inr a : Key) = Sum.inr b := fun q => e (Sum.inr.inj q)
    rw [decide_eq_false h, decide_eq_false e]
theorem key_lr (a : Int) (b : Str) : decide ((Sum.inl a : Key) = Sum.inr b) = false := decide_eq_false (fun q => nomatch q)
theorem key_rl (a : Str) (b : Int) : decide ((Sum.inr a : Key) = Sum.inl b) = false := decide_eq_false (fun q => nomatch q)
noncomputable def mixKind (prog : Program) (w : World) : PySem.KeyKind prog w Key where
  is := keyIs
  hash := keyH w
  inj := fun v a b ha hb => by
    rcases keyIs_shape ha with ⟨i, t, rfl, rfl⟩ | ⟨x, t, rfl, rfl⟩
    · rcases keyIs_shape hb with ⟨j, u, rfl, e⟩ | ⟨y, u, rfl, e⟩
      · injection e with e1 _; rw [e1]
      · exact nomatch e
    · rcases keyIs_shape hb with ⟨j, u, rfl, e⟩ | ⟨y, u, rfl, e⟩
      · exact nomatch e
      · injection e with e1 _; rw [e1]
  byValue := fun k v h => by
    rcases keyIs_shape h with ⟨i, t, rfl, rfl⟩ | ⟨x, t, rfl, rfl⟩ <;> rfl
  pyHash := fun hv h => by
    rcases keyIs_shape hv with ⟨i, t, rfl, rfl⟩ | ⟨x, t, rfl, rfl⟩
    · exact wpAny_pyHash_int h
    · exact wpAny_pyHash_str h
  eqBool := fun hu hv h => by
    rcases keyIs_shape hu with ⟨i, t, rfl, rfl⟩ | ⟨x, t, rfl, rfl⟩
    · rcases keyIs_shape hv with ⟨j, u, rfl, rfl⟩ | ⟨y, u, rfl, rfl⟩
      · rw [key_ll] at h; exact wpAny_eqBool_int h
      · rw [key_lr] at h; exact SeqAt.EqAt.int_str i t y u _ _ _ _ h
    · rcases keyIs_shape hv with ⟨j, u, rfl, rfl⟩ | ⟨y, u, rfl, rfl⟩
      · rw [key_rl] at h; exact SeqAt.EqAt.str_int x t j u _ _ _ _ h
      · rw [key_rr] at h; exact wpAny_eqBool_str h
  «strs» := fun k x t v h => by
    rcases keyIs_shape h with ⟨i, u, rfl, e⟩ | ⟨y, u, rfl, e⟩
    · exact nomatch e
    · injection e with e1 _
      subst e1
      cases v <;> rfl
end L2
namespace L2
open PySem PySem.Spec PyProof.Rows
inductive V where
  | non | bl (b : Bool) | int (i : Int) | str (x : Str) | byt (b : Array UInt8) | flt (b : UInt64) | ref (a : Addr) | ty (n : String)
  deriving DecidableEq
noncomputable def RelV : V → Value → Prop
  | .non, u => u = Value.none
  | .bl b, u => u = Value.bool b
  | .int i, u => ∃ t, u = Value.int i t
  | .str x, u => ∃ t, u = Value.str x t
  | .byt b, u => ∃ t, u = Value.bytes b t
  | .flt b, u => ∃ t, u = Value.float b t
  | .ref a, u => u = Value.ref a
  | .ty n, u => u = Value.type n
noncomputable abbrev Vals : List V → List Value → Prop := Paired RelV
theorem Vals.length {xs : List V} {us : List Value} (r : Vals xs us) : xs.length = us.length := Paired.length r
theorem Vals.get : ∀ {xs : List V} {us : List Value} {i : Nat} {x : V}, Vals xs us → xs[i]? = some x → ∃ u, us[i]? = some u ∧ RelV x u
  | _, _, _, _, .nil, e => by simp at e
  | _, _, 0, _, .cons r _, e => by simp at e; subst e; exact ⟨_, rfl, r⟩
  | _, _, i + 1, x, .cons _ t, e => by
    obtain ⟨u, h1, h2⟩ := Vals.get (i := i) (x := x) t (by simpa using e)
    exact ⟨u, by simpa using h1, h2⟩
theorem Vals.set {x : V} {u : Value} (r : RelV x u) : ∀ {xs : List V} {us : List Value} (i : Nat), Vals xs us → Vals (xs.set i x) (us.set i u)
  | _, _, _, .nil => .nil
  | _, _, 0, .cons _ t => .cons r t
  | _, _, i + 1, .cons q t => .cons q (Vals.set r i t)
theorem Vals.append : ∀ {xs ys : List V} {us ws : List Value}, Vals xs us → Vals ys ws → Vals (xs ++ ys) (us ++ ws)
  | _, _, _, _, .nil, s => s
  | _, _, _, _, .cons r t, s => .cons r (Vals.append t s)
theorem Vals.take : ∀ {xs : List V} {us : List Value} (n : Nat), Vals xs us → Vals (xs.take n) (us.take n)
  | _, _, 0, _ => .nil
  | _, _, _ + 1, .nil => .nil
  | _, _, n + 1, .cons r t => .cons r (Vals.take n t)
theorem Vals.drop : ∀ {xs : List V} {us : List Value} (n : Nat), Vals xs us → Vals (xs.drop n) (us.drop n)
  | _, _, 0, r => r
  | _, _, _ + 1, .nil => .nil
  | _, _, n + 1, .cons _ t => Vals.drop n t
noncomputable def RelO : Option V → Option Value → Prop
  | some v, some u => RelV v u
  | none, none => True
  | _, _ => False
noncomputable def KV {κ : Type} : List (κ × V) → List (κ × Value) → Prop := Paired fun (p : κ × V) (q : κ × Value) => p.1 = q.1 ∧ RelV p.2 q.2
noncomputable def kV : Key → V
  | .inl i => .int i
  | .inr x => .str x
inductive HO where
    | lst (xs : List V)
    | tup (xs : List V)
    | dK (kvs : List (Key × V)) | dT (kvs : List (List Key × V))
    | set (S : Int → Bool) (n : Nat)
    | ins (C dx : Addr) (fs : List (Str × V))
    | own (x : Addr)
    | xd (fs : List (Str × V))
    | met (f x : Addr)
    | rng (lo hi : Int)
    | frz (o : Obj) (u : HO)
    | tbl (ps : Array Value)
    | ext (φ : Heap → Prop)
noncomputable abbrev Hp := Addr → Option HO
noncomputable def upd (H : Hp) (a : Addr) (o : HO) : Hp := fun b => if b = a then some o else H b
theorem upd_same {H : Hp} {a : Addr} {o : HO} : upd H a o a = some o := by unfold upd; rw [if_pos rfl]
theorem upd_ne {H : Hp} {a b : Addr} {o : HO} (h : b ≠ a) : upd H a o b = H b := by unfold upd; rw [if_neg h]
theorem ne_of_none {H : Hp} {a b : Addr} {o : HO} (h : H a = some o) (h' : H b = none) : a ≠ b := by
  intro e; subst e; rw [h] at h'; cases h'
section
variable (P : Program) (w : World)
noncomputable def ObjOk (H : Hp) (h : Heap) (a : Addr) : HO → Prop
  | .lst xs => xs.length ≤ sizeLine ∧ ∃ (its : List Value) (n : Nat), Vals xs its ∧ h.get? a = some { cls := .type "list", data := .seq its.toArray n }
  | .tup xs => xs.length ≤ sizeLine ∧ ∃ its : List Value, Vals xs its ∧ IsTup h a its.toArray
  | .dK kvs => kvs.length ≤ sizeLine ∧ (a == sysModules) = false ∧ ∃ vs, KV kvs vs ∧ h.DictOf (mixKind P w) a vs
  | .dT kvs => kvs.length ≤ sizeLine ∧ (a == sysModules) = false ∧ ∃ xs : List (List Key × Addr × Value),
      Paired (fun (p : List Key × V) (q : List Key × Addr × Value) => p.1 = q.1 ∧ H q.2.1 = some (.tup (p.1.map kV)) ∧ RelV p.2 q.2.2) kvs xs ∧
      ∃ o es ep, h.get? a = some o ∧ o.ExactDict ∧ o.data = .dict es ep ∧ es.toList = xs.map (entryOfKey (tupleKind (mixKind P w))) ∧ (xs.map (·.1)).Nodup
  | .set S n => h.SetOf (intKind P w) a S n
  | .ins C dx fs => H dx = some (.own a) ∧ fs.length ≤ 1000 ∧ dx ≠ a ∧ h.get? a = some (PySem.W.instObj C dx) ∧
      ∃ mA, h.Ns1 dx mA ∧ (∀ f, RelO (fs.lookup f) (mA f)) ∧ PySem.Within mA (fs.map (·.1))
  | .own _ => ∃ o, h.get? a = some o
  | .xd fs => ∃ mA, h.Ns1 a mA ∧ ∀ f, RelO (fs.lookup f) (mA f)
  | .rng lo hi => ∃ t u v, h.get? a = some { cls := .type "range", data := .fields #[.int lo t, .int hi u, .int 1 v] }
  | .frz o u => h.get? a = some o ∧ ObjOk H h a u
  | .tbl ps => h.get? a = some { cls := .none, data := .fields ps }
  | .met f x => h.get? a = some (PySem.W.methodObj (.ref f) (.ref x))
  | .ext φ => φ h ∧ (∃ o, h.get? a = some o) ∧ ∀ h1 h2 : Heap, φ h1 → (∀ o, h1.get? a = some o → h2.get? a = some o) → φ h2
noncomputable def HOk (H : Hp) (h : Heap) : Prop := ∀ a o, H a = some o → ObjOk P w H h a o
end
section
variable {P : Program} {w : World} {H H' : Hp} {h h' : Heap} {a : Addr} {o : HO}
theorem ObjOk.lt (x : ObjOk P w H h a o) : a < h.objs.size := by
  cases o with
  | lst xs => obtain ⟨_, _, _, _, e⟩ := x; exact Heap.lt_size e
  | tup xs => obtain ⟨_, _, _, p⟩ := x; exact p.lt
  | dK kvs => obtain ⟨_, _, _, _, o, _, _, e, _⟩ := x; exact Heap.lt_size e
  | dT kvs => obtain ⟨_, _, _, _, o, _, _, e, _⟩ := x; exact Heap.lt_size e
  | set S n => obtain ⟨o, _, _, _, e, _⟩ := x; exact Heap.lt_size e
  | ins C dx fs => obtain ⟨_, _, _, e, _⟩ := x; exact Heap.lt_size e
  | own y => obtain ⟨_, e⟩ := x; exact Heap.lt_size e
  | xd fs => obtain ⟨_, ⟨_, _, _, e, _⟩, _⟩ := x; exact Heap.lt_size e
  | rng lo hi => obtain ⟨_, _, _, e⟩ := x; exact Heap.lt_size e
  | frz ob u => obtain ⟨e, _⟩ := x; exact Heap.lt_size e
  | tbl ps => exact Heap.lt_size (show h.get? a = some _ from x)
  | met f y => exact Heap.lt_size (show h.get? a = some _ from x)
  | ext φ => obtain ⟨_, ⟨_, e⟩, _⟩ := x; exact Heap.lt_size e
theorem Paired.mapP {α β : Type} {F G : α → β → Prop} : ∀ {l₁ : List α} {l₂ : List β}, Paired F l₁ l₂ → (∀ a b, F a b → G a b) → Paired G l₁ l₂
  | _, _, .nil, _ => .nil
  | _, _, .cons r t, f => .cons (f _ _ r) (Paired.mapP t f)
theorem ObjOk.stay (x : ObjOk P w H h a o) (k : ∀ b u, (b = a ∨ H b = some (.own a)) → h.get? b = some u → h'.get? b = some u)
    (ho : ∀ b, H b = some (.own a) → H' b = some (.own a)) (ht : ∀ b xs, H b = some (.tup xs) → H' b = some (.tup xs)) : ObjOk P w H' h' a o := by
  induction o with
  | lst xs => obtain ⟨z, its, n, r, e⟩ := x; exact ⟨z, its, n, r, k _ _ (.inl rfl) e⟩
  | tup xs => obtain ⟨z, its, r, ob, e, c⟩ := x; exact ⟨z, its, r, ob, k _ _ (.inl rfl) e, c⟩
  | dK kvs => obtain ⟨z, y, vs, r, ob, es, ep, e, c⟩ := x; exact ⟨z, y, vs, r, ob, es, ep, k _ _ (.inl rfl) e, c⟩
  | dT kvs =>
    obtain ⟨z, y, xs, r, ob, es, ep, e, c⟩ := x
    exact ⟨z, y, xs, Paired.mapP r fun p q z => ⟨z.1, ht _ _ z.2.1, z.2.2⟩, ob, es, ep, k _ _ (.inl rfl) e, c⟩
  | set S n => obtain ⟨ob, es, ep, t, e, c⟩ := x; exact ⟨ob, es, ep, t, k _ _ (.inl rfl) e, c⟩
  | ins C dx fs =>
    obtain ⟨d, z, ne, e, mA, ⟨od, es, ep, e2, c⟩, r⟩ := x
    exact ⟨ho _ d, z, ne, k _ _ (.inl rfl) e, mA, ⟨od, es, ep, k _ _ (.inr d) e2, c⟩, r⟩
  | own y => obtain ⟨ob, e⟩ := x; exact ⟨ob, k _ _ (.inl rfl) e⟩
  | xd fs => obtain ⟨mA, ⟨od, es, ep, e, c⟩, r⟩ := x; exact ⟨mA, ⟨od, es, ep, k _ _ (.inl rfl) e, c⟩, r⟩
  | rng lo hi => obtain ⟨t, u, v, e⟩ := x; exact ⟨t, u, v, k _ _ (.inl rfl) e⟩
  | frz ob u ih => obtain ⟨e, q⟩ := x; exact ⟨k _ _ (.inl rfl) e, ih q⟩
  | tbl ps =>
    have e : h.get? a = some { cls := .none, data := .fields ps } := x
    show h'.get? a = some { cls := .none, data := .fields ps }
    exact k a _ (.inl rfl) e
  | met f y =>
    have e : h.get? a = some (PySem.W.methodObj (.ref f) (.ref y)) := x
    show h'.get? a = some (PySem.W.methodObj (.ref f) (.ref y))
    exact k a _ (.inl rfl) e
  | ext φ => obtain ⟨p, ⟨o, e⟩, st⟩ := x; exact ⟨st _ _ p fun o q => k _ _ (.inl rfl) q, ⟨o, k _ _ (.inl rfl) e⟩, st⟩
theorem HOk.lt (x : HOk P w H h) (e : H a = some o) : a < h.objs.size := (x a o e).lt
theorem HOk.fresh (x : HOk P w H h) (e : h.objs.size ≤ a) : H a = none := by
  cases q : H a with
  | none => rfl
  | some u => exact absurd (Nat.lt_of_lt_of_le (x.lt q) e) (Nat.lt_irrefl _)
theorem HOk.kept (x : HOk P w H h) (k : ∀ b u, h.get? b = some u → h'.get? b = some u) : HOk P w H h' := fun a o e =>
  (x a o e).stay (fun b u _ q => k b u q) (fun _ q => q) fun _ _ q => q
theorem HOk.laid (x : HOk P w H h) (k : ∀ b u, h.get? b = some u → h'.get? b = some u) (hp : h.objs.size ≤ a) (new : ObjOk P w (upd H a o) h' a o) : HOk P w (upd H a o) h' := fun b u e => by
  have hn := x.fresh hp
  by_cases hb : b = a
  · subst hb; rw [upd_same] at e; cases e; exact new
  · rw [upd_ne hb] at e
    exact (x b u e).stay (fun c v _ q => k c v q) (fun c q => by rw [upd_ne (ne_of_none q hn)]; exact q) fun c xs q => by rw [upd_ne (ne_of_none q hn)]; exact q
end
noncomputable def Rd (H : Hp) (a : Addr) (u : HO) : Prop := H a = some u ∨ ∃ o, H a = some (.frz o u)
theorem Rd.ok {P : Program} {w : World} {H : Hp} {h : Heap} {a : Addr} {u : HO} (r : Rd H a u) (x : HOk P w H h) : ObjOk P w H h a u := by
  rcases r with r | ⟨o, r⟩
  · exact x a u r
  · obtain ⟨_, q⟩ := x a _ r
    exact q
noncomputable def Mut : Option HO → Prop
  | some (.lst _) => True
  | some (.dK _) => True
  | some (.dT _) => True
  | some (.set _ _) => True
  | some (.ins _ _ _) => True
  | some (.ext _) => True
  | _ => False
section
variable {P : Program} {w : World} {H : Hp} {h h' : Heap} {x e : Addr} {o' : HO}
theorem HOk.write (ok : HOk P w H h) (mu : Mut (H x)) (he : e = x ∨ H e = some (.own x)) (k : ∀ b u, b ≠ e → h.get? b = some u → h'.get? b = some u) (heo : ∃ u, h'.get? e = some u)
    (new : ObjOk P w (upd H x o') h' x o') : HOk P w (upd H x o') h' := fun b u q => by
  have nown : ∀ c y, H c = some (.own y) → c ≠ x := fun c y r z => by subst z; rw [r] at mu; exact mu
  have ntup : ∀ c xs, H c = some (.tup xs) → c ≠ x := fun c xs r z => by subst z; rw [r] at mu; exact mu
  by_cases hb : b = x
  · subst hb; rw [upd_same] at q; cases q; exact new
  · rw [upd_ne hb] at q
    by_cases hbe : b = e
    · have q' : H b = some (.own x) := by
        rcases he with z | z
        · exact absurd (hbe.trans z) hb
        · rw [hbe]; exact z
      rw [q] at q'; cases q'
      obtain ⟨v, hv⟩ := heo
      exact ⟨v, by rw [hbe]; exact hv⟩
    · refine (ok b u q).stay (fun c v hc r => k c v ?_ r) (fun c r => by rw [upd_ne (nown c b r)]; exact r) fun c xs r => by rw [upd_ne (ntup c xs r)]; exact r
      rcases hc with rfl | hc
      · exact hbe
      · rintro rfl
        rcases he with z | z
        · exact nown c b hc z
        · rw [hc] at z; cases z; exact hb rfl
end
structure Un (fs ex : List Addr) (H H' : Hp) (h h' : Heap) : Prop where
  keep : ∀ b o, h.get? b = some o → H b = none → b ∉ fs → b ∉ ex → h'.get? b = some o
  slot : ∀ b o, h.get? b = some o → H b = none → b ∈ fs → b ∉ ex → ∃ sl, h'.get? b = some { o with slots := sl }
  free : ∀ b o, h.get? b = some o → H b = none → b ∉ ex → H' b = none
  there : ∀ b o, h.get? b = some o → b ∉ ex → ∃ o', h'.get? b = some o'
  tups : ∀ b xs, H b = some (.tup xs) → H' b = some (.tup xs)
  frzs : ∀ b o u, H b = some (.frz o u) → H' b = some (.frz o u)
  tbls : ∀ b ps, H b = some (.tbl ps) → ∃ more, H' b = some (.tbl (ps ++ more))
section
variable {fs fs' ex ex' : List Addr} {H H1 H2 : Hp} {h h1 h2 h' : Heap} {a x e : Addr} {o : HO}
theorem Un.any (u : Un fs ex H H1 h h1) {b : Addr} {ob : Obj} (q : h.get? b = some ob) (n : H b = none) (hx : b ∉ ex) : ∃ sl, h1.get? b = some { ob with slots := sl } := by
  by_cases hb : b ∈ fs
  · exact u.slot b ob q n hb hx
  · exact ⟨ob.slots, u.keep b ob q n hb hx⟩
theorem Un.kept (k : ∀ b u, h.get? b = some u → h'.get? b = some u) : Un fs ex H H h h' :=
  ⟨fun b ob q _ _ _ => k b ob q, fun b ob q _ _ _ => ⟨ob.slots, k b ob q⟩, fun _ _ _ n _ => n, fun b ob q _ => ⟨ob, k b ob q⟩, fun _ _ q => q, fun _ _ _ q => q, fun _ ps q => ⟨#[], by rw [q]; simp⟩⟩
theorem Un.refl : Un fs ex H H h h := Un.kept fun _ _ q => q
theorem Un.laid (k : ∀ b u, h.get? b = some u → h'.get? b = some u) (hp : h.objs.size ≤ a) (hn : H a = none) : Un fs ex H (upd H a o) h h' where
  keep := fun b u q _ _ _ => k b u q
  slot := fun b u q _ _ _ => ⟨u.slots, k b u q⟩
  free := fun b u q n _ => by rw [upd_ne (Nat.ne_of_lt (Nat.lt_of_lt_of_le (Heap.lt_size q) hp))]; exact n
  there := fun b u q _ => ⟨u, k b u q⟩
  tups := fun b xs q => by rw [upd_ne (ne_of_none q hn)]; exact q
  frzs := fun b u xs q => by rw [upd_ne (ne_of_none q hn)]; exact q
  tbls := fun b ps q => ⟨#[], by rw [upd_ne (ne_of_none q hn), q]; simp⟩
theorem Un.write (mu : Mut (H x)) (he : e = x ∨ H e = some (.own x)) (k : ∀ b u, b ≠ e → h.get? b = some u → h'.get? b = some u) (heo : ∃ u, h'.get? e = some u) : Un fs ex H (upd H x o) h h' := by
  have hx : ∀ b, H b = none → b ≠ x := fun b n z => by subst z; rw [n] at mu; exact mu
  have hb : ∀ b, H b = none → b ≠ e := fun b n z => by
    subst z
    rcases he with r | r
    · exact hx b n r
    · rw [n] at r; cases r
  have hm : ∀ b u, H b = some u → ¬ Mut (some u) → b ≠ x := fun b u q nm z => by subst z; rw [q] at mu; exact nm mu
  refine ⟨fun b u q n _ _ => k b u (hb b n) q, fun b u q n _ _ => ⟨u.slots, k b u (hb b n) q⟩, fun b u q n _ => by rw [upd_ne (hx b n)]; exact n, fun b u q _ => ?_,
    fun b xs q => by rw [upd_ne (hm b _ q fun z => z)]; exact q, fun b u xs q => by rw [upd_ne (hm b _ q fun z => z)]; exact q, fun b ps q => ⟨#[], by rw [upd_ne (hm b _ q fun z => z), q]; simp⟩⟩
  by_cases hbe : b = e
  · subst hbe; exact heo
  · exact ⟨u, k b u hbe q⟩
end
noncomputable def trk (h : Heap) (H : Hp) : List Addr := (List.range h.objs.size).filter fun a => (H a).isSome
noncomputable def hidT (h : Heap) (H : Hp) : Heap := PySem.W.hideAll h (trk h H)
theorem hidT_size (h : Heap) (H : Hp) : (hidT h H).objs.size = h.objs.size := PySem.W.hideAll_size _ _
theorem hidT_get {h : Heap} {H : Hp} {b : Addr} {o : Obj} (e : h.get? b = some o) (n : H b = none) : (hidT h H).get? b = some o :=
  PySem.W.hideAll_get _ e fun hm => by
    have q : (H b).isSome = true := (List.mem_filter.mp hm).2
    rw [n] at q; simp at q
theorem of_hidT {h : Heap} {H : Hp} {b : Addr} {o : Obj} (e : (hidT h H).get? b = some o) : h.get? b = some o ∧ H b = none := by
  have e' : h.get? b = some o := PySem.W.of_hideAll (trk h H) e
  refine ⟨e', ?_⟩
  cases q : H b with
  | none => rfl
  | some x =>
    have hm : b ∈ trk h H := List.mem_filter.mpr ⟨List.mem_range.mpr (Heap.lt_size e'), by simp [q]⟩
    have z : (hidT h H).get? b = none := PySem.W.hideAll_none (trk h H) hm
    rw [z] at e; cases e
noncomputable def allNews (g h : Heap) (L : Addr) : List (Addr × Obj) := (List.range h.objs.size).filterMap fun a => if a = L ∨ (g.get? a).isSome = true then none else (h.get? a).map fun o => (a, o)
theorem mem_allNews {g h : Heap} {L a : Addr} {o : Obj} (h1 : a ≠ L) (h2 : g.get? a = none) (h3 : h.get? a = some o) : (a, o) ∈ allNews g h L :=
  List.mem_filterMap.mpr ⟨a, List.mem_range.mpr (Heap.lt_size h3), by simp [h1, h2, h3]⟩
theorem of_mem_allNews {g h : Heap} {L : Addr} {p : Addr × Obj} (hp : p ∈ allNews g h L) : p.1 ≠ L ∧ g.get? p.1 = none ∧ h.get? p.1 = some p.2 := by
  obtain ⟨b, _, e⟩ := List.mem_filterMap.mp hp
  split at e
  · cases e
  · rename_i hn
    cases q : h.get? b with
    | none => rw [q] at e; simp at e
    | some u =>
      rw [q] at e
      simp only [Option.map_some, Option.some.injEq] at e
      subst e
      refine ⟨fun z => hn (.inl z), ?_, q⟩
      show g.get? b = none
      cases r : g.get? b with
      | none => rfl
      | some v => exact (hn (.inr (by simp [r]))).elim
theorem news_all {g h : Heap} {L : Addr} : News g L h (allNews g h L) := fun p hp => let ⟨a, b, c⟩ := of_mem_allNews hp; ⟨c, a, b⟩
end L2
namespace L2
open PySem PySem.Spec PyProof.Rows
structure Mod (K : PySem.W.Frag) (mg : Str → Option Value) (base : Heap) : Prop where
  kin : K.In base
  glob : base.Ns mainGlobals mg
  blt : ∃ mb, base.Ns builtinsNs mb ∧ ∀ x : Str, x ≠ "__name__" → mb x = bootBuiltins x
  nolimit : base.NoLimit
structure Cx where
  prog : Program
  w : World
  K : PySem.W.Frag
  mg : Str → Option Value
  base : Heap
  A : Around
  N : List Str
  s₀ : Shared
  H₀ : Hp
  env : Env
  outer : List Env
  stack : List Env
  ex : List Addr
  fn : Str → Bool
  calm : Bool
  pn : List (Addr × Obj)
  xe : Value → Shared → Prop
noncomputable def frs (l : List Env) : List Addr := l.filterMap (·.frame)
noncomputable abbrev Cx.fs (X : Cx) : List Addr := frs X.outer
noncomputable def Vis (sc : Scope) (x : Str) : Prop := sc.names.lookup x = some .local ∨ sc.names.lookup x = some .cell ∨ sc.names.lookup x = some .free
noncomputable def Loc (sc : Scope) (x : Str) : Prop := sc.names.lookup x = some .local ∨ sc.names.lookup x = some .cell
noncomputable def Look (env : Env) (h : Heap) (m : Str → Option Value) (x : Str) (u : Value) : Prop :=
  (env.kindOf x = some .local ∧ m x = some u) ∨ ((env.kindOf x = some .cell ∨ env.kindOf x = some .free) ∧ ∃ c, env.cells.lookup x = some c ∧ h.IsCell c (some u))
structure Cx.Ok (X : Cx) : Prop where
  mod : Mod X.K X.mg X.base
  kind : X.env.scope.kind = .function
  glob : X.env.globals = mainGlobals
  blt : X.env.builtins = builtinsNs
  above : X.s₀.heap.objs.size ≤ X.env.locals
  inj : ∀ x y c, X.env.cells.lookup x = some c → X.env.cells.lookup y = some c → x = y
  has : ∀ x, (X.env.kindOf x = some .cell ∨ X.env.kindOf x = some .free) → ∃ c, X.env.cells.lookup x = some c
  cab : ∀ x c, X.fn x = true → X.env.cells.lookup x = some c → X.s₀.heap.objs.size ≤ c
  hd : X.calm = true → X.A.handled = none
  frames : X.A.frames = some X.stack
  stk : X.stack = X.outer ∨ (X.stack = X.env :: X.outer ∧ X.env.frame = some X.env.locals)
  exf : ∀ b ∈ X.ex, b ≠ X.env.locals ∧ ∀ x c, X.env.cells.lookup x = some c → c ≠ b
  bs : ∀ b o, X.base.get? b = some o → X.s₀.heap.get? b = some o ∧ X.H₀ b = none
  bsz : X.base.objs.size ≤ X.s₀.heap.objs.size
  noex : ∀ b o, X.base.get? b = some o → b ∉ X.ex
  exfs : ∀ b ∈ X.ex, b ∉ X.fs
  funs : X.s₀.heap.FunFrames X.base X.outer
  frf : ∀ b ∈ X.fs, X.H₀ b = none
structure Inv (X : Cx) (pins : List (Addr × Obj)) (σ : List (Option V)) (H : Hp) (s : Shared) : Prop where
  ok : X.Ok
  os : s.os = X.s₀.os
  bare : AllBare s.gens
  base : Un X.fs X.ex X.H₀ H X.s₀.heap s.heap
  loc : ∃ m, s.heap.Ns X.env.locals m ∧ ∀ (i : Nat) (x : Str) (v : V), X.N[i]? = some x → σ[i]? = some (some v) → Vis X.env.scope x → ∃ u, RelV v u ∧ Look X.env s.heap m x u
  cell : ∀ x c, X.env.cells.lookup x = some c → ∃ v, s.heap.IsCell c v
  free : H X.env.locals = none
  freeC : ∀ x c, X.env.cells.lookup x = some c → H c = none
  pin : ∀ p ∈ X.pn ++ pins, s.heap.get? p.1 = some p.2 ∧ H p.1 = none ∧ p.1 ≠ X.env.locals ∧ p.1 ∉ X.fs ∧ ∀ v, p.2.data ≠ .cell v
  hok : HOk X.prog X.w H s.heap
  len : σ.length = X.N.length
section
variable {X : Cx} {pins : List (Addr × Obj)} {σ : List (Option V)} {H H' : Hp} {s : Shared} {h' : Heap}
theorem Cx.Ok.nofr (ok : X.Ok) {b : Addr} {o : Obj} (e : X.base.get? b = some o) : b ∉ X.fs := fun hb => by
  have := (ok.funs.mem hb).1
  rw [e] at this; cases this
theorem Inv.bs (I : Inv X pins σ H s) : ∀ b o, X.base.get? b = some o → s.heap.get? b = some o ∧ H b = none := fun b o e =>
  ⟨I.base.keep b o (I.ok.bs b o e).1 (I.ok.bs b o e).2 (I.ok.nofr e) (I.ok.noex b o e), I.base.free b o (I.ok.bs b o e).1 (I.ok.bs b o e).2 (I.ok.noex b o e)⟩
theorem Inv.bk (I : Inv X pins σ H s) : ∀ b o, X.base.get? b = some o → s.heap.get? b = some o := fun b o e => (I.bs b o e).1
theorem Inv.mod (I : Inv X pins σ H s) : Mod X.K X.mg X.base := I.ok.mod
theorem Inv.kIn (I : Inv X pins σ H s) : X.K.In s.heap := I.ok.mod.kin.keeps I.bk
theorem Inv.fr (I : Inv X pins σ H s) : ∃ m, Fr X.base X.env.locals s.heap m :=
  let ⟨m, hn, _⟩ := I.loc
  ⟨m, hn, I.bk, Nat.le_trans I.ok.bsz I.ok.above⟩
theorem Inv.lt (I : Inv X pins σ H s) : X.env.locals < s.heap.objs.size := let ⟨_, hn, _⟩ := I.loc; hn.lt
theorem Inv.sz (I : Inv X pins σ H s) : X.s₀.heap.objs.size ≤ s.heap.objs.size := Nat.le_trans I.ok.above (Nat.le_of_lt I.lt)
theorem Inv.nofs (I : Inv X pins σ H s) {a : Addr} (h : s.heap.objs.size ≤ a) : a ∉ X.fs := fun hb => by
  obtain ⟨_, o, ho, _⟩ := I.ok.funs.mem hb
  exact absurd (Nat.lt_of_lt_of_le (Heap.lt_size ho) (Nat.le_trans I.sz h)) (Nat.lt_irrefl _)
theorem Inv.cne (I : Inv X pins σ H s) : ∀ x c, X.env.cells.lookup x = some c → c ≠ X.env.locals := fun x c e z => by
  obtain ⟨v, o, ho, hd⟩ := I.cell x c e
  obtain ⟨m, ⟨o', es, ep, ho', hd', _⟩, _⟩ := I.loc
  rw [z, ho'] at ho; cases ho; rw [hd'] at hd; cases hd
theorem Inv.funs (I : Inv X pins σ H s) : s.heap.FunFrames X.base X.outer := by
  have all : ∀ (l : List Env), (∀ b ∈ frs l, b ∈ X.fs) → X.s₀.heap.FunFrames X.base l → s.heap.FunFrames X.base l := by
    intro l
    induction l with
    | nil => intro _ _; trivial
    | cons env r ih =>
      intro hs hl
      obtain ⟨hk, ⟨L, o, hf, hn, ho, hd⟩, hr⟩ := hl
      have hL : L ∈ X.fs := hs L (by unfold frs; rw [List.filterMap_cons, hf]; exact List.mem_cons_self)
      obtain ⟨sl, e⟩ := I.base.slot L o ho (I.ok.frf L hL) hL fun z => I.ok.exfs L z hL
      exact ⟨hk, ⟨L, _, hf, hn, e, hd⟩, ih (fun b hb => hs b (by unfold frs; rw [List.filterMap_cons, hf]; exact List.mem_cons_of_mem _ hb)) hr⟩
  exact all X.outer (fun _ hb => hb) I.ok.funs
theorem Inv.stack (I : Inv X pins σ H s) : s.heap.FunFrames X.base X.stack := by
  rcases I.ok.stk with e | ⟨e, hf⟩
  · rw [e]; exact I.funs
  · rw [e]
    obtain ⟨m, hn, _⟩ := I.loc
    refine .cons (by rw [I.ok.kind]; decide) hf hn ?_ I.funs
    exact Heap.get?_none_of_le (Nat.le_trans I.ok.bsz I.ok.above)
theorem Inv.stkSub (I : Inv X pins σ H s) : ∀ b ∈ frs X.stack, b ∈ X.env.locals :: X.fs := fun b hb => by
  rcases I.ok.stk with e | ⟨e, hf⟩
  · rw [e] at hb; exact List.mem_cons_of_mem _ hb
  · rw [e] at hb
    unfold frs at hb
    rw [List.filterMap_cons, hf] at hb
    exact hb
theorem Inv.stkFree (I : Inv X pins σ H s) : ∀ b ∈ frs X.stack, H b = none := fun b hb => by
  rcases List.mem_cons.mp (I.stkSub b hb) with e | hb
  · rw [e]; exact I.free
  · obtain ⟨_, o, ho, _⟩ := I.ok.funs.mem hb
    exact I.base.free b o ho (I.ok.frf b hb) fun z => I.ok.exfs b z hb
theorem Inv.step {g' : Array GenState} {t' : Nat} {d' : Drawn} {ch : List Addr} (I : Inv X pins σ H s)
    (hch : ∀ b ∈ ch, (b ∈ X.ex ∨ X.s₀.heap.objs.size ≤ b) ∧ b ≠ X.env.locals ∧ (∀ x c, X.env.cells.lookup x = some c → c ≠ b) ∧ ∀ p ∈ X.pn ++ pins, p.1 ≠ b)
    (keep : ∀ b o, b ≠ X.env.locals → b ∉ X.fs → b ∉ ch → s.heap.get? b = some o → H b = none → h'.get? b = some o)
    (slot : ∀ b o, b ≠ X.env.locals → b ∈ X.fs → b ∉ ch → s.heap.get? b = some o → H b = none → ∃ sl, h'.get? b = some { o with slots := sl }) (free : ∀ b o, b ∉ ch → s.heap.get? b = some o → H b = none → H' b = none)
    (there : ∀ b o, b ∉ ch → s.heap.get? b = some o → ∃ o', h'.get? b = some o')
    (tups : ∀ b xs, H b = some (.tup xs) → H' b = some (.tup xs)) (frzs : ∀ b o u, H b = some (.frz o u) → H' b = some (.frz o u)) (tbls : ∀ b ps, H b = some (.tbl ps) → ∃ more, H' b = some (.tbl (ps ++ more)))
    (ns : ∀ m, s.heap.Ns X.env.locals m → h'.Ns X.env.locals m) (hok : HOk X.prog X.w H' h') (hg : AllBare g') :
    Inv X pins σ H' { s with heap := h', gens := g', drawn := d', toks := t' } := by
  have neL : ∀ b o, X.s₀.heap.get? b = some o → b ≠ X.env.locals := fun b o e => Nat.ne_of_lt (Nat.lt_of_lt_of_le (Heap.lt_size e) I.ok.above)
  have neC : ∀ b o, X.s₀.heap.get? b = some o → b ∉ X.ex → b ∉ ch := fun b o e hx hb => by
    rcases (hch b hb).1 with z | z
    · exact hx z
    · exact absurd (Nat.lt_of_lt_of_le (Heap.lt_size e) z) (Nat.lt_irrefl _)
  have cellK : ∀ x c, X.env.cells.lookup x = some c → ∀ v, s.heap.IsCell c v → h'.IsCell c v := fun x c e v ⟨o, ho, hd⟩ => by
    have nch : c ∉ ch := fun z => (hch c z).2.2.1 x c e rfl
    by_cases hc : c ∈ X.fs
    · obtain ⟨sl, q⟩ := slot c o (I.cne x c e) hc nch ho (I.freeC x c e)
      exact ⟨_, q, hd⟩
    · exact ⟨o, keep c o (I.cne x c e) hc nch ho (I.freeC x c e), hd⟩
  refine ⟨I.ok, I.os, hg, ⟨fun b o e n hb hx => ?_, fun b o e n hb hx => ?_, fun b o e n hx => ?_, fun b o e hx => ?_, fun b xs e => tups b xs (I.base.tups b xs e), fun b o xs e => frzs b o xs (I.base.frzs b o xs e), fun b ps e => ?_⟩, ?_, fun x c e => ?_, ?_, fun x c e => ?_, fun p hp => ?_, hok, I.len⟩
  · exact keep b o (neL b o e) hb (neC b o e hx) (I.base.keep b o e n hb hx) (I.base.free b o e n hx)
  · obtain ⟨sl, e1⟩ := I.base.slot b o e n hb hx
    obtain ⟨sl', e2⟩ := slot b _ (neL b o e) hb (neC b o e hx) e1 (I.base.free b o e n hx)
    exact ⟨sl', e2⟩
  · obtain ⟨o', e1⟩ := I.base.there b o e hx
    exact free b o' (neC b o e hx) e1 (I.base.free b o e n hx)
  · obtain ⟨o', e1⟩ := I.base.there b o e hx
    exact there b o' (neC b o e hx) e1
  · obtain ⟨m1, e1⟩ := I.base.tbls b ps e
    obtain ⟨m2, e2⟩ := tbls b _ e1
    exact ⟨m1 ++ m2, by rw [e2, Array.append_assoc]⟩
  · obtain ⟨m, hn, hl⟩ := I.loc
    refine ⟨m, ns m hn, fun i x v e1 e2 e3 => ?_⟩
    obtain ⟨u, r, l⟩ := hl i x v e1 e2 e3
    refine ⟨u, r, ?_⟩
    rcases l with l | ⟨k, c, e, z⟩
    · exact .inl l
    · exact .inr ⟨k, c, e, cellK x c e _ z⟩
  · obtain ⟨v, z⟩ := I.cell x c e
    exact ⟨v, cellK x c e v z⟩
  · obtain ⟨m, ⟨o, _, _, ho, _⟩, _⟩ := I.loc
    exact free _ o (fun z => (hch _ z).2.1 rfl) ho I.free
  · obtain ⟨v, o, ho, hd⟩ := I.cell x c e
    exact free c o (fun z => (hch c z).2.2.1 x c e rfl) ho (I.freeC x c e)
  · obtain ⟨e, n, ne, nf, d⟩ := I.pin p hp
    have nch : p.1 ∉ ch := fun z => (hch p.1 z).2.2.2 p hp rfl
    exact ⟨keep p.1 p.2 ne nf nch e n, free p.1 p.2 nch e n, ne, nf, d⟩
theorem Inv.un {t' : Nat} (I : Inv X pins σ H s) (u : Un X.fs [] H H' s.heap h') (hok : HOk X.prog X.w H' h') : Inv X pins σ H' { s with heap := h', toks := t' } := by
  obtain ⟨m, ⟨o, es, ep, ho, r⟩, _⟩ := id I.loc
  obtain ⟨sl, hL⟩ := u.any ho I.free (by simp)
  exact I.step (g' := s.gens) (d' := s.drawn) (ch := []) (fun _ z => nomatch z) (fun b o _ hb _ e n => u.keep b o e n hb (by simp)) (fun b o _ hb _ e n => u.slot b o e n hb (by simp)) (fun b o _ e n => u.free b o e n (by simp)) (fun b o _ e => u.there b o e (by simp)) u.tups u.frzs u.tbls (fun m' hm => by
    obtain ⟨o', es', ep', ho', r'⟩ := hm
    rw [ho] at ho'; cases ho'
    exact ⟨_, es', ep', hL, r'⟩) hok I.bare
theorem Inv.call {g' : Array GenState} {t' : Nat} {d' : Drawn} {ch : List Addr} (I : Inv X pins σ H s) (u : Un (frs X.stack) ch H H' s.heap h') (hok : HOk X.prog X.w H' h') (hg : AllBare g')
    (hch : ∀ b ∈ ch, (b ∈ X.ex ∨ X.s₀.heap.objs.size ≤ b) ∧ b ≠ X.env.locals ∧ (∀ x c, X.env.cells.lookup x = some c → c ≠ b) ∧ ∀ p ∈ X.pn ++ pins, p.1 ≠ b) :
    Inv X pins σ H' { s with heap := h', gens := g', drawn := d', toks := t' } := by
  obtain ⟨m, ⟨o, es, ep, ho, r⟩, _⟩ := id I.loc
  obtain ⟨sl, hL⟩ := u.any ho I.free fun z => (hch _ z).2.1 rfl
  exact I.step (ch := ch) hch (fun b o hL hb hc e n => u.keep b o e n (fun z => (List.mem_cons.mp (I.stkSub b z)).elim hL hb) hc) (fun b o _ _ hc e n => u.any e n hc) (fun b o hc e n => u.free b o e n hc) (fun b o hc e => u.there b o e hc) u.tups u.frzs u.tbls (fun m' hm => by
    obtain ⟨o', es', ep', ho', r'⟩ := hm
    rw [ho] at ho'; cases ho'
    exact ⟨_, es', ep', hL, r'⟩) hok hg
theorem Inv.turned {t' : Nat} {it : Addr} (I : Inv X pins σ H s) (k : ∀ b o, b ≠ it → s.heap.get? b = some o → h'.get? b = some o) (hn : H it = none) (hL : it ≠ X.env.locals)
    (h1 : it ∈ X.ex ∨ X.s₀.heap.objs.size ≤ it) (h2 : ∀ x c, X.env.cells.lookup x = some c → c ≠ it) (h3 : ∀ p ∈ X.pn ++ pins, p.1 ≠ it) : Inv X pins σ H { s with heap := h', toks := t' } := by
  have nit : ∀ b u, H b = some u → b ≠ it := fun b u e z => by rw [z, hn] at e; cases e
  refine I.step (g' := s.gens) (d' := s.drawn) (ch := [it]) (fun b hb => ?_) (fun b o _ _ hc e _ => k b o (fun z => hc (by simp [z])) e) (fun b o _ _ hc e _ => ⟨o.slots, k b o (fun z => hc (by simp [z])) e⟩) (fun _ _ _ _ n => n)
    (fun b o hc e => ⟨o, k b o (fun z => hc (by simp [z])) e⟩) (fun _ _ e => e) (fun _ _ _ e => e) (fun b ps e => ⟨#[], by rw [e]; simp⟩) (fun m hm => ?_) (fun b u e => ?_) I.bare
  · have e : b = it := by simpa using hb
    subst e
    exact ⟨h1, hL, h2, h3⟩
  · obtain ⟨o, es, ep, ho, r⟩ := hm
    exact ⟨o, es, ep, k _ o (Ne.symm hL) ho, r⟩
  · refine (I.hok b u e).stay (fun c v hc q => k c v ?_ q) (fun _ q => q) fun _ _ q => q
    rcases hc with z | z
    · rw [z]; exact nit b u e
    · exact nit c _ z
theorem Inv.tok (I : Inv X pins σ H s) (t : Nat) : Inv X pins σ H { s with toks := t } := I.un (h' := s.heap) (t' := t) Un.refl I.hok
theorem Inv.kept {t' : Nat} (I : Inv X pins σ H s) (k : ∀ b u, s.heap.get? b = some u → h'.get? b = some u) : Inv X pins σ H { s with heap := h', toks := t' } := I.un (Un.kept k) (I.hok.kept k)
theorem Inv.laid {a : Addr} {o : HO} {t' : Nat} (I : Inv X pins σ H s) (k : ∀ b u, s.heap.get? b = some u → h'.get? b = some u) (hp : s.heap.objs.size ≤ a) (new : ObjOk X.prog X.w (upd H a o) h' a o) :
    Inv X pins σ (upd H a o) { s with heap := h', toks := t' } := I.un (Un.laid k hp (I.hok.fresh hp)) (I.hok.laid k hp new)
theorem Inv.write {x e : Addr} {o : HO} {t' : Nat} (I : Inv X pins σ H s) (mu : Mut (H x)) (he : e = x ∨ H e = some (.own x)) (k : ∀ b u, b ≠ e → s.heap.get? b = some u → h'.get? b = some u) (heo : ∃ u, h'.get? e = some u)
    (new : ObjOk X.prog X.w (upd H x o) h' x o) : Inv X pins σ (upd H x o) { s with heap := h', toks := t' } := I.un (Un.write mu he k heo) (I.hok.write mu he k heo new)
theorem Inv.pins_of {pins' : List (Addr × Obj)} (I : Inv X pins σ H s) (h : ∀ p ∈ pins', s.heap.get? p.1 = some p.2 ∧ H p.1 = none ∧ p.1 ≠ X.env.locals ∧ p.1 ∉ X.fs ∧ ∀ v, p.2.data ≠ .cell v) : Inv X pins' σ H s :=
  ⟨I.ok, I.os, I.bare, I.base, I.loc, I.cell, I.free, I.freeC, fun p hp => (List.mem_append.mp hp).elim (fun z => I.pin p (List.mem_append_left _ z)) (h p), I.hok, I.len⟩
theorem nodup_ix {N : List Str} (hN : N.Nodup) {i j : Nat} {x : Str} (a : N[i]? = some x) (b : N[j]? = some x) : i = j := by
  obtain ⟨h1, e1⟩ := List.getElem?_eq_some_iff.mp a
  obtain ⟨h2, e2⟩ := List.getElem?_eq_some_iff.mp b
  exact (List.getElem_inj hN).mp (e1.trans e2.symm)
theorem store_ok2 {M : Model} {A : Around} {E : Value → Shared → Prop} {i : Nat} {x : Str} {v : V} {u : Value} {Q : Unit → Shared → Prop} (I : Inv X pins σ H s) (hN : X.N.Nodup) (hi : X.N[i]? = some x) (hx : Loc X.env.scope x) (r : RelV v u)
    (h : ∀ s', Inv X pins (σ.set i (some v)) H s' → (∃ a, Heap.SameBut a s.heap s'.heap ∧ (a = X.env.locals ∨ X.env.cells.lookup x = some a)) → Q () s') (hf : X.fn x = true ∨ X.env.scope.names.lookup x = some .local := by first | exact .inl rfl | exact .inr rfl | assumption) : wpAny M A (storeName X.env x u) Q E s := by
  obtain ⟨m, hn, hl⟩ := id I.loc
  have hcls : (X.env.scope.kind == .class || (X.env.scope.kind == .module && X.env.locals != X.env.globals)) = false := by rw [I.ok.kind]; rfl
  have hiσ : i < σ.length := by rw [I.len]; exact (List.getElem?_eq_some_iff.mp hi).1
  have cne := I.cne
  have tracked : ∀ {a : Addr} {h' : Heap}, (∃ o, s.heap.get? a = some o ∧ H a = none) → Heap.SameBut a s.heap h' → HOk X.prog X.w H h' := fun {a h'} ha hs b ob e => by
    obtain ⟨_, _, hfree⟩ := ha
    refine (I.hok b ob e).stay (fun c w' hc q => (hs.2 c ?_).trans q) (fun _ q => q) fun _ _ q => q
    rintro rfl
    rcases hc with rfl | hc
    · rw [hfree] at e; cases e
    · rw [hfree] at hc; cases hc
  rcases hx with hk | hk
  · refine wpAny_storeName_local hk hn (fun h' hn' hs => ?_) hcls
    obtain ⟨oL, _, _, hoL, _⟩ := id hn
    refine h _ ⟨I.ok, I.os, I.bare, ⟨fun b o e n hb hx => ?_, fun b o e n hb hx => ?_, I.base.free, fun b o e hx => ?_, I.base.tups, I.base.frzs, I.base.tbls⟩, ⟨_, hn', fun j y v' e1 e2 e3 => ?_⟩, fun y c e => ?_, I.free, I.freeC, fun p hp => ?_, tracked ⟨oL, hoL, I.free⟩ hs, by simpa using I.len⟩ ⟨_, hs, .inl rfl⟩
    · exact (hs.2 b (Nat.ne_of_lt (Nat.lt_of_lt_of_le (Heap.lt_size e) I.ok.above))).trans (I.base.keep b o e n hb hx)
    · obtain ⟨sl, e1⟩ := I.base.slot b o e n hb hx
      exact ⟨sl, (hs.2 b (Nat.ne_of_lt (Nat.lt_of_lt_of_le (Heap.lt_size e) I.ok.above))).trans e1⟩
    · obtain ⟨o', e1⟩ := I.base.there b o e hx
      exact ⟨o', (hs.2 b (Nat.ne_of_lt (Nat.lt_of_lt_of_le (Heap.lt_size e) I.ok.above))).trans e1⟩
    · by_cases hj : j = i
      · subst hj
        rw [hi] at e1; cases e1
        rw [List.getElem?_set_self hiσ] at e2
        cases e2
        exact ⟨u, r, .inl ⟨hk, by simp⟩⟩
      · rw [List.getElem?_set_ne (Ne.symm hj)] at e2
        obtain ⟨u', r', q⟩ := hl j y v' e1 e2 e3
        refine ⟨u', r', ?_⟩
        rcases q with ⟨k, e⟩ | ⟨k, c, e, z⟩
        · refine .inl ⟨k, ?_⟩
          have : y ≠ x := fun e => hj (nodup_ix hN e1 (e ▸ hi))
          simp [this, e]
        · exact .inr ⟨k, c, e, z.sameBut hs (cne y c e)⟩
    · obtain ⟨w', z⟩ := I.cell y c e
      exact ⟨w', z.sameBut hs (cne y c e)⟩
    · obtain ⟨e, n, ne, nf, d⟩ := I.pin p hp
      exact ⟨(hs.2 p.1 ne).trans e, n, ne, nf, d⟩
  · have hfn : X.fn x = true := by
      rcases hf with z | z
      · exact z
      · rw [z] at hk; cases hk
    obtain ⟨c, hc⟩ := I.ok.has x (.inl hk)
    obtain ⟨w', z⟩ := I.cell x c hc
    refine wpAny_storeName_cell I.ok.kind hk hc z (fun h' hc' hs => ?_)
    obtain ⟨oc, hoc, hocd⟩ := id z
    refine h { s with heap := h' } ⟨I.ok, I.os, I.bare, ⟨fun b o e n hb hx => ?_, fun b o e n hb hx => ?_, I.base.free, fun b o e hx => ?_, I.base.tups, I.base.frzs, I.base.tbls⟩, ⟨m, hn.sameBut hs (Ne.symm (cne x c hc)), fun j y v' e1 e2 e3 => ?_⟩, fun y c' e => ?_, I.free, I.freeC, fun p hp => ?_, tracked ⟨oc, hoc, I.freeC x c hc⟩ hs, by simpa using I.len⟩ ⟨c, hs, .inr hc⟩
    · exact (hs.2 b (Nat.ne_of_lt (Nat.lt_of_lt_of_le (Heap.lt_size e) (I.ok.cab x c hfn hc)))).trans (I.base.keep b o e n hb hx)
    · obtain ⟨sl, e1⟩ := I.base.slot b o e n hb hx
      exact ⟨sl, (hs.2 b (Nat.ne_of_lt (Nat.lt_of_lt_of_le (Heap.lt_size e) (I.ok.cab x c hfn hc)))).trans e1⟩
    · obtain ⟨o', e1⟩ := I.base.there b o e hx
      exact ⟨o', (hs.2 b (Nat.ne_of_lt (Nat.lt_of_lt_of_le (Heap.lt_size e) (I.ok.cab x c hfn hc)))).trans e1⟩
    · by_cases hj : j = i
      · subst hj
        rw [hi] at e1; cases e1
        rw [List.getElem?_set_self hiσ] at e2
        cases e2
        exact ⟨u, r, .inr ⟨.inl hk, c, hc, hc'⟩⟩
      · rw [List.getElem?_set_ne (Ne.symm hj)] at e2
        obtain ⟨u', r', q⟩ := hl j y v' e1 e2 e3
        refine ⟨u', r', ?_⟩
        rcases q with q | ⟨k, c', e, z'⟩
        · exact .inl q
        · refine .inr ⟨k, c', e, z'.sameBut hs ?_⟩
          rintro rfl
          exact hj (nodup_ix hN e1 (I.ok.inj _ _ _ e hc ▸ hi))
    · by_cases hcc : c' = c
      · subst hcc; exact ⟨_, hc'⟩
      · obtain ⟨w2, z2⟩ := I.cell y c' e
        exact ⟨w2, z2.sameBut hs hcc⟩
    · obtain ⟨e, n, ne, nf, d⟩ := I.pin p hp
      refine ⟨(hs.2 p.1 ?_).trans e, n, ne, nf, d⟩
      intro q
      rw [q, hoc] at e
      have q' : oc = p.2 := Option.some.inj e
      exact d w' (by rw [← q']; exact hocd)
theorem store_ok {M : Model} {A : Around} {E : Value → Shared → Prop} {i : Nat} {x : Str} {v : V} {u : Value} {Q : Unit → Shared → Prop} (I : Inv X pins σ H s) (hN : X.N.Nodup) (hi : X.N[i]? = some x) (hx : Loc X.env.scope x) (r : RelV v u)
    (h : ∀ s', Inv X pins (σ.set i (some v)) H s' → Q () s') (hf : X.fn x = true ∨ X.env.scope.names.lookup x = some .local := by first | exact .inl rfl | exact .inr rfl | assumption) : wpAny M A (storeName X.env x u) Q E s :=
  store_ok2 I hN hi hx r (fun s' I' _ => h s' I') hf
theorem Inv.call' {s' : Shared} {ch : List Addr} (I : Inv X pins σ H s) (ho : s'.os = s.os) (u : Un (frs X.stack) ch H H' s.heap s'.heap) (hok : HOk X.prog X.w H' s'.heap) (hg : AllBare s'.gens)
    (hch : ∀ b ∈ ch, (b ∈ X.ex ∨ X.s₀.heap.objs.size ≤ b) ∧ b ≠ X.env.locals ∧ (∀ x c, X.env.cells.lookup x = some c → c ≠ b) ∧ ∀ p ∈ X.pn ++ pins, p.1 ≠ b) : Inv X pins σ H' s' := by
  obtain ⟨h', g', d', t', o'⟩ := s'
  have e : o' = s.os := ho
  subst e
  exact I.call (g' := g') (t' := t') (d' := d') u hok hg hch
end
noncomputable abbrev XK := Value → Option Addr → Hp → Prop
noncomputable abbrev St := List (Option V)
noncomputable abbrev VK := V → Hp → Prop
noncomputable abbrev TE := St → Hp → VK → Prop
noncomputable abbrev TT := St → Hp → (Bool → Hp → Prop) → Prop
noncomputable abbrev TA := St → Hp → (List V → Hp → Prop) → Prop
structure Ends where
  nx : St → Hp → Prop
  rt : VK
  bk : St → Hp → Prop := fun _ _ => False
  ct : St → Hp → Prop := fun _ _ => False
noncomputable abbrev TS := Ends → St → Hp → Prop
noncomputable def EP (X : Cx) (pins : List (Addr × Obj)) (σ : St) (Q : VK) (u : Value) (s' : Shared) : Prop := ∃ v H', Inv X pins σ H' s' ∧ RelV v u ∧ Q v H'
noncomputable def TP (X : Cx) (pins : List (Addr × Obj)) (σ : St) (Q : Bool → Hp → Prop) (b : Bool) (s' : Shared) : Prop := ∃ H', Inv X pins σ H' s' ∧ Q b H'
noncomputable def AP (X : Cx) (pins : List (Addr × Obj)) (σ : St) (Q : List V → Hp → Prop) (us : List Value) (s' : Shared) : Prop := ∃ vs H', Inv X pins σ H' s' ∧ Vals vs us ∧ Q vs H'
noncomputable def SP (X : Cx) (pins : List (Addr × Obj)) (D : Ends) (f : Flow) (s' : Shared) : Prop :=
  match f with
  | .next => ∃ σ' H', Inv X pins σ' H' s' ∧ D.nx σ' H'
  | .brk => ∃ σ' H', Inv X pins σ' H' s' ∧ D.bk σ' H'
  | .cont => ∃ σ' H', Inv X pins σ' H' s' ∧ D.ct σ' H'
  | .ret u => ∃ v σ' H', Inv X pins σ' H' s' ∧ RelV v u ∧ D.rt v H'
noncomputable def PE (X : Cx) (e : Expr) (t : TE) : Prop :=
  ∀ (pins : List (Addr × Obj)) (s : Shared) (σ : St) (H : Hp) (Q : VK), Inv X pins σ H s → t σ H Q → wpAny (model X.prog X.w) X.A (eval e X.env) (EP X pins σ Q) X.xe s
noncomputable def PT (X : Cx) (e : Expr) (t : TT) : Prop :=
  ∀ (pins : List (Addr × Obj)) (s : Shared) (σ : St) (H : Hp) (Q : Bool → Hp → Prop), Inv X pins σ H s → t σ H Q → wpAny (model X.prog X.w) X.A (isTrue e X.env (eval e X.env)) (TP X pins σ Q) X.xe s
noncomputable def PW (X : Cx) (e : Expr) (t : TT) : Prop :=
  ∀ (whole : Sem Value) (pins : List (Addr × Obj)) (s : Shared) (σ : St) (H : Hp) (Q : Bool → Hp → Prop), Inv X pins σ H s → t σ H Q → wpAny (model X.prog X.w) X.A (isTrue e X.env whole) (TP X pins σ Q) X.xe s
theorem PW.pt {X : Cx} {e : Expr} {t : TT} (h : PW X e t) : PT X e t := h _
noncomputable def PA (X : Cx) (es : List Expr) (t : TA) : Prop :=
  ∀ (pos : Pos) (pins : List (Addr × Obj)) (s : Shared) (σ : St) (H : Hp) (Q : List V → Hp → Prop), Inv X pins σ H s → t σ H Q → wpAny (model X.prog X.w) X.A (spliced (backTo pos (starEach es X.env))) (AP X pins σ Q) X.xe s
noncomputable def PS (X : Cx) (st : Stmt) (t : TS) : Prop :=
  ∀ (pins : List (Addr × Obj)) (s : Shared) (σ : St) (H : Hp) (D : Ends), Inv X pins σ H s → t D σ H → wpAny (model X.prog X.w) X.A (exec st X.env) (SP X pins D) X.xe s
noncomputable def PSs (X : Cx) (st : List Stmt) (t : TS) : Prop :=
  ∀ (pins : List (Addr × Obj)) (s : Shared) (σ : St) (H : Hp) (D : Ends), Inv X pins σ H s → t D σ H → wpAny (model X.prog X.w) X.A (execs st X.env) (SP X pins D) X.xe s
theorem thn {α : Type} {t : Sem α} {Q Q' : α → Shared → Prop} {M : Model} {A : Around} {E : Value → Shared → Prop} {s : Shared} (h : wpAny M A t Q E s) (hQ : ∀ a s, Q a s → Q' a s) : wpAny M A t Q' E s := wpAny_mono h hQ fun _ _ x => x
end L2
namespace L2
open PySem PySem.Spec PyProof.Rows
section
variable {X : Cx}
noncomputable def tVar (i : Nat) : TE := fun σ H Q => ∃ v, σ[i]? = some (some v) ∧ Q v H
noncomputable def tC (v : V) : TE := fun _ H Q => Q v H
theorem pe_var {i : Nat} {x : Str} {pos : Pos} (hN : X.N[i]? = some x) (hv : Vis X.env.scope x) (hd : (x == ("__debug__" : Str)) = false := by decide) (hcd : (x == ("__classdict__" : Str)) = false := by decide) : PE X (.Name x pos) (tVar i) := by
  intro pins s σ H Q I h
  obtain ⟨v, e, h⟩ := h
  obtain ⟨m, hn, hl⟩ := I.loc
  obtain ⟨u, r, l⟩ := hl i x v hN e hv
  have fin : EP X pins σ Q u s := ⟨v, H, I, r, h⟩
  rcases l with ⟨hk, hm⟩ | ⟨hk, c, hc, hcell⟩
  · exact wpAny_Name (wpAny_loadName_local I.ok.kind hk hn hm fin) hd
  · rcases hk with hk | hk
    · exact wpAny_Name (wpAny_loadName_cell I.ok.kind hk hc hcell fin) hd
    · exact wpAny_Name (wpAny_loadName_free I.ok.kind hk hc hcell fin hcd) hd
theorem pe_int {i j pos} : PE X (.Constant (.int i) j pos) (tC (.int i)) := fun _ _ _ H _ I h => wpAny_Constant_int ⟨.int i, H, I.tok _, ⟨_, rfl⟩, h⟩
theorem pe_bl {b j pos} : PE X (.Constant (.bool b) j pos) (tC (.bl b)) := fun _ _ _ H _ I h => Constant_bool ⟨.bl b, H, I, rfl, h⟩
noncomputable def Gl (X : Cx) (x : Str) : Prop := X.env.kindOf x = some .globalImplicit
theorem ld_glob {E : Value → Shared → Prop} {pins : List (Addr × Obj)} {s : Shared} {σ : St} {H : Hp} {x : Str} {u : Value} {pos : Pos} {Q : Value → Shared → Prop} (I : Inv X pins σ H s) (hg : Gl X x) (hm : X.mg x = some u) (h : Q u s)
    (hd : (x == ("__debug__" : Str)) = false := by decide) : wpAny (model X.prog X.w) X.A (eval (.Name x pos) X.env) Q E s :=
  Calls.Name_function_global I.ok.kind hg (Calls.loadGlobal_global (by rw [I.ok.glob]; exact I.mod.glob.keeps I.bk) hm h) hd
theorem ld_blt {E : Value → Shared → Prop} {pins : List (Addr × Obj)} {s : Shared} {σ : St} {H : Hp} {x : Str} {u : Value} {pos : Pos} {Q : Value → Shared → Prop} (I : Inv X pins σ H s) (hg : Gl X x) (hm : X.mg x = none) (hv : bootBuiltins x = some u) (h : Q u s)
    (hn : x ≠ "__name__" := by decide) (hd : (x == ("__debug__" : Str)) = false := by decide) : wpAny (model X.prog X.w) X.A (eval (.Name x pos) X.env) Q E s := by
  obtain ⟨mb, h1, h2⟩ := I.mod.blt
  exact Calls.Name_function_global I.ok.kind hg (Calls.loadGlobal_builtin (by rw [I.ok.glob]; exact I.mod.glob.keeps I.bk) hm (by rw [I.ok.blt]; exact h1.keeps I.bk) ((h2 x hn).trans hv) h) hd
theorem pe_bltn {x : Str} {v : V} {u : Value} {pos : Pos} (hg : Gl X x) (hm : X.mg x = none) (hv : bootBuiltins x = some u) (r : RelV v u) (hn : x ≠ "__name__" := by decide) (hd : (x == ("__debug__" : Str)) = false := by decide) : PE X (.Name x pos) (tC v) :=
  fun _ _ _ H _ I h => ld_blt I hg hm hv ⟨v, H, I, r, h⟩ hn hd
variable {a b : Expr} {ta tb : TE} {pos : Pos}
noncomputable def tB (t : TE) : TT := fun σ H Q => t σ H fun x H1 => ∃ c, x = .bl c ∧ Q c H1
theorem pt_val {e : Expr} {t : TE} (h : PE X e t) (he : ∀ whole, isTrue e X.env whole = (do let v ← whole; standAt e.pos; holding [v] (truthy v)) := by intro _; rfl) : PT X e (tB t) := by
  intro pins s σ H Q I hw
  refine isTrue_plain (thn (h pins s σ H _ I hw) fun v s1 ⟨x, H1, I1, r1, q1⟩ => ?_) (he _)
  obtain ⟨d, rfl, q⟩ := q1
  cases r1
  exact wpAny_truthy_bool ⟨H1, I1, q⟩
variable {tA tB' : TT} {rest : List Expr}
noncomputable def tAnd (t u : TT) : TT := fun σ H Q => t σ H fun c H1 => if c = true then u σ H1 Q else Q false H1
noncomputable def tOr (t u : TT) : TT := fun σ H Q => t σ H fun c H1 => if c = true then Q true H1 else u σ H1 Q
noncomputable def tNot (t : TT) : TT := fun σ H Q => t σ H fun c H1 => Q (!c) H1
theorem pw_and1 (ha : PT X a tA) : PW X (.BoolOp .And [a] pos) tA := by
  intro wh pins s σ H Q I h
  refine isTrue_and (thn (ha pins s σ H Q I h) fun c s1 e => ?_)
  cases c with
  | true => exact isTrue_and_nil e
  | false => exact e
theorem pw_or1 (ha : PT X a tA) : PW X (.BoolOp .Or [a] pos) tA := by
  intro wh pins s σ H Q I h
  refine isTrue_or (thn (ha pins s σ H Q I h) fun c s1 e => ?_)
  cases c with
  | false => exact isTrue_or_nil e
  | true => exact e
theorem pw_and (ha : PT X a tA) (hb : PW X (.BoolOp .And (b :: rest) pos) tB') : PW X (.BoolOp .And (a :: b :: rest) pos) (tAnd tA tB') := by
  intro wh pins s σ H Q I h
  refine isTrue_and (thn (ha pins s σ H _ I h) fun c s1 ⟨H1, I1, q1⟩ => ?_)
  cases c with
  | true => exact hb wh pins s1 σ H1 Q I1 q1
  | false => exact ⟨H1, I1, q1⟩
theorem pw_or (ha : PT X a tA) (hb : PW X (.BoolOp .Or (b :: rest) pos) tB') : PW X (.BoolOp .Or (a :: b :: rest) pos) (tOr tA tB') := by
  intro wh pins s σ H Q I h
  refine isTrue_or (thn (ha pins s σ H _ I h) fun c s1 ⟨H1, I1, q1⟩ => ?_)
  cases c with
  | true => exact ⟨H1, I1, q1⟩
  | false => exact hb wh pins s1 σ H1 Q I1 q1
theorem pt_not (ha : PT X a tA) : PT X (.UnaryOp .Not a pos) (tNot tA) := by
  intro pins s σ H Q I h
  exact isTrue_not (ha pins s σ H (fun c H1 => Q (!c) H1) I h)
theorem pe_one {op} {t : TE} (h : PE X a t) : PE X (.BoolOp op [a] pos) t := fun pins s σ H Q I hw => BoolOp_one (h pins s σ H Q I hw)
noncomputable def tIf (t : TT) (ta tb : TE) : TE := fun σ H Q => t σ H fun c H1 => if c = true then ta σ H1 Q else tb σ H1 Q
theorem pe_ifExp {c : Expr} (hc : PT X c tA) (ha : PE X a ta) (hb : PE X b tb) : PE X (.IfExp c a b pos) (tIf tA ta tb) := by
  intro pins s σ H Q I h
  refine wpAny_IfExp (thn (hc pins s σ H _ I h) fun d s1 ⟨H1, I1, q1⟩ => ?_)
  cases d with
  | true => exact ha pins s1 σ H1 Q I1 q1
  | false => exact hb pins s1 σ H1 Q I1 q1
end
end L2
namespace L2
open PySem PySem.Spec PyProof.Rows
noncomputable def SqL (K : PySem.W.Frag) (H : Hp) (a : Addr) (xs : List V) : Prop :=
  Rd H a (.lst xs) ∨
    ∃ (o : Obj) (its : Array Value) (n : Nat), K.lookup a = some o ∧ o.cls = .type "list" ∧ o.dict = none ∧ o.data = .seq its n ∧ its.size ≤ sizeLine ∧ Vals xs its.toList
noncomputable def SqT (K : PySem.W.Frag) (H : Hp) (a : Addr) (xs : List V) : Prop :=
  Rd H a (.tup xs) ∨
    ∃ (o : Obj) (its : Array Value) (n : Nat), K.lookup a = some o ∧ o.cls = .type "tuple" ∧ o.data = .seq its n ∧ its.size ≤ sizeLine ∧ Vals xs its.toList
noncomputable def absV : Value → Option V
  | .none => some .non
  | .bool b => some (.bl b)
  | .int i _ => some (.int i)
  | .str x _ => some (.str x)
  | .bytes b _ => some (.byt b)
  | .float b _ => some (.flt b)
  | .ref a => some (.ref a)
  | .type n => some (.ty n)
  | _ => none
theorem RelV.abs {x : V} {u : Value} (r : RelV x u) : absV u = some x := by
  cases x with
  | non => cases r; rfl
  | bl _ => cases r; rfl
  | int _ => obtain ⟨t, rfl⟩ := r; rfl
  | str _ => obtain ⟨t, rfl⟩ := r; rfl
  | byt _ => obtain ⟨t, rfl⟩ := r; rfl
  | flt _ => obtain ⟨t, rfl⟩ := r; rfl
  | ref _ => cases r; rfl
  | ty _ => cases r; rfl
theorem RelV.inj {x y : V} {u : Value} (r : RelV x u) (q : RelV y u) : x = y := Option.some.inj (r.abs.symm.trans q.abs)
theorem Vals.inj : ∀ {xs ys : List V} {us : List Value}, Vals xs us → Vals ys us → xs = ys
  | _, _, _, .nil, .nil => rfl
  | _, _, _, .cons r t, .cons r' t' => by rw [r.inj r', Vals.inj t t']
section
variable {X : Cx} {pins : List (Addr × Obj)} {σ : St} {H : Hp} {s : Shared} {a : Addr} {xs ys : List V}
theorem SqL.of {K : PySem.W.Frag} (h : H a = some (.lst xs)) : SqL K H a xs := .inl (.inl h)
theorem SqT.of {K : PySem.W.Frag} (h : H a = some (.tup xs)) : SqT K H a xs := .inl (.inl h)
theorem Inv.list (I : Inv X pins σ H s) (h : SqL X.K H a xs) : ∃ its : List Value, Vals xs its ∧ PlainL s.heap a its.toArray ∧ xs.length ≤ sizeLine := by
  rcases h with h | ⟨o, its, n, hk, hc, hd, hs, hz, r⟩
  · obtain ⟨z, its, n, r, e⟩ := h.ok I.hok
    exact ⟨its, r, ⟨_, n, e, rfl, rfl, rfl⟩, z⟩
  · refine ⟨its.toList, r, ⟨o, n, I.kIn a o hk, hc, hd, by simpa using hs⟩, ?_⟩
    have e := r.length
    simp only [Array.length_toList] at e
    omega
theorem Inv.tuple (I : Inv X pins σ H s) (h : SqT X.K H a xs) : ∃ its : List Value, Vals xs its ∧ IsTup s.heap a its.toArray ∧ xs.length ≤ sizeLine := by
  rcases h with h | ⟨o, its, n, hk, hc, hs, hz, r⟩
  · obtain ⟨z, its, r, p⟩ := h.ok I.hok
    exact ⟨its, r, p, z⟩
  · refine ⟨its.toList, r, ⟨o, I.kIn a o hk, hc, n, by simpa using hs⟩, ?_⟩
    have e := r.length
    simp only [Array.length_toList] at e
    omega
theorem Inv.list_inj (I : Inv X pins σ H s) (h : SqL X.K H a xs) (h' : SqL X.K H a ys) : xs = ys := by
  obtain ⟨its, r, ⟨o, n, e, _, _, d⟩, _⟩ := I.list h
  obtain ⟨its', r', ⟨o', n', e', _, _, d'⟩, _⟩ := I.list h'
  rw [e] at e'; cases e'
  rw [d] at d'
  injection d' with d1 _
  have : its = its' := by simpa using congrArg Array.toList d1
  subst this
  exact r.inj r'
theorem Inv.tuple_inj (I : Inv X pins σ H s) (h : SqT X.K H a xs) (h' : SqT X.K H a ys) : xs = ys := by
  obtain ⟨its, r, ⟨o, e, _, n, d⟩, _⟩ := I.tuple h
  obtain ⟨its', r', ⟨o', e', _, n', d'⟩, _⟩ := I.tuple h'
  rw [e] at e'; cases e'
  rw [d] at d'
  injection d' with d1 _
  have : its = its' := by simpa using congrArg Array.toList d1
  subst this
  exact r.inj r'
end
noncomputable abbrev Cx.wish (X : Cx) (E : Value → Shared → Prop) : Cx := { X with xe := E }
noncomputable abbrev Cx.nox (X : Cx) : Cx := X.wish fun _ _ => False
theorem Cx.Ok.wish {X : Cx} (ok : X.Ok) (E : Value → Shared → Prop) : (X.wish E).Ok :=
  ⟨ok.mod, ok.kind, ok.glob, ok.blt, ok.above, ok.inj, ok.has, ok.cab, ok.hd, ok.frames, ok.stk, ok.exf, ok.bs, ok.bsz, ok.noex, ok.exfs, ok.funs, ok.frf⟩
theorem Cx.Ok.unwish {X : Cx} {E : Value → Shared → Prop} (ok : (X.wish E).Ok) : X.Ok :=
  ⟨ok.mod, ok.kind, ok.glob, ok.blt, ok.above, ok.inj, ok.has, ok.cab, ok.hd, ok.frames, ok.stk, ok.exf, ok.bs, ok.bsz, ok.noex, ok.exfs, ok.funs, ok.frf⟩
section
variable {X : Cx} {pins : List (Addr × Obj)} {σ : St} {H : Hp} {s : Shared} {E : Value → Shared → Prop}
theorem Inv.wish (I : Inv X pins σ H s) (E : Value → Shared → Prop) : Inv (X.wish E) pins σ H s := ⟨I.ok.wish E, I.os, I.bare, I.base, I.loc, I.cell, I.free, I.freeC, I.pin, I.hok, I.len⟩
theorem Inv.unwish (I : Inv (X.wish E) pins σ H s) : Inv X pins σ H s := ⟨I.ok.unwish, I.os, I.bare, I.base, I.loc, I.cell, I.free, I.freeC, I.pin, I.hok, I.len⟩
theorem SP.unwish {D : Ends} {f : Flow} {s' : Shared} (h : SP (X.wish E) pins D f s') : SP X pins D f s' := by
  cases f with
  | next => obtain ⟨σ', H', I, q⟩ := h; exact ⟨σ', H', I.unwish, q⟩
  | brk => obtain ⟨σ', H', I, q⟩ := h; exact ⟨σ', H', I.unwish, q⟩
  | cont => obtain ⟨σ', H', I, q⟩ := h; exact ⟨σ', H', I.unwish, q⟩
  | ret u => obtain ⟨v, σ', H', I, r, q⟩ := h; exact ⟨v, σ', H', I.unwish, r, q⟩
theorem PSs.nox {st : List Stmt} {t : TS} (h : PSs X.nox st t) : PSs X st t := fun pins s σ H D I hw =>
  wpAny_mono (h pins s σ H D (I.wish _) hw) (fun _ _ q => q.unwish) fun _ _ z => False.elim z
end
section
variable {X : Cx} {st : Stmt} {rest : List Stmt} {t u : TS} {e : Expr} {te : TE} {pos : Pos}
noncomputable def tNext : TS := fun D σ H => D.nx σ H
noncomputable def tSeq (t u : TS) : TS := fun D σ H => t { D with nx := u D } σ H
theorem pss_nil : PSs X [] tNext := fun _ _ σ H _ I h => wpAny_execs_nil ⟨σ, H, I, h⟩
theorem pss_cons (h1 : PS X st t) (h2 : PSs X rest u) : PSs X (st :: rest) (tSeq t u) := by
  intro pins s σ H D I h
  refine wpAny_execs_cons (thn (h1 pins s σ H { D with nx := u D } I h) fun f s1 q => ?_)
  cases f with
  | next =>
    obtain ⟨σ', H', I', q⟩ := q
    exact h2 pins s1 σ' H' D I' q
  | ret v => exact q
  | brk => exact q
  | cont => exact q
theorem pss_one (h1 : PS X st t) : PSs X [st] t := by
  intro pins s σ H D I h
  refine wpAny_execs_cons (thn (h1 pins s σ H D I h) fun f s1 q => ?_)
  cases f with
  | next => exact wpAny_execs_nil q
  | ret v => exact q
  | brk => exact q
  | cont => exact q
theorem Inv.quiet {pins : List (Addr × Obj)} {σ : St} {H : Hp} {s : Shared} (I : Inv X pins σ H s) : interactive X.env = false := by simp [interactive, I.ok.kind]
noncomputable def tDrop (te : TE) : TS := fun D σ H => te σ H fun _ H1 => D.nx σ H1
theorem ps_expr (he : PE X e te) (hs : swapsWith e none pos.line X.env = pure false := by rfl) : PS X (.Expr e pos) (tDrop te) := by
  intro pins s σ H D I h
  exact wpAny_Expr_any (thn (he pins s σ H _ I h) fun v s1 ⟨x, H1, I1, r1, q1⟩ => ⟨σ, H1, I1, q1⟩) I.quiet hs
noncomputable def tRet (te : TE) : TS := fun D σ H => te σ H D.rt
theorem ps_ret (he : PE X e te) : PS X (.Return (some e) pos) (tRet te) := by
  intro pins s σ H D I h
  exact wpAny_Return_some (thn (he pins s σ H _ I h) fun v s1 ⟨x, H1, I1, r1, q1⟩ => ⟨x, σ, H1, I1, r1, q1⟩)
noncomputable def tIfS (c : TT) (t u : TS) : TS := fun D σ H => c σ H fun b H1 => if b = true then t D σ H1 else u D σ H1
theorem ps_if {c : Expr} {a b : List Stmt} {tc : TT} (hc : PT X c tc) (ha : PSs X a t) (hb : PSs X b u) : PS X (.If c a b pos) (tIfS tc t u) := by
  intro pins s σ H D I h
  refine wpAny_If (thn (hc pins s σ H _ I h) fun d s1 ⟨H1, I1, q1⟩ => ?_)
  cases d with
  | true => exact ha pins s1 σ H1 D I1 q1
  | false => exact hb pins s1 σ H1 D I1 q1
end
noncomputable abbrev TG := V → St → Hp → (St → Hp → Prop) → Prop
noncomputable abbrev TGs := List V → St → Hp → (St → Hp → Prop) → Prop
noncomputable def PG (X : Cx) (target : Expr) (t : TG) : Prop :=
  ∀ (pins : List (Addr × Obj)) (s : Shared) (σ : St) (H : Hp) (v : V) (u : Value) (Q : St → Hp → Prop), Inv X pins σ H s → RelV v u → t v σ H Q →
    wpAny (model X.prog X.w) X.A (assign target X.env u) (fun _ s' => ∃ σ' H', Inv X pins σ' H' s' ∧ Q σ' H') X.xe s
noncomputable def PGs (X : Cx) (ts : List Expr) (t : TGs) : Prop :=
  ∀ (pins : List (Addr × Obj)) (s : Shared) (σ : St) (H : Hp) (vs : List V) (us : List Value) (Q : St → Hp → Prop), Inv X pins σ H s → Vals vs us → t vs σ H Q →
    wpAny (model X.prog X.w) X.A (assignInOrder ((assignEach ts X.env).map (·.2)) us) (fun _ s' => ∃ σ' H', Inv X pins σ' H' s' ∧ Q σ' H') X.xe s
noncomputable abbrev TSet := V → V → V → Hp → (Hp → Prop) → Prop
noncomputable def PSet (X : Cx) (t : TSet) : Prop :=
  ∀ (pins : List (Addr × Obj)) (s : Shared) (σ : St) (H : Hp) (o i v : V) (ov iv u : Value) (Q : Hp → Prop), Inv X pins σ H s → RelV o ov → RelV i iv → RelV v u → t o i v H Q →
    wpAny (model X.prog X.w) X.A (setItem ov iv u) (fun _ s' => ∃ H', Inv X pins σ H' s' ∧ Q H') X.xe s
section
variable {X : Cx} {pos : Pos}
noncomputable def gName (i : Nat) : TG := fun v σ H Q => Q (σ.set i (some v)) H
theorem pg_name {i : Nat} {x : Str} (hN : X.N.Nodup) (hi : X.N[i]? = some x) (hx : Loc X.env.scope x) (hf : X.fn x = true ∨ X.env.scope.names.lookup x = some .local := by first | exact .inl rfl | exact .inr rfl | assumption) : PG X (.Name x pos) (gName i) := by
  intro pins s σ H v u Q I r h
  exact wpAny_assign_Name (store_ok I hN hi hx r (fun s' I' => ⟨_, H, I', h⟩) hf)
noncomputable def gNil : TGs := fun vs σ H Q => vs = [] ∧ Q σ H
noncomputable def gCons (t : TG) (u : TGs) : TGs := fun vs σ H Q => ∃ v r, vs = v :: r ∧ t v σ H fun σ' H' => u r σ' H' Q
theorem pgs_nil : PGs X [] gNil := by
  intro pins s σ H vs us Q I r h
  obtain ⟨e, h⟩ := h
  subst e
  cases r
  exact assignInOrder_nil ⟨σ, H, I, h⟩
theorem pgs_cons {e : Expr} {es : List Expr} {t : TG} {u : TGs} (h1 : PG X e t) (h2 : PGs X es u)
    (hs : (assignEach (e :: es) X.env).map (·.2) = assign e X.env :: (assignEach es X.env).map (·.2) := by rfl) : PGs X (e :: es) (gCons t u) := by
  intro pins s σ H vs us Q I r h
  obtain ⟨v, vr, e1, h⟩ := h
  subst e1
  cases r with
  | cons r rr =>
    rw [hs]
    refine assignInOrder_cons (thn (h1 pins s σ H _ _ _ I r h) fun _ s1 ⟨σ1, H1, I1, q1⟩ => ?_)
    exact h2 pins s1 σ1 H1 _ _ Q I1 rr q1
noncomputable def gTup (K : PySem.W.Frag) (n : Nat) (t : TGs) : TG := fun v σ H Q => ∃ a xs, v = .ref a ∧ SqT K H a xs ∧ xs.length = n ∧ t xs σ H Q
theorem pg_tup {es : List Expr} {k : Nat} {t : TGs} {n : Nat} (hc : X.calm = true) (h : PGs X es t)
    (hn : (assignEach es X.env).length = n := by rfl) (hst : (assignEach es X.env).findIdx? (·.1) = none := by rfl) : PG X (.Tuple es k pos) (gTup X.K n t) := by
  intro pins s σ H v u Q I r hw
  obtain ⟨a, xs, e1, hq, hl, hw⟩ := hw
  subst e1
  cases r
  obtain ⟨its, rv, ht, hz⟩ := I.tuple hq
  refine assign_Tuple_tuple (I.ok.hd hc) ht (by simp [hn, ← hl, rv.length]) hst fun h' hx => ?_
  have I1 : Inv X pins σ H { s with heap := h' } := I.kept (t' := s.toks) fun b o e => hx b o (Nat.ne_of_lt (Heap.lt_size e)) e
  exact h pins _ σ H xs _ Q I1 (by simpa using rv) hw
noncomputable def gSub (to ti : TE) (t : TSet) : TG := fun v σ H Q => to σ H fun o H1 => ti σ H1 fun i H2 => t o i v H2 fun H3 => Q σ H3
theorem pg_sub {o i : Expr} {to ti : TE} {t : TSet} (ho : PE X o to) (hi : PE X i ti) (hs : PSet X t)
    (ha : ∀ v, assign (.Subscript o i pos) X.env v = (do
      let ov ← holding [v] (eval o X.env)
      let iv ← holding [v, ov] (eval i X.env)
      standAt pos
      holding [v, ov, iv] (setItem ov iv v)
      release [v, ov, iv] []) := by intro _; rfl) : PG X (.Subscript o i pos) (gSub to ti t) := by
  intro pins s σ H v u Q I r h
  rw [ha]
  refine wpAny_bind (wpAny_holding (thn (ho pins s σ H _ I h) fun ov s1 ⟨x, H1, I1, r1, q1⟩ => ?_))
  refine wpAny_bind (wpAny_holding (thn (hi pins s1 σ H1 _ I1 q1) fun iv s2 ⟨y, H2, I2, r2, q2⟩ => ?_))
  refine wpAny_bind (wpAny_standAt (wpAny_bind (wpAny_holding (thn (hs pins s2 σ H2 x y v ov iv u _ I2 r1 r2 r q2) fun _ s3 ⟨H3, I3, q3⟩ => ?_))))
  exact wpAny_release ⟨σ, H3, I3, q3⟩
noncomputable def tAsg (te : TE) (g : TG) : TS := fun D σ H => te σ H fun x H1 => g x σ H1 D.nx
theorem ps_asg {tg e : Expr} {te : TE} {g : TG} (he : PE X e te) (hg : PG X tg g) (hs : swapsWithSole [tg] e pos.line X.env = pure false := by rfl) (hw : swappedStores [tg] e X.env = pure none := by rfl)
    (h1 : (assignEach [tg] X.env).map (·.2) = [assign tg X.env] := by rfl) : PS X (.Assign [tg] e pos) (tAsg te g) := by
  intro pins s σ H D I h
  refine wpAny_Assign_stores (thn (he pins s σ H _ I h) fun v s1 ⟨x, H1, I1, r1, q1⟩ => ?_) hs hw
  rw [h1]
  exact thn (hg pins s1 σ H1 x v _ I1 r1 q1) fun _ s2 q => q
theorem ps_set {i : Nat} {x : Str} {e : Expr} {te : TE} {pos' : Pos} (hN : X.N.Nodup) (hi : X.N[i]? = some x) (hx : Loc X.env.scope x) (he : PE X e te) (hs : swapsWith e (some (.Name x pos')) pos.line X.env = pure false := by rfl) (hf : X.fn x = true ∨ X.env.scope.names.lookup x = some .local := by first | exact .inl rfl | exact .inr rfl | assumption) :
    PS X (.Assign [.Name x pos'] e pos) (tAsg te (gName i)) := by
  intro pins s σ H D I h
  refine wpAny_Assign_Name (thn (he pins s σ H _ I h) fun v s1 ⟨y, H1, I1, r1, q1⟩ => ?_) hs
  exact store_ok I1 hN hi hx r1 (fun s2 I2 => ⟨_, H1, I2, q1⟩) hf
end
section
variable {X : Cx} {pos : Pos}
end
structure It where
  go : Nat → Hp → Prop
  yld : Nat → Hp → V → Hp → Prop
  stop : Nat → Hp → Prop
noncomputable def FpOk (X : Cx) (pins : List (Addr × Obj)) (H : Hp) (b : Addr) : Prop :=
  H b = none ∧ b ≠ X.env.locals ∧ b ∉ X.fs ∧ (b ∈ X.ex ∨ X.s₀.heap.objs.size ≤ b) ∧ (∀ x c, X.env.cells.lookup x = some c → c ≠ b) ∧ ∀ p ∈ X.pn ++ pins, p.1 ≠ b
theorem Inv.fpOk {X : Cx} {pins : List (Addr × Obj)} {σ : St} {H H' : Hp} {s : Shared} {b : Addr} (I : Inv X pins σ H s) (hb : s.heap.objs.size ≤ b) (hn : H' b = none) : FpOk X pins H' b := by
  refine ⟨hn, Nat.ne_of_gt (Nat.lt_of_lt_of_le I.lt hb), I.nofs hb, .inr (Nat.le_trans I.sz hb), fun x c e z => ?_, fun p hp z => ?_⟩
  · obtain ⟨v, q⟩ := I.cell x c e
    exact absurd (Nat.lt_of_lt_of_le q.lt (by rw [z]; exact hb)) (Nat.lt_irrefl _)
  · exact absurd (Nat.lt_of_lt_of_le (Heap.lt_size (I.pin p hp).1) (by rw [z]; exact hb)) (Nat.lt_irrefl _)
structure Turn (P : Program) (w : World) (K : PySem.W.Frag) (tg : Expr) (J : It) (fp : List Addr) (it : Addr) (tn : Nat → Heap → Prop) : Prop where
  mem : it ∈ fp
  obj : ∀ i h, tn i h → ∀ b ∈ fp, ∃ o, h.get? b = some o ∧ ∀ v, o.data ≠ .cell v
  keep : ∀ i h h', tn i h → (∀ b ∈ fp, ∀ o, h.get? b = some o → h'.get? b = some o) → tn i h'
  item : ∀ (X : Cx), X.prog = P → X.w = w → X.K = K → X.calm = true → ∀ (i : Nat) (pins : List (Addr × Obj)) (s : Shared) (σ : St) (H : Hp) (E : Value → Shared → Prop), Inv X pins σ H s → (∀ b ∈ fp, FpOk X pins H b) → tn i s.heap → J.go i H →
    wpAny (model P w) X.A (pyNext (.ref it)) (fun r s1 => ∃ u, r = some u ∧
      wpAny (model P w) X.A (letOwnedTupleGo tg (.ref it) u) (fun _ s2 => ∃ x H', Inv X pins σ H' s2 ∧ RelV x u ∧ J.yld i H x H' ∧ tn (i + 1) s2.heap ∧ ∀ b ∈ fp, H' b = none) E s1) E s
  done : ∀ (X : Cx), X.prog = P → X.w = w → X.K = K → X.calm = true → ∀ (i : Nat) (pins : List (Addr × Obj)) (s : Shared) (σ : St) (H : Hp) (E : Value → Shared → Prop), Inv X pins σ H s → (∀ b ∈ fp, FpOk X pins H b) → tn i s.heap → J.stop i H →
    wpAny (model P w) X.A (pyNext (.ref it)) (fun r s1 => r = none ∧ Inv X pins σ H s1) E s
  self : ∀ (A : Around) (i : Nat) (s : Shared) (Q : Value → Shared → Prop) (E : Value → Shared → Prop), tn i s.heap → Q (.ref it) s → wpAny (model P w) A (pyIter (.ref it)) Q E s
noncomputable abbrev TI := St → Hp → (It → Hp → Prop) → Prop
noncomputable def PIE (X : Cx) (pins : List (Addr × Obj)) (σ : St) (tg : Expr) (R : It → Hp → Prop) (itv : Value) (s2 : Shared) : Prop :=
  ∃ (it : Addr) (fp : List Addr) (tn : Nat → Heap → Prop) (J : It) (H' : Hp), itv = .ref it ∧ Inv X pins σ H' s2 ∧ Turn X.prog X.w X.K tg J fp it tn ∧ tn 0 s2.heap ∧ (∀ b ∈ fp, FpOk X pins H' b) ∧ R J H'
noncomputable def PI (X : Cx) (tg iter : Expr) (wi : TI) : Prop :=
  ∀ (pins : List (Addr × Obj)) (s : Shared) (σ : St) (H : Hp) (R : It → Hp → Prop), Inv X pins σ H s → wi σ H R →
    wpAny (model X.prog X.w) X.A (eval iter X.env) (fun v s1 => wpAny (model X.prog X.w) X.A (pyIter v) (PIE X pins σ tg R) X.xe s1) X.xe s
theorem go_of {M : Model} {A : Around} {E : Value → Shared → Prop} {s : Shared} {tg : Expr} {it : Addr} {u : Value} {o : Obj} {n : String} {vs : Array Value} {Q : Unit → Shared → Prop} (ho : s.heap.get? it = some o) (hc : o.cls = .type n) (hd : o.data = .fields vs)
    (hn : ["enumerate", "zip", "dict_itemiterator", "dict_reverseitemiterator", "odict_iterator", "itertools.zip_longest", "itertools.pairwise"].contains n = false) (hQ : Q () s) : wpAny M A (letOwnedTupleGo tg (.ref it) u) Q E s := by
  unfold letOwnedTupleGo
  cases tg <;> first
    | exact wpAny_pure hQ
    | (cases u <;> first
        | exact wpAny_pure hQ
        | (refine wpAny_bind (wpAny_load ho ?_)
           rw [hc, hd]
           show wpAny M A (if (["enumerate", "zip", "dict_itemiterator", "dict_reverseitemiterator", "odict_iterator", "itertools.zip_longest", "itertools.pairwise"].contains n && vs[0]? == some (rawInt _)) = true then _ else _) Q E s
           rw [if_neg (by intro h; rw [hn, Bool.false_and] at h; cases h)]
           exact wpAny_pure hQ))
noncomputable def Itl (K : PySem.W.Frag) (a : Addr) : It :=
  ⟨fun i H => ∃ xs x, SqL K H a xs ∧ xs[i]? = some x, fun i H x H' => H' = H ∧ ∀ xs, SqL K H a xs → xs[i]? = some x, fun i H => ∃ xs, SqL K H a xs ∧ xs.length ≤ i⟩
noncomputable def Itt (K : PySem.W.Frag) (a : Addr) : It :=
  ⟨fun i H => ∃ xs x, SqT K H a xs ∧ xs[i]? = some x, fun i H x H' => H' = H ∧ ∀ xs, SqT K H a xs → xs[i]? = some x, fun i H => ∃ xs, SqT K H a xs ∧ xs.length ≤ i⟩
noncomputable def Itr (lo : Int) (n : Nat) : It := ⟨fun i _ => i < n, fun i H x H' => H' = H ∧ x = .int (lo + i), fun i _ => n ≤ i⟩
theorem turn_list {P : Program} {w : World} {K : PySem.W.Frag} {tg : Expr} (a it : Addr) : Turn P w K tg (Itl K a) [it] it (fun i h => h.IsListIter it a i) where
  mem := by simp
  obj := fun i h st b hb => by
    have e : b = it := by simpa using hb
    subst e
    obtain ⟨o, e, c, d⟩ := st
    exact ⟨o, e, fun v z => by rw [d] at z; cases z⟩
  keep := fun i h h' st k => st.at fun o e => k it (by simp) o e
  item := by
    intro X hP hw hK hc i pins s σ H E I hf st hg
    subst hP hw hK
    obtain ⟨xs, x, hq, hx⟩ := hg
    obtain ⟨its, rv, p, hz⟩ := I.list hq
    obtain ⟨u, hu, ru⟩ := rv.get hx
    obtain ⟨f0, f1, f2, f3, f4, f5⟩ := hf it (by simp)
    refine wpAny_pyNext_list_item st p.isList (x := u) (by simpa using hu) fun h' st' sb => ?_
    have I1 : Inv X pins σ H { s with heap := h' } := I.turned (t' := s.toks) (fun b o hb e => (sb.2 b hb).trans e) f0 f1 f3 f4 f5
    obtain ⟨o, e, c, d⟩ := id st'
    exact ⟨u, rfl, go_of (s := { s with heap := h' }) e c d (by decide) ⟨x, H, I1, ru, ⟨rfl, fun ys hy => by rw [I.list_inj hy hq]; exact hx⟩, st', fun b hb => (hf b hb).1⟩⟩
  done := by
    intro X hP hw hK hc i pins s σ H E I hf st hg
    subst hP hw hK
    obtain ⟨xs, hq, hx⟩ := hg
    obtain ⟨its, rv, p, hz⟩ := I.list hq
    obtain ⟨f0, f1, f2, f3, f4, f5⟩ := hf it (by simp)
    have hl := rv.length
    exact wpAny_pyNext_list_end (I.ok.hd hc) st p.isList (by simp; omega) fun h' eb => ⟨rfl, I.turned (t' := s.toks) (fun b o hb e => eb b o hb e) f0 f1 f3 f4 f5⟩
  self := fun _ _ _ _ _ st h => wpAny_pyIter_listiter st h
theorem turn_tuple {P : Program} {w : World} {K : PySem.W.Frag} {tg : Expr} (a it : Addr) : Turn P w K tg (Itt K a) [it] it (fun i h => h.IsTupleIter it a i) where
  mem := by simp
  obj := fun i h st b hb => by
    have e : b = it := by simpa using hb
    subst e
    obtain ⟨o, e, c, d⟩ := st
    exact ⟨o, e, fun v z => by rw [d] at z; cases z⟩
  keep := fun i h h' st k => st.at fun o e => k it (by simp) o e
  item := by
    intro X hP hw hK hc i pins s σ H E I hf st hg
    subst hP hw hK
    obtain ⟨xs, x, hq, hx⟩ := hg
    obtain ⟨its, rv, p, hz⟩ := I.tuple hq
    obtain ⟨u, hu, ru⟩ := rv.get hx
    obtain ⟨f0, f1, f2, f3, f4, f5⟩ := hf it (by simp)
    refine wpAny_pyNext_tuple_item st (show s.heap.IsTuple a its.toArray from p) (x := u) (by simpa using hu) fun h' st' sb => ?_
    have I1 : Inv X pins σ H { s with heap := h' } := I.turned (t' := s.toks) (fun b o hb e => (sb.2 b hb).trans e) f0 f1 f3 f4 f5
    obtain ⟨o, e, c, d⟩ := id st'
    exact ⟨u, rfl, go_of (s := { s with heap := h' }) e c d (by decide) ⟨x, H, I1, ru, ⟨rfl, fun ys hy => by rw [I.tuple_inj hy hq]; exact hx⟩, st', fun b hb => (hf b hb).1⟩⟩
  done := by
    intro X hP hw hK hc i pins s σ H E I hf st hg
    subst hP hw hK
    obtain ⟨xs, hq, hx⟩ := hg
    obtain ⟨its, rv, p, hz⟩ := I.tuple hq
    obtain ⟨f0, f1, f2, f3, f4, f5⟩ := hf it (by simp)
    have hl := rv.length
    exact wpAny_pyNext_tuple_end (I.ok.hd hc) st (show s.heap.IsTuple a its.toArray from p) (by simp; omega) fun h' eb => ⟨rfl, I.turned (t' := s.toks) (fun b o hb e => eb b o hb e) f0 f1 f3 f4 f5⟩
  self := fun _ _ _ _ _ st h => wpAny_pyIter_tupleiter st h
theorem turn_range {P : Program} {w : World} {K : PySem.W.Frag} {tg : Expr} (it : Addr) (lo : Int) (n : Nat) : Turn P w K tg (Itr lo n) [it] it (fun i h => IsRangeIter h it (lo + (i : Nat) * 1) ((n : Int) - (i : Nat)) 1) where
  mem := by simp
  obj := fun i h st b hb => by
    have e : b = it := by simpa using hb
    subst e
    exact ⟨_, st, fun v z => by
      have z' : Data.fields _ = Data.cell v := z
      cases z'⟩
  keep := fun i h h' st k => k it (by simp) _ st
  item := by
    intro X hP hw hK hc i pins s σ H E I hf st hg
    subst hP hw hK
    obtain ⟨f0, f1, f2, f3, f4, f5⟩ := hf it (by simp)
    have W := Walks.range (prog := X.prog) (w := X.w) (I.ok.hd hc) it lo 1 n
    refine W.item i s _ _ hg st fun v h' tk hv st' kk => ?_
    obtain ⟨t, rfl⟩ := hv
    have I1 : Inv X pins σ H { s with heap := h', toks := tk } := I.turned (fun b o hb e => kk b o (by simpa using hb) e) f0 f1 f3 f4 f5
    refine ⟨_, rfl, go_of (s := { s with heap := h', toks := tk }) (n := "range_iterator") st' rfl rfl (by decide) ⟨.int (lo + i), H, I1, ⟨t, ?_⟩, ⟨rfl, rfl⟩, st', fun b hb => (hf b hb).1⟩⟩
    rw [Int.mul_one]
  done := by
    intro X hP hw hK hc i pins s σ H E I hf st hg
    subst hP hw hK
    obtain ⟨f0, f1, f2, f3, f4, f5⟩ := hf it (by simp)
    exact wpAny_pyNext_range_end (I.ok.hd hc) st (by have : n ≤ i := hg; omega) fun h' eb => ⟨rfl, I.turned (t' := s.toks) (fun b o hb e => eb b o hb e) f0 f1 f3 f4 f5⟩
  self := fun _ _ _ _ _ st h => wpAny_pyIter_rangeiter st h
end L2
namespace L2
open PySem PySem.Spec PyProof.Rows
section
variable {X : Cx} {tg : Expr}
theorem range_it {pins : List (Addr × Obj)} {σ : St} {H : Hp} {s : Shared} {R : It → Hp → Prop} {E : Value → Shared → Prop} {lo hi : Int} {t u v : Tok} {tk : Nat} (I : Inv X pins σ H s) (h1 : -(2 ^ 62) ≤ lo) (h2 : lo < 2 ^ 62) (h3 : -(2 ^ 62) ≤ hi) (h4 : hi < 2 ^ 62)
    (q : R (Itr lo (hi - lo).toNat) H) : wpAny (model X.prog X.w) X.A (pyIter (.ref s.heap.objs.size)) (PIE X pins σ tg R) E { s with heap := s.heap.push { cls := .type "range", data := .fields #[.int lo t, .int hi u, .int 1 v] }, toks := tk } := by
  refine wpAny_pyIter_range (IsRange.new ..) (small_one h1 h2 h3 h4) ?_
  have I1 : Inv X pins σ H { s with heap := s.heap.push { cls := .type "range", data := .fields #[.int lo t, .int hi u, .int 1 v] }, toks := tk } := I.kept fun b o e => Heap.get?_push_of_some _ e
  refine ⟨(s.heap.push { cls := .type "range", data := .fields #[.int lo t, .int hi u, .int 1 v] }).objs.size, [(s.heap.push { cls := .type "range", data := .fields #[.int lo t, .int hi u, .int 1 v] }).objs.size], _, _, H, rfl,
    I1.kept (t' := tk) fun b o e => Heap.get?_push_of_some _ e, turn_range _ lo (hi - lo).toNat, ?_, fun b hb => ?_, q⟩
  · have e1 : lo + ((0 : Nat) : Int) * 1 = lo := by simp
    have e2 : (((hi - lo).toNat : Nat) : Int) - ((0 : Nat) : Int) = Builtin.Range.rangeSize lo hi 1 := by rw [rangeSize_one]; split <;> omega
    show IsRangeIter _ _ (lo + ((0 : Nat) : Int) * 1) ((((hi - lo).toNat : Nat) : Int) - ((0 : Nat) : Int)) 1
    rw [e1, e2]
    exact Heap.get?_push_size _ rfl
  · have e : b = (s.heap.push { cls := .type "range", data := .fields #[.int lo t, .int hi u, .int 1 v] }).objs.size := by simpa using hb
    subst e
    exact I1.fpOk (Nat.le_refl _) (I1.hok.fresh (Nat.le_refl _))
noncomputable def iRng1 (ta : TA) : TI := fun σ H R => ta σ H fun vs H1 => ∃ j : Int, vs = [.int j] ∧ -(2 ^ 62) ≤ j ∧ j < 2 ^ 62 ∧ R (Itr 0 j.toNat) H1
theorem pi_range1 {a : Expr} {ta : TA} {p pos : Pos} (hg : Gl X "range") (hm : X.mg "range" = none) (ha : PA X [a] ta) (hs : starEach [a] X.env = [(false, eval a X.env)] := by rfl) : PI X tg (.Call (.Name "range" p) [a] [] pos) (iRng1 ta) := by
  intro pins s σ H R I h
  refine Call_ (ld_blt I hg hm boot_range (PyProof.Rows.callWith_type1 (thn (ha pos pins s σ H _ I h) fun us s1 ⟨vs, H1, I1, r1, q1⟩ => ?_) hs rfl))
  obtain ⟨j, e, q1, q2, q⟩ := q1
  subst e
  cases r1 with
  | cons r rr =>
    cases rr
    obtain ⟨t, rfl⟩ := r
    exact call_range_1 (range_it I1 (by omega) (by omega) q1 q2 (by simpa using q))
noncomputable def tFor (wi : TI) (g : TG) (tb : TS) : TS := fun D σ H => wi σ H fun J H1 => ∃ W : Nat → Nat → St → Hp → Prop, (∃ m, W 0 m σ H1) ∧ ∀ i m σ H, W i m σ H →
  (J.stop i H ∧ D.nx σ H) ∨ (J.go i H ∧ ∃ N : St → Hp → Prop, (∀ σ' H', N σ' H' → ∃ m', m' < m ∧ W (i + 1) m' σ' H') ∧ ∀ x H', J.yld i H x H' → g x σ H' fun σ2 H2 => tb { D with nx := N, ct := N, bk := D.nx } σ2 H2)
noncomputable def pinsAt (fp : List Addr) (h : Heap) : List (Addr × Obj) := fp.filterMap fun b => (h.get? b).map fun o => (b, o)
theorem mem_pinsAt {fp : List Addr} {h : Heap} {b : Addr} {o : Obj} (hb : b ∈ fp) (e : h.get? b = some o) : (b, o) ∈ pinsAt fp h := List.mem_filterMap.mpr ⟨b, hb, by rw [e]; rfl⟩
theorem of_pinsAt {fp : List Addr} {h : Heap} {p : Addr × Obj} (hp : p ∈ pinsAt fp h) : p.1 ∈ fp ∧ h.get? p.1 = some p.2 := by
  obtain ⟨b, hb, e⟩ := List.mem_filterMap.mp hp
  cases q : h.get? b with
  | none => rw [q] at e; cases e
  | some o =>
    rw [q] at e
    have e' : (b, o) = p := Option.some.inj e
    subst e'
    exact ⟨hb, q⟩
theorem Inv.pinned {pins : List (Addr × Obj)} {σ : St} {H : Hp} {s : Shared} {fp : List Addr} (I : Inv X pins σ H s) (hf : ∀ b ∈ fp, FpOk X pins H b) (ho : ∀ b ∈ fp, ∃ o, s.heap.get? b = some o ∧ ∀ v, o.data ≠ .cell v) : Inv X (pins ++ pinsAt fp s.heap) σ H s :=
  I.pins_of fun p hp => (List.mem_append.mp hp).elim (fun z => I.pin p (List.mem_append_right _ z)) fun z => by
    obtain ⟨hb, e⟩ := of_pinsAt z
    obtain ⟨f0, f1, f2, _⟩ := hf p.1 hb
    obtain ⟨o, e', d⟩ := ho p.1 hb
    rw [e] at e'; cases e'
    exact ⟨e, f0, f1, f2, d⟩
theorem Inv.unpinned {pins pl : List (Addr × Obj)} {σ : St} {H : Hp} {s : Shared} (I : Inv X (pins ++ pl) σ H s) : Inv X pins σ H s := I.pins_of fun p hp => I.pin p (List.mem_append_right _ (List.mem_append_left _ hp))
theorem ps_for {iter : Expr} {body : List Stmt} {wi : TI} {g : TG} {tb : TS} {pos : Pos} (hp : PassesOwn (model X.prog X.w) X.A X.env X.xe) (hc : X.calm = true) (hi : PI X tg iter wi) (hg : PG X tg g) (hb : PSs X body tb)
    (hs : ∀ x, foldedSetIterable iter X.env x = pure x := by intro _; rfl) : PS X (.For tg iter body [] pos) (tFor wi g tb) := by
  intro pins s σ H D I h
  refine wpAny_For (thn (hi pins s σ H _ I h) fun v s1 h1 => thn h1 fun itv s2 h2 => ?_) hs
  obtain ⟨it, fp, tn, J, H2, e, I2, T, st2, f2, W, ⟨m0, w0⟩, turn⟩ := h2
  subst e
  have stat : ∀ {H' : Hp}, (∀ b ∈ fp, H' b = none) → ∀ b ∈ fp, FpOk X pins H' b := fun hn b hb => ⟨hn b hb, (f2 b hb).2⟩
  refine codeAny_forLoop_any (fun n s' => ∃ i σ' H', Inv X pins σ' H' s' ∧ tn i s'.heap ∧ (∀ b ∈ fp, H' b = none) ∧ W i n σ' H') ?_ m0 ⟨0, σ, H2, I2, st2, fun b hb => (f2 b hb).1, w0⟩
  rintro n s3 ⟨i, σ3, H3, I3, st3, fr3, w3⟩
  rcases turn i n σ3 H3 w3 with ⟨stop, qn⟩ | ⟨go, N, hN, step⟩
  · refine wpAny_passesOwn hp (thn (T.done X rfl rfl rfl hc i pins s3 σ3 H3 X.xe I3 (stat fr3) st3 stop) fun r s4 ⟨hr, I4⟩ => ?_)
    subst hr
    exact wpAny_execs_nil ⟨σ3, H3, I4, qn⟩
  · refine wpAny_passesOwn hp (thn (T.item X rfl rfl rfl hc i pins s3 σ3 H3 X.xe I3 (stat fr3) st3 go) fun r s4 ⟨u, hr, h4⟩ => ?_)
    subst hr
    refine wpAny_passesOwn hp (thn h4 fun _ s5 ⟨x, H5, I5, r5, y5, st5, fr5⟩ => ?_)
    have I5' := I5.pinned (stat fr5) (T.obj _ _ st5)
    refine wpAny_passesOwn hp (thn (hg _ s5 σ3 H5 x u _ I5' r5 (step x H5 y5)) fun _ s6 ⟨σ6, H6, I6, q6⟩ => ?_)
    refine wpAny_passesOwn hp (thn (hb _ s6 σ6 H6 _ I6 q6) fun f s7 q7 => ?_)
    have again : ∀ {σ7 : St} {H7 : Hp}, Inv X (pins ++ pinsAt fp s5.heap) σ7 H7 s7 → N σ7 H7 → ∃ m, m < n ∧ ∃ i σ' H', Inv X pins σ' H' s7 ∧ tn i s7.heap ∧ (∀ b ∈ fp, H' b = none) ∧ W i m σ' H' := fun {σ7 H7} I7 n7 => by
      obtain ⟨m', hm, w7⟩ := hN σ7 H7 n7
      refine ⟨m', hm, i + 1, σ7, H7, I7.unpinned, T.keep _ _ _ st5 fun b hb o e => (I7.pin (b, o) (List.mem_append_right _ (List.mem_append_right _ (mem_pinsAt hb e)))).1, fun b hb => ?_, w7⟩
      obtain ⟨o, e, d⟩ := T.obj _ _ st5 b hb
      exact (I7.pin (b, o) (List.mem_append_right _ (List.mem_append_right _ (mem_pinsAt hb e)))).2.1
    cases f with
    | next => obtain ⟨σ7, H7, I7, n7⟩ := q7; exact again I7 n7
    | cont => obtain ⟨σ7, H7, I7, n7⟩ := q7; exact again I7 n7
    | brk => obtain ⟨σ7, H7, I7, q7⟩ := q7; exact ⟨σ7, H7, I7.unpinned, q7⟩
    | ret v => obtain ⟨x7, σ7, H7, I7, r7, q7⟩ := q7; exact ⟨x7, σ7, H7, I7.unpinned, r7, q7⟩
end
end L2
namespace L2
open PySem PySem.Spec PyProof.Rows
noncomputable abbrev R2 := V → V → Hp → VK → Prop
noncomputable def OpR (X : Cx) (f : Value → Value → Sem Value) (r : R2) : Prop :=
  ∀ (pins : List (Addr × Obj)) (s : Shared) (σ : St) (H : Hp) (x y : V) (v u : Value) (Q : VK), Inv X pins σ H s → RelV x v → RelV y u → r x y H Q →
    wpAny (model X.prog X.w) X.A (f v u) (EP X pins σ Q) X.xe s
noncomputable def UnR (X : Cx) (f : Value → Sem Value) (r : V → Hp → VK → Prop) : Prop :=
  ∀ (pins : List (Addr × Obj)) (s : Shared) (σ : St) (H : Hp) (x : V) (v : Value) (Q : VK), Inv X pins σ H s → RelV x v → r x H Q →
    wpAny (model X.prog X.w) X.A (f v) (EP X pins σ Q) X.xe s
noncomputable def CallR (X : Cx) (f : Value) (r : List V → Hp → VK → Prop) : Prop :=
  ∀ (pins : List (Addr × Obj)) (s : Shared) (σ : St) (H : Hp) (xs : List V) (us : List Value) (Q : VK), Inv X pins σ H s → Vals xs us → r xs H Q →
    wpAny (model X.prog X.w) X.A (call f us) (EP X pins σ Q) X.xe s
noncomputable def TruR (X : Cx) (r : V → Hp → (Bool → Hp → Prop) → Prop) : Prop :=
  ∀ (pins : List (Addr × Obj)) (s : Shared) (σ : St) (H : Hp) (x : V) (v : Value) (Q : Bool → Hp → Prop), Inv X pins σ H s → RelV x v → r x H Q →
    wpAny (model X.prog X.w) X.A (truthy v) (TP X pins σ Q) X.xe s
noncomputable def tOp (r : R2) (ta tb : TE) : TE := fun σ H Q => ta σ H fun x H1 => tb σ H1 fun y H2 => r x y H2 Q
noncomputable def tUn (r : V → Hp → VK → Prop) (ta : TE) : TE := fun σ H Q => ta σ H fun x H1 => r x H1 Q
noncomputable def rI (C : Int → Int → Prop) (g : Int → Int → V) : R2 := fun x y H Q => ∃ i j, x = .int i ∧ y = .int j ∧ C i j ∧ Q (g i j) H
noncomputable def rI0 (g : Int → Int → V) : R2 := fun x y H Q => ∃ i j, x = .int i ∧ y = .int j ∧ Q (g i j) H
noncomputable def rU (g : Int → V) : V → Hp → VK → Prop := fun x H Q => ∃ i, x = .int i ∧ Q (g i) H
section
variable {X : Cx} {a b c : Expr} {ta tb tc : TE} {pos : Pos}
theorem binT (ha : PE X a ta) (hb : PE X b tb) {pins : List (Addr × Obj)} {s : Shared} {σ : St} {H : Hp} {R : V → V → Hp → Prop} (I : Inv X pins σ H s)
    (h : ta σ H fun x H1 => tb σ H1 fun y H2 => R x y H2) {Q : Value → Shared → Prop} {f : Value → Value → Sem Value}
    (hf : ∀ v u s2 x y H2, Inv X pins σ H2 s2 → RelV x v → RelV y u → R x y H2 → wpAny (model X.prog X.w) X.A (f v u) Q X.xe s2) :
    wpAny (model X.prog X.w) X.A (eval a X.env) (fun v s₁ => wpAny (model X.prog X.w) X.A (eval b X.env) (fun u s₂ => wpAny (model X.prog X.w) X.A (f v u) Q X.xe s₂) X.xe s₁) X.xe s := by
  refine thn (ha pins s σ H _ I h) fun v s1 ⟨x, H1, I1, r1, q1⟩ => ?_
  refine thn (hb pins s1 σ H1 _ I1 q1) fun u s2 ⟨y, H2, I2, r2, q2⟩ => ?_
  exact hf v u s2 x y H2 I2 r1 r2 q2
theorem pe_op {op : Operator} {r : R2} (ho : OpR X (binaryOp op) r) (ha : PE X a ta) (hb : PE X b tb) : PE X (.BinOp a op b pos) (tOp r ta tb) := by
  intro pins s σ H Q I h
  exact wpAny_BinOp (binT ha hb I h fun v u s2 x y H2 I2 rx ry q => ho pins s2 σ H2 x y v u Q I2 rx ry q)
theorem pe_un {op : UnaryOp} {r : V → Hp → VK → Prop} (ho : UnR X (unaryOp op) r) (ha : PE X a ta) : PE X (.UnaryOp op a pos) (tUn r ta) := by
  intro pins s σ H Q I h
  exact UnaryOp_ (thn (ha pins s σ H _ I h) fun v s1 ⟨x, H1, I1, r1, q1⟩ => ho pins s1 σ H1 x v Q I1 r1 q1)
theorem opI {f : Value → Value → Sem Value} {C : Int → Int → Prop} {g : Int → Int → Int}
    (rule : ∀ (i j : Int) (t u : Tok) (s : Shared) (Q : Value → Shared → Prop) (E : Value → Shared → Prop), C i j → Q (.int (g i j) s.toks) { s with toks := s.toks + 1 } → wpAny (model X.prog X.w) X.A (f (.int i t) (.int j u)) Q E s) :
    OpR X f (rI C fun i j => .int (g i j)) := by
  intro pins s σ H x y v u Q I rx ry h
  obtain ⟨i, j, rfl, rfl, hc, q⟩ := h
  obtain ⟨t, rfl⟩ := rx
  obtain ⟨t', rfl⟩ := ry
  exact rule i j t t' s _ _ hc ⟨.int (g i j), H, I.tok _, ⟨_, rfl⟩, q⟩
theorem opI0 {f : Value → Value → Sem Value} {g : Int → Int → Int}
    (rule : ∀ (i j : Int) (t u : Tok) (s : Shared) (Q : Value → Shared → Prop) (E : Value → Shared → Prop), Q (.int (g i j) s.toks) { s with toks := s.toks + 1 } → wpAny (model X.prog X.w) X.A (f (.int i t) (.int j u)) Q E s) :
    OpR X f (rI0 fun i j => .int (g i j)) := by
  intro pins s σ H x y v u Q I rx ry h
  obtain ⟨i, j, rfl, rfl, q⟩ := h
  obtain ⟨t, rfl⟩ := rx
  obtain ⟨t', rfl⟩ := ry
  exact rule i j t t' s _ _ ⟨.int (g i j), H, I.tok _, ⟨_, rfl⟩, q⟩
theorem opB0 {f : Value → Value → Sem Value} {g : Int → Int → Bool}
    (rule : ∀ (i j : Int) (t u : Tok) (s : Shared) (Q : Value → Shared → Prop) (E : Value → Shared → Prop), Q (.bool (g i j)) s → wpAny (model X.prog X.w) X.A (f (.int i t) (.int j u)) Q E s) :
    OpR X f (rI0 fun i j => .bl (g i j)) := by
  intro pins s σ H x y v u Q I rx ry h
  obtain ⟨i, j, rfl, rfl, q⟩ := h
  obtain ⟨t, rfl⟩ := rx
  obtain ⟨t', rfl⟩ := ry
  exact rule i j t t' s _ _ ⟨.bl (g i j), H, I, rfl, q⟩
noncomputable def CDiv (i j : Int) : Prop := 0 < j ∧ j < 1073741824
noncomputable def CPow (i j : Int) : Prop := 0 ≤ j ∧ j ≤ 1000000 ∧ i.natAbs < 2 ^ 64
noncomputable def CMul (i j : Int) : Prop := (-(2 ^ 64) < i ∧ i < 2 ^ 64) ∨ (-(2 ^ 64) < j ∧ j < 2 ^ 64)
theorem CMul.ok {i j : Int} (h : CMul i j) : IntMulOk i j := by
  rcases h with ⟨h1, h2⟩ | ⟨h1, h2⟩
  · exact .of_left (intBits_le_64 h1 h2)
  · exact .of_right (intBits_le_64 h1 h2)
theorem op_add : OpR X (binaryOp .Add) (rI0 fun i j => .int (i + j)) := opI0 fun _ _ _ _ _ _ _ q => add_int q
theorem op_sub : OpR X (binaryOp .Sub) (rI0 fun i j => .int (i - j)) := opI0 fun _ _ _ _ _ _ _ q => sub_int q
theorem op_mul : OpR X (binaryOp .Mult) (rI CMul fun i j => .int (i * j)) := opI fun _ _ _ _ _ _ _ hc q => mul_int q hc.ok
theorem op_fdiv : OpR X (binaryOp .FloorDiv) (rI CDiv fun i j => .int (i / j)) := opI fun i j _ _ _ _ _ hc q => by
  have h1 : (0 : Int) < j := hc.1
  have h2 : j < 1073741824 := hc.2
  exact floordiv_int (by omega) (by rw [Int.fdiv_eq_ediv_of_nonneg i (by omega)]; exact q) (.inl (PyProof.noPylong_small (by omega)))
theorem op_mod : OpR X (binaryOp .Mod) (rI (fun _ j => 0 < j) fun i j => .int (i % j)) := opI fun i j _ _ _ _ _ hc q => by
  have h1 : (0 : Int) < j := hc
  exact mod_int' (by omega) (by rw [Int.fmod_eq_emod_of_nonneg i (by omega)]; exact q)
theorem op_pow : OpR X (binaryOp .Pow) (rI CPow fun i j => .int (i ^ j.toNat)) := opI fun _ _ _ _ _ _ _ hc q => pow_int_small hc.1 hc.2.1 hc.2.2 q
theorem unI {f : Value → Sem Value} {g : Int → Int}
    (rule : ∀ (i : Int) (t : Tok) (s : Shared) (Q : Value → Shared → Prop) (E : Value → Shared → Prop), Q (.int (g i) s.toks) { s with toks := s.toks + 1 } → wpAny (model X.prog X.w) X.A (f (.int i t)) Q E s) :
    UnR X f (rU fun i => .int (g i)) := by
  intro pins s σ H x v Q I rx h
  obtain ⟨i, rfl, q⟩ := h
  obtain ⟨t, rfl⟩ := rx
  exact rule i t s _ _ ⟨.int (g i), H, I.tok _, ⟨_, rfl⟩, q⟩
theorem un_neg : UnR X (unaryOp .USub) (rU fun i => .int (-i)) := unI fun _ _ _ _ _ q => neg_int q
end
noncomputable def scal : V → V → Bool
  | .non, .non => true | .non, .int _ => true | .int _, .non => true | .non, .bl _ => true | .bl _, .non => true | .non, .str _ => true | .str _, .non => true
  | .int _, .int _ => true | .bl _, .bl _ => true | .str _, .str _ => true | .byt _, .byt _ => true
  | .int _, .str _ => true | .str _, .int _ => true | .bl _, .str _ => true | .str _, .bl _ => true
  | _, _ => false
noncomputable def rEq : R2 := fun x y H Q => scal x y = true ∧ Q (.bl (decide (x = y))) H
noncomputable def rNe : R2 := fun x y H Q => scal x y = true ∧ Q (.bl (!decide (x = y))) H
theorem dec_int {i j : Int} : decide (V.int i = V.int j) = (i == j) := by
  rw [Bool.eq_iff_iff]
  simp
theorem dec_bl {i j : Bool} : decide (V.bl i = V.bl j) = (i == j) := by
  rw [Bool.eq_iff_iff]
  simp
theorem dec_str {i j : Str} : decide (V.str i = V.str j) = (i == j) := by
  rw [Bool.eq_iff_iff]
  simp
theorem dec_byt {i j : Array UInt8} : decide (V.byt i = V.byt j) = (i.toList == j.toList) := by
  rw [Bool.eq_iff_iff]
  cases i
  cases j
  simp
section
variable {X : Cx} {a b c : Expr} {ta tb tc : TE} {pos : Pos}
theorem fin_bl {pins : List (Addr × Obj)} {σ : St} {H : Hp} {s : Shared} {Q : VK} {k k' : Bool} (I : Inv X pins σ H s) (q : Q (.bl k) H) (e : k = k') : EP X pins σ Q (.bool k') s := by
  subst e
  exact ⟨.bl k, H, I, rfl, q⟩
theorem op_eq : OpR X (compareOp .Eq) rEq := by
  intro pins s σ H x y v u Q I rx ry h
  obtain ⟨hs, q⟩ := h
  cases x with
  | non =>
    cases rx
    cases y with
    | non => cases ry; exact PySem.EqNone.eq_none_none (fin_bl I q (by simp))
    | bl j => cases ry; exact PySem.EqNone.eq_none_bool (fin_bl I q (by simp))
    | int j => obtain ⟨t', rfl⟩ := ry; exact PySem.EqNone.eq_none_int (fin_bl I q (by simp))
    | str j => obtain ⟨t', rfl⟩ := ry; exact PySem.EqNone.eq_none_str (fin_bl I q (by simp))
    | _ => exact absurd (show false = true from hs) Bool.false_ne_true
  | bl i =>
    cases rx
    cases y with
    | non => cases ry; exact PySem.EqNone.eq_bool_none (fin_bl I q (by simp))
    | bl j => cases ry; exact eq_bool (fin_bl I q dec_bl)
    | str j => obtain ⟨t', rfl⟩ := ry; exact PySem.EqMixed.eq_bool_str (fin_bl I q (by simp))
    | _ => exact absurd (show false = true from hs) Bool.false_ne_true
  | int i =>
    obtain ⟨t, rfl⟩ := rx
    cases y with
    | non => cases ry; exact PySem.EqNone.eq_int_none (fin_bl I q (by simp))
    | int j => obtain ⟨t', rfl⟩ := ry; exact eq_int (fin_bl I q dec_int)
    | str j => obtain ⟨t', rfl⟩ := ry; exact PySem.EqMixed.eq_int_str (fin_bl I q (by simp))
    | _ => exact absurd (show false = true from hs) Bool.false_ne_true
  | str i =>
    obtain ⟨t, rfl⟩ := rx
    cases y with
    | non => cases ry; exact PySem.EqNone.eq_str_none (fin_bl I q (by simp))
    | bl j => cases ry; exact PySem.EqMixed.eq_str_bool (fin_bl I q (by simp))
    | int j => obtain ⟨t', rfl⟩ := ry; exact PySem.EqMixed.eq_str_int (fin_bl I q (by simp))
    | str j => obtain ⟨t', rfl⟩ := ry; exact eq_str (fin_bl I q dec_str)
    | _ => exact absurd (show false = true from hs) Bool.false_ne_true
  | byt i =>
    obtain ⟨t, rfl⟩ := rx
    cases y with
    | byt j => obtain ⟨t', rfl⟩ := ry; exact PySem.W.eq_bytes (fin_bl I q dec_byt)
    | _ => exact absurd (show false = true from hs) Bool.false_ne_true
  | _ => cases y <;> exact absurd (show false = true from hs) Bool.false_ne_true
theorem op_ne : OpR X (compareOp .NotEq) rNe := by
  intro pins s σ H x y v u Q I rx ry h
  obtain ⟨hs, q⟩ := h
  cases x with
  | non =>
    cases rx
    cases y with
    | non => cases ry; exact PySem.EqNone.ne_none_none (fin_bl I q (by simp))
    | bl j => cases ry; exact PySem.EqNone.ne_none_bool (fin_bl I q (by simp))
    | int j => obtain ⟨t', rfl⟩ := ry; exact PySem.EqNone.ne_none_int (fin_bl I q (by simp))
    | str j => obtain ⟨t', rfl⟩ := ry; exact PySem.EqNone.ne_none_str (fin_bl I q (by simp))
    | _ => exact absurd (show false = true from hs) Bool.false_ne_true
  | bl i =>
    cases rx
    cases y with
    | non => cases ry; exact PySem.EqNone.ne_bool_none (fin_bl I q (by simp))
    | bl j => cases ry; exact ne_bool (fin_bl I q (congrArg not dec_bl))
    | str j => obtain ⟨t', rfl⟩ := ry; exact PySem.EqMixed.ne_bool_str (fin_bl I q (by simp))
    | _ => exact absurd (show false = true from hs) Bool.false_ne_true
  | int i =>
    obtain ⟨t, rfl⟩ := rx
    cases y with
    | non => cases ry; exact PySem.EqNone.ne_int_none (fin_bl I q (by simp))
    | int j => obtain ⟨t', rfl⟩ := ry; exact ne_int (fin_bl I q (congrArg not dec_int))
    | str j => obtain ⟨t', rfl⟩ := ry; exact PySem.EqMixed.ne_int_str (fin_bl I q (by simp))
    | _ => exact absurd (show false = true from hs) Bool.false_ne_true
  | str i =>
    obtain ⟨t, rfl⟩ := rx
    cases y with
    | non => cases ry; exact PySem.EqNone.ne_str_none (fin_bl I q (by simp))
    | bl j => cases ry; exact PySem.EqMixed.ne_str_bool (fin_bl I q (by simp))
    | int j => obtain ⟨t', rfl⟩ := ry; exact PySem.EqMixed.ne_str_int (fin_bl I q (by simp))
    | str j => obtain ⟨t', rfl⟩ := ry; exact ne_str (fin_bl I q (congrArg not dec_str))
    | _ => exact absurd (show false = true from hs) Bool.false_ne_true
  | byt i =>
    obtain ⟨t, rfl⟩ := rx
    cases y with
    | byt j => obtain ⟨t', rfl⟩ := ry; exact PySem.W.ne_bytes (fin_bl I q (congrArg not dec_byt))
    | _ => exact absurd (show false = true from hs) Bool.false_ne_true
  | _ => cases y <;> exact absurd (show false = true from hs) Bool.false_ne_true
theorem op_lt : OpR X (compareOp .Lt) (rI0 fun i j => .bl (decide (i < j))) := opB0 fun _ _ _ _ _ _ _ q => lt_int q
theorem op_le : OpR X (compareOp .LtE) (rI0 fun i j => .bl (decide (i ≤ j))) := opB0 fun _ _ _ _ _ _ _ q => le_int q
theorem op_gt : OpR X (compareOp .Gt) (rI0 fun i j => .bl (decide (j < i))) := opB0 fun _ _ _ _ _ _ _ q => gt_int q
theorem nomark (b : Expr) {op : CmpOp} (h : op ≠ .In := by decide) (h2 : op ≠ .NotIn := by decide) : behindInMarks op b = false := by
  have e1 : (op == CmpOp.In) = false := by cases op <;> first | rfl | exact absurd rfl h
  have e2 : (op == CmpOp.NotIn) = false := by cases op <;> first | rfl | exact absurd rfl h2
  cases b <;> simp [behindInMarks, e1, e2]
theorem pe_cmpR {op : CmpOp} {r : R2} (ho : OpR X (compareOp op) r) (ha : PE X a ta) (hb : PE X b tb) (hm : behindInMarks op b = false) : PE X (.Compare a [op] [b] pos) (tOp r ta tb) := by
  intro pins s σ H Q I h
  exact wpAny_Compare1 (binT ha hb I h fun v u s2 x y H2 I2 rx ry q => ho pins s2 σ H2 x y v u Q I2 rx ry q) hm
noncomputable def tTest (t : TE) : TT := fun σ H Q => t σ H fun x H' => ∃ k, x = .bl k ∧ Q k H'
theorem pt_cmpR {op : CmpOp} {r : R2} (ho : OpR X (compareOp op) r) (ha : PE X a ta) (hb : PE X b tb) (hm : behindInMarks op b = false) : PT X (.Compare a [op] [b] pos) (tTest (tOp r ta tb)) := by
  intro pins s σ H Q I h
  refine wpAny_isTrue_Compare1 (thn (ha pins s σ H _ I h) fun v s1 ⟨x, H1, I1, r1, q1⟩ => thn (hb pins s1 σ H1 _ I1 q1) fun u s2 ⟨y, H2, I2, r2, q2⟩ =>
    thn (ho pins s2 σ H2 x y v u _ I2 r1 r2 q2) fun c s3 ⟨z, H3, I3, r3, k, e, q3⟩ => ?_) hm
  subst e
  cases r3
  exact wpAny_truthy_bool ⟨H3, I3, q3⟩
noncomputable def TruV (K : PySem.W.Frag) (x : V) (H : Hp) (k : Bool) : Prop :=
  match x with
  | .non => k = false
  | .bl b => k = b
  | .int i => k = (i != 0)
  | .str y => y.length ≤ sizeLine ∧ k = ((y.length : Int) != 0)
  | .byt y => y.size ≤ sizeLine ∧ k = ((y.size : Int) != 0)
  | .ref p => (∃ xs, SqL K H p xs ∧ k = !xs.isEmpty) ∨ (∃ xs, SqT K H p xs ∧ k = !xs.isEmpty) ∨ ∃ kvs, H p = some (.dK kvs) ∧ k = !kvs.isEmpty
  | _ => False
theorem isEmpty_kv {κ : Type} {kvs : List (κ × V)} {vs : List (κ × Value)} (r : KV kvs vs) : (!vs.isEmpty) = !kvs.isEmpty := by
  cases r <;> rfl
theorem isEmpty_of {xs : List V} {its : List Value} (r : Vals xs its) : (!its.toArray.isEmpty) = !xs.isEmpty := by
  cases r <;> simp
theorem line63 : (sizeLine : Nat) < 2 ^ 63 := by rw [sizeLine_eq]; decide
theorem tru_ok : TruR X (fun x H Q => ∃ k, TruV X.K x H k ∧ Q k H) := by
  intro pins s σ H x v Q I rx h
  obtain ⟨k, e, q⟩ := h
  have hl := line63
  have hs : sizeLine = 16777216 := sizeLine_eq
  cases x with
  | non =>
    cases rx
    have e' : k = false := e
    subst e'
    exact truthy_none ⟨H, I, q⟩
  | bl b =>
    cases rx
    have e' : k = b := e
    subst e'
    exact wpAny_truthy_bool ⟨H, I, q⟩
  | int i =>
    obtain ⟨t, rfl⟩ := rx
    have e' : k = (i != 0) := e
    subst e'
    exact PySem.P.truthy_int ⟨H, I, q⟩
  | str y =>
    obtain ⟨t, rfl⟩ := rx
    obtain ⟨hy, e'⟩ : y.length ≤ sizeLine ∧ k = ((y.length : Int) != 0) := e
    subst e'
    exact PySem.P.truthy_str (by omega) ⟨H, I.tok _, q⟩
  | byt y =>
    obtain ⟨t, rfl⟩ := rx
    obtain ⟨hy, e'⟩ : y.size ≤ sizeLine ∧ k = ((y.size : Int) != 0) := e
    subst e'
    exact PySem.W.truthy_bytes (by omega) ⟨H, I.tok _, q⟩
  | ref p =>
    cases rx
    have e' : (∃ xs, SqL X.K H p xs ∧ k = !xs.isEmpty) ∨ (∃ xs, SqT X.K H p xs ∧ k = !xs.isEmpty) ∨ ∃ kvs, H p = some (.dK kvs) ∧ k = !kvs.isEmpty := e
    rcases e' with ⟨xs, hx, e'⟩ | ⟨xs, hx, e'⟩ | ⟨kvs, hx, e'⟩
    · subst e'
      obtain ⟨its, r, pl, hz⟩ := I.list hx
      have hlen := r.length
      exact wpAny_truthy_list pl.isList (by simp only [List.size_toArray]; omega) ⟨H, I.tok _, by rw [isEmpty_of r]; exact q⟩
    · subst e'
      obtain ⟨its, r, pl, hz⟩ := I.tuple hx
      have hlen := r.length
      exact truthy_tuple pl (by simp only [List.size_toArray]; omega) ⟨H, I.tok _, by rw [isEmpty_of r]; exact q⟩
    · subst e'
      obtain ⟨hz, hS, vs, r, m⟩ : kvs.length ≤ sizeLine ∧ (p == sysModules) = false ∧ ∃ vs, KV kvs vs ∧ s.heap.DictOf (mixKind X.prog X.w) p vs := I.hok p _ hx
      have hlen : kvs.length = vs.length := Paired.length r
      exact wpAny_truthy_dict hS m (by omega) ⟨H, I.tok _, by rw [isEmpty_kv r]; exact q⟩
  | _ => exact (show False from e).elim
theorem pt_truth (ha : PE X a ta) (he : ∀ whole, isTrue a X.env whole = (do let v ← whole; standAt a.pos; holding [v] (truthy v))) :
    PT X a (fun σ H Q => ta σ H fun x H' => ∃ k, TruV X.K x H' k ∧ Q k H') := by
  intro pins s σ H Q I h
  exact isTrue_plain (thn (ha pins s σ H _ I h) fun v s1 ⟨x, H1, I1, r1, q1⟩ => tru_ok pins s1 σ H1 x v Q I1 r1 q1) (he _)
theorem vals1 {x : V} {us : List Value} (r : Vals [x] us) : ∃ u, us = [u] ∧ RelV x u := by
  cases r with
  | cons r1 r2 => cases r2; exact ⟨_, rfl, r1⟩
theorem vals2 {x y : V} {us : List Value} (r : Vals [x, y] us) : ∃ u w', us = [u, w'] ∧ RelV x u ∧ RelV y w' := by
  cases r with
  | cons r1 r2 =>
    cases r2 with
    | cons r3 r4 => cases r4; exact ⟨_, _, rfl, r1, r3⟩
noncomputable def LenV (K : PySem.W.Frag) (x : V) (H : Hp) (n : Nat) : Prop :=
  match x with
  | .str y => y.length ≤ sizeLine ∧ n = y.length
  | .byt y => y.size ≤ sizeLine ∧ n = y.size
  | .ref p => (∃ xs, SqL K H p xs ∧ n = xs.length) ∨ ∃ xs, SqT K H p xs ∧ n = xs.length
  | _ => False
theorem call_len : CallR X (.builtin "len") (fun xs H Q => ∃ x n, xs = [x] ∧ LenV X.K x H n ∧ Q (.int n) H) := by
  intro pins s σ H xs us Q I r h
  obtain ⟨x, n, rfl, e, q⟩ := h
  obtain ⟨u, rfl, rx⟩ := vals1 r
  have hl := line63
  have hs : sizeLine = 16777216 := sizeLine_eq
  cases x with
  | str y =>
    obtain ⟨t, rfl⟩ := rx
    obtain ⟨hy, e'⟩ : y.length ≤ sizeLine ∧ n = y.length := e
    subst e'
    exact len_str (by omega) ⟨.int _, H, I.tok _, ⟨_, rfl⟩, q⟩
  | byt y =>
    obtain ⟨t, rfl⟩ := rx
    obtain ⟨hy, e'⟩ : y.size ≤ sizeLine ∧ n = y.size := e
    subst e'
    exact PySem.W.len_bytes (by omega) ⟨.int _, H, I.tok _, ⟨_, rfl⟩, q⟩
  | ref p =>
    cases rx
    have e' : (∃ xs, SqL X.K H p xs ∧ n = xs.length) ∨ ∃ xs, SqT X.K H p xs ∧ n = xs.length := e
    rcases e' with ⟨xs, hx, e'⟩ | ⟨xs, hx, e'⟩
    · subst e'
      obtain ⟨its, r', pl, hz⟩ := I.list hx
      have hlen := r'.length
      exact Calls.call_len_list pl.isList (by simp only [List.size_toArray]; omega) ⟨.int xs.length, H, I.tok _, ⟨_, by simp only [List.size_toArray]; rw [hlen]⟩, q⟩
    · subst e'
      obtain ⟨its, r', pl, hz⟩ := I.tuple hx
      have hlen := r'.length
      exact len_tuple pl (by simp only [List.size_toArray]; omega) ⟨.int xs.length, H, I.tok _, ⟨_, by simp only [List.size_toArray]; rw [hlen]⟩, q⟩
  | _ => exact (show False from e).elim
end
end L2
namespace L2
open PySem PySem.Spec PyProof.Rows
section
variable {prog : Program} {w : World} {A : Around} {E : Value → Shared → Prop} {s : Shared} {K : PySem.W.Frag} {x dx C f : Addr} {mA : Str → Option Value} {name : Str} {v : Value}
end
section
variable {P : Program} {w : World} {H H' : Hp} {h h' : Heap} {a C dx : Addr} {fs fs' : List (Str × V)}
end
section
variable {X : Cx} {pins : List (Addr × Obj)} {σ : St} {H : Hp} {s : Shared} {a C dx : Addr} {fs : List (Str × V)} {f : Str} {v : V} {A : Around} {E : Value → Shared → Prop}
end
section
variable {X : Cx} {o e value : Expr} {f : Str} {pos pos' tpos : Pos} {ta tv : TE}
end
section
variable {X : Cx} {pins : List (Addr × Obj)} {σ : St} {H : Hp} {s : Shared} {A : Around} {E : Value → Shared → Prop} {Q : Value → Shared → Prop} {c : Value} {b : Bool}
end
end L2
namespace L2
open PySem PySem.Spec PyProof.Rows
structure Room (k : Nat) (A : Around) : Prop where
  hd : A.handled = none
  dp : A.depth + 3 * k + 5 < recursionLimit
  un : A.units + 16 * k + 200 < cLine
theorem Room.mono {j k : Nat} {A : Around} (r : Room k A) (h : j ≤ k) : Room j A := ⟨r.hd, by have := r.dp; omega, by have := r.un; omega⟩
theorem Room.deeper {k : Nat} {A : Around} (r : Room (k + 1) A) (env : Env) : Room k (A.deeper env) :=
  ⟨r.hd, by have := r.dp; show A.depth + 1 + 3 * k + 5 < _; omega, by have := r.un; show A.units + 3 + 16 * k + 200 < _; omega⟩
theorem Room.depth {k : Nat} {A : Around} (r : Room k A) : A.depth < recursionLimit := by have := r.dp; omega
theorem Room.units {k : Nat} {A : Around} (r : Room k A) : A.units + 64 < cLine := by have := r.un; omega
noncomputable def tNil : TA := fun _ H Q => Q [] H
noncomputable def tCons (ta : TE) (tr : TA) : TA := fun σ H Q => ta σ H fun x H1 => tr σ H1 fun xs H2 => Q (x :: xs) H2
section
variable {X : Cx} {e : Expr} {es : List Expr} {te : TE} {t : TA} {pos : Pos}
theorem pa_nil : PA X [] tNil := fun _ _ _ _ H Q I h => Calls.spliced_nil ⟨[], H, I, .nil, h⟩
theorem pa_cons (ha : PE X e te) (hr : PA X es t) (hs : starEach (e :: es) X.env = (false, eval e X.env) :: starEach es X.env := by rfl) : PA X (e :: es) (tCons te t) := by
  intro pos pins s σ H Q I h
  rw [hs]
  show wpAny _ _ (spliced ((false, eval e X.env) :: backTo pos (starEach es X.env))) _ _ s
  refine Calls.spliced_cons (thn (ha pins s σ H _ I h) fun u s1 ⟨x, H1, I1, r1, q1⟩ => ?_)
  exact thn (hr pos pins s1 σ H1 _ I1 q1) fun us s2 ⟨xs, H2, I2, r2, q2⟩ => ⟨x :: xs, H2, I2, .cons r1 r2, q2⟩
noncomputable def tTup (t : TA) : TE := fun σ H Q => t σ H fun xs H1 => xs.length ≤ sizeLine ∧ ∀ p, H1 p = none → Q (.ref p) (upd H1 p (.tup xs))
noncomputable def tLst (t : TA) : TE := fun σ H Q => t σ H fun xs H1 => xs.length ≤ sizeLine ∧ ∀ p, H1 p = none → Q (.ref p) (upd H1 p (.lst xs))
theorem pe_tup {x1} (h : PA X es t) : PE X (.Tuple es x1 pos) (tTup t) := by
  intro pins s σ H Q I hq
  refine wpAny_Tuple_spliced (thn (h pos pins s σ H _ I hq) fun us s1 ⟨xs, H1, I1, r, z, q⟩ => ⟨by rw [← r.length]; exact z, ?_⟩)
  have hf : H1 s1.heap.objs.size = none := I1.hok.fresh (Nat.le_refl _)
  refine ⟨.ref s1.heap.objs.size, upd H1 s1.heap.objs.size (.tup xs), I1.laid (t' := s1.toks) (fun b u e => Heap.get?_push_of_some _ e) (Nat.le_refl _) ?_, rfl, q _ hf⟩
  exact ⟨z, us, r, ⟨_, Heap.get?_push_size _ rfl, rfl, _, rfl⟩⟩
theorem pe_lst (h : PA X es t) : PE X (.List es pos) (tLst t) := by
  intro pins s σ H Q I hq
  refine wpAny_List_spliced (thn (h pos pins s σ H _ I hq) fun us s1 ⟨xs, H1, I1, r, z, q⟩ => ⟨by rw [← r.length]; exact z, ?_⟩)
  have hf : H1 s1.heap.objs.size = none := I1.hok.fresh (Nat.le_refl _)
  refine ⟨.ref s1.heap.objs.size, upd H1 s1.heap.objs.size (.lst xs), I1.laid (t' := s1.toks) (fun b u e => Heap.get?_push_of_some _ e) (Nat.le_refl _) ?_, rfl, q _ hf⟩
  exact ⟨z, us, 0, r, Heap.get?_push_size _ rfl⟩
end
noncomputable abbrev Sp := List V → Hp → VK → XK → Prop
noncomputable abbrev CXT := List Env → Hp → Shared → XK → Value → Shared → Prop
structure Env0 (P : Program) (w : World) (K : PySem.W.Frag) (mg : Str → Option Value) (base : Heap) (A : Around) (outer : List Env) (s : Shared) (H : Hp) : Prop where
  frames : A.frames = some outer
  mod : Mod K mg base
  bs : ∀ b o, base.get? b = some o → s.heap.get? b = some o ∧ H b = none
  bsz : base.objs.size ≤ s.heap.objs.size
  funs : s.heap.FunFrames base outer
  frf : ∀ b ∈ frs outer, H b = none
  hok : HOk P w H s.heap
  bare : AllBare s.gens
noncomputable def CE (outer : List Env) (P : Program) (w : World) (H : Hp) (s : Shared) (Q : VK) (u : Value) (s' : Shared) : Prop :=
  ∃ v H', s'.os = s.os ∧ AllBare s'.gens ∧ Un (frs outer) [] H H' s.heap s'.heap ∧ HOk P w H' s'.heap ∧ RelV v u ∧ Q v H'
noncomputable def CR (CX : CXT) (outer : List Env) (P : Program) (w : World) (H : Hp) (s : Shared) (Q : VK) (E : XK) (r : Result) (s' : Shared) : Prop :=
  match r with
  | .ok (.ret u) => CE outer P w H s Q u s'
  | .ok _ => False
  | .error e => CX outer H s E e s'
structure FnOk (P : Program) (w : World) (K : PySem.W.Frag) (mg : Str → Option Value) (base : Heap) (CX : CXT) (k : Nat) (f : Addr) (fd : FuncData) (ps : List Str) (sp : Sp) : Prop where
  len : ∀ vs H Q E, sp vs H Q E → vs.length = ps.length
  run : ∀ (A : Around) (outer : List Env) (s : Shared) (H : Hp) (args : Args) (us : List Value) (vs : List V) (Q : VK) (E : XK), Room k A → Env0 P w K mg base A outer s H → BindsTo s fd args (ps.zip us) → Vals vs us → sp vs H Q E →
    codeAny (model P w) A (.call (.ref f) args) (CR CX outer P w H s Q E) s
theorem FnOk.mono {P : Program} {w : World} {K : PySem.W.Frag} {mg : Str → Option Value} {base : Heap} {CX : CXT} {j k : Nat} {f : Addr} {fd : FuncData} {ps : List Str} {sp : Sp} (F : FnOk P w K mg base CX j f fd ps sp) (h : j ≤ k) :
    FnOk P w K mg base CX k f fd ps sp := ⟨F.len, fun A outer s H args us vs Q E hr => F.run A outer s H args us vs Q E (hr.mono h)⟩
theorem FnOk.imp {P : Program} {w : World} {K : PySem.W.Frag} {mg : Str → Option Value} {base : Heap} {CX : CXT} {k : Nat} {f : Addr} {fd : FuncData} {ps : List Str} {sp sp' : Sp} (F : FnOk P w K mg base CX k f fd ps sp)
    (h : ∀ vs H Q E, sp' vs H Q E → sp vs H Q E) : FnOk P w K mg base CX k f fd ps sp' :=
  ⟨fun vs H Q E q => F.len vs H Q E (h _ _ _ _ q), fun A outer s H args us vs Q E hr he hb hv hs => F.run A outer s H args us vs Q E hr he hb hv (h _ _ _ _ hs)⟩
section
variable {X : Cx} {pins : List (Addr × Obj)} {σ : St} {H : Hp} {s s' : Shared}
theorem Inv.env0 (I : Inv X pins σ H s) : Env0 X.prog X.w X.K X.mg X.base X.A X.stack s H :=
  ⟨I.ok.frames, I.ok.mod, I.bs, Nat.le_trans I.ok.bsz I.sz, I.stack, I.stkFree, I.hok, I.bare⟩
theorem Inv.after {Q : VK} {u : Value} (I : Inv X pins σ H s) (h : CE X.stack X.prog X.w H s Q u s') : EP X pins σ Q u s' := by
  obtain ⟨v, H', os, bare, un, hok, r, q⟩ := h
  obtain ⟨hh, g, d, t, os'⟩ := s'
  obtain rfl : os' = s.os := os
  exact ⟨v, H', I.call (h' := hh) (g' := g) (d' := d) (t' := t) (ch := []) un hok bare (fun b z => absurd z (by simp)), r, q⟩
end
noncomputable def tCall (sp : Sp) (dvs : List V) (E : XK) (t : TA) : TE := fun σ H Q => t σ H fun vs H1 => sp (vs ++ dvs) H1 Q E
noncomputable def Binds (K : PySem.W.Frag) (fd : FuncData) (ps : List Str) (ds : List Value) : Prop :=
  ∀ (s : Shared) (us : List Value), K.In s.heap → (us ++ ds).length = ps.length → BindsTo s fd ⟨us, []⟩ (ps.zip (us ++ ds))
theorem Binds.all {K : PySem.W.Frag} {fd : FuncData} {ps : List Str} (h : ∀ us : List Value, us.length = ps.length → bindArgs fd ⟨us, []⟩ = pure (ps.zip us)) : Binds K fd ps [] := fun s us _ hl => by
  rw [List.append_nil] at hl ⊢
  exact .of_eq (h us hl)
noncomputable def Passes (CX : CXT) (X : Cx) (E : XK) : Prop := ∀ (pins : List (Addr × Obj)) (σ : St) (H : Hp) (s : Shared) (e : Value) (s' : Shared), Inv X pins σ H s → CX X.stack H s E e s' → X.xe e s'
section
variable {X : Cx} {CX : CXT} {k : Nat} {f C : Addr} {fd : FuncData} {ps : List Str} {sp : Sp} {dvs : List V} {ds : List Value} {E : XK} {x m : Str} {p pos apos : Pos} {e o : Expr} {es : List Expr} {ta : TE} {t : TA}
theorem run_fn {pins : List (Addr × Obj)} {σ : St} {H : Hp} {s : Shared} {Q : VK} {us : List Value} {vs : List V} (F : FnOk X.prog X.w X.K X.mg X.base CX k f fd ps sp) (hr : Room k X.A) (hb : Binds X.K fd ps ds) (hd : Vals dvs ds) (hx : Passes CX X E)
    (I : Inv X pins σ H s) (r : Vals vs us) (h : sp (vs ++ dvs) H Q E) : wpAny (model X.prog X.w) X.A (call (.ref f) us) (EP X pins σ Q) X.xe s := by
  have r2 : Vals (vs ++ dvs) (us ++ ds) := r.append hd
  have hl : (us ++ ds).length = ps.length := by rw [← r2.length]; exact F.len _ _ _ _ h
  refine wpAny_call (codeAny_mono (F.run X.A X.stack s H ⟨us, []⟩ (us ++ ds) (vs ++ dvs) Q E hr I.env0 (hb s us I.kIn hl) r2 h) fun r s' hq => ?_)
  cases r with
  | error e => exact hx pins σ H s e s' I hq
  | ok fl =>
    cases fl with
    | ret u => exact I.after hq
    | next => exact False.elim hq
    | brk => exact False.elim hq
    | cont => exact False.elim hq
theorem pe_call (F : FnOk X.prog X.w X.K X.mg X.base CX k f fd ps sp) (hr : Room k X.A) (hg : Gl X x) (hm : X.mg x = some (.ref f)) (hk : PySem.W.keepIn X.K (.ref f) = true) (hb : Binds X.K fd ps ds) (hd : Vals dvs ds) (hx : Passes CX X E)
    (ha : PA X (e :: es) t) (hdb : (x == ("__debug__" : Str)) = false := by decide) (he : starEach (e :: es) X.env = (false, eval e X.env) :: starEach es X.env := by rfl) (hpl : (backTo pos (starEach es X.env)).any (·.1) = false := by rfl) :
    PE X (.Call (.Name x p) (e :: es) [] pos) (tCall sp dvs E t) := by
  intro pins s σ H Q I h
  refine wpAny_Call_Name_kw (ld_glob I hg hm ?_ hdb)
  refine PySem.W.callWith_K (h₀ := X.base) I.ok.mod.kin hk (thn (ha pos pins s σ H _ I h) fun us s1 ⟨vs, H1, I1, r, q⟩ => ⟨I1.kIn, ?_⟩) he hpl
  exact run_fn F hr hb hd hx I1 r q
end
section
variable {X : Cx} {CX : CXT} {k : Nat} {f C : Addr} {fd : FuncData} {ps ks : List Str} {sp : Sp} {E : XK} {x m : Str} {p pos apos kpos : Pos} {e o : Expr} {es : List Expr} {kws : List Keyword} {te ta : TE} {t tk : TA} {nm : Option Str}
variable {g : List Value → List Value → List Value} {gV : List V → List V → List V}
end
structure FnScope (N P : List Str) (sc : Scope) : Prop where
  kind : sc.kind = .function
  co : sc.isCoroutine = false
  gen : sc.isGenerator = false
  nd : N.Nodup
  pre : N.take P.length = P
  par : ∀ x ∈ P, sc.names.lookup x = some .local ∨ sc.names.lookup x = some .cell
  nofree : ∀ y ∈ sc.names, y.2 ≠ .free
theorem bindL_out {kindOf : Str → Option NameKind} {x : Str} : ∀ {binds : List (Str × Value)} {m : Str → Option Value}, (∀ v, (x, v) ∉ binds) → bindL kindOf binds m x = m x
  | [], _, _ => rfl
  | (n, v) :: r, m, h => by
    unfold bindL
    rw [bindL_out fun w hw => h w (List.mem_cons_of_mem _ hw)]
    split
    · have : x ≠ n := by rintro rfl; exact h v List.mem_cons_self
      simp [this]
    · rfl
theorem bindC_out {kindOf : Str → Option NameKind} {x : Str} : ∀ {binds : List (Str × Value)} {m : Str → Option Value}, (∀ v, (x, v) ∉ binds) → bindC kindOf binds m x = m x
  | [], _, _ => rfl
  | (n, v) :: r, m, h => by
    unfold bindC
    rw [bindC_out fun w hw => h w (List.mem_cons_of_mem _ hw)]
    split
    · rfl
    · have : x ≠ n := by rintro rfl; exact h v List.mem_cons_self
      simp [this]
theorem bindL_get {kindOf : Str → Option NameKind} {x : Str} {v : Value} : ∀ {P : List Str} {vs : List Value} {i : Nat} {m : Str → Option Value}, P.Nodup → P[i]? = some x → vs[i]? = some v → kindOf x = some .local →
    bindL kindOf (P.zip vs) m x = some v
  | [], _, _, _, _, h, _, _ => by simp at h
  | _ :: _, [], _, _, _, _, h, _ => by simp at h
  | p :: P, w :: vs, 0, m, nd, h1, h2, hk => by
    simp at h1 h2; subst h1; subst h2
    show bindL kindOf ((p, w) :: P.zip vs) m p = _
    unfold bindL
    rw [bindL_out fun v hv => (List.nodup_cons.mp nd).1 (List.of_mem_zip hv).1, if_pos hk]
    simp
  | p :: P, w :: vs, i + 1, m, nd, h1, h2, hk => by
    show bindL kindOf ((p, w) :: P.zip vs) m x = _
    unfold bindL
    exact bindL_get (i := i) (List.nodup_cons.mp nd).2 (by simpa using h1) (by simpa using h2) hk
theorem bindC_get {kindOf : Str → Option NameKind} {x : Str} {v : Value} : ∀ {P : List Str} {vs : List Value} {i : Nat} {m : Str → Option Value}, P.Nodup → P[i]? = some x → vs[i]? = some v → kindOf x ≠ some .local →
    bindC kindOf (P.zip vs) m x = some v
  | [], _, _, _, _, h, _, _ => by simp at h
  | _ :: _, [], _, _, _, _, h, _ => by simp at h
  | p :: P, w :: vs, 0, m, nd, h1, h2, hk => by
    simp at h1 h2; subst h1; subst h2
    show bindC kindOf ((p, w) :: P.zip vs) m p = _
    unfold bindC
    rw [bindC_out fun v hv => (List.nodup_cons.mp nd).1 (List.of_mem_zip hv).1, if_neg hk]
    simp
  | p :: P, w :: vs, i + 1, m, nd, h1, h2, hk => by
    show bindC kindOf ((p, w) :: P.zip vs) m x = _
    unfold bindC
    exact bindC_get (i := i) (List.nodup_cons.mp nd).2 (by simpa using h1) (by simpa using h2) hk
noncomputable def start (N : List Str) (vs : List V) : St := vs.map some ++ List.replicate (N.length - vs.length) none
noncomputable def cxOf (CX : CXT) (P : Program) (w : World) (K : PySem.W.Frag) (mg : Str → Option Value) (base : Heap) (N : List Str) (qual : Str) (scope : Scope) (f : Addr) (cd : Value) (A : Around) (outer : List Env) (s : Shared) (H : Hp) (E : XK) : Cx where
  prog := P
  w := w
  K := K
  mg := mg
  base := base
  A := A.deeper (envOfC qual scope s.heap.objs.size f cd)
  N := N
  s₀ := s
  H₀ := H
  env := envOfC qual scope s.heap.objs.size f cd
  outer := outer
  stack := envOfC qual scope s.heap.objs.size f cd :: outer
  ex := []
  calm := true
  fn := fun _ => true
  pn := []
  xe := fun e s' => wpAny (model P w) (A.deeper (envOfC qual scope s.heap.objs.size f cd)) (leaving (envOfC qual scope s.heap.objs.size f cd) e) (fun _ s'' => CX outer H s E e s'') (fun e' s'' => CX outer H s E e' s'') s'
theorem cell_has {sc : Scope} {n : Nat} {x : Str} (h : sc.names.lookup x = some .cell) : ∃ c, (cellsFrom n sc.names []).lookup x = some c := by
  have q := PySem.W.cellsFrom_some sc.names n [] (.inl h)
  exact Option.isSome_iff_exists.mp q
theorem inv_start {CX : CXT} {P : Program} {w : World} {K : PySem.W.Frag} {mg : Str → Option Value} {base : Heap} {N ps : List Str} {qual : Str} {scope : Scope} {f : Addr} {cd : Value} {A : Around} {outer : List Env} {s s1 : Shared} {H : Hp} {E : XK} {us : List Value} {vs : List V}
    (S : FnScope N ps scope) (hd : A.handled = none) (e0 : Env0 P w K mg base A outer s H) (hl : vs.length = ps.length) (r : Vals vs us)
    (x : InCallC s s.heap.objs.size (bindL (envOfC qual scope s.heap.objs.size f cd).kindOf (ps.zip us) fun _ => none) (cellsFrom (s.heap.objs.size + 1) scope.names []) (bindC (envOfC qual scope s.heap.objs.size f cd).kindOf (ps.zip us) fun _ => none) s1) :
    Inv (cxOf CX P w K mg base N qual scope f cd A outer s H E) [] (start N vs) H s1 := by
  have hpl : ps.length ≤ N.length := by have := congrArg List.length S.pre; rw [List.length_take] at this; omega
  obtain ⟨h1, tk, rfl, hk⟩ := x.done
  have noA : ∀ b : Addr, b ∉ (cxOf CX P w K mg base N qual scope f cd A outer s H E).ex := fun b z => absurd (show b ∈ ([] : List Addr) from z) (by simp)
  refine ⟨⟨e0.mod, S.kind, rfl, rfl, Nat.le_refl _, fun y z c h1 h2 => ?_, fun y hy => ?_, fun y c _ h => ?_, fun _ => hd, Around.frames_deeper e0.frames, .inr ⟨rfl, rfl⟩, fun b z => absurd z (noA b), e0.bs, e0.bsz, fun b _ _ => noA b, fun b z => absurd z (noA b), e0.funs, e0.frf⟩,
    rfl, e0.bare, Un.kept hk, ⟨_, x.toInCall.ns, fun i y v h1 h2 h3 => ?_⟩, fun y c h => ⟨_, x.cell y c h⟩, e0.hok.fresh (Nat.le_refl _), fun y c h => ?_, fun p hp => absurd (show p ∈ ([] : List (Addr × Obj)) from hp) (by simp), e0.hok.kept hk, ?_⟩
  · exact name_of_addr x.apart (PySem.mem_of_lookup h1) (PySem.mem_of_lookup h2)
  · have hy : scope.names.lookup y = some .cell ∨ scope.names.lookup y = some .free := hy
    rcases hy with hy | hy
    · exact cell_has hy
    · exact absurd rfl (S.nofree _ (PySem.mem_of_lookup hy))
  · exact Nat.le_of_lt (x.above y c (PySem.mem_of_lookup h))
  · have hi : i < vs.length := by
      unfold start at h2
      by_cases hi : i < vs.length
      · exact hi
      · rw [List.getElem?_append_right (by simpa using hi)] at h2
        rw [List.getElem?_replicate] at h2
        split at h2 <;> cases h2
    have ha : vs[i]? = some v := by
      unfold start at h2
      rw [List.getElem?_append_left (by simpa using hi), List.getElem?_map] at h2
      cases e : vs[i]? with
      | none => rw [e] at h2; cases h2
      | some a => rw [e] at h2; cases h2; rfl
    obtain ⟨u, hu, rv⟩ := r.get ha
    have hp : ps[i]? = some y := by
      rw [← S.pre, List.getElem?_take_of_lt (by omega)]; exact h1
    have ndP : ps.Nodup := by rw [← S.pre]; exact S.nd.sublist (List.take_sublist _ _)
    refine ⟨u, rv, ?_⟩
    rcases S.par y (List.mem_of_getElem? hp) with k | k
    · exact .inl ⟨k, bindL_get ndP hp hu k⟩
    · obtain ⟨c, e⟩ := cell_has (n := s.heap.objs.size + 1) k
      refine .inr ⟨.inl k, c, e, ?_⟩
      have q := x.cell y c e
      rw [bindC_get ndP hp hu (by show scope.names.lookup y ≠ _; rw [k]; decide)] at q
      exact q
  · exact e0.hok.fresh (Nat.le_of_lt (x.above y c (PySem.mem_of_lookup h)))
  · unfold start
    show _ = N.length
    rw [List.length_append, List.length_map, List.length_replicate]
    omega
theorem fn_of {CX : CXT} {P : Program} {w : World} {K : PySem.W.Frag} {mg : Str → Option Value} {base : Heap} {k : Nat} {f : Addr} {name qual : Str} {params : Arguments} {body : List Stmt} {scope : Scope} {dV kV doc pm cdv ct oc : Value} {an od : Option Addr}
    {osl : Array (Option Value)} {N ps : List Str} {sp : Sp} (lk : K.lookup f = some ⟨oc, od, .func (PySem.W.fnOf name qual params body scope dV kV doc pm an cdv ct), osl⟩) (hcd : PySem.W.codeIn K cdv qual = true) (S : FnScope N ps scope)
    (len : ∀ vs H Q E, sp vs H Q E → vs.length = ps.length)
    (hbody : ∀ (A : Around) (outer : List Env) (s : Shared) (H : Hp) (vs : List V) (Q : VK) (E : XK), Room k (A.deeper (envOfC qual scope s.heap.objs.size f cdv)) → sp vs H Q E →
      ∃ t, PSs (cxOf CX P w K mg base N qual scope f cdv A outer s H E) body t ∧ t { nx := fun _ H' => Q .non H', rt := Q } (start N vs) H) :
    FnOk P w K mg base CX (k + 1) f (PySem.W.fnOf name qual params body scope dV kV doc pm an cdv ct) ps sp := by
  refine ⟨len, fun A outer s H args us vs Q E hr e0 hb r hsp => ?_⟩
  have hl := len _ _ _ _ hsp
  have KX : K.In s.heap := e0.mod.kin.keeps fun b o e => (e0.bs b o e).1
  have lim : s.heap.NoLimit := e0.mod.nolimit.keeps fun b o e => (e0.bs b o e).1
  have hkind : ∀ y ∈ ps.zip us, scope.names.lookup y.1 = some .local ∨ (scope.names.lookup y.1 = some .cell ∧ ((cellsFrom (s.heap.objs.size + 1) scope.names []).lookup y.1).isSome = true) := fun ⟨n, v⟩ hy => by
    rcases S.par n (List.of_mem_zip hy).1 with q | q
    · exact .inl q
    · exact .inr ⟨q, PySem.W.cellsFrom_some _ _ _ (.inl q)⟩
  refine codeAny_call_function hr.depth (KX _ _ lk) rfl S.co S.gen rfl (PySem.W.codeRec_of KX hcd) (hb _ _ _ _ ?_)
  refine wpAny_newFunctionEnv_cells S.kind hkind fun env he s1 x => ?_
  subst he
  refine ⟨lim.keeps x.toInCall.keep, codeAny_func ?_⟩
  obtain ⟨t, ht, hq⟩ := hbody A outer s H vs Q E (hr.deeper _) hsp
  have I : Inv (cxOf CX P w K mg base N qual scope f cdv A outer s H E) [] (start N vs) H s1 := inv_start S hr.hd e0 hl r x
  refine wpAny_mono (ht [] s1 (start N vs) H _ I hq) (fun fl s' hs => ?_) fun e s' hs => hs
  have fin : ∀ {σ' : St} {H' : Hp} {v : V} {u : Value}, Inv (cxOf CX P w K mg base N qual scope f cdv A outer s H E) [] σ' H' s' → RelV v u → Q v H' → CE outer P w H s Q u s' :=
    fun {σ' H' v u} J rv q => ⟨v, H', J.os, J.bare, J.base, J.hok, rv, q⟩
  cases fl with
  | ret u =>
    obtain ⟨v, σ', H', J, rv, q⟩ := hs
    exact fin J rv q
  | next =>
    obtain ⟨σ', H', J, q⟩ := hs
    exact fin (v := V.non) (u := Value.none) J rfl q
  | brk =>
    obtain ⟨_, _, _, q⟩ := hs
    exact False.elim q
  | cont =>
    obtain ⟨_, _, _, q⟩ := hs
    exact False.elim q
end L2
namespace L2
open PySem PySem.Spec PyProof.Rows
section
variable {X : Cx} {x : Str} {p pos : Pos} {e : Expr} {es : List Expr} {t : TA} {id T : String} {r : List V → Hp → VK → Prop}
noncomputable def tCB (r : List V → Hp → VK → Prop) (t : TA) : TE := fun σ H Q => t σ H fun vs H1 => r vs H1 Q
theorem pe_callB (hc : CallR X (.builtin id) r) (hg : Gl X x) (hm : X.mg x = none) (hv : bootBuiltins x = some (.builtin id)) (ha : PA X (e :: es) t) (hn : x ≠ "__name__" := by decide) (hdb : (x == ("__debug__" : Str)) = false := by decide)
    (he : starEach (e :: es) X.env = (false, eval e X.env) :: starEach es X.env := by rfl) (hpl : (backTo pos (starEach es X.env)).any (·.1) = false := by rfl) : PE X (.Call (.Name x p) (e :: es) [] pos) (tCB r t) := by
  intro pins s σ H Q I h
  refine wpAny_Call_Name_kw (ld_blt I hg hm hv ?_ hn hdb)
  exact PyProof.Rows.callWith_builtin1 (thn (ha pos pins s σ H _ I h) fun us s1 ⟨vs, H1, I1, r1, q1⟩ => hc pins s1 σ H1 vs us Q I1 r1 q1) he hpl
theorem pe_callTy (hc : CallR X (.type T) r) (hg : Gl X x) (hm : X.mg x = none) (hv : bootBuiltins x = some (.type T)) (ha : PA X (e :: es) t) (hn : x ≠ "__name__" := by decide) (hdb : (x == ("__debug__" : Str)) = false := by decide)
    (he : starEach (e :: es) X.env = (false, eval e X.env) :: starEach es X.env := by rfl) (hpl : (backTo pos (starEach es X.env)).any (·.1) = false := by rfl) : PE X (.Call (.Name x p) (e :: es) [] pos) (tCB r t) := by
  intro pins s σ H Q I h
  refine wpAny_Call_Name_kw (ld_blt I hg hm hv ?_ hn hdb)
  exact PyProof.Rows.callWith_type1 (thn (ha pos pins s σ H _ I h) fun us s1 ⟨vs, H1, I1, r1, q1⟩ => hc pins s1 σ H1 vs us Q I1 r1 q1) he hpl
end
end L2
namespace HT
open PySem PyProof.Rows
noncomputable def lexLt : List Int → List Int → Bool
  | [], [] => false
  | [], _ :: _ => true
  | _ :: _, [] => false
  | x :: xs, y :: ys => if x = y then lexLt xs ys else decide (x < y)
theorem lexLt_cons (x y : Int) (xs ys : List Int) : lexLt (x :: xs) (y :: ys) = if x = y then lexLt xs ys else decide (x < y) := rfl
theorem lexLt_nil_nil : lexLt [] [] = false := rfl
theorem lexLt_nil_cons (y : Int) (ys : List Int) : lexLt [] (y :: ys) = true := rfl
theorem lexLt_cons_nil (x : Int) (xs : List Int) : lexLt (x :: xs) [] = false := rfl
theorem eqAt_int (A : Around) (s : Shared) (a : Int) (t : Tok) (c : Int) (u : Tok) : ∃ e, SeqAt.EqAt A s (.int a t) (.int c u) e ∧ (e = true ↔ a = c) :=
  ⟨(a == c), SeqAt.EqAt.int_int a t c u, by simp⟩
theorem rcLt_int (A : Around) (s : Shared) (a : Int) (t : Tok) (c : Int) (u : Tok) (prog : Program) (w : World) (E : Value → Shared → Prop) (Q : Value → Shared → Prop) (h : Q (.bool (decide (a < c))) s) :
    wpAny (model prog w) A (richCompare .Lt (.int a t) (.int c u)) Q E s :=
  (PyProof.Rows.lt_int h : wpAny (model prog w) A (compareOp .Lt (.int a t) (.int c u)) Q E s)
section
open PySem.SeqAt
open PySem.AutoSeq1 (wpAny_loadPart')
open PySem.MeetsSeq PySem.MeetsSeq2 PySem.MeetsSeq3
theorem tuple_lt_ints (l b : Addr) (items items2 : Array Value) (n n2 : Nat) (dd dd2 : Option Addr) (sl sl2 : Array (Option Value)) (ns ms : List Int) (hi : IntsAre items.toList ns) (hj : IntsAre items2.toList ms) :
    Meets (Builtin.«tuple.__lt__» ⟨[.ref l, .ref b], []⟩)
      (fun _ R s => s.heap.get? l = some { cls := .type "tuple", dict := dd, data := .seq items n, slots := sl } ∧ s.heap.get? b = some { cls := .type "tuple", dict := dd2, data := .seq items2 n2, slots := sl2 } ∧
        R (.ok (.ret (.bool (lexLt ns ms)))) s) :=
  .of_wp fun prog w A R s h => by
    obtain ⟨hp, g, d, tk, os⟩ := s; obtain ⟨hl, hb, h⟩ := h
    have f2 := AutoSeq1.sub_tuple_tuple
    have z1 : items.size = ns.length := by rw [← hi.length]; simp
    have z2 : items2.size = ms.length := by rw [← hj.length]; simp
    wp_walk using wpAny_loadPart' hl, wpAny_loadPart' hb, wpAny_forIn_list _ (fun rest b s' => b.1 = none ∧ s' = ⟨hp, g, d, tk, os⟩ ∧ ∃ (vs ws : List Value) (ns' ms' : List Int), rest = vs.zip ws ∧
      IntsAre vs ns' ∧ IntsAre ws ms' ∧ ns'.length + items2.size = ms'.length + items.size ∧ R (.ok (.ret (.bool (lexLt ns' ms')))) ⟨hp, g, d, tk, os⟩) _
    case turn =>
      rintro ⟨y, x⟩ rest b s' ⟨hb', rfl, vs, ws, ns', ms', hz, hvi, hwi, hlen, hR⟩
      cases hvi with
      | nil => rw [List.zip_nil_left] at hz; cases hz
      | cons a t hvi' =>
        cases hwi with
        | nil => rw [List.zip_nil_right] at hz; cases hz
        | cons c u hwi' =>
          rw [List.zip_cons_cons] at hz
          injection hz with hyx hrest
          injection hyx with hy hx
          subst hy hx
          rw [lexLt_cons] at hR
          simp only [List.length_cons] at hlen
          obtain ⟨e, he, hiff⟩ := eqAt_int A.in1 ⟨hp, g, d, tk, os⟩ a t c u
          refine wpAny_bind (he prog w _ _ ?_)
          cases e with
          | true =>
            rw [if_pos (hiff.mp rfl)] at hR
            wp_walk
            exact ⟨rfl, rfl, _, _, _, _, hrest, hvi', hwi', by omega, hR⟩
          | false =>
            rw [if_neg (fun q => absurd (hiff.mpr q) Bool.false_ne_true)] at hR
            have hri := rcLt_int A.in1 ⟨hp, g, d, tk, os⟩ a t c u prog w
            wp_walk using hri
            exact ⟨_, rfl, by simpa using hR⟩
    case fin =>
      rintro ⟨b1, b2⟩ s' ⟨hb', rfl, vs, ws, ns', ms', hz, hvi, hwi, hlen, hR⟩
      simp only at hb'
      subst hb'
      have hv : lexLt ns' ms' = decide (items.size < items2.size) := by
        cases hvi with
        | nil =>
          cases hwi with
          | nil =>
            simp only [List.length_nil] at hlen
            rw [lexLt_nil_nil]
            exact (decide_eq_false (by omega)).symm
          | cons c u hw =>
            simp only [List.length_nil, List.length_cons] at hlen
            rw [lexLt_nil_cons]
            exact (decide_eq_true (by omega)).symm
        | cons a t hv =>
          cases hwi with
          | nil =>
            simp only [List.length_nil, List.length_cons] at hlen
            rw [lexLt_cons_nil]
            exact (decide_eq_false (by omega)).symm
          | cons c u hw =>
            rw [List.zip_cons_cons] at hz
            cases hz
      rw [hv] at hR
      wp_walk
      exact ⟨_, rfl, by simpa [Builtin.Tuple.tupleCompareSizes] using hR⟩
    case h =>
      exact ⟨rfl, rfl, items.toList, items2.toList, ns, ms, rfl, hi, hj, by omega, h⟩
end
section
variable {prog : Program} {w : World} {A : Around} {E : Value → Shared → Prop} {s : Shared}
theorem lt_tupInts {l b : Addr} {items items2 : Array Value} {ns ms : List Int} {Q : Value → Shared → Prop} (hl : IsTup s.heap l items) (hb : IsTup s.heap b items2) (hi : IntsAre items.toList ns) (hj : IntsAre items2.toList ms)
    (hu : A.units < cLine) (h : Q (.bool (lexLt ns ms)) s) : wpAny (model prog w) A (compareOp .Lt (.ref l) (.ref b)) Q E s := by
  obtain ⟨⟨cls, dd, data, sl⟩, ho, hc, n, hd⟩ := id hl
  obtain ⟨⟨cls2, dd2, data2, sl2⟩, ho2, hc2, n2, hd2⟩ := id hb
  simp only at hc hd hc2 hd2
  subst hc hd hc2 hd2
  exact richCompare_meets_room (op := .Lt) ⟨_, ho, rfl⟩ ⟨_, ho2, rfl⟩ PySem.F.slot_tuple_lt PySem.F.entry_tuple_lt (PySem.F.args_tuple_lt_2 _ _) (tuple_lt_ints l b items items2 n n2 dd dd2 sl sl2 ns ms hi hj)
    ⟨ho, ho2, show Value.bool (lexLt ns ms) ≠ Value.notImplemented ∧ Q (.bool (lexLt ns ms)) s from ⟨(fun x => nomatch x), h⟩⟩ hu
theorem cat_tup {t b : Addr} {vs ws : List Value} {Q : Value → Shared → Prop} (ht : IsTup s.heap t vs.toArray) (hb : IsTup s.heap b ws.toArray) (hv : vs ≠ [])
    (h1 : ws = [] → Q (.ref t) s) (h2 : ws ≠ [] → Q (.ref s.heap.objs.size) { s with heap := s.heap.push { cls := .type "tuple", data := .seq (vs ++ ws).toArray } })
    (hsz : vs.length + ws.length ≤ sizeLine) : wpAny (model prog w) A (binaryOp .Add (.ref t) (.ref b)) Q E s := by
  obtain ⟨⟨cls, dd, data, sl⟩, ho, hc, n, hd⟩ := id ht
  obtain ⟨⟨cls2, dd2, data2, sl2⟩, ho2, hc2, n2, hd2⟩ := id hb
  simp only at hc hd hc2 hd2
  subst hc hd hc2 hd2
  have e : vs.toArray ++ ws.toArray = (vs ++ ws).toArray := by simp
  by_cases hw : ws = []
  · exact concat_meets ⟨_, ho, rfl⟩ ⟨_, ho2, rfl⟩ noFill_tuple_add seq_tuple_add PySem.F.slot_tuple_add PySem.F.entry_tuple_add (PySem.F.args_tuple_add_2 _ _)
      (tuple_addW1 t b vs.toArray ws.toArray n n2 dd dd2 sl sl2 (by simpa using hv) (by simp [hw])) ⟨ho, ho2, h1 hw⟩
  · refine concat_meets ⟨_, ho, rfl⟩ ⟨_, ho2, rfl⟩ noFill_tuple_add seq_tuple_add PySem.F.slot_tuple_add PySem.F.entry_tuple_add (PySem.F.args_tuple_add_2 _ _)
      (tuple_addW2 t b vs.toArray ws.toArray n n2 dd dd2 sl sl2 (by simpa using hv) (by simpa using hw) (by rw [List.size_toArray, List.size_toArray]; exact hsz)) ⟨ho, ho2, ?_⟩
    rw [e]
    exact h2 hw
noncomputable def sIx (n d : Nat) : Option Int → Nat
  | none => d
  | some v => if v < 0 then (v + (n : Int)).toNat else min v.toNat n
end
end HT
namespace L2
open PySem PySem.Spec PyProof.Rows
noncomputable abbrev TO := St → Hp → (Option Int → Hp → Prop) → Prop
noncomputable def PO (X : Cx) (e : Option Expr) (t : TO) : Prop :=
  ∀ (pins : List (Addr × Obj)) (s : Shared) (σ : St) (H : Hp) (Q : Option Int → Hp → Prop), Inv X pins σ H s → t σ H Q →
    wpAny (model X.prog X.w) X.A (evalPart e X.env) (fun u s' => ∃ o H', Inv X pins σ H' s' ∧ IsPart u o ∧ Q o H') X.xe s
noncomputable def tPart (t : TE) : TO := fun σ H Q => t σ H fun x H1 => ∃ i, x = .int i ∧ Q (some i) H1
theorem intsAre_of {ns : List Int} : ∀ {us : List Value}, Vals (ns.map V.int) us → IntsAre us ns := by
  induction ns with
  | nil => intro us r; rw [List.map_nil] at r; cases r; exact .nil
  | cons n ns ih =>
    intro us r
    rw [List.map_cons] at r
    cases r with
    | cons r1 r2 =>
      obtain ⟨t, e⟩ := r1
      subst e
      exact .cons n t (ih r2)
section
variable {X : Cx} {e : Expr} {te : TE} {lo hi : Option Expr} {tl th : TO} {pos p2 : Pos}
theorem po_some (h : PE X e te) : PO X (some e) (tPart te) := by
  intro pins s σ H Q I hw
  rw [evalPart_some]
  refine thn (h pins s σ H _ I hw) fun u s1 ⟨x, H1, I1, r1, q1⟩ => ?_
  obtain ⟨i, rfl, q⟩ := q1
  obtain ⟨t, rfl⟩ := r1
  exact ⟨some i, H1, I1, .int i t, q⟩
noncomputable def SlR (X : Cx) (r : V → Option Int → Option Int → Hp → VK → Prop) : Prop :=
  ∀ (pins : List (Addr × Obj)) (s : Shared) (σ : St) (H : Hp) (x : V) (v vl vu : Value) (lo hi : Option Int) (sl : Addr) (Q : VK), Inv X pins σ H s → RelV x v → s.heap.IsSliceOf sl vl vu .none → IsPart vl lo → IsPart vu hi → r x lo hi H Q →
    ∃ T id, typeLookup (.type T) "__getitem__" = pure (some (.builtin id)) ∧ s.TypeIs v T ∧ wpAny (model X.prog X.w) X.A (getItem v (.ref sl)) (EP X pins σ Q) X.xe s
noncomputable def tSl (r : V → Option Int → Option Int → Hp → VK → Prop) (te : TE) (tl th : TO) : TE := fun σ H Q => te σ H fun x H1 => tl σ H1 fun l H2 => th σ H2 fun u H3 => r x l u H3 Q
theorem pe_slice {r : V → Option Int → Option Int → Hp → VK → Prop} (hr : SlR X r) (he : PE X e te) (hl : PO X lo tl) (hu : PO X hi th) : PE X (.Subscript e (.Slice lo hi none p2) pos) (tSl r te tl th) := by
  intro pins s σ H Q I h
  refine Subscript_ (thn (he pins s σ H _ I h) fun v s1 ⟨x, H1, I1, r1, q1⟩ => ?_)
  refine wpAny_Slice (thn (hl pins s1 σ H1 _ I1 q1) fun vl s2 ⟨l, H2, I2, pl, q2⟩ => thn (hu pins s2 σ H2 _ I2 q2) fun vu s3 ⟨u, H3, I3, pu, q3⟩ => ?_)
  rw [evalPart_none]
  refine wpAny_pure ?_
  have I4 : Inv X pins σ H3 { s3 with heap := s3.heap.push { cls := .type "slice", data := .fields #[vl, vu, .none] } } := I3.kept (t' := s3.toks) fun b ob q => Heap.get?_push_of_some _ q
  obtain ⟨T, id, hT, ht, hg⟩ := hr pins { s3 with heap := s3.heap.push { cls := .type "slice", data := .fields #[vl, vu, .none] } } σ H3 x v vl vu l u s3.heap.objs.size Q I4 r1 (Heap.IsSliceOf.new ..) pl pu q3
  show wpAny (model X.prog X.w) X.A (subscriptTail e (.Slice lo hi none p2) v (.ref s3.heap.objs.size)) (EP X pins σ Q) X.xe { s3 with heap := s3.heap.push { cls := .type "slice", data := .fields #[vl, vu, .none] } }
  exact tail_any (ops := [.ref s3.heap.objs.size, v]) ht hT hg (by with_unfolding_all rfl)
noncomputable def cutV (xs : List V) (lo hi : Option Int) : List V := (xs.drop (HT.sIx xs.length 0 lo)).take (HT.sIx xs.length xs.length hi - HT.sIx xs.length 0 lo)
theorem cutV_length (xs : List V) (lo hi : Option Int) : (cutV xs lo hi).length ≤ xs.length := by
  unfold cutV
  rw [List.length_take, List.length_drop]
  omega
noncomputable def rCatT (K : PySem.W.Frag) : R2 := fun x y H Q => ∃ a b xs ys, x = .ref a ∧ y = .ref b ∧ SqT K H a xs ∧ SqT K H b ys ∧ xs ≠ [] ∧ xs.length + ys.length ≤ sizeLine ∧
  (ys = [] → Q (.ref a) H) ∧ (ys ≠ [] → ∀ p, H p = none → Q (.ref p) (upd H p (.tup (xs ++ ys))))
theorem Vals.nil_iff {xs : List V} {us : List Value} (r : Vals xs us) : us = [] ↔ xs = [] := by
  cases r with
  | nil => simp
  | cons _ _ => simp
theorem op_catT : OpR X (binaryOp .Add) (rCatT X.K) := by
  intro pins s σ H x y v u Q I rx ry h
  obtain ⟨a, b, xs, ys, rfl, rfl, ha, hb, hx, hz, q1, q2⟩ := h
  cases rx
  cases ry
  obtain ⟨its, r1, p1, _⟩ := I.tuple ha
  obtain ⟨its2, r2, p2, _⟩ := I.tuple hb
  refine HT.cat_tup p1 p2 (fun z => hx (r1.nil_iff.mp z)) (fun z => ⟨.ref a, H, I, rfl, q1 (r2.nil_iff.mp z)⟩) (fun z => ?_) (by rw [← r1.length, ← r2.length]; exact hz)
  refine ⟨.ref s.heap.objs.size, _, I.laid (t' := s.toks) (o := .tup (xs ++ ys)) (fun b ob q => Heap.get?_push_of_some _ q) (Nat.le_refl _) ?_, rfl, q2 (fun w => z (r2.nil_iff.mpr w)) _ (I.hok.fresh (Nat.le_refl _))⟩
  exact ⟨by rw [List.length_append]; exact hz, _, r1.append r2, IsTup.new _ _⟩
end
end L2
namespace L2
open PySem PySem.Spec PyProof.Rows
noncomputable def ixN (n : Nat) (i : Int) : Option Nat := if 0 ≤ i then (if i < n then some i.toNat else none) else if -(n : Int) ≤ i then some (i + n).toNat else none
noncomputable def atI {α : Type} (xs : List α) (i : Int) : Option α := (ixN xs.length i).bind fun j => xs[j]?
theorem ixN_seq {n : Nat} {i : Int} {j : Nat} (h : ixN n i = some j) : seqIndex? i n = some j ∧ j < n ∧ -(n : Int) ≤ i ∧ i < n := by
  unfold ixN at h
  by_cases h0 : 0 ≤ i
  · rw [if_pos h0] at h
    by_cases h1 : i < n
    · rw [if_pos h1] at h
      have e : i.toNat = j := Option.some.inj h
      exact ⟨by rw [seqIndex_of h0 h1, e], by omega, by omega, h1⟩
    · rw [if_neg h1] at h; cases h
  · rw [if_neg h0] at h
    by_cases h1 : -(n : Int) ≤ i
    · rw [if_pos h1] at h
      have e : (i + n).toNat = j := Option.some.inj h
      exact ⟨by rw [seqIndex_neg (by omega) h1, e], by omega, h1, by omega⟩
    · rw [if_neg h1] at h; cases h
theorem atI_get {α : Type} {xs : List α} {i : Int} {v : α} (h : atI xs i = some v) : ∃ j, seqIndex? i xs.length = some j ∧ xs[j]? = some v ∧ j < xs.length ∧ -(xs.length : Int) ≤ i ∧ i < xs.length := by
  unfold atI at h
  cases e : ixN xs.length i with
  | none => rw [e] at h; cases h
  | some j =>
    rw [e] at h
    obtain ⟨h1, h2, h3, h4⟩ := ixN_seq e
    exact ⟨j, h1, h, h2, h3, h4⟩
theorem atI_nat {α : Type} {xs : List α} {j : Nat} {v : α} (h : xs[j]? = some v) : atI xs (j : Int) = some v := by
  have hj : j < xs.length := (List.getElem?_eq_some_iff.mp h).1
  have e : ixN xs.length (j : Int) = some j := by
    unfold ixN
    rw [if_pos (by omega), if_pos (by omega)]; simp
  unfold atI; rw [e]; exact h
theorem atI_last {α : Type} (xs : List α) (v : α) : atI (xs ++ [v]) (-1) = some v := by
  have hl : (xs ++ [v]).length = xs.length + 1 := by simp
  have e : ixN (xs ++ [v]).length (-1) = some xs.length := by
    unfold ixN
    rw [hl, if_neg (by decide), if_pos (by omega)]
    congr 1
    omega
  unfold atI
  rw [e]
  show (xs ++ [v])[xs.length]? = some v
  simp
noncomputable def PlainIx (b : Expr) : Prop := ∀ o i, subscripted b false o i = operate [o, i] (getItem o i)
noncomputable def IxR (X : Cx) (r : R2) : Prop :=
  ∀ (value slice : Expr) (pins : List (Addr × Obj)) (s : Shared) (σ : St) (H : Hp) (x y : V) (v u : Value) (Q : VK), Inv X pins σ H s → RelV x v → RelV y u → r x y H Q →
    subscripted slice false v u = operate [v, u] (getItem v u) → wpAny (model X.prog X.w) X.A (subscriptTail value slice v u) (EP X pins σ Q) X.xe s
noncomputable def MtR (X : Cx) (id : String) (r : V → List V → Hp → VK → Prop) : Prop :=
  ∀ (pins : List (Addr × Obj)) (s : Shared) (σ : St) (H : Hp) (x : V) (xs : List V) (v : Value) (us : List Value) (Q : VK), Inv X pins σ H s → RelV x v → Vals xs us → r x xs H Q →
    wpAny (model X.prog X.w) X.A (call (.builtin id) (v :: us)) (EP X pins σ Q) X.xe s
section
variable {X : Cx} {a b : Expr} {ta tb : TE} {pos : Pos}
theorem IxR.or {r r' : R2} (h : IxR X r) (h' : IxR X r') : IxR X (fun x y H Q => r x y H Q ∨ r' x y H Q) := by
  intro value slice pins s σ H x y v u Q I rx ry q hs
  rcases q with q | q
  · exact h value slice pins s σ H x y v u Q I rx ry q hs
  · exact h' value slice pins s σ H x y v u Q I rx ry q hs
theorem pe_ix {r : R2} (hr : IxR X r) (ha : PE X a ta) (hb : PE X b tb) (hs : PlainIx b) : PE X (.Subscript a b pos) (tOp r ta tb) := by
  intro pins s σ H Q I h
  exact Subscript_ (binT ha hb I h fun v u s2 x y H2 I2 rx ry q => hr a b pins s2 σ H2 x y v u Q I2 rx ry q (hs _ _))
noncomputable def rIxL (K : PySem.W.Frag) : R2 := fun x y H Q => ∃ p xs i v, x = .ref p ∧ y = .int i ∧ SqL K H p xs ∧ atI xs i = some v ∧ Q v H
noncomputable def rIxT (K : PySem.W.Frag) : R2 := fun x y H Q => ∃ p xs i v, x = .ref p ∧ y = .int i ∧ SqT K H p xs ∧ atI xs i = some v ∧ Q v H
noncomputable def rIxS : R2 := fun x y H Q => ∃ z i c, x = .str z ∧ y = .int i ∧ z.length ≤ sizeLine ∧ atI z.cps.toList i = some c ∧ Q (.str ⟨#[c]⟩) H
theorem ix_list : IxR X (rIxL X.K) := by
  intro value slice pins s σ H x y v u Q I rx ry h hs
  obtain ⟨p, xs, i, z, rfl, rfl, hq, he, q⟩ := h
  cases rx
  obtain ⟨t, rfl⟩ := ry
  obtain ⟨its, r, pl, hz⟩ := I.list hq
  obtain ⟨j, h1, h2, h3, h4, h5⟩ := atI_get he
  obtain ⟨w, ew, rw'⟩ := r.get h2
  have hl := r.length
  have hn := line63
  have fin : EP X pins σ Q w s := ⟨z, H, I, rw', q⟩
  by_cases h0 : 0 ≤ i
  · have hj : i.toNat = j := by
      rw [seqIndex_of h0 h5] at h1
      exact Option.some.inj h1
    exact item_listR pl.isList h0 (by omega) (by rw [hj]; simpa using ew) fin hs
  · have hj : (i + (its.toArray.size : Int)).toNat = j := by
      rw [seqIndex_neg (by omega) h4] at h1
      rw [List.size_toArray, ← hl]
      exact Option.some.inj h1
    exact subscriptTail_builtinR (x := w) pl.isList.typeIs slot_list_getitem.lookup
      (wpAny_getItem_list_neg (Q := fun r s' => r = w ∧ EP X pins σ Q r s') pl.isList (by omega) (by rw [List.size_toArray] <;> omega) (by omega) (by rw [hj]; simpa using ew) ⟨rfl, fin⟩) hs
theorem ix_tup : IxR X (rIxT X.K) := by
  intro value slice pins s σ H x y v u Q I rx ry h hs
  obtain ⟨p, xs, i, z, rfl, rfl, hq, he, q⟩ := h
  cases rx
  obtain ⟨t, rfl⟩ := ry
  obtain ⟨its, r, pl, hz⟩ := I.tuple hq
  obtain ⟨j, h1, h2, h3, h4, h5⟩ := atI_get he
  obtain ⟨w, ew, rw'⟩ := r.get h2
  have hl := r.length
  have hn := line63
  have fin : EP X pins σ Q w s := ⟨z, H, I, rw', q⟩
  exact subscriptTail_builtinR (x := w) pl.typeIs slot_tuple_getitem.lookup
    (getItem_tuple (j := j) (Q := fun r s' => r = w ∧ EP X pins σ Q r s') pl (by omega) (by omega) (by rw [List.size_toArray, ← hl]; exact h1) (by simpa using ew) ⟨rfl, fin⟩) hs
theorem ix_str : IxR X rIxS := by
  intro value slice pins s σ H x y v u Q I rx ry h hs
  obtain ⟨z, i, c, rfl, rfl, hz, he, q⟩ := h
  obtain ⟨t, rfl⟩ := rx
  obtain ⟨t', rfl⟩ := ry
  obtain ⟨j, h1, h2, h3, h4, h5⟩ := atI_get he
  have hl : z.cps.toList.length = z.length := by simp [Str.length]
  rw [hl] at h1 h4 h5
  have hn := line63
  exact tail_any (typeIs_str s z t) slot_str_getitem.lookup (getItem_str (c := c) (by
    have e1 : decide (i < -(2 ^ 63 : Int)) = false := decide_eq_false (by omega)
    have e2 : decide (i ≥ 2 ^ 63) = false := decide_eq_false (by omega)
    rw [e1, e2, Bool.or_false]) (by rw [h1]; simpa using h2) ⟨.str ⟨#[c]⟩, H, I.tok _, ⟨_, rfl⟩, q⟩) hs
noncomputable def rIx (K : PySem.W.Frag) : R2 := fun x y H Q => rIxL K x y H Q ∨ rIxT K x y H Q ∨ rIxS x y H Q
theorem ix_seq : IxR X (rIx X.K) := ix_list.or (ix_tup.or ix_str)
theorem mapSeq_set (its : List Value) (n j : Nat) (u : Value) : Obj.mapSeq (·.setIfInBounds j u) { cls := .type "list", data := .seq its.toArray n } = { cls := .type "list", data := .seq (its.set j u).toArray n } := by
  simp [Obj.mapSeq]
theorem Inv.lst {pins : List (Addr × Obj)} {σ : St} {H : Hp} {s : Shared} {p : Addr} {xs : List V} (I : Inv X pins σ H s) (h : H p = some (.lst xs)) :
    ∃ (its : List Value) (n : Nat), Vals xs its ∧ s.heap.get? p = some { cls := .type "list", data := .seq its.toArray n } ∧ xs.length ≤ sizeLine := by
  obtain ⟨z, its, n, r, e⟩ := I.hok p _ h
  exact ⟨its, n, r, e, z⟩
theorem Inv.lstUpd {pins : List (Addr × Obj)} {σ : St} {H : Hp} {s : Shared} {p : Addr} {xs ys : List V} {its its' : List Value} {n n' : Nat} {f : Obj → Obj} (I : Inv X pins σ H s) (h : H p = some (.lst xs))
    (ho : s.heap.get? p = some { cls := .type "list", data := .seq its.toArray n }) (hf : f { cls := .type "list", data := .seq its.toArray n } = { cls := .type "list", data := .seq its'.toArray n' }) (r : Vals ys its') (hz : ys.length ≤ sizeLine) (t : Nat) :
    Inv X pins σ (upd H p (.lst ys)) { s with heap := s.heap.update p f, toks := t } := by
  have e : (s.heap.update p f).get? p = some { cls := .type "list", data := .seq its'.toArray n' } := by
    rw [Heap.get?_update_self f ho (by rw [hf] <;> rfl), hf]
  refine I.write (x := p) (e := p) (by rw [h]; trivial) (.inl rfl) (fun b u hb q => (Heap.get?_update_other _ _ (Ne.symm hb)).trans q) ⟨_, e⟩ ?_
  exact ⟨hz, its', n', r, e⟩
noncomputable def rSetL : V → V → V → Hp → (Hp → Prop) → Prop := fun o i v H Q => ∃ p xs k j, o = .ref p ∧ i = .int k ∧ H p = some (.lst xs) ∧ ixN xs.length k = some j ∧ Q (upd H p (.lst (xs.set j v)))
theorem set_list : PSet X rSetL := by
  intro pins s σ H o i v ov iv u Q I ro ri rv h
  obtain ⟨p, xs, k, j, rfl, rfl, hp, hj, q⟩ := h
  cases ro
  obtain ⟨t, rfl⟩ := ri
  obtain ⟨its, n, r, ho, hz⟩ := I.lst hp
  obtain ⟨h1, h2, h3, h4⟩ := ixN_seq hj
  have hl := r.length
  have hn := line63
  have I' : Inv X pins σ (upd H p (.lst (xs.set j v))) { s with heap := s.heap.update p (Obj.mapSeq (·.setIfInBounds j u)) } :=
    I.lstUpd hp ho (mapSeq_set its n j u) (r.set rv j) (by rw [List.length_set]; exact hz) s.toks
  by_cases h0 : 0 ≤ k
  · have hk : k.toNat = j := by
      rw [seqIndex_of h0 h4] at h1
      exact Option.some.inj h1
    exact PySem.W.ki_setAt ho h0 (by omega) (by rw [List.size_toArray, ← hl]; exact h4) (by rw [hk]; exact ⟨_, I', q⟩)
  · have hk : (k + (its.toArray.size : Int)).toNat = j := by
      rw [seqIndex_neg (by omega) h3] at h1
      rw [List.size_toArray, ← hl]
      exact Option.some.inj h1
    exact PySem.W.ki_setBack ho (by omega) (by rw [List.size_toArray, ← hl]; exact h3) (by omega) (by rw [hk]; exact ⟨_, I', q⟩)
theorem slice_bounds (lo hi : Option Int) (n : Nat) : (sliceBounds lo hi none n).1 = ((HT.sIx n 0 lo : Nat) : Int) ∧ (sliceBounds lo hi none n).2.1 = ((HT.sIx n n hi : Nat) : Int) ∧ (sliceBounds lo hi none n).2.2 = 1 := by
  refine ⟨?_, ?_, rfl⟩
  · cases lo with
    | none => simp [sliceBounds, HT.sIx]
    | some i =>
      simp only [sliceBounds, HT.sIx, Option.getD_none, show (1 : Int) > 0 by decide, if_true]
      by_cases h : i < 0
      · simp only [h, if_true] <;> omega
      · simp only [h, if_false] <;> omega
  · cases hi with
    | none => simp [sliceBounds, HT.sIx]
    | some i =>
      simp only [sliceBounds, HT.sIx, Option.getD_none, show (1 : Int) > 0 by decide, if_true]
      by_cases h : i < 0
      · simp only [h, if_true] <;> omega
      · simp only [h, if_false] <;> omega
theorem slicePick_cut (its : List Value) (lo hi : Option Int) : slicePick its.toArray lo hi none = ((its.drop (HT.sIx its.length 0 lo)).take (HT.sIx its.length its.length hi - HT.sIx its.length 0 lo)).toArray := by
  obtain ⟨h1, h2, h3⟩ := slice_bounds lo hi its.toArray.size
  unfold slicePick
  rw [h1, h2, h3]
  simp only [sliceRange_one, pick_run, List.size_toArray] <;> rfl
noncomputable def rSlL (K : PySem.W.Frag) : V → Option Int → Option Int → Hp → VK → Prop := fun x lo hi H Q => ∃ a xs, x = .ref a ∧ SqL K H a xs ∧ ∀ p, H p = none → Q (.ref p) (upd H p (.lst (cutV xs lo hi)))
theorem sl_list : SlR X (rSlL X.K) := by
  intro pins s σ H x v vl vu lo hi sl Q I rx hs pl pu h
  obtain ⟨a, xs, rfl, hx, q⟩ := h
  cases rx
  obtain ⟨its, r, ht, hz⟩ := I.list hx
  have hlen := r.length
  refine ⟨"list", _, slot_list_getitem.lookup, ht.isList.typeIs, ?_⟩
  refine wpAny_getItem_list_slice ht.isList hs pl pu .none (by simp) ?_ (by rw [List.size_toArray] <;> omega)
  rw [slicePick_cut, ← hlen]
  refine ⟨.ref s.heap.objs.size, _, I.laid (t' := s.toks) (o := .lst (cutV xs lo hi)) (fun b ob q => Heap.get?_push_of_some _ q) (Nat.le_refl _) ?_, rfl, q _ (I.hok.fresh (Nat.le_refl _))⟩
  exact ⟨Nat.le_trans (cutV_length xs lo hi) hz, _, 0, (r.drop (HT.sIx xs.length 0 lo)).take (HT.sIx xs.length xs.length hi - HT.sIx xs.length 0 lo), Heap.get?_push_size _ rfl⟩
noncomputable def flatV : V → Bool
  | .non => true
  | .bl _ => true
  | .int _ => true
  | .str _ => true
  | _ => false
noncomputable def eqV : V → V → Bool
  | .non, .non => true
  | .bl a, .bl b => a == b
  | .bl a, .int b => (if a then 1 else 0) == b
  | .int a, .bl b => a == (if b then 1 else 0)
  | .int a, .int b => a == b
  | .str a, .str b => a == b
  | _, _ => false
theorem eqAt_V {A : Around} {s : Shared} {y x : V} {u v : Value} (ry : RelV y u) (rx : RelV x v) (fy : flatV y = true) (fx : flatV x = true) : SeqAt.EqAt A s u v (eqV y x) := by
  cases y with
  | non =>
    cases ry
    cases x with
    | non => cases rx; exact SeqAt.EqAt.same _
    | bl b => cases rx; exact SeqAt.EqAt.none_bool b
    | int b => obtain ⟨t, rfl⟩ := rx; exact SeqAt.EqAt.none_int b t
    | str b => obtain ⟨t, rfl⟩ := rx; exact SeqAt.EqAt.none_str b t
    | _ => exact absurd (show false = true from fx) Bool.false_ne_true
  | bl a =>
    cases ry
    cases x with
    | non => cases rx; exact SeqAt.EqAt.bool_none a
    | bl b => cases rx; exact SeqAt.EqAt.bool_bool a b
    | int b => obtain ⟨t, rfl⟩ := rx; exact SeqAt.EqAt.bool_int a b t
    | str b => obtain ⟨t, rfl⟩ := rx; exact SeqAt.EqAt.bool_str a b t
    | _ => exact absurd (show false = true from fx) Bool.false_ne_true
  | int a =>
    obtain ⟨t', rfl⟩ := ry
    cases x with
    | non => cases rx; exact SeqAt.EqAt.int_none a t'
    | bl b => cases rx; exact SeqAt.EqAt.int_bool a t' b
    | int b => obtain ⟨t, rfl⟩ := rx; exact SeqAt.EqAt.int_int a t' b t
    | str b => obtain ⟨t, rfl⟩ := rx; exact SeqAt.EqAt.int_str a t' b t
    | _ => exact absurd (show false = true from fx) Bool.false_ne_true
  | str a =>
    obtain ⟨t', rfl⟩ := ry
    cases x with
    | non => cases rx; exact SeqAt.EqAt.str_none a t'
    | bl b => cases rx; exact SeqAt.EqAt.str_bool a t' b
    | int b => obtain ⟨t, rfl⟩ := rx; exact SeqAt.EqAt.str_int a t' b t
    | str b => obtain ⟨t, rfl⟩ := rx; exact SeqAt.EqAt.str_str a t' b t
    | _ => exact absurd (show false = true from fx) Bool.false_ne_true
  | _ => exact absurd (show false = true from fy) Bool.false_ne_true
theorem call_list_of : CallR X (.type "list") (fun xs H Q => ∃ p ys, xs = [.ref p] ∧ (SqL X.K H p ys ∨ SqT X.K H p ys) ∧ ∀ l, H l = none → Q (.ref l) (upd H l (.lst ys))) := by
  intro pins s σ H xs us Q I r h
  obtain ⟨p, ys, rfl, hq, q⟩ := h
  obtain ⟨u, rfl, rx⟩ := vals1 r
  cases rx
  have fin : ∀ (its : List Value), Vals ys its → ys.length ≤ sizeLine → ∀ (h' : Heap) (c' : Nat), (∀ b o', s.heap.get? b = some o' → h'.get? b = some o') →
      h'.get? s.heap.objs.size = some { cls := .type "list", dict := none, data := .seq its.toArray c', slots := #[] } → EP X pins σ Q (.ref s.heap.objs.size) { s with heap := h' } := fun its r' hz h' c' kp e =>
    ⟨.ref s.heap.objs.size, _, I.laid (t' := s.toks) kp (Nat.le_refl _) (show ObjOk X.prog X.w _ h' _ (.lst ys) from ⟨hz, its, c', r', e⟩), rfl, q _ (I.hok.fresh (Nat.le_refl _))⟩
  rcases hq with hq | hq
  · obtain ⟨its, r', pl, hz⟩ := I.list hq
    have hlen := r'.length
    obtain ⟨o, ho, hc, n, hd⟩ := pl.isList
    exact call_list_seq p (.inl rfl) ho hc hd (fun h' c' kp e => fin its r' hz h' c' kp e) (by simp only [List.size_toArray] <;> omega)
  · obtain ⟨its, r', pl, hz⟩ := I.tuple hq
    have hlen := r'.length
    obtain ⟨o, ho, hc, n, hd⟩ := pl
    exact call_list_seq p (.inr rfl) ho hc hd (fun h' c' kp e => fin its r' hz h' c' kp e) (by simp only [List.size_toArray] <;> omega)
theorem call_tuple_of : CallR X (.type "tuple") (fun xs H Q => ∃ p ys, xs = [.ref p] ∧ ((SqL X.K H p ys ∧ ∀ l, H l = none → Q (.ref l) (upd H l (.tup ys))) ∨ (SqT X.K H p ys ∧ Q (.ref p) H))) := by
  intro pins s σ H xs us Q I r h
  obtain ⟨p, ys, rfl, h⟩ := h
  obtain ⟨u, rfl, rx⟩ := vals1 r
  cases rx
  rcases h with ⟨hq, q⟩ | ⟨hq, q⟩
  · obtain ⟨its, r', pl, hz⟩ := I.list hq
    have hlen := r'.length
    refine call_tuple_list pl.isList (fun h' kp => ?_) (by simp only [List.size_toArray] <;> omega)
    have I1 : Inv X pins σ H { s with heap := h' } := I.kept (t' := s.toks) kp
    have I2 : Inv X pins σ (upd H h'.objs.size (.tup ys)) { s with heap := h'.push { cls := .type "tuple", data := .seq its.toArray } } :=
      I1.laid (t' := s.toks) (fun b o e => Heap.get?_push_of_some _ e) (Nat.le_refl _) (show ObjOk X.prog X.w _ _ _ (.tup ys) from ⟨hz, its, r', IsTup.new _ _⟩)
    exact ⟨.ref h'.objs.size, _, I2, rfl, q _ (I1.hok.fresh (Nat.le_refl _))⟩
  · obtain ⟨its, r', pl, hz⟩ := I.tuple hq
    exact call_tuple_same pl ⟨.ref p, H, I, rfl, q⟩
noncomputable def tyV (K : PySem.W.Frag) (T : String) (x : V) (H : Hp) : Prop := match x with
  | .str _ => T = "str"
  | .int _ => T = "int"
  | .ref p => (T = "list" ∧ ∃ xs, SqL K H p xs) ∨ (T = "tuple" ∧ ∃ o, K.lookup p = some o ∧ o.cls = .type "tuple" ∧ o.dict = none) ∨
      (T = "dict" ∧ ((∃ kvs, H p = some (.dK kvs)) ∨ ∃ kvs, H p = some (.dT kvs))) ∨ (T = "set" ∧ ∃ S n, H p = some (.set S n))
  | _ => False
theorem tyV_is {pins : List (Addr × Obj)} {σ : St} {H : Hp} {s : Shared} {T : String} {x : V} {v : Value} (I : Inv X pins σ H s) (r : RelV x v) (ty : tyV X.K T x H) :
    s.TypeIs v T ∧ ∀ a, v = .ref a → ∃ ob, s.heap.get? a = some ob ∧ ob.dict = none := by
  cases x with
  | str z =>
    obtain ⟨t, rfl⟩ := r
    cases (show T = "str" from ty)
    exact ⟨typeIs_str s z t, fun _ e => nomatch e⟩
  | int i =>
    obtain ⟨t, rfl⟩ := r
    cases (show T = "int" from ty)
    exact ⟨typeIs_int s i t, fun _ e => nomatch e⟩
  | ref p =>
    cases r
    rcases ty with ⟨rfl, xs, hq⟩ | ⟨rfl, o, hk, hc, hd⟩ | ⟨rfl, hk⟩ | ⟨rfl, S, n, hk⟩
    · obtain ⟨its, _, pl, _⟩ := I.list hq
      refine ⟨pl.isList.typeIs, fun a e => ?_⟩
      cases e
      obtain ⟨o, n, e, c, hd, _⟩ := pl
      exact ⟨o, e, hd⟩
    · refine ⟨⟨o, I.kIn p o hk, hc⟩, fun a e => ?_⟩
      cases e
      exact ⟨o, I.kIn _ o hk, hd⟩
    · have z : ∃ o, s.heap.get? p = some o ∧ o.ExactDict := by
        rcases hk with ⟨kvs, hk⟩ | ⟨kvs, hk⟩
        · obtain ⟨_, _, _, _, o, _, _, e, ex, _⟩ := I.hok p _ hk
          exact ⟨o, e, ex⟩
        · obtain ⟨_, _, _, _, o, _, _, e, ex, _⟩ := I.hok p _ hk
          exact ⟨o, e, ex⟩
      obtain ⟨o, e, ex⟩ := z
      refine ⟨⟨o, e, ex.1⟩, fun a e2 => ?_⟩
      cases e2
      exact ⟨o, e, ex.2.1⟩
    · obtain ⟨o, _, _, _, e, ex, _⟩ := I.hok p _ hk
      refine ⟨⟨o, e, ex.1⟩, fun a e2 => ?_⟩
      cases e2
      exact ⟨o, e, ex.2.1⟩
  | _ => exact False.elim ty
noncomputable def tBM (K : PySem.W.Frag) (T : String) (r : V → List V → Hp → VK → Prop) (to : TE) (t : TA) : TE := fun σ H Q => to σ H fun x H1 => tyV K T x H1 ∧ t σ H1 fun xs H2 => r x xs H2 Q
variable {o e : Expr} {es : List Expr} {to : TE} {t : TA} {name : Str} {apos cpos : Pos} {T id : String} {r : V → List V → Hp → VK → Prop}
theorem pe_bm (pa : PlainAttrs T) (slot : Slot T name id) (hty : typeOf (.builtin id) = pure (.type "method_descriptor")) (hm : MtR X id r) (ho : PE X o to) (ha : PA X (e :: es) t)
    (hbase : attributeBase o name X.env (eval o X.env) = eval o X.env := by rfl)
    (hfew : ((backTo cpos (starEach (e :: es) X.env)).all (fun x => !x.1) && (backToKw cpos (keywordEach [] X.env)).all (fun x => x.1.isSome)
      && decide ((e :: es).length + ([] : List Keyword).length + (if ([] : List Keyword).isEmpty then 0 else 1) < 30)) = true := by rfl)
    (hline : (apos.endLine == cpos.line) = true := by rfl) (hs : starEach (e :: es) X.env = (false, eval e X.env) :: starEach es X.env := by rfl) (hplain : (backTo cpos (starEach es X.env)).any (·.1) = false := by rfl) :
    PE X (.Call (.Attribute o name apos) (e :: es) [] cpos) (tBM X.K T r to t) := by
  intro pins s σ H Q I h
  refine wpAny_Call_method_late hbase hfew hline rfl (thn (ho pins s σ H _ I h) fun v s1 ⟨x, H1, I1, r1, ty, q1⟩ => ?_)
  obtain ⟨h1, h2⟩ := tyV_is I1 r1 ty
  refine ⟨T, id, pa, slot, hty, h1, h2, ?_⟩
  have hA := ha cpos pins s1 σ H1 _ I1 q1
  rw [hs] at hA ⊢
  refine Calls.callWith_builtin (by show (false || (backTo cpos (starEach es X.env)).any (·.1)) = false; rw [hplain] <;> rfl) (Calls.evalArgs_plain ?_)
  exact thn hA fun us s2 ⟨vs, H2, I2, r2, q2⟩ => hm pins s2 σ H2 x vs v us Q I2 r1 r2 q2
end
end L2
namespace L2
open PySem PySem.Spec PyProof.Rows
noncomputable def MtM (X : Cx) (id : String) (r : V → List V → Hp → VK → Prop) : Prop :=
  ∀ (pins : List (Addr × Obj)) (s : Shared) (σ : St) (H : Hp) (x : V) (xs : List V) (v : Value) (us : List Value) (Q : VK), Inv X pins σ H s → RelV x v → Vals xs us → r x xs H Q →
    wpAny (model X.prog X.w) X.A (call (.builtin id) (v :: us)) (EP X pins σ Q) X.xe s
theorem Vals.one : ∀ {x : V} {us : List Value}, Vals [x] us → ∃ u, us = [u] ∧ RelV x u
  | _, _, .cons r .nil => ⟨_, rfl, r⟩
section
variable {X : Cx} {pins : List (Addr × Obj)} {σ : St} {H : Hp} {s : Shared} {l b : Addr} {xs ys zs : List V}
theorem Inv.lset {its its' : List Value} {n : Nat} {f : Array Value → Array Value} {t' : Nat} (I : Inv X pins σ H s) (hH : H l = some (.lst xs))
    (e : s.heap.get? l = some { cls := .type "list", data := .seq its.toArray n }) (hf : f its.toArray = its'.toArray) (hv : Vals ys its') (hz : ys.length ≤ sizeLine) :
    Inv X pins σ (upd H l (.lst ys)) { s with heap := s.heap.update l (Obj.mapSeq f), toks := t' } := by
  have q := PySem.IsL.update e f
  rw [hf] at q
  refine I.write (x := l) (e := l) (by rw [hH]; exact trivial) (.inl rfl) (fun b' u hb hu => (Heap.get?_update_other s.heap (Obj.mapSeq f) (Ne.symm hb)).trans hu) ⟨_, q⟩ ?_
  exact ⟨hz, its', _, hv, q⟩
theorem Inv.lnew {its : List Value} {t' : Nat} (I : Inv X pins σ H s) (hv : Vals ys its) (hz : ys.length ≤ sizeLine) :
    Inv X pins σ (upd H s.heap.objs.size (.lst ys)) { s with heap := s.heap.push { cls := .type "list", data := .seq its.toArray }, toks := t' } :=
  I.laid (fun _ _ q => Heap.get?_push_of_some _ q) (Nat.le_refl _) ⟨hz, its, 0, hv, Heap.get?_push_size _ rfl⟩
theorem Inv.fresh (I : Inv X pins σ H s) : H s.heap.objs.size = none := I.hok.fresh (Nat.le_refl _)
theorem Inv.lstM (I : Inv X pins σ H s) (hH : H l = some (.lst xs)) : xs.length ≤ sizeLine ∧ ∃ (its : List Value) (n : Nat), Vals xs its ∧ xs.length = its.length ∧ s.heap.get? l = some { cls := .type "list", data := .seq its.toArray n } := by
  obtain ⟨z, its, n, r, e⟩ := I.hok l _ hH
  exact ⟨z, its, n, r, r.length, e⟩
end
section
variable {X : Cx}
noncomputable def rAppend : V → List V → Hp → VK → Prop := fun x vs H Q => ∃ l xs y, x = .ref l ∧ vs = [y] ∧ H l = some (.lst xs) ∧ xs.length < sizeLine ∧ Q .non (upd H l (.lst (xs ++ [y])))
theorem mt_append : MtM X "list.append" rAppend := by
  intro pins s σ H x vs v us Q I rx rv h
  obtain ⟨l, xs, y, rfl, rfl, hH, hz, q⟩ := h
  cases rx
  obtain ⟨u, rfl, ru⟩ := rv.one
  obtain ⟨z, its, n, r, hl, e⟩ := I.lstM hH
  refine call_meets F.slot_list_append ⟨_, e, rfl⟩ F.entry_list_append (F.args_list_append_2 _ _) (PySem.list_append l its.toArray n u (by rw [List.size_toArray]; omega)) ⟨e, ?_⟩
  refine ⟨.non, _, I.lset (its' := its ++ [u]) hH e (by simp) (r.append (.cons ru .nil)) ?_, rfl, q⟩
  rw [List.length_append, List.length_singleton]
  omega
end
section
variable {prog : Program} {w : World} {A : Around} {E : Value → Shared → Prop} {s : Shared}
end
section
variable {X : Cx}
end
end L2
namespace Att
open PySem PySem.W PySem.Calls PyProof.Rows
theorem ints_of_wellAll {P : Params} {h : Heap} : ∀ (ns : List Int) (vs : List Value), WellAll P h vs (ns.map WData.int) → IntsAre vs ns := by
  intro ns
  induction ns with
  | nil =>
    intro vs w
    rw [List.map_nil] at w
    cases w
    exact .nil
  | cons n ns ih =>
    intro vs w
    rw [List.map_cons] at w
    cases w with
    | cons a b =>
      cases a
      exact .cons _ _ (ih _ b)
theorem script_of {l : OpenLaw} {n : Nat} (hn : l.most = some n) {P : Params} {h : Heap} {args : List WData} {vals : List Value}
    (hpre : l.row.toRowW.claim.pre args = true) (hwl : WellAll P h vals args) :
    ∃ a vs ns, vals = [Value.ref a] ∧ args = [WData.list (ns.map WData.int)] ∧ h.get? a = some { cls := .type "list", data := .seq vs.toArray } ∧ IntsAre vs ns ∧ ns.length ≤ n := by
  have hsh : WShape.hasAll [] args [.list .int] = true := (pre_splitW hpre).1
  have hc : l.pre.holds [] { args := args } = true := (pre_splitW hpre).2
  obtain ⟨d, r, rfl, h1, h2⟩ := hasAllW_cons hsh
  obtain rfl := hasAllW_nil h2
  obtain ⟨xs, rfl, h3⟩ := hasW_list h1
  obtain ⟨ns, rfl⟩ := items_int h3
  have hlen : ns.length ≤ n := by
    unfold OpenLaw.pre at hc
    have h4 : (WTm.not (.lt (.lit (.int (n : Int))) (.len (.arg 0)))).holds [] { args := [.list (ns.map .int)] } = true := by
      have h4 := (holds_andW hc).1
      rw [hn] at h4
      exact h4
    have h5 := condW_of h4 (w_not (w_lt w_lit (w_len_list (w_arg rfl))))
    rw [List.length_map] at h5
    refine Nat.le_of_not_lt fun q => ?_
    have q' : (n : Int) < ((ns.length : Nat) : Int) := by omega
    first
      | (rw [decide_eq_true q'] at h5; exact absurd h5 (by decide))
      | (simp at h5; omega)
  cases hwl with
  | cons w1 w2 =>
    cases w2
    cases w1 with
    | list ho hall => exact ⟨_, _, ns, rfl, rfl, ho, ints_of_wellAll ns _ hall, hlen⟩
theorem post_true (l : OpenLaw) (args : List WData) : l.row.toRowW.claim.post args (.bool true) args = true :=
  postW_of (r := l.row.toRowW) (X := (true == true))
    (show WShape.has [] (.bool true) .bool = true by first | rfl | decide | simp [WShape.has, WShape.arms, WShape.armsAll])
    (show (WTm.eq .res (.lit (.bool true))).value [] { args := args, res := some (.bool true), after := args } = some (.bool (true == true)) from w_eq_bool (w_res rfl) w_lit) rfl
theorem attach_call {l : OpenLaw} {n : Nat} {q : Program} {loose : List Str} {XP : (Str → Option Value) → Heap → Prop} {YP : World → Heap → Prop} {d : DefRec}
    (hn : l.most = some n) (hdf : d.params.defaults = [])
    (call : ∀ (w : World) (s₀ s₁ : Shared) (mg mb : Str → Option Value) (fa : Addr) (o : Obj) (pm cd doc : Value) (a : Addr) (vs : List Value) (ns : List Int),
      Ground q loose [] XP w s₀ mg mb s₁.heap → YP w s₁.heap →
      s₁.heap.get? fa = some o → o.data = .func (docDef d.name d.params d.body d.scope pm cd doc) → s₁.heap.CodeRec cd d.name → mg d.name = some (.ref fa) →
      s₁.heap.get? a = some { cls := .type "list", data := .seq vs.toArray } → IntsAre vs ns → ns.length ≤ n → s₁.gens = #[] →
      codeAny (model l.prog w) callerA (.call (.ref fa) ⟨[.ref a], []⟩) (fun r s' => r = .ok (.ret (.bool true)) ∧ OldK s₁.heap s'.heap ∧ s'.os = s₁.os ∧ AllBare s'.gens) s₁) :
    WalkO q loose XP YP l.row.toRowW d [] (fun f vs => PySem.call f vs) := by
  intro w s₀ s₁ mg mb G Y fa o pm cd doc dV kV ho hd hcd hD hmg hg args vals as hpre hlay hrd hwl hlo
  obtain rfl : dV = .none := Dflts.none hD hdf
  obtain rfl : kV = .none := Dflts.noKw hD
  obtain ⟨a, vs, ns, rfl, rfl, hobj, hints, hlen⟩ := script_of hn hpre hwl
  refine enter_call (codeAny_mono (call w s₀ s₁ mg mb fa o pm cd doc a vs ns G Y ho (fd_plain hd) hcd hmg hobj hints hlen hg) fun r s' hq => ?_)
  obtain ⟨rfl, h2, h3, h4⟩ := hq
  exact ⟨.inl ⟨.bool true, .bool true, [], rfl, fun _ => rfl, .bool true, post_true l _, fun _ => ⟨List.Pairwise.nil, fun _ hm => (nomatch hm)⟩⟩, h2, h3, h4⟩
section
variable {prog : Program} {w : World} {A : Around} {E : Value → Shared → Prop} {s : Shared} {K : Frag}
end
end Att
namespace L2
open PySem PySem.Spec PyProof.Rows
theorem vals_ints : ∀ {vs : List Value} {ns : List Int}, IntsAre vs ns → Vals (ns.map V.int) vs
  | _, _, .nil => .nil
  | _, _, .cons n t h => .cons ⟨t, rfl⟩ (vals_ints h)
noncomputable def Only (H : Hp) : Prop := ∀ b, H b = none ∨ ∃ o xs, H b = some (.frz o (.lst xs))
theorem law_call {P : Program} {w : World} {K : PySem.W.Frag} {mg mb : Str → Option Value} {CX : CXT} {k : Nat} {fa a : Addr} {fd : FuncData} {x : Str} {sp : Sp} {s₁ : Shared} {vs : List Value} {ns : List Int}
    (KX : K.In s₁.heap) (hns : s₁.heap.Ns mainGlobals mg) (hb : s₁.heap.Ns builtinsNs mb) (hbb : ∀ x : Str, x ≠ "__name__" → mb x = bootBuiltins x) (hlim : s₁.heap.NoLimit) (hg : s₁.gens = #[])
    (ha : s₁.heap.get? a = some { cls := .type "list", data := .seq vs.toArray }) (hi : IntsAre vs ns) (hl : ns.length ≤ sizeLine) (hr : Room k callerA)
    (F : ∀ base : Heap, K.In base → base.Ns mainGlobals mg → FnOk P w K mg base CX k fa fd [x] sp) (hbind : ∀ (s : Shared) (u : Value), BindsTo s fd ⟨[u], []⟩ [(x, u)])
    (hsp : ∀ H : Hp, Only H → SqL K H a (ns.map V.int) → sp [.ref a] H (fun v _ => v = .bl true) fun _ _ _ => False)
    (hCX : ∀ H e s', CX [] H s₁ (fun _ _ _ => False) e s' → False) :
    codeAny (model P w) callerA (.call (.ref fa) ⟨[.ref a], []⟩) (fun r s' => r = .ok (.ret (.bool true)) ∧ OldK s₁.heap s'.heap ∧ s'.os = s₁.os ∧ AllBare s'.gens) s₁ := by
  have rv := vals_ints hi
  have lenV := hi.length
  have core : ∀ H : Hp, Only H → SqL K H a (ns.map V.int) → HOk P w H s₁.heap → (∀ b, H b ≠ none → b = a) → (H a ≠ none → K.lookup a = none) →
      codeAny (model P w) callerA (.call (.ref fa) ⟨[.ref a], []⟩) (fun r s' => r = .ok (.ret (.bool true)) ∧ OldK s₁.heap s'.heap ∧ s'.os = s₁.os ∧ AllBare s'.gens) s₁ := by
    intro H hO hS hok hA hK
    have base_of : ∀ {b : Addr} {o : Obj}, s₁.heap.get? b = some o → H b = none → (hidT s₁.heap H).get? b = some o := fun e n => hidT_get e n
    have noA : ∀ {b : Addr} {o : Obj} {es : Array DictEntry} {ep : Nat}, s₁.heap.get? b = some o → o.data = .dict es ep → H b = none := fun {b o es ep} e d => by
      cases q : H b with
      | none => rfl
      | some u =>
        have e' : b = a := hA b (by rw [q]; simp)
        subst e'
        rw [ha] at e; cases e
        have d' : Data.seq vs.toArray _ = Data.dict es ep := d
        cases d'
    have nsK : ∀ {b : Addr} {m : Str → Option Value}, s₁.heap.Ns b m → (hidT s₁.heap H).Ns b m := fun {b m} ⟨o, es, ep, e, d, r⟩ => ⟨o, es, ep, base_of e (noA e d), d, r⟩
    have hKb : K.In (hidT s₁.heap H) := fun b o e => base_of (KX b o e) (by
      cases q : H b with
      | none => rfl
      | some u =>
        have e' : b = a := hA b (by rw [q]; simp)
        subst e'
        rw [hK (by rw [q]; simp)] at e; cases e)
    have hM : Mod K mg (hidT s₁.heap H) := ⟨hKb, nsK hns, ⟨mb, nsK hb, hbb⟩, let ⟨mc, h1, h2⟩ := hlim; ⟨mc, nsK h1, h2⟩⟩
    have e0 : Env0 P w K mg (hidT s₁.heap H) callerA [] s₁ H := ⟨rfl, hM, fun b o e => of_hidT e, Nat.le_of_eq (hidT_size _ _), trivial, fun b hb => absurd (show b ∈ ([] : List Addr) from hb) (by simp), hok, .of_eq hg⟩
    refine codeAny_mono ((F _ hKb (nsK hns)).run callerA [] s₁ H ⟨[.ref a], []⟩ [.ref a] [.ref a] _ _ hr e0 (hbind s₁ (.ref a)) (.cons rfl .nil) (hsp H hO hS)) fun r s' h => ?_
    cases r with
    | error e => exact (hCX H e s' h).elim
    | ok fl =>
      cases fl with
      | next => exact False.elim h
      | brk => exact False.elim h
      | cont => exact False.elim h
      | ret u =>
        obtain ⟨v, H', os, bare, un, hok', r', q⟩ := h
        have q' : v = .bl true := q
        subst q'
        obtain rfl : u = Value.bool true := r'
        refine ⟨rfl, OldK.of_keep fun b o e => ?_, os, bare⟩
        cases q : H b with
        | none => exact un.keep b o e q (by intro z; exact absurd (show b ∈ ([] : List Addr) from z) (by simp)) (by simp)
        | some u =>
          rcases hO b with z | ⟨ob, xs, z⟩
          · rw [q] at z; cases z
          · have z2 := un.frzs b ob _ z
            obtain ⟨e1, _⟩ := hok b _ z
            obtain ⟨e2, _⟩ := hok' b _ z2
            rw [e] at e1; cases e1
            exact e2
  cases hk : K.lookup a with
  | some o =>
    have e := KX a o hk
    rw [ha] at e
    cases e
    refine core (fun _ => none) (fun _ => .inl rfl) (.inr ⟨_, vs.toArray, _, hk, rfl, rfl, rfl, by rw [List.size_toArray, lenV]; exact hl, by simpa using rv⟩) (fun b u z => by have z' : (none : Option HO) = some u := z; cases z') (fun b z => absurd rfl z) fun z => absurd rfl z
  | none =>
    refine core (fun b => if b = a then some (.frz { cls := .type "list", data := .seq vs.toArray } (.lst (ns.map V.int))) else none) (fun b => ?_) (.inl (.inr ⟨{ cls := .type "list", data := .seq vs.toArray }, if_pos rfl⟩)) (fun b u z => ?_) (fun b z => ?_) fun _ => hk
    · by_cases hb : b = a
      · exact .inr ⟨_, _, if_pos hb⟩
      · exact .inl (if_neg hb)
    · by_cases hb : b = a
      · have z' := (if_pos hb).symm.trans z
        cases z'
        subst hb
        exact ⟨ha, by rw [List.length_map]; exact hl, vs, _, rv, ha⟩
      · have z' := (if_neg hb).symm.trans z
        cases z'
    · by_cases hb : b = a
      · exact hb
      · exact absurd (if_neg hb) z
end L2
namespace L2
open PySem PySem.Spec PyProof.Rows
theorem walk_of {l : PySem.W.OpenLaw} {n k : Nat} {q : Program} {loose : List Str} {XP : (Str → Option Value) → Heap → Prop} {YP : World → Heap → Prop} {d : DefRec} {K : Params → PySem.W.Frag} {CX : World → CXT} {sp : World → Sp} {x : Str}
    (hn : l.most = some n) (hn2 : n ≤ sizeLine) (hdf : d.params.defaults = []) (hr : Room k callerA)
    (hY : ∀ (w : World) (h : Heap), YP w h → (K w.params).In h)
    (F : ∀ (w : World) (mg : Str → Option Value) (fa : Addr) (h : Heap), (K w.params).In h → h.Ns mainGlobals mg → mg d.name = some (.ref fa) →
      ∃ fd : FuncData, (∀ (s : Shared) (u : Value), BindsTo s fd ⟨[u], []⟩ [(x, u)]) ∧
        ∀ base : Heap, (K w.params).In base → base.Ns mainGlobals mg → FnOk l.prog w (K w.params) mg base (CX w) k fa fd [x] (sp w))
    (hsp : ∀ (w : World) (H : Hp) (a : Addr) (ns : List Int), ns.length ≤ n → Only H → SqL (K w.params) H a (ns.map V.int) → sp w [.ref a] H (fun v _ => v = .bl true) fun _ _ _ => False)
    (hCX : ∀ (w : World) (H : Hp) (s : Shared) (e : Value) (s' : Shared), CX w [] H s (fun _ _ _ => False) e s' → False) :
    PySem.W.WalkO q loose XP YP l.row.toRowW d [] (fun f vs => PySem.call f vs) := by
  refine Att.attach_call hn hdf fun w s₀ s₁ mg mb fa o pm cd doc a vs ns G Y ho hd hcd hmg hobj hints hlen hg => ?_
  have KX := hY w _ Y
  obtain ⟨fd, hb, hF⟩ := F w mg fa _ KX G.T.g hmg
  exact law_call KX G.T.g G.T.b G.T.builtins G.T.nolimit hg hobj hints (Nat.le_trans hlen hn2) hr hF hb (fun H hO hS => hsp w H a ns hlen hO hS) fun H e s' => hCX w H s₁ e s'
end L2
namespace L2
open PySem PySem.Spec PyProof.Rows
noncomputable def defArgs (s : Stmt) : Arguments := match s with
  | .FunctionDef _ a _ _ _ _ _ _ _ _ => a
  | _ => { posonlyargs := [], args := [], vararg := none, kwonlyargs := [], kw_defaults := [], kwarg := none, defaults := [] }
noncomputable def defBody (s : Stmt) : List Stmt := match s with
  | .FunctionDef _ _ b _ _ _ _ _ _ _ => b
  | _ => []
noncomputable def defScope (s : Stmt) : Scope := match s with
  | .FunctionDef _ _ _ _ _ _ sc _ _ _ => sc
  | _ => { kind := .function, names := [], isGenerator := false, isCoroutine := false }
noncomputable abbrev CX0 : CXT := fun _ _ _ _ _ _ => False
noncomputable abbrev E0 : XK := fun _ _ _ => False
theorem pass0 {X : Cx} : Passes CX0 X E0 := fun _ _ _ _ _ _ _ h => h.elim
structure Fun (K : PySem.W.Frag) (x qual : Str) (st : Stmt) (f : Addr) (fd : FuncData) : Prop where
  ex : ∃ (oc : Value) (od : Option Addr) (kV doc pm : Value) (an : Option Addr) (cdv ct : Value) (osl : Array (Option Value)),
    fd = PySem.W.fnOf x qual (defArgs st) (defBody st) (defScope st) .none kV doc pm an cdv ct ∧ K.lookup f = some ⟨oc, od, .func fd, osl⟩ ∧ PySem.W.codeIn K cdv qual = true
  kp : PySem.W.keepIn K (.ref f) = true
section
variable {P : Program} {w : World} {K : PySem.W.Frag} {mg : Str → Option Value} {base : Heap}
theorem Fun.ok {x qual : Str} {st : Stmt} {f : Addr} {fd : FuncData} {N ps : List Str} {k : Nat} {sp : Sp} (F : Fun K x qual st f fd) (S : FnScope N ps (defScope st)) (len : ∀ vs H Q E, sp vs H Q E → vs.length = ps.length)
    (hbody : ∀ (cdv : Value) (A : Around) (outer : List Env) (s : Shared) (H : Hp) (vs : List V) (Q : VK) (E : XK), Room k (A.deeper (envOfC qual (defScope st) s.heap.objs.size f cdv)) → sp vs H Q E →
      ∃ t, PSs (cxOf CX0 P w K mg base N qual (defScope st) f cdv A outer s H E).nox (defBody st) t ∧ t { nx := fun _ H' => Q .non H', rt := Q } (start N vs) H) : FnOk P w K mg base CX0 (k + 1) f fd ps sp := by
  obtain ⟨oc, od, kV, doc, pm, an, cdv, ct, osl, rfl, lk, hcd⟩ := F.ex
  refine fn_of lk hcd S len fun A outer s H vs Q E hr hsp => ?_
  obtain ⟨t, h, q⟩ := hbody cdv A outer s H vs Q E hr hsp
  exact ⟨t, h.nox, q⟩
theorem Fun.binds {x qual : Str} {st : Stmt} {f : Addr} {fd : FuncData} {ps : List Str} (F : Fun K x qual st f fd)
    (h : ∀ (kV doc pm : Value) (an : Option Addr) (cdv ct : Value) (us : List Value), us.length = ps.length → bindArgs (PySem.W.fnOf x qual (defArgs st) (defBody st) (defScope st) .none kV doc pm an cdv ct) ⟨us, []⟩ = pure (ps.zip us)) : Binds K fd ps [] := by
  obtain ⟨oc, od, kV, doc, pm, an, cdv, ct, osl, rfl, lk, hcd⟩ := F.ex
  exact .all (h kV doc pm an cdv ct)
theorem fun_mk {x qual : Str} {st : Stmt} {f : Addr} {oc : Value} {od an : Option Addr} {osl : Array (Option Value)} {kV doc pm cdv ct : Value} (l : K.lookup f = some ⟨oc, od, .func (PySem.W.fnOf x qual (defArgs st) (defBody st) (defScope st) .none kV doc pm an cdv ct), osl⟩)
    (c : PySem.W.codeIn K cdv qual = true) (k : PySem.W.keepIn K (.ref f) = true) : Fun K x qual st f (PySem.W.fnOf x qual (defArgs st) (defBody st) (defScope st) .none kV doc pm an cdv ct) := ⟨⟨oc, od, kV, doc, pm, an, cdv, ct, osl, rfl, l, c⟩, k⟩
end
section
variable {X : Cx}
end
theorem iteF {A B : Prop} (h : B) : if false = true then A else B := by
  rw [if_neg Bool.false_ne_true]
  exact h
theorem iteT {A B : Prop} (h : A) : if true = true then A else B := by
  rw [if_pos rfl]
  exact h
noncomputable def Same (H H' : Hp) : Prop := ∀ b o, H b = some o → H' b = some o
theorem Same.refl (H : Hp) : Same H H := fun _ _ h => h
theorem Same.trans {H H1 H2 : Hp} (a : Same H H1) (b : Same H1 H2) : Same H H2 := fun c o h => b c o (a c o h)
theorem Same.seq {K : PySem.W.Frag} {H H' : Hp} {a : Addr} {xs : List V} (e : Same H H') (h : SqL K H a xs) : SqL K H' a xs := by
  rcases h with (h | ⟨o, h⟩) | h
  · exact .inl (.inl (e _ _ h))
  · exact .inl (.inr ⟨o, e _ _ h⟩)
  · exact .inr h
end L2
namespace L2
open PySem PySem.Spec PyProof.Rows
section
variable {κ : Type} [DecidableEq κ]
end
section
variable {P : Program} {w : World} {H : Hp} {h : Heap} {a : Addr}
end
section
variable {X : Cx} {pins : List (Addr × Obj)} {σ : St} {H : Hp} {s : Shared} {a : Addr} {y v : V} {u r : Value} {o : Option V} {A : Around} {E : Value → Shared → Prop}
end
section
variable {X : Cx} {pins : List (Addr × Obj)} {σ : St} {H : Hp} {s : Shared} {a : Addr} {kvs : List (Key × V)} {k : Key} {u : Value} {A : Around} {E : Value → Shared → Prop}
end
section
variable {X : Cx} {o i e value : Expr} {pos pos' tpos : Pos} {td ty tv : TE}
end
section
variable {X : Cx} {pos : Pos}
end
section
variable {X : Cx} {pins : List (Addr × Obj)} {σ : St} {H : Hp} {s : Shared} {a : Addr} {y d : V} {u r : Value} {o : Option V} {A : Around} {E : Value → Shared → Prop}
end
section
variable {X : Cx} {o e f : Expr} {apos cpos : Pos} {td ty tx : TE}
end
section
variable {X : Cx} {pins : List (Addr × Obj)} {σ : St} {H : Hp} {s : Shared} {a : Addr} {kvs : List (Key × V)} {A : Around} {E : Value → Shared → Prop}
end
section
variable {X : Cx} {pins : List (Addr × Obj)} {σ : St} {H : Hp} {s : Shared} {a : Addr} {y : V} {u : Value} {A : Around} {E : Value → Shared → Prop}
end
end L2
namespace L2
open PySem PySem.Spec PyProof.Rows
section
variable {X : Cx}
noncomputable def testsOf (ifs : List Expr) (env : Env) : Sem Bool := forIn ifs true fun c r => if r = true then do let ok ← isTrue c env (eval c env); pure (ForInStep.yield ok) else pure (ForInStep.yield r)
noncomputable def PTs (X : Cx) (ifs : List Expr) (t : TT) : Prop :=
  ∀ (pins : List (Addr × Obj)) (s : Shared) (σ : St) (H : Hp) (Q : Bool → Hp → Prop), Inv X pins σ H s → t σ H Q → wpAny (model X.prog X.w) X.A (testsOf ifs X.env) (TP X pins σ Q) X.xe s
noncomputable def tYes : TT := fun _ H Q => Q true H
theorem pts_nil : PTs X [] tYes := fun pins s σ H Q I h => wpAny_tests_nil ⟨H, I, h⟩
theorem pts_one {c : Expr} {t : TT} (h : PT X c t) : PTs X [c] t := fun pins s σ H Q I q => wpAny_tests_one (h pins s σ H Q I q)
noncomputable def PB (X : Cx) (bd : Sem Unit) (t : TS) : Prop :=
  ∀ (pins : List (Addr × Obj)) (s : Shared) (σ : St) (H : Hp) (D : Ends), Inv X pins σ H s → t D σ H → wpAny (model X.prog X.w) X.A bd (fun _ s' => ∃ σ' H', Inv X pins σ' H' s' ∧ D.nx σ' H') X.xe s
noncomputable def tTurn (tt : TT) (tb : TS) : TS := fun D σ H => tt σ H fun b H1 => if b = true then tb D σ H1 else D.nx σ H1
noncomputable def tWalk (J : It) (g : TG) (tb : TS) : TS := fun D σ H => ∃ W : Nat → Nat → St → Hp → Prop, (∃ m, W 0 m σ H) ∧ ∀ i m σ H, W i m σ H →
  (J.stop i H ∧ D.nx σ H) ∨ (J.go i H ∧ ∃ N : St → Hp → Prop, (∀ σ' H', N σ' H' → ∃ m', m' < m ∧ W (i + 1) m' σ' H') ∧ ∀ x H', J.yld i H x H' → g x σ H' fun σ2 H2 => tb { D with nx := N, ct := N, bk := D.nx } σ2 H2)
noncomputable def turnOf (e : Expr) (d : Nat) (it acc : Value) (env : Env) (tg iter : Expr) (ifs : List Expr) (bd : Sem Unit) : Sem Fin := (do
      standAt iter.pos
      match ← pyNext it with
      | none => pure (.done .next)
      | some v =>
        letOwnedTupleGo tg it v
        assign tg env v
        let ok ← testsOf ifs env
        if ok then bd
        again (.compLoop e d it acc env))
noncomputable def CompEnd (X : Cx) (pins : List (Addr × Obj)) (D : Ends) (r : Result) (s' : Shared) : Prop := match r with
  | .ok _ => ∃ σ' H', Inv X pins σ' H' s' ∧ D.nx σ' H'
  | .error _ => False
theorem comp_loop {e : Expr} {d : Nat} {acc : Value} {it : Addr} {tg iter : Expr} {ifs : List Expr} {bd : Sem Unit} {J : It} {fp : List Addr} {tn : Nat → Heap → Prop} {g : TG} {tt : TT} {tb : TS} {pins : List (Addr × Obj)} {σ : St} {H : Hp} {s : Shared} {D : Ends}
    (hturn : compTurn e d (.ref it) acc X.env = turnOf e d (.ref it) acc X.env tg iter ifs bd) (hq : (Code.compLoop e d (.ref it) acc X.env).quiet = true)
    (hA : X.A.under (Code.compLoop e d (.ref it) acc X.env) = X.A) (hden : (model X.prog X.w).den (Code.compLoop e d (.ref it) acc X.env) = (compTurn e d (.ref it) acc X.env).onRaise (fun x => do noteFrame x X.env; theTreesLotGoes x))
    (hxe : X.xe = fun _ _ => False) (hc : X.calm = true) (T : Turn X.prog X.w X.K tg J fp it tn) (hg : PG X tg g) (ht : PTs X ifs tt) (hb : PB X bd tb)
    (I : Inv X pins σ H s) (st : tn 0 s.heap) (f2 : ∀ b ∈ fp, FpOk X pins H b) (h : tWalk J g (tTurn tt tb) D σ H) :
    codeAny (model X.prog X.w) X.A (.compLoop e d (.ref it) acc X.env) (CompEnd X pins D) s := by
  obtain ⟨W, ⟨m0, w0⟩, turn⟩ := h
  have stat : ∀ {H' : Hp}, (∀ b ∈ fp, H' b = none) → ∀ b ∈ fp, FpOk X pins H' b := fun hn b hb => ⟨hn b hb, (f2 b hb).2⟩
  have no : ∀ {α : Type} {t : Sem α} {Q : α → Shared → Prop} {E : Value → Shared → Prop} {s : Shared}, wpAny (model X.prog X.w) X.A t Q X.xe s → wpAny (model X.prog X.w) X.A t Q E s := fun h => by
    rw [hxe] at h; exact wpAny_noRaise h
  refine codeAny_loop hq (fun n s' => ∃ i σ' H', Inv X pins σ' H' s' ∧ tn i s'.heap ∧ (∀ b ∈ fp, H' b = none) ∧ W i n σ' H') ?_ m0 ⟨0, σ, H, I, st, fun b hb => (f2 b hb).1, w0⟩
  rintro n s3 ⟨i, σ3, H3, I3, st3, fr3, w3⟩
  rw [hA, hden, hturn]
  refine wpAny_noted ?_
  unfold turnOf
  refine wpAny_bind (wpAny_standAt (wpAny_bind ?_))
  rcases turn i n σ3 H3 w3 with ⟨stop, qn⟩ | ⟨go, N, hN, step⟩
  · refine no (thn (T.done X rfl rfl rfl hc i pins s3 σ3 H3 X.xe I3 (stat fr3) st3 stop) fun r s4 ⟨hr, I4⟩ => ?_)
    subst hr
    exact wpAny_pure ⟨σ3, H3, I4, qn⟩
  · refine no (thn (T.item X rfl rfl rfl hc i pins s3 σ3 H3 X.xe I3 (stat fr3) st3 go) fun r s4 ⟨u, hr, h4⟩ => ?_)
    subst hr
    refine wpAny_bind (no (thn h4 fun _ s5 ⟨x, H5, I5, r5, y5, st5, fr5⟩ => ?_))
    have I5' := I5.pinned (stat fr5) (T.obj _ _ st5)
    refine wpAny_bind (no (thn (hg _ s5 σ3 H5 x u _ I5' r5 (step x H5 y5)) fun _ s6 ⟨σ6, H6, I6, q6⟩ => ?_))
    have again : ∀ {s7 : Shared} {σ7 : St} {H7 : Hp}, Inv X (pins ++ pinsAt fp s5.heap) σ7 H7 s7 → N σ7 H7 → ∃ m, m < n ∧ ∃ i σ' H', Inv X pins σ' H' s7 ∧ tn i s7.heap ∧ (∀ b ∈ fp, H' b = none) ∧ W i m σ' H' := fun {s7 σ7 H7} I7 n7 => by
      obtain ⟨m', hm, w7⟩ := hN σ7 H7 n7
      refine ⟨m', hm, i + 1, σ7, H7, I7.unpinned, T.keep _ _ _ st5 fun b hb o e => (I7.pin (b, o) (List.mem_append_right _ (List.mem_append_right _ (mem_pinsAt hb e)))).1, fun b hb => ?_, w7⟩
      obtain ⟨o, e, d⟩ := T.obj _ _ st5 b hb
      exact (I7.pin (b, o) (List.mem_append_right _ (List.mem_append_right _ (mem_pinsAt hb e)))).2.1
    refine wpAny_bind (no (thn (ht _ s6 σ6 H6 _ I6 q6) fun ok s7 ⟨H7, I7, q7⟩ => ?_))
    cases ok with
    | false =>
      rw [if_neg Bool.false_ne_true] at q7
      exact wpAny_pure ⟨rfl, again I7 q7⟩
    | true =>
      rw [if_pos rfl] at q7
      refine wpAny_bind (no (thn (hb _ s7 σ6 H7 _ I7 q7) fun _ s8 ⟨σ8, H8, I8, q8⟩ => ?_))
      exact wpAny_pure ⟨rfl, again I8 q8⟩
theorem comp_start {e : Expr} {d : Nat} {acc : Value} {it : Addr} {J : It} {tg iter : Expr} {fp : List Addr} {tn : Nat → Heap → Prop} {s : Shared} {R : Result → Shared → Prop}
    (hden : (model X.prog X.w).den (Code.compStart e d (.ref it) acc X.env) = (compStart e d (.ref it) acc X.env).onRaise (fun x => do noteFrame x X.env; standAt theWindowsPlace))
    (hA : X.A.under (Code.compStart e d (.ref it) acc X.env) = X.A) (hq : (Code.compLoop e d (.ref it) acc X.env).quiet = true)
    (hst : compStart e d (.ref it) acc X.env = (ask >>= fun r => if r.params.followText "comprehension-iter-twice" = true then again (.compLoop e d (.ref it) acc X.env) else (do rule "comprehension.iter-twice"; standAt iter.pos; let it' ← pyIter (.ref it); again (.compLoop e d it' acc X.env))))
    (T : Turn X.prog X.w X.K tg J fp it tn) (st : tn 0 s.heap) (h : codeAny (model X.prog X.w) X.A (.compLoop e d (.ref it) acc X.env) R s) :
    codeAny (model X.prog X.w) X.A (.compStart e d (.ref it) acc X.env) R s := by
  refine codeAny_of_tree ?_
  rw [hA, hden]
  refine wpAny_notedAt ?_
  rw [hst]
  refine wpAny_bind (wpAny_askSetting (wpAny_ite ?_))
  split
  · exact wpAny_pure ⟨hq, h⟩
  · exact wpAny_bind (wpAny_rule (wpAny_bind (wpAny_standAt (wpAny_bind (T.self _ 0 s _ _ st (wpAny_pure ⟨hq, h⟩))))))
end
end L2
namespace L2
open PySem PySem.Spec PyProof.Rows
noncomputable def clGo (env : Env) : List (Str × NameKind) → List (Str × Addr) → List (Str × Addr)
  | [], cs => cs
  | (n, k) :: r, cs => if k == .free then clGo env r ((n, (env.cells.lookup n).getD 0) :: cs) else clGo env r cs
noncomputable def clOf (scope : Scope) (env : Env) : List (Str × Addr) := clGo env scope.names []
theorem closure_go {env : Env} : ∀ (names : List (Str × NameKind)) (cs : List (Str × Addr)), (∀ x ∈ names, x.2 = .free → ∃ c, env.cells.lookup x.1 = some c) →
    (forIn names cs fun (x : Str × NameKind) (r : List (Str × Addr)) => (if x.2 == .free then do let c ← cellOf env x.1; pure (ForInStep.yield ((x.1, c) :: r)) else pure (ForInStep.yield r) : Sem (ForInStep (List (Str × Addr))))) = pure (clGo env names cs)
  | [], cs, _ => rfl
  | (n, k) :: r, cs, h => by
    have hr := fun x hx => h x (List.mem_cons_of_mem _ hx)
    rw [List.forIn_cons]
    unfold clGo
    cases hk : (k == NameKind.free) with
    | false =>
      simp only [hk, Bool.false_eq_true, if_false, pure_bind]
      exact closure_go r cs hr
    | true =>
      obtain ⟨c, hc⟩ := h (n, k) List.mem_cons_self (by simpa using hk)
      have hc' : env.cells.lookup n = some c := hc
      simp only [hk, if_true]
      unfold cellOf
      rw [hc']
      simp only [pure_bind, Option.getD_some]
      exact closure_go r _ hr
theorem closure_is {scope : Scope} {env : Env} (h : ∀ x ∈ scope.names, x.2 = .free → ∃ c, env.cells.lookup x.1 = some c) : closureFor scope env = pure (clOf scope env) := by
  have e := closure_go (env := env) scope.names [] h
  unfold closureFor clOf
  rw [← e]
  simp only [bind_pure]
theorem mem_clGo {env : Env} {y : Str} {c : Addr} : ∀ {names : List (Str × NameKind)} {cs : List (Str × Addr)}, (∀ x ∈ names, x.2 = .free → ∃ c, env.cells.lookup x.1 = some c) → (y, c) ∈ clGo env names cs → env.cells.lookup y = some c ∨ (y, c) ∈ cs
  | [], _, _, h => .inr h
  | (n, k) :: r, cs, hf, h => by
    have hr := fun x hx => hf x (List.mem_cons_of_mem _ hx)
    unfold clGo at h
    cases hk : (k == NameKind.free) with
    | false => simp only [hk, Bool.false_eq_true, if_false] at h; exact mem_clGo hr h
    | true =>
      simp only [hk, if_true] at h
      rcases mem_clGo hr h with q | q
      · exact .inl q
      · rcases List.mem_cons.mp q with q | q
        · injection q with q1 q2
          obtain ⟨c', hc⟩ := hf (n, k) List.mem_cons_self (by simpa using hk)
          have hc' : env.cells.lookup n = some c' := hc
          rw [hc', Option.getD_some] at q2
          rw [q1, q2]; exact .inl hc'
        · exact .inr q
theorem lookup_mem_some {α : Type} : ∀ {l : List (Str × α)} {n : Str} {c : α}, (n, c) ∈ l → ∃ c', l.lookup n = some c'
  | (k, v) :: r, n, c, h => by
    rw [List.lookup_cons]
    cases hb : n == k with
    | true => exact ⟨_, rfl⟩
    | false =>
      rcases List.mem_cons.mp h with e | h
      · injection e with e1 _; rw [e1] at hb; simp at hb
      · exact lookup_mem_some h
theorem has_clGo {env : Env} {y : Str} : ∀ {names : List (Str × NameKind)} {cs : List (Str × Addr)}, ((y, NameKind.free) ∈ names ∨ ∃ c, (y, c) ∈ cs) → ∃ c, (y, c) ∈ clGo env names cs
  | [], _, h => by
    rcases h with h | h
    · exact absurd h (by simp)
    · exact h
  | (n, k) :: r, cs, h => by
    unfold clGo
    cases hk : (k == NameKind.free) with
    | false =>
      simp only [Bool.false_eq_true, if_false]
      refine has_clGo (h.imp (fun z => ?_) id)
      rcases List.mem_cons.mp z with e | z
      · injection e with _ e2; rw [← e2] at hk; simp at hk
      · exact z
    | true =>
      simp only [if_true]
      rcases h with z | ⟨c, z⟩
      · rcases List.mem_cons.mp z with e | z
        · injection e with e1 _; rw [e1]; exact has_clGo (.inr ⟨_, List.mem_cons_self⟩)
        · exact has_clGo (.inl z)
      · exact has_clGo (.inr ⟨c, List.mem_cons_of_mem _ z⟩)
theorem mem_cells {y : Str} {c : Addr} : ∀ {names : List (Str × NameKind)} {h : Heap} {cs : List (Str × Addr)}, (y, c) ∈ cellsFrom h.objs.size names cs → (y, c) ∈ cs ∨ (h.objs.size ≤ c ∧ (pushCells h names).IsCell c none ∧ (y, NameKind.cell) ∈ names)
  | [], _, _, h => .inl h
  | (n, k) :: r, h, cs, q => by
    unfold cellsFrom at q
    unfold pushCells
    cases hk : (k == NameKind.cell) with
    | false =>
      simp only [hk, Bool.false_eq_true, if_false] at q ⊢
      exact (mem_cells q).imp id fun ⟨a, b, z⟩ => ⟨a, b, List.mem_cons_of_mem _ z⟩
    | true =>
      simp only [hk, if_true] at q ⊢
      rw [show h.objs.size + 1 = (h.push { cls := .type "cell", data := .cell none }).objs.size from (Heap.size_push ..).symm] at q
      rcases mem_cells q with q | ⟨a, b, z⟩
      · rcases List.mem_cons.mp q with e | q
        · injection e with e1 e2
          have ek : k = .cell := by simpa using hk
          rw [e2, e1, ek]
          exact .inr ⟨Nat.le_refl _, (show (h.push { cls := .type "cell", data := .cell none }).IsCell h.objs.size none from ⟨_, Heap.get?_push_size _ rfl, rfl⟩).keeps (pushCells_keeps _ _), List.mem_cons_self⟩
        · exact .inl q
      · rw [Heap.size_push] at a
        exact .inr ⟨by omega, b, List.mem_cons_of_mem _ z⟩
theorem cells_inj : ∀ {names : List (Str × NameKind)} {n : Nat} {cs : List (Str × Addr)}, (∀ x ∈ cs, x.2 < n) → (∀ x y c, (x, c) ∈ cs → (y, c) ∈ cs → x = y) → ∀ x y c, (x, c) ∈ cellsFrom n names cs → (y, c) ∈ cellsFrom n names cs → x = y
  | [], _, _, _, h => h
  | (nm, k) :: r, n, cs, hl, h => by
    unfold cellsFrom
    cases hk : (k == NameKind.cell) with
    | false => simp only [Bool.false_eq_true, if_false]; exact cells_inj hl h
    | true =>
      simp only [if_true]
      refine cells_inj (fun x hx => ?_) fun x y c hx hy => ?_
      · rcases List.mem_cons.mp hx with e | hx
        · rw [e]; exact Nat.lt_succ_self _
        · exact Nat.lt_succ_of_lt (hl x hx)
      · rcases List.mem_cons.mp hx with e | hx <;> rcases List.mem_cons.mp hy with e' | hy
        · injection e with e1 _; injection e' with e1' _; rw [e1, e1']
        · injection e with _ e2; exact absurd (hl _ hy) (by rw [e2]; exact Nat.lt_irrefl _)
        · injection e' with _ e2; exact absurd (hl _ hx) (by rw [e2]; exact Nat.lt_irrefl _)
        · exact h x y c hx hy
theorem cells_keep {y : Str} : ∀ {names : List (Str × NameKind)} {n : Nat} {cs : List (Str × Addr)}, (y, NameKind.cell) ∉ names → (cellsFrom n names cs).lookup y = cs.lookup y
  | [], _, _, _ => rfl
  | (nm, k) :: r, n, cs, h => by
    have hr : (y, NameKind.cell) ∉ r := fun z => h (List.mem_cons_of_mem _ z)
    unfold cellsFrom
    cases hk : (k == NameKind.cell) with
    | false => simp only [Bool.false_eq_true, if_false]; exact cells_keep hr
    | true =>
      simp only [if_true]
      rw [cells_keep hr, List.lookup_cons]
      have : (y == nm) = false := by
        cases e : y == nm with
        | false => rfl
        | true =>
          have ek : k = .cell := by simpa using hk
          have en : y = nm := by simpa using e
          exact absurd (by rw [en, ek]; exact List.mem_cons_self) h
      rw [this]
theorem wpAny_newBlockEnv {M : Model} {A : Around} {E : Value → Shared → Prop} {s : Shared} {scope : Scope} {globals : Addr} {cl : List (Str × Addr)} {qual : Str} {env : Env} {Q : Env → Shared → Prop}
    (h : Q (newEnv scope s.heap.objs.size globals (cellsFrom (s.heap.objs.size + 1) scope.names cl) qual none .none (some env) builtinsNs) { s with heap := pushCells (s.heap.push { cls := .type "dict", data := .dict #[] }) scope.names }) :
    wpAny M A (newFunctionEnv scope globals cl [] qual none .none (some env)) Q E s := by
  simp only [newFunctionEnv, Option.isSome_some, if_true]
  refine wpAny_bind (wpAny_alloc ?_)
  refine wpAny_bind (wpAny_layCells _ (fun name kind cells => by cases hkc : kind == NameKind.cell <;> simp [hkc]) _ _ _ _ ?_)
  rw [show ({ s with heap := s.heap.push { cls := .type "dict", data := .dict #[] } } : Shared).heap.objs.size = s.heap.objs.size + 1 from Heap.size_push ..]
  exact wpAny_pure h
noncomputable def blkCx (X : Cx) (scope : Scope) (N : List Str) (s : Shared) (H : Hp) (fp : List Addr) : Cx where
  prog := X.prog
  w := X.w
  K := X.K
  mg := X.mg
  base := X.base
  A := X.A
  N := N
  s₀ := s
  H₀ := H
  env := { scope := relabel scope X.env, locals := s.heap.objs.size, globals := X.env.globals, cells := cellsFrom (s.heap.objs.size + 1) scope.names (clOf scope X.env), qual := X.env.qual, func := none, code := X.env.code, frame := X.env.frame, builtins := X.env.builtins }
  outer := X.stack
  stack := X.stack
  ex := fp
  fn := fun x => scope.names.any fun y => y.1 == x && y.2 == .cell
  calm := X.calm
  pn := []
  xe := fun _ _ => False
noncomputable def blkSt (σ : St) (n : Nat) (js : List Nat) : St := List.replicate n none ++ js.map fun j => (σ[j]?).getD none
structure BlkOk (X : Cx) (scope : Scope) (N : List Str) (n : Nat) (js : List Nat) : Prop where
  kind : scope.kind = .function
  names : (scope.names.all fun x => x.2 != .local || scope.names.lookup x.1 == some .local) = true
  free : (scope.names.all fun x => x.2 != .free || X.env.kindOf x.1 == some .cell || X.env.kindOf x.1 == some .free) = true
  capt : ((List.range js.length).all fun i => match N[n + i]?, (js[i]?).bind (X.N[·]?) with
    | some x, some y => x == y && scope.names.lookup x == some .free && scope.names.all (fun z => !(z.1 == x && z.2 == .cell))
    | _, _ => false) = true
  len : N.length = n + js.length
  cells : (scope.names.all fun x => x.2 != .cell || !(scope.names.any fun y => y.1 == x.1 && y.2 == .free)) = true
section
variable {X : Cx}
theorem relabel_kind {scope : Scope} {env : Env} {x : Str} : ∀ {names : List (Str × NameKind)}, (names.map fun (n, k) => if (k == NameKind.free && env.scope.kind == .function && env.kindOf n == some .cell) then (n, NameKind.cell) else (n, k)).lookup x = some .cell ∨
    (names.map fun (n, k) => if (k == NameKind.free && env.scope.kind == .function && env.kindOf n == some .cell) then (n, NameKind.cell) else (n, k)).lookup x = some .free → (x, NameKind.cell) ∈ names ∨ (x, NameKind.free) ∈ names
  | [], h => by simp at h
  | (n, k) :: r, h => by
    simp only [List.map_cons, List.lookup_cons] at h
    by_cases hx : (x == n) = true
    · have en : x = n := by simpa using hx
      subst en
      by_cases hc : (k == NameKind.free && env.scope.kind == .function && env.kindOf x == some .cell) = true
      · have hk : k = .free := by
          simp only [Bool.and_eq_true] at hc
          simpa using hc.1.1
        exact .inr (by rw [hk]; exact List.mem_cons_self)
      · rw [if_neg hc] at h
        rw [List.lookup_cons, hx] at h
        dsimp only at h
        rcases h with h | h <;> (injection h with h; rw [h])
        · exact .inl List.mem_cons_self
        · exact .inr List.mem_cons_self
    · have hx' : (x == n) = false := by simpa using hx
      by_cases hc : (k == NameKind.free && env.scope.kind == .function && env.kindOf n == some .cell) = true
      · rw [if_pos hc] at h
        rw [List.lookup_cons, hx'] at h
        dsimp only at h
        exact (relabel_kind (scope := scope) h).imp (List.mem_cons_of_mem _) (List.mem_cons_of_mem _)
      · rw [if_neg hc] at h
        rw [List.lookup_cons, hx'] at h
        dsimp only at h
        exact (relabel_kind (scope := scope) h).imp (List.mem_cons_of_mem _) (List.mem_cons_of_mem _)
theorem relabel_free {env : Env} {x : Str} : ∀ {names : List (Str × NameKind)}, names.lookup x = some .free → env.scope.kind = .function →
    (names.map fun (n, k) => if (k == NameKind.free && env.scope.kind == .function && env.kindOf n == some .cell) then (n, NameKind.cell) else (n, k)).lookup x = some .cell ∨
    (names.map fun (n, k) => if (k == NameKind.free && env.scope.kind == .function && env.kindOf n == some .cell) then (n, NameKind.cell) else (n, k)).lookup x = some .free
  | [], h, _ => by simp at h
  | (n, k) :: r, h, hf => by
    simp only [List.map_cons, List.lookup_cons] at h ⊢
    by_cases hx : (x == n) = true
    · simp only [hx] at h
      injection h with h
      subst h
      have en : x = n := by simpa using hx
      subst en
      by_cases hc : (NameKind.free == NameKind.free && env.scope.kind == .function && env.kindOf x == some .cell) = true
      · rw [if_pos hc]; simp
      · rw [if_neg hc]; simp
    · have hx' : (x == n) = false := by simpa using hx
      simp only [hx'] at h
      by_cases hc : (k == NameKind.free && env.scope.kind == .function && env.kindOf n == some .cell) = true
      · rw [if_pos hc]; rw [List.lookup_cons, hx']; exact relabel_free h hf
      · rw [if_neg hc]; rw [List.lookup_cons, hx']; exact relabel_free h hf
theorem BlkOk.frees {scope : Scope} {N : List Str} {n : Nat} {js : List Nat} (B : BlkOk X scope N n js) (ok : X.Ok) : ∀ x ∈ scope.names, x.2 = .free → ∃ c, X.env.cells.lookup x.1 = some c := fun x hx hf => by
  have q := List.all_eq_true.mp B.free x hx
  rw [hf] at q
  refine ok.has x.1 ?_
  simp only [bne_self_eq_false, Bool.false_or, Bool.or_eq_true, beq_iff_eq] at q
  exact q
theorem Inv.block {scope : Scope} {N : List Str} {n : Nat} {js : List Nat} {pins : List (Addr × Obj)} {σ : St} {H : Hp} {s : Shared} {fp : List Addr} (B : BlkOk X scope N n js) (I : Inv X pins σ H s) (hf : ∀ b ∈ fp, FpOk X pins H b) (hlt : ∀ b ∈ fp, b < s.heap.objs.size) :
    Inv (blkCx X scope N s H fp) [] (blkSt σ n js) H { s with heap := pushCells (s.heap.push { cls := .type "dict", data := .dict #[] }) scope.names } := by
  have hfr := B.frees I.ok
  have kp : ∀ b o, s.heap.get? b = some o → (pushCells (s.heap.push { cls := .type "dict", data := .dict #[] }) scope.names).get? b = some o := fun b o e => pushCells_keeps _ _ b o (Heap.get?_push_of_some _ e)
  have csz : (s.heap.push { cls := .type "dict", data := .dict #[] }).objs.size = s.heap.objs.size + 1 := Heap.size_push ..
  have cm : ∀ x c, (blkCx X scope N s H fp).env.cells.lookup x = some c → X.env.cells.lookup x = some c ∨ (s.heap.objs.size + 1 ≤ c ∧ (pushCells (s.heap.push { cls := .type "dict", data := .dict #[] }) scope.names).IsCell c none ∧ (x, NameKind.cell) ∈ scope.names) := fun x c e => by
    have m := PySem.mem_of_lookup e
    have m' : (x, c) ∈ cellsFrom (s.heap.push { cls := .type "dict", data := .dict #[] }).objs.size scope.names (clOf scope X.env) := by rw [csz]; exact m
    rcases mem_cells m' with z | ⟨a, b, z⟩
    · rcases mem_clGo hfr z with z | z
      · exact .inl z
      · exact absurd z (by simp)
    · exact .inr ⟨by rw [csz] at a; exact a, b, z⟩
  have old : ∀ x c, X.env.cells.lookup x = some c → c < s.heap.objs.size := fun x c e => let ⟨_, q⟩ := I.cell x c e; q.lt
  refine ⟨⟨I.ok.mod, B.kind, I.ok.glob, I.ok.blt, Nat.le_refl _, fun x y c e1 e2 => ?_, fun x hx => ?_, fun x c hfn e => ?_, I.ok.hd, I.ok.frames, .inl rfl, fun b hb => ⟨Nat.ne_of_lt (hlt b hb), fun x c e => ?_⟩, fun b o e => ?_, Nat.le_trans I.ok.bsz I.sz, fun b o e hb => ?_, fun b hb z => ?_, I.stack, I.stkFree⟩,
    rfl, I.bare, Un.kept kp, ⟨fun _ => none, ?_, fun i x v e1 e2 e3 => ?_⟩, fun x c e => ?_, ?_, fun x c e => ?_, fun p hp => absurd hp (by simp [blkCx]), I.hok.kept kp, ?_⟩
  · 
    refine cells_inj (names := scope.names) (n := s.heap.objs.size + 1) (cs := clOf scope X.env) (fun z hz => ?_) (fun x y c hx hy => ?_) x y c (PySem.mem_of_lookup e1) (PySem.mem_of_lookup e2)
    · rcases mem_clGo (y := z.1) (c := z.2) hfr hz with q | q
      · exact Nat.lt_succ_of_lt (old _ _ q)
      · exact absurd q (by simp)
    · rcases mem_clGo hfr hx with q | q
      · rcases mem_clGo hfr hy with q' | q'
        · exact I.ok.inj x y c q q'
        · exact absurd q' (by simp)
      · exact absurd q (by simp)
  · 
    rcases relabel_kind (scope := scope) (env := X.env) (names := scope.names) hx with z | z
    · obtain ⟨c', h'⟩ : ∃ c', (cellsFrom (s.heap.objs.size + 1) scope.names (clOf scope X.env)).lookup x = some c' := by
        have aux : ∀ (names : List (Str × NameKind)) (k : Nat) (cs : List (Str × Addr)), (x, NameKind.cell) ∈ names → ∃ c, (x, c) ∈ cellsFrom k names cs := by
          intro names
          induction names with
          | nil => intro _ _ h; simp at h
          | cons y r ih =>
            intro k cs h
            obtain ⟨yn, yk⟩ := y
            unfold cellsFrom
            have stay : ∀ (names : List (Str × NameKind)) (k : Nat) (cs : List (Str × Addr)) (p : Str × Addr), p ∈ cs → p ∈ cellsFrom k names cs := by
              intro names
              induction names with
              | nil => intro _ _ _ h; exact h
              | cons y r ih =>
                intro k cs p h
                obtain ⟨yn, yk⟩ := y
                unfold cellsFrom
                split
                · exact ih _ _ _ (List.mem_cons_of_mem _ h)
                · exact ih _ _ _ h
            rcases List.mem_cons.mp h with e | h
            · injection e with ea eb
              rw [← ea, ← eb]
              simp only [beq_self_eq_true, if_true]
              exact ⟨k, stay _ _ _ _ List.mem_cons_self⟩
            · split
              · exact ih _ _ h
              · exact ih _ _ h
        obtain ⟨c, hc⟩ := aux scope.names (s.heap.objs.size + 1) (clOf scope X.env) z
        exact lookup_mem_some hc
      exact ⟨c', h'⟩
    · obtain ⟨c, hc⟩ := has_clGo (env := X.env) (names := scope.names) (cs := []) (.inl z)
      have stay : ∀ (names : List (Str × NameKind)) (k : Nat) (cs : List (Str × Addr)) (p : Str × Addr), p ∈ cs → p ∈ cellsFrom k names cs := by
        intro names
        induction names with
        | nil => intro _ _ _ h; exact h
        | cons y r ih =>
          intro k cs p h
          obtain ⟨yn, yk⟩ := y
          unfold cellsFrom
          split
          · exact ih _ _ _ (List.mem_cons_of_mem _ h)
          · exact ih _ _ _ h
      exact lookup_mem_some (stay scope.names (s.heap.objs.size + 1) (clOf scope X.env) (x, c) hc)
  · 
    rcases cm x c e with z | ⟨z, _⟩
    · 
      exfalso
      have hfn' : (scope.names.any fun y => y.1 == x && y.2 == .cell) = true := hfn
      obtain ⟨y, hy, q⟩ := List.any_eq_true.mp hfn'
      simp only [Bool.and_eq_true, beq_iff_eq] at q
      have m := PySem.mem_of_lookup e
      have key : ∀ (names : List (Str × NameKind)) (k : Nat) (cs : List (Str × Addr)), (x, NameKind.cell) ∈ names → ∀ c, (cellsFrom k names cs).lookup x = some c → k ≤ c := by
        intro names
        induction names with
        | nil => intro _ _ h; simp at h
        | cons y r ih =>
          intro k cs h c hc
          obtain ⟨yn, yk⟩ := y
          unfold cellsFrom at hc
          by_cases hr : (x, NameKind.cell) ∈ r
          · split at hc
            · exact Nat.le_of_succ_le (ih _ _ hr c hc)
            · exact ih _ _ hr c hc
          · rcases List.mem_cons.mp h with e | h
            · injection e with ea eb
              rw [← ea, ← eb] at hc
              simp only [beq_self_eq_true, if_true] at hc
              rw [cells_keep hr, List.lookup_cons] at hc
              simp only [beq_self_eq_true] at hc
              injection hc with hc; rw [← hc]; exact Nat.le_refl _
            · exact absurd h hr
      have hxm : (x, NameKind.cell) ∈ scope.names := by
        have : y = (x, NameKind.cell) := Prod.ext q.1 q.2
        rw [← this]; exact hy
      have := key scope.names (s.heap.objs.size + 1) (clOf scope X.env) hxm c e
      exact absurd (Nat.lt_of_lt_of_le (old x c z) (Nat.le_of_succ_le this)) (Nat.lt_irrefl _)
    · exact Nat.le_of_succ_le z
  · 
    rcases cm x c e with z | ⟨z, _⟩
    · exact (hf b hb).2.2.2.2.1 x c z
    · exact Ne.symm (Nat.ne_of_lt (Nat.lt_of_lt_of_le (hlt b hb) (Nat.le_of_succ_le z)))
  · exact I.bs b o e
  · 
    rcases (hf b hb).2.2.2.1 with z | z
    · exact I.ok.noex b o e z
    · exact absurd (Nat.lt_of_lt_of_le (Heap.lt_size (I.ok.bs b o e).1) z) (Nat.lt_irrefl _)
  · 
    rcases List.mem_cons.mp (I.stkSub b z) with z | z
    · exact (hf b hb).2.1 z
    · exact (hf b hb).2.2.1 z
  · exact (Heap.Ns.new s.heap (.type "dict")).keeps (pushCells_keeps _ _)
  · 
    have e2' : (List.replicate n none ++ js.map fun j => (σ[j]?).getD none)[i]? = some (some v) := e2
    by_cases hi : i < n
    · rw [List.getElem?_append_left (by simpa using hi), List.getElem?_replicate] at e2'
      rw [if_pos hi] at e2'; cases e2'
    · rw [List.getElem?_append_right (by simpa using hi), List.length_replicate, List.getElem?_map] at e2'
      cases hj : js[i - n]? with
      | none => rw [hj] at e2'; cases e2'
      | some j =>
        rw [hj] at e2'
        have hσ : σ[j]? = some (some v) := by
          have q : (σ[j]?).getD none = some v := Option.some.inj e2'
          cases z : σ[j]? with
          | none => rw [z] at q; cases q
          | some o => rw [z] at q; rw [show o = some v from q]
        have hlen : i - n < js.length := (List.getElem?_eq_some_iff.mp hj).1
        have q := List.all_eq_true.mp B.capt (i - n) (List.mem_range.mpr hlen)
        rw [show n + (i - n) = i by omega] at q
        have e1' : N[i]? = some x := e1
        rw [e1', hj] at q
        simp only [Option.bind_some] at q
        cases hN : X.N[j]? with
        | none => rw [hN] at q; cases q
        | some y =>
          rw [hN] at q
          simp only [Bool.and_eq_true, beq_iff_eq] at q
          obtain ⟨⟨q1, q2⟩, q3⟩ := q
          subst q1
          have nc : (x, NameKind.cell) ∉ scope.names := fun z => by
            have := List.all_eq_true.mp q3 _ z
            simp at this
          have hfree := PySem.mem_of_lookup q2
          have hk : X.env.kindOf x = some .cell ∨ X.env.kindOf x = some .free := by
            have q := List.all_eq_true.mp B.free _ hfree
            simpa using q
          have hvis : Vis X.env.scope x := hk.elim (fun z => .inr (.inl z)) fun z => .inr (.inr z)
          obtain ⟨m, hn, hl⟩ := I.loc
          obtain ⟨u, r, l⟩ := hl j x v hN hσ hvis
          refine ⟨u, r, .inr ⟨relabel_free q2 I.ok.kind, ?_⟩⟩
          rcases l with ⟨l, _⟩ | ⟨_, c, hc, hcell⟩
          · rcases hk with hk | hk <;> (rw [hk] at l; cases l)
          · refine ⟨c, ?_, hcell.keeps kp⟩
            show (cellsFrom (s.heap.objs.size + 1) scope.names (clOf scope X.env)).lookup x = some c
            rw [cells_keep nc]
            obtain ⟨c', hc'⟩ := has_clGo (env := X.env) (names := scope.names) (cs := []) (.inl hfree)
            obtain ⟨c2, h2⟩ := lookup_mem_some hc'
            rw [show (clOf scope X.env).lookup x = some c2 from h2]
            rcases mem_clGo hfr (PySem.mem_of_lookup h2) with z | z
            · rw [hc] at z; exact z.symm
            · exact absurd z (by simp)
  · rcases cm x c e with z | ⟨_, z, _⟩
    · obtain ⟨v, q⟩ := I.cell x c z
      exact ⟨v, q.keeps kp⟩
    · exact ⟨none, z⟩
  · exact I.fresh
  · rcases cm x c e with z | ⟨z, _⟩
    · exact I.freeC x c z
    · exact I.hok.fresh (Nat.le_of_succ_le z)
  · show (List.replicate n none ++ js.map fun j => (σ[j]?).getD none).length = N.length
    rw [List.length_append, List.length_replicate, List.length_map, B.len]
theorem Inv.unblock {scope : Scope} {N : List Str} {pins pins' : List (Addr × Obj)} {σ σ' : St} {H H' : Hp} {s s' : Shared} {fp : List Addr} {h' : Heap} (I : Inv X pins σ H s) (hf : ∀ b ∈ fp, FpOk X pins H b)
    (J : Inv (blkCx X scope N s H fp) pins' σ' H' s') (hs : Heap.SameBut s.heap.objs.size s'.heap h') : Inv X pins σ H' { s' with heap := h' } := by
  have nC : ∀ b o, s.heap.get? b = some o → b ≠ s.heap.objs.size := fun b o e => Nat.ne_of_lt (Heap.lt_size e)
  have hC : H' s.heap.objs.size = none := J.free
  refine I.call' (s' := { s' with heap := h' }) (ch := fp) J.os ⟨fun b o e n hb hx => (hs.2 b (nC b o e)).trans (J.base.keep b o e n hb hx), fun b o e n hb hx => ?_, J.base.free, fun b o e hx => ?_, J.base.tups, J.base.frzs, J.base.tbls⟩ (fun b u e => ?_) J.bare fun b hb => ⟨(hf b hb).2.2.2.1, (hf b hb).2.1, (hf b hb).2.2.2.2.1, (hf b hb).2.2.2.2.2⟩
  · obtain ⟨sl, q⟩ := J.base.slot b o e n hb hx
    exact ⟨sl, (hs.2 b (nC b o e)).trans q⟩
  · obtain ⟨o', q⟩ := J.base.there b o e hx
    exact ⟨o', (hs.2 b (nC b o e)).trans q⟩
  · refine (J.hok b u e).stay (fun c v hc q => (hs.2 c ?_).trans q) (fun _ q => q) fun _ _ q => q
    rintro rfl
    rcases hc with z | z
    · rw [← z, hC] at e; cases e
    · rw [hC] at z; cases z
end
end L2
namespace L2
open PySem PySem.Spec PyProof.Rows
section
variable {X : Cx}
noncomputable def tEmit (acc : Addr) (te : TE) : TS := fun D σ H => te σ H fun y H1 => ∃ ys, H1 acc = some (.lst ys) ∧ ys.length < sizeLine ∧ D.nx σ (upd H1 acc (.lst (ys ++ [y])))
theorem pb_emit {elt : Expr} {te : TE} {acc : Addr} (he : PE X elt te) : PB X (do let _ ← call (.builtin "list.append") [.ref acc, ← eval elt X.env]) (tEmit acc te) := by
  intro pins s σ H D I h
  refine wpAny_bind (thn (he pins s σ H _ I h) fun v s1 ⟨y, H1, I1, r1, ys, e, hz, q⟩ => ?_)
  refine wpAny_bind (thn (mt_append pins s1 σ H1 (.ref acc) [y] (.ref acc) [v] (fun _ H' => D.nx σ H') I1 rfl (.cons r1 .nil) ⟨acc, ys, y, rfl, rfl, e, hz, q⟩) fun _ s2 ⟨_, H2, I2, _, q2⟩ => ?_)
  exact wpAny_pure ⟨σ, H2, I2, q2⟩
theorem BlkOk.hnames {scope : Scope} {N : List Str} {n : Nat} {js : List Nat} (B : BlkOk X scope N n js) : ∀ x ∈ scope.names, x.2 = .local → scope.names.lookup x.1 = some .local := fun x hx hl => by
  have q := List.all_eq_true.mp B.names x hx
  rw [hl] at q
  simpa using q
noncomputable def bdNest (e : Expr) (d : Nat) (acc : Addr) (env : Env) (iter : Expr) : Sem Unit := do
  let x ← eval iter env
  standAt iter.pos
  let x ← foldedSetIterable iter env x
  let _ ← runOwn (.compStart e d (← holding [x] (pyIter x)) (.ref acc) env) env
noncomputable def tNest (wi : TI) (g : TG) (tb : TS) : TS := fun D σ H => wi σ H fun J H1 => tWalk J g tb { D with ct := fun _ _ => False, bk := fun _ _ => False } σ H1
theorem pb_nest {e : Expr} {d : Nat} {acc : Addr} {tg iter : Expr} {ifs : List Expr} {bd : Sem Unit} {wi : TI} {g : TG} {tt : TT} {tb : TS}
    (hturn : ∀ it, compTurn e d (.ref it) (.ref acc) X.env = turnOf e d (.ref it) (.ref acc) X.env tg iter ifs bd) (hq : ∀ it, (Code.compLoop e d (.ref it) (.ref acc) X.env).quiet = true)
    (hA : ∀ it, X.A.under (Code.compLoop e d (.ref it) (.ref acc) X.env) = X.A) (hden : ∀ it, (model X.prog X.w).den (Code.compLoop e d (.ref it) (.ref acc) X.env) = (compTurn e d (.ref it) (.ref acc) X.env).onRaise (fun x => do noteFrame x X.env; theTreesLotGoes x))
    (hdenS : ∀ it, (model X.prog X.w).den (Code.compStart e d (.ref it) (.ref acc) X.env) = (compStart e d (.ref it) (.ref acc) X.env).onRaise (fun x => do noteFrame x X.env; standAt theWindowsPlace))
    (hAS : ∀ it, X.A.under (Code.compStart e d (.ref it) (.ref acc) X.env) = X.A)
    (hst : ∀ it : Addr, compStart e d (.ref it) (.ref acc) X.env = (ask >>= fun r => if r.params.followText "comprehension-iter-twice" = true then again (.compLoop e d (.ref it) (.ref acc) X.env) else (do rule "comprehension.iter-twice"; standAt iter.pos; let it' ← pyIter (.ref it); again (.compLoop e d it' (.ref acc) X.env))))
    (hxe : X.xe = fun _ _ => False) (hc : X.calm = true) (hi : PI X tg iter wi) (hg : PG X tg g) (ht : PTs X ifs tt) (hb : PB X bd tb)
    (hs : ∀ x, foldedSetIterable iter X.env x = pure x) (hA2 : X.A.mark none = X.A) : PB X (bdNest e d acc X.env iter) (tNest wi g (tTurn tt tb)) := by
  intro pins s σ H D I h
  unfold bdNest
  refine wpAny_bind (thn (hi pins s σ H _ I h) fun v s1 h1 => wpAny_bind (wpAny_standAt (wpAny_bind (wpAny_of_eq (hs v) ?_))))
  refine wpAny_bind (wpAny_holding (thn h1 fun itv s2 h2 => ?_))
  obtain ⟨it, fp, tn, J, H2, e2, I2, T, st2, f2, w⟩ := h2
  subst e2
  refine wpAny_bind (wpAny_runOwn ?_)
  rw [hA2]
  refine codeAny_mono (comp_start (hdenS it) (hAS it) (hq it) (hst it) T st2 (comp_loop (D := { D with ct := fun _ _ => False, bk := fun _ _ => False }) (hturn it) (hq it) (hA it) (hden it) hxe hc T hg ht hb I2 st2 f2 w)) fun r s' hr => ?_
  cases r with
  | ok f => exact wpAny_pure hr
  | error x => exact False.elim hr
noncomputable def tLC (wi : TI) (g : TG) (tt : TT) (te : TE) (n : Nat) (js : List Nat) : TE := fun σ H Q => wi σ H fun J H1 => ∀ acc, H1 acc = none →
  tWalk J g (tTurn tt (tEmit acc te)) { nx := fun _ H' => Q (.ref acc) H', rt := fun _ _ => False } (blkSt σ n js) (upd H1 acc (.lst []))
theorem lc_core {e : Expr} {elt tg iter : Expr} {ifs : List Expr} {rest : List Comprehension} {scope : Scope} {pos : Pos} {wi : TI} {g : TG} {tt : TT} {tb : Addr → TS} {bd : Addr → Env → Sem Unit} {N : List Str} {n : Nat} {js : List Nat}
    (he : e = .ListComp elt (⟨tg, iter, ifs, 0⟩ :: rest) scope pos) (hc : X.calm = true) (hi : PI X tg iter wi) (B : BlkOk X scope N n js)
    (hturn : ∀ it acc env, compTurn e 0 (.ref it) (.ref acc) env = turnOf e 0 (.ref it) (.ref acc) env tg iter ifs (bd acc env))
    (hg : ∀ s H fp, PG (blkCx X scope N s H fp) tg g) (ht : ∀ s H fp, PTs (blkCx X scope N s H fp) ifs tt) (hb : ∀ s H fp acc, PB (blkCx X scope N s H fp) (bd acc (blkCx X scope N s H fp).env) (tb acc))
    (hs : ∀ x, foldedSetIterable iter X.env x = pure x) :
    PE X e (fun σ H Q => wi σ H fun J H1 => ∀ acc, H1 acc = none → tWalk J g (tTurn tt (tb acc)) { nx := fun _ H' => Q (.ref acc) H', rt := fun _ _ => False } (blkSt σ n js) (upd H1 acc (.lst []))) := by
  intro pins s σ H Q I h
  subst he
  rw [eval_ListComp]
  refine wpAny_comprehension_free (use := none) rfl hs (closure_is (B.frees I.ok)) B.kind B.hnames ?_
  refine thn (hi pins s σ H _ I h) fun v s1 h1 => thn h1 fun itv s2 h2 => ?_
  obtain ⟨it, fp, tn, J, H2, e2, I2, T, st2, f2, w⟩ := h2
  subst e2
  refine wpAny_newObj_type (wpAny_newBlockEnv ?_)
  have I3 : Inv X pins σ (upd H2 s2.heap.objs.size (.lst [])) { s2 with heap := s2.heap.push { cls := .type "list", data := .seq ([] : List Value).toArray } } := I2.lnew (t' := s2.toks) .nil (Nat.zero_le _)
  have lt2 : ∀ b ∈ fp, b < s2.heap.objs.size := fun b hb => let ⟨_, e, _⟩ := T.obj _ _ st2 b hb; Heap.lt_size e
  have f3 : ∀ b ∈ fp, FpOk X pins (upd H2 s2.heap.objs.size (.lst [])) b := fun b hb => ⟨by rw [upd_ne (Nat.ne_of_lt (lt2 b hb))]; exact (f2 b hb).1, (f2 b hb).2⟩
  have lt3 : ∀ b ∈ fp, b < (s2.heap.push { cls := .type "list", data := .seq ([] : List Value).toArray }).objs.size := fun b hb => by rw [Heap.size_push]; exact Nat.lt_succ_of_lt (lt2 b hb)
  have J4 := Inv.block B I3 f3 lt3
  have st4 : tn 0 (pushCells ((s2.heap.push { cls := .type "list", data := .seq ([] : List Value).toArray }).push { cls := .type "dict", data := .dict #[] }) scope.names) := T.keep _ _ _ st2 fun b hb o e => pushCells_keeps _ _ _ _ (Heap.get?_push_of_some _ (Heap.get?_push_of_some _ e))
  have f4 : ∀ b ∈ fp, FpOk (blkCx X scope N { s2 with heap := s2.heap.push { cls := .type "list", data := .seq ([] : List Value).toArray } } (upd H2 s2.heap.objs.size (.lst [])) fp) [] (upd H2 s2.heap.objs.size (.lst [])) b := fun b hb =>
    ⟨(f3 b hb).1, Nat.ne_of_lt (lt3 b hb), J4.ok.exfs b hb, .inl hb, (J4.ok.exf b hb).2, fun p hp => absurd hp (by simp [blkCx])⟩
  have go := w s2.heap.objs.size I2.fresh
  refine codeAny_mono (comp_start (X := blkCx X scope N { s2 with heap := s2.heap.push { cls := .type "list", data := .seq ([] : List Value).toArray } } (upd H2 s2.heap.objs.size (.lst [])) fp) (e := .ListComp elt (⟨tg, iter, ifs, 0⟩ :: rest) scope pos) (d := 0) (acc := .ref s2.heap.objs.size) (it := it) (iter := iter) (by rfl) (by rfl) (by rfl) (by rfl) T st4
    (comp_loop (X := blkCx X scope N { s2 with heap := s2.heap.push { cls := .type "list", data := .seq ([] : List Value).toArray } } (upd H2 s2.heap.objs.size (.lst [])) fp) (hturn it _ _) (by rfl) (by rfl) (by rfl) rfl hc T (hg _ _ _) (ht _ _ _) (hb _ _ _ _) J4 st4 f4 go)) fun r s' hr => ?_
  cases r with
  | error x => exact False.elim hr
  | ok f =>
    obtain ⟨σ', H', J', q⟩ := hr
    obtain ⟨m, hn, _⟩ := id J'.loc
    exact ⟨m, hn, fun h' hs' => ⟨.ref s2.heap.objs.size, H', I3.unblock f3 J' hs', rfl, q⟩⟩
theorem pe_lc {elt tg iter : Expr} {ifs : List Expr} {scope : Scope} {pos : Pos} {wi : TI} {g : TG} {tt : TT} {te : TE} {N : List Str} {n : Nat} {js : List Nat}
    (hc : X.calm = true) (B : BlkOk X scope N n js) (hi : PI X tg iter wi) (hg : ∀ s H fp, PG (blkCx X scope N s H fp) tg g) (ht : ∀ s H fp, PTs (blkCx X scope N s H fp) ifs tt) (he : ∀ s H fp, PE (blkCx X scope N s H fp) elt te)
    (hs : ∀ x, foldedSetIterable iter X.env x = pure x := by intro _; rfl) : PE X (.ListComp elt [⟨tg, iter, ifs, 0⟩] scope pos) (tLC wi g tt te n js) :=
  lc_core (bd := fun acc env => do let _ ← call (.builtin "list.append") [.ref acc, ← eval elt env]) rfl hc hi B (fun _ _ _ => by rfl) hg ht (fun s H fp acc => pb_emit (he s H fp)) hs
noncomputable def tLC2 (wi : TI) (g : TG) (tt : TT) (wi2 : TI) (g2 : TG) (tt2 : TT) (te : TE) (n : Nat) (js : List Nat) : TE := fun σ H Q => wi σ H fun J H1 => ∀ acc, H1 acc = none →
  tWalk J g (tTurn tt (tNest wi2 g2 (tTurn tt2 (tEmit acc te)))) { nx := fun _ H' => Q (.ref acc) H', rt := fun _ _ => False } (blkSt σ n js) (upd H1 acc (.lst []))
theorem turn2 {elt tg iter tg2 iter2 : Expr} {ifs ifs2 : List Expr} {scope : Scope} {pos : Pos} {it acc : Addr} {env : Env} :
    compTurn (.ListComp elt [⟨tg, iter, ifs, 0⟩, ⟨tg2, iter2, ifs2, 0⟩] scope pos) 0 (.ref it) (.ref acc) env = turnOf (.ListComp elt [⟨tg, iter, ifs, 0⟩, ⟨tg2, iter2, ifs2, 0⟩] scope pos) 0 (.ref it) (.ref acc) env tg iter ifs (bdNest (.ListComp elt [⟨tg, iter, ifs, 0⟩, ⟨tg2, iter2, ifs2, 0⟩] scope pos) 1 acc env iter2) := by
  unfold turnOf bdNest
  simp only [bind_assoc, pure_bind]
  rfl
theorem pe_lc2 {elt tg iter tg2 iter2 : Expr} {ifs ifs2 : List Expr} {scope : Scope} {pos : Pos} {wi wi2 : TI} {g g2 : TG} {tt tt2 : TT} {te : TE} {N : List Str} {n : Nat} {js : List Nat}
    (hc : X.calm = true) (B : BlkOk X scope N n js) (hi : PI X tg iter wi) (hg : ∀ s H fp, PG (blkCx X scope N s H fp) tg g) (ht : ∀ s H fp, PTs (blkCx X scope N s H fp) ifs tt)
    (hi2 : ∀ s H fp, PI (blkCx X scope N s H fp) tg2 iter2 wi2) (hg2 : ∀ s H fp, PG (blkCx X scope N s H fp) tg2 g2) (ht2 : ∀ s H fp, PTs (blkCx X scope N s H fp) ifs2 tt2) (he : ∀ s H fp, PE (blkCx X scope N s H fp) elt te)
    (hs : ∀ x, foldedSetIterable iter X.env x = pure x := by intro _; rfl) (hs2 : ∀ s H fp x, foldedSetIterable iter2 (blkCx X scope N s H fp).env x = pure x := by intro _ _ _ _; rfl) (hA2 : X.A.mark none = X.A := by rfl) :
    PE X (.ListComp elt [⟨tg, iter, ifs, 0⟩, ⟨tg2, iter2, ifs2, 0⟩] scope pos) (tLC2 wi g tt wi2 g2 tt2 te n js) :=
  lc_core (bd := fun acc env => bdNest (.ListComp elt [⟨tg, iter, ifs, 0⟩, ⟨tg2, iter2, ifs2, 0⟩] scope pos) 1 acc env iter2) rfl hc hi B (fun _ _ _ => turn2) hg ht
    (fun s H fp acc => pb_nest (bd := do let _ ← call (.builtin "list.append") [.ref acc, ← eval elt (blkCx X scope N s H fp).env]) (fun _ => by rfl) (fun _ => by rfl) (fun _ => by rfl) (fun _ => by rfl) (fun _ => by rfl) (fun _ => by rfl) (fun _ => by rfl) rfl hc (hi2 s H fp) (hg2 s H fp) (ht2 s H fp) (pb_emit (he s H fp)) (hs2 s H fp) hA2) hs
end
end L2
namespace L2
open PySem PySem.Spec PyProof.Rows
section
variable {X : Cx}
end
end L2
namespace L2
open PySem PySem.Spec PyProof.Rows
theorem bt_len : bootBuiltins "len" = some (.builtin "len") := by decide +kernel
theorem bt_isinstance : bootBuiltins "isinstance" = some (.builtin "isinstance") := by decide +kernel
theorem bt_max : bootBuiltins "max" = some (.builtin "max") := by decide +kernel
theorem bt_min : bootBuiltins "min" = some (.builtin "min") := by decide +kernel
theorem bt_sorted : bootBuiltins "sorted" = some (.builtin "sorted") := by decide +kernel
theorem bt_int : bootBuiltins "int" = some (.type "int") := by decide +kernel
theorem bt_bool : bootBuiltins "bool" = some (.type "bool") := by decide +kernel
theorem bt_list : bootBuiltins "list" = some (.type "list") := by decide +kernel
theorem bt_tuple : bootBuiltins "tuple" = some (.type "tuple") := by decide +kernel
inductive D where
  | non | bl (b : Bool) | int (i : Int) | str (x : Str) | lst (xs : List D) | tup (xs : List D)
mutual
noncomputable def Rep (K : PySem.W.Frag) (H : Hp) : D → V → Prop
  | .non, v => v = .non
  | .bl b, v => v = .bl b
  | .int i, v => v = .int i
  | .str x, v => v = .str x
  | .lst ds, v => ∃ a xs, v = .ref a ∧ SqL K H a xs ∧ Reps K H ds xs
  | .tup ds, v => ∃ a xs, v = .ref a ∧ SqT K H a xs ∧ Reps K H ds xs
noncomputable def Reps (K : PySem.W.Frag) (H : Hp) : List D → List V → Prop
  | [], vs => vs = []
  | d :: ds, vs => ∃ v r, vs = v :: r ∧ Rep K H d v ∧ Reps K H ds r
end
mutual
noncomputable def eqD : D → D → Option Bool
  | .non, .non => some true
  | .bl a, .bl b => some (a == b)
  | .int a, .int b => some (a == b)
  | .str a, .str b => some (a == b)
  | .lst xs, .lst ys => if xs.length = ys.length then eqDs xs ys else some false
  | .tup xs, .tup ys => eqDs xs ys
  | _, _ => none
noncomputable def eqDs : List D → List D → Option Bool
  | [], [] => some true
  | x :: xs, y :: ys => match eqD x y, eqDs xs ys with
    | some a, some b => some (a && b)
    | _, _ => none
  | [], _ :: _ => some false
  | _ :: _, [] => some false
end
mutual
noncomputable def depD : D → Nat
  | .lst xs => depDs xs + 1
  | .tup xs => depDs xs + 1
  | _ => 0
noncomputable def depDs : List D → Nat
  | [] => 0
  | x :: xs => max (depD x) (depDs xs)
end
section
variable {K : PySem.W.Frag} {H H' : Hp}
theorem Same.tup (e : Same H H') {a : Addr} {xs : List V} (h : SqT K H a xs) : SqT K H' a xs := by
  rcases h with (h | ⟨o, h⟩) | h
  · exact .inl (.inl (e _ _ h))
  · exact .inl (.inr ⟨o, e _ _ h⟩)
  · exact .inr h
mutual
theorem Rep.same (e : Same H H') : ∀ {d : D} {v : V}, Rep K H d v → Rep K H' d v
  | .non, _, h => by unfold Rep at h ⊢; exact h
  | .bl _, _, h => by unfold Rep at h ⊢; exact h
  | .int _, _, h => by unfold Rep at h ⊢; exact h
  | .str _, _, h => by unfold Rep at h ⊢; exact h
  | .lst ds, v, h => by
    unfold Rep at h ⊢
    obtain ⟨a, xs, e1, h1, h2⟩ := h
    exact ⟨a, xs, e1, e.seq h1, Reps.same e h2⟩
  | .tup ds, v, h => by
    unfold Rep at h ⊢
    obtain ⟨a, xs, e1, h1, h2⟩ := h
    exact ⟨a, xs, e1, e.tup h1, Reps.same e h2⟩
theorem Reps.same (e : Same H H') : ∀ {ds : List D} {vs : List V}, Reps K H ds vs → Reps K H' ds vs
  | [], vs, h => by unfold Reps at h ⊢; exact h
  | d :: ds, vs, h => by
    unfold Reps at h ⊢
    obtain ⟨v, r, e1, h1, h2⟩ := h
    exact ⟨v, r, e1, Rep.same e h1, Reps.same e h2⟩
end
theorem Reps.length : ∀ {ds : List D} {vs : List V}, Reps K H ds vs → vs.length = ds.length
  | [], vs, h => by unfold Reps at h; rw [h]; rfl
  | d :: ds, vs, h => by
    unfold Reps at h
    obtain ⟨v, r, e1, _, h2⟩ := h
    rw [e1, List.length_cons, List.length_cons, Reps.length h2]
theorem Reps.get : ∀ {ds : List D} {vs : List V} {i : Nat} {v : V}, Reps K H ds vs → vs[i]? = some v → ∃ d, ds[i]? = some d ∧ Rep K H d v
  | [], vs, i, v, h, e => by unfold Reps at h; rw [h] at e; simp at e
  | d :: ds, vs, i, v, h, e => by
    unfold Reps at h
    obtain ⟨u, r, e1, h1, h2⟩ := h
    rw [e1] at e
    cases i with
    | zero => simp at e; subst e; exact ⟨d, rfl, h1⟩
    | succ i => obtain ⟨d', q1, q2⟩ := Reps.get (i := i) h2 (by simpa using e); exact ⟨d', by simpa using q1, q2⟩
theorem Reps.snoc : ∀ {ds : List D} {vs : List V} {d : D} {v : V}, Reps K H ds vs → Rep K H d v → Reps K H (ds ++ [d]) (vs ++ [v])
  | [], vs, d, v, h, q => by unfold Reps at h; rw [h]; unfold Reps; exact ⟨v, [], rfl, q, by unfold Reps; rfl⟩
  | e :: ds, vs, d, v, h, q => by
    unfold Reps at h
    obtain ⟨u, r, e1, h1, h2⟩ := h
    rw [e1, List.cons_append]
    show Reps K H (e :: (ds ++ [d])) (u :: r ++ [v])
    unfold Reps
    exact ⟨u, r ++ [v], rfl, h1, Reps.snoc h2 q⟩
end
section
variable {X : Cx} {pins : List (Addr × Obj)} {σ : St} {H : Hp} {s : Shared}
theorem Inv.not_both (I : Inv X pins σ H s) {a : Addr} {xs ys : List V} (h : SqL X.K H a xs) (h' : SqT X.K H a ys) : False := by
  obtain ⟨its, _, ⟨o, n, e, c, _, _⟩, _⟩ := I.list h
  obtain ⟨its', _, ⟨o', e', c', _⟩, _⟩ := I.tuple h'
  rw [e] at e'; cases e'
  rw [c] at c'
  injection c' with z
  exact absurd z (by decide)
mutual
theorem Inv.rep_inj (I : Inv X pins σ H s) : ∀ {d d' : D} {v : V}, Rep X.K H d v → Rep X.K H d' v → d = d'
  | .non, d', v, h, h' => by
    unfold Rep at h; subst h
    cases d' with
    | non => rfl
    | lst _ => unfold Rep at h'; obtain ⟨_, _, z, _⟩ := h'; cases z
    | tup _ => unfold Rep at h'; obtain ⟨_, _, z, _⟩ := h'; cases z
    | _ => unfold Rep at h'; cases h'
  | .bl b, d', v, h, h' => by
    unfold Rep at h; subst h
    cases d' with
    | bl _ => unfold Rep at h'; cases h'; rfl
    | lst _ => unfold Rep at h'; obtain ⟨_, _, z, _⟩ := h'; cases z
    | tup _ => unfold Rep at h'; obtain ⟨_, _, z, _⟩ := h'; cases z
    | _ => unfold Rep at h'; cases h'
  | .int b, d', v, h, h' => by
    unfold Rep at h; subst h
    cases d' with
    | int _ => unfold Rep at h'; cases h'; rfl
    | lst _ => unfold Rep at h'; obtain ⟨_, _, z, _⟩ := h'; cases z
    | tup _ => unfold Rep at h'; obtain ⟨_, _, z, _⟩ := h'; cases z
    | _ => unfold Rep at h'; cases h'
  | .str b, d', v, h, h' => by
    unfold Rep at h; subst h
    cases d' with
    | str _ => unfold Rep at h'; cases h'; rfl
    | lst _ => unfold Rep at h'; obtain ⟨_, _, z, _⟩ := h'; cases z
    | tup _ => unfold Rep at h'; obtain ⟨_, _, z, _⟩ := h'; cases z
    | _ => unfold Rep at h'; cases h'
  | .lst ds, d', v, h, h' => by
    unfold Rep at h
    obtain ⟨a, xs, rfl, h1, h2⟩ := h
    cases d' with
    | lst ds' =>
      unfold Rep at h'
      obtain ⟨b, ys, e, h1', h2'⟩ := h'
      cases e
      rw [I.list_inj h1 h1'] at h2
      rw [Inv.reps_inj I h2 h2']
    | tup ds' =>
      unfold Rep at h'
      obtain ⟨b, ys, e, h1', h2'⟩ := h'
      cases e
      exact (I.not_both h1 h1').elim
    | _ => unfold Rep at h'; cases h'
  | .tup ds, d', v, h, h' => by
    unfold Rep at h
    obtain ⟨a, xs, rfl, h1, h2⟩ := h
    cases d' with
    | tup ds' =>
      unfold Rep at h'
      obtain ⟨b, ys, e, h1', h2'⟩ := h'
      cases e
      rw [I.tuple_inj h1 h1'] at h2
      rw [Inv.reps_inj I h2 h2']
    | lst ds' =>
      unfold Rep at h'
      obtain ⟨b, ys, e, h1', h2'⟩ := h'
      cases e
      exact (I.not_both h1' h1).elim
    | _ => unfold Rep at h'; cases h'
theorem Inv.reps_inj (I : Inv X pins σ H s) : ∀ {ds ds' : List D} {vs : List V}, Reps X.K H ds vs → Reps X.K H ds' vs → ds = ds'
  | [], ds', vs, h, h' => by
    unfold Reps at h; subst h
    cases ds' with
    | nil => rfl
    | cons _ _ => unfold Reps at h'; obtain ⟨_, _, z, _⟩ := h'; cases z
  | d :: ds, ds', vs, h, h' => by
    unfold Reps at h
    obtain ⟨v, r, rfl, h1, h2⟩ := h
    cases ds' with
    | nil => unfold Reps at h'; cases h'
    | cons d' ds' =>
      unfold Reps at h'
      obtain ⟨v', r', e, h1', h2'⟩ := h'
      cases e
      rw [Inv.rep_inj I h1 h1', Inv.reps_inj I h2 h2']
end
mutual
theorem eqD_self : ∀ {d : D} {b : Bool}, eqD d d = some b → b = true
  | .non, b, h => by unfold eqD at h; cases h; rfl
  | .bl a, b, h => by unfold eqD at h; rw [beq_self_eq_true] at h; cases h; rfl
  | .int a, b, h => by unfold eqD at h; rw [beq_self_eq_true] at h; cases h; rfl
  | .str a, b, h => by unfold eqD at h; rw [beq_self_eq_true] at h; cases h; rfl
  | .lst xs, b, h => by unfold eqD at h; rw [if_pos rfl] at h; exact eqDs_self h
  | .tup xs, b, h => by unfold eqD at h; exact eqDs_self h
theorem eqDs_self : ∀ {ds : List D} {b : Bool}, eqDs ds ds = some b → b = true
  | [], b, h => by unfold eqDs at h; cases h; rfl
  | d :: ds, b, h => by
    unfold eqDs at h
    cases h1 : eqD d d with
    | none => rw [h1] at h; cases h
    | some x =>
      cases h2 : eqDs ds ds with
      | none => rw [h1, h2] at h; cases h
      | some y =>
        rw [h1, h2] at h
        have z1 := eqD_self h1
        have z2 := eqDs_self h2
        subst z1 z2
        cases h; rfl
end
theorem eqDs_places : ∀ {xs ys : List D} {b : Bool}, eqDs xs ys = some b → ∃ e : Nat → Bool, (∀ (j : Nat) x y, xs[j]? = some x → ys[j]? = some y → eqD x y = some (e j)) ∧ b = ((List.range (min xs.length ys.length)).all e && xs.length == ys.length)
  | [], [], b, h => by unfold eqDs at h; cases h; exact ⟨fun _ => true, fun j x y q => by simp at q, rfl⟩
  | [], y :: ys, b, h => by unfold eqDs at h; cases h; exact ⟨fun _ => true, fun j x y q => by simp at q, by simp⟩
  | x :: xs, [], b, h => by unfold eqDs at h; cases h; exact ⟨fun _ => true, fun j x y _ q => by simp at q, by simp⟩
  | x :: xs, y :: ys, b, h => by
    unfold eqDs at h
    cases h1 : eqD x y with
    | none => rw [h1] at h; cases h
    | some p =>
      cases h2 : eqDs xs ys with
      | none => rw [h1, h2] at h; cases h
      | some q =>
        rw [h1, h2] at h
        have hb : b = (p && q) := (Option.some.inj h).symm
        obtain ⟨e, he, hq⟩ := eqDs_places h2
        refine ⟨fun j => if j = 0 then p else e (j - 1), fun j x' y' q1 q2 => ?_, ?_⟩
        · cases j with
          | zero => simp at q1 q2; subst q1 q2; simpa using h1
          | succ j => simp at q1 q2; simpa using he j x' y' q1 q2
        · rw [hb, hq]
          have hm : min (x :: xs).length (y :: ys).length = min xs.length ys.length + 1 := by simp only [List.length_cons]; omega
          rw [hm, List.range_succ_eq_map, List.all_cons, List.all_map]
          have h0 : (fun j => if j = 0 then p else e (j - 1)) 0 = p := rfl
          rw [show ((fun j => if j = 0 then p else e (j - 1)) ∘ Nat.succ) = e from funext fun j => by simp]
          simp only [List.length_cons, if_true]
          rw [Bool.and_assoc]
          congr 2
          by_cases hl : xs.length = ys.length <;> simp [hl]
theorem depDs_get : ∀ {xs : List D} {j : Nat} {x : D}, xs[j]? = some x → depD x ≤ depDs xs
  | [], j, x, h => by simp at h
  | y :: ys, 0, x, h => by simp at h; subst h; unfold depDs; omega
  | y :: ys, j + 1, x, h => by have := depDs_get (j := j) (by simpa using h); unfold depDs; omega
theorem Vals.at {xs : List V} {its : List Value} (r : Vals xs its) {j : Nat} (h : j < its.length) : ∃ v, xs[j]? = some v ∧ RelV v its[j] := by
  have hl := r.length
  have hj : j < xs.length := by omega
  obtain ⟨u, hu, ru⟩ := r.get (List.getElem?_eq_getElem hj)
  rw [List.getElem?_eq_getElem h] at hu
  cases hu
  exact ⟨_, List.getElem?_eq_getElem hj, ru⟩
theorem eqAt_rep (I : Inv X pins σ H s) : ∀ (n : Nat) (A : Around) (d d' : D) (v v' : V) (u u' : Value) (b : Bool), depD d ≤ n → A.units + n < cLine → Rep X.K H d v → Rep X.K H d' v' → RelV v u → RelV v' u' → eqD d d' = some b → SeqAt.EqAt A s u u' b := by
  intro n
  induction n with
  | zero =>
    intro A d d' v v' u u' b hn hu h h' r r' e
    cases d with
    | lst _ => unfold depD at hn; omega
    | tup _ => unfold depD at hn; omega
    | non =>
      cases d' with
      | non => unfold Rep at h h'; subst h h'; cases r; cases r'; unfold eqD at e; cases e; exact SeqAt.EqAt.same _
      | _ => unfold eqD at e; cases e
    | bl x =>
      cases d' with
      | bl y =>
        unfold Rep at h h'; subst h h'; unfold eqD at e; cases e
        have q := eqAt_V (A := A) (s := s) r r' rfl rfl
        simpa [eqV] using q
      | _ => unfold eqD at e; cases e
    | int x =>
      cases d' with
      | int y =>
        unfold Rep at h h'; subst h h'; unfold eqD at e; cases e
        have q := eqAt_V (A := A) (s := s) r r' rfl rfl
        simpa [eqV] using q
      | _ => unfold eqD at e; cases e
    | str x =>
      cases d' with
      | str y =>
        unfold Rep at h h'; subst h h'; unfold eqD at e; cases e
        have q := eqAt_V (A := A) (s := s) r r' rfl rfl
        simpa [eqV] using q
      | _ => unfold eqD at e; cases e
  | succ n ih =>
    intro A d d' v v' u u' b hn hu h h' r r' e
    cases d with
    | non =>
      cases d' with
      | non => unfold Rep at h h'; subst h h'; cases r; cases r'; unfold eqD at e; cases e; exact SeqAt.EqAt.same _
      | _ => unfold eqD at e; cases e
    | bl x =>
      cases d' with
      | bl y =>
        unfold Rep at h h'; subst h h'; unfold eqD at e; cases e
        have q := eqAt_V (A := A) (s := s) r r' rfl rfl
        simpa [eqV] using q
      | _ => unfold eqD at e; cases e
    | int x =>
      cases d' with
      | int y =>
        unfold Rep at h h'; subst h h'; unfold eqD at e; cases e
        have q := eqAt_V (A := A) (s := s) r r' rfl rfl
        simpa [eqV] using q
      | _ => unfold eqD at e; cases e
    | str x =>
      cases d' with
      | str y =>
        unfold Rep at h h'; subst h h'; unfold eqD at e; cases e
        have q := eqAt_V (A := A) (s := s) r r' rfl rfl
        simpa [eqV] using q
      | _ => unfold eqD at e; cases e
    | lst xs =>
      cases d' with
      | lst ys =>
        have hh := h
        have hh' := h'
        unfold Rep at h h'
        obtain ⟨a, vs, rfl, h1, h2⟩ := h
        obtain ⟨a', vs', rfl, h1', h2'⟩ := h'
        cases r
        cases r'
        by_cases hne : a = a'
        · subst hne
          have z := I.rep_inj hh hh'
          rw [← z] at e
          rw [eqD_self e]
          exact SeqAt.EqAt.same _
        · obtain ⟨its, rv, p, hz⟩ := I.list h1
          obtain ⟨its', rv', p', hz'⟩ := I.list h1'
          have l1 := rv.length
          have l2 := rv'.length
          have l3 := h2.length
          have l4 := h2'.length
          refine SeqAt.EqAt.of_refs hne ?_
          unfold eqD at e
          by_cases hl : xs.length = ys.length
          · rw [if_pos hl] at e
            obtain ⟨ef, he, hb⟩ := eqDs_places e
            have q := SeqAt.RcAt.lists (A := A) (s := s) (e := ef) p.isList p'.isList (by simp; omega) (by omega) fun j g1 g2 => by
              have g1' : j < its.length := by simpa using g1
              have g2' : j < its'.length := by simpa using g2
              obtain ⟨y, hy, ry⟩ := rv.at g1'
              obtain ⟨y', hy', ry'⟩ := rv'.at g2'
              obtain ⟨dd, hd, rd⟩ := h2.get hy
              obtain ⟨dd', hd', rd'⟩ := h2'.get hy'
              have dp := depDs_get hd
              unfold depD at hn
              exact ih A.in1 dd dd' y y' _ _ (ef j) (by omega) (by show A.units + 1 + n < cLine; omega) rd rd' (by simpa using ry) (by simpa using ry') (he j dd dd' hd hd')
            have eb : b = (List.range its.toArray.size).all ef := by
              rw [hb, hl, Nat.min_self]
              simp only [beq_self_eq_true, Bool.and_true, List.size_toArray]
              rw [← l1, l3, hl]
            rw [eb]; exact q
          · rw [if_neg hl] at e
            cases e
            exact SeqAt.RcAt.lists_lengths p.isList p'.isList (by simp only [List.size_toArray, bne_iff_ne, ne_eq]; omega) (by omega)
      | _ => unfold eqD at e; cases e
    | tup xs =>
      cases d' with
      | tup ys =>
        have hh := h
        have hh' := h'
        unfold Rep at h h'
        obtain ⟨a, vs, rfl, h1, h2⟩ := h
        obtain ⟨a', vs', rfl, h1', h2'⟩ := h'
        cases r
        cases r'
        by_cases hne : a = a'
        · subst hne
          have z := I.rep_inj hh hh'
          rw [← z] at e
          rw [eqD_self e]
          exact SeqAt.EqAt.same _
        · obtain ⟨its, rv, p, hz⟩ := I.tuple h1
          obtain ⟨its', rv', p', hz'⟩ := I.tuple h1'
          have l1 := rv.length
          have l2 := rv'.length
          have l3 := h2.length
          have l4 := h2'.length
          refine SeqAt.EqAt.of_refs hne ?_
          unfold eqD at e
          obtain ⟨ef, he, hb⟩ := eqDs_places e
          have q := SeqAt.RcAt.tuples (A := A) (s := s) (e := ef) (show s.heap.IsTuple a its.toArray from p) (show s.heap.IsTuple a' its'.toArray from p') (by omega) fun j g1 g2 => by
              have g1' : j < its.length := by simpa using g1
              have g2' : j < its'.length := by simpa using g2
              obtain ⟨y, hy, ry⟩ := rv.at g1'
              obtain ⟨y', hy', ry'⟩ := rv'.at g2'
              obtain ⟨dd, hd, rd⟩ := h2.get hy
              obtain ⟨dd', hd', rd'⟩ := h2'.get hy'
              have dp := depDs_get hd
              unfold depD at hn
              exact ih A.in1 dd dd' y y' _ _ (ef j) (by omega) (by show A.units + 1 + n < cLine; omega) rd rd' (by simpa using ry) (by simpa using ry') (he j dd dd' hd hd')
          have eb : b = ((List.range (min its.toArray.size its'.toArray.size)).all ef && its.toArray.size == its'.toArray.size) := by
            rw [hb, List.size_toArray, List.size_toArray, ← l1, ← l2, l3, l4]
          rw [eb]; exact q
      | _ => unfold eqD at e; cases e
end
section
variable {X : Cx}
noncomputable def rEqD (K : PySem.W.Frag) (neg : Bool) : R2 := fun x y H Q => ∃ d d' b, Rep K H d x ∧ Rep K H d' y ∧ depD d ≤ 50 ∧ eqD d d' = some b ∧ Q (.bl (if neg then !b else b)) H
end
end L2
namespace L2
open PySem PySem.Spec PyProof.Rows
section
variable {X : Cx} {pins : List (Addr × Obj)} {σ : St} {H : Hp} {s : Shared}
theorem items_eq (I : Inv X pins σ H s) {n : Nat} {A : Around} {xs ys : List D} {vs vs' : List V} {its its' : List Value} {b : Bool} (hn : depDs xs ≤ n) (hu : A.units + n < cLine) (h2 : Reps X.K H xs vs) (h2' : Reps X.K H ys vs') (rv : Vals vs its) (rv' : Vals vs' its')
    (e : eqDs xs ys = some b) : ∃ ef : Nat → Bool, (∀ (j : Nat) (h1 : j < its.toArray.size) (h2 : j < its'.toArray.size), SeqAt.EqAt A s its.toArray[j] its'.toArray[j] (ef j)) ∧ b = ((List.range (min its.toArray.size its'.toArray.size)).all ef && its.toArray.size == its'.toArray.size) := by
  have l1 := rv.length
  have l2 := rv'.length
  have l3 := h2.length
  have l4 := h2'.length
  obtain ⟨ef, he, hb⟩ := eqDs_places e
  refine ⟨ef, fun j g1 g2 => ?_, ?_⟩
  · have g1' : j < its.length := by simpa using g1
    have g2' : j < its'.length := by simpa using g2
    obtain ⟨y, hy, ry⟩ := rv.at g1'
    obtain ⟨y', hy', ry'⟩ := rv'.at g2'
    obtain ⟨dd, hd, rd⟩ := h2.get hy
    obtain ⟨dd', hd', rd'⟩ := h2'.get hy'
    have dp := depDs_get hd
    exact eqAt_rep I n A dd dd' y y' _ _ (ef j) (by omega) hu rd rd' (by simpa using ry) (by simpa using ry') (he j dd dd' hd hd')
  · rw [hb, List.size_toArray, List.size_toArray, ← l1, ← l2, l3, l4]
theorem op_eqD (hu : X.A.units + 60 < cLine) : OpR X (compareOp .Eq) (rEqD X.K false) := by
  intro pins s σ H x y v u Q I rx ry h
  obtain ⟨d, d', b, h, h', hd, e, q⟩ := h
  have fin : EP X pins σ Q (.bool b) s := ⟨.bl b, H, I, rfl, q⟩
  cases d with
  | lst xs =>
    cases d' with
    | lst ys =>
      unfold Rep at h h'
      obtain ⟨a, vs, rfl, h1, h2⟩ := h
      obtain ⟨a', vs', rfl, h1', h2'⟩ := h'
      cases rx
      cases ry
      obtain ⟨its, rv, p, hz⟩ := I.list h1
      obtain ⟨its', rv', p', hz'⟩ := I.list h1'
      have l1 := rv.length
      have l2 := rv'.length
      have l3 := h2.length
      have l4 := h2'.length
      unfold eqD at e
      by_cases hl : xs.length = ys.length
      · rw [if_pos hl] at e
        unfold depD at hd
        obtain ⟨ef, he, hb⟩ := items_eq (n := 50) (A := X.A.in1) I (by omega) (by show X.A.units + 1 + 50 < cLine; omega) h2 h2' rv rv' e
        refine SeqAt.eq_listAt p.isList p'.isList (by simp; omega) (by omega) he ?_
        have hs : its.toArray.size = its'.toArray.size := by simp; omega
        rw [hs, Nat.min_self] at hb
        simp only [beq_self_eq_true, Bool.and_true] at hb
        rw [hs, ← hb]
        exact fin
      · rw [if_neg hl] at e
        cases e
        exact SeqAt.eq_list_lengthsAt p.isList p'.isList (by simp only [List.size_toArray, bne_iff_ne, ne_eq]; omega) (by omega) fin
    | _ => unfold eqD at e; cases e
  | tup xs =>
    cases d' with
    | tup ys =>
      unfold Rep at h h'
      obtain ⟨a, vs, rfl, h1, h2⟩ := h
      obtain ⟨a', vs', rfl, h1', h2'⟩ := h'
      cases rx
      cases ry
      obtain ⟨its, rv, p, hz⟩ := I.tuple h1
      obtain ⟨its', rv', p', hz'⟩ := I.tuple h1'
      unfold eqD at e
      unfold depD at hd
      obtain ⟨ef, he, hb⟩ := items_eq (n := 50) (A := X.A.in1) I (by omega) (by show X.A.units + 1 + 50 < cLine; omega) h2 h2' rv rv' e
      refine SeqAt.eq_tupleAt (show s.heap.IsTuple a its.toArray from p) (show s.heap.IsTuple a' its'.toArray from p') (by omega) he ?_
      rw [← hb]
      exact fin
    | _ => unfold eqD at e; cases e
  | non =>
    cases d' with
    | non =>
      unfold Rep at h h'; subst h h'; unfold eqD at e; cases e
      exact op_eq pins s σ H .non .non v u Q I rx ry ⟨rfl, by simpa using q⟩
    | _ => unfold eqD at e; cases e
  | bl i =>
    cases d' with
    | bl j =>
      unfold Rep at h h'; subst h h'; unfold eqD at e; cases e
      exact op_eq pins s σ H (.bl i) (.bl j) v u Q I rx ry ⟨rfl, by rw [dec_bl]; exact q⟩
    | _ => unfold eqD at e; cases e
  | int i =>
    cases d' with
    | int j =>
      unfold Rep at h h'; subst h h'; unfold eqD at e; cases e
      exact op_eq pins s σ H (.int i) (.int j) v u Q I rx ry ⟨rfl, by rw [dec_int]; exact q⟩
    | _ => unfold eqD at e; cases e
  | str i =>
    cases d' with
    | str j =>
      unfold Rep at h h'; subst h h'; unfold eqD at e; cases e
      exact op_eq pins s σ H (.str i) (.str j) v u Q I rx ry ⟨rfl, by rw [dec_str]; exact q⟩
    | _ => unfold eqD at e; cases e
theorem op_neD (hu : X.A.units + 60 < cLine) : OpR X (compareOp .NotEq) (rEqD X.K true) := by
  intro pins s σ H x y v u Q I rx ry h
  obtain ⟨d, d', b, h, h', hd, e, q⟩ := h
  have fin : EP X pins σ Q (.bool (!b)) s := ⟨.bl (!b), H, I, rfl, q⟩
  cases d with
  | lst xs =>
    cases d' with
    | lst ys =>
      unfold Rep at h h'
      obtain ⟨a, vs, rfl, h1, h2⟩ := h
      obtain ⟨a', vs', rfl, h1', h2'⟩ := h'
      cases rx
      cases ry
      obtain ⟨its, rv, p, hz⟩ := I.list h1
      obtain ⟨its', rv', p', hz'⟩ := I.list h1'
      have l1 := rv.length
      have l2 := rv'.length
      have l3 := h2.length
      have l4 := h2'.length
      unfold eqD at e
      by_cases hl : xs.length = ys.length
      · rw [if_pos hl] at e
        unfold depD at hd
        obtain ⟨ef, he, hb⟩ := items_eq (n := 50) (A := X.A.in1) I (by omega) (by show X.A.units + 1 + 50 < cLine; omega) h2 h2' rv rv' e
        refine SeqAt.RcNeAt.lists p.isList p'.isList (by simp; omega) (by omega) he _ _ _ _ ?_
        have hs : its.toArray.size = its'.toArray.size := by simp; omega
        rw [hs, Nat.min_self] at hb
        simp only [beq_self_eq_true, Bool.and_true] at hb
        rw [hs, ← hb]
        exact fin
      · rw [if_neg hl] at e
        cases e
        exact SeqAt.RcNeAt.lists_lengths p.isList p'.isList (by simp only [List.size_toArray, bne_iff_ne, ne_eq]; omega) (by omega) _ _ _ _ fin
    | _ => unfold eqD at e; cases e
  | tup xs =>
    cases d' with
    | tup ys =>
      unfold Rep at h h'
      obtain ⟨a, vs, rfl, h1, h2⟩ := h
      obtain ⟨a', vs', rfl, h1', h2'⟩ := h'
      cases rx
      cases ry
      obtain ⟨its, rv, p, hz⟩ := I.tuple h1
      obtain ⟨its', rv', p', hz'⟩ := I.tuple h1'
      unfold eqD at e
      unfold depD at hd
      obtain ⟨ef, he, hb⟩ := items_eq (n := 50) (A := X.A.in1) I (by omega) (by show X.A.units + 1 + 50 < cLine; omega) h2 h2' rv rv' e
      refine SeqAt.RcNeAt.tuples (show s.heap.IsTuple a its.toArray from p) (show s.heap.IsTuple a' its'.toArray from p') (by omega) he _ _ _ _ ?_
      rw [← hb]
      exact fin
    | _ => unfold eqD at e; cases e
  | non =>
    cases d' with
    | non =>
      unfold Rep at h h'; subst h h'; unfold eqD at e; cases e
      exact op_ne pins s σ H .non .non v u Q I rx ry ⟨rfl, by simpa using q⟩
    | _ => unfold eqD at e; cases e
  | bl i =>
    cases d' with
    | bl j =>
      unfold Rep at h h'; subst h h'; unfold eqD at e; cases e
      exact op_ne pins s σ H (.bl i) (.bl j) v u Q I rx ry ⟨rfl, by rw [dec_bl]; exact q⟩
    | _ => unfold eqD at e; cases e
  | int i =>
    cases d' with
    | int j =>
      unfold Rep at h h'; subst h h'; unfold eqD at e; cases e
      exact op_ne pins s σ H (.int i) (.int j) v u Q I rx ry ⟨rfl, by rw [dec_int]; exact q⟩
    | _ => unfold eqD at e; cases e
  | str i =>
    cases d' with
    | str j =>
      unfold Rep at h h'; subst h h'; unfold eqD at e; cases e
      exact op_ne pins s σ H (.str i) (.str j) v u Q I rx ry ⟨rfl, by rw [dec_str]; exact q⟩
    | _ => unfold eqD at e; cases e
end
section
variable {X : Cx} {tg : Expr}
noncomputable def iSeq (K : PySem.W.Frag) (tl : TE) : TI := fun σ H R => tl σ H fun x H1 => ∃ a, x = .ref a ∧ (((∃ xs, SqL K H1 a xs) ∧ R (Itl K a) H1) ∨ ((∃ xs, SqT K H1 a xs) ∧ R (Itt K a) H1))
theorem pi_seq {l : Expr} {tl : TE} (hl : PE X l tl) : PI X tg l (iSeq X.K tl) := by
  intro pins s σ H R I h
  refine thn (hl pins s σ H _ I h) fun v s1 ⟨x, H1, I1, r1, q1⟩ => ?_
  obtain ⟨a, e, q⟩ := q1
  subst e
  cases r1
  have fp : ∀ b ∈ [s1.heap.objs.size], FpOk X pins H1 b := fun b hb => by
    have e : b = s1.heap.objs.size := by simpa using hb
    subst e
    exact I1.fpOk (Nat.le_refl _) (I1.hok.fresh (Nat.le_refl _))
  rcases q with ⟨⟨xs, hq⟩, q⟩ | ⟨⟨xs, hq⟩, q⟩
  · obtain ⟨its, rv, p, hz⟩ := I1.list hq
    refine wpAny_pyIter_list p.isList ?_
    exact ⟨s1.heap.objs.size, [s1.heap.objs.size], _, _, H1, rfl, I1.kept (t' := s1.toks) fun b o e => Heap.get?_push_of_some _ e, turn_list a _, ⟨_, Heap.get?_push_size _ rfl, rfl, rfl⟩, fp, q⟩
  · obtain ⟨its, rv, p, hz⟩ := I1.tuple hq
    refine wpAny_pyIter_tuple (show s1.heap.IsTuple a its.toArray from p) ?_
    exact ⟨s1.heap.objs.size, [s1.heap.objs.size], _, _, H1, rfl, I1.kept (t' := s1.toks) fun b o e => Heap.get?_push_of_some _ e, turn_tuple a _, ⟨_, Heap.get?_push_size _ rfl, rfl, rfl⟩, fp, q⟩
theorem hu60 {A : Around} {k : Nat} (hr : Room k A) : A.units + 60 < cLine := Nat.lt_of_le_of_lt (Nat.add_le_add_left (by decide : 60 ≤ 64) _) hr.units
end
end L2
namespace L2
open PySem PySem.Spec PyProof.Rows
noncomputable def noStar : Expr → Bool
  | .Starred .. => false
  | _ => true
theorem star_cons {e : Expr} {es : List Expr} {env : Env} (h : noStar e = true) : starEach (e :: es) env = (false, eval e env) :: starEach es env := by
  cases e <;> first | rfl | cases h
theorem pac {X : Cx} {e : Expr} {es : List Expr} {te : TE} {t : TA} (ha : PE X e te) (hr : PA X es t) (hs : noStar e = true := by rfl) : PA X (e :: es) (tCons te t) := pa_cons ha hr (star_cons hs)
theorem pssc {X : Cx} {b : List Stmt} {st : Stmt} {rest : List Stmt} (e : b = st :: rest) {t u : TS} (h1 : PS X st t) (h2 : PSs X rest u) : PSs X b (tSeq t u) := by rw [e]; exact pss_cons h1 h2
theorem psso {X : Cx} {b : List Stmt} {st : Stmt} (e : b = [st]) {t : TS} (h1 : PS X st t) : PSs X b t := by rw [e]; exact pss_one h1
end L2
namespace L2
open PySem PySem.W PyProof.Rows
section
variable {k : Nat → Int} {N : Nat} {cmp : Nat → Nat → (Bool → Shared → Prop) → Shared → Prop} {s : Shared}
noncomputable abbrev KP (k : Nat → Int) (p : Array Nat) (i : Nat) : Int := k (p.getD i 0)
noncomputable def Up (k : Nat → Int) (p : Array Nat) (m : Nat) : Prop := ∀ i j, i ≤ j → j < m → KP k p i ≤ KP k p j
noncomputable def Dn (k : Nat → Int) (p : Array Nat) (m : Nat) : Prop := ∀ i j, i ≤ j → j < m → KP k p j ≤ KP k p i
noncomputable def Vd (N : Nat) (p : Array Nat) : Prop := p.toList.Perm (List.range N)
theorem Vd.size {p : Array Nat} (h : Vd N p) : p.size = N := by
  have := h.length_eq
  rw [List.length_range, Array.length_toList] at this
  exact this
theorem Vd.lt {p : Array Nat} (h : Vd N p) {i : Nat} (hi : i < N) : p.getD i 0 < N := by
  have hs := h.size
  have hi' : i < p.size := by omega
  have e : p.getD i 0 = p[i] := by simp [Array.getD, hi']
  rw [e]
  have hm : p[i] ∈ p.toList := by rw [Array.mem_toList_iff]; exact Array.getElem_mem hi'
  exact List.mem_range.mp (h.mem_iff.mp hm)
noncomputable def Asks (k : Nat → Int) (N : Nat) (cmp : Nat → Nat → (Bool → Shared → Prop) → Shared → Prop) (s : Shared) : Prop := ∀ i j, i < N → j < N → ∀ C : Bool → Shared → Prop, C (decide (k i < k j)) s → cmp i j C s
theorem getD_of {p q : Array Nat} {i j : Nat} (h : p[i]? = q[j]?) : p.getD i 0 = q.getD j 0 := by
  rw [Array.getD_eq_getD_getElem?, Array.getD_eq_getD_getElem?, h]
theorem KP_rev {p : Array Nat} {i j : Nat} (hj : j ≤ p.size) (x : Nat) : KP k (kas_rev p i j) x = if i ≤ x ∧ x < j then KP k p (i + j - 1 - x) else KP k p x := by
  have e := getElem?_mirror_all (i := i) hj x
  unfold KP kas_rev
  split
  · rename_i h
    rw [if_pos h] at e
    rw [getD_of e]
  · rename_i h
    rw [if_neg h] at e
    rw [getD_of e]
theorem Vd.rev {p : Array Nat} (h : Vd N p) (i j : Nat) : Vd N (kas_rev p i j) := (Array.perm_iff_toList_perm.mp (mirror_perm p i j ((j - i) / 2))).trans h
theorem Vd.bubble {p : Array Nat} (h : Vd N p) (i d : Nat) : Vd N (bubble p i d) := (Array.perm_iff_toList_perm.mp (bubble_perm p i d)).trans h
theorem asc_ok (ask : Asks k N cmp s) {p : Array Nat} (hv : Vd N p) : ∀ (f m : Nat) (Q : Nat → Shared → Prop), 1 ≤ m → m + f ≤ N → Up k p m → (∀ m', m ≤ m' → m' ≤ m + f → Up k p m' → (m' = m + f ∨ KP k p m' < KP k p (m' - 1)) → Q m' s) → (kas_asc p f m).kasWp cmp Q s
  | 0, m, Q, h1, hN, up, hQ => hQ m (Nat.le_refl _) (Nat.le_refl _) up (.inl rfl)
  | f + 1, m, Q, h1, hN, up, hQ => by
    refine ask _ _ (hv.lt (by omega)) (hv.lt (by omega)) _ ?_
    by_cases h : k (p.getD m 0) < k (p.getD (m - 1) 0)
    · rw [decide_eq_true h]; dsimp only; rw [if_pos rfl]
      exact hQ m (Nat.le_refl _) (by omega) up (.inr h)
    · rw [decide_eq_false h]; dsimp only; rw [if_neg Bool.false_ne_true]
      have up' : Up k p (m + 1) := fun i j hij hj => by
        by_cases hj' : j < m
        · exact up i j hij hj'
        · have ej : j = m := by omega
          subst ej
          by_cases hi : i = j
          · subst hi; exact Int.le_refl _
          · have := up i (j - 1) (by omega) (by omega)
            unfold KP at *
            omega
      exact asc_ok ask hv f (m + 1) Q (by omega) (by omega) up' fun m' a b c d => hQ m' (by omega) (by omega) c (d.imp (fun e => by omega) id)
theorem rev_eq {p : Array Nat} {i j : Nat} (hj : j ≤ p.size) (he : ∀ x, i ≤ x → x < j → KP k p x = KP k p (j - 1)) (x : Nat) : KP k (kas_rev p i j) x = KP k p x := by
  rw [KP_rev hj]
  split
  · rename_i h
    rw [he _ (by omega) (by omega), he x h.1 h.2]
  · rfl
theorem desc_ok (ask : Asks k N cmp s) : ∀ (f : Nat) (p : Array Nat) (m q : Nat) (Q : Array Nat × Nat × Nat → Shared → Prop), Vd N p → 1 ≤ m → m + f ≤ N → q + 1 ≤ m → Dn k p m → (∀ x, m - (q + 1) ≤ x → x < m → KP k p x = KP k p (m - 1)) →
    (∀ p' m' q', Vd N p' → m ≤ m' → m' ≤ m + f → q' + 1 ≤ m' → Dn k p' m' → (∀ x, m' - (q' + 1) ≤ x → x < m' → KP k p' x = KP k p' (m' - 1)) → Q (p', m', q') s) → (kas_desc f p m q).kasWp cmp Q s
  | 0, p, m, q, Q, hv, h1, hN, hq, dn, eq, hQ => hQ p m q hv (Nat.le_refl _) (Nat.le_refl _) hq dn eq
  | f + 1, p, m, q, Q, hv, h1, hN, hq, dn, eq, hQ => by
    refine ask _ _ (hv.lt (by omega)) (hv.lt (by omega)) _ ?_
    have hs := hv.size
    have dn' : KP k p m ≤ KP k p (m - 1) → Dn k p (m + 1) := fun hle i j hij hj => by
      by_cases hj' : j < m
      · exact dn i j hij hj'
      · have ej : j = m := by omega
        subst ej
        by_cases hi : i = j
        · subst hi; exact Int.le_refl _
        · have := dn i (j - 1) (by omega) (by omega)
          omega
    by_cases h : k (p.getD m 0) < k (p.getD (m - 1) 0)
    · rw [decide_eq_true h]; dsimp only; rw [if_pos rfl]
      have d1 := dn' (Int.le_of_lt h)
      by_cases hq0 : q > 0
      · rw [if_pos hq0]
        have er := rev_eq (k := k) (p := p) (i := m - (q + 1)) (j := m) (by omega) eq
        refine desc_ok ask f _ (m + 1) 0 Q (hv.rev _ _) (by omega) (by omega) (by omega) (fun i j hij hj => ?_) (fun x hx1 hx2 => ?_) fun p' m' q' a b c d e g => hQ p' m' q' a (by omega) (by omega) d e g
        · rw [er, er]; exact d1 i j hij hj
        · have : x = m + 1 - 1 := by omega
          rw [this]
      · rw [if_neg hq0]
        refine desc_ok ask f _ (m + 1) 0 Q hv (by omega) (by omega) (by omega) d1 (fun x hx1 hx2 => ?_) fun p' m' q' a b c d e g => hQ p' m' q' a (by omega) (by omega) d e g
        have : x = m + 1 - 1 := by omega
        rw [this]
    · rw [decide_eq_false h]; dsimp only; rw [if_neg Bool.false_ne_true]
      refine ask _ _ (hv.lt (by omega)) (hv.lt (by omega)) _ ?_
      by_cases h2 : k (p.getD (m - 1) 0) < k (p.getD m 0)
      · rw [decide_eq_true h2]; dsimp only; rw [if_pos rfl]
        exact hQ p m q hv (Nat.le_refl _) (by omega) hq dn eq
      · rw [decide_eq_false h2]; dsimp only; rw [if_neg Bool.false_ne_true]
        have e : KP k p m = KP k p (m - 1) := by unfold KP; omega
        refine desc_ok ask f p (m + 1) (q + 1) Q hv (by omega) (by omega) (by omega) (dn' (Int.le_of_eq e)) (fun x hx1 hx2 => ?_) fun p' m' q' a b c d e g => hQ p' m' q' a (by omega) (by omega) d e g
        by_cases hx : x = m
        · subst hx; rfl
        · have := eq x (by omega) (by omega)
          rw [this, Nat.add_sub_cancel, e]
theorem tail3_ok (ask : Asks k N cmp s) {n : Nat} {p : Array Nat} {Q : Nat × Array Nat → Shared → Prop} (hv : Vd N p) (h1 : 1 ≤ n) (hn : n ≤ N) (dn : Dn k p n) (hQ : ∀ m p', Vd N p' → 1 ≤ m → m ≤ N → Up k p' m → Q (m, p') s) : (kas_tail3 n N p).kasWp cmp Q s := by
  unfold kas_tail3
  rw [KasT.kasWp_bind]
  have hs := hv.size
  refine asc_ok ask (hv.rev 0 n) (N - n) n _ h1 (by omega) (fun i j hij hj => ?_) fun m' a b c _ => hQ m' _ (hv.rev 0 n) (by omega) (by omega) c
  rw [KP_rev (by omega), KP_rev (by omega), if_pos ⟨Nat.zero_le _, by omega⟩, if_pos ⟨Nat.zero_le _, hj⟩]
  exact dn _ _ (by omega) (by omega)
theorem descPart_ok (ask : Asks k N cmp s) {n : Nat} {p : Array Nat} {Q : Nat × Array Nat → Shared → Prop} (hv : Vd N p) (h1 : 1 ≤ n) (hn : n < N) (dn : Dn k p (n + 1)) (hQ : ∀ m p', Vd N p' → 1 ≤ m → m ≤ N → Up k p' m → Q (m, p') s) : (kas_descPart n N p).kasWp cmp Q s := by
  unfold kas_descPart
  rw [KasT.kasWp_bind]
  refine desc_ok ask (N - (n + 1)) p (n + 1) 0 _ hv (by omega) (by omega) (by omega) dn (fun x a b => congrArg (KP k p) (show x = n + 1 - 1 by omega)) fun p' m' q' hv' a b c d e => ?_
  have hs := hv'.size
  dsimp only
  by_cases hq : q' > 0
  · rw [if_pos hq]
    have er := rev_eq (k := k) (p := p') (i := m' - (q' + 1)) (j := m') (by omega) e
    refine tail3_ok ask (hv'.rev _ _) (by omega) (by omega) (fun i j hij hj => ?_) hQ
    rw [er, er]; exact d i j hij hj
  · rw [if_neg hq]
    exact tail3_ok ask hv' (by omega) (by omega) d hQ
theorem count_ok (ask : Asks k N cmp s) {p : Array Nat} {Q : Nat × Array Nat → Shared → Prop} (hv : Vd N p) (h1 : 1 ≤ N) (hQ : ∀ m p', Vd N p' → 1 ≤ m → m ≤ N → Up k p' m → Q (m, p') s) : (kas_count N p).kasWp cmp Q s := by
  unfold kas_count
  rw [KasT.kasWp_bind]
  have hs := hv.size
  refine asc_ok ask hv (N - 1) 1 _ (Nat.le_refl _) (by omega) (fun i j hij hj => Int.le_of_eq (congrArg (KP k p) (show i = j by omega))) fun m a b up hst => ?_
  by_cases hm : (m == N) = true
  · rw [if_pos hm]
    exact hQ m p hv a (by omega) up
  · rw [if_neg hm]
    have hmN : m ≠ N := fun e => hm (by rw [e]; exact beq_self_eq_true _)
    have lt : KP k p m < KP k p (m - 1) := by
      rcases hst with e | e
      · omega
      · exact e
    by_cases hm1 : m > 1
    · rw [if_pos hm1]
      refine ask _ _ (hv.lt (by omega)) (hv.lt (by omega)) _ ?_
      by_cases h : k (p.getD 0 0) < k (p.getD (m - 1) 0)
      · rw [decide_eq_true h]; dsimp only; rw [if_pos rfl]
        exact hQ m p hv a (by omega) up
      · rw [decide_eq_false h]; dsimp only; rw [if_neg Bool.false_ne_true]
        have e1 : ∀ x, x < m → KP k p x = KP k p (m - 1) := fun x hx => by
          have q1 := up 0 x (Nat.zero_le _) hx
          have q2 := up x (m - 1) (by omega) (by omega)
          unfold KP at *
          omega
        have er := rev_eq (k := k) (p := p) (i := 0) (j := m) (by omega) fun x _ hx => e1 x hx
        refine descPart_ok ask (hv.rev 0 m) a (by omega) (fun i j hij hj => ?_) hQ
        rw [er, er]
        by_cases hj' : j < m
        · rw [e1 i (by omega), e1 j hj']; exact Int.le_refl _
        · have ej : j = m := by omega
          subst ej
          by_cases hi : i = j
          · subst hi; exact Int.le_refl _
          · rw [e1 i (by omega)]; omega
    · rw [if_neg hm1]
      have em : m = 1 := by omega
      subst em
      refine descPart_ok ask hv (Nat.le_refl _) (by omega) (fun i j hij hj => ?_) hQ
      by_cases hi : i = j
      · subst hi; exact Int.le_refl _
      · have e0 : i = 0 := by omega
        have e1 : j = 1 := by omega
        subst e0 e1
        exact Int.le_of_lt lt
theorem place_ok (ask : Asks k N cmp s) {p : Array Nat} {x : Nat} (hv : Vd N p) (hx : x < N) (up : Up k p x) : ∀ (f l r : Nat) (Q : Nat → Shared → Prop), r - l ≤ f → l ≤ r → r ≤ x → (∀ i, i < l → KP k p i ≤ KP k p x) → (∀ i, r ≤ i → i < x → KP k p x ≤ KP k p i) →
    (∀ l', l' ≤ x → (∀ i, i < l' → KP k p i ≤ KP k p x) → (∀ i, l' ≤ i → i < x → KP k p x ≤ KP k p i) → Q l' s) → (kas_place p x f l r).kasWp cmp Q s
  | 0, l, r, Q, hf, hlr, hr, lo, hi, hQ => hQ l (by omega) lo fun i a b => hi i (by omega) b
  | f + 1, l, r, Q, hf, hlr, hr, lo, hi, hQ => by
    unfold kas_place
    by_cases hge : l ≥ r
    · rw [if_pos hge]
      exact hQ l (by omega) lo fun i a b => hi i (by omega) b
    · rw [if_neg hge]
      refine ask _ _ (hv.lt hx) (hv.lt (by omega)) _ ?_
      by_cases h : k (p.getD x 0) < k (p.getD ((l + r) / 2) 0)
      · rw [decide_eq_true h]; dsimp only; rw [if_pos rfl]
        refine place_ok ask hv hx up f l ((l + r) / 2) Q (by omega) (by omega) (by omega) lo (fun i a b => ?_) hQ
        have := up ((l + r) / 2) i a b
        unfold KP at *
        omega
      · rw [decide_eq_false h]; dsimp only; rw [if_neg Bool.false_ne_true]
        refine place_ok ask hv hx up f ((l + r) / 2 + 1) r Q (by omega) (by omega) hr (fun i a => ?_) hi hQ
        have := up i ((l + r) / 2) (by omega) (by omega)
        unfold KP at *
        omega
theorem KP_bubble {p : Array Nat} {x d : Nat} (hx : x < p.size) (hd : d ≤ x) (i : Nat) : KP k (bubble p x d) i = if i = x - d then KP k p x else if x - d < i ∧ i ≤ x then KP k p (i - 1) else KP k p i := by
  have e := getElem?_bubble hx d hd i
  unfold KP
  by_cases h1 : i = x - d
  · rw [if_pos h1] at e ⊢; rw [getD_of e]
  · rw [if_neg h1] at e ⊢
    by_cases h2 : x - d < i ∧ i ≤ x
    · rw [if_pos h2] at e ⊢; rw [getD_of e]
    · rw [if_neg h2] at e ⊢; rw [getD_of e]
theorem bin_ok (ask : Asks k N cmp s) : ∀ (f : Nat) (p : Array Nat) (x : Nat) (Q : Array Nat → Shared → Prop), Vd N p → x + f = N → Up k p x → (∀ p', Vd N p' → Up k p' N → Q p' s) → (kas_bin f p x).kasWp cmp Q s
  | 0, p, x, Q, hv, hf, up, hQ => by
    have : x = N := by omega
    subst this
    exact hQ p hv up
  | f + 1, p, x, Q, hv, hf, up, hQ => by
    unfold kas_bin
    rw [KasT.kasWp_bind]
    have hs := hv.size
    refine place_ok ask hv (by omega) up x 0 x _ (by omega) (Nat.zero_le _) (Nat.le_refl _) (fun i a => absurd a (Nat.not_lt_zero _)) (fun i a b => by omega) fun l hl lo hi => ?_
    refine bin_ok ask f _ (x + 1) Q (hv.bubble _ _) (by omega) (fun i j hij hj => ?_) hQ
    rw [KP_bubble (by omega) (by omega), KP_bubble (by omega) (by omega), show x - (x - l) = l by omega]
    by_cases h1 : i = l
    · rw [if_pos h1]
      by_cases h2 : j = l
      · rw [if_pos h2]; exact Int.le_refl _
      · rw [if_neg h2, if_pos ⟨by omega, by omega⟩]
        exact hi _ (by omega) (by omega)
    · rw [if_neg h1]
      by_cases h3 : l < i ∧ i ≤ x
      · rw [if_pos h3]
        have h2 : ¬ j = l := by omega
        rw [if_neg h2, if_pos ⟨by omega, by omega⟩]
        exact up _ _ (by omega) (by omega)
      · rw [if_neg h3]
        by_cases h2 : j = l
        · rw [if_pos h2]; exact lo i (by omega)
        · rw [if_neg h2]
          by_cases h4 : l < j ∧ j ≤ x
          · rw [if_pos h4]
            have q1 := lo i (by omega)
            exact up _ _ (by omega) (by omega)
          · rw [if_neg h4]
            exact up _ _ hij (by omega)
theorem Vd.start : Vd N (List.toArray (List.range N)) := List.Perm.refl _
theorem sort_ok (ask : Asks k N cmp s) (h1 : 1 ≤ N) {Q : Array Nat → Shared → Prop} (hQ : ∀ p, Vd N p → Up k p N → Q p s) : (kas_sort N).kasWp cmp Q s := by
  unfold kas_sort
  rw [KasT.kasWp_bind]
  refine count_ok ask Vd.start h1 fun m p hv a b up => ?_
  dsimp only
  by_cases hm : m < N
  · rw [if_pos hm]
    have e : max m 1 = m := by omega
    rw [e]
    exact bin_ok ask (N - m) p m Q hv (by omega) up hQ
  · rw [if_neg hm]
    have e : m = N := by omega
    subst e
    exact hQ p hv up
end
end L2
namespace MX
open PySem PyProof.Rows
section
variable {prog : Program} {w : World} {A : Around} {E : Value → Shared → Prop} {s : Shared}
theorem sort1 {a : Addr} {xs : Array Value} {n : Nat} {Q : PySem.Fin → Shared → Prop} (h2 : xs.size < 2) (ho : s.heap.get? a = some { cls := .type "list", data := .seq xs n })
    (h : ∀ h' e, (∀ b o, b ≠ a → s.heap.get? b = some o → h'.get? b = some o) → h'.get? a = some { cls := .type "list", data := .seq xs e } → Q (.done (.ret .none)) { s with heap := h' }) :
    wpAny (model prog w) A (Builtin.«list.sort» ⟨[.ref a], []⟩) Q E s := by
  rw [list_sort_plain]
  wp_walk using AutoSeq1.wpAny_loadPart' ho
  have zl : ¬ xs.toList.toArray.size > sizeLine := by rw [sizeLine_eq]; simp; omega
  rw [if_neg zl]
  wp_walk
  rw [if_pos h2]
  refine wpAny_pure ?_
  have o2 : (((s.heap.update a (Obj.mapSeq fun _ => (#[] : Array Value))).push { cls := .type "tuple", data := .seq xs.toList.toArray }).push { cls := .type "list", data := .seq #[] }).get? a = some { cls := .type "list", data := .seq #[] (if ((#[] : Array Value).size == xs.size) = true then n else n + 1) } :=
    Heap.get?_push_of_some _ (Heap.get?_push_of_some _ (Heap.get?_update_self _ ho rfl))
  have em : (xs.zip xs).map (·.2) = xs := by
    apply Array.ext
    · simp
    · intro i h1 h2; simp
  have ea : (arrOf (SortSt.mk' general' (xs.zip xs) #[] 7 none)).map (·.2) = xs := em
  refine wpAny_bind (m := seqEpoch a) (seqEpoch_at o2 rfl (wpAny_bind (m := updateSeq a _) (wpAny_updateSeq o2 rfl ?_ (_hz' := by rw [ea, sizeLine_eq]; omega))))
  have ne : ((if ((#[] : Array Value).size == xs.size) = true then n else n + 1) != if ((#[] : Array Value).size == xs.size) = true then n else n + 1) = false := bne_self_eq_false _
  rw [ea]
  show wpAny _ _ (if (_ != _) = true then _ else ret Value.none) _ _ _
  rw [if_neg (by rw [ne]; decide)]
  refine wpAny_pure (h _ _ (fun b o hb e => (Heap.get?_update_other _ _ (Ne.symm hb)).trans (Heap.get?_push_of_some _ (Heap.get?_push_of_some _ ((Heap.get?_update_other _ _ (Ne.symm hb)).trans e)))) (Heap.get?_update_self _ o2 rfl))
theorem sorted1 {l : Addr} {vs : List Value} {Q : Value → Shared → Prop} (hl : s.heap.IsList l vs.toArray) (h2 : vs.length < 2)
    (h : ∀ h' e, (∀ b o, s.heap.get? b = some o → h'.get? b = some o) → h'.get? (s.heap.objs.size + 1) = some { cls := .type "list", data := .seq vs.toArray e } → Q (.ref (s.heap.objs.size + 1)) { s with heap := h' }) :
    wpAny (model prog w) A (call (.builtin "sorted") [.ref l]) Q E s := by
  have zl : vs.length ≤ sizeLine := by rw [sizeLine_eq]; omega
  have z1 : ((s.heap.push (seqObj "list" #[] 0)).update s.heap.objs.size (Obj.mapSeq (· ++ vs.toArray))).objs.size = s.heap.objs.size + 1 := (Heap.size_update ..).trans (Heap.size_push ..)
  have old : ∀ b o, s.heap.get? b = some o → ((s.heap.push (seqObj "list" #[] 0)).update s.heap.objs.size (Obj.mapSeq (· ++ vs.toArray))).get? b = some o := fun b o e => (Heap.get?_update_other _ _ (Ne.symm (Nat.ne_of_lt (Heap.lt_size e)))).trans (Heap.get?_push_of_some _ e)
  refine Calls.call_function_entry kind_sorted plain_sorted entry_sorted (args_sorted1 _) (wpAny_bind (m := checkCount "sorted" 1 1 _) (wpAny_pure (wpAny_bind (collect_list hl (wpAny_bind (wpAny_newList ?_ zl)) zl))))
  have o1 := Heap.get?_push_size ((s.heap.push (seqObj "list" #[] 0)).update s.heap.objs.size (Obj.mapSeq (· ++ vs.toArray))) (o := seqObj "list" vs.toArray 0) rfl
  refine wpAny_bind (wpAny_holding (wpAny_call_entry slot_list_sort ⟨_, o1, rfl⟩ entry_list_sort (sort1 (by rw [List.size_toArray]; exact h2) o1 fun h' e k q => ⟨_, rfl, wpAny_pure ⟨_, rfl, ?_⟩⟩) (args_list_sort _)))
  show Q (.ref ((s.heap.push (seqObj "list" #[] 0)).update s.heap.objs.size (Obj.mapSeq (· ++ vs.toArray))).objs.size) { s with heap := h' }
  have q' : h'.get? ((s.heap.push (seqObj "list" #[] 0)).update s.heap.objs.size (Obj.mapSeq (· ++ vs.toArray))).objs.size = some { cls := .type "list", data := .seq vs.toArray e } := q
  rw [z1] at q' ⊢
  exact h h' e (fun b o z => k b o (by rw [show ((s.heap.push (seqObj "list" #[] 0)).update s.heap.objs.size (Obj.mapSeq (· ++ vs.toArray))).objs.size = s.heap.objs.size + 1 from z1]; exact Nat.ne_of_lt (Nat.lt_succ_of_lt (Heap.lt_size z))) (Heap.get?_push_of_some _ (old b o z))) q'
end
end MX
namespace L2
open PySem PySem.Spec PySem.W PyProof.Rows
section
variable {n : Nat} {lt : Nat → Nat → Bool}
noncomputable def rank (lt : Nat → Nat → Bool) (n i : Nat) : Int := (((List.range n).countP fun j => lt j i : Nat) : Int)
theorem countP_lt {p q : Nat → Bool} : ∀ (l : List Nat), (∀ x, p x = true → q x = true) → (∃ x ∈ l, q x = true ∧ p x = false) → l.countP p < l.countP q
  | [], _, ⟨x, hx, _⟩ => absurd hx (by simp)
  | y :: l, h, ⟨x, hx, h1, h2⟩ => by
    have le : l.countP p ≤ l.countP q := List.countP_mono_left fun z _ hz => h z hz
    rw [List.countP_cons, List.countP_cons]
    rcases List.mem_cons.mp hx with e | hx
    · subst e
      rw [h1, h2]
      simp only [Bool.false_eq_true, if_false, if_true]
      omega
    · have ih := countP_lt l h ⟨x, hx, h1, h2⟩
      cases hp : p y with
      | true => rw [h y hp]; simp only [if_true]; omega
      | false =>
        cases hq : q y with
        | true => simp only [Bool.false_eq_true, if_false, if_true]; omega
        | false => simp only [Bool.false_eq_true, if_false]; omega
theorem rank_lt (irr : ∀ i, lt i i = false) (tr : ∀ i j k, lt i j = true → lt j k = true → lt i k = true) (neg : ∀ i j k, lt i k = true → lt i j = true ∨ lt j k = true) {i j : Nat} (hi : i < n) : decide (rank lt n i < rank lt n j) = lt i j := by
  cases h : lt i j with
  | true =>
    refine decide_eq_true ?_
    have := countP_lt (p := fun x => lt x i) (q := fun x => lt x j) (List.range n) (fun x hx => tr x i j hx h) ⟨i, List.mem_range.mpr hi, h, irr i⟩
    unfold rank; omega
  | false =>
    refine decide_eq_false fun hlt => ?_
    have le : (List.range n).countP (fun x => lt x j) ≤ (List.range n).countP (fun x => lt x i) := List.countP_mono_left fun x _ hx => by
      rcases neg x i j hx with q | q
      · exact q
      · rw [h] at q; cases q
    unfold rank at hlt; omega
end
section
variable {X : Cx} {pins : List (Addr × Obj)} {σ : St} {H : Hp} {s : Shared}
theorem ObjOk.there {P : Program} {w : World} {h : Heap} {a : Addr} {o : HO} (x : ObjOk P w H h a o) : ∃ ob, h.get? a = some ob := by
  induction o with
  | lst xs => obtain ⟨_, _, _, _, e⟩ := x; exact ⟨_, e⟩
  | tup xs => obtain ⟨_, _, _, ob, e, _⟩ := x; exact ⟨_, e⟩
  | dK kvs => obtain ⟨_, _, _, _, o, _, _, e, _⟩ := x; exact ⟨_, e⟩
  | dT kvs => obtain ⟨_, _, _, _, o, _, _, e, _⟩ := x; exact ⟨_, e⟩
  | set S n => obtain ⟨o, _, _, _, e, _⟩ := x; exact ⟨_, e⟩
  | ins C dx fs => obtain ⟨_, _, _, e, _⟩ := x; exact ⟨_, e⟩
  | own y => exact x
  | xd fs => obtain ⟨_, ⟨_, _, _, e, _⟩, _⟩ := x; exact ⟨_, e⟩
  | rng lo hi => obtain ⟨_, _, _, e⟩ := x; exact ⟨_, e⟩
  | frz ob u => obtain ⟨e, _⟩ := x; exact ⟨_, e⟩
  | tbl ps => exact ⟨_, (show h.get? a = some _ from x)⟩
  | met f y => exact ⟨_, (show h.get? a = some _ from x)⟩
  | ext φ => obtain ⟨_, e, _⟩ := x; exact e
theorem ns_same {h : Heap} {a : Addr} {m m' : Str → Option Value} (x : h.Ns a m) (y : h.Ns a m') : m = m' := by
  obtain ⟨o, es, ep, e, d, _, f⟩ := x
  obtain ⟨o', es', ep', e', d', _, f'⟩ := y
  rw [e] at e'; cases e'
  rw [d] at d'; cases d'
  exact funext fun z => (f z).symm.trans (f' z)
theorem Inv.lay (I : Inv X pins σ H s) {D : Addr} {ys : List V} {its : List Value} {h' : Heap} {n : Nat} (hD : s.heap.get? D = none) (kp : ∀ b o, b ≠ X.env.locals → s.heap.get? b = some o → h'.get? b = some o) (ns : ∀ m, s.heap.Ns X.env.locals m → h'.Ns X.env.locals m)
    (he : h'.get? D = some { cls := .type "list", data := .seq its.toArray n }) (hv : Vals ys its) (hz : ys.length ≤ sizeLine) : Inv X pins σ (upd H D (.lst ys)) { s with heap := h' } ∧ H D = none := by
  have hn : H D = none := by
    cases q : H D with
    | none => rfl
    | some o => obtain ⟨ob, e⟩ := (I.hok D o q).there; rw [hD] at e; cases e
  have hL : H X.env.locals = none := I.free
  have ne : ∀ b u, H b = some u → b ≠ X.env.locals := fun b u e z => by rw [z, hL] at e; cases e
  refine ⟨I.step (g' := s.gens) (d' := s.drawn) (t' := s.toks) (ch := []) (fun b hb => absurd hb (by simp)) (fun b o hb _ _ e _ => kp b o hb e) (fun b o hb _ _ e _ => ⟨o.slots, kp b o hb e⟩) (fun b o _ e n => ?_) (fun b o _ e => ?_) (fun b xs e => ?_) (fun b o u e => ?_) (fun b ps e => ?_) ns (fun b u e => ?_) I.bare, hn⟩
  · by_cases z : b = D
    · subst z; rw [hD] at e; cases e
    · rw [upd_ne z]; exact n
  · by_cases z : b = X.env.locals
    · obtain ⟨m, hm, _⟩ := I.loc
      obtain ⟨o', _, _, e', _⟩ := ns m hm
      exact ⟨o', by rw [z]; exact e'⟩
    · exact ⟨o, kp b o z e⟩
  · rw [upd_ne (ne_of_none e hn)]; exact e
  · rw [upd_ne (ne_of_none e hn)]; exact e
  · exact ⟨#[], by rw [upd_ne (ne_of_none e hn), e]; simp⟩
  · by_cases z : b = D
    · subst z; rw [upd_same] at e; cases e
      exact ⟨hz, its, n, hv, he⟩
    · rw [upd_ne z] at e
      refine (I.hok b u e).stay (fun c v hc q => ?_) (fun c q => by rw [upd_ne (ne_of_none q hn)]; exact q) fun c xs q => by rw [upd_ne (ne_of_none q hn)]; exact q
      rcases hc with z' | z'
      · exact kp c v (by rw [z']; exact ne b u e) q
      · exact kp c v (ne c _ z') q
theorem Inv.kept2 (I : Inv X pins σ H s) {h' : Heap} (kp : ∀ b o, b ≠ X.env.locals → s.heap.get? b = some o → h'.get? b = some o) (ns : ∀ m, s.heap.Ns X.env.locals m → h'.Ns X.env.locals m) : Inv X pins σ H { s with heap := h' } := by
  have ne : ∀ b u, H b = some u → b ≠ X.env.locals := fun b u e z => by rw [z, I.free] at e; cases e
  refine I.step (g' := s.gens) (d' := s.drawn) (t' := s.toks) (ch := []) (fun b hb => absurd hb (by simp)) (fun b o hb _ _ e _ => kp b o hb e) (fun b o hb _ _ e _ => ⟨o.slots, kp b o hb e⟩) (fun b o _ e n => n) (fun b o _ e => ?_) (fun b xs e => e) (fun b o u e => e) (fun b ps e => ⟨#[], by rw [e]; simp⟩) ns (fun b u e => ?_) I.bare
  · by_cases z : b = X.env.locals
    · obtain ⟨m, hm, _⟩ := I.loc
      obtain ⟨o', _, _, e', _⟩ := ns m hm
      exact ⟨o', by rw [z]; exact e'⟩
    · exact ⟨o, kp b o z e⟩
  · refine (I.hok b u e).stay (fun c v hc q => ?_) (fun _ q => q) fun _ _ q => q
    rcases hc with z' | z'
    · exact kp c v (by rw [z']; exact ne b u e) q
    · exact kp c v (ne c _ z') q
theorem pick_vals {ws : List V} {its : List Value} (r : Vals ws its) : ∀ (p : List Nat), (∀ i ∈ p, i < ws.length) → Vals (p.map fun i => ws.getD i .non) (p.map fun i => its.getD i Value.none)
  | [], _ => .nil
  | i :: p, h => by
    have hi := h i List.mem_cons_self
    obtain ⟨u, hu, ru⟩ := r.get (List.getElem?_eq_getElem hi)
    refine .cons ?_ (pick_vals r p fun j hj => h j (List.mem_cons_of_mem _ hj))
    dsimp only
    rw [List.getD_eq_getElem?_getD, List.getElem?_eq_getElem hi, List.getD_eq_getElem?_getD, hu]
    exact ru
theorem sorted_core (I : Inv X pins σ H s) {a : Addr} {ws : List V} {its : List Value} (rv : Vals ws its) (hl : s.heap.IsList a its.toArray) (h64 : ws.length < 64) {κ : SortKind} {lt : Nat → Nat → Bool} {Q : VK}
    (irr : ∀ i, lt i i = false) (tr : ∀ i j k, lt i j = true → lt j k = true → lt i k = true) (neg : ∀ i j k, lt i k = true → lt i j = true ∨ lt j k = true)
    (hkind : 2 ≤ ws.length → ∀ (A : Around) (s' : Shared) (Q' : SortKind → Shared → Prop), Inv X pins σ H s' → Q' κ s' → wpAny (model X.prog X.w) A (keyKind' its.toArray) Q' (fun _ _ => False) s')
    (hcmp : ∀ (s' : Shared) (i j : Nat) (C : Bool → Shared → Prop), i < ws.length → j < ws.length → Inv X pins σ H s' → C (lt i j) s' → wpAny (model X.prog X.w) X.A.in1.in1 (keyLt' κ (its.getD i Value.none) (its.getD j Value.none)) C (fun _ _ => False) s')
    (hQ : ∀ (l : Addr) (p : List Nat), H l = none → p.Perm (List.range ws.length) → p.Pairwise (fun i j => lt j i = false) → Q (.ref l) (upd H l (.lst (p.map fun i => ws.getD i .non)))) :
    wpAny (model X.prog X.w) X.A (call (.builtin "sorted") [.ref a]) (EP X pins σ Q) X.xe s := by
  have hlen := rv.length
  have zl : ws.length ≤ sizeLine := by rw [sizeLine_eq]; omega
  by_cases h2 : its.length < 2
  · refine MX.sorted1 hl h2 fun h' e kp hS => ?_
    obtain ⟨I2, hn⟩ := I.lay (D := s.heap.objs.size + 1) (ys := ws) (its := its) (h' := h') (n := e) (Heap.get?_none_of_le (Nat.le_succ _)) (fun b o _ q => kp b o q) (fun m hm => let ⟨o, es, ep, q, r⟩ := hm; ⟨o, es, ep, kp _ _ q, r⟩) hS rv zl
    have hp : ((List.range ws.length).map fun i => ws.getD i V.non) = ws := by
      apply List.ext_getElem?
      intro i
      rw [List.getElem?_map]
      by_cases hi : i < ws.length
      · rw [List.getElem?_range hi, List.getElem?_eq_getElem hi]
        simp [hi]
      · rw [List.getElem?_eq_none (by simpa using Nat.le_of_not_lt hi), List.getElem?_eq_none (Nat.le_of_not_lt hi)]; rfl
    have q := hQ (s.heap.objs.size + 1) (List.range ws.length) hn (List.Perm.refl _) (by
      have : ws.length < 2 := by omega
      match ws.length, this with
      | 0, _ => exact List.Pairwise.nil
      | 1, _ => exact List.pairwise_singleton _ _)
    rw [hp] at q
    exact ⟨.ref (s.heap.objs.size + 1), _, I2, rfl, q⟩
  · obtain ⟨m, F⟩ := I.fr
    have hbk : ∀ b o, X.base.get? b = some o → s.heap.get? b = some o := I.bk
    have kept : ∀ {h' : Heap} {x : Addr × Obj}, Fr X.base X.env.locals h' m → News X.base X.env.locals h' (x :: allNews X.base s.heap X.env.locals) → ∀ b o, b ≠ X.env.locals → s.heap.get? b = some o → h'.get? b = some o := fun {h' x} F' N' b o hb e => by
      cases q : X.base.get? b with
      | some u =>
        have := hbk b u q
        rw [e] at this; cases this
        exact F'.keep b _ q
      | none => exact (N' (b, o) (List.mem_cons_of_mem _ (mem_allNews hb q e))).1
    refine PySem.W.kat_sorted F (news_all (g := X.base) (h := s.heap) (L := X.env.locals)) hl (by omega) (by omega) fun D e1 h' F' N' hD => ?_
    have hDh : s.heap.get? D = none := by
      cases q : s.heap.get? D with
      | none => rfl
      | some o =>
        have n1 := N' (D, seqObj "list" #[] e1) List.mem_cons_self
        exact absurd (hD (D, o) (mem_allNews n1.2.1 n1.2.2 q)) (Nat.lt_irrefl _)
    have I' : Inv X pins σ H { s with heap := h' } := I.kept2 (kept F' N') fun m' hm' => by rw [ns_same hm' F.ns]; exact F'.ns
    refine hkind (by omega) _ _ _ I' ?_
    have en : its.length = ws.length := hlen.symm
    refine sort_ok (k := rank lt its.length) (N := its.length) (s := { s with heap := h' }) (fun i j hi hj C hC => ?_) (by omega) fun p hv up => ?_
    · refine hcmp _ i j C (by omega) (by omega) I' ?_
      rw [rank_lt irr tr neg hi] at hC
      exact hC
    · refine PySem.W.KasFin.intro F' N' (.head fun q hq => Nat.ne_of_lt (hD q hq)) fun h2' c F2 N2 => ?_
      have n2 := N2 (D, _) List.mem_cons_self
      have hm : ∀ i ∈ p.toList, i < ws.length := fun i hi => by rw [← en]; exact List.mem_range.mp (hv.mem_iff.mp hi)
      obtain ⟨I2, hn⟩ := I.lay (D := D) (ys := p.toList.map fun i => ws.getD i .non) (its := p.toList.map fun i => its.getD i Value.none) (h' := h2') (n := c) hDh (kept F2 N2) (fun m' hm' => by rw [ns_same hm' F.ns]; exact F2.ns) n2.1 (pick_vals rv _ hm) (by rw [List.length_map, Array.length_toList, hv.size, en]; exact zl)
      refine ⟨.ref D, _, I2, rfl, hQ D p.toList hn (by rw [← en]; exact hv) ?_⟩
      rw [List.pairwise_iff_getElem]
      intro i j hi hj hij
      have hsz := hv.size
      have hi' : i < its.length := by rw [Array.length_toList] at hi; omega
      have hj' : j < its.length := by rw [Array.length_toList] at hj; omega
      have u := up i j (Nat.le_of_lt hij) hj'
      have ei : p.getD i 0 = p.toList[i] := by simp [Array.getD, show i < p.size by omega]
      have ej : p.getD j 0 = p.toList[j] := by simp [Array.getD, show j < p.size by omega]
      unfold KP at u
      rw [ei, ej] at u
      have hjn : p.toList[j] < its.length := by rw [en]; exact hm _ (List.getElem_mem hj)
      have r := rank_lt (n := its.length) irr tr neg (i := p.toList[j]) (j := p.toList[i]) hjn
      rw [← r]
      exact decide_eq_false (by omega)
noncomputable abbrev Sp2 := List Int × List Int
noncomputable def dInts (ns : List Int) : D := .tup (ns.map .int)
noncomputable def dSp (x : Sp2) : D := .tup [dInts x.1, dInts x.2]
noncomputable def ltSp (x y : Sp2) : Bool := if x.1 = y.1 then HT.lexLt x.2 y.2 else HT.lexLt x.1 y.1
theorem lex_irr : ∀ xs : List Int, HT.lexLt xs xs = false
  | [] => rfl
  | x :: xs => by rw [HT.lexLt_cons, if_pos rfl]; exact lex_irr xs
theorem lex_tr : ∀ (xs ys zs : List Int), HT.lexLt xs ys = true → HT.lexLt ys zs = true → HT.lexLt xs zs = true
  | [], [], _, h, _ => by cases h
  | [], _ :: _, [], _, h => by cases h
  | [], _ :: _, _ :: _, _, _ => rfl
  | _ :: _, [], _, h, _ => by cases h
  | _ :: _, _ :: _, [], _, h => by cases h
  | x :: xs, y :: ys, z :: zs, h1, h2 => by
    rw [HT.lexLt_cons] at h1 h2 ⊢
    by_cases a : x = y
    · rw [if_pos a] at h1
      by_cases b : y = z
      · rw [if_pos b] at h2
        rw [if_pos (a.trans b)]; exact lex_tr xs ys zs h1 h2
      · rw [if_neg b] at h2
        have h2 := of_decide_eq_true h2
        rw [if_neg (by omega)]; exact decide_eq_true (by omega)
    · rw [if_neg a] at h1
      have h1 := of_decide_eq_true h1
      by_cases b : y = z
      · rw [if_neg (by omega)]; exact decide_eq_true (by omega)
      · rw [if_neg b] at h2
        have h2 := of_decide_eq_true h2
        rw [if_neg (by omega)]; exact decide_eq_true (by omega)
theorem lex_tot : ∀ (xs ys : List Int), HT.lexLt xs ys = false → HT.lexLt ys xs = false → xs = ys
  | [], [], _, _ => rfl
  | [], _ :: _, h, _ => by cases h
  | _ :: _, [], _, h => by cases h
  | x :: xs, y :: ys, h1, h2 => by
    rw [HT.lexLt_cons] at h1 h2
    by_cases a : x = y
    · rw [if_pos a] at h1
      rw [if_pos a.symm] at h2
      rw [a, lex_tot xs ys h1 h2]
    · rw [if_neg a] at h1
      rw [if_neg (Ne.symm a)] at h2
      have h1 := of_decide_eq_false h1
      have h2 := of_decide_eq_false h2
      omega
theorem sp_irr (x : Sp2) : ltSp x x = false := by unfold ltSp; rw [if_pos rfl]; exact lex_irr _
theorem sp_tr (x y z : Sp2) (h1 : ltSp x y = true) (h2 : ltSp y z = true) : ltSp x z = true := by
  unfold ltSp at *
  by_cases a : x.1 = y.1
  · rw [if_pos a] at h1
    by_cases b : y.1 = z.1
    · rw [if_pos b] at h2
      rw [if_pos (a.trans b)]; exact lex_tr _ _ _ h1 h2
    · rw [if_neg b] at h2
      rw [if_neg (by rw [a]; exact b), a]; exact h2
  · rw [if_neg a] at h1
    by_cases b : y.1 = z.1
    · rw [if_neg (by rw [← b]; exact a), ← b]; exact h1
    · rw [if_neg b] at h2
      have h := lex_tr _ _ _ h1 h2
      have : x.1 ≠ z.1 := fun e => by rw [e, lex_irr] at h; cases h
      rw [if_neg this]; exact h
theorem sp_tot (x y : Sp2) (h1 : ltSp x y = false) (h2 : ltSp y x = false) : x = y := by
  unfold ltSp at *
  by_cases a : x.1 = y.1
  · rw [if_pos a] at h1
    rw [if_pos a.symm] at h2
    exact Prod.ext a (lex_tot _ _ h1 h2)
  · rw [if_neg a] at h1
    rw [if_neg (Ne.symm a)] at h2
    exact absurd (lex_tot _ _ h1 h2) a
theorem sp_neg (x y z : Sp2) (h : ltSp x z = true) : ltSp x y = true ∨ ltSp y z = true := by
  cases h1 : ltSp x y with
  | true => exact .inl rfl
  | false =>
    refine .inr ?_
    cases h2 : ltSp y x with
    | true => exact sp_tr _ _ _ h2 h
    | false => rw [← sp_tot x y h1 h2]; exact h
end
end L2
namespace L2
open PySem PySem.W PyProof.Rows
noncomputable def gallop' : Bool → Keyed → Array Keyed → Nat → Nat → Nat → StateT SortSt Sem (Option Nat) := sortPriv% PySem.Builtin.gallop
noncomputable def mergeLo' : Array Keyed → Array Keyed → StateT SortSt Sem (Array Keyed) := sortPriv% PySem.Builtin.mergeLo
noncomputable def mergeHi' : Array Keyed → Array Keyed → StateT SortSt Sem (Array Keyed) := sortPriv% PySem.Builtin.mergeHi
section
variable {M : Model} {A : Around} {E : Value → Shared → Prop} {σ : Type}
theorem kasC_loop {β : Type} {a b : Nat} {c : β} {f : Nat → β → StateT σ Sem (ForInStep β)} {Q : β → σ → Shared → Prop} {st : σ} {s : Shared} (I : Nat → β → σ → Shared → Prop)
    (step : ∀ x c st s, a ≤ x → x < b → I x c st s → kasC M A E (f x c) (fun r st' s' => match r with | .done c' => Q c' st' s' | .yield c' => I (x + 1) c' st' s') st s)
    (fin : ∀ x c st s, b ≤ x → I x c st s → Q c st s) (h : I a c st s) : kasC M A E (forIn [a:b] c f) Q st s := by
  refine kasC_range ?_
  have go : ∀ (n x : Nat) (c : β) (st : σ) (s : Shared), a ≤ x → x + n = max a b → I x c st s → kasC M A E (forIn (List.range' x n) c f) Q st s := by
    intro n
    induction n with
    | zero =>
      intro x c st s h1 h2 h3
      exact kasC_nil (fin x c st s (by omega) h3)
    | succ n ih =>
      intro x c st s h1 h2 h3
      rw [List.range'_succ]
      refine kasC_cons ?_
      have := step x c st s h1 (by omega) h3
      refine wpAny_mono this (fun r s' hr => ?_) fun _ _ e => e
      obtain ⟨r, st'⟩ := r
      cases r with
      | done c' => exact hr
      | yield c' => exact ih (x + 1) c' st' s' (by omega) (by omega) hr
  exact go (b - a) a c st s (Nat.le_refl _) (by omega) h
end
section
variable {prog : Program} {w : World} {A : Around} {E : Value → Shared → Prop} {κ : SortKind} {k : Keyed → Int} {Mem : Keyed → Prop} {s : Shared} {st : SortSt}
noncomputable def Asks2 (prog : Program) (w : World) (A : Around) (κ : SortKind) (k : Keyed → Int) (Mem : Keyed → Prop) (s : Shared) : Prop :=
  ∀ x y, Mem x → Mem y → ∀ C : Bool → Shared → Prop, C (decide (k x < k y)) s → wpAny (model prog w) A (keyLt' κ x.1 y.1) C (fun _ _ => False) s
theorem lt_ok {x y : Keyed} {Q : Option Bool → SortSt → Shared → Prop} (hκ : kindOf st = κ) (ask : Asks2 prog w A κ k Mem s) (hx : Mem x) (hy : Mem y) (h : Q (some (decide (k x < k y))) st s) : kasC (model prog w) A E (lt' x y) Q st s := by
  subst hκ
  rw [lt'_eq]
  exact kasC_bind (kasC_get (kasC_bind (kasC_lift (wpAny_attempt (wpAny_mono (ask x y hx hy (fun b s' => b = decide (k x < k y) ∧ s' = s) ⟨rfl, rfl⟩) (fun b s' z => by obtain ⟨rfl, rfl⟩ := z; exact kasC_pure h) fun _ _ z => z.elim)))))
theorem elem_ok {arr : Array Keyed} {i : Nat} {x : Keyed} {Q : Keyed → SortSt → Shared → Prop} (e : arr[i]? = some x) (h : Q x st s) : kasC (model prog w) A E (elem' arr i) Q st s := by
  rw [elem'_eq, e]
  exact kasC_pure h
noncomputable def byd (left : Bool) (k : Keyed → Int) (key x : Keyed) : Bool := if left = true then decide (k x < k key) else !decide (k key < k x)
theorem gallop_ok {left : Bool} {key : Keyed} {arr : Array Keyed} {base n hint : Nat} {g : Nat → Keyed} {Q : Option Nat → SortSt → Shared → Prop} (hκ : kindOf st = κ) (ask : Asks2 prog w A κ k Mem s) (hkey : Mem key)
    (hg : ∀ i, i < n → arr[base + i]? = some (g i) ∧ Mem (g i)) (hh : hint < n) (anti : ∀ i j, i ≤ j → j < n → byd left k key (g j) = true → byd left k key (g i) = true)
    (h : ∀ m, m ≤ n → (∀ i, i < m → byd left k key (g i) = true) → (∀ i, m ≤ i → i < n → byd left k key (g i) = false) → Q (some m) st s) :
    kasC (model prog w) A E (gallop' left key arr base n hint) Q st s := by
  unfold gallop'
  have low : ∀ i j, i ≤ j → j < n → byd left k key (g i) = false → byd left k key (g j) = false := fun i j h1 h2 h3 => by
    cases q : byd left k key (g j) with
    | false => rfl
    | true => rw [anti i j h1 h2 q] at h3; cases h3
  cases left with
  | true =>
    refine kasC_bind (kasC_bind (elem_ok (hg (hint) hh).1 (lt_ok hκ ask (hg (hint) hh).2 hkey ?_)))
    rw [show decide (k (g (hint)) < k key) = byd true k key (g (hint)) from rfl]
    cases hB : byd true k key (g hint) with
    | true =>
      dsimp only
      rw [if_pos rfl]
      refine kasC_bind (kasC_loop (fun x c st' s' => ∃ la ofs, c = (none, la, ofs) ∧ st = st' ∧ s = s' ∧ la < ofs ∧ hint + la < n ∧ byd true k key (g (hint + la)) = true ∧ x + 1 ≤ ofs) ?_ ?_ ⟨0, 1, rfl, rfl, rfl, by omega, by omega, hB, by omega⟩)
      · rintro x c st' s' _ hx ⟨la, ofs, rfl, rfl, rfl, b1, b2, b3, b4⟩
        dsimp only
        by_cases hc : ofs ≥ n - hint
        · rw [if_pos hc]
          refine kasC_pure ?_
          have a1 : hint + la + 1 ≤ hint + min ofs (n - hint) := by omega
          have a2 : hint + min ofs (n - hint) ≤ n := by omega
          have a3 : ∀ i, i < hint + la + 1 → byd true k key (g i) = true := fun i hi => anti i _ (by omega) b2 b3
          have a4 : ∀ i, hint + min ofs (n - hint) ≤ i → i < n → byd true k key (g i) = false := fun i h1 h2 => by omega
          dsimp only
          refine kasC_bind (kasC_loop (fun x c st' s' => ∃ lo hi, c = (none, lo, hi) ∧ st = st' ∧ s = s' ∧ lo ≤ hi ∧ hi ≤ n ∧ (∀ i, i < lo → byd true k key (g i) = true) ∧ (∀ i, hi ≤ i → i < n → byd true k key (g i) = false) ∧ hi - lo + x ≤ n) ?_ ?_ ⟨_, _, rfl, rfl, rfl, a1, a2, a3, a4, by omega⟩)
          · rintro x c st' s' _ hx ⟨lo, hi, rfl, rfl, rfl, a1, a2, a3, a4, a5⟩
            dsimp only
            by_cases hc : lo ≥ hi
            · rw [if_pos hc]
              have : lo = hi := by omega
              subst this
              exact kasC_pure (kasC_pure (h lo a2 a3 a4))
            · rw [if_neg hc]
              have hm : lo + (hi - lo) / 2 < n := by omega
              refine kasC_bind (kasC_bind (elem_ok (hg (lo + (hi - lo) / 2) hm).1 (lt_ok hκ ask (hg (lo + (hi - lo) / 2) hm).2 hkey ?_)))
              rw [show decide (k (g (lo + (hi - lo) / 2)) < k key) = byd true k key (g (lo + (hi - lo) / 2)) from rfl]
              cases hB : byd true k key (g (lo + (hi - lo) / 2)) with
              | true =>
                dsimp only
                rw [if_pos rfl]
                exact kasC_pure ⟨_, _, rfl, rfl, rfl, by omega, a2, fun i hi' => anti i _ (by omega) hm hB, a4, by omega⟩
              | false =>
                dsimp only
                rw [if_neg Bool.false_ne_true]
                exact kasC_pure ⟨_, _, rfl, rfl, rfl, by omega, by omega, a3, fun i h1 h2 => low _ i h1 h2 hB, by omega⟩
          · rintro x c st' s' hx ⟨lo, hi, rfl, rfl, rfl, a1, a2, a3, a4, a5⟩
            have : lo = hi := by omega
            subst this
            exact kasC_pure (h lo a2 a3 a4)
        · rw [if_neg hc]
          have hm : hint + ofs < n := by omega
          refine kasC_bind (kasC_bind (elem_ok (hg (hint + ofs) hm).1 (lt_ok hκ ask (hg (hint + ofs) hm).2 hkey ?_)))
          rw [show decide (k (g (hint + ofs)) < k key) = byd true k key (g (hint + ofs)) from rfl]
          cases hB2 : byd true k key (g (hint + ofs)) with
          | false =>
            dsimp only
            rw [if_pos (by rfl)]
            refine kasC_pure ?_
            have a1 : hint + la + 1 ≤ hint + min ofs (n - hint) := by omega
            have a2 : hint + min ofs (n - hint) ≤ n := by omega
            have a3 : ∀ i, i < hint + la + 1 → byd true k key (g i) = true := fun i hi => anti i _ (by omega) b2 b3
            have a4 : ∀ i, hint + min ofs (n - hint) ≤ i → i < n → byd true k key (g i) = false := fun i h1 h2 => low (hint + ofs) i (by omega) h2 hB2
            dsimp only
            refine kasC_bind (kasC_loop (fun x c st' s' => ∃ lo hi, c = (none, lo, hi) ∧ st = st' ∧ s = s' ∧ lo ≤ hi ∧ hi ≤ n ∧ (∀ i, i < lo → byd true k key (g i) = true) ∧ (∀ i, hi ≤ i → i < n → byd true k key (g i) = false) ∧ hi - lo + x ≤ n) ?_ ?_ ⟨_, _, rfl, rfl, rfl, a1, a2, a3, a4, by omega⟩)
            · rintro x c st' s' _ hx ⟨lo, hi, rfl, rfl, rfl, a1, a2, a3, a4, a5⟩
              dsimp only
              by_cases hc : lo ≥ hi
              · rw [if_pos hc]
                have : lo = hi := by omega
                subst this
                exact kasC_pure (kasC_pure (h lo a2 a3 a4))
              · rw [if_neg hc]
                have hm : lo + (hi - lo) / 2 < n := by omega
                refine kasC_bind (kasC_bind (elem_ok (hg (lo + (hi - lo) / 2) hm).1 (lt_ok hκ ask (hg (lo + (hi - lo) / 2) hm).2 hkey ?_)))
                rw [show decide (k (g (lo + (hi - lo) / 2)) < k key) = byd true k key (g (lo + (hi - lo) / 2)) from rfl]
                cases hB : byd true k key (g (lo + (hi - lo) / 2)) with
                | true =>
                  dsimp only
                  rw [if_pos rfl]
                  exact kasC_pure ⟨_, _, rfl, rfl, rfl, by omega, a2, fun i hi' => anti i _ (by omega) hm hB, a4, by omega⟩
                | false =>
                  dsimp only
                  rw [if_neg Bool.false_ne_true]
                  exact kasC_pure ⟨_, _, rfl, rfl, rfl, by omega, by omega, a3, fun i h1 h2 => low _ i h1 h2 hB, by omega⟩
            · rintro x c st' s' hx ⟨lo, hi, rfl, rfl, rfl, a1, a2, a3, a4, a5⟩
              have : lo = hi := by omega
              subst this
              exact kasC_pure (h lo a2 a3 a4)
          | true =>
            dsimp only
            rw [if_neg (by decide)]
            exact kasC_pure ⟨_, _, rfl, rfl, rfl, by omega, hm, hB2, by omega⟩
      · rintro x c st' s' hx ⟨la, ofs, rfl, rfl, rfl, b1, b2, b3, b4⟩
        have a1 : hint + la + 1 ≤ hint + min ofs (n - hint) := by omega
        have a2 : hint + min ofs (n - hint) ≤ n := by omega
        have a3 : ∀ i, i < hint + la + 1 → byd true k key (g i) = true := fun i hi => anti i _ (by omega) b2 b3
        have a4 : ∀ i, hint + min ofs (n - hint) ≤ i → i < n → byd true k key (g i) = false := fun i h1 h2 => by omega
        dsimp only
        refine kasC_bind (kasC_loop (fun x c st' s' => ∃ lo hi, c = (none, lo, hi) ∧ st = st' ∧ s = s' ∧ lo ≤ hi ∧ hi ≤ n ∧ (∀ i, i < lo → byd true k key (g i) = true) ∧ (∀ i, hi ≤ i → i < n → byd true k key (g i) = false) ∧ hi - lo + x ≤ n) ?_ ?_ ⟨_, _, rfl, rfl, rfl, a1, a2, a3, a4, by omega⟩)
        · rintro x c st' s' _ hx ⟨lo, hi, rfl, rfl, rfl, a1, a2, a3, a4, a5⟩
          dsimp only
          by_cases hc : lo ≥ hi
          · rw [if_pos hc]
            have : lo = hi := by omega
            subst this
            exact kasC_pure (kasC_pure (h lo a2 a3 a4))
          · rw [if_neg hc]
            have hm : lo + (hi - lo) / 2 < n := by omega
            refine kasC_bind (kasC_bind (elem_ok (hg (lo + (hi - lo) / 2) hm).1 (lt_ok hκ ask (hg (lo + (hi - lo) / 2) hm).2 hkey ?_)))
            rw [show decide (k (g (lo + (hi - lo) / 2)) < k key) = byd true k key (g (lo + (hi - lo) / 2)) from rfl]
            cases hB : byd true k key (g (lo + (hi - lo) / 2)) with
            | true =>
              dsimp only
              rw [if_pos rfl]
              exact kasC_pure ⟨_, _, rfl, rfl, rfl, by omega, a2, fun i hi' => anti i _ (by omega) hm hB, a4, by omega⟩
            | false =>
              dsimp only
              rw [if_neg Bool.false_ne_true]
              exact kasC_pure ⟨_, _, rfl, rfl, rfl, by omega, by omega, a3, fun i h1 h2 => low _ i h1 h2 hB, by omega⟩
        · rintro x c st' s' hx ⟨lo, hi, rfl, rfl, rfl, a1, a2, a3, a4, a5⟩
          have : lo = hi := by omega
          subst this
          exact kasC_pure (h lo a2 a3 a4)
    | false =>
      dsimp only
      rw [if_neg Bool.false_ne_true]
      refine kasC_bind (kasC_loop (fun x c st' s' => ∃ la ofs, c = (none, la, ofs) ∧ st = st' ∧ s = s' ∧ la < ofs ∧ la ≤ hint ∧ byd true k key (g (hint - la)) = false ∧ x + 1 ≤ ofs) ?_ ?_ ⟨0, 1, rfl, rfl, rfl, by omega, by omega, hB, by omega⟩)
      · rintro x c st' s' _ hx ⟨la, ofs, rfl, rfl, rfl, b1, b2, b3, b4⟩
        dsimp only
        by_cases hc : ofs ≥ hint + 1
        · rw [if_pos hc]
          refine kasC_pure ?_
          have a1 : hint + 1 - min ofs (hint + 1) ≤ hint - la := by omega
          have a2 : hint - la ≤ n := by omega
          have a3 : ∀ i, i < hint + 1 - min ofs (hint + 1) → byd true k key (g i) = true := fun i hi => by omega
          have a4 : ∀ i, hint - la ≤ i → i < n → byd true k key (g i) = false := fun i h1 h2 => low _ i h1 h2 b3
          dsimp only
          refine kasC_bind (kasC_loop (fun x c st' s' => ∃ lo hi, c = (none, lo, hi) ∧ st = st' ∧ s = s' ∧ lo ≤ hi ∧ hi ≤ n ∧ (∀ i, i < lo → byd true k key (g i) = true) ∧ (∀ i, hi ≤ i → i < n → byd true k key (g i) = false) ∧ hi - lo + x ≤ n) ?_ ?_ ⟨_, _, rfl, rfl, rfl, a1, a2, a3, a4, by omega⟩)
          · rintro x c st' s' _ hx ⟨lo, hi, rfl, rfl, rfl, a1, a2, a3, a4, a5⟩
            dsimp only
            by_cases hc : lo ≥ hi
            · rw [if_pos hc]
              have : lo = hi := by omega
              subst this
              exact kasC_pure (kasC_pure (h lo a2 a3 a4))
            · rw [if_neg hc]
              have hm : lo + (hi - lo) / 2 < n := by omega
              refine kasC_bind (kasC_bind (elem_ok (hg (lo + (hi - lo) / 2) hm).1 (lt_ok hκ ask (hg (lo + (hi - lo) / 2) hm).2 hkey ?_)))
              rw [show decide (k (g (lo + (hi - lo) / 2)) < k key) = byd true k key (g (lo + (hi - lo) / 2)) from rfl]
              cases hB : byd true k key (g (lo + (hi - lo) / 2)) with
              | true =>
                dsimp only
                rw [if_pos rfl]
                exact kasC_pure ⟨_, _, rfl, rfl, rfl, by omega, a2, fun i hi' => anti i _ (by omega) hm hB, a4, by omega⟩
              | false =>
                dsimp only
                rw [if_neg Bool.false_ne_true]
                exact kasC_pure ⟨_, _, rfl, rfl, rfl, by omega, by omega, a3, fun i h1 h2 => low _ i h1 h2 hB, by omega⟩
          · rintro x c st' s' hx ⟨lo, hi, rfl, rfl, rfl, a1, a2, a3, a4, a5⟩
            have : lo = hi := by omega
            subst this
            exact kasC_pure (h lo a2 a3 a4)
        · rw [if_neg hc]
          have hm : hint - ofs < n := by omega
          refine kasC_bind (kasC_bind (elem_ok (hg (hint - ofs) hm).1 (lt_ok hκ ask (hg (hint - ofs) hm).2 hkey ?_)))
          rw [show decide (k (g (hint - ofs)) < k key) = byd true k key (g (hint - ofs)) from rfl]
          cases hB2 : byd true k key (g (hint - ofs)) with
          | true =>
            dsimp only
            rw [if_pos rfl]
            refine kasC_pure ?_
            have a1 : hint + 1 - min ofs (hint + 1) ≤ hint - la := by omega
            have a2 : hint - la ≤ n := by omega
            have a3 : ∀ i, i < hint + 1 - min ofs (hint + 1) → byd true k key (g i) = true := fun i hi => anti i (hint - ofs) (by omega) hm hB2
            have a4 : ∀ i, hint - la ≤ i → i < n → byd true k key (g i) = false := fun i h1 h2 => low _ i h1 h2 b3
            dsimp only
            refine kasC_bind (kasC_loop (fun x c st' s' => ∃ lo hi, c = (none, lo, hi) ∧ st = st' ∧ s = s' ∧ lo ≤ hi ∧ hi ≤ n ∧ (∀ i, i < lo → byd true k key (g i) = true) ∧ (∀ i, hi ≤ i → i < n → byd true k key (g i) = false) ∧ hi - lo + x ≤ n) ?_ ?_ ⟨_, _, rfl, rfl, rfl, a1, a2, a3, a4, by omega⟩)
            · rintro x c st' s' _ hx ⟨lo, hi, rfl, rfl, rfl, a1, a2, a3, a4, a5⟩
              dsimp only
              by_cases hc : lo ≥ hi
              · rw [if_pos hc]
                have : lo = hi := by omega
                subst this
                exact kasC_pure (kasC_pure (h lo a2 a3 a4))
              · rw [if_neg hc]
                have hm : lo + (hi - lo) / 2 < n := by omega
                refine kasC_bind (kasC_bind (elem_ok (hg (lo + (hi - lo) / 2) hm).1 (lt_ok hκ ask (hg (lo + (hi - lo) / 2) hm).2 hkey ?_)))
                rw [show decide (k (g (lo + (hi - lo) / 2)) < k key) = byd true k key (g (lo + (hi - lo) / 2)) from rfl]
                cases hB : byd true k key (g (lo + (hi - lo) / 2)) with
                | true =>
                  dsimp only
                  rw [if_pos rfl]
                  exact kasC_pure ⟨_, _, rfl, rfl, rfl, by omega, a2, fun i hi' => anti i _ (by omega) hm hB, a4, by omega⟩
                | false =>
                  dsimp only
                  rw [if_neg Bool.false_ne_true]
                  exact kasC_pure ⟨_, _, rfl, rfl, rfl, by omega, by omega, a3, fun i h1 h2 => low _ i h1 h2 hB, by omega⟩
            · rintro x c st' s' hx ⟨lo, hi, rfl, rfl, rfl, a1, a2, a3, a4, a5⟩
              have : lo = hi := by omega
              subst this
              exact kasC_pure (h lo a2 a3 a4)
          | false =>
            dsimp only
            rw [if_neg Bool.false_ne_true]
            exact kasC_pure ⟨_, _, rfl, rfl, rfl, by omega, by omega, hB2, by omega⟩
      · rintro x c st' s' hx ⟨la, ofs, rfl, rfl, rfl, b1, b2, b3, b4⟩
        have a1 : hint + 1 - min ofs (hint + 1) ≤ hint - la := by omega
        have a2 : hint - la ≤ n := by omega
        have a3 : ∀ i, i < hint + 1 - min ofs (hint + 1) → byd true k key (g i) = true := fun i hi => by omega
        have a4 : ∀ i, hint - la ≤ i → i < n → byd true k key (g i) = false := fun i h1 h2 => low _ i h1 h2 b3
        dsimp only
        refine kasC_bind (kasC_loop (fun x c st' s' => ∃ lo hi, c = (none, lo, hi) ∧ st = st' ∧ s = s' ∧ lo ≤ hi ∧ hi ≤ n ∧ (∀ i, i < lo → byd true k key (g i) = true) ∧ (∀ i, hi ≤ i → i < n → byd true k key (g i) = false) ∧ hi - lo + x ≤ n) ?_ ?_ ⟨_, _, rfl, rfl, rfl, a1, a2, a3, a4, by omega⟩)
        · rintro x c st' s' _ hx ⟨lo, hi, rfl, rfl, rfl, a1, a2, a3, a4, a5⟩
          dsimp only
          by_cases hc : lo ≥ hi
          · rw [if_pos hc]
            have : lo = hi := by omega
            subst this
            exact kasC_pure (kasC_pure (h lo a2 a3 a4))
          · rw [if_neg hc]
            have hm : lo + (hi - lo) / 2 < n := by omega
            refine kasC_bind (kasC_bind (elem_ok (hg (lo + (hi - lo) / 2) hm).1 (lt_ok hκ ask (hg (lo + (hi - lo) / 2) hm).2 hkey ?_)))
            rw [show decide (k (g (lo + (hi - lo) / 2)) < k key) = byd true k key (g (lo + (hi - lo) / 2)) from rfl]
            cases hB : byd true k key (g (lo + (hi - lo) / 2)) with
            | true =>
              dsimp only
              rw [if_pos rfl]
              exact kasC_pure ⟨_, _, rfl, rfl, rfl, by omega, a2, fun i hi' => anti i _ (by omega) hm hB, a4, by omega⟩
            | false =>
              dsimp only
              rw [if_neg Bool.false_ne_true]
              exact kasC_pure ⟨_, _, rfl, rfl, rfl, by omega, by omega, a3, fun i h1 h2 => low _ i h1 h2 hB, by omega⟩
        · rintro x c st' s' hx ⟨lo, hi, rfl, rfl, rfl, a1, a2, a3, a4, a5⟩
          have : lo = hi := by omega
          subst this
          exact kasC_pure (h lo a2 a3 a4)
  | false =>
    refine kasC_bind (kasC_bind (elem_ok (hg (hint) hh).1 (kasC_bind (lt_ok hκ ask hkey (hg (hint) hh).2 (kasC_pure ?_)))))
    rw [show Option.map (fun x => !x) (some (decide (k key < k (g (hint))))) = some (byd false k key (g (hint))) from rfl]
    cases hB : byd false k key (g hint) with
    | true =>
      dsimp only
      rw [if_pos rfl]
      refine kasC_bind (kasC_loop (fun x c st' s' => ∃ la ofs, c = (none, la, ofs) ∧ st = st' ∧ s = s' ∧ la < ofs ∧ hint + la < n ∧ byd false k key (g (hint + la)) = true ∧ x + 1 ≤ ofs) ?_ ?_ ⟨0, 1, rfl, rfl, rfl, by omega, by omega, hB, by omega⟩)
      · rintro x c st' s' _ hx ⟨la, ofs, rfl, rfl, rfl, b1, b2, b3, b4⟩
        dsimp only
        by_cases hc : ofs ≥ n - hint
        · rw [if_pos hc]
          refine kasC_pure ?_
          have a1 : hint + la + 1 ≤ hint + min ofs (n - hint) := by omega
          have a2 : hint + min ofs (n - hint) ≤ n := by omega
          have a3 : ∀ i, i < hint + la + 1 → byd false k key (g i) = true := fun i hi => anti i _ (by omega) b2 b3
          have a4 : ∀ i, hint + min ofs (n - hint) ≤ i → i < n → byd false k key (g i) = false := fun i h1 h2 => by omega
          dsimp only
          refine kasC_bind (kasC_loop (fun x c st' s' => ∃ lo hi, c = (none, lo, hi) ∧ st = st' ∧ s = s' ∧ lo ≤ hi ∧ hi ≤ n ∧ (∀ i, i < lo → byd false k key (g i) = true) ∧ (∀ i, hi ≤ i → i < n → byd false k key (g i) = false) ∧ hi - lo + x ≤ n) ?_ ?_ ⟨_, _, rfl, rfl, rfl, a1, a2, a3, a4, by omega⟩)
          · rintro x c st' s' _ hx ⟨lo, hi, rfl, rfl, rfl, a1, a2, a3, a4, a5⟩
            dsimp only
            by_cases hc : lo ≥ hi
            · rw [if_pos hc]
              have : lo = hi := by omega
              subst this
              exact kasC_pure (kasC_pure (h lo a2 a3 a4))
            · rw [if_neg hc]
              have hm : lo + (hi - lo) / 2 < n := by omega
              refine kasC_bind (kasC_bind (elem_ok (hg (lo + (hi - lo) / 2) hm).1 (kasC_bind (lt_ok hκ ask hkey (hg (lo + (hi - lo) / 2) hm).2 (kasC_pure ?_)))))
              rw [show Option.map (fun x => !x) (some (decide (k key < k (g (lo + (hi - lo) / 2))))) = some (byd false k key (g (lo + (hi - lo) / 2))) from rfl]
              cases hB : byd false k key (g (lo + (hi - lo) / 2)) with
              | true =>
                dsimp only
                rw [if_pos rfl]
                exact kasC_pure ⟨_, _, rfl, rfl, rfl, by omega, a2, fun i hi' => anti i _ (by omega) hm hB, a4, by omega⟩
              | false =>
                dsimp only
                rw [if_neg Bool.false_ne_true]
                exact kasC_pure ⟨_, _, rfl, rfl, rfl, by omega, by omega, a3, fun i h1 h2 => low _ i h1 h2 hB, by omega⟩
          · rintro x c st' s' hx ⟨lo, hi, rfl, rfl, rfl, a1, a2, a3, a4, a5⟩
            have : lo = hi := by omega
            subst this
            exact kasC_pure (h lo a2 a3 a4)
        · rw [if_neg hc]
          have hm : hint + ofs < n := by omega
          refine kasC_bind (kasC_bind (elem_ok (hg (hint + ofs) hm).1 (kasC_bind (lt_ok hκ ask hkey (hg (hint + ofs) hm).2 (kasC_pure ?_)))))
          rw [show Option.map (fun x => !x) (some (decide (k key < k (g (hint + ofs))))) = some (byd false k key (g (hint + ofs))) from rfl]
          cases hB2 : byd false k key (g (hint + ofs)) with
          | false =>
            dsimp only
            rw [if_pos (by rfl)]
            refine kasC_pure ?_
            have a1 : hint + la + 1 ≤ hint + min ofs (n - hint) := by omega
            have a2 : hint + min ofs (n - hint) ≤ n := by omega
            have a3 : ∀ i, i < hint + la + 1 → byd false k key (g i) = true := fun i hi => anti i _ (by omega) b2 b3
            have a4 : ∀ i, hint + min ofs (n - hint) ≤ i → i < n → byd false k key (g i) = false := fun i h1 h2 => low (hint + ofs) i (by omega) h2 hB2
            dsimp only
            refine kasC_bind (kasC_loop (fun x c st' s' => ∃ lo hi, c = (none, lo, hi) ∧ st = st' ∧ s = s' ∧ lo ≤ hi ∧ hi ≤ n ∧ (∀ i, i < lo → byd false k key (g i) = true) ∧ (∀ i, hi ≤ i → i < n → byd false k key (g i) = false) ∧ hi - lo + x ≤ n) ?_ ?_ ⟨_, _, rfl, rfl, rfl, a1, a2, a3, a4, by omega⟩)
            · rintro x c st' s' _ hx ⟨lo, hi, rfl, rfl, rfl, a1, a2, a3, a4, a5⟩
              dsimp only
              by_cases hc : lo ≥ hi
              · rw [if_pos hc]
                have : lo = hi := by omega
                subst this
                exact kasC_pure (kasC_pure (h lo a2 a3 a4))
              · rw [if_neg hc]
                have hm : lo + (hi - lo) / 2 < n := by omega
                refine kasC_bind (kasC_bind (elem_ok (hg (lo + (hi - lo) / 2) hm).1 (kasC_bind (lt_ok hκ ask hkey (hg (lo + (hi - lo) / 2) hm).2 (kasC_pure ?_)))))
                rw [show Option.map (fun x => !x) (some (decide (k key < k (g (lo + (hi - lo) / 2))))) = some (byd false k key (g (lo + (hi - lo) / 2))) from rfl]
                cases hB : byd false k key (g (lo + (hi - lo) / 2)) with
                | true =>
                  dsimp only
                  rw [if_pos rfl]
                  exact kasC_pure ⟨_, _, rfl, rfl, rfl, by omega, a2, fun i hi' => anti i _ (by omega) hm hB, a4, by omega⟩
                | false =>
                  dsimp only
                  rw [if_neg Bool.false_ne_true]
                  exact kasC_pure ⟨_, _, rfl, rfl, rfl, by omega, by omega, a3, fun i h1 h2 => low _ i h1 h2 hB, by omega⟩
            · rintro x c st' s' hx ⟨lo, hi, rfl, rfl, rfl, a1, a2, a3, a4, a5⟩
              have : lo = hi := by omega
              subst this
              exact kasC_pure (h lo a2 a3 a4)
          | true =>
            dsimp only
            rw [if_neg (by decide)]
            exact kasC_pure ⟨_, _, rfl, rfl, rfl, by omega, hm, hB2, by omega⟩
      · rintro x c st' s' hx ⟨la, ofs, rfl, rfl, rfl, b1, b2, b3, b4⟩
        have a1 : hint + la + 1 ≤ hint + min ofs (n - hint) := by omega
        have a2 : hint + min ofs (n - hint) ≤ n := by omega
        have a3 : ∀ i, i < hint + la + 1 → byd false k key (g i) = true := fun i hi => anti i _ (by omega) b2 b3
        have a4 : ∀ i, hint + min ofs (n - hint) ≤ i → i < n → byd false k key (g i) = false := fun i h1 h2 => by omega
        dsimp only
        refine kasC_bind (kasC_loop (fun x c st' s' => ∃ lo hi, c = (none, lo, hi) ∧ st = st' ∧ s = s' ∧ lo ≤ hi ∧ hi ≤ n ∧ (∀ i, i < lo → byd false k key (g i) = true) ∧ (∀ i, hi ≤ i → i < n → byd false k key (g i) = false) ∧ hi - lo + x ≤ n) ?_ ?_ ⟨_, _, rfl, rfl, rfl, a1, a2, a3, a4, by omega⟩)
        · rintro x c st' s' _ hx ⟨lo, hi, rfl, rfl, rfl, a1, a2, a3, a4, a5⟩
          dsimp only
          by_cases hc : lo ≥ hi
          · rw [if_pos hc]
            have : lo = hi := by omega
            subst this
            exact kasC_pure (kasC_pure (h lo a2 a3 a4))
          · rw [if_neg hc]
            have hm : lo + (hi - lo) / 2 < n := by omega
            refine kasC_bind (kasC_bind (elem_ok (hg (lo + (hi - lo) / 2) hm).1 (kasC_bind (lt_ok hκ ask hkey (hg (lo + (hi - lo) / 2) hm).2 (kasC_pure ?_)))))
            rw [show Option.map (fun x => !x) (some (decide (k key < k (g (lo + (hi - lo) / 2))))) = some (byd false k key (g (lo + (hi - lo) / 2))) from rfl]
            cases hB : byd false k key (g (lo + (hi - lo) / 2)) with
            | true =>
              dsimp only
              rw [if_pos rfl]
              exact kasC_pure ⟨_, _, rfl, rfl, rfl, by omega, a2, fun i hi' => anti i _ (by omega) hm hB, a4, by omega⟩
            | false =>
              dsimp only
              rw [if_neg Bool.false_ne_true]
              exact kasC_pure ⟨_, _, rfl, rfl, rfl, by omega, by omega, a3, fun i h1 h2 => low _ i h1 h2 hB, by omega⟩
        · rintro x c st' s' hx ⟨lo, hi, rfl, rfl, rfl, a1, a2, a3, a4, a5⟩
          have : lo = hi := by omega
          subst this
          exact kasC_pure (h lo a2 a3 a4)
    | false =>
      dsimp only
      rw [if_neg Bool.false_ne_true]
      refine kasC_bind (kasC_loop (fun x c st' s' => ∃ la ofs, c = (none, la, ofs) ∧ st = st' ∧ s = s' ∧ la < ofs ∧ la ≤ hint ∧ byd false k key (g (hint - la)) = false ∧ x + 1 ≤ ofs) ?_ ?_ ⟨0, 1, rfl, rfl, rfl, by omega, by omega, hB, by omega⟩)
      · rintro x c st' s' _ hx ⟨la, ofs, rfl, rfl, rfl, b1, b2, b3, b4⟩
        dsimp only
        by_cases hc : ofs ≥ hint + 1
        · rw [if_pos hc]
          refine kasC_pure ?_
          have a1 : hint + 1 - min ofs (hint + 1) ≤ hint - la := by omega
          have a2 : hint - la ≤ n := by omega
          have a3 : ∀ i, i < hint + 1 - min ofs (hint + 1) → byd false k key (g i) = true := fun i hi => by omega
          have a4 : ∀ i, hint - la ≤ i → i < n → byd false k key (g i) = false := fun i h1 h2 => low _ i h1 h2 b3
          dsimp only
          refine kasC_bind (kasC_loop (fun x c st' s' => ∃ lo hi, c = (none, lo, hi) ∧ st = st' ∧ s = s' ∧ lo ≤ hi ∧ hi ≤ n ∧ (∀ i, i < lo → byd false k key (g i) = true) ∧ (∀ i, hi ≤ i → i < n → byd false k key (g i) = false) ∧ hi - lo + x ≤ n) ?_ ?_ ⟨_, _, rfl, rfl, rfl, a1, a2, a3, a4, by omega⟩)
          · rintro x c st' s' _ hx ⟨lo, hi, rfl, rfl, rfl, a1, a2, a3, a4, a5⟩
            dsimp only
            by_cases hc : lo ≥ hi
            · rw [if_pos hc]
              have : lo = hi := by omega
              subst this
              exact kasC_pure (kasC_pure (h lo a2 a3 a4))
            · rw [if_neg hc]
              have hm : lo + (hi - lo) / 2 < n := by omega
              refine kasC_bind (kasC_bind (elem_ok (hg (lo + (hi - lo) / 2) hm).1 (kasC_bind (lt_ok hκ ask hkey (hg (lo + (hi - lo) / 2) hm).2 (kasC_pure ?_)))))
              rw [show Option.map (fun x => !x) (some (decide (k key < k (g (lo + (hi - lo) / 2))))) = some (byd false k key (g (lo + (hi - lo) / 2))) from rfl]
              cases hB : byd false k key (g (lo + (hi - lo) / 2)) with
              | true =>
                dsimp only
                rw [if_pos rfl]
                exact kasC_pure ⟨_, _, rfl, rfl, rfl, by omega, a2, fun i hi' => anti i _ (by omega) hm hB, a4, by omega⟩
              | false =>
                dsimp only
                rw [if_neg Bool.false_ne_true]
                exact kasC_pure ⟨_, _, rfl, rfl, rfl, by omega, by omega, a3, fun i h1 h2 => low _ i h1 h2 hB, by omega⟩
          · rintro x c st' s' hx ⟨lo, hi, rfl, rfl, rfl, a1, a2, a3, a4, a5⟩
            have : lo = hi := by omega
            subst this
            exact kasC_pure (h lo a2 a3 a4)
        · rw [if_neg hc]
          have hm : hint - ofs < n := by omega
          refine kasC_bind (kasC_bind (elem_ok (hg (hint - ofs) hm).1 (kasC_bind (lt_ok hκ ask hkey (hg (hint - ofs) hm).2 (kasC_pure ?_)))))
          rw [show Option.map (fun x => !x) (some (decide (k key < k (g (hint - ofs))))) = some (byd false k key (g (hint - ofs))) from rfl]
          cases hB2 : byd false k key (g (hint - ofs)) with
          | true =>
            dsimp only
            rw [if_pos rfl]
            refine kasC_pure ?_
            have a1 : hint + 1 - min ofs (hint + 1) ≤ hint - la := by omega
            have a2 : hint - la ≤ n := by omega
            have a3 : ∀ i, i < hint + 1 - min ofs (hint + 1) → byd false k key (g i) = true := fun i hi => anti i (hint - ofs) (by omega) hm hB2
            have a4 : ∀ i, hint - la ≤ i → i < n → byd false k key (g i) = false := fun i h1 h2 => low _ i h1 h2 b3
            dsimp only
            refine kasC_bind (kasC_loop (fun x c st' s' => ∃ lo hi, c = (none, lo, hi) ∧ st = st' ∧ s = s' ∧ lo ≤ hi ∧ hi ≤ n ∧ (∀ i, i < lo → byd false k key (g i) = true) ∧ (∀ i, hi ≤ i → i < n → byd false k key (g i) = false) ∧ hi - lo + x ≤ n) ?_ ?_ ⟨_, _, rfl, rfl, rfl, a1, a2, a3, a4, by omega⟩)
            · rintro x c st' s' _ hx ⟨lo, hi, rfl, rfl, rfl, a1, a2, a3, a4, a5⟩
              dsimp only
              by_cases hc : lo ≥ hi
              · rw [if_pos hc]
                have : lo = hi := by omega
                subst this
                exact kasC_pure (kasC_pure (h lo a2 a3 a4))
              · rw [if_neg hc]
                have hm : lo + (hi - lo) / 2 < n := by omega
                refine kasC_bind (kasC_bind (elem_ok (hg (lo + (hi - lo) / 2) hm).1 (kasC_bind (lt_ok hκ ask hkey (hg (lo + (hi - lo) / 2) hm).2 (kasC_pure ?_)))))
                rw [show Option.map (fun x => !x) (some (decide (k key < k (g (lo + (hi - lo) / 2))))) = some (byd false k key (g (lo + (hi - lo) / 2))) from rfl]
                cases hB : byd false k key (g (lo + (hi - lo) / 2)) with
                | true =>
                  dsimp only
                  rw [if_pos rfl]
                  exact kasC_pure ⟨_, _, rfl, rfl, rfl, by omega, a2, fun i hi' => anti i _ (by omega) hm hB, a4, by omega⟩
                | false =>
                  dsimp only
                  rw [if_neg Bool.false_ne_true]
                  exact kasC_pure ⟨_, _, rfl, rfl, rfl, by omega, by omega, a3, fun i h1 h2 => low _ i h1 h2 hB, by omega⟩
            · rintro x c st' s' hx ⟨lo, hi, rfl, rfl, rfl, a1, a2, a3, a4, a5⟩
              have : lo = hi := by omega
              subst this
              exact kasC_pure (h lo a2 a3 a4)
          | false =>
            dsimp only
            rw [if_neg Bool.false_ne_true]
            exact kasC_pure ⟨_, _, rfl, rfl, rfl, by omega, by omega, hB2, by omega⟩
      · rintro x c st' s' hx ⟨la, ofs, rfl, rfl, rfl, b1, b2, b3, b4⟩
        have a1 : hint + 1 - min ofs (hint + 1) ≤ hint - la := by omega
        have a2 : hint - la ≤ n := by omega
        have a3 : ∀ i, i < hint + 1 - min ofs (hint + 1) → byd false k key (g i) = true := fun i hi => by omega
        have a4 : ∀ i, hint - la ≤ i → i < n → byd false k key (g i) = false := fun i h1 h2 => low _ i h1 h2 b3
        dsimp only
        refine kasC_bind (kasC_loop (fun x c st' s' => ∃ lo hi, c = (none, lo, hi) ∧ st = st' ∧ s = s' ∧ lo ≤ hi ∧ hi ≤ n ∧ (∀ i, i < lo → byd false k key (g i) = true) ∧ (∀ i, hi ≤ i → i < n → byd false k key (g i) = false) ∧ hi - lo + x ≤ n) ?_ ?_ ⟨_, _, rfl, rfl, rfl, a1, a2, a3, a4, by omega⟩)
        · rintro x c st' s' _ hx ⟨lo, hi, rfl, rfl, rfl, a1, a2, a3, a4, a5⟩
          dsimp only
          by_cases hc : lo ≥ hi
          · rw [if_pos hc]
            have : lo = hi := by omega
            subst this
            exact kasC_pure (kasC_pure (h lo a2 a3 a4))
          · rw [if_neg hc]
            have hm : lo + (hi - lo) / 2 < n := by omega
            refine kasC_bind (kasC_bind (elem_ok (hg (lo + (hi - lo) / 2) hm).1 (kasC_bind (lt_ok hκ ask hkey (hg (lo + (hi - lo) / 2) hm).2 (kasC_pure ?_)))))
            rw [show Option.map (fun x => !x) (some (decide (k key < k (g (lo + (hi - lo) / 2))))) = some (byd false k key (g (lo + (hi - lo) / 2))) from rfl]
            cases hB : byd false k key (g (lo + (hi - lo) / 2)) with
            | true =>
              dsimp only
              rw [if_pos rfl]
              exact kasC_pure ⟨_, _, rfl, rfl, rfl, by omega, a2, fun i hi' => anti i _ (by omega) hm hB, a4, by omega⟩
            | false =>
              dsimp only
              rw [if_neg Bool.false_ne_true]
              exact kasC_pure ⟨_, _, rfl, rfl, rfl, by omega, by omega, a3, fun i h1 h2 => low _ i h1 h2 hB, by omega⟩
        · rintro x c st' s' hx ⟨lo, hi, rfl, rfl, rfl, a1, a2, a3, a4, a5⟩
          have : lo = hi := by omega
          subst this
          exact kasC_pure (h lo a2 a3 a4)
end
end L2
namespace L2
open PySem PySem.W PyProof.Rows
section
variable {k : Keyed → Int} {a b out : Array Keyed} {ia ib n : Nat}
noncomputable def Ord (k : Keyed → Int) (a : Array Keyed) : Prop := ∀ (i j : Nat) (x y : Keyed), i ≤ j → a[i]? = some x → a[j]? = some y → k x ≤ k y
structure MI (k : Keyed → Int) (a b out : Array Keyed) (ia ib : Nat) : Prop where
  perm : out.toList.Perm (a.toList.take ia ++ b.toList.take ib)
  srt : out.toList.Pairwise fun x y => k x ≤ k y
  la : ∀ x, x ∈ out.toList → ∀ (i : Nat) y, ia ≤ i → a[i]? = some y → k x ≤ k y
  lb : ∀ x, x ∈ out.toList → ∀ (i : Nat) y, ib ≤ i → b[i]? = some y → k x ≤ k y
  ha : ia ≤ a.size
  hb : ib ≤ b.size
theorem take_succ {xs : Array Keyed} {i : Nat} {x : Keyed} (e : xs[i]? = some x) : xs.toList.take (i + 1) = xs.toList.take i ++ [x] := by
  rw [List.take_add_one, Array.getElem?_toList, e]; rfl
theorem MI.pushA {x : Keyed} (m : MI k a b out ia ib) (oa : Ord k a) (e : a[ia]? = some x) (h : ∀ (i : Nat) y, ib ≤ i → b[i]? = some y → k x ≤ k y) : MI k a b (out.push x) (ia + 1) ib where
  perm := by
    rw [Array.toList_push, take_succ e]
    refine (m.perm.append_right [x]).trans ?_
    rw [List.append_assoc, List.append_assoc]
    exact List.Perm.append_left _ List.perm_append_comm
  srt := by
    rw [Array.toList_push]
    refine List.pairwise_append.mpr ⟨m.srt, List.pairwise_singleton _ _, fun u hu v hv => ?_⟩
    cases List.mem_singleton.mp hv
    exact m.la u hu ia x (Nat.le_refl _) e
  la := fun u hu i y hi hy => by
    rw [Array.toList_push] at hu
    rcases List.mem_append.mp hu with hu | hu
    · exact m.la u hu i y (by omega) hy
    · cases List.mem_singleton.mp hu
      exact oa ia i _ y (by omega) e hy
  lb := fun u hu i y hi hy => by
    rw [Array.toList_push] at hu
    rcases List.mem_append.mp hu with hu | hu
    · exact m.lb u hu i y hi hy
    · cases List.mem_singleton.mp hu
      exact h i y hi hy
  ha := by
    have := (Array.getElem?_eq_some_iff.mp e).1
    omega
  hb := m.hb
theorem MI.pushB {x : Keyed} (m : MI k a b out ia ib) (ob : Ord k b) (e : b[ib]? = some x) (h : ∀ (i : Nat) y, ia ≤ i → a[i]? = some y → k x ≤ k y) : MI k a b (out.push x) ia (ib + 1) where
  perm := by
    rw [Array.toList_push, take_succ e, ← List.append_assoc]
    exact m.perm.append_right [x]
  srt := by
    rw [Array.toList_push]
    refine List.pairwise_append.mpr ⟨m.srt, List.pairwise_singleton _ _, fun u hu v hv => ?_⟩
    cases List.mem_singleton.mp hv
    exact m.lb u hu ib x (Nat.le_refl _) e
  la := fun u hu i y hi hy => by
    rw [Array.toList_push] at hu
    rcases List.mem_append.mp hu with hu | hu
    · exact m.la u hu i y hi hy
    · cases List.mem_singleton.mp hu
      exact h i y hi hy
  lb := fun u hu i y hi hy => by
    rw [Array.toList_push] at hu
    rcases List.mem_append.mp hu with hu | hu
    · exact m.lb u hu i y (by omega) hy
    · cases List.mem_singleton.mp hu
      exact ob ib i _ y (by omega) e hy
  ha := m.ha
  hb := by
    have := (Array.getElem?_eq_some_iff.mp e).1
    omega
theorem ext_succ {xs : Array Keyed} {i n : Nat} {x : Keyed} (e : xs[i + n]? = some x) (o : Array Keyed) : o ++ xs.extract i (i + (n + 1)) = (o ++ xs.extract i (i + n)).push x := by
  have hl := (Array.getElem?_eq_some_iff.mp e).1
  apply Array.ext'
  rw [Array.toList_push, Array.toList_append, Array.toList_append, Array.toList_extract, Array.toList_extract, List.append_assoc]
  congr 1
  rw [List.extract_eq_take_drop, List.extract_eq_take_drop]
  rw [show i + (n + 1) - i = n + 1 by omega, show i + n - i = n by omega, List.take_add_one, List.getElem?_drop, Array.getElem?_toList, e]
  rfl
theorem MI.takeA (m : MI k a b out ia ib) (oa : Ord k a) : ∀ (n : Nat), ia + n ≤ a.size → (∀ (j : Nat) x, ia ≤ j → j < ia + n → a[j]? = some x → ∀ (i : Nat) y, ib ≤ i → b[i]? = some y → k x ≤ k y) → MI k a b (out ++ a.extract ia (ia + n)) (ia + n) ib
  | 0, _, _ => by
    have e : out ++ a.extract ia (ia + 0) = out := by simp; omega
    rw [e]; exact m
  | n + 1, hn, h => by
    have hl : ia + n < a.size := by omega
    have e : a[ia + n]? = some a[ia + n] := by simp [hl]
    rw [ext_succ e]
    exact (MI.takeA m oa n (by omega) fun j x h1 h2 => h j x h1 (by omega)).pushA oa e (h (ia + n) _ (by omega) (by omega) e)
theorem MI.takeB (m : MI k a b out ia ib) (ob : Ord k b) : ∀ (n : Nat), ib + n ≤ b.size → (∀ (j : Nat) x, ib ≤ j → j < ib + n → b[j]? = some x → ∀ (i : Nat) y, ia ≤ i → a[i]? = some y → k x ≤ k y) → MI k a b (out ++ b.extract ib (ib + n)) ia (ib + n)
  | 0, _, _ => by
    have e : out ++ b.extract ib (ib + 0) = out := by simp; omega
    rw [e]; exact m
  | n + 1, hn, h => by
    have hl : ib + n < b.size := by omega
    have e : b[ib + n]? = some b[ib + n] := by simp [hl]
    rw [ext_succ e]
    exact (MI.takeB m ob n (by omega) fun j x h1 h2 => h j x h1 (by omega)).pushB ob e (h (ib + n) _ (by omega) (by omega) e)
noncomputable def MF (k : Keyed → Int) (a b out : Array Keyed) : Prop := out.toList.Perm (a.toList ++ b.toList) ∧ out.toList.Pairwise fun x y => k x ≤ k y
theorem MI.fin (m : MI k a b out a.size b.size) : MF k a b out := by
  refine ⟨?_, m.srt⟩
  have p := m.perm
  rw [List.take_of_length_le (by simp), List.take_of_length_le (by simp)] at p
  exact p
theorem MI.doneA (m : MI k a b out ia b.size) (oa : Ord k a) : MF k a b (out ++ a.extract ia a.size ++ b.extract b.size b.size) := by
  have h := m.takeA oa (a.size - ia) (by have := m.ha; omega) fun j x _ _ _ i y hi hy => by
    have := (Array.getElem?_eq_some_iff.mp hy).1
    omega
  have e : ia + (a.size - ia) = a.size := by have := m.ha; omega
  rw [e] at h
  have e2 : b.extract b.size b.size = #[] := by simp
  rw [e2, Array.append_empty]
  exact h.fin
theorem MI.doneB (m : MI k a b out a.size ib) (ob : Ord k b) : MF k a b (out ++ a.extract a.size a.size ++ b.extract ib b.size) := by
  have h := m.takeB ob (b.size - ib) (by have := m.hb; omega) fun j x _ _ _ i y hi hy => by
    have := (Array.getElem?_eq_some_iff.mp hy).1
    omega
  have e : ib + (b.size - ib) = b.size := by have := m.hb; omega
  rw [e] at h
  have e2 : a.extract a.size a.size = #[] := by simp
  rw [e2, Array.append_empty]
  exact h.fin
theorem MI.lastA (m : MI k a b out ia ib) (oa : Ord k a) (ob : Ord k b) (h : ∀ (j : Nat) x, ib ≤ j → b[j]? = some x → ∀ (i : Nat) y, ia ≤ i → a[i]? = some y → k x ≤ k y) : MF k a b (out ++ b.extract ib b.size ++ a.extract ia a.size) := by
  have h1 := m.takeB ob (b.size - ib) (by have := m.hb; omega) fun j x hj _ e => h j x hj e
  have e : ib + (b.size - ib) = b.size := by have := m.hb; omega
  rw [e] at h1
  have h2 := h1.takeA oa (a.size - ia) (by have := m.ha; omega) fun j x _ _ _ i y hi hy => by
    have := (Array.getElem?_eq_some_iff.mp hy).1
    omega
  have e3 : ia + (a.size - ia) = a.size := by have := m.ha; omega
  rw [e3] at h2
  exact h2.fin
end
end L2
namespace L2
open PySem PySem.W PyProof.Rows
section
variable {prog : Program} {w : World} {A : Around} {E : Value → Shared → Prop} {κ : SortKind} {k : Keyed → Int} {Mem : Keyed → Prop} {s : Shared} {st : SortSt}
theorem kasC_mono {M : Model} {A : Around} {E : Value → Shared → Prop} {σ α : Type} {m : StateT σ Sem α} {Q Q' : α → σ → Shared → Prop} {st : σ} {s : Shared} (h : kasC M A E m Q st s) (i : ∀ a st' s', Q a st' s' → Q' a st' s') : kasC M A E m Q' st s :=
  wpAny_mono h (fun r s' hr => i r.1 r.2 s' hr) fun _ _ e => e
noncomputable def StEq (st st' : SortSt) : Prop := kindOf st' = kindOf st ∧ arrOf st' = arrOf st ∧ pendingOf st' = pendingOf st ∧ failedOf st' = failedOf st
theorem StEq.refl : StEq st st := ⟨rfl, rfl, rfl, rfl⟩
theorem mergeLo_ok {a b : Array Keyed} {Q : Array Keyed → SortSt → Shared → Prop} (hκ : kindOf st = κ) (ask : Asks2 prog w A κ k Mem s) (ma : ∀ (i : Nat) x, a[i]? = some x → Mem x) (mb : ∀ (i : Nat) x, b[i]? = some x → Mem x)
    (oa : Ord k a) (ob : Ord k b) (ha : 0 < a.size) (hb : 0 < b.size) (h0 : ∀ x y, b[0]? = some x → a[0]? = some y → k x ≤ k y) (hl : ∀ (j : Nat) x y, b[j]? = some x → a[a.size - 1]? = some y → k x ≤ k y)
    (h : ∀ out st', MF k a b out → StEq st st' → Q out st' s) : kasC (model prog w) A E (mergeLo' a b) Q st s := by
  have eb : b[0]? = some b[0] := by simp [hb]
  have m0 : MI k a b #[b[0]] 0 1 := by
    have z : MI k a b #[] 0 0 := ⟨by simp, by simp, fun x hx => by simp at hx, fun x hx => by simp at hx, Nat.zero_le _, Nat.zero_le _⟩
    refine z.pushB ob eb fun i y hi hy => ?_
    have ea : a[0]? = some a[0] := by simp [ha]
    have h1 := h0 _ _ eb ea
    have h2 := oa 0 i _ y (Nat.zero_le _) ea hy
    omega
  have lastA : ∀ {out : Array Keyed} {ia ib : Nat}, MI k a b out ia ib → ia + 1 = a.size → MF k a b (out ++ b.extract ib b.size ++ a.extract ia a.size) := fun m e => m.lastA oa ob fun j x _ hx i y hi hy => by
    have := (Array.getElem?_eq_some_iff.mp hy).1
    have ei : i = a.size - 1 := by omega
    subst ei
    exact hl j x y hx hy
  unfold mergeLo'
  refine kasC_bind (kasC_lift (wpAny_rule ?_))
  refine kasC_bind (elem_ok (x := b[0]) eb ?_)
  try dsimp only
  by_cases c1 : (1 == b.size) = true
  · rw [if_pos c1]
    have e1 : 1 = b.size := by simpa using c1
    refine kasC_pure (h _ _ ?_ StEq.refl)
    have := MI.doneA (out := #[b[0]]) (ia := 0) (by rw [← e1]; exact m0) oa
    rw [← e1] at this ⊢
    exact this
  · rw [if_neg c1]
    have hb1 : 1 < b.size := by
      have : ¬ (1 = b.size) := by simpa using c1
      omega
    by_cases c2 : (0 + 1 == a.size) = true
    · rw [if_pos c2]
      exact kasC_pure (h _ _ (lastA m0 (by simpa using c2)) StEq.refl)
    · rw [if_neg c2]
      have ha1 : 1 < a.size := by
        have : ¬ (0 + 1 = a.size) := by simpa using c2
        omega
      refine kasC_bind (kasC_get ?_)
      refine kasC_bind (kasC_mono (Q := fun c st' s' => ∃ r rest, c = (some r, rest) ∧ MF k a b r ∧ StEq st st' ∧ s = s') (kasC_loop (fun x c st' s' => ∃ out ia ib mg, c = (none, out, ia, ib, mg) ∧ StEq st st' ∧ s = s' ∧ MI k a b out ia ib ∧ ia + 1 < a.size ∧ 0 < ib ∧ ib < b.size ∧ x + 1 ≤ ia + ib) ?_ ?_ ⟨_, 0, 1, _, rfl, StEq.refl, rfl, m0, by omega, by omega, by omega, by omega⟩) ?_)
      · rintro x c st' s' _ hx ⟨out, ia, ib, mg, rfl, se, rfl, m, c3, c4, c5, c6⟩
        try dsimp only
        refine kasC_bind (kasC_mono (Q := fun c st' s' => s = s' ∧ ((∃ r rest, c = (some r, rest) ∧ MF k a b r ∧ StEq st st') ∨ ∃ out ia ib ac bc, c = (none, out, ia, ib, ac, bc) ∧ StEq st st' ∧ MI k a b out ia ib ∧ ia + 1 < a.size ∧ 0 < ib ∧ ib < b.size ∧ x + 2 ≤ ia + ib)) (kasC_loop (fun x' c st' s' => ∃ out ia ib ac bc, c = (none, out, ia, ib, ac, bc) ∧ StEq st st' ∧ s = s' ∧ MI k a b out ia ib ∧ ia + 1 < a.size ∧ 0 < ib ∧ ib < b.size ∧ x + x' + 1 ≤ ia + ib) ?_ ?_ ⟨_, _, _, _, _, rfl, se, rfl, m, c3, c4, c5, by omega⟩) ?_)
        · rintro x' c st' s' _ hx' ⟨out, ia, ib, ac, bc, rfl, se, rfl, m, c3, c4, c5, c6⟩
          try dsimp only
          have eb : b[ib]? = some b[ib] := Array.getElem?_eq_getElem (by omega)
          have ea : a[ia]? = some a[ia] := Array.getElem?_eq_getElem (by omega)
          refine kasC_bind (elem_ok eb (kasC_bind (elem_ok ea (kasC_bind (lt_ok (by rw [se.1]; exact hκ) ask (mb _ _ eb) (ma _ _ ea) ?_)))))
          by_cases hw : k b[ib] < k a[ia]
          · rw [decide_eq_true hw]
            try dsimp only
            rw [if_pos rfl]
            have m2 := m.pushB ob eb fun i y hi hy => by
              have := oa _ _ _ _ hi ea hy
              omega
            refine kasC_bind (elem_ok eb ?_)
            try dsimp only
            by_cases q1 : (ib + 1 == b.size) = true
            · rw [if_pos q1]
              have q1' : ib + 1 = b.size := by simpa using q1
              refine kasC_pure ⟨rfl, .inl ⟨_, _, rfl, ?_, se⟩⟩
              rw [q1'] at m2 ⊢
              exact m2.doneA oa
            · rw [if_neg q1]
              have q1' : ¬ (ib + 1 = b.size) := by simpa using q1
              split
              · exact kasC_pure ⟨rfl, .inr ⟨_, _, _, _, _, rfl, se, m2, by omega, by omega, by omega, by omega⟩⟩
              · exact kasC_pure ⟨_, _, _, _, _, rfl, se, rfl, m2, by omega, by omega, by omega, by omega⟩
          · rw [decide_eq_false hw]
            try dsimp only
            rw [if_neg Bool.false_ne_true]
            have m2 := m.pushA oa ea fun i y hi hy => by
              have := ob _ _ _ _ hi eb hy
              omega
            refine kasC_bind (elem_ok ea ?_)
            try dsimp only
            by_cases q1 : (ia + 1 + 1 == a.size) = true
            · rw [if_pos q1]
              exact kasC_pure ⟨rfl, .inl ⟨_, _, rfl, lastA m2 (by simpa using q1), se⟩⟩
            · rw [if_neg q1]
              have q1' : ¬ (ia + 1 + 1 = a.size) := by simpa using q1
              split
              · exact kasC_pure ⟨rfl, .inr ⟨_, _, _, _, _, rfl, se, m2, by omega, by omega, by omega, by omega⟩⟩
              · exact kasC_pure ⟨_, _, _, _, _, rfl, se, rfl, m2, by omega, by omega, by omega, by omega⟩
        · rintro x' c st' s' hx' ⟨out, ia, ib, ac, bc, rfl, se, rfl, m, c3, c4, c5, c6⟩
          omega
        · rintro c st' s' ⟨rfl, ⟨r, rest, rfl, mf, se⟩ | ⟨out, ia, ib, ac, bc, rfl, se, m, c3, c4, c5, c6⟩⟩
          · try dsimp only
            exact kasC_pure ⟨r, _, rfl, mf, se, rfl⟩
          · try dsimp only
            refine kasC_bind (kasC_lift (wpAny_rule ?_))
            refine kasC_bind (kasC_mono (Q := fun c st' s' => s = s' ∧ ((∃ r rest, c = (some r, rest) ∧ MF k a b r ∧ StEq st st') ∨ ∃ out ia ib mg ac bc, c = (none, out, ia, ib, mg, ac, bc) ∧ StEq st st' ∧ MI k a b out ia ib ∧ ia + 1 < a.size ∧ 0 < ib ∧ ib < b.size ∧ x + 2 ≤ ia + ib)) (kasC_loop (fun x' c st' s' => ∃ out ia ib mg ac bc, c = (none, out, ia, ib, mg, ac, bc) ∧ StEq st st' ∧ s = s' ∧ MI k a b out ia ib ∧ ia + 1 < a.size ∧ 0 < ib ∧ ib < b.size ∧ x + x' + 2 ≤ ia + ib) ?_ ?_ ⟨_, _, _, _, _, _, rfl, se, rfl, m, c3, c4, c5, by omega⟩) ?_)
            · rintro x' c st' s' _ hx' ⟨out, ia, ib, mg, ac, bc, rfl, se, rfl, m, c3, c4, c5, c6⟩
              try dsimp only
              by_cases hmg : mg > 1
              · rw [if_pos hmg]
                refine kasC_bind (kasC_modify ?_)
                have eb0 : b[ib]? = some b[ib] := Array.getElem?_eq_getElem (by omega)
                refine kasC_bind (elem_ok eb0 (kasC_bind (gallop_ok (g := fun i => (a[ia + i]?).getD b[ib]) (by rw [se.1]; exact hκ) ask (mb _ _ eb0) (fun i hi => ?_) (by omega) (fun i j h1 h2 h3 => ?_) fun n1 hn1 lo1 hi1 => ?_)))
                · have e : a[ia + i]? = some a[ia + i] := Array.getElem?_eq_getElem (by omega)
                  rw [e]
                  exact ⟨rfl, ma _ _ e⟩
                · have e1 : a[ia + i]? = some a[ia + i] := Array.getElem?_eq_getElem (by omega)
                  have e2 : a[ia + j]? = some a[ia + j] := Array.getElem?_eq_getElem (by omega)
                  have o := oa _ _ _ _ (by omega) e1 e2
                  try dsimp only at h3 ⊢
                  rw [e1]
                  rw [e2] at h3
                  simp only [byd, Bool.false_eq_true, if_false, Option.getD_some, Bool.not_eq_true', decide_eq_false_iff_not] at h3 ⊢
                  omega
                · try dsimp only
                  have lo1' : ∀ (i : Nat) y, ia ≤ i → i < ia + n1 → a[i]? = some y → k y ≤ k b[ib] := fun i y h1 h2 hy => by
                    have := lo1 (i - ia) (by omega)
                    try dsimp only at this
                    rw [show ia + (i - ia) = i by omega, hy] at this
                    simpa [byd] using this
                  have hi1' : ∀ (i : Nat) y, ia + n1 ≤ i → a[i]? = some y → k b[ib] ≤ k y := fun i y h1 hy => by
                    have hlt := (Array.getElem?_eq_some_iff.mp hy).1
                    have := hi1 (i - ia) (by omega) (by omega)
                    try dsimp only at this
                    rw [show ia + (i - ia) = i by omega, hy] at this
                    have t : k b[ib] < k y := by simpa [byd] using this
                    omega
                  have m1 := m.takeA oa n1 (by omega) fun j x h1 h2 hx i y hi hy => by
                    have u1 := lo1' j x h1 h2 hx
                    have u2 := ob _ _ _ _ hi eb0 hy
                    omega
                  by_cases p1 : n1 > 0
                  · rw [if_pos p1]
                    by_cases p2 : (ia + n1 + 1 == a.size) = true
                    · rw [if_pos p2]
                      exact kasC_pure ⟨rfl, .inl ⟨_, _, rfl, lastA m1 (by simpa using p2), se⟩⟩
                    · rw [if_neg p2]
                      have p2' : ¬ (ia + n1 + 1 = a.size) := by simpa using p2
                      by_cases p3 : (ia + n1 == a.size) = true
                      · rw [if_pos p3]
                        have p3' : ia + n1 = a.size := by simpa using p3
                        refine kasC_pure ⟨rfl, .inl ⟨_, _, rfl, ?_, se⟩⟩
                        rw [p3'] at m1 ⊢
                        exact m1.doneB ob
                      · rw [if_neg p3]
                        have p3' : ¬ (ia + n1 = a.size) := by simpa using p3
                        have eb1 : b[ib]? = some b[ib] := Array.getElem?_eq_getElem (by omega)
                        refine kasC_bind (elem_ok eb1 ?_)
                        try dsimp only
                        have m2 := m1.pushB ob eb1 (fun i y h1 hy => hi1' i y h1 hy)
                        by_cases q1 : (ib + 1 == b.size) = true
                        · rw [if_pos q1]
                          have q1' : ib + 1 = b.size := by simpa using q1
                          refine kasC_pure ⟨rfl, .inl ⟨_, _, rfl, ?_, se⟩⟩
                          rw [q1'] at m2 ⊢
                          exact m2.doneA oa
                        · rw [if_neg q1]
                          have q1' : ib + 1 < b.size := by
                            have : ¬ (ib + 1 = b.size) := by simpa using q1
                            omega
                          have ea0 : a[ia + n1]? = some a[ia + n1] := Array.getElem?_eq_getElem (by omega)
                          refine kasC_bind (elem_ok ea0 (kasC_bind (gallop_ok (g := fun i => (b[ib + 1 + i]?).getD b[ib]) (by rw [se.1]; exact hκ) ask (ma _ _ ea0) (fun i hi => ?_) (by omega) (fun i j h1 h2 h3 => ?_) fun n2 hn2 lo2 hi2 => ?_)))
                          · have e : b[ib + 1 + i]? = some b[ib + 1 + i] := Array.getElem?_eq_getElem (by omega)
                            rw [e]
                            exact ⟨rfl, mb _ _ e⟩
                          · have e1 : b[ib + 1 + i]? = some b[ib + 1 + i] := Array.getElem?_eq_getElem (by omega)
                            have e2 : b[ib + 1 + j]? = some b[ib + 1 + j] := Array.getElem?_eq_getElem (by omega)
                            have o := ob _ _ _ _ (by omega) e1 e2
                            try dsimp only at h3 ⊢
                            rw [e1]
                            rw [e2] at h3
                            simp only [byd, if_true, Option.getD_some, decide_eq_true_eq] at h3 ⊢
                            omega
                          · try dsimp only
                            have lo2' : ∀ (i : Nat) y, ib + 1 ≤ i → i < ib + 1 + n2 → b[i]? = some y → k y < k a[ia + n1] := fun i y h1 h2 hy => by
                              have := lo2 (i - (ib + 1)) (by omega)
                              try dsimp only at this
                              rw [show ib + 1 + (i - (ib + 1)) = i by omega, hy] at this
                              simpa [byd] using this
                            have hi2' : ∀ (i : Nat) y, ib + 1 + n2 ≤ i → b[i]? = some y → k a[ia + n1] ≤ k y := fun i y h1 hy => by
                              have hlt := (Array.getElem?_eq_some_iff.mp hy).1
                              have := hi2 (i - (ib + 1)) (by omega) (by omega)
                              try dsimp only at this
                              rw [show ib + 1 + (i - (ib + 1)) = i by omega, hy] at this
                              simpa [byd] using this
                            have m3 := m2.takeB ob n2 (by omega) fun j x h1 h2 hx i y hi hy => by
                              have u1 := lo2' j x h1 h2 hx
                              have u2 := oa _ _ _ _ hi ea0 hy
                              omega
                            by_cases q2 : n2 > 0
                            · rw [if_pos q2]
                              by_cases q4 : (ib + 1 + n2 == b.size) = true
                              · rw [if_pos q4]
                                have q4' : ib + 1 + n2 = b.size := by simpa using q4
                                refine kasC_pure ⟨rfl, .inl ⟨_, _, rfl, ?_, se⟩⟩
                                rw [q4'] at m3 ⊢
                                exact m3.doneA oa
                              · rw [if_neg q4]
                                have q4' : ¬ (ib + 1 + n2 = b.size) := by simpa using q4
                                have ea1 : a[ia + n1]? = some a[ia + n1] := Array.getElem?_eq_getElem (by omega)
                                refine kasC_bind (elem_ok ea1 ?_)
                                try dsimp only
                                have m4 := m3.pushA oa ea1 hi2'
                                by_cases q3 : (ia + n1 + 1 + 1 == a.size) = true
                                · rw [if_pos q3]
                                  exact kasC_pure ⟨rfl, .inl ⟨_, _, rfl, lastA m4 (by simpa using q3), se⟩⟩
                                · rw [if_neg q3]
                                  have q3' : ¬ (ia + n1 + 1 + 1 = a.size) := by simpa using q3
                                  split
                                  · exact kasC_pure ⟨rfl, .inr ⟨_, _, _, _, _, _, rfl, se, m4, by omega, by omega, by omega, by omega⟩⟩
                                  · exact kasC_pure ⟨_, _, _, _, _, _, rfl, se, rfl, m4, by omega, by omega, by omega, by omega⟩
                            · rw [if_neg q2]
                              have z : n2 = 0 := by omega
                              subst z
                              have ea1 : a[ia + n1]? = some a[ia + n1] := Array.getElem?_eq_getElem (by omega)
                              refine kasC_bind (elem_ok ea1 ?_)
                              try dsimp only
                              have m4 := m2.pushA oa ea1 (fun i y h1 hy => hi2' i y (by omega) hy)
                              by_cases q3 : (ia + n1 + 1 + 1 == a.size) = true
                              · rw [if_pos q3]
                                exact kasC_pure ⟨rfl, .inl ⟨_, _, rfl, lastA m4 (by simpa using q3), se⟩⟩
                              · rw [if_neg q3]
                                have q3' : ¬ (ia + n1 + 1 + 1 = a.size) := by simpa using q3
                                split
                                · exact kasC_pure ⟨rfl, .inr ⟨_, _, _, _, _, _, rfl, se, m4, by omega, by omega, by omega, by omega⟩⟩
                                · exact kasC_pure ⟨_, _, _, _, _, _, rfl, se, rfl, m4, by omega, by omega, by omega, by omega⟩
                  · rw [if_neg p1]
                    have z : n1 = 0 := by omega
                    subst z
                    have eb1 : b[ib]? = some b[ib] := Array.getElem?_eq_getElem (by omega)
                    refine kasC_bind (elem_ok eb1 ?_)
                    try dsimp only
                    have m2 := m.pushB ob eb1 (fun i y h1 hy => hi1' i y (by omega) hy)
                    by_cases q1 : (ib + 1 == b.size) = true
                    · rw [if_pos q1]
                      have q1' : ib + 1 = b.size := by simpa using q1
                      refine kasC_pure ⟨rfl, .inl ⟨_, _, rfl, ?_, se⟩⟩
                      rw [q1'] at m2 ⊢
                      exact m2.doneA oa
                    · rw [if_neg q1]
                      have q1' : ib + 1 < b.size := by
                        have : ¬ (ib + 1 = b.size) := by simpa using q1
                        omega
                      have ea0 : a[ia]? = some a[ia] := Array.getElem?_eq_getElem (by omega)
                      refine kasC_bind (elem_ok ea0 (kasC_bind (gallop_ok (g := fun i => (b[ib + 1 + i]?).getD b[ib]) (by rw [se.1]; exact hκ) ask (ma _ _ ea0) (fun i hi => ?_) (by omega) (fun i j h1 h2 h3 => ?_) fun n2 hn2 lo2 hi2 => ?_)))
                      · have e : b[ib + 1 + i]? = some b[ib + 1 + i] := Array.getElem?_eq_getElem (by omega)
                        rw [e]
                        exact ⟨rfl, mb _ _ e⟩
                      · have e1 : b[ib + 1 + i]? = some b[ib + 1 + i] := Array.getElem?_eq_getElem (by omega)
                        have e2 : b[ib + 1 + j]? = some b[ib + 1 + j] := Array.getElem?_eq_getElem (by omega)
                        have o := ob _ _ _ _ (by omega) e1 e2
                        try dsimp only at h3 ⊢
                        rw [e1]
                        rw [e2] at h3
                        simp only [byd, if_true, Option.getD_some, decide_eq_true_eq] at h3 ⊢
                        omega
                      · try dsimp only
                        have lo2' : ∀ (i : Nat) y, ib + 1 ≤ i → i < ib + 1 + n2 → b[i]? = some y → k y < k a[ia] := fun i y h1 h2 hy => by
                          have := lo2 (i - (ib + 1)) (by omega)
                          try dsimp only at this
                          rw [show ib + 1 + (i - (ib + 1)) = i by omega, hy] at this
                          simpa [byd] using this
                        have hi2' : ∀ (i : Nat) y, ib + 1 + n2 ≤ i → b[i]? = some y → k a[ia] ≤ k y := fun i y h1 hy => by
                          have hlt := (Array.getElem?_eq_some_iff.mp hy).1
                          have := hi2 (i - (ib + 1)) (by omega) (by omega)
                          try dsimp only at this
                          rw [show ib + 1 + (i - (ib + 1)) = i by omega, hy] at this
                          simpa [byd] using this
                        have m3 := m2.takeB ob n2 (by omega) fun j x h1 h2 hx i y hi hy => by
                          have u1 := lo2' j x h1 h2 hx
                          have u2 := oa _ _ _ _ hi ea0 hy
                          omega
                        by_cases q2 : n2 > 0
                        · rw [if_pos q2]
                          by_cases q4 : (ib + 1 + n2 == b.size) = true
                          · rw [if_pos q4]
                            have q4' : ib + 1 + n2 = b.size := by simpa using q4
                            refine kasC_pure ⟨rfl, .inl ⟨_, _, rfl, ?_, se⟩⟩
                            rw [q4'] at m3 ⊢
                            exact m3.doneA oa
                          · rw [if_neg q4]
                            have q4' : ¬ (ib + 1 + n2 = b.size) := by simpa using q4
                            have ea1 : a[ia]? = some a[ia] := Array.getElem?_eq_getElem (by omega)
                            refine kasC_bind (elem_ok ea1 ?_)
                            try dsimp only
                            have m4 := m3.pushA oa ea1 hi2'
                            by_cases q3 : (ia + 1 + 1 == a.size) = true
                            · rw [if_pos q3]
                              exact kasC_pure ⟨rfl, .inl ⟨_, _, rfl, lastA m4 (by simpa using q3), se⟩⟩
                            · rw [if_neg q3]
                              have q3' : ¬ (ia + 1 + 1 = a.size) := by simpa using q3
                              split
                              · exact kasC_pure ⟨rfl, .inr ⟨_, _, _, _, _, _, rfl, se, m4, by omega, by omega, by omega, by omega⟩⟩
                              · exact kasC_pure ⟨_, _, _, _, _, _, rfl, se, rfl, m4, by omega, by omega, by omega, by omega⟩
                        · rw [if_neg q2]
                          have z : n2 = 0 := by omega
                          subst z
                          have ea1 : a[ia]? = some a[ia] := Array.getElem?_eq_getElem (by omega)
                          refine kasC_bind (elem_ok ea1 ?_)
                          try dsimp only
                          have m4 := m2.pushA oa ea1 (fun i y h1 hy => hi2' i y (by omega) hy)
                          by_cases q3 : (ia + 1 + 1 == a.size) = true
                          · rw [if_pos q3]
                            exact kasC_pure ⟨rfl, .inl ⟨_, _, rfl, lastA m4 (by simpa using q3), se⟩⟩
                          · rw [if_neg q3]
                            have q3' : ¬ (ia + 1 + 1 = a.size) := by simpa using q3
                            split
                            · exact kasC_pure ⟨rfl, .inr ⟨_, _, _, _, _, _, rfl, se, m4, by omega, by omega, by omega, by omega⟩⟩
                            · exact kasC_pure ⟨_, _, _, _, _, _, rfl, se, rfl, m4, by omega, by omega, by omega, by omega⟩
              · rw [if_neg hmg]
                refine kasC_bind (kasC_modify ?_)
                have eb0 : b[ib]? = some b[ib] := Array.getElem?_eq_getElem (by omega)
                refine kasC_bind (elem_ok eb0 (kasC_bind (gallop_ok (g := fun i => (a[ia + i]?).getD b[ib]) (by rw [se.1]; exact hκ) ask (mb _ _ eb0) (fun i hi => ?_) (by omega) (fun i j h1 h2 h3 => ?_) fun n1 hn1 lo1 hi1 => ?_)))
                · have e : a[ia + i]? = some a[ia + i] := Array.getElem?_eq_getElem (by omega)
                  rw [e]
                  exact ⟨rfl, ma _ _ e⟩
                · have e1 : a[ia + i]? = some a[ia + i] := Array.getElem?_eq_getElem (by omega)
                  have e2 : a[ia + j]? = some a[ia + j] := Array.getElem?_eq_getElem (by omega)
                  have o := oa _ _ _ _ (by omega) e1 e2
                  try dsimp only at h3 ⊢
                  rw [e1]
                  rw [e2] at h3
                  simp only [byd, Bool.false_eq_true, if_false, Option.getD_some, Bool.not_eq_true', decide_eq_false_iff_not] at h3 ⊢
                  omega
                · try dsimp only
                  have lo1' : ∀ (i : Nat) y, ia ≤ i → i < ia + n1 → a[i]? = some y → k y ≤ k b[ib] := fun i y h1 h2 hy => by
                    have := lo1 (i - ia) (by omega)
                    try dsimp only at this
                    rw [show ia + (i - ia) = i by omega, hy] at this
                    simpa [byd] using this
                  have hi1' : ∀ (i : Nat) y, ia + n1 ≤ i → a[i]? = some y → k b[ib] ≤ k y := fun i y h1 hy => by
                    have hlt := (Array.getElem?_eq_some_iff.mp hy).1
                    have := hi1 (i - ia) (by omega) (by omega)
                    try dsimp only at this
                    rw [show ia + (i - ia) = i by omega, hy] at this
                    have t : k b[ib] < k y := by simpa [byd] using this
                    omega
                  have m1 := m.takeA oa n1 (by omega) fun j x h1 h2 hx i y hi hy => by
                    have u1 := lo1' j x h1 h2 hx
                    have u2 := ob _ _ _ _ hi eb0 hy
                    omega
                  by_cases p1 : n1 > 0
                  · rw [if_pos p1]
                    by_cases p2 : (ia + n1 + 1 == a.size) = true
                    · rw [if_pos p2]
                      exact kasC_pure ⟨rfl, .inl ⟨_, _, rfl, lastA m1 (by simpa using p2), se⟩⟩
                    · rw [if_neg p2]
                      have p2' : ¬ (ia + n1 + 1 = a.size) := by simpa using p2
                      by_cases p3 : (ia + n1 == a.size) = true
                      · rw [if_pos p3]
                        have p3' : ia + n1 = a.size := by simpa using p3
                        refine kasC_pure ⟨rfl, .inl ⟨_, _, rfl, ?_, se⟩⟩
                        rw [p3'] at m1 ⊢
                        exact m1.doneB ob
                      · rw [if_neg p3]
                        have p3' : ¬ (ia + n1 = a.size) := by simpa using p3
                        have eb1 : b[ib]? = some b[ib] := Array.getElem?_eq_getElem (by omega)
                        refine kasC_bind (elem_ok eb1 ?_)
                        try dsimp only
                        have m2 := m1.pushB ob eb1 (fun i y h1 hy => hi1' i y h1 hy)
                        by_cases q1 : (ib + 1 == b.size) = true
                        · rw [if_pos q1]
                          have q1' : ib + 1 = b.size := by simpa using q1
                          refine kasC_pure ⟨rfl, .inl ⟨_, _, rfl, ?_, se⟩⟩
                          rw [q1'] at m2 ⊢
                          exact m2.doneA oa
                        · rw [if_neg q1]
                          have q1' : ib + 1 < b.size := by
                            have : ¬ (ib + 1 = b.size) := by simpa using q1
                            omega
                          have ea0 : a[ia + n1]? = some a[ia + n1] := Array.getElem?_eq_getElem (by omega)
                          refine kasC_bind (elem_ok ea0 (kasC_bind (gallop_ok (g := fun i => (b[ib + 1 + i]?).getD b[ib]) (by rw [se.1]; exact hκ) ask (ma _ _ ea0) (fun i hi => ?_) (by omega) (fun i j h1 h2 h3 => ?_) fun n2 hn2 lo2 hi2 => ?_)))
                          · have e : b[ib + 1 + i]? = some b[ib + 1 + i] := Array.getElem?_eq_getElem (by omega)
                            rw [e]
                            exact ⟨rfl, mb _ _ e⟩
                          · have e1 : b[ib + 1 + i]? = some b[ib + 1 + i] := Array.getElem?_eq_getElem (by omega)
                            have e2 : b[ib + 1 + j]? = some b[ib + 1 + j] := Array.getElem?_eq_getElem (by omega)
                            have o := ob _ _ _ _ (by omega) e1 e2
                            try dsimp only at h3 ⊢
                            rw [e1]
                            rw [e2] at h3
                            simp only [byd, if_true, Option.getD_some, decide_eq_true_eq] at h3 ⊢
                            omega
                          · try dsimp only
                            have lo2' : ∀ (i : Nat) y, ib + 1 ≤ i → i < ib + 1 + n2 → b[i]? = some y → k y < k a[ia + n1] := fun i y h1 h2 hy => by
                              have := lo2 (i - (ib + 1)) (by omega)
                              try dsimp only at this
                              rw [show ib + 1 + (i - (ib + 1)) = i by omega, hy] at this
                              simpa [byd] using this
                            have hi2' : ∀ (i : Nat) y, ib + 1 + n2 ≤ i → b[i]? = some y → k a[ia + n1] ≤ k y := fun i y h1 hy => by
                              have hlt := (Array.getElem?_eq_some_iff.mp hy).1
                              have := hi2 (i - (ib + 1)) (by omega) (by omega)
                              try dsimp only at this
                              rw [show ib + 1 + (i - (ib + 1)) = i by omega, hy] at this
                              simpa [byd] using this
                            have m3 := m2.takeB ob n2 (by omega) fun j x h1 h2 hx i y hi hy => by
                              have u1 := lo2' j x h1 h2 hx
                              have u2 := oa _ _ _ _ hi ea0 hy
                              omega
                            by_cases q2 : n2 > 0
                            · rw [if_pos q2]
                              by_cases q4 : (ib + 1 + n2 == b.size) = true
                              · rw [if_pos q4]
                                have q4' : ib + 1 + n2 = b.size := by simpa using q4
                                refine kasC_pure ⟨rfl, .inl ⟨_, _, rfl, ?_, se⟩⟩
                                rw [q4'] at m3 ⊢
                                exact m3.doneA oa
                              · rw [if_neg q4]
                                have q4' : ¬ (ib + 1 + n2 = b.size) := by simpa using q4
                                have ea1 : a[ia + n1]? = some a[ia + n1] := Array.getElem?_eq_getElem (by omega)
                                refine kasC_bind (elem_ok ea1 ?_)
                                try dsimp only
                                have m4 := m3.pushA oa ea1 hi2'
                                by_cases q3 : (ia + n1 + 1 + 1 == a.size) = true
                                · rw [if_pos q3]
                                  exact kasC_pure ⟨rfl, .inl ⟨_, _, rfl, lastA m4 (by simpa using q3), se⟩⟩
                                · rw [if_neg q3]
                                  have q3' : ¬ (ia + n1 + 1 + 1 = a.size) := by simpa using q3
                                  split
                                  · exact kasC_pure ⟨rfl, .inr ⟨_, _, _, _, _, _, rfl, se, m4, by omega, by omega, by omega, by omega⟩⟩
                                  · exact kasC_pure ⟨_, _, _, _, _, _, rfl, se, rfl, m4, by omega, by omega, by omega, by omega⟩
                            · rw [if_neg q2]
                              have z : n2 = 0 := by omega
                              subst z
                              have ea1 : a[ia + n1]? = some a[ia + n1] := Array.getElem?_eq_getElem (by omega)
                              refine kasC_bind (elem_ok ea1 ?_)
                              try dsimp only
                              have m4 := m2.pushA oa ea1 (fun i y h1 hy => hi2' i y (by omega) hy)
                              by_cases q3 : (ia + n1 + 1 + 1 == a.size) = true
                              · rw [if_pos q3]
                                exact kasC_pure ⟨rfl, .inl ⟨_, _, rfl, lastA m4 (by simpa using q3), se⟩⟩
                              · rw [if_neg q3]
                                have q3' : ¬ (ia + n1 + 1 + 1 = a.size) := by simpa using q3
                                split
                                · exact kasC_pure ⟨rfl, .inr ⟨_, _, _, _, _, _, rfl, se, m4, by omega, by omega, by omega, by omega⟩⟩
                                · exact kasC_pure ⟨_, _, _, _, _, _, rfl, se, rfl, m4, by omega, by omega, by omega, by omega⟩
                  · rw [if_neg p1]
                    have z : n1 = 0 := by omega
                    subst z
                    have eb1 : b[ib]? = some b[ib] := Array.getElem?_eq_getElem (by omega)
                    refine kasC_bind (elem_ok eb1 ?_)
                    try dsimp only
                    have m2 := m.pushB ob eb1 (fun i y h1 hy => hi1' i y (by omega) hy)
                    by_cases q1 : (ib + 1 == b.size) = true
                    · rw [if_pos q1]
                      have q1' : ib + 1 = b.size := by simpa using q1
                      refine kasC_pure ⟨rfl, .inl ⟨_, _, rfl, ?_, se⟩⟩
                      rw [q1'] at m2 ⊢
                      exact m2.doneA oa
                    · rw [if_neg q1]
                      have q1' : ib + 1 < b.size := by
                        have : ¬ (ib + 1 = b.size) := by simpa using q1
                        omega
                      have ea0 : a[ia]? = some a[ia] := Array.getElem?_eq_getElem (by omega)
                      refine kasC_bind (elem_ok ea0 (kasC_bind (gallop_ok (g := fun i => (b[ib + 1 + i]?).getD b[ib]) (by rw [se.1]; exact hκ) ask (ma _ _ ea0) (fun i hi => ?_) (by omega) (fun i j h1 h2 h3 => ?_) fun n2 hn2 lo2 hi2 => ?_)))
                      · have e : b[ib + 1 + i]? = some b[ib + 1 + i] := Array.getElem?_eq_getElem (by omega)
                        rw [e]
                        exact ⟨rfl, mb _ _ e⟩
                      · have e1 : b[ib + 1 + i]? = some b[ib + 1 + i] := Array.getElem?_eq_getElem (by omega)
                        have e2 : b[ib + 1 + j]? = some b[ib + 1 + j] := Array.getElem?_eq_getElem (by omega)
                        have o := ob _ _ _ _ (by omega) e1 e2
                        try dsimp only at h3 ⊢
                        rw [e1]
                        rw [e2] at h3
                        simp only [byd, if_true, Option.getD_some, decide_eq_true_eq] at h3 ⊢
                        omega
                      · try dsimp only
                        have lo2' : ∀ (i : Nat) y, ib + 1 ≤ i → i < ib + 1 + n2 → b[i]? = some y → k y < k a[ia] := fun i y h1 h2 hy => by
                          have := lo2 (i - (ib + 1)) (by omega)
                          try dsimp only at this
                          rw [show ib + 1 + (i - (ib + 1)) = i by omega, hy] at this
                          simpa [byd] using this
                        have hi2' : ∀ (i : Nat) y, ib + 1 + n2 ≤ i → b[i]? = some y → k a[ia] ≤ k y := fun i y h1 hy => by
                          have hlt := (Array.getElem?_eq_some_iff.mp hy).1
                          have := hi2 (i - (ib + 1)) (by omega) (by omega)
                          try dsimp only at this
                          rw [show ib + 1 + (i - (ib + 1)) = i by omega, hy] at this
                          simpa [byd] using this
                        have m3 := m2.takeB ob n2 (by omega) fun j x h1 h2 hx i y hi hy => by
                          have u1 := lo2' j x h1 h2 hx
                          have u2 := oa _ _ _ _ hi ea0 hy
                          omega
                        by_cases q2 : n2 > 0
                        · rw [if_pos q2]
                          by_cases q4 : (ib + 1 + n2 == b.size) = true
                          · rw [if_pos q4]
                            have q4' : ib + 1 + n2 = b.size := by simpa using q4
                            refine kasC_pure ⟨rfl, .inl ⟨_, _, rfl, ?_, se⟩⟩
                            rw [q4'] at m3 ⊢
                            exact m3.doneA oa
                          · rw [if_neg q4]
                            have q4' : ¬ (ib + 1 + n2 = b.size) := by simpa using q4
                            have ea1 : a[ia]? = some a[ia] := Array.getElem?_eq_getElem (by omega)
                            refine kasC_bind (elem_ok ea1 ?_)
                            try dsimp only
                            have m4 := m3.pushA oa ea1 hi2'
                            by_cases q3 : (ia + 1 + 1 == a.size) = true
                            · rw [if_pos q3]
                              exact kasC_pure ⟨rfl, .inl ⟨_, _, rfl, lastA m4 (by simpa using q3), se⟩⟩
                            · rw [if_neg q3]
                              have q3' : ¬ (ia + 1 + 1 = a.size) := by simpa using q3
                              split
                              · exact kasC_pure ⟨rfl, .inr ⟨_, _, _, _, _, _, rfl, se, m4, by omega, by omega, by omega, by omega⟩⟩
                              · exact kasC_pure ⟨_, _, _, _, _, _, rfl, se, rfl, m4, by omega, by omega, by omega, by omega⟩
                        · rw [if_neg q2]
                          have z : n2 = 0 := by omega
                          subst z
                          have ea1 : a[ia]? = some a[ia] := Array.getElem?_eq_getElem (by omega)
                          refine kasC_bind (elem_ok ea1 ?_)
                          try dsimp only
                          have m4 := m2.pushA oa ea1 (fun i y h1 hy => hi2' i y (by omega) hy)
                          by_cases q3 : (ia + 1 + 1 == a.size) = true
                          · rw [if_pos q3]
                            exact kasC_pure ⟨rfl, .inl ⟨_, _, rfl, lastA m4 (by simpa using q3), se⟩⟩
                          · rw [if_neg q3]
                            have q3' : ¬ (ia + 1 + 1 = a.size) := by simpa using q3
                            split
                            · exact kasC_pure ⟨rfl, .inr ⟨_, _, _, _, _, _, rfl, se, m4, by omega, by omega, by omega, by omega⟩⟩
                            · exact kasC_pure ⟨_, _, _, _, _, _, rfl, se, rfl, m4, by omega, by omega, by omega, by omega⟩
            · rintro x' c st' s' hx' ⟨out, ia, ib, mg, ac, bc, rfl, se, rfl, m, c3, c4, c5, c6⟩
              omega
            · rintro c st' s' ⟨rfl, ⟨r, rest, rfl, mf, se⟩ | ⟨out, ia, ib, mg, ac, bc, rfl, se, m, c3, c4, c5, c6⟩⟩
              · try dsimp only
                exact kasC_pure ⟨r, _, rfl, mf, se, rfl⟩
              · try dsimp only
                exact kasC_bind (kasC_modify (kasC_pure ⟨_, _, _, _, rfl, se, rfl, m, c3, c4, c5, by omega⟩))
      · rintro x c st' s' hx ⟨out, ia, ib, mg, rfl, se, rfl, m, c3, c4, c5, c6⟩
        omega
      · rintro c st' s' ⟨r, rest, rfl, mf, se, rfl⟩
        try dsimp only
        exact kasC_pure (h r st' mf se)
end
end L2
namespace L2
open PySem PySem.W PyProof.Rows
section
variable {k : Keyed → Int} {a b out : Array Keyed} {na nb n : Nat}
noncomputable def ng (k : Keyed → Int) : Keyed → Int := fun x => -k x
theorem rev_at {xs : Array Keyed} {i : Nat} (h : i < xs.size) : xs.reverse[i]? = xs[xs.size - 1 - i]? := by
  rw [Array.getElem?_eq_getElem (by rw [Array.size_reverse]; exact h), Array.getElem_reverse, Array.getElem?_eq_getElem (by omega)]
theorem rev_lt {xs : Array Keyed} {i : Nat} {x : Keyed} (h : xs.reverse[i]? = some x) : i < xs.size := by
  have := (Array.getElem?_eq_some_iff.mp h).1
  rwa [Array.size_reverse] at this
theorem Ord.rev (o : Ord k a) : Ord (ng k) a.reverse := fun i j x y hij hx hy => by
  have h1 := rev_lt hx
  have h2 := rev_lt hy
  rw [rev_at h1] at hx
  rw [rev_at h2] at hy
  have := o _ _ _ _ (by omega) hy hx
  unfold ng
  omega
structure MH (k : Keyed → Int) (a b out : Array Keyed) (na nb : Nat) : Prop where
  ha : na ≤ a.size
  hb : nb ≤ b.size
  mi : MI (ng k) a.reverse b.reverse out (a.size - na) (b.size - nb)
theorem MH.pushA {x : Keyed} (m : MH k a b out na nb) (oa : Ord k a) (h0 : 0 < na) (e : a[na - 1]? = some x) (h : ∀ (i : Nat) y, i < nb → b[i]? = some y → k y ≤ k x) : MH k a b (out.push x) (na - 1) nb where
  ha := by have := m.ha; omega
  hb := m.hb
  mi := by
    have hA := m.ha
    have hB := m.hb
    have e1 : a.reverse[a.size - na]? = some x := by rw [rev_at (by omega), show a.size - 1 - (a.size - na) = na - 1 by omega]; exact e
    have := m.mi.pushA oa.rev e1 fun i y hi hy => by
      have hl := rev_lt hy
      rw [rev_at hl] at hy
      have := h _ y (by omega) hy
      unfold ng
      omega
    rw [show a.size - na + 1 = a.size - (na - 1) by omega] at this
    exact this
theorem MH.pushB {x : Keyed} (m : MH k a b out na nb) (ob : Ord k b) (h0 : 0 < nb) (e : b[nb - 1]? = some x) (h : ∀ (i : Nat) y, i < na → a[i]? = some y → k y ≤ k x) : MH k a b (out.push x) na (nb - 1) where
  ha := m.ha
  hb := by have := m.hb; omega
  mi := by
    have hA := m.ha
    have hB := m.hb
    have e1 : b.reverse[b.size - nb]? = some x := by rw [rev_at (by omega), show b.size - 1 - (b.size - nb) = nb - 1 by omega]; exact e
    have := m.mi.pushB ob.rev e1 fun i y hi hy => by
      have hl := rev_lt hy
      rw [rev_at hl] at hy
      have := h _ y (by omega) hy
      unfold ng
      omega
    rw [show b.size - nb + 1 = b.size - (nb - 1) by omega] at this
    exact this
theorem rev_ext {xs : Array Keyed} {i j : Nat} (h1 : i ≤ j) (h2 : j ≤ xs.size) : xs.reverse.extract (xs.size - j) (xs.size - j + (j - i)) = (xs.extract i j).reverse := by
  apply Array.ext_getElem?
  intro t
  by_cases ht : t < j - i
  · rw [Array.getElem?_extract, if_pos (by rw [Array.size_reverse]; omega), rev_at (by omega), rev_at (by rw [Array.size_extract]; omega), Array.getElem?_extract, if_pos (by rw [Array.size_extract]; omega)]
    congr 1
    rw [Array.size_extract]
    omega
  · rw [Array.getElem?_eq_none (by rw [Array.size_extract, Array.size_reverse]; omega), Array.getElem?_eq_none (by rw [Array.size_reverse, Array.size_extract]; omega)]
theorem MH.takeA (m : MH k a b out na nb) (oa : Ord k a) (t : Nat) (ht : t ≤ na) (h : ∀ (j : Nat) x, t ≤ j → j < na → a[j]? = some x → ∀ (i : Nat) y, i < nb → b[i]? = some y → k y ≤ k x) : MH k a b (out ++ (a.extract t na).reverse) t nb where
  ha := by have := m.ha; omega
  hb := m.hb
  mi := by
    have hA := m.ha
    have hB := m.hb
    have := m.mi.takeA oa.rev (na - t) (by rw [Array.size_reverse]; omega) fun j x h1 h2 hx i y hi hy => by
      have l1 := rev_lt hx
      have l2 := rev_lt hy
      rw [rev_at l1] at hx
      rw [rev_at l2] at hy
      have := h _ x (by omega) (by omega) hx _ y (by omega) hy
      unfold ng
      omega
    rw [rev_ext ht hA, show a.size - na + (na - t) = a.size - t by omega] at this
    exact this
theorem MH.takeB (m : MH k a b out na nb) (ob : Ord k b) (t : Nat) (ht : t ≤ nb) (h : ∀ (j : Nat) x, t ≤ j → j < nb → b[j]? = some x → ∀ (i : Nat) y, i < na → a[i]? = some y → k y ≤ k x) : MH k a b (out ++ (b.extract t nb).reverse) na t where
  ha := m.ha
  hb := by have := m.hb; omega
  mi := by
    have hA := m.ha
    have hB := m.hb
    have := m.mi.takeB ob.rev (nb - t) (by rw [Array.size_reverse]; omega) fun j x h1 h2 hx i y hi hy => by
      have l1 := rev_lt hx
      have l2 := rev_lt hy
      rw [rev_at l1] at hx
      rw [rev_at l2] at hy
      have := h _ x (by omega) (by omega) hx _ y (by omega) hy
      unfold ng
      omega
    rw [rev_ext ht hB, show b.size - nb + (nb - t) = b.size - t by omega] at this
    exact this
theorem MH.fin (m : MH k a b out 0 0) : MF k a b out.reverse := by
  have h := m.mi
  rw [Nat.sub_zero, Nat.sub_zero] at h
  have p := h.perm
  rw [List.take_of_length_le (by simp), List.take_of_length_le (by simp)] at p
  refine ⟨?_, ?_⟩
  · rw [Array.toList_reverse]
    refine (List.reverse_perm _).trans (p.trans ?_)
    rw [Array.toList_reverse, Array.toList_reverse]
    exact (List.reverse_perm _).append (List.reverse_perm _)
  · rw [Array.toList_reverse, List.pairwise_reverse]
    exact h.srt.imp fun {x y} q => by unfold ng at q; omega
theorem MH.doneA (m : MH k a b out na 0) (oa : Ord k a) : MF k a b (a.extract 0 na ++ b.extract 0 0 ++ out.reverse) := by
  have h := (m.takeA oa 0 (Nat.zero_le _) fun j x _ _ _ i y hi => absurd hi (Nat.not_lt_zero _)).fin
  rw [Array.reverse_append, Array.reverse_reverse] at h
  have e : b.extract 0 0 = #[] := by simp
  rw [e, Array.append_empty]
  exact h
theorem MH.doneB (m : MH k a b out 0 nb) (ob : Ord k b) : MF k a b (a.extract 0 0 ++ b.extract 0 nb ++ out.reverse) := by
  have h := (m.takeB ob 0 (Nat.zero_le _) fun j x _ _ _ i y hi => absurd hi (Nat.not_lt_zero _)).fin
  rw [Array.reverse_append, Array.reverse_reverse] at h
  have e : a.extract 0 0 = #[] := by simp
  rw [e, Array.empty_append]
  exact h
theorem MH.firstB (m : MH k a b out na nb) (oa : Ord k a) (ob : Ord k b) (h : ∀ (j : Nat) x, j < na → a[j]? = some x → ∀ (i : Nat) y, i < nb → b[i]? = some y → k y ≤ k x) : MF k a b (b.extract 0 nb ++ a.extract 0 na ++ out.reverse) := by
  have h1 := m.takeA oa 0 (Nat.zero_le _) fun j x _ hj hx => h j x hj hx
  have h2 := (h1.takeB ob 0 (Nat.zero_le _) fun j x _ _ _ i y hi => absurd hi (Nat.not_lt_zero _)).fin
  rw [Array.reverse_append, Array.reverse_reverse, Array.reverse_append, Array.reverse_reverse, ← Array.append_assoc] at h2
  exact h2
end
end L2
namespace L2
open PySem PySem.W PyProof.Rows
theorem MH.doneA' {k : Keyed → Int} {a b out : Array Keyed} {na nb : Nat} (m : MH k a b out na nb) (oa : Ord k a) (e : nb = 0) : MF k a b (a.extract 0 na ++ b.extract 0 nb ++ out.reverse) := by
  subst e; exact m.doneA oa
theorem MH.doneB' {k : Keyed → Int} {a b out : Array Keyed} {na nb : Nat} (m : MH k a b out na nb) (ob : Ord k b) (e : na = 0) : MF k a b (a.extract 0 na ++ b.extract 0 nb ++ out.reverse) := by
  subst e; exact m.doneB ob
section
variable {prog : Program} {w : World} {A : Around} {E : Value → Shared → Prop} {κ : SortKind} {k : Keyed → Int} {Mem : Keyed → Prop} {s : Shared} {st : SortSt}
theorem mergeHi_ok {a b : Array Keyed} {Q : Array Keyed → SortSt → Shared → Prop} (hκ : kindOf st = κ) (ask : Asks2 prog w A κ k Mem s) (ma : ∀ (i : Nat) x, a[i]? = some x → Mem x) (mb : ∀ (i : Nat) x, b[i]? = some x → Mem x)
    (oa : Ord k a) (ob : Ord k b) (ha : 0 < a.size) (hb : 0 < b.size) (h0 : ∀ x y, b[0]? = some x → a[0]? = some y → k x ≤ k y) (hl : ∀ (j : Nat) x y, b[j]? = some x → a[a.size - 1]? = some y → k x ≤ k y)
    (h : ∀ out st', MF k a b out → StEq st st' → Q out st' s) : kasC (model prog w) A E (mergeHi' a b) Q st s := by
  have ez : a[a.size - 1]? = some a[a.size - 1] := Array.getElem?_eq_getElem (by omega)
  have m0 : MH k a b #[a[a.size - 1]] (a.size - 1) b.size := by
    have z : MH k a b #[] a.size b.size := ⟨Nat.le_refl _, Nat.le_refl _, by rw [Nat.sub_self, Nat.sub_self]; exact ⟨by simp, by simp, fun x hx => by simp at hx, fun x hx => by simp at hx, Nat.zero_le _, Nat.zero_le _⟩⟩
    exact z.pushA oa ha ez fun i y hi hy => hl i y _ hy ez
  have firstB : ∀ {out : Array Keyed} {na nb : Nat}, MH k a b out na nb → nb = 1 → MF k a b (b.extract 0 nb ++ a.extract 0 na ++ out.reverse) := fun m e => m.firstB oa ob fun j x hj hx i y hi hy => by
    have ei : i = 0 := by omega
    subst ei
    have e0 : a[0]? = some a[0] := Array.getElem?_eq_getElem (by omega)
    have u1 := h0 _ _ hy e0
    have u2 := oa 0 j _ _ (Nat.zero_le _) e0 hx
    omega
  unfold mergeHi'
  refine kasC_bind (kasC_lift (wpAny_rule ?_))
  refine kasC_bind (elem_ok ez ?_)
  try dsimp only
  by_cases c1 : (a.size - 1 == 0) = true
  · rw [if_pos c1]
    have e1 : a.size - 1 = 0 := by simpa using c1
    exact kasC_pure (h _ _ (m0.doneB' ob e1) StEq.refl)
  · rw [if_neg c1]
    have c1' : ¬ (a.size - 1 = 0) := by simpa using c1
    by_cases c2 : (b.size == 1) = true
    · rw [if_pos c2]
      exact kasC_pure (h _ _ (firstB m0 (by simpa using c2)) StEq.refl)
    · rw [if_neg c2]
      have c2' : ¬ (b.size = 1) := by simpa using c2
      refine kasC_bind (kasC_get ?_)
      refine kasC_bind (kasC_mono (Q := fun c st' s' => ∃ r rest, c = (some r, rest) ∧ MF k a b r ∧ StEq st st' ∧ s = s') (kasC_loop (fun x c st' s' => ∃ na nb out mg, c = (none, na, nb, out, mg) ∧ StEq st st' ∧ s = s' ∧ MH k a b out na nb ∧ 0 < na ∧ 1 < nb ∧ na + nb + x + 1 ≤ a.size + b.size) ?_ ?_ ⟨_, _, _, _, rfl, StEq.refl, rfl, m0, by omega, by omega, by omega⟩) ?_)
      · rintro x c st' s' _ hx ⟨na, nb, out, mg, rfl, se, rfl, m, c3, c4, c6⟩
        try dsimp only
        refine kasC_bind (kasC_mono (Q := fun c st' s' => s = s' ∧ ((∃ r rest, c = (some r, rest) ∧ MF k a b r ∧ StEq st st') ∨ ∃ na nb out ac bc, c = (none, na, nb, out, ac, bc) ∧ StEq st st' ∧ MH k a b out na nb ∧ 0 < na ∧ 1 < nb ∧ na + nb + x + 2 ≤ a.size + b.size)) (kasC_loop (fun x' c st' s' => ∃ na nb out ac bc, c = (none, na, nb, out, ac, bc) ∧ StEq st st' ∧ s = s' ∧ MH k a b out na nb ∧ 0 < na ∧ 1 < nb ∧ na + nb + x + x' + 1 ≤ a.size + b.size) ?_ ?_ ⟨_, _, _, _, _, rfl, se, rfl, m, c3, c4, by omega⟩) ?_)
        · rintro x' c st' s' _ hx' ⟨na, nb, out, ac, bc, rfl, se, rfl, m, c3, c4, c6⟩
          try dsimp only
          have hA := m.ha
          have hB := m.hb
          have eb : b[nb - 1]? = some b[nb - 1] := Array.getElem?_eq_getElem (by omega)
          have ea : a[na - 1]? = some a[na - 1] := Array.getElem?_eq_getElem (by omega)
          refine kasC_bind (elem_ok eb (kasC_bind (elem_ok ea (kasC_bind (lt_ok (by rw [se.1]; exact hκ) ask (mb _ _ eb) (ma _ _ ea) ?_)))))
          by_cases hw : k b[nb - 1] < k a[na - 1]
          · rw [decide_eq_true hw]
            try dsimp only
            rw [if_pos rfl]
            have m2 := m.pushA oa c3 ea fun i y hi hy => by
              have := ob i (nb - 1) _ _ (by omega) hy eb
              omega
            refine kasC_bind (elem_ok ea ?_)
            try dsimp only
            by_cases q1 : (na - 1 == 0) = true
            · rw [if_pos q1]
              have q1' : na - 1 = 0 := by simpa using q1
              exact kasC_pure ⟨rfl, .inl ⟨_, _, rfl, m2.doneB' ob q1', se⟩⟩
            · rw [if_neg q1]
              have q1' : ¬ (na - 1 = 0) := by simpa using q1
              split
              · exact kasC_pure ⟨rfl, .inr ⟨_, _, _, _, _, rfl, se, m2, by omega, by omega, by omega⟩⟩
              · exact kasC_pure ⟨_, _, _, _, _, rfl, se, rfl, m2, by omega, by omega, by omega⟩
          · rw [decide_eq_false hw]
            try dsimp only
            rw [if_neg Bool.false_ne_true]
            have m2 := m.pushB ob (by omega) eb fun i y hi hy => by
              have := oa i (na - 1) _ _ (by omega) hy ea
              omega
            refine kasC_bind (elem_ok eb ?_)
            try dsimp only
            by_cases q1 : (nb - 1 == 1) = true
            · rw [if_pos q1]
              exact kasC_pure ⟨rfl, .inl ⟨_, _, rfl, firstB m2 (by simpa using q1), se⟩⟩
            · rw [if_neg q1]
              have q1' : ¬ (nb - 1 = 1) := by simpa using q1
              split
              · exact kasC_pure ⟨rfl, .inr ⟨_, _, _, _, _, rfl, se, m2, by omega, by omega, by omega⟩⟩
              · exact kasC_pure ⟨_, _, _, _, _, rfl, se, rfl, m2, by omega, by omega, by omega⟩
        · rintro x' c st' s' hx' ⟨na, nb, out, ac, bc, rfl, se, rfl, m, c3, c4, c6⟩
          omega
        · rintro c st' s' ⟨rfl, ⟨r, rest, rfl, mf, se⟩ | ⟨na, nb, out, ac, bc, rfl, se, m, c3, c4, c6⟩⟩
          · try dsimp only
            exact kasC_pure ⟨r, _, rfl, mf, se, rfl⟩
          · try dsimp only
            refine kasC_bind (kasC_lift (wpAny_rule ?_))
            refine kasC_bind (kasC_mono (Q := fun c st' s' => s = s' ∧ ((∃ r rest, c = (some r, rest) ∧ MF k a b r ∧ StEq st st') ∨ ∃ na nb out mg ac bc, c = (none, na, nb, out, mg, ac, bc) ∧ StEq st st' ∧ MH k a b out na nb ∧ 0 < na ∧ 1 < nb ∧ na + nb + x + 2 ≤ a.size + b.size)) (kasC_loop (fun x' c st' s' => ∃ na nb out mg ac bc, c = (none, na, nb, out, mg, ac, bc) ∧ StEq st st' ∧ s = s' ∧ MH k a b out na nb ∧ 0 < na ∧ 1 < nb ∧ na + nb + x + x' + 2 ≤ a.size + b.size) ?_ ?_ ⟨_, _, _, _, _, _, rfl, se, rfl, m, c3, c4, by omega⟩) ?_)
            · rintro x' c st' s' _ hx' ⟨na, nb, out, mg, ac, bc, rfl, se, rfl, m, c3, c4, c6⟩
              try dsimp only
              have hA := m.ha
              have hB := m.hb
              by_cases hmg : mg > 1
              · rw [if_pos hmg]
                refine kasC_bind (kasC_modify ?_)
                have eb0 : b[nb - 1]? = some b[nb - 1] := Array.getElem?_eq_getElem (by omega)
                refine kasC_bind (elem_ok eb0 (kasC_bind (gallop_ok (g := fun i => (a[i]?).getD b[nb - 1]) (by rw [se.1]; exact hκ) ask (mb _ _ eb0) (fun i hi => ?_) (by omega) (fun i j h1 h2 h3 => ?_) fun t1 hn1 lo1 hi1 => ?_)))
                · have e : a[i]? = some a[i] := Array.getElem?_eq_getElem (by omega)
                  rw [Nat.zero_add, e]
                  exact ⟨rfl, ma _ _ e⟩
                · have e1 : a[i]? = some a[i] := Array.getElem?_eq_getElem (by omega)
                  have e2 : a[j]? = some a[j] := Array.getElem?_eq_getElem (by omega)
                  have o := oa _ _ _ _ (by omega) e1 e2
                  try dsimp only at h3 ⊢
                  rw [e1]
                  rw [e2] at h3
                  simp only [byd, Bool.false_eq_true, if_false, Option.getD_some, Bool.not_eq_true', decide_eq_false_iff_not] at h3 ⊢
                  omega
                · try dsimp only
                  have lo1' : ∀ (i : Nat) y, i < t1 → a[i]? = some y → k y ≤ k b[nb - 1] := fun i y h2 hy => by
                    have := lo1 i h2
                    try dsimp only at this
                    rw [hy] at this
                    simpa [byd] using this
                  have hi1' : ∀ (i : Nat) y, t1 ≤ i → i < na → a[i]? = some y → k b[nb - 1] ≤ k y := fun i y h1 h2 hy => by
                    have := hi1 i h1 h2
                    try dsimp only at this
                    rw [hy] at this
                    have t : k b[nb - 1] < k y := by simpa [byd] using this
                    omega
                  have m1 := m.takeA oa t1 hn1 fun j x h1 h2 hx i y hi hy => by
                    have u1 := hi1' j x h1 h2 hx
                    have u2 := ob i (nb - 1) _ _ (by omega) hy eb0
                    omega
                  by_cases p1 : na - t1 > 0
                  · rw [if_pos p1]
                    by_cases p3 : (t1 == 0) = true
                    · rw [if_pos p3]
                      have p3' : t1 = 0 := by simpa using p3
                      exact kasC_pure ⟨rfl, .inl ⟨_, _, rfl, m1.doneB' ob p3', se⟩⟩
                    · rw [if_neg p3]
                      have p3' : ¬ (t1 = 0) := by simpa using p3
                      have eb1 : b[nb - 1]? = some b[nb - 1] := Array.getElem?_eq_getElem (by omega)
                      refine kasC_bind (elem_ok eb1 ?_)
                      try dsimp only
                      have m2 := m1.pushB ob (by omega) eb1 lo1'
                      by_cases q1 : (nb - 1 == 1) = true
                      · rw [if_pos q1]
                        exact kasC_pure ⟨rfl, .inl ⟨_, _, rfl, firstB m2 (by simpa using q1), se⟩⟩
                      · rw [if_neg q1]
                        have q1' : ¬ (nb - 1 = 1) := by simpa using q1
                        have ea0 : a[t1 - 1]? = some a[t1 - 1] := Array.getElem?_eq_getElem (by omega)
                        refine kasC_bind (elem_ok ea0 (kasC_bind (gallop_ok (g := fun i => (b[i]?).getD b[nb - 1]) (by rw [se.1]; exact hκ) ask (ma _ _ ea0) (fun i hi => ?_) (by omega) (fun i j h1 h2 h3 => ?_) fun t2 hn2 lo2 hi2 => ?_)))
                        · have e : b[i]? = some b[i] := Array.getElem?_eq_getElem (by omega)
                          rw [Nat.zero_add, e]
                          exact ⟨rfl, mb _ _ e⟩
                        · have e1 : b[i]? = some b[i] := Array.getElem?_eq_getElem (by omega)
                          have e2 : b[j]? = some b[j] := Array.getElem?_eq_getElem (by omega)
                          have o := ob _ _ _ _ (by omega) e1 e2
                          try dsimp only at h3 ⊢
                          rw [e1]
                          rw [e2] at h3
                          simp only [byd, if_true, Option.getD_some, decide_eq_true_eq] at h3 ⊢
                          omega
                        · try dsimp only
                          have lo2' : ∀ (i : Nat) y, i < t2 → b[i]? = some y → k y < k a[t1 - 1] := fun i y h2 hy => by
                            have := lo2 i h2
                            try dsimp only at this
                            rw [hy] at this
                            simpa [byd] using this
                          have hi2' : ∀ (i : Nat) y, t2 ≤ i → i < nb - 1 → b[i]? = some y → k a[t1 - 1] ≤ k y := fun i y h1 h2 hy => by
                            have := hi2 i h1 h2
                            try dsimp only at this
                            rw [hy] at this
                            simpa [byd] using this
                          have m3 := m2.takeB ob t2 hn2 fun j x h1 h2 hx i y hi hy => by
                            have u1 := hi2' j x h1 h2 hx
                            have u2 := oa i (t1 - 1) _ _ (by omega) hy ea0
                            omega
                          by_cases q2 : nb - 1 - t2 > 0
                          · rw [if_pos q2]
                            by_cases q4 : (t2 == 1) = true
                            · rw [if_pos q4]
                              exact kasC_pure ⟨rfl, .inl ⟨_, _, rfl, firstB m3 (by simpa using q4), se⟩⟩
                            · rw [if_neg q4]
                              have q4' : ¬ (t2 = 1) := by simpa using q4
                              by_cases q5 : (t2 == 0) = true
                              · rw [if_pos q5]
                                have q5' : t2 = 0 := by simpa using q5
                                exact kasC_pure ⟨rfl, .inl ⟨_, _, rfl, m3.doneA' oa q5', se⟩⟩
                              · rw [if_neg q5]
                                have q5' : ¬ (t2 = 0) := by simpa using q5
                                have ea1 : a[t1 - 1]? = some a[t1 - 1] := Array.getElem?_eq_getElem (by omega)
                                refine kasC_bind (elem_ok ea1 ?_)
                                try dsimp only
                                have m4 := m3.pushA oa (by omega) ea1 (fun i y h1 hy => by have := lo2' i y h1 hy; omega)
                                by_cases q3 : (t1 - 1 == 0) = true
                                · rw [if_pos q3]
                                  have q3' : t1 - 1 = 0 := by simpa using q3
                                  exact kasC_pure ⟨rfl, .inl ⟨_, _, rfl, m4.doneB' ob q3', se⟩⟩
                                · rw [if_neg q3]
                                  have q3' : ¬ (t1 - 1 = 0) := by simpa using q3
                                  split
                                  · exact kasC_pure ⟨rfl, .inr ⟨_, _, _, _, _, _, rfl, se, m4, by omega, by omega, by omega⟩⟩
                                  · exact kasC_pure ⟨_, _, _, _, _, _, rfl, se, rfl, m4, by omega, by omega, by omega⟩
                          · rw [if_neg q2]
                            have z : t2 = nb - 1 := by omega
                            have ea1 : a[t1 - 1]? = some a[t1 - 1] := Array.getElem?_eq_getElem (by omega)
                            refine kasC_bind (elem_ok ea1 ?_)
                            try dsimp only
                            have m4 := m2.pushA oa (by omega) ea1 (fun i y h1 hy => by have := lo2' i y (by omega) hy; omega)
                            by_cases q3 : (t1 - 1 == 0) = true
                            · rw [if_pos q3]
                              have q3' : t1 - 1 = 0 := by simpa using q3
                              exact kasC_pure ⟨rfl, .inl ⟨_, _, rfl, m4.doneB' ob q3', se⟩⟩
                            · rw [if_neg q3]
                              have q3' : ¬ (t1 - 1 = 0) := by simpa using q3
                              split
                              · exact kasC_pure ⟨rfl, .inr ⟨_, _, _, _, _, _, rfl, se, m4, by omega, by omega, by omega⟩⟩
                              · exact kasC_pure ⟨_, _, _, _, _, _, rfl, se, rfl, m4, by omega, by omega, by omega⟩
                  · rw [if_neg p1]
                    have z : t1 = na := by omega
                    have eb1 : b[nb - 1]? = some b[nb - 1] := Array.getElem?_eq_getElem (by omega)
                    refine kasC_bind (elem_ok eb1 ?_)
                    try dsimp only
                    have m2 := m.pushB ob (by omega) eb1 (fun i y h1 hy => lo1' i y (by omega) hy)
                    by_cases q1 : (nb - 1 == 1) = true
                    · rw [if_pos q1]
                      exact kasC_pure ⟨rfl, .inl ⟨_, _, rfl, firstB m2 (by simpa using q1), se⟩⟩
                    · rw [if_neg q1]
                      have q1' : ¬ (nb - 1 = 1) := by simpa using q1
                      have ea0 : a[na - 1]? = some a[na - 1] := Array.getElem?_eq_getElem (by omega)
                      refine kasC_bind (elem_ok ea0 (kasC_bind (gallop_ok (g := fun i => (b[i]?).getD b[nb - 1]) (by rw [se.1]; exact hκ) ask (ma _ _ ea0) (fun i hi => ?_) (by omega) (fun i j h1 h2 h3 => ?_) fun t2 hn2 lo2 hi2 => ?_)))
                      · have e : b[i]? = some b[i] := Array.getElem?_eq_getElem (by omega)
                        rw [Nat.zero_add, e]
                        exact ⟨rfl, mb _ _ e⟩
                      · have e1 : b[i]? = some b[i] := Array.getElem?_eq_getElem (by omega)
                        have e2 : b[j]? = some b[j] := Array.getElem?_eq_getElem (by omega)
                        have o := ob _ _ _ _ (by omega) e1 e2
                        try dsimp only at h3 ⊢
                        rw [e1]
                        rw [e2] at h3
                        simp only [byd, if_true, Option.getD_some, decide_eq_true_eq] at h3 ⊢
                        omega
                      · try dsimp only
                        have lo2' : ∀ (i : Nat) y, i < t2 → b[i]? = some y → k y < k a[na - 1] := fun i y h2 hy => by
                          have := lo2 i h2
                          try dsimp only at this
                          rw [hy] at this
                          simpa [byd] using this
                        have hi2' : ∀ (i : Nat) y, t2 ≤ i → i < nb - 1 → b[i]? = some y → k a[na - 1] ≤ k y := fun i y h1 h2 hy => by
                          have := hi2 i h1 h2
                          try dsimp only at this
                          rw [hy] at this
                          simpa [byd] using this
                        have m3 := m2.takeB ob t2 hn2 fun j x h1 h2 hx i y hi hy => by
                          have u1 := hi2' j x h1 h2 hx
                          have u2 := oa i (na - 1) _ _ (by omega) hy ea0
                          omega
                        by_cases q2 : nb - 1 - t2 > 0
                        · rw [if_pos q2]
                          by_cases q4 : (t2 == 1) = true
                          · rw [if_pos q4]
                            exact kasC_pure ⟨rfl, .inl ⟨_, _, rfl, firstB m3 (by simpa using q4), se⟩⟩
                          · rw [if_neg q4]
                            have q4' : ¬ (t2 = 1) := by simpa using q4
                            by_cases q5 : (t2 == 0) = true
                            · rw [if_pos q5]
                              have q5' : t2 = 0 := by simpa using q5
                              exact kasC_pure ⟨rfl, .inl ⟨_, _, rfl, m3.doneA' oa q5', se⟩⟩
                            · rw [if_neg q5]
                              have q5' : ¬ (t2 = 0) := by simpa using q5
                              have ea1 : a[na - 1]? = some a[na - 1] := Array.getElem?_eq_getElem (by omega)
                              refine kasC_bind (elem_ok ea1 ?_)
                              try dsimp only
                              have m4 := m3.pushA oa (by omega) ea1 (fun i y h1 hy => by have := lo2' i y h1 hy; omega)
                              by_cases q3 : (na - 1 == 0) = true
                              · rw [if_pos q3]
                                have q3' : na - 1 = 0 := by simpa using q3
                                exact kasC_pure ⟨rfl, .inl ⟨_, _, rfl, m4.doneB' ob q3', se⟩⟩
                              · rw [if_neg q3]
                                have q3' : ¬ (na - 1 = 0) := by simpa using q3
                                split
                                · exact kasC_pure ⟨rfl, .inr ⟨_, _, _, _, _, _, rfl, se, m4, by omega, by omega, by omega⟩⟩
                                · exact kasC_pure ⟨_, _, _, _, _, _, rfl, se, rfl, m4, by omega, by omega, by omega⟩
                        · rw [if_neg q2]
                          have z : t2 = nb - 1 := by omega
                          have ea1 : a[na - 1]? = some a[na - 1] := Array.getElem?_eq_getElem (by omega)
                          refine kasC_bind (elem_ok ea1 ?_)
                          try dsimp only
                          have m4 := m2.pushA oa (by omega) ea1 (fun i y h1 hy => by have := lo2' i y (by omega) hy; omega)
                          by_cases q3 : (na - 1 == 0) = true
                          · rw [if_pos q3]
                            have q3' : na - 1 = 0 := by simpa using q3
                            exact kasC_pure ⟨rfl, .inl ⟨_, _, rfl, m4.doneB' ob q3', se⟩⟩
                          · rw [if_neg q3]
                            have q3' : ¬ (na - 1 = 0) := by simpa using q3
                            split
                            · exact kasC_pure ⟨rfl, .inr ⟨_, _, _, _, _, _, rfl, se, m4, by omega, by omega, by omega⟩⟩
                            · exact kasC_pure ⟨_, _, _, _, _, _, rfl, se, rfl, m4, by omega, by omega, by omega⟩
              · rw [if_neg hmg]
                refine kasC_bind (kasC_modify ?_)
                have eb0 : b[nb - 1]? = some b[nb - 1] := Array.getElem?_eq_getElem (by omega)
                refine kasC_bind (elem_ok eb0 (kasC_bind (gallop_ok (g := fun i => (a[i]?).getD b[nb - 1]) (by rw [se.1]; exact hκ) ask (mb _ _ eb0) (fun i hi => ?_) (by omega) (fun i j h1 h2 h3 => ?_) fun t1 hn1 lo1 hi1 => ?_)))
                · have e : a[i]? = some a[i] := Array.getElem?_eq_getElem (by omega)
                  rw [Nat.zero_add, e]
                  exact ⟨rfl, ma _ _ e⟩
                · have e1 : a[i]? = some a[i] := Array.getElem?_eq_getElem (by omega)
                  have e2 : a[j]? = some a[j] := Array.getElem?_eq_getElem (by omega)
                  have o := oa _ _ _ _ (by omega) e1 e2
                  try dsimp only at h3 ⊢
                  rw [e1]
                  rw [e2] at h3
                  simp only [byd, Bool.false_eq_true, if_false, Option.getD_some, Bool.not_eq_true', decide_eq_false_iff_not] at h3 ⊢
                  omega
                · try dsimp only
                  have lo1' : ∀ (i : Nat) y, i < t1 → a[i]? = some y → k y ≤ k b[nb - 1] := fun i y h2 hy => by
                    have := lo1 i h2
                    try dsimp only at this
                    rw [hy] at this
                    simpa [byd] using this
                  have hi1' : ∀ (i : Nat) y, t1 ≤ i → i < na → a[i]? = some y → k b[nb - 1] ≤ k y := fun i y h1 h2 hy => by
                    have := hi1 i h1 h2
                    try dsimp only at this
                    rw [hy] at this
                    have t : k b[nb - 1] < k y := by simpa [byd] using this
                    omega
                  have m1 := m.takeA oa t1 hn1 fun j x h1 h2 hx i y hi hy => by
                    have u1 := hi1' j x h1 h2 hx
                    have u2 := ob i (nb - 1) _ _ (by omega) hy eb0
                    omega
                  by_cases p1 : na - t1 > 0
                  · rw [if_pos p1]
                    by_cases p3 : (t1 == 0) = true
                    · rw [if_pos p3]
                      have p3' : t1 = 0 := by simpa using p3
                      exact kasC_pure ⟨rfl, .inl ⟨_, _, rfl, m1.doneB' ob p3', se⟩⟩
                    · rw [if_neg p3]
                      have p3' : ¬ (t1 = 0) := by simpa using p3
                      have eb1 : b[nb - 1]? = some b[nb - 1] := Array.getElem?_eq_getElem (by omega)
                      refine kasC_bind (elem_ok eb1 ?_)
                      try dsimp only
                      have m2 := m1.pushB ob (by omega) eb1 lo1'
                      by_cases q1 : (nb - 1 == 1) = true
                      · rw [if_pos q1]
                        exact kasC_pure ⟨rfl, .inl ⟨_, _, rfl, firstB m2 (by simpa using q1), se⟩⟩
                      · rw [if_neg q1]
                        have q1' : ¬ (nb - 1 = 1) := by simpa using q1
                        have ea0 : a[t1 - 1]? = some a[t1 - 1] := Array.getElem?_eq_getElem (by omega)
                        refine kasC_bind (elem_ok ea0 (kasC_bind (gallop_ok (g := fun i => (b[i]?).getD b[nb - 1]) (by rw [se.1]; exact hκ) ask (ma _ _ ea0) (fun i hi => ?_) (by omega) (fun i j h1 h2 h3 => ?_) fun t2 hn2 lo2 hi2 => ?_)))
                        · have e : b[i]? = some b[i] := Array.getElem?_eq_getElem (by omega)
                          rw [Nat.zero_add, e]
                          exact ⟨rfl, mb _ _ e⟩
                        · have e1 : b[i]? = some b[i] := Array.getElem?_eq_getElem (by omega)
                          have e2 : b[j]? = some b[j] := Array.getElem?_eq_getElem (by omega)
                          have o := ob _ _ _ _ (by omega) e1 e2
                          try dsimp only at h3 ⊢
                          rw [e1]
                          rw [e2] at h3
                          simp only [byd, if_true, Option.getD_some, decide_eq_true_eq] at h3 ⊢
                          omega
                        · try dsimp only
                          have lo2' : ∀ (i : Nat) y, i < t2 → b[i]? = some y → k y < k a[t1 - 1] := fun i y h2 hy => by
                            have := lo2 i h2
                            try dsimp only at this
                            rw [hy] at this
                            simpa [byd] using this
                          have hi2' : ∀ (i : Nat) y, t2 ≤ i → i < nb - 1 → b[i]? = some y → k a[t1 - 1] ≤ k y := fun i y h1 h2 hy => by
                            have := hi2 i h1 h2
                            try dsimp only at this
                            rw [hy] at this
                            simpa [byd] using this
                          have m3 := m2.takeB ob t2 hn2 fun j x h1 h2 hx i y hi hy => by
                            have u1 := hi2' j x h1 h2 hx
                            have u2 := oa i (t1 - 1) _ _ (by omega) hy ea0
                            omega
                          by_cases q2 : nb - 1 - t2 > 0
                          · rw [if_pos q2]
                            by_cases q4 : (t2 == 1) = true
                            · rw [if_pos q4]
                              exact kasC_pure ⟨rfl, .inl ⟨_, _, rfl, firstB m3 (by simpa using q4), se⟩⟩
                            · rw [if_neg q4]
                              have q4' : ¬ (t2 = 1) := by simpa using q4
                              by_cases q5 : (t2 == 0) = true
                              · rw [if_pos q5]
                                have q5' : t2 = 0 := by simpa using q5
                                exact kasC_pure ⟨rfl, .inl ⟨_, _, rfl, m3.doneA' oa q5', se⟩⟩
                              · rw [if_neg q5]
                                have q5' : ¬ (t2 = 0) := by simpa using q5
                                have ea1 : a[t1 - 1]? = some a[t1 - 1] := Array.getElem?_eq_getElem (by omega)
                                refine kasC_bind (elem_ok ea1 ?_)
                                try dsimp only
                                have m4 := m3.pushA oa (by omega) ea1 (fun i y h1 hy => by have := lo2' i y h1 hy; omega)
                                by_cases q3 : (t1 - 1 == 0) = true
                                · rw [if_pos q3]
                                  have q3' : t1 - 1 = 0 := by simpa using q3
                                  exact kasC_pure ⟨rfl, .inl ⟨_, _, rfl, m4.doneB' ob q3', se⟩⟩
                                · rw [if_neg q3]
                                  have q3' : ¬ (t1 - 1 = 0) := by simpa using q3
                                  split
                                  · exact kasC_pure ⟨rfl, .inr ⟨_, _, _, _, _, _, rfl, se, m4, by omega, by omega, by omega⟩⟩
                                  · exact kasC_pure ⟨_, _, _, _, _, _, rfl, se, rfl, m4, by omega, by omega, by omega⟩
                          · rw [if_neg q2]
                            have z : t2 = nb - 1 := by omega
                            have ea1 : a[t1 - 1]? = some a[t1 - 1] := Array.getElem?_eq_getElem (by omega)
                            refine kasC_bind (elem_ok ea1 ?_)
                            try dsimp only
                            have m4 := m2.pushA oa (by omega) ea1 (fun i y h1 hy => by have := lo2' i y (by omega) hy; omega)
                            by_cases q3 : (t1 - 1 == 0) = true
                            · rw [if_pos q3]
                              have q3' : t1 - 1 = 0 := by simpa using q3
                              exact kasC_pure ⟨rfl, .inl ⟨_, _, rfl, m4.doneB' ob q3', se⟩⟩
                            · rw [if_neg q3]
                              have q3' : ¬ (t1 - 1 = 0) := by simpa using q3
                              split
                              · exact kasC_pure ⟨rfl, .inr ⟨_, _, _, _, _, _, rfl, se, m4, by omega, by omega, by omega⟩⟩
                              · exact kasC_pure ⟨_, _, _, _, _, _, rfl, se, rfl, m4, by omega, by omega, by omega⟩
                  · rw [if_neg p1]
                    have z : t1 = na := by omega
                    have eb1 : b[nb - 1]? = some b[nb - 1] := Array.getElem?_eq_getElem (by omega)
                    refine kasC_bind (elem_ok eb1 ?_)
                    try dsimp only
                    have m2 := m.pushB ob (by omega) eb1 (fun i y h1 hy => lo1' i y (by omega) hy)
                    by_cases q1 : (nb - 1 == 1) = true
                    · rw [if_pos q1]
                      exact kasC_pure ⟨rfl, .inl ⟨_, _, rfl, firstB m2 (by simpa using q1), se⟩⟩
                    · rw [if_neg q1]
                      have q1' : ¬ (nb - 1 = 1) := by simpa using q1
                      have ea0 : a[na - 1]? = some a[na - 1] := Array.getElem?_eq_getElem (by omega)
                      refine kasC_bind (elem_ok ea0 (kasC_bind (gallop_ok (g := fun i => (b[i]?).getD b[nb - 1]) (by rw [se.1]; exact hκ) ask (ma _ _ ea0) (fun i hi => ?_) (by omega) (fun i j h1 h2 h3 => ?_) fun t2 hn2 lo2 hi2 => ?_)))
                      · have e : b[i]? = some b[i] := Array.getElem?_eq_getElem (by omega)
                        rw [Nat.zero_add, e]
                        exact ⟨rfl, mb _ _ e⟩
                      · have e1 : b[i]? = some b[i] := Array.getElem?_eq_getElem (by omega)
                        have e2 : b[j]? = some b[j] := Array.getElem?_eq_getElem (by omega)
                        have o := ob _ _ _ _ (by omega) e1 e2
                        try dsimp only at h3 ⊢
                        rw [e1]
                        rw [e2] at h3
                        simp only [byd, if_true, Option.getD_some, decide_eq_true_eq] at h3 ⊢
                        omega
                      · try dsimp only
                        have lo2' : ∀ (i : Nat) y, i < t2 → b[i]? = some y → k y < k a[na - 1] := fun i y h2 hy => by
                          have := lo2 i h2
                          try dsimp only at this
                          rw [hy] at this
                          simpa [byd] using this
                        have hi2' : ∀ (i : Nat) y, t2 ≤ i → i < nb - 1 → b[i]? = some y → k a[na - 1] ≤ k y := fun i y h1 h2 hy => by
                          have := hi2 i h1 h2
                          try dsimp only at this
                          rw [hy] at this
                          simpa [byd] using this
                        have m3 := m2.takeB ob t2 hn2 fun j x h1 h2 hx i y hi hy => by
                          have u1 := hi2' j x h1 h2 hx
                          have u2 := oa i (na - 1) _ _ (by omega) hy ea0
                          omega
                        by_cases q2 : nb - 1 - t2 > 0
                        · rw [if_pos q2]
                          by_cases q4 : (t2 == 1) = true
                          · rw [if_pos q4]
                            exact kasC_pure ⟨rfl, .inl ⟨_, _, rfl, firstB m3 (by simpa using q4), se⟩⟩
                          · rw [if_neg q4]
                            have q4' : ¬ (t2 = 1) := by simpa using q4
                            by_cases q5 : (t2 == 0) = true
                            · rw [if_pos q5]
                              have q5' : t2 = 0 := by simpa using q5
                              exact kasC_pure ⟨rfl, .inl ⟨_, _, rfl, m3.doneA' oa q5', se⟩⟩
                            · rw [if_neg q5]
                              have q5' : ¬ (t2 = 0) := by simpa using q5
                              have ea1 : a[na - 1]? = some a[na - 1] := Array.getElem?_eq_getElem (by omega)
                              refine kasC_bind (elem_ok ea1 ?_)
                              try dsimp only
                              have m4 := m3.pushA oa (by omega) ea1 (fun i y h1 hy => by have := lo2' i y h1 hy; omega)
                              by_cases q3 : (na - 1 == 0) = true
                              · rw [if_pos q3]
                                have q3' : na - 1 = 0 := by simpa using q3
                                exact kasC_pure ⟨rfl, .inl ⟨_, _, rfl, m4.doneB' ob q3', se⟩⟩
                              · rw [if_neg q3]
                                have q3' : ¬ (na - 1 = 0) := by simpa using q3
                                split
                                · exact kasC_pure ⟨rfl, .inr ⟨_, _, _, _, _, _, rfl, se, m4, by omega, by omega, by omega⟩⟩
                                · exact kasC_pure ⟨_, _, _, _, _, _, rfl, se, rfl, m4, by omega, by omega, by omega⟩
                        · rw [if_neg q2]
                          have z : t2 = nb - 1 := by omega
                          have ea1 : a[na - 1]? = some a[na - 1] := Array.getElem?_eq_getElem (by omega)
                          refine kasC_bind (elem_ok ea1 ?_)
                          try dsimp only
                          have m4 := m2.pushA oa (by omega) ea1 (fun i y h1 hy => by have := lo2' i y (by omega) hy; omega)
                          by_cases q3 : (na - 1 == 0) = true
                          · rw [if_pos q3]
                            have q3' : na - 1 = 0 := by simpa using q3
                            exact kasC_pure ⟨rfl, .inl ⟨_, _, rfl, m4.doneB' ob q3', se⟩⟩
                          · rw [if_neg q3]
                            have q3' : ¬ (na - 1 = 0) := by simpa using q3
                            split
                            · exact kasC_pure ⟨rfl, .inr ⟨_, _, _, _, _, _, rfl, se, m4, by omega, by omega, by omega⟩⟩
                            · exact kasC_pure ⟨_, _, _, _, _, _, rfl, se, rfl, m4, by omega, by omega, by omega⟩
            · rintro x' c st' s' hx' ⟨na, nb, out, mg, ac, bc, rfl, se, rfl, m, c3, c4, c6⟩
              omega
            · rintro c st' s' ⟨rfl, ⟨r, rest, rfl, mf, se⟩ | ⟨na, nb, out, mg, ac, bc, rfl, se, m, c3, c4, c6⟩⟩
              · try dsimp only
                exact kasC_pure ⟨r, _, rfl, mf, se, rfl⟩
              · try dsimp only
                exact kasC_bind (kasC_modify (kasC_pure ⟨_, _, _, _, rfl, se, rfl, m, c3, c4, by omega⟩))
      · rintro x c st' s' hx ⟨na, nb, out, mg, rfl, se, rfl, m, c3, c4, c6⟩
        omega
      · rintro c st' s' ⟨r, rest, rfl, mf, se, rfl⟩
        try dsimp only
        exact kasC_pure (h r st' mf se)
end
end L2
namespace L2
open PySem PySem.W PyProof.Rows
theorem back_go {α : Type} (at_ : Nat) : ∀ (l : List α) (j : Nat) (xs : Array α), at_ + j + l.length ≤ xs.size →
    ((l.zipIdx j).foldl (fun (a : Array α) (q : α × Nat) => a.setIfInBounds (at_ + q.2) q.1) xs).toList = xs.toList.take (at_ + j) ++ l ++ xs.toList.drop (at_ + j + l.length)
  | [], j, xs, h => by
    simp [List.take_append_drop]
  | x :: l, j, xs, h => by
    rw [List.zipIdx_cons, List.foldl_cons]
    rw [List.length_cons] at h
    have h2 : at_ + (j + 1) + l.length ≤ (xs.setIfInBounds (at_ + j) x).size := by rw [Array.size_setIfInBounds]; omega
    have ih := back_go at_ l (j + 1) (xs.setIfInBounds (at_ + j) x) h2
    rw [ih, Array.toList_setIfInBounds, List.length_cons]
    have hl : at_ + j < xs.toList.length := by rw [Array.length_toList]; omega
    have e1 : (xs.toList.set (at_ + j) x).take (at_ + (j + 1)) = xs.toList.take (at_ + j) ++ [x] := by
      rw [show at_ + (j + 1) = (at_ + j) + 1 by omega, List.take_add_one, List.take_set_of_le (Nat.le_refl _), List.getElem?_set_self hl]
      rfl
    have e2 : (xs.toList.set (at_ + j) x).drop (at_ + (j + 1) + l.length) = xs.toList.drop (at_ + j + (l.length + 1)) := by
      rw [show at_ + (j + 1) + l.length = at_ + j + (l.length + 1) by omega, List.drop_set_of_lt (by omega)]
    rw [e1, e2]
    simp
theorem back_is {α : Type} {at_ : Nat} {m xs : Array α} (h : at_ + m.size ≤ xs.size) :
    (m.toList.zipIdx.foldl (fun (a : Array α) (q : α × Nat) => a.setIfInBounds (at_ + q.2) q.1) xs).toList = xs.toList.take at_ ++ m.toList ++ xs.toList.drop (at_ + m.size) := by
  have := back_go at_ m.toList 0 xs (by rw [Array.length_toList]; omega)
  rw [Array.length_toList] at this
  simpa using this
end L2
namespace L2
open PySem PySem.W PyProof.Rows
section
variable {prog : Program} {w : World} {A : Around} {E : Value → Shared → Prop} {κ : SortKind} {k : Keyed → Int} {Mem : Keyed → Prop} {s : Shared}
noncomputable def Seg (k : Keyed → Int) (xs : Array Keyed) (lo hi : Nat) : Prop := ∀ (i j : Nat) (x y : Keyed), lo ≤ i → i ≤ j → j < hi → xs[i]? = some x → xs[j]? = some y → k x ≤ k y
theorem kasC_set {M : Model} {A : Around} {E : Value → Shared → Prop} {σ : Type} {st st2 : σ} {s : Shared} {Q : PUnit → σ → Shared → Prop} (h : Q ⟨⟩ st2 s) : kasC M A E (set st2 : StateT σ Sem PUnit) Q st s := by
  unfold kasC; rw [StateT.run_set]; exact wpAny_pure h
theorem seg_all {xs : Array Keyed} (o : Seg k xs 0 xs.size) : xs.toList.Pairwise fun x y => k x ≤ k y := by
  rw [List.pairwise_iff_getElem]
  intro i j hi hj hij
  rw [Array.length_toList] at hi hj
  exact o i j _ _ (Nat.zero_le _) (Nat.le_of_lt hij) hj (by rw [Array.getElem_toList]; exact Array.getElem?_eq_getElem hi) (by rw [Array.getElem_toList]; exact Array.getElem?_eq_getElem hj)
theorem ext_at {xs : Array Keyed} {lo hi i : Nat} {x : Keyed} (h : (xs.extract lo hi)[i]? = some x) : xs[lo + i]? = some x ∧ lo + i < hi := by
  have hl := (Array.getElem?_eq_some_iff.mp h).1
  rw [Array.size_extract] at hl
  rw [Array.getElem?_extract, if_pos (by omega)] at h
  exact ⟨h, by omega⟩
theorem back_sorted {xs m : Array Keyed} {n1 n2 t1 t2 : Nat} (hs : n1 + n2 = xs.size) (ht1 : t1 < n1) (ht2 : t2 ≤ n2) (o1 : Seg k xs 0 n1) (o2 : Seg k xs n1 (n1 + n2))
    (lo1 : ∀ (i : Nat) x y, i < t1 → xs[i]? = some x → xs[n1]? = some y → k x ≤ k y) (hi2 : ∀ (i : Nat) x y, n1 + t2 ≤ i → xs[i]? = some x → xs[n1 - 1]? = some y → k y ≤ k x) (h2 : 0 < n2)
    (mf : MF k (xs.extract t1 n1) (xs.extract n1 (n1 + t2)) m) : m.size = n1 + t2 - t1 ∧ (xs.toList.take t1 ++ m.toList ++ xs.toList.drop (t1 + m.size)).Perm xs.toList ∧ (xs.toList.take t1 ++ m.toList ++ xs.toList.drop (t1 + m.size)).Pairwise fun x y => k x ≤ k y := by
  have hm : m.size = n1 + t2 - t1 := by
    have := mf.1.length_eq
    rw [Array.length_toList, List.length_append, Array.length_toList, Array.length_toList, Array.size_extract, Array.size_extract] at this
    omega
  have ed : t1 + m.size = n1 + t2 := by omega
  have memM : ∀ z, z ∈ m.toList → ∃ i, t1 ≤ i ∧ i < n1 + t2 ∧ xs[i]? = some z := fun z hz => by
    rcases List.mem_append.mp (mf.1.mem_iff.mp hz) with q | q
    · obtain ⟨i, hi, e⟩ := List.getElem_of_mem q
      have e2 : (xs.extract t1 n1)[i]? = some z := by rw [← Array.getElem?_toList, List.getElem?_eq_getElem hi, e]
      obtain ⟨u1, u2⟩ := ext_at e2
      exact ⟨t1 + i, by omega, by omega, u1⟩
    · obtain ⟨i, hi, e⟩ := List.getElem_of_mem q
      have e2 : (xs.extract n1 (n1 + t2))[i]? = some z := by rw [← Array.getElem?_toList, List.getElem?_eq_getElem hi, e]
      obtain ⟨u1, u2⟩ := ext_at e2
      exact ⟨n1 + i, by omega, by omega, u1⟩
  have e1 : xs[n1]? = some xs[n1] := Array.getElem?_eq_getElem (by omega)
  have e0 : xs[n1 - 1]? = some xs[n1 - 1] := Array.getElem?_eq_getElem (by omega)
  have fst : ∀ (i j : Nat) x y, i < t1 → i ≤ j → xs[i]? = some x → xs[j]? = some y → k x ≤ k y := fun i j x y h1 hij hx hy => by
    have hl := (Array.getElem?_eq_some_iff.mp hy).1
    by_cases c : j < n1
    · exact o1 i j x y (Nat.zero_le _) hij c hx hy
    · have u1 := lo1 i x _ h1 hx e1
      have u2 := o2 n1 j _ y (Nat.le_refl _) (by omega) (by omega) e1 hy
      omega
  have lst : ∀ (i j : Nat) x y, n1 + t2 ≤ j → i ≤ j → xs[i]? = some x → xs[j]? = some y → k x ≤ k y := fun i j x y h1 hij hx hy => by
    have hl := (Array.getElem?_eq_some_iff.mp hy).1
    by_cases c : i < n1
    · have u1 := hi2 j y _ h1 hy e0
      have u2 := o1 i (n1 - 1) x _ (Nat.zero_le _) (by omega) (by omega) hx e0
      omega
    · exact o2 i j x y (by omega) hij (by omega) hx hy
  refine ⟨hm, ?_, ?_⟩
  · rw [ed]
    have p : (xs.extract t1 n1).toList ++ (xs.extract n1 (n1 + t2)).toList = (xs.toList.drop t1).take (n1 + t2 - t1) := by
      rw [Array.toList_extract, Array.toList_extract, List.extract_eq_take_drop, List.extract_eq_take_drop]
      have : n1 + t2 - t1 = (n1 - t1) + (n1 + t2 - n1) := by omega
      rw [this, List.take_add, List.drop_drop, show t1 + (n1 - t1) = n1 by omega]
    have q := mf.1
    rw [p] at q
    refine ((List.Perm.append_left _ q).append_right _).trans ?_
    rw [List.append_assoc]
    have d : xs.toList.drop (n1 + t2) = (xs.toList.drop t1).drop (n1 + t2 - t1) := by rw [List.drop_drop, show t1 + (n1 + t2 - t1) = n1 + t2 by omega]
    rw [d, List.take_append_drop, List.take_append_drop]
  · rw [ed, List.append_assoc]
    have hz : xs.toList.length = xs.size := Array.length_toList
    have inT : ∀ z, z ∈ xs.toList.take t1 → ∃ i, i < t1 ∧ xs[i]? = some z := fun z hz => by
      obtain ⟨i, hi, e⟩ := List.getElem_of_mem hz
      rw [List.length_take] at hi
      rw [List.getElem_take] at e
      exact ⟨i, by omega, by rw [← Array.getElem?_toList, List.getElem?_eq_getElem (by omega), e]⟩
    have inD : ∀ z, z ∈ xs.toList.drop (n1 + t2) → ∃ i, n1 + t2 ≤ i ∧ xs[i]? = some z := fun z hz => by
      obtain ⟨i, hi, e⟩ := List.getElem_of_mem hz
      rw [List.length_drop] at hi
      rw [List.getElem_drop] at e
      exact ⟨n1 + t2 + i, by omega, by rw [← Array.getElem?_toList, List.getElem?_eq_getElem (by omega), e]⟩
    refine List.pairwise_append.mpr ⟨?_, List.pairwise_append.mpr ⟨mf.2, ?_, fun x hx y hy => ?_⟩, fun x hx y hy => ?_⟩
    · rw [List.pairwise_iff_getElem]
      intro i j hi hj hij
      rw [List.length_take] at hi hj
      rw [List.getElem_take, List.getElem_take]
      exact fst i j _ _ (by omega) (Nat.le_of_lt hij) (by rw [Array.getElem_toList]; exact Array.getElem?_eq_getElem (by omega)) (by rw [Array.getElem_toList]; exact Array.getElem?_eq_getElem (by omega))
    · rw [List.pairwise_iff_getElem]
      intro i j hi hj hij
      rw [List.length_drop] at hi hj
      rw [List.getElem_drop, List.getElem_drop]
      exact lst (n1 + t2 + i) (n1 + t2 + j) _ _ (by omega) (by omega) (by rw [Array.getElem_toList]; exact Array.getElem?_eq_getElem (by omega)) (by rw [Array.getElem_toList]; exact Array.getElem?_eq_getElem (by omega))
    · obtain ⟨i, _, hi2', ei⟩ := memM x hx
      obtain ⟨j, hj, ej⟩ := inD y hy
      exact lst i j x y hj (by omega) ei ej
    · obtain ⟨i, hi, ei⟩ := inT x hx
      rcases List.mem_append.mp hy with hy | hy
      · obtain ⟨j, hj, _, ej⟩ := memM y hy
        exact fst i j x y hi (by omega) ei ej
      · obtain ⟨j, hj, ej⟩ := inD y hy
        exact fst i j x y hi (by omega) ei ej
end
end L2
namespace L2
open PySem PySem.W PyProof.Rows
section
variable {prog : Program} {w : World} {A : Around} {E : Value → Shared → Prop} {κ : SortKind} {k : Keyed → Int} {Mem : Keyed → Prop} {s : Shared}
theorem mergeAt_ok {st : SortSt} {n1 n2 pw q : Nat} {xs : Array Keyed} {Q : Bool → SortSt → Shared → Prop} (hp : pendingOf st = #[(0, n1, pw), (n1, n2, q)]) (hx : arrOf st = xs) (hκ : PyProof.Rows.kindOf st = κ) (hf : failedOf st = none) (ask : Asks2 prog w A κ k Mem s)
    (mem : ∀ (i : Nat) x, xs[i]? = some x → Mem x) (h1 : 0 < n1) (h2 : 0 < n2) (hs : n1 + n2 = xs.size) (o1 : Seg k xs 0 n1) (o2 : Seg k xs n1 (n1 + n2))
    (h : ∀ st' : SortSt, PyProof.Rows.kindOf st' = κ → failedOf st' = none → (arrOf st').toList.Perm xs.toList → (arrOf st').toList.Pairwise (fun x y => k x ≤ k y) → pendingOf st' = #[(0, n1 + n2, pw)] → Q true st' s) : kasC (model prog w) A E (mergeAt' 0) Q st s := by
  obtain ⟨kd, arr, pend, mg, fl⟩ := st
  obtain rfl : pend = _ := hp
  obtain rfl : arr = _ := hx
  obtain rfl : kd = _ := hκ
  obtain rfl : fl = _ := hf
  have e1 : arr[n1]? = some arr[n1] := Array.getElem?_eq_getElem (by omega)
  have e0 : arr[n1 - 1]? = some arr[n1 - 1] := Array.getElem?_eq_getElem (by omega)
  unfold mergeAt'
  refine kasC_bind (kasC_get ?_)
  try dsimp only
  refine kasC_bind (kasC_set ?_)
  try dsimp only
  have ep : (#[(0, n1, pw), (n1, n2, q)].setIfInBounds 0 (0, n1 + n2, pw)).eraseIdxIfInBounds (0 + 1) = #[(0, n1 + n2, pw)] := by
    apply Array.ext'
    simp
  rw [ep]
  refine kasC_bind (elem_ok e1 (kasC_bind (gallop_ok (g := fun i => (arr[i]?).getD arr[n1]) rfl ask (mem _ _ e1) (fun i hi => ?_) h1 (fun i j u1 u2 u3 => ?_) fun t1 hn1 lo1 hi1 => ?_)))
  · have e : arr[i]? = some arr[i] := Array.getElem?_eq_getElem (by omega)
    rw [Nat.zero_add, e]
    exact ⟨rfl, mem _ _ e⟩
  · have ei : arr[i]? = some arr[i] := Array.getElem?_eq_getElem (by omega)
    have ej : arr[j]? = some arr[j] := Array.getElem?_eq_getElem (by omega)
    have o := o1 _ _ _ _ (Nat.zero_le _) u1 u2 ei ej
    try dsimp only at u3 ⊢
    rw [ei]
    rw [ej] at u3
    simp only [byd, Bool.false_eq_true, if_false, Option.getD_some, Bool.not_eq_true', decide_eq_false_iff_not] at u3 ⊢
    omega
  · try dsimp only
    have lo1' : ∀ (i : Nat) y, i < t1 → arr[i]? = some y → k y ≤ k arr[n1] := fun i y u2 hy => by
      have := lo1 i u2
      try dsimp only at this
      rw [hy] at this
      simpa [byd] using this
    have hi1' : ∀ (i : Nat) y, t1 ≤ i → i < n1 → arr[i]? = some y → k arr[n1] < k y := fun i y u1 u2 hy => by
      have := hi1 i u1 u2
      try dsimp only at this
      rw [hy] at this
      simpa [byd] using this
    by_cases c1 : (n1 - t1 == 0) = true
    · rw [if_pos c1]
      have c1' : n1 - t1 = 0 := by simpa using c1
      refine kasC_pure (h _ rfl rfl (List.Perm.refl _) (seg_all fun i j x y _ hij hj hx hy => ?_) (by rfl))
      have hj' : j < arr.size := hj
      by_cases d1 : j < n1
      · exact o1 i j x y (Nat.zero_le _) hij d1 hx hy
      · by_cases d2 : i < n1
        · have u1 := lo1' i x (by omega) hx
          have u2 := o2 n1 j _ y (Nat.le_refl _) (by omega) (by omega) e1 hy
          omega
        · exact o2 i j x y (by omega) hij (by omega) hx hy
    · rw [if_neg c1]
      have c1' : ¬ (n1 - t1 = 0) := by simpa using c1
      refine kasC_bind (elem_ok (x := arr[n1 - 1]) (by rw [show 0 + t1 + (n1 - t1) - 1 = n1 - 1 by omega]; exact e0) (kasC_bind (gallop_ok (g := fun i => (arr[n1 + i]?).getD arr[n1]) rfl ask (mem _ _ e0) (fun i hi => ?_) (by omega) (fun i j u1 u2 u3 => ?_) fun t2 hn2 lo2 hi2 => ?_)))
      · have e : arr[n1 + i]? = some arr[n1 + i] := Array.getElem?_eq_getElem (by omega)
        rw [e]
        exact ⟨rfl, mem _ _ e⟩
      · have ei : arr[n1 + i]? = some arr[n1 + i] := Array.getElem?_eq_getElem (by omega)
        have ej : arr[n1 + j]? = some arr[n1 + j] := Array.getElem?_eq_getElem (by omega)
        have o := o2 _ _ _ _ (by omega) (by omega) (by omega) ei ej
        try dsimp only at u3 ⊢
        rw [ei]
        rw [ej] at u3
        simp only [byd, if_true, Option.getD_some, decide_eq_true_eq] at u3 ⊢
        omega
      · try dsimp only
        have lo2' : ∀ (i : Nat) y, n1 ≤ i → i < n1 + t2 → arr[i]? = some y → k y < k arr[n1 - 1] := fun i y u1 u2 hy => by
          have := lo2 (i - n1) (by omega)
          try dsimp only at this
          rw [show n1 + (i - n1) = i by omega, hy] at this
          simpa [byd] using this
        have hi2' : ∀ (i : Nat) y, n1 + t2 ≤ i → arr[i]? = some y → k arr[n1 - 1] ≤ k y := fun i y u1 hy => by
          have hl := (Array.getElem?_eq_some_iff.mp hy).1
          have := hi2 (i - n1) (by omega) (by omega)
          try dsimp only at this
          rw [show n1 + (i - n1) = i by omega, hy] at this
          simpa [byd] using this
        have t2p : 0 < t2 := by
          rcases Nat.eq_zero_or_pos t2 with z | z
          · have u1 := hi2' n1 _ (by omega) e1
            have u2 := hi1' (n1 - 1) _ (by omega) (by omega) e0
            omega
          · exact z
        rw [if_neg (by simp; omega)]
        have sx : (arr.extract (0 + t1) n1).size = n1 - t1 := by rw [Array.size_extract]; omega
        have sy : (arr.extract n1 (n1 + t2)).size = t2 := by rw [Array.size_extract]; omega
        have ma : ∀ (i : Nat) x, (arr.extract (0 + t1) n1)[i]? = some x → Mem x := fun i x hx => mem _ _ (ext_at hx).1
        have mb : ∀ (i : Nat) x, (arr.extract n1 (n1 + t2))[i]? = some x → Mem x := fun i x hx => mem _ _ (ext_at hx).1
        have oa : Ord k (arr.extract (0 + t1) n1) := fun i j x y hij hx hy => o1 _ _ x y (Nat.zero_le _) (by omega) (ext_at hy).2 (ext_at hx).1 (ext_at hy).1
        have ob : Ord k (arr.extract n1 (n1 + t2)) := fun i j x y hij hx hy => o2 _ _ x y (by omega) (by omega) (by have := (ext_at hy).2; omega) (ext_at hx).1 (ext_at hy).1
        have f0 : ∀ x y, (arr.extract n1 (n1 + t2))[0]? = some x → (arr.extract (0 + t1) n1)[0]? = some y → k x ≤ k y := fun x y hx hy => by
          have ex := (ext_at hx).1
          rw [Nat.add_zero, e1] at ex
          cases ex
          have := hi1' _ y (by omega) (ext_at hy).2 (ext_at hy).1
          omega
        have fl : ∀ (j : Nat) x y, (arr.extract n1 (n1 + t2))[j]? = some x → (arr.extract (0 + t1) n1)[(arr.extract (0 + t1) n1).size - 1]? = some y → k x ≤ k y := fun j x y hx hy => by
          rw [sx] at hy
          have ey := (ext_at hy).1
          rw [show 0 + t1 + (n1 - t1 - 1) = n1 - 1 by omega, e0] at ey
          cases ey
          have := lo2' _ x (by omega) (ext_at hx).2 (ext_at hx).1
          omega
        have fin : ∀ (m : Array Keyed) (st' : SortSt), MF k (arr.extract (0 + t1) n1) (arr.extract n1 (n1 + t2)) m → (arrOf st').toList = arr.toList.take t1 ++ m.toList ++ arr.toList.drop (t1 + m.size) → PyProof.Rows.kindOf st' = kd → failedOf st' = none → pendingOf st' = #[(0, n1 + n2, pw)] → Q true st' s := fun m st' mf ea z1 z2 z3 => by
          rw [Nat.zero_add] at mf
          obtain ⟨r1, r2, r3⟩ := back_sorted hs (by omega) hn2 o1 o2 (fun i x y hi hx hy => by rw [e1] at hy; cases hy; exact lo1' i x hi hx) (fun i x y hi hx hy => by rw [e0] at hy; cases hy; exact hi2' i x hi hx) h2 mf
          exact h st' z1 z2 (by rw [ea]; exact r2) (by rw [ea]; exact r3) z3
        have hm : ∀ m, MF k (arr.extract (0 + t1) n1) (arr.extract n1 (n1 + t2)) m → 0 + t1 + m.size ≤ arr.size := fun m mf => by
          have := mf.1.length_eq
          rw [Array.length_toList, List.length_append, Array.length_toList, Array.length_toList, sx, sy] at this
          omega
        split
        · refine kasC_bind (mergeLo_ok rfl ask ma mb oa ob (by omega) (by omega) f0 fl fun m st' mf se => ?_)
          obtain ⟨kd', arr', pend', mg', fl'⟩ := st'
          obtain ⟨z1, z2, z3, z4⟩ := se
          obtain rfl : kd' = _ := z1
          obtain rfl : arr' = _ := z2
          obtain rfl : pend' = _ := z3
          obtain rfl : fl' = none := z4
          refine kasC_bind (kasC_modify (kasC_bind (kasC_get (kasC_pure ?_))))
          refine fin m _ mf ?_ rfl rfl rfl
          have b := back_is (at_ := 0 + t1) (m := m) (xs := arr') (hm m mf)
          exact b.trans (by rw [Nat.zero_add])
        · refine kasC_bind (mergeHi_ok rfl ask ma mb oa ob (by omega) (by omega) f0 fl fun m st' mf se => ?_)
          obtain ⟨kd', arr', pend', mg', fl'⟩ := st'
          obtain ⟨z1, z2, z3, z4⟩ := se
          obtain rfl : kd' = _ := z1
          obtain rfl : arr' = _ := z2
          obtain rfl : pend' = _ := z3
          obtain rfl : fl' = none := z4
          refine kasC_bind (kasC_modify (kasC_bind (kasC_get (kasC_pure ?_))))
          refine fin m _ mf ?_ rfl rfl rfl
          have b := back_is (at_ := 0 + t1) (m := m) (xs := arr') (hm m mf)
          exact b.trans (by rw [Nat.zero_add])
end
end L2
namespace L2
open PySem PySem.W PyProof.Rows
section
variable {k : Keyed → Int}
noncomputable def KI (k : Keyed → Int) (xs : Array Keyed) (i : Nat) : Int := match xs[i]? with
  | some p => k p
  | none => 0
theorem KI_at {xs : Array Keyed} {i : Nat} {p : Keyed} (h : xs[i]? = some p) : KI k xs i = k p := by unfold KI; rw [h]
theorem KI_congr {xs ys : Array Keyed} {i j : Nat} (h : xs[i]? = ys[j]?) : KI k xs i = KI k ys j := by unfold KI; rw [h]
theorem KI_bubble {xs : Array Keyed} {src d : Nat} (hs : src < xs.size) (hd : d ≤ src) (x : Nat) :
    KI k (bubble xs src d) x = if x = src - d then KI k xs src else if src - d < x ∧ x ≤ src then KI k xs (x - 1) else KI k xs x := by
  have e := getElem?_bubble hs d hd x
  by_cases h1 : x = src - d
  · rw [if_pos h1] at e ⊢; exact KI_congr e
  · rw [if_neg h1] at e ⊢
    by_cases h2 : src - d < x ∧ x ≤ src
    · rw [if_pos h2] at e ⊢; exact KI_congr e
    · rw [if_neg h2] at e ⊢; exact KI_congr e
theorem KI_mirror {xs : Array Keyed} {i j : Nat} (hj : j ≤ xs.size) (x : Nat) :
    KI k (mirror xs i j ((j - i) / 2)) x = if i ≤ x ∧ x < j then KI k xs (i + j - 1 - x) else KI k xs x := by
  have e := getElem?_mirror_all (i := i) hj x
  by_cases h1 : i ≤ x ∧ x < j
  · rw [if_pos h1] at e ⊢; exact KI_congr e
  · rw [if_neg h1] at e ⊢; exact KI_congr e
theorem KI_same {xs : Array Keyed} {i j : Nat} (hj : j ≤ xs.size) (heq : ∀ x, i ≤ x → x < j → KI k xs x = KI k xs (j - 1)) (x : Nat) :
    KI k (mirror xs i j ((j - i) / 2)) x = KI k xs x := by
  rw [KI_mirror hj]
  split
  · rw [heq _ (by omega) (by omega), heq x (by omega) (by omega)]
  · rfl
noncomputable def UpK (k : Keyed → Int) (xs : Array Keyed) (lo hi : Nat) : Prop := ∀ i j, lo ≤ i → i ≤ j → j < hi → KI k xs i ≤ KI k xs j
noncomputable def Down (k : Keyed → Int) (xs : Array Keyed) (lo hi : Nat) : Prop := ∀ i j, lo ≤ i → i ≤ j → j < hi → KI k xs j ≤ KI k xs i
theorem UpK.seg {xs : Array Keyed} {lo hi : Nat} (h : UpK k xs lo hi) : Seg k xs lo hi := fun i j x y h1 h2 h3 ex ey => by
  have := h i j h1 h2 h3
  rwa [KI_at ex, KI_at ey] at this
end
structure SB (κ : SortKind) (a₀ : Array Keyed) (pd : Array (Nat × Nat × Nat)) (lo hi : Nat) (st : SortSt) : Prop where
  perm : (arrOf st).Perm a₀
  kind : PyProof.Rows.kindOf st = κ
  failed : failedOf st = none
  pend : pendingOf st = pd
  out : ∀ i : Nat, i < lo ∨ hi ≤ i → (arrOf st)[i]? = a₀[i]?
section
variable {prog : Program} {w : World} {A : Around} {E : Value → Shared → Prop} {κ : SortKind} {k : Keyed → Int} {Mem : Keyed → Prop} {s : Shared} {a₀ : Array Keyed} {pd : Array (Nat × Nat × Nat)} {lo hi : Nat} {st : SortSt}
theorem SB.size (h : SB κ a₀ pd lo hi st) : (arrOf st).size = a₀.size := h.perm.size_eq
theorem SB.at (h : SB κ a₀ pd lo hi st) (mem : ∀ p ∈ a₀.toList, Mem p) {i : Nat} (hi : i < a₀.size) : ∃ p, (arrOf st)[i]? = some p ∧ Mem p := by
  have hi' : i < (arrOf st).size := by rw [h.size]; exact hi
  exact ⟨(arrOf st)[i], getElem?_pos _ i hi', mem _ ((Array.perm_iff_toList_perm.mp h.perm).mem_iff.mp (by simp))⟩
theorem SB.mirror (h : SB κ a₀ pd lo hi st) {i j : Nat} (h1 : lo ≤ i) (h2 : j ≤ hi) (hj : j ≤ a₀.size) : SB κ a₀ pd lo hi (setArr st (mirror (arrOf st) i j ((j - i) / 2))) :=
  ⟨(mirror_perm _ _ _ _).trans h.perm, h.kind, h.failed, h.pend, fun x hx => by
    show (PyProof.Rows.mirror (arrOf st) i j ((j - i) / 2))[x]? = _
    rw [getElem?_mirror_all (by rw [h.size]; exact hj), if_neg (by omega)]
    exact h.out x hx⟩
theorem SB.bubble (h : SB κ a₀ pd lo hi st) {src d : Nat} (hd : d ≤ src) (h1 : lo ≤ src - d) (h2 : src < hi) (hs : src < a₀.size) : SB κ a₀ pd lo hi (setArr st (bubble (arrOf st) src d)) :=
  ⟨(bubble_perm _ _ _).trans h.perm, h.kind, h.failed, h.pend, fun x hx => by
    show (PyProof.Rows.bubble (arrOf st) src d)[x]? = _
    rw [getElem?_bubble (by rw [h.size]; exact hs) d hd, if_neg (by omega), if_neg (by omega)]
    exact h.out x hx⟩
theorem ltat_ok {i j : Nat} {Q : Option Bool → SortSt → Shared → Prop} (hB : SB κ a₀ pd lo hi st) (mem : ∀ p ∈ a₀.toList, Mem p) (ask : Asks2 prog w A κ k Mem s) (hi' : i < a₀.size) (hj : j < a₀.size)
    (h : Q (some (decide (KI k (arrOf st) i < KI k (arrOf st) j))) st s) : kasC (model prog w) A E (ltAt' i j) Q st s := by
  obtain ⟨p, e1, m1⟩ := hB.at mem hi'
  obtain ⟨q, e2, m2⟩ := hB.at mem hj
  rw [ltAt'_eq]
  rw [KI_at e1, KI_at e2] at h
  exact kasC_bind (kasC_get (kasC_bind (elem_ok e1 (kasC_bind (elem_ok e2 (lt_ok hB.kind ask m1 m2 h))))))
theorem rev_ok {i j : Nat} {Q : Unit → SortSt → Shared → Prop} (h : Q () (setArr st (mirror (arrOf st) i j ((j - i) / 2))) s) : kasC (model prog w) A E (reverseSlice' i j) Q st s := by
  rw [reverseSlice'_eq]; exact kasC_modify h
end
noncomputable def ascL (lo a nrem : Nat) : StateT SortSt Sem AscSt :=
  forIn [a:nrem] ((none, a) : AscSt) fun _ __s => do
    let __x ← ltAt' (lo + __s.snd) (lo + __s.snd - 1)
    match __x with
    | some smaller => if smaller = true then pure (ForInStep.done (none, __s.snd)) else pure (ForInStep.yield (none, __s.snd + 1))
    | _ => pure (ForInStep.done (some none, __s.snd))
noncomputable def tailL (lo n nrem : Nat) : StateT SortSt Sem (Option Nat) := do
  reverseSlice' lo (lo + n)
  let __s ← ascL lo n nrem
  match __s.fst with
  | some r => pure r
  | none => pure (some __s.snd)
noncomputable def descL (lo n nrem : Nat) : StateT SortSt Sem DescSt :=
  forIn [n:nrem] ((none, n, 0) : DescSt) fun _ __s => do
    let __x ← ltAt' (lo + __s.snd.fst) (lo + __s.snd.fst - 1)
    match __x with
    | some smaller =>
      if smaller = true then
        if __s.snd.snd > 0 then do
          reverseSlice' (lo + __s.snd.fst - (__s.snd.snd + 1)) (lo + __s.snd.fst)
          pure (ForInStep.yield (none, __s.snd.fst + 1, 0))
        else pure (ForInStep.yield (none, __s.snd.fst + 1, 0))
      else do
        let __x ← ltAt' (lo + __s.snd.fst - 1) (lo + __s.snd.fst)
        match __x with
        | some larger =>
          if larger = true then pure (ForInStep.done (none, __s.snd.fst, __s.snd.snd))
          else pure (ForInStep.yield (none, __s.snd.fst + 1, __s.snd.snd + 1))
        | _ => pure (ForInStep.done (some none, __s.snd.fst, __s.snd.snd))
    | _ => pure (ForInStep.done (some none, __s.snd.fst, __s.snd.snd))
noncomputable def dpL (lo n nrem : Nat) : StateT SortSt Sem (Option Nat) := do
  liftM (rule "list.sort.descending-run")
  let __s ← descL lo (n + 1) nrem
  match __s.fst with
  | some r => pure r
  | none =>
    if __s.snd.snd > 0 then do
      reverseSlice' (lo + __s.snd.fst - (__s.snd.snd + 1)) (lo + __s.snd.fst)
      tailL lo __s.snd.fst nrem
    else tailL lo __s.snd.fst nrem
theorem runL_eq (lo nrem : Nat) : countRun' lo nrem = (do
    let __s ← ascL lo 1 nrem
    match __s.fst with
    | some r => pure r
    | none =>
      if (__s.snd == nrem) = true then pure (some __s.snd)
      else if __s.snd > 1 then do
        let __x ← ltAt' lo (lo + __s.snd - 1)
        match __x with
        | some rose => if rose = true then pure (some __s.snd) else do
            reverseSlice' lo (lo + __s.snd)
            dpL lo __s.snd nrem
        | _ => pure none
      else dpL lo __s.snd nrem) := by
  rw [countRun'_eq]
  dsimp only
  unfold dpL tailL descL ascL
  congr 1
  funext __s
  obtain ⟨r, n⟩ := __s
  cases r with
  | some r => rfl
  | none =>
    dsimp only
    split
    · rfl
    · split
      · congr 1
        funext x
        cases x with
        | none => rfl
        | some rose =>
          dsimp only
          split
          · rfl
          · congr 1
            funext _r
            congr 1; funext _u; congr 1; congr 1; funext s2; obtain ⟨r2, n2, q2⟩ := s2
            cases r2 with
            | some r2 => rfl
            | none =>
              dsimp only; split
              · congr 1; funext _v; congr 1; funext _w; congr 1; funext s3; obtain ⟨r3, n3⟩ := s3; cases r3 <;> rfl
              · congr 1; funext _w; congr 1; funext s3; obtain ⟨r3, n3⟩ := s3; cases r3 <;> rfl
      · congr 1; funext _u; congr 1; congr 1; funext s2; obtain ⟨r2, n2, q2⟩ := s2
        cases r2 with
        | some r2 => rfl
        | none =>
          dsimp only; split
          · congr 1; funext _v; congr 1; funext _w; congr 1; funext s3; obtain ⟨r3, n3⟩ := s3; cases r3 <;> rfl
          · congr 1; funext _w; congr 1; funext s3; obtain ⟨r3, n3⟩ := s3; cases r3 <;> rfl
end L2
namespace L2
open PySem PySem.W PyProof.Rows
section
variable {prog : Program} {w : World} {A : Around} {E : Value → Shared → Prop} {κ : SortKind} {k : Keyed → Int} {Mem : Keyed → Prop} {s : Shared} {a₀ : Array Keyed} {pd : Array (Nat × Nat × Nat)} {lo hi : Nat} {st : SortSt}
theorem ascL_ok {a nrem : Nat} {Q : AscSt → SortSt → Shared → Prop} (mem : ∀ p ∈ a₀.toList, Mem p) (ask : Asks2 prog w A κ k Mem s) (hn : lo + nrem ≤ a₀.size) (ha : 1 ≤ a) (han : a ≤ nrem) (hB : SB κ a₀ pd lo hi st)
    (hs : UpK k (arrOf st) lo (lo + a)) (h : ∀ n, a ≤ n → n ≤ nrem → UpK k (arrOf st) lo (lo + n) → (n = nrem ∨ KI k (arrOf st) (lo + n) < KI k (arrOf st) (lo + n - 1)) → Q (none, n) st s) : kasC (model prog w) A E (ascL lo a nrem) Q st s := by
  unfold ascL
  refine kasC_loop (fun x c st' s' => st' = st ∧ s' = s ∧ c = (none, x) ∧ x ≤ nrem ∧ UpK k (arrOf st) lo (lo + x)) ?_ ?_ ⟨rfl, rfl, rfl, han, hs⟩
  · intro x c st' s' hax hxn ⟨e1, e2, e3, hx, hs'⟩
    subst e1; subst e2; subst e3
    dsimp only
    refine kasC_bind (ltat_ok hB mem ask (by omega) (by omega) ?_)
    by_cases hless : KI k (arrOf st') (lo + x) < KI k (arrOf st') (lo + x - 1)
    · simp only [hless, decide_true, if_true]
      exact kasC_pure (h x hax hx hs' (.inr hless))
    · simp only [hless, decide_false, Bool.false_eq_true, if_false]
      refine kasC_pure ⟨rfl, rfl, rfl, by omega, fun i j h1 hij hj => ?_⟩
      by_cases hjx : j < lo + x
      · exact hs' i j h1 hij hjx
      · have hj' : j = lo + x := by omega
        subst hj'
        by_cases hi' : i = lo + x
        · subst hi'; exact Int.le_refl _
        · exact Int.le_trans (hs' i (lo + x - 1) h1 (by omega) (by omega)) (Int.not_lt.mp hless)
  · intro x c st' s' hx ⟨e1, e2, e3, hx', hs'⟩
    subst e1; subst e2; subst e3
    have : x = nrem := by omega
    subst this
    exact h x han (Nat.le_refl _) hs' (.inl rfl)
theorem tailL_ok {n nrem : Nat} {Q : Option Nat → SortSt → Shared → Prop} (mem : ∀ p ∈ a₀.toList, Mem p) (ask : Asks2 prog w A κ k Mem s) (hn : lo + nrem ≤ a₀.size) (hh : lo + nrem ≤ hi) (h1 : 1 ≤ n) (hnn : n ≤ nrem) (hB : SB κ a₀ pd lo hi st)
    (hs : Down k (arrOf st) lo (lo + n)) (h : ∀ m st', SB κ a₀ pd lo hi st' → 1 ≤ m → m ≤ nrem → UpK k (arrOf st') lo (lo + m) → Q (some m) st' s) : kasC (model prog w) A E (tailL lo n nrem) Q st s := by
  unfold tailL
  have hsz : lo + n ≤ (arrOf st).size := by rw [hB.size]; omega
  have hB' := hB.mirror (i := lo) (j := lo + n) (Nat.le_refl _) (by omega) (by omega)
  refine kasC_bind (rev_ok (kasC_bind (ascL_ok mem ask hn h1 hnn hB' (fun i j hi' hij hj => ?_) fun m hm1 hm2 hsm _ => kasC_pure (h m _ hB' (by omega) hm2 hsm))))
  show KI k (PyProof.Rows.mirror (arrOf st) lo (lo + n) ((lo + n - lo) / 2)) i ≤ KI k (PyProof.Rows.mirror (arrOf st) lo (lo + n) ((lo + n - lo) / 2)) j
  rw [KI_mirror hsz, KI_mirror hsz, if_pos (by omega), if_pos (by omega)]
  exact hs _ _ (by omega) (by omega) (by omega)
theorem Down.more {xs : Array Keyed} {x : Nat} (h : Down k xs lo (lo + x)) (hx : 1 ≤ x) (hl : KI k xs (lo + x) ≤ KI k xs (lo + x - 1)) : Down k xs lo (lo + (x + 1)) := fun i j h1 hij hj => by
  by_cases hjx : j < lo + x
  · exact h i j h1 hij hjx
  · have hj' : j = lo + x := by omega
    subst hj'
    by_cases hi' : i = lo + x
    · subst hi'; exact Int.le_refl _
    · exact Int.le_trans hl (h i (lo + x - 1) h1 (by omega) (by omega))
theorem descL_ok {n nrem : Nat} {Q : DescSt → SortSt → Shared → Prop} (mem : ∀ p ∈ a₀.toList, Mem p) (ask : Asks2 prog w A κ k Mem s) (hn : lo + nrem ≤ a₀.size) (hh : lo + nrem ≤ hi) (h1 : 1 ≤ n) (hnn : n ≤ nrem) (hB : SB κ a₀ pd lo hi st)
    (hs : Down k (arrOf st) lo (lo + n))
    (h : ∀ m neq st', SB κ a₀ pd lo hi st' → n ≤ m → m ≤ nrem → Down k (arrOf st') lo (lo + m) → neq + 1 ≤ m → (∀ i, lo + m - (neq + 1) ≤ i → i < lo + m → KI k (arrOf st') i = KI k (arrOf st') (lo + m - 1)) → Q (none, m, neq) st' s) :
    kasC (model prog w) A E (descL lo n nrem) Q st s := by
  unfold descL
  refine kasC_loop (fun x c st' s' => s' = s ∧ ∃ neq, c = (none, x, neq) ∧ x ≤ nrem ∧ SB κ a₀ pd lo hi st' ∧ Down k (arrOf st') lo (lo + x) ∧ neq + 1 ≤ x ∧ (∀ i, lo + x - (neq + 1) ≤ i → i < lo + x → KI k (arrOf st') i = KI k (arrOf st') (lo + x - 1))) ?_ ?_ ⟨rfl, 0, rfl, hnn, hB, hs, by omega, fun i a b => by congr 1; omega⟩
  · intro x c st' s' hax hxn ⟨e2, neq, e3, hx, hB', hs', hq, he⟩
    subst e2; subst e3
    dsimp only
    refine kasC_bind (ltat_ok hB' mem ask (by omega) (by omega) ?_)
    have hsz : lo + x ≤ (arrOf st').size := by rw [hB'.size]; omega
    by_cases hless : KI k (arrOf st') (lo + x) < KI k (arrOf st') (lo + x - 1)
    · simp only [hless, decide_true, if_true]
      by_cases hq0 : neq > 0
      · rw [if_pos hq0]
        have hB2 := hB'.mirror (i := lo + x - (neq + 1)) (j := lo + x) (by omega) (by omega) (by omega)
        have same : ∀ i, KI k (PyProof.Rows.mirror (arrOf st') (lo + x - (neq + 1)) (lo + x) ((lo + x - (lo + x - (neq + 1))) / 2)) i = KI k (arrOf st') i := KI_same hsz he
        refine kasC_bind (rev_ok (kasC_pure ⟨rfl, 0, rfl, by omega, hB2, ?_, by omega, fun i a b => by congr 1; omega⟩))
        refine Down.more (fun i j a b c => ?_) (by omega) ?_
        · show KI k (PyProof.Rows.mirror (arrOf st') (lo + x - (neq + 1)) (lo + x) ((lo + x - (lo + x - (neq + 1))) / 2)) j ≤ KI k (PyProof.Rows.mirror (arrOf st') (lo + x - (neq + 1)) (lo + x) ((lo + x - (lo + x - (neq + 1))) / 2)) i
          rw [same, same]; exact hs' i j a b c
        · show KI k (PyProof.Rows.mirror (arrOf st') (lo + x - (neq + 1)) (lo + x) ((lo + x - (lo + x - (neq + 1))) / 2)) (lo + x) ≤ KI k (PyProof.Rows.mirror (arrOf st') (lo + x - (neq + 1)) (lo + x) ((lo + x - (lo + x - (neq + 1))) / 2)) (lo + x - 1)
          rw [same, same]; exact Int.le_of_lt hless
      · rw [if_neg hq0]
        exact kasC_pure ⟨rfl, 0, rfl, by omega, hB', hs'.more (by omega) (Int.le_of_lt hless), by omega, fun i a b => by congr 1; omega⟩
    · simp only [hless, decide_false, Bool.false_eq_true, if_false]
      refine kasC_bind (ltat_ok hB' mem ask (by omega) (by omega) ?_)
      by_cases hlarge : KI k (arrOf st') (lo + x - 1) < KI k (arrOf st') (lo + x)
      · simp only [hlarge, decide_true, if_true]
        exact kasC_pure (h x neq st' hB' hax hx hs' hq he)
      · simp only [hlarge, decide_false, Bool.false_eq_true, if_false]
        have eq : KI k (arrOf st') (lo + x) = KI k (arrOf st') (lo + x - 1) := by omega
        refine kasC_pure ⟨rfl, neq + 1, rfl, by omega, hB', hs'.more (by omega) (by omega), by omega, fun i a b => ?_⟩
        rw [show lo + (x + 1) - 1 = lo + x from by omega]
        by_cases ci : i = lo + x
        · rw [ci]
        · rw [eq]; exact he i (by omega) (by omega)
  · intro x c st' s' hx ⟨e2, neq, e3, hx', hB', hs', hq, he⟩
    subst e2; subst e3
    have : x = nrem := by omega
    subst this
    exact h x neq st' hB' hnn (Nat.le_refl _) hs' hq he
theorem dpL_ok {n nrem : Nat} {Q : Option Nat → SortSt → Shared → Prop} (mem : ∀ p ∈ a₀.toList, Mem p) (ask : Asks2 prog w A κ k Mem s) (hn : lo + nrem ≤ a₀.size) (hh : lo + nrem ≤ hi) (hnn : n + 1 ≤ nrem) (hB : SB κ a₀ pd lo hi st)
    (hs : Down k (arrOf st) lo (lo + (n + 1))) (h : ∀ m st', SB κ a₀ pd lo hi st' → 1 ≤ m → m ≤ nrem → UpK k (arrOf st') lo (lo + m) → Q (some m) st' s) : kasC (model prog w) A E (dpL lo n nrem) Q st s := by
  unfold dpL
  refine kasC_bind (kasC_lift (wpAny_rule ?_))
  refine kasC_bind (descL_ok mem ask hn hh (by omega) hnn hB hs fun m neq st' hB' h1 h2 hs' hq he => ?_)
  dsimp only
  by_cases hq0 : neq > 0
  · rw [if_pos hq0]
    have hsz : lo + m ≤ (arrOf st').size := by rw [hB'.size]; omega
    have hB2 := hB'.mirror (i := lo + m - (neq + 1)) (j := lo + m) (by omega) (by omega) (by omega)
    refine kasC_bind (rev_ok (tailL_ok mem ask hn hh (by omega) h2 hB2 (fun i j a b c => ?_) h))
    show KI k (PyProof.Rows.mirror (arrOf st') (lo + m - (neq + 1)) (lo + m) ((lo + m - (lo + m - (neq + 1))) / 2)) j ≤ KI k (PyProof.Rows.mirror (arrOf st') (lo + m - (neq + 1)) (lo + m) ((lo + m - (lo + m - (neq + 1))) / 2)) i
    rw [KI_same hsz he, KI_same hsz he]; exact hs' i j a b c
  · rw [if_neg hq0]
    exact tailL_ok mem ask hn hh (by omega) h2 hB' hs' h
theorem runL_ok {nrem : Nat} {Q : Option Nat → SortSt → Shared → Prop} (mem : ∀ p ∈ a₀.toList, Mem p) (ask : Asks2 prog w A κ k Mem s) (hn : lo + nrem ≤ a₀.size) (hh : lo + nrem ≤ hi) (h1 : 1 ≤ nrem) (hB : SB κ a₀ pd lo hi st)
    (h : ∀ m st', SB κ a₀ pd lo hi st' → 1 ≤ m → m ≤ nrem → UpK k (arrOf st') lo (lo + m) → Q (some m) st' s) : kasC (model prog w) A E (countRun' lo nrem) Q st s := by
  rw [runL_eq]
  have up1 : UpK k (arrOf st) lo (lo + 1) := fun i j a b c => by
    have : i = j := by omega
    subst this; exact Int.le_refl _
  refine kasC_bind (ascL_ok mem ask hn (Nat.le_refl _) h1 hB up1 fun n hn1 hn2 hs hor => ?_)
  dsimp only
  by_cases c1 : (n == nrem) = true
  · rw [if_pos c1]
    exact kasC_pure (h n st hB hn1 hn2 hs)
  · rw [if_neg c1]
    have c1' : n ≠ nrem := by simpa using c1
    have hless : KI k (arrOf st) (lo + n) < KI k (arrOf st) (lo + n - 1) := by rcases hor with q | q; exact absurd q c1'; exact q
    by_cases c2 : n > 1
    · rw [if_pos c2]
      refine kasC_bind (ltat_ok hB mem ask (by omega) (by omega) ?_)
      by_cases hrose : KI k (arrOf st) lo < KI k (arrOf st) (lo + n - 1)
      · simp only [hrose, decide_true, if_true]
        exact kasC_pure (h n st hB hn1 hn2 hs)
      · simp only [hrose, decide_false, Bool.false_eq_true, if_false]
        have hsz : lo + n ≤ (arrOf st).size := by rw [hB.size]; omega
        have hB2 := hB.mirror (i := lo) (j := lo + n) (Nat.le_refl _) (by omega) (by omega)
        have all : ∀ x, lo ≤ x → x < lo + n → KI k (arrOf st) x = KI k (arrOf st) (lo + n - 1) := fun x a b => by
          have u1 := hs lo x (Nat.le_refl _) a b
          have u2 := hs x (lo + n - 1) a (by omega) (by omega)
          omega
        have same : ∀ x, KI k (PyProof.Rows.mirror (arrOf st) lo (lo + n) ((lo + n - lo) / 2)) x = KI k (arrOf st) x := KI_same hsz all
        refine kasC_bind (rev_ok (dpL_ok mem ask hn hh (by omega) hB2 (Down.more (fun i j a b c => ?_) (by omega) ?_) h))
        · show KI k (PyProof.Rows.mirror (arrOf st) lo (lo + n) ((lo + n - lo) / 2)) j ≤ KI k (PyProof.Rows.mirror (arrOf st) lo (lo + n) ((lo + n - lo) / 2)) i
          rw [same, same, all i (by omega) (by omega), all j (by omega) c]; exact Int.le_refl _
        · show KI k (PyProof.Rows.mirror (arrOf st) lo (lo + n) ((lo + n - lo) / 2)) (lo + n) ≤ KI k (PyProof.Rows.mirror (arrOf st) lo (lo + n) ((lo + n - lo) / 2)) (lo + n - 1)
          rw [same, same]; exact Int.le_of_lt hless
    · rw [if_neg c2]
      have : n = 1 := by omega
      subst this
      refine dpL_ok mem ask hn hh (by omega) hB (Down.more (fun i j a b c => ?_) (by omega) (Int.le_of_lt hless)) h
      have : i = j := by omega
      subst this; exact Int.le_refl _
theorem binL_ok {n ok : Nat} {Q : Bool → SortSt → Shared → Prop} (mem : ∀ p ∈ a₀.toList, Mem p) (ask : Asks2 prog w A κ k Mem s) (hn : lo + n ≤ a₀.size) (hh : lo + n ≤ hi) (h0 : 1 ≤ ok) (hok : ok ≤ n) (hB : SB κ a₀ pd lo hi st)
    (hs : UpK k (arrOf st) lo (lo + ok)) (h : ∀ st', SB κ a₀ pd lo hi st' → UpK k (arrOf st') lo (lo + n) → Q true st' s) : kasC (model prog w) A E (binarySort' lo n ok) Q st s := by
  rw [binarySort'_eq]
  refine kasC_bind (kasC_loop (fun x c st' s' => s' = s ∧ c = (none, ()) ∧ x ≤ n ∧ 1 ≤ x ∧ SB κ a₀ pd lo hi st' ∧ UpK k (arrOf st') lo (lo + x)) ?_ ?_ ⟨rfl, rfl, by omega, by omega, hB, by rw [show max ok 1 = ok from by omega]; exact hs⟩)
  · intro x c st' s' hax hxn ⟨e2, e3, hx, hx1, hB', hs'⟩
    subst e2; subst e3
    have fin : ∀ l, l ≤ x → (∀ i, lo ≤ i → i < lo + l → KI k (arrOf st') i ≤ KI k (arrOf st') (lo + x)) → (∀ i, lo + l ≤ i → i < lo + x → KI k (arrOf st') (lo + x) < KI k (arrOf st') i) →
        kasC (model prog w) A E (do moveDown' (lo + x) (lo + l); pure (ForInStep.yield ((none, ()) : Option Bool × Unit))) (fun r st'' s'' => match r with
          | .done c' => (match c'.fst with | some r => kasC (model prog w) A E (pure r : StateT SortSt Sem Bool) Q st'' s'' | none => kasC (model prog w) A E (pure true : StateT SortSt Sem Bool) Q st'' s'')
          | .yield c' => s'' = s' ∧ c' = (none, ()) ∧ x + 1 ≤ n ∧ 1 ≤ x + 1 ∧ SB κ a₀ pd lo hi st'' ∧ UpK k (arrOf st'') lo (lo + (x + 1))) st' s' := fun l hl hlo hhi => by
      rw [moveDown'_eq]
      have hks : lo + x < (arrOf st').size := by rw [hB'.size]; omega
      have ed : lo + x - (lo + l) = x - l := by omega
      refine kasC_bind (kasC_modify (kasC_pure ⟨rfl, rfl, by omega, by omega, hB'.bubble (by omega) (by omega) (by omega) (by omega), fun i j a b c => ?_⟩))
      show KI k (PyProof.Rows.bubble (arrOf st') (lo + x) (lo + x - (lo + l))) i ≤ KI k (PyProof.Rows.bubble (arrOf st') (lo + x) (lo + x - (lo + l))) j
      rw [KI_bubble hks (by omega), KI_bubble hks (by omega), show lo + x - (lo + x - (lo + l)) = lo + l by omega]
      repeat' split
      all_goals first
        | (exfalso; omega)
        | exact Int.le_refl _
        | exact hlo _ (by omega) (by omega)
        | exact Int.le_of_lt (hhi _ (by omega) (by omega))
        | exact hs' _ _ (by omega) (by omega) (by omega)
    refine kasC_bind (kasC_loop (fun y c st'' s'' => st'' = st' ∧ s'' = s' ∧ ∃ l r, c = (none, l, r) ∧ l ≤ r ∧ r ≤ x ∧ r - l ≤ x - y ∧ (∀ i, lo ≤ i → i < lo + l → KI k (arrOf st') i ≤ KI k (arrOf st') (lo + x)) ∧ (∀ i, lo + r ≤ i → i < lo + x → KI k (arrOf st') (lo + x) < KI k (arrOf st') i)) ?_ ?_ ⟨rfl, rfl, 0, x, rfl, by omega, by omega, by omega, fun i a b => by omega, fun i a b => by omega⟩)
    · intro y c st'' s'' _ hyx ⟨e1, e2, l, r, e3, hlr, hrx, hm, hlo, hhi⟩
      subst e1; subst e2; subst e3
      dsimp only
      by_cases hge : l ≥ r
      · rw [if_pos hge]
        have : l = r := by omega
        subst this
        refine kasC_pure ?_
        exact fin l (by omega) hlo hhi
      · rw [if_neg hge]
        refine kasC_bind (ltat_ok hB' mem ask (by omega) (by omega) ?_)
        by_cases hless : KI k (arrOf st'') (lo + x) < KI k (arrOf st'') (lo + (l + r) / 2)
        · simp only [hless, decide_true, if_true]
          refine kasC_pure ⟨rfl, rfl, l, (l + r) / 2, rfl, by omega, by omega, by omega, hlo, fun i a b => ?_⟩
          exact Int.lt_of_lt_of_le hless (hs' _ _ (by omega) a b)
        · simp only [hless, decide_false, Bool.false_eq_true, if_false]
          refine kasC_pure ⟨rfl, rfl, (l + r) / 2 + 1, r, rfl, by omega, by omega, by omega, fun i a b => ?_, hhi⟩
          exact Int.le_trans (hs' i (lo + (l + r) / 2) a (by omega) (by omega)) (Int.not_lt.mp hless)
    · intro y c st'' s'' hy ⟨e1, e2, l, r, e3, hlr, hrx, hm, hlo, hhi⟩
      subst e1; subst e2; subst e3
      have : l = r := by omega
      subst this
      exact fin l (by omega) hlo hhi
  · intro x c st' s' hx ⟨e2, e3, hx', hx1, hB', hs'⟩
    subst e2; subst e3
    have : x = n := by omega
    subst this
    exact kasC_pure (h st' hB' hs')
end
end L2
namespace L2
open PySem PySem.W PyProof.Rows
section
variable {prog : Program} {w : World} {A : Around} {E : Value → Shared → Prop} {κ : SortKind} {k : Keyed → Int} {Mem : Keyed → Prop} {s : Shared} {a₀ : Array Keyed} {st : SortSt}
theorem minRun_two {n : Nat} (h1 : 64 ≤ n) (h2 : n < 128) : minRun' n n 0 = n / 2 + n % 2 := by
  obtain ⟨f, rfl⟩ : ∃ f, n = f + 2 := ⟨n - 2, by omega⟩
  have e : minRun' (f + 1 + 1) (f + 2) 0 = (f + 2) / 2 + (f + 2) % 2 := by
    rw [minRun'_succ, if_neg (by omega), minRun'_succ, if_pos (by omega), Nat.max_eq_right (Nat.zero_le _)]
  exact e
theorem SB.pending {pd pd' : Array (Nat × Nat × Nat)} {lo hi : Nat} (h : SB κ a₀ pd lo hi st) (e : pd' = pd) : SB κ a₀ pd' lo hi st := by subst e; exact h
theorem SB.setPd {pd pd' : Array (Nat × Nat × Nat)} {lo hi : Nat} (h : SB κ a₀ pd lo hi st) : SB κ a₀ pd' lo hi (setPending st pd') := ⟨h.perm, h.kind, h.failed, rfl, h.out⟩
theorem sortRuns_ok {Q : Unit → SortSt → Shared → Prop} (mem : ∀ p ∈ a₀.toList, Mem p) (ask : Asks2 prog w A κ k Mem s) (h64 : 64 ≤ a₀.size) (h128 : a₀.size < 128) (hB : SB κ a₀ #[] 0 a₀.size st)
    (h : ∀ st', (arrOf st').toList.Perm a₀.toList → failedOf st' = none → (arrOf st').toList.Pairwise (fun x y => k x ≤ k y) → Q () st' s) : kasC (model prog w) A E sortRuns' Q st s := by
  have hmr := minRun_two h64 h128
  generalize hM : a₀.size / 2 + a₀.size % 2 = mr at hmr
  rw [sortRuns'_eq]
  refine kasC_bind (kasC_get ?_)
  dsimp only
  simp only [hB.size, hmr]
  refine kasC_bind (kasC_mono (kasC_loop (Q := fun c st' s' => s' = s ∧ c = (none, a₀.size) ∧ ((SB κ a₀ #[(0, a₀.size, 0)] 0 a₀.size st' ∧ UpK k (arrOf st') 0 a₀.size) ∨
      ∃ n1 n2 pw, 0 < n1 ∧ 0 < n2 ∧ n1 + n2 = a₀.size ∧ SB κ a₀ #[(0, n1, pw), (n1, n2, 0)] 0 a₀.size st' ∧ UpK k (arrOf st') 0 n1 ∧ UpK k (arrOf st') n1 a₀.size))
    (fun x c st' s' => s' = s ∧ ((x = 0 ∧ c = (none, 0) ∧ SB κ a₀ #[] 0 a₀.size st') ∨ (∃ n1, x = 1 ∧ c = (none, n1) ∧ mr ≤ n1 ∧ n1 ≤ a₀.size ∧ SB κ a₀ #[(0, n1, 0)] 0 a₀.size st' ∧ UpK k (arrOf st') 0 n1) ∨
      ∃ n1 n2 pw, 2 ≤ x ∧ c = (none, a₀.size) ∧ 0 < n1 ∧ 0 < n2 ∧ n1 + n2 = a₀.size ∧ SB κ a₀ #[(0, n1, pw), (n1, n2, 0)] 0 a₀.size st' ∧ UpK k (arrOf st') 0 n1 ∧ UpK k (arrOf st') n1 a₀.size)) ?_ ?_ ⟨rfl, .inl ⟨rfl, rfl, hB⟩⟩) ?_)
  · rintro x c st' s' _ hx ⟨e, ⟨rfl, rfl, hB'⟩ | ⟨n1, rfl, rfl, hn1, hn2, hB', hu⟩ | ⟨n1, n2, pw, h2x, rfl, p1, p2, p3, hB', u1, u2⟩⟩
    · subst e
      dsimp only
      rw [if_neg (by omega)]
      simp only [Nat.sub_zero]
      refine kasC_bind (runL_ok mem ask (by omega) (by omega) (by omega) hB' fun m st2 hB2 m1 m2 hs2 => ?_)
      dsimp only
      by_cases hlt : m < mr
      · rw [if_pos hlt]
        refine kasC_bind (kasC_lift (wpAny_rule ?_))
        have emin : min a₀.size mr = mr := Nat.min_eq_right (by omega)
        simp only [emin]
        refine kasC_bind (binL_ok mem ask (by omega) (by omega) m1 (by omega) hB2 hs2 fun st3 hB3 hs3 => ?_)
        simp only [Bool.not_true, Bool.false_eq_true, if_false]
        refine kasC_bind (kasC_get ?_)
        have hb : (pendingOf st3).back? = none := by rw [hB3.pend]; rfl
        rw [hb]
        dsimp only
        refine kasC_bind (kasC_modify (kasC_pure ⟨by trivial, .inr (.inl ⟨mr, by trivial, by rw [Nat.zero_add], Nat.le_refl _, by omega, ?_, by rw [Nat.zero_add] at hs3; exact hs3⟩)⟩))
        have := hB3.setPd (pd' := (pendingOf st3).push (0, mr, 0))
        exact this.pending (by rw [hB3.pend]; rfl)
      · rw [if_neg hlt]
        refine kasC_bind (kasC_get ?_)
        have hb : (pendingOf st2).back? = none := by rw [hB2.pend]; rfl
        rw [hb]
        dsimp only
        refine kasC_bind (kasC_modify (kasC_pure ⟨by trivial, .inr (.inl ⟨m, by trivial, by rw [Nat.zero_add], by omega, m2, ?_, by rw [Nat.zero_add] at hs2; exact hs2⟩)⟩))
        have := hB2.setPd (pd' := (pendingOf st2).push (0, m, 0))
        exact this.pending (by rw [hB2.pend]; rfl)
    · subst e
      dsimp only
      by_cases c0 : n1 ≥ a₀.size
      · rw [if_pos c0]
        have : n1 = a₀.size := by omega
        subst this
        exact kasC_pure ⟨rfl, rfl, .inl ⟨hB', hu⟩⟩
      · rw [if_neg c0]
        have hsz : (arrOf st').size = a₀.size := hB'.size
        have mem1 : ∀ p ∈ (arrOf st').toList, Mem p := fun p hp => mem p ((Array.perm_iff_toList_perm.mp hB'.perm).mem_iff.mp hp)
        have hB1 : SB κ (arrOf st') #[(0, n1, 0)] n1 a₀.size st' := ⟨Array.Perm.refl _, hB'.kind, hB'.failed, hB'.pend, fun _ _ => rfl⟩
        have done : ∀ st3, SB κ (arrOf st') #[(0, n1, 0)] n1 a₀.size st3 → UpK k (arrOf st3) n1 (n1 + (a₀.size - n1)) → ∀ pw, SB κ a₀ #[(0, n1, pw), (n1, a₀.size - n1, 0)] 0 a₀.size (setPending st3 #[(0, n1, pw), (n1, a₀.size - n1, 0)]) ∧ UpK k (arrOf st3) 0 n1 ∧ UpK k (arrOf st3) n1 a₀.size := fun st3 h3 u3 pw => by
          refine ⟨⟨h3.perm.trans hB'.perm, h3.kind, h3.failed, rfl, fun i hi => ?_⟩, fun i j a b c => ?_, by rw [show n1 + (a₀.size - n1) = a₀.size from by omega] at u3; exact u3⟩
          · have e3 : (arrOf st3).size = a₀.size := h3.size.trans hsz
            show (arrOf st3)[i]? = _
            rw [Array.getElem?_eq_none (by omega), Array.getElem?_eq_none (by omega)]
          · have := hu i j a b c
            rw [← KI_congr (k := k) (h3.out i (.inl (by omega))), ← KI_congr (k := k) (h3.out j (.inl c))] at this
            exact this
        refine kasC_bind (runL_ok (lo := n1) (nrem := a₀.size - n1) (hi := a₀.size) mem1 ask (by omega) (by omega) (by omega) hB1 fun m st2 hB2 m1 m2 hs2 => ?_)
        dsimp only
        by_cases hlt : m < mr
        · rw [if_pos hlt]
          refine kasC_bind (kasC_lift (wpAny_rule ?_))
          have emin : min (a₀.size - n1) mr = a₀.size - n1 := Nat.min_eq_left (by omega)
          simp only [emin]
          refine kasC_bind (binL_ok mem1 ask (by omega) (by omega) m1 (by omega) hB2 hs2 fun st3 hB3 hs3 => ?_)
          simp only [Bool.not_true, Bool.false_eq_true, if_false]
          refine kasC_bind (kasC_get ?_)
          have hb : (pendingOf st3).back? = some (0, n1, 0) := by rw [hB3.pend]; rfl
          rw [hb]
          dsimp only
          refine kasC_bind (kasC_mono (kasC_loop (Q := fun c st4 s4 => c = (none, ()) ∧ st4 = st3 ∧ s4 = s') (fun _ c st4 s4 => c = (none, ()) ∧ st4 = st3 ∧ s4 = s') ?_ (fun _ _ _ _ _ z => z) ⟨rfl, rfl, rfl⟩) ?_)
          · rintro x c st4 s4 _ _ ⟨rfl, rfl, rfl⟩
            refine kasC_bind (kasC_get ?_)
            rw [if_neg (show ¬ (pendingOf st4).size > 1 from by rw [hB3.pend]; exact Nat.lt_irrefl _)]
            exact kasC_pure ⟨rfl, rfl, rfl⟩
          · rintro c st4 s4 ⟨rfl, rfl, rfl⟩
            dsimp only
            obtain ⟨q6, q7, q8⟩ := done st4 hB3 hs3 (power' a₀.size (2 * 0 + n1) (2 * 0 + n1 + n1 + (a₀.size - n1)) a₀.size)
            have en : n1 + (a₀.size - n1) = a₀.size := by omega
            refine kasC_bind (kasC_modify (kasC_bind (kasC_modify (kasC_pure ⟨rfl, .inr (.inr ⟨n1, a₀.size - n1, power' a₀.size (2 * 0 + n1) (2 * 0 + n1 + n1 + (a₀.size - n1)) a₀.size, by omega, by rw [en], by omega, by omega, en, ?_, q7, q8⟩)⟩))))
            have ep : ((pendingOf st4).modify ((pendingOf st4).size - 1) fun x => (x.1, x.2.1, power' a₀.size (2 * 0 + n1) (2 * 0 + n1 + n1 + (a₀.size - n1)) a₀.size)).push (n1, a₀.size - n1, 0) = #[(0, n1, power' a₀.size (2 * 0 + n1) (2 * 0 + n1 + n1 + (a₀.size - n1)) a₀.size), (n1, a₀.size - n1, 0)] := by
              rw [hB3.pend]
              rfl
            rw [← ep] at q6
            exact ⟨q6.perm, q6.kind, q6.failed, ep, q6.out⟩
        · rw [if_neg hlt]
          have : m = a₀.size - n1 := by omega
          subst this
          have hB3 := hB2
          have hs3 := hs2
          refine kasC_bind (kasC_get ?_)
          have hb : (pendingOf st2).back? = some (0, n1, 0) := by rw [hB3.pend]; rfl
          rw [hb]
          dsimp only
          refine kasC_bind (kasC_mono (kasC_loop (Q := fun c st4 s4 => c = (none, ()) ∧ st4 = st2 ∧ s4 = s') (fun _ c st4 s4 => c = (none, ()) ∧ st4 = st2 ∧ s4 = s') ?_ (fun _ _ _ _ _ z => z) ⟨rfl, rfl, rfl⟩) ?_)
          · rintro x c st4 s4 _ _ ⟨rfl, rfl, rfl⟩
            refine kasC_bind (kasC_get ?_)
            rw [if_neg (show ¬ (pendingOf st4).size > 1 from by rw [hB3.pend]; exact Nat.lt_irrefl _)]
            exact kasC_pure ⟨rfl, rfl, rfl⟩
          · rintro c st4 s4 ⟨rfl, rfl, rfl⟩
            dsimp only
            obtain ⟨q6, q7, q8⟩ := done st4 hB3 hs3 (power' a₀.size (2 * 0 + n1) (2 * 0 + n1 + n1 + (a₀.size - n1)) a₀.size)
            have en : n1 + (a₀.size - n1) = a₀.size := by omega
            refine kasC_bind (kasC_modify (kasC_bind (kasC_modify (kasC_pure ⟨rfl, .inr (.inr ⟨n1, a₀.size - n1, power' a₀.size (2 * 0 + n1) (2 * 0 + n1 + n1 + (a₀.size - n1)) a₀.size, by omega, by rw [en], by omega, by omega, en, ?_, q7, q8⟩)⟩))))
            have ep : ((pendingOf st4).modify ((pendingOf st4).size - 1) fun x => (x.1, x.2.1, power' a₀.size (2 * 0 + n1) (2 * 0 + n1 + n1 + (a₀.size - n1)) a₀.size)).push (n1, a₀.size - n1, 0) = #[(0, n1, power' a₀.size (2 * 0 + n1) (2 * 0 + n1 + n1 + (a₀.size - n1)) a₀.size), (n1, a₀.size - n1, 0)] := by
              rw [hB3.pend]
              rfl
            rw [← ep] at q6
            exact ⟨q6.perm, q6.kind, q6.failed, ep, q6.out⟩
    · subst e
      dsimp only
      rw [if_pos (Nat.le_refl _)]
      exact kasC_pure ⟨rfl, rfl, .inr ⟨n1, n2, pw, p1, p2, p3, hB', u1, u2⟩⟩
  · rintro x c st' s' hx ⟨e, ⟨rfl, rfl, hB'⟩ | ⟨n1, rfl, rfl, hn1, hn2, hB', hu⟩ | ⟨n1, n2, pw, h2x, rfl, p1, p2, p3, hB', u1, u2⟩⟩
    · omega
    · omega
    · exact ⟨e, rfl, .inr ⟨n1, n2, pw, p1, p2, p3, hB', u1, u2⟩⟩
  · rintro c st' s' ⟨e, rfl, hend⟩
    subst e
    dsimp only
    refine kasC_bind (kasC_mono (kasC_loop (Q := fun c st2 s2 => s2 = s' ∧ c = (none, ()) ∧ (arrOf st2).toList.Perm a₀.toList ∧ failedOf st2 = none ∧ (arrOf st2).toList.Pairwise (fun x y => k x ≤ k y))
      (fun x c st2 s2 => s2 = s' ∧ c = (none, ()) ∧ ((x = 0 ∧ st2 = st' ∧ ∃ n1 n2 pw, 0 < n1 ∧ 0 < n2 ∧ n1 + n2 = a₀.size ∧ SB κ a₀ #[(0, n1, pw), (n1, n2, 0)] 0 a₀.size st' ∧ UpK k (arrOf st') 0 n1 ∧ UpK k (arrOf st') n1 a₀.size) ∨
        ((arrOf st2).toList.Perm a₀.toList ∧ failedOf st2 = none ∧ (arrOf st2).toList.Pairwise (fun x y => k x ≤ k y) ∧ (pendingOf st2).size ≤ 1))) ?_ ?_ ⟨rfl, rfl, ?_⟩) ?_)
    · rintro x c st2 s2 _ hx ⟨rfl, rfl, ⟨rfl, rfl, n1, n2, pw, p1, p2, p3, hB', u1, u2⟩ | ⟨f1, f2, f3, f4⟩⟩
      · refine kasC_bind (kasC_get ?_)
        have hsz := hB'.size
        have ep := hB'.pend
        rw [if_neg (show ¬ (pendingOf st2).size ≤ 1 from by rw [ep]; exact (by decide : ¬ (2 ≤ 1)))]
        have ei : (pendingOf st2).size - 2 = 0 := by rw [ep]; rfl
        simp only [ei, Nat.lt_irrefl, gt_iff_lt, if_false, Option.any_none, Bool.false_eq_true]
        refine kasC_bind (mergeAt_ok ep rfl hB'.kind hB'.failed ask (fun i x hx => mem x ((Array.perm_iff_toList_perm.mp hB'.perm).mem_iff.mp (by
          obtain ⟨hl, e⟩ := Array.getElem?_eq_some_iff.mp hx
          rw [← e]; simp))) p1 p2 (by omega) u1.seg (by rw [p3]; exact u2.seg) fun st3 g1 g2 g3 g4 g5 => ?_)
        simp only [Bool.not_true, Bool.false_eq_true, if_false]
        exact kasC_pure ⟨rfl, rfl, .inr ⟨g3.trans (Array.perm_iff_toList_perm.mp hB'.perm), g2, g4, by rw [g5]; exact Nat.le_refl 1⟩⟩
      · refine kasC_bind (kasC_get ?_)
        rw [if_pos f4]
        exact kasC_pure ⟨rfl, rfl, f1, f2, f3⟩
    · rintro x c st2 s2 hx ⟨rfl, rfl, ⟨rfl, _⟩ | ⟨f1, f2, f3, f4⟩⟩
      · omega
      · exact ⟨rfl, rfl, f1, f2, f3⟩
    · rcases hend with ⟨hB', u⟩ | ⟨n1, n2, pw, p⟩
      · refine .inr ⟨Array.perm_iff_toList_perm.mp hB'.perm, hB'.failed, seg_all ?_, by rw [hB'.pend]; exact Nat.le_refl 1⟩
        rw [hB'.size]; exact u.seg
      · exact .inl ⟨rfl, rfl, n1, n2, pw, p⟩
    · rintro c st2 s2 ⟨rfl, rfl, f1, f2, f3⟩
      dsimp only
      exact kasC_pure (h st2 f1 f2 f3)
end
end L2
namespace L2
open PySem PySem.Spec PySem.W PyProof.Rows
section
variable {prog : Program} {w : World} {A : Around} {E : Value → Shared → Prop} {s : Shared} {h₀ : Heap} {L a : Addr} {m : Str → Option Value} {news : List (Addr × Obj)} {vs : List Value}
theorem zip_self (vs : List Value) : (vs.toArray.zip vs.toArray).toList = vs.map fun v => (v, v) := by
  rw [Array.toList_zip]
  show vs.zip vs = _
  induction vs with
  | nil => rfl
  | cons v vs ih => rw [List.zip_cons_cons, List.map_cons, ih]
theorem list_sort_big {n : Nat} {P : PySem.Fin → Shared → Prop} (F : Fr h₀ L s.heap m) (N : News h₀ L s.heap news) (ho : s.heap.get? a = some (seqObj "list" vs.toArray n)) (haL : a ≠ L) (ha0 : h₀.get? a = none) (hna : ∀ p ∈ news, p.1 ≠ a)
    (h64 : 64 ≤ vs.length) (h128 : vs.length < 128)
    (h : ∀ e1 h', Fr h₀ L h' m → News h₀ L h' ((a, seqObj "list" #[] e1) :: news) →
      wpAny (model prog w) A (keyKind' vs.toArray) (fun κ s' => ∃ (k : Keyed → Int) (Mem : Keyed → Prop), (∀ v ∈ vs, Mem (v, v)) ∧ Asks2 prog w A κ k Mem s' ∧ ∀ out : List Keyed, out.Perm (vs.map fun v => (v, v)) → out.Pairwise (fun x y => k x ≤ k y) → KasFin h₀ L m a e1 (out.map (·.2)) (fun s3 => P (.done (.ret .none)) s3) s') (fun _ _ => False) { s with heap := h' }) :
    wpAny (model prog w) A (Builtin.«list.sort» ⟨[.ref a], []⟩) P E s := by
  have ha : a < s.heap.objs.size := Heap.lt_size ho
  have s1 := Heap.SameBut.update s.heap a (Obj.mapSeq fun _ => (#[] : Array Value))
  obtain ⟨e1, ho1⟩ : ∃ e1, (s.heap.update a (Obj.mapSeq fun _ => (#[] : Array Value))).get? a = some (seqObj "list" #[] e1) := ⟨_, get?_update_seq ho fun _ => #[]⟩
  have F3 : Fr h₀ L (((s.heap.update a (Obj.mapSeq fun _ => (#[] : Array Value))).push (seqObj "tuple" vs.toArray 0)).push (seqObj "list" #[] 0)) m := ((kas_fr F s1 haL ha0).push _).push _
  have N2 : News h₀ L (((s.heap.update a (Obj.mapSeq fun _ => (#[] : Array Value))).push (seqObj "tuple" vs.toArray 0)).push (seqObj "list" #[] 0)) news :=
    (kas_news N s1 hna).grown fun b x e => Heap.get?_push_of_some _ (Heap.get?_push_of_some _ e)
  have N3 : News h₀ L (((s.heap.update a (Obj.mapSeq fun _ => (#[] : Array Value))).push (seqObj "tuple" vs.toArray 0)).push (seqObj "list" #[] 0)) ((a, seqObj "list" #[] e1) :: news) := fun p hp => by
    rcases List.mem_cons.mp hp with rfl | hp
    · exact ⟨Heap.get?_push_of_some _ (Heap.get?_push_of_some _ ho1), haL, ha0⟩
    · exact N2 p hp
  have ask := h e1 _ F3 N3
  rw [list_sort_plain]
  refine wpAny_bind (listItems_at ho rfl ?_)
  refine wpAny_bind (listUpdate_at ho rfl ?_ (by rw [List.size_toArray, sizeLine_eq]; omega) (Nat.zero_le _))
  refine wpAny_bind (seqEpoch_at ho1 rfl ?_)
  refine wpAny_bind (wpAny_newTuple ?_ (by show vs.length ≤ _; rw [sizeLine_eq]; omega))
  refine wpAny_bind (wpAny_newList ?_ (Nat.zero_le _))
  refine wpAny_holding ?_
  show wpAny (model prog w) A _ P E { s with heap := ((s.heap.update a (Obj.mapSeq fun _ => (#[] : Array Value))).push (seqObj "tuple" vs.toArray 0)).push (seqObj "list" #[] 0) }
  dsimp only
  have hn2 : ¬ vs.toArray.size < 2 := by rw [List.size_toArray]; omega
  rw [if_neg hn2, if_neg hn2]
  refine wpAny_bind (wpAny_mono ask (fun κ s0 hk => ?_) fun _ _ x => x.elim)
  obtain ⟨k, Mem, hmem, hask, hfin⟩ := hk
  have zs : (vs.toArray.zip vs.toArray).size = vs.length := by rw [← Array.length_toList, zip_self, List.length_map]
  have run : kasC (model prog w) A E sortRuns' (fun _ st' s' => s' = s0 ∧ (arrOf st').toList.Perm (vs.toArray.zip vs.toArray).toList ∧ failedOf st' = none ∧ (arrOf st').toList.Pairwise (fun x y => k x ≤ k y)) (SortSt.mk' κ (vs.toArray.zip vs.toArray) #[] 7 none) s0 :=
    sortRuns_ok (a₀ := vs.toArray.zip vs.toArray) (Mem := Mem) (fun p hp => by
      rw [zip_self] at hp
      obtain ⟨v, hv, rfl⟩ := List.mem_map.mp hp
      exact hmem v hv) hask (by omega) (by omega) ⟨Array.Perm.refl _, rfl, rfl, rfl, fun _ _ => rfl⟩ fun st' a1 a2 a3 => ⟨rfl, a1, a2, a3⟩
  refine wpAny_bind (wpAny_mono run ?_ fun _ _ e => e)
  rintro ⟨⟨⟩, st'⟩ s' ⟨rfl, hp, hf, hs⟩
  dsimp only at hp hf hs ⊢
  rw [zip_self] at hp
  obtain ⟨news', g, F', N', U, kk⟩ := hfin (arrOf st').toList hp hs
  obtain ⟨pre, post, e0, hg, x1, x2⟩ := U.split
  rw [e0] at N'
  have na := N' (a, seqObj "list" #[] e1) (List.mem_append_right _ (.head _))
  have hout : (arrOf st').map (·.2) = List.toArray ((arrOf st').toList.map (·.2)) := by
    apply Array.toList_inj.mp
    rw [Array.toList_map]
  have hl : (List.toArray ((arrOf st').toList.map (·.2))).size = vs.length := by
    rw [List.size_toArray, List.length_map]
    have := hp.length_eq
    rwa [List.length_map] at this
  rw [hout]
  have s2 := Heap.SameBut.update s'.heap a (Obj.mapSeq fun _ => List.toArray ((arrOf st').toList.map (·.2)))
  obtain ⟨c2, hc2⟩ : ∃ c2, (s'.heap.update a (Obj.mapSeq fun _ => List.toArray ((arrOf st').toList.map (·.2)))).get? a = some (seqObj "list" (List.toArray ((arrOf st').toList.map (·.2))) c2) := ⟨_, get?_update_seq na.1 fun _ => List.toArray ((arrOf st').toList.map (·.2))⟩
  refine wpAny_bind (seqEpoch_at na.1 rfl ?_)
  refine wpAny_bind (listUpdate_at na.1 rfl ?_ (Nat.zero_le _) (Nat.le_trans (Nat.le_of_eq hl) (by rw [sizeLine_eq]; omega)))
  rw [hf]
  simp only [bne_self_eq_false, Bool.false_eq_true, if_false]
  refine wpAny_pure (kk _ c2 (kas_fr F' s2 na.2.1 na.2.2) ?_)
  rw [hg]
  exact news_set N' x1 x2 s2 hc2
theorem sorted_big {l : Addr} {Q : Value → Shared → Prop} (F : Fr h₀ L s.heap m) (N : News h₀ L s.heap news) (hl : s.heap.IsList l vs.toArray) (h64 : 64 ≤ vs.length) (h128 : vs.length < 128)
    (h : ∀ D e1 h', Fr h₀ L h' m → News h₀ L h' ((D, seqObj "list" #[] e1) :: news) → (∀ q ∈ news, q.1 < D) →
      wpAny (model prog w) A.in1.in1 (keyKind' vs.toArray) (fun κ s' => ∃ (k : Keyed → Int) (Mem : Keyed → Prop), (∀ v ∈ vs, Mem (v, v)) ∧ Asks2 prog w A.in1.in1 κ k Mem s' ∧ ∀ out : List Keyed, out.Perm (vs.map fun v => (v, v)) → out.Pairwise (fun x y => k x ≤ k y) → KasFin h₀ L m D e1 (out.map (·.2)) (fun s3 => Q (.ref D) s3) s') (fun _ _ => False) { s with heap := h' }) :
    wpAny (model prog w) A (call (.builtin "sorted") [.ref l]) Q E s := by
  refine Calls.call_function_entry kind_sorted plain_sorted entry_sorted (args_sorted1 _) ?_
  unfold Builtin.«sorted»
  refine wpAny_bind (m := checkCount "sorted" 1 1 _) (wpAny_pure ?_)
  refine wpAny_bind (collect_list hl ?_ (by rw [sizeLine_eq]; omega))
  refine wpAny_bind (wpAny_newList ?_ (by rw [sizeLine_eq]; omega))
  have hsz : ((s.heap.push (seqObj "list" #[] 0)).update s.heap.objs.size (Obj.mapSeq (· ++ vs.toArray))).objs.size = s.heap.objs.size + 1 := by
    rw [Heap.size_update, size_push']
  have hoL : (((s.heap.push (seqObj "list" #[] 0)).update s.heap.objs.size (Obj.mapSeq (· ++ vs.toArray))).push (seqObj "list" vs.toArray 0)).get? (s.heap.objs.size + 1) = some (seqObj "list" vs.toArray 0) := by
    rw [← hsz]; exact Heap.get?_push_size _ rfl
  have keep : ∀ b o, s.heap.get? b = some o → (((s.heap.push (seqObj "list" #[] 0)).update s.heap.objs.size (Obj.mapSeq (· ++ vs.toArray))).push (seqObj "list" vs.toArray 0)).get? b = some o := fun b o q => by
    have hlt : b < s.heap.objs.size := Heap.lt_size q
    rw [Heap.get?_push_ne _ _ _ (by rw [hsz]; exact Nat.ne_of_lt (Nat.lt_succ_of_lt hlt)), Heap.get?_update_ne _ _ _ _ (Nat.ne_of_lt hlt), Heap.get?_push_ne _ _ _ (Nat.ne_of_lt hlt)]
    exact q
  have hL : L < s.heap.objs.size := F.ns.lt
  show wpAny _ _ _ _ _ { s with heap := ((s.heap.push (seqObj "list" #[] 0)).update s.heap.objs.size (Obj.mapSeq (· ++ vs.toArray))).push (seqObj "list" vs.toArray 0) }
  rw [hsz]
  refine wpAny_bind (wpAny_holding (wpAny_call_entry slot_list_sort ⟨_, hoL, rfl⟩ entry_list_sort ?body (args_list_sort _)))
  case body =>
    refine list_sort_big (s := { s with heap := ((s.heap.push (seqObj "list" #[] 0)).update s.heap.objs.size (Obj.mapSeq (· ++ vs.toArray))).push (seqObj "list" vs.toArray 0) })
      (F.kept keep) (N.grown keep) hoL (Nat.ne_of_gt (Nat.lt_succ_of_lt hL)) (Heap.get?_none_of_le (Nat.le_trans F.above (Nat.le_succ_of_le (Nat.le_of_lt hL))))
      (fun p hp => Nat.ne_of_lt (Nat.lt_succ_of_lt (Heap.lt_size (N p hp).1))) h64 h128 fun e1 h' F' N' => ?_
    refine wpAny_mono (h _ e1 h' F' N' fun q hq => Nat.lt_succ_of_lt (Heap.lt_size (N q hq).1)) (fun κ s' hk => ?_) fun _ _ x => x
    obtain ⟨k, Mem, a1, a2, a3⟩ := hk
    exact ⟨k, Mem, a1, a2, fun out b1 b2 => (a3 out b1 b2).mono fun s3 hq => ⟨_, rfl, wpAny_pure ⟨_, rfl, hq⟩⟩⟩
end
end L2
namespace L2
open PySem PySem.Spec PySem.W PyProof.Rows
theorem perm_back {α β : Type} (f : α → β) {l1 l2 : List β} (h : l1.Perm l2) : ∀ xs : List α, l2 = xs.map f → ∃ ys : List α, ys.Perm xs ∧ l1 = ys.map f := by
  induction h with
  | nil =>
    intro xs e
    cases xs with
    | nil => exact ⟨[], .refl _, rfl⟩
    | cons x xs => cases e
  | cons b _ ih =>
    intro xs e
    cases xs with
    | nil => cases e
    | cons x xs =>
      rw [List.map_cons] at e
      injection e with e1 e2
      obtain ⟨ys, h1, h2⟩ := ih xs e2
      exact ⟨x :: ys, h1.cons x, by rw [List.map_cons, e1, h2]⟩
  | swap b c l =>
    intro xs e
    match xs, e with
    | x :: y :: xs, e =>
      rw [List.map_cons, List.map_cons] at e
      injection e with e1 e2
      injection e2 with e2 e3
      exact ⟨y :: x :: xs, .swap .., by rw [List.map_cons, List.map_cons, e1, e2, e3]⟩
    | [x], e => injection e with e1 e2; cases e2
    | [], e => cases e
  | trans _ _ ih1 ih2 =>
    intro xs e
    obtain ⟨ys, h1, h2⟩ := ih2 xs e
    obtain ⟨zs, h3, h4⟩ := ih1 ys h2
    exact ⟨zs, h3.trans h1, h4⟩
section
variable {X : Cx} {pins : List (Addr × Obj)} {σ : St} {H : Hp} {s : Shared}
theorem sorted_more (I : Inv X pins σ H s) {a : Addr} {ws : List V} {its : List Value} (rv : Vals ws its) (hl : s.heap.IsList a its.toArray) (h64 : 64 ≤ ws.length) (h128 : ws.length < 128) {κ : SortKind} {lt : Nat → Nat → Bool} {Q : VK}
    (irr : ∀ i, lt i i = false) (tr : ∀ i j k, lt i j = true → lt j k = true → lt i k = true) (neg : ∀ i j k, lt i k = true → lt i j = true ∨ lt j k = true)
    (val : ∀ i j, i < ws.length → j < ws.length → its.getD i Value.none = its.getD j Value.none → ∀ x, lt i x = lt j x ∧ lt x i = lt x j)
    (hkind : 2 ≤ ws.length → ∀ (A : Around) (s' : Shared) (Q' : SortKind → Shared → Prop), Inv X pins σ H s' → Q' κ s' → wpAny (model X.prog X.w) A (keyKind' its.toArray) Q' (fun _ _ => False) s')
    (hcmp : ∀ (s' : Shared) (i j : Nat) (C : Bool → Shared → Prop), i < ws.length → j < ws.length → Inv X pins σ H s' → C (lt i j) s' → wpAny (model X.prog X.w) X.A.in1.in1 (keyLt' κ (its.getD i Value.none) (its.getD j Value.none)) C (fun _ _ => False) s')
    (hQ : ∀ (l : Addr) (p : List Nat), H l = none → p.Perm (List.range ws.length) → p.Pairwise (fun i j => lt j i = false) → Q (.ref l) (upd H l (.lst (p.map fun i => ws.getD i .non)))) :
    wpAny (model X.prog X.w) X.A (call (.builtin "sorted") [.ref a]) (EP X pins σ Q) X.xe s := by
  have hlen := rv.length
  have zl : ws.length ≤ sizeLine := by rw [sizeLine_eq]; omega
  obtain ⟨m, F⟩ := I.fr
  have hbk : ∀ b o, X.base.get? b = some o → s.heap.get? b = some o := I.bk
  have kept : ∀ {h' : Heap} {x : Addr × Obj}, Fr X.base X.env.locals h' m → News X.base X.env.locals h' (x :: allNews X.base s.heap X.env.locals) → ∀ b o, b ≠ X.env.locals → s.heap.get? b = some o → h'.get? b = some o := fun {h' x} F' N' b o hb e => by
    cases q : X.base.get? b with
    | some u =>
      have := hbk b u q
      rw [e] at this; cases this
      exact F'.keep b _ q
    | none => exact (N' (b, o) (List.mem_cons_of_mem _ (mem_allNews hb q e))).1
  refine sorted_big F (news_all (g := X.base) (h := s.heap) (L := X.env.locals)) hl (by omega) (by omega) fun D e1 h' F' N' hD => ?_
  have hDh : s.heap.get? D = none := by
    cases q : s.heap.get? D with
    | none => rfl
    | some o =>
      have n1 := N' (D, seqObj "list" #[] e1) List.mem_cons_self
      exact absurd (hD (D, o) (mem_allNews n1.2.1 n1.2.2 q)) (Nat.lt_irrefl _)
  have I' : Inv X pins σ H { s with heap := h' } := I.kept2 (kept F' N') fun m' hm' => by rw [ns_same hm' F.ns]; exact F'.ns
  refine hkind (by omega) _ _ _ I' ?_
  have en : its.length = ws.length := hlen.symm
  have ix : ∀ v ∈ its, ∃ i, i < its.length ∧ its.getD i Value.none = v := fun v hv => by
    obtain ⟨i, hi, e⟩ := List.getElem_of_mem hv
    exact ⟨i, hi, by rw [List.getD_eq_getElem?_getD, List.getElem?_eq_getElem hi, e]; rfl⟩
  classical
  let pl : Value → Nat := fun v => if h : v ∈ its then (ix v h).choose else 0
  have pl1 : ∀ v ∈ its, pl v < its.length ∧ its.getD (pl v) Value.none = v := fun v hv => by
    have e : pl v = (ix v hv).choose := dif_pos hv
    rw [e]
    exact (ix v hv).choose_spec
  refine ⟨fun p => rank lt its.length (pl p.1), fun p => p.1 ∈ its, fun v hv => hv, fun x y hx hy C hC => ?_, fun out hp hs => ?_⟩
  · obtain ⟨x1, x2⟩ := pl1 x.1 hx
    obtain ⟨y1, y2⟩ := pl1 y.1 hy
    rw [rank_lt irr tr neg x1] at hC
    have := hcmp _ (pl x.1) (pl y.1) C (by omega) (by omega) I' hC
    rwa [x2, y2] at this
  · have er : its = (List.range its.length).map fun i => its.getD i Value.none := by
      apply List.ext_getElem?
      intro i
      rw [List.getElem?_map]
      by_cases hi : i < its.length
      · rw [List.getElem?_range hi, List.getElem?_eq_getElem hi]
        simp [hi]
      · rw [List.getElem?_eq_none (Nat.le_of_not_lt hi), List.getElem?_eq_none (by simpa using Nat.le_of_not_lt hi)]; rfl
    have hp' : out.Perm ((List.range its.length).map fun i => (its.getD i Value.none, its.getD i Value.none)) := by
      have : (its.map fun v => (v, v)) = (List.range its.length).map fun i => (its.getD i Value.none, its.getD i Value.none) := by
        conv => lhs; rw [er]
        rw [List.map_map]; rfl
      rwa [this] at hp
    obtain ⟨p, hq, rfl⟩ := perm_back _ hp' (List.range its.length) rfl
    have hm : ∀ i ∈ p, i < ws.length := fun i hi => by rw [← en]; exact List.mem_range.mp (hq.mem_iff.mp hi)
    rw [List.map_map]
    refine PySem.W.KasFin.intro F' N' (.head fun q hq => Nat.ne_of_lt (hD q hq)) fun h2' c F2 N2 => ?_
    have n2 := N2 (D, _) List.mem_cons_self
    obtain ⟨I2, hn⟩ := I.lay (D := D) (ys := p.map fun i => ws.getD i .non) (its := p.map fun i => its.getD i Value.none) (h' := h2') (n := c) hDh (kept F2 N2) (fun m' hm' => by rw [ns_same hm' F.ns]; exact F2.ns) n2.1 (pick_vals rv _ hm) (by
      rw [List.length_map]
      have := hq.length_eq
      rw [List.length_range] at this
      omega)
    refine ⟨.ref D, _, I2, rfl, hQ D p hn (by rw [← en]; exact hq) ?_⟩
    rw [List.pairwise_map] at hs
    refine hs.imp_of_mem fun {i j} hi hj u => ?_
    have hi' := hm i hi
    have hj' := hm j hj
    have mi : its.getD i Value.none ∈ its := by rw [List.getD_eq_getElem?_getD, List.getElem?_eq_getElem (by omega)]; exact List.getElem_mem _
    have mj : its.getD j Value.none ∈ its := by rw [List.getD_eq_getElem?_getD, List.getElem?_eq_getElem (by omega)]; exact List.getElem_mem _
    obtain ⟨i1, i2⟩ := pl1 _ mi
    obtain ⟨j1, j2⟩ := pl1 _ mj
    have r := rank_lt (n := its.length) irr tr neg (i := pl (its.getD j Value.none)) (j := pl (its.getD i Value.none)) j1
    have e1 : lt (pl (its.getD j Value.none)) (pl (its.getD i Value.none)) = false := by
      rw [← r]
      exact decide_eq_false (by have u' : rank lt its.length (pl (its.getD i Value.none)) ≤ rank lt its.length (pl (its.getD j Value.none)) := u; omega)
    rw [(val _ _ (by omega) hj' j2 _).1, (val _ _ (by omega) hi' i2 _).2] at e1
    exact e1
end
end L2
namespace L2
open PySem PySem.Spec PySem.W PyProof.Rows
section
variable {X : Cx} {pins : List (Addr × Obj)} {σ : St} {H : Hp} {s : Shared}
theorem rep_ints {K : PySem.W.Frag} {ns : List Int} {v : V} (h : Rep K H (dInts ns) v) : ∃ a, v = .ref a ∧ SqT K H a (ns.map V.int) := by
  unfold dInts Rep at h
  obtain ⟨a, xs, e, hq, hr⟩ := h
  have : xs = ns.map V.int := by
    clear hq
    induction ns generalizing xs with
    | nil => unfold Reps at hr; exact hr
    | cons n r ih =>
      rw [List.map_cons] at hr
      unfold Reps at hr
      obtain ⟨v, q, e1, h1, h2⟩ := hr
      unfold Rep at h1
      rw [e1, h1, ih q h2]; rfl
  exact ⟨a, e, by rw [← this]; exact hq⟩
theorem reps_ints {K : PySem.W.Frag} : ∀ ns : List Int, Reps K H (ns.map D.int) (ns.map V.int)
  | [] => by unfold Reps; rfl
  | n :: r => by
    show Reps K H (D.int n :: r.map D.int) (V.int n :: r.map V.int)
    unfold Reps
    exact ⟨_, _, rfl, by unfold Rep; rfl, reps_ints r⟩
theorem ints_rep {K : PySem.W.Frag} {ns : List Int} {a : Addr} (h : SqT K H a (ns.map V.int)) : Rep K H (dInts ns) (.ref a) := by
  unfold dInts Rep
  exact ⟨a, _, rfl, h, reps_ints ns⟩
theorem rep_sp {K : PySem.W.Frag} {x : Sp2} {v : V} (h : Rep K H (dSp x) v) : ∃ a l h', v = .ref a ∧ SqT K H a [.ref l, .ref h'] ∧ SqT K H l (x.1.map V.int) ∧ SqT K H h' (x.2.map V.int) := by
  unfold dSp Rep at h
  obtain ⟨a, xs, e, hq, hr⟩ := h
  unfold Reps at hr
  obtain ⟨v1, r, e1, h1, hr⟩ := hr
  unfold Reps at hr
  obtain ⟨v2, r2, e2, h2, hr⟩ := hr
  unfold Reps at hr
  obtain ⟨l, el, ql⟩ := rep_ints h1
  obtain ⟨g, eg, qg⟩ := rep_ints h2
  subst hr e2 el eg e1
  exact ⟨a, l, g, e, hq, ql, qg⟩
theorem eq_ints (ns ms : List Int) : eqD (dInts ns) (dInts ms) = some (decide (ns = ms)) := by
  unfold dInts eqD
  induction ns generalizing ms with
  | nil => cases ms with
    | nil => rfl
    | cons m r => rfl
  | cons n r ih => cases ms with
    | nil => rfl
    | cons m q =>
      rw [List.map_cons, List.map_cons]
      unfold eqDs
      rw [ih q]
      unfold eqD
      dsimp only
      congr 1
      by_cases a : n = m
      · subst a
        by_cases b : r = q
        · subst b; simp
        · simp [b]
      · simp [a]
theorem Reps.at {K : PySem.W.Frag} : ∀ {ds : List D} {vs : List V} {i : Nat} {d : D}, Reps K H ds vs → ds[i]? = some d → ∃ v, vs[i]? = some v ∧ Rep K H d v
  | [], vs, i, d, h, e => by simp at e
  | d0 :: ds, vs, i, d, h, e => by
    unfold Reps at h
    obtain ⟨u, r, e1, h1, h2⟩ := h
    rw [e1]
    cases i with
    | zero => simp at e; subst e; exact ⟨u, rfl, h1⟩
    | succ i => obtain ⟨v, q1, q2⟩ := Reps.at (i := i) h2 (by simpa using e); exact ⟨v, by simpa using q1, q2⟩
theorem Reps.pick {K : PySem.W.Frag} {xs : List Sp2} {ws : List V} (h : Reps K H (xs.map dSp) ws) : ∀ p : List Nat, (∀ i ∈ p, i < xs.length) → Reps K H ((p.map fun i => xs.getD i ([], [])).map dSp) (p.map fun i => ws.getD i .non)
  | [], _ => by unfold Reps; rfl
  | i :: p, hp => by
    show Reps K H (dSp (xs.getD i ([], [])) :: (p.map fun i => xs.getD i ([], [])).map dSp) (ws.getD i .non :: p.map fun i => ws.getD i .non)
    unfold Reps
    refine ⟨_, _, rfl, ?_, Reps.pick h p fun j hj => hp j (List.mem_cons_of_mem _ hj)⟩
    have hi := hp i List.mem_cons_self
    obtain ⟨v, q1, q2⟩ := h.at (i := i) (d := dSp xs[i]) (by rw [List.getElem?_map, List.getElem?_eq_getElem hi]; rfl)
    have e1 : ws.getD i .non = v := by rw [List.getD_eq_getElem?_getD, q1]; rfl
    have e2 : xs.getD i ([], []) = xs[i] := by rw [List.getD_eq_getElem?_getD, List.getElem?_eq_getElem hi]; rfl
    rw [e1, e2]
    exact q2
noncomputable def rSortSp (K : PySem.W.Frag) : List V → Hp → VK → Prop := fun vs H Q => ∃ a ws xs, vs = [.ref a] ∧ SqL K H a ws ∧ Reps K H (xs.map dSp) ws ∧ ws.length < 128 ∧
  ∀ l p, H l = none → List.Perm p (List.range ws.length) → List.Perm (p.map fun i => xs.getD i ([], [])) xs → (p.map fun i => xs.getD i ([], [])).Pairwise (fun x y => ltSp y x = false) → Q (.ref l) (upd H l (.lst (p.map fun i => ws.getD i .non)))
theorem sort_item (I : Inv X pins σ H s) {ws : List V} {its : List Value} {xs : List Sp2} (rv : Vals ws its) (hr : Reps X.K H (xs.map dSp) ws) {i : Nat} (hi : i < ws.length) :
    ∃ a l g : Addr, its[i]? = some (.ref a) ∧ IsTup s.heap a #[.ref l, .ref g] ∧ SqT X.K H l ((xs.getD i ([], [])).1.map V.int) ∧ SqT X.K H g ((xs.getD i ([], [])).2.map V.int) := by
  have hl := hr.length
  rw [List.length_map] at hl
  have hx : i < xs.length := by omega
  obtain ⟨v, q1, q2⟩ := hr.at (i := i) (d := dSp xs[i]) (by rw [List.getElem?_map, List.getElem?_eq_getElem hx]; rfl)
  obtain ⟨a, l, g, e, ha, h1, h2⟩ := rep_sp q2
  obtain ⟨u, hu, ru⟩ := rv.get q1
  subst e
  cases ru
  obtain ⟨its2, rv2, p, _⟩ := I.tuple ha
  have e2 : its2 = [.ref l, .ref g] := by
    cases rv2 with
    | cons r1 t => cases t with
      | cons r2 t2 => cases t2; cases r1; cases r2; rfl
  rw [e2] at p
  have ex : xs.getD i ([], []) = xs[i] := by rw [List.getD_eq_getElem?_getD, List.getElem?_eq_getElem hx]; rfl
  rw [ex]
  exact ⟨a, l, g, hu, p, h1, h2⟩
theorem kat_tups (I : Inv X pins σ H s) {xs : List Sp2} : ∀ {ws : List V} {its : List Value} {ys : List Sp2}, Vals ws its → Reps X.K H (ys.map dSp) ws → ∃ fs, PySem.W.KatTups s.heap its fs ∧ fs.length = its.length ∧ ∀ v ∈ fs, Looks (model X.prog X.w) s.heap (typeOf v) (.type "tuple")
  | [], _, ys, .nil, _ => ⟨[], trivial, rfl, fun v hv => absurd hv (by simp)⟩
  | w :: ws, _, ys, .cons (b := u) (l₂ := us) r t, h => by
    cases ys with
    | nil => rw [List.map_nil] at h; unfold Reps at h; cases h
    | cons y ys =>
      rw [List.map_cons] at h
      unfold Reps at h
      obtain ⟨v, q, e, h1, h2⟩ := h
      cases e
      obtain ⟨fs, k1, k2, k3⟩ := kat_tups I (xs := xs) t h2
      obtain ⟨a, l, g, e, ha, hl, hg⟩ := rep_sp h1
      subst e
      cases r
      obtain ⟨its2, rv2, p, _⟩ := I.tuple ha
      obtain ⟨its3, rv3, p3, _⟩ := I.tuple hl
      have e2 : its2 = [.ref l, .ref g] := by
        cases rv2 with
        | cons r1 t => cases t with
          | cons r2 t2 => cases t2; cases r1; cases r2; rfl
      rw [e2] at p
      obtain ⟨o, ho, hc, n, hd⟩ := p
      obtain ⟨o3, ho3, hc3, _⟩ := p3
      refine ⟨.ref l :: fs, PySem.W.KatTups.cons ho hc hd rfl k1, by rw [List.length_cons, List.length_cons, k2], fun v hv => ?_⟩
      rcases List.mem_cons.mp hv with z | z
      · subst z
        have q : Looks (model X.prog X.w) s.heap (typeOf (.ref l)) o3.cls := (Looks.ld ho3).andThen .now
        rw [hc3] at q
        exact q
      · exact k3 v z
theorem call_sortSp (hu : X.A.units + 60 < cLine) : CallR X (.builtin "sorted") (rSortSp X.K) := by
  intro pins s σ H vs us Q I r h
  obtain ⟨a, ws, xs, rfl, hq, hr, h64, q⟩ := h
  obtain ⟨u, rfl, ru⟩ := vals1 r
  cases ru
  obtain ⟨its, rv, p, hz⟩ := I.list hq
  have hlen := rv.length
  have hxl := hr.length
  rw [List.length_map] at hxl
  have inj : ∀ i j, i < ws.length → j < ws.length → its.getD i Value.none = its.getD j Value.none → xs.getD i ([], []) = xs.getD j ([], []) := fun i j hi hj e => by
    obtain ⟨a1, l1, g1, e1, t1, hl1, hg1⟩ := sort_item I rv hr hi
    obtain ⟨a2, l2, g2, e2, t2, hl2, hg2⟩ := sort_item I rv hr hj
    rw [List.getD_eq_getElem?_getD, e1, List.getD_eq_getElem?_getD, e2] at e
    have ea : a1 = a2 := by injection e
    subst ea
    obtain ⟨o1, ho1, hc1, n1, hd1⟩ := t1
    obtain ⟨o2, ho2, hc2, n2, hd2⟩ := t2
    rw [ho1] at ho2; cases ho2
    rw [hd1] at hd2
    have ev : (#[Value.ref l1, Value.ref g1] : Array Value) = #[Value.ref l2, Value.ref g2] := by injection hd2
    have ev' := congrArg Array.toList ev
    have el : l1 = l2 := by injection ev' with z _; injection z
    have eg : g1 = g2 := by injection ev' with _ z; injection z with z _; injection z
    subst el eg
    have m1 := I.tuple_inj hl1 hl2
    have m2 := I.tuple_inj hg1 hg2
    exact Prod.ext (List.map_inj_right (fun _ _ z => by injection z) |>.mp m1) (List.map_inj_right (fun _ _ z => by injection z) |>.mp m2)
  have both : ∀ (K1 : 2 ≤ ws.length → ∀ (A : Around) (s' : Shared) (Q' : SortKind → Shared → Prop), Inv X pins σ H s' → Q' (tuples' false) s' → wpAny (model X.prog X.w) A (keyKind' its.toArray) Q' (fun _ _ => False) s')
      (K2 : ∀ (s' : Shared) (i j : Nat) (C : Bool → Shared → Prop), i < ws.length → j < ws.length → Inv X pins σ H s' → C (ltSp (xs.getD i ([], [])) (xs.getD j ([], []))) s' → wpAny (model X.prog X.w) X.A.in1.in1 (keyLt' (tuples' false) (its.getD i Value.none) (its.getD j Value.none)) C (fun _ _ => False) s')
      (K3 : ∀ (l : Addr) (p : List Nat), H l = none → p.Perm (List.range ws.length) → p.Pairwise (fun i j => ltSp (xs.getD j ([], [])) (xs.getD i ([], [])) = false) → Q (.ref l) (upd H l (.lst (p.map fun i => ws.getD i .non)))), wpAny (model X.prog X.w) X.A (call (.builtin "sorted") [.ref a]) (EP X pins σ Q) X.xe s := fun K1 K2 K3 => by
    by_cases c : ws.length < 64
    · exact sorted_core I rv p.isList c (κ := tuples' false) (lt := fun i j => ltSp (xs.getD i ([], [])) (xs.getD j ([], []))) (fun i => sp_irr _) (fun i j k => sp_tr _ _ _) (fun i j k => sp_neg _ _ _) K1 K2 K3
    · exact sorted_more I rv p.isList (by omega) h64 (κ := tuples' false) (lt := fun i j => ltSp (xs.getD i ([], [])) (xs.getD j ([], []))) (fun i => sp_irr _) (fun i j k => sp_tr _ _ _) (fun i j k => sp_neg _ _ _) (fun i j hi hj e x => by rw [inj i j hi hj e]; exact ⟨rfl, rfl⟩) K1 K2 K3
  refine both (fun h2 A s' Q' I' hQ' => ?_) (fun s' i j C hi hj I' hC => ?_) fun l p hn hp hs => ?_
  · obtain ⟨fs, k1, k2, k3⟩ := kat_tups I' (xs := xs) rv hr
    exact PySem.W.kat_kind k1 (by omega) k3 rfl hQ'
  · obtain ⟨a1, l1, g1, e1, t1, hl1, hg1⟩ := sort_item I' rv hr hi
    obtain ⟨a2, l2, g2, e2, t2, hl2, hg2⟩ := sort_item I' rv hr hj
    rw [List.getD_eq_getElem?_getD, e1, List.getD_eq_getElem?_getD, e2]
    obtain ⟨o1, ho1, hc1, n1, hd1⟩ := t1
    obtain ⟨o2, ho2, hc2, n2, hd2⟩ := t2
    have eqa : ∀ {b1 b2 : Addr} {ns ms : List Int}, SqT X.K H b1 (ns.map V.int) → SqT X.K H b2 (ms.map V.int) → SeqAt.EqAt X.A.in1.in1 s' (.ref b1) (.ref b2) (decide (ns = ms)) := fun {b1 b2 ns ms} h1 h2 =>
      eqAt_rep I' 5 X.A.in1.in1 (dInts ns) (dInts ms) (.ref b1) (.ref b2) _ _ _ (by
        unfold dInts depD
        have : depDs (ns.map D.int) = 0 := by
          clear h1
          induction ns with
          | nil => unfold depDs; rfl
          | cons n r ih => rw [List.map_cons]; unfold depDs; rw [ih]; unfold depD; rfl
        omega) (by show X.A.units + 1 + 1 + 5 < cLine; omega) (ints_rep h1) (ints_rep h2) rfl rfl (eq_ints ns ms)
    have lta : ∀ {b1 b2 : Addr} {ns ms : List Int} {C' : Bool → Shared → Prop}, SqT X.K H b1 (ns.map V.int) → SqT X.K H b2 (ms.map V.int) → C' (HT.lexLt ns ms) s' → wpAny (model X.prog X.w) X.A.in1.in1 (oneLt' false (.ref b1) (.ref b2)) C' (fun _ _ => False) s' := fun {b1 b2 ns ms C'} h1 h2 hc => by
      obtain ⟨i1, r1, p1, _⟩ := I'.tuple h1
      obtain ⟨i2, r2, p2, _⟩ := I'.tuple h2
      exact PySem.W.kat_one _ _ (HT.lt_tupInts p1 p2 (intsAre_of (by simpa using r1)) (intsAre_of (by simpa using r2)) (by show X.A.units + 1 + 1 < cLine; omega) hc)
    refine PySem.W.kat_lt ho1 hd1 ho2 hd2 (PySem.W.kat_cons (eqa hl1 hl2 _ _ _ _ (PySem.W.kat_go (fun e => PySem.W.kat_yes (PySem.W.kat_cons (eqa hg1 hg2 _ _ _ _ (PySem.W.kat_go (fun e2 => PySem.W.kat_yes (PySem.W.kat_nil ?_)) fun e2 => PySem.W.kat_no ?_)))) fun e => PySem.W.kat_no ?_)))
    · have z1 := of_decide_eq_true e
      have z2 := of_decide_eq_true e2
      have : ltSp (xs.getD i ([], [])) (xs.getD j ([], [])) = false := by unfold ltSp; rw [if_pos z1, z2]; exact lex_irr _
      rw [this] at hC
      exact hC
    · have z1 := of_decide_eq_true e
      refine lta hg1 hg2 ?_
      have : ltSp (xs.getD i ([], [])) (xs.getD j ([], [])) = HT.lexLt (xs.getD i ([], [])).2 (xs.getD j ([], [])).2 := by unfold ltSp; rw [if_pos z1]
      rw [← this]; exact hC
    · have z1 := of_decide_eq_false e
      refine lta hl1 hl2 ?_
      have : ltSp (xs.getD i ([], [])) (xs.getD j ([], [])) = HT.lexLt (xs.getD i ([], [])).1 (xs.getD j ([], [])).1 := by unfold ltSp; rw [if_neg z1]
      rw [← this]; exact hC
  · refine q l p hn hp ?_ ?_
    · have e : xs = (List.range ws.length).map fun i => xs.getD i ([], []) := by
        apply List.ext_getElem?
        intro i
        rw [List.getElem?_map]
        by_cases hi : i < xs.length
        · rw [List.getElem?_range (by omega), List.getElem?_eq_getElem hi]
          simp [hi]
        · rw [List.getElem?_eq_none (by omega), List.getElem?_eq_none (by simp; omega)]; rfl
      have hpm := hp.map fun i => xs.getD i ([], [])
      rw [← e] at hpm
      exact hpm
    · rw [List.pairwise_map]
      exact hs
end
end L2
namespace MX
open PySem
section
variable {prog : Program} {w : World} {A : Around} {E : Value → Shared → Prop} {s : Shared}
theorem tupnext (it t : Addr) (i n : Nat) (xs : Array Value) (x : Value) (d1 d2 : Option Addr) (l1 l2 : Array (Option Value)) (hx : xs[i]? = some x) {Q : PySem.Fin → Shared → Prop}
    (h1 : s.heap.get? it = some { cls := .type "tuple_iterator", dict := d1, data := .fields #[.ref t, .int i 0], slots := l1 }) (h2 : s.heap.get? t = some { cls := .type "tuple", dict := d2, data := .seq xs n, slots := l2 })
    (h : ∀ h', h'.IsTupleIter it t (i + 1) → Heap.SameBut it s.heap h' → Q (.done (.ret x)) { s with heap := h' }) :
    wpAny (model prog w) A (Builtin.«tuple_iterator.__next__» ⟨[.ref it], []⟩) Q E s := by
  wp_walk using AutoSeq1.wpAny_loadPart' h1, AutoSeq1.wpAny_loadPart' h2
  rw [Int.toNat_natCast, hx]
  refine wpAny_bind (wpAny_setField h1 rfl (by simp) (wpAny_pure (h _ ?_ (Heap.SameBut.update ..))))
  exact ⟨_, Heap.get?_update_self _ h1 rfl, rfl, by simp [Obj.mapFields, rawInt]⟩
theorem stops {α : Type} {Q : α → Shared → Prop} (hh : A.handled = none) (hE : ∀ h' e, (∀ b o, s.heap.get? b = some o → h'.get? b = some o) → (∃ o, h'.get? e = some o ∧ o.cls = .type "StopIteration") → E (.ref e) { s with heap := h' }) :
    wpAny (model prog w) A (Builtin.SmallTypes.stopIteration (α := α)) Q E s := by
  unfold Builtin.SmallTypes.stopIteration
  wp_walk
  unfold raiseNew
  refine wpAny_bind (wpAny_handled ?_)
  rw [hh]
  exact wpAny_bind (wpAny_pure (wpAny_throw (hE _ _ (fun b o e => Heap.get?_push_of_some _ (Heap.get?_push_of_some _ e)) ⟨_, Heap.get?_push_size _ rfl, rfl⟩)))
theorem tupstop (it t : Addr) (i n : Nat) (xs : Array Value) (d1 d2 : Option Addr) (l1 l2 : Array (Option Value)) (hx : xs[i]? = none) {Q : PySem.Fin → Shared → Prop} (hh : A.handled = none)
    (h1 : s.heap.get? it = some { cls := .type "tuple_iterator", dict := d1, data := .fields #[.ref t, .int i 0], slots := l1 }) (h2 : s.heap.get? t = some { cls := .type "tuple", dict := d2, data := .seq xs n, slots := l2 })
    (hE : ∀ h' e, Heap.ExtBut it s.heap h' → (∃ o, h'.get? e = some o ∧ o.cls = .type "StopIteration") → E (.ref e) { s with heap := h' }) :
    wpAny (model prog w) A (Builtin.«tuple_iterator.__next__» ⟨[.ref it], []⟩) Q E s := by
  wp_walk using AutoSeq1.wpAny_loadPart' h1, AutoSeq1.wpAny_loadPart' h2
  rw [Int.toNat_natCast, hx]
  refine wpAny_bind (wpAny_rule (wpAny_bind (wpAny_setField h1 rfl (by simp) (stops hh fun h' e k q => hE h' e (fun b o hb z => k b o ?_) q))))
  exact (Heap.get?_update_other _ _ (Ne.symm hb)).trans z
theorem tup_fields {h : Heap} {it t : Addr} {i : Nat} (x : h.IsTupleIter it t i) : ∃ d l, h.get? it = some { cls := .type "tuple_iterator", dict := d, data := .fields #[.ref t, .int i 0], slots := l } := by
  obtain ⟨⟨c, d, dt, l⟩, e, h1, h2⟩ := x
  cases h1; cases h2
  exact ⟨d, l, e⟩
theorem tup_items {h : Heap} {t : Addr} {xs : Array Value} (x : h.IsTuple t xs) : ∃ d n l, h.get? t = some { cls := .type "tuple", dict := d, data := .seq xs n, slots := l } := by
  obtain ⟨⟨c, d, dt, l⟩, e, h1, n, h2⟩ := x
  cases h1; cases h2
  exact ⟨d, n, l, e⟩
theorem drawsTuple (hh : A.handled = none) (it t : Addr) (hne : t ≠ it) (xs : Array Value) : Draws prog w A it [it, t] xs.size (fun i v => xs[i]? = some v) (fun i h => h.IsTupleIter it t i ∧ h.IsTuple t xs) where
  live := fun _ _ st => let ⟨o, ho, _⟩ := st.1; ⟨o, ho⟩
  frame := fun _ _ _ st k => ⟨st.1.at fun o e => k it (by simp) o e, st.2.at fun o e => k t (by simp) o e⟩
  item := fun i s Q E hi st hQ => by
    obtain ⟨d1, l1, h1⟩ := tup_fields st.1
    obtain ⟨d2, n, l2, h2⟩ := tup_items st.2
    have hx : xs[i]? = some xs[i] := by simp [hi]
    unfold Builtin.SmallTypes.nextOf
    refine wpAny_bind (wpAny_callSpecial?_slot (name := Str.ofString "__next__") st.1.typeIs F.slot_tuple_iterator_next (wpAny_call_entry F.slot_tuple_iterator_next st.1.typeIs F.entry_tuple_iterator_next ?_ (F.args_tuple_iterator_next_1 _)))
    exact tupnext it t i n xs xs[i] d1 d2 l1 l2 hx h1 h2 fun h' a b => ⟨_, rfl, wpAny_pure (hQ _ h' s.toks hx ⟨a, st.2.extBut b.extBut hne⟩ b)⟩
  done := fun s Q E st hE => by
    obtain ⟨d1, l1, h1⟩ := tup_fields st.1
    obtain ⟨d2, n, l2, h2⟩ := tup_items st.2
    unfold Builtin.SmallTypes.nextOf
    refine wpAny_bind (wpAny_callSpecial?_slot (name := Str.ofString "__next__") st.1.typeIs F.slot_tuple_iterator_next (wpAny_call_entry F.slot_tuple_iterator_next st.1.typeIs F.entry_tuple_iterator_next ?_ (F.args_tuple_iterator_next_1 _)))
    exact tupstop it t xs.size n xs d1 d2 l1 l2 (by simp) hh h1 h2 hE
theorem enum_new (t : Addr) (xs : Array Value) (n : Nat) (d : Option Addr) (l : Array (Option Value)) :
    Meets (Builtin.«enumerate.__new__» ⟨[.type "enumerate", .ref t], []⟩) (fun _ R s => s.heap.get? t = some { cls := .type "tuple", dict := d, data := .seq xs n, slots := l } ∧
      ∀ h', IsEnum h' (s.heap.objs.size + 1) s.heap.objs.size 0 .none → h'.IsTupleIter s.heap.objs.size t 0 → h'.objs.size = s.heap.objs.size + 2 → (∀ b o, s.heap.get? b = some o → h'.get? b = some o) → R (.ok (.ret (.ref (s.heap.objs.size + 1)))) { s with heap := h' }) :=
  .of_wp fun prog w A R s h => by
    obtain ⟨hp, g, dr, tk, os⟩ := s
    obtain ⟨h1, h⟩ := h
    have ht : Heap.IsTuple (Shared.heap ⟨hp, g, dr, tk, os⟩) t xs := ⟨_, h1, rfl, n, rfl⟩
    have hs := sub_enumerate
    have z : (hp.push { cls := .type "tuple_iterator", data := .fields #[.ref t, .int 0 0] }).objs.size = hp.objs.size + 1 := Heap.size_push ..
    have fin : R (.ok (.ret (.ref (hp.push { cls := .type "tuple_iterator", data := .fields #[.ref t, .int 0 0] }).objs.size))) ⟨(hp.push { cls := .type "tuple_iterator", data := .fields #[.ref t, .int 0 0] }).push { cls := .type "enumerate", data := .fields #[.none, .bool false, .ref hp.objs.size, rawInt 0, .none, .none] }, g, dr, tk, os⟩ := by
      rw [z]
      refine h _ ?_ ⟨_, Heap.get?_push_of_some _ (Heap.get?_push_size _ rfl), rfl, rfl⟩ (by rw [Heap.size_push, z]) fun b o q => Heap.get?_push_of_some _ (Heap.get?_push_of_some _ q)
      have q := Heap.get?_push_size (hp.push { cls := .type "tuple_iterator", data := .fields #[.ref t, .int 0 0] }) (o := { cls := .type "enumerate", data := .fields #[.none, .bool false, .ref hp.objs.size, rawInt 0, .none, .none] }) rfl
      rw [z] at q; exact q
    wp_walk using AutoSeq1.wpAny_loadPart' h1
    refine wpAny_stack_any fun st => wpAny_pure ?_
    split
    · rename_i c _ _ _ _ _
      cases (c == Value.type "enumerate") <;> (wp_walk using AutoSeq1.wpAny_loadPart' h1, wpAny_pyIter_tuple ht; exact ⟨_, rfl, fin⟩)
    · wp_walk using AutoSeq1.wpAny_loadPart' h1, wpAny_pyIter_tuple ht
      exact ⟨_, rfl, fin⟩
theorem call_enumT {t : Addr} {xs : Array Value} {Q : Value → Shared → Prop} (ht : s.heap.IsTuple t xs)
    (h : ∀ h', IsEnum h' (s.heap.objs.size + 1) s.heap.objs.size 0 .none → h'.IsTupleIter s.heap.objs.size t 0 → h'.objs.size = s.heap.objs.size + 2 → (∀ b o, s.heap.get? b = some o → h'.get? b = some o) → Q (.ref (s.heap.objs.size + 1)) { s with heap := h' }) :
    wpAny (model prog w) A (call (.type "enumerate") [.ref t]) Q E s := by
  obtain ⟨d, n, l, e⟩ := tup_items ht
  exact callType_new F.called_enumerate (by decide) (F.typeCall_enumerate_1 _) (F.newCall_enumerate_1 _) (fun obj => F.args_object_init_2 obj _) F.entry_enumerate_new (enum_new t xs n d l) ⟨e, fun h' a b c k => ⟨⟨_, a, rfl⟩, h h' a b c k⟩⟩
end
end MX
namespace MX
open PySem
section
variable {prog : Program} {w : World} {A : Around} {E : Value → Shared → Prop} {s : Shared}
theorem max0 {it S t : Addr} {c : Nat} {xs : Array Value} {x : Value} {Q : PySem.Fin → Shared → Prop} (hS : s.heap.get? S = some { cls := .type "list", dict := none, data := .seq #[] c, slots := #[] })
    (hi : s.heap.IsTupleIter it t 0) (ht : s.heap.IsTuple t xs) (hx : xs[0]? = some x) (hne : S ≠ it)
    (h : ∀ h' c', h'.get? S = some { cls := .type "list", dict := none, data := .seq #[x, x] c', slots := #[] } → h'.IsTupleIter it t 1 → (∀ b o, b ≠ it → b ≠ S → s.heap.get? b = some o → h'.get? b = some o) → Q (.again (.builtin "max.loop" ⟨[.ref it, .none, .ref S], []⟩)) { s with heap := h' }) :
    wpAny (model prog w) A (Builtin.«max.loop» ⟨[.ref it, .none, .ref S], []⟩) Q E s := by
  refine wpAny_bind (m := seqItems? (.ref S)) (wpAny_seqItems hS rfl (wpAny_bind (m := Sem.tryCatch (pyNext (.ref it)) _) (wpAny_tryCatch (wpAny_pyNext_tuple_item hi ht hx fun h' hi' k => ?_))))
  have hS' := k.extBut S _ hne hS
  refine wpAny_bind (m := updateSeq S fun _ => #[x, x]) (wpAny_updateSeq hS' rfl (wpAny_pure ?_))
  have hn : (toString "max" ++ toString ".loop" : String) = "max.loop" := by decide
  rw [hn]
  refine h _ _ (Heap.get?_update_self _ hS' rfl) (hi'.at fun o e => (Heap.get?_update_other _ _ hne).trans e) fun b o h1 h2 e => (Heap.get?_update_other _ _ (Ne.symm h2)).trans (k.extBut b o h1 e)
theorem max1 {it S t : Addr} {c : Nat} {xs : Array Value} {x y : Value} {b : Bool} {Q : PySem.Fin → Shared → Prop} (hS : s.heap.get? S = some { cls := .type "list", dict := none, data := .seq #[y, y] c, slots := #[] })
    (hi : s.heap.IsTupleIter it t 1) (ht : s.heap.IsTuple t xs) (hx : xs[1]? = some x) (hne : S ≠ it)
    (hc : ∀ (h' : Heap) (Q : Value → Shared → Prop) (E : Value → Shared → Prop), (∀ b o, b ≠ it → s.heap.get? b = some o → h'.get? b = some o) → Q (.bool b) { s with heap := h' } → wpAny (model prog w) A (richCompare .Gt x y) Q E { s with heap := h' })
    (h : ∀ h' c', h'.get? S = some { cls := .type "list", dict := none, data := .seq (if b then #[x, x] else #[y, y]) c', slots := #[] } → h'.IsTupleIter it t 2 → (∀ b o, b ≠ it → b ≠ S → s.heap.get? b = some o → h'.get? b = some o) → Q (.again (.builtin "max.loop" ⟨[.ref it, .none, .ref S], []⟩)) { s with heap := h' }) :
    wpAny (model prog w) A (Builtin.«max.loop» ⟨[.ref it, .none, .ref S], []⟩) Q E s := by
  refine wpAny_bind (m := seqItems? (.ref S)) (wpAny_seqItems hS rfl (wpAny_bind (m := Sem.tryCatch (pyNext (.ref it)) _) (wpAny_tryCatch (wpAny_pyNext_tuple_item hi ht hx fun h' hi' k => ?_))))
  have hS' := k.extBut S _ hne hS
  have hn : (toString "max" ++ toString ".loop" : String) = "max.loop" := by decide
  refine wpAny_bind (m := Sem.tryCatch (holding [x, x] (richCompare .Gt x y >>= _)) _) (wpAny_tryCatch (wpAny_holding (wpAny_bind (hc h' _ _ k.extBut ?_))))
  refine wpAny_bind (wpAny_holding (wpAny_truthy_bool (wpAny_bind (wpAny_letGo (wpAny_pure ?_)))))
  cases b with
  | true =>
    refine wpAny_bind (m := updateSeq S fun _ => #[x, x]) (wpAny_updateSeq hS' rfl (wpAny_bind (wpAny_letGo (wpAny_pure ?_))))
    rw [hn]
    exact h _ _ (Heap.get?_update_self _ hS' rfl) (hi'.at fun o e => (Heap.get?_update_other _ _ hne).trans e) fun b o h1 h2 e => (Heap.get?_update_other _ _ (Ne.symm h2)).trans (k.extBut b o h1 e)
  | false =>
    refine wpAny_bind (m := letGo [x, x]) (wpAny_letGo (wpAny_pure ?_))
    rw [hn]
    exact h _ _ hS' hi' fun b o h1 _ e => k.extBut b o h1 e
theorem max2 {it S t : Addr} {c : Nat} {xs : Array Value} {y : Value} {Q : PySem.Fin → Shared → Prop} (hh : A.handled = none) (hS : s.heap.get? S = some { cls := .type "list", dict := none, data := .seq #[y, y] c, slots := #[] })
    (hi : s.heap.IsTupleIter it t 2) (ht : s.heap.IsTuple t xs) (hx : xs[2]? = none) (hne : S ≠ it)
    (h : ∀ h', (∀ b o, b ≠ it → b ≠ S → s.heap.get? b = some o → h'.get? b = some o) → Q (.done (.ret y)) { s with heap := h' }) :
    wpAny (model prog w) A (Builtin.«max.loop» ⟨[.ref it, .none, .ref S], []⟩) Q E s := by
  refine wpAny_bind (m := seqItems? (.ref S)) (wpAny_seqItems hS rfl (wpAny_bind (m := Sem.tryCatch (pyNext (.ref it)) _) (wpAny_tryCatch (wpAny_pyNext_tuple_end hh hi ht hx fun h' k => ?_))))
  have hS' := k S _ hne hS
  refine wpAny_bind (m := updateSeq S fun _ => #[]) (wpAny_updateSeq hS' rfl (wpAny_bind (wpAny_letGo (wpAny_pure ?_))))
  exact h _ fun b o h1 h2 e => (Heap.get?_update_other _ _ (Ne.symm h2)).trans (k b o h1 e)
theorem maxloop {it S t : Addr} {c : Nat} {x y : Value} {b : Bool} {R : Result → Shared → Prop} (hh : A.handled = none) (hS : s.heap.get? S = some { cls := .type "list", dict := none, data := .seq #[] c, slots := #[] })
    (hi : s.heap.IsTupleIter it t 0) (ht : s.heap.IsTuple t #[x, y]) (hne : S ≠ it) (n2 : t ≠ it) (n3 : t ≠ S)
    (hc : ∀ (h' : Heap) (Q : Value → Shared → Prop) (E : Value → Shared → Prop), (∀ c o, c ≠ it → c ≠ S → s.heap.get? c = some o → h'.get? c = some o) → Q (.bool b) { s with heap := h' } → wpAny (model prog w) A.in1 (richCompare .Gt y x) Q E { s with heap := h' })
    (h : ∀ h', (∀ c o, c ≠ it → c ≠ S → s.heap.get? c = some o → h'.get? c = some o) → R (.ok (.ret (if b then y else x))) { s with heap := h' }) :
    codeAny (model prog w) A (.builtin "max.loop" ⟨[.ref it, .none, .ref S], []⟩) R s := by
  refine codeAny_builtin F.entry_max_loop (by
    rw [Around.under_plainId F.plain_max_loop _]
    refine max0 hS hi ht (x := x) rfl hne fun h1 c1 S1 i1 k1 => ⟨plainId_quiet F.plain_max_loop _, codeAny_builtin F.entry_max_loop ?_⟩
    rw [Around.under_plainId F.plain_max_loop _]
    have t1 : h1.IsTuple t #[x, y] := ht.at fun o e => k1 t o n2 n3 e
    refine max1 (s := { s with heap := h1 }) (b := b) S1 i1 t1 (x := y) rfl hne (fun h' Q E k q => hc h' Q E (fun c o a1 a2 e => k c o a1 (k1 c o a1 a2 e)) q) fun h2 c2 S2 i2 k2 => ⟨plainId_quiet F.plain_max_loop _, codeAny_builtin F.entry_max_loop ?_⟩
    rw [Around.under_plainId F.plain_max_loop _]
    have t2 : h2.IsTuple t #[x, y] := t1.at fun o e => k2 t o n2 n3 e
    have S2' : h2.get? S = some { cls := .type "list", dict := none, data := .seq #[(if b then y else x), (if b then y else x)] c2, slots := #[] } := by
      cases b <;> exact S2
    exact max2 (s := { s with heap := h2 }) hh S2' i2 t2 rfl hne fun h3 k3 => h h3 fun c o a1 a2 e => k3 c o a1 a2 (k2 c o a1 a2 (k1 c o a1 a2 e)))
theorem maxtwo {x y : Value} {b : Bool} {Q : Value → Shared → Prop} (hh : A.handled = none)
    (hc : ∀ (h' : Heap) (Q : Value → Shared → Prop) (E : Value → Shared → Prop), (∀ c o, s.heap.get? c = some o → h'.get? c = some o) → Q (.bool b) { s with heap := h' } → wpAny (model prog w) A.in1 (richCompare .Gt y x) Q E { s with heap := h' })
    (h : ∀ h', (∀ c o, s.heap.get? c = some o → h'.get? c = some o) → Q (if b then y else x) { s with heap := h' }) : wpAny (model prog w) A (call (.builtin "max") [x, y]) Q E s := by
  have hn : (toString "max" ++ toString ".loop" : String) = "max.loop" := by decide
  refine call_function_tree F.kind_max F.plain_max F.entry_max (F.args_max2 _ _) ?_
  refine wpAny_bind (m := Builtin.Builtins.bindParams "max" ["key", "default"] 0 ⟨[], []⟩) (wpAny_of_eq (a := [none, none]) rfl ?_)
  refine wpAny_bind (m := newTuple [x, y]) (wpAny_newObj_type ?_)
  have z1 : (s.heap.push { cls := .type "tuple", data := .seq #[x, y] }).objs.size = s.heap.objs.size + 1 := Heap.size_push ..
  have ht : (s.heap.push { cls := .type "tuple", data := .seq #[x, y] }).IsTuple s.heap.objs.size #[x, y] := ⟨_, Heap.get?_push_size _ rfl, rfl, 0, rfl⟩
  refine wpAny_bind (wpAny_pyIter_tuple ht (wpAny_bind (wpAny_newObj_type ?_)))
  rw [hn]
  refine wpAny_pure ⟨plainId_quiet F.plain_max_loop _, ?_⟩
  have z2 : ((s.heap.push { cls := .type "tuple", data := .seq #[x, y] }).push { cls := .type "tuple_iterator", data := .fields #[.ref s.heap.objs.size, .int 0 0] }).objs.size = s.heap.objs.size + 2 := by rw [Heap.size_push, z1]
  have old : ∀ (h' : Heap), (∀ c o, c ≠ (s.heap.push { cls := .type "tuple", data := .seq #[x, y] }).objs.size → c ≠ ((s.heap.push { cls := .type "tuple", data := .seq #[x, y] }).push { cls := .type "tuple_iterator", data := .fields #[.ref s.heap.objs.size, .int 0 0] }).objs.size →
      (((s.heap.push { cls := .type "tuple", data := .seq #[x, y] }).push { cls := .type "tuple_iterator", data := .fields #[.ref s.heap.objs.size, .int 0 0] }).push { cls := .type "list", data := .seq #[] }).get? c = some o → h'.get? c = some o) → ∀ c o, s.heap.get? c = some o → h'.get? c = some o := fun h' k c o e => by
    have lt := Heap.lt_size e
    exact k c o (by rw [z1]; exact Nat.ne_of_lt (Nat.lt_succ_of_lt lt)) (by rw [z2]; exact Nat.ne_of_lt (Nat.lt_succ_of_lt (Nat.lt_succ_of_lt lt))) (Heap.get?_push_of_some _ (Heap.get?_push_of_some _ (Heap.get?_push_of_some _ e)))
  refine maxloop (t := s.heap.objs.size) (x := x) (y := y) (b := b) hh (Heap.get?_push_size _ rfl) ⟨_, Heap.get?_push_of_some _ (Heap.get?_push_size _ rfl), rfl, rfl⟩ ((ht.push _).push _) ?_ ?_ ?_ (fun h' Q E k q => hc h' Q E (old h' k) q) fun h' k => h h' (old h' k)
  · show _ ≠ _
    rw [z2, z1]; exact Nat.succ_ne_self _
  · show _ ≠ _
    rw [z1]; exact Ne.symm (Nat.succ_ne_self _)
  · show _ ≠ _
    rw [z2]; exact Nat.ne_of_lt (Nat.lt_succ_of_lt (Nat.lt_succ_self _))
theorem min0 {it S t : Addr} {c : Nat} {xs : Array Value} {x : Value} {Q : PySem.Fin → Shared → Prop} (hS : s.heap.get? S = some { cls := .type "list", dict := none, data := .seq #[] c, slots := #[] })
    (hi : s.heap.IsTupleIter it t 0) (ht : s.heap.IsTuple t xs) (hx : xs[0]? = some x) (hne : S ≠ it)
    (h : ∀ h' c', h'.get? S = some { cls := .type "list", dict := none, data := .seq #[x, x] c', slots := #[] } → h'.IsTupleIter it t 1 → (∀ b o, b ≠ it → b ≠ S → s.heap.get? b = some o → h'.get? b = some o) → Q (.again (.builtin "min.loop" ⟨[.ref it, .none, .ref S], []⟩)) { s with heap := h' }) :
    wpAny (model prog w) A (Builtin.«min.loop» ⟨[.ref it, .none, .ref S], []⟩) Q E s := by
  refine wpAny_bind (m := seqItems? (.ref S)) (wpAny_seqItems hS rfl (wpAny_bind (m := Sem.tryCatch (pyNext (.ref it)) _) (wpAny_tryCatch (wpAny_pyNext_tuple_item hi ht hx fun h' hi' k => ?_))))
  have hS' := k.extBut S _ hne hS
  refine wpAny_bind (m := updateSeq S fun _ => #[x, x]) (wpAny_updateSeq hS' rfl (wpAny_pure ?_))
  have hn : (toString "min" ++ toString ".loop" : String) = "min.loop" := by decide
  rw [hn]
  refine h _ _ (Heap.get?_update_self _ hS' rfl) (hi'.at fun o e => (Heap.get?_update_other _ _ hne).trans e) fun b o h1 h2 e => (Heap.get?_update_other _ _ (Ne.symm h2)).trans (k.extBut b o h1 e)
theorem min1 {it S t : Addr} {c : Nat} {xs : Array Value} {x y : Value} {b : Bool} {Q : PySem.Fin → Shared → Prop} (hS : s.heap.get? S = some { cls := .type "list", dict := none, data := .seq #[y, y] c, slots := #[] })
    (hi : s.heap.IsTupleIter it t 1) (ht : s.heap.IsTuple t xs) (hx : xs[1]? = some x) (hne : S ≠ it)
    (hc : ∀ (h' : Heap) (Q : Value → Shared → Prop) (E : Value → Shared → Prop), (∀ b o, b ≠ it → s.heap.get? b = some o → h'.get? b = some o) → Q (.bool b) { s with heap := h' } → wpAny (model prog w) A (richCompare .Lt x y) Q E { s with heap := h' })
    (h : ∀ h' c', h'.get? S = some { cls := .type "list", dict := none, data := .seq (if b then #[x, x] else #[y, y]) c', slots := #[] } → h'.IsTupleIter it t 2 → (∀ b o, b ≠ it → b ≠ S → s.heap.get? b = some o → h'.get? b = some o) → Q (.again (.builtin "min.loop" ⟨[.ref it, .none, .ref S], []⟩)) { s with heap := h' }) :
    wpAny (model prog w) A (Builtin.«min.loop» ⟨[.ref it, .none, .ref S], []⟩) Q E s := by
  refine wpAny_bind (m := seqItems? (.ref S)) (wpAny_seqItems hS rfl (wpAny_bind (m := Sem.tryCatch (pyNext (.ref it)) _) (wpAny_tryCatch (wpAny_pyNext_tuple_item hi ht hx fun h' hi' k => ?_))))
  have hS' := k.extBut S _ hne hS
  have hn : (toString "min" ++ toString ".loop" : String) = "min.loop" := by decide
  refine wpAny_bind (m := Sem.tryCatch (holding [x, x] (richCompare .Lt x y >>= _)) _) (wpAny_tryCatch (wpAny_holding (wpAny_bind (hc h' _ _ k.extBut ?_))))
  refine wpAny_bind (wpAny_holding (wpAny_truthy_bool (wpAny_bind (wpAny_letGo (wpAny_pure ?_)))))
  cases b with
  | true =>
    refine wpAny_bind (m := updateSeq S fun _ => #[x, x]) (wpAny_updateSeq hS' rfl (wpAny_bind (wpAny_letGo (wpAny_pure ?_))))
    rw [hn]
    exact h _ _ (Heap.get?_update_self _ hS' rfl) (hi'.at fun o e => (Heap.get?_update_other _ _ hne).trans e) fun b o h1 h2 e => (Heap.get?_update_other _ _ (Ne.symm h2)).trans (k.extBut b o h1 e)
  | false =>
    refine wpAny_bind (m := letGo [x, x]) (wpAny_letGo (wpAny_pure ?_))
    rw [hn]
    exact h _ _ hS' hi' fun b o h1 _ e => k.extBut b o h1 e
theorem min2 {it S t : Addr} {c : Nat} {xs : Array Value} {y : Value} {Q : PySem.Fin → Shared → Prop} (hh : A.handled = none) (hS : s.heap.get? S = some { cls := .type "list", dict := none, data := .seq #[y, y] c, slots := #[] })
    (hi : s.heap.IsTupleIter it t 2) (ht : s.heap.IsTuple t xs) (hx : xs[2]? = none) (hne : S ≠ it)
    (h : ∀ h', (∀ b o, b ≠ it → b ≠ S → s.heap.get? b = some o → h'.get? b = some o) → Q (.done (.ret y)) { s with heap := h' }) :
    wpAny (model prog w) A (Builtin.«min.loop» ⟨[.ref it, .none, .ref S], []⟩) Q E s := by
  refine wpAny_bind (m := seqItems? (.ref S)) (wpAny_seqItems hS rfl (wpAny_bind (m := Sem.tryCatch (pyNext (.ref it)) _) (wpAny_tryCatch (wpAny_pyNext_tuple_end hh hi ht hx fun h' k => ?_))))
  have hS' := k S _ hne hS
  refine wpAny_bind (m := updateSeq S fun _ => #[]) (wpAny_updateSeq hS' rfl (wpAny_bind (wpAny_letGo (wpAny_pure ?_))))
  exact h _ fun b o h1 h2 e => (Heap.get?_update_other _ _ (Ne.symm h2)).trans (k b o h1 e)
theorem minloop {it S t : Addr} {c : Nat} {x y : Value} {b : Bool} {R : Result → Shared → Prop} (hh : A.handled = none) (hS : s.heap.get? S = some { cls := .type "list", dict := none, data := .seq #[] c, slots := #[] })
    (hi : s.heap.IsTupleIter it t 0) (ht : s.heap.IsTuple t #[x, y]) (hne : S ≠ it) (n2 : t ≠ it) (n3 : t ≠ S)
    (hc : ∀ (h' : Heap) (Q : Value → Shared → Prop) (E : Value → Shared → Prop), (∀ c o, c ≠ it → c ≠ S → s.heap.get? c = some o → h'.get? c = some o) → Q (.bool b) { s with heap := h' } → wpAny (model prog w) A.in1 (richCompare .Lt y x) Q E { s with heap := h' })
    (h : ∀ h', (∀ c o, c ≠ it → c ≠ S → s.heap.get? c = some o → h'.get? c = some o) → R (.ok (.ret (if b then y else x))) { s with heap := h' }) :
    codeAny (model prog w) A (.builtin "min.loop" ⟨[.ref it, .none, .ref S], []⟩) R s := by
  refine codeAny_builtin F.entry_min_loop (by
    rw [Around.under_plainId F.plain_min_loop _]
    refine min0 hS hi ht (x := x) rfl hne fun h1 c1 S1 i1 k1 => ⟨plainId_quiet F.plain_min_loop _, codeAny_builtin F.entry_min_loop ?_⟩
    rw [Around.under_plainId F.plain_min_loop _]
    have t1 : h1.IsTuple t #[x, y] := ht.at fun o e => k1 t o n2 n3 e
    refine min1 (s := { s with heap := h1 }) (b := b) S1 i1 t1 (x := y) rfl hne (fun h' Q E k q => hc h' Q E (fun c o a1 a2 e => k c o a1 (k1 c o a1 a2 e)) q) fun h2 c2 S2 i2 k2 => ⟨plainId_quiet F.plain_min_loop _, codeAny_builtin F.entry_min_loop ?_⟩
    rw [Around.under_plainId F.plain_min_loop _]
    have t2 : h2.IsTuple t #[x, y] := t1.at fun o e => k2 t o n2 n3 e
    have S2' : h2.get? S = some { cls := .type "list", dict := none, data := .seq #[(if b then y else x), (if b then y else x)] c2, slots := #[] } := by
      cases b <;> exact S2
    exact min2 (s := { s with heap := h2 }) hh S2' i2 t2 rfl hne fun h3 k3 => h h3 fun c o a1 a2 e => k3 c o a1 a2 (k2 c o a1 a2 (k1 c o a1 a2 e)))
theorem mintwo {x y : Value} {b : Bool} {Q : Value → Shared → Prop} (hh : A.handled = none)
    (hc : ∀ (h' : Heap) (Q : Value → Shared → Prop) (E : Value → Shared → Prop), (∀ c o, s.heap.get? c = some o → h'.get? c = some o) → Q (.bool b) { s with heap := h' } → wpAny (model prog w) A.in1 (richCompare .Lt y x) Q E { s with heap := h' })
    (h : ∀ h', (∀ c o, s.heap.get? c = some o → h'.get? c = some o) → Q (if b then y else x) { s with heap := h' }) : wpAny (model prog w) A (call (.builtin "min") [x, y]) Q E s := by
  have hn : (toString "min" ++ toString ".loop" : String) = "min.loop" := by decide
  refine call_function_tree F.kind_min F.plain_min F.entry_min (F.args_min2 _ _) ?_
  refine wpAny_bind (m := Builtin.Builtins.bindParams "min" ["key", "default"] 0 ⟨[], []⟩) (wpAny_of_eq (a := [none, none]) rfl ?_)
  refine wpAny_bind (m := newTuple [x, y]) (wpAny_newObj_type ?_)
  have z1 : (s.heap.push { cls := .type "tuple", data := .seq #[x, y] }).objs.size = s.heap.objs.size + 1 := Heap.size_push ..
  have ht : (s.heap.push { cls := .type "tuple", data := .seq #[x, y] }).IsTuple s.heap.objs.size #[x, y] := ⟨_, Heap.get?_push_size _ rfl, rfl, 0, rfl⟩
  refine wpAny_bind (wpAny_pyIter_tuple ht (wpAny_bind (wpAny_newObj_type ?_)))
  rw [hn]
  refine wpAny_pure ⟨plainId_quiet F.plain_min_loop _, ?_⟩
  have z2 : ((s.heap.push { cls := .type "tuple", data := .seq #[x, y] }).push { cls := .type "tuple_iterator", data := .fields #[.ref s.heap.objs.size, .int 0 0] }).objs.size = s.heap.objs.size + 2 := by rw [Heap.size_push, z1]
  have old : ∀ (h' : Heap), (∀ c o, c ≠ (s.heap.push { cls := .type "tuple", data := .seq #[x, y] }).objs.size → c ≠ ((s.heap.push { cls := .type "tuple", data := .seq #[x, y] }).push { cls := .type "tuple_iterator", data := .fields #[.ref s.heap.objs.size, .int 0 0] }).objs.size →
      (((s.heap.push { cls := .type "tuple", data := .seq #[x, y] }).push { cls := .type "tuple_iterator", data := .fields #[.ref s.heap.objs.size, .int 0 0] }).push { cls := .type "list", data := .seq #[] }).get? c = some o → h'.get? c = some o) → ∀ c o, s.heap.get? c = some o → h'.get? c = some o := fun h' k c o e => by
    have lt := Heap.lt_size e
    exact k c o (by rw [z1]; exact Nat.ne_of_lt (Nat.lt_succ_of_lt lt)) (by rw [z2]; exact Nat.ne_of_lt (Nat.lt_succ_of_lt (Nat.lt_succ_of_lt lt))) (Heap.get?_push_of_some _ (Heap.get?_push_of_some _ (Heap.get?_push_of_some _ e)))
  refine minloop (t := s.heap.objs.size) (x := x) (y := y) (b := b) hh (Heap.get?_push_size _ rfl) ⟨_, Heap.get?_push_of_some _ (Heap.get?_push_size _ rfl), rfl, rfl⟩ ((ht.push _).push _) ?_ ?_ ?_ (fun h' Q E k q => hc h' Q E (old h' k) q) fun h' k => h h' (old h' k)
  · show _ ≠ _
    rw [z2, z1]; exact Nat.succ_ne_self _
  · show _ ≠ _
    rw [z1]; exact Ne.symm (Nat.succ_ne_self _)
  · show _ ≠ _
    rw [z2]; exact Nat.ne_of_lt (Nat.lt_succ_of_lt (Nat.lt_succ_self _))
end
end MX
namespace MX
open PySem PyProof.Rows
section
open PySem.SeqAt
open PySem.MeetsSeq PySem.MeetsSeq2 PySem.MeetsSeq3
theorem rcGt (A : Around) (s : Shared) (a : Int) (t : Tok) (c : Int) (u : Tok) (prog : Program) (w : World) (E : Value → Shared → Prop) (Q : Value → Shared → Prop) (h : Q (.bool (decide (c < a))) s) :
    wpAny (model prog w) A (richCompare .Gt (.int a t) (.int c u)) Q E s := (gt_int h : wpAny (model prog w) A (compareOp .Gt (.int a t) (.int c u)) Q E s)
theorem lex_len : ∀ {ns ms : List Int}, (ns = [] ∨ ms = []) → HT.lexLt ms ns = decide (ms.length < ns.length)
  | [], [], _ => rfl
  | [], m :: ms, _ => by simp [HT.lexLt]
  | n :: ns, [], _ => by simp [HT.lexLt]
  | n :: ns, m :: ms, h => by rcases h with h | h <;> cases h
theorem gt_tups (l b : Addr) (xs ys : Array Value) (n k : Nat) (d e : Option Addr) (sl sm : Array (Option Value)) (ns ms : List Int) (hi : IntsAre xs.toList ns) (hj : IntsAre ys.toList ms) :
    Meets (Builtin.«tuple.__gt__» ⟨[.ref l, .ref b], []⟩) (fun _ R s => s.heap.get? l = some { cls := .type "tuple", dict := d, data := .seq xs n, slots := sl } ∧ s.heap.get? b = some { cls := .type "tuple", dict := e, data := .seq ys k, slots := sm } ∧ R (.ok (.ret (.bool (HT.lexLt ms ns)))) s) :=
  .of_wp fun prog w A R s h => by
    obtain ⟨hp, g, dr, tk, os⟩ := s
    obtain ⟨hl, hb, h⟩ := h
    have sb := AutoSeq1.sub_tuple_tuple
    have e1 : xs.size = ns.length := by rw [← hi.length, Array.length_toList]
    have e2 : ys.size = ms.length := by rw [← hj.length, Array.length_toList]
    wp_walk using AutoSeq1.wpAny_loadPart' hl, AutoSeq1.wpAny_loadPart' hb, wpAny_forIn_list _ (fun rest b s' => b.1 = none ∧ s' = ⟨hp, g, dr, tk, os⟩ ∧ ∃ vs us ps qs, rest = List.zip vs us ∧ IntsAre vs ps ∧ IntsAre us qs ∧ ps.length + ms.length = qs.length + ns.length ∧ R (.ok (.ret (.bool (HT.lexLt qs ps)))) ⟨hp, g, dr, tk, os⟩) _
    case turn =>
      rintro ⟨y, x⟩ rest b s' ⟨b0, rfl, vs, us, ps, qs, hz, h1, h2, len, hR⟩
      cases h1 with
      | nil => rw [List.zip_nil_left] at hz; cases hz
      | cons a t h1 =>
        cases h2 with
        | nil => rw [List.zip_nil_right] at hz; cases hz
        | cons c u h2 =>
          rw [List.zip_cons_cons] at hz
          obtain ⟨z1, z2⟩ := List.cons.inj hz
          cases z1
          rw [HT.lexLt_cons] at hR
          obtain ⟨q, hq, iff⟩ := HT.eqAt_int A.in1 ⟨hp, g, dr, tk, os⟩ a t c u
          refine wpAny_bind (hq prog w _ _ ?_)
          cases q with
          | true =>
            rw [if_pos (iff.mp rfl).symm] at hR
            wp_walk
            exact ⟨rfl, rfl, _, _, _, _, z2, h1, h2, by simp only [List.length_cons] at len; omega, hR⟩
          | false =>
            rw [if_neg fun z => Bool.false_ne_true (iff.mpr z.symm)] at hR
            have hri := rcGt A.in1 ⟨hp, g, dr, tk, os⟩ a t c u prog w
            wp_walk using hri
            exact ⟨_, rfl, by simpa using hR⟩
    case fin =>
      rintro ⟨b1, b2⟩ s' ⟨b0, rfl, vs, us, ps, qs, hz, h1, h2, len, hR⟩
      cases b0
      have hv : HT.lexLt qs ps = decide (ys.size < xs.size) := by
        rw [lex_len, e1, e2]
        · congr 1
          exact propext ⟨fun _ => by omega, fun _ => by omega⟩
        · cases h1 with
          | nil => exact .inl rfl
          | cons _ _ _ => cases h2 with
            | nil => exact .inr rfl
            | cons _ _ _ => rw [List.zip_cons_cons] at hz; cases hz
      rw [hv] at hR
      wp_walk
      exact ⟨_, rfl, by simpa [Builtin.Tuple.tupleCompareSizes] using hR⟩
    case h => exact ⟨rfl, rfl, xs.toList, ys.toList, ns, ms, rfl, hi, hj, by omega, h⟩
end
section
variable {prog : Program} {w : World} {A : Around} {E : Value → Shared → Prop} {s : Shared}
theorem gt_two {l b : Addr} {xs ys : Array Value} {ns ms : List Int} {Q : Value → Shared → Prop} (hl : IsTup s.heap l xs) (hb : IsTup s.heap b ys) (hi : IntsAre xs.toList ns) (hj : IntsAre ys.toList ms) (hu : A.units < cLine) (h : Q (.bool (HT.lexLt ms ns)) s) :
    wpAny (model prog w) A (compareOp .Gt (.ref l) (.ref b)) Q E s := by
  obtain ⟨d, n, sl, e⟩ := tup_items hl
  obtain ⟨d2, n2, sl2, e2⟩ := tup_items hb
  exact richCompare_meets_room (op := .Gt) ⟨_, e, rfl⟩ ⟨_, e2, rfl⟩ F.slot_tuple_gt F.entry_tuple_gt (F.args_tuple_gt_2 _ _) (gt_tups l b xs ys n n2 d d2 sl sl2 ns ms hi hj) ⟨e, e2, show Value.bool _ ≠ Value.notImplemented ∧ Q (.bool _) s from ⟨(fun z => nomatch z), h⟩⟩ hu
end
end MX
namespace L2
open PySem PySem.Spec PyProof.Rows
section
variable {X : Cx}
theorem tup_kp {h h' : Heap} {a : Addr} {its : Array Value} (x : IsTup h a its) (k : ∀ b o, h.get? b = some o → h'.get? b = some o) : IsTup h' a its := let ⟨o, e, r⟩ := x; ⟨o, k _ _ e, r⟩
noncomputable def rMaxT (K : PySem.W.Frag) : List V → Hp → VK → Prop := fun vs H Q => ∃ a b ns ms, vs = [.ref a, .ref b] ∧ SqT K H a (ns.map V.int) ∧ SqT K H b (ms.map V.int) ∧ Q (.ref (if HT.lexLt ns ms then b else a)) H
noncomputable def rMinT (K : PySem.W.Frag) : List V → Hp → VK → Prop := fun vs H Q => ∃ a b ns ms, vs = [.ref a, .ref b] ∧ SqT K H a (ns.map V.int) ∧ SqT K H b (ms.map V.int) ∧ Q (.ref (if HT.lexLt ms ns then b else a)) H
theorem call_maxT (hc : X.calm = true) (hu : X.A.units + 2 < cLine) : CallR X (.builtin "max") (rMaxT X.K) := by
  intro pins s σ H xs us Q I r h
  obtain ⟨a, b, ns, ms, rfl, ha, hb, q⟩ := h
  obtain ⟨u, w', rfl, r1, r2⟩ := vals2 r
  cases r1; cases r2
  obtain ⟨its, v1, p1, _⟩ := I.tuple ha
  obtain ⟨its2, v2, p2, _⟩ := I.tuple hb
  refine MX.maxtwo (b := HT.lexLt ns ms) (I.ok.hd hc) (fun h' Q E k z => ?_) fun h' k => ⟨.ref (if HT.lexLt ns ms then b else a), H, I.kept (t' := s.toks) k, ?_, q⟩
  · exact MX.gt_two (s := { s with heap := h' }) (A := X.A.in1) (tup_kp p2 k) (tup_kp p1 k) (intsAre_of v2) (intsAre_of v1) (by show X.A.units + 1 < cLine; omega) z
  · cases HT.lexLt ns ms <;> rfl
theorem call_minT (hc : X.calm = true) (hu : X.A.units + 2 < cLine) : CallR X (.builtin "min") (rMinT X.K) := by
  intro pins s σ H xs us Q I r h
  obtain ⟨a, b, ns, ms, rfl, ha, hb, q⟩ := h
  obtain ⟨u, w', rfl, r1, r2⟩ := vals2 r
  cases r1; cases r2
  obtain ⟨its, v1, p1, _⟩ := I.tuple ha
  obtain ⟨its2, v2, p2, _⟩ := I.tuple hb
  refine MX.mintwo (b := HT.lexLt ms ns) (I.ok.hd hc) (fun h' Q E k z => ?_) fun h' k => ⟨.ref (if HT.lexLt ms ns then b else a), H, I.kept (t' := s.toks) k, ?_, q⟩
  · exact HT.lt_tupInts (s := { s with heap := h' }) (A := X.A.in1) (tup_kp p2 k) (tup_kp p1 k) (intsAre_of v2) (intsAre_of v1) (by show X.A.units + 1 < cLine; omega) z
  · cases HT.lexLt ms ns <;> rfl
end
end L2
namespace MX
open PySem
section
variable {prog : Program} {w : World} {A : Around} {E : Value → Shared → Prop} {s : Shared}
theorem apart {h : Heap} {e it t : Addr} {i : Int} {old : Value} {j : Nat} {xs : Array Value} (he : IsEnum h e it i old) (hi : h.IsTupleIter it t j) (ht : h.IsTuple t xs) : e ≠ t ∧ t ≠ it := by
  obtain ⟨o, h1, c1, _⟩ := ht
  obtain ⟨o2, h2, c2, _⟩ := hi
  refine ⟨fun z => ?_, fun z => ?_⟩
  · subst z; rw [he] at h1; cases h1; exact absurd (show Value.type "enumerate" = Value.type "tuple" from c1) (by decide)
  · subst z; rw [h1] at h2; cases h2; rw [c1] at c2; exact absurd c2 (by decide)
theorem enumT_item {e it t : Addr} {i : Nat} {xs : Array Value} {x old : Value} {Q : Option Value → Shared → Prop} (hh : A.handled = none) (he : IsEnum s.heap e it i old) (hi : s.heap.IsTupleIter it t i) (ht : s.heap.IsTuple t xs) (hx : xs[i]? = some x) (hne : e ≠ it)
    (hQ : ∀ h' tk, IsEnumOut h' e it ((i : Int) + 1) x s.heap.objs.size → h'.IsTupleIter it t (i + 1) → h'.get? s.heap.objs.size = some { cls := .type "tuple", data := .seq #[.int i tk, x] } → h'.objs.size = s.heap.objs.size + 1 →
      (∀ b o, b ≠ e → b ≠ it → s.heap.get? b = some o → h'.get? b = some o) → Q (some (.ref s.heap.objs.size)) { s with heap := h', toks := tk + 1 }) : wpAny (model prog w) A (pyNext (.ref e)) Q E s := by
  obtain ⟨n1, n2⟩ := apart he hi ht
  have hlt : i < xs.size := by
    rcases Nat.lt_or_ge i xs.size with z | z
    · exact z
    · rw [Array.getElem?_eq_none z] at hx; cases hx
  refine wpAny_pyNext_enum_itemD (drawsTuple (A := A.in1) hh it t n2 xs) he ⟨hi, ht⟩ hlt hne (by simp [hne, n1]) fun y h' tk hy a b c d k => ?_
  rw [hx] at hy; cases hy
  exact hQ h' tk a b.1 c d k
theorem enumT_end {e it t : Addr} {i : Nat} {xs : Array Value} {old : Value} {Q : Option Value → Shared → Prop} (hh : A.handled = none) (he : IsEnum s.heap e it i old) (hi : s.heap.IsTupleIter it t i) (ht : s.heap.IsTuple t xs) (hx : i = xs.size)
    (hQ : ∀ h', Heap.ExtBut it s.heap h' → Q none { s with heap := h' }) : wpAny (model prog w) A (pyNext (.ref e)) Q E s := by
  subst hx
  exact wpAny_pyNext_enum_endD (drawsTuple (A := A.in1) hh it t (apart he hi ht).2 xs) he ⟨hi, ht⟩ hQ
end
end MX
namespace L2
open PySem PySem.Spec PyProof.Rows
section
variable {X : Cx}
noncomputable def Itet (K : PySem.W.Frag) (a : Addr) : It :=
  ⟨fun i H => ∃ xs x, SqT K H a xs ∧ xs[i]? = some x, fun i H y H' => ∃ p x, y = .ref p ∧ H p = none ∧ H' = upd H p (.tup [.int i, x]) ∧ ∀ xs, SqT K H a xs → xs[i]? = some x, fun i H => ∃ xs, SqT K H a xs ∧ i = xs.length⟩
theorem turn_enumT {P : Program} {w : World} {K : PySem.W.Frag} {elts : List Expr} {x1 : Nat} {tpos : Pos} (a e it : Addr) (hne : e ≠ it) :
    Turn P w K (.Tuple elts x1 tpos) (Itet K a) [e, it] e (fun i h => (∃ old, IsEnum h e it i old) ∧ h.IsTupleIter it a i) where
  mem := by simp
  obj := fun i h st b hb => by
    obtain ⟨⟨old, he⟩, o, ho, c, d⟩ := st
    rcases List.mem_cons.mp hb with z | z
    · subst z; exact ⟨_, he, fun v z => by cases z⟩
    · have z : b = it := by simpa using z
      subst z; exact ⟨o, ho, fun v z => by rw [d] at z; cases z⟩
  keep := fun i h h' st k => ⟨let ⟨old, he⟩ := st.1; ⟨old, k e (by simp) _ he⟩, st.2.at fun o e' => k it (by simp) o e'⟩
  item := by
    intro X hP hw hK hc i pins s σ H E I hf st hg
    subst hP hw hK
    obtain ⟨⟨old, he⟩, hit⟩ := st
    obtain ⟨xs, x, hq, hx⟩ := hg
    obtain ⟨its, rv, p, hz⟩ := I.tuple hq
    obtain ⟨u, hu, ru⟩ := rv.get hx
    obtain ⟨e0, e1, e2, e3, e4, e5⟩ := hf e (by simp)
    obtain ⟨f0, f1, f2, f3, f4, f5⟩ := hf it (by simp)
    refine MX.enumT_item (I.ok.hd hc) he hit p (x := u) (by simpa using hu) hne fun h' tk he' hit' ht' hsz' kk => ?_
    refine ⟨_, rfl, wpAny_letOwnedTupleGo_enum he' fun h2 he2 hs2 => ?_⟩
    have kb : ∀ b o, b ≠ e → b ≠ it → s.heap.get? b = some o → h2.get? b = some o := fun b o z1 z2 q => (hs2.2 b z1).trans (kk b o z1 z2 q)
    have ne : s.heap.objs.size ≠ e := Ne.symm (Nat.ne_of_lt (Heap.lt_size he))
    have nit : ∀ b u', H b = some u' → b ≠ e ∧ b ≠ it := fun b u' q => ⟨fun z => (by rw [z, e0] at q; cases q), fun z => (by rw [z, f0] at q; cases q)⟩
    have hn := I.fresh
    have ht2 : h2.get? s.heap.objs.size = some { cls := .type "tuple", data := .seq #[.int i tk, u] } := (hs2.2 _ ne).trans ht'
    have hok2 : HOk X.prog X.w (upd H s.heap.objs.size (.tup [.int i, x])) h2 := fun b u' q => by
      by_cases hb : b = s.heap.objs.size
      · subst hb; rw [upd_same] at q; cases q
        refine ⟨by show 2 ≤ sizeLine; decide, [.int i tk, u], .cons ⟨_, rfl⟩ (.cons ru .nil), ⟨_, ht2, rfl, 0, rfl⟩⟩
      · rw [upd_ne hb] at q
        refine (I.hok b u' q).stay (fun c v hcc z => ?_) (fun c z => by rw [upd_ne (ne_of_none z hn)]; exact z) fun c ys z => by rw [upd_ne (ne_of_none z hn)]; exact z
        rcases hcc with z' | z'
        · subst z'; exact kb _ _ (nit c u' q).1 (nit c u' q).2 z
        · exact kb _ _ (nit c _ z').1 (nit c _ z').2 z
    have I2 : Inv X pins σ (upd H s.heap.objs.size (.tup [.int i, x])) { s with heap := h2, toks := tk + 1 } := by
      refine I.step (g' := s.gens) (d' := s.drawn) (ch := [e, it]) (fun b hb => ?_) (fun b o _ _ hch q _ => kb b o (fun z => hch (by simp [z])) (fun z => hch (by simp [z])) q) (fun b o _ _ hch q _ => ⟨o.slots, kb b o (fun z => hch (by simp [z])) (fun z => hch (by simp [z])) q⟩)
        (fun b o hch q n => by rw [upd_ne (Nat.ne_of_lt (Heap.lt_size q))]; exact n) (fun b o hch q => ⟨o, kb b o (fun z => hch (by simp [z])) (fun z => hch (by simp [z])) q⟩)
        (fun b ys q => by rw [upd_ne (ne_of_none q hn)]; exact q) (fun b o u' q => by rw [upd_ne (ne_of_none q hn)]; exact q) (fun b ps q => ⟨#[], by rw [upd_ne (ne_of_none q hn), q]; simp⟩) (fun m hm => ?_) hok2 I.bare
      · rcases List.mem_cons.mp hb with z | z
        · subst z; exact ⟨e3, e1, e4, e5⟩
        · have z : b = it := by simpa using z
          subst z; exact ⟨f3, f1, f4, f5⟩
      · obtain ⟨o, es, ep, ho, r⟩ := hm
        exact ⟨o, es, ep, kb _ o (Ne.symm e1) (Ne.symm f1) ho, r⟩
    refine ⟨.ref s.heap.objs.size, _, I2, rfl, ⟨_, x, rfl, hn, rfl, fun ys hy => by rw [I.tuple_inj hy hq]; exact hx⟩, ⟨⟨u, by have q := he2; rwa [show ((i : Int) + 1) = ((i + 1 : Nat) : Int) by omega] at q⟩, ?_⟩, fun b hb => ?_⟩
    · exact hit'.extBut hs2.extBut (Ne.symm hne)
    · rcases List.mem_cons.mp hb with z | z
      · subst z; rw [upd_ne (Ne.symm ne)]; exact e0
      · have z : b = it := by simpa using z
        subst z
        obtain ⟨o, ho, _⟩ := id hit
        rw [upd_ne (Nat.ne_of_lt (Heap.lt_size ho))]; exact f0
  done := by
    intro X hP hw hK hc i pins s σ H E I hf st hg
    subst hP hw hK
    obtain ⟨⟨old, he⟩, hit⟩ := st
    obtain ⟨xs, hq, hx⟩ := hg
    obtain ⟨its, rv, p, hz⟩ := I.tuple hq
    obtain ⟨f0, f1, f2, f3, f4, f5⟩ := hf it (by simp)
    have hl := rv.length
    exact MX.enumT_end (I.ok.hd hc) he hit p (by simp; omega) fun h' eb => ⟨rfl, I.turned (t' := s.toks) (fun b o hb q => eb b o hb q) f0 f1 f3 f4 f5⟩
  self := fun _ _ _ _ _ st h => let ⟨_, he⟩ := st.1; wpAny_pyIter_enum he h
noncomputable def iEnumT (K : PySem.W.Frag) (ta : TA) : TI := fun σ H R => ta σ H fun vs H1 => ∃ a xs, vs = [.ref a] ∧ SqT K H1 a xs ∧ R (Itet K a) H1
theorem pi_enumT {elts : List Expr} {x1 : Nat} {tpos : Pos} {a : Expr} {ta : TA} {p pos : Pos} (hg : Gl X "enumerate") (hm : X.mg "enumerate" = none) (ha : PA X [a] ta) (hs : starEach [a] X.env = [(false, eval a X.env)] := by rfl) :
    PI X (.Tuple elts x1 tpos) (.Call (.Name "enumerate" p) [a] [] pos) (iEnumT X.K ta) := by
  intro pins s σ H R I h
  refine Call_ (ld_blt I hg hm (by first | exact PySem.boot_enumerate | rfl) (PyProof.Rows.callWith_type1 (thn (ha pos pins s σ H _ I h) fun us s1 ⟨vs, H1, I1, r1, q1⟩ => ?_) hs rfl))
  obtain ⟨l, xs, e, hq, q⟩ := q1
  subst e
  obtain ⟨u, rfl, ru⟩ := vals1 r1
  cases ru
  obtain ⟨its, rv, p, hz⟩ := I1.tuple hq
  refine MX.call_enumT p fun h' he hit hsz kk => ?_
  have I2 : Inv X pins σ H1 { s1 with heap := h' } := I1.kept (t' := s1.toks) kk
  refine wpAny_pyIter_enum he ?_
  refine ⟨s1.heap.objs.size + 1, [s1.heap.objs.size + 1, s1.heap.objs.size], _, _, H1, rfl, I2, turn_enumT l _ _ (Nat.succ_ne_self _), ⟨⟨_, he⟩, hit⟩, fun b hb => ?_, q⟩
  have hb' : s1.heap.objs.size ≤ b := by
    rcases List.mem_cons.mp hb with z | z
    · rw [z]; exact Nat.le_succ _
    · have z : b = s1.heap.objs.size := by simpa using z
      rw [z]; exact Nat.le_refl _
  exact I1.fpOk hb' (I1.hok.fresh hb')
end
end L2
namespace MX
open PySem
section
variable {prog : Program} {w : World} {A : Around} {E : Value → Shared → Prop} {s : Shared}
end
end MX
namespace L2
open PySem PySem.Spec PyProof.Rows
section
variable {X : Cx}
end
end L2
namespace Z
open PySem L2
inductive Ob where
  | dat (x : D)
  | dic (ks : List Key) (os : List Ob)
  | ins (C : Addr) (fs : List Str) (os : List Ob)
mutual
noncomputable def RepO (K : PySem.W.Frag) (H : Hp) : Ob → V → Prop
  | .dat x, v => Rep K H x v
  | .dic ks os, v => ∃ a ob vs, v = .ref a ∧ H a = some (.frz ob (.dK (ks.zip vs))) ∧ ks.length = vs.length ∧ RepOs K H os vs
  | .ins C fs os, v => ∃ a dx vs, v = .ref a ∧ H a = some (.ins C dx (fs.zip vs)) ∧ fs.length = vs.length ∧ RepOs K H os vs
noncomputable def RepOs (K : PySem.W.Frag) (H : Hp) : List Ob → List V → Prop
  | [], vs => vs = []
  | o :: os, vs => ∃ v r, vs = v :: r ∧ RepO K H o v ∧ RepOs K H os r
end
mutual
theorem RepO.same {K : PySem.W.Frag} {H H' : Hp} (e : Same H H') : ∀ {o : Ob} {v : V}, RepO K H o v → RepO K H' o v
  | .dat x, v, h => by unfold RepO at h ⊢; exact Rep.same e h
  | .dic ks os, v, h => by
    unfold RepO at h ⊢
    obtain ⟨a, ob, vs, e1, h1, h2, h3⟩ := h
    exact ⟨a, ob, vs, e1, e _ _ h1, h2, RepOs.same e h3⟩
  | .ins C fs os, v, h => by
    unfold RepO at h ⊢
    obtain ⟨a, dx, vs, e1, h1, h2, h3⟩ := h
    exact ⟨a, dx, vs, e1, e _ _ h1, h2, RepOs.same e h3⟩
theorem RepOs.same {K : PySem.W.Frag} {H H' : Hp} (e : Same H H') : ∀ {os : List Ob} {vs : List V}, RepOs K H os vs → RepOs K H' os vs
  | [], vs, h => by unfold RepOs at h ⊢; exact h
  | o :: os, vs, h => by
    unfold RepOs at h ⊢
    obtain ⟨v, r, e1, h1, h2⟩ := h
    exact ⟨v, r, e1, RepO.same e h1, RepOs.same e h2⟩
end
inductive A where
  | d (x : D)
  | p (k : Nat)
  | w (x : Ob)
noncomputable abbrev Sto := List (List D)
noncomputable abbrev Rho := List (Option A)
noncomputable abbrev FE := Rho → Sto → Option (A × Sto)
noncomputable abbrev FT := Rho → Sto → Option (Bool × Sto)
noncomputable abbrev FA := Rho → Sto → Option (List A × Sto)
noncomputable abbrev FL := Rho → Sto → Option (List D × Sto)
inductive Ctl where
  | nx (r : Rho) (s : Sto)
  | rt (v : A) (s : Sto)
  | bk (r : Rho) (s : Sto)
  | ct (r : Rho) (s : Sto)
noncomputable abbrev FS := Rho → Sto → Option Ctl
noncomputable abbrev FF := List A → Sto → Option (A × Sto)
noncomputable def lim : Nat := 1000000
theorem lim_lt : lim < sizeLine := by rw [sizeLine_eq]; decide
noncomputable def msk (m : List Addr) (H : Hp) : Hp := fun b => if b ∈ m then none else H b
section
variable {K : PySem.W.Frag} {m m' l : List Addr} {H H' H1 H2 : Hp} {S S' : Sto} {a b p : Addr} {o : HO}
theorem msk_in (h : b ∈ m) : msk m H b = none := if_pos h
theorem msk_out (h : b ∉ m) : msk m H b = H b := if_neg h
theorem msk_le : Same (msk m H) H := fun b o h => by
  by_cases hb : b ∈ m
  · rw [msk_in hb] at h; cases h
  · rw [msk_out hb] at h; exact h
theorem msk_app : Same (msk (m ++ l) H) (msk m H) := fun b o h => by
  by_cases hb : b ∈ m ++ l
  · rw [msk_in hb] at h; cases h
  · rw [msk_out hb] at h
    rw [msk_out fun z => hb (List.mem_append_left _ z)]; exact h
theorem msk_upd (h : a ∈ m) : msk m (upd H a o) = msk m H := by
  funext b
  by_cases hb : b ∈ m
  · rw [msk_in hb, msk_in hb]
  · rw [msk_out hb, msk_out hb, upd_ne fun z => hb (by rw [z]; exact h)]
theorem msk_new (h : H p = none) : Same (msk m H) (msk m (upd H p o)) := fun b u q => by
  by_cases hb : b ∈ m
  · rw [msk_in hb] at q; cases q
  · rw [msk_out hb] at q
    rw [msk_out hb, upd_ne (ne_of_none q h)]; exact q
theorem msk_newc (h : H p = none) : Same (msk m H) (msk (m ++ [p]) (upd H p o)) := fun b u q => by
  by_cases hb : b ∈ m
  · rw [msk_in hb] at q; cases q
  · rw [msk_out hb] at q
    have ne := ne_of_none q h
    rw [msk_out fun z => by rcases List.mem_append.mp z with z | z; exact hb z; exact ne (by simpa using z), upd_ne ne]; exact q
structure Wd (K : PySem.W.Frag) (m : List Addr) (S : Sto) (H : Hp) : Prop where
  len : m.length = S.length
  nd : m.Nodup
  cell : ∀ (k : Nat) (a : Addr) (ds : List D), m[k]? = some a → S[k]? = some ds → ∃ vs, H a = some (.lst vs) ∧ Reps K (msk m H) ds vs
noncomputable def RA (K : PySem.W.Frag) (m : List Addr) (H : Hp) : A → V → Prop
  | .d x, v => Rep K (msk m H) x v
  | .p k, v => ∃ a, m[k]? = some a ∧ v = .ref a
  | .w x, v => RepO K (msk m H) x v
noncomputable abbrev RAs (K : PySem.W.Frag) (m : List Addr) (H : Hp) : List A → List V → Prop := Paired (RA K m H)
structure RS (K : PySem.W.Frag) (m : List Addr) (H : Hp) (σ : St) (ρ : Rho) : Prop where
  len : σ.length = ρ.length
  at_ : ∀ (i : Nat) x, ρ[i]? = some (some x) → ∃ v, σ[i]? = some (some v) ∧ RA K m H x v
structure Xt (m : List Addr) (H : Hp) (m' : List Addr) (H' : Hp) : Prop where
  ex : ∃ l, m' = m ++ l
  sm : Same (msk m H) (msk m' H')
theorem Xt.refl : Xt m H m H := ⟨⟨[], (List.append_nil m).symm⟩, Same.refl _⟩
theorem Xt.trans {m1 m2 : List Addr} (a : Xt m H m1 H1) (b : Xt m1 H1 m2 H2) : Xt m H m2 H2 := by
  obtain ⟨l1, rfl⟩ := a.ex
  obtain ⟨l2, rfl⟩ := b.ex
  exact ⟨⟨l1 ++ l2, List.append_assoc ..⟩, a.sm.trans b.sm⟩
theorem Xt.of (s : Same (msk m H) (msk m H')) : Xt m H m H' := ⟨⟨[], (List.append_nil m).symm⟩, s⟩
theorem RA.ext (e : Xt m H m' H') : ∀ {x : A} {v : V}, RA K m H x v → RA K m' H' x v
  | .d x, v, h => Rep.same e.sm h
  | .w x, v, h => RepO.same e.sm h
  | .p k, v, ⟨a, ha, hv⟩ => by
    obtain ⟨l, rfl⟩ := e.ex
    exact ⟨a, by rw [List.getElem?_append_left (List.getElem?_eq_some_iff.mp ha).1]; exact ha, hv⟩
theorem RA.same (s : Same (msk m H) (msk m H')) {x : A} {v : V} (h : RA K m H x v) : RA K m H' x v := RA.ext (.of s) h
theorem RS.ext (e : Xt m H m' H') {σ : St} {ρ : Rho} (h : RS K m H σ ρ) : RS K m' H' σ ρ := ⟨h.len, fun i x q => let ⟨v, a, b⟩ := h.at_ i x q; ⟨v, a, b.ext e⟩⟩
theorem RS.same (s : Same (msk m H) (msk m H')) {σ : St} {ρ : Rho} (h : RS K m H σ ρ) : RS K m H' σ ρ := h.ext (.of s)
theorem RS.set {σ : St} {ρ : Rho} (h : RS K m H σ ρ) {i : Nat} {x : A} {v : V} (r : RA K m H x v) : RS K m H (σ.set i (some v)) (ρ.set i (some x)) := by
  refine ⟨by rw [List.length_set, List.length_set, h.len], fun j y q => ?_⟩
  by_cases e : i = j
  · subst e
    by_cases hi : i < ρ.length
    · rw [List.getElem?_set_self hi] at q
      cases q
      exact ⟨v, List.getElem?_set_self (by rw [h.len]; exact hi), r⟩
    · rw [List.getElem?_eq_none (by rw [List.length_set]; omega)] at q; cases q
  · rw [List.getElem?_set_ne e] at q
    rw [List.getElem?_set_ne e]
    exact h.at_ j y q
theorem Wd.new (w : Wd K m S H) (h : H p = none) : Wd K m S (upd H p o) := by
  refine ⟨w.len, w.nd, fun k a ds h1 h2 => ?_⟩
  obtain ⟨vs, e, r⟩ := w.cell k a ds h1 h2
  exact ⟨vs, by rw [upd_ne (ne_of_none e h)]; exact e, Reps.same (msk_new h) r⟩
theorem Wd.notin (w : Wd K m S H) (h : H p = none) : p ∉ m := fun hp => by
  obtain ⟨k, hk⟩ := List.getElem?_of_mem hp
  have lt : k < S.length := by rw [← w.len]; exact (List.getElem?_eq_some_iff.mp hk).1
  obtain ⟨vs, e, _⟩ := w.cell k p _ hk (List.getElem?_eq_getElem lt)
  rw [h] at e; cases e
theorem Wd.push (w : Wd K m S H) (h : H p = none) {ds : List D} {vs : List V} (r : Reps K (msk m H) ds vs) : Wd K (m ++ [p]) (S ++ [ds]) (upd H p (.lst vs)) := by
  refine ⟨by rw [List.length_append, List.length_append, w.len]; rfl, ?_, fun k a es h1 h2 => ?_⟩
  · rw [List.nodup_append]
    refine ⟨w.nd, by simp, fun a ha b hb z => ?_⟩
    have : b = p := by simpa using hb
    subst this z
    exact w.notin h ha
  · by_cases hk : k < m.length
    · rw [List.getElem?_append_left hk] at h1
      rw [List.getElem?_append_left (by rw [← w.len]; exact hk)] at h2
      obtain ⟨us, e, q⟩ := w.cell k a es h1 h2
      exact ⟨us, by rw [upd_ne (ne_of_none e h)]; exact e, Reps.same (msk_newc h) q⟩
    · have e : k = m.length := by
        have := (List.getElem?_eq_some_iff.mp h1).1
        rw [List.length_append] at this
        simp at this; omega
      subst e
      rw [List.getElem?_append_right (Nat.le_refl _), Nat.sub_self] at h1
      rw [w.len, List.getElem?_append_right (Nat.le_refl _), Nat.sub_self] at h2
      cases h1; cases h2
      exact ⟨vs, upd_same, Reps.same (msk_newc h) r⟩
theorem Wd.drop (w : Wd K (m ++ l) (S ++ S') H) (e : m.length = S.length) : Wd K m S H := by
  refine ⟨e, (List.nodup_append.mp w.nd).1, fun k a ds h1 h2 => ?_⟩
  obtain ⟨vs, q, r⟩ := w.cell k a ds (by rw [List.getElem?_append_left (List.getElem?_eq_some_iff.mp h1).1]; exact h1) (by rw [List.getElem?_append_left (List.getElem?_eq_some_iff.mp h2).1]; exact h2)
  exact ⟨vs, q, Reps.same msk_app r⟩
theorem Wd.frozen (w : Wd K (m ++ l) S H) {k : Nat} (hk : m.length ≤ k) {a : Addr} {ds : List D} (h1 : (m ++ l)[k]? = some a) (h2 : S[k]? = some ds) : Rep K (msk m H) (.lst ds) (.ref a) := by
  obtain ⟨vs, e, r⟩ := w.cell k a ds h1 h2
  have hm : a ∉ m := fun ha => by
    rw [List.getElem?_append_right hk] at h1
    exact (List.nodup_append.mp w.nd).2.2 a ha a (List.mem_of_getElem? h1) rfl
  unfold Rep
  exact ⟨a, vs, rfl, SqL.of (by rw [msk_out hm]; exact e), Reps.same msk_app r⟩
theorem Wd.set (w : Wd K m S H) {k : Nat} {a : Addr} (h1 : m[k]? = some a) {ds : List D} {vs : List V} (r : Reps K (msk m H) ds vs) : Wd K m (S.set k ds) (upd H a (.lst vs)) := by
  refine ⟨by rw [List.length_set]; exact w.len, w.nd, fun j b es q1 q2 => ?_⟩
  rw [msk_upd (List.mem_of_getElem? h1)]
  by_cases e : k = j
  · subst e
    rw [h1] at q1; cases q1
    have lt : k < S.length := by rw [← w.len]; exact (List.getElem?_eq_some_iff.mp h1).1
    rw [List.getElem?_set_self lt] at q2; cases q2
    exact ⟨vs, upd_same, r⟩
  · rw [List.getElem?_set_ne e] at q2
    obtain ⟨us, x, y⟩ := w.cell j b es q1 q2
    refine ⟨us, ?_, y⟩
    rw [upd_ne fun z => ?_]
    · exact x
    · subst z
      exact e ((List.getElem?_inj (List.getElem?_eq_some_iff.mp h1).1 w.nd).mp (h1.trans q1.symm))
end
section
variable {K : PySem.W.Frag}
noncomputable def tF (K : PySem.W.Frag) (f : FE) : TE := fun σ H Q => ∃ ρ S m, RS K m H σ ρ ∧ Wd K m S H ∧ ∃ x S', f ρ S = some (x, S') ∧ ∀ v H', Same (msk m H) (msk m H') → Wd K m S' H' → RA K m H' x v → Q v H'
noncomputable def tFT (K : PySem.W.Frag) (f : FT) : TT := fun σ H Q => ∃ ρ S m, RS K m H σ ρ ∧ Wd K m S H ∧ ∃ b S', f ρ S = some (b, S') ∧ ∀ H', Same (msk m H) (msk m H') → Wd K m S' H' → Q b H'
noncomputable def tFA (K : PySem.W.Frag) (f : FA) : TA := fun σ H Q => ∃ ρ S m, RS K m H σ ρ ∧ Wd K m S H ∧ ∃ xs S', f ρ S = some (xs, S') ∧ ∀ vs H', Same (msk m H) (msk m H') → Wd K m S' H' → RAs K m H' xs vs → Q vs H'
noncomputable def tFL (K : PySem.W.Frag) (f : FL) : TE := fun σ H Q => ∃ ρ S m, RS K m H σ ρ ∧ Wd K m S H ∧ ∃ ds S', f ρ S = some (ds, S') ∧ ∀ p H', Same (msk m H) (msk (m ++ [p]) H') → Wd K (m ++ [p]) (S' ++ [ds]) H' → Q (.ref p) H'
noncomputable abbrev QE (X : Cx) (e : Expr) (f : FE) : Prop := PE X e (tF X.K f)
noncomputable abbrev QT (X : Cx) (e : Expr) (f : FT) : Prop := PT X e (tFT X.K f)
noncomputable abbrev QA (X : Cx) (es : List Expr) (f : FA) : Prop := PA X es (tFA X.K f)
noncomputable abbrev QL (X : Cx) (e : Expr) (f : FL) : Prop := PE X e (tFL X.K f)
end
section
variable {X : Cx} {e : Expr} {es : List Expr}
theorem PE.imp {t t' : TE} (h : PE X e t) (i : ∀ σ H Q, t' σ H Q → t σ H Q) : PE X e t' := fun pins s σ H Q I q => h pins s σ H Q I (i σ H Q q)
theorem PT.imp {t t' : TT} (h : PT X e t) (i : ∀ σ H Q, t' σ H Q → t σ H Q) : PT X e t' := fun pins s σ H Q I q => h pins s σ H Q I (i σ H Q q)
theorem PW.imp {t t' : TT} (h : PW X e t) (i : ∀ σ H Q, t' σ H Q → t σ H Q) : PW X e t' := fun wh pins s σ H Q I q => h wh pins s σ H Q I (i σ H Q q)
theorem PA.imp {t t' : TA} (h : PA X es t) (i : ∀ σ H Q, t' σ H Q → t σ H Q) : PA X es t' := fun pos pins s σ H Q I q => h pos pins s σ H Q I (i σ H Q q)
theorem PS.imp {st : Stmt} {t t' : TS} (h : PS X st t) (i : ∀ D σ H, t' D σ H → t D σ H) : PS X st t' := fun pins s σ H D I q => h pins s σ H D I (i D σ H q)
theorem PSs.imp {st : List Stmt} {t t' : TS} (h : PSs X st t) (i : ∀ D σ H, t' D σ H → t D σ H) : PSs X st t' := fun pins s σ H D I q => h pins s σ H D I (i D σ H q)
theorem PG.imp {t t' : TG} (h : PG X e t) (i : ∀ v σ H Q, t' v σ H Q → t v σ H Q) : PG X e t' := fun pins s σ H v u Q I r q => h pins s σ H v u Q I r (i v σ H Q q)
theorem PGs.imp {t t' : TGs} (h : PGs X es t) (i : ∀ v σ H Q, t' v σ H Q → t v σ H Q) : PGs X es t' := fun pins s σ H v u Q I r q => h pins s σ H v u Q I r (i v σ H Q q)
theorem PI.imp {tg : Expr} {t t' : TI} (h : PI X tg e t) (i : ∀ σ H R, t' σ H R → t σ H R) : PI X tg e t' := fun pins s σ H R I q => h pins s σ H R I (i σ H R q)
@[simp] noncomputable def var (i : Nat) : FE := fun ρ S => match ρ[i]? with
  | some (some x) => some (x, S)
  | _ => none
@[simp] noncomputable def cst (x : D) : FE := fun _ S => some (.d x, S)
theorem qe_var {i : Nat} (h : PE X e (tVar i)) : QE X e (var i) := PE.imp h fun σ H Q q => by
  obtain ⟨ρ, S, m, R, W, x, S', ef, q⟩ := q
  unfold var at ef
  split at ef
  · rename_i y hy
    cases ef
    obtain ⟨v, hv, r⟩ := R.at_ i _ hy
    exact ⟨v, hv, q v H (Same.refl _) W r⟩
  · cases ef
theorem qe_cst {v : V} {x : D} (h : PE X e (tC v)) (hr : ∀ H, Rep X.K H x v) : QE X e (cst x) := PE.imp h fun σ H Q q => by
  obtain ⟨ρ, S, m, R, W, x', S', ef, q⟩ := q
  cases ef
  exact q v H (Same.refl _) W (hr _)
theorem qe_int {i : Int} {j pos} : QE X (.Constant (.int i) j pos) (cst (.int i)) := qe_cst pe_int fun _ => by unfold Rep; rfl
theorem qe_bl {b : Bool} {j pos} : QE X (.Constant (.bool b) j pos) (cst (.bl b)) := qe_cst pe_bl fun _ => by unfold Rep; rfl
theorem qv (i : Nat) {x : Str} {pos : Pos} (hN : X.N[i]? = some x := by rfl) (hv : Vis X.env.scope x := by first | exact Or.inl rfl | exact Or.inr (Or.inl rfl) | exact Or.inr (Or.inr rfl)) (hd : (x == ("__debug__" : Str)) = false := by decide)
    (hcd : (x == ("__classdict__" : Str)) = false := by decide) : QE X (.Name x pos) (var i) := qe_var (pe_var hN hv hd hcd)
noncomputable abbrev O2 := Sto → A → A → Option A
noncomputable def Fit2 (K : PySem.W.Frag) (r : R2) (o : O2) : Prop := ∀ {m : List Addr} {S : Sto} {H : Hp} {x y z : A} {v u : V} {Q : VK}, Wd K m S H → RA K m H x v → RA K m H y u → o S x y = some z → (∀ t H', Same (msk m H) (msk m H') → Wd K m S H' → RA K m H' z t → Q t H') → r v u H Q
@[simp] noncomputable def bin (o : O2) (f g : FE) : FE := fun ρ S => match f ρ S with
  | some (x, S1) => match g ρ S1 with
    | some (y, S2) => match o S2 x y with
      | some z => some (z, S2)
      | none => none
    | none => none
  | none => none
theorem fit_op {r : R2} {o : O2} {f g : FE} (hf : Fit2 X.K r o) : ∀ σ H Q, tF X.K (bin o f g) σ H Q → tOp r (tF X.K f) (tF X.K g) σ H Q := by
  rintro σ H Q ⟨ρ, S, m, R, W, z, S', ef, q⟩
  unfold bin at ef
  split at ef
  · rename_i x S1 e1
    split at ef
    · rename_i y S2 e2
      split at ef
      · rename_i z' e3
        cases ef
        exact ⟨ρ, S, m, R, W, x, _, e1, fun v H1 s1 w1 r1 => ⟨ρ, _, m, R.same s1, w1, y, _, e2, fun u H2 s2 w2 r2 => hf w2 (r1.same s2) r2 e3 fun t H3 s3 w3 r3 => q t H3 (s1.trans (s2.trans s3)) w3 r3⟩⟩
      · cases ef
    · cases ef
  · cases ef
variable {a b : Expr} {f g : FE} {pos : Pos}
theorem qe_op {op : Operator} {r : R2} {o : O2} (ho : OpR X (binaryOp op) r) (hf : Fit2 X.K r o) (ha : QE X a f) (hb : QE X b g) : QE X (.BinOp a op b pos) (bin o f g) := PE.imp (pe_op ho ha hb) (fit_op hf)
theorem qe_cmp {op : CmpOp} {r : R2} {o : O2} (ho : OpR X (compareOp op) r) (hf : Fit2 X.K r o) (ha : QE X a f) (hb : QE X b g) (hm : behindInMarks op b = false) : QE X (.Compare a [op] [b] pos) (bin o f g) := PE.imp (pe_cmpR ho ha hb hm) (fit_op hf)
theorem qe_ix {r : R2} {o : O2} (hr : IxR X r) (hf : Fit2 X.K r o) (ha : QE X a f) (hb : QE X b g) (hs : PlainIx b) : QE X (.Subscript a b pos) (bin o f g) := PE.imp (pe_ix hr ha hb hs) (fit_op hf)
@[simp] noncomputable def tst (f : FE) : FT := fun ρ S => match f ρ S with
  | some (.d (.bl b), S1) => some (b, S1)
  | _ => none
theorem tst_of {f : FE} : ∀ σ H Q, tFT X.K (tst f) σ H Q → tTest (tF X.K f) σ H Q := by
  rintro σ H Q ⟨ρ, S, m, R, W, b, S', ef, q⟩
  unfold tst at ef
  split at ef
  · rename_i k S1 e1
    cases ef
    refine ⟨ρ, S, m, R, W, _, _, e1, fun v H1 s1 w1 r1 => ?_⟩
    have r2 : Rep X.K (msk m H1) (.bl b) v := r1
    unfold Rep at r2
    exact ⟨b, r2, q H1 s1 w1⟩
  · cases ef
theorem tTest_mono {t t' : TE} (h : ∀ σ H Q, t σ H Q → t' σ H Q) : ∀ σ H Q, tTest t σ H Q → tTest t' σ H Q := fun σ H Q q => h σ H _ q
theorem qt_cmp {op : CmpOp} {r : R2} {o : O2} (ho : OpR X (compareOp op) r) (hf : Fit2 X.K r o) (ha : QE X a f) (hb : QE X b g) (hm : behindInMarks op b = false) : QT X (.Compare a [op] [b] pos) (tst (bin o f g)) :=
  PT.imp (pt_cmpR ho ha hb hm) fun σ H Q q => tTest_mono (fit_op hf) σ H Q (tst_of σ H Q q)
theorem qt_val (h : QE X e f) (he : ∀ whole, isTrue e X.env whole = (do let v ← whole; standAt e.pos; holding [v] (truthy v)) := by intro _; rfl) : QT X e (tst f) := PT.imp (pt_val h he) fun σ H Q q => tst_of σ H Q q
noncomputable abbrev O1 := Sto → A → Option A
noncomputable def Fit1 (K : PySem.W.Frag) (r : V → Hp → VK → Prop) (o : O1) : Prop := ∀ {m : List Addr} {S : Sto} {H : Hp} {x z : A} {v : V} {Q : VK}, Wd K m S H → RA K m H x v → o S x = some z → (∀ t H', Same (msk m H) (msk m H') → Wd K m S H' → RA K m H' z t → Q t H') → r v H Q
@[simp] noncomputable def un (o : O1) (f : FE) : FE := fun ρ S => match f ρ S with
  | some (x, S1) => match o S1 x with
    | some z => some (z, S1)
    | none => none
  | none => none
theorem qe_un {op : UnaryOp} {r : V → Hp → VK → Prop} {o : O1} (ho : UnR X (unaryOp op) r) (hf : Fit1 X.K r o) (ha : QE X a f) : QE X (.UnaryOp op a pos) (un o f) := PE.imp (pe_un ho ha) fun σ H Q q => by
  obtain ⟨ρ, S, m, R, W, z, S', ef, q⟩ := q
  unfold un at ef
  split at ef
  · rename_i x S1 e1
    split at ef
    · rename_i z' e3
      cases ef
      exact ⟨ρ, S, m, R, W, x, _, e1, fun v H1 s1 w1 r1 => hf w1 r1 e3 fun t H3 s3 w3 r3 => q t H3 (s1.trans s3) w3 r3⟩
    · cases ef
  · cases ef
@[simp] noncomputable def andT (f g : FT) : FT := fun ρ S => match f ρ S with
  | some (true, S1) => g ρ S1
  | some (false, S1) => some (false, S1)
  | none => none
@[simp] noncomputable def orT (f g : FT) : FT := fun ρ S => match f ρ S with
  | some (true, S1) => some (true, S1)
  | some (false, S1) => g ρ S1
  | none => none
@[simp] noncomputable def notT (f : FT) : FT := fun ρ S => match f ρ S with
  | some (b, S1) => some (!b, S1)
  | none => none
variable {tf tg : FT} {b' : Expr} {rest : List Expr}
noncomputable abbrev QW (X : Cx) (e : Expr) (f : FT) : Prop := PW X e (tFT X.K f)
theorem qw_and1 (ha : QT X a tf) : QW X (.BoolOp .And [a] pos) tf := pw_and1 ha
theorem qw_or1 (ha : QT X a tf) : QW X (.BoolOp .Or [a] pos) tf := pw_or1 ha
theorem qw_and (ha : QT X a tf) (hb : QW X (.BoolOp .And (b :: rest) pos) tg) : QW X (.BoolOp .And (a :: b :: rest) pos) (andT tf tg) := PW.imp (pw_and ha hb) fun σ H Q q => by
  obtain ⟨ρ, S, m, R, W, z, S', ef, q⟩ := q
  unfold andT at ef
  split at ef
  · rename_i S1 e1
    refine ⟨ρ, S, m, R, W, true, S1, e1, fun H1 s1 w1 => ?_⟩
    exact iteT (⟨ρ, S1, m, R.same s1, w1, z, S', ef, fun H2 s2 w2 => q H2 (s1.trans s2) w2⟩)
  · rename_i S1 e1
    cases ef
    refine ⟨ρ, S, m, R, W, false, _, e1, fun H1 s1 w1 => ?_⟩
    exact iteF (q H1 s1 w1)
  · cases ef
theorem qw_or (ha : QT X a tf) (hb : QW X (.BoolOp .Or (b :: rest) pos) tg) : QW X (.BoolOp .Or (a :: b :: rest) pos) (orT tf tg) := PW.imp (pw_or ha hb) fun σ H Q q => by
  obtain ⟨ρ, S, m, R, W, z, S', ef, q⟩ := q
  unfold orT at ef
  split at ef
  · rename_i S1 e1
    cases ef
    refine ⟨ρ, S, m, R, W, true, _, e1, fun H1 s1 w1 => ?_⟩
    exact iteT (q H1 s1 w1)
  · rename_i S1 e1
    refine ⟨ρ, S, m, R, W, false, S1, e1, fun H1 s1 w1 => ?_⟩
    exact iteF (⟨ρ, S1, m, R.same s1, w1, z, S', ef, fun H2 s2 w2 => q H2 (s1.trans s2) w2⟩)
  · cases ef
theorem QW.qt {f : FT} (h : QW X e f) : QT X e f := PW.pt h
theorem qt_not (ha : QT X a tf) : QT X (.UnaryOp .Not a pos) (notT tf) := PT.imp (pt_not ha) fun σ H Q q => by
  obtain ⟨ρ, S, m, R, W, z, S', ef, q⟩ := q
  unfold notT at ef
  split at ef
  · rename_i k S1 e1
    cases ef
    exact ⟨ρ, S, m, R, W, k, _, e1, q⟩
  · cases ef
theorem rep_bl {m : List Addr} {H : Hp} {k : Bool} {v : V} {K : PySem.W.Frag} (r : RA K m H (.d (.bl k)) v) : v = .bl k := by
  have r2 : Rep K (msk m H) (.bl k) v := r
  unfold Rep at r2; exact r2
theorem bl_rep {m : List Addr} {H : Hp} {k : Bool} {K : PySem.W.Frag} : RA K m H (.d (.bl k)) (.bl k) := by
  show Rep K (msk m H) (.bl k) (.bl k); unfold Rep; rfl
theorem qe_one {op : BoolOp} (ha : QE X a f) : QE X (.BoolOp op [a] pos) f := pe_one ha
@[simp] noncomputable def iteV (t : FT) (f g : FE) : FE := fun ρ S => match t ρ S with
  | some (true, S1) => f ρ S1
  | some (false, S1) => g ρ S1
  | none => none
theorem qe_ite {c : Expr} (hc : QT X c tf) (ha : QE X a f) (hb : QE X b g) : QE X (.IfExp c a b pos) (iteV tf f g) := PE.imp (pe_ifExp hc ha hb) fun σ H Q q => by
  obtain ⟨ρ, S, m, R, W, z, S', ef, q⟩ := q
  unfold iteV at ef
  split at ef
  · rename_i S1 e1
    refine ⟨ρ, S, m, R, W, _, S1, e1, fun H1 s1 w1 => ?_⟩
    exact iteT (⟨ρ, S1, m, R.same s1, w1, z, S', ef, fun v H2 s2 w2 r2 => q v H2 (s1.trans s2) w2 r2⟩)
  · rename_i S1 e1
    refine ⟨ρ, S, m, R, W, _, S1, e1, fun H1 s1 w1 => ?_⟩
    exact iteF (⟨ρ, S1, m, R.same s1, w1, z, S', ef, fun v H2 s2 w2 r2 => q v H2 (s1.trans s2) w2 r2⟩)
  · cases ef
end
end Z
namespace Z
open PySem L2
@[simp] noncomputable def A.get (S : Sto) : A → Option D
  | .d x => some x
  | .p k => match S[k]? with
    | some ds => some (.lst ds)
    | none => none
  | .w _ => none
@[simp] noncomputable def A.dat : A → Option D
  | .d x => some x
  | .p _ => none
  | .w _ => none
section
variable {K : PySem.W.Frag} {m m' l : List Addr} {H H' H1 H2 : Hp} {S S' : Sto} {a b p : Addr} {o : HO} {x : A} {v : V} {d : D} {ds es : List D} {vs us : List V}
theorem get_p {k : Nat} (e : A.get S (.p k) = some d) : ∃ ds, S[k]? = some ds ∧ d = .lst ds := by
  have e' : (match S[k]? with | some ds => some (D.lst ds) | none => none) = some d := e
  split at e'
  · rename_i ds h; cases e'; exact ⟨ds, h, rfl⟩
  · cases e'
theorem RA.rep (w : Wd K m S H) (r : RA K m H x v) (e : A.get S x = some d) : Rep K H d v := by
  cases x with
  | d y => cases e; exact Rep.same msk_le r
  | w y => cases e
  | p k =>
    obtain ⟨a, ha, rfl⟩ := r
    obtain ⟨ds, hd, rfl⟩ := get_p e
    obtain ⟨vs, e, q⟩ := w.cell k a ds ha hd
    unfold Rep
    exact ⟨a, vs, rfl, SqL.of e, Reps.same msk_le q⟩
theorem SqL.unm (h : SqL K (msk m H) a vs) : SqL K H a vs := Same.seq msk_le h
theorem SqT.unm (h : SqT K (msk m H) a vs) : SqT K H a vs := Same.tup msk_le h
theorem RA.lst (w : Wd K m S H) (r : RA K m H x v) (e : A.get S x = some (.lst ds)) : ∃ a vs, v = .ref a ∧ SqL K H a vs ∧ Reps K (msk m H) ds vs := by
  cases x with
  | d y =>
    cases e
    have r2 : Rep K (msk m H) (.lst ds) v := r
    unfold Rep at r2
    obtain ⟨a, vs, e, q, q2⟩ := r2
    exact ⟨a, vs, e, SqL.unm q, q2⟩
  | w y => cases e
  | p k =>
    obtain ⟨a, ha, rfl⟩ := r
    obtain ⟨es, hd, z⟩ := get_p e
    cases z
    obtain ⟨vs, e, q⟩ := w.cell k a _ ha hd
    exact ⟨a, vs, rfl, SqL.of e, q⟩
theorem get_tup (e : A.get S x = some (.tup ds)) : x = .d (.tup ds) := by
  cases x with
  | d y => cases e; rfl
  | w y => cases e
  | p k => obtain ⟨_, _, z⟩ := get_p e; cases z
theorem RA.tup (r : RA K m H x v) (e : A.get S x = some (.tup ds)) : ∃ a vs, v = .ref a ∧ SqT K H a vs ∧ Reps K (msk m H) ds vs := by
  cases get_tup e
  have r2 : Rep K (msk m H) (.tup ds) v := r
  unfold Rep at r2
  obtain ⟨a, vs, e, q, q2⟩ := r2
  exact ⟨a, vs, e, SqT.unm q, q2⟩
theorem RA.seq (w : Wd K m S H) (r : RA K m H x v) (e : A.get S x = some (.lst ds) ∨ A.get S x = some (.tup ds)) : ∃ a vs, v = .ref a ∧ (SqL K H a vs ∨ SqT K H a vs) ∧ Reps K (msk m H) ds vs := by
  rcases e with e | e
  · obtain ⟨a, vs, h1, h2, h3⟩ := r.lst w e; exact ⟨a, vs, h1, .inl h2, h3⟩
  · obtain ⟨a, vs, h1, h2, h3⟩ := r.tup e; exact ⟨a, vs, h1, .inr h2, h3⟩
theorem rep_int {i : Int} (r : RA K m H (.d (.int i)) v) : v = .int i := by
  have r2 : Rep K (msk m H) (.int i) v := r
  unfold Rep at r2; exact r2
theorem int_rep {i : Int} : RA K m H (.d (.int i)) (.int i) := by
  show Rep K (msk m H) (.int i) (.int i); unfold Rep; rfl
theorem rep_str {z : Str} (r : RA K m H (.d (.str z)) v) : v = .str z := by
  have r2 : Rep K (msk m H) (.str z) v := r
  unfold Rep at r2; exact r2
theorem str_rep {z : Str} : RA K m H (.d (.str z)) (.str z) := by
  show Rep K (msk m H) (.str z) (.str z); unfold Rep; rfl
theorem non_rep : RA K m H (.d .non) .non := by
  show Rep K (msk m H) .non .non; unfold Rep; rfl
theorem Reps.nil : Reps K H [] [] := by unfold Reps; rfl
theorem Reps.cons (h : Rep K H d v) (t : Reps K H ds vs) : Reps K H (d :: ds) (v :: vs) := by unfold Reps; exact ⟨v, vs, rfl, h, t⟩
theorem Reps.app : ∀ {ds es : List D} {vs us : List V}, Reps K H ds vs → Reps K H es us → Reps K H (ds ++ es) (vs ++ us)
  | [], es, vs, us, h, t => by unfold Reps at h; subst h; exact t
  | d :: ds, es, vs, us, h, t => by
    unfold Reps at h
    obtain ⟨v, r, rfl, h1, h2⟩ := h
    exact Reps.cons h1 (Reps.app h2 t)
theorem Reps.drop : ∀ {ds : List D} {vs : List V} (n : Nat), Reps K H ds vs → Reps K H (ds.drop n) (vs.drop n)
  | ds, vs, 0, h => h
  | [], vs, n + 1, h => by unfold Reps at h; subst h; exact Reps.nil
  | d :: ds, vs, n + 1, h => by
    unfold Reps at h
    obtain ⟨v, r, rfl, h1, h2⟩ := h
    exact Reps.drop n h2
theorem Reps.take : ∀ {ds : List D} {vs : List V} (n : Nat), Reps K H ds vs → Reps K H (ds.take n) (vs.take n)
  | ds, vs, 0, h => by rw [List.take_zero, List.take_zero]; exact Reps.nil
  | [], vs, n + 1, h => by unfold Reps at h; subst h; exact Reps.nil
  | d :: ds, vs, n + 1, h => by
    unfold Reps at h
    obtain ⟨v, r, rfl, h1, h2⟩ := h
    exact Reps.cons h1 (Reps.take n h2)
theorem Reps.put : ∀ {ds : List D} {vs : List V} (n : Nat), Reps K H ds vs → Rep K H d v → Reps K H (ds.set n d) (vs.set n v)
  | [], vs, n, h, r => by unfold Reps at h; subst h; exact Reps.nil
  | e :: ds, vs, 0, h, r => by
    unfold Reps at h
    obtain ⟨u, t, rfl, h1, h2⟩ := h
    exact Reps.cons r h2
  | e :: ds, vs, n + 1, h, r => by
    unfold Reps at h
    obtain ⟨u, t, rfl, h1, h2⟩ := h
    exact Reps.cons h1 (Reps.put n h2 r)
theorem Reps.atI {i : Int} (h : Reps K H ds vs) (e : atI ds i = some d) : ∃ v, L2.atI vs i = some v ∧ Rep K H d v := by
  unfold L2.atI at e ⊢
  rw [Reps.length h]
  cases hn : ixN ds.length i with
  | none => rw [hn] at e; cases e
  | some j =>
    rw [hn] at e
    exact Reps.at h e
theorem RAs.dats : ∀ {xs : List A} {vs : List V} {ds : List D}, RAs K m H xs vs → xs.mapM A.dat = some ds → Reps K (msk m H) ds vs
  | [], vs, ds, h, e => by
    cases h
    simp only [List.mapM_nil] at e
    cases e
    exact Reps.nil
  | x :: xs, vs, ds, h, e => by
    cases h with
    | @cons _ v _ vs r t =>
      rw [List.mapM_cons] at e
      cases x with
      | p k => cases e
      | w y => cases e
      | d y =>
        cases hm : xs.mapM A.dat with
        | none => rw [hm] at e; cases e
        | some es =>
          rw [hm] at e
          cases e
          exact Reps.cons r (RAs.dats t hm)
end
section
variable {K : PySem.W.Frag}
@[simp] noncomputable def oI (g : Int → Int → Option D) : O2 := fun _ x y => match x, y with
  | .d (.int i), .d (.int j) => match g i j with
    | some z => some (.d z)
    | none => none
  | _, _ => none
theorem oI_inv {g : Int → Int → Option D} {S : Sto} {x y z : A} (e : oI g S x y = some z) : ∃ i j c, x = .d (.int i) ∧ y = .d (.int j) ∧ g i j = some c ∧ z = .d c := by
  unfold oI at e
  split at e
  · rename_i i j
    split at e
    · rename_i c hc; cases e; exact ⟨i, j, c, rfl, rfl, hc, rfl⟩
    · cases e
  · cases e
theorem fit_I {C : Int → Int → Prop} {g : Int → Int → Option D} {h : Int → Int → Int} (hg : ∀ i j c, g i j = some c → C i j ∧ c = .int (h i j)) : Fit2 K (rI C fun i j => .int (h i j)) (oI g) := by
  intro m S H x y z v u Q w r1 r2 e q
  obtain ⟨i, j, c, rfl, rfl, hc, rfl⟩ := oI_inv e
  obtain ⟨h1, rfl⟩ := hg i j c hc
  exact ⟨i, j, rep_int r1, rep_int r2, h1, q _ H (Same.refl _) w int_rep⟩
theorem fit_I0 {g : Int → Int → Option D} {h : Int → Int → Int} (hg : ∀ i j c, g i j = some c → c = .int (h i j)) : Fit2 K (rI0 fun i j => .int (h i j)) (oI g) := by
  intro m S H x y z v u Q w r1 r2 e q
  obtain ⟨i, j, c, rfl, rfl, hc, rfl⟩ := oI_inv e
  cases hg i j c hc
  exact ⟨i, j, rep_int r1, rep_int r2, q _ H (Same.refl _) w int_rep⟩
theorem fit_B0 {g : Int → Int → Option D} {h : Int → Int → Bool} (hg : ∀ i j c, g i j = some c → c = .bl (h i j)) : Fit2 K (rI0 fun i j => .bl (h i j)) (oI g) := by
  intro m S H x y z v u Q w r1 r2 e q
  obtain ⟨i, j, c, rfl, rfl, hc, rfl⟩ := oI_inv e
  cases hg i j c hc
  exact ⟨i, j, rep_int r1, rep_int r2, q _ H (Same.refl _) w bl_rep⟩
@[simp] noncomputable def gAdd (i j : Int) : Option D := some (.int (i + j))
@[simp] noncomputable def gSub (i j : Int) : Option D := some (.int (i - j))
@[simp] noncomputable def gMul (i j : Int) : Option D := if (-18446744073709551616 < i ∧ i < 18446744073709551616) ∨ (-18446744073709551616 < j ∧ j < 18446744073709551616) then some (.int (i * j)) else none
@[simp] noncomputable def gDiv (i j : Int) : Option D := if 0 < j ∧ j < 1073741824 then some (.int (i / j)) else none
@[simp] noncomputable def gMod (i j : Int) : Option D := if 0 < j then some (.int (i % j)) else none
@[simp] noncomputable def gPow (i j : Int) : Option D := if 0 ≤ j ∧ j ≤ 1000 ∧ i.natAbs < 18446744073709551616 then some (.int (i ^ j.toNat)) else none
@[simp] noncomputable def gLt (i j : Int) : Option D := some (.bl (decide (i < j)))
@[simp] noncomputable def gLe (i j : Int) : Option D := some (.bl (decide (i ≤ j)))
@[simp] noncomputable def gGt (i j : Int) : Option D := some (.bl (decide (j < i)))
@[simp] noncomputable def gGe (i j : Int) : Option D := some (.bl (decide (j ≤ i)))
variable {X : Cx} {a b : Expr} {f g : FE} {pos : Pos}
theorem qe_add (ha : QE X a f) (hb : QE X b g) : QE X (.BinOp a .Add b pos) (bin (oI gAdd) f g) := qe_op op_add (fit_I0 fun _ _ _ e => by cases e; rfl) ha hb
theorem qe_sub (ha : QE X a f) (hb : QE X b g) : QE X (.BinOp a .Sub b pos) (bin (oI gSub) f g) := qe_op op_sub (fit_I0 fun _ _ _ e => by cases e; rfl) ha hb
theorem qe_mul (ha : QE X a f) (hb : QE X b g) : QE X (.BinOp a .Mult b pos) (bin (oI gMul) f g) := qe_op op_mul (fit_I fun i j c e => by
  unfold gMul at e
  split at e
  · rename_i h
    cases e
    exact ⟨h, rfl⟩
  · cases e) ha hb
theorem qe_fdiv (ha : QE X a f) (hb : QE X b g) : QE X (.BinOp a .FloorDiv b pos) (bin (oI gDiv) f g) := qe_op op_fdiv (fit_I fun i j c e => by
  unfold gDiv at e
  split at e
  · rename_i h; cases e; exact ⟨h, rfl⟩
  · cases e) ha hb
theorem qe_mod (ha : QE X a f) (hb : QE X b g) : QE X (.BinOp a .Mod b pos) (bin (oI gMod) f g) := qe_op op_mod (fit_I fun i j c e => by
  unfold gMod at e
  split at e
  · rename_i h; cases e; exact ⟨h, rfl⟩
  · cases e) ha hb
theorem qe_pow (ha : QE X a f) (hb : QE X b g) : QE X (.BinOp a .Pow b pos) (bin (oI gPow) f g) := qe_op op_pow (fit_I fun i j c e => by
  unfold gPow at e
  split at e
  · rename_i h; cases e; exact ⟨⟨h.1, by omega, h.2.2⟩, rfl⟩
  · cases e) ha hb
theorem fit_lt : Fit2 K (rI0 fun i j => .bl (decide (i < j))) (oI gLt) := fit_B0 fun _ _ _ e => by cases e; rfl
theorem fit_le : Fit2 K (rI0 fun i j => .bl (decide (i ≤ j))) (oI gLe) := fit_B0 fun _ _ _ e => by cases e; rfl
theorem fit_gt : Fit2 K (rI0 fun i j => .bl (decide (j < i))) (oI gGt) := fit_B0 fun _ _ _ e => by cases e; rfl
@[simp] noncomputable def oNeg : O1 := fun _ x => match x with
  | .d (.int i) => some (.d (.int (-i)))
  | _ => none
theorem fit_neg : Fit1 K (rU fun i => .int (-i)) oNeg := by
  intro m S H x z v Q w r e q
  unfold oNeg at e
  split at e
  · rename_i i; cases e; exact ⟨i, rep_int r, q _ H (Same.refl _) w int_rep⟩
  · cases e
theorem qe_neg (ha : QE X a f) : QE X (.UnaryOp .USub a pos) (un oNeg f) := qe_un un_neg fit_neg ha
@[simp] noncomputable def oEq (neg : Bool) : O2 := fun S x y => match x.get S, y.get S with
  | some d, some d' => if depD d ≤ 50 then match eqD d d' with
    | some b => some (.d (.bl (if neg then !b else b)))
    | none => none
    else none
  | _, _ => none
theorem fit_eq {neg : Bool} : Fit2 K (rEqD K neg) (oEq neg) := by
  intro m S H x y z v u Q w r1 r2 e q
  unfold oEq at e
  split at e
  · rename_i d d' h1 h2
    split at e
    · rename_i hd
      split at e
      · rename_i b hb
        cases e
        exact ⟨d, d', b, r1.rep w h1, r2.rep w h2, hd, hb, q _ H (Same.refl _) w bl_rep⟩
      · cases e
    · cases e
  · cases e
@[simp] noncomputable def oIx : O2 := fun S x y => match x.get S, y with
  | some (.lst ds), .d (.int i) => (atI ds i).map .d
  | some (.tup ds), .d (.int i) => (atI ds i).map .d
  | some (.str z), .d (.int i) => if z.length ≤ lim then (atI z.cps.toList i).map fun c => .d (.str ⟨#[c]⟩) else none
  | _, _ => none
theorem get_str {S : Sto} {x : A} {z : Str} (e : A.get S x = some (.str z)) : x = .d (.str z) := by
  cases x with
  | d y => cases e; rfl
  | w y => cases e
  | p k => obtain ⟨_, _, z⟩ := get_p e; cases z
theorem fit_ix : Fit2 K (rIx K) oIx := by
  intro m S H x y z v u Q w r1 r2 e q
  unfold oIx at e
  split at e
  · rename_i ds i h1
    cases rep_int r2
    obtain ⟨d, hd, rfl⟩ := Option.map_eq_some_iff.mp e
    obtain ⟨a, vs, rfl, hq, hr⟩ := r1.lst w h1
    obtain ⟨t, ht, hr2⟩ := Reps.atI hr hd
    exact .inl ⟨a, vs, i, t, rfl, rfl, hq, ht, q t H (Same.refl _) w hr2⟩
  · rename_i ds i h1
    cases rep_int r2
    obtain ⟨d, hd, rfl⟩ := Option.map_eq_some_iff.mp e
    obtain ⟨a, vs, rfl, hq, hr⟩ := r1.tup h1
    obtain ⟨t, ht, hr2⟩ := Reps.atI hr hd
    exact .inr (.inl ⟨a, vs, i, t, rfl, rfl, hq, ht, q t H (Same.refl _) w hr2⟩)
  · rename_i z' i h1
    split at e
    · rename_i hl
      cases get_str h1
      cases rep_int r2
      obtain ⟨d, hd, rfl⟩ := Option.map_eq_some_iff.mp e
      exact .inr (.inr ⟨z', i, d, rep_str r1, rfl, Nat.le_of_lt (Nat.lt_of_le_of_lt hl lim_lt), hd, q _ H (Same.refl _) w str_rep⟩)
    · cases e
  · cases e
theorem qe_item (ha : QE X a f) (hb : QE X b g) (hs : PlainIx b) : QE X (.Subscript a b pos) (bin oIx f g) := qe_ix ix_seq fit_ix ha hb hs
@[simp] noncomputable def D.tru : D → Option Bool
  | .non => some false
  | .bl b => some b
  | .int i => some (i != 0)
  | .str z => if z.length ≤ lim then some ((z.length : Int) != 0) else none
  | .lst ds => some (!ds.isEmpty)
  | .tup ds => some (!ds.isEmpty)
@[simp] noncomputable def truT (f : FE) : FT := fun ρ S => match f ρ S with
  | some (x, S1) => match x.get S1 with
    | some d => match D.tru d with
      | some b => some (b, S1)
      | none => none
    | none => none
  | none => none
theorem Reps.empty {H : Hp} {ds : List D} {vs : List V} (h : Reps K H ds vs) : vs.isEmpty = ds.isEmpty := by
  cases ds with
  | nil => unfold Reps at h; subst h; rfl
  | cons d r => unfold Reps at h; obtain ⟨v, t, rfl, _⟩ := h; rfl
theorem tru_of {H : Hp} {d : D} {v : V} {b : Bool} (r : Rep K H d v) (e : D.tru d = some b) : TruV K v H b := by
  cases d with
  | non => unfold Rep at r; subst r; cases e; rfl
  | bl k => unfold Rep at r; subst r; cases e; rfl
  | int i => unfold Rep at r; subst r; cases e; rfl
  | str z =>
    unfold Rep at r; subst r
    have e' : (if z.length ≤ lim then some ((z.length : Int) != 0) else none) = some b := e
    split at e'
    · rename_i hl; cases e'; exact ⟨Nat.le_of_lt (Nat.lt_of_le_of_lt hl lim_lt), rfl⟩
    · cases e'
  | lst ds =>
    unfold Rep at r; obtain ⟨a, vs, rfl, h1, h2⟩ := r
    cases e
    exact .inl ⟨vs, h1, by rw [Reps.empty h2]⟩
  | tup ds =>
    unfold Rep at r; obtain ⟨a, vs, rfl, h1, h2⟩ := r
    cases e
    exact .inr (.inl ⟨vs, h1, by rw [Reps.empty h2]⟩)
theorem qt_tru (ha : QE X a f) (he : ∀ whole, isTrue a X.env whole = (do let v ← whole; standAt a.pos; holding [v] (truthy v)) := by intro _; rfl) : QT X a (truT f) := PT.imp (pt_truth ha he) fun σ H Q q => by
  obtain ⟨ρ, S, m, R, W, b, S', ef, q⟩ := q
  unfold truT at ef
  split at ef
  · rename_i x S1 e1
    split at ef
    · rename_i d hd
      split at ef
      · rename_i k hk
        cases ef
        exact ⟨ρ, S, m, R, W, x, _, e1, fun v H1 s1 w1 r1 => ⟨b, tru_of (r1.rep w1 hd) hk, q H1 s1 w1⟩⟩
      · cases ef
    · cases ef
  · cases ef
@[simp] noncomputable def A.tru (S : Sto) (x : A) : Option Bool := match x.get S with
  | some y => D.tru y
  | none => none
theorem RA.tru {m : List Addr} {S : Sto} {H : Hp} {x : A} {v : V} {b : Bool} (w : Wd K m S H) (r : RA K m H x v) (e : A.tru S x = some b) : TruV K v H b := by
  unfold A.tru at e
  split at e
  · rename_i d hd; exact tru_of (r.rep w hd) e
  · cases e
@[simp] noncomputable def andV (f g : FE) : FE := fun ρ S => match f ρ S with
  | some (x, S1) => match x.tru S1 with
    | some true => g ρ S1
    | some false => some (x, S1)
    | none => none
  | none => none
@[simp] noncomputable def orV (f g : FE) : FE := fun ρ S => match f ρ S with
  | some (x, S1) => match x.tru S1 with
    | some true => some (x, S1)
    | some false => g ρ S1
    | none => none
  | none => none
@[simp] noncomputable def notV (f : FE) : FE := fun ρ S => match f ρ S with
  | some (x, S1) => match x.tru S1 with
    | some b => some (.d (.bl (!b)), S1)
    | none => none
  | none => none
variable {rest : List Expr}
noncomputable def tAndW (K : PySem.W.Frag) (ta tb : TE) : TE := fun σ H Q => ta σ H fun x H1 => ∃ c, TruV K x H1 c ∧ if c = true then tb σ H1 Q else Q x H1
noncomputable def tOrW (K : PySem.W.Frag) (ta tb : TE) : TE := fun σ H Q => ta σ H fun x H1 => ∃ c, TruV K x H1 c ∧ if c = true then Q x H1 else tb σ H1 Q
noncomputable def tNotW (K : PySem.W.Frag) (ta : TE) : TE := fun σ H Q => ta σ H fun x H1 => ∃ c, TruV K x H1 c ∧ Q (.bl (!c)) H1
theorem pe_andW {ta tb : TE} (ha : PE X a ta) (hb : PE X (.BoolOp .And (b :: rest) pos) tb) : PE X (.BoolOp .And (a :: b :: rest) pos) (tAndW X.K ta tb) := by
  intro pins s σ H Q I h
  refine PyProof.Rows.BoolOp_and (thn (ha pins s σ H _ I h) fun v s1 ⟨x, H1, I1, r1, c, hc, q1⟩ => ?_)
  refine thn (tru_ok pins s1 σ H1 x v (fun c H2 => if c = true then tb σ H2 Q else Q x H2) I1 r1 ⟨c, hc, q1⟩) fun k s2 ⟨H2, I2, q2⟩ => ?_
  cases k with
  | true => rw [if_pos rfl] at q2; exact hb pins s2 σ H2 Q I2 q2
  | false => rw [if_neg Bool.false_ne_true] at q2; exact ⟨x, H2, I2, r1, q2⟩
theorem pe_orW {ta tb : TE} (ha : PE X a ta) (hb : PE X (.BoolOp .Or (b :: rest) pos) tb) : PE X (.BoolOp .Or (a :: b :: rest) pos) (tOrW X.K ta tb) := by
  intro pins s σ H Q I h
  refine PyProof.Rows.BoolOp_or (thn (ha pins s σ H _ I h) fun v s1 ⟨x, H1, I1, r1, c, hc, q1⟩ => ?_)
  refine thn (tru_ok pins s1 σ H1 x v (fun c H2 => if c = true then Q x H2 else tb σ H2 Q) I1 r1 ⟨c, hc, q1⟩) fun k s2 ⟨H2, I2, q2⟩ => ?_
  cases k with
  | true => rw [if_pos rfl] at q2; exact ⟨x, H2, I2, r1, q2⟩
  | false => rw [if_neg Bool.false_ne_true] at q2; exact hb pins s2 σ H2 Q I2 q2
theorem pe_notW {ta : TE} (ha : PE X a ta) : PE X (.UnaryOp .Not a pos) (tNotW X.K ta) := by
  intro pins s σ H Q I h
  refine PyProof.Rows.UnaryOp_ (thn (ha pins s σ H _ I h) fun v s1 ⟨x, H1, I1, r1, c, hc, q1⟩ => ?_)
  exact PyProof.Rows.not_of (thn (tru_ok pins s1 σ H1 x v (fun c H2 => Q (.bl (!c)) H2) I1 r1 ⟨c, hc, q1⟩) fun k s2 ⟨H2, I2, q2⟩ => ⟨.bl (!k), H2, I2, rfl, q2⟩)
theorem qe_and (ha : QE X a f) (hb : QE X (.BoolOp .And (b :: rest) pos) g) : QE X (.BoolOp .And (a :: b :: rest) pos) (andV f g) := PE.imp (pe_andW ha hb) fun σ H Q q => by
  obtain ⟨ρ, S, m, R, W, z, S', ef, q⟩ := q
  unfold andV at ef
  split at ef
  · rename_i x S1 e1
    split at ef
    · rename_i ht
      exact ⟨ρ, S, m, R, W, x, S1, e1, fun v H1 s1 w1 r1 => ⟨true, r1.tru w1 ht, iteT ⟨ρ, S1, m, R.same s1, w1, z, S', ef, fun v H2 s2 w2 r2 => q v H2 (s1.trans s2) w2 r2⟩⟩⟩
    · rename_i ht
      cases ef
      exact ⟨ρ, S, m, R, W, _, _, e1, fun v H1 s1 w1 r1 => ⟨false, r1.tru w1 ht, iteF (q v H1 s1 w1 r1)⟩⟩
    · cases ef
  · cases ef
theorem qe_or (ha : QE X a f) (hb : QE X (.BoolOp .Or (b :: rest) pos) g) : QE X (.BoolOp .Or (a :: b :: rest) pos) (orV f g) := PE.imp (pe_orW ha hb) fun σ H Q q => by
  obtain ⟨ρ, S, m, R, W, z, S', ef, q⟩ := q
  unfold orV at ef
  split at ef
  · rename_i x S1 e1
    split at ef
    · rename_i ht
      cases ef
      exact ⟨ρ, S, m, R, W, _, _, e1, fun v H1 s1 w1 r1 => ⟨true, r1.tru w1 ht, iteT (q v H1 s1 w1 r1)⟩⟩
    · rename_i ht
      exact ⟨ρ, S, m, R, W, x, S1, e1, fun v H1 s1 w1 r1 => ⟨false, r1.tru w1 ht, iteF ⟨ρ, S1, m, R.same s1, w1, z, S', ef, fun v H2 s2 w2 r2 => q v H2 (s1.trans s2) w2 r2⟩⟩⟩
    · cases ef
  · cases ef
theorem qe_not (ha : QE X a f) : QE X (.UnaryOp .Not a pos) (notV f) := PE.imp (pe_notW ha) fun σ H Q q => by
  obtain ⟨ρ, S, m, R, W, z, S', ef, q⟩ := q
  unfold notV at ef
  split at ef
  · rename_i x S1 e1
    split at ef
    · rename_i k ht
      cases ef
      exact ⟨ρ, S, m, R, W, x, _, e1, fun v H1 s1 w1 r1 => ⟨k, r1.tru w1 ht, q _ H1 s1 w1 bl_rep⟩⟩
    · cases ef
  · cases ef
@[simp] noncomputable def aNil : FA := fun _ S => some ([], S)
@[simp] noncomputable def aCons (f : FE) (g : FA) : FA := fun ρ S => match f ρ S with
  | some (x, S1) => match g ρ S1 with
    | some (xs, S2) => some (x :: xs, S2)
    | none => none
  | none => none
variable {e : Expr} {es : List Expr} {fa : FA}
theorem qa_nil : QA X [] aNil := PA.imp pa_nil fun σ H Q q => by
  obtain ⟨ρ, S, m, R, W, xs, S', ef, q⟩ := q
  cases ef
  exact q [] H (Same.refl _) W .nil
theorem qa_cons (h : QE X e f) (hr : QA X es fa) (hs : noStar e = true := by rfl) : QA X (e :: es) (aCons f fa) := PA.imp (pac h hr hs) fun σ H Q q => by
  obtain ⟨ρ, S, m, R, W, xs, S', ef, q⟩ := q
  unfold aCons at ef
  split at ef
  · rename_i x S1 e1
    split at ef
    · rename_i ys S2 e2
      cases ef
      exact ⟨ρ, S, m, R, W, x, S1, e1, fun v H1 s1 w1 r1 => ⟨ρ, S1, m, R.same s1, w1, ys, _, e2, fun vs H2 s2 w2 r2 => q _ H2 (s1.trans s2) w2 (.cons (r1.same s2) r2)⟩⟩
    · cases ef
  · cases ef
theorem new_tup {m : List Addr} {S : Sto} {H : Hp} {p : Addr} {ds : List D} {vs : List V} (w : Wd K m S H) (h : H p = none) (r : Reps K (msk m H) ds vs) : RA K m (upd H p (.tup vs)) (.d (.tup ds)) (.ref p) := by
  show Rep K _ _ _
  unfold Rep
  exact ⟨p, vs, rfl, SqT.of (by rw [msk_out (w.notin h)]; exact upd_same), Reps.same (msk_new h) r⟩
@[simp] noncomputable def dL (f : FL) : FE := fun ρ S => match f ρ S with
  | some (ds, S1) => some (.d (.lst ds), S1)
  | none => none
theorem qe_L {fl : FL} (h : QL X e fl) : QE X e (dL fl) := PE.imp h fun σ H Q q => by
  obtain ⟨ρ, S, m, R, W, x, S', ef, q⟩ := q
  unfold dL at ef
  split at ef
  · rename_i ds S1 e1
    cases ef
    refine ⟨ρ, S, m, R, W, ds, S', e1, fun p H1 s1 w1 => ?_⟩
    have ln : m.length = S'.length := by have := w1.len; simp at this; omega
    exact q _ H1 (s1.trans msk_app) (w1.drop ln) (w1.frozen (Nat.le_refl _) (by simp) (by rw [ln]; simp))
  · cases ef
@[simp] noncomputable def tupF (f : FA) : FE := fun ρ S => match f ρ S with
  | some (xs, S1) => match xs.mapM A.dat with
    | some ds => if ds.length ≤ lim then some (.d (.tup ds), S1) else none
    | none => none
  | none => none
@[simp] noncomputable def lstF (f : FA) : FL := fun ρ S => match f ρ S with
  | some (xs, S1) => match xs.mapM A.dat with
    | some ds => if ds.length ≤ lim then some (ds, S1) else none
    | none => none
  | none => none
theorem lim_le {n : Nat} (h : n ≤ lim) : n ≤ sizeLine := Nat.le_of_lt (Nat.lt_of_le_of_lt h lim_lt)
theorem qe_tup {x1} (h : QA X es fa) : QE X (.Tuple es x1 pos) (tupF fa) := PE.imp (pe_tup h) fun σ H Q q => by
  obtain ⟨ρ, S, m, R, W, x, S', ef, q⟩ := q
  unfold tupF at ef
  split at ef
  · rename_i xs S1 e1
    split at ef
    · rename_i ds hd
      split at ef
      · rename_i hl
        cases ef
        refine ⟨ρ, S, m, R, W, xs, _, e1, fun vs H1 s1 w1 r1 => ?_⟩
        have r2 := r1.dats hd
        refine ⟨by rw [Reps.length r2]; exact lim_le hl, fun p hp => ?_⟩
        exact q _ _ (s1.trans (msk_new hp)) (w1.new hp) (new_tup w1 hp r2)
      · cases ef
    · cases ef
  · cases ef
theorem ql_lst (h : QA X es fa) : QL X (.List es pos) (lstF fa) := PE.imp (pe_lst h) fun σ H Q q => by
  obtain ⟨ρ, S, m, R, W, x, S', ef, q⟩ := q
  unfold lstF at ef
  split at ef
  · rename_i xs S1 e1
    split at ef
    · rename_i ds hd
      split at ef
      · rename_i hl
        cases ef
        refine ⟨ρ, S, m, R, W, xs, _, e1, fun vs H1 s1 w1 r1 => ?_⟩
        have r2 := r1.dats hd
        refine ⟨by rw [Reps.length r2]; exact lim_le hl, fun p hp => ?_⟩
        exact q _ _ (s1.trans (msk_newc hp)) (w1.push hp r2)
      · cases ef
    · cases ef
  · cases ef
noncomputable abbrev L2' := Sto → A → A → Option (List D)
noncomputable def FitL2 (K : PySem.W.Frag) (r : R2) (o : L2') : Prop := ∀ {m : List Addr} {S : Sto} {H : Hp} {x y : A} {ds : List D} {v u : V} {Q : VK}, Wd K m S H → RA K m H x v → RA K m H y u → o S x y = some ds → (∀ p H', Same (msk m H) (msk (m ++ [p]) H') → Wd K (m ++ [p]) (S ++ [ds]) H' → Q (.ref p) H') → r v u H Q
@[simp] noncomputable def binL (o : L2') (f g : FE) : FL := fun ρ S => match f ρ S with
  | some (x, S1) => match g ρ S1 with
    | some (y, S2) => match o S2 x y with
      | some z => some (z, S2)
      | none => none
    | none => none
  | none => none
theorem fit_opL {r : R2} {o : L2'} (hf : FitL2 X.K r o) : ∀ σ H Q, tFL X.K (binL o f g) σ H Q → tOp r (tF X.K f) (tF X.K g) σ H Q := by
  rintro σ H Q ⟨ρ, S, m, R, W, z, S', ef, q⟩
  unfold binL at ef
  split at ef
  · rename_i x S1 e1
    split at ef
    · rename_i y S2 e2
      split at ef
      · rename_i z' e3
        cases ef
        exact ⟨ρ, S, m, R, W, x, S1, e1, fun v H1 s1 w1 r1 => ⟨ρ, S1, m, R.same s1, w1, y, _, e2, fun u H2 s2 w2 r2 => hf w2 (r1.same s2) r2 e3 fun p H3 s3 w3 => q p H3 (s1.trans (s2.trans s3)) w3⟩⟩
      · cases ef
    · cases ef
  · cases ef
noncomputable def rCatS (K : PySem.W.Frag) : R2 := fun x y H Q => ∃ l b xs zs, x = .ref l ∧ y = .ref b ∧ SqL K H l xs ∧ SqL K H b zs ∧ xs.length + zs.length ≤ sizeLine ∧ ∀ p, H p = none → Q (.ref p) (upd H p (.lst (xs ++ zs)))
end
end Z
namespace Z
open PySem L2
section
variable {K : PySem.W.Frag}
noncomputable def Out (K : PySem.W.Frag) (m : List Addr) (H : Hp) (D : Ends) : Ctl → Prop
  | .nx ρ' S' => ∀ σ' H' m', Xt m H m' H' → RS K m' H' σ' ρ' → Wd K m' S' H' → D.nx σ' H'
  | .rt x S' => ∀ v H' m', Xt m H m' H' → Wd K m' S' H' → RA K m' H' x v → D.rt v H'
  | .bk ρ' S' => ∀ σ' H' m', Xt m H m' H' → RS K m' H' σ' ρ' → Wd K m' S' H' → D.bk σ' H'
  | .ct ρ' S' => ∀ σ' H' m', Xt m H m' H' → RS K m' H' σ' ρ' → Wd K m' S' H' → D.ct σ' H'
theorem Out.step {m m1 : List Addr} {H H1 : Hp} {D : Ends} (e : Xt m H m1 H1) : ∀ {c : Ctl}, Out K m H D c → Out K m1 H1 D c
  | .nx _ _, h => fun σ' H' m' x r w => h σ' H' m' (e.trans x) r w
  | .rt _ _, h => fun v H' m' x w r => h v H' m' (e.trans x) w r
  | .bk _ _, h => fun σ' H' m' x r w => h σ' H' m' (e.trans x) r w
  | .ct _ _, h => fun σ' H' m' x r w => h σ' H' m' (e.trans x) r w
noncomputable def tSF (K : PySem.W.Frag) (F : FS) : TS := fun D σ H => ∃ ρ S m, RS K m H σ ρ ∧ Wd K m S H ∧ ∃ c, F ρ S = some c ∧ Out K m H D c
noncomputable abbrev QS (X : Cx) (st : Stmt) (F : FS) : Prop := PS X st (tSF X.K F)
noncomputable abbrev QSs (X : Cx) (st : List Stmt) (F : FS) : Prop := PSs X st (tSF X.K F)
end
section
variable {X : Cx} {st : Stmt} {rest : List Stmt} {F G : FS} {pos : Pos} {e : Expr} {f : FE}
@[simp] noncomputable def sNil : FS := fun ρ S => some (.nx ρ S)
@[simp] noncomputable def sSeq (F G : FS) : FS := fun ρ S => match F ρ S with
  | some (.nx ρ' S') => G ρ' S'
  | r => r
theorem qss_nil : QSs X [] sNil := PSs.imp pss_nil fun D σ H q => by
  obtain ⟨ρ, S, m, R, W, c, ef, o⟩ := q
  cases ef
  exact o σ H m Xt.refl R W
theorem seq_of {D : Ends} {σ : St} {H : Hp} (q : tSF X.K (sSeq F G) D σ H) : tSeq (tSF X.K F) (tSF X.K G) D σ H := by
  obtain ⟨ρ, S, m, R, W, c, ef, o⟩ := q
  unfold sSeq at ef
  split at ef
  · rename_i ρ' S' e1
    exact ⟨ρ, S, m, R, W, _, e1, fun σ' H' m' x r w => ⟨ρ', S', m', r, w, c, ef, o.step x⟩⟩
  · rename_i hn
    refine ⟨ρ, S, m, R, W, c, ef, ?_⟩
    cases c with
    | nx a b => exact absurd ef (hn a b)
    | rt a b => exact o
    | bk a b => exact o
    | ct a b => exact o
theorem qss_cons {b : List Stmt} (eb : b = st :: rest) (h1 : QS X st F) (h2 : QSs X rest G) : QSs X b (sSeq F G) := PSs.imp (pssc eb h1 h2) fun D σ H q => seq_of q
theorem qss_one {b : List Stmt} (eb : b = [st]) (h1 : QS X st F) : QSs X b F := psso eb h1
@[simp] noncomputable def sRet (f : FE) : FS := fun ρ S => match f ρ S with
  | some (x, S1) => some (.rt x S1)
  | none => none
theorem qs_ret (he : QE X e f) : QS X (.Return (some e) pos) (sRet f) := PS.imp (ps_ret he) fun D σ H q => by
  obtain ⟨ρ, S, m, R, W, c, ef, o⟩ := q
  unfold sRet at ef
  split at ef
  · rename_i x S1 e1
    cases ef
    exact ⟨ρ, S, m, R, W, x, S1, e1, fun v H' s w r => o v H' m (.of s) w r⟩
  · cases ef
@[simp] noncomputable def sRetN : FS := fun _ S => some (.rt (.d .non) S)
@[simp] noncomputable def sBreak : FS := fun ρ S => some (.bk ρ S)
@[simp] noncomputable def sCont : FS := fun ρ S => some (.ct ρ S)
@[simp] noncomputable def sIf (t : FT) (F G : FS) : FS := fun ρ S => match t ρ S with
  | some (true, S1) => F ρ S1
  | some (false, S1) => G ρ S1
  | none => none
theorem qs_if {c : Expr} {a b : List Stmt} {t : FT} (hc : QT X c t) (ha : QSs X a F) (hb : QSs X b G) : QS X (.If c a b pos) (sIf t F G) := PS.imp (ps_if hc ha hb) fun D σ H q => by
  obtain ⟨ρ, S, m, R, W, c, ef, o⟩ := q
  unfold sIf at ef
  split at ef
  · rename_i S1 e1
    exact ⟨ρ, S, m, R, W, true, S1, e1, fun H1 s1 w1 => iteT ⟨ρ, S1, m, R.same s1, w1, c, ef, o.step (.of s1)⟩⟩
  · rename_i S1 e1
    exact ⟨ρ, S, m, R, W, false, S1, e1, fun H1 s1 w1 => iteF ⟨ρ, S1, m, R.same s1, w1, c, ef, o.step (.of s1)⟩⟩
  · cases ef
@[simp] noncomputable def sExpr (f : FE) : FS := fun ρ S => match f ρ S with
  | some (_, S1) => some (.nx ρ S1)
  | none => none
noncomputable abbrev FG := D → Rho → Option Rho
noncomputable abbrev FGs := List D → Rho → Option Rho
noncomputable def tGF (K : PySem.W.Frag) (g : FG) : TG := fun v σ H Q => ∃ d ρ S m, Rep K (msk m H) d v ∧ RS K m H σ ρ ∧ Wd K m S H ∧ ∃ ρ', g d ρ = some ρ' ∧ ∀ σ', RS K m H σ' ρ' → Q σ' H
noncomputable def tGsF (K : PySem.W.Frag) (g : FGs) : TGs := fun vs σ H Q => ∃ ds ρ S m, Reps K (msk m H) ds vs ∧ RS K m H σ ρ ∧ Wd K m S H ∧ ∃ ρ', g ds ρ = some ρ' ∧ ∀ σ', RS K m H σ' ρ' → Q σ' H
noncomputable abbrev QG (X : Cx) (e : Expr) (g : FG) : Prop := PG X e (tGF X.K g)
noncomputable abbrev QGs (X : Cx) (es : List Expr) (g : FGs) : Prop := PGs X es (tGsF X.K g)
@[simp] noncomputable def gN (i : Nat) : FG := fun d ρ => some (ρ.set i (some (.d d)))
@[simp] noncomputable def gsNil : FGs := fun ds ρ => match ds with
  | [] => some ρ
  | _ => none
@[simp] noncomputable def gsCons (g : FG) (h : FGs) : FGs := fun ds ρ => match ds with
  | d :: r => match g d ρ with
    | some ρ1 => h r ρ1
    | none => none
  | [] => none
@[simp] noncomputable def gT (n : Nat) (g : FGs) : FG := fun d ρ => match d with
  | .tup ds => if ds.length = n then g ds ρ else none
  | _ => none
theorem qg_name {i : Nat} {x : Str} (hN : X.N.Nodup) (hi : X.N[i]? = some x) (hx : Loc X.env.scope x) (hf : X.fn x = true ∨ X.env.scope.names.lookup x = some .local := by first | exact .inl rfl | exact .inr rfl | assumption) : QG X (.Name x pos) (gN i) :=
  PG.imp (pg_name hN hi hx hf) fun v σ H Q q => by
    obtain ⟨d, ρ, S, m, rd, R, W, ρ', eg, q⟩ := q
    cases eg
    exact q _ (R.set (x := .d d) rd)
theorem qgs_nil : QGs X [] gsNil := PGs.imp pgs_nil fun v σ H Q q => by
  obtain ⟨ds, ρ, S, m, rd, R, W, ρ', eg, q⟩ := q
  unfold gsNil at eg
  split at eg
  · cases eg
    unfold Reps at rd
    exact ⟨rd, q σ R⟩
  · cases eg
theorem qgs_cons {es : List Expr} {g : FG} {h : FGs} (h1 : QG X e g) (h2 : QGs X es h) (hs : (assignEach (e :: es) X.env).map (·.2) = assign e X.env :: (assignEach es X.env).map (·.2) := by rfl) : QGs X (e :: es) (gsCons g h) := PGs.imp (pgs_cons h1 h2 hs) fun v σ H Q q => by
  obtain ⟨ds, ρ, S, m, rd, R, W, ρ', eg, q⟩ := q
  unfold gsCons at eg
  split at eg
  · rename_i d r
    split at eg
    · rename_i ρ1 e1
      unfold Reps at rd
      obtain ⟨u, us, rfl, r1, r2⟩ := rd
      exact ⟨u, us, rfl, d, ρ, S, m, r1, R, W, ρ1, e1, fun σ1 R1 => ⟨r, ρ1, S, m, r2, R1, W, ρ', eg, q⟩⟩
    · cases eg
  · cases eg
theorem qg_tup {es : List Expr} {k : Nat} {g : FGs} {n : Nat} (hc : X.calm = true) (h : QGs X es g) (hn : (assignEach es X.env).length = n := by rfl) (hst : (assignEach es X.env).findIdx? (·.1) = none := by rfl) : QG X (.Tuple es k pos) (gT n g) :=
  PG.imp (pg_tup hc h hn hst) fun v σ H Q q => by
    obtain ⟨d, ρ, S, m, rd, R, W, ρ', eg, q⟩ := q
    unfold gT at eg
    split at eg
    · rename_i ds
      split at eg
      · rename_i hl
        unfold Rep at rd
        obtain ⟨a, xs, rfl, h1, h2⟩ := rd
        exact ⟨a, xs, rfl, SqT.unm h1, by rw [Reps.length h2]; exact hl, ds, ρ, S, m, h2, R, W, ρ', eg, q⟩
      · cases eg
    · cases eg
@[simp] noncomputable def sAsg (f : FE) (g : FG) : FS := fun ρ S => match f ρ S with
  | some (.d x, S1) => match g x ρ with
    | some ρ' => some (.nx ρ' S1)
    | none => none
  | _ => none
theorem qs_asg {tg : Expr} {g : FG} (he : QE X e f) (hg : QG X tg g) (hs : swapsWithSole [tg] e pos.line X.env = pure false := by rfl) (hw : swappedStores [tg] e X.env = pure none := by rfl)
    (h1 : (assignEach [tg] X.env).map (·.2) = [assign tg X.env] := by rfl) : QS X (.Assign [tg] e pos) (sAsg f g) := PS.imp (ps_asg he hg hs hw h1) fun D σ H q => by
  obtain ⟨ρ, S, m, R, W, c, ef, o⟩ := q
  unfold sAsg at ef
  split at ef
  · rename_i x S1 e1
    split at ef
    · rename_i ρ' e2
      cases ef
      exact ⟨ρ, S, m, R, W, .d x, _, e1, fun v H' s w r => ⟨x, ρ, _, m, r, R.same s, w, ρ', e2, fun σ' R' => o σ' H' m (.of s) R' w⟩⟩
    · cases ef
  · cases ef
@[simp] noncomputable def sSet (i : Nat) (f : FE) : FS := fun ρ S => match f ρ S with
  | some (x, S1) => some (.nx (ρ.set i (some x)) S1)
  | none => none
theorem qs_set {i : Nat} {x : Str} {pos' : Pos} (hN : X.N.Nodup) (hi : X.N[i]? = some x) (hx : Loc X.env.scope x) (he : QE X e f) (hs : swapsWith e (some (.Name x pos')) pos.line X.env = pure false := by rfl) (hf : X.fn x = true ∨ X.env.scope.names.lookup x = some .local := by first | exact .inl rfl | exact .inr rfl | assumption) :
    QS X (.Assign [.Name x pos'] e pos) (sSet i f) := PS.imp (ps_set hN hi hx he hs hf) fun D σ H q => by
  obtain ⟨ρ, S, m, R, W, c, ef, o⟩ := q
  unfold sSet at ef
  split at ef
  · rename_i y S1 e1
    cases ef
    exact ⟨ρ, S, m, R, W, y, _, e1, fun v H' s w r => o _ H' m (.of s) ((R.same s).set r) w⟩
  · cases ef
@[simp] noncomputable def sNew (i : Nat) (f : FL) : FS := fun ρ S => match f ρ S with
  | some (ds, S1) => some (.nx (ρ.set i (some (.p S1.length))) (S1 ++ [ds]))
  | none => none
theorem qs_new {i : Nat} {x : Str} {pos' : Pos} {fl : FL} (hN : X.N.Nodup) (hi : X.N[i]? = some x) (hx : Loc X.env.scope x) (he : QL X e fl) (hs : swapsWith e (some (.Name x pos')) pos.line X.env = pure false := by rfl) (hf : X.fn x = true ∨ X.env.scope.names.lookup x = some .local := by first | exact .inl rfl | exact .inr rfl | assumption) :
    QS X (.Assign [.Name x pos'] e pos) (sNew i fl) := PS.imp (ps_set hN hi hx he hs hf) fun D σ H q => by
  obtain ⟨ρ, S, m, R, W, c, ef, o⟩ := q
  unfold sNew at ef
  split at ef
  · rename_i ds S1 e1
    cases ef
    refine ⟨ρ, S, m, R, W, ds, _, e1, fun p H' s w => ?_⟩
    have xt : Xt m H (m ++ [p]) H' := ⟨⟨[p], rfl⟩, s⟩
    have ln : m.length = S1.length := by have := w.len; simp at this; omega
    exact o _ H' (m ++ [p]) xt ((R.ext xt).set (x := .p S1.length) ⟨p, by rw [← ln]; simp, rfl⟩) w
  · cases ef
@[simp] noncomputable def sApp (f g : FE) : FS := fun ρ S => match f ρ S with
  | some (.p k, S1) => match g ρ S1 with
    | some (.d y, S2) => match S2[k]? with
      | some ds => if ds.length < lim then some (.nx ρ (S2.set k (ds ++ [y]))) else none
      | none => none
    | _ => none
  | _ => none
variable {a b : Expr} {g : FE}
theorem cell_at {K : PySem.W.Frag} {m : List Addr} {S : Sto} {H : Hp} {k : Nat} {v : V} (w : Wd K m S H) (r : RA K m H (.p k) v) {ds : List D} (e : S[k]? = some ds) : ∃ l vs, v = .ref l ∧ m[k]? = some l ∧ H l = some (.lst vs) ∧ Reps K (msk m H) ds vs := by
  obtain ⟨l, hl, rfl⟩ := r
  obtain ⟨vs, h1, h2⟩ := w.cell k l ds hl e
  exact ⟨l, vs, rfl, hl, h1, h2⟩
theorem qs_app {apos cpos : Pos} (ha : QE X a f) (hb : QE X b g)
    (hbase : attributeBase a "append" X.env (eval a X.env) = eval a X.env := by rfl)
    (hfew : ((backTo cpos (starEach [b] X.env)).all (fun x => !x.1) && (backToKw cpos (keywordEach [] X.env)).all (fun x => x.1.isSome)
      && decide (([b] : List Expr).length + ([] : List Keyword).length + (if ([] : List Keyword).isEmpty then 0 else 1) < 30)) = true := by rfl)
    (hline : (apos.endLine == cpos.line) = true := by rfl) (hs1 : starEach [b] X.env = (false, eval b X.env) :: starEach [] X.env := by rfl) (hplain : (backTo cpos (starEach [] X.env)).any (·.1) = false := by rfl) (hst : noStar b = true := by rfl)
    (hs : swapsWith (.Call (.Attribute a "append" apos) [b] [] cpos) none pos.line X.env = pure false := by rfl) :
    QS X (.Expr (.Call (.Attribute a "append" apos) [b] [] cpos) pos) (sApp f g) := PS.imp (ps_expr (pe_bm PySem.F.plainAttrs_list PySem.F.slot_list_append PySem.F.type_list_append mt_append ha (pac hb pa_nil hst) hbase hfew hline hs1 hplain) hs) fun D σ H q => by
  obtain ⟨ρ, S, m, R, W, c, ef, o⟩ := q
  unfold sApp at ef
  split at ef
  · rename_i k S1 e1
    split at ef
    · rename_i y S2 e2
      split at ef
      · rename_i ds hk
        split at ef
        · rename_i hl
          cases ef
          refine ⟨ρ, S, m, R, W, _, S1, e1, fun v H1 s1 w1 r1 => ?_⟩
          have r1' := r1
          obtain ⟨l0, hl0, rfl⟩ := r1'
          have lt0 : k < S1.length := by rw [← w1.len]; exact (List.getElem?_eq_some_iff.mp hl0).1
          obtain ⟨vs0, h0, _⟩ := w1.cell k l0 _ hl0 (List.getElem?_eq_getElem lt0)
          refine ⟨.inl ⟨rfl, vs0, SqL.of h0⟩, ρ, S1, m, R.same s1, w1, _, S2, e2, fun u H2 s2 w2 r2 => ?_⟩
          obtain ⟨l, vs, hv, hm, h1, h2⟩ := cell_at w2 (r1.same s2) hk
          cases hv
          refine ⟨l0, vs, u, rfl, rfl, h1, by rw [Reps.length h2]; exact Nat.lt_trans hl lim_lt, ?_⟩
          have mm : msk m (upd H2 l0 (.lst (vs ++ [u]))) = msk m H2 := msk_upd (List.mem_of_getElem? hl0)
          have ss : Same (msk m H) (msk m (upd H2 l0 (.lst (vs ++ [u])))) := by rw [mm]; exact s1.trans s2
          exact o σ _ m (.of ss) (R.same ss) (w2.set hl0 (Reps.snoc h2 r2))
        · cases ef
      · cases ef
    · cases ef
  · cases ef
@[simp] noncomputable def sPut (f g h : FE) : FS := fun ρ S => match f ρ S with
  | some (.d v, S0) => match g ρ S0 with
    | some (.p k, S1) => match h ρ S1 with
      | some (.d (.int i), S2) => match S2[k]? with
        | some ds => match ixN ds.length i with
          | some j => some (.nx ρ (S2.set k (ds.set j v)))
          | none => none
        | none => none
      | _ => none
    | _ => none
  | _ => none
theorem qs_put {h : FE} {pos' : Pos} (he : QE X e f) (ha : QE X a g) (hb : QE X b h)
    (hpg : ∀ v, assign (.Subscript a b pos') X.env v = (do
      let ov ← holding [v] (eval a X.env)
      let iv ← holding [v, ov] (eval b X.env)
      standAt pos'
      holding [v, ov, iv] (setItem ov iv v)
      release [v, ov, iv] []) := by intro _; rfl)
    (hs : swapsWithSole [.Subscript a b pos'] e pos.line X.env = pure false := by rfl) (hw : swappedStores [.Subscript a b pos'] e X.env = pure none := by rfl)
    (h1 : (assignEach [.Subscript a b pos'] X.env).map (·.2) = [assign (.Subscript a b pos') X.env] := by rfl) :
    QS X (.Assign [.Subscript a b pos'] e pos) (sPut f g h) := PS.imp (ps_asg he (pg_sub ha hb set_list hpg) hs hw h1) fun D σ H q => by
  obtain ⟨ρ, S, m, R, W, c, ef, o⟩ := q
  unfold sPut at ef
  split at ef
  · rename_i v S0 e0
    split at ef
    · rename_i k S1 e1
      split at ef
      · rename_i i S2 e2
        split at ef
        · rename_i ds hk
          split at ef
          · rename_i j hj
            cases ef
            refine ⟨ρ, S, m, R, W, _, S0, e0, fun v0 H0 s0 w0 r0 => ⟨ρ, S0, m, R.same s0, w0, _, S1, e1, fun v1 H1 s1 w1 r1 => ⟨ρ, S1, m, (R.same s0).same s1, w1, _, S2, e2, fun v2 H2 s2 w2 r2 => ?_⟩⟩⟩
            obtain ⟨l, vs, rfl, hm, h3, h4⟩ := cell_at w2 (r1.same s2) hk
            cases rep_int r2
            refine ⟨l, vs, i, j, rfl, rfl, h3, by rw [Reps.length h4]; exact hj, ?_⟩
            have mm : msk m (upd H2 l (.lst (vs.set j v0))) = msk m H2 := msk_upd (List.mem_of_getElem? hm)
            have ss : Same (msk m H) (msk m (upd H2 l (.lst (vs.set j v0)))) := by rw [mm]; exact s0.trans (s1.trans s2)
            exact o σ _ m (.of ss) (R.same ss) (w2.set hm (Reps.put j h4 ((r0.same s1).same s2)))
          · cases ef
        · cases ef
      · cases ef
    · cases ef
  · cases ef
end
section
variable {K : PySem.W.Frag}
structure ItOk (K : PySem.W.Frag) (m : List Addr) (H : Hp) (J : It) (ds : List D) : Prop where
  go : ∀ m1 H1 i, Xt m H m1 H1 → i < ds.length → J.go i H1
  stop : ∀ m1 H1, Xt m H m1 H1 → J.stop ds.length H1
  yld : ∀ m1 H1 S (i : Nat) d x H2, Xt m H m1 H1 → Wd K m1 S H1 → ds[i]? = some d → J.yld i H1 x H2 → Same (msk m1 H1) (msk m1 H2) ∧ Wd K m1 S H2 ∧ Rep K (msk m1 H2) d x
noncomputable def tFI (K : PySem.W.Frag) (f : FL) : TI := fun σ H R => ∃ ρ S m, RS K m H σ ρ ∧ Wd K m S H ∧ ∃ ds S', f ρ S = some (ds, S') ∧ ∀ J H', Same (msk m H) (msk m H') → Wd K m S' H' → ItOk K m H' J ds → R J H'
noncomputable abbrev QI (X : Cx) (tg e : Expr) (f : FL) : Prop := PI X tg e (tFI X.K f)
end
section
variable {X : Cx} {tg e : Expr} {f : FE} {pos : Pos}
@[simp] noncomputable def iSq (f : FE) : FL := fun ρ S => match f ρ S with
  | some (.d (.lst ds), S1) => some (ds, S1)
  | some (.d (.tup ds), S1) => some (ds, S1)
  | _ => none
theorem itl_ok {K : PySem.W.Frag} {m : List Addr} {H : Hp} {a : Addr} {vs : List V} {ds : List D} (h : SqL K (msk m H) a vs) (r : Reps K (msk m H) ds vs) (inj : True) : ItOk K m H (Itl K a) ds where
  go := fun m1 H1 i x hi => by
    have h1 := SqL.unm (Same.seq x.sm h)
    have hi' : i < vs.length := by rw [Reps.length r]; exact hi
    exact ⟨vs, vs[i], h1, List.getElem?_eq_getElem hi'⟩
  stop := fun m1 H1 x => ⟨vs, SqL.unm (Same.seq x.sm h), Nat.le_of_eq (Reps.length r)⟩
  yld := fun m1 H1 S i d y H2 x w hd hy => by
    obtain ⟨rfl, hy⟩ := hy
    have hv := hy vs (SqL.unm (Same.seq x.sm h))
    obtain ⟨d', hd', rd⟩ := Reps.get r hv
    rw [hd] at hd'; cases hd'
    exact ⟨Same.refl _, w, Rep.same x.sm rd⟩
theorem itt_ok {K : PySem.W.Frag} {m : List Addr} {H : Hp} {a : Addr} {vs : List V} {ds : List D} (h : SqT K (msk m H) a vs) (r : Reps K (msk m H) ds vs) : ItOk K m H (Itt K a) ds where
  go := fun m1 H1 i x hi => by
    have hi' : i < vs.length := by rw [Reps.length r]; exact hi
    exact ⟨vs, vs[i], SqT.unm (Same.tup x.sm h), List.getElem?_eq_getElem hi'⟩
  stop := fun m1 H1 x => ⟨vs, SqT.unm (Same.tup x.sm h), Nat.le_of_eq (Reps.length r)⟩
  yld := fun m1 H1 S i d y H2 x w hd hy => by
    obtain ⟨rfl, hy⟩ := hy
    have hv := hy vs (SqT.unm (Same.tup x.sm h))
    obtain ⟨d', hd', rd⟩ := Reps.get r hv
    rw [hd] at hd'; cases hd'
    exact ⟨Same.refl _, w, Rep.same x.sm rd⟩
theorem qi_seq (he : QE X e f) : QI X tg e (iSq f) := PI.imp (pi_seq he) fun σ H R q => by
  obtain ⟨ρ, S, m, RS', W, ds, S', ef, q⟩ := q
  unfold iSq at ef
  split at ef
  · rename_i es S1 e1
    cases ef
    refine ⟨ρ, S, m, RS', W, _, _, e1, fun v H' s w r => ?_⟩
    have r2 : Rep X.K (msk m H') (.lst ds) v := r
    unfold Rep at r2
    obtain ⟨a, vs, rfl, h1, h2⟩ := r2
    exact ⟨a, rfl, .inl ⟨⟨vs, SqL.unm h1⟩, q _ H' s w (itl_ok h1 h2 trivial)⟩⟩
  · rename_i es S1 e1
    cases ef
    refine ⟨ρ, S, m, RS', W, _, _, e1, fun v H' s w r => ?_⟩
    have r2 : Rep X.K (msk m H') (.tup ds) v := r
    unfold Rep at r2
    obtain ⟨a, vs, rfl, h1, h2⟩ := r2
    exact ⟨a, rfl, .inr ⟨⟨vs, SqT.unm h1⟩, q _ H' s w (itt_ok h1 h2)⟩⟩
  · cases ef
noncomputable def rng (n : Nat) : List D := (List.range n).map fun (i : Nat) => D.int (i : Int)
@[simp] noncomputable def iRg (f : FE) : FL := fun ρ S => match f ρ S with
  | some (.d (.int j), S1) => if -1000000 < j ∧ j < 1000000 then some (rng j.toNat, S1) else none
  | _ => none
theorem itr_ok {K : PySem.W.Frag} {m : List Addr} {H : Hp} {n : Nat} : ItOk K m H (Itr 0 n) (rng n) where
  go := fun m1 H1 i x hi => by
    show i < n
    simpa [rng] using hi
  stop := fun m1 H1 x => by simp [rng, Itr]
  yld := fun m1 H1 S i d y H2 x w hd hy => by
    obtain ⟨rfl, rfl⟩ := hy
    have hi : i < n := by have := (List.getElem?_eq_some_iff.mp hd).1; simpa [rng] using this
    have : d = .int (i : Int) := by
      unfold rng at hd
      rw [List.getElem?_map, List.getElem?_range hi] at hd
      exact (Option.some.inj hd).symm
    subst this
    refine ⟨Same.refl _, w, ?_⟩
    rw [Int.zero_add]
    unfold Rep; rfl
theorem qi_range {p : Pos} (hg : Gl X "range") (hm : X.mg "range" = none) (he : QE X e f) (hst : noStar e = true := by rfl) (hs : starEach [e] X.env = [(false, eval e X.env)] := by rfl) : QI X tg (.Call (.Name "range" p) [e] [] pos) (iRg f) :=
  PI.imp (pi_range1 hg hm (pac he pa_nil hst) hs) fun σ H R q => by
    obtain ⟨ρ, S, m, RS', W, ds, S', ef, q⟩ := q
    unfold iRg at ef
    split at ef
    · rename_i j S1 e1
      split at ef
      · rename_i hj
        cases ef
        refine ⟨ρ, S, m, RS', W, _, _, e1, fun v H' s w r => ?_⟩
        cases rep_int r
        exact ⟨j, rfl, by omega, by omega, q _ H' s w itr_ok⟩
      · cases ef
    · cases ef
@[simp] noncomputable def forF (g : FG) (b : FS) : List D → FS
  | [], ρ, S => some (.nx ρ S)
  | d :: ds, ρ, S => match g d ρ with
    | some ρ1 => match b ρ1 S with
      | some (.nx ρ2 S2) => forF g b ds ρ2 S2
      | some (.ct ρ2 S2) => forF g b ds ρ2 S2
      | some (.bk ρ2 S2) => some (.nx ρ2 S2)
      | some (.rt v S2) => some (.rt v S2)
      | none => none
    | none => none
@[simp] noncomputable def sFor (fi : FL) (g : FG) (b : FS) : FS := fun ρ S => match fi ρ S with
  | some (ds, S1) => forF g b ds ρ S1
  | none => none
theorem for_of {K : PySem.W.Frag} {J : It} {g : FG} {b : FS} {D' : Ends} {ds : List D} {m : List Addr} {H : Hp} (io : ItOk K m H J ds) {c : Ctl} (o : Out K m H D' c) :
    ∀ i m1 σ1 H1, (∃ ρ1 S1, i ≤ ds.length ∧ Xt m H m1 H1 ∧ RS K m1 H1 σ1 ρ1 ∧ Wd K m1 S1 H1 ∧ forF g b (ds.drop i) ρ1 S1 = some c) →
      (J.stop i H1 ∧ D'.nx σ1 H1) ∨ (J.go i H1 ∧ ∃ N : St → Hp → Prop, (∀ σ' H', N σ' H' → i < ds.length ∧ ∃ m' ρ' S', i + 1 ≤ ds.length ∧ Xt m H m' H' ∧ RS K m' H' σ' ρ' ∧ Wd K m' S' H' ∧ forF g b (ds.drop (i + 1)) ρ' S' = some c) ∧
        ∀ x H', J.yld i H1 x H' → tGF K g x σ1 H' fun σ2 H2 => tSF K b { D' with nx := N, ct := N, bk := D'.nx } σ2 H2) := by
  rintro i m1 σ1 H1 ⟨ρ1, S1, hi, x, R, W, ef⟩
  by_cases hlt : i < ds.length
  · refine .inr ⟨io.go m1 H1 i x hlt, fun σ' H' => ∃ m' ρ' S', i + 1 ≤ ds.length ∧ Xt m H m' H' ∧ RS K m' H' σ' ρ' ∧ Wd K m' S' H' ∧ forF g b (ds.drop (i + 1)) ρ' S' = some c, fun σ' H' h => ⟨hlt, h⟩, fun y H2 hy => ?_⟩
    obtain ⟨s2, w2, rd⟩ := io.yld m1 H1 S1 i ds[i] y H2 x W (List.getElem?_eq_getElem hlt) hy
    rw [List.drop_eq_getElem_cons hlt] at ef
    unfold forF at ef
    split at ef
    · rename_i ρ2 e2
      refine ⟨ds[i], ρ1, S1, m1, rd, R.same s2, w2, ρ2, e2, fun σ2 R2 => ?_⟩
      have x2 : Xt m H m1 H2 := x.trans (.of s2)
      split at ef
      · rename_i ρ3 S3 e3
        exact ⟨ρ2, S1, m1, R2, w2, _, e3, fun σ' H' m' x3 R3 W3 => ⟨m', ρ3, S3, hlt, x2.trans x3, R3, W3, ef⟩⟩
      · rename_i ρ3 S3 e3
        exact ⟨ρ2, S1, m1, R2, w2, _, e3, fun σ' H' m' x3 R3 W3 => ⟨m', ρ3, S3, hlt, x2.trans x3, R3, W3, ef⟩⟩
      · rename_i ρ3 S3 e3
        cases ef
        exact ⟨ρ2, S1, m1, R2, w2, _, e3, fun σ' H' m' x3 R3 W3 => o σ' H' m' (x2.trans x3) R3 W3⟩
      · rename_i v S3 e3
        cases ef
        exact ⟨ρ2, S1, m1, R2, w2, _, e3, fun u H' m' x3 W3 r3 => o u H' m' (x2.trans x3) W3 r3⟩
      · cases ef
    · cases ef
  · have e : i = ds.length := by omega
    subst e
    rw [List.drop_length] at ef
    unfold forF at ef
    cases ef
    exact .inl ⟨io.stop m1 H1 x, o σ1 H1 m1 x R W⟩
theorem qs_for {iter : Expr} {body : List Stmt} {fi : FL} {g : FG} {b : FS} (hp : PassesOwn (model X.prog X.w) X.A X.env X.xe) (hc : X.calm = true) (hi : QI X tg iter fi) (hg : QG X tg g) (hb : QSs X body b)
    (hs : ∀ x, foldedSetIterable iter X.env x = pure x := by intro _; rfl) : QS X (.For tg iter body [] pos) (sFor fi g b) :=
  PS.imp (ps_for hp hc hi hg hb hs) fun D' σ H q => by
    obtain ⟨ρ, S, m, R, W, c, ef, o⟩ := q
    unfold sFor at ef
    split at ef
    · rename_i ds S1 e1
      refine ⟨ρ, S, m, R, W, ds, S1, e1, fun J H' s w io => ?_⟩
      have o' := o.step (.of s)
      refine ⟨fun i n σ1 H1 => n = ds.length - i ∧ ∃ m1 ρ1 S1, i ≤ ds.length ∧ Xt m H' m1 H1 ∧ RS X.K m1 H1 σ1 ρ1 ∧ Wd X.K m1 S1 H1 ∧ forF g b (ds.drop i) ρ1 S1 = some c, ⟨_, rfl, m, ρ, S1, Nat.zero_le _, Xt.refl, R.same s, w, ef⟩, ?_⟩
      rintro i n σ1 H1 ⟨rfl, m1, ρ1, S2, h⟩
      rcases for_of io o' i m1 σ1 H1 ⟨ρ1, S2, h⟩ with hl | ⟨hgo, N, hN, hy⟩
      · exact .inl hl
      · refine .inr ⟨hgo, N, fun σ' H2 hn => ?_, hy⟩
        obtain ⟨hlt, m', ρ', S', h'⟩ := hN σ' H2 hn
        exact ⟨ds.length - (i + 1), by omega, rfl, m', ρ', S', h'⟩
    · cases ef
end
end Z
namespace Z
open PySem L2
section
variable {X : Cx} {e : Expr}
noncomputable abbrev QTs (X : Cx) (es : List Expr) (f : FT) : Prop := PTs X es (tFT X.K f)
@[simp] noncomputable def tYs : FT := fun _ S => some (true, S)
theorem PTs.imp {es : List Expr} {t t' : TT} (h : PTs X es t) (i : ∀ σ H Q, t' σ H Q → t σ H Q) : PTs X es t' := fun pins s σ H Q I q => h pins s σ H Q I (i σ H Q q)
theorem qts_nil : QTs X [] tYs := PTs.imp pts_nil fun σ H Q q => by
  obtain ⟨ρ, S, m, R, W, b, S', ef, q⟩ := q
  cases ef
  exact q H (Same.refl _) W
theorem qts_one {t : FT} (h : QT X e t) : QTs X [e] t := pts_one h
noncomputable def blkR (ρ : Rho) (n : Nat) (js : List Nat) : Rho := List.replicate n none ++ js.map fun j => (ρ[j]?).getD none
@[simp] noncomputable def lcF (g : FG) (t : FT) (f : FE) (c : Nat) : List D → Rho → Sto → Option Sto
  | [], _, S => some S
  | d :: ds, ρ, S => match g d ρ with
    | some ρ1 => match t ρ1 S with
      | some (true, S1) => match f ρ1 S1 with
        | some (.d y, S2) => match S2[c]? with
          | some es => if es.length < lim then lcF g t f c ds ρ1 (S2.set c (es ++ [y])) else none
          | none => none
        | _ => none
      | some (false, S1) => lcF g t f c ds ρ1 S1
      | none => none
    | none => none
@[simp] noncomputable def lcL (fi : FL) (g : FG) (t : FT) (f : FE) (n : Nat) (js : List Nat) : FL := fun ρ S => match fi ρ S with
  | some (ds, S1) => match lcF g t f S1.length ds (blkR ρ n js) (S1 ++ [[]]) with
    | some S2 => if S2.length = S1.length + 1 then match S2[S1.length]? with
      | some es => some (es, S2.take S1.length)
      | none => none
      else none
    | none => none
  | none => none
theorem RS.blk {K : PySem.W.Frag} {m : List Addr} {H : Hp} {σ : St} {ρ : Rho} (R : RS K m H σ ρ) (n : Nat) (js : List Nat) : RS K m H (blkSt σ n js) (blkR ρ n js) := by
  refine ⟨by simp [blkSt, blkR], fun i x h => ?_⟩
  unfold blkR at h
  unfold blkSt
  by_cases hi : i < n
  · rw [List.getElem?_append_left (by simpa using hi), List.getElem?_replicate, if_pos hi] at h
    cases h
  · rw [List.getElem?_append_right (by simpa using hi), List.getElem?_map] at h
    rw [List.getElem?_append_right (by simpa using hi), List.getElem?_map]
    simp only [List.length_replicate] at h ⊢
    cases hj : js[i - n]? with
    | none => rw [hj] at h; cases h
    | some j =>
      rw [hj] at h
      have h2 : (ρ[j]?).getD none = some x := Option.some.inj h
      cases hr : ρ[j]? with
      | none => rw [hr] at h2; cases h2
      | some y =>
        rw [hr] at h2
        have h3 : y = some x := h2
        subst h3
        obtain ⟨v, hv, r⟩ := R.at_ j x hr
        exact ⟨v, by rw [Option.map_some, hv]; rfl, r⟩
theorem lc_of {K : PySem.W.Frag} {J : It} {g : FG} {t : FT} {f : FE} {ds : List D} {m : List Addr} {H : Hp} {acc : Addr} {D' : Ends} {c : Nat} {Sf : Sto} (io : ItOk K m H J ds) (hacc : m[c]? = some acc) (o : ∀ σ' H', Xt m H m H' → Wd K m Sf H' → D'.nx σ' H') :
    ∀ i σ1 H1, (∃ ρ1 S1, i ≤ ds.length ∧ Xt m H m H1 ∧ RS K m H1 σ1 ρ1 ∧ Wd K m S1 H1 ∧ lcF g t f c (ds.drop i) ρ1 S1 = some Sf) →
      (J.stop i H1 ∧ D'.nx σ1 H1) ∨ (J.go i H1 ∧ ∃ N : St → Hp → Prop, (∀ σ' H', N σ' H' → i < ds.length ∧ ∃ ρ' S', i + 1 ≤ ds.length ∧ Xt m H m H' ∧ RS K m H' σ' ρ' ∧ Wd K m S' H' ∧ lcF g t f c (ds.drop (i + 1)) ρ' S' = some Sf) ∧
        ∀ x H', J.yld i H1 x H' → tGF K g x σ1 H' fun σ2 H2 => tTurn (tFT K t) (tEmit acc (tF K f)) { D' with nx := N, ct := N, bk := D'.nx } σ2 H2) := by
  rintro i σ1 H1 ⟨ρ1, S1, hi, x, R, W, ef⟩
  by_cases hlt : i < ds.length
  · refine .inr ⟨io.go m H1 i x hlt, fun σ' H' => ∃ ρ' S', i + 1 ≤ ds.length ∧ Xt m H m H' ∧ RS K m H' σ' ρ' ∧ Wd K m S' H' ∧ lcF g t f c (ds.drop (i + 1)) ρ' S' = some Sf, fun σ' H' h => ⟨hlt, h⟩, fun y H2 hy => ?_⟩
    obtain ⟨s2, w2, rd⟩ := io.yld m H1 S1 i ds[i] y H2 x W (List.getElem?_eq_getElem hlt) hy
    rw [List.drop_eq_getElem_cons hlt] at ef
    unfold lcF at ef
    split at ef
    · rename_i ρ2 e2
      refine ⟨ds[i], ρ1, S1, m, rd, R.same s2, w2, ρ2, e2, fun σ2 R2 => ?_⟩
      have x2 : Xt m H m H2 := x.trans (.of s2)
      split at ef
      · rename_i S3 e3
        refine ⟨ρ2, S1, m, R2, w2, true, S3, e3, fun H3 s3 w3 => iteT ?_⟩
        split at ef
        · rename_i z S4 e4
          split at ef
          · rename_i es he
            split at ef
            · rename_i hl
              refine ⟨ρ2, S3, m, R2.same s3, w3, _, S4, e4, fun v H4 s4 w4 r4 => ?_⟩
              obtain ⟨vs, h1, h2⟩ := w4.cell c acc es hacc he
              refine ⟨vs, h1, by rw [Reps.length h2]; exact Nat.lt_trans hl lim_lt, ρ2, _, hlt, ?_, ?_, w4.set hacc (Reps.snoc h2 r4), ef⟩
              · refine .of ?_
                rw [msk_upd (List.mem_of_getElem? hacc)]
                exact x2.sm.trans (s3.trans s4)
              · refine RS.same ?_ R2
                rw [msk_upd (List.mem_of_getElem? hacc)]
                exact s3.trans s4
            · cases ef
          · cases ef
        · cases ef
      · rename_i S3 e3
        exact ⟨ρ2, S1, m, R2, w2, false, S3, e3, fun H3 s3 w3 => iteF ⟨ρ2, S3, hlt, x2.trans (.of s3), R2.same s3, w3, ef⟩⟩
      · cases ef
    · cases ef
  · have e : i = ds.length := by omega
    subst e
    rw [List.drop_length] at ef
    unfold lcF at ef
    cases ef
    exact .inl ⟨io.stop m H1 x, o σ1 H1 x W⟩
theorem ItOk.ext {K : PySem.W.Frag} {J : It} {ds : List D} {m m' : List Addr} {H H' : Hp} (io : ItOk K m H J ds) (x : Xt m H m' H') : ItOk K m' H' J ds :=
  ⟨fun m1 H1 i y hi => io.go m1 H1 i (x.trans y) hi, fun m1 H1 y => io.stop m1 H1 (x.trans y), fun m1 H1 S i d v H2 y w hd hy => io.yld m1 H1 S i d v H2 (x.trans y) w hd hy⟩
theorem ql_lc {elt tg iter : Expr} {ifs : List Expr} {scope : Scope} {pos : Pos} {fi : FL} {g : FG} {t : FT} {f : FE} {N : List Str} {n : Nat} {js : List Nat}
    (hc : X.calm = true) (B : BlkOk X scope N n js) (hi : QI X tg iter fi) (hg : ∀ s H fp, QG (blkCx X scope N s H fp) tg g) (ht : ∀ s H fp, QTs (blkCx X scope N s H fp) ifs t) (he : ∀ s H fp, QE (blkCx X scope N s H fp) elt f)
    (hs : ∀ x, foldedSetIterable iter X.env x = pure x := by intro _; rfl) : QL X (.ListComp elt [⟨tg, iter, ifs, 0⟩] scope pos) (lcL fi g t f n js) :=
  PE.imp (pe_lc hc B hi (g := tGF X.K g) (tt := tFT X.K t) (te := tF X.K f) hg ht he hs) fun σ H Q q => by
    obtain ⟨ρ, S, m, R, W, es, S', ef, q⟩ := q
    unfold lcL at ef
    split at ef
    · rename_i ds S1 e1
      split at ef
      · rename_i S2 e2
        split at ef
        · rename_i hlen
          split at ef
          · rename_i es' he'
            cases ef
            refine ⟨ρ, S, m, R, W, ds, S1, e1, fun J H1 s1 w1 io acc hacc => ?_⟩
            have w2 : Wd X.K (m ++ [acc]) (S1 ++ [[]]) (upd H1 acc (.lst [])) := w1.push hacc Reps.nil
            have x2 : Xt m H1 (m ++ [acc]) (upd H1 acc (.lst [])) := ⟨⟨[acc], rfl⟩, msk_newc hacc⟩
            have R2 := ((R.same s1).ext x2).blk n js
            have ln : m.length = S1.length := w1.len
            have ha : (m ++ [acc])[S1.length]? = some acc := by rw [← ln]; simp
            have eS : S2 = S2.take S1.length ++ [es] := by
              have h1 : S2.take (S1.length + 1) = S2.take S1.length ++ [es] := by rw [List.take_add_one, he']; rfl
              rw [← h1, ← hlen, List.take_length]
            refine ⟨fun i k σ1 H2 => k = ds.length - i ∧ ∃ ρ1 S3, i ≤ ds.length ∧ Xt (m ++ [acc]) (upd H1 acc (.lst [])) (m ++ [acc]) H2 ∧ RS X.K (m ++ [acc]) H2 σ1 ρ1 ∧ Wd X.K (m ++ [acc]) S3 H2 ∧ lcF g t f S1.length (ds.drop i) ρ1 S3 = some S2, ⟨_, rfl, _, _, Nat.zero_le _, Xt.refl, R2, w2, e2⟩, ?_⟩
            rintro i k σ1 H2 ⟨rfl, ρ1, S3, h⟩
            have fin : ∀ (σ' : St) H', Xt (m ++ [acc]) (upd H1 acc (.lst [])) (m ++ [acc]) H' → Wd X.K (m ++ [acc]) S2 H' → Q (.ref acc) H' := fun σ' H' x w => by
              refine q acc H' (s1.trans (x2.sm.trans x.sm)) ?_
              rw [← eS]; exact w
            rcases lc_of (D' := { nx := fun _ H' => Q (.ref acc) H', rt := fun _ _ => False }) (io.ext x2) ha fin i σ1 H2 ⟨ρ1, S3, h⟩ with hl | ⟨hgo, N, hN, hy⟩
            · exact .inl hl
            · refine .inr ⟨hgo, N, fun σ' H3 hn => ?_, hy⟩
              obtain ⟨hlt, ρ', S', h'⟩ := hN σ' H3 hn
              exact ⟨ds.length - (i + 1), by omega, rfl, ρ', S', h'⟩
          · cases ef
        · cases ef
      · cases ef
    · cases ef
end
section
variable {K : PySem.W.Frag}
noncomputable def spF (K : PySem.W.Frag) (F : FF) : Sp := fun vs H Q _ => ∃ as S m, RAs K m H as vs ∧ Wd K m S H ∧ ∃ x S', F as S = some (x, S') ∧ ∀ v H', Same (msk m H) (msk m H') → Wd K m S' H' → RA K m H' x v → Q v H'
@[simp] noncomputable def fin (n : Nat) (S : Sto) : A → A
  | .d x => .d x
  | .p k => if k < n then .p k else .d (.lst (S.getD k []))
  | .w x => .w x
noncomputable def defF (np nl : Nat) (b : FS) : FF := fun as S => if as.length = np then match b (as.map some ++ List.replicate (nl - np) none) S with
  | some (.rt x S') => if S.length ≤ S'.length then some (fin S.length S' x, S'.take S.length) else none
  | some (.nx _ S') => if S.length ≤ S'.length then some (.d .non, S'.take S.length) else none
  | _ => none
  else none
theorem Paired.len {α β : Type} {F : α → β → Prop} {xs : List α} {ys : List β} (h : Paired F xs ys) : xs.length = ys.length := Paired.length h
theorem Paired.at {α β : Type} {F : α → β → Prop} : ∀ {xs : List α} {ys : List β} {i : Nat} {x : α}, Paired F xs ys → xs[i]? = some x → ∃ y, ys[i]? = some y ∧ F x y
  | _, _, _, _, .nil, e => by cases e
  | _, _, 0, _, .cons h t, e => by cases e; exact ⟨_, rfl, h⟩
  | _, _, i + 1, _, .cons h t, e => Paired.at (i := i) t (by simpa using e)
theorem RS.begin {m : List Addr} {H : Hp} {as : List A} {vs : List V} (r : RAs K m H as vs) (N : List Str) (np : Nat) (hl : as.length = np) : RS K m H (start N vs) (as.map some ++ List.replicate (N.length - np) none) := by
  have ll := Paired.len r
  refine ⟨by simp [L2.start, ← ll, hl], fun i x h => ?_⟩
  unfold L2.start
  by_cases hi : i < as.length
  · rw [List.getElem?_append_left (by simpa using hi), List.getElem?_map] at h
    obtain ⟨y, hy, e⟩ := Option.map_eq_some_iff.mp h
    cases e
    obtain ⟨v, hv, rv⟩ := Paired.at r hy
    exact ⟨v, by rw [List.getElem?_append_left (by rw [List.length_map, ← ll]; exact hi), List.getElem?_map, hv]; rfl, rv⟩
  · rw [List.getElem?_append_right (by simpa using hi), List.getElem?_replicate] at h
    split at h <;> cases h
theorem end_of {m l : List Addr} {H : Hp} {S0 S' : Sto} {x : A} {v : V} (w : Wd K (m ++ l) S' H) (l0 : m.length = S0.length) (hS : S0.length ≤ S'.length) (r : RA K (m ++ l) H x v) : Wd K m (S'.take S0.length) H ∧ RA K m H (fin S0.length S' x) v := by
  have hs : S' = S'.take S0.length ++ S'.drop S0.length := (List.take_append_drop _ _).symm
  have lt : (S'.take S0.length).length = S0.length := by rw [List.length_take]; omega
  refine ⟨Wd.drop (S' := S'.drop S0.length) (by rw [← hs]; exact w) (by rw [lt]; exact l0), ?_⟩
  cases x with
  | d y => exact Rep.same msk_app r
  | w y => exact RepO.same msk_app r
  | p k =>
    obtain ⟨a, ha, rfl⟩ := r
    show RA K m H (if k < S0.length then A.p k else .d (.lst (S'.getD k []))) (.ref a)
    by_cases hk : k < S0.length
    · rw [if_pos hk]
      exact ⟨a, by rw [List.getElem?_append_left (by rw [l0]; exact hk)] at ha; exact ha, rfl⟩
    · rw [if_neg hk]
      have hk2 : k < S'.length := by rw [← w.len]; exact (List.getElem?_eq_some_iff.mp ha).1
      have e : S'[k]? = some (S'.getD k []) := by rw [List.getD_eq_getElem?_getD, List.getElem?_eq_getElem hk2]; rfl
      exact w.frozen (by omega) ha e
variable {P : Program} {w : World} {mg : Str → Option Value} {base : Heap}
theorem q_def {x qual : Str} {st : Stmt} {f : Addr} {fd : FuncData} {N ps : List Str} {k : Nat} {b : FS} (F : Fun K x qual st f fd) (Sc : FnScope N ps (defScope st))
    (hb : ∀ (cdv : Value) (A : Around) (outer : List Env) (s : Shared) (H : Hp) (E : XK), Room k (A.deeper (PyProof.Rows.envOfC qual (defScope st) s.heap.objs.size f cdv)) → QSs (cxOf CX0 P w K mg base N qual (defScope st) f cdv A outer s H E).nox (defBody st) b) :
    FnOk P w K mg base CX0 (k + 1) f fd ps (spF K (defF ps.length N.length b)) := by
  refine F.ok Sc (fun vs H Q E h => ?_) fun cdv A outer s H vs Q E hr h => ?_
  · obtain ⟨as, S, m, r, W, y, S', e, q⟩ := h
    unfold defF at e
    split at e
    · rename_i hl; rw [← Paired.len r]; exact hl
    · cases e
  · obtain ⟨as, S, m, r, W, y, S', e, q⟩ := h
    unfold defF at e
    split at e
    · rename_i hl
      refine ⟨_, hb cdv A outer s H E hr, _, S, m, RS.begin r N _ hl, W, ?_⟩
      split at e
      · rename_i z S1 e1
        split at e
        · rename_i hS
          cases e
          refine ⟨_, e1, fun v H' m' x' w' r' => ?_⟩
          obtain ⟨l, rfl⟩ := x'.ex
          obtain ⟨w2, r2⟩ := end_of w' W.len hS r'
          exact q v H' (x'.sm.trans msk_app) w2 r2
        · cases e
      · rename_i ρ1 S1 e1
        split at e
        · rename_i hS
          cases e
          refine ⟨_, e1, fun σ' H' m' x' R' w' => ?_⟩
          obtain ⟨l, rfl⟩ := x'.ex
          obtain ⟨w2, r2⟩ := end_of (x := .d .non) (v := .non) w' W.len hS non_rep
          exact q .non H' (x'.sm.trans msk_app) w2 r2
        · cases e
      · cases e
    · cases e
end
section
variable {X : Cx} {e : Expr} {es : List Expr} {fa : FA}
@[simp] noncomputable def callF (F : FF) (fa : FA) : FE := fun ρ S => match fa ρ S with
  | some (as, S1) => F as S1
  | none => none
theorem call_of {F : FF} {E : XK} : ∀ σ H Q, tF X.K (callF F fa) σ H Q → tCall (spF X.K F) [] E (tFA X.K fa) σ H Q := by
  rintro σ H Q ⟨ρ, S, m, R, W, z, S', ef, q⟩
  unfold callF at ef
  split at ef
  · rename_i as S1 e1
    refine ⟨ρ, S, m, R, W, as, S1, e1, fun vs H1 s1 w1 r1 => ?_⟩
    show spF X.K F (vs ++ []) H1 Q E
    rw [List.append_nil]
    exact ⟨as, S1, m, r1, w1, z, S', ef, fun v H2 s2 w2 r2 => q v H2 (s1.trans s2) w2 r2⟩
  · cases ef
theorem qe_call {x : Str} {p pos : Pos} {k : Nat} {f : Addr} {fd : FuncData} {ps : List Str} {F : FF} (G : FnOk X.prog X.w X.K X.mg X.base CX0 k f fd ps (spF X.K F)) (hr : Room k X.A) (hg : Gl X x) (hm : X.mg x = some (.ref f)) (hk : PySem.W.keepIn X.K (.ref f) = true) (hb : Binds X.K fd ps [])
    (ha : QA X (e :: es) fa) (hdb : (x == ("__debug__" : Str)) = false := by decide) (he : starEach (e :: es) X.env = (false, eval e X.env) :: starEach es X.env := by rfl) (hpl : (backTo pos (starEach es X.env)).any (·.1) = false := by rfl) :
    QE X (.Call (.Name x p) (e :: es) [] pos) (callF F fa) := PE.imp (pe_call (E := E0) G hr hg hm hk hb .nil pass0 ha hdb he hpl) call_of
end
end Z
namespace L2
open PySem PySem.Spec PyProof.Rows
section
variable {X : Cx}
theorem list_all {h : Heap} {a : Addr} {its : Array Value} (x : PlainL h a its) : ∃ n sl, h.get? a = some { cls := .type "list", dict := none, data := .seq its n, slots := sl } := by
  obtain ⟨⟨c, d, dt, sl⟩, n, e, h1, h2, h3⟩ := x
  cases h1; cases h2; cases h3
  exact ⟨n, sl, e⟩
theorem op_catS : OpR X (binaryOp .Add) (Z.rCatS X.K) := by
  intro pins s σ H x y v u Q I rx ry h
  obtain ⟨l, b, xs, zs, rfl, rfl, h1, h2, hz, q⟩ := h
  cases rx; cases ry
  obtain ⟨its, r, pl, _⟩ := I.list h1
  obtain ⟨it2, r2, pl2, _⟩ := I.list h2
  obtain ⟨n, sl, e⟩ := list_all pl
  obtain ⟨n2, sl2, e2⟩ := list_all pl2
  have z : its.toArray.size + it2.toArray.size ≤ sizeLine := by simpa [← r.length, ← r2.length] using hz
  refine concat_meets ⟨_, e, rfl⟩ ⟨_, e2, rfl⟩ noFill_list_add seq_list_add F.slot_list_add F.entry_list_add (F.args_list_add_2 _ _) (list_addW l b its.toArray it2.toArray n n2 none none sl sl2 z) ⟨e, e2, ?_⟩
  rw [show its.toArray ++ it2.toArray = (its ++ it2).toArray by simp]
  exact ⟨.ref _, _, I.lnew (t' := s.toks) (r.append r2) (by rw [List.length_append]; exact hz), rfl, q _ I.fresh⟩
noncomputable def rCatU (K : PySem.W.Frag) : R2 := fun x y H Q => ∃ a b xs ys, x = .ref a ∧ y = .ref b ∧ SqT K H a xs ∧ SqT K H b ys ∧ xs.length + ys.length ≤ sizeLine ∧
  (xs = [] → Q (.ref b) H) ∧ (xs ≠ [] → ys = [] → Q (.ref a) H) ∧ (xs ≠ [] → ys ≠ [] → ∀ p, H p = none → Q (.ref p) (upd H p (.tup (xs ++ ys))))
theorem op_catU : OpR X (binaryOp .Add) (rCatU X.K) := by
  intro pins s σ H x y v u Q I rx ry h
  obtain ⟨a, b, xs, ys, rfl, rfl, ha, hb, hz, q0, q1, q2⟩ := h
  by_cases hx : xs = []
  · subst hx
    cases rx; cases ry
    obtain ⟨its, r, p1, _⟩ := I.tuple ha
    obtain ⟨it2, r2, p2, _⟩ := I.tuple hb
    cases r
    obtain ⟨d, n, sl, e⟩ := MX.tup_items p1
    obtain ⟨d2, n2, sl2, e2⟩ := MX.tup_items p2
    exact concat_meets ⟨_, e, rfl⟩ ⟨_, e2, rfl⟩ noFill_tuple_add seq_tuple_add F.slot_tuple_add F.entry_tuple_add (F.args_tuple_add_2 _ _) (tuple_addW0 a b _ it2.toArray n n2 d d2 sl sl2 rfl) ⟨e, e2, .ref b, H, I, rfl, q0 rfl⟩
  · exact op_catT pins s σ H _ _ v u Q I rx ry ⟨a, b, xs, ys, rfl, rfl, ha, hb, hx, hz, q1 hx, q2 hx⟩
noncomputable def tyD : D → String
  | .non => "NoneType"
  | .bl _ => "bool"
  | .int _ => "int"
  | .str _ => "str"
  | .lst _ => "list"
  | .tup _ => "tuple"
noncomputable def rIsD (K : PySem.W.Frag) : List V → Hp → VK → Prop := fun xs H Q => ∃ x c d b, xs = [x, .ty c] ∧ Rep K H d x ∧ PySem.W.kitOne K (.type (tyD d)) (.type c) = some b ∧ Q (.bl b) H
theorem call_isD : CallR X (.builtin "isinstance") (rIsD X.K) := by
  intro pins s σ H xs us Q I r h
  obtain ⟨x, c, d, b, rfl, rd, hk, q⟩ := h
  obtain ⟨u, w', rfl, ru, rw'⟩ := vals2 r
  cases rw'
  have fin : ∀ tk, EP X pins σ Q (.bool b) { s with toks := tk } := fun tk => ⟨.bl b, H, I.tok tk, rfl, q⟩
  cases d with
  | non => unfold Rep at rd; subst rd; cases ru; exact PySem.W.kia_one PySem.W.kitx_none I.kIn True.intro hk (fun z => nomatch z) fin
  | bl k => unfold Rep at rd; subst rd; cases ru; exact PySem.W.kia_one PySem.W.kitx_bool I.kIn True.intro hk (fun z => nomatch z) fin
  | int k => unfold Rep at rd; subst rd; obtain ⟨t, rfl⟩ := ru; exact PySem.W.kia_one PySem.W.kitx_int I.kIn True.intro hk (fun z => nomatch z) fin
  | str k => unfold Rep at rd; subst rd; obtain ⟨t, rfl⟩ := ru; exact PySem.W.kia_one PySem.W.kitx_str I.kIn True.intro hk (fun z => nomatch z) fin
  | lst k =>
    unfold Rep at rd; obtain ⟨a, vs, rfl, hq, _⟩ := rd; cases ru
    obtain ⟨its, _, pl, _⟩ := I.list hq
    obtain ⟨o, e, c1, _⟩ := pl.isList
    exact PySem.W.kia_one PySem.W.kitx_list I.kIn ⟨o, e, c1⟩ hk (fun z => nomatch z) fin
  | tup k =>
    unfold Rep at rd; obtain ⟨a, vs, rfl, hq, _⟩ := rd; cases ru
    obtain ⟨its, _, pl, _⟩ := I.tuple hq
    obtain ⟨o, e, c1, _⟩ := pl
    exact PySem.W.kia_one PySem.W.kitx_tuple I.kIn ⟨o, e, c1⟩ hk (fun z => nomatch z) fin
end
end L2
namespace Z
open PySem L2
section
variable {K : PySem.W.Frag} {X : Cx} {a b e : Expr} {es : List Expr} {f g : FE} {fa : FA} {pos p : Pos}
@[simp] noncomputable def oCat : L2' := fun S x y => match x.get S, y.get S with
  | some (.lst ds), some (.lst es) => if ds.length + es.length ≤ lim then some (ds ++ es) else none
  | _, _ => none
theorem fit_cat : FitL2 K (rCatS K) oCat := by
  intro m S H x y zs v u Q w r1 r2 e q
  unfold oCat at e
  split at e
  · rename_i ds es h1 h2
    split at e
    · rename_i hl
      cases e
      obtain ⟨l, vs, rfl, s1, q1⟩ := r1.lst w h1
      obtain ⟨b, us, rfl, s2, q2⟩ := r2.lst w h2
      refine ⟨l, b, vs, us, rfl, rfl, s1, s2, by rw [Reps.length q1, Reps.length q2]; exact lim_le hl, fun p hp => ?_⟩
      exact q p _ (msk_newc hp) (w.push hp (Reps.app q1 q2))
    · cases e
  · cases e
theorem ql_cat (ha : QE X a f) (hb : QE X b g) : QL X (.BinOp a .Add b pos) (binL oCat f g) := PE.imp (pe_op op_catS ha hb) (fit_opL fit_cat)
@[simp] noncomputable def oCatU : O2 := fun S x y => match x.get S, y.get S with
  | some (.tup ds), some (.tup es) => if ds.length + es.length ≤ lim then some (.d (.tup (ds ++ es))) else none
  | _, _ => none
theorem Reps.nil_iff {H : Hp} {ds : List D} {vs : List V} (h : Reps K H ds vs) : vs = [] ↔ ds = [] := by
  cases ds with
  | nil => unfold Reps at h; simp [h]
  | cons d r => unfold Reps at h; obtain ⟨v, t, rfl, _⟩ := h; simp
theorem fit_catU : Fit2 K (rCatU K) oCatU := by
  intro m S H x y z v u Q w r1 r2 e q
  unfold oCatU at e
  split at e
  · rename_i ds es h1 h2
    split at e
    · rename_i hl
      cases e
      have e1 := get_tup h1
      have e2 := get_tup h2
      obtain ⟨l, vs, rfl, s1, q1⟩ := r1.tup h1
      obtain ⟨b, us, rfl, s2, q2⟩ := r2.tup h2
      refine ⟨l, b, vs, us, rfl, rfl, s1, s2, by rw [Reps.length q1, Reps.length q2]; exact lim_le hl, fun z => ?_, fun _ z => ?_, fun _ _ p hp => ?_⟩
      · cases (Reps.nil_iff q1).mp z
        subst e2
        exact q _ H (Same.refl _) w (by rw [List.nil_append]; exact r2)
      · cases (Reps.nil_iff q2).mp z
        subst e1
        exact q _ H (Same.refl _) w (by rw [List.append_nil]; exact r1)
      · exact q _ _ (msk_new hp) (w.new hp) (new_tup w hp (Reps.app q1 q2))
    · cases e
  · cases e
theorem qe_catU (ha : QE X a f) (hb : QE X b g) : QE X (.BinOp a .Add b pos) (bin oCatU f g) := qe_op op_catU fit_catU ha hb
noncomputable def FitC (K : PySem.W.Frag) (r : List V → Hp → VK → Prop) (o : Sto → List A → Option A) : Prop := ∀ {m : List Addr} {S : Sto} {H : Hp} {xs : List A} {z : A} {vs : List V} {Q : VK}, Wd K m S H → RAs K m H xs vs → o S xs = some z → (∀ t H', Same (msk m H) (msk m H') → Wd K m S H' → RA K m H' z t → Q t H') → r vs H Q
noncomputable def FitCL (K : PySem.W.Frag) (r : List V → Hp → VK → Prop) (o : Sto → List A → Option (List D)) : Prop := ∀ {m : List Addr} {S : Sto} {H : Hp} {xs : List A} {ds : List D} {vs : List V} {Q : VK}, Wd K m S H → RAs K m H xs vs → o S xs = some ds → (∀ p H', Same (msk m H) (msk (m ++ [p]) H') → Wd K (m ++ [p]) (S ++ [ds]) H' → Q (.ref p) H') → r vs H Q
@[simp] noncomputable def cal (o : Sto → List A → Option A) (fa : FA) : FE := fun ρ S => match fa ρ S with
  | some (xs, S1) => match o S1 xs with
    | some z => some (z, S1)
    | none => none
  | none => none
@[simp] noncomputable def calL (o : Sto → List A → Option (List D)) (fa : FA) : FL := fun ρ S => match fa ρ S with
  | some (xs, S1) => match o S1 xs with
    | some z => some (z, S1)
    | none => none
  | none => none
theorem cal_of {r : List V → Hp → VK → Prop} {o : Sto → List A → Option A} (hf : FitC X.K r o) : ∀ σ H Q, tF X.K (cal o fa) σ H Q → tCB r (tFA X.K fa) σ H Q := by
  rintro σ H Q ⟨ρ, S, m, R, W, z, S', ef, q⟩
  unfold cal at ef
  split at ef
  · rename_i xs S1 e1
    split at ef
    · rename_i y e2
      cases ef
      exact ⟨ρ, S, m, R, W, xs, _, e1, fun vs H1 s1 w1 r1 => hf w1 r1 e2 fun t H2 s2 w2 r2 => q t H2 (s1.trans s2) w2 r2⟩
    · cases ef
  · cases ef
theorem calL_of {r : List V → Hp → VK → Prop} {o : Sto → List A → Option (List D)} (hf : FitCL X.K r o) : ∀ σ H Q, tFL X.K (calL o fa) σ H Q → tCB r (tFA X.K fa) σ H Q := by
  rintro σ H Q ⟨ρ, S, m, R, W, z, S', ef, q⟩
  unfold calL at ef
  split at ef
  · rename_i xs S1 e1
    split at ef
    · rename_i y e2
      cases ef
      exact ⟨ρ, S, m, R, W, xs, _, e1, fun vs H1 s1 w1 r1 => hf w1 r1 e2 fun t H2 s2 w2 => q t H2 (s1.trans s2) w2⟩
    · cases ef
  · cases ef
theorem one_of {m : List Addr} {H : Hp} {x : A} {vs : List V} (h : RAs K m H [x] vs) : ∃ v, vs = [v] ∧ RA K m H x v := by
  cases h with | cons a t => cases t; exact ⟨_, rfl, a⟩
theorem two_of {m : List Addr} {H : Hp} {x y : A} {vs : List V} (h : RAs K m H [x, y] vs) : ∃ v u, vs = [v, u] ∧ RA K m H x v ∧ RA K m H y u := by
  cases h with | cons a t => cases t with | cons b t => cases t; exact ⟨_, _, rfl, a, b⟩
@[simp] noncomputable def oLen : Sto → List A → Option A := fun S xs => match xs with
  | [x] => match x.get S with
    | some (.lst ds) => some (.d (.int ds.length))
    | some (.tup ds) => some (.d (.int ds.length))
    | some (.str z) => if z.length ≤ lim then some (.d (.int z.length)) else none
    | _ => none
  | _ => none
theorem fit_len : FitC K (fun xs H Q => ∃ x n, xs = [x] ∧ LenV K x H n ∧ Q (.int n) H) oLen := by
  intro m S H xs z vs Q w r e q
  unfold oLen at e
  split at e
  · rename_i x
    obtain ⟨v, rfl, r'⟩ := one_of r
    split at e
    · rename_i ds hd
      cases e
      obtain ⟨a, us, rfl, h1, h2⟩ := r'.lst w hd
      exact ⟨_, us.length, rfl, .inl ⟨us, h1, rfl⟩, by rw [Reps.length h2]; exact q _ H (Same.refl _) w int_rep⟩
    · rename_i ds hd
      cases e
      obtain ⟨a, us, rfl, h1, h2⟩ := r'.tup hd
      exact ⟨_, us.length, rfl, .inr ⟨us, h1, rfl⟩, by rw [Reps.length h2]; exact q _ H (Same.refl _) w int_rep⟩
    · rename_i y hd
      split at e
      · rename_i hl
        cases e
        cases get_str hd
        cases rep_str r'
        exact ⟨_, y.length, rfl, ⟨lim_le hl, rfl⟩, q _ H (Same.refl _) w int_rep⟩
      · cases e
    · cases e
  · cases e
@[simp] noncomputable def oList : Sto → List A → Option (List D) := fun S xs => match xs with
  | [x] => match x.get S with
    | some (.lst ds) => some ds
    | some (.tup ds) => some ds
    | _ => none
  | _ => none
theorem fit_list : FitCL K (fun xs H Q => ∃ p ys, xs = [.ref p] ∧ (SqL K H p ys ∨ SqT K H p ys) ∧ ∀ l, H l = none → Q (.ref l) (upd H l (.lst ys))) oList := by
  intro m S H xs ds vs Q w r e q
  unfold oList at e
  split at e
  · rename_i x
    obtain ⟨v, rfl, r'⟩ := one_of r
    have e' : A.get S x = some (.lst ds) ∨ A.get S x = some (.tup ds) := by
      split at e
      · rename_i hd; cases e; exact .inl hd
      · rename_i hd; cases e; exact .inr hd
      · cases e
    obtain ⟨a, us, rfl, h1, h2⟩ := r'.seq w e'
    exact ⟨a, us, rfl, h1, fun l hl => q l _ (msk_newc hl) (w.push hl h2)⟩
  · cases e
@[simp] noncomputable def oTuple : Sto → List A → Option A := fun S xs => match xs with
  | [x] => match x.get S with
    | some (.lst ds) => some (.d (.tup ds))
    | some (.tup ds) => some (.d (.tup ds))
    | _ => none
  | _ => none
theorem fit_tuple : FitC K (fun xs H Q => ∃ p ys, xs = [.ref p] ∧ ((SqL K H p ys ∧ ∀ l, H l = none → Q (.ref l) (upd H l (.tup ys))) ∨ (SqT K H p ys ∧ Q (.ref p) H))) oTuple := by
  intro m S H xs z vs Q w r e q
  unfold oTuple at e
  split at e
  · rename_i x
    obtain ⟨v, rfl, r'⟩ := one_of r
    split at e
    · rename_i ds hd
      cases e
      obtain ⟨a, us, rfl, h1, h2⟩ := r'.lst w hd
      exact ⟨a, us, rfl, .inl ⟨h1, fun l hl => q _ _ (msk_new hl) (w.new hl) (new_tup w hl h2)⟩⟩
    · rename_i ds hd
      cases e
      have e1 := get_tup hd
      obtain ⟨a, us, rfl, h1, h2⟩ := r'.tup hd
      subst e1
      exact ⟨a, us, rfl, .inr ⟨h1, q _ H (Same.refl _) w r'⟩⟩
    · cases e
  · cases e
@[simp] noncomputable def unInts : List D → Option (List Int)
  | [] => some []
  | .int i :: r => match unInts r with
    | some is => some (i :: is)
    | none => none
  | _ => none
theorem unInts_eq : ∀ {ds : List D} {ns : List Int}, unInts ds = some ns → ds = ns.map .int
  | [], ns, e => by cases e; rfl
  | d :: r, ns, e => by
    cases d with
    | int i =>
      have e' : (match unInts r with | some is => some (i :: is) | none => none) = some ns := e
      split at e'
      · rename_i is h; cases e'; rw [unInts_eq h]; rfl
      · cases e'
    | _ => cases e
theorem unInts_map (ns : List Int) : unInts (ns.map .int) = some ns := by
  induction ns with
  | nil => rfl
  | cons n r ih => simp [ih]
@[simp] noncomputable def oMax (mx : Bool) : Sto → List A → Option A := fun _ xs => match xs with
  | [.d (.tup ds), .d (.tup es)] => match unInts ds, unInts es with
    | some ns, some ms => some (.d (.tup (if (if mx then HT.lexLt ns ms else HT.lexLt ms ns) then es else ds)))
    | _, _ => none
  | _ => none
theorem fit_maxT : FitC K (rMaxT K) (oMax true) := by
  intro m S H xs z vs Q w r e q
  unfold oMax at e
  split at e
  · rename_i ds es
    split at e
    · rename_i ns ms h1 h2
      cases e
      obtain ⟨v, u, rfl, r1, r2⟩ := two_of r
      cases unInts_eq h1; cases unInts_eq h2
      obtain ⟨a, rfl, q1⟩ := rep_ints (K := K) (ns := ns) (H := msk m H) r1
      obtain ⟨b, rfl, q2⟩ := rep_ints (K := K) (ns := ms) (H := msk m H) r2
      refine ⟨a, b, ns, ms, rfl, SqT.unm q1, SqT.unm q2, q _ H (Same.refl _) w ?_⟩
      show RA K m H (.d (.tup (if HT.lexLt ns ms then ms.map D.int else ns.map D.int))) _
      cases HT.lexLt ns ms
      · exact r1
      · exact r2
    · cases e
  · cases e
theorem fit_minT : FitC K (rMinT K) (oMax false) := by
  intro m S H xs z vs Q w r e q
  unfold oMax at e
  split at e
  · rename_i ds es
    split at e
    · rename_i ns ms h1 h2
      cases e
      obtain ⟨v, u, rfl, r1, r2⟩ := two_of r
      cases unInts_eq h1; cases unInts_eq h2
      obtain ⟨a, rfl, q1⟩ := rep_ints (K := K) (ns := ns) (H := msk m H) r1
      obtain ⟨b, rfl, q2⟩ := rep_ints (K := K) (ns := ms) (H := msk m H) r2
      refine ⟨a, b, ns, ms, rfl, SqT.unm q1, SqT.unm q2, q _ H (Same.refl _) w ?_⟩
      show RA K m H (.d (.tup (if HT.lexLt ms ns then ms.map D.int else ns.map D.int))) _
      cases HT.lexLt ms ns
      · exact r1
      · exact r2
    · cases e
  · cases e
@[simp] noncomputable def unSp : D → Option Sp2
  | .tup [.tup ds, .tup es] => match unInts ds, unInts es with
    | some ns, some ms => some (ns, ms)
    | _, _ => none
  | _ => none
theorem unSp_eq {d : D} {x : Sp2} (e : unSp d = some x) : d = dSp x := by
  unfold unSp at e
  split at e
  · split at e
    · rename_i h1 h2
      cases e
      rw [unInts_eq h1, unInts_eq h2]; rfl
    · cases e
  · cases e
theorem unSp_map (x : Sp2) : unSp (dSp x) = some x := by
  simp only [dSp, dInts, unSp, unInts_map]
noncomputable def unSps : List D → Option (List Sp2)
  | [] => some []
  | d :: r => match unSp d, unSps r with
    | some x, some xs => some (x :: xs)
    | _, _ => none
theorem unSps_eq : ∀ {ds : List D} {xs : List Sp2}, unSps ds = some xs → ds = xs.map dSp
  | [], xs, e => by cases e; rfl
  | d :: r, xs, e => by
    unfold unSps at e
    split at e
    · rename_i x ys h1 h2; cases e; rw [unSp_eq h1, unSps_eq h2]; rfl
    · cases e
theorem unSps_map (xs : List Sp2) : unSps (xs.map dSp) = some xs := by
  induction xs with
  | nil => rfl
  | cons x r ih => simp only [List.map_cons, unSps, unSp_map, ih]
noncomputable def insSp (x : Sp2) : List Sp2 → List Sp2
  | [] => [x]
  | y :: r => if ltSp y x then y :: insSp x r else x :: y :: r
noncomputable def srtSp (xs : List Sp2) : List Sp2 := xs.foldr insSp []
theorem ins_perm (x : Sp2) : ∀ ys : List Sp2, (insSp x ys).Perm (x :: ys)
  | [] => .refl _
  | y :: r => by
    unfold insSp
    split
    · exact ((ins_perm x r).cons y).trans (.swap x y r)
    · exact .refl _
theorem srt_perm : ∀ xs : List Sp2, (srtSp xs).Perm xs
  | [] => .refl _
  | x :: r => (ins_perm x _).trans ((srt_perm r).cons x)
theorem ins_sorted (x : Sp2) : ∀ ys : List Sp2, ys.Pairwise (fun x y => ltSp y x = false) → (insSp x ys).Pairwise (fun x y => ltSp y x = false)
  | [], _ => List.pairwise_singleton _ _
  | y :: r, h => by
    obtain ⟨h1, h2⟩ := List.pairwise_cons.mp h
    unfold insSp
    split
    · rename_i c
      refine List.pairwise_cons.mpr ⟨fun z hz => ?_, ins_sorted x r h2⟩
      rcases List.mem_cons.mp ((ins_perm x r).mem_iff.mp hz) with rfl | hz
      · cases q : ltSp z y with
        | false => rfl
        | true => have := sp_tr _ _ _ c q; rw [sp_irr] at this; cases this
      · exact h1 z hz
    · rename_i c
      have c' : ltSp y x = false := by simpa using c
      refine List.pairwise_cons.mpr ⟨fun z hz => ?_, h⟩
      rcases List.mem_cons.mp hz with rfl | hz
      · exact c'
      · cases q : ltSp z x with
        | false => rfl
        | true =>
          rcases sp_neg z y x q with q1 | q1
          · rw [h1 z hz] at q1; cases q1
          · rw [c'] at q1; cases q1
theorem srt_sorted : ∀ xs : List Sp2, (srtSp xs).Pairwise (fun x y => ltSp y x = false)
  | [] => List.Pairwise.nil
  | x :: r => ins_sorted x _ (srt_sorted r)
theorem sorted_one : ∀ {xs ys : List Sp2}, xs.Perm ys → xs.Pairwise (fun x y => ltSp y x = false) → ys.Pairwise (fun x y => ltSp y x = false) → xs = ys
  | [], ys, p, _, _ => by rw [List.nil_perm.mp p]
  | x :: xs, [], p, _, _ => by cases List.perm_nil.mp p
  | x :: xs, y :: ys, p, hx, hy => by
    obtain ⟨h1, h2⟩ := List.pairwise_cons.mp hx
    obtain ⟨g1, g2⟩ := List.pairwise_cons.mp hy
    have e : x = y := by
      rcases List.mem_cons.mp (p.mem_iff.mp (List.mem_cons_self ..)) with z | z
      · exact z
      · rcases List.mem_cons.mp (p.mem_iff.mpr (List.mem_cons_self ..)) with z2 | z2
        · exact z2.symm
        · exact sp_tot _ _ (g1 x z) (h1 y z2)
    subst e
    rw [sorted_one p.cons_inv h2 g2]
@[simp] noncomputable def oSort : Sto → List A → Option (List D) := fun S xs => match xs with
  | [x] => match x.get S with
    | some (.lst ds) => if ds.length < 128 then match unSps ds with
      | some ys => some ((srtSp ys).map dSp)
      | none => none
      else none
    | _ => none
  | _ => none
theorem fit_sort : FitCL K (rSortSp K) oSort := by
  intro m S H xs zs vs Q w r e q
  unfold oSort at e
  split at e
  · rename_i x
    obtain ⟨v, rfl, r'⟩ := one_of r
    split at e
    · rename_i ds hd
      split at e
      · rename_i hl
        split at e
        · rename_i ys hy
          cases e
          obtain ⟨a, us, rfl, h1, h2⟩ := r'.lst w hd
          cases unSps_eq hy
          refine ⟨a, us, ys, rfl, h1, Reps.same msk_le h2, by rw [Reps.length h2]; exact hl, fun l p hl' hp hq hs => ?_⟩
          have e1 : (p.map fun i => ys.getD i ([], [])) = srtSp ys := sorted_one (hq.trans (srt_perm ys).symm) hs (srt_sorted ys)
          have hm : ∀ i ∈ p, i < ys.length := fun i hi => by
            have := List.mem_range.mp (hp.mem_iff.mp hi)
            rw [Reps.length h2, List.length_map] at this
            exact this
          have rp := Reps.pick h2 p hm
          rw [e1] at rp
          exact q l _ (msk_newc hl') (w.push hl' rp)
        · cases e
      · cases e
    · cases e
  · cases e
end
end Z
namespace Z
open PySem L2
section
variable {K : PySem.W.Frag} {X : Cx} {a b e : Expr} {es : List Expr} {f g : FE} {fa : FA} {pos p : Pos}
theorem qe_le (ha : QE X a f) (hb : QE X b g) : QE X (.Compare a [.LtE] [b] pos) (bin (oI gLe) f g) := qe_cmp op_le fit_le ha hb (nomark _)
theorem qt_lt (ha : QE X a f) (hb : QE X b g) : QT X (.Compare a [.Lt] [b] pos) (tst (bin (oI gLt) f g)) := qt_cmp op_lt fit_lt ha hb (nomark _)
theorem qt_le (ha : QE X a f) (hb : QE X b g) : QT X (.Compare a [.LtE] [b] pos) (tst (bin (oI gLe) f g)) := qt_cmp op_le fit_le ha hb (nomark _)
theorem qt_gt (ha : QE X a f) (hb : QE X b g) : QT X (.Compare a [.Gt] [b] pos) (tst (bin (oI gGt) f g)) := qt_cmp op_gt fit_gt ha hb (nomark _)
theorem qe_eq {k : Nat} (hr : Room k X.A) (ha : QE X a f) (hb : QE X b g) : QE X (.Compare a [.Eq] [b] pos) (bin (oEq false) f g) := qe_cmp (op_eqD (hu60 hr)) fit_eq ha hb (nomark _)
theorem qt_eq {k : Nat} (hr : Room k X.A) (ha : QE X a f) (hb : QE X b g) : QT X (.Compare a [.Eq] [b] pos) (tst (bin (oEq false) f g)) := qt_cmp (op_eqD (hu60 hr)) fit_eq ha hb (nomark _)
theorem qt_ne {k : Nat} (hr : Room k X.A) (ha : QE X a f) (hb : QE X b g) : QT X (.Compare a [.NotEq] [b] pos) (tst (bin (oEq true) f g)) := qt_cmp (op_neD (hu60 hr)) fit_eq ha hb (nomark _)
theorem hu2 {A : Around} {k : Nat} (hr : Room k A) : A.units + 2 < cLine := Nat.lt_of_le_of_lt (Nat.add_le_add_left (by decide : 2 ≤ 64) _) hr.units
@[simp] noncomputable def oIs (c : String) : O1 := fun S x => match x.get S with
  | some d => if c = tyD d ∨ (c = "int" ∧ tyD d = "bool") then some (.d (.bl true)) else some (.d (.bl false))
  | none => none
noncomputable def known (c : String) : Prop := c = "int" ∨ c = "bool" ∨ c = "str" ∨ c = "list" ∨ c = "tuple"
theorem kit_is {c : String} (h : known c) (d : D) : PySem.W.kitOne K (.type (tyD d)) (.type c) = some (decide (c = tyD d ∨ (c = "int" ∧ tyD d = "bool"))) := by
  rcases h with rfl | rfl | rfl | rfl | rfl <;> cases d <;> rfl
theorem qe_isi {c : Str} {cs : String} {p1 p2 : Pos} (hk : known cs) (hg : Gl X "isinstance") (hm : X.mg "isinstance" = none) (hgc : Gl X c) (hmc : X.mg c = none) (hb : bootBuiltins c = some (.type cs)) (ha : QE X a f) (hn : c ≠ "__name__" := by decide) (hd : (c == ("__debug__" : Str)) = false := by decide) (hs : noStar a = true := by rfl)
    (h1 : starEach [a, .Name c p2] X.env = (false, eval a X.env) :: starEach [.Name c p2] X.env := by rfl) (h2 : (backTo pos (starEach [.Name c p2] X.env)).any (·.1) = false := by rfl) : QE X (.Call (.Name "isinstance" p1) [a, .Name c p2] [] pos) (un (oIs cs) f) :=
  PE.imp (pe_callB call_isD hg hm bt_isinstance (pac ha (pac (pe_bltn (v := .ty cs) hgc hmc hb rfl hn hd) pa_nil rfl) hs) (by decide) (by decide) h1 h2) fun σ H Q q => by
    obtain ⟨ρ, S, m, R, W, z, S', ef, q⟩ := q
    unfold un at ef
    split at ef
    · rename_i x S1 e1
      split at ef
      · rename_i y e2
        cases ef
        refine ⟨ρ, S, m, R, W, x, _, e1, fun v H1 s1 w1 r1 => ?_⟩
        unfold oIs at e2
        split at e2
        · rename_i d hd
          refine ⟨v, cs, d, _, rfl, r1.rep w1 hd, kit_is hk d, ?_⟩
          split at e2
          · rename_i hc; cases e2; rw [decide_eq_true hc]; exact q _ H1 s1 w1 bl_rep
          · rename_i hc; cases e2; rw [decide_eq_false hc]; exact q _ H1 s1 w1 bl_rep
        · cases e2
      · cases ef
    · cases ef
@[simp] noncomputable def cutD (xs : List D) (lo hi : Option Int) : List D := (xs.drop (HT.sIx xs.length 0 lo)).take (HT.sIx xs.length xs.length hi - HT.sIx xs.length 0 lo)
noncomputable abbrev FO := Rho → Sto → Option (Option Int × Sto)
noncomputable def tFO (K : PySem.W.Frag) (f : FO) : TO := fun σ H Q => ∃ ρ S m, RS K m H σ ρ ∧ Wd K m S H ∧ ∃ x S', f ρ S = some (x, S') ∧ ∀ H', Same (msk m H) (msk m H') → Wd K m S' H' → Q x H'
noncomputable abbrev QO (X : Cx) (e : Option Expr) (f : FO) : Prop := PO X e (tFO X.K f)
theorem PO.imp {e : Option Expr} {t t' : TO} (h : PO X e t) (i : ∀ σ H Q, t' σ H Q → t σ H Q) : PO X e t' := fun pins s σ H Q I q => h pins s σ H Q I (i σ H Q q)
@[simp] noncomputable def oNo : FO := fun _ S => some (none, S)
@[simp] noncomputable def oSome (f : FE) : FO := fun ρ S => match f ρ S with
  | some (.d (.int i), S1) => some (some i, S1)
  | _ => none
theorem qo_some (h : QE X e f) : QO X (some e) (oSome f) := PO.imp (po_some h) fun σ H Q q => by
  obtain ⟨ρ, S, m, R, W, z, S', ef, q⟩ := q
  unfold oSome at ef
  split at ef
  · rename_i i S1 e1
    cases ef
    exact ⟨ρ, S, m, R, W, _, _, e1, fun v H1 s1 w1 r1 => ⟨i, rep_int r1, q H1 s1 w1⟩⟩
  · cases ef
@[simp] noncomputable def cutL (f : FE) (l h : FO) : FL := fun ρ S => match f ρ S with
  | some (x, S1) => match l ρ S1 with
    | some (lo, S2) => match h ρ S2 with
      | some (hi, S3) => match x.get S3 with
        | some (.lst ds) => some (cutD ds lo hi, S3)
        | _ => none
      | none => none
    | none => none
  | none => none
theorem Reps.cut {H : Hp} {ds : List D} {vs : List V} (h : Reps K H ds vs) (lo hi : Option Int) : Reps K H (cutD ds lo hi) (cutV vs lo hi) := by
  unfold cutD cutV
  rw [Reps.length h]
  exact Reps.take _ (Reps.drop _ h)
theorem ql_slice {lo hi : Option Expr} {l h : FO} {p2 : Pos} (he : QE X e f) (hl : QO X lo l) (hh : QO X hi h) : QL X (.Subscript e (.Slice lo hi none p2) pos) (cutL f l h) := PE.imp (pe_slice sl_list he hl hh) fun σ H Q q => by
  obtain ⟨ρ, S, m, R, W, z, S', ef, q⟩ := q
  unfold cutL at ef
  split at ef
  · rename_i x S1 e1
    split at ef
    · rename_i lo S2 e2
      split at ef
      · rename_i hi S3 e3
        split at ef
        · rename_i ds hd
          cases ef
          refine ⟨ρ, S, m, R, W, _, _, e1, fun v H1 s1 w1 r1 => ⟨ρ, S1, m, R.same s1, w1, _, _, e2, fun H2 s2 w2 => ⟨ρ, S2, m, (R.same s1).same s2, w2, _, _, e3, fun H3 s3 w3 => ?_⟩⟩⟩
          obtain ⟨a, vs, rfl, h1, h2⟩ := ((r1.same s2).same s3).lst w3 hd
          exact ⟨a, vs, rfl, h1, fun p hp => q p _ (s1.trans (s2.trans (s3.trans (msk_newc hp)))) (w3.push hp (Reps.cut h2 lo hi))⟩
        · cases ef
      · cases ef
    · cases ef
  · cases ef
noncomputable def enu (ds : List D) : List D := ds.mapIdx fun (i : Nat) d => .tup [.int (i : Int), d]
@[simp] noncomputable def iEnu (f : FE) : FL := fun ρ S => match f ρ S with
  | some (.d (.lst ds), S1) => some (enu ds, S1)
  | some (.d (.tup ds), S1) => some (enu ds, S1)
  | _ => none
@[simp] noncomputable def iEnuL (f : FE) : FL := fun ρ S => match f ρ S with
  | some (.d (.lst ds), S1) => some (enu ds, S1)
  | _ => none
@[simp] noncomputable def iEnuT (f : FE) : FL := fun ρ S => match f ρ S with
  | some (.d (.tup ds), S1) => some (enu ds, S1)
  | _ => none
theorem enu_len (ds : List D) : (enu ds).length = ds.length := by simp [enu]
theorem enu_at {ds : List D} {i : Nat} {d : D} (h : (enu ds)[i]? = some d) : ∃ x, ds[i]? = some x ∧ d = .tup [.int i, x] := by
  unfold enu at h
  rw [List.getElem?_mapIdx] at h
  obtain ⟨x, hx, e⟩ := Option.map_eq_some_iff.mp h
  exact ⟨x, hx, e.symm⟩
theorem new_pair {m1 : List Addr} {H1 : Hp} {p : Addr} {d : D} {x : V} {i : Nat} (hn : H1 p = none) (hp : p ∉ m1) (r : Rep K (msk m1 H1) d x) : Rep K (msk m1 (upd H1 p (.tup [.int i, x]))) (.tup [.int i, d]) (.ref p) := by
  unfold Rep
  refine ⟨p, _, rfl, SqT.of (by rw [msk_out hp]; exact upd_same), ?_⟩
  refine Reps.same (msk_new hn) (Reps.cons ?_ (Reps.cons r Reps.nil))
  unfold Rep; rfl
theorem itet_ok {m : List Addr} {H : Hp} {a : Addr} {vs : List V} {ds : List D} (h : SqT K (msk m H) a vs) (r : Reps K (msk m H) ds vs) : ItOk K m H (Itet K a) (enu ds) where
  go := fun m1 H1 i x hi => by
    have hi' : i < vs.length := by rw [Reps.length r, ← enu_len]; exact hi
    exact ⟨vs, vs[i], SqT.unm (Same.tup x.sm h), List.getElem?_eq_getElem hi'⟩
  stop := fun m1 H1 x => ⟨vs, SqT.unm (Same.tup x.sm h), by rw [enu_len, Reps.length r]⟩
  yld := fun m1 H1 S i d y H2 x w hd hy => by
    obtain ⟨p, v, rfl, hn, rfl, hy⟩ := hy
    obtain ⟨z, hz, rfl⟩ := enu_at hd
    obtain ⟨z', hz', rd⟩ := Reps.get r (hy vs (SqT.unm (Same.tup x.sm h)))
    rw [hz] at hz'; cases hz'
    exact ⟨msk_new hn, w.new hn, new_pair hn (w.notin hn) (Rep.same x.sm rd)⟩
theorem qi_enumT {elts : List Expr} {x1 : Nat} {tpos : Pos} (hg : Gl X "enumerate") (hm : X.mg "enumerate" = none) (he : QE X e f) (hst : noStar e = true := by rfl) (hs : starEach [e] X.env = [(false, eval e X.env)] := by rfl) : QI X (.Tuple elts x1 tpos) (.Call (.Name "enumerate" p) [e] [] pos) (iEnuT f) :=
  PI.imp (pi_enumT hg hm (pac he pa_nil hst) hs) fun σ H R q => by
    obtain ⟨ρ, S, m, RS', W, ds, S', ef, q⟩ := q
    unfold iEnuT at ef
    split at ef
    · rename_i es S1 e1
      cases ef
      refine ⟨ρ, S, m, RS', W, _, _, e1, fun v H' s w r => ?_⟩
      have r2 : Rep X.K (msk m H') (.tup es) v := r
      unfold Rep at r2
      obtain ⟨a, vs, rfl, h1, h2⟩ := r2
      exact ⟨a, vs, rfl, SqT.unm h1, q _ H' s w (itet_ok h1 h2)⟩
    · cases ef
end
end Z
namespace Z
open PySem L2
noncomputable def spLaw (K : PySem.W.Frag) : Sp := fun vs H Q _ => ∃ (a : Addr) (ns : List Int), vs = [.ref a] ∧ SqL K H a (ns.map V.int) ∧ ns.length ≤ 63 ∧ ∀ H', Q (.bl true) H'
theorem msk_nil (H : Hp) : msk [] H = H := by funext b; exact if_neg (by simp)
theorem law_ok {P : Program} {w : World} {K : PySem.W.Frag} {mg : Str → Option Value} {base : Heap} {k : Nat} {f : Addr} {fd : FuncData} {ps : List Str} {F : FF} (main : ∀ ns : List Int, ns.length ≤ 63 → F [.d (.lst (ns.map .int))] [] = some (.d (.bl true), []))
    (G : FnOk P w K mg base CX0 k f fd ps (spF K F)) : FnOk P w K mg base CX0 k f fd ps (spLaw K) := G.imp fun vs H Q E h => by
  obtain ⟨a, ns, rfl, hS, hl, q⟩ := h
  refine ⟨[.d (.lst (ns.map .int))], [], [], ?_, ⟨rfl, List.nodup_nil, fun k a ds h1 _ => by cases h1⟩, _, _, main ns hl, fun v H' _ _ r => ?_⟩
  · refine .cons ?_ .nil
    show Rep K (msk [] H) _ _
    rw [msk_nil]
    unfold Rep
    exact ⟨a, _, rfl, hS, reps_ints ns⟩
  · cases rep_bl r
    exact q H'
section
variable {X : Cx} {e : Expr} {f : FE} {pos p p2 : Pos}
@[simp] noncomputable def oRev : Sto → List A → Option (List D) := fun S xs => match xs with
  | [x] => match x.get S with
    | some (.lst ds) => some ds.reverse
    | _ => none
  | _ => none
end
end Z
namespace Z
open PySem L2
section
variable {K : PySem.W.Frag}
noncomputable abbrev FN := List A → Sto → Option (List D × Sto)
noncomputable def spN (K : PySem.W.Frag) (F : FN) : Sp := fun vs H Q _ => ∃ as S m, RAs K m H as vs ∧ Wd K m S H ∧ ∃ ds S', F as S = some (ds, S') ∧ ∀ p H', Same (msk m H) (msk (m ++ [p]) H') → Wd K (m ++ [p]) (S' ++ [ds]) H' → Q (.ref p) H'
noncomputable def defN (np nl : Nat) (b : FS) : FN := fun as S => if as.length = np then match b (as.map some ++ List.replicate (nl - np) none) S with
  | some (.rt (.p k) S') => if S.length ≤ k then match S'[k]? with
    | some ds => some (ds, S'.take S.length)
    | none => none
    else none
  | _ => none
  else none
theorem pick_of {m l : List Addr} {H : Hp} {S0 S' : Sto} {k : Nat} {a : Addr} {ds : List D} (w : Wd K (m ++ l) S' H) (l0 : m.length = S0.length) (hk : S0.length ≤ k) (ha : (m ++ l)[k]? = some a) (hd : S'[k]? = some ds) :
    Wd K (m ++ [a]) (S'.take S0.length ++ [ds]) H ∧ Same (msk (m ++ l) H) (msk (m ++ [a]) H) := by
  have hkl : k < (m ++ l).length := (List.getElem?_eq_some_iff.mp ha).1
  have hlen : S0.length ≤ S'.length := by rw [← w.len]; omega
  have lt : (S'.take S0.length).length = S0.length := by rw [List.length_take]; omega
  have al : a ∈ l := by
    rw [List.getElem?_append_right (by omega)] at ha
    exact List.mem_of_getElem? ha
  have sm : Same (msk (m ++ l) H) (msk (m ++ [a]) H) := fun b o h => by
    by_cases hb : b ∈ m ++ l
    · rw [msk_in hb] at h; cases h
    · rw [msk_out hb] at h
      rw [msk_out fun z => hb ?_]
      · exact h
      · rcases List.mem_append.mp z with z | z
        · exact List.mem_append_left _ z
        · have : b = a := by simpa using z
          subst this; exact List.mem_append_right _ al
  have nda := List.nodup_append.mp w.nd
  refine ⟨⟨by rw [List.length_append, List.length_append, lt, l0]; rfl, ?_, fun j b es h1 h2 => ?_⟩, sm⟩
  · refine List.nodup_append.mpr ⟨nda.1, by simp, fun x hx y hy z => ?_⟩
    have : y = a := by simpa using hy
    subst this z
    exact nda.2.2 x hx x al rfl
  · by_cases hj : j < m.length
    · rw [List.getElem?_append_left hj] at h1
      rw [List.getElem?_append_left (by rw [lt]; omega), List.getElem?_take_of_lt (by omega)] at h2
      obtain ⟨vs, q1, q2⟩ := w.cell j b es (by rw [List.getElem?_append_left hj]; exact h1) h2
      exact ⟨vs, q1, Reps.same sm q2⟩
    · have hj2 : j = m.length := by
        have := (List.getElem?_eq_some_iff.mp h1).1
        rw [List.length_append] at this
        simp at this; omega
      subst hj2
      rw [List.getElem?_append_right (Nat.le_refl _), Nat.sub_self] at h1
      rw [l0, List.getElem?_append_right (by rw [lt]; exact Nat.le_refl _), lt, Nat.sub_self] at h2
      cases h1; cases h2
      obtain ⟨vs, q1, q2⟩ := w.cell k a ds ha hd
      exact ⟨vs, q1, Reps.same sm q2⟩
variable {P : Program} {w : World} {mg : Str → Option Value} {base : Heap}
theorem q_defN {x qual : Str} {st : Stmt} {f : Addr} {fd : FuncData} {N ps : List Str} {k : Nat} {b : FS} (F : Fun K x qual st f fd) (Sc : FnScope N ps (defScope st))
    (hb : ∀ (cdv : Value) (A : Around) (outer : List Env) (s : Shared) (H : Hp) (E : XK), Room k (A.deeper (PyProof.Rows.envOfC qual (defScope st) s.heap.objs.size f cdv)) → QSs (cxOf CX0 P w K mg base N qual (defScope st) f cdv A outer s H E).nox (defBody st) b) :
    FnOk P w K mg base CX0 (k + 1) f fd ps (spN K (defN ps.length N.length b)) := by
  refine F.ok Sc (fun vs H Q E h => ?_) fun cdv A outer s H vs Q E hr h => ?_
  · obtain ⟨as, S, m, r, W, y, S', e, q⟩ := h
    unfold defN at e
    split at e
    · rename_i hl; rw [← Paired.len r]; exact hl
    · cases e
  · obtain ⟨as, S, m, r, W, y, S', e, q⟩ := h
    unfold defN at e
    split at e
    · rename_i hl
      refine ⟨_, hb cdv A outer s H E hr, _, S, m, RS.begin r N _ hl, W, ?_⟩
      split at e
      · rename_i z S1 e1
        split at e
        · rename_i hS
          split at e
          · rename_i ds hd
            cases e
            refine ⟨_, e1, fun v H' m' x' w' r' => ?_⟩
            obtain ⟨l, rfl⟩ := x'.ex
            obtain ⟨a, ha, rfl⟩ := r'
            obtain ⟨w2, s2⟩ := pick_of w' W.len hS ha hd
            exact q a H' (x'.sm.trans s2) w2
          · cases e
        · cases e
      · cases e
    · cases e
end
section
variable {X : Cx} {e : Expr} {es : List Expr} {fa : FA} {pos : Pos}
@[simp] noncomputable def sRetL (f : FL) : FS := fun ρ S => match f ρ S with
  | some (ds, S1) => some (.rt (.p S1.length) (S1 ++ [ds]))
  | none => none
theorem qs_retL {f : FL} (he : QL X e f) : QS X (.Return (some e) pos) (sRetL f) := PS.imp (ps_ret he) fun D σ H q => by
  obtain ⟨ρ, S, m, R, W, c, ef, o⟩ := q
  unfold sRetL at ef
  split at ef
  · rename_i ds S1 e1
    cases ef
    refine ⟨ρ, S, m, R, W, ds, S1, e1, fun p H' s w => ?_⟩
    have ln : m.length = S1.length := by have := w.len; simp at this; omega
    exact o _ H' (m ++ [p]) ⟨⟨[p], rfl⟩, s⟩ w ⟨p, by rw [← ln]; simp, rfl⟩
  · cases ef
@[simp] noncomputable def callN (F : FN) (fa : FA) : FL := fun ρ S => match fa ρ S with
  | some (as, S1) => F as S1
  | none => none
theorem ql_call {x : Str} {p pos : Pos} {k : Nat} {f : Addr} {fd : FuncData} {ps : List Str} {F : FN} (G : FnOk X.prog X.w X.K X.mg X.base CX0 k f fd ps (spN X.K F)) (hr : Room k X.A) (hg : Gl X x) (hm : X.mg x = some (.ref f)) (hk : PySem.W.keepIn X.K (.ref f) = true) (hb : Binds X.K fd ps [])
    (ha : QA X (e :: es) fa) (hdb : (x == ("__debug__" : Str)) = false := by decide) (he : starEach (e :: es) X.env = (false, eval e X.env) :: starEach es X.env := by rfl) (hpl : (backTo pos (starEach es X.env)).any (·.1) = false := by rfl) :
    QL X (.Call (.Name x p) (e :: es) [] pos) (callN F fa) := PE.imp (pe_call (E := E0) G hr hg hm hk hb .nil pass0 ha hdb he hpl) fun σ H Q q => by
  obtain ⟨ρ, S, m, R, W, z, S', ef, q⟩ := q
  unfold callN at ef
  split at ef
  · rename_i as S1 e1
    refine ⟨ρ, S, m, R, W, as, S1, e1, fun vs H1 s1 w1 r1 => ?_⟩
    show spN X.K F (vs ++ []) H1 Q E0
    rw [List.append_nil]
    exact ⟨as, S1, m, r1, w1, z, S', ef, fun v H2 s2 w2 => q v H2 (s1.trans s2) w2⟩
  · cases ef
end
theorem lc_pure {α : Type} {g : FG} {t : FT} {f : FE} {c : Nat} (P : Rho → Prop) (enc : α → D) (bq : α → Bool) (out : α → D) : ∀ (ys : List α),
    (∀ y ∈ ys, ∀ ρ, P ρ → ∃ ρ1, g (enc y) ρ = some ρ1 ∧ P ρ1 ∧ (∀ S, t ρ1 S = some (bq y, S)) ∧ (bq y = true → ∀ S, f ρ1 S = some (.d (out y), S))) →
    ∀ (ρ : Rho) (S : Sto) (es : List D), P ρ → S[c]? = some es → es.length + ys.length ≤ lim → lcF g t f c (ys.map enc) ρ S = some (S.set c (es ++ (ys.filter bq).map out))
  | [], ok, ρ, S, es, p, hS, hl => by
    obtain ⟨hc, he⟩ := List.getElem?_eq_some_iff.mp hS
    simp only [List.map_nil, lcF, List.filter_nil, List.append_nil]
    rw [← he, List.set_getElem_self]
  | y :: ys, ok, ρ, S, es, p, hS, hl => by
    obtain ⟨ρ1, hg, p1, ht, hf⟩ := ok y (List.mem_cons_self ..) ρ p
    have hc := (List.getElem?_eq_some_iff.mp hS).1
    rw [List.length_cons] at hl
    rw [List.map_cons]
    unfold lcF
    rw [hg]
    simp only [ht]
    cases hb : bq y with
    | false =>
      simp only
      rw [lc_pure P enc bq out ys (fun z hz => ok z (List.mem_cons_of_mem _ hz)) ρ1 S es p1 hS (by omega), List.filter_cons_of_neg (by simp [hb])]
    | true =>
      simp only [hf hb, hS, if_pos (show es.length < lim by omega)]
      rw [lc_pure P enc bq out ys (fun z hz => ok z (List.mem_cons_of_mem _ hz)) ρ1 _ (es ++ [out y]) p1 (List.getElem?_set_self hc) (by rw [List.length_append]; simp; omega), List.filter_cons_of_pos (by simp [hb]), List.set_set, List.map_cons, List.append_assoc]
      rfl
theorem lcL_pure {α : Type} {fi : FL} {g : FG} {t : FT} {f : FE} {n : Nat} {js : List Nat} {ρ : Rho} {S S1 : Sto} (P : Rho → Prop) (enc : α → D) (bq : α → Bool) (out : α → D) (ys : List α) (hi : fi ρ S = some (ys.map enc, S1)) (hP : P (blkR ρ n js)) (hl : ys.length ≤ lim)
    (ok : ∀ y ∈ ys, ∀ ρ, P ρ → ∃ ρ1, g (enc y) ρ = some ρ1 ∧ P ρ1 ∧ (∀ S, t ρ1 S = some (bq y, S)) ∧ (bq y = true → ∀ S, f ρ1 S = some (.d (out y), S))) :
    lcL fi g t f n js ρ S = some ((ys.filter bq).map out, S1) := by
  unfold lcL
  rw [hi]
  simp only
  rw [lc_pure P enc bq out ys ok (blkR ρ n js) (S1 ++ [[]]) [] hP (by rw [List.getElem?_append_right (Nat.le_refl _), Nat.sub_self]; rfl) (by simpa using hl)]
  have e : (S1 ++ [[]]).set S1.length ([] ++ (ys.filter bq).map out) = S1 ++ [(ys.filter bq).map out] := by
    rw [List.set_append_right _ _ (Nat.le_refl _), Nat.sub_self]; rfl
  rw [e]
  simp
end Z
namespace Z
open PySem L2
section
variable {K : PySem.W.Frag} {X : Cx}
@[simp] noncomputable def lcR (g : FG) (t : FT) (f : FE) (c : Nat) : List D → Rho → Sto → Option (Rho × Sto)
  | [], ρ, S => some (ρ, S)
  | d :: ds, ρ, S => match g d ρ with
    | some ρ1 => match t ρ1 S with
      | some (true, S1) => match f ρ1 S1 with
        | some (.d y, S2) => match S2[c]? with
          | some es => if es.length < lim then lcR g t f c ds ρ1 (S2.set c (es ++ [y])) else none
          | none => none
        | _ => none
      | some (false, S1) => lcR g t f c ds ρ1 S1
      | none => none
    | none => none
theorem lcr_of {J : It} {g : FG} {t : FT} {f : FE} {ds : List D} {m : List Addr} {H : Hp} {acc : Addr} {D' : Ends} {c : Nat} {ρf : Rho} {Sf : Sto} (io : ItOk K m H J ds) (hacc : m[c]? = some acc) (o : ∀ σ' H', Xt m H m H' → RS K m H' σ' ρf → Wd K m Sf H' → D'.nx σ' H') :
    ∀ i σ1 H1, (∃ ρ1 S1, i ≤ ds.length ∧ Xt m H m H1 ∧ RS K m H1 σ1 ρ1 ∧ Wd K m S1 H1 ∧ lcR g t f c (ds.drop i) ρ1 S1 = some (ρf, Sf)) →
      (J.stop i H1 ∧ D'.nx σ1 H1) ∨ (J.go i H1 ∧ ∃ N : St → Hp → Prop, (∀ σ' H', N σ' H' → i < ds.length ∧ ∃ ρ' S', i + 1 ≤ ds.length ∧ Xt m H m H' ∧ RS K m H' σ' ρ' ∧ Wd K m S' H' ∧ lcR g t f c (ds.drop (i + 1)) ρ' S' = some (ρf, Sf)) ∧
        ∀ x H', J.yld i H1 x H' → tGF K g x σ1 H' fun σ2 H2 => tTurn (tFT K t) (tEmit acc (tF K f)) { D' with nx := N, ct := N, bk := D'.nx } σ2 H2) := by
  rintro i σ1 H1 ⟨ρ1, S1, hi, x, R, W, ef⟩
  by_cases hlt : i < ds.length
  · refine .inr ⟨io.go m H1 i x hlt, fun σ' H' => ∃ ρ' S', i + 1 ≤ ds.length ∧ Xt m H m H' ∧ RS K m H' σ' ρ' ∧ Wd K m S' H' ∧ lcR g t f c (ds.drop (i + 1)) ρ' S' = some (ρf, Sf), fun σ' H' h => ⟨hlt, h⟩, fun y H2 hy => ?_⟩
    obtain ⟨s2, w2, rd⟩ := io.yld m H1 S1 i ds[i] y H2 x W (List.getElem?_eq_getElem hlt) hy
    rw [List.drop_eq_getElem_cons hlt] at ef
    unfold lcR at ef
    split at ef
    · rename_i ρ2 e2
      refine ⟨ds[i], ρ1, S1, m, rd, R.same s2, w2, ρ2, e2, fun σ2 R2 => ?_⟩
      have x2 : Xt m H m H2 := x.trans (.of s2)
      split at ef
      · rename_i S3 e3
        refine ⟨ρ2, S1, m, R2, w2, true, S3, e3, fun H3 s3 w3 => iteT ?_⟩
        split at ef
        · rename_i z S4 e4
          split at ef
          · rename_i es he
            split at ef
            · rename_i hl
              refine ⟨ρ2, S3, m, R2.same s3, w3, _, S4, e4, fun v H4 s4 w4 r4 => ?_⟩
              obtain ⟨vs, h1, h2⟩ := w4.cell c acc es hacc he
              refine ⟨vs, h1, by rw [Reps.length h2]; exact Nat.lt_trans hl lim_lt, ρ2, _, hlt, ?_, ?_, w4.set hacc (Reps.snoc h2 r4), ef⟩
              · refine .of ?_
                rw [msk_upd (List.mem_of_getElem? hacc)]
                exact x2.sm.trans (s3.trans s4)
              · refine RS.same ?_ R2
                rw [msk_upd (List.mem_of_getElem? hacc)]
                exact s3.trans s4
            · cases ef
          · cases ef
        · cases ef
      · rename_i S3 e3
        exact ⟨ρ2, S1, m, R2, w2, false, S3, e3, fun H3 s3 w3 => iteF ⟨ρ2, S3, hlt, x2.trans (.of s3), R2.same s3, w3, ef⟩⟩
      · cases ef
    · cases ef
  · have e : i = ds.length := by omega
    subst e
    rw [List.drop_length] at ef
    unfold lcR at ef
    cases ef
    exact .inl ⟨io.stop m H1 x, o σ1 H1 x R W⟩
theorem inner_walk {J : It} {g : FG} {t : FT} {f : FE} {ds : List D} {m : List Addr} {H : Hp} {acc : Addr} {D' : Ends} {c : Nat} {ρ ρf : Rho} {S Sf : Sto} {σ : St} (io : ItOk K m H J ds) (hacc : m[c]? = some acc) (R : RS K m H σ ρ) (W : Wd K m S H) (ef : lcR g t f c ds ρ S = some (ρf, Sf))
    (o : ∀ σ' H', Xt m H m H' → RS K m H' σ' ρf → Wd K m Sf H' → D'.nx σ' H') : tWalk J (tGF K g) (tTurn (tFT K t) (tEmit acc (tF K f))) D' σ H := by
  refine ⟨fun i k σ1 H2 => k = ds.length - i ∧ ∃ ρ1 S3, i ≤ ds.length ∧ Xt m H m H2 ∧ RS K m H2 σ1 ρ1 ∧ Wd K m S3 H2 ∧ lcR g t f c (ds.drop i) ρ1 S3 = some (ρf, Sf), ⟨_, rfl, _, _, Nat.zero_le _, Xt.refl, R, W, ef⟩, ?_⟩
  rintro i k σ1 H2 ⟨rfl, ρ1, S3, h⟩
  rcases lcr_of (D' := D') io hacc o i σ1 H2 ⟨ρ1, S3, h⟩ with hl | ⟨hgo, N, hN, hy⟩
  · exact .inl hl
  · refine .inr ⟨hgo, N, fun σ' H3 hn => ?_, hy⟩
    obtain ⟨hlt, ρ', S', h'⟩ := hN σ' H3 hn
    exact ⟨ds.length - (i + 1), by omega, rfl, ρ', S', h'⟩
@[simp] noncomputable def lc2F (g : FG) (t : FT) (fi : FL) (g2 : FG) (t2 : FT) (f : FE) (c : Nat) : List D → Rho → Sto → Option Sto
  | [], _, S => some S
  | d :: ds, ρ, S => match g d ρ with
    | some ρ1 => match t ρ1 S with
      | some (true, S1) => match fi ρ1 S1 with
        | some (es, S2) => match lcR g2 t2 f c es ρ1 S2 with
          | some (ρ2, S3) => lc2F g t fi g2 t2 f c ds ρ2 S3
          | none => none
        | none => none
      | some (false, S1) => lc2F g t fi g2 t2 f c ds ρ1 S1
      | none => none
    | none => none
theorem lc2_of {J : It} {g : FG} {t : FT} {fi : FL} {g2 : FG} {t2 : FT} {f : FE} {ds : List D} {m : List Addr} {H : Hp} {acc : Addr} {D' : Ends} {c : Nat} {Sf : Sto} (io : ItOk K m H J ds) (hacc : m[c]? = some acc) (o : ∀ σ' H', Xt m H m H' → Wd K m Sf H' → D'.nx σ' H') :
    ∀ i σ1 H1, (∃ ρ1 S1, i ≤ ds.length ∧ Xt m H m H1 ∧ RS K m H1 σ1 ρ1 ∧ Wd K m S1 H1 ∧ lc2F g t fi g2 t2 f c (ds.drop i) ρ1 S1 = some Sf) →
      (J.stop i H1 ∧ D'.nx σ1 H1) ∨ (J.go i H1 ∧ ∃ N : St → Hp → Prop, (∀ σ' H', N σ' H' → i < ds.length ∧ ∃ ρ' S', i + 1 ≤ ds.length ∧ Xt m H m H' ∧ RS K m H' σ' ρ' ∧ Wd K m S' H' ∧ lc2F g t fi g2 t2 f c (ds.drop (i + 1)) ρ' S' = some Sf) ∧
        ∀ x H', J.yld i H1 x H' → tGF K g x σ1 H' fun σ2 H2 => tTurn (tFT K t) (tNest (tFI K fi) (tGF K g2) (tTurn (tFT K t2) (tEmit acc (tF K f)))) { D' with nx := N, ct := N, bk := D'.nx } σ2 H2) := by
  rintro i σ1 H1 ⟨ρ1, S1, hi, x, R, W, ef⟩
  by_cases hlt : i < ds.length
  · refine .inr ⟨io.go m H1 i x hlt, fun σ' H' => ∃ ρ' S', i + 1 ≤ ds.length ∧ Xt m H m H' ∧ RS K m H' σ' ρ' ∧ Wd K m S' H' ∧ lc2F g t fi g2 t2 f c (ds.drop (i + 1)) ρ' S' = some Sf, fun σ' H' h => ⟨hlt, h⟩, fun y H2 hy => ?_⟩
    obtain ⟨s2, w2, rd⟩ := io.yld m H1 S1 i ds[i] y H2 x W (List.getElem?_eq_getElem hlt) hy
    rw [List.drop_eq_getElem_cons hlt] at ef
    unfold lc2F at ef
    split at ef
    · rename_i ρ2 e2
      refine ⟨ds[i], ρ1, S1, m, rd, R.same s2, w2, ρ2, e2, fun σ2 R2 => ?_⟩
      have x2 : Xt m H m H2 := x.trans (.of s2)
      split at ef
      · rename_i S3 e3
        refine ⟨ρ2, S1, m, R2, w2, true, S3, e3, fun H3 s3 w3 => iteT ?_⟩
        split at ef
        · rename_i es S4 e4
          split at ef
          · rename_i ρ5 S5 e5
            refine ⟨ρ2, S3, m, R2.same s3, w3, es, S4, e4, fun J2 H4 s4 w4 io2 => ?_⟩
            have x4 : Xt m H m H4 := x2.trans (.of (s3.trans s4))
            exact inner_walk io2 hacc ((R2.same s3).same s4) w4 e5 fun σ' H' x5 R5 W5 => ⟨ρ5, S5, hlt, x4.trans x5, R5, W5, ef⟩
          · cases ef
        · cases ef
      · rename_i S3 e3
        exact ⟨ρ2, S1, m, R2, w2, false, S3, e3, fun H3 s3 w3 => iteF ⟨ρ2, S3, hlt, x2.trans (.of s3), R2.same s3, w3, ef⟩⟩
      · cases ef
    · cases ef
  · have e : i = ds.length := by omega
    subst e
    rw [List.drop_length] at ef
    unfold lc2F at ef
    cases ef
    exact .inl ⟨io.stop m H1 x, o σ1 H1 x W⟩
@[simp] noncomputable def lc2L (fi : FL) (g : FG) (t : FT) (fi2 : FL) (g2 : FG) (t2 : FT) (f : FE) (n : Nat) (js : List Nat) : FL := fun ρ S => match fi ρ S with
  | some (ds, S1) => match lc2F g t fi2 g2 t2 f S1.length ds (blkR ρ n js) (S1 ++ [[]]) with
    | some S2 => if S2.length = S1.length + 1 then match S2[S1.length]? with
      | some es => some (es, S2.take S1.length)
      | none => none
      else none
    | none => none
  | none => none
theorem ql_lc2 {elt tg iter tg2 iter2 : Expr} {ifs ifs2 : List Expr} {scope : Scope} {pos : Pos} {fi fi2 : FL} {g g2 : FG} {t t2 : FT} {f : FE} {N : List Str} {n : Nat} {js : List Nat}
    (hc : X.calm = true) (B : BlkOk X scope N n js) (hi : QI X tg iter fi) (hg : ∀ s H fp, QG (blkCx X scope N s H fp) tg g) (ht : ∀ s H fp, QTs (blkCx X scope N s H fp) ifs t)
    (hi2 : ∀ s H fp, QI (blkCx X scope N s H fp) tg2 iter2 fi2) (hg2 : ∀ s H fp, QG (blkCx X scope N s H fp) tg2 g2) (ht2 : ∀ s H fp, QTs (blkCx X scope N s H fp) ifs2 t2) (he : ∀ s H fp, QE (blkCx X scope N s H fp) elt f)
    (hs : ∀ x, foldedSetIterable iter X.env x = pure x := by intro _; rfl) (hs2 : ∀ s H fp x, foldedSetIterable iter2 (blkCx X scope N s H fp).env x = pure x := by intro _ _ _ _; rfl) (hA2 : X.A.mark none = X.A := by rfl) :
    QL X (.ListComp elt [⟨tg, iter, ifs, 0⟩, ⟨tg2, iter2, ifs2, 0⟩] scope pos) (lc2L fi g t fi2 g2 t2 f n js) :=
  PE.imp (pe_lc2 hc B hi (g := tGF X.K g) (tt := tFT X.K t) (wi2 := tFI X.K fi2) (g2 := tGF X.K g2) (tt2 := tFT X.K t2) (te := tF X.K f) hg ht hi2 hg2 ht2 he hs hs2 hA2) fun σ H Q q => by
    obtain ⟨ρ, S, m, R, W, es, S', ef, q⟩ := q
    unfold lc2L at ef
    split at ef
    · rename_i ds S1 e1
      split at ef
      · rename_i S2 e2
        split at ef
        · rename_i hlen
          split at ef
          · rename_i es' he'
            cases ef
            refine ⟨ρ, S, m, R, W, ds, S1, e1, fun J H1 s1 w1 io acc hacc => ?_⟩
            have w2 : Wd X.K (m ++ [acc]) (S1 ++ [[]]) (upd H1 acc (.lst [])) := w1.push hacc Reps.nil
            have x2 : Xt m H1 (m ++ [acc]) (upd H1 acc (.lst [])) := ⟨⟨[acc], rfl⟩, msk_newc hacc⟩
            have R2 := ((R.same s1).ext x2).blk n js
            have ln : m.length = S1.length := w1.len
            have ha : (m ++ [acc])[S1.length]? = some acc := by rw [← ln]; simp
            have eS : S2 = S2.take S1.length ++ [es] := by
              have h1 : S2.take (S1.length + 1) = S2.take S1.length ++ [es] := by rw [List.take_add_one, he']; rfl
              rw [← h1, ← hlen, List.take_length]
            have fin : ∀ (σ' : St) H', Xt (m ++ [acc]) (upd H1 acc (.lst [])) (m ++ [acc]) H' → Wd X.K (m ++ [acc]) S2 H' → Q (.ref acc) H' := fun σ' H' x w => by
              refine q acc H' (s1.trans (x2.sm.trans x.sm)) ?_
              rw [← eS]; exact w
            refine ⟨fun i k σ1 H2 => k = ds.length - i ∧ ∃ ρ1 S3, i ≤ ds.length ∧ Xt (m ++ [acc]) (upd H1 acc (.lst [])) (m ++ [acc]) H2 ∧ RS X.K (m ++ [acc]) H2 σ1 ρ1 ∧ Wd X.K (m ++ [acc]) S3 H2 ∧ lc2F g t fi2 g2 t2 f S1.length (ds.drop i) ρ1 S3 = some S2, ⟨_, rfl, _, _, Nat.zero_le _, Xt.refl, R2, w2, e2⟩, ?_⟩
            rintro i k σ1 H2 ⟨rfl, ρ1, S3, h⟩
            rcases lc2_of (D' := { nx := fun _ H' => Q (.ref acc) H', rt := fun _ _ => False }) (io.ext x2) ha fin i σ1 H2 ⟨ρ1, S3, h⟩ with hl | ⟨hgo, N, hN, hy⟩
            · exact .inl hl
            · refine .inr ⟨hgo, N, fun σ' H3 hn => ?_, hy⟩
              obtain ⟨hlt, ρ', S', h'⟩ := hN σ' H3 hn
              exact ⟨ds.length - (i + 1), by omega, rfl, ρ', S', h'⟩
          · cases ef
        · cases ef
      · cases ef
    · cases ef
@[simp] noncomputable def unBls : List D → Option (List Bool)
  | [] => some []
  | .bl b :: r => match unBls r with
    | some bs => some (b :: bs)
    | none => none
  | _ => none
@[simp] noncomputable def oAll (al : Bool) : Sto → List A → Option A := fun S xs => match xs with
  | [x] => match x.get S with
    | some (.lst ds) => match unBls ds with
      | some bs => some (.d (.bl (if al then bs.all id else bs.any id)))
      | none => none
    | _ => none
  | _ => none
end
theorem lcr_pure {α : Type} {g : FG} {t : FT} {f : FE} {c : Nat} (P : Rho → Prop) (enc : α → D) (bq : α → Bool) (out : α → D) : ∀ (ys : List α),
    (∀ y ∈ ys, ∀ ρ, P ρ → ∃ ρ1, g (enc y) ρ = some ρ1 ∧ P ρ1 ∧ (∀ S, t ρ1 S = some (bq y, S)) ∧ (bq y = true → ∀ S, f ρ1 S = some (.d (out y), S))) →
    ∀ (ρ : Rho) (S : Sto) (es : List D), P ρ → S[c]? = some es → es.length + ys.length ≤ lim → ∃ ρ', P ρ' ∧ lcR g t f c (ys.map enc) ρ S = some (ρ', S.set c (es ++ (ys.filter bq).map out))
  | [], ok, ρ, S, es, p, hS, hl => by
    obtain ⟨hc, he⟩ := List.getElem?_eq_some_iff.mp hS
    refine ⟨ρ, p, ?_⟩
    simp only [List.map_nil, lcR, List.filter_nil, List.append_nil]
    rw [← he, List.set_getElem_self]
  | y :: ys, ok, ρ, S, es, p, hS, hl => by
    obtain ⟨ρ1, hg, p1, ht, hf⟩ := ok y (List.mem_cons_self ..) ρ p
    have hc := (List.getElem?_eq_some_iff.mp hS).1
    rw [List.length_cons] at hl
    rw [List.map_cons]
    unfold lcR
    rw [hg]
    simp only [ht]
    cases hb : bq y with
    | false =>
      simp only
      obtain ⟨ρ', p', e⟩ := lcr_pure P enc bq out ys (fun z hz => ok z (List.mem_cons_of_mem _ hz)) ρ1 S es p1 hS (by omega)
      exact ⟨ρ', p', by rw [e, List.filter_cons_of_neg (by simp [hb])]⟩
    | true =>
      simp only [hf hb, hS, if_pos (show es.length < lim by omega)]
      obtain ⟨ρ', p', e⟩ := lcr_pure P enc bq out ys (fun z hz => ok z (List.mem_cons_of_mem _ hz)) ρ1 (S.set c (es ++ [out y])) (es ++ [out y]) p1 (List.getElem?_set_self hc) (by rw [List.length_append]; simp; omega)
      refine ⟨ρ', p', ?_⟩
      rw [e, List.filter_cons_of_pos (by simp [hb]), List.set_set, List.map_cons, List.append_assoc]
      rfl
theorem lc2_pure {α β : Type} {g g2 : FG} {t t2 : FT} {fi : FL} {f : FE} {c : Nat} (P : Rho → Prop) (P2 : α → Rho → Prop) (enc : α → D) (enc2 : β → D) (zs : α → List β) (out : α → β → D) : ∀ (ys : List α),
    (∀ y ∈ ys, ∀ ρ, P ρ → ∃ ρ1, g (enc y) ρ = some ρ1 ∧ P2 y ρ1 ∧ (∀ S, t ρ1 S = some (true, S)) ∧ (∀ S, fi ρ1 S = some ((zs y).map enc2, S))) →
    (∀ y ρ, P2 y ρ → P ρ) → (∀ y ∈ ys, ∀ z ∈ zs y, ∀ ρ, P2 y ρ → ∃ ρ1, g2 (enc2 z) ρ = some ρ1 ∧ P2 y ρ1 ∧ (∀ S, t2 ρ1 S = some (true, S)) ∧ ∀ S, f ρ1 S = some (.d (out y z), S)) →
    ∀ (ρ : Rho) (S : Sto) (es : List D), P ρ → S[c]? = some es → es.length + (ys.flatMap zs).length ≤ lim → lc2F g t fi g2 t2 f c (ys.map enc) ρ S = some (S.set c (es ++ ys.flatMap fun y => (zs y).map (out y)))
  | [], ok, hp, ok2, ρ, S, es, p, hS, hl => by
    obtain ⟨hc, he⟩ := List.getElem?_eq_some_iff.mp hS
    simp only [List.map_nil, lc2F, List.flatMap_nil, List.append_nil]
    rw [← he, List.set_getElem_self]
  | y :: ys, ok, hp, ok2, ρ, S, es, p, hS, hl => by
    obtain ⟨ρ1, hg, p1, ht, hi⟩ := ok y (List.mem_cons_self ..) ρ p
    have hc := (List.getElem?_eq_some_iff.mp hS).1
    rw [List.flatMap_cons, List.length_append] at hl
    rw [List.map_cons]
    unfold lc2F
    rw [hg]
    simp only [ht, hi]
    obtain ⟨ρ2, p2, e2⟩ := lcr_pure (P2 y) enc2 (fun _ => true) (out y) (zs y) (fun z hz ρ h => by
      obtain ⟨ρ1, a, b, c, d⟩ := ok2 y (List.mem_cons_self ..) z hz ρ h
      exact ⟨ρ1, a, b, c, fun _ => d⟩) ρ1 S es p1 hS (by omega)
    rw [List.filter_eq_self.mpr (fun _ _ => rfl)] at e2
    simp only [e2]
    rw [lc2_pure P P2 enc enc2 zs out ys (fun z hz => ok z (List.mem_cons_of_mem _ hz)) hp (fun z hz => ok2 z (List.mem_cons_of_mem _ hz)) ρ2 _ (es ++ (zs y).map (out y)) (hp y ρ2 p2) (List.getElem?_set_self hc) (by rw [List.length_append, List.length_map]; omega), List.set_set, List.flatMap_cons, List.append_assoc]
theorem lc2L_pure {α β : Type} {fi fi2 : FL} {g g2 : FG} {t t2 : FT} {f : FE} {n : Nat} {js : List Nat} {ρ : Rho} {S S1 : Sto} (P : Rho → Prop) (P2 : α → Rho → Prop) (enc : α → D) (enc2 : β → D) (zs : α → List β) (out : α → β → D) (ys : List α) (hi : fi ρ S = some (ys.map enc, S1)) (hP : P (blkR ρ n js)) (hl : (ys.flatMap zs).length ≤ lim)
    (ok : ∀ y ∈ ys, ∀ ρ, P ρ → ∃ ρ1, g (enc y) ρ = some ρ1 ∧ P2 y ρ1 ∧ (∀ S, t ρ1 S = some (true, S)) ∧ (∀ S, fi2 ρ1 S = some ((zs y).map enc2, S)))
    (hp : ∀ y ρ, P2 y ρ → P ρ) (ok2 : ∀ y ∈ ys, ∀ z ∈ zs y, ∀ ρ, P2 y ρ → ∃ ρ1, g2 (enc2 z) ρ = some ρ1 ∧ P2 y ρ1 ∧ (∀ S, t2 ρ1 S = some (true, S)) ∧ ∀ S, f ρ1 S = some (.d (out y z), S)) :
    lc2L fi g t fi2 g2 t2 f n js ρ S = some (ys.flatMap fun y => (zs y).map (out y), S1) := by
  unfold lc2L
  rw [hi]
  simp only
  rw [lc2_pure P P2 enc enc2 zs out ys ok hp ok2 (blkR ρ n js) (S1 ++ [[]]) [] hP (by rw [List.getElem?_append_right (Nat.le_refl _), Nat.sub_self]; rfl) (by simpa using hl)]
  have e : (S1 ++ [[]]).set S1.length ([] ++ ys.flatMap fun y => (zs y).map (out y)) = S1 ++ [ys.flatMap fun y => (zs y).map (out y)] := by
    rw [List.set_append_right _ _ (Nat.le_refl _), Nat.sub_self]; rfl
  rw [e]
  simp
end Z
namespace Z
open PySem L2
noncomputable abbrev Spn := Option Int × Option Int
noncomputable def inLow (a : Option Int) (n : Int) : Bool := match a with
  | none => true
  | some l => decide (l ≤ n)
noncomputable def inHigh (b : Option Int) (n : Int) : Bool := match b with
  | none => true
  | some h => decide (n ≤ h)
noncomputable def has1 (x : Spn) (n : Int) : Bool := inLow x.1 n && inHigh x.2 n
noncomputable def hasAny (xs : List Spn) (n : Int) : Bool := xs.any fun x => has1 x n
noncomputable def fullB (x : Spn) : Bool := match x.1, x.2 with
  | some l, some h => decide (l ≤ h)
  | _, _ => true
noncomputable def reachB (high low : Option Int) : Bool := match high, low with
  | some h, some l => decide (l ≤ h + 1)
  | _, _ => true
noncomputable def hiE (a b : Option Int) : Option Int := match a, b with
  | some x, some y => some (if x < y then y else x)
  | _, _ => none
noncomputable def mrg (y : Spn) : List Spn → List Spn
  | [] => [y]
  | x :: r => if reachB y.2 x.1 then mrg (y.1, hiE y.2 x.2) r else y :: mrg x r
noncomputable def lowLe (a b : Option Int) : Prop := match a, b with
  | none, _ => True
  | some _, none => False
  | some x, some y => x ≤ y
noncomputable def sep (x : Spn) : List Spn → Prop
  | [] => True
  | y :: _ => ∃ h l, x.2 = some h ∧ y.1 = some l ∧ h + 1 < l
noncomputable def inF : List Spn → Prop
  | [] => True
  | x :: r => fullB x = true ∧ sep x r ∧ inF r
theorem full_has {x : Spn} (h : fullB x = true) : ∃ n, has1 x n = true := by
  obtain ⟨a, b⟩ := x
  cases a with
  | none => cases b with
    | none => exact ⟨0, rfl⟩
    | some k => exact ⟨k, by simp [has1, inLow, inHigh]⟩
  | some l => exact ⟨l, by cases b <;> simp_all [has1, inLow, inHigh, fullB]⟩
theorem merge_has {y x : Spn} (hy : fullB y = true) (hx : fullB x = true) (hl : lowLe y.1 x.1) (hr : reachB y.2 x.1 = true) (n : Int) : has1 (y.1, hiE y.2 x.2) n = (has1 y n || has1 x n) := by
  obtain ⟨a, b⟩ := y
  obtain ⟨c, d⟩ := x
  simp only at *
  cases a <;> cases b <;> cases c <;> cases d <;> simp_all [has1, inLow, inHigh, fullB, reachB, hiE, lowLe] <;> (try (rw [Bool.eq_iff_iff]; simp only [Bool.or_eq_true, Bool.and_eq_true, decide_eq_true_eq])) <;> (try split) <;> omega
theorem merge_full {y x : Spn} (hy : fullB y = true) (hx : fullB x = true) (hl : lowLe y.1 x.1) : fullB (y.1, hiE y.2 x.2) = true := by
  obtain ⟨a, b⟩ := y
  obtain ⟨c, d⟩ := x
  simp only at *
  cases a <;> cases b <;> cases c <;> cases d <;> simp_all [fullB, hiE, lowLe] <;> split <;> omega
theorem mrg_head (y : Spn) : ∀ r, ∃ b t, mrg y r = (y.1, b) :: t
  | [] => ⟨y.2, [], rfl⟩
  | x :: r => by
    unfold mrg
    split
    · obtain ⟨b, t, e⟩ := mrg_head (y.1, hiE y.2 x.2) r
      exact ⟨b, t, e⟩
    · exact ⟨y.2, _, rfl⟩
theorem mrg_ok : ∀ (r : List Spn) (y : Spn), fullB y = true → (∀ x ∈ r, fullB x = true) → (∀ x ∈ r, lowLe y.1 x.1) → r.Pairwise (fun x z => lowLe x.1 z.1) → inF (mrg y r) ∧ ∀ n, hasAny (mrg y r) n = (has1 y n || hasAny r n)
  | [], y, hy, _, _, _ => ⟨⟨hy, trivial, trivial⟩, fun n => by simp [mrg, hasAny]⟩
  | x :: r, y, hy, hf, hl, hp => by
    obtain ⟨p1, p2⟩ := List.pairwise_cons.mp hp
    have fx := hf x (List.mem_cons_self ..)
    have lx := hl x (List.mem_cons_self ..)
    unfold mrg
    split
    · rename_i hr
      obtain ⟨i1, i2⟩ := mrg_ok r (y.1, hiE y.2 x.2) (merge_full hy fx lx) (fun z hz => hf z (List.mem_cons_of_mem _ hz)) (fun z hz => hl z (List.mem_cons_of_mem _ hz)) p2
      refine ⟨i1, fun n => ?_⟩
      rw [i2 n, merge_has hy fx lx hr]
      simp [hasAny, Bool.or_assoc]
    · rename_i hr
      obtain ⟨i1, i2⟩ := mrg_ok r x fx (fun z hz => hf z (List.mem_cons_of_mem _ hz)) p1 p2
      obtain ⟨b, t, e⟩ := mrg_head x r
      refine ⟨⟨hy, ?_, i1⟩, fun n => ?_⟩
      · rw [e]
        obtain ⟨y1, y2⟩ := y
        obtain ⟨x1, x2⟩ := x
        simp only at *
        cases y2 with
        | none => simp [reachB] at hr
        | some h => cases x1 with
          | none => simp [reachB] at hr
          | some l => exact ⟨h, l, rfl, rfl, by simpa [reachB] using hr⟩
      · show (has1 y n || hasAny (mrg x r) n) = _
        rw [i2 n]
        simp [hasAny]
noncomputable def frm : List Spn → List Spn
  | [] => []
  | x :: r => mrg x r
theorem frm_ok {r : List Spn} (hf : ∀ x ∈ r, fullB x = true) (hp : r.Pairwise (fun x z => lowLe x.1 z.1)) : inF (frm r) ∧ ∀ n, hasAny (frm r) n = hasAny r n := by
  cases r with
  | nil => exact ⟨trivial, fun _ => rfl⟩
  | cons x r =>
    obtain ⟨p1, p2⟩ := List.pairwise_cons.mp hp
    obtain ⟨i1, i2⟩ := mrg_ok r x (hf x (List.mem_cons_self ..)) (fun z hz => hf z (List.mem_cons_of_mem _ hz)) p1 p2
    exact ⟨i1, fun n => by rw [show frm (x :: r) = mrg x r from rfl, i2 n]; simp [hasAny]⟩
theorem inF_low : ∀ {s : List Spn} {l n : Int} {b : Option Int}, inF ((some l, b) :: s) → hasAny ((some l, b) :: s) n = true → l ≤ n
  | [], l, n, b, _, h => by simp [hasAny, has1, inLow] at h; exact h.1
  | (a, c) :: s, l, n, b, hi, h => by
    obtain ⟨h1, ⟨hh, ll, e1, e2, lt⟩, h3⟩ := hi
    simp only at e1 e2
    subst e1 e2
    have h' : (has1 (some l, some hh) n || hasAny ((some ll, c) :: s) n) = true := h
    rcases Bool.or_eq_true _ _ ▸ h' with h' | h'
    · simp [has1, inLow] at h'; exact h'.1
    · have := inF_low h3 h'
      simp [fullB] at h1
      omega
theorem inF_apart {x : Spn} {s : List Spn} {n : Int} (hi : inF (x :: s)) (h : hasAny s n = true) : ∃ hh, x.2 = some hh ∧ hh + 1 < n := by
  cases s with
  | nil => simp [hasAny] at h
  | cons y s =>
    obtain ⟨_, ⟨hh, l, e1, e2, lt⟩, h3⟩ := hi
    obtain ⟨y1, y2⟩ := y
    simp only at e2
    subst e2
    exact ⟨hh, e1, by have := inF_low h3 h; omega⟩
theorem inF_one : ∀ {s t : List Spn}, inF s → inF t → (∀ n, hasAny s n = hasAny t n) → s = t
  | [], [], _, _, _ => rfl
  | [], y :: t, _, ht, e => by
    obtain ⟨n, hn⟩ := full_has ht.1
    have := e n
    simp [hasAny, hn] at this
  | x :: s, [], hs, _, e => by
    obtain ⟨n, hn⟩ := full_has hs.1
    have := e n
    simp [hasAny, hn] at this
  | x :: s, y :: t, hs, ht, e => by
    have cons : ∀ (z : Spn) (r : List Spn) n, hasAny (z :: r) n = (has1 z n || hasAny r n) := fun _ _ _ => rfl
    have e1 : x.1 = y.1 := by
      obtain ⟨x1, x2⟩ := x
      obtain ⟨y1, y2⟩ := y
      simp only
      have low : ∀ {a b : Option Int} {s t : List Spn} {l : Int}, inF ((none, a) :: s) → inF ((some l, b) :: t) → (∀ n, hasAny ((none, a) :: s) n = hasAny ((some l, b) :: t) n) → False := fun {a b s t l} h1 h2 e => by
        obtain ⟨n, hn, lt⟩ : ∃ n, has1 (none, a) n = true ∧ n < l := by
          cases a with
          | none => exact ⟨l - 1, rfl, by omega⟩
          | some k => exact ⟨min k (l - 1), by simp [has1, inLow, inHigh]; omega, by omega⟩
        have q := e n
        rw [cons, hn, Bool.true_or] at q
        have := inF_low h2 q.symm
        omega
      cases x1 with
      | none => cases y1 with
        | none => rfl
        | some l => exact (low hs ht e).elim
      | some k => cases y1 with
        | none => exact (low ht hs fun n => (e n).symm).elim
        | some l =>
          have a1 : hasAny ((some k, x2) :: s) k = true := by
            rw [cons]
            have := hs.1
            cases x2 <;> simp_all [has1, inLow, inHigh, fullB]
          have a2 : hasAny ((some l, y2) :: t) l = true := by
            rw [cons]
            have := ht.1
            cases y2 <;> simp_all [has1, inLow, inHigh, fullB]
          rw [e k] at a1
          rw [← e l] at a2
          have b1 := inF_low ht a1
          have b2 := inF_low hs a2
          congr 1; omega
    have up : ∀ {a : Option Int} {h : Int} {b : Option Int} {s t : List Spn}, inF ((a, some h) :: s) → inF ((a, b) :: t) → (∀ n, hasAny ((a, some h) :: s) n = hasAny ((a, b) :: t) n) → inHigh b (h + 1) = false := fun {a h b s t} h1 h2 e => by
      cases q : inHigh b (h + 1) with
      | false => rfl
      | true =>
        have la : inLow a (h + 1) = true := by
          have := h1.1
          cases a <;> simp_all [inLow, fullB]; omega
        have := e (h + 1)
        rw [cons (a, b) t, show has1 (a, b) (h + 1) = true by simp [has1, la, q], Bool.true_or, cons] at this
        rcases Bool.or_eq_true _ _ ▸ this with z | z
        · simp [has1, inHigh] at z; omega
        · obtain ⟨hh, e5, lt⟩ := inF_apart h1 z
          cases e5; omega
    have e2 : x.2 = y.2 := by
      obtain ⟨x1, x2⟩ := x
      obtain ⟨y1, y2⟩ := y
      simp only at e1 ⊢
      subst e1
      cases x2 with
      | none => cases y2 with
        | none => rfl
        | some h => exact absurd (up ht hs fun n => (e n).symm) (by simp [inHigh])
      | some k => cases y2 with
        | none => exact absurd (up hs ht e) (by simp [inHigh])
        | some h =>
          have u1 := up hs ht e
          have u2 := up ht hs fun n => (e n).symm
          simp [inHigh] at u1 u2
          congr 1; omega
    have e3 : x = y := Prod.ext e1 e2
    subst e3
    rw [inF_one hs.2.2 ht.2.2 fun n => ?_]
    have key : ∀ {r : List Spn}, inF (x :: r) → hasAny r n = true → has1 x n = false := fun {r} hr h => by
      obtain ⟨hh, e5, lt⟩ := inF_apart hr h
      simp [has1, inHigh, e5]; intro _; omega
    have en := e n
    rw [cons, cons] at en
    cases q1 : hasAny s n <;> cases q2 : hasAny t n <;> try rfl
    · rw [q1, q2, key ht q2] at en; cases en
    · rw [q1, q2, key hs q1] at en; cases en
end Z
namespace Z
open PySem L2
noncomputable def b_full : FS := (sRet (dL (lcL (iSq (var 0)) (gT 2 (gsCons (gN 0) (gsCons (gN 1) gsNil))) (orT (notT (truT (var 0))) (orT (notT (truT (var 1))) (tst (bin (oI gLe) (bin oIx (var 0) (cst (.int 0))) (bin oIx (var 1) (cst (.int 0))))))) (tupF (aCons (var 0) (aCons (var 1) aNil))) 2 [])))
noncomputable def F_full : FF := defF 1 1 b_full
noncomputable def b_higher_end : FS := (sRet (iteV (andT (truT (var 0)) (truT (var 1))) (cal (oMax true) (aCons (var 0) (aCons (var 1) aNil))) (tupF aNil)))
noncomputable def F_higher_end : FF := defF 2 2 b_higher_end
noncomputable def b_reaches : FS := (sRet (orV (notV (var 0)) (orV (notV (var 1)) (bin (oI gLe) (bin oIx (var 1) (cst (.int 0))) (bin (oI gAdd) (bin oIx (var 0) (cst (.int 0))) (cst (.int 1)))))))
noncomputable def F_reaches : FF := defF 2 2 b_reaches
noncomputable def b__law_cell_at : FS := (sSeq (sIf (tst (bin (oI gLt) (var 1) (cal oLen (aCons (var 0) aNil)))) (sRet (bin oIx (var 0) (var 1))) sNil) (sRet (cst (.int 0))))
noncomputable def F__law_cell_at : FF := defF 2 2 b__law_cell_at
noncomputable def b__law_pot : FS := (sRetL (lstF (aCons (var 0) (aCons (var 1) (aCons (var 1) aNil)))))
noncomputable def F__law_pot : FN := defN 2 2 b__law_pot
noncomputable def b__law_take : FS := (sSeq (sIf (andT (tst (bin (oEq false) (bin oIx (var 0) (cst (.int 0))) (cst (.int 0)))) (orT (tst (bin (oI gGt) (bin oIx (var 0) (cst (.int 1))) (cst (.int 0)))) (tst (bin (oEq false) (bin oIx (var 0) (cst (.int 2))) (cst (.int 0)))))) (sSeq (sSet 2 (bin (oI gMod) (bin oIx (var 0) (cst (.int 1))) (var 1))) (sSeq (sPut (bin (oI gDiv) (bin oIx (var 0) (cst (.int 1))) (var 1)) (var 0) (cst (.int 1))) (sRet (var 2)))) sNil) (sSeq (sPut (bin (oI gMod) (bin (oI gAdd) (bin (oI gMul) (bin oIx (var 0) (cst (.int 2))) (cst (.int 69069))) (cst (.int 907633385))) (cst (.int 4294967291))) (var 0) (cst (.int 2))) (sRet (bin (oI gMod) (bin (oI gMod) (bin (oI gMul) (bin (oI gDiv) (bin (oI gMod) (bin (oI gMul) (bin oIx (var 0) (cst (.int 2))) (bin oIx (var 0) (cst (.int 2)))) (cst (.int 4294967279))) (cst (.int 16))) (cst (.int 40503))) (cst (.int 1000003))) (var 1)))))
noncomputable def F__law_take : FF := defF 2 3 b__law_take
noncomputable def b__law_whole : FS := (sRet (andV (un (oIs "int") (var 0)) (notV (un (oIs "bool") (var 0)))))
noncomputable def F__law_whole : FF := defF 1 1 b__law_whole
noncomputable def b__law_has : FS := (sSeq (sFor (iSq (var 0)) (gT 2 (gsCons (gN 2) (gsCons (gN 3) gsNil))) (sIf (andT (orT (tst (bin (oEq false) (var 2) (tupF aNil))) (tst (bin (oI gLe) (bin oIx (var 2) (cst (.int 0))) (var 1)))) (orT (tst (bin (oEq false) (var 3) (tupF aNil))) (tst (bin (oI gLe) (var 1) (bin oIx (var 3) (cst (.int 0))))))) (sRet (cst (.bl true))) sNil)) (sRet (cst (.bl false))))
noncomputable def F__law_has : FF := defF 2 4 b__law_has
noncomputable def b__law_near : FS := (sSeq (sSet 1 (dL (lstF (aCons (cst (.int 0)) aNil)))) (sSeq (sFor (iSq (var 0)) (gT 2 (gsCons (gN 2) (gsCons (gN 3) gsNil))) (sFor (iSq (bin oCatU (var 2) (var 3))) (gN 4) (sSet 1 (dL (binL oCat (var 1) (dL (lstF (aCons (bin (oI gSub) (var 4) (cst (.int 1))) (aCons (var 4) (aCons (bin (oI gAdd) (var 4) (cst (.int 1))) aNil)))))))))) (sRet (var 1))))
noncomputable def F__law_near : FF := defF 1 5 b__law_near
noncomputable def b_spans_formed : FS := (sSeq (sNew 1 (lstF aNil)) (sSeq (sFor (iSq (dL (calL oSort (aCons (callF F_full (aCons (var 0) aNil)) aNil)))) (gT 2 (gsCons (gN 2) (gsCons (gN 3) gsNil))) (sIf (andT (truT (var 1)) (tst (callF F_reaches (aCons (bin oIx (bin oIx (var 1) (un oNeg (cst (.int 1)))) (cst (.int 1))) (aCons (var 2) aNil))))) (sPut (tupF (aCons (bin oIx (bin oIx (var 1) (un oNeg (cst (.int 1)))) (cst (.int 0))) (aCons (callF F_higher_end (aCons (bin oIx (bin oIx (var 1) (un oNeg (cst (.int 1)))) (cst (.int 1))) (aCons (var 3) aNil))) aNil))) (var 1) (un oNeg (cst (.int 1)))) (sApp (var 1) (tupF (aCons (var 2) (aCons (var 3) aNil)))))) (sRet (cal oTuple (aCons (var 1) aNil)))))
noncomputable def F_spans_formed : FF := defF 1 4 b_spans_formed
noncomputable def b__law_far : FS := (sSeq (sSet 1 (cst (.int 0))) (sSeq (sFor (iRg (cst (.int 11))) (gN 2) (sSet 1 (bin (oI gAdd) (bin (oI gMul) (var 1) (cst (.int 100000))) (callF F__law_take (aCons (var 0) (aCons (cst (.int 100000)) aNil)))))) (sRet (bin oIx (dL (lstF (aCons (var 1) (aCons (un oNeg (var 1)) aNil)))) (callF F__law_take (aCons (var 0) (aCons (cst (.int 2)) aNil)))))))
noncomputable def F__law_far : FF := defF 1 3 b__law_far
noncomputable def b__law_is_end : FS := (sRet (andV (un (oIs "tuple") (var 0)) (orV (bin (oEq false) (var 0) (tupF aNil)) (andV (bin (oEq false) (cal oLen (aCons (var 0) aNil)) (cst (.int 1))) (callF F__law_whole (aCons (bin oIx (var 0) (cst (.int 0))) aNil))))))
noncomputable def F__law_is_end : FF := defF 1 1 b__law_is_end
noncomputable def b__law_end : FS := (sSeq (sSet 1 (callF F__law_take (aCons (var 0) (aCons (cst (.int 5)) aNil)))) (sSeq (sIf (tst (bin (oEq false) (var 1) (cst (.int 0)))) (sRet (tupF aNil)) sNil) (sSeq (sIf (tst (bin (oEq false) (var 1) (cst (.int 1)))) (sRet (tupF (aCons (callF F__law_far (aCons (var 0) aNil)) aNil))) sNil) (sRet (tupF (aCons (bin (oI gSub) (callF F__law_take (aCons (var 0) (aCons (cst (.int 25)) aNil))) (cst (.int 12))) aNil))))))
noncomputable def F__law_end : FF := defF 1 2 b__law_end
noncomputable def b__law_in_form : FS := (sSeq (sIf (notT (tst (un (oIs "tuple") (var 0)))) (sRet (cst (.bl false))) sNil) (sSeq (sFor (iEnuT (var 0)) (gT 2 (gsCons (gN 1) (gsCons (gN 2) gsNil))) (sSeq (sIf (orT (notT (tst (un (oIs "tuple") (var 2)))) (tst (bin (oEq true) (cal oLen (aCons (var 2) aNil)) (cst (.int 2))))) (sRet (cst (.bl false))) sNil) (sSeq (sIf (orT (notT (tst (callF F__law_is_end (aCons (bin oIx (var 2) (cst (.int 0))) aNil)))) (notT (tst (callF F__law_is_end (aCons (bin oIx (var 2) (cst (.int 1))) aNil))))) (sRet (cst (.bl false))) sNil) (sSeq (sAsg (var 2) (gT 2 (gsCons (gN 3) (gsCons (gN 4) gsNil)))) (sSeq (sIf (andT (tst (bin (oEq true) (var 3) (tupF aNil))) (andT (tst (bin (oEq true) (var 4) (tupF aNil))) (tst (bin (oI gLt) (bin oIx (var 4) (cst (.int 0))) (bin oIx (var 3) (cst (.int 0))))))) (sRet (cst (.bl false))) sNil) (sSeq (sIf (andT (tst (bin (oI gGt) (var 1) (cst (.int 0)))) (orT (tst (bin (oEq false) (var 3) (tupF aNil))) (tst (bin (oEq false) (bin oIx (bin oIx (var 0) (bin (oI gSub) (var 1) (cst (.int 1)))) (cst (.int 1))) (tupF aNil))))) (sRet (cst (.bl false))) sNil) (sIf (andT (tst (bin (oI gGt) (var 1) (cst (.int 0)))) (tst (bin (oI gLe) (bin oIx (var 3) (cst (.int 0))) (bin (oI gAdd) (bin oIx (bin oIx (bin oIx (var 0) (bin (oI gSub) (var 1) (cst (.int 1)))) (cst (.int 1))) (cst (.int 0))) (cst (.int 1)))))) (sRet (cst (.bl false))) sNil))))))) (sRet (cst (.bl true)))))
noncomputable def F__law_in_form : FF := defF 1 5 b__law_in_form
noncomputable def b__law_spans : FS := (sRet (dL (lcL (iRg (var 1)) (gN 0) tYs (tupF (aCons (callF F__law_end (aCons (var 1) aNil)) (aCons (callF F__law_end (aCons (var 1) aNil)) aNil))) 1 [0])))
noncomputable def F__law_spans : FF := defF 2 2 b__law_spans
end Z
namespace Z
open PySem L2
noncomputable def dE (e : Option Int) : D := .tup (e.toList.map .int)
noncomputable def dS (x : Spn) : D := .tup [dE x.1, dE x.2]
noncomputable def sp2 (x : Spn) : Sp2 := (x.1.toList, x.2.toList)
@[simp] theorem dE_none : dE none = .tup [] := rfl
@[simp] theorem dE_some (n : Int) : dE (some n) = .tup [.int n] := rfl
@[simp] theorem tru_dE (e : Option Int) : D.tru (dE e) = some e.isSome := by cases e <;> rfl
noncomputable def defV (o : Option Ctl) (n : Nat) : Option (A × Sto) := match o with
  | some (.rt x S') => if n ≤ S'.length then some (fin n S' x, S'.take n) else none
  | some (.nx _ S') => if n ≤ S'.length then some (.d .non, S'.take n) else none
  | _ => none
theorem defF_eq {np nl : Nat} {b : FS} {as : List A} {S : Sto} (h : as.length = np) : defF np nl b as S = defV (b (as.map some ++ List.replicate (nl - np) none) S) S.length := by
  unfold defF; rw [if_pos h]; rfl
theorem ret_of {np nl : Nat} {b : FS} {as : List A} {S : Sto} {x : D} (h : as.length = np) (e : b (as.map some ++ List.replicate (nl - np) none) S = some (.rt (.d x) S)) : defF np nl b as S = some (.d x, S) := by
  rw [defF_eq h, e]; simp [defV]
theorem seq_nx {F G : FS} {ρ ρ' : Rho} {S S' : Sto} (h : F ρ S = some (.nx ρ' S')) : sSeq F G ρ S = G ρ' S' := by unfold sSeq; rw [h]
theorem seq_rt {F G : FS} {ρ : Rho} {v : A} {S S' : Sto} (h : F ρ S = some (.rt v S')) : sSeq F G ρ S = some (.rt v S') := by unfold sSeq; rw [h]
theorem for_nx {fi : FL} {g : FG} {b : FS} {ρ : Rho} {S S1 : Sto} {ds : List D} {c : Option Ctl} (h : fi ρ S = some (ds, S1)) (h2 : forF g b ds ρ S1 = c) : sFor fi g b ρ S = c := by unfold sFor; rw [h]; exact h2
theorem dL_of {f : FL} {ρ : Rho} {S S1 : Sto} {ds : List D} (h : f ρ S = some (ds, S1)) : dL f ρ S = some (.d (.lst ds), S1) := by unfold dL; rw [h]
theorem cat_of {f g : FE} {ρ : Rho} {S : Sto} {ds es : List D} (hf : f ρ S = some (.d (.lst ds), S)) (hg : g ρ S = some (.d (.lst es), S)) (hl : ds.length + es.length ≤ lim) : binL oCat f g ρ S = some (ds ++ es, S) := by
  unfold binL; rw [hf]; simp only [hg, oCat, A.get, if_pos hl]
theorem call1 {F : FF} {f : FE} {ρ : Rho} {S S1 : Sto} {x : A} {r : Option (A × Sto)} (hf : f ρ S = some (x, S1)) (h : F [x] S1 = r) : callF F (aCons f aNil) ρ S = r := by
  unfold callF aCons; rw [hf]; exact h
theorem bin_of {o : O2} {f g : FE} {ρ : Rho} {S S1 S2 : Sto} {x y z : A} (hf : f ρ S = some (x, S1)) (hg : g ρ S1 = some (y, S2)) (h : o S2 x y = some z) : bin o f g ρ S = some (z, S2) := by
  unfold bin; rw [hf]; simp only [hg, h]
theorem ret_st {f : FE} {ρ : Rho} {S S1 : Sto} {x : A} (hf : f ρ S = some (x, S1)) : sRet f ρ S = some (.rt x S1) := by unfold sRet; rw [hf]
theorem f_full {xs : List Spn} {S : Sto} {x : D} (hx : x = .lst (xs.map dS) ∨ x = .tup (xs.map dS)) (hl : xs.length ≤ lim) : F_full [.d x] S = some (.d (.lst ((xs.filter fullB).map dS)), S) := by
  refine ret_of rfl ?_
  have key : lcL (iSq (var 0)) (gT 2 (gsCons (gN 0) (gsCons (gN 1) gsNil))) (orT (notT (truT (var 0))) (orT (notT (truT (var 1))) (tst (bin (oI gLe) (bin oIx (var 0) (cst (.int 0))) (bin oIx (var 1) (cst (.int 0))))))) (tupF (aCons (var 0) (aCons (var 1) aNil))) 2 [] [some (.d x)] S = some ((xs.filter fullB).map dS, S) := by
    refine lcL_pure (S1 := S) (fun ρ => ∃ a b, ρ = [a, b]) dS fullB dS xs ?_ ⟨none, none, rfl⟩ hl ?_
    · rcases hx with rfl | rfl <;> simp
    · rintro ⟨a, b⟩ _ ρ ⟨u, v, rfl⟩
      refine ⟨[some (.d (dE a)), some (.d (dE b))], rfl, ⟨_, _, rfl⟩, fun S => ?_, fun _ S => ?_⟩
      · cases a <;> cases b <;> simp [fullB, L2.atI, ixN]
      · simp [dS, lim, List.mapM_cons]
  show b_full [some (.d x)] S = _
  unfold b_full
  simp only [sRet, dL, key]
theorem f_reaches (h l : Option Int) (S : Sto) : F_reaches [.d (dE h), .d (dE l)] S = some (.d (.bl (reachB h l)), S) := by
  refine ret_of rfl ?_
  show b_reaches [some (.d (dE h)), some (.d (dE l))] S = _
  unfold b_reaches
  cases h <;> cases l <;> simp [reachB, L2.atI, ixN]
theorem f_higher (a b : Option Int) (S : Sto) : F_higher_end [.d (dE a), .d (dE b)] S = some (.d (dE (hiE a b)), S) := by
  refine ret_of rfl ?_
  show b_higher_end [some (.d (dE a)), some (.d (dE b))] S = _
  unfold b_higher_end
  cases a with
  | none => cases b <;> simp [hiE, lim]
  | some x => cases b with
    | none => simp [hiE, lim]
    | some y =>
      simp [hiE, HT.lexLt]
      by_cases h : x = y
      · subst h; simp
      · by_cases h2 : x < y <;> simp [h, h2]
noncomputable def un2 (x : Sp2) : Spn := (x.1.head?, x.2.head?)
theorem un2_sp2 (x : Spn) : un2 (sp2 x) = x := by
  obtain ⟨a, b⟩ := x
  cases a <;> cases b <;> rfl
noncomputable def srtS (xs : List Spn) : List Spn := (srtSp (xs.map sp2)).map un2
theorem srtS_perm (xs : List Spn) : (srtS xs).Perm xs := by
  have h := (srt_perm (xs.map sp2)).map un2
  rw [List.map_map, show un2 ∘ sp2 = id from funext un2_sp2, List.map_id] at h
  exact h
theorem srtS_map (xs : List Spn) : (srtS xs).map sp2 = srtSp (xs.map sp2) := by
  unfold srtS
  rw [List.map_map]
  refine (List.map_congr_left fun y hy => ?_).trans (List.map_id _)
  obtain ⟨x, _, rfl⟩ := List.mem_map.mp ((srt_perm (xs.map sp2)).mem_iff.mp hy)
  show sp2 (un2 (sp2 x)) = sp2 x
  rw [un2_sp2]
theorem lt_low {x y : Spn} (h : ltSp (sp2 y) (sp2 x) = false) : lowLe x.1 y.1 := by
  obtain ⟨a, b⟩ := x
  obtain ⟨c, d⟩ := y
  cases a with
  | none => simp [lowLe]
  | some p => cases c with
    | none => simp [ltSp, sp2, HT.lexLt] at h
    | some q =>
      simp only [lowLe]
      by_cases e : q = p
      · omega
      · simp [ltSp, sp2, HT.lexLt, e] at h; omega
theorem srtS_sorted (xs : List Spn) : (srtS xs).Pairwise (fun x z => lowLe x.1 z.1) := by
  have h := srt_sorted (xs.map sp2)
  rw [← srtS_map] at h
  exact (List.pairwise_map.mp h).imp fun q => lt_low q
noncomputable def formedS (xs : List Spn) : List Spn := frm (srtS (xs.filter fullB))
theorem hasAny_perm {xs ys : List Spn} (h : xs.Perm ys) (n : Int) : hasAny xs n = hasAny ys n := by
  rw [Bool.eq_iff_iff]
  simp only [hasAny, List.any_eq_true]
  exact ⟨fun ⟨x, a, b⟩ => ⟨x, h.mem_iff.mp a, b⟩, fun ⟨x, a, b⟩ => ⟨x, h.mem_iff.mpr a, b⟩⟩
theorem full_of_has {x : Spn} {n : Int} (h : has1 x n = true) : fullB x = true := by
  obtain ⟨a, b⟩ := x
  cases a <;> cases b <;> simp_all [has1, inLow, inHigh, fullB]; omega
theorem hasAny_full (xs : List Spn) (n : Int) : hasAny (xs.filter fullB) n = hasAny xs n := by
  rw [Bool.eq_iff_iff]
  simp only [hasAny, List.any_eq_true, List.mem_filter]
  exact ⟨fun ⟨x, a, b⟩ => ⟨x, a.1, b⟩, fun ⟨x, a, b⟩ => ⟨x, ⟨a, full_of_has b⟩, b⟩⟩
theorem formed_ok (xs : List Spn) : inF (formedS xs) ∧ ∀ n, hasAny (formedS xs) n = hasAny xs n := by
  obtain ⟨h1, h2⟩ := frm_ok (r := srtS (xs.filter fullB)) (fun x hx => (List.mem_filter.mp ((srtS_perm _).mem_iff.mp hx)).2) (srtS_sorted _)
  exact ⟨h1, fun n => by rw [formedS, h2 n, hasAny_perm (srtS_perm _), hasAny_full]⟩
theorem formed_same {xs ys : List Spn} (h : ∀ n, hasAny xs n = hasAny ys n) : formedS xs = formedS ys :=
  inF_one (formed_ok xs).1 (formed_ok ys).1 fun n => by rw [(formed_ok xs).2, (formed_ok ys).2, h]
noncomputable abbrev bodyF : FS := (sIf (andT (truT (var 1)) (tst (callF F_reaches (aCons (bin oIx (bin oIx (var 1) (un oNeg (cst (.int 1)))) (cst (.int 1))) (aCons (var 2) aNil))))) (sPut (tupF (aCons (bin oIx (bin oIx (var 1) (un oNeg (cst (.int 1)))) (cst (.int 0))) (aCons (callF F_higher_end (aCons (bin oIx (bin oIx (var 1) (un oNeg (cst (.int 1)))) (cst (.int 1))) (aCons (var 3) aNil))) aNil))) (var 1) (un oNeg (cst (.int 1)))) (sApp (var 1) (tupF (aCons (var 2) (aCons (var 3) aNil)))))
noncomputable abbrev tgF (i j : Nat) : FG := gT 2 (gsCons (gN i) (gsCons (gN j) gsNil))
theorem at_last {α : Type} (xs : List α) (v : α) : L2.atI (xs ++ [v]) (-1) = some v := atI_last xs v
theorem ix_last {α : Type} (xs : List α) (v : α) : ixN (xs ++ [v]).length (-1) = some xs.length := by
  unfold ixN
  rw [if_neg (by decide), List.length_append, List.length_singleton, if_pos (by omega)]
  congr 1; omega
theorem set_last {α : Type} (xs : List α) (v u : α) : (xs ++ [v]).set xs.length u = xs ++ [u] := by
  rw [List.set_append_right _ _ (Nat.le_refl _), Nat.sub_self]; rfl
theorem step_f {S : Sto} {X2 : A} {pre : List Spn} {y x : Spn} {u v : Option A} (hl : pre.length + 1 < lim) :
    ∃ pre' y', (mrg y [x] = if reachB y.2 x.1 then [y'] else [y, y']) ∧ (pre' = if reachB y.2 x.1 then pre else pre ++ [y]) ∧ (y' = if reachB y.2 x.1 then (y.1, hiE y.2 x.2) else x) ∧
    bodyF [some X2, some (.p S.length), some (.d (dE x.1)), some (.d (dE x.2))] (S ++ [(pre ++ [y]).map dS]) = some (.nx [some X2, some (.p S.length), some (.d (dE x.1)), some (.d (dE x.2))] (S ++ [(pre' ++ [y']).map dS])) := by
  refine ⟨_, _, ?_, rfl, rfl, ?_⟩
  · simp only [mrg]; split <;> rfl
  have e1 : ((pre ++ [y]).map dS) = pre.map dS ++ [dS y] := by simp
  have e2 : ∀ {r : List D}, (S ++ [r])[S.length]? = some r := fun {r} => by simp
  have e3 : ∀ {r q : List D}, (S ++ [r]).set S.length q = S ++ [q] := fun {r q} => set_last S r q
  have ne : (pre.map dS ++ [dS y]).isEmpty = false := by simp
  have i0 : ∀ z : Spn, L2.atI [dE z.1, dE z.2] 0 = some (dE z.1) := fun _ => rfl
  have i1 : ∀ z : Spn, L2.atI [dE z.1, dE z.2] 1 = some (dE z.2) := fun _ => rfl
  have hlen : (pre.map dS).length = pre.length := by simp
  have d1 : ∀ z : Spn, dS z = .tup [dE z.1, dE z.2] := fun _ => rfl
  have n1 : ∀ (l : List D) (z : D), (l ++ [z]).isEmpty = false := fun l z => by simp
  cases hr : reachB y.2 x.1 with
  | true =>
    rw [e1]
    simp [n1, e2, e3, at_last, ix_last, d1, i0, i1, f_reaches, f_higher, hr, List.mapM_cons, lim, set_last]
    have q := ix_last (pre.map dS) (dS y)
    rw [List.length_append, List.length_map] at q
    have q' : ixN (pre.length + 1) (-1) = some pre.length := q
    rw [q']
    have s := set_last (pre.map dS) (dS y) (D.tup [dE y.fst, dE (hiE y.snd x.snd)])
    rw [List.length_map] at s
    simp only
    rw [show (List.map dS pre ++ [D.tup [dE y.fst, dE y.snd]]).set pre.length (D.tup [dE y.fst, dE (hiE y.snd x.snd)]) = _ from s]
  | false =>
    rw [e1]
    simp [n1, e2, e3, at_last, ix_last, d1, i0, i1, f_reaches, f_higher, hr, List.mapM_cons, lim, set_last]
    unfold lim at hl; omega
theorem tg_f {X2 P2 : Option A} {u v : Option A} (x : Spn) : tgF 2 3 (dS x) [X2, P2, u, v] = some [X2, P2, some (.d (dE x.1)), some (.d (dE x.2))] := rfl
theorem loop_f {S : Sto} {X2 : A} : ∀ (ys : List Spn) (pre : List Spn) (y : Spn) (u v : Option A), pre.length + 1 + ys.length < lim → ∃ u' v', forF (tgF 2 3) bodyF (ys.map dS) [some X2, some (.p S.length), u, v] (S ++ [(pre ++ [y]).map dS]) = some (.nx [some X2, some (.p S.length), u', v'] (S ++ [(pre ++ mrg y ys).map dS]))
  | [], pre, y, u, v, _ => ⟨u, v, rfl⟩
  | x :: r, pre, y, u, v, hl => by
    rw [List.length_cons] at hl
    obtain ⟨pre', y', h1, h2, h3, h4⟩ := step_f (S := S) (X2 := X2) (pre := pre) (y := y) (x := x) (u := u) (v := v) (by omega)
    rw [List.map_cons]
    unfold forF
    rw [tg_f]
    simp only [h4]
    have lp : pre'.length + 1 + r.length < lim := by
      rw [h2]; split
      · omega
      · rw [List.length_append]; simp; omega
    obtain ⟨u', v', e⟩ := loop_f r pre' y' (some (.d (dE x.1))) (some (.d (dE x.2))) lp
    refine ⟨u', v', ?_⟩
    rw [e]
    have : pre' ++ mrg y' r = pre ++ mrg y (x :: r) := by
      rw [h2, h3]
      simp only [mrg]
      split <;> simp
    rw [this]
theorem f_formed {xs : List Spn} {S : Sto} {x : D} (hx : x = .lst (xs.map dS) ∨ x = .tup (xs.map dS)) (hl : xs.length < 128) : F_spans_formed [.d x] S = some (.d (.tup ((formedS xs).map dS)), S) := by
  have hf := f_full (S := S ++ [[]]) hx (by unfold lim; omega)
  have lf : ((xs.filter fullB).map dS).length < 128 := by rw [List.length_map]; exact Nat.lt_of_le_of_lt (List.length_filter_le ..) hl
  have un : unSps ((xs.filter fullB).map dS) = some ((xs.filter fullB).map sp2) := by
    have := unSps_map ((xs.filter fullB).map sp2)
    rw [List.map_map] at this; exact this
  have sr : (srtSp ((xs.filter fullB).map sp2)).map dSp = (srtS (xs.filter fullB)).map dS := by
    rw [← srtS_map, List.map_map]; rfl
  have e2 : ∀ {r : List D}, (S ++ [r])[S.length]? = some r := fun {r} => by simp
  have ls : (srtS (xs.filter fullB)).length < 128 := by
    rw [(srtS_perm _).length_eq]; exact Nat.lt_of_le_of_lt (List.length_filter_le ..) hl
  have loop : ∃ u' v', forF (tgF 2 3) bodyF ((srtS (xs.filter fullB)).map dS) [some (.d x), some (.p S.length), none, none] (S ++ [[]]) = some (.nx [some (.d x), some (.p S.length), u', v'] (S ++ [(formedS xs).map dS])) := by
    unfold formedS
    cases hs : srtS (xs.filter fullB) with
    | nil => exact ⟨none, none, rfl⟩
    | cons y r =>
      rw [hs, List.length_cons] at ls
      rw [List.map_cons]
      unfold forF
      rw [tg_f]
      have b1 : bodyF [some (.d x), some (.p S.length), some (.d (dE y.1)), some (.d (dE y.2))] (S ++ [[]]) = some (.nx [some (.d x), some (.p S.length), some (.d (dE y.1)), some (.d (dE y.2))] (S ++ [([] ++ [y]).map dS])) := by
        simp [e2, List.mapM_cons, lim, dS, set_last]
      simp only [b1]
      obtain ⟨u', v', e⟩ := loop_f (S := S) (X2 := .d x) r [] y (some (.d (dE y.1))) (some (.d (dE y.2))) (by unfold lim; simp; omega)
      exact ⟨u', v', e⟩
  obtain ⟨u', v', loop⟩ := loop
  refine (defF_eq rfl).trans ?_
  show defV (b_spans_formed [some (.d x), none, none, none] S) S.length = _
  have s1 : sNew 1 (lstF aNil) [some (.d x), none, none, none] S = some (.nx [some (.d x), some (.p S.length), none, none] (S ++ [[]])) := by simp
  have s2 : iSq (dL (calL oSort (aCons (callF F_full (aCons (var 0) aNil)) aNil))) [some (.d x), some (.p S.length), none, none] (S ++ [[]]) = some ((srtS (xs.filter fullB)).map dS, S ++ [[]]) := by
    simp only [iSq, dL, calL, aCons, callF, var, aNil, List.getElem?_cons_zero, hf, oSort, A.get, if_pos lf, un, sr]
  unfold b_spans_formed
  rw [seq_nx s1, seq_nx (for_nx s2 loop)]
  simp [defV, e2]
end Z
namespace Z
open PySem L2
noncomputable def Pot (k : Nat) (S : Sto) : Prop := ∃ w a b, S[k]? = some [.int w, .int a, .int b]
noncomputable def Pt (k : Nat) (S S' : Sto) : Prop := ∃ w a b, S' = S.set k [.int w, .int a, .int b]
theorem Pot.lt {k : Nat} {S : Sto} (h : Pot k S) : k < S.length := let ⟨_, _, _, e⟩ := h; (List.getElem?_eq_some_iff.mp e).1
theorem Pt.pot {k : Nat} {S S' : Sto} (h : Pt k S S') (l : k < S.length) : Pot k S' := by
  obtain ⟨w, a, b, rfl⟩ := h
  exact ⟨w, a, b, List.getElem?_set_self l⟩
theorem Pt.len {k : Nat} {S S' : Sto} (h : Pt k S S') : S'.length = S.length := by
  obtain ⟨w, a, b, rfl⟩ := h; simp
theorem Pt.trans {k : Nat} {S S' S'' : Sto} (h : Pt k S S') (h2 : Pt k S' S'') : Pt k S S'' := by
  obtain ⟨w, a, b, rfl⟩ := h
  obtain ⟨w', a', b', rfl⟩ := h2
  exact ⟨w', a', b', by rw [List.set_set]⟩
theorem Pt.refl {k : Nat} {S : Sto} (h : Pot k S) : Pt k S S := by
  obtain ⟨w, a, b, e⟩ := h
  obtain ⟨h1, h2⟩ := List.getElem?_eq_some_iff.mp e
  exact ⟨w, a, b, by rw [← h2, List.set_getElem_self]⟩
theorem ret_ofS {np nl : Nat} {b : FS} {as : List A} {S S' : Sto} {x : D} (h : as.length = np) (e : b (as.map some ++ List.replicate (nl - np) none) S = some (.rt (.d x) S')) (l : S'.length = S.length) : defF np nl b as S = some (.d x, S') := by
  rw [defF_eq h, e]; simp [defV, l]
  rw [← l, List.take_length]
theorem at0 {α : Type} {x : α} {r : List α} : L2.atI (x :: r) 0 = some x := by simp [L2.atI, ixN]
theorem at1 {α : Type} {x y : α} {r : List α} : L2.atI (x :: y :: r) 1 = some y := by
  unfold L2.atI ixN
  rw [if_pos (by decide), if_pos (by simp only [List.length_cons]; omega)]; rfl
theorem at2 {α : Type} {x y z : α} {r : List α} : L2.atI (x :: y :: z :: r) 2 = some z := by
  unfold L2.atI ixN
  rw [if_pos (by decide), if_pos (by simp only [List.length_cons]; omega)]; rfl
noncomputable def cellV (ns : List Int) (k : Int) : Int := (L2.atI ns k).getD 0
theorem f_cell (ns : List Int) {k : Int} (hk : 0 ≤ k) (S : Sto) : F__law_cell_at [.d (.lst (ns.map .int)), .d (.int k)] S = some (.d (.int (cellV ns k)), S) := by
  by_cases h : k < (ns.length : Int)
  · have hk' : k.toNat < ns.length := by omega
    have a0 : L2.atI ns k = some ns[k.toNat] := by
      have q := atI_nat (xs := ns) (j := k.toNat) (List.getElem?_eq_getElem hk')
      rwa [show ((k.toNat : Nat) : Int) = k by omega] at q
    have a : L2.atI (ns.map D.int) k = some (.int ns[k.toNat]) := by
      have q := atI_nat (xs := ns.map D.int) (j := k.toNat) (v := .int ns[k.toNat]) (by rw [List.getElem?_map, List.getElem?_eq_getElem hk']; rfl)
      rwa [show ((k.toNat : Nat) : Int) = k by omega] at q
    refine ret_of rfl ?_
    show b__law_cell_at [some (.d (.lst (ns.map .int))), some (.d (.int k))] S = _
    unfold b__law_cell_at
    simp [h, a, cellV, a0]
  · have a0 : L2.atI ns k = none := by
      unfold L2.atI ixN
      rw [if_pos hk, if_neg h]; rfl
    refine ret_of rfl ?_
    show b__law_cell_at [some (.d (.lst (ns.map .int))), some (.d (.int k))] S = _
    unfold b__law_cell_at
    simp [h, cellV, a0]
theorem f_pot (w c : Int) (S : Sto) : F__law_pot [.d (.int w), .d (.int c)] S = some ([.int w, .int c, .int c], S) := by
  simp [F__law_pot, defN, b__law_pot, List.mapM_cons, lim]
theorem f_take {k : Nat} {S : Sto} (hp : Pot k S) {m : Int} (h0 : 0 < m) (h1 : m < 1073741824) : ∃ r S', F__law_take [.p k, .d (.int m)] S = some (.d (.int r), S') ∧ Pt k S S' ∧ 0 ≤ r ∧ r < m := by
  obtain ⟨w, a, b, e⟩ := hp
  have lt := (List.getElem?_eq_some_iff.mp e).1
  have i1 : ixN 3 1 = some 1 := rfl
  have i2 : ixN 3 2 = some 2 := rfl
  by_cases c : w = 0 ∧ (0 < a ∨ b = 0)
  · refine ⟨a % m, S.set k [.int w, .int (a / m), .int b], ret_ofS rfl ?_ (by simp), ⟨_, _, _, rfl⟩, Int.emod_nonneg _ (by omega), Int.emod_lt_of_pos _ h0⟩
    show b__law_take [some (.p k), some (.d (.int m)), none] S = _
    unfold b__law_take
    obtain ⟨rfl, c⟩ := c
    by_cases ca : 0 < a
    · simp [e, at0, at1, at2, eqD, depD, ca, h0, h1, i1, i2]
    · have cb : b = 0 := by omega
      subst cb
      simp [e, at0, at1, at2, eqD, depD, ca, h0, h1, i1, i2]
  · have hb : (0 : Int) ≤ (b * 69069 + 907633385) % 4294967291 ∧ (b * 69069 + 907633385) % 4294967291 < 4294967291 := ⟨Int.emod_nonneg _ (by decide), Int.emod_lt_of_pos _ (by decide)⟩
    refine ⟨(b * 69069 + 907633385) % 4294967291 * ((b * 69069 + 907633385) % 4294967291) % 4294967279 / 16 * 40503 % 1000003 % m, S.set k [.int w, .int a, .int ((b * 69069 + 907633385) % 4294967291)], ret_ofS rfl ?_ (by simp), ⟨_, _, _, rfl⟩, Int.emod_nonneg _ (by omega), Int.emod_lt_of_pos _ h0⟩
    show b__law_take [some (.p k), some (.d (.int m)), none] S = _
    unfold b__law_take
    have s2 : ∀ {r : List D}, (S.set k r)[k]? = some r := fun {r} => List.getElem?_set_self lt
    have bd : -18446744073709551616 < (b * 69069 + 907633385) % 4294967291 ∧ (b * 69069 + 907633385) % 4294967291 < 18446744073709551616 := ⟨by omega, by omega⟩
    by_cases cw : w = 0
    · subst cw
      have ca : ¬ 0 < a := fun z => c ⟨rfl, .inl z⟩
      have cb : ¬ b = 0 := fun z => c ⟨rfl, .inr z⟩
      have cb' : (b == 0) = false := by simpa using cb
      simp [e, at0, at1, at2, eqD, depD, ca, cb', h0, h1, i1, i2, s2, bd]
    · have cw' : (w == 0) = false := by simpa using cw
      simp [e, at0, at1, at2, eqD, depD, cw', h0, h1, i1, i2, s2, bd]
noncomputable abbrev farB : FS := (sSet 1 (bin (oI gAdd) (bin (oI gMul) (var 1) (cst (.int 100000))) (callF F__law_take (aCons (var 0) (aCons (cst (.int 100000)) aNil)))))
theorem far_loop {k : Nat} : ∀ (ds : List D) {S : Sto} (u : Option A) (n : Int), Pot k S → ∃ S' u' n', forF (gN 2) farB ds [some (.p k), some (.d (.int n)), u] S = some (.nx [some (.p k), some (.d (.int n')), u'] S') ∧ Pt k S S'
  | [], S, u, n, hp => ⟨S, u, n, rfl, Pt.refl hp⟩
  | d :: ds, S, u, n, hp => by
    obtain ⟨r, S1, e1, p1, _⟩ := f_take hp (m := 100000) (by decide) (by decide)
    have b1 : farB [some (.p k), some (.d (.int n)), some (.d d)] S = some (.nx [some (.p k), some (.d (.int (n * 100000 + r))), some (.d d)] S1) := by
      simp [e1]
    obtain ⟨S2, u2, n2, e2, p2⟩ := far_loop ds (some (.d d)) (n * 100000 + r) (p1.pot hp.lt)
    refine ⟨S2, u2, n2, ?_, p1.trans p2⟩
    unfold forF
    show (match farB [some (.p k), some (.d (.int n)), some (.d d)] S with | some (.nx ρ2 S2) => _ | some (.ct ρ2 S2) => _ | some (.bk ρ2 S2) => _ | some (.rt v S2) => _ | none => _) = _
    rw [b1]
    exact e2
theorem f_far {k : Nat} {S : Sto} (hp : Pot k S) : ∃ r S', F__law_far [.p k] S = some (.d (.int r), S') ∧ Pt k S S' := by
  obtain ⟨S1, u1, n1, e1, p1⟩ := far_loop (rng 11) none 0 hp
  obtain ⟨r, S2, e2, p2, r0, r1⟩ := f_take (p1.pot hp.lt) (m := 2) (by decide) (by decide)
  have s1 : sSet 1 (cst (.int 0)) [some (.p k), none, none] S = some (.nx [some (.p k), some (.d (.int 0)), none] S) := rfl
  have s2 : iRg (cst (.int 11)) [some (.p k), some (.d (.int 0)), none] S = some (rng 11, S) := by simp
  have hr : r = 0 ∨ r = 1 := by omega
  refine ⟨if r = 0 then n1 else -n1, S2, ret_ofS rfl ?_ (p1.trans p2).len, p1.trans p2⟩
  show b__law_far [some (.p k), none, none] S = _
  unfold b__law_far
  rw [seq_nx s1, seq_nx (for_nx s2 e1)]
  rcases hr with rfl | rfl
  · simp [e2, List.mapM_cons, lim, at0]
  · simp [e2, List.mapM_cons, lim, at1]
theorem f_end {k : Nat} {S : Sto} (hp : Pot k S) : ∃ e S', F__law_end [.p k] S = some (.d (dE e), S') ∧ Pt k S S' := by
  obtain ⟨r, S1, e1, p1, r0, r1⟩ := f_take hp (m := 5) (by decide) (by decide)
  by_cases c0 : r = 0
  · subst c0
    refine ⟨none, S1, ret_ofS rfl ?_ p1.len, p1⟩
    show b__law_end [some (.p k), none] S = _
    unfold b__law_end
    simp [e1, eqD, depD, lim]
  · by_cases c1 : r = 1
    · subst c1
      obtain ⟨n, S2, e2, p2⟩ := f_far (p1.pot hp.lt)
      refine ⟨some n, S2, ret_ofS rfl ?_ (p1.trans p2).len, p1.trans p2⟩
      show b__law_end [some (.p k), none] S = _
      unfold b__law_end
      simp [e1, e2, eqD, depD, lim, List.mapM_cons]
    · obtain ⟨n, S2, e2, p2, _⟩ := f_take (p1.pot hp.lt) (m := 25) (by decide) (by decide)
      refine ⟨some (n - 12), S2, ret_ofS rfl ?_ (p1.trans p2).len, p1.trans p2⟩
      show b__law_end [some (.p k), none] S = _
      unfold b__law_end
      have c0' : (r == 0) = false := by simpa using c0
      have c1' : (r == 1) = false := by simpa using c1
      simp [e1, e2, eqD, depD, lim, c0', c1', List.mapM_cons]
noncomputable abbrev pairE : FE := tupF (aCons (callF F__law_end (aCons (var 1) aNil)) (aCons (callF F__law_end (aCons (var 1) aNil)) aNil))
theorem spans_loop {k c : Nat} (hkc : k ≠ c) : ∀ (ds : List D) {S : Sto} (u : Option A) (xs : List Spn), Pot k S → S[c]? = some (xs.map dS) → xs.length + ds.length ≤ lim → ∃ S' ys, lcF (gN 0) tYs pairE c ds [u, some (.p k)] S = some (S'.set c ((xs ++ ys).map dS)) ∧ ys.length = ds.length ∧ Pt k S S'
  | [], S, u, xs, hp, hc, hl => ⟨S, [], by
      obtain ⟨h1, h2⟩ := List.getElem?_eq_some_iff.mp hc
      rw [List.append_nil, ← h2, List.set_getElem_self]; rfl, rfl, Pt.refl hp⟩
  | d :: ds, S, u, xs, hp, hc, hl => by
    obtain ⟨a, S1, e1, p1⟩ := f_end hp
    obtain ⟨b, S2, e2, p2⟩ := f_end (p1.pot hp.lt)
    have p3 := p1.trans p2
    have hc2 : S2[c]? = some (xs.map dS) := by
      obtain ⟨w, x, y, rfl⟩ := p3
      rw [List.getElem?_set_ne hkc]; exact hc
    have f1 : pairE [some (.d d), some (.p k)] S = some (.d (dS (a, b)), S2) := by
      simp [e1, e2, List.mapM_cons, lim, dS]
    rw [List.length_cons] at hl
    have c2 := (List.getElem?_eq_some_iff.mp hc2).1
    have hp3 : Pot k (S2.set c ((xs ++ [(a, b)]).map dS)) := by
      obtain ⟨w, x, y, q⟩ := p3.pot hp.lt
      exact ⟨w, x, y, by rw [List.getElem?_set_ne (Ne.symm hkc)]; exact q⟩
    obtain ⟨S3, ys, e3, l3, p4⟩ := spans_loop hkc ds (some (.d d)) (xs ++ [(a, b)]) hp3 (List.getElem?_set_self c2) (by simp; omega)
    obtain ⟨w, x, y, rfl⟩ := p4
    refine ⟨S2.set k [.int w, .int x, .int y], (a, b) :: ys, ?_, by simp [l3], p3.trans ⟨w, x, y, rfl⟩⟩
    unfold lcF
    have hg : gN 0 d [u, some (.p k)] = some [some (.d d), some (.p k)] := rfl
    rw [hg]
    simp only [tYs, f1, hc2]
    rw [if_pos (show (xs.map dS).length < lim by simp; omega)]
    have e4 : (xs.map dS ++ [dS (a, b)]) = (xs ++ [(a, b)]).map dS := by simp
    rw [e4, e3]
    congr 1
    rw [List.set_comm _ _ hkc, List.set_set, List.append_assoc]
    exact List.set_comm _ _ (Ne.symm hkc)
theorem f_spans {k : Nat} {S : Sto} (hp : Pot k S) {m : Int} (h0 : 0 ≤ m) (h1 : m < 1000) : ∃ (xs : List Spn) (S' : Sto), F__law_spans [.p k, .d (.int m)] S = some (.d (.lst (xs.map dS)), S') ∧ xs.length = m.toNat ∧ Pt k S S' := by
  have hk := hp.lt
  have hp2 : Pot k (S ++ [[]]) := by
    obtain ⟨w, a, b, e⟩ := hp
    exact ⟨w, a, b, by rw [List.getElem?_append_left hk]; exact e⟩
  obtain ⟨S1, ys, e1, l1, p1⟩ := spans_loop (k := k) (c := S.length) (by omega) (rng m.toNat) none [] hp2 (by simp) (by simp [rng, lim]; omega)
  obtain ⟨w, a, b, rfl⟩ := p1
  have hl : ys.length = m.toNat := by rw [l1]; simp [rng]
  refine ⟨ys, S.set k [.int w, .int a, .int b], ret_ofS rfl ?_ (by simp), hl, ⟨w, a, b, rfl⟩⟩
  show b__law_spans [some (.p k), some (.d (.int m))] S = _
  have s1 : iRg (var 1) [some (.p k), some (.d (.int m))] S = some (rng m.toNat, S) := by
    simp; omega
  have e2 : ((S ++ [[]]).set k [D.int w, D.int a, D.int b]).set S.length (([] ++ ys).map dS) = S.set k [D.int w, D.int a, D.int b] ++ [ys.map dS] := by
    rw [List.set_append_left _ _ hk, List.set_append_right _ _ (by simp)]; simp
  rw [e2] at e1
  unfold b__law_spans
  simp only [sRet, dL, lcL, s1]
  rw [show blkR [some (A.p k), some (A.d (D.int m))] 1 [0] = [none, some (.p k)] from rfl, e1]
  simp
end Z
namespace Z
open PySem L2
noncomputable abbrev hasB : FS := (sIf (andT (orT (tst (bin (oEq false) (var 2) (tupF aNil))) (tst (bin (oI gLe) (bin oIx (var 2) (cst (.int 0))) (var 1)))) (orT (tst (bin (oEq false) (var 3) (tupF aNil))) (tst (bin (oI gLe) (var 1) (bin oIx (var 3) (cst (.int 0))))))) (sRet (cst (.bl true))) sNil)
theorem has_turn (X2 : A) (n : Int) (x : Spn) (S : Sto) : hasB [some X2, some (.d (.int n)), some (.d (dE x.1)), some (.d (dE x.2))] S = if has1 x n then some (.rt (.d (.bl true)) S) else some (.nx [some X2, some (.d (.int n)), some (.d (dE x.1)), some (.d (dE x.2))] S) := by
  obtain ⟨a, b⟩ := x
  cases a with
  | none => cases b with
    | none => simp [has1, inLow, inHigh, eqD, eqDs, depD, depDs, lim]
    | some h => by_cases c : n ≤ h <;> simp [has1, inLow, inHigh, eqD, eqDs, depD, depDs, lim, at0, c]
  | some l => cases b with
    | none => by_cases c : l ≤ n <;> simp [has1, inLow, inHigh, eqD, eqDs, depD, depDs, lim, at0, c]
    | some h => by_cases c : l ≤ n <;> by_cases c2 : n ≤ h <;> simp [has1, inLow, inHigh, eqD, eqDs, depD, depDs, lim, at0, c, c2]
theorem has_loop (X2 : A) (n : Int) (S : Sto) : ∀ (xs : List Spn) (u v : Option A), (hasAny xs n = true → forF (tgF 2 3) hasB (xs.map dS) [some X2, some (.d (.int n)), u, v] S = some (.rt (.d (.bl true)) S)) ∧
    (hasAny xs n = false → ∃ u' v', forF (tgF 2 3) hasB (xs.map dS) [some X2, some (.d (.int n)), u, v] S = some (.nx [some X2, some (.d (.int n)), u', v'] S))
  | [], u, v => ⟨fun h => by simp [hasAny] at h, fun _ => ⟨u, v, rfl⟩⟩
  | x :: r, u, v => by
    have ht := has_turn X2 n x S
    have cons : hasAny (x :: r) n = (has1 x n || hasAny r n) := rfl
    obtain ⟨i1, i2⟩ := has_loop X2 n S r (some (.d (dE x.1))) (some (.d (dE x.2)))
    rw [List.map_cons]
    unfold forF
    rw [tg_f]
    cases hx : has1 x n with
    | true =>
      rw [hx, if_pos rfl] at ht
      simp only [ht]
      exact ⟨fun _ => trivial, fun h => by rw [cons, hx] at h; cases h⟩
    | false =>
      rw [hx, if_neg (by decide)] at ht
      simp only [ht]
      rw [cons, hx, Bool.false_or]
      exact ⟨i1, i2⟩
theorem f_has {xs : List Spn} {x : D} (hx : x = .lst (xs.map dS) ∨ x = .tup (xs.map dS)) (n : Int) (S : Sto) : F__law_has [.d x, .d (.int n)] S = some (.d (.bl (hasAny xs n)), S) := by
  refine ret_of rfl ?_
  show b__law_has [some (.d x), some (.d (.int n)), none, none] S = _
  have s1 : iSq (var 0) [some (.d x), some (.d (.int n)), none, none] S = some (xs.map dS, S) := by rcases hx with rfl | rfl <;> simp
  obtain ⟨i1, i2⟩ := has_loop (.d x) n S xs none none
  unfold b__law_has
  cases h : hasAny xs n with
  | true => rw [seq_rt (for_nx s1 (i1 h))]
  | false =>
    obtain ⟨u, v, e⟩ := i2 h
    rw [seq_nx (for_nx s1 e)]
    rfl
noncomputable abbrev nearB : FS := (sSet 1 (dL (binL oCat (var 1) (dL (lstF (aCons (bin (oI gSub) (var 4) (cst (.int 1))) (aCons (var 4) (aCons (bin (oI gAdd) (var 4) (cst (.int 1))) aNil))))))))
theorem near_in (X2 : A) (S : Sto) (a b : Option A) : ∀ (es ns : List Int) (w : Option A), ns.length + 3 * es.length ≤ lim → ∃ (ms : List Int) (w' : Option A), forF (gN 4) nearB (es.map .int) [some X2, some (.d (.lst (ns.map .int))), a, b, w] S = some (.nx [some X2, some (.d (.lst (ms.map .int))), a, b, w'] S) ∧ ms.length = ns.length + 3 * es.length
  | [], ns, w, _ => ⟨ns, w, rfl, rfl⟩
  | e :: es, ns, w, hl => by
    rw [List.length_cons] at hl
    have b1 : nearB [some X2, some (.d (.lst (ns.map .int))), a, b, some (.d (.int e))] S = some (.nx [some X2, some (.d (.lst ((ns ++ [e - 1, e, e + 1]).map .int))), a, b, some (.d (.int e))] S) := by
      have : ns.length + 3 ≤ 1000000 := by unfold lim at hl; omega
      simp [List.mapM_cons, lim, this]
    obtain ⟨ms, w', e1, l1⟩ := near_in X2 S a b es (ns ++ [e - 1, e, e + 1]) (some (.d (.int e))) (by simp; omega)
    refine ⟨ms, w', ?_, by rw [l1]; simp; omega⟩
    rw [List.map_cons]
    unfold forF
    have hg : gN 4 (.int e) [some X2, some (.d (.lst (ns.map .int))), a, b, w] = some [some X2, some (.d (.lst (ns.map .int))), a, b, some (.d (.int e))] := rfl
    rw [hg]
    simp only [b1]
    exact e1
theorem near_out (X2 : A) (S : Sto) : ∀ (xs : List Spn) (ns : List Int) (u v w : Option A), ns.length + 6 * xs.length ≤ lim → ∃ (ms : List Int) (u' v' w' : Option A), forF (tgF 2 3) (sFor (iSq (bin oCatU (var 2) (var 3))) (gN 4) nearB) (xs.map dS) [some X2, some (.d (.lst (ns.map .int))), u, v, w] S = some (.nx [some X2, some (.d (.lst (ms.map .int))), u', v', w'] S) ∧ ms.length ≤ ns.length + 6 * xs.length
  | [], ns, u, v, w, _ => ⟨ns, u, v, w, rfl, Nat.le_refl _⟩
  | x :: r, ns, u, v, w, hl => by
    rw [List.length_cons] at hl
    have l2 : (x.1.toList ++ x.2.toList).length ≤ 2 := by obtain ⟨a, b⟩ := x; cases a <;> cases b <;> simp
    obtain ⟨ms, w', e1, l1⟩ := near_in X2 S (some (.d (dE x.1))) (some (.d (dE x.2))) (x.1.toList ++ x.2.toList) ns w (by omega)
    obtain ⟨ks, u2, v2, w2, e2, l3⟩ := near_out X2 S r ms (some (.d (dE x.1))) (some (.d (dE x.2))) w' (by omega)
    refine ⟨ks, u2, v2, w2, ?_, by rw [List.length_cons]; omega⟩
    rw [List.map_cons]
    unfold forF
    have hg : tgF 2 3 (dS x) [some X2, some (.d (.lst (ns.map .int))), u, v, w] = some [some X2, some (.d (.lst (ns.map .int))), some (.d (dE x.1)), some (.d (dE x.2)), w] := rfl
    rw [hg]
    have s1 : iSq (bin oCatU (var 2) (var 3)) [some X2, some (.d (.lst (ns.map .int))), some (.d (dE x.1)), some (.d (dE x.2)), w] S = some ((x.1.toList ++ x.2.toList).map .int, S) := by
      have : x.1.toList.length + x.2.toList.length ≤ 1000000 := by rw [List.length_append] at l2; omega
      simp [dE, lim, this]
    simp only [for_nx s1 e1]
    exact e2
theorem f_near {xs : List Spn} {x : D} (hx : x = .lst (xs.map dS) ∨ x = .tup (xs.map dS)) (hl : xs.length ≤ 1000) (S : Sto) : ∃ ns : List Int, F__law_near [.d x] S = some (.d (.lst (ns.map .int)), S) ∧ ns.length ≤ 1 + 6 * xs.length := by
  obtain ⟨ms, u, v, w, e, l⟩ := near_out (.d x) S xs [0] none none none (by unfold lim; simp; omega)
  refine ⟨ms, ret_of rfl ?_, by simpa using l⟩
  show b__law_near [some (.d x), none, none, none, none] S = _
  have s0 : sSet 1 (dL (lstF (aCons (cst (.int 0)) aNil))) [some (.d x), none, none, none, none] S = some (.nx [some (.d x), some (.d (.lst ([0].map .int))), none, none, none] S) := by simp [List.mapM_cons, lim]
  have s1 : iSq (var 0) [some (.d x), some (.d (.lst ([0].map .int))), none, none, none] S = some (xs.map dS, S) := by rcases hx with rfl | rfl <;> simp
  unfold b__law_near
  rw [seq_nx s0, seq_nx (for_nx s1 e)]
  rfl
theorem f_is_end (e : Option Int) (S : Sto) : F__law_is_end [.d (dE e)] S = some (.d (.bl true), S) := by
  refine ret_of rfl ?_
  show b__law_is_end [some (.d (dE e))] S = _
  unfold b__law_is_end
  cases e with
  | none => simp [eqD, eqDs, depD, depDs, lim, tyD]
  | some n =>
    have w : F__law_whole [.d (.int n)] S = some (.d (.bl true), S) := by
      refine ret_of rfl ?_
      show b__law_whole [some (.d (.int n))] S = _
      unfold b__law_whole
      simp [tyD]
    simp [eqD, eqDs, depD, depDs, lim, tyD, w, at0]
end Z
namespace Z
open PySem L2
noncomputable abbrev inB : FS := (sSeq (sIf (orT (notT (tst (un (oIs "tuple") (var 2)))) (tst (bin (oEq true) (cal oLen (aCons (var 2) aNil)) (cst (.int 2))))) (sRet (cst (.bl false))) sNil) (sSeq (sIf (orT (notT (tst (callF F__law_is_end (aCons (bin oIx (var 2) (cst (.int 0))) aNil)))) (notT (tst (callF F__law_is_end (aCons (bin oIx (var 2) (cst (.int 1))) aNil))))) (sRet (cst (.bl false))) sNil) (sSeq (sAsg (var 2) (gT 2 (gsCons (gN 3) (gsCons (gN 4) gsNil)))) (sSeq (sIf (andT (tst (bin (oEq true) (var 3) (tupF aNil))) (andT (tst (bin (oEq true) (var 4) (tupF aNil))) (tst (bin (oI gLt) (bin oIx (var 4) (cst (.int 0))) (bin oIx (var 3) (cst (.int 0))))))) (sRet (cst (.bl false))) sNil) (sSeq (sIf (andT (tst (bin (oI gGt) (var 1) (cst (.int 0)))) (orT (tst (bin (oEq false) (var 3) (tupF aNil))) (tst (bin (oEq false) (bin oIx (bin oIx (var 0) (bin (oI gSub) (var 1) (cst (.int 1)))) (cst (.int 1))) (tupF aNil))))) (sRet (cst (.bl false))) sNil) (sIf (andT (tst (bin (oI gGt) (var 1) (cst (.int 0)))) (tst (bin (oI gLe) (bin oIx (var 3) (cst (.int 0))) (bin (oI gAdd) (bin oIx (bin oIx (bin oIx (var 0) (bin (oI gSub) (var 1) (cst (.int 1)))) (cst (.int 1))) (cst (.int 0))) (cst (.int 1)))))) (sRet (cst (.bl false))) sNil))))))
theorem in_turn {s : List Spn} {x : Spn} {i : Nat} {u v : Option A} {S : Sto} (hf : fullB x = true) (hs : i = 0 ∨ ∃ j y h l, i = j + 1 ∧ s[j]? = some y ∧ y.2 = some h ∧ x.1 = some l ∧ h + 1 < l) :
    inB [some (.d (.tup (s.map dS))), some (.d (.int i)), some (.d (dS x)), u, v] S = some (.nx [some (.d (.tup (s.map dS))), some (.d (.int i)), some (.d (dS x)), some (.d (dE x.1)), some (.d (dE x.2))] S) := by
  have d1 : dS x = .tup [dE x.1, dE x.2] := rfl
  have s1 : sIf (orT (notT (tst (un (oIs "tuple") (var 2)))) (tst (bin (oEq true) (cal oLen (aCons (var 2) aNil)) (cst (.int 2))))) (sRet (cst (.bl false))) sNil [some (.d (.tup (s.map dS))), some (.d (.int i)), some (.d (dS x)), u, v] S = some (.nx [some (.d (.tup (s.map dS))), some (.d (.int i)), some (.d (dS x)), u, v] S) := by
    simp [d1, tyD, eqD, depD]
  have s2 : sIf (orT (notT (tst (callF F__law_is_end (aCons (bin oIx (var 2) (cst (.int 0))) aNil)))) (notT (tst (callF F__law_is_end (aCons (bin oIx (var 2) (cst (.int 1))) aNil))))) (sRet (cst (.bl false))) sNil [some (.d (.tup (s.map dS))), some (.d (.int i)), some (.d (dS x)), u, v] S = some (.nx [some (.d (.tup (s.map dS))), some (.d (.int i)), some (.d (dS x)), u, v] S) := by
    simp [d1, at0, at1, f_is_end]
  have s3 : sAsg (var 2) (gT 2 (gsCons (gN 3) (gsCons (gN 4) gsNil))) [some (.d (.tup (s.map dS))), some (.d (.int i)), some (.d (dS x)), u, v] S = some (.nx [some (.d (.tup (s.map dS))), some (.d (.int i)), some (.d (dS x)), some (.d (dE x.1)), some (.d (dE x.2))] S) := by
    simp [d1]
  have s4 : sIf (andT (tst (bin (oEq true) (var 3) (tupF aNil))) (andT (tst (bin (oEq true) (var 4) (tupF aNil))) (tst (bin (oI gLt) (bin oIx (var 4) (cst (.int 0))) (bin oIx (var 3) (cst (.int 0))))))) (sRet (cst (.bl false))) sNil [some (.d (.tup (s.map dS))), some (.d (.int i)), some (.d (dS x)), some (.d (dE x.1)), some (.d (dE x.2))] S = some (.nx [some (.d (.tup (s.map dS))), some (.d (.int i)), some (.d (dS x)), some (.d (dE x.1)), some (.d (dE x.2))] S) := by
    obtain ⟨a, b⟩ := x
    cases a <;> cases b <;> simp_all [eqD, eqDs, depD, depDs, lim, at0, fullB]
    rename_i l h
    have : ¬ h < l := by omega
    simp [this]
  rw [inB, seq_nx s1, seq_nx s2, seq_nx s3, seq_nx s4]
  rcases hs with rfl | ⟨j, y, h, l, rfl, hj, hy, hx, lt⟩
  · simp
  · have a1 : L2.atI (s.map dS) (j : Int) = some (.tup [dE y.1, dE y.2]) := atI_nat (by rw [List.getElem?_map, hj]; rfl)
    have p : ((0 : Int) < ((j + 1 : Nat) : Int)) := by omega
    have nle : ¬ l ≤ h + 1 := by omega
    rw [hx] at *
    rw [hy] at a1
    simp [p, a1, at0, at1, eqD, eqDs, depD, depDs, lim, nle]
theorem inF_chain : ∀ {s : List Spn}, inF s → ∀ (i : Nat) x, s[i]? = some x → fullB x = true ∧ (i = 0 ∨ ∃ j y h l, i = j + 1 ∧ s[j]? = some y ∧ y.2 = some h ∧ x.1 = some l ∧ h + 1 < l)
  | [], _, i, x, h => by cases h
  | z :: r, hi, 0, x, h => by cases h; exact ⟨hi.1, .inl rfl⟩
  | z :: r, hi, i + 1, x, h => by
    have h' : r[i]? = some x := by simpa using h
    obtain ⟨h1, h2⟩ := inF_chain hi.2.2 i x h'
    refine ⟨h1, .inr ?_⟩
    rcases h2 with rfl | ⟨j, y, a, l, rfl, q1, q2, q3, q4⟩
    · cases r with
      | nil => cases h'
      | cons w r =>
        cases h'
        obtain ⟨a, l, e1, e2, lt⟩ := hi.2.1
        exact ⟨0, z, a, l, rfl, rfl, e1, e2, lt⟩
    · exact ⟨j + 1, y, a, l, rfl, by simpa using q1, q2, q3, q4⟩
theorem in_loop {s : List Spn} (hi : inF s) (S : Sto) : ∀ (k i : Nat), k + i = s.length → ∀ (a b u v : Option A), ∃ a' b' u' v', forF (gT 2 (gsCons (gN 1) (gsCons (gN 2) gsNil))) inB ((enu (s.map dS)).drop i) [some (.d (.tup (s.map dS))), a, b, u, v] S = some (.nx [some (.d (.tup (s.map dS))), a', b', u', v'] S)
  | 0, i, e, a, b, u, v => by
    rw [List.drop_eq_nil_of_le (by rw [enu_len]; simp; omega)]
    exact ⟨a, b, u, v, rfl⟩
  | k + 1, i, e, a, b, u, v => by
    have hlt : i < s.length := by omega
    have hl : i < (enu (s.map dS)).length := by rw [enu_len]; simpa using hlt
    have hd : (enu (s.map dS))[i] = .tup [.int i, dS s[i]] := by
      simp [enu]
    rw [List.drop_eq_getElem_cons hl, hd]
    unfold forF
    have hg : gT 2 (gsCons (gN 1) (gsCons (gN 2) gsNil)) (.tup [.int i, dS s[i]]) [some (.d (.tup (s.map dS))), a, b, u, v] = some [some (.d (.tup (s.map dS))), some (.d (.int i)), some (.d (dS s[i])), u, v] := rfl
    rw [hg]
    obtain ⟨h1, h2⟩ := inF_chain hi i s[i] (List.getElem?_eq_getElem hlt)
    simp only [in_turn (s := s) (x := s[i]) (i := i) (u := u) (v := v) (S := S) h1 h2]
    exact in_loop hi S k (i + 1) (by omega) _ _ _ _
theorem f_in_form {s : List Spn} (hi : inF s) (S : Sto) : F__law_in_form [.d (.tup (s.map dS))] S = some (.d (.bl true), S) := by
  refine ret_of rfl ?_
  show b__law_in_form [some (.d (.tup (s.map dS))), none, none, none, none] S = _
  have s0 : sIf (notT (tst (un (oIs "tuple") (var 0)))) (sRet (cst (.bl false))) sNil [some (.d (.tup (s.map dS))), none, none, none, none] S = some (.nx [some (.d (.tup (s.map dS))), none, none, none, none] S) := by simp [tyD]
  have s1 : iEnuT (var 0) [some (.d (.tup (s.map dS))), none, none, none, none] S = some (enu (s.map dS), S) := by simp
  obtain ⟨a, b, u, v, e⟩ := in_loop hi S s.length 0 (by omega) none none none none
  rw [List.drop_zero] at e
  unfold b__law_in_form
  rw [seq_nx s0, seq_nx (for_nx s1 e)]
  rfl
theorem eq_dS (x y : Spn) : eqD (dS x) (dS y) = some (decide (x = y)) := by
  obtain ⟨a, b⟩ := x
  obtain ⟨c, d⟩ := y
  cases a <;> cases b <;> cases c <;> cases d <;> simp [dS, eqD, eqDs] <;> rfl
theorem eqs_dS : ∀ xs ys : List Spn, eqDs (xs.map dS) (ys.map dS) = some (decide (xs = ys))
  | [], [] => by simp [eqDs]
  | [], y :: ys => by simp [eqDs]
  | x :: xs, [] => by simp [eqDs]
  | x :: xs, y :: ys => by
    rw [List.map_cons, List.map_cons]
    unfold eqDs
    rw [eq_dS, eqs_dS xs ys]
    by_cases h1 : x = y <;> by_cases h2 : xs = ys <;> simp [h1, h2]
theorem dep_dS (x : Spn) : depD (dS x) ≤ 3 := by
  obtain ⟨a, b⟩ := x
  cases a <;> cases b <;> simp [dS, depD, depDs]
theorem deps_dS : ∀ xs : List Spn, depDs (xs.map dS) ≤ 3
  | [] => by simp [depDs]
  | x :: xs => by
    rw [List.map_cons]; unfold depDs
    have := dep_dS x
    have := deps_dS xs
    omega
theorem eq_tups (xs ys : List Spn) (neg : Bool) (S : Sto) : oEq neg S (.d (.tup (xs.map dS))) (.d (.tup (ys.map dS))) = some (.d (.bl (if neg then !decide (xs = ys) else decide (xs = ys)))) := by
  have h : depD (.tup (xs.map dS)) ≤ 50 := by have := deps_dS xs; unfold depD; omega
  have e : eqD (.tup (xs.map dS)) (.tup (ys.map dS)) = some (decide (xs = ys)) := by unfold eqD; exact eqs_dS xs ys
  simp only [oEq, A.get, if_pos h, e]
end Z
namespace K22
open PySem L2 Z
noncomputable def top (i : Nat) : Stmt := PySem.Challenge.pw_fitmost_k22_whole_numbers_of_both_and_ap.main.body.getD i (.Pass ⟨0, 0, 0, 0⟩)
noncomputable abbrev sspans_have : Stmt := top 1
noncomputable abbrev sfull : Stmt := top 2
noncomputable abbrev shigher_end : Stmt := top 3
noncomputable abbrev slower_end : Stmt := top 4
noncomputable abbrev sreaches : Stmt := top 5
noncomputable abbrev sspans_formed : Stmt := top 6
noncomputable abbrev sspans_met : Stmt := top 7
noncomputable abbrev sspans_apart : Stmt := top 8
noncomputable abbrev s_law_cell_at : Stmt := top 10
noncomputable abbrev s_law_pot : Stmt := top 11
noncomputable abbrev s_law_take : Stmt := top 12
noncomputable abbrev s_law_whole : Stmt := top 13
noncomputable abbrev s_law_far : Stmt := top 14
noncomputable abbrev s_law_end : Stmt := top 15
noncomputable abbrev s_law_spans : Stmt := top 16
noncomputable abbrev s_law_has : Stmt := top 17
noncomputable abbrev s_law_is_end : Stmt := top 18
noncomputable abbrev s_law_in_form : Stmt := top 19
noncomputable abbrev s_law_near : Stmt := top 20
noncomputable abbrev s_law_apart : Stmt := top 21
noncomputable abbrev slaw : Stmt := top 22
theorem scspans_have : FnScope ["spans", "number", "low", "high"] ["spans", "number"] (defScope sspans_have) := ⟨rfl, rfl, rfl, by decide +kernel, rfl, by decide +kernel, by decide +kernel⟩
theorem scfull : FnScope ["spans"] ["spans"] (defScope sfull) := ⟨rfl, rfl, rfl, by decide +kernel, rfl, by decide +kernel, by decide +kernel⟩
theorem schigher_end : FnScope ["one", "other"] ["one", "other"] (defScope shigher_end) := ⟨rfl, rfl, rfl, by decide +kernel, rfl, by decide +kernel, by decide +kernel⟩
theorem sclower_end : FnScope ["one", "other"] ["one", "other"] (defScope slower_end) := ⟨rfl, rfl, rfl, by decide +kernel, rfl, by decide +kernel, by decide +kernel⟩
theorem screaches : FnScope ["high", "low"] ["high", "low"] (defScope sreaches) := ⟨rfl, rfl, rfl, by decide +kernel, rfl, by decide +kernel, by decide +kernel⟩
theorem scspans_formed : FnScope ["spans", "told", "low", "high"] ["spans"] (defScope sspans_formed) := ⟨rfl, rfl, rfl, by decide +kernel, rfl, by decide +kernel, by decide +kernel⟩
theorem scspans_met : FnScope ["one", "other"] ["one", "other"] (defScope sspans_met) := ⟨rfl, rfl, rfl, by decide +kernel, rfl, by decide +kernel, by decide +kernel⟩
theorem scspans_apart : FnScope ["one", "other", "tried", "low", "high", "number"] ["one", "other"] (defScope sspans_apart) := ⟨rfl, rfl, rfl, by decide +kernel, rfl, by decide +kernel, by decide +kernel⟩
theorem sc_law_cell_at : FnScope ["_law_script", "_law_k"] ["_law_script", "_law_k"] (defScope s_law_cell_at) := ⟨rfl, rfl, rfl, by decide +kernel, rfl, by decide +kernel, by decide +kernel⟩
theorem sc_law_pot : FnScope ["_law_way", "_law_cell"] ["_law_way", "_law_cell"] (defScope s_law_pot) := ⟨rfl, rfl, rfl, by decide +kernel, rfl, by decide +kernel, by decide +kernel⟩
theorem sc_law_take : FnScope ["_law_pot_here", "_law_many", "_law_digit"] ["_law_pot_here", "_law_many"] (defScope s_law_take) := ⟨rfl, rfl, rfl, by decide +kernel, rfl, by decide +kernel, by decide +kernel⟩
theorem sc_law_whole : FnScope ["_law_found"] ["_law_found"] (defScope s_law_whole) := ⟨rfl, rfl, rfl, by decide +kernel, rfl, by decide +kernel, by decide +kernel⟩
theorem sc_law_far : FnScope ["_law_pot_here", "_law_found", "_law_k"] ["_law_pot_here"] (defScope s_law_far) := ⟨rfl, rfl, rfl, by decide +kernel, rfl, by decide +kernel, by decide +kernel⟩
theorem sc_law_end : FnScope ["_law_pot_here", "_law_way"] ["_law_pot_here"] (defScope s_law_end) := ⟨rfl, rfl, rfl, by decide +kernel, rfl, by decide +kernel, by decide +kernel⟩
theorem sc_law_spans : FnScope ["_law_pot_here", "_law_many"] ["_law_pot_here", "_law_many"] (defScope s_law_spans) := ⟨rfl, rfl, rfl, by decide +kernel, rfl, by decide +kernel, by decide +kernel⟩
theorem sc_law_has : FnScope ["_law_spans_here", "_law_n", "_law_low", "_law_high"] ["_law_spans_here", "_law_n"] (defScope s_law_has) := ⟨rfl, rfl, rfl, by decide +kernel, rfl, by decide +kernel, by decide +kernel⟩
theorem sc_law_is_end : FnScope ["_law_end_here"] ["_law_end_here"] (defScope s_law_is_end) := ⟨rfl, rfl, rfl, by decide +kernel, rfl, by decide +kernel, by decide +kernel⟩
theorem sc_law_in_form : FnScope ["_law_found", "_law_k", "_law_span", "_law_low", "_law_high"] ["_law_found"] (defScope s_law_in_form) := ⟨rfl, rfl, rfl, by decide +kernel, rfl, by decide +kernel, by decide +kernel⟩
theorem sc_law_near : FnScope ["_law_spans_here", "_law_found", "_law_low", "_law_high", "_law_end_here"] ["_law_spans_here"] (defScope s_law_near) := ⟨rfl, rfl, rfl, by decide +kernel, rfl, by decide +kernel, by decide +kernel⟩
theorem sc_law_apart : FnScope ["_law_one", "_law_other", "_law_numbers", "_law_found"] ["_law_one", "_law_other", "_law_numbers"] (defScope s_law_apart) := ⟨rfl, rfl, rfl, by decide +kernel, rfl, by decide +kernel, by decide +kernel⟩
theorem sclaw : FnScope ["_law_script", "_law_head", "_law_pot_here", "_law_one", "_law_other", "_law_kept", "_law_found", "_law_numbers", "_law_n"] ["_law_script"] (defScope slaw) := ⟨rfl, rfl, rfl, by decide +kernel, rfl, by decide +kernel, by decide +kernel⟩
set_option genInjectivity false in
structure Adr where
  fspans_have : Addr
  dspans_have : FuncData
  ffull : Addr
  dfull : FuncData
  fhigher_end : Addr
  dhigher_end : FuncData
  flower_end : Addr
  dlower_end : FuncData
  freaches : Addr
  dreaches : FuncData
  fspans_formed : Addr
  dspans_formed : FuncData
  fspans_met : Addr
  dspans_met : FuncData
  fspans_apart : Addr
  dspans_apart : FuncData
  f_law_cell_at : Addr
  d_law_cell_at : FuncData
  f_law_pot : Addr
  d_law_pot : FuncData
  f_law_take : Addr
  d_law_take : FuncData
  f_law_whole : Addr
  d_law_whole : FuncData
  f_law_far : Addr
  d_law_far : FuncData
  f_law_end : Addr
  d_law_end : FuncData
  f_law_spans : Addr
  d_law_spans : FuncData
  f_law_has : Addr
  d_law_has : FuncData
  f_law_is_end : Addr
  d_law_is_end : FuncData
  f_law_in_form : Addr
  d_law_in_form : FuncData
  f_law_near : Addr
  d_law_near : FuncData
  f_law_apart : Addr
  d_law_apart : FuncData
  flaw : Addr
  dlaw : FuncData
structure Txt (K : PySem.W.Frag) (mg : Str → Option Value) (t : Adr) : Prop where
  Fspans_have : Fun K "spans_have" "spans_have" sspans_have t.fspans_have t.dspans_have
  mspans_have : mg "spans_have" = some (.ref t.fspans_have)
  kspans_have : PySem.W.keepIn K (.ref t.fspans_have) = true
  bspans_have : Binds K t.dspans_have ["spans", "number"] []
  Ffull : Fun K "full" "full" sfull t.ffull t.dfull
  mfull : mg "full" = some (.ref t.ffull)
  kfull : PySem.W.keepIn K (.ref t.ffull) = true
  bfull : Binds K t.dfull ["spans"] []
  Fhigher_end : Fun K "higher_end" "higher_end" shigher_end t.fhigher_end t.dhigher_end
  mhigher_end : mg "higher_end" = some (.ref t.fhigher_end)
  khigher_end : PySem.W.keepIn K (.ref t.fhigher_end) = true
  bhigher_end : Binds K t.dhigher_end ["one", "other"] []
  Flower_end : Fun K "lower_end" "lower_end" slower_end t.flower_end t.dlower_end
  mlower_end : mg "lower_end" = some (.ref t.flower_end)
  klower_end : PySem.W.keepIn K (.ref t.flower_end) = true
  blower_end : Binds K t.dlower_end ["one", "other"] []
  Freaches : Fun K "reaches" "reaches" sreaches t.freaches t.dreaches
  mreaches : mg "reaches" = some (.ref t.freaches)
  kreaches : PySem.W.keepIn K (.ref t.freaches) = true
  breaches : Binds K t.dreaches ["high", "low"] []
  Fspans_formed : Fun K "spans_formed" "spans_formed" sspans_formed t.fspans_formed t.dspans_formed
  mspans_formed : mg "spans_formed" = some (.ref t.fspans_formed)
  kspans_formed : PySem.W.keepIn K (.ref t.fspans_formed) = true
  bspans_formed : Binds K t.dspans_formed ["spans"] []
  Fspans_met : Fun K "spans_met" "spans_met" sspans_met t.fspans_met t.dspans_met
  mspans_met : mg "spans_met" = some (.ref t.fspans_met)
  kspans_met : PySem.W.keepIn K (.ref t.fspans_met) = true
  bspans_met : Binds K t.dspans_met ["one", "other"] []
  Fspans_apart : Fun K "spans_apart" "spans_apart" sspans_apart t.fspans_apart t.dspans_apart
  mspans_apart : mg "spans_apart" = some (.ref t.fspans_apart)
  kspans_apart : PySem.W.keepIn K (.ref t.fspans_apart) = true
  bspans_apart : Binds K t.dspans_apart ["one", "other"] []
  F_law_cell_at : Fun K "_law_cell_at" "_law_cell_at" s_law_cell_at t.f_law_cell_at t.d_law_cell_at
  m_law_cell_at : mg "_law_cell_at" = some (.ref t.f_law_cell_at)
  k_law_cell_at : PySem.W.keepIn K (.ref t.f_law_cell_at) = true
  b_law_cell_at : Binds K t.d_law_cell_at ["_law_script", "_law_k"] []
  F_law_pot : Fun K "_law_pot" "_law_pot" s_law_pot t.f_law_pot t.d_law_pot
  m_law_pot : mg "_law_pot" = some (.ref t.f_law_pot)
  k_law_pot : PySem.W.keepIn K (.ref t.f_law_pot) = true
  b_law_pot : Binds K t.d_law_pot ["_law_way", "_law_cell"] []
  F_law_take : Fun K "_law_take" "_law_take" s_law_take t.f_law_take t.d_law_take
  m_law_take : mg "_law_take" = some (.ref t.f_law_take)
  k_law_take : PySem.W.keepIn K (.ref t.f_law_take) = true
  b_law_take : Binds K t.d_law_take ["_law_pot_here", "_law_many"] []
  F_law_whole : Fun K "_law_whole" "_law_whole" s_law_whole t.f_law_whole t.d_law_whole
  m_law_whole : mg "_law_whole" = some (.ref t.f_law_whole)
  k_law_whole : PySem.W.keepIn K (.ref t.f_law_whole) = true
  b_law_whole : Binds K t.d_law_whole ["_law_found"] []
  F_law_far : Fun K "_law_far" "_law_far" s_law_far t.f_law_far t.d_law_far
  m_law_far : mg "_law_far" = some (.ref t.f_law_far)
  k_law_far : PySem.W.keepIn K (.ref t.f_law_far) = true
  b_law_far : Binds K t.d_law_far ["_law_pot_here"] []
  F_law_end : Fun K "_law_end" "_law_end" s_law_end t.f_law_end t.d_law_end
  m_law_end : mg "_law_end" = some (.ref t.f_law_end)
  k_law_end : PySem.W.keepIn K (.ref t.f_law_end) = true
  b_law_end : Binds K t.d_law_end ["_law_pot_here"] []
  F_law_spans : Fun K "_law_spans" "_law_spans" s_law_spans t.f_law_spans t.d_law_spans
  m_law_spans : mg "_law_spans" = some (.ref t.f_law_spans)
  k_law_spans : PySem.W.keepIn K (.ref t.f_law_spans) = true
  b_law_spans : Binds K t.d_law_spans ["_law_pot_here", "_law_many"] []
  F_law_has : Fun K "_law_has" "_law_has" s_law_has t.f_law_has t.d_law_has
  m_law_has : mg "_law_has" = some (.ref t.f_law_has)
  k_law_has : PySem.W.keepIn K (.ref t.f_law_has) = true
  b_law_has : Binds K t.d_law_has ["_law_spans_here", "_law_n"] []
  F_law_is_end : Fun K "_law_is_end" "_law_is_end" s_law_is_end t.f_law_is_end t.d_law_is_end
  m_law_is_end : mg "_law_is_end" = some (.ref t.f_law_is_end)
  k_law_is_end : PySem.W.keepIn K (.ref t.f_law_is_end) = true
  b_law_is_end : Binds K t.d_law_is_end ["_law_end_here"] []
  F_law_in_form : Fun K "_law_in_form" "_law_in_form" s_law_in_form t.f_law_in_form t.d_law_in_form
  m_law_in_form : mg "_law_in_form" = some (.ref t.f_law_in_form)
  k_law_in_form : PySem.W.keepIn K (.ref t.f_law_in_form) = true
  b_law_in_form : Binds K t.d_law_in_form ["_law_found"] []
  F_law_near : Fun K "_law_near" "_law_near" s_law_near t.f_law_near t.d_law_near
  m_law_near : mg "_law_near" = some (.ref t.f_law_near)
  k_law_near : PySem.W.keepIn K (.ref t.f_law_near) = true
  b_law_near : Binds K t.d_law_near ["_law_spans_here"] []
  F_law_apart : Fun K "_law_apart" "_law_apart" s_law_apart t.f_law_apart t.d_law_apart
  m_law_apart : mg "_law_apart" = some (.ref t.f_law_apart)
  k_law_apart : PySem.W.keepIn K (.ref t.f_law_apart) = true
  b_law_apart : Binds K t.d_law_apart ["_law_one", "_law_other", "_law_numbers"] []
  Flaw : Fun K "law" "law" slaw t.flaw t.dlaw
  mlaw : mg "law" = some (.ref t.flaw)
  klaw : PySem.W.keepIn K (.ref t.flaw) = true
  blaw : Binds K t.dlaw ["_law_script"] []
  len : mg "len" = none
  isinstance : mg "isinstance" = none
  int : mg "int" = none
  bool : mg "bool" = none
  tuple : mg "tuple" = none
  list : mg "list" = none
  range : mg "range" = none
  enumerate : mg "enumerate" = none
  max : mg "max" = none
  min : mg "min" = none
  sorted : mg "sorted" = none
noncomputable def b_spans_have : FS := (sSeq (sFor (iSq (var 0)) (gT 2 (gsCons (gN 2) (gsCons (gN 3) gsNil))) (sIf (andT (orT (notT (truT (var 2))) (tst (bin (oI gLe) (bin oIx (var 2) (cst (.int 0))) (var 1)))) (orT (notT (truT (var 3))) (tst (bin (oI gLe) (var 1) (bin oIx (var 3) (cst (.int 0))))))) (sRet (cst (.bl true))) sNil)) (sRet (cst (.bl false))))
noncomputable def F_spans_have : FF := defF 2 4 b_spans_have
noncomputable def b_lower_end : FS := (sRet (iteV (andT (truT (var 0)) (truT (var 1))) (cal (oMax false) (aCons (var 0) (aCons (var 1) aNil))) (orV (var 0) (var 1))))
noncomputable def F_lower_end : FF := defF 2 2 b_lower_end
noncomputable def b_spans_apart : FS := (sSeq (sSet 2 (dL (lstF (aCons (cst (.int 0)) aNil)))) (sSeq (sFor (iSq (var 0)) (gT 2 (gsCons (gN 3) (gsCons (gN 4) gsNil))) (sSet 2 (dL (binL oCat (dL (binL oCat (var 2) (dL (calL oList (aCons (var 3) aNil))))) (dL (calL oList (aCons (var 4) aNil))))))) (sSeq (sFor (iSq (var 1)) (gT 2 (gsCons (gN 3) (gsCons (gN 4) gsNil))) (sSet 2 (dL (binL oCat (dL (binL oCat (var 2) (dL (lcL (iSq (var 3)) (gN 0) tYs (bin (oI gSub) (var 0) (cst (.int 1))) 1 [])))) (dL (lcL (iSq (var 4)) (gN 0) tYs (bin (oI gAdd) (var 0) (cst (.int 1))) 1 [])))))) (sSeq (sFor (iSq (var 2)) (gN 5) (sIf (andT (tst (callF F_spans_have (aCons (var 0) (aCons (var 5) aNil)))) (notT (tst (callF F_spans_have (aCons (var 1) (aCons (var 5) aNil)))))) (sRet (dL (lstF (aCons (var 5) aNil)))) sNil)) (sRet (dL (lstF aNil)))))))
noncomputable def F_spans_apart : FF := defF 2 6 b_spans_apart
noncomputable def b_spans_met : FS := (sRet (callF F_spans_formed (aCons (dL (lc2L (iSq (var 0)) (gT 2 (gsCons (gN 0) (gsCons (gN 1) gsNil))) tYs (iSq (var 4)) (gT 2 (gsCons (gN 2) (gsCons (gN 3) gsNil))) tYs (tupF (aCons (cal (oMax true) (aCons (var 0) (aCons (var 2) aNil))) (aCons (callF F_lower_end (aCons (var 1) (aCons (var 3) aNil))) aNil))) 4 [1])) aNil)))
noncomputable def F_spans_met : FF := defF 2 2 b_spans_met
noncomputable def b__law_apart : FS := (sSeq (sSet 3 (callF F_spans_apart (aCons (var 0) (aCons (var 1) aNil)))) (sSeq (sIf (orT (notT (tst (un (oIs "list") (var 3)))) (tst (bin (oI gGt) (cal oLen (aCons (var 3) aNil)) (cst (.int 1))))) (sRet (cst (.bl false))) sNil) (sSeq (sIf (tst (bin (oEq false) (var 3) (dL (lstF aNil)))) (sRet (bin (oEq false) (dL (lcL (iSq (var 2)) (gN 0) (andT (tst (callF F__law_has (aCons (var 1) (aCons (var 0) aNil)))) (notT (tst (callF F__law_has (aCons (var 2) (aCons (var 0) aNil)))))) (var 0) 1 [0, 1])) (dL (lstF aNil)))) sNil) (sRet (andV (callF F__law_whole (aCons (bin oIx (var 3) (cst (.int 0))) aNil)) (andV (callF F__law_has (aCons (var 0) (aCons (bin oIx (var 3) (cst (.int 0))) aNil))) (notV (callF F__law_has (aCons (var 1) (aCons (bin oIx (var 3) (cst (.int 0))) aNil))))))))))
noncomputable def F__law_apart : FF := defF 3 4 b__law_apart
noncomputable def b_law : FS := (sSeq (sSet 1 (callF F__law_cell_at (aCons (var 0) (aCons (cst (.int 0)) aNil)))) (sSeq (sNew 2 (callN F__law_pot (aCons (bin (oI gMod) (var 1) (cst (.int 2))) (aCons (callF F__law_cell_at (aCons (var 0) (aCons (cst (.int 1)) aNil))) aNil)))) (sSeq (sSet 3 (callF F__law_spans (aCons (var 2) (aCons (bin (oI gMod) (bin (oI gDiv) (var 1) (cst (.int 2))) (cst (.int 7))) aNil)))) (sSeq (sSet 4 (callF F__law_spans (aCons (var 2) (aCons (bin (oI gMod) (bin (oI gDiv) (var 1) (cst (.int 14))) (cst (.int 7))) aNil)))) (sSeq (sIf (tst (bin (oEq false) (bin (oI gMod) (bin (oI gDiv) (var 1) (cst (.int 98))) (cst (.int 4))) (cst (.int 1)))) (sSet 4 (dL (binL oCat (var 4) (var 3)))) sNil) (sSeq (sSet 5 (dL (lstF (aCons (dL (calL oList (aCons (var 3) aNil))) (aCons (dL (calL oList (aCons (var 4) aNil))) aNil))))) (sSeq (sSet 6 (callF F_spans_met (aCons (var 3) (aCons (var 4) aNil)))) (sSeq (sIf (orT (notT (tst (callF F__law_in_form (aCons (var 6) aNil)))) (tst (bin (oEq true) (callF F_spans_met (aCons (cal oTuple (aCons (var 4) aNil)) (aCons (cal oTuple (aCons (var 3) aNil)) aNil))) (var 6)))) (sRet (cst (.bl false))) sNil) (sSeq (sSet 7 (dL (binL oCat (callF F__law_near (aCons (var 3) aNil)) (callF F__law_near (aCons (var 4) aNil))))) (sSeq (sSet 7 (dL (binL oCat (dL (binL oCat (var 7) (dL (lcL (iSq (dL (cutL (var 0) (oSome (cst (.int 2))) (oSome (cst (.int 27)))))) (gN 0) tYs (bin (oI gMod) (var 0) (bin (oI gPow) (cst (.int 10)) (cst (.int 60)))) 1 [])))) (dL (lcL (iSq (dL (cutL (var 0) (oSome (cst (.int 2))) (oSome (cst (.int 27)))))) (gN 0) tYs (bin (oI gSub) (bin (oI gMod) (var 0) (cst (.int 41))) (cst (.int 20))) 1 []))))) (sSeq (sFor (iSq (var 7)) (gN 8) (sIf (tst (bin (oEq true) (callF F__law_has (aCons (var 6) (aCons (var 8) aNil))) (andV (callF F__law_has (aCons (var 3) (aCons (var 8) aNil))) (callF F__law_has (aCons (var 4) (aCons (var 8) aNil)))))) (sRet (cst (.bl false))) sNil)) (sSeq (sIf (orT (notT (tst (callF F__law_apart (aCons (var 3) (aCons (var 4) (aCons (var 7) aNil)))))) (notT (tst (callF F__law_apart (aCons (cal oTuple (aCons (var 4) aNil)) (aCons (cal oTuple (aCons (var 3) aNil)) (aCons (var 7) aNil))))))) (sRet (cst (.bl false))) sNil) (sRet (bin (oEq false) (dL (lstF (aCons (var 3) (aCons (var 4) aNil)))) (var 5)))))))))))))))
noncomputable def F_law : FF := defF 1 9 b_law
section
variable {P : Program} {w : World} {K : PySem.W.Frag} {mg : Str → Option Value} {base : Heap} {t : Adr}
theorem q_spans_have (T : Txt K mg t) : FnOk P w K mg base CX0 1 t.fspans_have t.dspans_have ["spans", "number"] (spF K F_spans_have) := by
  have h := @q_def _ P w mg base _ _ _ _ _ _ _ 0 _ T.Fspans_have scspans_have fun cdv A outer s H E hr => (qss_cons rfl (qs_for PassesOwn.never rfl (qi_seq (qv 0)) (qg_tup (n := 2) rfl (qgs_cons (qg_name (i := 2) scspans_have.nd rfl (Or.inl rfl)) (qgs_cons (qg_name (i := 3) scspans_have.nd rfl (Or.inl rfl)) qgs_nil))) (qss_one rfl (qs_if (QW.qt (qw_and (QW.qt (qw_or (qt_not (qt_tru (qv 2))) (qw_or1 (qt_le (qe_item (qv 2) qe_int (fun _ _ => rfl)) (qv 1))))) (qw_and1 (QW.qt (qw_or (qt_not (qt_tru (qv 3))) (qw_or1 (qt_le (qv 1) (qe_item (qv 3) qe_int (fun _ _ => rfl))))))))) (qss_one rfl (qs_ret qe_bl)) qss_nil))) (qss_one rfl (qs_ret qe_bl)))
  exact h
theorem q_full (T : Txt K mg t) : FnOk P w K mg base CX0 1 t.ffull t.dfull ["spans"] (spF K F_full) := by
  have h := @q_def _ P w mg base _ _ _ _ _ _ _ 0 _ T.Ffull scfull fun cdv A outer s H E hr => (qss_one rfl (qs_ret (qe_L (ql_lc (N := ["low", "high"]) (n := 2) (js := []) rfl ⟨rfl, rfl, rfl, rfl, rfl, rfl⟩ (qi_seq (qv 0)) (fun _ _ _ => (qg_tup (n := 2) rfl (qgs_cons (qg_name (i := 0) (show List.Nodup (["low", "high"] : List Str) from by decide +kernel) rfl (Or.inl rfl)) (qgs_cons (qg_name (i := 1) (show List.Nodup (["low", "high"] : List Str) from by decide +kernel) rfl (Or.inl rfl)) qgs_nil)))) (fun _ _ _ => (qts_one (QW.qt (qw_or (qt_not (qt_tru (qv 0))) (qw_or (qt_not (qt_tru (qv 1))) (qw_or1 (qt_le (qe_item (qv 0) qe_int (fun _ _ => rfl)) (qe_item (qv 1) qe_int (fun _ _ => rfl))))))))) (fun _ _ _ => (qe_tup (qa_cons (qv 0) (qa_cons (qv 1) qa_nil))))))))
  exact h
theorem q_higher_end (T : Txt K mg t) : FnOk P w K mg base CX0 1 t.fhigher_end t.dhigher_end ["one", "other"] (spF K F_higher_end) := by
  have h := @q_def _ P w mg base _ _ _ _ _ _ _ 0 _ T.Fhigher_end schigher_end fun cdv A outer s H E hr => (qss_one rfl (qs_ret (qe_ite (QW.qt (qw_and (qt_tru (qv 0)) (qw_and1 (qt_tru (qv 1))))) (PE.imp (pe_callB (call_maxT rfl (hu2 hr)) rfl T.max bt_max (qa_cons (qv 0) (qa_cons (qv 1) qa_nil))) (cal_of fit_maxT)) (qe_tup qa_nil))))
  exact h
theorem q_lower_end (T : Txt K mg t) : FnOk P w K mg base CX0 1 t.flower_end t.dlower_end ["one", "other"] (spF K F_lower_end) := by
  have h := @q_def _ P w mg base _ _ _ _ _ _ _ 0 _ T.Flower_end sclower_end fun cdv A outer s H E hr => (qss_one rfl (qs_ret (qe_ite (QW.qt (qw_and (qt_tru (qv 0)) (qw_and1 (qt_tru (qv 1))))) (PE.imp (pe_callB (call_minT rfl (hu2 hr)) rfl T.min bt_min (qa_cons (qv 0) (qa_cons (qv 1) qa_nil))) (cal_of fit_minT)) (qe_or (qv 0) (qe_one (qv 1))))))
  exact h
theorem q_reaches (T : Txt K mg t) : FnOk P w K mg base CX0 1 t.freaches t.dreaches ["high", "low"] (spF K F_reaches) := by
  have h := @q_def _ P w mg base _ _ _ _ _ _ _ 0 _ T.Freaches screaches fun cdv A outer s H E hr => (qss_one rfl (qs_ret (qe_or (qe_not (qv 0)) (qe_or (qe_not (qv 1)) (qe_one (qe_le (qe_item (qv 1) qe_int (fun _ _ => rfl)) (qe_add (qe_item (qv 0) qe_int (fun _ _ => rfl)) qe_int)))))))
  exact h
theorem q__law_cell_at (T : Txt K mg t) : FnOk P w K mg base CX0 1 t.f_law_cell_at t.d_law_cell_at ["_law_script", "_law_k"] (spF K F__law_cell_at) := by
  have h := @q_def _ P w mg base _ _ _ _ _ _ _ 0 _ T.F_law_cell_at sc_law_cell_at fun cdv A outer s H E hr => (qss_cons rfl (qs_if (qt_lt (qv 1) (PE.imp (pe_callB call_len rfl T.len bt_len (qa_cons (qv 0) qa_nil)) (cal_of fit_len))) (qss_one rfl (qs_ret (qe_item (qv 0) (qv 1) (fun _ _ => rfl)))) qss_nil) (qss_one rfl (qs_ret qe_int)))
  exact h
theorem q__law_pot (T : Txt K mg t) : FnOk P w K mg base CX0 1 t.f_law_pot t.d_law_pot ["_law_way", "_law_cell"] (spN K F__law_pot) := by
  have h := @q_defN _ P w mg base _ _ _ _ _ _ _ 0 _ T.F_law_pot sc_law_pot fun cdv A outer s H E hr => (qss_one rfl (qs_retL (ql_lst (qa_cons (qv 0) (qa_cons (qv 1) (qa_cons (qv 1) qa_nil))))))
  exact h
theorem q__law_take (T : Txt K mg t) : FnOk P w K mg base CX0 1 t.f_law_take t.d_law_take ["_law_pot_here", "_law_many"] (spF K F__law_take) := by
  have h := @q_def _ P w mg base _ _ _ _ _ _ _ 0 _ T.F_law_take sc_law_take fun cdv A outer s H E hr => (qss_cons rfl (qs_if (QW.qt (qw_and (qt_eq hr (qe_item (qv 0) qe_int (fun _ _ => rfl)) qe_int) (qw_and1 (QW.qt (qw_or (qt_gt (qe_item (qv 0) qe_int (fun _ _ => rfl)) qe_int) (qw_or1 (qt_eq hr (qe_item (qv 0) qe_int (fun _ _ => rfl)) qe_int))))))) (qss_cons rfl (qs_set (i := 2) sc_law_take.nd rfl (Or.inl rfl) (qe_mod (qe_item (qv 0) qe_int (fun _ _ => rfl)) (qv 1))) (qss_cons rfl (qs_put (qe_fdiv (qe_item (qv 0) qe_int (fun _ _ => rfl)) (qv 1)) (qv 0) qe_int) (qss_one rfl (qs_ret (qv 2))))) qss_nil) (qss_cons rfl (qs_put (qe_mod (qe_add (qe_mul (qe_item (qv 0) qe_int (fun _ _ => rfl)) qe_int) qe_int) qe_int) (qv 0) qe_int) (qss_one rfl (qs_ret (qe_mod (qe_mod (qe_mul (qe_fdiv (qe_mod (qe_mul (qe_item (qv 0) qe_int (fun _ _ => rfl)) (qe_item (qv 0) qe_int (fun _ _ => rfl))) qe_int) qe_int) qe_int) qe_int) (qv 1))))))
  exact h
theorem q__law_whole (T : Txt K mg t) : FnOk P w K mg base CX0 1 t.f_law_whole t.d_law_whole ["_law_found"] (spF K F__law_whole) := by
  have h := @q_def _ P w mg base _ _ _ _ _ _ _ 0 _ T.F_law_whole sc_law_whole fun cdv A outer s H E hr => (qss_one rfl (qs_ret (qe_and (qe_isi (Or.inl rfl) rfl T.isinstance rfl T.int bt_int (qv 0)) (qe_one (qe_not (qe_isi (Or.inr (Or.inl rfl)) rfl T.isinstance rfl T.bool bt_bool (qv 0)))))))
  exact h
theorem q__law_has (T : Txt K mg t) : FnOk P w K mg base CX0 1 t.f_law_has t.d_law_has ["_law_spans_here", "_law_n"] (spF K F__law_has) := by
  have h := @q_def _ P w mg base _ _ _ _ _ _ _ 0 _ T.F_law_has sc_law_has fun cdv A outer s H E hr => (qss_cons rfl (qs_for PassesOwn.never rfl (qi_seq (qv 0)) (qg_tup (n := 2) rfl (qgs_cons (qg_name (i := 2) sc_law_has.nd rfl (Or.inl rfl)) (qgs_cons (qg_name (i := 3) sc_law_has.nd rfl (Or.inl rfl)) qgs_nil))) (qss_one rfl (qs_if (QW.qt (qw_and (QW.qt (qw_or (qt_eq hr (qv 2) (qe_tup qa_nil)) (qw_or1 (qt_le (qe_item (qv 2) qe_int (fun _ _ => rfl)) (qv 1))))) (qw_and1 (QW.qt (qw_or (qt_eq hr (qv 3) (qe_tup qa_nil)) (qw_or1 (qt_le (qv 1) (qe_item (qv 3) qe_int (fun _ _ => rfl))))))))) (qss_one rfl (qs_ret qe_bl)) qss_nil))) (qss_one rfl (qs_ret qe_bl)))
  exact h
theorem q__law_near (T : Txt K mg t) : FnOk P w K mg base CX0 1 t.f_law_near t.d_law_near ["_law_spans_here"] (spF K F__law_near) := by
  have h := @q_def _ P w mg base _ _ _ _ _ _ _ 0 _ T.F_law_near sc_law_near fun cdv A outer s H E hr => (qss_cons rfl (qs_set (i := 1) sc_law_near.nd rfl (Or.inl rfl) (qe_L (ql_lst (qa_cons qe_int qa_nil)))) (qss_cons rfl (qs_for PassesOwn.never rfl (qi_seq (qv 0)) (qg_tup (n := 2) rfl (qgs_cons (qg_name (i := 2) sc_law_near.nd rfl (Or.inl rfl)) (qgs_cons (qg_name (i := 3) sc_law_near.nd rfl (Or.inl rfl)) qgs_nil))) (qss_one rfl (qs_for PassesOwn.never rfl (qi_seq (qe_catU (qv 2) (qv 3))) (qg_name (i := 4) sc_law_near.nd rfl (Or.inl rfl)) (qss_one rfl (qs_set (i := 1) sc_law_near.nd rfl (Or.inl rfl) (qe_L (ql_cat (qv 1) (qe_L (ql_lst (qa_cons (qe_sub (qv 4) qe_int) (qa_cons (qv 4) (qa_cons (qe_add (qv 4) qe_int) qa_nil)))))))))))) (qss_one rfl (qs_ret (qv 1)))))
  exact h
theorem q_spans_formed (T : Txt K mg t) : FnOk P w K mg base CX0 2 t.fspans_formed t.dspans_formed ["spans"] (spF K F_spans_formed) := by
  have h := @q_def _ P w mg base _ _ _ _ _ _ _ 1 _ T.Fspans_formed scspans_formed fun cdv A outer s H E hr => (qss_cons rfl (qs_new (i := 1) scspans_formed.nd rfl (Or.inl rfl) (ql_lst qa_nil)) (qss_cons rfl (qs_for PassesOwn.never rfl (qi_seq (qe_L (PE.imp (pe_callB (call_sortSp (hu60 hr)) rfl T.sorted bt_sorted (qa_cons (qe_call ((q_full T).mono (by decide)) hr rfl T.mfull T.kfull T.bfull (qa_cons (qv 0) qa_nil)) qa_nil)) (calL_of fit_sort)))) (qg_tup (n := 2) rfl (qgs_cons (qg_name (i := 2) scspans_formed.nd rfl (Or.inl rfl)) (qgs_cons (qg_name (i := 3) scspans_formed.nd rfl (Or.inl rfl)) qgs_nil))) (qss_one rfl (qs_if (QW.qt (qw_and (qt_tru (qv 1)) (qw_and1 (qt_val (qe_call ((q_reaches T).mono (by decide)) hr rfl T.mreaches T.kreaches T.breaches (qa_cons (qe_item (qe_item (qv 1) (qe_neg qe_int) (fun _ _ => rfl)) qe_int (fun _ _ => rfl)) (qa_cons (qv 2) qa_nil))))))) (qss_one rfl (qs_put (qe_tup (qa_cons (qe_item (qe_item (qv 1) (qe_neg qe_int) (fun _ _ => rfl)) qe_int (fun _ _ => rfl)) (qa_cons (qe_call ((q_higher_end T).mono (by decide)) hr rfl T.mhigher_end T.khigher_end T.bhigher_end (qa_cons (qe_item (qe_item (qv 1) (qe_neg qe_int) (fun _ _ => rfl)) qe_int (fun _ _ => rfl)) (qa_cons (qv 3) qa_nil))) qa_nil))) (qv 1) (qe_neg qe_int))) (qss_one rfl (qs_app (qv 1) (qe_tup (qa_cons (qv 2) (qa_cons (qv 3) qa_nil)))))))) (qss_one rfl (qs_ret (PE.imp (pe_callTy call_tuple_of rfl T.tuple bt_tuple (qa_cons (qv 1) qa_nil)) (cal_of fit_tuple))))))
  exact h
theorem q_spans_apart (T : Txt K mg t) : FnOk P w K mg base CX0 2 t.fspans_apart t.dspans_apart ["one", "other"] (spF K F_spans_apart) := by
  have h := @q_def _ P w mg base _ _ _ _ _ _ _ 1 _ T.Fspans_apart scspans_apart fun cdv A outer s H E hr => (qss_cons rfl (qs_set (i := 2) scspans_apart.nd rfl (Or.inl rfl) (qe_L (ql_lst (qa_cons qe_int qa_nil)))) (qss_cons rfl (qs_for PassesOwn.never rfl (qi_seq (qv 0)) (qg_tup (n := 2) rfl (qgs_cons (qg_name (i := 3) scspans_apart.nd rfl (Or.inl rfl)) (qgs_cons (qg_name (i := 4) scspans_apart.nd rfl (Or.inl rfl)) qgs_nil))) (qss_one rfl (qs_set (i := 2) scspans_apart.nd rfl (Or.inl rfl) (qe_L (ql_cat (qe_L (ql_cat (qv 2) (qe_L (PE.imp (pe_callTy call_list_of rfl T.list bt_list (qa_cons (qv 3) qa_nil)) (calL_of fit_list))))) (qe_L (PE.imp (pe_callTy call_list_of rfl T.list bt_list (qa_cons (qv 4) qa_nil)) (calL_of fit_list)))))))) (qss_cons rfl (qs_for PassesOwn.never rfl (qi_seq (qv 1)) (qg_tup (n := 2) rfl (qgs_cons (qg_name (i := 3) scspans_apart.nd rfl (Or.inl rfl)) (qgs_cons (qg_name (i := 4) scspans_apart.nd rfl (Or.inl rfl)) qgs_nil))) (qss_one rfl (qs_set (i := 2) scspans_apart.nd rfl (Or.inl rfl) (qe_L (ql_cat (qe_L (ql_cat (qv 2) (qe_L (ql_lc (N := ["number"]) (n := 1) (js := []) rfl ⟨rfl, rfl, rfl, rfl, rfl, rfl⟩ (qi_seq (qv 3)) (fun _ _ _ => (qg_name (i := 0) (show List.Nodup (["number"] : List Str) from by decide +kernel) rfl (Or.inl rfl))) (fun _ _ _ => qts_nil) (fun _ _ _ => (qe_sub (qv 0) qe_int)))))) (qe_L (ql_lc (N := ["number"]) (n := 1) (js := []) rfl ⟨rfl, rfl, rfl, rfl, rfl, rfl⟩ (qi_seq (qv 4)) (fun _ _ _ => (qg_name (i := 0) (show List.Nodup (["number"] : List Str) from by decide +kernel) rfl (Or.inl rfl))) (fun _ _ _ => qts_nil) (fun _ _ _ => (qe_add (qv 0) qe_int))))))))) (qss_cons rfl (qs_for PassesOwn.never rfl (qi_seq (qv 2)) (qg_name (i := 5) scspans_apart.nd rfl (Or.inl rfl)) (qss_one rfl (qs_if (QW.qt (qw_and (qt_val (qe_call ((q_spans_have T).mono (by decide)) hr rfl T.mspans_have T.kspans_have T.bspans_have (qa_cons (qv 0) (qa_cons (qv 5) qa_nil)))) (qw_and1 (qt_not (qt_val (qe_call ((q_spans_have T).mono (by decide)) hr rfl T.mspans_have T.kspans_have T.bspans_have (qa_cons (qv 1) (qa_cons (qv 5) qa_nil)))))))) (qss_one rfl (qs_ret (qe_L (ql_lst (qa_cons (qv 5) qa_nil))))) qss_nil))) (qss_one rfl (qs_ret (qe_L (ql_lst qa_nil))))))))
  exact h
theorem q__law_far (T : Txt K mg t) : FnOk P w K mg base CX0 2 t.f_law_far t.d_law_far ["_law_pot_here"] (spF K F__law_far) := by
  have h := @q_def _ P w mg base _ _ _ _ _ _ _ 1 _ T.F_law_far sc_law_far fun cdv A outer s H E hr => (qss_cons rfl (qs_set (i := 1) sc_law_far.nd rfl (Or.inl rfl) qe_int) (qss_cons rfl (qs_for PassesOwn.never rfl (qi_range rfl T.range qe_int) (qg_name (i := 2) sc_law_far.nd rfl (Or.inl rfl)) (qss_one rfl (qs_set (i := 1) sc_law_far.nd rfl (Or.inl rfl) (qe_add (qe_mul (qv 1) qe_int) (qe_call ((q__law_take T).mono (by decide)) hr rfl T.m_law_take T.k_law_take T.b_law_take (qa_cons (qv 0) (qa_cons qe_int qa_nil))))))) (qss_one rfl (qs_ret (qe_item (qe_L (ql_lst (qa_cons (qv 1) (qa_cons (qe_neg (qv 1)) qa_nil)))) (qe_call ((q__law_take T).mono (by decide)) hr rfl T.m_law_take T.k_law_take T.b_law_take (qa_cons (qv 0) (qa_cons qe_int qa_nil))) (fun _ _ => rfl))))))
  exact h
theorem q__law_is_end (T : Txt K mg t) : FnOk P w K mg base CX0 2 t.f_law_is_end t.d_law_is_end ["_law_end_here"] (spF K F__law_is_end) := by
  have h := @q_def _ P w mg base _ _ _ _ _ _ _ 1 _ T.F_law_is_end sc_law_is_end fun cdv A outer s H E hr => (qss_one rfl (qs_ret (qe_and (qe_isi (Or.inr (Or.inr (Or.inr (Or.inr rfl)))) rfl T.isinstance rfl T.tuple bt_tuple (qv 0)) (qe_one (qe_or (qe_eq hr (qv 0) (qe_tup qa_nil)) (qe_one (qe_and (qe_eq hr (PE.imp (pe_callB call_len rfl T.len bt_len (qa_cons (qv 0) qa_nil)) (cal_of fit_len)) qe_int) (qe_one (qe_call ((q__law_whole T).mono (by decide)) hr rfl T.m_law_whole T.k_law_whole T.b_law_whole (qa_cons (qe_item (qv 0) qe_int (fun _ _ => rfl)) qa_nil))))))))))
  exact h
theorem q_spans_met (T : Txt K mg t) : FnOk P w K mg base CX0 3 t.fspans_met t.dspans_met ["one", "other"] (spF K F_spans_met) := by
  have h := @q_def _ P w mg base _ _ _ _ _ _ _ 2 _ T.Fspans_met scspans_met fun cdv A outer s H E hr => (qss_one rfl (qs_ret (qe_call ((q_spans_formed T).mono (by decide)) hr rfl T.mspans_formed T.kspans_formed T.bspans_formed (qa_cons (qe_L (ql_lc2 (N := ["low", "high", "least", "most", "other"]) (n := 4) (js := [1]) rfl ⟨rfl, rfl, rfl, rfl, rfl, rfl⟩ (qi_seq (qv 0)) (fun _ _ _ => (qg_tup (n := 2) rfl (qgs_cons (qg_name (i := 0) (show List.Nodup (["low", "high", "least", "most", "other"] : List Str) from by decide +kernel) rfl (Or.inl rfl)) (qgs_cons (qg_name (i := 1) (show List.Nodup (["low", "high", "least", "most", "other"] : List Str) from by decide +kernel) rfl (Or.inl rfl)) qgs_nil)))) (fun _ _ _ => qts_nil) (fun _ _ _ => (qi_seq (qv 4))) (fun _ _ _ => (qg_tup (n := 2) rfl (qgs_cons (qg_name (i := 2) (show List.Nodup (["low", "high", "least", "most", "other"] : List Str) from by decide +kernel) rfl (Or.inl rfl)) (qgs_cons (qg_name (i := 3) (show List.Nodup (["low", "high", "least", "most", "other"] : List Str) from by decide +kernel) rfl (Or.inl rfl)) qgs_nil)))) (fun _ _ _ => qts_nil) (fun _ _ _ => (qe_tup (qa_cons (PE.imp (pe_callB (call_maxT rfl (hu2 hr)) rfl T.max bt_max (qa_cons (qv 0) (qa_cons (qv 2) qa_nil))) (cal_of fit_maxT)) (qa_cons (qe_call ((q_lower_end T).mono (by decide)) hr rfl T.mlower_end T.klower_end T.blower_end (qa_cons (qv 1) (qa_cons (qv 3) qa_nil))) qa_nil)))))) qa_nil))))
  exact h
theorem q__law_end (T : Txt K mg t) : FnOk P w K mg base CX0 3 t.f_law_end t.d_law_end ["_law_pot_here"] (spF K F__law_end) := by
  have h := @q_def _ P w mg base _ _ _ _ _ _ _ 2 _ T.F_law_end sc_law_end fun cdv A outer s H E hr => (qss_cons rfl (qs_set (i := 1) sc_law_end.nd rfl (Or.inl rfl) (qe_call ((q__law_take T).mono (by decide)) hr rfl T.m_law_take T.k_law_take T.b_law_take (qa_cons (qv 0) (qa_cons qe_int qa_nil)))) (qss_cons rfl (qs_if (qt_eq hr (qv 1) qe_int) (qss_one rfl (qs_ret (qe_tup qa_nil))) qss_nil) (qss_cons rfl (qs_if (qt_eq hr (qv 1) qe_int) (qss_one rfl (qs_ret (qe_tup (qa_cons (qe_call ((q__law_far T).mono (by decide)) hr rfl T.m_law_far T.k_law_far T.b_law_far (qa_cons (qv 0) qa_nil)) qa_nil)))) qss_nil) (qss_one rfl (qs_ret (qe_tup (qa_cons (qe_sub (qe_call ((q__law_take T).mono (by decide)) hr rfl T.m_law_take T.k_law_take T.b_law_take (qa_cons (qv 0) (qa_cons qe_int qa_nil))) qe_int) qa_nil)))))))
  exact h
theorem q__law_in_form (T : Txt K mg t) : FnOk P w K mg base CX0 3 t.f_law_in_form t.d_law_in_form ["_law_found"] (spF K F__law_in_form) := by
  have h := @q_def _ P w mg base _ _ _ _ _ _ _ 2 _ T.F_law_in_form sc_law_in_form fun cdv A outer s H E hr => (qss_cons rfl (qs_if (qt_not (qt_val (qe_isi (Or.inr (Or.inr (Or.inr (Or.inr rfl)))) rfl T.isinstance rfl T.tuple bt_tuple (qv 0)))) (qss_one rfl (qs_ret qe_bl)) qss_nil) (qss_cons rfl (qs_for PassesOwn.never rfl (qi_enumT rfl T.enumerate (qv 0)) (qg_tup (n := 2) rfl (qgs_cons (qg_name (i := 1) sc_law_in_form.nd rfl (Or.inl rfl)) (qgs_cons (qg_name (i := 2) sc_law_in_form.nd rfl (Or.inl rfl)) qgs_nil))) (qss_cons rfl (qs_if (QW.qt (qw_or (qt_not (qt_val (qe_isi (Or.inr (Or.inr (Or.inr (Or.inr rfl)))) rfl T.isinstance rfl T.tuple bt_tuple (qv 2)))) (qw_or1 (qt_ne hr (PE.imp (pe_callB call_len rfl T.len bt_len (qa_cons (qv 2) qa_nil)) (cal_of fit_len)) qe_int)))) (qss_one rfl (qs_ret qe_bl)) qss_nil) (qss_cons rfl (qs_if (QW.qt (qw_or (qt_not (qt_val (qe_call ((q__law_is_end T).mono (by decide)) hr rfl T.m_law_is_end T.k_law_is_end T.b_law_is_end (qa_cons (qe_item (qv 2) qe_int (fun _ _ => rfl)) qa_nil)))) (qw_or1 (qt_not (qt_val (qe_call ((q__law_is_end T).mono (by decide)) hr rfl T.m_law_is_end T.k_law_is_end T.b_law_is_end (qa_cons (qe_item (qv 2) qe_int (fun _ _ => rfl)) qa_nil))))))) (qss_one rfl (qs_ret qe_bl)) qss_nil) (qss_cons rfl (qs_asg (qv 2) (qg_tup (n := 2) rfl (qgs_cons (qg_name (i := 3) sc_law_in_form.nd rfl (Or.inl rfl)) (qgs_cons (qg_name (i := 4) sc_law_in_form.nd rfl (Or.inl rfl)) qgs_nil)))) (qss_cons rfl (qs_if (QW.qt (qw_and (qt_ne hr (qv 3) (qe_tup qa_nil)) (qw_and (qt_ne hr (qv 4) (qe_tup qa_nil)) (qw_and1 (qt_lt (qe_item (qv 4) qe_int (fun _ _ => rfl)) (qe_item (qv 3) qe_int (fun _ _ => rfl))))))) (qss_one rfl (qs_ret qe_bl)) qss_nil) (qss_cons rfl (qs_if (QW.qt (qw_and (qt_gt (qv 1) qe_int) (qw_and1 (QW.qt (qw_or (qt_eq hr (qv 3) (qe_tup qa_nil)) (qw_or1 (qt_eq hr (qe_item (qe_item (qv 0) (qe_sub (qv 1) qe_int) (fun _ _ => rfl)) qe_int (fun _ _ => rfl)) (qe_tup qa_nil)))))))) (qss_one rfl (qs_ret qe_bl)) qss_nil) (qss_one rfl (qs_if (QW.qt (qw_and (qt_gt (qv 1) qe_int) (qw_and1 (qt_le (qe_item (qv 3) qe_int (fun _ _ => rfl)) (qe_add (qe_item (qe_item (qe_item (qv 0) (qe_sub (qv 1) qe_int) (fun _ _ => rfl)) qe_int (fun _ _ => rfl)) qe_int (fun _ _ => rfl)) qe_int))))) (qss_one rfl (qs_ret qe_bl)) qss_nil)))))))) (qss_one rfl (qs_ret qe_bl))))
  exact h
theorem q__law_apart (T : Txt K mg t) : FnOk P w K mg base CX0 3 t.f_law_apart t.d_law_apart ["_law_one", "_law_other", "_law_numbers"] (spF K F__law_apart) := by
  have h := @q_def _ P w mg base _ _ _ _ _ _ _ 2 _ T.F_law_apart sc_law_apart fun cdv A outer s H E hr => (qss_cons rfl (qs_set (i := 3) sc_law_apart.nd rfl (Or.inl rfl) (qe_call ((q_spans_apart T).mono (by decide)) hr rfl T.mspans_apart T.kspans_apart T.bspans_apart (qa_cons (qv 0) (qa_cons (qv 1) qa_nil)))) (qss_cons rfl (qs_if (QW.qt (qw_or (qt_not (qt_val (qe_isi (Or.inr (Or.inr (Or.inr (Or.inl rfl)))) rfl T.isinstance rfl T.list bt_list (qv 3)))) (qw_or1 (qt_gt (PE.imp (pe_callB call_len rfl T.len bt_len (qa_cons (qv 3) qa_nil)) (cal_of fit_len)) qe_int)))) (qss_one rfl (qs_ret qe_bl)) qss_nil) (qss_cons rfl (qs_if (qt_eq hr (qv 3) (qe_L (ql_lst qa_nil))) (qss_one rfl (qs_ret (qe_eq hr (qe_L (ql_lc (N := ["_law_n", "_law_one", "_law_other"]) (n := 1) (js := [0, 1]) rfl ⟨rfl, rfl, rfl, rfl, rfl, rfl⟩ (qi_seq (qv 2)) (fun _ _ _ => (qg_name (i := 0) (show List.Nodup (["_law_n", "_law_one", "_law_other"] : List Str) from by decide +kernel) rfl (Or.inl rfl))) (fun _ _ _ => (qts_one (QW.qt (qw_and (qt_val (qe_call ((q__law_has T).mono (by decide)) hr rfl T.m_law_has T.k_law_has T.b_law_has (qa_cons (qv 1) (qa_cons (qv 0) qa_nil)))) (qw_and1 (qt_not (qt_val (qe_call ((q__law_has T).mono (by decide)) hr rfl T.m_law_has T.k_law_has T.b_law_has (qa_cons (qv 2) (qa_cons (qv 0) qa_nil)))))))))) (fun _ _ _ => (qv 0)))) (qe_L (ql_lst qa_nil))))) qss_nil) (qss_one rfl (qs_ret (qe_and (qe_call ((q__law_whole T).mono (by decide)) hr rfl T.m_law_whole T.k_law_whole T.b_law_whole (qa_cons (qe_item (qv 3) qe_int (fun _ _ => rfl)) qa_nil)) (qe_and (qe_call ((q__law_has T).mono (by decide)) hr rfl T.m_law_has T.k_law_has T.b_law_has (qa_cons (qv 0) (qa_cons (qe_item (qv 3) qe_int (fun _ _ => rfl)) qa_nil))) (qe_one (qe_not (qe_call ((q__law_has T).mono (by decide)) hr rfl T.m_law_has T.k_law_has T.b_law_has (qa_cons (qv 1) (qa_cons (qe_item (qv 3) qe_int (fun _ _ => rfl)) qa_nil))))))))))))
  exact h
theorem q__law_spans (T : Txt K mg t) : FnOk P w K mg base CX0 4 t.f_law_spans t.d_law_spans ["_law_pot_here", "_law_many"] (spF K F__law_spans) := by
  have h := @q_def _ P w mg base _ _ _ _ _ _ _ 3 _ T.F_law_spans sc_law_spans fun cdv A outer s H E hr => (qss_one rfl (qs_ret (qe_L (ql_lc (N := ["_law_k", "_law_pot_here"]) (n := 1) (js := [0]) rfl ⟨rfl, rfl, rfl, rfl, rfl, rfl⟩ (qi_range rfl T.range (qv 1)) (fun _ _ _ => (qg_name (i := 0) (show List.Nodup (["_law_k", "_law_pot_here"] : List Str) from by decide +kernel) rfl (Or.inl rfl))) (fun _ _ _ => qts_nil) (fun _ _ _ => (qe_tup (qa_cons (qe_call ((q__law_end T).mono (by decide)) hr rfl T.m_law_end T.k_law_end T.b_law_end (qa_cons (qv 1) qa_nil)) (qa_cons (qe_call ((q__law_end T).mono (by decide)) hr rfl T.m_law_end T.k_law_end T.b_law_end (qa_cons (qv 1) qa_nil)) qa_nil))))))))
  exact h
theorem q_law (T : Txt K mg t) : FnOk P w K mg base CX0 5 t.flaw t.dlaw ["_law_script"] (spF K F_law) := by
  have h := @q_def _ P w mg base _ _ _ _ _ _ _ 4 _ T.Flaw sclaw fun cdv A outer s H E hr => (qss_cons rfl (qs_set (i := 1) sclaw.nd rfl (Or.inl rfl) (qe_call ((q__law_cell_at T).mono (by decide)) hr rfl T.m_law_cell_at T.k_law_cell_at T.b_law_cell_at (qa_cons (qv 0) (qa_cons qe_int qa_nil)))) (qss_cons rfl (qs_new (i := 2) sclaw.nd rfl (Or.inl rfl) (ql_call ((q__law_pot T).mono (by decide)) hr rfl T.m_law_pot T.k_law_pot T.b_law_pot (qa_cons (qe_mod (qv 1) qe_int) (qa_cons (qe_call ((q__law_cell_at T).mono (by decide)) hr rfl T.m_law_cell_at T.k_law_cell_at T.b_law_cell_at (qa_cons (qv 0) (qa_cons qe_int qa_nil))) qa_nil)))) (qss_cons rfl (qs_set (i := 3) sclaw.nd rfl (Or.inl rfl) (qe_call ((q__law_spans T).mono (by decide)) hr rfl T.m_law_spans T.k_law_spans T.b_law_spans (qa_cons (qv 2) (qa_cons (qe_mod (qe_fdiv (qv 1) qe_int) qe_int) qa_nil)))) (qss_cons rfl (qs_set (i := 4) sclaw.nd rfl (Or.inl rfl) (qe_call ((q__law_spans T).mono (by decide)) hr rfl T.m_law_spans T.k_law_spans T.b_law_spans (qa_cons (qv 2) (qa_cons (qe_mod (qe_fdiv (qv 1) qe_int) qe_int) qa_nil)))) (qss_cons rfl (qs_if (qt_eq hr (qe_mod (qe_fdiv (qv 1) qe_int) qe_int) qe_int) (qss_one rfl (qs_set (i := 4) sclaw.nd rfl (Or.inl rfl) (qe_L (ql_cat (qv 4) (qv 3))))) qss_nil) (qss_cons rfl (qs_set (i := 5) sclaw.nd rfl (Or.inl rfl) (qe_L (ql_lst (qa_cons (qe_L (PE.imp (pe_callTy call_list_of rfl T.list bt_list (qa_cons (qv 3) qa_nil)) (calL_of fit_list))) (qa_cons (qe_L (PE.imp (pe_callTy call_list_of rfl T.list bt_list (qa_cons (qv 4) qa_nil)) (calL_of fit_list))) qa_nil))))) (qss_cons rfl (qs_set (i := 6) sclaw.nd rfl (Or.inl rfl) (qe_call ((q_spans_met T).mono (by decide)) hr rfl T.mspans_met T.kspans_met T.bspans_met (qa_cons (qv 3) (qa_cons (qv 4) qa_nil)))) (qss_cons rfl (qs_if (QW.qt (qw_or (qt_not (qt_val (qe_call ((q__law_in_form T).mono (by decide)) hr rfl T.m_law_in_form T.k_law_in_form T.b_law_in_form (qa_cons (qv 6) qa_nil)))) (qw_or1 (qt_ne hr (qe_call ((q_spans_met T).mono (by decide)) hr rfl T.mspans_met T.kspans_met T.bspans_met (qa_cons (PE.imp (pe_callTy call_tuple_of rfl T.tuple bt_tuple (qa_cons (qv 4) qa_nil)) (cal_of fit_tuple)) (qa_cons (PE.imp (pe_callTy call_tuple_of rfl T.tuple bt_tuple (qa_cons (qv 3) qa_nil)) (cal_of fit_tuple)) qa_nil))) (qv 6))))) (qss_one rfl (qs_ret qe_bl)) qss_nil) (qss_cons rfl (qs_set (i := 7) sclaw.nd rfl (Or.inl rfl) (qe_L (ql_cat (qe_call ((q__law_near T).mono (by decide)) hr rfl T.m_law_near T.k_law_near T.b_law_near (qa_cons (qv 3) qa_nil)) (qe_call ((q__law_near T).mono (by decide)) hr rfl T.m_law_near T.k_law_near T.b_law_near (qa_cons (qv 4) qa_nil))))) (qss_cons rfl (qs_set (i := 7) sclaw.nd rfl (Or.inl rfl) (qe_L (ql_cat (qe_L (ql_cat (qv 7) (qe_L (ql_lc (N := ["_law_cell"]) (n := 1) (js := []) rfl ⟨rfl, rfl, rfl, rfl, rfl, rfl⟩ (qi_seq (qe_L (ql_slice (qv 0) (qo_some qe_int) (qo_some qe_int)))) (fun _ _ _ => (qg_name (i := 0) (show List.Nodup (["_law_cell"] : List Str) from by decide +kernel) rfl (Or.inl rfl))) (fun _ _ _ => qts_nil) (fun _ _ _ => (qe_mod (qv 0) (qe_pow qe_int qe_int))))))) (qe_L (ql_lc (N := ["_law_cell"]) (n := 1) (js := []) rfl ⟨rfl, rfl, rfl, rfl, rfl, rfl⟩ (qi_seq (qe_L (ql_slice (qv 0) (qo_some qe_int) (qo_some qe_int)))) (fun _ _ _ => (qg_name (i := 0) (show List.Nodup (["_law_cell"] : List Str) from by decide +kernel) rfl (Or.inl rfl))) (fun _ _ _ => qts_nil) (fun _ _ _ => (qe_sub (qe_mod (qv 0) qe_int) qe_int))))))) (qss_cons rfl (qs_for PassesOwn.never rfl (qi_seq (qv 7)) (qg_name (i := 8) sclaw.nd rfl (Or.inl rfl)) (qss_one rfl (qs_if (qt_ne hr (qe_call ((q__law_has T).mono (by decide)) hr rfl T.m_law_has T.k_law_has T.b_law_has (qa_cons (qv 6) (qa_cons (qv 8) qa_nil))) (qe_and (qe_call ((q__law_has T).mono (by decide)) hr rfl T.m_law_has T.k_law_has T.b_law_has (qa_cons (qv 3) (qa_cons (qv 8) qa_nil))) (qe_one (qe_call ((q__law_has T).mono (by decide)) hr rfl T.m_law_has T.k_law_has T.b_law_has (qa_cons (qv 4) (qa_cons (qv 8) qa_nil)))))) (qss_one rfl (qs_ret qe_bl)) qss_nil))) (qss_cons rfl (qs_if (QW.qt (qw_or (qt_not (qt_val (qe_call ((q__law_apart T).mono (by decide)) hr rfl T.m_law_apart T.k_law_apart T.b_law_apart (qa_cons (qv 3) (qa_cons (qv 4) (qa_cons (qv 7) qa_nil)))))) (qw_or1 (qt_not (qt_val (qe_call ((q__law_apart T).mono (by decide)) hr rfl T.m_law_apart T.k_law_apart T.b_law_apart (qa_cons (PE.imp (pe_callTy call_tuple_of rfl T.tuple bt_tuple (qa_cons (qv 4) qa_nil)) (cal_of fit_tuple)) (qa_cons (PE.imp (pe_callTy call_tuple_of rfl T.tuple bt_tuple (qa_cons (qv 3) qa_nil)) (cal_of fit_tuple)) (qa_cons (qv 7) qa_nil))))))))) (qss_one rfl (qs_ret qe_bl)) qss_nil) (qss_one rfl (qs_ret (qe_eq hr (qe_L (ql_lst (qa_cons (qv 3) (qa_cons (qv 4) qa_nil)))) (qv 5))))))))))))))))
  exact h
end
theorem txt_mk {K : PySem.W.Frag} {h : Heap} {mg : Str → Option Value} {fa : Addr} {od0 an0 : Option Addr} {sl0 : Array (Option Value)} {oc0 kV0 dc0 pm0 cd0 ct0 : Value} {f0 : Addr} {od1 an1 : Option Addr} {sl1 : Array (Option Value)} {oc1 kV1 dc1 pm1 cd1 ct1 : Value} {f1 : Addr} {od2 an2 : Option Addr} {sl2 : Array (Option Value)} {oc2 kV2 dc2 pm2 cd2 ct2 : Value} {f2 : Addr} {od3 an3 : Option Addr} {sl3 : Array (Option Value)} {oc3 kV3 dc3 pm3 cd3 ct3 : Value} {f3 : Addr} {od4 an4 : Option Addr} {sl4 : Array (Option Value)} {oc4 kV4 dc4 pm4 cd4 ct4 : Value} {f4 : Addr} {od5 an5 : Option Addr} {sl5 : Array (Option Value)} {oc5 kV5 dc5 pm5 cd5 ct5 : Value} {f5 : Addr} {od6 an6 : Option Addr} {sl6 : Array (Option Value)} {oc6 kV6 dc6 pm6 cd6 ct6 : Value} {f6 : Addr} {od7 an7 : Option Addr} {sl7 : Array (Option Value)} {oc7 kV7 dc7 pm7 cd7 ct7 : Value} {f7 : Addr} {od8 an8 : Option Addr} {sl8 : Array (Option Value)} {oc8 kV8 dc8 pm8 cd8 ct8 : Value} {f8 : Addr} {od9 an9 : Option Addr} {sl9 : Array (Option Value)} {oc9 kV9 dc9 pm9 cd9 ct9 : Value} {f9 : Addr} {od10 an10 : Option Addr} {sl10 : Array (Option Value)} {oc10 kV10 dc10 pm10 cd10 ct10 : Value} {f10 : Addr} {od11 an11 : Option Addr} {sl11 : Array (Option Value)} {oc11 kV11 dc11 pm11 cd11 ct11 : Value} {f11 : Addr} {od12 an12 : Option Addr} {sl12 : Array (Option Value)} {oc12 kV12 dc12 pm12 cd12 ct12 : Value} {f12 : Addr} {od13 an13 : Option Addr} {sl13 : Array (Option Value)} {oc13 kV13 dc13 pm13 cd13 ct13 : Value} {f13 : Addr} {od14 an14 : Option Addr} {sl14 : Array (Option Value)} {oc14 kV14 dc14 pm14 cd14 ct14 : Value} {f14 : Addr} {od15 an15 : Option Addr} {sl15 : Array (Option Value)} {oc15 kV15 dc15 pm15 cd15 ct15 : Value} {f15 : Addr} {od16 an16 : Option Addr} {sl16 : Array (Option Value)} {oc16 kV16 dc16 pm16 cd16 ct16 : Value} {f16 : Addr} {od17 an17 : Option Addr} {sl17 : Array (Option Value)} {oc17 kV17 dc17 pm17 cd17 ct17 : Value} {f17 : Addr} {od18 an18 : Option Addr} {sl18 : Array (Option Value)} {oc18 kV18 dc18 pm18 cd18 ct18 : Value} {f18 : Addr} {od19 an19 : Option Addr} {sl19 : Array (Option Value)} {oc19 kV19 dc19 pm19 cd19 ct19 : Value} {f19 : Addr} {od20 an20 : Option Addr} {sl20 : Array (Option Value)} {oc20 kV20 dc20 pm20 cd20 ct20 : Value} {f20 : Addr} (X : K.In h) (G : h.Ns mainGlobals mg) (hfa : mg "law" = some (.ref fa)) (a0 : PySem.W.nsIn K mainGlobals "spans_have" = some (some (.ref f0))) (l0 : K.lookup f0 = some ⟨oc0, od0, .func (PySem.W.fnOf "spans_have" "spans_have" (defArgs sspans_have) (defBody sspans_have) (defScope sspans_have) .none kV0 dc0 pm0 an0 cd0 ct0), sl0⟩) (c0 : PySem.W.codeIn K cd0 "spans_have" = true) (k0 : PySem.W.keepIn K (.ref f0) = true) (a1 : PySem.W.nsIn K mainGlobals "full" = some (some (.ref f1))) (l1 : K.lookup f1 = some ⟨oc1, od1, .func (PySem.W.fnOf "full" "full" (defArgs sfull) (defBody sfull) (defScope sfull) .none kV1 dc1 pm1 an1 cd1 ct1), sl1⟩) (c1 : PySem.W.codeIn K cd1 "full" = true) (k1 : PySem.W.keepIn K (.ref f1) = true) (a2 : PySem.W.nsIn K mainGlobals "higher_end" = some (some (.ref f2))) (l2 : K.lookup f2 = some ⟨oc2, od2, .func (PySem.W.fnOf "higher_end" "higher_end" (defArgs shigher_end) (defBody shigher_end) (defScope shigher_end) .none kV2 dc2 pm2 an2 cd2 ct2), sl2⟩) (c2 : PySem.W.codeIn K cd2 "higher_end" = true) (k2 : PySem.W.keepIn K (.ref f2) = true) (a3 : PySem.W.nsIn K mainGlobals "lower_end" = some (some (.ref f3))) (l3 : K.lookup f3 = some ⟨oc3, od3, .func (PySem.W.fnOf "lower_end" "lower_end" (defArgs slower_end) (defBody slower_end) (defScope slower_end) .none kV3 dc3 pm3 an3 cd3 ct3), sl3⟩) (c3 : PySem.W.codeIn K cd3 "lower_end" = true) (k3 : PySem.W.keepIn K (.ref f3) = true) (a4 : PySem.W.nsIn K mainGlobals "reaches" = some (some (.ref f4))) (l4 : K.lookup f4 = some ⟨oc4, od4, .func (PySem.W.fnOf "reaches" "reaches" (defArgs sreaches) (defBody sreaches) (defScope sreaches) .none kV4 dc4 pm4 an4 cd4 ct4), sl4⟩) (c4 : PySem.W.codeIn K cd4 "reaches" = true) (k4 : PySem.W.keepIn K (.ref f4) = true) (a5 : PySem.W.nsIn K mainGlobals "spans_formed" = some (some (.ref f5))) (l5 : K.lookup f5 = some ⟨oc5, od5, .func (PySem.W.fnOf "spans_formed" "spans_formed" (defArgs sspans_formed) (defBody sspans_formed) (defScope sspans_formed) .none kV5 dc5 pm5 an5 cd5 ct5), sl5⟩) (c5 : PySem.W.codeIn K cd5 "spans_formed" = true) (k5 : PySem.W.keepIn K (.ref f5) = true) (a6 : PySem.W.nsIn K mainGlobals "spans_met" = some (some (.ref f6))) (l6 : K.lookup f6 = some ⟨oc6, od6, .func (PySem.W.fnOf "spans_met" "spans_met" (defArgs sspans_met) (defBody sspans_met) (defScope sspans_met) .none kV6 dc6 pm6 an6 cd6 ct6), sl6⟩) (c6 : PySem.W.codeIn K cd6 "spans_met" = true) (k6 : PySem.W.keepIn K (.ref f6) = true) (a7 : PySem.W.nsIn K mainGlobals "spans_apart" = some (some (.ref f7))) (l7 : K.lookup f7 = some ⟨oc7, od7, .func (PySem.W.fnOf "spans_apart" "spans_apart" (defArgs sspans_apart) (defBody sspans_apart) (defScope sspans_apart) .none kV7 dc7 pm7 an7 cd7 ct7), sl7⟩) (c7 : PySem.W.codeIn K cd7 "spans_apart" = true) (k7 : PySem.W.keepIn K (.ref f7) = true) (a8 : PySem.W.nsIn K mainGlobals "_law_cell_at" = some (some (.ref f8))) (l8 : K.lookup f8 = some ⟨oc8, od8, .func (PySem.W.fnOf "_law_cell_at" "_law_cell_at" (defArgs s_law_cell_at) (defBody s_law_cell_at) (defScope s_law_cell_at) .none kV8 dc8 pm8 an8 cd8 ct8), sl8⟩) (c8 : PySem.W.codeIn K cd8 "_law_cell_at" = true) (k8 : PySem.W.keepIn K (.ref f8) = true) (a9 : PySem.W.nsIn K mainGlobals "_law_pot" = some (some (.ref f9))) (l9 : K.lookup f9 = some ⟨oc9, od9, .func (PySem.W.fnOf "_law_pot" "_law_pot" (defArgs s_law_pot) (defBody s_law_pot) (defScope s_law_pot) .none kV9 dc9 pm9 an9 cd9 ct9), sl9⟩) (c9 : PySem.W.codeIn K cd9 "_law_pot" = true) (k9 : PySem.W.keepIn K (.ref f9) = true) (a10 : PySem.W.nsIn K mainGlobals "_law_take" = some (some (.ref f10))) (l10 : K.lookup f10 = some ⟨oc10, od10, .func (PySem.W.fnOf "_law_take" "_law_take" (defArgs s_law_take) (defBody s_law_take) (defScope s_law_take) .none kV10 dc10 pm10 an10 cd10 ct10), sl10⟩) (c10 : PySem.W.codeIn K cd10 "_law_take" = true) (k10 : PySem.W.keepIn K (.ref f10) = true) (a11 : PySem.W.nsIn K mainGlobals "_law_whole" = some (some (.ref f11))) (l11 : K.lookup f11 = some ⟨oc11, od11, .func (PySem.W.fnOf "_law_whole" "_law_whole" (defArgs s_law_whole) (defBody s_law_whole) (defScope s_law_whole) .none kV11 dc11 pm11 an11 cd11 ct11), sl11⟩) (c11 : PySem.W.codeIn K cd11 "_law_whole" = true) (k11 : PySem.W.keepIn K (.ref f11) = true) (a12 : PySem.W.nsIn K mainGlobals "_law_far" = some (some (.ref f12))) (l12 : K.lookup f12 = some ⟨oc12, od12, .func (PySem.W.fnOf "_law_far" "_law_far" (defArgs s_law_far) (defBody s_law_far) (defScope s_law_far) .none kV12 dc12 pm12 an12 cd12 ct12), sl12⟩) (c12 : PySem.W.codeIn K cd12 "_law_far" = true) (k12 : PySem.W.keepIn K (.ref f12) = true) (a13 : PySem.W.nsIn K mainGlobals "_law_end" = some (some (.ref f13))) (l13 : K.lookup f13 = some ⟨oc13, od13, .func (PySem.W.fnOf "_law_end" "_law_end" (defArgs s_law_end) (defBody s_law_end) (defScope s_law_end) .none kV13 dc13 pm13 an13 cd13 ct13), sl13⟩) (c13 : PySem.W.codeIn K cd13 "_law_end" = true) (k13 : PySem.W.keepIn K (.ref f13) = true) (a14 : PySem.W.nsIn K mainGlobals "_law_spans" = some (some (.ref f14))) (l14 : K.lookup f14 = some ⟨oc14, od14, .func (PySem.W.fnOf "_law_spans" "_law_spans" (defArgs s_law_spans) (defBody s_law_spans) (defScope s_law_spans) .none kV14 dc14 pm14 an14 cd14 ct14), sl14⟩) (c14 : PySem.W.codeIn K cd14 "_law_spans" = true) (k14 : PySem.W.keepIn K (.ref f14) = true) (a15 : PySem.W.nsIn K mainGlobals "_law_has" = some (some (.ref f15))) (l15 : K.lookup f15 = some ⟨oc15, od15, .func (PySem.W.fnOf "_law_has" "_law_has" (defArgs s_law_has) (defBody s_law_has) (defScope s_law_has) .none kV15 dc15 pm15 an15 cd15 ct15), sl15⟩) (c15 : PySem.W.codeIn K cd15 "_law_has" = true) (k15 : PySem.W.keepIn K (.ref f15) = true) (a16 : PySem.W.nsIn K mainGlobals "_law_is_end" = some (some (.ref f16))) (l16 : K.lookup f16 = some ⟨oc16, od16, .func (PySem.W.fnOf "_law_is_end" "_law_is_end" (defArgs s_law_is_end) (defBody s_law_is_end) (defScope s_law_is_end) .none kV16 dc16 pm16 an16 cd16 ct16), sl16⟩) (c16 : PySem.W.codeIn K cd16 "_law_is_end" = true) (k16 : PySem.W.keepIn K (.ref f16) = true) (a17 : PySem.W.nsIn K mainGlobals "_law_in_form" = some (some (.ref f17))) (l17 : K.lookup f17 = some ⟨oc17, od17, .func (PySem.W.fnOf "_law_in_form" "_law_in_form" (defArgs s_law_in_form) (defBody s_law_in_form) (defScope s_law_in_form) .none kV17 dc17 pm17 an17 cd17 ct17), sl17⟩) (c17 : PySem.W.codeIn K cd17 "_law_in_form" = true) (k17 : PySem.W.keepIn K (.ref f17) = true) (a18 : PySem.W.nsIn K mainGlobals "_law_near" = some (some (.ref f18))) (l18 : K.lookup f18 = some ⟨oc18, od18, .func (PySem.W.fnOf "_law_near" "_law_near" (defArgs s_law_near) (defBody s_law_near) (defScope s_law_near) .none kV18 dc18 pm18 an18 cd18 ct18), sl18⟩) (c18 : PySem.W.codeIn K cd18 "_law_near" = true) (k18 : PySem.W.keepIn K (.ref f18) = true) (a19 : PySem.W.nsIn K mainGlobals "_law_apart" = some (some (.ref f19))) (l19 : K.lookup f19 = some ⟨oc19, od19, .func (PySem.W.fnOf "_law_apart" "_law_apart" (defArgs s_law_apart) (defBody s_law_apart) (defScope s_law_apart) .none kV19 dc19 pm19 an19 cd19 ct19), sl19⟩) (c19 : PySem.W.codeIn K cd19 "_law_apart" = true) (k19 : PySem.W.keepIn K (.ref f19) = true) (a20 : PySem.W.nsIn K mainGlobals "law" = some (some (.ref f20))) (l20 : K.lookup f20 = some ⟨oc20, od20, .func (PySem.W.fnOf "law" "law" (defArgs slaw) (defBody slaw) (defScope slaw) .none kV20 dc20 pm20 an20 cd20 ct20), sl20⟩) (c20 : PySem.W.codeIn K cd20 "law" = true) (k20 : PySem.W.keepIn K (.ref f20) = true) (zlen : PySem.W.nsIn K mainGlobals "len" = some none) (zisinstance : PySem.W.nsIn K mainGlobals "isinstance" = some none) (zint : PySem.W.nsIn K mainGlobals "int" = some none) (zbool : PySem.W.nsIn K mainGlobals "bool" = some none) (ztuple : PySem.W.nsIn K mainGlobals "tuple" = some none) (zlist : PySem.W.nsIn K mainGlobals "list" = some none) (zrange : PySem.W.nsIn K mainGlobals "range" = some none) (zenumerate : PySem.W.nsIn K mainGlobals "enumerate" = some none) (zmax : PySem.W.nsIn K mainGlobals "max" = some none) (zmin : PySem.W.nsIn K mainGlobals "min" = some none) (zsorted : PySem.W.nsIn K mainGlobals "sorted" = some none) : ∃ t, Txt K mg t ∧ t.flaw = fa :=
  ⟨⟨f0, PySem.W.fnOf "spans_have" "spans_have" (defArgs sspans_have) (defBody sspans_have) (defScope sspans_have) .none kV0 dc0 pm0 an0 cd0 ct0, f1, PySem.W.fnOf "full" "full" (defArgs sfull) (defBody sfull) (defScope sfull) .none kV1 dc1 pm1 an1 cd1 ct1, f2, PySem.W.fnOf "higher_end" "higher_end" (defArgs shigher_end) (defBody shigher_end) (defScope shigher_end) .none kV2 dc2 pm2 an2 cd2 ct2, f3, PySem.W.fnOf "lower_end" "lower_end" (defArgs slower_end) (defBody slower_end) (defScope slower_end) .none kV3 dc3 pm3 an3 cd3 ct3, f4, PySem.W.fnOf "reaches" "reaches" (defArgs sreaches) (defBody sreaches) (defScope sreaches) .none kV4 dc4 pm4 an4 cd4 ct4, f5, PySem.W.fnOf "spans_formed" "spans_formed" (defArgs sspans_formed) (defBody sspans_formed) (defScope sspans_formed) .none kV5 dc5 pm5 an5 cd5 ct5, f6, PySem.W.fnOf "spans_met" "spans_met" (defArgs sspans_met) (defBody sspans_met) (defScope sspans_met) .none kV6 dc6 pm6 an6 cd6 ct6, f7, PySem.W.fnOf "spans_apart" "spans_apart" (defArgs sspans_apart) (defBody sspans_apart) (defScope sspans_apart) .none kV7 dc7 pm7 an7 cd7 ct7, f8, PySem.W.fnOf "_law_cell_at" "_law_cell_at" (defArgs s_law_cell_at) (defBody s_law_cell_at) (defScope s_law_cell_at) .none kV8 dc8 pm8 an8 cd8 ct8, f9, PySem.W.fnOf "_law_pot" "_law_pot" (defArgs s_law_pot) (defBody s_law_pot) (defScope s_law_pot) .none kV9 dc9 pm9 an9 cd9 ct9, f10, PySem.W.fnOf "_law_take" "_law_take" (defArgs s_law_take) (defBody s_law_take) (defScope s_law_take) .none kV10 dc10 pm10 an10 cd10 ct10, f11, PySem.W.fnOf "_law_whole" "_law_whole" (defArgs s_law_whole) (defBody s_law_whole) (defScope s_law_whole) .none kV11 dc11 pm11 an11 cd11 ct11, f12, PySem.W.fnOf "_law_far" "_law_far" (defArgs s_law_far) (defBody s_law_far) (defScope s_law_far) .none kV12 dc12 pm12 an12 cd12 ct12, f13, PySem.W.fnOf "_law_end" "_law_end" (defArgs s_law_end) (defBody s_law_end) (defScope s_law_end) .none kV13 dc13 pm13 an13 cd13 ct13, f14, PySem.W.fnOf "_law_spans" "_law_spans" (defArgs s_law_spans) (defBody s_law_spans) (defScope s_law_spans) .none kV14 dc14 pm14 an14 cd14 ct14, f15, PySem.W.fnOf "_law_has" "_law_has" (defArgs s_law_has) (defBody s_law_has) (defScope s_law_has) .none kV15 dc15 pm15 an15 cd15 ct15, f16, PySem.W.fnOf "_law_is_end" "_law_is_end" (defArgs s_law_is_end) (defBody s_law_is_end) (defScope s_law_is_end) .none kV16 dc16 pm16 an16 cd16 ct16, f17, PySem.W.fnOf "_law_in_form" "_law_in_form" (defArgs s_law_in_form) (defBody s_law_in_form) (defScope s_law_in_form) .none kV17 dc17 pm17 an17 cd17 ct17, f18, PySem.W.fnOf "_law_near" "_law_near" (defArgs s_law_near) (defBody s_law_near) (defScope s_law_near) .none kV18 dc18 pm18 an18 cd18 ct18, f19, PySem.W.fnOf "_law_apart" "_law_apart" (defArgs s_law_apart) (defBody s_law_apart) (defScope s_law_apart) .none kV19 dc19 pm19 an19 cd19 ct19, f20, PySem.W.fnOf "law" "law" (defArgs slaw) (defBody slaw) (defScope slaw) .none kV20 dc20 pm20 an20 cd20 ct20⟩, ⟨fun_mk (st := sspans_have) l0 c0 k0, PySem.W.mg_of X G a0, k0, (fun_mk (st := sspans_have) l0 c0 k0).binds (ps := ["spans", "number"]) fun _ _ _ _ _ _ us hl => match us, hl with | [_, _], _ => rfl, fun_mk (st := sfull) l1 c1 k1, PySem.W.mg_of X G a1, k1, (fun_mk (st := sfull) l1 c1 k1).binds (ps := ["spans"]) fun _ _ _ _ _ _ us hl => match us, hl with | [_], _ => rfl, fun_mk (st := shigher_end) l2 c2 k2, PySem.W.mg_of X G a2, k2, (fun_mk (st := shigher_end) l2 c2 k2).binds (ps := ["one", "other"]) fun _ _ _ _ _ _ us hl => match us, hl with | [_, _], _ => rfl, fun_mk (st := slower_end) l3 c3 k3, PySem.W.mg_of X G a3, k3, (fun_mk (st := slower_end) l3 c3 k3).binds (ps := ["one", "other"]) fun _ _ _ _ _ _ us hl => match us, hl with | [_, _], _ => rfl, fun_mk (st := sreaches) l4 c4 k4, PySem.W.mg_of X G a4, k4, (fun_mk (st := sreaches) l4 c4 k4).binds (ps := ["high", "low"]) fun _ _ _ _ _ _ us hl => match us, hl with | [_, _], _ => rfl, fun_mk (st := sspans_formed) l5 c5 k5, PySem.W.mg_of X G a5, k5, (fun_mk (st := sspans_formed) l5 c5 k5).binds (ps := ["spans"]) fun _ _ _ _ _ _ us hl => match us, hl with | [_], _ => rfl, fun_mk (st := sspans_met) l6 c6 k6, PySem.W.mg_of X G a6, k6, (fun_mk (st := sspans_met) l6 c6 k6).binds (ps := ["one", "other"]) fun _ _ _ _ _ _ us hl => match us, hl with | [_, _], _ => rfl, fun_mk (st := sspans_apart) l7 c7 k7, PySem.W.mg_of X G a7, k7, (fun_mk (st := sspans_apart) l7 c7 k7).binds (ps := ["one", "other"]) fun _ _ _ _ _ _ us hl => match us, hl with | [_, _], _ => rfl, fun_mk (st := s_law_cell_at) l8 c8 k8, PySem.W.mg_of X G a8, k8, (fun_mk (st := s_law_cell_at) l8 c8 k8).binds (ps := ["_law_script", "_law_k"]) fun _ _ _ _ _ _ us hl => match us, hl with | [_, _], _ => rfl, fun_mk (st := s_law_pot) l9 c9 k9, PySem.W.mg_of X G a9, k9, (fun_mk (st := s_law_pot) l9 c9 k9).binds (ps := ["_law_way", "_law_cell"]) fun _ _ _ _ _ _ us hl => match us, hl with | [_, _], _ => rfl, fun_mk (st := s_law_take) l10 c10 k10, PySem.W.mg_of X G a10, k10, (fun_mk (st := s_law_take) l10 c10 k10).binds (ps := ["_law_pot_here", "_law_many"]) fun _ _ _ _ _ _ us hl => match us, hl with | [_, _], _ => rfl, fun_mk (st := s_law_whole) l11 c11 k11, PySem.W.mg_of X G a11, k11, (fun_mk (st := s_law_whole) l11 c11 k11).binds (ps := ["_law_found"]) fun _ _ _ _ _ _ us hl => match us, hl with | [_], _ => rfl, fun_mk (st := s_law_far) l12 c12 k12, PySem.W.mg_of X G a12, k12, (fun_mk (st := s_law_far) l12 c12 k12).binds (ps := ["_law_pot_here"]) fun _ _ _ _ _ _ us hl => match us, hl with | [_], _ => rfl, fun_mk (st := s_law_end) l13 c13 k13, PySem.W.mg_of X G a13, k13, (fun_mk (st := s_law_end) l13 c13 k13).binds (ps := ["_law_pot_here"]) fun _ _ _ _ _ _ us hl => match us, hl with | [_], _ => rfl, fun_mk (st := s_law_spans) l14 c14 k14, PySem.W.mg_of X G a14, k14, (fun_mk (st := s_law_spans) l14 c14 k14).binds (ps := ["_law_pot_here", "_law_many"]) fun _ _ _ _ _ _ us hl => match us, hl with | [_, _], _ => rfl, fun_mk (st := s_law_has) l15 c15 k15, PySem.W.mg_of X G a15, k15, (fun_mk (st := s_law_has) l15 c15 k15).binds (ps := ["_law_spans_here", "_law_n"]) fun _ _ _ _ _ _ us hl => match us, hl with | [_, _], _ => rfl, fun_mk (st := s_law_is_end) l16 c16 k16, PySem.W.mg_of X G a16, k16, (fun_mk (st := s_law_is_end) l16 c16 k16).binds (ps := ["_law_end_here"]) fun _ _ _ _ _ _ us hl => match us, hl with | [_], _ => rfl, fun_mk (st := s_law_in_form) l17 c17 k17, PySem.W.mg_of X G a17, k17, (fun_mk (st := s_law_in_form) l17 c17 k17).binds (ps := ["_law_found"]) fun _ _ _ _ _ _ us hl => match us, hl with | [_], _ => rfl, fun_mk (st := s_law_near) l18 c18 k18, PySem.W.mg_of X G a18, k18, (fun_mk (st := s_law_near) l18 c18 k18).binds (ps := ["_law_spans_here"]) fun _ _ _ _ _ _ us hl => match us, hl with | [_], _ => rfl, fun_mk (st := s_law_apart) l19 c19 k19, PySem.W.mg_of X G a19, k19, (fun_mk (st := s_law_apart) l19 c19 k19).binds (ps := ["_law_one", "_law_other", "_law_numbers"]) fun _ _ _ _ _ _ us hl => match us, hl with | [_, _, _], _ => rfl, fun_mk (st := slaw) l20 c20 k20, PySem.W.mg_of X G a20, k20, (fun_mk (st := slaw) l20 c20 k20).binds (ps := ["_law_script"]) fun _ _ _ _ _ _ us hl => match us, hl with | [_], _ => rfl, PySem.W.mg_none_of X G zlen, PySem.W.mg_none_of X G zisinstance, PySem.W.mg_none_of X G zint, PySem.W.mg_none_of X G zbool, PySem.W.mg_none_of X G ztuple, PySem.W.mg_none_of X G zlist, PySem.W.mg_none_of X G zrange, PySem.W.mg_none_of X G zenumerate, PySem.W.mg_none_of X G zmax, PySem.W.mg_none_of X G zmin, PySem.W.mg_none_of X G zsorted⟩, by have e := hfa.symm.trans (PySem.W.mg_of X G a20); injection e with e; injection e with e; exact e.symm⟩
theorem binds1 {K : PySem.W.Frag} {f : Addr} {fd : FuncData} (F : Fun K "law" "law" slaw f fd) {s : Shared} {u : Value} : BindsTo s fd ⟨[u], []⟩ [("_law_script", u)] := by
  obtain ⟨oc, od, kV, doc, pm, an, cdv, ct, osl, rfl, lk, hcd⟩ := F.ex
  exact .of_eq rfl
theorem walk {l : PySem.W.OpenLaw} {q : Program} {loose : List Str} {XP : (Str → Option Value) → Heap → Prop} {YP : World → Heap → Prop} {d : DefRec} {K : Params → PySem.W.Frag} (hn : l.most = some 63) (hdf : d.params.defaults = [])
    (main : ∀ ns : List Int, ns.length ≤ 63 → F_law [.d (.lst (ns.map .int))] [] = some (.d (.bl true), []))
    (hY : ∀ (w : World) (h : Heap), YP w h → (K w.params).In h)
    (F : ∀ (w : World) (mg : Str → Option Value) (fa : Addr) (h : Heap), (K w.params).In h → h.Ns mainGlobals mg → mg d.name = some (.ref fa) → ∃ t, Txt (K w.params) mg t ∧ t.flaw = fa) :
    PySem.W.WalkO q loose XP YP l.row.toRowW d [] (fun f vs => PySem.call f vs) :=
  L2.walk_of (n := 63) (k := 5) (x := "_law_script") (CX := fun _ => CX0) (sp := fun w => Z.spLaw (K w.params)) hn (by decide) hdf ⟨rfl, by decide, by decide⟩ hY
    (fun w mg fa h KX G hmg => by
      obtain ⟨t, T, e⟩ := F w mg fa h KX G hmg
      subst e
      refine ⟨t.dlaw, fun s u => ?_, fun base kb nb => Z.law_ok main (q_law T)⟩
      exact binds1 T.Flaw) (fun _ _ a ns hl _ hS => ⟨a, ns, rfl, hS, hl, fun _ => rfl⟩) fun _ _ _ _ _ z => z
end K22
namespace K22
open PySem L2 Z
theorem len_flat {α β : Type} (f : α → List β) (k : Nat) : ∀ xs : List α, (∀ x, (f x).length ≤ k) → (xs.flatMap f).length ≤ xs.length * k
  | [], _ => by simp
  | x :: r, h => by
    rw [List.flatMap_cons, List.length_append, List.length_cons, Nat.succ_mul]
    have := h x
    have := len_flat f k r h
    omega
theorem call2 {F : FF} {f g : FE} {ρ : Rho} {S : Sto} {x y : A} {r : Option (A × Sto)} (hf : f ρ S = some (x, S)) (hg : g ρ S = some (y, S)) (h : F [x, y] S = r) : callF F (aCons f (aCons g aNil)) ρ S = r := by
  unfold callF aCons; rw [hf]; simp only [hg, aCons, aNil]; exact h
theorem tup2_of {f g : FE} {ρ : Rho} {S : Sto} {x y : D} (hf : f ρ S = some (.d x, S)) (hg : g ρ S = some (.d y, S)) : tupF (aCons f (aCons g aNil)) ρ S = some (.d (.tup [x, y]), S) := by
  unfold tupF aCons; rw [hf]; simp only [aCons, hg, aNil]; simp [List.mapM_cons, lim]
theorem cal1_of {o : Sto → List A → Option A} {f : FE} {ρ : Rho} {S S1 : Sto} {x z : A} (hf : f ρ S = some (x, S1)) (h : o S1 [x] = some z) : cal o (aCons f aNil) ρ S = some (z, S1) := by
  unfold cal aCons; rw [hf]; simp only [aNil, h]
theorem call3 {F : FF} {f g h : FE} {ρ : Rho} {S : Sto} {x y z : A} {r : Option (A × Sto)} (hf : f ρ S = some (x, S)) (hg : g ρ S = some (y, S)) (hh : h ρ S = some (z, S)) (e : F [x, y, z] S = r) : callF F (aCons f (aCons g (aCons h aNil))) ρ S = r := by
  unfold callF aCons; rw [hf]; simp only [aCons, hg, hh, aNil]; exact e
theorem calL1_of {o : Sto → List A → Option (List D)} {f : FE} {ρ : Rho} {S S1 : Sto} {x : A} {z : List D} (hf : f ρ S = some (x, S1)) (h : o S1 [x] = some z) : calL o (aCons f aNil) ρ S = some (z, S1) := by
  unfold calL aCons; rw [hf]; simp only [aNil, h]
theorem set_of {i : Nat} {f : FE} {ρ : Rho} {S S1 : Sto} {x : A} (hf : f ρ S = some (x, S1)) : sSet i f ρ S = some (.nx (ρ.set i (some x)) S1) := by unfold sSet; rw [hf]
theorem len_end (e : Option Int) : e.toList.length ≤ 1 := by cases e <;> simp
theorem pot0 (w c : Int) : Pot 0 [[.int w, .int c, .int c]] := ⟨w, c, c, rfl⟩
theorem cut_ints (ns : List Int) (lo hi : Option Int) : ∃ ms : List Int, cutD (ns.map .int) lo hi = ms.map .int ∧ ms.length ≤ ns.length := by
  refine ⟨(ns.drop (HT.sIx ns.length 0 lo)).take (HT.sIx ns.length ns.length hi - HT.sIx ns.length 0 lo), ?_, ?_⟩
  · unfold cutD
    rw [List.length_map, List.map_take, List.map_drop]
  · rw [List.length_take, List.length_drop]; omega
theorem further2 {ns : List Int} (hl : ns.length ≤ 63) {ρ : Rho} (h0 : ρ[0]? = some (some (.d (.lst (ns.map .int))))) (S : Sto) : ∃ m1 m2 : List Int, m1.length ≤ 63 ∧ m2.length ≤ 63 ∧
    lcL (iSq (dL (cutL (var 0) (oSome (cst (.int 2))) (oSome (cst (.int 27)))))) (gN 0) tYs (bin (oI gMod) (var 0) (bin (oI gPow) (cst (.int 10)) (cst (.int 60)))) 1 [] ρ S = some (m1.map .int, S) ∧
    lcL (iSq (dL (cutL (var 0) (oSome (cst (.int 2))) (oSome (cst (.int 27)))))) (gN 0) tYs (bin (oI gSub) (bin (oI gMod) (var 0) (cst (.int 41))) (cst (.int 20))) 1 [] ρ S = some (m2.map .int, S) := by
  obtain ⟨cs, e2, l2⟩ := cut_ints ns (some 2) (some 27)
  have s1 : iSq (dL (cutL (var 0) (oSome (cst (.int 2))) (oSome (cst (.int 27))))) ρ S = some (cs.map .int, S) := by
    simp only [iSq, dL, cutL, var, oSome, cst, h0, A.get, e2]
  have c1 := lcL_pure (fi := iSq (dL (cutL (var 0) (oSome (cst (.int 2))) (oSome (cst (.int 27)))))) (g := gN 0) (t := tYs) (f := bin (oI gMod) (var 0) (bin (oI gPow) (cst (.int 10)) (cst (.int 60)))) (n := 1) (js := []) (ρ := ρ) (S := S) (S1 := S) (fun ρ => ∃ u, ρ = [u]) D.int (fun _ => true) (fun n => .int (n % (10 : Int) ^ 60)) cs s1 ⟨none, rfl⟩ (by unfold lim; omega) (by
    rintro n _ ρ ⟨u, rfl⟩
    refine ⟨[some (.d (.int n))], rfl, ⟨_, rfl⟩, fun _ => rfl, fun _ S => ?_⟩
    have p : (0 : Int) < 10 ^ 60 := by decide
    simp [p])
  have c2 := lcL_pure (fi := iSq (dL (cutL (var 0) (oSome (cst (.int 2))) (oSome (cst (.int 27)))))) (g := gN 0) (t := tYs) (f := bin (oI gSub) (bin (oI gMod) (var 0) (cst (.int 41))) (cst (.int 20))) (n := 1) (js := []) (ρ := ρ) (S := S) (S1 := S) (fun ρ => ∃ u, ρ = [u]) D.int (fun _ => true) (fun n => .int (n % 41 - 20)) cs s1 ⟨none, rfl⟩ (by unfold lim; omega) (by
    rintro n _ ρ ⟨u, rfl⟩
    exact ⟨[some (.d (.int n))], rfl, ⟨_, rfl⟩, fun _ => rfl, fun _ S => by simp⟩)
  rw [List.filter_eq_self.mpr (fun _ _ => rfl)] at c1 c2
  refine ⟨cs.map (fun n => n % (10 : Int) ^ 60), cs.map (fun n => n % 41 - 20), by simp; omega, by simp; omega, ?_, ?_⟩
  · rw [List.map_map]; exact c1
  · rw [List.map_map]; exact c2
theorem ne_bl {f g : FE} {ρ : Rho} {S : Sto} {b : Bool} (hf : f ρ S = some (.d (.bl b), S)) (hg : g ρ S = some (.d (.bl b), S)) : tst (bin (oEq true) f g) ρ S = some (false, S) := by
  unfold tst
  rw [bin_of hf hg (z := .d (.bl false)) (by simp [eqD, depD])]
theorem if_no {t : FT} {F G : FS} {ρ : Rho} {S : Sto} (h : t ρ S = some (false, S)) : sIf t F G ρ S = G ρ S := by unfold sIf; rw [h]
noncomputable def lowM (a b : Option Int) : Option Int := match a, b with
  | some x, some y => some (if x < y then y else x)
  | some x, none => some x
  | none, b => b
noncomputable def hiM (a b : Option Int) : Option Int := match a, b with
  | some x, some y => some (if y < x then y else x)
  | some x, none => some x
  | none, b => b
noncomputable def metS (x y : Spn) : Spn := (lowM x.1 y.1, hiM x.2 y.2)
noncomputable def prodM (xs ys : List Spn) : List Spn := xs.flatMap fun x => ys.map (metS x)
theorem has_met (x y : Spn) (n : Int) : has1 (metS x y) n = (has1 x n && has1 y n) := by
  obtain ⟨a, b⟩ := x
  obtain ⟨c, d⟩ := y
  rw [Bool.eq_iff_iff]
  cases a <;> cases b <;> cases c <;> cases d <;> simp [metS, lowM, hiM, has1, inLow, inHigh] <;> (try split) <;> (try split) <;> omega
theorem has_prodM (xs ys : List Spn) (n : Int) : hasAny (prodM xs ys) n = (hasAny xs n && hasAny ys n) := by
  unfold hasAny prodM
  rw [List.any_flatMap, Bool.eq_iff_iff, Bool.and_eq_true, List.any_eq_true, List.any_eq_true, List.any_eq_true]
  constructor
  · rintro ⟨x, hx, h⟩
    rw [List.any_map, List.any_eq_true] at h
    obtain ⟨y, hy, h⟩ := h
    have h' : has1 (metS x y) n = true := h
    rw [has_met, Bool.and_eq_true] at h'
    exact ⟨⟨x, hx, h'.1⟩, ⟨y, hy, h'.2⟩⟩
  · rintro ⟨⟨x, hx, h1⟩, ⟨y, hy, h2⟩⟩
    refine ⟨x, hx, ?_⟩
    rw [List.any_map, List.any_eq_true]
    exact ⟨y, hy, by show has1 (metS x y) n = true; rw [has_met, h1, h2]; rfl⟩
theorem len_prodM (xs ys : List Spn) : (prodM xs ys).length ≤ xs.length * ys.length := by
  unfold prodM
  exact len_flat _ ys.length _ fun x => by rw [List.length_map]; exact Nat.le_refl _
theorem f_lower (a b : Option Int) (S : Sto) : F_lower_end [.d (dE a), .d (dE b)] S = some (.d (dE (hiM a b)), S) := by
  refine ret_of rfl ?_
  show b_lower_end [some (.d (dE a)), some (.d (dE b))] S = _
  unfold b_lower_end
  cases a with
  | none => cases b <;> simp [hiM, lim]
  | some x => cases b with
    | none => simp [hiM, lim]
    | some y =>
      simp [hiM, HT.lexLt]
      by_cases h : y = x
      · subst h; simp
      · by_cases h2 : y < x <;> simp [h, h2]
theorem o_max (a b : Option Int) (S : Sto) : oMax true S [.d (dE a), .d (dE b)] = some (.d (dE (lowM a b))) := by
  cases a with
  | none => cases b <;> simp [lowM, dE, HT.lexLt]
  | some x => cases b with
    | none => simp [lowM, dE, HT.lexLt]
    | some y =>
      simp [lowM, dE, HT.lexLt]
      by_cases h : x = y
      · subst h; simp
      · by_cases h2 : x < y <;> simp [h, h2]
theorem cal2_of {o : Sto → List A → Option A} {f g : FE} {ρ : Rho} {S : Sto} {x y z : A} (hf : f ρ S = some (x, S)) (hg : g ρ S = some (y, S)) (h : o S [x, y] = some z) : cal o (aCons f (aCons g aNil)) ρ S = some (z, S) := by
  unfold cal aCons; rw [hf]; simp only [aCons, hg, aNil, h]
theorem f_met {xs ys : List Spn} {x y : D} (hx : x = .lst (xs.map dS) ∨ x = .tup (xs.map dS)) (hy : y = .lst (ys.map dS) ∨ y = .tup (ys.map dS)) (hl : xs.length * ys.length ≤ 100) (S : Sto) :
    F_spans_met [.d x, .d y] S = some (.d (.tup ((formedS (prodM xs ys)).map dS)), S) := by
  have lp := len_prodM xs ys
  have key : lc2L (iSq (var 0)) (gT 2 (gsCons (gN 0) (gsCons (gN 1) gsNil))) tYs (iSq (var 4)) (gT 2 (gsCons (gN 2) (gsCons (gN 3) gsNil))) tYs (tupF (aCons (cal (oMax true) (aCons (var 0) (aCons (var 2) aNil))) (aCons (callF F_lower_end (aCons (var 1) (aCons (var 3) aNil))) aNil))) 4 [1] [some (.d x), some (.d y)] S = some ((prodM xs ys).map dS, S) := by
    have e : ((prodM xs ys).map dS) = xs.flatMap fun x => ys.map fun y => dS (metS x y) := by
      unfold prodM
      rw [List.map_flatMap]
      congr 1; funext z
      rw [List.map_map]; rfl
    rw [e]
    refine lc2L_pure (S1 := S) (fun ρ => ∃ a b c d, ρ = [a, b, c, d, some (.d y)]) (fun z ρ => ∃ c d, ρ = [some (.d (dE z.1)), some (.d (dE z.2)), c, d, some (.d y)]) dS dS (fun _ => ys) (fun a b => dS (metS a b)) xs ?_ ⟨none, none, none, none, rfl⟩ ?_ ?_ ?_ ?_
    · rcases hx with rfl | rfl <;> simp
    · have : (xs.flatMap fun _ => ys).length ≤ xs.length * ys.length := len_flat _ ys.length _ fun x => Nat.le_refl _
      unfold lim; omega
    · rintro z _ ρ ⟨a, b, c, d, rfl⟩
      exact ⟨_, rfl, ⟨c, d, rfl⟩, fun _ => rfl, fun S => by rcases hy with rfl | rfl <;> simp⟩
    · rintro z ρ ⟨c, d, rfl⟩
      exact ⟨_, _, _, _, rfl⟩
    · rintro a _ b _ ρ ⟨c, d, rfl⟩
      refine ⟨[some (.d (dE a.1)), some (.d (dE a.2)), some (.d (dE b.1)), some (.d (dE b.2)), some (.d y)], rfl, ⟨_, _, rfl⟩, fun _ => rfl, fun S => ?_⟩
      have e1 := cal2_of (o := oMax true) (f := var 0) (g := var 2) (ρ := [some (.d (dE a.1)), some (.d (dE a.2)), some (.d (dE b.1)), some (.d (dE b.2)), some (.d y)]) (S := S) rfl rfl (o_max a.1 b.1 S)
      have e2 := call2 (F := F_lower_end) (f := var 1) (g := var 3) (ρ := [some (.d (dE a.1)), some (.d (dE a.2)), some (.d (dE b.1)), some (.d (dE b.2)), some (.d y)]) (S := S) rfl rfl (f_lower a.2 b.2 S)
      exact tup2_of e1 e2
  refine ret_of rfl ?_
  show b_spans_met [some (.d x), some (.d y)] S = _
  unfold b_spans_met
  exact ret_st (call1 (dL_of key) (f_formed (.inl rfl) (by omega)))
noncomputable abbrev haveB : FS := (sIf (andT (orT (notT (truT (var 2))) (tst (bin (oI gLe) (bin oIx (var 2) (cst (.int 0))) (var 1)))) (orT (notT (truT (var 3))) (tst (bin (oI gLe) (var 1) (bin oIx (var 3) (cst (.int 0))))))) (sRet (cst (.bl true))) sNil)
theorem have_turn (X2 : A) (n : Int) (x : Spn) (S : Sto) : haveB [some X2, some (.d (.int n)), some (.d (dE x.1)), some (.d (dE x.2))] S = if has1 x n then some (.rt (.d (.bl true)) S) else some (.nx [some X2, some (.d (.int n)), some (.d (dE x.1)), some (.d (dE x.2))] S) := by
  obtain ⟨a, b⟩ := x
  cases a with
  | none => cases b with
    | none => simp [has1, inLow, inHigh, lim]
    | some h => by_cases c : n ≤ h <;> simp [has1, inLow, inHigh, lim, at0, c]
  | some l => cases b with
    | none => by_cases c : l ≤ n <;> simp [has1, inLow, inHigh, lim, at0, c]
    | some h => by_cases c : l ≤ n <;> by_cases c2 : n ≤ h <;> simp [has1, inLow, inHigh, lim, at0, c, c2]
theorem have_loop (X2 : A) (n : Int) (S : Sto) : ∀ (xs : List Spn) (u v : Option A), (hasAny xs n = true → forF (tgF 2 3) haveB (xs.map dS) [some X2, some (.d (.int n)), u, v] S = some (.rt (.d (.bl true)) S)) ∧
    (hasAny xs n = false → ∃ u' v', forF (tgF 2 3) haveB (xs.map dS) [some X2, some (.d (.int n)), u, v] S = some (.nx [some X2, some (.d (.int n)), u', v'] S))
  | [], u, v => ⟨fun h => by simp [hasAny] at h, fun _ => ⟨u, v, rfl⟩⟩
  | x :: r, u, v => by
    have ht := have_turn X2 n x S
    have cons : hasAny (x :: r) n = (has1 x n || hasAny r n) := rfl
    obtain ⟨i1, i2⟩ := have_loop X2 n S r (some (.d (dE x.1))) (some (.d (dE x.2)))
    rw [List.map_cons]
    unfold forF
    rw [tg_f]
    cases hx : has1 x n with
    | true =>
      rw [hx, if_pos rfl] at ht
      simp only [ht]
      exact ⟨fun _ => trivial, fun h => by rw [cons, hx] at h; cases h⟩
    | false =>
      rw [hx, if_neg (by decide)] at ht
      simp only [ht]
      rw [cons, hx, Bool.false_or]
      exact ⟨i1, i2⟩
theorem f_have {xs : List Spn} {x : D} (hx : x = .lst (xs.map dS) ∨ x = .tup (xs.map dS)) (n : Int) (S : Sto) : F_spans_have [.d x, .d (.int n)] S = some (.d (.bl (hasAny xs n)), S) := by
  refine ret_of rfl ?_
  show b_spans_have [some (.d x), some (.d (.int n)), none, none] S = _
  have s1 : iSq (var 0) [some (.d x), some (.d (.int n)), none, none] S = some (xs.map dS, S) := by rcases hx with rfl | rfl <;> simp
  obtain ⟨i1, i2⟩ := have_loop (.d x) n S xs none none
  unfold b_spans_have
  cases h : hasAny xs n with
  | true => rw [seq_rt (for_nx s1 (i1 h))]
  | false =>
    obtain ⟨u, v, e⟩ := i2 h
    rw [seq_nx (for_nx s1 e)]
    rfl
noncomputable def tr1 (x : Spn) : List Int := x.1.toList ++ x.2.toList
noncomputable def tr2 (y : Spn) : List Int := y.1.toList.map (fun n => n - 1) ++ y.2.toList.map (fun n => n + 1)
noncomputable def tried (xs ys : List Spn) : List Int := [0] ++ xs.flatMap tr1 ++ ys.flatMap tr2
theorem greatest (P : Int → Prop) (n : Int) : ∀ cs : List Int, (∃ c ∈ cs, P c ∧ c ≤ n) → ∃ m ∈ cs, P m ∧ m ≤ n ∧ ∀ c ∈ cs, P c → c ≤ n → c ≤ m
  | [], ⟨c, h, _⟩ => absurd h (by simp)
  | d :: cs, hex => by
    by_cases h2 : ∃ c ∈ cs, P c ∧ c ≤ n
    · obtain ⟨m, hm, p1, p2, p3⟩ := greatest P n cs h2
      by_cases hd : P d ∧ d ≤ n ∧ m < d
      · refine ⟨d, by simp, hd.1, hd.2.1, fun c hc q1 q2 => ?_⟩
        rcases List.mem_cons.mp hc with e | q
        · omega
        · have := p3 c q q1 q2; omega
      · refine ⟨m, List.mem_cons_of_mem _ hm, p1, p2, fun c hc q1 q2 => ?_⟩
        rcases List.mem_cons.mp hc with e | q
        · subst e
          by_cases z : m < c
          · exact absurd ⟨q1, q2, z⟩ hd
          · omega
        · exact p3 c q q1 q2
    · obtain ⟨c, hc, q1, q2⟩ := hex
      rcases List.mem_cons.mp hc with e | q
      · subst e
        refine ⟨c, by simp, q1, q2, fun c' hc' r1 r2 => ?_⟩
        rcases List.mem_cons.mp hc' with e | q
        · omega
        · exact absurd ⟨c', q, r1, r2⟩ h2
      · exact absurd ⟨c, q, q1, q2⟩ h2
theorem least' (P : Int → Prop) (n : Int) (cs : List Int) (h : ∃ c ∈ cs, P c ∧ n ≤ c) : ∃ m ∈ cs, P m ∧ n ≤ m ∧ ∀ c ∈ cs, P c → n ≤ c → m ≤ c := by
  obtain ⟨m, hm, p1, p2, p3⟩ := greatest (fun z => P (-z)) (-n) (cs.map fun z => -z) (by
    obtain ⟨c, hc, q1, q2⟩ := h
    exact ⟨-c, List.mem_map_of_mem hc, by rw [Int.neg_neg]; exact q1, by omega⟩)
  obtain ⟨c, hc, e⟩ := List.mem_map.mp hm
  subst e
  rw [Int.neg_neg] at p1
  refine ⟨c, hc, p1, by omega, fun d hd q1 q2 => ?_⟩
  have := p3 (-d) (List.mem_map_of_mem hd) (by rw [Int.neg_neg]; exact q1) (by omega)
  omega
theorem has_iff (x : Spn) (n : Int) : has1 x n = true ↔ (∀ l, x.1 = some l → l ≤ n) ∧ ∀ h, x.2 = some h → n ≤ h := by
  obtain ⟨a, b⟩ := x
  cases a <;> cases b <;> simp [has1, inLow, inHigh]
theorem any_iff (xs : List Spn) (n : Int) : hasAny xs n = true ↔ ∃ x ∈ xs, has1 x n = true := by unfold hasAny; rw [List.any_eq_true]
theorem tried_ok {xs ys : List Spn} {n : Int} (h1 : hasAny xs n = true) (h2 : hasAny ys n = false) : ∃ m ∈ tried xs ys, hasAny xs m = true ∧ hasAny ys m = false := by
  obtain ⟨x, hx, hn⟩ := (any_iff xs n).mp h1
  have hy : ∀ y ∈ ys, ¬ has1 y n = true := fun y hy c => by rw [(any_iff ys n).mpr ⟨y, hy, c⟩] at h2; cases h2
  obtain ⟨nl, nh⟩ := (has_iff x n).mp hn
  have no : ∀ m, (∀ y ∈ ys, ¬ has1 y m = true) → hasAny ys m = false := fun m h => by
    cases c : hasAny ys m with
    | false => rfl
    | true => obtain ⟨y, hy', e⟩ := (any_iff ys m).mp c; exact absurd e (h y hy')
  let dn : List Int := x.1.toList ++ ys.flatMap fun y => y.2.toList.map fun h => h + 1
  have dn_in : ∀ c ∈ dn, c ∈ tried xs ys := fun c hc => by
    rcases List.mem_append.mp hc with q | q
    · exact List.mem_append_left _ (List.mem_append_right _ (List.mem_flatMap.mpr ⟨x, hx, List.mem_append_left _ q⟩))
    · obtain ⟨y, hy', q⟩ := List.mem_flatMap.mp q
      exact List.mem_append_right _ (List.mem_flatMap.mpr ⟨y, hy', List.mem_append_right _ q⟩)
  by_cases hd : ∃ c ∈ dn, True ∧ c ≤ n
  · obtain ⟨m, hm, _, p2, p3⟩ := greatest (fun _ => True) n dn hd
    refine ⟨m, dn_in m hm, (any_iff xs m).mpr ⟨x, hx, (has_iff x m).mpr ⟨fun l e => p3 l (List.mem_append_left _ (by rw [e]; simp)) trivial (nl l e), fun h e => Int.le_trans p2 (nh h e)⟩⟩, no m fun y hy' c => ?_⟩
    obtain ⟨cl, ch⟩ := (has_iff y m).mp c
    refine hy y hy' ((has_iff y n).mpr ⟨fun l e => Int.le_trans (cl l e) p2, fun h e => ?_⟩)
    by_cases z : n ≤ h
    · exact z
    · have := p3 (h + 1) (List.mem_append_right _ (List.mem_flatMap.mpr ⟨y, hy', by rw [e]; simp⟩)) trivial (by omega)
      have := ch h e
      omega
  · have xl : x.1 = none := by
      cases e : x.1 with
      | none => rfl
      | some l => exact absurd ⟨l, List.mem_append_left _ (by rw [e]; simp), trivial, nl l e⟩ hd
    have yh : ∀ y ∈ ys, ∀ h, y.2 = some h → n ≤ h := fun y hy' h e => by
      by_cases z : n ≤ h
      · exact z
      · exact absurd ⟨h + 1, List.mem_append_right _ (List.mem_flatMap.mpr ⟨y, hy', by rw [e]; simp⟩), trivial, by omega⟩ hd
    have yl : ∀ y ∈ ys, ∃ l, y.1 = some l ∧ n < l := fun y hy' => by
      cases e : y.1 with
      | none => exact absurd ((has_iff y n).mpr ⟨fun l e' => (by rw [e] at e'; cases e'), yh y hy'⟩) (hy y hy')
      | some l =>
        refine ⟨l, rfl, ?_⟩
        by_cases z : n < l
        · exact z
        · exact absurd ((has_iff y n).mpr ⟨fun l' e' => (by rw [e] at e'; cases e'; omega), yh y hy'⟩) (hy y hy')
    let up : List Int := x.2.toList ++ ys.flatMap fun y => y.1.toList.map fun l => l - 1
    have up_in : ∀ c ∈ up, c ∈ tried xs ys := fun c hc => by
      rcases List.mem_append.mp hc with q | q
      · exact List.mem_append_left _ (List.mem_append_right _ (List.mem_flatMap.mpr ⟨x, hx, List.mem_append_right _ q⟩))
      · obtain ⟨y, hy', q⟩ := List.mem_flatMap.mp q
        exact List.mem_append_right _ (List.mem_flatMap.mpr ⟨y, hy', List.mem_append_left _ q⟩)
    by_cases hu : ∃ c ∈ up, True ∧ n ≤ c
    · obtain ⟨m, hm, _, p2, p3⟩ := least' (fun _ => True) n up hu
      refine ⟨m, up_in m hm, (any_iff xs m).mpr ⟨x, hx, (has_iff x m).mpr ⟨fun l e => (by rw [xl] at e; cases e), fun h e => p3 h (List.mem_append_left _ (by rw [e]; simp)) trivial (nh h e)⟩⟩, no m fun y hy' c => ?_⟩
      obtain ⟨cl, ch⟩ := (has_iff y m).mp c
      obtain ⟨l, e, hl⟩ := yl y hy'
      have := cl l e
      have := p3 (l - 1) (List.mem_append_right _ (List.mem_flatMap.mpr ⟨y, hy', by rw [e]; simp⟩)) trivial (by omega)
      omega
    · have xh : x.2 = none := by
        cases e : x.2 with
        | none => rfl
        | some h => exact absurd ⟨h, List.mem_append_left _ (by rw [e]; simp), trivial, nh h e⟩ hu
      have ye : ys = [] := by
        cases ys with
        | nil => rfl
        | cons y r =>
          obtain ⟨l, e, hl⟩ := yl y (by simp)
          exact absurd ⟨l - 1, List.mem_append_right _ (List.mem_flatMap.mpr ⟨y, by simp, by rw [e]; simp⟩), trivial, by omega⟩ hu
      subst ye
      exact ⟨0, by simp [tried], (any_iff xs 0).mpr ⟨x, hx, (has_iff x 0).mpr ⟨fun l e => (by rw [xl] at e; cases e), fun h e => (by rw [xh] at e; cases e)⟩⟩, rfl⟩
theorem tg6 {a b c d e f : Option A} (x : Spn) : tgF 3 4 (dS x) [a, b, c, d, e, f] = some [a, b, c, some (.d (dE x.1)), some (.d (dE x.2)), f] := rfl
noncomputable abbrev ap1 : FS := (sSet 2 (dL (binL oCat (dL (binL oCat (var 2) (dL (calL oList (aCons (var 3) aNil))))) (dL (calL oList (aCons (var 4) aNil))))))
theorem ap1_loop (X0 X1 : A) (S : Sto) (f : Option A) : ∀ (xs : List Spn) (es : List Int) (a b : Option A), es.length + 2 * xs.length ≤ 1000 → ∃ (a' b' : Option A), forF (tgF 3 4) ap1 (xs.map dS) [some X0, some X1, some (.d (.lst (es.map .int))), a, b, f] S = some (.nx [some X0, some X1, some (.d (.lst ((es ++ xs.flatMap tr1).map .int))), a', b', f] S)
  | [], es, a, b, _ => ⟨a, b, by simp [forF]⟩
  | y :: r, es, a, b, hl => by
    rw [List.length_cons] at hl
    have l1 := len_end y.1
    have l2 := len_end y.2
    have b1 : ap1 [some X0, some X1, some (.d (.lst (es.map .int))), some (.d (dE y.1)), some (.d (dE y.2)), f] S = some (.nx [some X0, some X1, some (.d (.lst ((es ++ y.1.toList ++ y.2.toList).map .int))), some (.d (dE y.1)), some (.d (dE y.2)), f] S) := by
      have e : (es ++ y.1.toList ++ y.2.toList).map D.int = es.map D.int ++ y.1.toList.map D.int ++ y.2.toList.map D.int := by rw [List.map_append, List.map_append]
      rw [e]
      exact set_of (dL_of (cat_of (dL_of (cat_of (f := var 2) rfl (dL_of (calL1_of (f := var 3) rfl rfl)) (by simp [lim]; omega))) (dL_of (calL1_of (f := var 4) rfl rfl)) (by simp [lim]; omega)))
    obtain ⟨a', b', e1⟩ := ap1_loop X0 X1 S f r (es ++ y.1.toList ++ y.2.toList) (some (.d (dE y.1))) (some (.d (dE y.2))) (by simp; omega)
    refine ⟨a', b', ?_⟩
    rw [List.map_cons]
    unfold forF
    rw [tg6]
    simp only [b1]
    rw [e1, List.flatMap_cons]
    simp [tr1]
noncomputable abbrev ap2 : FS := (sSet 2 (dL (binL oCat (dL (binL oCat (var 2) (dL (lcL (iSq (var 3)) (gN 0) tYs (bin (oI gSub) (var 0) (cst (.int 1))) 1 [])))) (dL (lcL (iSq (var 4)) (gN 0) tYs (bin (oI gAdd) (var 0) (cst (.int 1))) 1 [])))))
theorem ap2_loop (X0 X1 : A) (S : Sto) (f : Option A) : ∀ (xs : List Spn) (es : List Int) (a b : Option A), es.length + 2 * xs.length ≤ 1000 → ∃ (a' b' : Option A), forF (tgF 3 4) ap2 (xs.map dS) [some X0, some X1, some (.d (.lst (es.map .int))), a, b, f] S = some (.nx [some X0, some X1, some (.d (.lst ((es ++ xs.flatMap tr2).map .int))), a', b', f] S)
  | [], es, a, b, _ => ⟨a, b, by simp [forF]⟩
  | y :: r, es, a, b, hl => by
    rw [List.length_cons] at hl
    have l1 := len_end y.1
    have l2 := len_end y.2
    have b1 : ap2 [some X0, some X1, some (.d (.lst (es.map .int))), some (.d (dE y.1)), some (.d (dE y.2)), f] S = some (.nx [some X0, some X1, some (.d (.lst ((es ++ y.1.toList.map (fun n => n - 1) ++ y.2.toList.map (fun n => n + 1)).map .int))), some (.d (dE y.1)), some (.d (dE y.2)), f] S) := by
      have c1 := lcL_pure (fi := iSq (var 3)) (g := gN 0) (t := tYs) (f := bin (oI gSub) (var 0) (cst (.int 1))) (n := 1) (js := []) (ρ := [some X0, some X1, some (.d (.lst (es.map .int))), some (.d (dE y.1)), some (.d (dE y.2)), f]) (S := S) (S1 := S) (fun ρ => ∃ u, ρ = [u]) D.int (fun _ => true) (fun n => .int (n - 1)) y.1.toList rfl ⟨none, rfl⟩ (by unfold lim; omega) (by
        rintro n _ ρ ⟨u, rfl⟩
        exact ⟨[some (.d (.int n))], rfl, ⟨_, rfl⟩, fun _ => rfl, fun _ S => by simp⟩)
      have c2 := lcL_pure (fi := iSq (var 4)) (g := gN 0) (t := tYs) (f := bin (oI gAdd) (var 0) (cst (.int 1))) (n := 1) (js := []) (ρ := [some X0, some X1, some (.d (.lst (es.map .int))), some (.d (dE y.1)), some (.d (dE y.2)), f]) (S := S) (S1 := S) (fun ρ => ∃ u, ρ = [u]) D.int (fun _ => true) (fun n => .int (n + 1)) y.2.toList rfl ⟨none, rfl⟩ (by unfold lim; omega) (by
        rintro n _ ρ ⟨u, rfl⟩
        exact ⟨[some (.d (.int n))], rfl, ⟨_, rfl⟩, fun _ => rfl, fun _ S => by simp⟩)
      rw [List.filter_eq_self.mpr (fun _ _ => rfl)] at c1 c2
      have e : (es ++ y.1.toList.map (fun n => n - 1) ++ y.2.toList.map (fun n => n + 1)).map D.int = es.map D.int ++ y.1.toList.map (fun n => D.int (n - 1)) ++ y.2.toList.map (fun n => D.int (n + 1)) := by rw [List.map_append, List.map_append, List.map_map, List.map_map]; rfl
      rw [e]
      exact set_of (dL_of (cat_of (dL_of (cat_of (f := var 2) rfl (dL_of c1) (by simp [lim]; omega))) (dL_of c2) (by simp [lim]; omega)))
    obtain ⟨a', b', e1⟩ := ap2_loop X0 X1 S f r (es ++ y.1.toList.map (fun n => n - 1) ++ y.2.toList.map (fun n => n + 1)) (some (.d (dE y.1))) (some (.d (dE y.2))) (by simp; omega)
    refine ⟨a', b', ?_⟩
    rw [List.map_cons]
    unfold forF
    rw [tg6]
    simp only [b1]
    rw [e1, List.flatMap_cons]
    simp [tr2]
noncomputable abbrev ap3 : FS := (sIf (andT (tst (callF F_spans_have (aCons (var 0) (aCons (var 5) aNil)))) (notT (tst (callF F_spans_have (aCons (var 1) (aCons (var 5) aNil)))))) (sRet (dL (lstF (aCons (var 5) aNil)))) sNil)
theorem ap3_loop {xs ys : List Spn} {x y : D} (hx : x = .lst (xs.map dS) ∨ x = .tup (xs.map dS)) (hy : y = .lst (ys.map dS) ∨ y = .tup (ys.map dS)) (S : Sto) (c d e : Option A) : ∀ (ms : List Int) (u : Option A),
    (∀ m, ms.find? (fun n => hasAny xs n && !hasAny ys n) = some m → forF (gN 5) ap3 (ms.map .int) [some (.d x), some (.d y), c, d, e, u] S = some (.rt (.d (.lst [.int m])) S)) ∧
    (ms.find? (fun n => hasAny xs n && !hasAny ys n) = none → ∃ u', forF (gN 5) ap3 (ms.map .int) [some (.d x), some (.d y), c, d, e, u] S = some (.nx [some (.d x), some (.d y), c, d, e, u'] S))
  | [], u => ⟨fun m h => (by cases h), fun _ => ⟨u, rfl⟩⟩
  | n :: ms, u => by
    have q1 := call2 (F := F_spans_have) (f := var 0) (g := var 5) (ρ := [some (.d x), some (.d y), c, d, e, some (.d (.int n))]) (S := S) rfl rfl (f_have hx n S)
    have q2 := call2 (F := F_spans_have) (f := var 1) (g := var 5) (ρ := [some (.d x), some (.d y), c, d, e, some (.d (.int n))]) (S := S) rfl rfl (f_have hy n S)
    have ht : andT (tst (callF F_spans_have (aCons (var 0) (aCons (var 5) aNil)))) (notT (tst (callF F_spans_have (aCons (var 1) (aCons (var 5) aNil))))) [some (.d x), some (.d y), c, d, e, some (.d (.int n))] S = some (hasAny xs n && !hasAny ys n, S) := by
      unfold andT tst
      rw [q1]
      cases hasAny xs n
      · rfl
      · simp only [notT, tst, q2]; rfl
    obtain ⟨i1, i2⟩ := ap3_loop hx hy S c d e ms (some (.d (.int n)))
    rw [List.map_cons]
    unfold forF
    have hg : gN 5 (.int n) [some (.d x), some (.d y), c, d, e, u] = some [some (.d x), some (.d y), c, d, e, some (.d (.int n))] := rfl
    rw [hg]
    cases hp : hasAny xs n && !hasAny ys n with
    | true =>
      have b1 : ap3 [some (.d x), some (.d y), c, d, e, some (.d (.int n))] S = some (.rt (.d (.lst [.int n])) S) := by
        unfold ap3 sIf
        rw [ht, hp]
        simp [List.mapM_cons, lim]
      have hfd : (n :: ms).find? (fun n => hasAny xs n && !hasAny ys n) = some n := by rw [List.find?_cons]; simp only [hp]
      rw [hfd]
      exact ⟨fun m h => by cases h; simp only [b1], fun h => by cases h⟩
    | false =>
      have b1 : ap3 [some (.d x), some (.d y), c, d, e, some (.d (.int n))] S = some (.nx [some (.d x), some (.d y), c, d, e, some (.d (.int n))] S) := by
        unfold ap3 sIf
        rw [ht, hp]
        rfl
      have hfd : (n :: ms).find? (fun n => hasAny xs n && !hasAny ys n) = ms.find? (fun n => hasAny xs n && !hasAny ys n) := by rw [List.find?_cons]; simp only [hp]
      rw [hfd]
      simp only [b1]
      exact ⟨i1, i2⟩
noncomputable def apOf (xs ys : List Spn) : Option Int := (tried xs ys).find? fun n => hasAny xs n && !hasAny ys n
theorem len_tr (f : Spn → List Int) (hf : ∀ x, (f x).length ≤ 2) (xs : List Spn) : (xs.flatMap f).length ≤ 2 * xs.length := by
  have := len_flat f 2 xs hf
  omega
theorem tr1_len (x : Spn) : (tr1 x).length ≤ 2 := by
  have := len_end x.1
  have := len_end x.2
  unfold tr1
  rw [List.length_append]; omega
theorem f_apart {xs ys : List Spn} {x y : D} (hx : x = .lst (xs.map dS) ∨ x = .tup (xs.map dS)) (hy : y = .lst (ys.map dS) ∨ y = .tup (ys.map dS)) (lx : xs.length ≤ 100) (ly : ys.length ≤ 100) (S : Sto) :
    F_spans_apart [.d x, .d y] S = some (.d (.lst ((apOf xs ys).toList.map .int)), S) := by
  refine ret_of rfl ?_
  show b_spans_apart [some (.d x), some (.d y), none, none, none, none] S = _
  have s0 : sSet 2 (dL (lstF (aCons (cst (.int 0)) aNil))) [some (.d x), some (.d y), none, none, none, none] S = some (.nx [some (.d x), some (.d y), some (.d (.lst (([0] : List Int).map .int))), none, none, none] S) := by
    simp [List.mapM_cons, lim]
  obtain ⟨a1, b1, e1⟩ := ap1_loop (.d x) (.d y) S none xs [0] none none (by simp; omega)
  have lt1 := len_tr tr1 tr1_len xs
  obtain ⟨a2, b2, e2⟩ := ap2_loop (.d x) (.d y) S none ys ([0] ++ xs.flatMap tr1) a1 b1 (by rw [List.length_append, List.length_singleton]; omega)
  have i1 : iSq (var 0) [some (.d x), some (.d y), some (.d (.lst (([0] : List Int).map .int))), none, none, none] S = some (xs.map dS, S) := by rcases hx with rfl | rfl <;> simp
  have i2 : iSq (var 1) [some (.d x), some (.d y), some (.d (.lst (([0] ++ xs.flatMap tr1).map .int))), a1, b1, none] S = some (ys.map dS, S) := by rcases hy with rfl | rfl <;> simp
  have i3 : iSq (var 2) [some (.d x), some (.d y), some (.d (.lst (([0] ++ xs.flatMap tr1 ++ ys.flatMap tr2).map .int))), a2, b2, none] S = some ((tried xs ys).map .int, S) := rfl
  obtain ⟨j1, j2⟩ := ap3_loop hx hy S (some (.d (.lst (([0] ++ xs.flatMap tr1 ++ ys.flatMap tr2).map .int)))) a2 b2 (tried xs ys) none
  unfold b_spans_apart
  rw [seq_nx s0, seq_nx (for_nx i1 e1), seq_nx (for_nx i2 e2)]
  cases hf : apOf xs ys with
  | some m => rw [seq_rt (for_nx i3 (j1 m hf))]; rfl
  | none =>
    obtain ⟨u, e3⟩ := j2 hf
    rw [seq_nx (for_nx i3 e3)]
    simp [lim]
theorem ap_some {xs ys : List Spn} {m : Int} (h : apOf xs ys = some m) : hasAny xs m = true ∧ hasAny ys m = false := by
  have := List.find?_some h
  simpa using this
theorem ap_none {xs ys : List Spn} (h : apOf xs ys = none) (n : Int) : (hasAny xs n && !hasAny ys n) = false := by
  cases h1 : hasAny xs n with
  | false => rfl
  | true =>
    cases h2 : hasAny ys n with
    | true => rfl
    | false =>
      obtain ⟨m, hm, q1, q2⟩ := tried_ok h1 h2
      have := List.find?_eq_none.mp h m hm
      rw [q1, q2] at this
      exact absurd rfl this
theorem f_whole (n : Int) (S : Sto) : F__law_whole [.d (.int n)] S = some (.d (.bl true), S) := by
  refine ret_of rfl ?_
  show b__law_whole [some (.d (.int n))] S = _
  unfold b__law_whole
  simp [tyD]
theorem f_lawapart {xs ys : List Spn} {x y : D} (hx : x = .lst (xs.map dS) ∨ x = .tup (xs.map dS)) (hy : y = .lst (ys.map dS) ∨ y = .tup (ys.map dS)) (lx : xs.length ≤ 100) (ly : ys.length ≤ 100) (ms : List Int) (lm : ms.length ≤ 10000) (S : Sto) :
    F__law_apart [.d x, .d y, .d (.lst (ms.map .int))] S = some (.d (.bl true), S) := by
  refine ret_of rfl ?_
  show b__law_apart [some (.d x), some (.d y), some (.d (.lst (ms.map .int))), none] S = _
  have s1 : sSet 3 (callF F_spans_apart (aCons (var 0) (aCons (var 1) aNil))) [some (.d x), some (.d y), some (.d (.lst (ms.map .int))), none] S = some (.nx [some (.d x), some (.d y), some (.d (.lst (ms.map .int))), some (.d (.lst ((apOf xs ys).toList.map .int)))] S) :=
    set_of (call2 (f := var 0) (g := var 1) rfl rfl (f_apart hx hy lx ly S))
  unfold b__law_apart
  rw [seq_nx s1]
  cases hf : apOf xs ys with
  | none =>
    have c1 := lcL_pure (fi := iSq (var 2)) (g := gN 0) (t := (andT (tst (callF F__law_has (aCons (var 1) (aCons (var 0) aNil)))) (notT (tst (callF F__law_has (aCons (var 2) (aCons (var 0) aNil))))))) (f := var 0) (n := 1) (js := [0, 1]) (ρ := [some (.d x), some (.d y), some (.d (.lst (ms.map .int))), some (.d (.lst []))]) (S := S) (S1 := S) (fun ρ => ∃ u, ρ = [u, some (.d x), some (.d y)]) D.int (fun n => hasAny xs n && !hasAny ys n) D.int ms rfl ⟨none, rfl⟩ (by unfold lim; omega) (by
      rintro n _ ρ ⟨u, rfl⟩
      refine ⟨[some (.d (.int n)), some (.d x), some (.d y)], rfl, ⟨_, rfl⟩, fun S => ?_, fun _ S => rfl⟩
      have q1 := call2 (F := F__law_has) (f := var 1) (g := var 0) (ρ := [some (.d (.int n)), some (.d x), some (.d y)]) (S := S) rfl rfl (f_has hx n S)
      have q2 := call2 (F := F__law_has) (f := var 2) (g := var 0) (ρ := [some (.d (.int n)), some (.d x), some (.d y)]) (S := S) rfl rfl (f_has hy n S)
      unfold andT tst
      rw [q1]
      cases hasAny xs n
      · rfl
      · simp only [notT, tst, q2]; rfl)
    have ef : ms.filter (fun n => hasAny xs n && !hasAny ys n) = [] := List.filter_eq_nil_iff.mpr fun n _ => by rw [ap_none hf n]; decide
    rw [ef] at c1
    have s2 : sIf (orT (notT (tst (un (oIs "list") (var 3)))) (tst (bin (oI gGt) (cal oLen (aCons (var 3) aNil)) (cst (.int 1))))) (sRet (cst (.bl false))) sNil [some (.d x), some (.d y), some (.d (.lst (ms.map .int))), some (.d (.lst []))] S = some (.nx [some (.d x), some (.d y), some (.d (.lst (ms.map .int))), some (.d (.lst []))] S) := by simp [tyD]
    have s3 : sIf (tst (bin (oEq false) (var 3) (dL (lstF aNil)))) (sRet (bin (oEq false) (dL (lcL (iSq (var 2)) (gN 0) (andT (tst (callF F__law_has (aCons (var 1) (aCons (var 0) aNil)))) (notT (tst (callF F__law_has (aCons (var 2) (aCons (var 0) aNil)))))) (var 0) 1 [0, 1])) (dL (lstF aNil)))) sNil [some (.d x), some (.d y), some (.d (.lst (ms.map .int))), some (.d (.lst []))] S = some (.rt (.d (.bl true)) S) := by
      have t3 : tst (bin (oEq false) (var 3) (dL (lstF aNil))) [some (.d x), some (.d y), some (.d (.lst (ms.map .int))), some (.d (.lst []))] S = some (true, S) := by simp [eqD, eqDs, depD, depDs, lim]
      unfold sIf
      rw [t3]
      refine ret_st (bin_of (dL_of c1) (g := dL (lstF aNil)) (y := .d (.lst [])) (S2 := S) (by simp [lim]) ?_)
      simp [eqD, eqDs, depD, depDs]
    show sSeq _ _ [some (.d x), some (.d y), some (.d (.lst (ms.map .int))), some (.d (.lst []))] S = _
    rw [seq_nx s2, seq_rt s3]
  | some m =>
    obtain ⟨h1, h2⟩ := ap_some hf
    show sSeq _ _ [some (.d x), some (.d y), some (.d (.lst (ms.map .int))), some (.d (.lst [.int m]))] S = _
    have s2 : sIf (orT (notT (tst (un (oIs "list") (var 3)))) (tst (bin (oI gGt) (cal oLen (aCons (var 3) aNil)) (cst (.int 1))))) (sRet (cst (.bl false))) sNil [some (.d x), some (.d y), some (.d (.lst (ms.map .int))), some (.d (.lst [.int m]))] S = some (.nx [some (.d x), some (.d y), some (.d (.lst (ms.map .int))), some (.d (.lst [.int m]))] S) := by simp [tyD]
    have s3 : ∀ F : FS, sIf (tst (bin (oEq false) (var 3) (dL (lstF aNil)))) F sNil [some (.d x), some (.d y), some (.d (.lst (ms.map .int))), some (.d (.lst [.int m]))] S = some (.nx [some (.d x), some (.d y), some (.d (.lst (ms.map .int))), some (.d (.lst [.int m]))] S) := fun F => by
      have t3 : tst (bin (oEq false) (var 3) (dL (lstF aNil))) [some (.d x), some (.d y), some (.d (.lst (ms.map .int))), some (.d (.lst [.int m]))] S = some (false, S) := by simp [eqD, eqDs, depD, depDs, lim]
      unfold sIf
      rw [t3]
      rfl
    have ix : bin oIx (var 3) (cst (.int 0)) [some (.d x), some (.d y), some (.d (.lst (ms.map .int))), some (.d (.lst [.int m]))] S = some (.d (.int m), S) := by simp [at0]
    have q0 := call1 (F := F__law_whole) ix (f_whole m S)
    have q1 := call2 (F := F__law_has) (f := var 0) rfl ix (f_has hx m S)
    have q2 := call2 (F := F__law_has) (f := var 1) rfl ix (f_has hy m S)
    rw [h1] at q1
    rw [h2] at q2
    rw [seq_nx s2, seq_nx (s3 _)]
    refine ret_st ?_
    unfold andV
    rw [q0]
    simp only [A.get, D.tru, andV, q1, notV, q2]
    rfl
noncomputable abbrev numB : FS := (sIf (tst (bin (oEq true) (callF F__law_has (aCons (var 6) (aCons (var 8) aNil))) (andV (callF F__law_has (aCons (var 3) (aCons (var 8) aNil))) (callF F__law_has (aCons (var 4) (aCons (var 8) aNil)))))) (sRet (cst (.bl false))) sNil)
theorem num_loop {xs zs s : List Spn} (h : ∀ n, hasAny s n = (hasAny xs n && hasAny zs n)) {ρ0 : Rho} {S : Sto} (h8 : ρ0.length = 8) (hs : ρ0[6]? = some (some (.d (.tup (s.map dS))))) (h3 : ρ0[3]? = some (some (.d (.lst (xs.map dS))))) (h4 : ρ0[4]? = some (some (.d (.lst (zs.map dS))))) :
    ∀ (ms : List Int) (u : Option A), ∃ u', forF (gN 8) numB (ms.map .int) (ρ0 ++ [u]) S = some (.nx (ρ0 ++ [u']) S)
  | [], u => ⟨u, rfl⟩
  | n :: ms, u => by
    rw [List.map_cons]
    unfold forF
    have hg : gN 8 (.int n) (ρ0 ++ [u]) = some (ρ0 ++ [some (.d (.int n))]) := by
      simp only [gN]
      rw [List.set_append_right _ _ (by omega), h8]; rfl
    rw [hg]
    have v6 : var 6 (ρ0 ++ [some (.d (.int n))]) S = some (.d (.tup (s.map dS)), S) := by
      unfold var; rw [List.getElem?_append_left (by omega), hs]
    have v3 : var 3 (ρ0 ++ [some (.d (.int n))]) S = some (.d (.lst (xs.map dS)), S) := by
      unfold var; rw [List.getElem?_append_left (by omega), h3]
    have v4 : var 4 (ρ0 ++ [some (.d (.int n))]) S = some (.d (.lst (zs.map dS)), S) := by
      unfold var; rw [List.getElem?_append_left (by omega), h4]
    have v8 : var 8 (ρ0 ++ [some (.d (.int n))]) S = some (.d (.int n), S) := by
      unfold var; rw [List.getElem?_append_right (by omega), h8]; rfl
    have q6 := call2 (F := F__law_has) v6 v8 (f_has (xs := s) (.inr rfl) n S)
    have q3 := call2 (F := F__law_has) v3 v8 (f_has (xs := xs) (.inl rfl) n S)
    have q4 := call2 (F := F__law_has) v4 v8 (f_has (xs := zs) (.inl rfl) n S)
    rw [h n] at q6
    have qa : andV (callF F__law_has (aCons (var 3) (aCons (var 8) aNil))) (callF F__law_has (aCons (var 4) (aCons (var 8) aNil))) (ρ0 ++ [some (.d (.int n))]) S = some (.d (.bl (hasAny xs n && hasAny zs n)), S) := by
      unfold andV
      rw [q3]
      cases hasAny xs n
      · rfl
      · simp only [A.get, D.tru, q4]; rfl
    have b1 : numB (ρ0 ++ [some (.d (.int n))]) S = some (.nx (ρ0 ++ [some (.d (.int n))]) S) := (if_no (ne_bl q6 qa)).trans rfl
    simp only [b1]
    exact num_loop h h8 hs h3 h4 ms _
theorem main (ns : List Int) (hl : ns.length ≤ 63) : F_law [.d (.lst (ns.map .int))] [] = some (.d (.bl true), []) := by
  have c0 := f_cell ns (k := 0) (by decide)
  have c1 := f_cell ns (k := 1) (by decide)
  generalize cellV ns 0 = c at c0
  generalize cellV ns 1 = e at c1
  have m1 : 0 ≤ c / 2 % 7 ∧ c / 2 % 7 < 7 := ⟨Int.emod_nonneg _ (by decide), Int.emod_lt_of_pos _ (by decide)⟩
  have m2 : 0 ≤ c / 14 % 7 ∧ c / 14 % 7 < 7 := ⟨Int.emod_nonneg _ (by decide), Int.emod_lt_of_pos _ (by decide)⟩
  obtain ⟨xs, S1, ex, lx, p1⟩ := f_spans (pot0 (c % 2) e) (m := c / 2 % 7) m1.1 (by omega)
  obtain ⟨ys, S2, ey, ly, p2⟩ := f_spans (p1.pot (by simp)) (m := c / 14 % 7) m2.1 (by omega)
  have lx : xs.length ≤ 6 := by omega
  have ly : ys.length ≤ 6 := by omega
  have s1 : sSet 1 (callF F__law_cell_at (aCons (var 0) (aCons (cst (.int 0)) aNil))) [some (.d (.lst (ns.map .int))), none, none, none, none, none, none, none, none] [] = some (.nx [some (.d (.lst (ns.map .int))), some (.d (.int c)), none, none, none, none, none, none, none] []) := by
    simp [c0]
  have s2 : sNew 2 (callN F__law_pot (aCons (bin (oI gMod) (var 1) (cst (.int 2))) (aCons (callF F__law_cell_at (aCons (var 0) (aCons (cst (.int 1)) aNil))) aNil))) [some (.d (.lst (ns.map .int))), some (.d (.int c)), none, none, none, none, none, none, none] [] = some (.nx [some (.d (.lst (ns.map .int))), some (.d (.int c)), some (.p 0), none, none, none, none, none, none] [[.int (c % 2), .int e, .int e]]) := by
    simp [c1, f_pot]
  have s3 : sSet 3 (callF F__law_spans (aCons (var 2) (aCons (bin (oI gMod) (bin (oI gDiv) (var 1) (cst (.int 2))) (cst (.int 7))) aNil))) [some (.d (.lst (ns.map .int))), some (.d (.int c)), some (.p 0), none, none, none, none, none, none] [[.int (c % 2), .int e, .int e]] = some (.nx [some (.d (.lst (ns.map .int))), some (.d (.int c)), some (.p 0), some (.d (.lst (xs.map dS))), none, none, none, none, none] S1) := by
    simp [ex]
  have s4 : sSet 4 (callF F__law_spans (aCons (var 2) (aCons (bin (oI gMod) (bin (oI gDiv) (var 1) (cst (.int 14))) (cst (.int 7))) aNil))) [some (.d (.lst (ns.map .int))), some (.d (.int c)), some (.p 0), some (.d (.lst (xs.map dS))), none, none, none, none, none] S1 = some (.nx [some (.d (.lst (ns.map .int))), some (.d (.int c)), some (.p 0), some (.d (.lst (xs.map dS))), some (.d (.lst (ys.map dS))), none, none, none, none] S2) := by
    simp [ey]
  have s5 : ∃ zs : List Spn, zs.length ≤ 12 ∧ sIf (tst (bin (oEq false) (bin (oI gMod) (bin (oI gDiv) (var 1) (cst (.int 98))) (cst (.int 4))) (cst (.int 1)))) (sSet 4 (dL (binL oCat (var 4) (var 3)))) sNil [some (.d (.lst (ns.map .int))), some (.d (.int c)), some (.p 0), some (.d (.lst (xs.map dS))), some (.d (.lst (ys.map dS))), none, none, none, none] S2 = some (.nx [some (.d (.lst (ns.map .int))), some (.d (.int c)), some (.p 0), some (.d (.lst (xs.map dS))), some (.d (.lst (zs.map dS))), none, none, none, none] S2) := by
    have ht : tst (bin (oEq false) (bin (oI gMod) (bin (oI gDiv) (var 1) (cst (.int 98))) (cst (.int 4))) (cst (.int 1))) [some (.d (.lst (ns.map .int))), some (.d (.int c)), some (.p 0), some (.d (.lst (xs.map dS))), some (.d (.lst (ys.map dS))), none, none, none, none] S2 = some (decide (c / 98 % 4 = 1), S2) := by
      simp [eqD, depD]
      rw [Bool.eq_iff_iff]; simp
    by_cases hc : c / 98 % 4 = 1
    · refine ⟨ys ++ xs, by rw [List.length_append]; omega, ?_⟩
      unfold sIf
      rw [ht, decide_eq_true hc]
      rw [List.map_append]
      exact set_of (dL_of (cat_of (f := var 4) (g := var 3) rfl rfl (by simp [lim]; omega)))
    · refine ⟨ys, by omega, ?_⟩
      unfold sIf
      rw [ht, decide_eq_false hc]
      rfl
  obtain ⟨zs, lz, s5⟩ := s5
  have lp : xs.length * zs.length ≤ 100 := Nat.le_trans (Nat.mul_le_mul lx lz) (by decide)
  have lp2 : zs.length * xs.length ≤ 100 := by rw [Nat.mul_comm]; exact lp
  obtain ⟨A1, A2⟩ := formed_ok (prodM xs zs)
  have g1 := f_met (x := .lst (xs.map dS)) (y := .lst (zs.map dS)) (.inl rfl) (.inl rfl) lp S2
  have g3 := f_met (x := .tup (zs.map dS)) (y := .tup (xs.map dS)) (.inr rfl) (.inr rfl) lp2 S2
  have comm : formedS (prodM zs xs) = formedS (prodM xs zs) := formed_same fun n => by rw [has_prodM, has_prodM, Bool.and_comm]
  rw [comm] at g3
  have hA2 : ∀ n, hasAny (formedS (prodM xs zs)) n = (hasAny xs n && hasAny zs n) := fun n => by rw [A2 n, has_prodM]
  generalize hA : formedS (prodM xs zs) = As at *
  have s6 : sSet 5 (dL (lstF (aCons (dL (calL oList (aCons (var 3) aNil))) (aCons (dL (calL oList (aCons (var 4) aNil))) aNil)))) [some (.d (.lst (ns.map .int))), some (.d (.int c)), some (.p 0), some (.d (.lst (xs.map dS))), some (.d (.lst (zs.map dS))), none, none, none, none] S2 = some (.nx [some (.d (.lst (ns.map .int))), some (.d (.int c)), some (.p 0), some (.d (.lst (xs.map dS))), some (.d (.lst (zs.map dS))), some (.d (.lst [.lst (xs.map dS), .lst (zs.map dS)])), none, none, none] S2) := by
    simp [List.mapM_cons, lim]
  have s7 : sSet 6 (callF F_spans_met (aCons (var 3) (aCons (var 4) aNil))) [some (.d (.lst (ns.map .int))), some (.d (.int c)), some (.p 0), some (.d (.lst (xs.map dS))), some (.d (.lst (zs.map dS))), some (.d (.lst [.lst (xs.map dS), .lst (zs.map dS)])), none, none, none] S2 = some (.nx [some (.d (.lst (ns.map .int))), some (.d (.int c)), some (.p 0), some (.d (.lst (xs.map dS))), some (.d (.lst (zs.map dS))), some (.d (.lst [.lst (xs.map dS), .lst (zs.map dS)])), some (.d (.tup (As.map dS))), none, none] S2) := set_of (call2 (f := var 3) (g := var 4) rfl rfl g1)
  have tu : ∀ (i : Nat) (ws : List Spn) (ρ : Rho), ρ[i]? = some (some (.d (.lst (ws.map dS)))) → cal oTuple (aCons (var i) aNil) ρ S2 = some (.d (.tup (ws.map dS)), S2) := fun i ws ρ h => cal1_of (f := var i) (x := .d (.lst (ws.map dS))) (by unfold var; rw [h]) rfl
  have eqs : ∀ ws : List Spn, oEq true S2 (.d (.tup (ws.map dS))) (.d (.tup (ws.map dS))) = some (.d (.bl false)) := fun ws => (eq_tups ws ws true S2).trans (by simp)
  have s8 : sIf (orT (notT (tst (callF F__law_in_form (aCons (var 6) aNil)))) (tst (bin (oEq true) (callF F_spans_met (aCons (cal oTuple (aCons (var 4) aNil)) (aCons (cal oTuple (aCons (var 3) aNil)) aNil))) (var 6)))) (sRet (cst (.bl false))) sNil [some (.d (.lst (ns.map .int))), some (.d (.int c)), some (.p 0), some (.d (.lst (xs.map dS))), some (.d (.lst (zs.map dS))), some (.d (.lst [.lst (xs.map dS), .lst (zs.map dS)])), some (.d (.tup (As.map dS))), none, none] S2 = some (.nx [some (.d (.lst (ns.map .int))), some (.d (.int c)), some (.p 0), some (.d (.lst (xs.map dS))), some (.d (.lst (zs.map dS))), some (.d (.lst [.lst (xs.map dS), .lst (zs.map dS)])), some (.d (.tup (As.map dS))), none, none] S2) := by
    have q1 := call1 (F := F__law_in_form) (f := var 6) (ρ := [some (.d (.lst (ns.map .int))), some (.d (.int c)), some (.p 0), some (.d (.lst (xs.map dS))), some (.d (.lst (zs.map dS))), some (.d (.lst [.lst (xs.map dS), .lst (zs.map dS)])), some (.d (.tup (As.map dS))), none, none]) (S := S2) rfl (f_in_form A1 S2)
    have q3 := bin_of (call2 (tu 4 zs [some (.d (.lst (ns.map .int))), some (.d (.int c)), some (.p 0), some (.d (.lst (xs.map dS))), some (.d (.lst (zs.map dS))), some (.d (.lst [.lst (xs.map dS), .lst (zs.map dS)])), some (.d (.tup (As.map dS))), none, none] rfl) (tu 3 xs _ rfl) g3) (g := var 6) rfl (eqs As)
    unfold sIf orT notT tst
    rw [q1]
    simp only [orT, notT, tst, q3, Bool.not_true, sNil]
  obtain ⟨k1, hk1, lk1⟩ := f_near (xs := xs) (.inl rfl) (by omega) S2
  obtain ⟨k2, hk2, lk2⟩ := f_near (xs := zs) (.inl rfl) (by omega) S2
  have s9 : sSet 7 (dL (binL oCat (callF F__law_near (aCons (var 3) aNil)) (callF F__law_near (aCons (var 4) aNil)))) [some (.d (.lst (ns.map .int))), some (.d (.int c)), some (.p 0), some (.d (.lst (xs.map dS))), some (.d (.lst (zs.map dS))), some (.d (.lst [.lst (xs.map dS), .lst (zs.map dS)])), some (.d (.tup (As.map dS))), none, none] S2 = some (.nx [some (.d (.lst (ns.map .int))), some (.d (.int c)), some (.p 0), some (.d (.lst (xs.map dS))), some (.d (.lst (zs.map dS))), some (.d (.lst [.lst (xs.map dS), .lst (zs.map dS)])), some (.d (.tup (As.map dS))), some (.d (.lst ((k1 ++ k2).map .int))), none] S2) := by
    rw [List.map_append]
    exact set_of (dL_of (cat_of (call1 (f := var 3) rfl hk1) (call1 (f := var 4) rfl hk2) (by simp [lim]; omega)))
  obtain ⟨f1, f2, lf1, lf2, e1, e2⟩ := further2 hl (ρ := [some (.d (.lst (ns.map .int))), some (.d (.int c)), some (.p 0), some (.d (.lst (xs.map dS))), some (.d (.lst (zs.map dS))), some (.d (.lst [.lst (xs.map dS), .lst (zs.map dS)])), some (.d (.tup (As.map dS))), some (.d (.lst ((k1 ++ k2).map .int))), none]) rfl S2
  have s10 : ∃ ms : List Int, ms.length ≤ 10000 ∧ sSet 7 (dL (binL oCat (dL (binL oCat (var 7) (dL (lcL (iSq (dL (cutL (var 0) (oSome (cst (.int 2))) (oSome (cst (.int 27)))))) (gN 0) tYs (bin (oI gMod) (var 0) (bin (oI gPow) (cst (.int 10)) (cst (.int 60)))) 1 [])))) (dL (lcL (iSq (dL (cutL (var 0) (oSome (cst (.int 2))) (oSome (cst (.int 27)))))) (gN 0) tYs (bin (oI gSub) (bin (oI gMod) (var 0) (cst (.int 41))) (cst (.int 20))) 1 [])))) [some (.d (.lst (ns.map .int))), some (.d (.int c)), some (.p 0), some (.d (.lst (xs.map dS))), some (.d (.lst (zs.map dS))), some (.d (.lst [.lst (xs.map dS), .lst (zs.map dS)])), some (.d (.tup (As.map dS))), some (.d (.lst ((k1 ++ k2).map .int))), none] S2 = some (.nx [some (.d (.lst (ns.map .int))), some (.d (.int c)), some (.p 0), some (.d (.lst (xs.map dS))), some (.d (.lst (zs.map dS))), some (.d (.lst [.lst (xs.map dS), .lst (zs.map dS)])), some (.d (.tup (As.map dS))), some (.d (.lst (ms.map .int))), none] S2) := by
    refine ⟨k1 ++ k2 ++ f1 ++ f2, by simp only [List.length_append]; omega, ?_⟩
    have em : (k1 ++ k2 ++ f1 ++ f2).map D.int = (k1 ++ k2).map D.int ++ f1.map D.int ++ f2.map D.int := by rw [List.map_append, List.map_append]
    rw [em]
    exact set_of (dL_of (cat_of (dL_of (cat_of (f := var 7) rfl (dL_of e1) (by simp [lim]; omega))) (dL_of e2) (by simp [lim]; omega)))
  obtain ⟨ms, lm, s10⟩ := s10
  obtain ⟨u, s11⟩ := num_loop hA2 (ρ0 := [some (.d (.lst (ns.map .int))), some (.d (.int c)), some (.p 0), some (.d (.lst (xs.map dS))), some (.d (.lst (zs.map dS))), some (.d (.lst [.lst (xs.map dS), .lst (zs.map dS)])), some (.d (.tup (As.map dS))), some (.d (.lst (ms.map .int)))]) (S := S2) rfl rfl rfl rfl ms none
  have i11 : iSq (var 7) [some (.d (.lst (ns.map .int))), some (.d (.int c)), some (.p 0), some (.d (.lst (xs.map dS))), some (.d (.lst (zs.map dS))), some (.d (.lst [.lst (xs.map dS), .lst (zs.map dS)])), some (.d (.tup (As.map dS))), some (.d (.lst (ms.map .int))), none] S2 = some (ms.map .int, S2) := rfl
  have s12 : sIf (orT (notT (tst (callF F__law_apart (aCons (var 3) (aCons (var 4) (aCons (var 7) aNil)))))) (notT (tst (callF F__law_apart (aCons (cal oTuple (aCons (var 4) aNil)) (aCons (cal oTuple (aCons (var 3) aNil)) (aCons (var 7) aNil))))))) (sRet (cst (.bl false))) sNil [some (.d (.lst (ns.map .int))), some (.d (.int c)), some (.p 0), some (.d (.lst (xs.map dS))), some (.d (.lst (zs.map dS))), some (.d (.lst [.lst (xs.map dS), .lst (zs.map dS)])), some (.d (.tup (As.map dS))), some (.d (.lst (ms.map .int))), u] S2 = some (.nx [some (.d (.lst (ns.map .int))), some (.d (.int c)), some (.p 0), some (.d (.lst (xs.map dS))), some (.d (.lst (zs.map dS))), some (.d (.lst [.lst (xs.map dS), .lst (zs.map dS)])), some (.d (.tup (As.map dS))), some (.d (.lst (ms.map .int))), u] S2) := by
    have q1 := call3 (F := F__law_apart) (f := var 3) (g := var 4) (h := var 7) (ρ := [some (.d (.lst (ns.map .int))), some (.d (.int c)), some (.p 0), some (.d (.lst (xs.map dS))), some (.d (.lst (zs.map dS))), some (.d (.lst [.lst (xs.map dS), .lst (zs.map dS)])), some (.d (.tup (As.map dS))), some (.d (.lst (ms.map .int))), u]) (S := S2) rfl rfl rfl (f_lawapart (.inl rfl) (.inl rfl) (by omega) (by omega) ms lm S2)
    have q2 := call3 (F := F__law_apart) (h := var 7) (tu 4 zs [some (.d (.lst (ns.map .int))), some (.d (.int c)), some (.p 0), some (.d (.lst (xs.map dS))), some (.d (.lst (zs.map dS))), some (.d (.lst [.lst (xs.map dS), .lst (zs.map dS)])), some (.d (.tup (As.map dS))), some (.d (.lst (ms.map .int))), u] rfl) (tu 3 xs _ rfl) rfl (f_lawapart (.inr rfl) (.inr rfl) (by omega) (by omega) ms lm S2)
    unfold sIf orT notT tst
    rw [q1]
    simp only [orT, notT, tst, q2, Bool.not_true, sNil]
  have s13 : sRet (bin (oEq false) (dL (lstF (aCons (var 3) (aCons (var 4) aNil)))) (var 5)) [some (.d (.lst (ns.map .int))), some (.d (.int c)), some (.p 0), some (.d (.lst (xs.map dS))), some (.d (.lst (zs.map dS))), some (.d (.lst [.lst (xs.map dS), .lst (zs.map dS)])), some (.d (.tup (As.map dS))), some (.d (.lst (ms.map .int))), u] S2 = some (.rt (.d (.bl true)) S2) := by
    refine ret_st (bin_of (x := .d (.lst [.lst (xs.map dS), .lst (zs.map dS)])) (S1 := S2) ?_ (g := var 5) rfl ?_)
    · simp [List.mapM_cons, lim]
    · have l1 : ∀ ws : List Spn, eqD (.lst (ws.map dS)) (.lst (ws.map dS)) = some true := fun ws => by
        unfold eqD; rw [if_pos rfl, eqs_dS]; simp
      have e1 : eqD (.lst [.lst (xs.map dS), .lst (zs.map dS)]) (.lst [.lst (xs.map dS), .lst (zs.map dS)]) = some true := by
        unfold eqD; rw [if_pos rfl]; unfold eqDs; rw [l1]; unfold eqDs; rw [l1]; unfold eqDs; rfl
      have d1 : depD (.lst [.lst (xs.map dS), .lst (zs.map dS)]) ≤ 50 := by
        have := deps_dS xs
        have := deps_dS zs
        simp [depD, depDs]; omega
      simp only [oEq, A.get, if_pos d1, e1]
      rfl
  refine (defF_eq rfl).trans ?_
  show defV (b_law [some (.d (.lst (ns.map .int))), none, none, none, none, none, none, none, none] []) 0 = _
  unfold b_law
  rw [seq_nx s1, seq_nx s2, seq_nx s3, seq_nx s4, seq_nx s5, seq_nx s6, seq_nx s7, seq_nx s8, seq_nx s9, seq_nx s10]
  refine (congrArg (fun o => defV o 0) ((seq_nx (for_nx i11 s11)).trans ((seq_nx s12).trans s13))).trans ?_
  simp [defV]
end K22
open PySem PySem.W PyProof.Rows
set_option maxRecDepth 100000 in
set_option maxHeartbeats 0 in
theorem PySem.Challenge.cw_fitmost_k22_whole_numbers_of_both_and_ap_holds : PySem.Challenge.rw_fitmost_k22_whole_numbers_of_both_and_ap.Holds := by
  w_on; o_law; k_head; (case hw => w_witness2)
  k_fill
  refine K22.walk (l := PySem.Challenge.rw_fitmost_k22_whole_numbers_of_both_and_ap) rfl rfl K22.main (fun w h Y => PySem.W.kIn_of Y) ?F
  case F =>
    intro w mg fa h KX G hmg
    refine' K22.txt_mk KX G hmg ?a0 ?l0 ?c0 ?k0 ?a1 ?l1 ?c1 ?k1 ?a2 ?l2 ?c2 ?k2 ?a3 ?l3 ?c3 ?k3 ?a4 ?l4 ?c4 ?k4 ?a5 ?l5 ?c5 ?k5 ?a6 ?l6 ?c6 ?k6 ?a7 ?l7 ?c7 ?k7 ?a8 ?l8 ?c8 ?k8 ?a9 ?l9 ?c9 ?k9 ?a10 ?l10 ?c10 ?k10 ?a11 ?l11 ?c11 ?k11 ?a12 ?l12 ?c12 ?k12 ?a13 ?l13 ?c13 ?k13 ?a14 ?l14 ?c14 ?k14 ?a15 ?l15 ?c15 ?k15 ?a16 ?l16 ?c16 ?k16 ?a17 ?l17 ?c17 ?k17 ?a18 ?l18 ?c18 ?k18 ?a19 ?l19 ?c19 ?k19 ?a20 ?l20 ?c20 ?k20 ?zlen ?zisinstance ?zint ?zbool ?ztuple ?zlist ?zrange ?zenumerate ?zmax ?zmin ?zsorted
    (case a0 => k_is)
    (case l0 => k_is)
    (case c0 => k_is)
    (case k0 => k_is)
    (case a1 => k_is)
    (case l1 => k_is)
    (case c1 => k_is)
    (case k1 => k_is)
    (case a2 => k_is)
    (case l2 => k_is)
    (case c2 => k_is)
    (case k2 => k_is)
    (case a3 => k_is)
    (case l3 => k_is)
    (case c3 => k_is)
    (case k3 => k_is)
    (case a4 => k_is)
    (case l4 => k_is)
    (case c4 => k_is)
    (case k4 => k_is)
    (case a5 => k_is)
    (case l5 => k_is)
    (case c5 => k_is)
    (case k5 => k_is)
    (case a6 => k_is)
    (case l6 => k_is)
    (case c6 => k_is)
    (case k6 => k_is)
    (case a7 => k_is)
    (case l7 => k_is)
    (case c7 => k_is)
    (case k7 => k_is)
    (case a8 => k_is)
    (case l8 => k_is)
    (case c8 => k_is)
    (case k8 => k_is)
    (case a9 => k_is)
    (case l9 => k_is)
    (case c9 => k_is)
    (case k9 => k_is)
    (case a10 => k_is)
    (case l10 => k_is)
    (case c10 => k_is)
    (case k10 => k_is)
    (case a11 => k_is)
    (case l11 => k_is)
    (case c11 => k_is)
    (case k11 => k_is)
    (case a12 => k_is)
    (case l12 => k_is)
    (case c12 => k_is)
    (case k12 => k_is)
    (case a13 => k_is)
    (case l13 => k_is)
    (case c13 => k_is)
    (case k13 => k_is)
    (case a14 => k_is)
    (case l14 => k_is)
    (case c14 => k_is)
    (case k14 => k_is)
    (case a15 => k_is)
    (case l15 => k_is)
    (case c15 => k_is)
    (case k15 => k_is)
    (case a16 => k_is)
    (case l16 => k_is)
    (case c16 => k_is)
    (case k16 => k_is)
    (case a17 => k_is)
    (case l17 => k_is)
    (case c17 => k_is)
    (case k17 => k_is)
    (case a18 => k_is)
    (case l18 => k_is)
    (case c18 => k_is)
    (case k18 => k_is)
    (case a19 => k_is)
    (case l19 => k_is)
    (case c19 => k_is)
    (case k19 => k_is)
    (case a20 => k_is)
    (case l20 => k_is)
    (case c20 => k_is)
    (case k20 => k_is)
    (case zlen => k_is)
    (case zisinstance => k_is)
    (case zint => k_is)
    (case zbool => k_is)
    (case ztuple => k_is)
    (case zlist => k_is)
    (case zrange => k_is)
    (case zenumerate => k_is)
    (case zmax => k_is)
    (case zmin => k_is)
    (case zsorted => k_is)
