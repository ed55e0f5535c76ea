import PyProof.Rows.All
import Wide.All
import OpenK.AllK
import Wide.FinOn
import Lean
import PyProof.EqAt
import PyProof.EqKinds
import PyProof.TupleCall
import PyProof.NeKinds
import PySem.Challenge.RW_gluedtables_k10_tables_that_agree
set_option compiler.extract_closed false
open Lean in
local macro_rules
  | `(fun $bs:funBinder* => $b) => do
    if !bs.any (fun x => x.raw.isOfKind ``Lean.Parser.Term.anonymousCtor) then Macro.throwUnsupported
    if (b.raw.find? (fun s => s.isOfKind ``Lean.Parser.Term.syntheticHole)).isSome then Macro.throwUnsupported
    let rec pat (fuel : Nat) (s : Syntax) : MacroM (TSyntax `rcasesPat) := match fuel with
      | 0 => Macro.throwUnsupported
      | fuel + 1 => do
        if s.isOfKind ``Lean.Parser.Term.anonymousCtor then
          let xs ← s[1].getSepArgs.mapM (pat fuel)
          let xs ← xs.mapM fun (x : TSyntax `rcasesPat) => `(Lean.Parser.Tactic.rcasesPatLo| $x:rcasesPat)
          `(rcasesPat| ⟨$xs,*⟩)
        else if s.isOfKind ``Lean.Parser.Term.hole then `(rcasesPat| _)
        else if s.isIdent then let i : Ident := ⟨s⟩; `(rcasesPat| $i:ident)
        else Macro.throwUnsupported
    let mut ns := #[]
    let mut ps := #[]
    let mut k := 0
    for x in bs do
      if x.raw.isOfKind ``Lean.Parser.Term.anonymousCtor then
        let i := mkIdent (Name.mkSimple s!"x{k}✝")
        k := k + 1
        ns := ns.push (⟨i.raw⟩ : TSyntax `Lean.Parser.Term.funBinder)
        ps := ps.push (i, ← pat 20 x)
      else ns := ns.push ⟨x.raw⟩
    let mut t ← `(tactic| exact $b)
    for (i, p) in ps.reverse do
      t ← `(tactic| (rcases $i:ident with $p:rcasesPat; $t))
    `(fun $ns:funBinder* => by $t:tactic)
set_option Elab.async false
set_option linter.all false
set_option maxRecDepth 100000
namespace L2
open PySem PySem.Spec PyProof.Rows
noncomputable abbrev Key := Sum Int Str
noncomputable def keyIs : Key → Value → Bool
  | .inl k, v => Value.isInt k v
  | .inr x, v => Value.isStrOf x v
noncomputable def keyH (w : World) : Key → Int
  | .inl k => hashInt k
  | .inr x => hashStr w x
theorem keyIs_shape : ∀ {k : Key} {v : Value}, keyIs k v = true → (∃ i t, k = Sum.inl i ∧ v = Value.int i t) ∨ (∃ x t, k = Sum.inr x ∧ v = Value.str x t)
  | .inl i, v, h => by
    obtain ⟨t, e⟩ := Value.isInt_shape (k := i) (v := v) h
    exact .inl ⟨i, t, rfl, e⟩
  | .inr x, v, h => by
    obtain ⟨t, e⟩ := Value.isStrOf_shape (x := x) (v := v) h
    exact .inr ⟨x, t, rfl, e⟩
theorem keyIs_int (i : Int) (t : Tok) : keyIs (.inl i) (.int i t) = true := by simp [keyIs, Value.isInt]
theorem keyIs_str (x : Str) (t : Tok) : keyIs (.inr x) (.str x t) = true := by simp [keyIs, Value.isStrOf]
theorem key_ll (a b : Int) : decide ((Sum.inl a : Key) = Sum.inl b) = (a == b) := by
  by_cases e : a = b
  · subst e; simp
  · have h : ¬ (Sum.inl a : Key) = Sum.inl b := fun q => e (Sum.inl.inj q)
    rw [decide_eq_false h]
    exact (beq_eq_false_iff_ne.mpr e).symm
theorem key_rr (a b : Str) : decide ((Sum.inr a : Key) = Sum.inr b) = decide (a = b) := by
  by_cases e : a = b
  · subst e; simp
  · have h : ¬ (Sum.inr a : Key) = Sum.inr b := fun q => e (Sum.inr.inj q)
    rw [decide_eq_false h, decide_eq_false e]
theorem key_lr (a : Int) (b : Str) : decide ((Sum.inl a : Key) = Sum.inr b) = false := decide_eq_false (fun q => nomatch q)
theorem key_rl (a : Str) (b : Int) : decide ((Sum.inr a : Key) = Sum.inl b) = false := decide_eq_false (fun q => nomatch q)
noncomputable def mixKind (prog : Program) (w : World) : PySem.KeyKind prog w Key where
  is := keyIs
  hash := keyH w
  inj := fun v a b ha hb => by
    rcases keyIs_shape ha with ⟨i, t, rfl, rfl⟩ | ⟨x, t, rfl, rfl⟩
    · rcases keyIs_shape hb with ⟨j, u, rfl, e⟩ | ⟨y, u, rfl, e⟩
      · injection e with e1 _; rw [e1]
      · exact nomatch e
    · rcases keyIs_shape hb with ⟨j, u, rfl, e⟩ | ⟨y, u, rfl, e⟩
      · exact nomatch e
      · injection e with e1 _; rw [e1]
  byValue := fun k v h => by
    rcases keyIs_shape h with ⟨i, t, rfl, rfl⟩ | ⟨x, t, rfl, rfl⟩ <;> rfl
  pyHash := fun hv h => by
    rcases keyIs_shape hv with ⟨i, t, rfl, rfl⟩ | ⟨x, t, rfl, rfl⟩
    · exact wpAny_pyHash_int h
    · exact wpAny_pyHash_str h
  eqBool := fun hu hv h => by
    rcases keyIs_shape hu with ⟨i, t, rfl, rfl⟩ | ⟨x, t, rfl, rfl⟩
    · rcases keyIs_shape hv with ⟨j, u, rfl, rfl⟩ | ⟨y, u, rfl, rfl⟩
      · rw [key_ll] at h; exact wpAny_eqBool_int h
      · rw [key_lr] at h; exact SeqAt.EqAt.int_str i t y u _ _ _ _ h
    · rcases keyIs_shape hv with ⟨j, u, rfl, rfl⟩ | ⟨y, u, rfl, rfl⟩
      · rw [key_rl] at h; exact SeqAt.EqAt.str_int x t j u _ _ _ _ h
      · rw [key_rr] at h; exact wpAny_eqBool_str h
  «strs» := fun k x t v h => by
    rcases keyIs_shape h with ⟨i, u, rfl, e⟩ | ⟨y, u, rfl, e⟩
    · exact nomatch e
    · injection e with e1 _
      subst e1
      cases v <;> rfl
theorem mixKind_int (prog : Program) (w : World) (i : Int) (t : Tok) : (mixKind prog w).is (.inl i) (.int i t) = true := keyIs_int i t
theorem mixKind_str (prog : Program) (w : World) (x : Str) (t : Tok) : (mixKind prog w).is (.inr x) (.str x t) = true := keyIs_str x t
end L2
namespace L2
open PySem PySem.Spec PyProof.Rows
inductive V where
  | non | bl (b : Bool) | int (i : Int) | str (x : Str) | byt (b : Array UInt8) | flt (b : UInt64) | ref (a : Addr) | ty (n : String)
  deriving DecidableEq
noncomputable def RelV : V → Value → Prop
  | .non, u => u = Value.none
  | .bl b, u => u = Value.bool b
  | .int i, u => ∃ t, u = Value.int i t
  | .str x, u => ∃ t, u = Value.str x t
  | .byt b, u => ∃ t, u = Value.bytes b t
  | .flt b, u => ∃ t, u = Value.float b t
  | .ref a, u => u = Value.ref a
  | .ty n, u => u = Value.type n
noncomputable abbrev Vals : List V → List Value → Prop := Paired RelV
theorem Vals.length {xs : List V} {us : List Value} (r : Vals xs us) : xs.length = us.length := Paired.length r
theorem Vals.get : ∀ {xs : List V} {us : List Value} {i : Nat} {x : V}, Vals xs us → xs[i]? = some x → ∃ u, us[i]? = some u ∧ RelV x u
  | _, _, _, _, .nil, e => by simp at e
  | _, _, 0, _, .cons r _, e => by simp at e; subst e; exact ⟨_, rfl, r⟩
  | _, _, i + 1, x, .cons _ t, e => by
    obtain ⟨u, h1, h2⟩ := Vals.get (i := i) (x := x) t (by simpa using e)
    exact ⟨u, by simpa using h1, h2⟩
theorem Vals.set {x : V} {u : Value} (r : RelV x u) : ∀ {xs : List V} {us : List Value} (i : Nat), Vals xs us → Vals (xs.set i x) (us.set i u)
  | _, _, _, .nil => .nil
  | _, _, 0, .cons _ t => .cons r t
  | _, _, i + 1, .cons q t => .cons q (Vals.set r i t)
theorem Vals.append : ∀ {xs ys : List V} {us ws : List Value}, Vals xs us → Vals ys ws → Vals (xs ++ ys) (us ++ ws)
  | _, _, _, _, .nil, s => s
  | _, _, _, _, .cons r t, s => .cons r (Vals.append t s)
theorem Vals.take : ∀ {xs : List V} {us : List Value} (n : Nat), Vals xs us → Vals (xs.take n) (us.take n)
  | _, _, 0, _ => .nil
  | _, _, _ + 1, .nil => .nil
  | _, _, n + 1, .cons r t => .cons r (Vals.take n t)
theorem Vals.drop : ∀ {xs : List V} {us : List Value} (n : Nat), Vals xs us → Vals (xs.drop n) (us.drop n)
  | _, _, 0, r => r
  | _, _, _ + 1, .nil => .nil
  | _, _, n + 1, .cons _ t => Vals.drop n t
noncomputable def RelO : Option V → Option Value → Prop
  | some v, some u => RelV v u
  | none, none => True
  | _, _ => False
noncomputable def KV {κ : Type} : List (κ × V) → List (κ × Value) → Prop := Paired fun (p : κ × V) (q : κ × Value) => p.1 = q.1 ∧ RelV p.2 q.2
noncomputable def kV : Key → V
  | .inl i => .int i
  | .inr x => .str x
inductive HO where
  | lst (xs : List V)
  | tup (xs : List V)
  | dK (kvs : List (Key × V)) | dT (kvs : List (List Key × V))
  | set (S : Int → Bool) (n : Nat)
  | ins (C dx : Addr) (fs : List (Str × V))
  | own (x : Addr)
  | xd (fs : List (Str × V))
  | met (f x : Addr)
  | rng (lo hi : Int)
  | frz (o : Obj) (u : HO)
  | tbl (ps : Array Value)
  | ext (φ : Heap → Prop)
noncomputable abbrev Hp := Addr → Option HO
noncomputable def upd (H : Hp) (a : Addr) (o : HO) : Hp := fun b => if b = a then some o else H b
theorem upd_same {H : Hp} {a : Addr} {o : HO} : upd H a o a = some o := by unfold upd; rw [if_pos rfl]
theorem upd_ne {H : Hp} {a b : Addr} {o : HO} (h : b ≠ a) : upd H a o b = H b := by unfold upd; rw [if_neg h]
theorem ne_of {H : Hp} {a b : Addr} {o u : HO} (h : H a = some o) (h' : H b = some u) (d : o ≠ u) : a ≠ b := by
  intro e; subst e; rw [h] at h'; exact d (Option.some.inj h')
theorem ne_of_none {H : Hp} {a b : Addr} {o : HO} (h : H a = some o) (h' : H b = none) : a ≠ b := by
  intro e; subst e; rw [h] at h'; cases h'
section
variable (P : Program) (w : World)
noncomputable def ObjOk (H : Hp) (h : Heap) (a : Addr) : HO → Prop
  | .lst xs => xs.length ≤ sizeLine ∧ ∃ (its : List Value) (n : Nat), Vals xs its ∧ h.get? a = some { cls := .type "list", data := .seq its.toArray n }
  | .tup xs => xs.length ≤ sizeLine ∧ ∃ its : List Value, Vals xs its ∧ IsTup h a its.toArray ∧ ∃ ob, h.get? a = some ob ∧ ob.dict = none
  | .dK kvs => kvs.length ≤ sizeLine ∧ (a == sysModules) = false ∧ ∃ vs, KV kvs vs ∧ h.DictOf (mixKind P w) a vs
  | .dT kvs => kvs.length ≤ sizeLine ∧ (a == sysModules) = false ∧ ∃ xs : List (List Key × Addr × Value),
      Paired (fun (p : List Key × V) (q : List Key × Addr × Value) => p.1 = q.1 ∧ H q.2.1 = some (.tup (p.1.map kV)) ∧ RelV p.2 q.2.2) kvs xs ∧
      ∃ o es ep, h.get? a = some o ∧ o.ExactDict ∧ o.data = .dict es ep ∧ es.toList = xs.map (entryOfKey (tupleKind (mixKind P w))) ∧ (xs.map (·.1)).Nodup
  | .set S n => h.SetOf (intKind P w) a S n
  | .ins C dx fs => H dx = some (.own a) ∧ fs.length ≤ 1000 ∧ dx ≠ a ∧ h.get? a = some (PySem.W.instObj C dx) ∧
      ∃ mA, h.Ns1 dx mA ∧ (∀ f, RelO (fs.lookup f) (mA f)) ∧ PySem.Within mA (fs.map (·.1))
  | .own _ => ∃ o, h.get? a = some o
  | .xd fs => ∃ mA, h.Ns1 a mA ∧ ∀ f, RelO (fs.lookup f) (mA f)
  | .rng lo hi => ∃ t u v, h.get? a = some { cls := .type "range", data := .fields #[.int lo t, .int hi u, .int 1 v] }
  | .frz o u => h.get? a = some o ∧ ObjOk H h a u
  | .tbl ps => h.get? a = some { cls := .none, data := .fields ps }
  | .met f x => h.get? a = some (PySem.W.methodObj (.ref f) (.ref x))
  | .ext φ => φ h ∧ (∃ o, h.get? a = some o) ∧ ∀ h1 h2 : Heap, φ h1 → (∀ o, h1.get? a = some o → h2.get? a = some o) → φ h2
noncomputable def HOk (H : Hp) (h : Heap) : Prop := ∀ a o, H a = some o → ObjOk P w H h a o
end
section
variable {P : Program} {w : World} {H H' : Hp} {h h' : Heap} {a : Addr} {o : HO}
theorem ObjOk.lt (x : ObjOk P w H h a o) : a < h.objs.size := by
  cases o with
  | lst xs => obtain ⟨_, _, _, _, e⟩ := x; exact Heap.lt_size e
  | tup xs => obtain ⟨_, _, _, p, _⟩ := x; exact p.lt
  | dK kvs => obtain ⟨_, _, _, _, o, _, _, e, _⟩ := x; exact Heap.lt_size e
  | dT kvs => obtain ⟨_, _, _, _, o, _, _, e, _⟩ := x; exact Heap.lt_size e
  | set S n => obtain ⟨o, _, _, _, e, _⟩ := x; exact Heap.lt_size e
  | ins C dx fs => obtain ⟨_, _, _, e, _⟩ := x; exact Heap.lt_size e
  | own y => obtain ⟨_, e⟩ := x; exact Heap.lt_size e
  | xd fs => obtain ⟨_, ⟨_, _, _, e, _⟩, _⟩ := x; exact Heap.lt_size e
  | rng lo hi => obtain ⟨_, _, _, e⟩ := x; exact Heap.lt_size e
  | frz ob u => obtain ⟨e, _⟩ := x; exact Heap.lt_size e
  | tbl ps => exact Heap.lt_size (show h.get? a = some _ from x)
  | met f y => exact Heap.lt_size (show h.get? a = some _ from x)
  | ext φ => obtain ⟨_, ⟨_, e⟩, _⟩ := x; exact Heap.lt_size e
theorem Paired.mapP {α β : Type} {F G : α → β → Prop} : ∀ {l₁ : List α} {l₂ : List β}, Paired F l₁ l₂ → (∀ a b, F a b → G a b) → Paired G l₁ l₂
  | _, _, .nil, _ => .nil
  | _, _, .cons r t, f => .cons (f _ _ r) (Paired.mapP t f)
theorem ObjOk.stay (x : ObjOk P w H h a o) (k : ∀ b u, (b = a ∨ H b = some (.own a)) → h.get? b = some u → h'.get? b = some u)
    (ho : ∀ b, H b = some (.own a) → H' b = some (.own a)) (ht : ∀ b xs, H b = some (.tup xs) → H' b = some (.tup xs)) : ObjOk P w H' h' a o := by
  induction o with
  | lst xs => obtain ⟨z, its, n, r, e⟩ := x; exact ⟨z, its, n, r, k _ _ (.inl rfl) e⟩
  | tup xs => obtain ⟨z, its, r, ⟨ob, e, c⟩, o2, e2, c2⟩ := x; exact ⟨z, its, r, ⟨ob, k _ _ (.inl rfl) e, c⟩, o2, k _ _ (.inl rfl) e2, c2⟩
  | dK kvs => obtain ⟨z, y, vs, r, ob, es, ep, e, c⟩ := x; exact ⟨z, y, vs, r, ob, es, ep, k _ _ (.inl rfl) e, c⟩
  | dT kvs =>
    obtain ⟨z, y, xs, r, ob, es, ep, e, c⟩ := x
    exact ⟨z, y, xs, Paired.mapP r fun p q z => ⟨z.1, ht _ _ z.2.1, z.2.2⟩, ob, es, ep, k _ _ (.inl rfl) e, c⟩
  | set S n => obtain ⟨ob, es, ep, t, e, c⟩ := x; exact ⟨ob, es, ep, t, k _ _ (.inl rfl) e, c⟩
  | ins C dx fs =>
    obtain ⟨d, z, ne, e, mA, ⟨od, es, ep, e2, c⟩, r⟩ := x
    exact ⟨ho _ d, z, ne, k _ _ (.inl rfl) e, mA, ⟨od, es, ep, k _ _ (.inr d) e2, c⟩, r⟩
  | own y => obtain ⟨ob, e⟩ := x; exact ⟨ob, k _ _ (.inl rfl) e⟩
  | xd fs => obtain ⟨mA, ⟨od, es, ep, e, c⟩, r⟩ := x; exact ⟨mA, ⟨od, es, ep, k _ _ (.inl rfl) e, c⟩, r⟩
  | rng lo hi => obtain ⟨t, u, v, e⟩ := x; exact ⟨t, u, v, k _ _ (.inl rfl) e⟩
  | frz ob u ih => obtain ⟨e, q⟩ := x; exact ⟨k _ _ (.inl rfl) e, ih q⟩
  | tbl ps =>
    have e : h.get? a = some { cls := .none, data := .fields ps } := x
    show h'.get? a = some { cls := .none, data := .fields ps }
    exact k a _ (.inl rfl) e
  | met f y =>
    have e : h.get? a = some (PySem.W.methodObj (.ref f) (.ref y)) := x
    show h'.get? a = some (PySem.W.methodObj (.ref f) (.ref y))
    exact k a _ (.inl rfl) e
  | ext φ => obtain ⟨p, ⟨o, e⟩, st⟩ := x; exact ⟨st _ _ p fun o q => k _ _ (.inl rfl) q, ⟨o, k _ _ (.inl rfl) e⟩, st⟩
theorem HOk.lt (x : HOk P w H h) (e : H a = some o) : a < h.objs.size := (x a o e).lt
theorem HOk.fresh (x : HOk P w H h) (e : h.objs.size ≤ a) : H a = none := by
  cases q : H a with
  | none => rfl
  | some u => exact absurd (Nat.lt_of_lt_of_le (x.lt q) e) (Nat.lt_irrefl _)
theorem HOk.kept (x : HOk P w H h) (k : ∀ b u, h.get? b = some u → h'.get? b = some u) : HOk P w H h' := fun a o e =>
  (x a o e).stay (fun b u _ q => k b u q) (fun _ q => q) fun _ _ q => q
theorem HOk.laid (x : HOk P w H h) (k : ∀ b u, h.get? b = some u → h'.get? b = some u) (hp : h.objs.size ≤ a) (new : ObjOk P w (upd H a o) h' a o) : HOk P w (upd H a o) h' := fun b u e => by
  have hn := x.fresh hp
  by_cases hb : b = a
  · subst hb; rw [upd_same] at e; cases e; exact new
  · rw [upd_ne hb] at e
    exact (x b u e).stay (fun c v _ q => k c v q) (fun c q => by rw [upd_ne (ne_of_none q hn)]; exact q) fun c xs q => by rw [upd_ne (ne_of_none q hn)]; exact q
end
noncomputable def Rd (H : Hp) (a : Addr) (u : HO) : Prop := H a = some u ∨ ∃ o, H a = some (.frz o u)
theorem Rd.ok {P : Program} {w : World} {H : Hp} {h : Heap} {a : Addr} {u : HO} (r : Rd H a u) (x : HOk P w H h) : ObjOk P w H h a u := by
  rcases r with r | ⟨o, r⟩
  · exact x a u r
  · obtain ⟨_, q⟩ := x a _ r
    exact q
noncomputable def Mut : Option HO → Prop
  | some (.lst _) => True
  | some (.dK _) => True
  | some (.dT _) => True
  | some (.set _ _) => True
  | some (.ins _ _ _) => True
  | some (.ext _) => True
  | _ => False
section
variable {P : Program} {w : World} {H : Hp} {h h' : Heap} {x e : Addr} {o' : HO}
theorem HOk.write (ok : HOk P w H h) (mu : Mut (H x)) (he : e = x ∨ H e = some (.own x)) (k : ∀ b u, b ≠ e → h.get? b = some u → h'.get? b = some u) (heo : ∃ u, h'.get? e = some u)
    (new : ObjOk P w (upd H x o') h' x o') : HOk P w (upd H x o') h' := fun b u q => by
  have nown : ∀ c y, H c = some (.own y) → c ≠ x := fun c y r z => by subst z; rw [r] at mu; exact mu
  have ntup : ∀ c xs, H c = some (.tup xs) → c ≠ x := fun c xs r z => by subst z; rw [r] at mu; exact mu
  by_cases hb : b = x
  · subst hb; rw [upd_same] at q; cases q; exact new
  · rw [upd_ne hb] at q
    by_cases hbe : b = e
    · have q' : H b = some (.own x) := by
        rcases he with z | z
        · exact absurd (hbe.trans z) hb
        · rw [hbe]; exact z
      rw [q] at q'; cases q'
      obtain ⟨v, hv⟩ := heo
      exact ⟨v, by rw [hbe]; exact hv⟩
    · refine (ok b u q).stay (fun c v hc r => k c v ?_ r) (fun c r => by rw [upd_ne (nown c b r)]; exact r) fun c xs r => by rw [upd_ne (ntup c xs r)]; exact r
      rcases hc with rfl | hc
      · exact hbe
      · rintro rfl
        rcases he with z | z
        · exact nown c b hc z
        · rw [hc] at z; cases z; exact hb rfl
end
structure Un (fs ex : List Addr) (H H' : Hp) (h h' : Heap) : Prop where
  keep : ∀ b o, h.get? b = some o → H b = none → b ∉ fs → b ∉ ex → h'.get? b = some o
  slot : ∀ b o, h.get? b = some o → H b = none → b ∈ fs → b ∉ ex → ∃ sl, h'.get? b = some { o with slots := sl }
  free : ∀ b o, h.get? b = some o → H b = none → b ∉ ex → H' b = none
  there : ∀ b o, h.get? b = some o → b ∉ ex → ∃ o', h'.get? b = some o'
  tups : ∀ b xs, H b = some (.tup xs) → H' b = some (.tup xs)
  frzs : ∀ b o u, H b = some (.frz o u) → H' b = some (.frz o u)
  tbls : ∀ b ps, H b = some (.tbl ps) → ∃ more, H' b = some (.tbl (ps ++ more))
section
variable {fs fs' ex ex' : List Addr} {H H1 H2 : Hp} {h h1 h2 h' : Heap} {a x e : Addr} {o : HO}
theorem Un.any (u : Un fs ex H H1 h h1) {b : Addr} {ob : Obj} (q : h.get? b = some ob) (n : H b = none) (hx : b ∉ ex) : ∃ sl, h1.get? b = some { ob with slots := sl } := by
  by_cases hb : b ∈ fs
  · exact u.slot b ob q n hb hx
  · exact ⟨ob.slots, u.keep b ob q n hb hx⟩
theorem Un.kept (k : ∀ b u, h.get? b = some u → h'.get? b = some u) : Un fs ex H H h h' :=
  ⟨fun b ob q _ _ _ => k b ob q, fun b ob q _ _ _ => ⟨ob.slots, k b ob q⟩, fun _ _ _ n _ => n, fun b ob q _ => ⟨ob, k b ob q⟩, fun _ _ q => q, fun _ _ _ q => q, fun _ ps q => ⟨#[], by rw [q]; simp⟩⟩
theorem Un.refl : Un fs ex H H h h := Un.kept fun _ _ q => q
theorem Un.laid (k : ∀ b u, h.get? b = some u → h'.get? b = some u) (hp : h.objs.size ≤ a) (hn : H a = none) : Un fs ex H (upd H a o) h h' where
  keep := fun b u q _ _ _ => k b u q
  slot := fun b u q _ _ _ => ⟨u.slots, k b u q⟩
  free := fun b u q n _ => by rw [upd_ne (Nat.ne_of_lt (Nat.lt_of_lt_of_le (Heap.lt_size q) hp))]; exact n
  there := fun b u q _ => ⟨u, k b u q⟩
  tups := fun b xs q => by rw [upd_ne (ne_of_none q hn)]; exact q
  frzs := fun b u xs q => by rw [upd_ne (ne_of_none q hn)]; exact q
  tbls := fun b ps q => ⟨#[], by rw [upd_ne (ne_of_none q hn), q]; simp⟩
theorem Un.write (mu : Mut (H x)) (he : e = x ∨ H e = some (.own x)) (k : ∀ b u, b ≠ e → h.get? b = some u → h'.get? b = some u) (heo : ∃ u, h'.get? e = some u) : Un fs ex H (upd H x o) h h' := by
  have hx : ∀ b, H b = none → b ≠ x := fun b n z => by subst z; rw [n] at mu; exact mu
  have hb : ∀ b, H b = none → b ≠ e := fun b n z => by
    subst z
    rcases he with r | r
    · exact hx b n r
    · rw [n] at r; cases r
  have hm : ∀ b u, H b = some u → ¬ Mut (some u) → b ≠ x := fun b u q nm z => by subst z; rw [q] at mu; exact nm mu
  refine ⟨fun b u q n _ _ => k b u (hb b n) q, fun b u q n _ _ => ⟨u.slots, k b u (hb b n) q⟩, fun b u q n _ => by rw [upd_ne (hx b n)]; exact n, fun b u q _ => ?_,
    fun b xs q => by rw [upd_ne (hm b _ q fun z => z)]; exact q, fun b u xs q => by rw [upd_ne (hm b _ q fun z => z)]; exact q, fun b ps q => ⟨#[], by rw [upd_ne (hm b _ q fun z => z), q]; simp⟩⟩
  by_cases hbe : b = e
  · subst hbe; exact heo
  · exact ⟨u, k b u hbe q⟩
end
noncomputable def trk (h : Heap) (H : Hp) : List Addr := (List.range h.objs.size).filter fun a => (H a).isSome
noncomputable def hidT (h : Heap) (H : Hp) : Heap := PySem.W.hideAll h (trk h H)
theorem hidT_size (h : Heap) (H : Hp) : (hidT h H).objs.size = h.objs.size := PySem.W.hideAll_size _ _
theorem hidT_get {h : Heap} {H : Hp} {b : Addr} {o : Obj} (e : h.get? b = some o) (n : H b = none) : (hidT h H).get? b = some o :=
  PySem.W.hideAll_get _ e fun hm => by
    have q : (H b).isSome = true := (List.mem_filter.mp hm).2
    rw [n] at q; simp at q
theorem of_hidT {h : Heap} {H : Hp} {b : Addr} {o : Obj} (e : (hidT h H).get? b = some o) : h.get? b = some o ∧ H b = none := by
  have e' : h.get? b = some o := PySem.W.of_hideAll (trk h H) e
  refine ⟨e', ?_⟩
  cases q : H b with
  | none => rfl
  | some x =>
    have hm : b ∈ trk h H := List.mem_filter.mpr ⟨List.mem_range.mpr (Heap.lt_size e'), by simp [q]⟩
    have z : (hidT h H).get? b = none := PySem.W.hideAll_none (trk h H) hm
    rw [z] at e; cases e
noncomputable def allNews (g h : Heap) (L : Addr) : List (Addr × Obj) := (List.range h.objs.size).filterMap fun a => if a = L ∨ (g.get? a).isSome = true then none else (h.get? a).map fun o => (a, o)
noncomputable def rest (g h : Heap) (L d : Addr) : List (Addr × Obj) := (allNews g h L).filter fun p => decide (p.1 ≠ d)
end L2
namespace L2
open PySem PySem.Spec PyProof.Rows
structure Mod (K : PySem.W.Frag) (mg : Str → Option Value) (base : Heap) : Prop where
  kin : K.In base
  glob : base.Ns mainGlobals mg
  blt : ∃ mb, base.Ns builtinsNs mb ∧ ∀ x : Str, x ≠ "__name__" → mb x = bootBuiltins x
  nolimit : base.NoLimit
structure Cx where
  prog : Program
  w : World
  K : PySem.W.Frag
  mg : Str → Option Value
  base : Heap
  A : Around
  N : List Str
  s₀ : Shared
  H₀ : Hp
  env : Env
  outer : List Env
  stack : List Env
  ex : List Addr
  fn : Str → Bool
  calm : Bool
  pn : List (Addr × Obj)
  xe : Value → Shared → Prop
noncomputable def frs (l : List Env) : List Addr := l.filterMap (·.frame)
noncomputable abbrev Cx.fs (X : Cx) : List Addr := frs X.outer
noncomputable def Vis (sc : Scope) (x : Str) : Prop := sc.names.lookup x = some .local ∨ sc.names.lookup x = some .cell ∨ sc.names.lookup x = some .free
noncomputable def Loc (sc : Scope) (x : Str) : Prop := sc.names.lookup x = some .local ∨ sc.names.lookup x = some .cell
noncomputable def Look (env : Env) (h : Heap) (m : Str → Option Value) (x : Str) (u : Value) : Prop :=
  (env.kindOf x = some .local ∧ m x = some u) ∨ ((env.kindOf x = some .cell ∨ env.kindOf x = some .free) ∧ ∃ c, env.cells.lookup x = some c ∧ h.IsCell c (some u))
structure Cx.Ok (X : Cx) : Prop where
  mod : Mod X.K X.mg X.base
  kind : X.env.scope.kind = .function
  glob : X.env.globals = mainGlobals
  blt : X.env.builtins = builtinsNs
  above : X.s₀.heap.objs.size ≤ X.env.locals
  inj : ∀ x y c, X.env.cells.lookup x = some c → X.env.cells.lookup y = some c → x = y
  has : ∀ x, (X.env.kindOf x = some .cell ∨ X.env.kindOf x = some .free) → ∃ c, X.env.cells.lookup x = some c
  cab : ∀ x c, X.fn x = true → X.env.cells.lookup x = some c → X.s₀.heap.objs.size ≤ c
  hd : X.calm = true → X.A.handled = none
  frames : X.A.frames = some X.stack
  stk : X.stack = X.outer ∨ (X.stack = X.env :: X.outer ∧ X.env.frame = some X.env.locals)
  exf : ∀ b ∈ X.ex, b ≠ X.env.locals ∧ ∀ x c, X.env.cells.lookup x = some c → c ≠ b
  bs : ∀ b o, X.base.get? b = some o → X.s₀.heap.get? b = some o ∧ X.H₀ b = none
  bsz : X.base.objs.size ≤ X.s₀.heap.objs.size
  noex : ∀ b o, X.base.get? b = some o → b ∉ X.ex
  exfs : ∀ b ∈ X.ex, b ∉ X.fs
  funs : X.s₀.heap.FunFrames X.base X.outer
  frf : ∀ b ∈ X.fs, X.H₀ b = none
structure Inv (X : Cx) (pins : List (Addr × Obj)) (σ : List (Option V)) (H : Hp) (s : Shared) : Prop where
  ok : X.Ok
  os : s.os = X.s₀.os
  bare : AllBare s.gens
  base : Un X.fs X.ex X.H₀ H X.s₀.heap s.heap
  loc : ∃ m, s.heap.Ns X.env.locals m ∧ ∀ (i : Nat) (x : Str) (v : V), X.N[i]? = some x → σ[i]? = some (some v) → Vis X.env.scope x → ∃ u, RelV v u ∧ Look X.env s.heap m x u
  cell : ∀ x c, X.env.cells.lookup x = some c → ∃ v, s.heap.IsCell c v
  free : H X.env.locals = none
  freeC : ∀ x c, X.env.cells.lookup x = some c → H c = none
  pin : ∀ p ∈ X.pn ++ pins, s.heap.get? p.1 = some p.2 ∧ H p.1 = none ∧ p.1 ≠ X.env.locals ∧ p.1 ∉ X.fs ∧ ∀ v, p.2.data ≠ .cell v
  hok : HOk X.prog X.w H s.heap
  len : σ.length = X.N.length
section
variable {X : Cx} {pins : List (Addr × Obj)} {σ : List (Option V)} {H H' : Hp} {s : Shared} {h' : Heap}
theorem Cx.Ok.nofr (ok : X.Ok) {b : Addr} {o : Obj} (e : X.base.get? b = some o) : b ∉ X.fs := fun hb => by
  have := (ok.funs.mem hb).1
  rw [e] at this; cases this
theorem Inv.bs (I : Inv X pins σ H s) : ∀ b o, X.base.get? b = some o → s.heap.get? b = some o ∧ H b = none := fun b o e =>
  ⟨I.base.keep b o (I.ok.bs b o e).1 (I.ok.bs b o e).2 (I.ok.nofr e) (I.ok.noex b o e), I.base.free b o (I.ok.bs b o e).1 (I.ok.bs b o e).2 (I.ok.noex b o e)⟩
theorem Inv.bk (I : Inv X pins σ H s) : ∀ b o, X.base.get? b = some o → s.heap.get? b = some o := fun b o e => (I.bs b o e).1
theorem Inv.mod (I : Inv X pins σ H s) : Mod X.K X.mg X.base := I.ok.mod
theorem Inv.kIn (I : Inv X pins σ H s) : X.K.In s.heap := I.ok.mod.kin.keeps I.bk
theorem Inv.lt (I : Inv X pins σ H s) : X.env.locals < s.heap.objs.size := let ⟨_, hn, _⟩ := I.loc; hn.lt
theorem Inv.sz (I : Inv X pins σ H s) : X.s₀.heap.objs.size ≤ s.heap.objs.size := Nat.le_trans I.ok.above (Nat.le_of_lt I.lt)
theorem Inv.nofs (I : Inv X pins σ H s) {a : Addr} (h : s.heap.objs.size ≤ a) : a ∉ X.fs := fun hb => by
  obtain ⟨_, o, ho, _⟩ := I.ok.funs.mem hb
  exact absurd (Nat.lt_of_lt_of_le (Heap.lt_size ho) (Nat.le_trans I.sz h)) (Nat.lt_irrefl _)
theorem Inv.cne (I : Inv X pins σ H s) : ∀ x c, X.env.cells.lookup x = some c → c ≠ X.env.locals := fun x c e z => by
  obtain ⟨v, o, ho, hd⟩ := I.cell x c e
  obtain ⟨m, ⟨o', es, ep, ho', hd', _⟩, _⟩ := I.loc
  rw [z, ho'] at ho; cases ho; rw [hd'] at hd; cases hd
theorem Inv.funs (I : Inv X pins σ H s) : s.heap.FunFrames X.base X.outer := by
  have all : ∀ (l : List Env), (∀ b ∈ frs l, b ∈ X.fs) → X.s₀.heap.FunFrames X.base l → s.heap.FunFrames X.base l := by
    intro l
    induction l with
    | nil => intro _ _; trivial
    | cons env r ih =>
      intro hs hl
      obtain ⟨hk, ⟨L, o, hf, hn, ho, hd⟩, hr⟩ := hl
      have hL : L ∈ X.fs := hs L (by unfold frs; rw [List.filterMap_cons, hf]; exact List.mem_cons_self)
      obtain ⟨sl, e⟩ := I.base.slot L o ho (I.ok.frf L hL) hL fun z => I.ok.exfs L z hL
      exact ⟨hk, ⟨L, _, hf, hn, e, hd⟩, ih (fun b hb => hs b (by unfold frs; rw [List.filterMap_cons, hf]; exact List.mem_cons_of_mem _ hb)) hr⟩
  exact all X.outer (fun _ hb => hb) I.ok.funs
theorem Inv.stack (I : Inv X pins σ H s) : s.heap.FunFrames X.base X.stack := by
  rcases I.ok.stk with e | ⟨e, hf⟩
  · rw [e]; exact I.funs
  · rw [e]
    obtain ⟨m, hn, _⟩ := I.loc
    refine .cons (by rw [I.ok.kind]; decide) hf hn ?_ I.funs
    exact Heap.get?_none_of_le (Nat.le_trans I.ok.bsz I.ok.above)
theorem Inv.stkSub (I : Inv X pins σ H s) : ∀ b ∈ frs X.stack, b ∈ X.env.locals :: X.fs := fun b hb => by
  rcases I.ok.stk with e | ⟨e, hf⟩
  · rw [e] at hb; exact List.mem_cons_of_mem _ hb
  · rw [e] at hb
    unfold frs at hb
    rw [List.filterMap_cons, hf] at hb
    exact hb
theorem Inv.stkFree (I : Inv X pins σ H s) : ∀ b ∈ frs X.stack, H b = none := fun b hb => by
  rcases List.mem_cons.mp (I.stkSub b hb) with e | hb
  · rw [e]; exact I.free
  · obtain ⟨_, o, ho, _⟩ := I.ok.funs.mem hb
    exact I.base.free b o ho (I.ok.frf b hb) fun z => I.ok.exfs b z hb
theorem Inv.step {g' : Array GenState} {t' : Nat} {d' : Drawn} {ch : List Addr} (I : Inv X pins σ H s)
    (hch : ∀ b ∈ ch, (b ∈ X.ex ∨ X.s₀.heap.objs.size ≤ b) ∧ b ≠ X.env.locals ∧ (∀ x c, X.env.cells.lookup x = some c → c ≠ b) ∧ ∀ p ∈ X.pn ++ pins, p.1 ≠ b)
    (keep : ∀ b o, b ≠ X.env.locals → b ∉ X.fs → b ∉ ch → s.heap.get? b = some o → H b = none → h'.get? b = some o)
    (slot : ∀ b o, b ≠ X.env.locals → b ∈ X.fs → b ∉ ch → s.heap.get? b = some o → H b = none → ∃ sl, h'.get? b = some { o with slots := sl }) (free : ∀ b o, b ∉ ch → s.heap.get? b = some o → H b = none → H' b = none)
    (there : ∀ b o, b ∉ ch → s.heap.get? b = some o → ∃ o', h'.get? b = some o')
    (tups : ∀ b xs, H b = some (.tup xs) → H' b = some (.tup xs)) (frzs : ∀ b o u, H b = some (.frz o u) → H' b = some (.frz o u)) (tbls : ∀ b ps, H b = some (.tbl ps) → ∃ more, H' b = some (.tbl (ps ++ more)))
    (ns : ∀ m, s.heap.Ns X.env.locals m → h'.Ns X.env.locals m) (hok : HOk X.prog X.w H' h') (hg : AllBare g') :
    Inv X pins σ H' { s with heap := h', gens := g', drawn := d', toks := t' } := by
  have neL : ∀ b o, X.s₀.heap.get? b = some o → b ≠ X.env.locals := fun b o e => Nat.ne_of_lt (Nat.lt_of_lt_of_le (Heap.lt_size e) I.ok.above)
  have neC : ∀ b o, X.s₀.heap.get? b = some o → b ∉ X.ex → b ∉ ch := fun b o e hx hb => by
    rcases (hch b hb).1 with z | z
    · exact hx z
    · exact absurd (Nat.lt_of_lt_of_le (Heap.lt_size e) z) (Nat.lt_irrefl _)
  have cellK : ∀ x c, X.env.cells.lookup x = some c → ∀ v, s.heap.IsCell c v → h'.IsCell c v := fun x c e v ⟨o, ho, hd⟩ => by
    have nch : c ∉ ch := fun z => (hch c z).2.2.1 x c e rfl
    by_cases hc : c ∈ X.fs
    · obtain ⟨sl, q⟩ := slot c o (I.cne x c e) hc nch ho (I.freeC x c e)
      exact ⟨_, q, hd⟩
    · exact ⟨o, keep c o (I.cne x c e) hc nch ho (I.freeC x c e), hd⟩
  refine ⟨I.ok, I.os, hg, ⟨fun b o e n hb hx => ?_, fun b o e n hb hx => ?_, fun b o e n hx => ?_, fun b o e hx => ?_, fun b xs e => tups b xs (I.base.tups b xs e), fun b o xs e => frzs b o xs (I.base.frzs b o xs e), fun b ps e => ?_⟩, ?_, fun x c e => ?_, ?_, fun x c e => ?_, fun p hp => ?_, hok, I.len⟩
  · exact keep b o (neL b o e) hb (neC b o e hx) (I.base.keep b o e n hb hx) (I.base.free b o e n hx)
  · obtain ⟨sl, e1⟩ := I.base.slot b o e n hb hx
    obtain ⟨sl', e2⟩ := slot b _ (neL b o e) hb (neC b o e hx) e1 (I.base.free b o e n hx)
    exact ⟨sl', e2⟩
  · obtain ⟨o', e1⟩ := I.base.there b o e hx
    exact free b o' (neC b o e hx) e1 (I.base.free b o e n hx)
  · obtain ⟨o', e1⟩ := I.base.there b o e hx
    exact there b o' (neC b o e hx) e1
  · obtain ⟨m1, e1⟩ := I.base.tbls b ps e
    obtain ⟨m2, e2⟩ := tbls b _ e1
    exact ⟨m1 ++ m2, by rw [e2, Array.append_assoc]⟩
  · obtain ⟨m, hn, hl⟩ := I.loc
    refine ⟨m, ns m hn, fun i x v e1 e2 e3 => ?_⟩
    obtain ⟨u, r, l⟩ := hl i x v e1 e2 e3
    refine ⟨u, r, ?_⟩
    rcases l with l | ⟨k, c, e, z⟩
    · exact .inl l
    · exact .inr ⟨k, c, e, cellK x c e _ z⟩
  · obtain ⟨v, z⟩ := I.cell x c e
    exact ⟨v, cellK x c e v z⟩
  · obtain ⟨m, ⟨o, _, _, ho, _⟩, _⟩ := I.loc
    exact free _ o (fun z => (hch _ z).2.1 rfl) ho I.free
  · obtain ⟨v, o, ho, hd⟩ := I.cell x c e
    exact free c o (fun z => (hch c z).2.2.1 x c e rfl) ho (I.freeC x c e)
  · obtain ⟨e, n, ne, nf, d⟩ := I.pin p hp
    have nch : p.1 ∉ ch := fun z => (hch p.1 z).2.2.2 p hp rfl
    exact ⟨keep p.1 p.2 ne nf nch e n, free p.1 p.2 nch e n, ne, nf, d⟩
theorem Inv.un {t' : Nat} (I : Inv X pins σ H s) (u : Un X.fs [] H H' s.heap h') (hok : HOk X.prog X.w H' h') : Inv X pins σ H' { s with heap := h', toks := t' } := by
  obtain ⟨m, ⟨o, es, ep, ho, r⟩, _⟩ := id I.loc
  obtain ⟨sl, hL⟩ := u.any ho I.free (by simp)
  exact I.step (g' := s.gens) (d' := s.drawn) (ch := []) (fun _ z => nomatch z) (fun b o _ hb _ e n => u.keep b o e n hb (by simp)) (fun b o _ hb _ e n => u.slot b o e n hb (by simp)) (fun b o _ e n => u.free b o e n (by simp)) (fun b o _ e => u.there b o e (by simp)) u.tups u.frzs u.tbls (fun m' hm => by
    obtain ⟨o', es', ep', ho', r'⟩ := hm
    rw [ho] at ho'; cases ho'
    exact ⟨_, es', ep', hL, r'⟩) hok I.bare
theorem Inv.call {g' : Array GenState} {t' : Nat} {d' : Drawn} {ch : List Addr} (I : Inv X pins σ H s) (u : Un (frs X.stack) ch H H' s.heap h') (hok : HOk X.prog X.w H' h') (hg : AllBare g')
    (hch : ∀ b ∈ ch, (b ∈ X.ex ∨ X.s₀.heap.objs.size ≤ b) ∧ b ≠ X.env.locals ∧ (∀ x c, X.env.cells.lookup x = some c → c ≠ b) ∧ ∀ p ∈ X.pn ++ pins, p.1 ≠ b) :
    Inv X pins σ H' { s with heap := h', gens := g', drawn := d', toks := t' } := by
  obtain ⟨m, ⟨o, es, ep, ho, r⟩, _⟩ := id I.loc
  obtain ⟨sl, hL⟩ := u.any ho I.free fun z => (hch _ z).2.1 rfl
  exact I.step (ch := ch) hch (fun b o hL hb hc e n => u.keep b o e n (fun z => (List.mem_cons.mp (I.stkSub b z)).elim hL hb) hc) (fun b o _ _ hc e n => u.any e n hc) (fun b o hc e n => u.free b o e n hc) (fun b o hc e => u.there b o e hc) u.tups u.frzs u.tbls (fun m' hm => by
    obtain ⟨o', es', ep', ho', r'⟩ := hm
    rw [ho] at ho'; cases ho'
    exact ⟨_, es', ep', hL, r'⟩) hok hg
theorem Inv.turned {t' : Nat} {it : Addr} (I : Inv X pins σ H s) (k : ∀ b o, b ≠ it → s.heap.get? b = some o → h'.get? b = some o) (hn : H it = none) (hL : it ≠ X.env.locals)
    (h1 : it ∈ X.ex ∨ X.s₀.heap.objs.size ≤ it) (h2 : ∀ x c, X.env.cells.lookup x = some c → c ≠ it) (h3 : ∀ p ∈ X.pn ++ pins, p.1 ≠ it) : Inv X pins σ H { s with heap := h', toks := t' } := by
  have nit : ∀ b u, H b = some u → b ≠ it := fun b u e z => by rw [z, hn] at e; cases e
  refine I.step (g' := s.gens) (d' := s.drawn) (ch := [it]) (fun b hb => ?_) (fun b o _ _ hc e _ => k b o (fun z => hc (by simp [z])) e) (fun b o _ _ hc e _ => ⟨o.slots, k b o (fun z => hc (by simp [z])) e⟩) (fun _ _ _ _ n => n)
    (fun b o hc e => ⟨o, k b o (fun z => hc (by simp [z])) e⟩) (fun _ _ e => e) (fun _ _ _ e => e) (fun b ps e => ⟨#[], by rw [e]; simp⟩) (fun m hm => ?_) (fun b u e => ?_) I.bare
  · have e : b = it := by simpa using hb
    subst e
    exact ⟨h1, hL, h2, h3⟩
  · obtain ⟨o, es, ep, ho, r⟩ := hm
    exact ⟨o, es, ep, k _ o (Ne.symm hL) ho, r⟩
  · refine (I.hok b u e).stay (fun c v hc q => k c v ?_ q) (fun _ q => q) fun _ _ q => q
    rcases hc with z | z
    · rw [z]; exact nit b u e
    · exact nit c _ z
theorem Inv.tok (I : Inv X pins σ H s) (t : Nat) : Inv X pins σ H { s with toks := t } := I.un (h' := s.heap) (t' := t) Un.refl I.hok
theorem Inv.kept {t' : Nat} (I : Inv X pins σ H s) (k : ∀ b u, s.heap.get? b = some u → h'.get? b = some u) : Inv X pins σ H { s with heap := h', toks := t' } := I.un (Un.kept k) (I.hok.kept k)
theorem Inv.laid {a : Addr} {o : HO} {t' : Nat} (I : Inv X pins σ H s) (k : ∀ b u, s.heap.get? b = some u → h'.get? b = some u) (hp : s.heap.objs.size ≤ a) (new : ObjOk X.prog X.w (upd H a o) h' a o) :
    Inv X pins σ (upd H a o) { s with heap := h', toks := t' } := I.un (Un.laid k hp (I.hok.fresh hp)) (I.hok.laid k hp new)
theorem Inv.write {x e : Addr} {o : HO} {t' : Nat} (I : Inv X pins σ H s) (mu : Mut (H x)) (he : e = x ∨ H e = some (.own x)) (k : ∀ b u, b ≠ e → s.heap.get? b = some u → h'.get? b = some u) (heo : ∃ u, h'.get? e = some u)
    (new : ObjOk X.prog X.w (upd H x o) h' x o) : Inv X pins σ (upd H x o) { s with heap := h', toks := t' } := I.un (Un.write mu he k heo) (I.hok.write mu he k heo new)
theorem Inv.weak {σ' : List (Option V)} (I : Inv X pins σ H s) (hl : σ'.length = σ.length) (w : ∀ (i : Nat) v, σ'[i]? = some (some v) → σ[i]? = some (some v)) : Inv X pins σ' H s :=
  ⟨I.ok, I.os, I.bare, I.base, let ⟨m, hn, hl'⟩ := I.loc; ⟨m, hn, fun i x v e1 e2 e3 => hl' i x v e1 (w i v e2) e3⟩, I.cell, I.free, I.freeC, I.pin, I.hok, hl.trans I.len⟩
theorem Inv.pins_of {pins' : List (Addr × Obj)} (I : Inv X pins σ H s) (h : ∀ p ∈ pins', s.heap.get? p.1 = some p.2 ∧ H p.1 = none ∧ p.1 ≠ X.env.locals ∧ p.1 ∉ X.fs ∧ ∀ v, p.2.data ≠ .cell v) : Inv X pins' σ H s :=
  ⟨I.ok, I.os, I.bare, I.base, I.loc, I.cell, I.free, I.freeC, fun p hp => (List.mem_append.mp hp).elim (fun z => I.pin p (List.mem_append_left _ z)) (h p), I.hok, I.len⟩
theorem nodup_ix {N : List Str} (hN : N.Nodup) {i j : Nat} {x : Str} (a : N[i]? = some x) (b : N[j]? = some x) : i = j := by
  obtain ⟨h1, e1⟩ := List.getElem?_eq_some_iff.mp a
  obtain ⟨h2, e2⟩ := List.getElem?_eq_some_iff.mp b
  exact (List.getElem_inj hN).mp (e1.trans e2.symm)
theorem store_ok2 {M : Model} {A : Around} {E : Value → Shared → Prop} {i : Nat} {x : Str} {v : V} {u : Value} {Q : Unit → Shared → Prop} (I : Inv X pins σ H s) (hN : X.N.Nodup) (hi : X.N[i]? = some x) (hx : Loc X.env.scope x) (r : RelV v u)
    (h : ∀ s', Inv X pins (σ.set i (some v)) H s' → (∃ a, Heap.SameBut a s.heap s'.heap ∧ (a = X.env.locals ∨ X.env.cells.lookup x = some a)) → Q () s') (hf : X.fn x = true ∨ X.env.scope.names.lookup x = some .local := by first | exact .inl rfl | exact .inr rfl | assumption) : wpAny M A (storeName X.env x u) Q E s := by
  obtain ⟨m, hn, hl⟩ := id I.loc
  have hcls : (X.env.scope.kind == .class || (X.env.scope.kind == .module && X.env.locals != X.env.globals)) = false := by rw [I.ok.kind]; rfl
  have hiσ : i < σ.length := by rw [I.len]; exact (List.getElem?_eq_some_iff.mp hi).1
  have cne := I.cne
  have tracked : ∀ {a : Addr} {h' : Heap}, (∃ o, s.heap.get? a = some o ∧ H a = none) → Heap.SameBut a s.heap h' → HOk X.prog X.w H h' := fun {a h'} ha hs b ob e => by
    obtain ⟨_, _, hfree⟩ := ha
    refine (I.hok b ob e).stay (fun c w' hc q => (hs.2 c ?_).trans q) (fun _ q => q) fun _ _ q => q
    rintro rfl
    rcases hc with rfl | hc
    · rw [hfree] at e; cases e
    · rw [hfree] at hc; cases hc
  rcases hx with hk | hk
  · refine wpAny_storeName_local hk hn (fun h' hn' hs => ?_) hcls
    obtain ⟨oL, _, _, hoL, _⟩ := id hn
    refine h _ ⟨I.ok, I.os, I.bare, ⟨fun b o e n hb hx => ?_, fun b o e n hb hx => ?_, I.base.free, fun b o e hx => ?_, I.base.tups, I.base.frzs, I.base.tbls⟩, ⟨_, hn', fun j y v' e1 e2 e3 => ?_⟩, fun y c e => ?_, I.free, I.freeC, fun p hp => ?_, tracked ⟨oL, hoL, I.free⟩ hs, by simpa using I.len⟩ ⟨_, hs, .inl rfl⟩
    · exact (hs.2 b (Nat.ne_of_lt (Nat.lt_of_lt_of_le (Heap.lt_size e) I.ok.above))).trans (I.base.keep b o e n hb hx)
    · obtain ⟨sl, e1⟩ := I.base.slot b o e n hb hx
      exact ⟨sl, (hs.2 b (Nat.ne_of_lt (Nat.lt_of_lt_of_le (Heap.lt_size e) I.ok.above))).trans e1⟩
    · obtain ⟨o', e1⟩ := I.base.there b o e hx
      exact ⟨o', (hs.2 b (Nat.ne_of_lt (Nat.lt_of_lt_of_le (Heap.lt_size e) I.ok.above))).trans e1⟩
    · by_cases hj : j = i
      · subst hj
        rw [hi] at e1; cases e1
        rw [List.getElem?_set_self hiσ] at e2
        cases e2
        exact ⟨u, r, .inl ⟨hk, by simp⟩⟩
      · rw [List.getElem?_set_ne (Ne.symm hj)] at e2
        obtain ⟨u', r', q⟩ := hl j y v' e1 e2 e3
        refine ⟨u', r', ?_⟩
        rcases q with ⟨k, e⟩ | ⟨k, c, e, z⟩
        · refine .inl ⟨k, ?_⟩
          have : y ≠ x := fun e => hj (nodup_ix hN e1 (e ▸ hi))
          simp [this, e]
        · exact .inr ⟨k, c, e, z.sameBut hs (cne y c e)⟩
    · obtain ⟨w', z⟩ := I.cell y c e
      exact ⟨w', z.sameBut hs (cne y c e)⟩
    · obtain ⟨e, n, ne, nf, d⟩ := I.pin p hp
      exact ⟨(hs.2 p.1 ne).trans e, n, ne, nf, d⟩
  · have hfn : X.fn x = true := by
      rcases hf with z | z
      · exact z
      · rw [z] at hk; cases hk
    obtain ⟨c, hc⟩ := I.ok.has x (.inl hk)
    obtain ⟨w', z⟩ := I.cell x c hc
    refine wpAny_storeName_cell I.ok.kind hk hc z (fun h' hc' hs => ?_)
    obtain ⟨oc, hoc, hocd⟩ := id z
    refine h { s with heap := h' } ⟨I.ok, I.os, I.bare, ⟨fun b o e n hb hx => ?_, fun b o e n hb hx => ?_, I.base.free, fun b o e hx => ?_, I.base.tups, I.base.frzs, I.base.tbls⟩, ⟨m, hn.sameBut hs (Ne.symm (cne x c hc)), fun j y v' e1 e2 e3 => ?_⟩, fun y c' e => ?_, I.free, I.freeC, fun p hp => ?_, tracked ⟨oc, hoc, I.freeC x c hc⟩ hs, by simpa using I.len⟩ ⟨c, hs, .inr hc⟩
    · exact (hs.2 b (Nat.ne_of_lt (Nat.lt_of_lt_of_le (Heap.lt_size e) (I.ok.cab x c hfn hc)))).trans (I.base.keep b o e n hb hx)
    · obtain ⟨sl, e1⟩ := I.base.slot b o e n hb hx
      exact ⟨sl, (hs.2 b (Nat.ne_of_lt (Nat.lt_of_lt_of_le (Heap.lt_size e) (I.ok.cab x c hfn hc)))).trans e1⟩
    · obtain ⟨o', e1⟩ := I.base.there b o e hx
      exact ⟨o', (hs.2 b (Nat.ne_of_lt (Nat.lt_of_lt_of_le (Heap.lt_size e) (I.ok.cab x c hfn hc)))).trans e1⟩
    · by_cases hj : j = i
      · subst hj
        rw [hi] at e1; cases e1
        rw [List.getElem?_set_self hiσ] at e2
        cases e2
        exact ⟨u, r, .inr ⟨.inl hk, c, hc, hc'⟩⟩
      · rw [List.getElem?_set_ne (Ne.symm hj)] at e2
        obtain ⟨u', r', q⟩ := hl j y v' e1 e2 e3
        refine ⟨u', r', ?_⟩
        rcases q with q | ⟨k, c', e, z'⟩
        · exact .inl q
        · refine .inr ⟨k, c', e, z'.sameBut hs ?_⟩
          rintro rfl
          exact hj (nodup_ix hN e1 (I.ok.inj _ _ _ e hc ▸ hi))
    · by_cases hcc : c' = c
      · subst hcc; exact ⟨_, hc'⟩
      · obtain ⟨w2, z2⟩ := I.cell y c' e
        exact ⟨w2, z2.sameBut hs hcc⟩
    · obtain ⟨e, n, ne, nf, d⟩ := I.pin p hp
      refine ⟨(hs.2 p.1 ?_).trans e, n, ne, nf, d⟩
      intro q
      rw [q, hoc] at e
      have q' : oc = p.2 := Option.some.inj e
      exact d w' (by rw [← q']; exact hocd)
theorem store_ok {M : Model} {A : Around} {E : Value → Shared → Prop} {i : Nat} {x : Str} {v : V} {u : Value} {Q : Unit → Shared → Prop} (I : Inv X pins σ H s) (hN : X.N.Nodup) (hi : X.N[i]? = some x) (hx : Loc X.env.scope x) (r : RelV v u)
    (h : ∀ s', Inv X pins (σ.set i (some v)) H s' → Q () s') (hf : X.fn x = true ∨ X.env.scope.names.lookup x = some .local := by first | exact .inl rfl | exact .inr rfl | assumption) : wpAny M A (storeName X.env x u) Q E s :=
  store_ok2 I hN hi hx r (fun s' I' _ => h s' I') hf
theorem Inv.call' {s' : Shared} {ch : List Addr} (I : Inv X pins σ H s) (ho : s'.os = s.os) (u : Un (frs X.stack) ch H H' s.heap s'.heap) (hok : HOk X.prog X.w H' s'.heap) (hg : AllBare s'.gens)
    (hch : ∀ b ∈ ch, (b ∈ X.ex ∨ X.s₀.heap.objs.size ≤ b) ∧ b ≠ X.env.locals ∧ (∀ x c, X.env.cells.lookup x = some c → c ≠ b) ∧ ∀ p ∈ X.pn ++ pins, p.1 ≠ b) : Inv X pins σ H' s' := by
  obtain ⟨h', g', d', t', o'⟩ := s'
  have e : o' = s.os := ho
  subst e
  exact I.call (g' := g') (t' := t') (d' := d') u hok hg hch
end
noncomputable abbrev XK := Value → Option Addr → Hp → Prop
noncomputable abbrev St := List (Option V)
noncomputable abbrev VK := V → Hp → Prop
noncomputable abbrev TE := St → Hp → VK → Prop
noncomputable abbrev TT := St → Hp → (Bool → Hp → Prop) → Prop
noncomputable abbrev TA := St → Hp → (List V → Hp → Prop) → Prop
structure Ends where
  nx : St → Hp → Prop
  rt : VK
  bk : St → Hp → Prop := fun _ _ => False
  ct : St → Hp → Prop := fun _ _ => False
noncomputable abbrev TS := Ends → St → Hp → Prop
noncomputable def EP (X : Cx) (pins : List (Addr × Obj)) (σ : St) (Q : VK) (u : Value) (s' : Shared) : Prop := ∃ v H', Inv X pins σ H' s' ∧ RelV v u ∧ Q v H'
noncomputable def TP (X : Cx) (pins : List (Addr × Obj)) (σ : St) (Q : Bool → Hp → Prop) (b : Bool) (s' : Shared) : Prop := ∃ H', Inv X pins σ H' s' ∧ Q b H'
noncomputable def AP (X : Cx) (pins : List (Addr × Obj)) (σ : St) (Q : List V → Hp → Prop) (us : List Value) (s' : Shared) : Prop := ∃ vs H', Inv X pins σ H' s' ∧ Vals vs us ∧ Q vs H'
noncomputable def SP (X : Cx) (pins : List (Addr × Obj)) (D : Ends) (f : Flow) (s' : Shared) : Prop :=
  match f with
  | .next => ∃ σ' H', Inv X pins σ' H' s' ∧ D.nx σ' H'
  | .brk => ∃ σ' H', Inv X pins σ' H' s' ∧ D.bk σ' H'
  | .cont => ∃ σ' H', Inv X pins σ' H' s' ∧ D.ct σ' H'
  | .ret u => ∃ v σ' H', Inv X pins σ' H' s' ∧ RelV v u ∧ D.rt v H'
noncomputable def PE (X : Cx) (e : Expr) (t : TE) : Prop :=
  ∀ (pins : List (Addr × Obj)) (s : Shared) (σ : St) (H : Hp) (Q : VK), Inv X pins σ H s → t σ H Q → wpAny (model X.prog X.w) X.A (eval e X.env) (EP X pins σ Q) X.xe s
noncomputable def PT (X : Cx) (e : Expr) (t : TT) : Prop :=
  ∀ (pins : List (Addr × Obj)) (s : Shared) (σ : St) (H : Hp) (Q : Bool → Hp → Prop), Inv X pins σ H s → t σ H Q → wpAny (model X.prog X.w) X.A (isTrue e X.env (eval e X.env)) (TP X pins σ Q) X.xe s
noncomputable def PW (X : Cx) (e : Expr) (t : TT) : Prop :=
  ∀ (whole : Sem Value) (pins : List (Addr × Obj)) (s : Shared) (σ : St) (H : Hp) (Q : Bool → Hp → Prop), Inv X pins σ H s → t σ H Q → wpAny (model X.prog X.w) X.A (isTrue e X.env whole) (TP X pins σ Q) X.xe s
theorem PW.pt {X : Cx} {e : Expr} {t : TT} (h : PW X e t) : PT X e t := h _
noncomputable def PA (X : Cx) (es : List Expr) (t : TA) : Prop :=
  ∀ (pos : Pos) (pins : List (Addr × Obj)) (s : Shared) (σ : St) (H : Hp) (Q : List V → Hp → Prop), Inv X pins σ H s → t σ H Q → wpAny (model X.prog X.w) X.A (spliced (backTo pos (starEach es X.env))) (AP X pins σ Q) X.xe s
noncomputable def PS (X : Cx) (st : Stmt) (t : TS) : Prop :=
  ∀ (pins : List (Addr × Obj)) (s : Shared) (σ : St) (H : Hp) (D : Ends), Inv X pins σ H s → t D σ H → wpAny (model X.prog X.w) X.A (exec st X.env) (SP X pins D) X.xe s
noncomputable def PSs (X : Cx) (st : List Stmt) (t : TS) : Prop :=
  ∀ (pins : List (Addr × Obj)) (s : Shared) (σ : St) (H : Hp) (D : Ends), Inv X pins σ H s → t D σ H → wpAny (model X.prog X.w) X.A (execs st X.env) (SP X pins D) X.xe s
theorem thn {α : Type} {t : Sem α} {Q Q' : α → Shared → Prop} {M : Model} {A : Around} {E : Value → Shared → Prop} {s : Shared} (h : wpAny M A t Q E s) (hQ : ∀ a s, Q a s → Q' a s) : wpAny M A t Q' E s := wpAny_mono h hQ fun _ _ x => x
end L2
namespace L2
open PySem PySem.Spec PyProof.Rows
section
variable {X : Cx}
noncomputable def tVar (i : Nat) : TE := fun σ H Q => ∃ v, σ[i]? = some (some v) ∧ Q v H
noncomputable def tC (v : V) : TE := fun _ H Q => Q v H
theorem pe_var {i : Nat} {x : Str} {pos : Pos} (hN : X.N[i]? = some x) (hv : Vis X.env.scope x) (hd : (x == ("__debug__" : Str)) = false := by decide) (hcd : (x == ("__classdict__" : Str)) = false := by decide) : PE X (.Name x pos) (tVar i) := by
  intro pins s σ H Q I h
  obtain ⟨v, e, h⟩ := h
  obtain ⟨m, hn, hl⟩ := I.loc
  obtain ⟨u, r, l⟩ := hl i x v hN e hv
  have fin : EP X pins σ Q u s := ⟨v, H, I, r, h⟩
  rcases l with ⟨hk, hm⟩ | ⟨hk, c, hc, hcell⟩
  · exact wpAny_Name (wpAny_loadName_local I.ok.kind hk hn hm fin) hd
  · rcases hk with hk | hk
    · exact wpAny_Name (wpAny_loadName_cell I.ok.kind hk hc hcell fin) hd
    · exact wpAny_Name (wpAny_loadName_free I.ok.kind hk hc hcell fin hcd) hd
theorem pe_int {i j pos} : PE X (.Constant (.int i) j pos) (tC (.int i)) := fun _ _ _ H _ I h => wpAny_Constant_int ⟨.int i, H, I.tok _, ⟨_, rfl⟩, h⟩
theorem pe_bl {b j pos} : PE X (.Constant (.bool b) j pos) (tC (.bl b)) := fun _ _ _ H _ I h => Constant_bool ⟨.bl b, H, I, rfl, h⟩
theorem pe_non {j pos} : PE X (.Constant .none j pos) (tC .non) := fun _ _ _ H _ I h => Constant_none ⟨.non, H, I, rfl, h⟩
noncomputable def Gl (X : Cx) (x : Str) : Prop := X.env.kindOf x = some .globalImplicit
theorem ld_glob {E : Value → Shared → Prop} {pins : List (Addr × Obj)} {s : Shared} {σ : St} {H : Hp} {x : Str} {u : Value} {pos : Pos} {Q : Value → Shared → Prop} (I : Inv X pins σ H s) (hg : Gl X x) (hm : X.mg x = some u) (h : Q u s)
    (hd : (x == ("__debug__" : Str)) = false := by decide) : wpAny (model X.prog X.w) X.A (eval (.Name x pos) X.env) Q E s :=
  Calls.Name_function_global I.ok.kind hg (Calls.loadGlobal_global (by rw [I.ok.glob]; exact I.mod.glob.keeps I.bk) hm h) hd
theorem ld_blt {E : Value → Shared → Prop} {pins : List (Addr × Obj)} {s : Shared} {σ : St} {H : Hp} {x : Str} {u : Value} {pos : Pos} {Q : Value → Shared → Prop} (I : Inv X pins σ H s) (hg : Gl X x) (hm : X.mg x = none) (hv : bootBuiltins x = some u) (h : Q u s)
    (hn : x ≠ "__name__" := by decide) (hd : (x == ("__debug__" : Str)) = false := by decide) : wpAny (model X.prog X.w) X.A (eval (.Name x pos) X.env) Q E s := by
  obtain ⟨mb, h1, h2⟩ := I.mod.blt
  exact Calls.Name_function_global I.ok.kind hg (Calls.loadGlobal_builtin (by rw [I.ok.glob]; exact I.mod.glob.keeps I.bk) hm (by rw [I.ok.blt]; exact h1.keeps I.bk) ((h2 x hn).trans hv) h) hd
theorem pe_glob {x : Str} {v : V} {u : Value} {pos : Pos} (hg : Gl X x) (hm : X.mg x = some u) (r : RelV v u) (hd : (x == ("__debug__" : Str)) = false := by decide) : PE X (.Name x pos) (tC v) :=
  fun _ _ _ H _ I h => ld_glob I hg hm ⟨v, H, I, r, h⟩ hd
theorem pe_bltn {x : Str} {v : V} {u : Value} {pos : Pos} (hg : Gl X x) (hm : X.mg x = none) (hv : bootBuiltins x = some u) (r : RelV v u) (hn : x ≠ "__name__" := by decide) (hd : (x == ("__debug__" : Str)) = false := by decide) : PE X (.Name x pos) (tC v) :=
  fun _ _ _ H _ I h => ld_blt I hg hm hv ⟨v, H, I, r, h⟩ hn hd
variable {a b : Expr} {ta tb : TE} {pos : Pos}
noncomputable def tB (t : TE) : TT := fun σ H Q => t σ H fun x H1 => ∃ c, x = .bl c ∧ Q c H1
theorem pt_val {e : Expr} {t : TE} (h : PE X e t) (he : ∀ whole, isTrue e X.env whole = (do let v ← whole; standAt e.pos; holding [v] (truthy v)) := by intro _; rfl) : PT X e (tB t) := by
  intro pins s σ H Q I hw
  refine isTrue_plain (thn (h pins s σ H _ I hw) fun v s1 ⟨x, H1, I1, r1, q1⟩ => ?_) (he _)
  obtain ⟨d, rfl, q⟩ := q1
  cases r1
  exact wpAny_truthy_bool ⟨H1, I1, q⟩
variable {tA tB' : TT} {rest : List Expr}
noncomputable def tAnd (t u : TT) : TT := fun σ H Q => t σ H fun c H1 => if c = true then u σ H1 Q else Q false H1
noncomputable def tOr (t u : TT) : TT := fun σ H Q => t σ H fun c H1 => if c = true then Q true H1 else u σ H1 Q
noncomputable def tNot (t : TT) : TT := fun σ H Q => t σ H fun c H1 => Q (!c) H1
theorem pw_and1 (ha : PT X a tA) : PW X (.BoolOp .And [a] pos) tA := by
  intro wh pins s σ H Q I h
  refine isTrue_and (thn (ha pins s σ H Q I h) fun c s1 e => ?_)
  cases c with
  | true => exact isTrue_and_nil e
  | false => exact e
theorem pw_or1 (ha : PT X a tA) : PW X (.BoolOp .Or [a] pos) tA := by
  intro wh pins s σ H Q I h
  refine isTrue_or (thn (ha pins s σ H Q I h) fun c s1 e => ?_)
  cases c with
  | false => exact isTrue_or_nil e
  | true => exact e
theorem pw_and (ha : PT X a tA) (hb : PW X (.BoolOp .And (b :: rest) pos) tB') : PW X (.BoolOp .And (a :: b :: rest) pos) (tAnd tA tB') := by
  intro wh pins s σ H Q I h
  refine isTrue_and (thn (ha pins s σ H _ I h) fun c s1 zq => ?_)
  obtain ⟨H1, I1, q1⟩ := zq
  cases c with
  | true => exact hb wh pins s1 σ H1 Q I1 q1
  | false => exact ⟨H1, I1, q1⟩
theorem pw_or (ha : PT X a tA) (hb : PW X (.BoolOp .Or (b :: rest) pos) tB') : PW X (.BoolOp .Or (a :: b :: rest) pos) (tOr tA tB') := by
  intro wh pins s σ H Q I h
  refine isTrue_or (thn (ha pins s σ H _ I h) fun c s1 zq => ?_)
  obtain ⟨H1, I1, q1⟩ := zq
  cases c with
  | true => exact ⟨H1, I1, q1⟩
  | false => exact hb wh pins s1 σ H1 Q I1 q1
theorem pt_not (ha : PT X a tA) : PT X (.UnaryOp .Not a pos) (tNot tA) := by
  intro pins s σ H Q I h
  exact isTrue_not (ha pins s σ H (fun c H1 => Q (!c) H1) I h)
noncomputable def tAndV (ta tb : TE) : TE := fun σ H Q => ta σ H fun x H1 => ∃ c, x = .bl c ∧ if c = true then tb σ H1 Q else Q (.bl false) H1
noncomputable def tNotV (ta : TE) : TE := fun σ H Q => ta σ H fun x H1 => ∃ c, x = .bl c ∧ Q (.bl (!c)) H1
theorem pe_one {op} {t : TE} (h : PE X a t) : PE X (.BoolOp op [a] pos) t := fun pins s σ H Q I hw => BoolOp_one (h pins s σ H Q I hw)
theorem pe_and (ha : PE X a ta) (hb : PE X (.BoolOp .And (b :: rest) pos) tb) : PE X (.BoolOp .And (a :: b :: rest) pos) (tAndV ta tb) := by
  intro pins s σ H Q I h
  refine BoolOp_and (thn (ha pins s σ H _ I h) fun v s1 zq => ?_)
  obtain ⟨x, H1, I1, r1, q1⟩ := zq
  obtain ⟨c, rfl, q1⟩ := q1
  cases r1
  refine wpAny_truthy_bool ?_
  cases c with
  | true => exact hb pins s1 σ H1 Q I1 q1
  | false => exact ⟨.bl false, H1, I1, rfl, q1⟩
theorem pe_not (ha : PE X a ta) : PE X (.UnaryOp .Not a pos) (tNotV ta) := by
  intro pins s σ H Q I h
  refine UnaryOp_ (thn (ha pins s σ H _ I h) fun v s1 zq => ?_)
  obtain ⟨x, H1, I1, r1, q1⟩ := zq
  obtain ⟨c, rfl, q1⟩ := q1
  cases r1
  exact not_of (wpAny_truthy_bool ⟨.bl (!c), H1, I1, rfl, q1⟩)
noncomputable def tIf (t : TT) (ta tb : TE) : TE := fun σ H Q => t σ H fun c H1 => if c = true then ta σ H1 Q else tb σ H1 Q
theorem pe_ifExp {c : Expr} (hc : PT X c tA) (ha : PE X a ta) (hb : PE X b tb) : PE X (.IfExp c a b pos) (tIf tA ta tb) := by
  intro pins s σ H Q I h
  refine wpAny_IfExp (thn (hc pins s σ H _ I h) fun d s1 zq => ?_)
  obtain ⟨H1, I1, q1⟩ := zq
  cases d with
  | true => exact ha pins s1 σ H1 Q I1 q1
  | false => exact hb pins s1 σ H1 Q I1 q1
end
end L2
namespace L2
open PySem PySem.Spec PyProof.Rows
noncomputable def SqL (K : PySem.W.Frag) (H : Hp) (a : Addr) (xs : List V) : Prop :=
  Rd H a (.lst xs) ∨
    ∃ (o : Obj) (its : Array Value) (n : Nat), K.lookup a = some o ∧ o.cls = .type "list" ∧ o.dict = none ∧ o.data = .seq its n ∧ its.size ≤ sizeLine ∧ Vals xs its.toList
noncomputable def SqT (K : PySem.W.Frag) (H : Hp) (a : Addr) (xs : List V) : Prop :=
  Rd H a (.tup xs) ∨
    ∃ (o : Obj) (its : Array Value) (n : Nat), K.lookup a = some o ∧ o.cls = .type "tuple" ∧ o.data = .seq its n ∧ its.size ≤ sizeLine ∧ Vals xs its.toList
noncomputable def absV : Value → Option V
  | .none => some .non
  | .bool b => some (.bl b)
  | .int i _ => some (.int i)
  | .str x _ => some (.str x)
  | .bytes b _ => some (.byt b)
  | .float b _ => some (.flt b)
  | .ref a => some (.ref a)
  | .type n => some (.ty n)
  | _ => none
theorem RelV.abs {x : V} {u : Value} (r : RelV x u) : absV u = some x := by
  cases x with
  | non => cases r; rfl
  | bl _ => cases r; rfl
  | int _ => obtain ⟨t, rfl⟩ := r; rfl
  | str _ => obtain ⟨t, rfl⟩ := r; rfl
  | byt _ => obtain ⟨t, rfl⟩ := r; rfl
  | flt _ => obtain ⟨t, rfl⟩ := r; rfl
  | ref _ => cases r; rfl
  | ty _ => cases r; rfl
theorem RelV.inj {x y : V} {u : Value} (r : RelV x u) (q : RelV y u) : x = y := Option.some.inj (r.abs.symm.trans q.abs)
theorem Vals.inj : ∀ {xs ys : List V} {us : List Value}, Vals xs us → Vals ys us → xs = ys
  | _, _, _, .nil, .nil => rfl
  | _, _, _, .cons r t, .cons r' t' => by rw [r.inj r', Vals.inj t t']
section
variable {X : Cx} {pins : List (Addr × Obj)} {σ : St} {H : Hp} {s : Shared} {a : Addr} {xs ys : List V}
theorem SqL.of {K : PySem.W.Frag} (h : H a = some (.lst xs)) : SqL K H a xs := .inl (.inl h)
theorem SqT.of {K : PySem.W.Frag} (h : H a = some (.tup xs)) : SqT K H a xs := .inl (.inl h)
theorem Inv.list (I : Inv X pins σ H s) (h : SqL X.K H a xs) : ∃ its : List Value, Vals xs its ∧ PlainL s.heap a its.toArray ∧ xs.length ≤ sizeLine := by
  rcases h with h | ⟨o, its, n, hk, hc, hd, hs, hz, r⟩
  · obtain ⟨z, its, n, r, e⟩ := h.ok I.hok
    exact ⟨its, r, ⟨_, n, e, rfl, rfl, rfl⟩, z⟩
  · refine ⟨its.toList, r, ⟨o, n, I.kIn a o hk, hc, hd, by simpa using hs⟩, ?_⟩
    have e := r.length
    simp only [Array.length_toList] at e
    omega
theorem Inv.tuple (I : Inv X pins σ H s) (h : SqT X.K H a xs) : ∃ its : List Value, Vals xs its ∧ IsTup s.heap a its.toArray ∧ xs.length ≤ sizeLine := by
  rcases h with h | ⟨o, its, n, hk, hc, hs, hz, r⟩
  · obtain ⟨z, its, r, p, _⟩ := h.ok I.hok
    exact ⟨its, r, p, z⟩
  · refine ⟨its.toList, r, ⟨o, I.kIn a o hk, hc, n, by simpa using hs⟩, ?_⟩
    have e := r.length
    simp only [Array.length_toList] at e
    omega
theorem Inv.list_inj (I : Inv X pins σ H s) (h : SqL X.K H a xs) (h' : SqL X.K H a ys) : xs = ys := by
  obtain ⟨its, r, ⟨o, n, e, _, _, d⟩, _⟩ := I.list h
  obtain ⟨its', r', ⟨o', n', e', _, _, d'⟩, _⟩ := I.list h'
  rw [e] at e'; cases e'
  rw [d] at d'
  injection d' with d1 _
  have : its = its' := by simpa using congrArg Array.toList d1
  subst this
  exact r.inj r'
theorem Inv.tuple_inj (I : Inv X pins σ H s) (h : SqT X.K H a xs) (h' : SqT X.K H a ys) : xs = ys := by
  obtain ⟨its, r, ⟨o, e, _, n, d⟩, _⟩ := I.tuple h
  obtain ⟨its', r', ⟨o', e', _, n', d'⟩, _⟩ := I.tuple h'
  rw [e] at e'; cases e'
  rw [d] at d'
  injection d' with d1 _
  have : its = its' := by simpa using congrArg Array.toList d1
  subst this
  exact r.inj r'
end
noncomputable abbrev Cx.wish (X : Cx) (E : Value → Shared → Prop) : Cx := { X with xe := E }
noncomputable abbrev Cx.nox (X : Cx) : Cx := X.wish fun _ _ => False
theorem Cx.Ok.wish {X : Cx} (ok : X.Ok) (E : Value → Shared → Prop) : (X.wish E).Ok :=
  ⟨ok.mod, ok.kind, ok.glob, ok.blt, ok.above, ok.inj, ok.has, ok.cab, ok.hd, ok.frames, ok.stk, ok.exf, ok.bs, ok.bsz, ok.noex, ok.exfs, ok.funs, ok.frf⟩
theorem Cx.Ok.unwish {X : Cx} {E : Value → Shared → Prop} (ok : (X.wish E).Ok) : X.Ok :=
  ⟨ok.mod, ok.kind, ok.glob, ok.blt, ok.above, ok.inj, ok.has, ok.cab, ok.hd, ok.frames, ok.stk, ok.exf, ok.bs, ok.bsz, ok.noex, ok.exfs, ok.funs, ok.frf⟩
section
variable {X : Cx} {pins : List (Addr × Obj)} {σ : St} {H : Hp} {s : Shared} {E : Value → Shared → Prop}
theorem Inv.wish (I : Inv X pins σ H s) (E : Value → Shared → Prop) : Inv (X.wish E) pins σ H s := ⟨I.ok.wish E, I.os, I.bare, I.base, I.loc, I.cell, I.free, I.freeC, I.pin, I.hok, I.len⟩
theorem Inv.unwish (I : Inv (X.wish E) pins σ H s) : Inv X pins σ H s := ⟨I.ok.unwish, I.os, I.bare, I.base, I.loc, I.cell, I.free, I.freeC, I.pin, I.hok, I.len⟩
theorem SP.unwish {D : Ends} {f : Flow} {s' : Shared} (h : SP (X.wish E) pins D f s') : SP X pins D f s' := by
  cases f with
  | next => obtain ⟨σ', H', I, q⟩ := h; exact ⟨σ', H', I.unwish, q⟩
  | brk => obtain ⟨σ', H', I, q⟩ := h; exact ⟨σ', H', I.unwish, q⟩
  | cont => obtain ⟨σ', H', I, q⟩ := h; exact ⟨σ', H', I.unwish, q⟩
  | ret u => obtain ⟨v, σ', H', I, r, q⟩ := h; exact ⟨v, σ', H', I.unwish, r, q⟩
theorem PSs.nox {st : List Stmt} {t : TS} (h : PSs X.nox st t) : PSs X st t := fun pins s σ H D I hw =>
  wpAny_mono (h pins s σ H D (I.wish _) hw) (fun _ _ q => q.unwish) fun _ _ z => False.elim z
end
section
variable {X : Cx} {st : Stmt} {rest : List Stmt} {t u : TS} {e : Expr} {te : TE} {pos : Pos}
noncomputable def tNext : TS := fun D σ H => D.nx σ H
noncomputable def tSeq (t u : TS) : TS := fun D σ H => t { D with nx := u D } σ H
theorem pss_nil : PSs X [] tNext := fun _ _ σ H _ I h => wpAny_execs_nil ⟨σ, H, I, h⟩
theorem pss_cons (h1 : PS X st t) (h2 : PSs X rest u) : PSs X (st :: rest) (tSeq t u) := by
  intro pins s σ H D I h
  refine wpAny_execs_cons (thn (h1 pins s σ H { D with nx := u D } I h) fun f s1 q => ?_)
  cases f with
  | next =>
    obtain ⟨σ', H', I', q⟩ := q
    exact h2 pins s1 σ' H' D I' q
  | ret v => exact q
  | brk => exact q
  | cont => exact q
theorem pss_one (h1 : PS X st t) : PSs X [st] t := by
  intro pins s σ H D I h
  refine wpAny_execs_cons (thn (h1 pins s σ H D I h) fun f s1 q => ?_)
  cases f with
  | next => exact wpAny_execs_nil q
  | ret v => exact q
  | brk => exact q
  | cont => exact q
theorem Inv.quiet {pins : List (Addr × Obj)} {σ : St} {H : Hp} {s : Shared} (I : Inv X pins σ H s) : interactive X.env = false := by simp [interactive, I.ok.kind]
noncomputable def tDrop (te : TE) : TS := fun D σ H => te σ H fun _ H1 => D.nx σ H1
theorem ps_expr (he : PE X e te) (hs : swapsWith e none pos.line X.env = pure false := by rfl) : PS X (.Expr e pos) (tDrop te) := by
  intro pins s σ H D I h
  exact wpAny_Expr_any (thn (he pins s σ H _ I h) fun v s1 ⟨x, H1, I1, r1, q1⟩ => ⟨σ, H1, I1, q1⟩) I.quiet hs
noncomputable def tRet (te : TE) : TS := fun D σ H => te σ H D.rt
theorem ps_ret (he : PE X e te) : PS X (.Return (some e) pos) (tRet te) := by
  intro pins s σ H D I h
  exact wpAny_Return_some (thn (he pins s σ H _ I h) fun v s1 ⟨x, H1, I1, r1, q1⟩ => ⟨x, σ, H1, I1, r1, q1⟩)
noncomputable def tIfS (c : TT) (t u : TS) : TS := fun D σ H => c σ H fun b H1 => if b = true then t D σ H1 else u D σ H1
theorem ps_if {c : Expr} {a b : List Stmt} {tc : TT} (hc : PT X c tc) (ha : PSs X a t) (hb : PSs X b u) : PS X (.If c a b pos) (tIfS tc t u) := by
  intro pins s σ H D I h
  refine wpAny_If (thn (hc pins s σ H _ I h) fun d s1 zq => ?_)
  obtain ⟨H1, I1, q1⟩ := zq
  cases d with
  | true => exact ha pins s1 σ H1 D I1 q1
  | false => exact hb pins s1 σ H1 D I1 q1
noncomputable def tNever : TS := fun _ _ _ => False
theorem ps_never : PS X st tNever := fun _ _ _ _ _ _ h => h.elim
end
noncomputable abbrev TG := V → St → Hp → (St → Hp → Prop) → Prop
noncomputable abbrev TGs := List V → St → Hp → (St → Hp → Prop) → Prop
noncomputable def PG (X : Cx) (target : Expr) (t : TG) : Prop :=
  ∀ (pins : List (Addr × Obj)) (s : Shared) (σ : St) (H : Hp) (v : V) (u : Value) (Q : St → Hp → Prop), Inv X pins σ H s → RelV v u → t v σ H Q →
    wpAny (model X.prog X.w) X.A (assign target X.env u) (fun _ s' => ∃ σ' H', Inv X pins σ' H' s' ∧ Q σ' H') X.xe s
noncomputable def PGs (X : Cx) (ts : List Expr) (t : TGs) : Prop :=
  ∀ (pins : List (Addr × Obj)) (s : Shared) (σ : St) (H : Hp) (vs : List V) (us : List Value) (Q : St → Hp → Prop), Inv X pins σ H s → Vals vs us → t vs σ H Q →
    wpAny (model X.prog X.w) X.A (assignInOrder ((assignEach ts X.env).map (·.2)) us) (fun _ s' => ∃ σ' H', Inv X pins σ' H' s' ∧ Q σ' H') X.xe s
noncomputable abbrev TSet := V → V → V → Hp → (Hp → Prop) → Prop
noncomputable def PSet (X : Cx) (t : TSet) : Prop :=
  ∀ (pins : List (Addr × Obj)) (s : Shared) (σ : St) (H : Hp) (o i v : V) (ov iv u : Value) (Q : Hp → Prop), Inv X pins σ H s → RelV o ov → RelV i iv → RelV v u → t o i v H Q →
    wpAny (model X.prog X.w) X.A (setItem ov iv u) (fun _ s' => ∃ H', Inv X pins σ H' s' ∧ Q H') X.xe s
section
variable {X : Cx} {pos : Pos}
noncomputable def gName (i : Nat) : TG := fun v σ H Q => Q (σ.set i (some v)) H
theorem pg_name {i : Nat} {x : Str} (hN : X.N.Nodup) (hi : X.N[i]? = some x) (hx : Loc X.env.scope x) (hf : X.fn x = true ∨ X.env.scope.names.lookup x = some .local := by first | exact .inl rfl | exact .inr rfl | assumption) : PG X (.Name x pos) (gName i) := by
  intro pins s σ H v u Q I r h
  exact wpAny_assign_Name (store_ok I hN hi hx r (fun s' I' => ⟨_, H, I', h⟩) hf)
noncomputable def gNil : TGs := fun vs σ H Q => vs = [] ∧ Q σ H
noncomputable def gCons (t : TG) (u : TGs) : TGs := fun vs σ H Q => ∃ v r, vs = v :: r ∧ t v σ H fun σ' H' => u r σ' H' Q
theorem pgs_nil : PGs X [] gNil := by
  intro pins s σ H vs us Q I r h
  obtain ⟨e, h⟩ := h
  subst e
  cases r
  exact assignInOrder_nil ⟨σ, H, I, h⟩
theorem pgs_cons {e : Expr} {es : List Expr} {t : TG} {u : TGs} (h1 : PG X e t) (h2 : PGs X es u)
    (hs : (assignEach (e :: es) X.env).map (·.2) = assign e X.env :: (assignEach es X.env).map (·.2) := by rfl) : PGs X (e :: es) (gCons t u) := by
  intro pins s σ H vs us Q I r h
  obtain ⟨v, vr, e1, h⟩ := h
  subst e1
  cases r with
  | cons r rr =>
    rw [hs]
    refine assignInOrder_cons (thn (h1 pins s σ H _ _ _ I r h) fun _ s1 zq => ?_)
    obtain ⟨σ1, H1, I1, q1⟩ := zq
    exact h2 pins s1 σ1 H1 _ _ Q I1 rr q1
noncomputable def gTup (K : PySem.W.Frag) (n : Nat) (t : TGs) : TG := fun v σ H Q => ∃ a xs, v = .ref a ∧ SqT K H a xs ∧ xs.length = n ∧ t xs σ H Q
theorem pg_tup {es : List Expr} {k : Nat} {t : TGs} {n : Nat} (hc : X.calm = true) (h : PGs X es t)
    (hn : (assignEach es X.env).length = n := by rfl) (hst : (assignEach es X.env).findIdx? (·.1) = none := by rfl) : PG X (.Tuple es k pos) (gTup X.K n t) := by
  intro pins s σ H v u Q I r hw
  obtain ⟨a, xs, e1, hq, hl, hw⟩ := hw
  subst e1
  cases r
  obtain ⟨its, rv, ht, hz⟩ := I.tuple hq
  refine assign_Tuple_tuple (I.ok.hd hc) ht (by simp [hn, ← hl, rv.length]) hst fun h' hx => ?_
  have I1 : Inv X pins σ H { s with heap := h' } := I.kept (t' := s.toks) fun b o e => hx b o (Nat.ne_of_lt (Heap.lt_size e)) e
  exact h pins _ σ H xs _ Q I1 (by simpa using rv) hw
noncomputable def gSub (to ti : TE) (t : TSet) : TG := fun v σ H Q => to σ H fun o H1 => ti σ H1 fun i H2 => t o i v H2 fun H3 => Q σ H3
theorem pg_sub {o i : Expr} {to ti : TE} {t : TSet} (ho : PE X o to) (hi : PE X i ti) (hs : PSet X t)
    (ha : ∀ v, assign (.Subscript o i pos) X.env v = (do
      let ov ← holding [v] (eval o X.env)
      let iv ← holding [v, ov] (eval i X.env)
      standAt pos
      holding [v, ov, iv] (setItem ov iv v)
      release [v, ov, iv] []) := by intro _; rfl) : PG X (.Subscript o i pos) (gSub to ti t) := by
  intro pins s σ H v u Q I r h
  rw [ha]
  refine wpAny_bind (wpAny_holding (thn (ho pins s σ H _ I h) fun ov s1 zq => ?_))
  obtain ⟨x, H1, I1, r1, q1⟩ := zq
  refine wpAny_bind (wpAny_holding (thn (hi pins s1 σ H1 _ I1 q1) fun iv s2 zq => ?_))
  obtain ⟨y, H2, I2, r2, q2⟩ := zq
  refine wpAny_bind (wpAny_standAt (wpAny_bind (wpAny_holding (thn (hs pins s2 σ H2 x y v ov iv u _ I2 r1 r2 r q2) fun _ s3 zq => ?_))))
  obtain ⟨H3, I3, q3⟩ := zq
  exact wpAny_release ⟨σ, H3, I3, q3⟩
noncomputable def tAsg (te : TE) (g : TG) : TS := fun D σ H => te σ H fun x H1 => g x σ H1 D.nx
theorem ps_asg {tg e : Expr} {te : TE} {g : TG} (he : PE X e te) (hg : PG X tg g) (hs : swapsWithSole [tg] e pos.line X.env = pure false := by rfl) (hw : swappedStores [tg] e X.env = pure none := by rfl)
    (h1 : (assignEach [tg] X.env).map (·.2) = [assign tg X.env] := by rfl) : PS X (.Assign [tg] e pos) (tAsg te g) := by
  intro pins s σ H D I h
  refine wpAny_Assign_stores (thn (he pins s σ H _ I h) fun v s1 ⟨x, H1, I1, r1, q1⟩ => ?_) hs hw
  rw [h1]
  exact thn (hg pins s1 σ H1 x v _ I1 r1 q1) fun _ s2 q => q
theorem ps_set {i : Nat} {x : Str} {e : Expr} {te : TE} {pos' : Pos} (hN : X.N.Nodup) (hi : X.N[i]? = some x) (hx : Loc X.env.scope x) (he : PE X e te) (hs : swapsWith e (some (.Name x pos')) pos.line X.env = pure false := by rfl) (hf : X.fn x = true ∨ X.env.scope.names.lookup x = some .local := by first | exact .inl rfl | exact .inr rfl | assumption) :
    PS X (.Assign [.Name x pos'] e pos) (tAsg te (gName i)) := by
  intro pins s σ H D I h
  refine wpAny_Assign_Name (thn (he pins s σ H _ I h) fun v s1 ⟨y, H1, I1, r1, q1⟩ => ?_) hs
  exact store_ok I1 hN hi hx r1 (fun s2 I2 => ⟨_, H1, I2, q1⟩) hf
end
section
variable {X : Cx} {pos : Pos}
end
structure It where
  go : Nat → Hp → Prop
  yld : Nat → Hp → V → Hp → Prop
  stop : Nat → Hp → Prop
noncomputable def FpOk (X : Cx) (pins : List (Addr × Obj)) (H : Hp) (b : Addr) : Prop :=
  H b = none ∧ b ≠ X.env.locals ∧ b ∉ X.fs ∧ (b ∈ X.ex ∨ X.s₀.heap.objs.size ≤ b) ∧ (∀ x c, X.env.cells.lookup x = some c → c ≠ b) ∧ ∀ p ∈ X.pn ++ pins, p.1 ≠ b
theorem Inv.fpOk {X : Cx} {pins : List (Addr × Obj)} {σ : St} {H H' : Hp} {s : Shared} {b : Addr} (I : Inv X pins σ H s) (hb : s.heap.objs.size ≤ b) (hn : H' b = none) : FpOk X pins H' b := by
  refine ⟨hn, Nat.ne_of_gt (Nat.lt_of_lt_of_le I.lt hb), I.nofs hb, .inr (Nat.le_trans I.sz hb), fun x c e z => ?_, fun p hp z => ?_⟩
  · obtain ⟨v, q⟩ := I.cell x c e
    exact absurd (Nat.lt_of_lt_of_le q.lt (by rw [z]; exact hb)) (Nat.lt_irrefl _)
  · exact absurd (Nat.lt_of_lt_of_le (Heap.lt_size (I.pin p hp).1) (by rw [z]; exact hb)) (Nat.lt_irrefl _)
structure Turn (P : Program) (w : World) (K : PySem.W.Frag) (tg : Expr) (J : It) (fp : List Addr) (it : Addr) (tn : Nat → Heap → Prop) : Prop where
  mem : it ∈ fp
  obj : ∀ i h, tn i h → ∀ b ∈ fp, ∃ o, h.get? b = some o ∧ ∀ v, o.data ≠ .cell v
  keep : ∀ i h h', tn i h → (∀ b ∈ fp, ∀ o, h.get? b = some o → h'.get? b = some o) → tn i h'
  item : ∀ (X : Cx), X.prog = P → X.w = w → X.K = K → X.calm = true → ∀ (i : Nat) (pins : List (Addr × Obj)) (s : Shared) (σ : St) (H : Hp) (E : Value → Shared → Prop), Inv X pins σ H s → (∀ b ∈ fp, FpOk X pins H b) → tn i s.heap → J.go i H →
    wpAny (model P w) X.A (pyNext (.ref it)) (fun r s1 => ∃ u, r = some u ∧
      wpAny (model P w) X.A (letOwnedTupleGo tg (.ref it) u) (fun _ s2 => ∃ x H', Inv X pins σ H' s2 ∧ RelV x u ∧ J.yld i H x H' ∧ tn (i + 1) s2.heap ∧ ∀ b ∈ fp, H' b = none) E s1) E s
  done : ∀ (X : Cx), X.prog = P → X.w = w → X.K = K → X.calm = true → ∀ (i : Nat) (pins : List (Addr × Obj)) (s : Shared) (σ : St) (H : Hp) (E : Value → Shared → Prop), Inv X pins σ H s → (∀ b ∈ fp, FpOk X pins H b) → tn i s.heap → J.stop i H →
    wpAny (model P w) X.A (pyNext (.ref it)) (fun r s1 => r = none ∧ Inv X pins σ H s1) E s
  self : ∀ (A : Around) (i : Nat) (s : Shared) (Q : Value → Shared → Prop) (E : Value → Shared → Prop), tn i s.heap → Q (.ref it) s → wpAny (model P w) A (pyIter (.ref it)) Q E s
noncomputable abbrev TI := St → Hp → (It → Hp → Prop) → Prop
noncomputable def PIE (X : Cx) (pins : List (Addr × Obj)) (σ : St) (tg : Expr) (R : It → Hp → Prop) (itv : Value) (s2 : Shared) : Prop :=
  ∃ (it : Addr) (fp : List Addr) (tn : Nat → Heap → Prop) (J : It) (H' : Hp), itv = .ref it ∧ Inv X pins σ H' s2 ∧ Turn X.prog X.w X.K tg J fp it tn ∧ tn 0 s2.heap ∧ (∀ b ∈ fp, FpOk X pins H' b) ∧ R J H'
noncomputable def PI (X : Cx) (tg iter : Expr) (wi : TI) : Prop :=
  ∀ (pins : List (Addr × Obj)) (s : Shared) (σ : St) (H : Hp) (R : It → Hp → Prop), Inv X pins σ H s → wi σ H R →
    wpAny (model X.prog X.w) X.A (eval iter X.env) (fun v s1 => wpAny (model X.prog X.w) X.A (pyIter v) (PIE X pins σ tg R) X.xe s1) X.xe s
theorem go_of {M : Model} {A : Around} {E : Value → Shared → Prop} {s : Shared} {tg : Expr} {it : Addr} {u : Value} {o : Obj} {n : String} {vs : Array Value} {Q : Unit → Shared → Prop} (ho : s.heap.get? it = some o) (hc : o.cls = .type n) (hd : o.data = .fields vs)
    (hn : ["enumerate", "zip", "dict_itemiterator", "dict_reverseitemiterator", "odict_iterator", "itertools.zip_longest", "itertools.pairwise"].contains n = false) (hQ : Q () s) : wpAny M A (letOwnedTupleGo tg (.ref it) u) Q E s := by
  unfold letOwnedTupleGo
  cases tg <;> first
    | exact wpAny_pure hQ
    | (cases u <;> first
        | exact wpAny_pure hQ
        | (refine wpAny_bind (wpAny_load ho ?_)
           rw [hc, hd]
           show wpAny M A (if (["enumerate", "zip", "dict_itemiterator", "dict_reverseitemiterator", "odict_iterator", "itertools.zip_longest", "itertools.pairwise"].contains n && vs[0]? == some (rawInt _)) = true then _ else _) Q E s
           rw [if_neg (by intro h; rw [hn, Bool.false_and] at h; cases h)]
           exact wpAny_pure hQ))
noncomputable def Itl (K : PySem.W.Frag) (a : Addr) : It :=
  ⟨fun i H => ∃ xs x, SqL K H a xs ∧ xs[i]? = some x, fun i H x H' => H' = H ∧ ∀ xs, SqL K H a xs → xs[i]? = some x, fun i H => ∃ xs, SqL K H a xs ∧ xs.length ≤ i⟩
noncomputable def Itt (K : PySem.W.Frag) (a : Addr) : It :=
  ⟨fun i H => ∃ xs x, SqT K H a xs ∧ xs[i]? = some x, fun i H x H' => H' = H ∧ ∀ xs, SqT K H a xs → xs[i]? = some x, fun i H => ∃ xs, SqT K H a xs ∧ xs.length ≤ i⟩
noncomputable def Itr (lo : Int) (n : Nat) : It := ⟨fun i _ => i < n, fun i H x H' => H' = H ∧ x = .int (lo + i), fun i _ => n ≤ i⟩
theorem turn_list {P : Program} {w : World} {K : PySem.W.Frag} {tg : Expr} (a it : Addr) : Turn P w K tg (Itl K a) [it] it (fun i h => h.IsListIter it a i) where
  mem := by simp
  obj := fun i h st b hb => by
    have e : b = it := by simpa using hb
    subst e
    obtain ⟨o, e, c, d⟩ := st
    exact ⟨o, e, fun v z => by rw [d] at z; cases z⟩
  keep := fun i h h' st k => st.at fun o e => k it (by simp) o e
  item := by
    intro X hP hw hK hc i pins s σ H E I hf st hg
    subst hP hw hK
    obtain ⟨xs, x, hq, hx⟩ := hg
    obtain ⟨its, rv, p, hz⟩ := I.list hq
    obtain ⟨u, hu, ru⟩ := rv.get hx
    obtain ⟨f0, f1, f2, f3, f4, f5⟩ := hf it (by simp)
    refine wpAny_pyNext_list_item st p.isList (x := u) (by simpa using hu) fun h' st' sb => ?_
    have I1 : Inv X pins σ H { s with heap := h' } := I.turned (t' := s.toks) (fun b o hb e => (sb.2 b hb).trans e) f0 f1 f3 f4 f5
    obtain ⟨o, e, c, d⟩ := id st'
    exact ⟨u, rfl, go_of (s := { s with heap := h' }) e c d (by decide) ⟨x, H, I1, ru, ⟨rfl, fun ys hy => by rw [I.list_inj hy hq]; exact hx⟩, st', fun b hb => (hf b hb).1⟩⟩
  done := by
    intro X hP hw hK hc i pins s σ H E I hf st hg
    subst hP hw hK
    obtain ⟨xs, hq, hx⟩ := hg
    obtain ⟨its, rv, p, hz⟩ := I.list hq
    obtain ⟨f0, f1, f2, f3, f4, f5⟩ := hf it (by simp)
    have hl := rv.length
    exact wpAny_pyNext_list_end (I.ok.hd hc) st p.isList (by simp; omega) fun h' eb => ⟨rfl, I.turned (t' := s.toks) (fun b o hb e => eb b o hb e) f0 f1 f3 f4 f5⟩
  self := fun _ _ _ _ _ st h => wpAny_pyIter_listiter st h
theorem turn_tuple {P : Program} {w : World} {K : PySem.W.Frag} {tg : Expr} (a it : Addr) : Turn P w K tg (Itt K a) [it] it (fun i h => h.IsTupleIter it a i) where
  mem := by simp
  obj := fun i h st b hb => by
    have e : b = it := by simpa using hb
    subst e
    obtain ⟨o, e, c, d⟩ := st
    exact ⟨o, e, fun v z => by rw [d] at z; cases z⟩
  keep := fun i h h' st k => st.at fun o e => k it (by simp) o e
  item := by
    intro X hP hw hK hc i pins s σ H E I hf st hg
    subst hP hw hK
    obtain ⟨xs, x, hq, hx⟩ := hg
    obtain ⟨its, rv, p, hz⟩ := I.tuple hq
    obtain ⟨u, hu, ru⟩ := rv.get hx
    obtain ⟨f0, f1, f2, f3, f4, f5⟩ := hf it (by simp)
    refine wpAny_pyNext_tuple_item st (show s.heap.IsTuple a its.toArray from p) (x := u) (by simpa using hu) fun h' st' sb => ?_
    have I1 : Inv X pins σ H { s with heap := h' } := I.turned (t' := s.toks) (fun b o hb e => (sb.2 b hb).trans e) f0 f1 f3 f4 f5
    obtain ⟨o, e, c, d⟩ := id st'
    exact ⟨u, rfl, go_of (s := { s with heap := h' }) e c d (by decide) ⟨x, H, I1, ru, ⟨rfl, fun ys hy => by rw [I.tuple_inj hy hq]; exact hx⟩, st', fun b hb => (hf b hb).1⟩⟩
  done := by
    intro X hP hw hK hc i pins s σ H E I hf st hg
    subst hP hw hK
    obtain ⟨xs, hq, hx⟩ := hg
    obtain ⟨its, rv, p, hz⟩ := I.tuple hq
    obtain ⟨f0, f1, f2, f3, f4, f5⟩ := hf it (by simp)
    have hl := rv.length
    exact wpAny_pyNext_tuple_end (I.ok.hd hc) st (show s.heap.IsTuple a its.toArray from p) (by simp; omega) fun h' eb => ⟨rfl, I.turned (t' := s.toks) (fun b o hb e => eb b o hb e) f0 f1 f3 f4 f5⟩
  self := fun _ _ _ _ _ st h => wpAny_pyIter_tupleiter st h
theorem turn_range {P : Program} {w : World} {K : PySem.W.Frag} {tg : Expr} (it : Addr) (lo : Int) (n : Nat) : Turn P w K tg (Itr lo n) [it] it (fun i h => IsRangeIter h it (lo + (i : Nat) * 1) ((n : Int) - (i : Nat)) 1) where
  mem := by simp
  obj := fun i h st b hb => by
    have e : b = it := by simpa using hb
    subst e
    exact ⟨_, st, fun v z => by
      have z' : Data.fields _ = Data.cell v := z
      cases z'⟩
  keep := fun i h h' st k => k it (by simp) _ st
  item := by
    intro X hP hw hK hc i pins s σ H E I hf st hg
    subst hP hw hK
    obtain ⟨f0, f1, f2, f3, f4, f5⟩ := hf it (by simp)
    have W := Walks.range (prog := X.prog) (w := X.w) (I.ok.hd hc) it lo 1 n
    refine W.item i s _ _ hg st fun v h' tk hv st' kk => ?_
    obtain ⟨t, rfl⟩ := hv
    have I1 : Inv X pins σ H { s with heap := h', toks := tk } := I.turned (fun b o hb e => kk b o (by simpa using hb) e) f0 f1 f3 f4 f5
    refine ⟨_, rfl, go_of (s := { s with heap := h', toks := tk }) (n := "range_iterator") st' rfl rfl (by decide) ⟨.int (lo + i), H, I1, ⟨t, ?_⟩, ⟨rfl, rfl⟩, st', fun b hb => (hf b hb).1⟩⟩
    rw [Int.mul_one]
  done := by
    intro X hP hw hK hc i pins s σ H E I hf st hg
    subst hP hw hK
    obtain ⟨f0, f1, f2, f3, f4, f5⟩ := hf it (by simp)
    exact wpAny_pyNext_range_end (I.ok.hd hc) st (by have : n ≤ i := hg; omega) fun h' eb => ⟨rfl, I.turned (t' := s.toks) (fun b o hb e => eb b o hb e) f0 f1 f3 f4 f5⟩
  self := fun _ _ _ _ _ st h => wpAny_pyIter_rangeiter st h
end L2
namespace L2
open PySem PySem.Spec PyProof.Rows
section
variable {X : Cx} {tg : Expr}
theorem range_it {pins : List (Addr × Obj)} {σ : St} {H : Hp} {s : Shared} {R : It → Hp → Prop} {E : Value → Shared → Prop} {lo hi : Int} {t u v : Tok} {tk : Nat} (I : Inv X pins σ H s) (h1 : -(2 ^ 62) ≤ lo) (h2 : lo < 2 ^ 62) (h3 : -(2 ^ 62) ≤ hi) (h4 : hi < 2 ^ 62)
    (q : R (Itr lo (hi - lo).toNat) H) : wpAny (model X.prog X.w) X.A (pyIter (.ref s.heap.objs.size)) (PIE X pins σ tg R) E { s with heap := s.heap.push { cls := .type "range", data := .fields #[.int lo t, .int hi u, .int 1 v] }, toks := tk } := by
  refine wpAny_pyIter_range (IsRange.new ..) (small_one h1 h2 h3 h4) ?_
  have I1 : Inv X pins σ H { s with heap := s.heap.push { cls := .type "range", data := .fields #[.int lo t, .int hi u, .int 1 v] }, toks := tk } := I.kept fun b o e => Heap.get?_push_of_some _ e
  refine ⟨(s.heap.push { cls := .type "range", data := .fields #[.int lo t, .int hi u, .int 1 v] }).objs.size, [(s.heap.push { cls := .type "range", data := .fields #[.int lo t, .int hi u, .int 1 v] }).objs.size], _, _, H, rfl,
    I1.kept (t' := tk) fun b o e => Heap.get?_push_of_some _ e, turn_range _ lo (hi - lo).toNat, ?_, fun b hb => ?_, q⟩
  · have e1 : lo + ((0 : Nat) : Int) * 1 = lo := by simp
    have e2 : (((hi - lo).toNat : Nat) : Int) - ((0 : Nat) : Int) = Builtin.Range.rangeSize lo hi 1 := by rw [rangeSize_one]; split <;> omega
    show IsRangeIter _ _ (lo + ((0 : Nat) : Int) * 1) ((((hi - lo).toNat : Nat) : Int) - ((0 : Nat) : Int)) 1
    rw [e1, e2]
    exact Heap.get?_push_size _ rfl
  · have e : b = (s.heap.push { cls := .type "range", data := .fields #[.int lo t, .int hi u, .int 1 v] }).objs.size := by simpa using hb
    subst e
    exact I1.fpOk (Nat.le_refl _) (I1.hok.fresh (Nat.le_refl _))
noncomputable def iRng1 (ta : TA) : TI := fun σ H R => ta σ H fun vs H1 => ∃ j : Int, vs = [.int j] ∧ -(2 ^ 62) ≤ j ∧ j < 2 ^ 62 ∧ R (Itr 0 j.toNat) H1
noncomputable def iRng2 (ta : TA) : TI := fun σ H R => ta σ H fun vs H1 => ∃ i j : Int, vs = [.int i, .int j] ∧ (-(2 ^ 62) ≤ i ∧ i < 2 ^ 62 ∧ -(2 ^ 62) ≤ j ∧ j < 2 ^ 62) ∧ R (Itr i (j - i).toNat) H1
theorem pi_range1 {a : Expr} {ta : TA} {p pos : Pos} (hg : Gl X "range") (hm : X.mg "range" = none) (ha : PA X [a] ta) (hs : starEach [a] X.env = [(false, eval a X.env)] := by rfl) : PI X tg (.Call (.Name "range" p) [a] [] pos) (iRng1 ta) := by
  intro pins s σ H R I h
  refine Call_ (ld_blt I hg hm boot_range (PyProof.Rows.callWith_type1 (thn (ha pos pins s σ H _ I h) fun us s1 ⟨vs, H1, I1, r1, q1⟩ => ?_) hs rfl))
  obtain ⟨j, e, q1, q2, q⟩ := q1
  subst e
  cases r1 with
  | cons r rr =>
    cases rr
    obtain ⟨t, rfl⟩ := r
    exact call_range_1 (range_it I1 (by omega) (by omega) q1 q2 (by simpa using q))
theorem pi_range2 {a b : Expr} {ta : TA} {p pos : Pos} (hg : Gl X "range") (hm : X.mg "range" = none) (ha : PA X [a, b] ta) (hs : starEach [a, b] X.env = [(false, eval a X.env), (false, eval b X.env)] := by rfl) (hs2 : starEach [b] X.env = [(false, eval b X.env)] := by rfl) :
    PI X tg (.Call (.Name "range" p) [a, b] [] pos) (iRng2 ta) := by
  intro pins s σ H R I h
  refine Call_ (ld_blt I hg hm boot_range (PyProof.Rows.callWith_type1 (thn (ha pos pins s σ H _ I h) fun us s1 ⟨vs, H1, I1, r1, q1⟩ => ?_) (by rw [hs, hs2]) (by rw [hs2]; rfl)))
  obtain ⟨i, j, e, ⟨q1, q2, q3, q4⟩, q⟩ := q1
  subst e
  cases r1 with
  | cons r rr =>
    cases rr with
    | cons r' rr =>
      cases rr
      obtain ⟨t, rfl⟩ := r
      obtain ⟨t', rfl⟩ := r'
      exact call_range_2 (range_it I1 q1 q2 q3 q4 q)
noncomputable def tFor (wi : TI) (g : TG) (tb : TS) : TS := fun D σ H => wi σ H fun J H1 => ∃ W : Nat → Nat → St → Hp → Prop, (∃ m, W 0 m σ H1) ∧ ∀ i m σ H, W i m σ H →
  (J.stop i H ∧ D.nx σ H) ∨ (J.go i H ∧ ∃ N : St → Hp → Prop, (∀ σ' H', N σ' H' → ∃ m', m' < m ∧ W (i + 1) m' σ' H') ∧ ∀ x H', J.yld i H x H' → g x σ H' fun σ2 H2 => tb { D with nx := N, ct := N, bk := D.nx } σ2 H2)
noncomputable def pinsAt (fp : List Addr) (h : Heap) : List (Addr × Obj) := fp.filterMap fun b => (h.get? b).map fun o => (b, o)
theorem mem_pinsAt {fp : List Addr} {h : Heap} {b : Addr} {o : Obj} (hb : b ∈ fp) (e : h.get? b = some o) : (b, o) ∈ pinsAt fp h := List.mem_filterMap.mpr ⟨b, hb, by rw [e]; rfl⟩
theorem of_pinsAt {fp : List Addr} {h : Heap} {p : Addr × Obj} (hp : p ∈ pinsAt fp h) : p.1 ∈ fp ∧ h.get? p.1 = some p.2 := by
  obtain ⟨b, hb, e⟩ := List.mem_filterMap.mp hp
  cases q : h.get? b with
  | none => rw [q] at e; cases e
  | some o =>
    rw [q] at e
    have e' : (b, o) = p := Option.some.inj e
    subst e'
    exact ⟨hb, q⟩
theorem Inv.pinned {pins : List (Addr × Obj)} {σ : St} {H : Hp} {s : Shared} {fp : List Addr} (I : Inv X pins σ H s) (hf : ∀ b ∈ fp, FpOk X pins H b) (ho : ∀ b ∈ fp, ∃ o, s.heap.get? b = some o ∧ ∀ v, o.data ≠ .cell v) : Inv X (pins ++ pinsAt fp s.heap) σ H s :=
  I.pins_of fun p hp => (List.mem_append.mp hp).elim (fun z => I.pin p (List.mem_append_right _ z)) fun z => by
    obtain ⟨hb, e⟩ := of_pinsAt z
    obtain ⟨f0, f1, f2, _⟩ := hf p.1 hb
    obtain ⟨o, e', d⟩ := ho p.1 hb
    rw [e] at e'; cases e'
    exact ⟨e, f0, f1, f2, d⟩
theorem Inv.unpinned {pins pl : List (Addr × Obj)} {σ : St} {H : Hp} {s : Shared} (I : Inv X (pins ++ pl) σ H s) : Inv X pins σ H s := I.pins_of fun p hp => I.pin p (List.mem_append_right _ (List.mem_append_left _ hp))
theorem ps_for {iter : Expr} {body : List Stmt} {wi : TI} {g : TG} {tb : TS} {pos : Pos} (hp : PassesOwn (model X.prog X.w) X.A X.env X.xe) (hc : X.calm = true) (hi : PI X tg iter wi) (hg : PG X tg g) (hb : PSs X body tb)
    (hs : ∀ x, foldedSetIterable iter X.env x = pure x := by intro _; rfl) : PS X (.For tg iter body [] pos) (tFor wi g tb) := by
  intro pins s σ H D I h
  refine wpAny_For (thn (hi pins s σ H _ I h) fun v s1 h1 => thn h1 fun itv s2 h2 => ?_) hs
  obtain ⟨it, fp, tn, J, H2, e, I2, T, st2, f2, W, ⟨m0, w0⟩, turn⟩ := h2
  subst e
  -- what stays true of the iterator's objects through the loop
  have stat : ∀ {H' : Hp}, (∀ b ∈ fp, H' b = none) → ∀ b ∈ fp, FpOk X pins H' b := fun hn b hb => ⟨hn b hb, (f2 b hb).2⟩
  refine codeAny_forLoop_any (fun n s' => ∃ i σ' H', Inv X pins σ' H' s' ∧ tn i s'.heap ∧ (∀ b ∈ fp, H' b = none) ∧ W i n σ' H') ?_ m0 ⟨0, σ, H2, I2, st2, fun b hb => (f2 b hb).1, w0⟩
  rintro n s3 ⟨i, σ3, H3, I3, st3, fr3, w3⟩
  rcases turn i n σ3 H3 w3 with ⟨stop, qn⟩ | ⟨go, N, hN, step⟩
  · refine wpAny_passesOwn hp (thn (T.done X rfl rfl rfl hc i pins s3 σ3 H3 X.xe I3 (stat fr3) st3 stop) fun r s4 zq => ?_)
    obtain ⟨hr, I4⟩ := zq
    subst hr
    exact wpAny_execs_nil ⟨σ3, H3, I4, qn⟩
  · refine wpAny_passesOwn hp (thn (T.item X rfl rfl rfl hc i pins s3 σ3 H3 X.xe I3 (stat fr3) st3 go) fun r s4 zq => ?_)
    obtain ⟨u, hr, h4⟩ := zq
    subst hr
    refine wpAny_passesOwn hp (thn h4 fun _ s5 zq => ?_)
    obtain ⟨x, H5, I5, r5, y5, st5, fr5⟩ := zq
    have I5' := I5.pinned (stat fr5) (T.obj _ _ st5)
    refine wpAny_passesOwn hp (thn (hg _ s5 σ3 H5 x u _ I5' r5 (step x H5 y5)) fun _ s6 zq => ?_)
    obtain ⟨σ6, H6, I6, q6⟩ := zq
    refine wpAny_passesOwn hp (thn (hb _ s6 σ6 H6 _ I6 q6) fun f s7 q7 => ?_)
    have again : ∀ {σ7 : St} {H7 : Hp}, Inv X (pins ++ pinsAt fp s5.heap) σ7 H7 s7 → N σ7 H7 → ∃ m, m < n ∧ ∃ i σ' H', Inv X pins σ' H' s7 ∧ tn i s7.heap ∧ (∀ b ∈ fp, H' b = none) ∧ W i m σ' H' := fun {σ7 H7} I7 n7 => by
      obtain ⟨m', hm, w7⟩ := hN σ7 H7 n7
      refine ⟨m', hm, i + 1, σ7, H7, I7.unpinned, T.keep _ _ _ st5 fun b hb o e => (I7.pin (b, o) (List.mem_append_right _ (List.mem_append_right _ (mem_pinsAt hb e)))).1, fun b hb => ?_, w7⟩
      obtain ⟨o, e, d⟩ := T.obj _ _ st5 b hb
      exact (I7.pin (b, o) (List.mem_append_right _ (List.mem_append_right _ (mem_pinsAt hb e)))).2.1
    cases f with
    | next => obtain ⟨σ7, H7, I7, n7⟩ := q7; exact again I7 n7
    | cont => obtain ⟨σ7, H7, I7, n7⟩ := q7; exact again I7 n7
    | brk => obtain ⟨σ7, H7, I7, q7⟩ := q7; exact ⟨σ7, H7, I7.unpinned, q7⟩
    | ret v => obtain ⟨x7, σ7, H7, I7, r7, q7⟩ := q7; exact ⟨x7, σ7, H7, I7.unpinned, r7, q7⟩
end
end L2
namespace L2
open PySem PySem.Spec PyProof.Rows
noncomputable abbrev R2 := V → V → Hp → VK → Prop
noncomputable def OpR (X : Cx) (f : Value → Value → Sem Value) (r : R2) : Prop :=
  ∀ (pins : List (Addr × Obj)) (s : Shared) (σ : St) (H : Hp) (x y : V) (v u : Value) (Q : VK), Inv X pins σ H s → RelV x v → RelV y u → r x y H Q →
    wpAny (model X.prog X.w) X.A (f v u) (EP X pins σ Q) X.xe s
noncomputable def UnR (X : Cx) (f : Value → Sem Value) (r : V → Hp → VK → Prop) : Prop :=
  ∀ (pins : List (Addr × Obj)) (s : Shared) (σ : St) (H : Hp) (x : V) (v : Value) (Q : VK), Inv X pins σ H s → RelV x v → r x H Q →
    wpAny (model X.prog X.w) X.A (f v) (EP X pins σ Q) X.xe s
noncomputable def CallR (X : Cx) (f : Value) (r : List V → Hp → VK → Prop) : Prop :=
  ∀ (pins : List (Addr × Obj)) (s : Shared) (σ : St) (H : Hp) (xs : List V) (us : List Value) (Q : VK), Inv X pins σ H s → Vals xs us → r xs H Q →
    wpAny (model X.prog X.w) X.A (call f us) (EP X pins σ Q) X.xe s
noncomputable def tOp (r : R2) (ta tb : TE) : TE := fun σ H Q => ta σ H fun x H1 => tb σ H1 fun y H2 => r x y H2 Q
noncomputable def tUn (r : V → Hp → VK → Prop) (ta : TE) : TE := fun σ H Q => ta σ H fun x H1 => r x H1 Q
noncomputable def rI (C : Int → Int → Prop) (g : Int → Int → V) : R2 := fun x y H Q => ∃ i j, x = .int i ∧ y = .int j ∧ C i j ∧ Q (g i j) H
noncomputable def rI0 (g : Int → Int → V) : R2 := fun x y H Q => ∃ i j, x = .int i ∧ y = .int j ∧ Q (g i j) H
noncomputable def rU (g : Int → V) : V → Hp → VK → Prop := fun x H Q => ∃ i, x = .int i ∧ Q (g i) H
section
variable {X : Cx} {a b c : Expr} {ta tb tc : TE} {pos : Pos}
theorem binT (ha : PE X a ta) (hb : PE X b tb) {pins : List (Addr × Obj)} {s : Shared} {σ : St} {H : Hp} {R : V → V → Hp → Prop} (I : Inv X pins σ H s)
    (h : ta σ H fun x H1 => tb σ H1 fun y H2 => R x y H2) {Q : Value → Shared → Prop} {f : Value → Value → Sem Value}
    (hf : ∀ v u s2 x y H2, Inv X pins σ H2 s2 → RelV x v → RelV y u → R x y H2 → wpAny (model X.prog X.w) X.A (f v u) Q X.xe s2) :
    wpAny (model X.prog X.w) X.A (eval a X.env) (fun v s₁ => wpAny (model X.prog X.w) X.A (eval b X.env) (fun u s₂ => wpAny (model X.prog X.w) X.A (f v u) Q X.xe s₂) X.xe s₁) X.xe s := by
  refine thn (ha pins s σ H _ I h) fun v s1 zq => ?_
  obtain ⟨x, H1, I1, r1, q1⟩ := zq
  refine thn (hb pins s1 σ H1 _ I1 q1) fun u s2 zq => ?_
  obtain ⟨y, H2, I2, r2, q2⟩ := zq
  exact hf v u s2 x y H2 I2 r1 r2 q2
theorem pe_op {op : Operator} {r : R2} (ho : OpR X (binaryOp op) r) (ha : PE X a ta) (hb : PE X b tb) : PE X (.BinOp a op b pos) (tOp r ta tb) := by
  intro pins s σ H Q I h
  exact wpAny_BinOp (binT ha hb I h fun v u s2 x y H2 I2 rx ry q => ho pins s2 σ H2 x y v u Q I2 rx ry q)
theorem pe_un {op : UnaryOp} {r : V → Hp → VK → Prop} (ho : UnR X (unaryOp op) r) (ha : PE X a ta) : PE X (.UnaryOp op a pos) (tUn r ta) := by
  intro pins s σ H Q I h
  exact UnaryOp_ (thn (ha pins s σ H _ I h) fun v s1 ⟨x, H1, I1, r1, q1⟩ => ho pins s1 σ H1 x v Q I1 r1 q1)
theorem opI {f : Value → Value → Sem Value} {C : Int → Int → Prop} {g : Int → Int → Int}
    (rule : ∀ (i j : Int) (t u : Tok) (s : Shared) (Q : Value → Shared → Prop) (E : Value → Shared → Prop), C i j → Q (.int (g i j) s.toks) { s with toks := s.toks + 1 } → wpAny (model X.prog X.w) X.A (f (.int i t) (.int j u)) Q E s) :
    OpR X f (rI C fun i j => .int (g i j)) := by
  intro pins s σ H x y v u Q I rx ry h
  obtain ⟨i, j, rfl, rfl, hc, q⟩ := h
  obtain ⟨t, rfl⟩ := rx
  obtain ⟨t', rfl⟩ := ry
  exact rule i j t t' s _ _ hc ⟨.int (g i j), H, I.tok _, ⟨_, rfl⟩, q⟩
theorem opI0 {f : Value → Value → Sem Value} {g : Int → Int → Int}
    (rule : ∀ (i j : Int) (t u : Tok) (s : Shared) (Q : Value → Shared → Prop) (E : Value → Shared → Prop), Q (.int (g i j) s.toks) { s with toks := s.toks + 1 } → wpAny (model X.prog X.w) X.A (f (.int i t) (.int j u)) Q E s) :
    OpR X f (rI0 fun i j => .int (g i j)) := by
  intro pins s σ H x y v u Q I rx ry h
  obtain ⟨i, j, rfl, rfl, q⟩ := h
  obtain ⟨t, rfl⟩ := rx
  obtain ⟨t', rfl⟩ := ry
  exact rule i j t t' s _ _ ⟨.int (g i j), H, I.tok _, ⟨_, rfl⟩, q⟩
theorem opB0 {f : Value → Value → Sem Value} {g : Int → Int → Bool}
    (rule : ∀ (i j : Int) (t u : Tok) (s : Shared) (Q : Value → Shared → Prop) (E : Value → Shared → Prop), Q (.bool (g i j)) s → wpAny (model X.prog X.w) X.A (f (.int i t) (.int j u)) Q E s) :
    OpR X f (rI0 fun i j => .bl (g i j)) := by
  intro pins s σ H x y v u Q I rx ry h
  obtain ⟨i, j, rfl, rfl, q⟩ := h
  obtain ⟨t, rfl⟩ := rx
  obtain ⟨t', rfl⟩ := ry
  exact rule i j t t' s _ _ ⟨.bl (g i j), H, I, rfl, q⟩
noncomputable def CDiv (i j : Int) : Prop := 0 < j ∧ j < 1073741824
noncomputable def CPow (i j : Int) : Prop := 0 ≤ j ∧ j ≤ 1000000 ∧ i.natAbs < 2 ^ 64
noncomputable def CMul (i j : Int) : Prop := (-(2 ^ 64) < i ∧ i < 2 ^ 64) ∨ (-(2 ^ 64) < j ∧ j < 2 ^ 64)
theorem CMul.ok {i j : Int} (h : CMul i j) : IntMulOk i j := by
  rcases h with ⟨h1, h2⟩ | ⟨h1, h2⟩
  · exact .of_left (intBits_le_64 h1 h2)
  · exact .of_right (intBits_le_64 h1 h2)
theorem two_pow_nn (k : Nat) : (0 : Int) ≤ 2 ^ k := by
  rw [two_pow_cast]
  exact Int.natCast_nonneg _
theorem op_add : OpR X (binaryOp .Add) (rI0 fun i j => .int (i + j)) := opI0 fun _ _ _ _ _ _ _ q => add_int q
theorem op_sub : OpR X (binaryOp .Sub) (rI0 fun i j => .int (i - j)) := opI0 fun _ _ _ _ _ _ _ q => sub_int q
theorem op_mul : OpR X (binaryOp .Mult) (rI CMul fun i j => .int (i * j)) := opI fun _ _ _ _ _ _ _ hc q => mul_int q hc.ok
theorem op_fdiv : OpR X (binaryOp .FloorDiv) (rI CDiv fun i j => .int (i / j)) := opI fun i j _ _ _ _ _ hc q => by
  have h1 : (0 : Int) < j := hc.1
  have h2 : j < 1073741824 := hc.2
  exact floordiv_int (by omega) (by rw [Int.fdiv_eq_ediv_of_nonneg i (by omega)]; exact q) (.inl (PyProof.noPylong_small (by omega)))
theorem op_mod : OpR X (binaryOp .Mod) (rI (fun _ j => 0 < j) fun i j => .int (i % j)) := opI fun i j _ _ _ _ _ hc q => by
  have h1 : (0 : Int) < j := hc
  exact mod_int' (by omega) (by rw [Int.fmod_eq_emod_of_nonneg i (by omega)]; exact q)
theorem op_pow : OpR X (binaryOp .Pow) (rI CPow fun i j => .int (i ^ j.toNat)) := opI fun _ _ _ _ _ _ _ hc q => pow_int_small hc.1 hc.2.1 hc.2.2 q
theorem op_shl : OpR X (binaryOp .LShift) (rI CPow fun i j => .int (i * 2 ^ j.toNat)) := opI fun _ _ _ _ _ _ _ hc q => lshift_int_small hc.1 hc.2.1 hc.2.2 q
theorem op_shr : OpR X (binaryOp .RShift) (rI (fun _ j => 0 ≤ j) fun i j => .int (i / 2 ^ j.toNat)) := opI fun i j _ _ _ _ _ hc q =>
  rshift_int hc (by rw [Int.fdiv_eq_ediv_of_nonneg i (two_pow_nn _)]; exact q)
theorem op_and : OpR X (binaryOp .BitAnd) (rI0 fun i j => .int (Builtin.bitAnd i j)) := opI0 fun _ _ _ _ _ _ _ q => and_int q
theorem op_or : OpR X (binaryOp .BitOr) (rI0 fun i j => .int (Builtin.bitOr i j)) := opI0 fun _ _ _ _ _ _ _ q => or_int q
theorem unI {f : Value → Sem Value} {g : Int → Int}
    (rule : ∀ (i : Int) (t : Tok) (s : Shared) (Q : Value → Shared → Prop) (E : Value → Shared → Prop), Q (.int (g i) s.toks) { s with toks := s.toks + 1 } → wpAny (model X.prog X.w) X.A (f (.int i t)) Q E s) :
    UnR X f (rU fun i => .int (g i)) := by
  intro pins s σ H x v Q I rx h
  obtain ⟨i, rfl, q⟩ := h
  obtain ⟨t, rfl⟩ := rx
  exact rule i t s _ _ ⟨.int (g i), H, I.tok _, ⟨_, rfl⟩, q⟩
theorem un_neg : UnR X (unaryOp .USub) (rU fun i => .int (-i)) := unI fun _ _ _ _ _ q => neg_int q
end
section
variable {X : Cx} {a b c : Expr} {ta tb tc : TE} {pos : Pos}
theorem fin_bl {pins : List (Addr × Obj)} {σ : St} {H : Hp} {s : Shared} {Q : VK} {k k' : Bool} (I : Inv X pins σ H s) (q : Q (.bl k) H) (e : k = k') : EP X pins σ Q (.bool k') s := by
  subst e
  exact ⟨.bl k, H, I, rfl, q⟩
theorem op_lt : OpR X (compareOp .Lt) (rI0 fun i j => .bl (decide (i < j))) := opB0 fun _ _ _ _ _ _ _ q => lt_int q
theorem op_le : OpR X (compareOp .LtE) (rI0 fun i j => .bl (decide (i ≤ j))) := opB0 fun _ _ _ _ _ _ _ q => le_int q
theorem op_gt : OpR X (compareOp .Gt) (rI0 fun i j => .bl (decide (j < i))) := opB0 fun _ _ _ _ _ _ _ q => gt_int q
theorem op_isN : OpR X (compareOp .Is) (fun x y H Q => y = .non ∧ Q (.bl (decide (x = .non))) H) := by
  intro pins s σ H x y v u Q I rx ry h
  obtain ⟨rfl, q⟩ := h
  cases ry
  refine is_none_gen (fin_bl I q ?_)
  cases x <;> first
    | (cases rx; rfl)
    | (obtain ⟨t, rfl⟩ := rx; rfl)
theorem op_notN : OpR X (compareOp .IsNot) (fun x y H Q => y = .non ∧ Q (.bl (!decide (x = .non))) H) := by
  intro pins s σ H x y v u Q I rx ry h
  obtain ⟨rfl, q⟩ := h
  cases ry
  refine isnot_none_gen (fin_bl I q ?_)
  cases x <;> first
    | (cases rx; rfl)
    | (obtain ⟨t, rfl⟩ := rx; rfl)
theorem OpR.or {f : Value → Value → Sem Value} {r r' : R2} (h : OpR X f r) (h' : OpR X f r') : OpR X f (fun x y H Q => r x y H Q ∨ r' x y H Q) := by
  intro pins s σ H x y v u Q I rx ry q
  rcases q with q | q
  · exact h pins s σ H x y v u Q I rx ry q
  · exact h' pins s σ H x y v u Q I rx ry q
theorem nomark (b : Expr) {op : CmpOp} (h : op ≠ .In := by decide) (h2 : op ≠ .NotIn := by decide) : behindInMarks op b = false := by
  have e1 : (op == CmpOp.In) = false := by cases op <;> first | rfl | exact absurd rfl h
  have e2 : (op == CmpOp.NotIn) = false := by cases op <;> first | rfl | exact absurd rfl h2
  cases b <;> simp [behindInMarks, e1, e2]
theorem pe_cmpR {op : CmpOp} {r : R2} (ho : OpR X (compareOp op) r) (ha : PE X a ta) (hb : PE X b tb) (hm : behindInMarks op b = false) : PE X (.Compare a [op] [b] pos) (tOp r ta tb) := by
  intro pins s σ H Q I h
  exact wpAny_Compare1 (binT ha hb I h fun v u s2 x y H2 I2 rx ry q => ho pins s2 σ H2 x y v u Q I2 rx ry q) hm
noncomputable def tTest (t : TE) : TT := fun σ H Q => t σ H fun x H' => ∃ k, x = .bl k ∧ Q k H'
theorem pt_cmpR {op : CmpOp} {r : R2} (ho : OpR X (compareOp op) r) (ha : PE X a ta) (hb : PE X b tb) (hm : behindInMarks op b = false) : PT X (.Compare a [op] [b] pos) (tTest (tOp r ta tb)) := by
  intro pins s σ H Q I h
  refine wpAny_isTrue_Compare1 (thn (ha pins s σ H _ I h) fun v s1 ⟨x, H1, I1, r1, q1⟩ => thn (hb pins s1 σ H1 _ I1 q1) fun u s2 ⟨y, H2, I2, r2, q2⟩ =>
    thn (ho pins s2 σ H2 x y v u _ I2 r1 r2 q2) fun c s3 ⟨z, H3, I3, r3, k, e, q3⟩ => ?_) hm
  subst e
  cases r3
  exact wpAny_truthy_bool ⟨H3, I3, q3⟩
noncomputable def tChain (r r' : R2) (ta tb tc : TE) : TE := fun σ H Q => ta σ H fun x H1 => tb σ H1 fun y H2 => r x y H2 fun z H3 => ∃ k, z = .bl k ∧
  (if k = true then tc σ H3 fun w' H4 => r' y w' H4 Q else Q (.bl false) H3)
theorem pe_chain {op op' : CmpOp} {r r' : R2} (ho : OpR X (compareOp op) r) (ho' : OpR X (compareOp op') r') (ha : PE X a ta) (hb : PE X b tb) (hc : PE X c tc)
    (hm : lastMarks [op, op'] [b, c] = false := by with_unfolding_all rfl) : PE X (.Compare a [op, op'] [b, c] pos) (tChain r r' ta tb tc) := by
  intro pins s σ H Q I h
  refine Compare_chain (thn (ha pins s σ H _ I h) fun v s1 ⟨x, H1, I1, r1, q1⟩ => chain_link (thn (hb pins s1 σ H1 _ I1 q1) fun u s2 ⟨y, H2, I2, r2, q2⟩ =>
    thn (ho pins s2 σ H2 x y v u _ I2 r1 r2 q2) fun d s3 ⟨z, H3, I3, r3, k, e, q3⟩ => ?_)) hm
  subst e
  cases r3
  refine wpAny_truthy_bool ?_
  cases k with
  | false => exact ite_ff ⟨.bl false, H3, I3, rfl, q3⟩
  | true => exact ite_tt (chain_last (thn (hc pins s3 σ H3 _ I3 q3) fun w' s4 ⟨z', H4, I4, r4, q4⟩ => ho' pins s4 σ H4 y z' u w' Q I4 r2 r4 q4))
theorem pt_chain {op op' : CmpOp} {r r' : R2} (ho : OpR X (compareOp op) r) (ho' : OpR X (compareOp op') r') (ha : PE X a ta) (hb : PE X b tb) (hc : PE X c tc)
    (hm : lastMarks [op, op'] [b, c] = false := by with_unfolding_all rfl) : PT X (.Compare a [op, op'] [b, c] pos) (tTest (tChain r r' ta tb tc)) := by
  intro pins s σ H Q I h
  refine isTrue_chain (thn (ha pins s σ H _ I h) fun v s1 ⟨x, H1, I1, r1, q1⟩ => test_link (thn (hb pins s1 σ H1 _ I1 q1) fun u s2 ⟨y, H2, I2, r2, q2⟩ =>
    thn (ho pins s2 σ H2 x y v u _ I2 r1 r2 q2) fun d s3 ⟨z, H3, I3, r3, k, e, q3⟩ => ?_)) hm
  subst e
  cases r3
  refine wpAny_truthy_bool ?_
  cases k with
  | false =>
    obtain ⟨k', e', q'⟩ := q3
    cases e'
    exact ite_ff ⟨H3, I3, q'⟩
  | true =>
    refine ite_tt (test_last (thn (hc pins s3 σ H3 _ I3 q3) fun w' s4 ⟨z', H4, I4, r4, q4⟩ => thn (ho' pins s4 σ H4 y z' u w' _ I4 r2 r4 q4) fun d' s5 zq => ?_))
    obtain ⟨z2, H5, I5, r5, k2, e2, q5⟩ := zq
    subst e2
    cases r5
    exact wpAny_truthy_bool ⟨H5, I5, q5⟩
theorem line63 : (sizeLine : Nat) < 2 ^ 63 := by rw [sizeLine_eq]; decide
theorem vals1 {x : V} {us : List Value} (r : Vals [x] us) : ∃ u, us = [u] ∧ RelV x u := by
  cases r with
  | cons r1 r2 => cases r2; exact ⟨_, rfl, r1⟩
theorem vals2 {x y : V} {us : List Value} (r : Vals [x, y] us) : ∃ u w', us = [u, w'] ∧ RelV x u ∧ RelV y w' := by
  cases r with
  | cons r1 r2 =>
    cases r2 with
    | cons r3 r4 => cases r4; exact ⟨_, _, rfl, r1, r3⟩
theorem call_int1 : CallR X (.type "int") (fun xs H Q => (∃ i, xs = [.int i] ∧ Q (.int i) H) ∨ ∃ k, xs = [.bl k] ∧ Q (.int (if k then 1 else 0)) H) := by
  intro pins s σ H xs us Q I r h
  rcases h with ⟨i, rfl, q⟩ | ⟨k, rfl, q⟩
  · obtain ⟨u, rfl, t, rfl⟩ := vals1 r
    exact call_int_int ⟨.int i, H, I, ⟨_, rfl⟩, q⟩
  · obtain ⟨u, rfl, r1⟩ := vals1 r
    cases r1
    exact call_int_bool ⟨.int (if k then 1 else 0), H, I.tok _, ⟨_, rfl⟩, q⟩
end
end L2
namespace L2
open PySem PySem.Spec PyProof.Rows
structure ObjM (h : Heap) (x dx C : Addr) (mA : Str → Option Value) : Prop where
  obj : h.get? x = some (PySem.W.instObj C dx)
  ns : h.Ns1 dx mA
  ne : dx ≠ x
theorem lookIn_ns {h : Heap} {dx : Addr} {mA : Str → Option Value} (n : h.Ns1 dx mA) : ∃ od, h.get? dx = some od ∧ ∀ name, PySem.W.lookIn name od = some (mA name) := by
  obtain ⟨o, es, ep, ho, hd, hk, _, hm⟩ := n
  refine ⟨o, ho, fun name => ?_⟩
  have e := hm name
  unfold nsFind findBy at e
  rw [← Array.find?_toList] at e
  unfold PySem.W.lookIn
  rw [hd]
  dsimp only
  split
  · rename_i y q
    rw [q] at e
    exact congrArg some e
  · rename_i q
    rw [q] at e
    have a : es.toList.any (·.refKey) = false := by
      rw [List.any_eq_false]
      intro y hy
      obtain ⟨z, t, hkey⟩ := hk y (Array.mem_toList_iff.mp hy)
      simp [DictEntry.refKey, hkey]
    have a' : ¬ es.toList.any (·.refKey) = true := by rw [a]; exact Bool.false_ne_true
    rw [if_neg a']
    exact congrArg some e
theorem ObjM.look {h : Heap} {x dx C : Addr} {mA : Str → Option Value} (I : ObjM h x dx C mA) : ∃ od, PySem.W.InstAt h x (PySem.W.instObj C dx) C (some od) ∧ ∀ name, PySem.W.lookIn name od = some (mA name) :=
  let ⟨od, ho, hl⟩ := lookIn_ns I.ns
  ⟨od, ⟨I.obj, rfl, rfl, ho⟩, hl⟩
section
variable {prog : Program} {w : World} {A : Around} {E : Value → Shared → Prop} {s : Shared} {K : PySem.W.Frag} {x dx C f : Addr} {mA : Str → Option Value} {name : Str} {v : Value}
end
theorem RelO.some_of {v : V} {o : Option Value} (r : RelO (some v) o) : ∃ u, o = some u ∧ RelV v u := by
  cases o with
  | none => exact (show False from r).elim
  | some u => exact ⟨u, rfl, r⟩
section
variable {P : Program} {w : World} {H H' : Hp} {h h' : Heap} {a C dx : Addr} {fs fs' : List (Str × V)}
theorem ins_get (hok : HOk P w H h) (e : H a = some (.ins C dx fs)) : ∃ mA, ObjM h a dx C mA ∧ (∀ f, RelO (fs.lookup f) (mA f)) ∧ PySem.Within mA (fs.map (·.1)) ∧ fs.length ≤ 1000 ∧ H dx = some (.own a) := by
  obtain ⟨d, z, ne, ob, mA, n, r, q⟩ := (show ObjOk P w H h a (.ins C dx fs) from hok a _ e)
  exact ⟨mA, ⟨ob, n, ne⟩, r, q, z, d⟩
end
structure Cls (K : PySem.W.Frag) (C : Addr) : Prop where
  pg : PySem.W.plainGet K C Str.empty = true
  hd : PySem.W.hasDictIn K C = true
  po : PySem.W.plainOver K C = true
  sa : PySem.W.findIn K (.ref C) "__setattr__" = some (some (.builtin "object.__setattr__"))
theorem Cls.get {K : PySem.W.Frag} {C : Addr} (c : Cls K C) (f : Str) : PySem.W.plainGet K C f = true := c.pg
structure Con (K : PySem.W.Frag) (C : Addr) (f : Str) (v : V) (u : Value) : Prop where
  at_ : PySem.W.findIn K (.ref C) f = some (some u)
  rel : RelV v u
  get : PySem.W.specialIn K u "__get__" = some none
  cp : PySem.W.copiedNames.contains f = false
structure Meth (K : PySem.W.Frag) (C : Addr) (m : Str) (f : Addr) : Prop where
  at_ : PySem.W.findIn K (.ref C) m = some (some (.ref f))
  fn : PySem.W.isFn K (.ref f) = true
  kp : PySem.W.keepIn K (.ref f) = true
section
variable {X : Cx} {pins : List (Addr × Obj)} {σ : St} {H : Hp} {s : Shared} {a C dx : Addr} {fs : List (Str × V)} {f : Str} {v : V} {A : Around} {E : Value → Shared → Prop}
end
section
variable {X : Cx} {o e value : Expr} {f : Str} {pos pos' tpos : Pos} {ta tv : TE}
end
section
variable {X : Cx} {pins : List (Addr × Obj)} {σ : St} {H : Hp} {s : Shared} {A : Around} {E : Value → Shared → Prop} {Q : Value → Shared → Prop} {c : Value} {b : Bool}
inductive TyOf (K : PySem.W.Frag) (H : Hp) : V → Value → Prop where
  | non : TyOf K H .non (.type "NoneType")
  | bl (x : Bool) : TyOf K H (.bl x) (.type "bool")
  | int (i : Int) : TyOf K H (.int i) (.type "int")
  | str (x : Str) : TyOf K H (.str x) (.type "str")
  | flt (x : UInt64) : TyOf K H (.flt x) (.type "float")
  | lst {a : Addr} {xs : List V} (e : H a = some (.lst xs)) : TyOf K H (.ref a) (.type "list")
  | frz {a : Addr} {o : Obj} {xs : List V} (e : H a = some (.frz o (.lst xs))) : TyOf K H (.ref a) (.type "list")
  | tup {a : Addr} {xs : List V} (e : H a = some (.tup xs)) : TyOf K H (.ref a) (.type "tuple")
  | dK {a : Addr} {kvs : List (Key × V)} (e : H a = some (.dK kvs)) : TyOf K H (.ref a) (.type "dict")
  | dT {a : Addr} {kvs : List (List Key × V)} (e : H a = some (.dT kvs)) : TyOf K H (.ref a) (.type "dict")
  | ins {a C dx : Addr} {fs : List (Str × V)} (e : H a = some (.ins C dx fs)) (cl : Cls K C) (ha : PySem.W.findIn K (.ref C) "__class__" = some (some (.builtin "object.__class__")))
      (hn : PySem.W.specialIn K (.builtin "object.__class__") "__get__" = some (some (.builtin "getset_descriptor.__get__"))) (htk : PySem.W.takesIn K (.builtin "object.__class__") = some true)
      (hm : PySem.W.mroIn K C (.type "object") = some true) : TyOf K H (.ref a) (.ref C)
theorem isinst_ok {x : V} {u t : Value} (I : Inv X pins σ H s) (rx : RelV x u) (ty : TyOf X.K H x t) (e : PySem.W.kitOne X.K t c = some b) (h : ∀ tk, Q (.bool b) { s with toks := tk }) :
    wpAny (model X.prog X.w) A (call (.builtin "isinstance") [u, c]) Q E s := by
  cases ty with
  | non => cases (show u = Value.none from rx); exact PySem.W.kia_one PySem.W.kitx_none I.kIn True.intro e (fun z => nomatch z) h
  | bl y => cases (show u = Value.bool y from rx); exact PySem.W.kia_one PySem.W.kitx_bool I.kIn True.intro e (fun z => nomatch z) h
  | int i => obtain ⟨t, q⟩ := (show ∃ t, u = Value.int i t from rx); cases q; exact PySem.W.kia_one PySem.W.kitx_int I.kIn True.intro e (fun z => nomatch z) h
  | str y => obtain ⟨t, q⟩ := (show ∃ t, u = Value.str y t from rx); cases q; exact PySem.W.kia_one PySem.W.kitx_str I.kIn True.intro e (fun z => nomatch z) h
  | flt y => obtain ⟨t, q⟩ := (show ∃ t, u = Value.float y t from rx); cases q; exact PySem.W.kia_one PySem.W.kitx_float I.kIn True.intro e (fun z => nomatch z) h
  | @lst a xs ea =>
    cases (show u = Value.ref a from rx)
    obtain ⟨_, _, n, _, h1⟩ := (show ObjOk X.prog X.w H s.heap a (.lst xs) from I.hok a _ ea)
    exact PySem.W.kia_one PySem.W.kitx_list I.kIn ⟨_, h1, rfl⟩ e (fun z => nomatch z) h
  | @frz a ob xs ea =>
    cases (show u = Value.ref a from rx)
    obtain ⟨_, _, _, n, _, h1⟩ := (show ObjOk X.prog X.w H s.heap a (.frz ob (.lst xs)) from I.hok a _ ea)
    exact PySem.W.kia_one PySem.W.kitx_list I.kIn ⟨_, h1, rfl⟩ e (fun z => nomatch z) h
  | @tup a xs ea =>
    cases (show u = Value.ref a from rx)
    obtain ⟨_, _, _, p, _⟩ := (show ObjOk X.prog X.w H s.heap a (.tup xs) from I.hok a _ ea)
    obtain ⟨o, h1, h2, _⟩ := p
    exact PySem.W.kia_one PySem.W.kitx_tuple I.kIn ⟨o, h1, h2⟩ e (fun z => nomatch z) h
  | @dK a kvs ea =>
    cases (show u = Value.ref a from rx)
    obtain ⟨_, _, vs, _, p⟩ := (show ObjOk X.prog X.w H s.heap a (.dK kvs) from I.hok a _ ea)
    obtain ⟨o, es, ep, h1, h2, _⟩ := p
    exact PySem.W.kia_one PySem.W.kitx_dict I.kIn ⟨o, h1, h2.1⟩ e (fun z => nomatch z) h
  | @dT a kvs ea =>
    cases (show u = Value.ref a from rx)
    obtain ⟨_, _, xs, _, o, es, ep, h1, h2, _⟩ := (show ObjOk X.prog X.w H s.heap a (.dT kvs) from I.hok a _ ea)
    exact PySem.W.kia_one PySem.W.kitx_dict I.kIn ⟨o, h1, h2.1⟩ e (fun z => nomatch z) h
  | @ins a C dx fs ea cl ha hn htk hm =>
    cases (show u = Value.ref a from rx)
    obtain ⟨mA, O, _⟩ := ins_get I.hok ea
    obtain ⟨od, J, _⟩ := O.look
    exact PySem.W.kia_one (PySem.W.kitx_own (cl.get _) cl.hd ha hn htk hm) I.kIn J e (fun z => nomatch z) h
end
end L2
namespace L2
open PySem PySem.Spec PyProof.Rows
structure Room (k : Nat) (A : Around) : Prop where
  hd : A.handled = none
  dp : A.depth + 3 * k + 5 < recursionLimit
  un : A.units + 16 * k + 200 < cLine
theorem Room.mono {j k : Nat} {A : Around} (r : Room k A) (h : j ≤ k) : Room j A := ⟨r.hd, by have := r.dp; omega, by have := r.un; omega⟩
theorem Room.deeper {k : Nat} {A : Around} (r : Room (k + 1) A) (env : Env) : Room k (A.deeper env) :=
  ⟨r.hd, by have := r.dp; show A.depth + 1 + 3 * k + 5 < _; omega, by have := r.un; show A.units + 3 + 16 * k + 200 < _; omega⟩
theorem Room.depth {k : Nat} {A : Around} (r : Room k A) : A.depth < recursionLimit := by have := r.dp; omega
theorem Room.units {k : Nat} {A : Around} (r : Room k A) : A.units + 64 < cLine := by have := r.un; omega
noncomputable def tNil : TA := fun _ H Q => Q [] H
noncomputable def tCons (ta : TE) (tr : TA) : TA := fun σ H Q => ta σ H fun x H1 => tr σ H1 fun xs H2 => Q (x :: xs) H2
section
variable {X : Cx} {e : Expr} {es : List Expr} {te : TE} {t : TA} {pos : Pos}
theorem pa_nil : PA X [] tNil := fun _ _ _ _ H Q I h => Calls.spliced_nil ⟨[], H, I, .nil, h⟩
theorem pa_cons (ha : PE X e te) (hr : PA X es t) (hs : starEach (e :: es) X.env = (false, eval e X.env) :: starEach es X.env := by rfl) : PA X (e :: es) (tCons te t) := by
  intro pos pins s σ H Q I h
  rw [hs]
  show wpAny _ _ (spliced ((false, eval e X.env) :: backTo pos (starEach es X.env))) _ _ s
  refine Calls.spliced_cons (thn (ha pins s σ H _ I h) fun u s1 zq => ?_)
  obtain ⟨x, H1, I1, r1, q1⟩ := zq
  exact thn (hr pos pins s1 σ H1 _ I1 q1) fun us s2 ⟨xs, H2, I2, r2, q2⟩ => ⟨x :: xs, H2, I2, .cons r1 r2, q2⟩
noncomputable def tTup (t : TA) : TE := fun σ H Q => t σ H fun xs H1 => xs.length ≤ sizeLine ∧ ∀ p, H1 p = none → Q (.ref p) (upd H1 p (.tup xs))
noncomputable def tLst (t : TA) : TE := fun σ H Q => t σ H fun xs H1 => xs.length ≤ sizeLine ∧ ∀ p, H1 p = none → Q (.ref p) (upd H1 p (.lst xs))
theorem pe_tup {x1} (h : PA X es t) : PE X (.Tuple es x1 pos) (tTup t) := by
  intro pins s σ H Q I hq
  refine wpAny_Tuple_spliced (thn (h pos pins s σ H _ I hq) fun us s1 ⟨xs, H1, I1, r, z, q⟩ => ⟨by rw [← r.length]; exact z, ?_⟩)
  have hf : H1 s1.heap.objs.size = none := I1.hok.fresh (Nat.le_refl _)
  refine ⟨.ref s1.heap.objs.size, upd H1 s1.heap.objs.size (.tup xs), I1.laid (t' := s1.toks) (fun b u e => Heap.get?_push_of_some _ e) (Nat.le_refl _) ?_, rfl, q _ hf⟩
  exact ⟨z, us, r, ⟨_, Heap.get?_push_size _ rfl, rfl, _, rfl⟩, _, Heap.get?_push_size _ rfl, rfl⟩
theorem pe_lst (h : PA X es t) : PE X (.List es pos) (tLst t) := by
  intro pins s σ H Q I hq
  refine wpAny_List_spliced (thn (h pos pins s σ H _ I hq) fun us s1 ⟨xs, H1, I1, r, z, q⟩ => ⟨by rw [← r.length]; exact z, ?_⟩)
  have hf : H1 s1.heap.objs.size = none := I1.hok.fresh (Nat.le_refl _)
  refine ⟨.ref s1.heap.objs.size, upd H1 s1.heap.objs.size (.lst xs), I1.laid (t' := s1.toks) (fun b u e => Heap.get?_push_of_some _ e) (Nat.le_refl _) ?_, rfl, q _ hf⟩
  exact ⟨z, us, 0, r, Heap.get?_push_size _ rfl⟩
end
noncomputable abbrev Sp := List V → Hp → VK → XK → Prop
noncomputable abbrev CXT := List Env → Hp → Shared → XK → Value → Shared → Prop
structure Env0 (P : Program) (w : World) (K : PySem.W.Frag) (mg : Str → Option Value) (base : Heap) (A : Around) (outer : List Env) (s : Shared) (H : Hp) : Prop where
  frames : A.frames = some outer
  mod : Mod K mg base
  bs : ∀ b o, base.get? b = some o → s.heap.get? b = some o ∧ H b = none
  bsz : base.objs.size ≤ s.heap.objs.size
  funs : s.heap.FunFrames base outer
  frf : ∀ b ∈ frs outer, H b = none
  hok : HOk P w H s.heap
  bare : AllBare s.gens
noncomputable def CE (outer : List Env) (P : Program) (w : World) (H : Hp) (s : Shared) (Q : VK) (u : Value) (s' : Shared) : Prop :=
  ∃ v H', s'.os = s.os ∧ AllBare s'.gens ∧ Un (frs outer) [] H H' s.heap s'.heap ∧ HOk P w H' s'.heap ∧ RelV v u ∧ Q v H'
noncomputable def CR (CX : CXT) (outer : List Env) (P : Program) (w : World) (H : Hp) (s : Shared) (Q : VK) (E : XK) (r : Result) (s' : Shared) : Prop :=
  match r with
  | .ok (.ret u) => CE outer P w H s Q u s'
  | .ok _ => False
  | .error e => CX outer H s E e s'
structure FnOk (P : Program) (w : World) (K : PySem.W.Frag) (mg : Str → Option Value) (base : Heap) (CX : CXT) (k : Nat) (f : Addr) (fd : FuncData) (ps : List Str) (sp : Sp) : Prop where
  len : ∀ vs H Q E, sp vs H Q E → vs.length = ps.length
  run : ∀ (A : Around) (outer : List Env) (s : Shared) (H : Hp) (args : Args) (us : List Value) (vs : List V) (Q : VK) (E : XK), Room k A → Env0 P w K mg base A outer s H → BindsTo s fd args (ps.zip us) → Vals vs us → sp vs H Q E →
    codeAny (model P w) A (.call (.ref f) args) (CR CX outer P w H s Q E) s
section
variable {X : Cx} {pins : List (Addr × Obj)} {σ : St} {H : Hp} {s s' : Shared}
theorem Inv.env0 (I : Inv X pins σ H s) : Env0 X.prog X.w X.K X.mg X.base X.A X.stack s H :=
  ⟨I.ok.frames, I.ok.mod, I.bs, Nat.le_trans I.ok.bsz I.sz, I.stack, I.stkFree, I.hok, I.bare⟩
theorem Inv.after {Q : VK} {u : Value} (I : Inv X pins σ H s) (h : CE X.stack X.prog X.w H s Q u s') : EP X pins σ Q u s' := by
  obtain ⟨v, H', os, bare, un, hok, r, q⟩ := h
  obtain ⟨hh, g, d, t, os'⟩ := s'
  obtain rfl : os' = s.os := os
  exact ⟨v, H', I.call (h' := hh) (g' := g) (d' := d) (t' := t) (ch := []) un hok bare (fun b z => absurd z (by simp)), r, q⟩
end
noncomputable def tCall (sp : Sp) (dvs : List V) (E : XK) (t : TA) : TE := fun σ H Q => t σ H fun vs H1 => sp (vs ++ dvs) H1 Q E
noncomputable def Binds (K : PySem.W.Frag) (fd : FuncData) (ps : List Str) (ds : List Value) : Prop :=
  ∀ (s : Shared) (us : List Value), K.In s.heap → (us ++ ds).length = ps.length → BindsTo s fd ⟨us, []⟩ (ps.zip (us ++ ds))
theorem Binds.all {K : PySem.W.Frag} {fd : FuncData} {ps : List Str} (h : ∀ us : List Value, us.length = ps.length → bindArgs fd ⟨us, []⟩ = pure (ps.zip us)) : Binds K fd ps [] := fun s us _ hl => by
  rw [List.append_nil] at hl ⊢
  exact .of_eq (h us hl)
noncomputable def Passes (CX : CXT) (X : Cx) (E : XK) : Prop := ∀ (pins : List (Addr × Obj)) (σ : St) (H : Hp) (s : Shared) (e : Value) (s' : Shared), Inv X pins σ H s → CX X.stack H s E e s' → X.xe e s'
section
variable {X : Cx} {CX : CXT} {k : Nat} {f C : Addr} {fd : FuncData} {ps : List Str} {sp : Sp} {dvs : List V} {ds : List Value} {E : XK} {x m : Str} {p pos apos : Pos} {e o : Expr} {es : List Expr} {ta : TE} {t : TA}
theorem run_fn {pins : List (Addr × Obj)} {σ : St} {H : Hp} {s : Shared} {Q : VK} {us : List Value} {vs : List V} (F : FnOk X.prog X.w X.K X.mg X.base CX k f fd ps sp) (hr : Room k X.A) (hb : Binds X.K fd ps ds) (hd : Vals dvs ds) (hx : Passes CX X E)
    (I : Inv X pins σ H s) (r : Vals vs us) (h : sp (vs ++ dvs) H Q E) : wpAny (model X.prog X.w) X.A (call (.ref f) us) (EP X pins σ Q) X.xe s := by
  have r2 : Vals (vs ++ dvs) (us ++ ds) := r.append hd
  have hl : (us ++ ds).length = ps.length := by rw [← r2.length]; exact F.len _ _ _ _ h
  refine wpAny_call (codeAny_mono (F.run X.A X.stack s H ⟨us, []⟩ (us ++ ds) (vs ++ dvs) Q E hr I.env0 (hb s us I.kIn hl) r2 h) fun r s' hq => ?_)
  cases r with
  | error e => exact hx pins σ H s e s' I hq
  | ok fl =>
    cases fl with
    | ret u => exact I.after hq
    | next => exact False.elim hq
    | brk => exact False.elim hq
    | cont => exact False.elim hq
theorem pe_call (F : FnOk X.prog X.w X.K X.mg X.base CX k f fd ps sp) (hr : Room k X.A) (hg : Gl X x) (hm : X.mg x = some (.ref f)) (hk : PySem.W.keepIn X.K (.ref f) = true) (hb : Binds X.K fd ps ds) (hd : Vals dvs ds) (hx : Passes CX X E)
    (ha : PA X (e :: es) t) (hdb : (x == ("__debug__" : Str)) = false := by decide) (he : starEach (e :: es) X.env = (false, eval e X.env) :: starEach es X.env := by rfl) (hpl : (backTo pos (starEach es X.env)).any (·.1) = false := by rfl) :
    PE X (.Call (.Name x p) (e :: es) [] pos) (tCall sp dvs E t) := by
  intro pins s σ H Q I h
  refine wpAny_Call_Name_kw (ld_glob I hg hm ?_ hdb)
  refine PySem.W.callWith_K (h₀ := X.base) I.ok.mod.kin hk (thn (ha pos pins s σ H _ I h) fun us s1 ⟨vs, H1, I1, r, q⟩ => ⟨I1.kIn, ?_⟩) he hpl
  exact run_fn F hr hb hd hx I1 r q
structure Mk (K : PySem.W.Frag) (C f : Addr) : Prop where
  makes : PySem.W.makesIn K C = true
  init : PySem.W.findIn K (.ref C) "__init__" = some (some (.ref f))
  fn : PySem.W.isFn K (.ref f) = true
  kp : PySem.W.keepIn K (.ref C) = true
end
section
variable {X : Cx} {CX : CXT} {k : Nat} {f C : Addr} {fd : FuncData} {ps ks : List Str} {sp : Sp} {E : XK} {x m : Str} {p pos apos kpos : Pos} {e o : Expr} {es : List Expr} {kws : List Keyword} {te ta : TE} {t tk : TA} {nm : Option Str}
structure KBinds (K : PySem.W.Frag) (fd : FuncData) (ps ks : List Str) (g : List Value → List Value → List Value) (gV : List V → List V → List V) : Prop where
  to : ∀ (s : Shared) (us ws : List Value), K.In s.heap → (g us ws).length = ps.length → BindsTo s fd ⟨us, ks.zip ws⟩ (ps.zip (g us ws))
  rel : ∀ {vs : List V} {us : List Value} {zs : List V} {ws : List Value}, Vals vs us → Vals zs ws → Vals (gV vs zs) (g us ws)
variable {g : List Value → List Value → List Value} {gV : List V → List V → List V}
end
structure FnScope (N P : List Str) (sc : Scope) : Prop where
  kind : sc.kind = .function
  co : sc.isCoroutine = false
  gen : sc.isGenerator = false
  nd : N.Nodup
  pre : N.take P.length = P
  par : ∀ x ∈ P, sc.names.lookup x = some .local ∨ sc.names.lookup x = some .cell
  nofree : ∀ y ∈ sc.names, y.2 ≠ .free
theorem bindL_out {kindOf : Str → Option NameKind} {x : Str} : ∀ {binds : List (Str × Value)} {m : Str → Option Value}, (∀ v, (x, v) ∉ binds) → bindL kindOf binds m x = m x
  | [], _, _ => rfl
  | (n, v) :: r, m, h => by
    unfold bindL
    rw [bindL_out fun w hw => h w (List.mem_cons_of_mem _ hw)]
    split
    · have : x ≠ n := by rintro rfl; exact h v List.mem_cons_self
      simp [this]
    · rfl
theorem bindC_out {kindOf : Str → Option NameKind} {x : Str} : ∀ {binds : List (Str × Value)} {m : Str → Option Value}, (∀ v, (x, v) ∉ binds) → bindC kindOf binds m x = m x
  | [], _, _ => rfl
  | (n, v) :: r, m, h => by
    unfold bindC
    rw [bindC_out fun w hw => h w (List.mem_cons_of_mem _ hw)]
    split
    · rfl
    · have : x ≠ n := by rintro rfl; exact h v List.mem_cons_self
      simp [this]
theorem bindL_get {kindOf : Str → Option NameKind} {x : Str} {v : Value} : ∀ {P : List Str} {vs : List Value} {i : Nat} {m : Str → Option Value}, P.Nodup → P[i]? = some x → vs[i]? = some v → kindOf x = some .local →
    bindL kindOf (P.zip vs) m x = some v
  | [], _, _, _, _, h, _, _ => by simp at h
  | _ :: _, [], _, _, _, _, h, _ => by simp at h
  | p :: P, w :: vs, 0, m, nd, h1, h2, hk => by
    simp at h1 h2; subst h1; subst h2
    show bindL kindOf ((p, w) :: P.zip vs) m p = _
    unfold bindL
    rw [bindL_out fun v hv => (List.nodup_cons.mp nd).1 (List.of_mem_zip hv).1, if_pos hk]
    simp
  | p :: P, w :: vs, i + 1, m, nd, h1, h2, hk => by
    show bindL kindOf ((p, w) :: P.zip vs) m x = _
    unfold bindL
    exact bindL_get (i := i) (List.nodup_cons.mp nd).2 (by simpa using h1) (by simpa using h2) hk
theorem bindC_get {kindOf : Str → Option NameKind} {x : Str} {v : Value} : ∀ {P : List Str} {vs : List Value} {i : Nat} {m : Str → Option Value}, P.Nodup → P[i]? = some x → vs[i]? = some v → kindOf x ≠ some .local →
    bindC kindOf (P.zip vs) m x = some v
  | [], _, _, _, _, h, _, _ => by simp at h
  | _ :: _, [], _, _, _, _, h, _ => by simp at h
  | p :: P, w :: vs, 0, m, nd, h1, h2, hk => by
    simp at h1 h2; subst h1; subst h2
    show bindC kindOf ((p, w) :: P.zip vs) m p = _
    unfold bindC
    rw [bindC_out fun v hv => (List.nodup_cons.mp nd).1 (List.of_mem_zip hv).1, if_neg hk]
    simp
  | p :: P, w :: vs, i + 1, m, nd, h1, h2, hk => by
    show bindC kindOf ((p, w) :: P.zip vs) m x = _
    unfold bindC
    exact bindC_get (i := i) (List.nodup_cons.mp nd).2 (by simpa using h1) (by simpa using h2) hk
noncomputable def start (N : List Str) (vs : List V) : St := vs.map some ++ List.replicate (N.length - vs.length) none
noncomputable def cxOf (CX : CXT) (P : Program) (w : World) (K : PySem.W.Frag) (mg : Str → Option Value) (base : Heap) (N : List Str) (qual : Str) (scope : Scope) (f : Addr) (cd : Value) (A : Around) (outer : List Env) (s : Shared) (H : Hp) (E : XK) : Cx where
  prog := P
  w := w
  K := K
  mg := mg
  base := base
  A := A.deeper (envOfC qual scope s.heap.objs.size f cd)
  N := N
  s₀ := s
  H₀ := H
  env := envOfC qual scope s.heap.objs.size f cd
  outer := outer
  stack := envOfC qual scope s.heap.objs.size f cd :: outer
  ex := []
  calm := true
  fn := fun _ => true
  pn := []
  xe := fun e s' => wpAny (model P w) (A.deeper (envOfC qual scope s.heap.objs.size f cd)) (leaving (envOfC qual scope s.heap.objs.size f cd) e) (fun _ s'' => CX outer H s E e s'') (fun e' s'' => CX outer H s E e' s'') s'
theorem cell_has {sc : Scope} {n : Nat} {x : Str} (h : sc.names.lookup x = some .cell) : ∃ c, (cellsFrom n sc.names []).lookup x = some c := by
  have q := PySem.W.cellsFrom_some sc.names n [] (.inl h)
  exact Option.isSome_iff_exists.mp q
theorem inv_start {CX : CXT} {P : Program} {w : World} {K : PySem.W.Frag} {mg : Str → Option Value} {base : Heap} {N ps : List Str} {qual : Str} {scope : Scope} {f : Addr} {cd : Value} {A : Around} {outer : List Env} {s s1 : Shared} {H : Hp} {E : XK} {us : List Value} {vs : List V}
    (S : FnScope N ps scope) (hd : A.handled = none) (e0 : Env0 P w K mg base A outer s H) (hl : vs.length = ps.length) (r : Vals vs us)
    (x : InCallC s s.heap.objs.size (bindL (envOfC qual scope s.heap.objs.size f cd).kindOf (ps.zip us) fun _ => none) (cellsFrom (s.heap.objs.size + 1) scope.names []) (bindC (envOfC qual scope s.heap.objs.size f cd).kindOf (ps.zip us) fun _ => none) s1) :
    Inv (cxOf CX P w K mg base N qual scope f cd A outer s H E) [] (start N vs) H s1 := by
  have hpl : ps.length ≤ N.length := by have := congrArg List.length S.pre; rw [List.length_take] at this; omega
  obtain ⟨h1, tk, rfl, hk⟩ := x.done
  have noA : ∀ b : Addr, b ∉ (cxOf CX P w K mg base N qual scope f cd A outer s H E).ex := fun b z => absurd (show b ∈ ([] : List Addr) from z) (by simp)
  refine ⟨⟨e0.mod, S.kind, rfl, rfl, Nat.le_refl _, fun y z c h1 h2 => ?_, fun y hy => ?_, fun y c _ h => ?_, fun _ => hd, Around.frames_deeper e0.frames, .inr ⟨rfl, rfl⟩, fun b z => absurd z (noA b), e0.bs, e0.bsz, fun b _ _ => noA b, fun b z => absurd z (noA b), e0.funs, e0.frf⟩,
    rfl, e0.bare, Un.kept hk, ⟨_, x.toInCall.ns, fun i y v h1 h2 h3 => ?_⟩, fun y c h => ⟨_, x.cell y c h⟩, e0.hok.fresh (Nat.le_refl _), fun y c h => ?_, fun p hp => absurd (show p ∈ ([] : List (Addr × Obj)) from hp) (by simp), e0.hok.kept hk, ?_⟩
  · exact name_of_addr x.apart (PySem.mem_of_lookup h1) (PySem.mem_of_lookup h2)
  · have hy : scope.names.lookup y = some .cell ∨ scope.names.lookup y = some .free := hy
    rcases hy with hy | hy
    · exact cell_has hy
    · exact absurd rfl (S.nofree _ (PySem.mem_of_lookup hy))
  · exact Nat.le_of_lt (x.above y c (PySem.mem_of_lookup h))
  · have hi : i < vs.length := by
      unfold start at h2
      by_cases hi : i < vs.length
      · exact hi
      · rw [List.getElem?_append_right (by simpa using hi)] at h2
        rw [List.getElem?_replicate] at h2
        split at h2 <;> cases h2
    have ha : vs[i]? = some v := by
      unfold start at h2
      rw [List.getElem?_append_left (by simpa using hi), List.getElem?_map] at h2
      cases e : vs[i]? with
      | none => rw [e] at h2; cases h2
      | some a => rw [e] at h2; cases h2; rfl
    obtain ⟨u, hu, rv⟩ := r.get ha
    have hp : ps[i]? = some y := by
      rw [← S.pre, List.getElem?_take_of_lt (by omega)]; exact h1
    have ndP : ps.Nodup := by rw [← S.pre]; exact S.nd.sublist (List.take_sublist _ _)
    refine ⟨u, rv, ?_⟩
    rcases S.par y (List.mem_of_getElem? hp) with k | k
    · exact .inl ⟨k, bindL_get ndP hp hu k⟩
    · obtain ⟨c, e⟩ := cell_has (n := s.heap.objs.size + 1) k
      refine .inr ⟨.inl k, c, e, ?_⟩
      have q := x.cell y c e
      rw [bindC_get ndP hp hu (by show scope.names.lookup y ≠ _; rw [k]; decide)] at q
      exact q
  · exact e0.hok.fresh (Nat.le_of_lt (x.above y c (PySem.mem_of_lookup h)))
  · unfold start
    show _ = N.length
    rw [List.length_append, List.length_map, List.length_replicate]
    omega
theorem fn_of {CX : CXT} {P : Program} {w : World} {K : PySem.W.Frag} {mg : Str → Option Value} {base : Heap} {k : Nat} {f : Addr} {name qual : Str} {params : Arguments} {body : List Stmt} {scope : Scope} {dV kV doc pm cdv ct oc : Value} {an od : Option Addr}
    {osl : Array (Option Value)} {N ps : List Str} {sp : Sp} (lk : K.lookup f = some ⟨oc, od, .func (PySem.W.fnOf name qual params body scope dV kV doc pm an cdv ct), osl⟩) (hcd : PySem.W.codeIn K cdv qual = true) (S : FnScope N ps scope)
    (len : ∀ vs H Q E, sp vs H Q E → vs.length = ps.length)
    (hbody : ∀ (A : Around) (outer : List Env) (s : Shared) (H : Hp) (vs : List V) (Q : VK) (E : XK), Room k (A.deeper (envOfC qual scope s.heap.objs.size f cdv)) → sp vs H Q E →
      ∃ t, PSs (cxOf CX P w K mg base N qual scope f cdv A outer s H E) body t ∧ t { nx := fun _ H' => Q .non H', rt := Q } (start N vs) H) :
    FnOk P w K mg base CX (k + 1) f (PySem.W.fnOf name qual params body scope dV kV doc pm an cdv ct) ps sp := by
  refine ⟨len, fun A outer s H args us vs Q E hr e0 hb r hsp => ?_⟩
  have hl := len _ _ _ _ hsp
  have KX : K.In s.heap := e0.mod.kin.keeps fun b o e => (e0.bs b o e).1
  have lim : s.heap.NoLimit := e0.mod.nolimit.keeps fun b o e => (e0.bs b o e).1
  have hkind : ∀ y ∈ ps.zip us, scope.names.lookup y.1 = some .local ∨ (scope.names.lookup y.1 = some .cell ∧ ((cellsFrom (s.heap.objs.size + 1) scope.names []).lookup y.1).isSome = true) := fun ⟨n, v⟩ hy => by
    rcases S.par n (List.of_mem_zip hy).1 with q | q
    · exact .inl q
    · exact .inr ⟨q, PySem.W.cellsFrom_some _ _ _ (.inl q)⟩
  refine codeAny_call_function hr.depth (KX _ _ lk) rfl S.co S.gen rfl (PySem.W.codeRec_of KX hcd) (hb _ _ _ _ ?_)
  refine wpAny_newFunctionEnv_cells S.kind hkind fun env he s1 x => ?_
  subst he
  refine ⟨lim.keeps x.toInCall.keep, codeAny_func ?_⟩
  obtain ⟨t, ht, hq⟩ := hbody A outer s H vs Q E (hr.deeper _) hsp
  have I : Inv (cxOf CX P w K mg base N qual scope f cdv A outer s H E) [] (start N vs) H s1 := inv_start S hr.hd e0 hl r x
  refine wpAny_mono (ht [] s1 (start N vs) H _ I hq) (fun fl s' hs => ?_) fun e s' hs => hs
  have fin : ∀ {σ' : St} {H' : Hp} {v : V} {u : Value}, Inv (cxOf CX P w K mg base N qual scope f cdv A outer s H E) [] σ' H' s' → RelV v u → Q v H' → CE outer P w H s Q u s' :=
    fun {σ' H' v u} J rv q => ⟨v, H', J.os, J.bare, J.base, J.hok, rv, q⟩
  cases fl with
  | ret u =>
    obtain ⟨v, σ', H', J, rv, q⟩ := hs
    exact fin J rv q
  | next =>
    obtain ⟨σ', H', J, q⟩ := hs
    exact fin (v := V.non) (u := Value.none) J rfl q
  | brk =>
    obtain ⟨_, _, _, q⟩ := hs
    exact False.elim q
  | cont =>
    obtain ⟨_, _, _, q⟩ := hs
    exact False.elim q
end L2
namespace L2
open PySem PySem.Spec PyProof.Rows
section
variable {X : Cx} {x : Str} {p pos : Pos} {e : Expr} {es : List Expr} {t : TA} {id T : String} {r : List V → Hp → VK → Prop}
noncomputable def tCB (r : List V → Hp → VK → Prop) (t : TA) : TE := fun σ H Q => t σ H fun vs H1 => r vs H1 Q
theorem pe_callB (hc : CallR X (.builtin id) r) (hg : Gl X x) (hm : X.mg x = none) (hv : bootBuiltins x = some (.builtin id)) (ha : PA X (e :: es) t) (hn : x ≠ "__name__" := by decide) (hdb : (x == ("__debug__" : Str)) = false := by decide)
    (he : starEach (e :: es) X.env = (false, eval e X.env) :: starEach es X.env := by rfl) (hpl : (backTo pos (starEach es X.env)).any (·.1) = false := by rfl) : PE X (.Call (.Name x p) (e :: es) [] pos) (tCB r t) := by
  intro pins s σ H Q I h
  refine wpAny_Call_Name_kw (ld_blt I hg hm hv ?_ hn hdb)
  exact PyProof.Rows.callWith_builtin1 (thn (ha pos pins s σ H _ I h) fun us s1 ⟨vs, H1, I1, r1, q1⟩ => hc pins s1 σ H1 vs us Q I1 r1 q1) he hpl
theorem pe_callTy (hc : CallR X (.type T) r) (hg : Gl X x) (hm : X.mg x = none) (hv : bootBuiltins x = some (.type T)) (ha : PA X (e :: es) t) (hn : x ≠ "__name__" := by decide) (hdb : (x == ("__debug__" : Str)) = false := by decide)
    (he : starEach (e :: es) X.env = (false, eval e X.env) :: starEach es X.env := by rfl) (hpl : (backTo pos (starEach es X.env)).any (·.1) = false := by rfl) : PE X (.Call (.Name x p) (e :: es) [] pos) (tCB r t) := by
  intro pins s σ H Q I h
  refine wpAny_Call_Name_kw (ld_blt I hg hm hv ?_ hn hdb)
  exact PyProof.Rows.callWith_type1 (thn (ha pos pins s σ H _ I h) fun us s1 ⟨vs, H1, I1, r1, q1⟩ => hc pins s1 σ H1 vs us Q I1 r1 q1) he hpl
end
end L2
namespace HT
open PySem PyProof.Rows
noncomputable def lexLt : List Int → List Int → Bool
  | [], [] => false
  | [], _ :: _ => true
  | _ :: _, [] => false
  | x :: xs, y :: ys => if x = y then lexLt xs ys else decide (x < y)
theorem lexLt_cons (x y : Int) (xs ys : List Int) : lexLt (x :: xs) (y :: ys) = if x = y then lexLt xs ys else decide (x < y) := rfl
section
open PySem.SeqAt
open PySem.AutoSeq1 (wpAny_loadPart')
open PySem.MeetsSeq PySem.MeetsSeq2 PySem.MeetsSeq3
end
section
variable {prog : Program} {w : World} {A : Around} {E : Value → Shared → Prop} {s : Shared}
theorem cat_tup {t b : Addr} {vs ws : List Value} {Q : Value → Shared → Prop} (ht : IsTup s.heap t vs.toArray) (hb : IsTup s.heap b ws.toArray) (hv : vs ≠ [])
    (h1 : ws = [] → Q (.ref t) s) (h2 : ws ≠ [] → Q (.ref s.heap.objs.size) { s with heap := s.heap.push { cls := .type "tuple", data := .seq (vs ++ ws).toArray } })
    (hsz : vs.length + ws.length ≤ sizeLine) : wpAny (model prog w) A (binaryOp .Add (.ref t) (.ref b)) Q E s := by
  obtain ⟨⟨cls, dd, data, sl⟩, ho, hc, n, hd⟩ := id ht
  obtain ⟨⟨cls2, dd2, data2, sl2⟩, ho2, hc2, n2, hd2⟩ := id hb
  simp only at hc hd hc2 hd2
  subst hc hd hc2 hd2
  have e : vs.toArray ++ ws.toArray = (vs ++ ws).toArray := by simp
  by_cases hw : ws = []
  · exact concat_meets ⟨_, ho, rfl⟩ ⟨_, ho2, rfl⟩ noFill_tuple_add seq_tuple_add PySem.F.slot_tuple_add PySem.F.entry_tuple_add (PySem.F.args_tuple_add_2 _ _)
      (tuple_addW1 t b vs.toArray ws.toArray n n2 dd dd2 sl sl2 (by simpa using hv) (by simp [hw])) ⟨ho, ho2, h1 hw⟩
  · refine concat_meets ⟨_, ho, rfl⟩ ⟨_, ho2, rfl⟩ noFill_tuple_add seq_tuple_add PySem.F.slot_tuple_add PySem.F.entry_tuple_add (PySem.F.args_tuple_add_2 _ _)
      (tuple_addW2 t b vs.toArray ws.toArray n n2 dd dd2 sl sl2 (by simpa using hv) (by simpa using hw) (by rw [List.size_toArray, List.size_toArray]; exact hsz)) ⟨ho, ho2, ?_⟩
    rw [e]
    exact h2 hw
noncomputable def sIx (n d : Nat) : Option Int → Nat
  | none => d
  | some v => if v < 0 then (v + (n : Int)).toNat else min v.toNat n
theorem sIx_le (n d : Nat) (hd : d ≤ n) (o : Option Int) : sIx n d o ≤ n := by
  cases o with
  | none => exact hd
  | some v =>
    show (if v < 0 then (v + (n : Int)).toNat else min v.toNat n) ≤ n
    by_cases hv : v < 0
    · rw [if_pos hv]; omega
    · rw [if_neg hv]; exact Nat.min_le_right _ _
theorem clip_eq (v : Int) (n d : Nat) : (if v < 0 then max (v + (n : Int)) 0 else min v (n : Int)) = ((sIx n d (some v) : Nat) : Int) := by
  show (if v < 0 then max (v + (n : Int)) 0 else min v (n : Int)) = (((if v < 0 then (v + (n : Int)).toNat else min v.toNat n) : Nat) : Int)
  by_cases hv : v < 0
  · simp only [if_pos hv]; omega
  · simp only [if_neg hv]; omega
theorem adjust_gen (lo hi : Option Int) (n : Nat) : Builtin.Slice.sliceAdjust lo hi 1 (n : Int) = (((sIx n 0 lo : Nat) : Int), ((sIx n n hi : Nat) : Int)) := by
  have h1 : ¬ ((1 : Int) < 0) := by omega
  unfold Builtin.Slice.sliceAdjust
  simp only [h1, if_false]
  refine Prod.ext ?_ ?_
  · cases lo with
    | none => rfl
    | some v => exact clip_eq v n 0
  · cases hi with
    | none => rfl
    | some v => exact clip_eq v n n
theorem places_gen (i j : Nat) : Builtin.Slice.slicePlaces (i : Int) (j : Int) 1 = j - i := by
  unfold Builtin.Slice.slicePlaces
  have h1 : (1 : Int) > 0 := by omega
  simp only [h1, if_true, Int.ediv_one]
  split <;> omega
theorem slicePart_ {v : Value} {o : Option Int} {Q : Option Int → Shared → Prop} (p : IsPart v o) (h : Q o s) : wpAny (model prog w) A (Builtin.Slice.slicePartIndex v) Q E s := by
  cases p with
  | none => exact slicePart_none h
  | int i t => exact slicePart_int h
theorem sliceApplied_gen {sl : Addr} {vl vu : Value} {lo hi : Option Int} {n : Nat} {Q : Int × Int × Nat → Shared → Prop} (hs : s.heap.IsSliceOf sl vl vu .none) (pl : IsPart vl lo) (pu : IsPart vu hi)
    (h : Q (((sIx n 0 lo : Nat) : Int), 1, sIx n n hi - sIx n 0 lo) s) : wpAny (model prog w) A (Builtin.Slice.sliceApplied (.ref sl) (pure (n : Int))) Q E s := by
  obtain ⟨os, hos, hcs, hds⟩ := id hs
  unfold Builtin.Slice.sliceApplied Builtin.Slice.sliceFields
  refine wpAny_bind (wpAny_bind (wpAny_field hos hds (x := vl) rfl (wpAny_bind (wpAny_field hos hds (x := vu) rfl (wpAny_bind (wpAny_field hos hds (x := .none) rfl (wpAny_pure ?_)))))))
  refine wpAny_bind (slicePart_none ?_)
  show wpAny _ _ (if ((1 : Int) == 0) = true then _ else _) _ _ s
  rw [if_neg (by decide)]
  refine wpAny_bind (slicePart_ pl (wpAny_bind (slicePart_ pu (wpAny_bind (wpAny_pure ?_)))))
  show wpAny _ _ (match Builtin.Slice.sliceAdjust lo hi 1 (n : Int) with | (lo, hi) => pure (lo, (1 : Int), Builtin.Slice.slicePlaces lo hi 1)) _ _ s
  rw [adjust_gen lo hi n]
  show wpAny _ _ (pure (((sIx n 0 lo : Nat) : Int), (1 : Int), Builtin.Slice.slicePlaces ((sIx n 0 lo : Nat) : Int) ((sIx n n hi : Nat) : Int) 1)) _ _ s
  rw [places_gen]
  exact wpAny_pure h
theorem pick_gen (xs : Array Value) (i k : Nat) : ((List.range k).filterMap fun (m : Nat) => xs[((i : Int) + (m : Int) * 1).toNat]?).toArray = ((xs.toList.drop i).take k).toArray := by
  have e : (fun (m : Nat) => xs[((i : Int) + (m : Int) * 1).toNat]?) = fun m => xs[i + m]? := by
    funext m
    have : ((i : Int) + (m : Int) * 1).toNat = i + m := by omega
    rw [this]
  rw [e]
  have := pick_run xs i k
  rw [List.filterMap_map] at this
  have e2 : ((fun x => xs[x]?) ∘ fun x => i + x) = fun m => xs[i + m]? := rfl
  rw [e2] at this
  rw [this]
theorem getItem_tuple_cut {t sl : Addr} {items : Array Value} {vl vu : Value} {lo hi : Option Int} {Q : Value → Shared → Prop} (ht : IsTup s.heap t items) (hs : s.heap.IsSliceOf sl vl vu .none) (pl : IsPart vl lo) (pu : IsPart vu hi)
    (hw : ¬ (sIx items.size 0 lo = 0 ∧ sIx items.size items.size hi = items.size))
    (h : Q (.ref s.heap.objs.size) { s with heap := s.heap.push { cls := .type "tuple", data := .seq ((items.toList.drop (sIx items.size 0 lo)).take (sIx items.size items.size hi - sIx items.size 0 lo)).toArray } })
    (hsz : items.size ≤ sizeLine) : wpAny (model prog w) A (getItem (.ref t) (.ref sl)) Q E s := by
  have htake : sizeOk (.seq ((items.toList.drop (sIx items.size 0 lo)).take (sIx items.size items.size hi - sIx items.size 0 lo)).toArray) := by
    show ((items.toList.drop (sIx items.size 0 lo)).take (sIx items.size items.size hi - sIx items.size 0 lo)).toArray.size ≤ sizeLine
    rw [List.size_toArray, List.length_take, List.length_drop, Array.length_toList]
    omega
  have hj : sIx items.size items.size hi ≤ items.size := sIx_le _ _ (Nat.le_refl _) hi
  obtain ⟨os, hos, hcs, hds⟩ := id hs
  have hTs : s.TypeIs (.ref sl) "slice" := ⟨os, hos, hcs⟩
  unfold getItem
  try with_reducible refine wpAny_holding ?_
  first | refine wpAny_bind (wpAny_pure ?_) | skip
  refine wpAny_bind (wpAny_sequenceKey ht.typeIs (by decide) ?_)
  refine wpAny_bind (wpAny_callSpecial?_slot (name := Str.ofString "__getitem__") ht.typeIs PyProof.Rows.slot_tuple_getitem
    (wpAny_call_entry PyProof.Rows.slot_tuple_getitem ht.typeIs entry_tuple_getitem ?_ (args_tuple_getitem _ _)))
  show wpAny _ _ (Builtin.Tuple.tupleItemsOf (.ref t) >>= _) _ _ s
  refine wpAny_bind (tupleItemsOf_ ht ?_)
  refine wpAny_bind (wpAny_typeOf hTs ?_)
  rw [if_pos (by decide)]
  refine wpAny_bind (sliceApplied_gen hs pl pu ?_)
  have hno : ¬ ((((sIx items.size 0 lo : Nat) : Int) == 0 && (1 : Int) == 1 && (sIx items.size items.size hi - sIx items.size 0 lo) == items.size) = true) := by
    intro q
    rw [Bool.and_eq_true, Bool.and_eq_true] at q
    have q1 : ((sIx items.size 0 lo : Nat) : Int) = 0 := eq_of_beq q.1.1
    have q2 : sIx items.size items.size hi - sIx items.size 0 lo = items.size := eq_of_beq q.2
    exact hw ⟨by omega, by omega⟩
  show wpAny _ _ (if (((sIx items.size 0 lo : Nat) : Int) == 0 && (1 : Int) == 1 && (sIx items.size items.size hi - sIx items.size 0 lo) == items.size) = true then _ else _) _ _ s
  rw [if_neg hno, pick_gen]
  first
    | exact wpAny_bind (m := Builtin.Tuple.tupleExact _) (wpAny_newObj_type (wpAny_pure ⟨_, rfl, wpAny_pure h⟩) htake)
    | exact wpAny_bind (m := Builtin.Tuple.tupleExact _) (wpAny_newObj_type (wpAny_bind (wpAny_pure (wpAny_pure ⟨_, rfl, wpAny_pure h⟩))) htake)
    | exact wpAny_bind (wpAny_bind (m := Builtin.Tuple.tupleExact _) (wpAny_newObj_type (wpAny_pure (wpAny_pure ⟨_, rfl, wpAny_pure h⟩)) htake))
    | exact wpAny_bind (wpAny_bind (m := Builtin.Tuple.tupleExact _) (wpAny_newObj_type (wpAny_pure ⟨_, rfl, wpAny_pure h⟩) htake))
end
end HT
namespace L2
open PySem PySem.Spec PyProof.Rows
noncomputable abbrev TO := St → Hp → (Option Int → Hp → Prop) → Prop
noncomputable def PO (X : Cx) (e : Option Expr) (t : TO) : Prop :=
  ∀ (pins : List (Addr × Obj)) (s : Shared) (σ : St) (H : Hp) (Q : Option Int → Hp → Prop), Inv X pins σ H s → t σ H Q →
    wpAny (model X.prog X.w) X.A (evalPart e X.env) (fun u s' => ∃ o H', Inv X pins σ H' s' ∧ IsPart u o ∧ Q o H') X.xe s
noncomputable def tNoPart : TO := fun _ H Q => Q none H
noncomputable def tPart (t : TE) : TO := fun σ H Q => t σ H fun x H1 => ∃ i, x = .int i ∧ Q (some i) H1
section
variable {X : Cx} {e : Expr} {te : TE} {lo hi : Option Expr} {tl th : TO} {pos p2 : Pos}
theorem po_none : PO X none tNoPart := by
  intro pins s σ H Q I h
  rw [evalPart_none]
  exact wpAny_pure ⟨none, H, I, .none, h⟩
theorem po_some (h : PE X e te) : PO X (some e) (tPart te) := by
  intro pins s σ H Q I hw
  rw [evalPart_some]
  refine thn (h pins s σ H _ I hw) fun u s1 zq => ?_
  obtain ⟨x, H1, I1, r1, q1⟩ := zq
  obtain ⟨i, rfl, q⟩ := q1
  obtain ⟨t, rfl⟩ := r1
  exact ⟨some i, H1, I1, .int i t, q⟩
noncomputable def SlR (X : Cx) (r : V → Option Int → Option Int → Hp → VK → Prop) : Prop :=
  ∀ (pins : List (Addr × Obj)) (s : Shared) (σ : St) (H : Hp) (x : V) (v vl vu : Value) (lo hi : Option Int) (sl : Addr) (Q : VK), Inv X pins σ H s → RelV x v → s.heap.IsSliceOf sl vl vu .none → IsPart vl lo → IsPart vu hi → r x lo hi H Q →
    ∃ T id, typeLookup (.type T) "__getitem__" = pure (some (.builtin id)) ∧ s.TypeIs v T ∧ wpAny (model X.prog X.w) X.A (getItem v (.ref sl)) (EP X pins σ Q) X.xe s
theorem SlR.or {r r' : V → Option Int → Option Int → Hp → VK → Prop} (h : SlR X r) (h' : SlR X r') : SlR X (fun x lo hi H Q => r x lo hi H Q ∨ r' x lo hi H Q) := by
  intro pins s σ H x v vl vu lo hi sl Q I rx hs pl pu q
  rcases q with q | q
  · exact h pins s σ H x v vl vu lo hi sl Q I rx hs pl pu q
  · exact h' pins s σ H x v vl vu lo hi sl Q I rx hs pl pu q
noncomputable def tSl (r : V → Option Int → Option Int → Hp → VK → Prop) (te : TE) (tl th : TO) : TE := fun σ H Q => te σ H fun x H1 => tl σ H1 fun l H2 => th σ H2 fun u H3 => r x l u H3 Q
theorem pe_slice {r : V → Option Int → Option Int → Hp → VK → Prop} (hr : SlR X r) (he : PE X e te) (hl : PO X lo tl) (hu : PO X hi th) : PE X (.Subscript e (.Slice lo hi none p2) pos) (tSl r te tl th) := by
  intro pins s σ H Q I h
  refine Subscript_ (thn (he pins s σ H _ I h) fun v s1 zq => ?_)
  obtain ⟨x, H1, I1, r1, q1⟩ := zq
  refine wpAny_Slice (thn (hl pins s1 σ H1 _ I1 q1) fun vl s2 ⟨l, H2, I2, pl, q2⟩ => thn (hu pins s2 σ H2 _ I2 q2) fun vu s3 zq => ?_)
  obtain ⟨u, H3, I3, pu, q3⟩ := zq
  rw [evalPart_none]
  refine wpAny_pure ?_
  have I4 : Inv X pins σ H3 { s3 with heap := s3.heap.push { cls := .type "slice", data := .fields #[vl, vu, .none] } } := I3.kept (t' := s3.toks) fun b ob q => Heap.get?_push_of_some _ q
  obtain ⟨T, id, hT, ht, hg⟩ := hr pins { s3 with heap := s3.heap.push { cls := .type "slice", data := .fields #[vl, vu, .none] } } σ H3 x v vl vu l u s3.heap.objs.size Q I4 r1 (Heap.IsSliceOf.new ..) pl pu q3
  show wpAny (model X.prog X.w) X.A (subscriptTail e (.Slice lo hi none p2) v (.ref s3.heap.objs.size)) (EP X pins σ Q) X.xe { s3 with heap := s3.heap.push { cls := .type "slice", data := .fields #[vl, vu, .none] } }
  exact tail_any (ops := [.ref s3.heap.objs.size, v]) ht hT hg (by with_unfolding_all rfl)
noncomputable def cutV (xs : List V) (lo hi : Option Int) : List V := (xs.drop (HT.sIx xs.length 0 lo)).take (HT.sIx xs.length xs.length hi - HT.sIx xs.length 0 lo)
theorem cutV_length (xs : List V) (lo hi : Option Int) : (cutV xs lo hi).length ≤ xs.length := by
  unfold cutV
  rw [List.length_take, List.length_drop]
  omega
noncomputable def rSlT (K : PySem.W.Frag) : V → Option Int → Option Int → Hp → VK → Prop := fun x lo hi H Q => ∃ a xs, x = .ref a ∧ SqT K H a xs ∧
  ¬ (HT.sIx xs.length 0 lo = 0 ∧ HT.sIx xs.length xs.length hi = xs.length) ∧ ∀ p, H p = none → Q (.ref p) (upd H p (.tup (cutV xs lo hi)))
theorem sl_tup : SlR X (rSlT X.K) := by
  intro pins s σ H x v vl vu lo hi sl Q I rx hs pl pu h
  obtain ⟨a, xs, rfl, hx, hw, q⟩ := h
  cases rx
  obtain ⟨its, r, ht, hz⟩ := I.tuple hx
  have hlen : its.toArray.size = xs.length := by rw [List.size_toArray]; exact r.length.symm
  refine ⟨"tuple", _, PyProof.Rows.slot_tuple_getitem.lookup, ht.typeIs, ?_⟩
  refine HT.getItem_tuple_cut ht hs pl pu (by rw [hlen]; exact hw) ?_ (by rw [hlen]; exact hz)
  rw [hlen]
  refine ⟨.ref s.heap.objs.size, _, I.laid (t' := s.toks) (o := .tup (cutV xs lo hi)) (fun b ob q => Heap.get?_push_of_some _ q) (Nat.le_refl _) ?_, rfl, q _ (I.hok.fresh (Nat.le_refl _))⟩
  exact ⟨Nat.le_trans (cutV_length xs lo hi) hz, _, (r.drop (HT.sIx xs.length 0 lo)).take (HT.sIx xs.length xs.length hi - HT.sIx xs.length 0 lo), IsTup.new _ _, _, Heap.get?_push_size _ rfl, rfl⟩
noncomputable def rCatT (K : PySem.W.Frag) : R2 := fun x y H Q => ∃ a b xs ys, x = .ref a ∧ y = .ref b ∧ SqT K H a xs ∧ SqT K H b ys ∧ xs ≠ [] ∧ xs.length + ys.length ≤ sizeLine ∧
  (ys = [] → Q (.ref a) H) ∧ (ys ≠ [] → ∀ p, H p = none → Q (.ref p) (upd H p (.tup (xs ++ ys))))
theorem Vals.nil_iff {xs : List V} {us : List Value} (r : Vals xs us) : us = [] ↔ xs = [] := by
  cases r with
  | nil => simp
  | cons _ _ => simp
theorem op_catT : OpR X (binaryOp .Add) (rCatT X.K) := by
  intro pins s σ H x y v u Q I rx ry h
  obtain ⟨a, b, xs, ys, rfl, rfl, ha, hb, hx, hz, q1, q2⟩ := h
  cases rx
  cases ry
  obtain ⟨its, r1, p1, _⟩ := I.tuple ha
  obtain ⟨its2, r2, p2, _⟩ := I.tuple hb
  refine HT.cat_tup p1 p2 (fun z => hx (r1.nil_iff.mp z)) (fun z => ⟨.ref a, H, I, rfl, q1 (r2.nil_iff.mp z)⟩) (fun z => ?_) (by rw [← r1.length, ← r2.length]; exact hz)
  refine ⟨.ref s.heap.objs.size, _, I.laid (t' := s.toks) (o := .tup (xs ++ ys)) (fun b ob q => Heap.get?_push_of_some _ q) (Nat.le_refl _) ?_, rfl, q2 (fun w => z (r2.nil_iff.mpr w)) _ (I.hok.fresh (Nat.le_refl _))⟩
  exact ⟨by rw [List.length_append]; exact hz, _, r1.append r2, IsTup.new _ _, _, Heap.get?_push_size _ rfl, rfl⟩
end
end L2
namespace L2
open PySem PySem.Spec PyProof.Rows
noncomputable def ixN (n : Nat) (i : Int) : Option Nat := if 0 ≤ i then (if i < n then some i.toNat else none) else if -(n : Int) ≤ i then some (i + n).toNat else none
noncomputable def atI {α : Type} (xs : List α) (i : Int) : Option α := (ixN xs.length i).bind fun j => xs[j]?
theorem ixN_seq {n : Nat} {i : Int} {j : Nat} (h : ixN n i = some j) : seqIndex? i n = some j ∧ j < n ∧ -(n : Int) ≤ i ∧ i < n := by
  unfold ixN at h
  by_cases h0 : 0 ≤ i
  · rw [if_pos h0] at h
    by_cases h1 : i < n
    · rw [if_pos h1] at h
      have e : i.toNat = j := Option.some.inj h
      exact ⟨by rw [seqIndex_of h0 h1, e], by omega, by omega, h1⟩
    · rw [if_neg h1] at h; cases h
  · rw [if_neg h0] at h
    by_cases h1 : -(n : Int) ≤ i
    · rw [if_pos h1] at h
      have e : (i + n).toNat = j := Option.some.inj h
      exact ⟨by rw [seqIndex_neg (by omega) h1, e], by omega, h1, by omega⟩
    · rw [if_neg h1] at h; cases h
theorem atI_get {α : Type} {xs : List α} {i : Int} {v : α} (h : atI xs i = some v) : ∃ j, seqIndex? i xs.length = some j ∧ xs[j]? = some v ∧ j < xs.length ∧ -(xs.length : Int) ≤ i ∧ i < xs.length := by
  unfold atI at h
  cases e : ixN xs.length i with
  | none => rw [e] at h; cases h
  | some j =>
    rw [e] at h
    obtain ⟨h1, h2, h3, h4⟩ := ixN_seq e
    exact ⟨j, h1, h, h2, h3, h4⟩
noncomputable def PlainIx (b : Expr) : Prop := ∀ o i, subscripted b false o i = operate [o, i] (getItem o i)
noncomputable def IxR (X : Cx) (r : R2) : Prop :=
  ∀ (value slice : Expr) (pins : List (Addr × Obj)) (s : Shared) (σ : St) (H : Hp) (x y : V) (v u : Value) (Q : VK), Inv X pins σ H s → RelV x v → RelV y u → r x y H Q →
    subscripted slice false v u = operate [v, u] (getItem v u) → wpAny (model X.prog X.w) X.A (subscriptTail value slice v u) (EP X pins σ Q) X.xe s
noncomputable def MtR (X : Cx) (id : String) (r : V → List V → Hp → VK → Prop) : Prop :=
  ∀ (pins : List (Addr × Obj)) (s : Shared) (σ : St) (H : Hp) (x : V) (xs : List V) (v : Value) (us : List Value) (Q : VK), Inv X pins σ H s → RelV x v → Vals xs us → r x xs H Q →
    wpAny (model X.prog X.w) X.A (call (.builtin id) (v :: us)) (EP X pins σ Q) X.xe s
section
variable {X : Cx} {a b : Expr} {ta tb : TE} {pos : Pos}
theorem IxR.or {r r' : R2} (h : IxR X r) (h' : IxR X r') : IxR X (fun x y H Q => r x y H Q ∨ r' x y H Q) := by
  intro value slice pins s σ H x y v u Q I rx ry q hs
  rcases q with q | q
  · exact h value slice pins s σ H x y v u Q I rx ry q hs
  · exact h' value slice pins s σ H x y v u Q I rx ry q hs
theorem pe_ix {r : R2} (hr : IxR X r) (ha : PE X a ta) (hb : PE X b tb) (hs : PlainIx b) : PE X (.Subscript a b pos) (tOp r ta tb) := by
  intro pins s σ H Q I h
  exact Subscript_ (binT ha hb I h fun v u s2 x y H2 I2 rx ry q => hr a b pins s2 σ H2 x y v u Q I2 rx ry q (hs _ _))
noncomputable def rIxL (K : PySem.W.Frag) : R2 := fun x y H Q => ∃ p xs i v, x = .ref p ∧ y = .int i ∧ SqL K H p xs ∧ atI xs i = some v ∧ Q v H
noncomputable def rIxT (K : PySem.W.Frag) : R2 := fun x y H Q => ∃ p xs i v, x = .ref p ∧ y = .int i ∧ SqT K H p xs ∧ atI xs i = some v ∧ Q v H
theorem ix_list : IxR X (rIxL X.K) := by
  intro value slice pins s σ H x y v u Q I rx ry h hs
  obtain ⟨p, xs, i, z, rfl, rfl, hq, he, q⟩ := h
  cases rx
  obtain ⟨t, rfl⟩ := ry
  obtain ⟨its, r, pl, hz⟩ := I.list hq
  obtain ⟨j, h1, h2, h3, h4, h5⟩ := atI_get he
  obtain ⟨w, ew, rw'⟩ := r.get h2
  have hl := r.length
  have hn := line63
  have fin : EP X pins σ Q w s := ⟨z, H, I, rw', q⟩
  by_cases h0 : 0 ≤ i
  · have hj : i.toNat = j := by
      rw [seqIndex_of h0 h5] at h1
      exact Option.some.inj h1
    exact item_listR pl.isList h0 (by omega) (by rw [hj]; simpa using ew) fin hs
  · have hj : (i + (its.toArray.size : Int)).toNat = j := by
      rw [seqIndex_neg (by omega) h4] at h1
      rw [List.size_toArray, ← hl]
      exact Option.some.inj h1
    exact subscriptTail_builtinR (x := w) pl.isList.typeIs slot_list_getitem.lookup
      (wpAny_getItem_list_neg (Q := fun r s' => r = w ∧ EP X pins σ Q r s') pl.isList (by omega) (by rw [List.size_toArray] <;> omega) (by omega) (by rw [hj]; simpa using ew) ⟨rfl, fin⟩) hs
theorem ix_tup : IxR X (rIxT X.K) := by
  intro value slice pins s σ H x y v u Q I rx ry h hs
  obtain ⟨p, xs, i, z, rfl, rfl, hq, he, q⟩ := h
  cases rx
  obtain ⟨t, rfl⟩ := ry
  obtain ⟨its, r, pl, hz⟩ := I.tuple hq
  obtain ⟨j, h1, h2, h3, h4, h5⟩ := atI_get he
  obtain ⟨w, ew, rw'⟩ := r.get h2
  have hl := r.length
  have hn := line63
  have fin : EP X pins σ Q w s := ⟨z, H, I, rw', q⟩
  exact subscriptTail_builtinR (x := w) pl.typeIs slot_tuple_getitem.lookup
    (getItem_tuple (j := j) (Q := fun r s' => r = w ∧ EP X pins σ Q r s') pl (by omega) (by omega) (by rw [List.size_toArray, ← hl]; exact h1) (by simpa using ew) ⟨rfl, fin⟩) hs
theorem mapSeq_set (its : List Value) (n j : Nat) (u : Value) : Obj.mapSeq (·.setIfInBounds j u) { cls := .type "list", data := .seq its.toArray n } = { cls := .type "list", data := .seq (its.set j u).toArray n } := by
  simp [Obj.mapSeq]
theorem Inv.lst {pins : List (Addr × Obj)} {σ : St} {H : Hp} {s : Shared} {p : Addr} {xs : List V} (I : Inv X pins σ H s) (h : H p = some (.lst xs)) :
    ∃ (its : List Value) (n : Nat), Vals xs its ∧ s.heap.get? p = some { cls := .type "list", data := .seq its.toArray n } ∧ xs.length ≤ sizeLine := by
  obtain ⟨z, its, n, r, e⟩ := I.hok p _ h
  exact ⟨its, n, r, e, z⟩
theorem Inv.lstUpd {pins : List (Addr × Obj)} {σ : St} {H : Hp} {s : Shared} {p : Addr} {xs ys : List V} {its its' : List Value} {n n' : Nat} {f : Obj → Obj} (I : Inv X pins σ H s) (h : H p = some (.lst xs))
    (ho : s.heap.get? p = some { cls := .type "list", data := .seq its.toArray n }) (hf : f { cls := .type "list", data := .seq its.toArray n } = { cls := .type "list", data := .seq its'.toArray n' }) (r : Vals ys its') (hz : ys.length ≤ sizeLine) (t : Nat) :
    Inv X pins σ (upd H p (.lst ys)) { s with heap := s.heap.update p f, toks := t } := by
  have e : (s.heap.update p f).get? p = some { cls := .type "list", data := .seq its'.toArray n' } := by
    rw [Heap.get?_update_self f ho (by rw [hf] <;> rfl), hf]
  refine I.write (x := p) (e := p) (by rw [h]; trivial) (.inl rfl) (fun b u hb q => (Heap.get?_update_other _ _ (Ne.symm hb)).trans q) ⟨_, e⟩ ?_
  exact ⟨hz, its', n', r, e⟩
noncomputable def rSetL : V → V → V → Hp → (Hp → Prop) → Prop := fun o i v H Q => ∃ p xs k j, o = .ref p ∧ i = .int k ∧ H p = some (.lst xs) ∧ ixN xs.length k = some j ∧ Q (upd H p (.lst (xs.set j v)))
theorem set_list : PSet X rSetL := by
  intro pins s σ H o i v ov iv u Q I ro ri rv h
  obtain ⟨p, xs, k, j, rfl, rfl, hp, hj, q⟩ := h
  cases ro
  obtain ⟨t, rfl⟩ := ri
  obtain ⟨its, n, r, ho, hz⟩ := I.lst hp
  obtain ⟨h1, h2, h3, h4⟩ := ixN_seq hj
  have hl := r.length
  have hn := line63
  have I' : Inv X pins σ (upd H p (.lst (xs.set j v))) { s with heap := s.heap.update p (Obj.mapSeq (·.setIfInBounds j u)) } :=
    I.lstUpd hp ho (mapSeq_set its n j u) (r.set rv j) (by rw [List.length_set]; exact hz) s.toks
  by_cases h0 : 0 ≤ k
  · have hk : k.toNat = j := by
      rw [seqIndex_of h0 h4] at h1
      exact Option.some.inj h1
    exact PySem.W.ki_setAt ho h0 (by omega) (by rw [List.size_toArray, ← hl]; exact h4) (by rw [hk]; exact ⟨_, I', q⟩)
  · have hk : (k + (its.toArray.size : Int)).toNat = j := by
      rw [seqIndex_neg (by omega) h3] at h1
      rw [List.size_toArray, ← hl]
      exact Option.some.inj h1
    exact PySem.W.ki_setBack ho (by omega) (by rw [List.size_toArray, ← hl]; exact h3) (by omega) (by rw [hk]; exact ⟨_, I', q⟩)
theorem slice_bounds (lo hi : Option Int) (n : Nat) : (sliceBounds lo hi none n).1 = ((HT.sIx n 0 lo : Nat) : Int) ∧ (sliceBounds lo hi none n).2.1 = ((HT.sIx n n hi : Nat) : Int) ∧ (sliceBounds lo hi none n).2.2 = 1 := by
  refine ⟨?_, ?_, rfl⟩
  · cases lo with
    | none => simp [sliceBounds, HT.sIx]
    | some i =>
      simp only [sliceBounds, HT.sIx, Option.getD_none, show (1 : Int) > 0 by decide, if_true]
      by_cases h : i < 0
      · simp only [h, if_true] <;> omega
      · simp only [h, if_false] <;> omega
  · cases hi with
    | none => simp [sliceBounds, HT.sIx]
    | some i =>
      simp only [sliceBounds, HT.sIx, Option.getD_none, show (1 : Int) > 0 by decide, if_true]
      by_cases h : i < 0
      · simp only [h, if_true] <;> omega
      · simp only [h, if_false] <;> omega
theorem slicePick_cut (its : List Value) (lo hi : Option Int) : slicePick its.toArray lo hi none = ((its.drop (HT.sIx its.length 0 lo)).take (HT.sIx its.length its.length hi - HT.sIx its.length 0 lo)).toArray := by
  obtain ⟨h1, h2, h3⟩ := slice_bounds lo hi its.toArray.size
  unfold slicePick
  rw [h1, h2, h3]
  simp only [sliceRange_one, pick_run, List.size_toArray] <;> rfl
noncomputable def rSlL (K : PySem.W.Frag) : V → Option Int → Option Int → Hp → VK → Prop := fun x lo hi H Q => ∃ a xs, x = .ref a ∧ SqL K H a xs ∧ ∀ p, H p = none → Q (.ref p) (upd H p (.lst (cutV xs lo hi)))
theorem sl_list : SlR X (rSlL X.K) := by
  intro pins s σ H x v vl vu lo hi sl Q I rx hs pl pu h
  obtain ⟨a, xs, rfl, hx, q⟩ := h
  cases rx
  obtain ⟨its, r, ht, hz⟩ := I.list hx
  have hlen := r.length
  refine ⟨"list", _, slot_list_getitem.lookup, ht.isList.typeIs, ?_⟩
  refine wpAny_getItem_list_slice ht.isList hs pl pu .none (by simp) ?_ (by rw [List.size_toArray] <;> omega)
  rw [slicePick_cut, ← hlen]
  refine ⟨.ref s.heap.objs.size, _, I.laid (t' := s.toks) (o := .lst (cutV xs lo hi)) (fun b ob q => Heap.get?_push_of_some _ q) (Nat.le_refl _) ?_, rfl, q _ (I.hok.fresh (Nat.le_refl _))⟩
  exact ⟨Nat.le_trans (cutV_length xs lo hi) hz, _, 0, (r.drop (HT.sIx xs.length 0 lo)).take (HT.sIx xs.length xs.length hi - HT.sIx xs.length 0 lo), Heap.get?_push_size _ rfl⟩
noncomputable def flatV : V → Bool
  | .non => true
  | .bl _ => true
  | .int _ => true
  | .str _ => true
  | _ => false
noncomputable def eqV : V → V → Bool
  | .non, .non => true
  | .bl a, .bl b => a == b
  | .bl a, .int b => (if a then 1 else 0) == b
  | .int a, .bl b => a == (if b then 1 else 0)
  | .int a, .int b => a == b
  | .str a, .str b => a == b
  | _, _ => false
theorem eqAt_V {A : Around} {s : Shared} {y x : V} {u v : Value} (ry : RelV y u) (rx : RelV x v) (fy : flatV y = true) (fx : flatV x = true) : SeqAt.EqAt A s u v (eqV y x) := by
  cases y with
  | non =>
    cases ry
    cases x with
    | non => cases rx; exact SeqAt.EqAt.same _
    | bl b => cases rx; exact SeqAt.EqAt.none_bool b
    | int b => obtain ⟨t, rfl⟩ := rx; exact SeqAt.EqAt.none_int b t
    | str b => obtain ⟨t, rfl⟩ := rx; exact SeqAt.EqAt.none_str b t
    | _ => exact absurd (show false = true from fx) Bool.false_ne_true
  | bl a =>
    cases ry
    cases x with
    | non => cases rx; exact SeqAt.EqAt.bool_none a
    | bl b => cases rx; exact SeqAt.EqAt.bool_bool a b
    | int b => obtain ⟨t, rfl⟩ := rx; exact SeqAt.EqAt.bool_int a b t
    | str b => obtain ⟨t, rfl⟩ := rx; exact SeqAt.EqAt.bool_str a b t
    | _ => exact absurd (show false = true from fx) Bool.false_ne_true
  | int a =>
    obtain ⟨t', rfl⟩ := ry
    cases x with
    | non => cases rx; exact SeqAt.EqAt.int_none a t'
    | bl b => cases rx; exact SeqAt.EqAt.int_bool a t' b
    | int b => obtain ⟨t, rfl⟩ := rx; exact SeqAt.EqAt.int_int a t' b t
    | str b => obtain ⟨t, rfl⟩ := rx; exact SeqAt.EqAt.int_str a t' b t
    | _ => exact absurd (show false = true from fx) Bool.false_ne_true
  | str a =>
    obtain ⟨t', rfl⟩ := ry
    cases x with
    | non => cases rx; exact SeqAt.EqAt.str_none a t'
    | bl b => cases rx; exact SeqAt.EqAt.str_bool a t' b
    | int b => obtain ⟨t, rfl⟩ := rx; exact SeqAt.EqAt.str_int a t' b t
    | str b => obtain ⟨t, rfl⟩ := rx; exact SeqAt.EqAt.str_str a t' b t
    | _ => exact absurd (show false = true from fx) Bool.false_ne_true
  | _ => exact absurd (show false = true from fy) Bool.false_ne_true
noncomputable def eqU (x : V) (u : Value) : Bool := match u with
  | .none => eqV .non x
  | .bool b => eqV (.bl b) x
  | .int i _ => eqV (.int i) x
  | .str z _ => eqV (.str z) x
  | _ => false
theorem eqU_of {x y : V} {u : Value} (r : RelV y u) (f : flatV y = true) : eqU x u = eqV y x := by
  cases y with
  | non => cases r; rfl
  | bl b => cases r; rfl
  | int i => obtain ⟨t, rfl⟩ := r; rfl
  | str z => obtain ⟨t, rfl⟩ := r; rfl
  | _ => exact absurd (show false = true from f) Bool.false_ne_true
theorem any_eqU {x : V} : ∀ {xs : List V} {us : List Value}, Vals xs us → xs.all flatV = true → us.any (eqU x) = xs.any fun y => eqV y x
  | _, _, .nil, _ => rfl
  | y :: xs, u :: us, .cons r t, f => by
    rw [List.all_cons, Bool.and_eq_true] at f
    rw [List.any_cons, List.any_cons, eqU_of r f.1, any_eqU t f.2]
theorem mem_eqAt {A : Around} {s : Shared} {x : V} {v : Value} (rx : RelV x v) (fx : flatV x = true) : ∀ {xs : List V} {us : List Value}, Vals xs us → xs.all flatV = true → ∀ u ∈ us, SeqAt.EqAt A s u v (eqU x u)
  | _, _, .nil, _ => fun u hu => by cases hu
  | y :: xs, u :: us, .cons r t, f => fun u' hu => by
    rw [List.all_cons, Bool.and_eq_true] at f
    rcases List.mem_cons.mp hu with rfl | hu
    · rw [eqU_of r f.1]; exact eqAt_V r rx f.1 fx
    · exact mem_eqAt rx fx t f.2 u' hu
noncomputable def inV (x : V) (xs : List V) : Bool := xs.any fun y => eqV y x
noncomputable def rIn (K : PySem.W.Frag) (neg : Bool) : R2 := fun x y H Q => ∃ p xs, y = .ref p ∧ (SqL K H p xs ∨ SqT K H p xs) ∧ flatV x = true ∧ xs.all flatV = true ∧ Q (.bl (if neg then !inV x xs else inV x xs)) H
theorem op_in_seq : OpR X (compareOp .In) (rIn X.K false) := by
  intro pins s σ H x y v u Q I rx ry h
  obtain ⟨p, xs, rfl, hq, fx, fs, q⟩ := h
  cases ry
  rcases hq with hq | hq
  · obtain ⟨its, r, pl, hz⟩ := I.list hq
    refine SeqAt.in_listAt (eqU x) pl.isList (fun w hw => mem_eqAt rx fx r fs w (by simpa using hw)) ⟨.bl _, H, I, rfl, ?_⟩
    rw [show its.toArray.any (eqU x) = its.any (eqU x) by simp, any_eqU r fs]
    exact q
  · obtain ⟨its, r, pl, hz⟩ := I.tuple hq
    refine SeqAt.in_tupleAt (eqU x) pl (fun w hw => mem_eqAt rx fx r fs w (by simpa using hw)) ⟨.bl _, H, I, rfl, ?_⟩
    rw [show its.toArray.any (eqU x) = its.any (eqU x) by simp, any_eqU r fs]
    exact q
theorem call_len_seq : CallR X (.builtin "len") (fun xs H Q => ∃ p ys, xs = [.ref p] ∧ (SqL X.K H p ys ∨ SqT X.K H p ys) ∧ Q (.int ys.length) H) := by
  intro pins s σ H xs us Q I r h
  obtain ⟨p, ys, rfl, hq, q⟩ := h
  obtain ⟨u, rfl, rx⟩ := vals1 r
  cases rx
  have hn := line63
  rcases hq with hq | hq
  · obtain ⟨its, r', pl, hz⟩ := I.list hq
    have hlen := r'.length
    exact Calls.call_len_list pl.isList (by simp only [List.size_toArray] <;> omega) ⟨.int ys.length, H, I.tok _, ⟨s.toks + 1, by rw [List.size_toArray, hlen]⟩, q⟩
  · obtain ⟨its, r', pl, hz⟩ := I.tuple hq
    have hlen := r'.length
    exact len_tuple pl (by simp only [List.size_toArray] <;> omega) ⟨.int ys.length, H, I.tok _, ⟨s.toks + 1, by rw [List.size_toArray, hlen]⟩, q⟩
theorem call_list_of : CallR X (.type "list") (fun xs H Q => ∃ p ys, xs = [.ref p] ∧ (SqL X.K H p ys ∨ SqT X.K H p ys) ∧ ∀ l, H l = none → Q (.ref l) (upd H l (.lst ys))) := by
  intro pins s σ H xs us Q I r h
  obtain ⟨p, ys, rfl, hq, q⟩ := h
  obtain ⟨u, rfl, rx⟩ := vals1 r
  cases rx
  have fin : ∀ (its : List Value), Vals ys its → ys.length ≤ sizeLine → ∀ (h' : Heap) (c' : Nat), (∀ b o', s.heap.get? b = some o' → h'.get? b = some o') →
      h'.get? s.heap.objs.size = some { cls := .type "list", dict := none, data := .seq its.toArray c', slots := #[] } → EP X pins σ Q (.ref s.heap.objs.size) { s with heap := h' } := fun its r' hz h' c' kp e =>
    ⟨.ref s.heap.objs.size, _, I.laid (t' := s.toks) kp (Nat.le_refl _) (show ObjOk X.prog X.w _ h' _ (.lst ys) from ⟨hz, its, c', r', e⟩), rfl, q _ (I.hok.fresh (Nat.le_refl _))⟩
  rcases hq with hq | hq
  · obtain ⟨its, r', pl, hz⟩ := I.list hq
    have hlen := r'.length
    obtain ⟨o, ho, hc, n, hd⟩ := pl.isList
    exact call_list_seq p (.inl rfl) ho hc hd (fun h' c' kp e => fin its r' hz h' c' kp e) (by simp only [List.size_toArray] <;> omega)
  · obtain ⟨its, r', pl, hz⟩ := I.tuple hq
    have hlen := r'.length
    obtain ⟨o, ho, hc, n, hd⟩ := pl
    exact call_list_seq p (.inr rfl) ho hc hd (fun h' c' kp e => fin its r' hz h' c' kp e) (by simp only [List.size_toArray] <;> omega)
theorem call_tuple_of : CallR X (.type "tuple") (fun xs H Q => ∃ p ys, xs = [.ref p] ∧ ((SqL X.K H p ys ∧ ∀ l, H l = none → Q (.ref l) (upd H l (.tup ys))) ∨ (SqT X.K H p ys ∧ Q (.ref p) H))) := by
  intro pins s σ H xs us Q I r h
  obtain ⟨p, ys, rfl, h⟩ := h
  obtain ⟨u, rfl, rx⟩ := vals1 r
  cases rx
  rcases h with ⟨hq, q⟩ | ⟨hq, q⟩
  · obtain ⟨its, r', pl, hz⟩ := I.list hq
    have hlen := r'.length
    refine call_tuple_list pl.isList (fun h' kp => ?_) (by simp only [List.size_toArray] <;> omega)
    have I1 : Inv X pins σ H { s with heap := h' } := I.kept (t' := s.toks) kp
    have I2 : Inv X pins σ (upd H h'.objs.size (.tup ys)) { s with heap := h'.push { cls := .type "tuple", data := .seq its.toArray } } :=
      I1.laid (t' := s.toks) (fun b o e => Heap.get?_push_of_some _ e) (Nat.le_refl _) (show ObjOk X.prog X.w _ _ _ (.tup ys) from ⟨hz, its, r', IsTup.new _ _, _, Heap.get?_push_size _ rfl, rfl⟩)
    exact ⟨.ref h'.objs.size, _, I2, rfl, q _ (I1.hok.fresh (Nat.le_refl _))⟩
  · obtain ⟨its, r', pl, hz⟩ := I.tuple hq
    exact call_tuple_same pl ⟨.ref p, H, I, rfl, q⟩
noncomputable def tyV (K : PySem.W.Frag) (T : String) (x : V) (H : Hp) : Prop := match x with
  | .str _ => T = "str"
  | .int _ => T = "int"
  | .ref p => (T = "list" ∧ ∃ xs, SqL K H p xs) ∨ (T = "tuple" ∧ ((∃ o, K.lookup p = some o ∧ o.cls = .type "tuple" ∧ o.dict = none) ∨ ∃ xs, H p = some (.tup xs))) ∨
      (T = "dict" ∧ ((∃ kvs, H p = some (.dK kvs)) ∨ ∃ kvs, H p = some (.dT kvs))) ∨ (T = "set" ∧ ∃ S n, H p = some (.set S n))
  | _ => False
theorem tyV_is {pins : List (Addr × Obj)} {σ : St} {H : Hp} {s : Shared} {T : String} {x : V} {v : Value} (I : Inv X pins σ H s) (r : RelV x v) (ty : tyV X.K T x H) :
    s.TypeIs v T ∧ ∀ a, v = .ref a → ∃ ob, s.heap.get? a = some ob ∧ ob.dict = none := by
  cases x with
  | str z =>
    obtain ⟨t, rfl⟩ := r
    cases (show T = "str" from ty)
    exact ⟨typeIs_str s z t, fun _ e => nomatch e⟩
  | int i =>
    obtain ⟨t, rfl⟩ := r
    cases (show T = "int" from ty)
    exact ⟨typeIs_int s i t, fun _ e => nomatch e⟩
  | ref p =>
    cases r
    rcases ty with ⟨rfl, xs, hq⟩ | ⟨rfl, ⟨o, hk, hc, hd⟩ | ⟨xs, hq⟩⟩ | ⟨rfl, hk⟩ | ⟨rfl, S, n, hk⟩
    · obtain ⟨its, _, pl, _⟩ := I.list hq
      refine ⟨pl.isList.typeIs, fun a e => ?_⟩
      cases e
      obtain ⟨o, n, e, c, hd, _⟩ := pl
      exact ⟨o, e, hd⟩
    · refine ⟨⟨o, I.kIn p o hk, hc⟩, fun a e => ?_⟩
      cases e
      exact ⟨o, I.kIn _ o hk, hd⟩
    · obtain ⟨_, _, _, p1, o2, e2, d2⟩ := I.hok p _ hq
      refine ⟨p1.typeIs, fun a e => ?_⟩
      cases e
      exact ⟨o2, e2, d2⟩
    · have z : ∃ o, s.heap.get? p = some o ∧ o.ExactDict := by
        rcases hk with ⟨kvs, hk⟩ | ⟨kvs, hk⟩
        · obtain ⟨_, _, _, _, o, _, _, e, ex, _⟩ := I.hok p _ hk
          exact ⟨o, e, ex⟩
        · obtain ⟨_, _, _, _, o, _, _, e, ex, _⟩ := I.hok p _ hk
          exact ⟨o, e, ex⟩
      obtain ⟨o, e, ex⟩ := z
      refine ⟨⟨o, e, ex.1⟩, fun a e2 => ?_⟩
      cases e2
      exact ⟨o, e, ex.2.1⟩
    · obtain ⟨o, _, _, _, e, ex, _⟩ := I.hok p _ hk
      refine ⟨⟨o, e, ex.1⟩, fun a e2 => ?_⟩
      cases e2
      exact ⟨o, e, ex.2.1⟩
  | _ => exact False.elim ty
noncomputable def tBM (K : PySem.W.Frag) (T : String) (r : V → List V → Hp → VK → Prop) (to : TE) (t : TA) : TE := fun σ H Q => to σ H fun x H1 => tyV K T x H1 ∧ t σ H1 fun xs H2 => r x xs H2 Q
variable {o e : Expr} {es : List Expr} {to : TE} {t : TA} {name : Str} {apos cpos : Pos} {T id : String} {r : V → List V → Hp → VK → Prop}
theorem pe_bm (pa : PlainAttrs T) (slot : Slot T name id) (hty : typeOf (.builtin id) = pure (.type "method_descriptor")) (hm : MtR X id r) (ho : PE X o to) (ha : PA X (e :: es) t)
    (hbase : attributeBase o name X.env (eval o X.env) = eval o X.env := by rfl)
    (hfew : ((backTo cpos (starEach (e :: es) X.env)).all (fun x => !x.1) && (backToKw cpos (keywordEach [] X.env)).all (fun x => x.1.isSome)
      && decide ((e :: es).length + ([] : List Keyword).length + (if ([] : List Keyword).isEmpty then 0 else 1) < 30)) = true := by rfl)
    (hline : (apos.endLine == cpos.line) = true := by rfl) (hs : starEach (e :: es) X.env = (false, eval e X.env) :: starEach es X.env := by rfl) (hplain : (backTo cpos (starEach es X.env)).any (·.1) = false := by rfl) :
    PE X (.Call (.Attribute o name apos) (e :: es) [] cpos) (tBM X.K T r to t) := by
  intro pins s σ H Q I h
  refine wpAny_Call_method_late hbase hfew hline rfl (thn (ho pins s σ H _ I h) fun v s1 zq => ?_)
  obtain ⟨x, H1, I1, r1, ty, q1⟩ := zq
  obtain ⟨h1, h2⟩ := tyV_is I1 r1 ty
  refine ⟨T, id, pa, slot, hty, h1, h2, ?_⟩
  have hA := ha cpos pins s1 σ H1 _ I1 q1
  rw [hs] at hA ⊢
  refine Calls.callWith_builtin (by show (false || (backTo cpos (starEach es X.env)).any (·.1)) = false; rw [hplain] <;> rfl) (Calls.evalArgs_plain ?_)
  exact thn hA fun us s2 ⟨vs, H2, I2, r2, q2⟩ => hm pins s2 σ H2 x vs v us Q I2 r1 r2 q2
end
end L2
namespace L2
open PySem PySem.Spec PyProof.Rows
noncomputable def MtM (X : Cx) (id : String) (r : V → List V → Hp → VK → Prop) : Prop :=
  ∀ (pins : List (Addr × Obj)) (s : Shared) (σ : St) (H : Hp) (x : V) (xs : List V) (v : Value) (us : List Value) (Q : VK), Inv X pins σ H s → RelV x v → Vals xs us → r x xs H Q →
    wpAny (model X.prog X.w) X.A (call (.builtin id) (v :: us)) (EP X pins σ Q) X.xe s
theorem Vals.one : ∀ {x : V} {us : List Value}, Vals [x] us → ∃ u, us = [u] ∧ RelV x u
  | _, _, .cons r .nil => ⟨_, rfl, r⟩
theorem Vals.rep {xs : List V} {us : List Value} (h : Vals xs us) : ∀ k : Nat, Vals (List.replicate k xs).flatten (List.replicate k us).flatten
  | 0 => .nil
  | k + 1 => by
    rw [List.replicate_succ, List.replicate_succ, List.flatten_cons, List.flatten_cons]
    exact Vals.append h (Vals.rep h k)
theorem foldl_rep (its : List Value) : ∀ (k : Nat) (acc : List Value),
    List.foldl (fun x1 x2 => x1 ++ x2) acc.toArray (List.replicate k its.toArray) = (acc ++ (List.replicate k its).flatten).toArray
  | 0, acc => by simp
  | k + 1, acc => by
    have e : acc.toArray ++ its.toArray = (acc ++ its).toArray := by simp
    have e2 : (acc ++ its) ++ (List.replicate k its).flatten = acc ++ (List.replicate (k + 1) its).flatten := by
      rw [List.replicate_succ, List.flatten_cons, List.append_assoc]
    rw [← e2, ← foldl_rep its k (acc ++ its), ← e, List.replicate_succ, List.foldl_cons]
section
variable {X : Cx} {pins : List (Addr × Obj)} {σ : St} {H : Hp} {s : Shared} {l b : Addr} {xs ys zs : List V}
theorem Inv.lset {its its' : List Value} {n : Nat} {f : Array Value → Array Value} {t' : Nat} (I : Inv X pins σ H s) (hH : H l = some (.lst xs))
    (e : s.heap.get? l = some { cls := .type "list", data := .seq its.toArray n }) (hf : f its.toArray = its'.toArray) (hv : Vals ys its') (hz : ys.length ≤ sizeLine) :
    Inv X pins σ (upd H l (.lst ys)) { s with heap := s.heap.update l (Obj.mapSeq f), toks := t' } := by
  have q := PySem.IsL.update e f
  rw [hf] at q
  refine I.write (x := l) (e := l) (by rw [hH]; exact trivial) (.inl rfl) (fun b' u hb hu => (Heap.get?_update_other s.heap (Obj.mapSeq f) (Ne.symm hb)).trans hu) ⟨_, q⟩ ?_
  exact ⟨hz, its', _, hv, q⟩
theorem Inv.lnew {its : List Value} {t' : Nat} (I : Inv X pins σ H s) (hv : Vals ys its) (hz : ys.length ≤ sizeLine) :
    Inv X pins σ (upd H s.heap.objs.size (.lst ys)) { s with heap := s.heap.push { cls := .type "list", data := .seq its.toArray }, toks := t' } :=
  I.laid (fun _ _ q => Heap.get?_push_of_some _ q) (Nat.le_refl _) ⟨hz, its, 0, hv, Heap.get?_push_size _ rfl⟩
theorem Inv.fresh (I : Inv X pins σ H s) : H s.heap.objs.size = none := I.hok.fresh (Nat.le_refl _)
theorem Inv.lstM (I : Inv X pins σ H s) (hH : H l = some (.lst xs)) : xs.length ≤ sizeLine ∧ ∃ (its : List Value) (n : Nat), Vals xs its ∧ xs.length = its.length ∧ s.heap.get? l = some { cls := .type "list", data := .seq its.toArray n } := by
  obtain ⟨z, its, n, r, e⟩ := I.hok l _ hH
  exact ⟨z, its, n, r, r.length, e⟩
theorem notLongL {n : Nat} (h : n ≤ sizeLine) : Builtin.List.listTooLong n = false := by
  unfold Builtin.List.listTooLong
  exact decide_eq_false (by omega)
end
section
variable {X : Cx}
noncomputable def rAppend : V → List V → Hp → VK → Prop := fun x vs H Q => ∃ l xs y, x = .ref l ∧ vs = [y] ∧ H l = some (.lst xs) ∧ xs.length < sizeLine ∧ Q .non (upd H l (.lst (xs ++ [y])))
theorem mt_append : MtM X "list.append" rAppend := by
  intro pins s σ H x vs v us Q I rx rv h
  obtain ⟨l, xs, y, rfl, rfl, hH, hz, q⟩ := h
  cases rx
  obtain ⟨u, rfl, ru⟩ := rv.one
  obtain ⟨z, its, n, r, hl, e⟩ := I.lstM hH
  refine call_meets F.slot_list_append ⟨_, e, rfl⟩ F.entry_list_append (F.args_list_append_2 _ _) (PySem.list_append l its.toArray n u (by rw [List.size_toArray]; omega)) ⟨e, ?_⟩
  refine ⟨.non, _, I.lset (its' := its ++ [u]) hH e (by simp) (r.append (.cons ru .nil)) ?_, rfl, q⟩
  rw [List.length_append, List.length_singleton]
  omega
noncomputable def rExtend : V → List V → Hp → VK → Prop := fun x vs H Q => ∃ l b xs zs, x = .ref l ∧ vs = [.ref b] ∧ H l = some (.lst xs) ∧ H b = some (.lst zs) ∧ xs.length + zs.length ≤ sizeLine ∧ Q .non (upd H l (.lst (xs ++ zs)))
theorem mt_extend : MtM X "list.extend" rExtend := by
  intro pins s σ H x vs v us Q I rx rv h
  obtain ⟨l, b, xs, zs, rfl, rfl, hH, hB, hz, q⟩ := h
  cases rx
  obtain ⟨u, rfl, ru⟩ := rv.one
  cases ru
  obtain ⟨z, its, n, r, hl, e⟩ := I.lstM hH
  obtain ⟨z2, its2, n2, r2, hl2, e2⟩ := I.lstM hB
  have hsz : its.toArray.size + its2.toArray.size ≤ sizeLine := by rw [List.size_toArray, List.size_toArray]; omega
  have hlong : ¬ (!its.toArray.isEmpty && Builtin.List.listTooLong (its.toArray.size + its2.toArray.size)) = true := by
    rw [notLongL hsz, Bool.and_false]
    exact Bool.false_ne_true
  refine call_meets F.slot_list_extend ⟨_, e, rfl⟩ F.entry_list_extend (F.args_list_extend_2 _ _)
    (AutoSeq1.list_extend_list_list_0 l its.toArray n b its2.toArray n2 hlong (by rw [List.size_toArray]; omega) (by omega)) ⟨e, e2, ?_⟩
  refine ⟨.non, _, I.lset (its' := its ++ its2) hH e (by simp) (r.append r2) ?_, rfl, q⟩
  rw [List.length_append]
  omega
noncomputable def rCat : R2 := fun x y H Q => ∃ l b xs zs, x = .ref l ∧ y = .ref b ∧ H l = some (.lst xs) ∧ H b = some (.lst zs) ∧ xs.length + zs.length ≤ sizeLine ∧ ∀ p, H p = none → Q (.ref p) (upd H p (.lst (xs ++ zs)))
theorem op_cat : OpR X (binaryOp .Add) rCat := by
  intro pins s σ H x y v u Q I rx ry h
  obtain ⟨l, b, xs, zs, rfl, rfl, hH, hB, hz, q⟩ := h
  cases rx
  cases ry
  obtain ⟨z, its, n, r, hl, e⟩ := I.lstM hH
  obtain ⟨z2, its2, n2, r2, hl2, e2⟩ := I.lstM hB
  refine PySem.P.add_list e e2 ?_ (by rw [List.size_toArray, List.size_toArray]; omega)
  have ea : its.toArray ++ its2.toArray = (its ++ its2).toArray := by simp
  rw [ea]
  exact ⟨.ref _, _, I.lnew (t' := s.toks) (r.append r2) (by rw [List.length_append]; omega), rfl, q _ I.fresh⟩
noncomputable def rRep : R2 := fun x y H Q => ∃ l k xs, x = .ref l ∧ y = .int k ∧ H l = some (.lst xs) ∧ -(2 ^ 63) ≤ k ∧ k < 2 ^ 63 ∧ xs.length * k.toNat ≤ sizeLine ∧
  ∀ p, H p = none → Q (.ref p) (upd H p (.lst (List.replicate k.toNat xs).flatten))
theorem len_rep {α : Type} (xs : List α) (k : Nat) : (List.replicate k xs).flatten.length = k * xs.length := by
  induction k with
  | zero => simp
  | succ k ih => rw [List.replicate_succ, List.flatten_cons, List.length_append, ih, Nat.succ_mul, Nat.add_comm]
theorem op_rep : OpR X (binaryOp .Mult) rRep := by
  intro pins s σ H x y v u Q I rx ry h
  obtain ⟨l, k, xs, rfl, rfl, hH, h1, h2, hz, q⟩ := h
  cases rx
  obtain ⟨t, rfl⟩ := ry
  obtain ⟨z, its, n, r, hl, e⟩ := I.lstM hH
  have hlen : its.toArray.size * k.toNat ≤ sizeLine := by rw [List.size_toArray, ← hl]; exact hz
  have hcap : ¬ its.toArray.size * k.toNat > (2 ^ 63 - 1) / 8 := by
    have : (sizeLine : Nat) ≤ (2 ^ 63 - 1) / 8 := by decide
    omega
  have hfit : ¬ (!Builtin.List.listFitsIndex k) = true := by
    rw [fitsIndex_both h1 h2]
    exact Bool.false_ne_true
  have hlong : ¬ Builtin.List.listTooLong (its.toArray.size * k.toNat) = true := by
    rw [notLongL hlen]
    exact Bool.false_ne_true
  have hnew : List.foldl (fun x1 x2 => x1 ++ x2) #[] (List.replicate (if its.toArray.isEmpty = true then 0 else k.toNat) its.toArray) = (List.replicate k.toNat its).flatten.toArray := by
    have f0 : ∀ m : Nat, List.foldl (fun x1 x2 => x1 ++ x2) #[] (List.replicate m its.toArray) = (List.replicate m its).flatten.toArray := fun m => by
      have := foldl_rep its m []
      rw [List.nil_append] at this
      exact this
    rw [f0]
    cases its with
    | nil => simp
    | cons a r' => rw [if_neg (by simp)]
  refine wpAny_binaryOp_repeat_ref (T := "list") (U := "int") (by decide) ⟨_, e, rfl⟩ (fun s' => typeIs_int s' k t) noFill_list_mul F.fills_int_mul F.slot_int_rmul repeat_list F.slot_int_index.lookup
    (call_meets F.slot_int_rmul (typeIs_int s k t) F.entry_int_rmul (F.args_int_rmul_2 _ _) (int___rmul___int_list k t l its.toArray n)
      ⟨e, rfl, ⟨_, e, rfl⟩, call_meets F.slot_list_mul ⟨_, e, rfl⟩ F.entry_list_mul (F.args_list_mul_2 _ _) (AutoListH.list___mul___list_int_3 l its.toArray n k t hfit hcap hlong) ⟨e, ?_⟩⟩)
  rw [hnew]
  exact ⟨.ref _, _, I.lnew (t' := s.toks) (r.rep k.toNat) (by rw [len_rep, Nat.mul_comm]; exact hz), rfl, q _ I.fresh⟩
end
section
variable {prog : Program} {w : World} {A : Around} {E : Value → Shared → Prop} {s : Shared}
end
section
variable {X : Cx}
end
end L2
namespace Att
open PySem PySem.W PySem.Calls PyProof.Rows
theorem ints_of_wellAll {P : Params} {h : Heap} : ∀ (ns : List Int) (vs : List Value), WellAll P h vs (ns.map WData.int) → IntsAre vs ns := by
  intro ns
  induction ns with
  | nil =>
    intro vs w
    rw [List.map_nil] at w
    cases w
    exact .nil
  | cons n ns ih =>
    intro vs w
    rw [List.map_cons] at w
    cases w with
    | cons a b =>
      cases a
      exact .cons _ _ (ih _ b)
theorem script_of {l : OpenLaw} {n : Nat} (hn : l.most = some n) {P : Params} {h : Heap} {args : List WData} {vals : List Value}
    (hpre : l.row.toRowW.claim.pre args = true) (hwl : WellAll P h vals args) :
    ∃ a vs ns, vals = [Value.ref a] ∧ args = [WData.list (ns.map WData.int)] ∧ h.get? a = some { cls := .type "list", data := .seq vs.toArray } ∧ IntsAre vs ns ∧ ns.length ≤ n := by
  have hsh : WShape.hasAll [] args [.list .int] = true := (pre_splitW hpre).1
  have hc : l.pre.holds [] { args := args } = true := (pre_splitW hpre).2
  obtain ⟨d, r, rfl, h1, h2⟩ := hasAllW_cons hsh
  obtain rfl := hasAllW_nil h2
  obtain ⟨xs, rfl, h3⟩ := hasW_list h1
  obtain ⟨ns, rfl⟩ := items_int h3
  have hlen : ns.length ≤ n := by
    unfold OpenLaw.pre at hc
    have h4 : (WTm.not (.lt (.lit (.int (n : Int))) (.len (.arg 0)))).holds [] { args := [.list (ns.map .int)] } = true := by
      have h4 := (holds_andW hc).1
      rw [hn] at h4
      exact h4
    have h5 := condW_of h4 (w_not (w_lt w_lit (w_len_list (w_arg rfl))))
    rw [List.length_map] at h5
    refine Nat.le_of_not_lt fun q => ?_
    have q' : (n : Int) < ((ns.length : Nat) : Int) := by omega
    first
      | (rw [decide_eq_true q'] at h5; exact absurd h5 (by decide))
      | (simp at h5; omega)
  cases hwl with
  | cons w1 w2 =>
    cases w2
    cases w1 with
    | list ho hall => exact ⟨_, _, ns, rfl, rfl, ho, ints_of_wellAll ns _ hall, hlen⟩
theorem post_true (l : OpenLaw) (args : List WData) : l.row.toRowW.claim.post args (.bool true) args = true :=
  postW_of (r := l.row.toRowW) (X := (true == true))
    (show WShape.has [] (.bool true) .bool = true by first | rfl | decide | simp [WShape.has, WShape.arms, WShape.armsAll])
    (show (WTm.eq .res (.lit (.bool true))).value [] { args := args, res := some (.bool true), after := args } = some (.bool (true == true)) from w_eq_bool (w_res rfl) w_lit) rfl
theorem attach_call {l : OpenLaw} {n : Nat} {q : Program} {loose : List Str} {XP : (Str → Option Value) → Heap → Prop} {YP : World → Heap → Prop} {d : DefRec}
    (hn : l.most = some n) (hdf : d.params.defaults = [])
    (call : ∀ (w : World) (s₀ s₁ : Shared) (mg mb : Str → Option Value) (fa : Addr) (o : Obj) (pm cd doc : Value) (a : Addr) (vs : List Value) (ns : List Int),
      Ground q loose [] XP w s₀ mg mb s₁.heap → YP w s₁.heap →
      s₁.heap.get? fa = some o → o.data = .func (docDef d.name d.params d.body d.scope pm cd doc) → s₁.heap.CodeRec cd d.name → mg d.name = some (.ref fa) →
      s₁.heap.get? a = some { cls := .type "list", data := .seq vs.toArray } → IntsAre vs ns → ns.length ≤ n → s₁.gens = #[] →
      codeAny (model l.prog w) callerA (.call (.ref fa) ⟨[.ref a], []⟩) (fun r s' => r = .ok (.ret (.bool true)) ∧ OldK s₁.heap s'.heap ∧ s'.os = s₁.os ∧ AllBare s'.gens) s₁) :
    WalkO q loose XP YP l.row.toRowW d [] (fun f vs => PySem.call f vs) := by
  intro w s₀ s₁ mg mb G Y fa o pm cd doc dV kV ho hd hcd hD hmg hg args vals as hpre hlay hrd hwl hlo
  obtain rfl : dV = .none := Dflts.none hD hdf
  obtain rfl : kV = .none := Dflts.noKw hD
  obtain ⟨a, vs, ns, rfl, rfl, hobj, hints, hlen⟩ := script_of hn hpre hwl
  refine enter_call (codeAny_mono (call w s₀ s₁ mg mb fa o pm cd doc a vs ns G Y ho (fd_plain hd) hcd hmg hobj hints hlen hg) fun r s' hq => ?_)
  obtain ⟨rfl, h2, h3, h4⟩ := hq
  exact ⟨.inl ⟨.bool true, .bool true, [], rfl, fun _ => rfl, .bool true, post_true l _, fun _ => ⟨List.Pairwise.nil, fun _ hm => (nomatch hm)⟩⟩, h2, h3, h4⟩
section
variable {prog : Program} {w : World} {A : Around} {E : Value → Shared → Prop} {s : Shared} {K : Frag}
end
end Att
namespace L2
open PySem PySem.Spec PyProof.Rows
theorem vals_ints : ∀ {vs : List Value} {ns : List Int}, IntsAre vs ns → Vals (ns.map V.int) vs
  | _, _, .nil => .nil
  | _, _, .cons n t h => .cons ⟨t, rfl⟩ (vals_ints h)
noncomputable def Only (H : Hp) : Prop := ∀ b, H b = none ∨ ∃ o xs, H b = some (.frz o (.lst xs))
theorem law_call {P : Program} {w : World} {K : PySem.W.Frag} {mg mb : Str → Option Value} {CX : CXT} {k : Nat} {fa a : Addr} {fd : FuncData} {x : Str} {sp : Sp} {s₁ : Shared} {vs : List Value} {ns : List Int}
    (KX : K.In s₁.heap) (hns : s₁.heap.Ns mainGlobals mg) (hb : s₁.heap.Ns builtinsNs mb) (hbb : ∀ x : Str, x ≠ "__name__" → mb x = bootBuiltins x) (hlim : s₁.heap.NoLimit) (hg : s₁.gens = #[])
    (ha : s₁.heap.get? a = some { cls := .type "list", data := .seq vs.toArray }) (hi : IntsAre vs ns) (hl : ns.length ≤ sizeLine) (hr : Room k callerA)
    (F : ∀ base : Heap, K.In base → base.Ns mainGlobals mg → FnOk P w K mg base CX k fa fd [x] sp) (hbind : ∀ (s : Shared) (u : Value), BindsTo s fd ⟨[u], []⟩ [(x, u)])
    (hsp : ∀ H : Hp, Only H → SqL K H a (ns.map V.int) → sp [.ref a] H (fun v _ => v = .bl true) fun _ _ _ => False)
    (hCX : ∀ H e s', CX [] H s₁ (fun _ _ _ => False) e s' → False) :
    codeAny (model P w) callerA (.call (.ref fa) ⟨[.ref a], []⟩) (fun r s' => r = .ok (.ret (.bool true)) ∧ OldK s₁.heap s'.heap ∧ s'.os = s₁.os ∧ AllBare s'.gens) s₁ := by
  have rv := vals_ints hi
  have lenV := hi.length
  -- from an abstract heap in which nothing but the script may be tracked
  have core : ∀ H : Hp, Only H → SqL K H a (ns.map V.int) → HOk P w H s₁.heap → (∀ b, H b ≠ none → b = a) → (H a ≠ none → K.lookup a = none) →
      codeAny (model P w) callerA (.call (.ref fa) ⟨[.ref a], []⟩) (fun r s' => r = .ok (.ret (.bool true)) ∧ OldK s₁.heap s'.heap ∧ s'.os = s₁.os ∧ AllBare s'.gens) s₁ := by
    intro H hO hS hok hA hK
    have base_of : ∀ {b : Addr} {o : Obj}, s₁.heap.get? b = some o → H b = none → (hidT s₁.heap H).get? b = some o := fun e n => hidT_get e n
    have noA : ∀ {b : Addr} {o : Obj} {es : Array DictEntry} {ep : Nat}, s₁.heap.get? b = some o → o.data = .dict es ep → H b = none := fun {b o es ep} e d => by
      cases q : H b with
      | none => rfl
      | some u =>
        have e' : b = a := hA b (by rw [q]; simp)
        subst e'
        rw [ha] at e; cases e
        have d' : Data.seq vs.toArray _ = Data.dict es ep := d
        cases d'
    have nsK : ∀ {b : Addr} {m : Str → Option Value}, s₁.heap.Ns b m → (hidT s₁.heap H).Ns b m := fun {b m} ⟨o, es, ep, e, d, r⟩ => ⟨o, es, ep, base_of e (noA e d), d, r⟩
    have hKb : K.In (hidT s₁.heap H) := fun b o e => base_of (KX b o e) (by
      cases q : H b with
      | none => rfl
      | some u =>
        have e' : b = a := hA b (by rw [q]; simp)
        subst e'
        rw [hK (by rw [q]; simp)] at e; cases e)
    have hM : Mod K mg (hidT s₁.heap H) := ⟨hKb, nsK hns, ⟨mb, nsK hb, hbb⟩, let ⟨mc, h1, h2⟩ := hlim; ⟨mc, nsK h1, h2⟩⟩
    have e0 : Env0 P w K mg (hidT s₁.heap H) callerA [] s₁ H := ⟨rfl, hM, fun b o e => of_hidT e, Nat.le_of_eq (hidT_size _ _), trivial, fun b hb => absurd (show b ∈ ([] : List Addr) from hb) (by simp), hok, .of_eq hg⟩
    refine codeAny_mono ((F _ hKb (nsK hns)).run callerA [] s₁ H ⟨[.ref a], []⟩ [.ref a] [.ref a] _ _ hr e0 (hbind s₁ (.ref a)) (.cons rfl .nil) (hsp H hO hS)) fun r s' h => ?_
    cases r with
    | error e => exact (hCX H e s' h).elim
    | ok fl =>
      cases fl with
      | next => exact False.elim h
      | brk => exact False.elim h
      | cont => exact False.elim h
      | ret u =>
        obtain ⟨v, H', os, bare, un, hok', r', q⟩ := h
        have q' : v = .bl true := q
        subst q'
        obtain rfl : u = Value.bool true := r'
        refine ⟨rfl, OldK.of_keep fun b o e => ?_, os, bare⟩
        cases q : H b with
        | none => exact un.keep b o e q (by intro z; exact absurd (show b ∈ ([] : List Addr) from z) (by simp)) (by simp)
        | some u =>
          rcases hO b with z | ⟨ob, xs, z⟩
          · rw [q] at z; cases z
          · have z2 := un.frzs b ob _ z
            obtain ⟨e1, _⟩ := hok b _ z
            obtain ⟨e2, _⟩ := hok' b _ z2
            rw [e] at e1; cases e1
            exact e2
  cases hk : K.lookup a with
  | some o =>
    -- the script is one of the module's own objects
    have e := KX a o hk
    rw [ha] at e
    cases e
    refine core (fun _ => none) (fun _ => .inl rfl) (.inr ⟨_, vs.toArray, _, hk, rfl, rfl, rfl, by rw [List.size_toArray, lenV]; exact hl, by simpa using rv⟩) (fun b u z => by have z' : (none : Option HO) = some u := z; cases z') (fun b z => absurd rfl z) fun z => absurd rfl z
  | none =>
    refine core (fun b => if b = a then some (.frz { cls := .type "list", data := .seq vs.toArray } (.lst (ns.map V.int))) else none) (fun b => ?_) (.inl (.inr ⟨{ cls := .type "list", data := .seq vs.toArray }, if_pos rfl⟩)) (fun b u z => ?_) (fun b z => ?_) fun _ => hk
    · by_cases hb : b = a
      · exact .inr ⟨_, _, if_pos hb⟩
      · exact .inl (if_neg hb)
    · by_cases hb : b = a
      · have z' := (if_pos hb).symm.trans z
        cases z'
        subst hb
        exact ⟨ha, by rw [List.length_map]; exact hl, vs, _, rv, ha⟩
      · have z' := (if_neg hb).symm.trans z
        cases z'
    · by_cases hb : b = a
      · exact hb
      · exact absurd (if_neg hb) z
end L2
namespace L2
open PySem PySem.Spec PyProof.Rows
theorem walk_of {l : PySem.W.OpenLaw} {n k : Nat} {q : Program} {loose : List Str} {XP : (Str → Option Value) → Heap → Prop} {YP : World → Heap → Prop} {d : DefRec} {K : Params → PySem.W.Frag} {CX : World → CXT} {sp : World → Sp} {x : Str}
    (hn : l.most = some n) (hn2 : n ≤ sizeLine) (hdf : d.params.defaults = []) (hr : Room k callerA)
    (hY : ∀ (w : World) (h : Heap), YP w h → (K w.params).In h)
    (F : ∀ (w : World) (mg : Str → Option Value) (fa : Addr) (h : Heap), (K w.params).In h → h.Ns mainGlobals mg → mg d.name = some (.ref fa) →
      ∃ fd : FuncData, (∀ (s : Shared) (u : Value), BindsTo s fd ⟨[u], []⟩ [(x, u)]) ∧
        ∀ base : Heap, (K w.params).In base → base.Ns mainGlobals mg → FnOk l.prog w (K w.params) mg base (CX w) k fa fd [x] (sp w))
    (hsp : ∀ (w : World) (H : Hp) (a : Addr) (ns : List Int), ns.length ≤ n → Only H → SqL (K w.params) H a (ns.map V.int) → sp w [.ref a] H (fun v _ => v = .bl true) fun _ _ _ => False)
    (hCX : ∀ (w : World) (H : Hp) (s : Shared) (e : Value) (s' : Shared), CX w [] H s (fun _ _ _ => False) e s' → False) :
    PySem.W.WalkO q loose XP YP l.row.toRowW d [] (fun f vs => PySem.call f vs) := by
  refine Att.attach_call hn hdf fun w s₀ s₁ mg mb fa o pm cd doc a vs ns G Y ho hd hcd hmg hobj hints hlen hg => ?_
  have KX := hY w _ Y
  obtain ⟨fd, hb, hF⟩ := F w mg fa _ KX G.T.g hmg
  exact law_call KX G.T.g G.T.b G.T.builtins G.T.nolimit hg hobj hints (Nat.le_trans hlen hn2) hr hF hb (fun H hO hS => hsp w H a ns hlen hO hS) fun H e s' => hCX w H s₁ e s'
end L2
namespace L2
open PySem PySem.Spec PyProof.Rows
noncomputable def defArgs (s : Stmt) : Arguments := match s with
  | .FunctionDef _ a _ _ _ _ _ _ _ _ => a
  | _ => { posonlyargs := [], args := [], vararg := none, kwonlyargs := [], kw_defaults := [], kwarg := none, defaults := [] }
noncomputable def defBody (s : Stmt) : List Stmt := match s with
  | .FunctionDef _ _ b _ _ _ _ _ _ _ => b
  | _ => []
noncomputable def defScope (s : Stmt) : Scope := match s with
  | .FunctionDef _ _ _ _ _ _ sc _ _ _ => sc
  | _ => { kind := .function, names := [], isGenerator := false, isCoroutine := false }
noncomputable abbrev CX0 : CXT := fun _ _ _ _ _ _ => False
noncomputable abbrev E0 : XK := fun _ _ _ => False
theorem pass0 {X : Cx} : Passes CX0 X E0 := fun _ _ _ _ _ _ _ h => h.elim
structure Fun (K : PySem.W.Frag) (x qual : Str) (st : Stmt) (f : Addr) (fd : FuncData) : Prop where
  ex : ∃ (oc : Value) (od : Option Addr) (kV doc pm : Value) (an : Option Addr) (cdv ct : Value) (osl : Array (Option Value)),
    fd = PySem.W.fnOf x qual (defArgs st) (defBody st) (defScope st) .none kV doc pm an cdv ct ∧ K.lookup f = some ⟨oc, od, .func fd, osl⟩ ∧ PySem.W.codeIn K cdv qual = true
  kp : PySem.W.keepIn K (.ref f) = true
section
variable {P : Program} {w : World} {K : PySem.W.Frag} {mg : Str → Option Value} {base : Heap}
theorem Fun.ok {x qual : Str} {st : Stmt} {f : Addr} {fd : FuncData} {N ps : List Str} {k : Nat} {sp : Sp} (F : Fun K x qual st f fd) (S : FnScope N ps (defScope st)) (len : ∀ vs H Q E, sp vs H Q E → vs.length = ps.length)
    (hbody : ∀ (cdv : Value) (A : Around) (outer : List Env) (s : Shared) (H : Hp) (vs : List V) (Q : VK) (E : XK), Room k (A.deeper (envOfC qual (defScope st) s.heap.objs.size f cdv)) → sp vs H Q E →
      ∃ t, PSs (cxOf CX0 P w K mg base N qual (defScope st) f cdv A outer s H E).nox (defBody st) t ∧ t { nx := fun _ H' => Q .non H', rt := Q } (start N vs) H) : FnOk P w K mg base CX0 (k + 1) f fd ps sp := by
  obtain ⟨oc, od, kV, doc, pm, an, cdv, ct, osl, rfl, lk, hcd⟩ := F.ex
  refine fn_of lk hcd S len fun A outer s H vs Q E hr hsp => ?_
  obtain ⟨t, h, q⟩ := hbody cdv A outer s H vs Q E hr hsp
  exact ⟨t, h.nox, q⟩
theorem Fun.binds {x qual : Str} {st : Stmt} {f : Addr} {fd : FuncData} {ps : List Str} (F : Fun K x qual st f fd)
    (h : ∀ (kV doc pm : Value) (an : Option Addr) (cdv ct : Value) (us : List Value), us.length = ps.length → bindArgs (PySem.W.fnOf x qual (defArgs st) (defBody st) (defScope st) .none kV doc pm an cdv ct) ⟨us, []⟩ = pure (ps.zip us)) : Binds K fd ps [] := by
  obtain ⟨oc, od, kV, doc, pm, an, cdv, ct, osl, rfl, lk, hcd⟩ := F.ex
  exact .all (h kV doc pm an cdv ct)
theorem fun_mk {x qual : Str} {st : Stmt} {f : Addr} {oc : Value} {od an : Option Addr} {osl : Array (Option Value)} {kV doc pm cdv ct : Value} (l : K.lookup f = some ⟨oc, od, .func (PySem.W.fnOf x qual (defArgs st) (defBody st) (defScope st) .none kV doc pm an cdv ct), osl⟩)
    (c : PySem.W.codeIn K cdv qual = true) (k : PySem.W.keepIn K (.ref f) = true) : Fun K x qual st f (PySem.W.fnOf x qual (defArgs st) (defBody st) (defScope st) .none kV doc pm an cdv ct) := ⟨⟨oc, od, kV, doc, pm, an, cdv, ct, osl, rfl, l, c⟩, k⟩
end
section
variable {X : Cx}
end
end L2
set_option Elab.async false
set_option linter.all false
set_option maxRecDepth 100000
namespace L2
open PySem PySem.Spec PyProof.Rows
section
variable {κ : Type} [DecidableEq κ]
noncomputable def valV (kvs : List (κ × V)) (k : κ) : Option V := (kvs.find? fun kv => decide (kv.1 = k)).map (·.2)
noncomputable def putK (kvs : List (κ × V)) (k : κ) (v : V) : List (κ × V) :=
  if (kvs.any fun kv => decide (kv.1 = k)) = true then kvs.map (fun kv => if kv.1 = k then (kv.1, v) else kv) else kvs ++ [(k, v)]
theorem valV_pos {p : κ × V} {r : List (κ × V)} {k : κ} (e : p.1 = k) : valV (p :: r) k = some p.2 := by simp [valV, List.find?_cons, e]
theorem valV_neg {p : κ × V} {r : List (κ × V)} {k : κ} (e : ¬ p.1 = k) : valV (p :: r) k = valV r k := by simp [valV, List.find?_cons, e]
theorem valV_any (k : κ) : ∀ kvs : List (κ × V), (kvs.any fun kv => decide (kv.1 = k)) = (valV kvs k).isSome
  | [] => rfl
  | p :: r => by
    rw [List.any_cons]
    by_cases e : p.1 = k
    · simp only [valV_pos e, decide_eq_true e, Bool.true_or, Option.isSome_some]
    · rw [valV_neg e, decide_eq_false e, Bool.false_or]; exact valV_any k r
theorem length_putK (kvs : List (κ × V)) (k : κ) (v : V) : (putK kvs k v).length ≤ kvs.length + 1 := by
  unfold putK
  split
  · rw [List.length_map]; omega
  · rw [List.length_append, List.length_cons, List.length_nil]; omega
theorem RelO.isSome_eq {o : Option V} {u : Option Value} (r : RelO o u) : o.isSome = u.isSome := by
  cases o with
  | none => cases u with
    | none => rfl
    | some _ => exact (show False from r).elim
  | some _ => cases u with
    | none => exact (show False from r).elim
    | some _ => rfl
theorem KV.val {kvs : List (κ × V)} {vs : List (κ × Value)} (r : KV kvs vs) (k : κ) : RelO (valV kvs k) (valueAt vs k) := by
  unfold KV at r
  induction r with
  | nil => exact True.intro
  | @cons p q ps qs h t ih =>
    obtain ⟨h1, h2⟩ := h
    by_cases e : p.1 = k
    · have e' : q.1 = k := h1.symm.trans e
      have b : valueAt (q :: qs) k = some q.2 := by simp [valueAt, List.find?_cons, e']
      rw [valV_pos e, b]; exact h2
    · have e' : ¬ q.1 = k := fun z => e (h1.trans z)
      have b : valueAt (q :: qs) k = valueAt qs k := by simp [valueAt, List.find?_cons, e']
      rw [valV_neg e, b]; exact ih
theorem KV.any {kvs : List (κ × V)} {vs : List (κ × Value)} (r : KV kvs vs) (k : κ) : (kvs.any fun kv => decide (kv.1 = k)) = vs.any fun kv => decide (kv.1 = k) := by
  unfold KV at r
  induction r with
  | nil => rfl
  | cons h t ih => rw [List.any_cons, List.any_cons, ih, h.1]
theorem KV.repl {kvs : List (κ × V)} {vs : List (κ × Value)} (r : KV kvs vs) (k : κ) {y : V} {u : Value} (ry : RelV y u) :
    KV (kvs.map fun kv => if kv.1 = k then (kv.1, y) else kv) (vs.map fun kv => if kv.1 = k then (kv.1, u) else kv) := by
  unfold KV at r ⊢
  induction r with
  | nil => exact .nil
  | @cons p q ps qs h t ih =>
    rw [List.map_cons, List.map_cons]
    refine .cons ?_ ih
    obtain ⟨h1, h2⟩ := h
    by_cases e : p.1 = k
    · rw [if_pos e, if_pos (h1.symm.trans e)]; exact ⟨h1, ry⟩
    · rw [if_neg e, if_neg (fun z => e (h1.trans z))]; exact ⟨h1, h2⟩
theorem KV.put {kvs : List (κ × V)} {vs : List (κ × Value)} (r : KV kvs vs) (k : κ) {y : V} {u : Value} (ry : RelV y u) : KV (putK kvs k y) (stored vs k u) := by
  unfold putK stored
  rw [r.any k]
  by_cases e : (vs.any fun kv => decide (kv.1 = k)) = true
  · rw [if_pos e, if_pos e]; exact r.repl k ry
  · rw [if_neg e, if_neg e]; exact Paired.snoc r ⟨rfl, ry⟩
theorem KV.length {kvs : List (κ × V)} {vs : List (κ × Value)} (r : KV kvs vs) : kvs.length = vs.length := Paired.length r
end
theorem kV_is {P : Program} {w : World} {k : Key} {u : Value} (r : RelV (kV k) u) : (mixKind P w).is k u = true := by
  cases k with
  | inl i => obtain ⟨t, e⟩ := (show ∃ t, u = Value.int i t from r); subst e; exact mixKind_int P w i t
  | inr x => obtain ⟨t, e⟩ := (show ∃ t, u = Value.str x t from r); subst e; exact mixKind_str P w x t
theorem items_are {P : Program} {w : World} : ∀ {ks : List Key} {us : List Value}, Vals (ks.map kV) us → ItemsAre (mixKind P w) ks us
  | [], _, r => by rw [List.map_nil] at r; cases r; exact .nil
  | k :: ks, _, r => by
    rw [List.map_cons] at r
    cases r with
    | cons h t => exact .cons (kV_is h) (items_are t)
noncomputable abbrev KT (H : Hp) : List (List Key × V) → List (List Key × Addr × Value) → Prop := Paired fun p q => p.1 = q.1 ∧ H q.2.1 = some (.tup (p.1.map kV)) ∧ RelV p.2 q.2.2
theorem KT.val {H : Hp} {kvs : List (List Key × V)} {xs : List (List Key × Addr × Value)} (r : KT H kvs xs) (k : List Key) : RelO (valV kvs k) ((atKey xs k).map (·.2)) := by
  induction r with
  | nil => exact True.intro
  | @cons p q ps qs h t ih =>
    obtain ⟨h1, _, h2⟩ := h
    by_cases e : p.1 = k
    · have e' : q.1 = k := h1.symm.trans e
      have b : atKey (q :: qs) k = some q.2 := by simp [atKey, List.find?_cons, e']
      rw [valV_pos e, b]; exact h2
    · have e' : ¬ q.1 = k := fun z => e (h1.trans z)
      have b : atKey (q :: qs) k = atKey qs k := by simp [atKey, List.find?_cons, e']
      rw [valV_neg e, b]; exact ih
theorem KT.repl {H : Hp} {kvs : List (List Key × V)} {xs : List (List Key × Addr × Value)} (r : KT H kvs xs) (k : List Key) {y : V} {u : Value} (ry : RelV y u) :
    KT H (kvs.map fun kv => if kv.1 = k then (kv.1, y) else kv) (xs.map (putAt k u)) := by
  induction r with
  | nil => exact .nil
  | @cons p q ps qs h t ih =>
    rw [List.map_cons, List.map_cons]
    refine .cons ?_ ih
    obtain ⟨h1, h2, h3⟩ := h
    unfold putAt
    by_cases e : p.1 = k
    · rw [if_pos e, if_pos (h1.symm.trans e)]; exact ⟨h1, h2, ry⟩
    · rw [if_neg e, if_neg (fun z => e (h1.trans z))]; exact ⟨h1, h2, h3⟩
theorem KT.put {H : Hp} {kvs : List (List Key × V)} {xs : List (List Key × Addr × Value)} (r : KT H kvs xs) (k : List Key) {b : Addr} {y : V} {u : Value} (hb : H b = some (.tup (k.map kV))) (ry : RelV y u) :
    KT H (putK kvs k y) (storedH xs k b u) := by
  have e : (kvs.any fun kv => decide (kv.1 = k)) = (atKey xs k).isSome := by
    rw [valV_any, (r.val k).isSome_eq, Option.isSome_map]
  unfold putK storedH
  rw [e]
  by_cases q : (atKey xs k).isSome = true
  · rw [if_pos q, if_pos q]; exact r.repl k ry
  · rw [if_neg q, if_neg q]; exact Paired.snoc r ⟨rfl, hb, ry⟩
theorem KT.keeps {H H' : Hp} {kvs : List (List Key × V)} {xs : List (List Key × Addr × Value)} (r : KT H kvs xs) (ht : ∀ b ys, H b = some (.tup ys) → H' b = some (.tup ys)) : KT H' kvs xs :=
  Paired.mapP r fun _ _ z => ⟨z.1, ht _ _ z.2.1, z.2.2⟩
section
variable {P : Program} {w : World} {H : Hp} {h : Heap} {a : Addr}
theorem rd_of {u : HO} (ok : HOk P w H h) (e : Rd H a u) : ObjOk P w H h a u := e.ok ok
theorem dk_rd {kvs : List (Key × V)} (ok : HOk P w H h) (e : Rd H a (.dK kvs)) : kvs.length ≤ sizeLine ∧ (a == sysModules) = false ∧ ∃ vs, KV kvs vs ∧ h.DictOf (mixKind P w) a vs :=
  show ObjOk P w H h a (.dK kvs) from rd_of ok e
theorem dk_of {kvs : List (Key × V)} (ok : HOk P w H h) (e : H a = some (.dK kvs)) : kvs.length ≤ sizeLine ∧ (a == sysModules) = false ∧ ∃ vs, KV kvs vs ∧ h.DictOf (mixKind P w) a vs := dk_rd ok (.inl e)
theorem key_of {ks : List Key} (ok : HOk P w H h) (e : H a = some (.tup (ks.map kV))) : (tupleKind (mixKind P w)).is h ks a := by
  obtain ⟨_, its, r, ⟨o, h1, h2, n, h3⟩, _⟩ := (show ObjOk P w H h a (.tup (ks.map kV)) from ok a _ e)
  exact ⟨o, its.toArray, n, h1, h2, h3, by simpa using items_are r⟩
theorem dt_rd {kvs : List (List Key × V)} (ok : HOk P w H h) (e : Rd H a (.dT kvs)) : kvs.length ≤ sizeLine ∧ (a == sysModules) = false ∧
    ∃ xs, KT H kvs xs ∧ h.DictOfH (tupleKind (mixKind P w)) a xs := by
  obtain ⟨z, y, xs, r, o, es, ep, h1, h2, h3, h4, h5⟩ := (show ObjOk P w H h a (.dT kvs) from rd_of ok e)
  refine ⟨z, y, xs, r, o, es, ep, h1, h2, h3, h4, fun x hx => ?_, h5⟩
  have all : ∀ {l : List (List Key × V)} {m : List (List Key × Addr × Value)}, KT H l m → ∀ x ∈ m, (tupleKind (mixKind P w)).is h x.1 x.2.1 := by
    intro l m q
    induction q with
    | nil => intro x hx; exact nomatch hx
    | @cons p q ps qs hq t ih =>
      intro x hx
      rcases List.mem_cons.mp hx with e | hx
      · subst e
        exact key_of ok (by rw [← hq.1]; exact hq.2.1)
      · exact ih x hx
  exact all r x hx
theorem dt_of {kvs : List (List Key × V)} (ok : HOk P w H h) (e : H a = some (.dT kvs)) : kvs.length ≤ sizeLine ∧ (a == sysModules) = false ∧
    ∃ xs, KT H kvs xs ∧ h.DictOfH (tupleKind (mixKind P w)) a xs := dt_rd ok (.inl e)
end
noncomputable def DGet (H : Hp) (a : Addr) (y : V) (r : Option V) : Prop :=
  (∃ kvs k, Rd H a (.dK kvs) ∧ y = kV k ∧ r = valV kvs k) ∨ ∃ kvs k b, Rd H a (.dT kvs) ∧ y = .ref b ∧ H b = some (.tup (k.map kV)) ∧ r = valV kvs k
noncomputable def DPut (H : Hp) (a : Addr) (y v : V) (H' : Hp) : Prop :=
  (∃ kvs k, H a = some (.dK kvs) ∧ y = kV k ∧ kvs.length < sizeLine ∧ H' = upd H a (.dK (putK kvs k v))) ∨
  ∃ kvs k b, H a = some (.dT kvs) ∧ y = .ref b ∧ H b = some (.tup (k.map kV)) ∧ kvs.length < sizeLine ∧ H' = upd H a (.dT (putK kvs k v))
theorem DGet.t {H : Hp} {a b : Addr} {kvs : List (List Key × V)} {k : List Key} (e : H a = some (.dT kvs)) (eb : H b = some (.tup (k.map kV))) : DGet H a (.ref b) (valV kvs k) := .inr ⟨kvs, k, b, .inl e, rfl, eb, rfl⟩
theorem DPut.t {H : Hp} {a b : Addr} {kvs : List (List Key × V)} {k : List Key} {v : V} (e : H a = some (.dT kvs)) (eb : H b = some (.tup (k.map kV))) (hl : kvs.length < sizeLine) :
    DPut H a (.ref b) v (upd H a (.dT (putK kvs k v))) := .inr ⟨kvs, k, b, e, rfl, eb, hl, rfl⟩
section
variable {X : Cx} {pins : List (Addr × Obj)} {σ : St} {H : Hp} {s : Shared} {a : Addr} {y v : V} {u r : Value} {o : Option V} {A : Around} {E : Value → Shared → Prop}
theorem Inv.big (I : Inv X pins σ H s) : sysModules < s.heap.objs.size := by
  have h : mainGlobals < s.heap.objs.size := (I.mod.glob.keeps I.bk).lt
  exact Nat.lt_trans (by decide) h
theorem d_getItem {Q : Value → Shared → Prop} (hu : A.units + 1 < cLine) (I : Inv X pins σ H s) (g : DGet H a y (some v)) (ry : RelV y u) (h : ∀ w' s', Inv X pins σ H s' → RelV v w' → Q w' s') :
    wpAny (model X.prog X.w) A (getItem (.ref a) u) Q E s := by
  rcases g with ⟨kvs, k, e, ey, l⟩ | ⟨kvs, k, b, e, ey, eb, l⟩
  · subst ey
    obtain ⟨z, hd, vs, rel, dd⟩ := dk_rd I.hok e
    obtain ⟨w', hw, rw'⟩ := RelO.some_of (v := v) (o := valueAt vs k) (by rw [l]; exact rel.val k)
    exact wpAny_getItem_of (kV_is ry) dd.mapOf hw (h w' _ (I.tok _) rw')
  · subst ey
    cases (show u = Value.ref b from ry)
    obtain ⟨z, hd, xs, rel, dd⟩ := dt_rd I.hok e
    obtain ⟨w', hw, rw'⟩ := RelO.some_of (v := v) (o := (atKey xs k).map (·.2)) (by rw [l]; exact rel.val k)
    obtain ⟨p, hp, hp2⟩ := Option.map_eq_some_iff.mp hw
    refine wpAny_getItem_heap (tupleKind_room_in1 hu) (key_of I.hok eb) dd hp ?_
    rw [hp2]
    exact h w' _ (I.tok _) rw'
theorem d_write {h' : Heap} {t' : Nat} {ob : HO} (I : Inv X pins σ H s) (mu : Mut (H a)) (hs : Heap.SameBut a s.heap h') (he : ∃ q, h'.get? a = some q) (new : ObjOk X.prog X.w (upd H a ob) h' a ob) :
    Inv X pins σ (upd H a ob) { s with heap := h', toks := t' } :=
  I.write (x := a) (e := a) mu (.inl rfl) (fun b q hb z => (hs.2 b hb).trans z) he new
theorem dk_new {P : Program} {w : World} {H' : Hp} {h' : Heap} {kvs : List (Key × V)} {vs : List (Key × Value)} (z : kvs.length ≤ sizeLine) (hd : (a == sysModules) = false) (rel : KV kvs vs) (dd : h'.DictOf (mixKind P w) a vs) :
    ObjOk P w H' h' a (.dK kvs) := ⟨z, hd, vs, rel, dd⟩
theorem d_setItem {H' : Hp} {Q : Unit → Shared → Prop} (hu : A.units + 1 < cLine) (I : Inv X pins σ H s) (g : DPut H a y v H') (ry : RelV y u) (rv : RelV v r) (h : ∀ s', Inv X pins σ H' s' → Q () s') :
    wpAny (model X.prog X.w) A (setItem (.ref a) u r) Q E s := by
  rcases g with ⟨kvs, k, e, ey, l, eH⟩ | ⟨kvs, k, b, e, ey, eb, l, eH⟩
  · subst ey eH
    obtain ⟨z, hd, vs, rel, dd⟩ := dk_of I.hok e
    have hz : vs.length ≤ sizeLine := by rw [← rel.length]; exact z
    have hl : (putK kvs k v).length ≤ sizeLine := by have := length_putK kvs k v; omega
    refine wpAny_setItem_pairs (hsz := hz) (kV_is ry) dd fun h' dd' hs => h _ ?_
    have he : ∃ q, h'.get? a = some q := let ⟨q, _, _, hq, _⟩ := dd'; ⟨q, hq⟩
    exact d_write I (by rw [e]; exact True.intro) hs he (dk_new hl hd (rel.put k rv) dd')
  · subst ey eH
    cases (show u = Value.ref b from ry)
    obtain ⟨z, hd, xs, rel, dd⟩ := dt_of I.hok e
    have hz : xs.length ≤ sizeLine := by rw [← Paired.length rel]; exact z
    have hl : (putK kvs k v).length ≤ sizeLine := by have := length_putK kvs k v; omega
    refine wpAny_setItem_heap (hsz := hz) (tupleKind_room_in1 hu) (key_of I.hok eb) dd fun h' dd' hs => h _ ?_
    obtain ⟨q, es, ep, hq, h2, h3, h4, _, h5⟩ := dd'
    refine d_write I (by rw [e]; exact True.intro) hs ⟨q, hq⟩ ⟨hl, hd, _, (rel.put k eb rv).keeps fun c ys ec => ?_, q, es, ep, hq, h2, h3, h4, h5⟩
    rw [upd_ne (ne_of ec e (fun z => nomatch z))]
    exact ec
end
section
variable {X : Cx} {pins : List (Addr × Obj)} {σ : St} {H : Hp} {s : Shared} {a : Addr} {kvs : List (Key × V)} {k : Key} {u : Value} {A : Around} {E : Value → Shared → Prop}
end
noncomputable def NoSl (i : Expr) : Prop := ∀ ov iv, subscripted i false ov iv = operate [ov, iv] (getItem ov iv)
theorem subD_of {prog : Program} {w : World} {A : Around} {E : Value → Shared → Prop} {s : Shared} {env : Env} {value slice : Expr} {pos : Pos} {T id : String} {Q : Value → Shared → Prop}
    (hl : typeLookup (.type T) "__getitem__" = pure (some (.builtin id))) (hs : NoSl slice)
    (h : wpAny (model prog w) A (eval value env) (fun o s₁ => wpAny (model prog w) A (eval slice env) (fun i s₂ => s₂.TypeIs o T ∧ wpAny (model prog w) A (getItem o i) Q E s₂) E s₁) E s) :
    wpAny (model prog w) A (eval (.Subscript value slice pos) env) Q E s := by
  refine Subscript_ (wpAny_mono h (fun o s₁ h₁ => wpAny_mono h₁ (fun i s₂ h₂ => ?_) fun _ _ x => x) fun _ _ x => x)
  obtain ⟨hT, h₂⟩ := h₂
  unfold subscriptTail
  refine wpAny_bind ?_
  rw [getitemInPython_of_ne hT.not_modules]
  refine wpAny_bind (wpAny_specialOf hT hl ?_)
  have fin : wpAny (model prog w) A (subscripted slice false o i) (fun r s₃ => wpAny (model prog w) A (letTemporaryGo value o r >>= fun _ => pure r) Q E s₃) E s₂ := by
    rw [hs o i]
    exact wpAny_operating (wpAny_mono h₂ (fun r s₃ h₃ => wpAny_bind (wpAny_letTemporaryGo (wpAny_pure h₃))) fun _ _ x => x)
  first
    | exact wpAny_pure (wpAny_bind fin)
    | exact wpAny_bind (wpAny_pure (wpAny_bind fin))
    | exact wpAny_bind fin
theorem dict_typeIs {X : Cx} {pins : List (Addr × Obj)} {σ : St} {H : Hp} {s : Shared} {a : Addr} {y : V} {o : Option V} (I : Inv X pins σ H s) (g : DGet H a y o) : s.TypeIs (.ref a) "dict" := by
  rcases g with ⟨kvs, k, e, _, _⟩ | ⟨kvs, k, b, e, _, _, _⟩
  · obtain ⟨_, _, vs, _, dd⟩ := dk_rd I.hok e
    exact dd.typeIs
  · obtain ⟨_, _, xs, _, dd⟩ := dt_rd I.hok e
    exact dd.typeIs
noncomputable def tDGet (td ty : TE) : TE := fun σ H Q => td σ H fun x H1 => ty σ H1 fun y H2 => ∃ a v, x = .ref a ∧ DGet H2 a y (some v) ∧ Q v H2
noncomputable def sDPut (td ty tv : TE) : TS := fun D σ H => tv σ H fun v H1 => td σ H1 fun x H2 => ty σ H2 fun y H3 => ∃ a H4, x = .ref a ∧ DPut H3 a y v H4 ∧ D.nx σ H4
section
variable {X : Cx} {o i e value : Expr} {pos pos' tpos : Pos} {td ty tv : TE}
theorem pe_dget (hu : X.A.units + 1 < cLine) (ho : PE X o td) (hi : PE X i ty) (hs : NoSl i) : PE X (.Subscript o i pos) (tDGet td ty) := by
  intro pins s σ H Q I h
  refine subD_of PySem.F.slot_dict_getitem.lookup hs (thn (ho pins s σ H _ I h) fun u s1 ⟨x, H1, I1, rx, q1⟩ => thn (hi pins s1 σ H1 _ I1 q1) fun iv s2 zq => ?_)
  obtain ⟨y, H2, I2, ry, a, v, ex, g, q2⟩ := zq
  subst ex
  obtain rfl : u = Value.ref a := rx
  exact ⟨dict_typeIs I2 g, d_getItem hu I2 g ry fun w' s3 I3 rw' => ⟨v, H2, I3, rw', q2⟩⟩
theorem ps_dput (hu : X.A.units + 1 < cLine) (ho : PE X o td) (hi : PE X i ty) (hv : PE X value tv) (hs : swapsWith value (some (.Subscript o i pos')) pos.line X.env = pure false) :
    PS X (.Assign [.Subscript o i pos'] value pos) (sDPut td ty tv) := by
  intro pins s σ H D I h
  refine wpAny_Assign_Subscript (thn (hv pins s σ H _ I h) fun r s1 ⟨v, H1, I1, rv, q1⟩ => thn (ho pins s1 σ H1 _ I1 q1) fun u s2 ⟨x, H2, I2, rx, q2⟩ => thn (hi pins s2 σ H2 _ I2 q2) fun iv s3 ⟨y, H3, I3, ry, a, H4, ex, g, q3⟩ => ?_) hs
  subst ex
  obtain rfl : u = Value.ref a := rx
  exact d_setItem hu I3 g ry rv fun s4 I4 => ⟨σ, H4, I4, q3⟩
end
theorem dt_empty {P : Program} {w : World} {H : Hp} (h : Heap) (hb : sysModules < h.objs.size) : ObjOk P w H (h.push { cls := .type "dict", data := .dict #[] }) h.objs.size (.dT []) :=
  ⟨Nat.zero_le _, beq_eq_false_iff_ne.mpr (Ne.symm (Nat.ne_of_lt hb)), [], .nil, _, #[], 0, Heap.get?_push_size _ rfl, ⟨rfl, rfl, rfl⟩, rfl, rfl, List.nodup_nil⟩
noncomputable def tDNewT : TE := fun _ H Q => ∀ p, H p = none → Q (.ref p) (upd H p (.dT []))
section
variable {X : Cx} {pos : Pos}
theorem pe_dnewT : PE X (.Dict [] [] pos) tDNewT := fun pins s σ H Q I h =>
  wpAny_Dict_empty ⟨.ref s.heap.objs.size, _, I.laid (a := s.heap.objs.size) (o := .dT []) (t' := s.toks) (fun _ _ q => Heap.get?_push_of_some _ q) (Nat.le_refl _) (dt_empty s.heap I.big), rfl, h _ (I.hok.fresh (Nat.le_refl _))⟩
end
structure M1 (X : Cx) (o : Expr) (m : Str) (apos : Pos) (e : Expr) (cpos : Pos) : Prop where
  base : attributeBase o m X.env (eval o X.env) = eval o X.env
  few : ((backTo cpos (starEach [e] X.env)).all (fun x => !x.1) && (backToKw cpos (keywordEach [] X.env)).all (fun x => x.1.isSome)
    && decide (([e] : List Expr).length + ([] : List Keyword).length + (if ([] : List Keyword).isEmpty then 0 else 1) < 30)) = true
  line : (apos.endLine == cpos.line) = true
  trees : backTo cpos (starEach [e] X.env) = [(false, eval e X.env)]
structure M2 (X : Cx) (o : Expr) (m : Str) (apos : Pos) (e f : Expr) (cpos : Pos) : Prop where
  base : attributeBase o m X.env (eval o X.env) = eval o X.env
  few : ((backTo cpos (starEach [e, f] X.env)).all (fun x => !x.1) && (backToKw cpos (keywordEach [] X.env)).all (fun x => x.1.isSome)
    && decide (([e, f] : List Expr).length + ([] : List Keyword).length + (if ([] : List Keyword).isEmpty then 0 else 1) < 30)) = true
  line : (apos.endLine == cpos.line) = true
  trees : backTo cpos (starEach [e, f] X.env) = [(false, eval e X.env), (false, eval f X.env)]
section
variable {X : Cx} {pins : List (Addr × Obj)} {σ : St} {H : Hp} {s : Shared} {a : Addr} {y d : V} {u r : Value} {o : Option V} {A : Around} {E : Value → Shared → Prop}
end
section
variable {X : Cx} {o e f : Expr} {apos cpos : Pos} {td ty tx : TE}
end
section
variable {X : Cx} {pins : List (Addr × Obj)} {σ : St} {H : Hp} {s : Shared} {a : Addr} {kvs : List (Key × V)} {A : Around} {E : Value → Shared → Prop}
end
section
variable {X : Cx} {pins : List (Addr × Obj)} {σ : St} {H : Hp} {s : Shared} {a : Addr} {y : V} {u : Value} {A : Around} {E : Value → Shared → Prop}
end
end L2
set_option Elab.async false
set_option linter.all false
set_option maxRecDepth 100000
namespace L2
open PySem PySem.Spec PyProof.Rows
noncomputable def inX (X : Cx) (scope : Scope) (cl : List (Str × Addr)) (C : Addr) (s₂ : Shared) (H₂ : Hp) (ex : List Addr) (pn : List (Addr × Obj)) : Cx :=
  { X with env := compEnvC scope cl C X.env, s₀ := s₂, H₀ := H₂, outer := X.stack, ex := ex, fn := fun _ => false, pn := pn, xe := fun _ _ => False }
structure Clos (scope : Scope) (env : Env) (cl : List (Str × Addr)) : Prop where
  eq : closureFor scope env = pure cl
  sub : ∀ x c, cl.lookup x = some c → env.cells.lookup x = some c
  all : ∀ x, (x, NameKind.free) ∈ scope.names → cl.lookup x = env.cells.lookup x
theorem clos_go (env : Env) : ∀ (names : List (Str × NameKind)) (acc : List (Str × Addr)), (∀ x, (x, NameKind.free) ∈ names → ∃ c, env.cells.lookup x = some c) → (∀ x c, acc.lookup x = some c → env.cells.lookup x = some c) →
    ∃ cl, (forIn names acc fun x r => if (x.2 == NameKind.free) = true then do let c ← cellOf env x.1; pure (ForInStep.yield ((x.1, c) :: r)) else pure (ForInStep.yield r)) = (pure cl : Sem _) ∧
      (∀ x c, cl.lookup x = some c → env.cells.lookup x = some c) ∧ (∀ x c, acc.lookup x = some c → ∃ d, cl.lookup x = some d) ∧ ∀ x, (x, NameKind.free) ∈ names → ∃ c, cl.lookup x = some c
  | [], acc, _, ha => ⟨acc, rfl, ha, fun x c h => ⟨c, h⟩, fun x h => nomatch h⟩
  | (n, k) :: r, acc, hn, ha => by
    by_cases hk : k = .free
    · subst hk
      obtain ⟨c, hc⟩ := hn n List.mem_cons_self
      have hacc : ∀ x d, List.lookup x ((n, c) :: acc) = some d → env.cells.lookup x = some d := fun x d h => by
        rw [List.lookup_cons] at h
        cases e : x == n with
        | true =>
          rw [e] at h
          have e' : x = n := by simpa using e
          cases h
          rw [e']; exact hc
        | false =>
          rw [e] at h
          exact ha x d h
      obtain ⟨cl, h1, h2, h3, h4⟩ := clos_go env r ((n, c) :: acc) (fun x hx => hn x (List.mem_cons_of_mem _ hx)) hacc
      refine ⟨cl, ?_, h2, fun x d h => ?_, fun x hx => ?_⟩
      · rw [List.forIn_cons]
        have e1 : cellOf env n = pure c := by unfold cellOf; rw [hc]
        simp only [beq_self_eq_true, if_true, e1]
        exact h1
      · cases e : x == n with
        | true => exact h3 x c (by rw [List.lookup_cons, e])
        | false => exact h3 x d (by rw [List.lookup_cons, e]; exact h)
      · rcases List.mem_cons.mp hx with e | hx
        · cases e
          exact h3 n c (by rw [List.lookup_cons]; simp)
        · exact h4 x hx
    · have hb : (k == NameKind.free) = false := by simpa using hk
      obtain ⟨cl, h1, h2, h3, h4⟩ := clos_go env r acc (fun x hx => hn x (List.mem_cons_of_mem _ hx)) ha
      refine ⟨cl, ?_, h2, h3, fun x hx => ?_⟩
      · rw [List.forIn_cons]
        simp only [hb, Bool.false_eq_true, if_false]
        exact h1
      · rcases List.mem_cons.mp hx with e | hx
        · cases e; exact absurd rfl hk
        · exact h4 x hx
theorem clos_of {scope : Scope} {env : Env} (h : ∀ x, (x, NameKind.free) ∈ scope.names → ∃ c, env.cells.lookup x = some c) : ∃ cl, Clos scope env cl := by
  obtain ⟨cl, h1, h2, _, h4⟩ := clos_go env scope.names [] h (fun _ _ z => nomatch z)
  refine ⟨cl, ⟨?_, h2, fun x hx => ?_⟩⟩
  · unfold closureFor
    show (forIn scope.names [] _ >>= _) = _
    have e : (forIn scope.names ([] : List (Str × Addr)) fun (x : Str × NameKind) (r : List (Str × Addr)) => if (x.2 == NameKind.free) = true then do let c ← cellOf env x.1; pure (ForInStep.yield ((x.1, c) :: r)) else pure (ForInStep.yield r)) = (pure cl : Sem _) := h1
    exact congrArg (· >>= fun cs => pure cs) e
  · obtain ⟨c, hc⟩ := h4 x hx
    rw [hc, h2 x c hc]
noncomputable def clr : List Nat → St → St
  | [], σ => σ
  | j :: js, σ => clr js (σ.set j none)
theorem clr_length : ∀ (js : List Nat) (σ : St), (clr js σ).length = σ.length
  | [], _ => rfl
  | j :: js, σ => by
    show (clr js (σ.set j none)).length = _
    rw [clr_length js, List.length_set]
theorem clr_get : ∀ (js : List Nat) {σ : St} {i : Nat} {v : V}, (clr js σ)[i]? = some (some v) → σ[i]? = some (some v)
  | [], _, _, _, h => h
  | j :: js, σ, i, v, h => by
    have q := clr_get js (σ := σ.set j none) h
    rw [List.getElem?_set] at q
    split at q
    · split at q
      · cases q
      · cases q
    · exact q
theorem clr_out : ∀ (js : List Nat) {σ : St} {i : Nat} {v : V}, (clr js σ)[i]? = some (some v) → i ∉ js
  | [], _, _, _, _ => by simp
  | j :: js, σ, i, v, h => by
    intro hm
    rcases List.mem_cons.mp hm with e | hm
    · have q := clr_get js (σ := σ.set j none) h
      rw [e, List.getElem?_set] at q
      simp at q
    · exact clr_out js h hm
noncomputable def Wk (σ σ' : St) : Prop := σ'.length = σ.length ∧ ∀ (i : Nat) v, σ[i]? = some (some v) → σ'[i]? = some (some v)
theorem Inv.wk {X : Cx} {pins : List (Addr × Obj)} {σ σ' : St} {H : Hp} {s : Shared} (I : Inv X pins σ' H s) (w : Wk σ σ') : Inv X pins σ H s := I.weak w.1.symm w.2
theorem mem_of_lookup' {x : Str} {k : NameKind} : ∀ {l : List (Str × NameKind)}, l.lookup x = some k → (x, k) ∈ l
  | [], h => nomatch h
  | (n, j) :: r, h => by
    rw [List.lookup_cons] at h
    cases e : x == n with
    | true =>
      rw [e] at h
      cases h
      have e' : x = n := by simpa using e
      rw [e']; exact List.mem_cons_self
    | false =>
      rw [e] at h
      exact List.mem_cons_of_mem _ (mem_of_lookup' h)
theorem kind_in {scope : Scope} {env : Env} {x : Str} {k : NameKind} (h : (relabel scope env).names.lookup x = some k) : scope.names.lookup x = some k ∨ (k = .cell ∧ scope.names.lookup x = some .free) := by
  have go : ∀ (l : List (Str × NameKind)), (l.map fun (n, k) => if (k == NameKind.free && env.scope.kind == .function && env.kindOf n == some .cell) then (n, NameKind.cell) else (n, k)).lookup x = some k →
      l.lookup x = some k ∨ (k = .cell ∧ l.lookup x = some .free) := by
    intro l
    induction l with
    | nil => intro h; exact nomatch h
    | cons p r ih =>
      obtain ⟨n, j⟩ := p
      intro h
      rw [List.map_cons, List.lookup_cons] at h
      rw [List.lookup_cons]
      by_cases hc : (j == NameKind.free && env.scope.kind == .function && env.kindOf n == some .cell) = true
      · simp only [hc, if_true] at h
        cases e : x == n with
        | true =>
          rw [e] at h
          simp only [Option.some.injEq] at h
          refine .inr ⟨h.symm, ?_⟩
          simp only [Bool.and_eq_true, beq_iff_eq] at hc
          rw [hc.1.1]
        | false =>
          rw [e] at h
          exact ih h
      · simp only [hc, Bool.false_eq_true, if_false] at h
        cases e : x == n with
        | true =>
          rw [e] at h
          exact .inl h
        | false =>
          rw [e] at h
          exact ih h
  exact go _ h
structure CompOk (X : Cx) (scope : Scope) (js : List Nat) : Prop where
  kind : scope.kind = .function
  nocell : ∀ y ∈ scope.names, y.2 ≠ .cell
  names : ∀ y ∈ scope.names, y.2 = .local → scope.names.lookup y.1 = some .local
  fr : ∀ y ∈ scope.names, y.2 = .free → X.env.kindOf y.1 = some .cell ∨ X.env.kindOf y.1 = some .free
  loc : ∀ (i : Nat) x, X.N[i]? = some x → scope.names.lookup x = some .local → i ∈ js
noncomputable abbrev lobj (us : List Value) (n : Nat) : Obj := { cls := .type "list", data := .seq us.toArray n }
section
variable {X : Cx} {pins : List (Addr × Obj)} {σ : St} {H₂ : Hp} {s₂ : Shared} {scope : Scope} {js : List Nat} {cl : List (Str × Addr)} {fp : List Addr} {C D : Addr}
theorem inX_ok (I : Inv X pins σ H₂ s₂) (c : CompOk X scope js) (k : Clos scope X.env cl) (hf : ∀ b ∈ fp, FpOk X pins H₂ b) (hfo : ∀ b ∈ fp, b < s₂.heap.objs.size) (hC : s₂.heap.objs.size ≤ C) :
    (inX X scope cl C s₂ H₂ fp (X.pn ++ pins)).Ok where
  mod := I.ok.mod
  kind := c.kind
  glob := I.ok.glob
  blt := I.ok.blt
  above := hC
  inj := fun x y a h1 h2 => I.ok.inj x y a (k.sub x a h1) (k.sub y a h2)
  has := fun x hx => by
    have hx : (relabel scope X.env).names.lookup x = some .cell ∨ (relabel scope X.env).names.lookup x = some .free := hx
    have fre : (x, NameKind.free) ∈ scope.names := by
      rcases hx with h | h
      · rcases kind_in h with h | ⟨_, h⟩
        · exact absurd rfl (c.nocell _ (mem_of_lookup' h))
        · exact mem_of_lookup' h
      · rcases kind_in h with h | ⟨h, _⟩
        · exact mem_of_lookup' h
        · cases h
    obtain ⟨a, ha⟩ := I.ok.has x (c.fr _ fre rfl)
    exact ⟨a, (k.all x fre).trans ha⟩
  cab := fun x a h _ => nomatch h
  hd := I.ok.hd
  frames := I.ok.frames
  stk := .inl rfl
  exf := fun b hb => ⟨Nat.ne_of_lt (Nat.lt_of_lt_of_le (hfo b hb) hC), fun x a h => (hf b hb).2.2.2.2.1 x a (k.sub x a h)⟩
  bs := I.bs
  bsz := Nat.le_trans I.ok.bsz I.sz
  noex := fun b o e hb => by
    rcases (hf b hb).2.2.2.1 with z | z
    · exact I.ok.noex b o e z
    · exact absurd (Nat.lt_of_lt_of_le (Heap.lt_size e) (Nat.le_trans I.ok.bsz z)) (Nat.lt_irrefl _)
  exfs := fun b hb z => by
    rcases List.mem_cons.mp (I.stkSub b z) with e | e
    · exact (hf b hb).2.1 e
    · exact (hf b hb).2.2.1 e
  funs := I.stack
  frf := I.stkFree
theorem inX_start {s₄ : Shared} {m : Str → Option Value} {n : Nat} (I : Inv X pins σ H₂ s₂) (c : CompOk X scope js) (k : Clos scope X.env cl) (hf : ∀ b ∈ fp, FpOk X pins H₂ b) (hfo : ∀ b ∈ fp, b < s₂.heap.objs.size) (hC : s₂.heap.objs.size ≤ C)
    (old : ∀ b o, s₂.heap.get? b = some o → s₄.heap.get? b = some o) (hns : s₄.heap.Ns C m) (hD : s₂.heap.objs.size ≤ D) (hDC : D ≠ C) (hDo : s₄.heap.get? D = some (lobj [] n)) (hos : s₄.os = s₂.os) (hg : s₄.gens = s₂.gens) :
    Inv (inX X scope cl C s₂ H₂ fp (X.pn ++ pins)) [(D, lobj [] n)] (clr js σ) H₂ s₄ := by
  have nfs : ∀ b, s₂.heap.objs.size ≤ b → b ∉ frs X.stack := fun b hb z => by
    obtain ⟨_, o, ho, _⟩ := I.stack.mem z
    exact absurd (Nat.lt_of_lt_of_le (Heap.lt_size ho) hb) (Nat.lt_irrefl _)
  refine ⟨inX_ok I c k hf hfo hC, hos, by rw [hg]; exact I.bare, Un.kept old, ⟨m, hns, fun i x v e1 e2 e3 => ?_⟩, fun x a e => ?_, I.hok.fresh hC, fun x a e => I.freeC x a (k.sub x a e), fun p hp => ?_, I.hok.kept old, (clr_length js σ).trans I.len⟩
  · have e3 : (relabel scope X.env).names.lookup x = some .local ∨ (relabel scope X.env).names.lookup x = some .cell ∨ (relabel scope X.env).names.lookup x = some .free := e3
    have e1 : X.N[i]? = some x := e1
    have fre : (x, NameKind.free) ∈ scope.names := by
      rcases e3 with h | h | h
      · rcases kind_in h with h | ⟨h, _⟩
        · exact absurd (c.loc i x e1 h) (clr_out js e2)
        · cases h
      · rcases kind_in h with h | ⟨_, h⟩
        · exact absurd rfl (c.nocell _ (mem_of_lookup' h))
        · exact mem_of_lookup' h
      · rcases kind_in h with h | ⟨h, _⟩
        · exact mem_of_lookup' h
        · cases h
    have hko := c.fr _ fre rfl
    obtain ⟨m0, hn0, hl0⟩ := I.loc
    obtain ⟨u, r, l⟩ := hl0 i x v e1 (clr_get js e2) (hko.elim (fun z => .inr (.inl z)) fun z => .inr (.inr z))
    refine ⟨u, r, ?_⟩
    rcases l with ⟨z, _⟩ | ⟨_, a, ea, ha⟩
    · rcases hko with q | q <;> (have q' : X.env.kindOf x = _ := q; rw [z] at q'; cases q')
    · have ha' : s₄.heap.IsCell a (some u) := let ⟨o, ho, hd⟩ := ha; ⟨o, old _ _ ho, hd⟩
      have hk' : (relabel scope X.env).names.lookup x = some .cell ∨ (relabel scope X.env).names.lookup x = some .free := by
        rcases e3 with h | h | h
        · rcases kind_in h with h | ⟨h, _⟩
          · exact absurd (c.loc i x e1 h) (clr_out js e2)
          · cases h
        · exact .inl h
        · exact .inr h
      exact .inr ⟨hk', a, (k.all x fre).trans ea, ha'⟩
  · obtain ⟨v, o, ho, hd⟩ := I.cell x a (k.sub x a e)
    exact ⟨v, o, old _ _ ho, hd⟩
  · rcases List.mem_append.mp hp with hp | hp
    · obtain ⟨q1, q2, q3, q4, q5⟩ := I.pin p hp
      refine ⟨old _ _ q1, q2, Nat.ne_of_lt (Nat.lt_of_lt_of_le (Heap.lt_size q1) hC), fun z => ?_, q5⟩
      rcases List.mem_cons.mp (I.stkSub _ z) with e | e
      · exact q3 e
      · exact q4 e
    · have e : p = (D, lobj [] n) := by simpa using hp
      subst e
      exact ⟨hDo, I.hok.fresh hD, hDC, nfs D hD, fun v z => by cases z⟩
end
theorem HOk.take {P : Program} {w : World} {H : Hp} {h : Heap} {a : Addr} {o : HO} (x : HOk P w H h) (hn : H a = none) (new : ObjOk P w (upd H a o) h a o) : HOk P w (upd H a o) h := fun b u e => by
  by_cases hb : b = a
  · subst hb; rw [upd_same] at e; cases e; exact new
  · rw [upd_ne hb] at e
    exact (x b u e).stay (fun c v _ q => q) (fun c q => by rw [upd_ne (ne_of_none q hn)]; exact q) fun c xs q => by rw [upd_ne (ne_of_none q hn)]; exact q
noncomputable def tComp (wi : TI) (js : List Nat) (g : TG) (tc : TT) (te : TE) : TE := fun σ H Q => wi σ H fun J H1 => ∃ W : Nat → Nat → List V → Hp → Prop, (∃ m, W 0 m [] H1) ∧ ∀ i m vs H, W i m vs H →
  (J.stop i H ∧ vs.length ≤ sizeLine ∧ ∀ p, H p = none → Q (.ref p) (upd H p (.lst vs))) ∨
  (J.go i H ∧ vs.length < sizeLine ∧ ∃ N : List V → Hp → Prop, (∀ vs' H', N vs' H' → ∃ m', m' < m ∧ W (i + 1) m' vs' H') ∧
    ∀ x H', J.yld i H x H' → g x (clr js σ) H' fun σ2 H2 => Wk (clr js σ) σ2 ∧ tc σ2 H2 fun b H3 => if b = true then te σ2 H3 fun v H4 => N (vs ++ [v]) H4 else N vs H3)
theorem codeAny_compLoop_own {prog : Program} {w : World} {A : Around} {R : Result → Shared → Prop} {s : Shared} {elt target iter : Expr} {ifs : List Expr} {scope : Scope} {pos : Pos} {it acc : Value} {env : Env} (I : Nat → Shared → Prop)
    (turn : ∀ n s, I n s → wpAny (model prog w) A (pyNext it) (fun r s₁ => match r with
      | none => R (.ok .next) s₁
      | some v => wpAny (model prog w) A (letOwnedTupleGo target it v) (fun _ s₀ => wpAny (model prog w) A (assign target env v) (fun _ s₂ =>
          wpAny (model prog w) A (forIn ifs true fun c r => if r = true then do let ok ← isTrue c env (eval c env); pure (ForInStep.yield ok) else pure (ForInStep.yield r)) (fun ok s₃ =>
            if ok = true then wpAny (model prog w) A (eval elt env) (fun x s₄ =>
              wpAny (model prog w) A (call (.builtin "list.append") [acc, x]) (fun _ s₅ => ∃ m, m < n ∧ I m s₅) (fun _ _ => False) s₄) (fun _ _ => False) s₃
            else ∃ m, m < n ∧ I m s₃) (fun _ _ => False) s₂) (fun _ _ => False) s₀) (fun _ _ => False) s₁) (fun _ _ => False) s)
    (n : Nat) (h : I n s) :
    codeAny (model prog w) A (.compLoop (.ListComp elt [⟨target, iter, ifs, 0⟩] scope pos) 0 it acc env) R s := by
  refine codeAny_loop rfl I (fun n s hI => ?_) n h
  show wpAny _ A ((compTurn (.ListComp elt [⟨target, iter, ifs, 0⟩] scope pos) 0 it acc env).onRaise (fun x => do noteFrame x env; theTreesLotGoes x)) _ _ s
  refine wpAny_noted ?_
  rw [compTurn_list]
  refine wpAny_bind (wpAny_standAt (wpAny_bind (wpAny_mono (turn n s hI) (fun r s₁ h₁ => ?_) fun _ _ h' => h'.elim)))
  cases r with
  | none => exact wpAny_pure h₁
  | some v =>
    refine wpAny_bind (wpAny_mono h₁ (fun _ s₀ h₀ => ?_) fun _ _ h' => h'.elim)
    refine wpAny_bind (wpAny_mono h₀ (fun _ s₂ h₂ => wpAny_bind (wpAny_mono h₂ (fun ok s₃ h₃ => ?_) fun _ _ h' => h'.elim)) fun _ _ h' => h'.elim)
    cases ok with
    | false => exact wpAny_pure ⟨rfl, h₃⟩
    | true =>
      exact wpAny_bind (wpAny_bind (wpAny_mono h₃ (fun x s₄ h₄ => wpAny_bind (wpAny_mono h₄ (fun _ s₅ h₅ => wpAny_pure (wpAny_pure ⟨rfl, h₅⟩)) fun _ _ h' => h'.elim)) fun _ _ h' => h'.elim))
noncomputable def PIfs (X : Cx) (ifs : List Expr) (tc : TT) : Prop :=
  ∀ (pins : List (Addr × Obj)) (s : Shared) (σ : St) (H : Hp) (Q : Bool → Hp → Prop), Inv X pins σ H s → tc σ H Q →
    wpAny (model X.prog X.w) X.A (forIn ifs true fun c r => if r = true then do let ok ← isTrue c X.env (eval c X.env); pure (ForInStep.yield ok) else pure (ForInStep.yield r)) (TP X pins σ Q) X.xe s
theorem pif_nil {X : Cx} : PIfs X [] (fun _ H Q => Q true H) := fun pins s σ H Q I h => wpAny_tests_nil ⟨H, I, h⟩
theorem pif_one {X : Cx} {c : Expr} {tc : TT} (h : PT X c tc) : PIfs X [c] tc := fun pins s σ H Q I hw => wpAny_tests_one (h pins s σ H Q I hw)
theorem comp_core {X : Cx} {scope : Scope} {js : List Nat} {tg elt iter : Expr} {ifs : List Expr} {g : TG} {tc : TT} {te : TE} {pos : Pos} {pins : List (Addr × Obj)} {σ : St} {H₂ : Hp} {s₂ : Shared} {cl : List (Str × Addr)}
    {it : Addr} {fp : List Addr} {tn : Nat → Heap → Prop} {J : It} {Q : VK} {E : Value → Shared → Prop} {RR : Value → Addr → Result → Shared → Prop}
    (hc : X.calm = true) (c : CompOk X scope js) (k : Clos scope X.env cl)
    (hg : ∀ C s₀ H₀ ex pn, PG (inX X scope cl C s₀ H₀ ex pn) tg g) (hi : ∀ C s₀ H₀ ex pn, PIfs (inX X scope cl C s₀ H₀ ex pn) ifs tc) (he : ∀ C s₀ H₀ ex pn, PE (inX X scope cl C s₀ H₀ ex pn) elt te)
    (I₂ : Inv X pins σ H₂ s₂) (T : Turn X.prog X.w X.K tg J fp it tn) (st : tn 0 s₂.heap) (hf : ∀ b ∈ fp, FpOk X pins H₂ b)
    (hW : ∃ W : Nat → Nat → List V → Hp → Prop, (∃ m, W 0 m [] H₂) ∧ ∀ i m vs H, W i m vs H →
      (J.stop i H ∧ vs.length ≤ sizeLine ∧ ∀ p, H p = none → Q (.ref p) (upd H p (.lst vs))) ∨
      (J.go i H ∧ vs.length < sizeLine ∧ ∃ N : List V → Hp → Prop, (∀ vs' H', N vs' H' → ∃ m', m' < m ∧ W (i + 1) m' vs' H') ∧
        ∀ x H', J.yld i H x H' → g x (clr js σ) H' fun σ2 H2 => Wk (clr js σ) σ2 ∧ tc σ2 H2 fun b H3 => if b = true then te σ2 H3 fun v H4 => N (vs ++ [v]) H4 else N vs H3))
    (fin : ∀ (s' : Shared) (H' : Hp) (C D : Addr) (m : Str → Option Value), Inv X pins σ H' s' → s'.heap.Ns C m → H' C = none → C ≠ X.env.locals → X.s₀.heap.objs.size ≤ C → (∀ x a, X.env.cells.lookup x = some a → a ≠ C) → (∀ p ∈ X.pn ++ pins, p.1 ≠ C) →
      Q (.ref D) H' → RR (.ref D) C (.ok .next) s') :
    wpAny (model X.prog X.w) X.A (newList []) (fun acc s₃ => wpAny (model X.prog X.w) X.A (newFunctionEnv scope X.env.globals cl [] X.env.qual none .none (some X.env)) (fun cenv s₄ =>
      codeAny (model X.prog X.w) X.A (.compStart (.ListComp elt [⟨tg, iter, ifs, 0⟩] scope pos) 0 (.ref it) acc { cenv with scope := relabel scope X.env }) (RR acc cenv.locals) s₄) E s₃) E s₂ := by
  refine wpAny_newObj_type (wpAny_newFunctionEnv c.nocell (by intro y hy; simp at hy) (fun h₁ hns₁ hsb₁ => ?_) c.kind)
  dsimp only at hns₁ hsb₁ ⊢
  generalize hH2 : s₂.heap.push { cls := .type "list", dict := none, data := .seq ([] : List Value).toArray } = G2 at hns₁ hsb₁ ⊢
  generalize hCe : G2.objs.size = C at hns₁ hsb₁ ⊢
  generalize hDe : s₂.heap.objs.size = D
  have hCD : C = D + 1 := by rw [← hCe, ← hH2, Heap.size_push, hDe]
  have hDC : D ≠ C := by rw [hCD]; exact Nat.ne_of_lt (Nat.lt_succ_self _)
  have hfo : ∀ b ∈ fp, b < s₂.heap.objs.size := fun b hb => let ⟨o, e, _⟩ := T.obj _ _ st b hb; Heap.lt_size e
  have hCs : s₂.heap.objs.size ≤ C := by rw [hDe, hCD]; exact Nat.le_succ _
  have below : ∀ b, b < s₂.heap.objs.size → b ≠ C ∧ b ≠ D := fun b hb => by
    rw [hDe] at hb
    exact ⟨by rw [hCD]; exact Nat.ne_of_lt (Nat.lt_succ_of_lt hb), Nat.ne_of_lt hb⟩
  have old : ∀ b o, s₂.heap.get? b = some o → h₁.get? b = some o := fun b o e => hsb₁.extBut b o (below b (Heap.lt_size e)).1 (Heap.get?_push_of_some _ (hH2 ▸ Heap.get?_push_of_some _ e))
  have hacc : h₁.get? D = some (lobj [] 0) := hsb₁.extBut _ _ hDC (Heap.get?_push_of_some _ (by rw [← hH2, ← hDe]; exact Heap.get?_push_size _ rfl))
  have cellsB : ∀ x a, X.env.cells.lookup x = some a → a < s₂.heap.objs.size := fun x a e => let ⟨_, q⟩ := I₂.cell x a e; q.lt
  have pinsB : ∀ p ∈ X.pn ++ pins, p.1 < s₂.heap.objs.size := fun p hp => Heap.lt_size (I₂.pin p hp).1
  have nfs : ∀ b, s₂.heap.objs.size ≤ b → b ∉ frs X.stack := fun b hb z => by
    obtain ⟨_, o, ho, _⟩ := I₂.stack.mem z
    exact absurd (Nat.lt_of_lt_of_le (Heap.lt_size ho) hb) (Nat.lt_irrefl _)
  have fsB : ∀ b ∈ fp, b ∉ frs X.stack := fun b hb z => by
    rcases List.mem_cons.mp (I₂.stkSub b z) with e | e
    · exact (hf b hb).2.1 e
    · exact (hf b hb).2.2.1 e
  have DnotF : ∀ b ∈ fp, b ≠ D := fun b hb => (below b (hfo b hb)).2
  obtain ⟨W, ⟨m0, w0⟩, turn⟩ := hW
  have fpin : ∀ {H' : Hp} {o : Obj}, (∀ b ∈ fp, H' b = none) → ∀ b ∈ fp, FpOk (inX X scope cl C s₂ H₂ fp (X.pn ++ pins)) [(D, o)] H' b := fun {H' o} hn b hb =>
    ⟨hn b hb, (below b (hfo b hb)).1, fsB b hb, .inl hb, fun x a e => (hf b hb).2.2.2.2.1 x a (k.sub x a e), fun p hp => by
      rcases List.mem_append.mp hp with hp | hp
      · exact (hf b hb).2.2.2.2.2 p hp
      · have e : p = (D, o) := by simpa using hp
        rw [e]; exact (DnotF b hb).symm⟩
  have loop : ∀ s₃ : Shared, s₃ = { s₂ with heap := h₁, toks := s₂.toks + ([] : List (Str × Value)).length } →
      codeAny (model X.prog X.w) X.A (.compLoop (.ListComp elt [⟨tg, iter, ifs, 0⟩] scope pos) 0 (.ref it) (.ref D) (compEnvC scope cl C X.env)) (RR (.ref D) C) s₃ := by
    rintro s₃ rfl
    have I4 : Inv (inX X scope cl C s₂ H₂ fp (X.pn ++ pins)) [(D, lobj [] 0)] (clr js σ) H₂ { s₂ with heap := h₁, toks := s₂.toks + ([] : List (Str × Value)).length } :=
      inX_start (s₄ := { s₂ with heap := h₁, toks := s₂.toks + ([] : List (Str × Value)).length }) I₂ c k hf hfo hCs old hns₁ (Nat.le_of_eq hDe) hDC hacc rfl rfl
    refine codeAny_compLoop_own (fun n s' => ∃ i vs us z H', Inv (inX X scope cl C s₂ H₂ fp (X.pn ++ pins)) [(D, lobj us z)] (clr js σ) H' s' ∧ Vals vs us ∧ tn i s'.heap ∧ (∀ b ∈ fp, H' b = none) ∧ W i n vs H') ?_ m0
      ⟨0, [], [], 0, H₂, I4, .nil, T.keep _ _ _ st fun b hb o e => old b o e, fun b hb => (hf b hb).1, w0⟩
    rintro n s3 ⟨i, vs, us, z, H3, I3, rv, st3, fr3, w3⟩
    have pD := I3.pin (D, lobj us z) (List.mem_append_right _ (List.mem_singleton.mpr rfl))
    rcases turn i n vs H3 w3 with ⟨stop, hz, q⟩ | ⟨go, hz, N, hN, step⟩
    · refine thn (T.done (inX X scope cl C s₂ H₂ fp (X.pn ++ pins)) rfl rfl rfl hc i _ s3 (clr js σ) H3 (fun _ _ => False) I3 (fpin fr3) st3 stop) fun r s4 zq => ?_
      obtain ⟨hr, I5⟩ := zq
      subst hr
      show RR (.ref D) C (.ok .next) s4
      have pE := I5.pin (D, lobj us z) (List.mem_append_right _ (List.mem_singleton.mpr rfl))
      have nD : H3 D = none := pE.2.1
      have un0 : Un (frs X.stack) fp H₂ H3 s₂.heap s4.heap := I5.base
      have un : Un (frs X.stack) fp H₂ (upd H3 D (.lst vs)) s₂.heap s4.heap :=
        ⟨un0.keep, un0.slot, fun b o e n hx => by rw [upd_ne (below b (Heap.lt_size e)).2]; exact un0.free b o e n hx, un0.there,
          fun b xs e => by have q := un0.tups b xs e; rw [upd_ne (ne_of_none q nD)]; exact q, fun b o u e => by have q := un0.frzs b o u e; rw [upd_ne (ne_of_none q nD)]; exact q,
          fun b ps e => by obtain ⟨more, q⟩ := un0.tbls b ps e; exact ⟨more, by rw [upd_ne (ne_of_none q nD)]; exact q⟩⟩
      have hok : HOk X.prog X.w (upd H3 D (.lst vs)) s4.heap := HOk.take I5.hok nD ⟨hz, us, z, rv, pE.1⟩
      have I6 : Inv X pins σ (upd H3 D (.lst vs)) s4 := I₂.call' I5.os un hok I5.bare fun b hb => ⟨(hf b hb).2.2.2.1, (hf b hb).2.1, (hf b hb).2.2.2.2.1, (hf b hb).2.2.2.2.2⟩
      obtain ⟨mC, hnC, _⟩ := I5.loc
      have nC : H3 C = none := I5.free
      exact fin s4 _ C D mC I6 hnC (by rw [upd_ne (Ne.symm hDC)]; exact nC) (Nat.ne_of_gt (Nat.lt_of_lt_of_le I₂.lt hCs)) (Nat.le_trans I₂.sz hCs) (fun x a e => (below a (cellsB x a e)).1) (fun p hp => (below p.1 (pinsB p hp)).1) (q D nD)
    · refine thn (T.item (inX X scope cl C s₂ H₂ fp (X.pn ++ pins)) rfl rfl rfl hc i _ s3 (clr js σ) H3 (fun _ _ => False) I3 (fpin fr3) st3 go) fun r s4 zq => ?_
      obtain ⟨u, hr, h4⟩ := zq
      subst hr
      refine thn h4 fun _ s5 zq => ?_
      obtain ⟨x, H5, I5, r5, y5, st5, fr5⟩ := zq
      have I5' := I5.pinned (fpin fr5) (T.obj _ _ st5)
      refine thn (hg C s₂ H₂ fp (X.pn ++ pins) _ s5 (clr js σ) H5 x u _ I5' r5 (step x H5 y5)) fun _ s6 zq => ?_
      obtain ⟨σ6, H6, I6, wk6, q6⟩ := zq
      refine thn (hi C s₂ H₂ fp (X.pn ++ pins) _ s6 σ6 H6 _ I6 q6) fun ok s7 zq => ?_
      obtain ⟨H7, I7, q7⟩ := zq
      -- the iterator and the list so far, behind whatever was done
      have fpK : ∀ {H' : Hp} {s' : Shared}, Inv (inX X scope cl C s₂ H₂ fp (X.pn ++ pins)) ([(D, lobj us z)] ++ pinsAt fp s5.heap) σ6 H' s' → (∀ b ∈ fp, ∀ o, s5.heap.get? b = some o → s'.heap.get? b = some o) ∧ (∀ b ∈ fp, H' b = none) ∧ s'.heap.get? D = some (lobj us z) ∧ H' D = none := fun {H' s'} I' => by
        refine ⟨fun b hb o e => (I'.pin (b, o) (List.mem_append_right _ (List.mem_append_right _ (mem_pinsAt hb e)))).1, fun b hb => ?_, ?_⟩
        · obtain ⟨o, e, _⟩ := T.obj _ _ st5 b hb
          exact (I'.pin (b, o) (List.mem_append_right _ (List.mem_append_right _ (mem_pinsAt hb e)))).2.1
        · have p := I'.pin (D, lobj us z) (List.mem_append_right _ (List.mem_append_left _ (List.mem_singleton.mpr rfl)))
          exact ⟨p.1, p.2.1⟩
      cases ok with
      | false =>
        have q7 : N vs H7 := q7
        show ∃ m, m < n ∧ _
        obtain ⟨k1, k2, k3, k4⟩ := fpK I7
        obtain ⟨m', hm, w7⟩ := hN vs H7 q7
        exact ⟨m', hm, i + 1, vs, us, z, H7, (Inv.unpinned I7).wk wk6, rv, T.keep _ _ _ st5 fun b hb o e => k1 b hb o e, k2, w7⟩
      | true =>
        have q7 : te σ6 H7 fun v H4 => N (vs ++ [v]) H4 := q7
        show wpAny _ _ _ _ _ _
        refine thn (he C s₂ H₂ fp (X.pn ++ pins) _ s7 σ6 H7 _ I7 q7) fun uv s8 zq => ?_
        obtain ⟨v, H8, I8, r8, q8⟩ := zq
        obtain ⟨k1, k2, k3, k4⟩ := fpK I8
        have lenU : us.length < sizeLine := by rw [← rv.length]; exact hz
        refine append_at (hsz := by rw [List.size_toArray]; exact Nat.le_of_lt lenU) k3 fun h9 hs9 hD9 => ?_
        obtain ⟨m', hm, w9⟩ := hN _ _ q8
        have J0 : Inv (inX X scope cl C s₂ H₂ fp (X.pn ++ pins)) [] σ6 H8 s8 := I8.pins_of fun p hp => nomatch hp
        have J1 : Inv (inX X scope cl C s₂ H₂ fp (X.pn ++ pins)) [] σ6 H8 { s8 with heap := h9, toks := s8.toks } := J0.turned (it := D) (fun b o hb e => (hs9.2 b hb).trans e) k4 hDC (.inr (Nat.le_of_eq hDe))
          (fun x a e z => (below a (cellsB x a (k.sub x a e))).2 z) fun p hp => by
            rcases List.mem_append.mp hp with hp | hp
            · exact (below p.1 (pinsB p hp)).2
            · exact nomatch hp
        have J2 : Inv (inX X scope cl C s₂ H₂ fp (X.pn ++ pins)) [(D, lobj (us ++ [uv]) (z + 1))] σ6 H8 { s8 with heap := h9, toks := s8.toks } := J1.pins_of fun p hp => by
          have e : p = (D, lobj (us ++ [uv]) (z + 1)) := by simpa using hp
          subst e
          refine ⟨?_, k4, hDC, nfs D (Nat.le_of_eq hDe), fun v z => by cases z⟩
          show h9.get? D = some _
          rw [hD9]
          simp [lobj]
        refine ⟨m', hm, i + 1, vs ++ [v], us ++ [uv], z + 1, H8, J2.wk wk6, rv.append (.cons r8 .nil), T.keep _ _ _ st5 fun b hb o e => ?_, k2, w9⟩
        exact (hs9.2 b (DnotF b hb)).trans (k1 b hb o e)
  exact codeAny_compStart_list (loop _ rfl) (T.self _ 0 _ _ _ (T.keep _ _ _ st fun b hb o e => old b o e) (loop _ rfl))
section
variable {X : Cx} {scope : Scope} {js : List Nat} {tg elt iter : Expr} {ifs : List Expr} {wi : TI} {g : TG} {tc : TT} {te : TE} {pos : Pos}
theorem Inv.clos {pins : List (Addr × Obj)} {σ : St} {H : Hp} {s : Shared} (I : Inv X pins σ H s) (c : CompOk X scope js) : ∃ cl, Clos scope X.env cl :=
  clos_of fun x hx => I.ok.has x (c.fr _ hx rfl)
theorem pe_comp (hc : X.calm = true) (c : CompOk X scope js) (hi : PI X tg iter wi)
    (hg : ∀ cl C s₀ H₀ ex pn, PG (inX X scope cl C s₀ H₀ ex pn) tg g) (hf : ∀ cl C s₀ H₀ ex pn, PIfs (inX X scope cl C s₀ H₀ ex pn) ifs tc) (he : ∀ cl C s₀ H₀ ex pn, PE (inX X scope cl C s₀ H₀ ex pn) elt te)
    (hs : ∀ x, foldedSetIterable iter X.env x = pure x := by intro _; rfl) : PE X (.ListComp elt [⟨tg, iter, ifs, 0⟩] scope pos) (tComp wi js g tc te) := by
  intro pins s σ H Q I h
  obtain ⟨cl, k⟩ := I.clos c
  rw [eval_ListComp]
  refine wpAny_comprehension_free (use := none) rfl hs k.eq c.kind c.names (thn (hi pins s σ H _ I h) fun v s1 h1 => thn h1 fun itv s2 h2 => ?_)
  obtain ⟨it, fp, tn, J, H2, e, I2, T, st2, f2, hW⟩ := h2
  subst e
  refine comp_core (Q := Q) hc c k (hg cl) (hf cl) (he cl) I2 T st2 f2 hW fun s' H' C D m I' hn hC hL hs0 hcell hpin q => ?_
  refine ⟨m, hn, fun h' hs' => ?_⟩
  exact ⟨.ref D, H', I'.turned (t' := s'.toks) (it := C) (fun b o hb e => (hs'.2 b hb).trans e) hC (fun z => hL z) (.inr hs0) hcell hpin, rfl, q⟩
theorem ps_comp {i : Nat} {y : Str} {py spos : Pos} (hN : X.N.Nodup) (hiN : X.N[i]? = some y) (hy : X.env.scope.names.lookup y = some .local) (hc : X.calm = true) (c : CompOk X scope js) (hi : PI X tg iter wi)
    (hg : ∀ cl C s₀ H₀ ex pn, PG (inX X scope cl C s₀ H₀ ex pn) tg g) (hf : ∀ cl C s₀ H₀ ex pn, PIfs (inX X scope cl C s₀ H₀ ex pn) ifs tc) (he : ∀ cl C s₀ H₀ ex pn, PE (inX X scope cl C s₀ H₀ ex pn) elt te)
    (hs : ∀ x, foldedSetIterable iter X.env x = pure x := by intro _; rfl) (hsw : swapsWith (.ListComp elt [⟨tg, iter, ifs, 0⟩] scope pos) (some (.Name y py)) spos.line X.env = pure true := by rfl) :
    PS X (.Assign [.Name y py] (.ListComp elt [⟨tg, iter, ifs, 0⟩] scope pos) spos) (tAsg (tComp wi js g tc te) (gName i)) := by
  intro pins s σ H D I h
  obtain ⟨cl, k⟩ := I.clos c
  rw [exec_Assign_Name_used _ _ _ _ hsw]
  refine wpAny_bind (wpAny_standAt (wpAny_bind ?_))
  show wpAny _ X.A (do let _ ← comprehension (.ListComp elt [⟨tg, iter, ifs, 0⟩] scope pos) scope X.env _ (newList []) false (eval iter X.env) (some (assign (.Name y py) X.env))) _ _ s
  refine wpAny_bind (wpAny_mono (wpAny_comprehension_free (use := some (assign (.Name y py) X.env)) (Q := fun _ s' => SP X pins D .next s') rfl hs k.eq c.kind c.names
    (thn (hi pins s σ H _ I h) fun v s1 h1 => thn h1 fun itv s2 h2 => ?_)) (fun _ s' hq => wpAny_pure (wpAny_pure hq)) fun _ _ e => e)
  obtain ⟨it, fp, tn, J, H2, e, I2, T, st2, f2, hW⟩ := h2
  subst e
  refine comp_core (Q := fun v H' => gName i v σ H' D.nx) hc c k (hg cl) (hf cl) (he cl) I2 T st2 f2 hW fun s' H' C D' m I' hn hC hL hs0 hcell hpin q => ?_
  show wpAny _ X.A (assign (.Name y py) X.env (.ref D')) _ _ s'
  refine wpAny_assign_Name (store_ok2 I' hN hiN (.inl hy) (v := .ref D') rfl (fun s'' I'' ⟨a, hsb, ha⟩ => ?_) (.inr hy))
  have hCa : C ≠ a := by
    rcases ha with z | z
    · rw [z]; exact hL
    · exact fun e => hcell y a z e.symm
  refine ⟨m, hn.sameBut hsb hCa, fun h' hs' => ?_⟩
  exact ⟨_, H', I''.turned (t' := s''.toks) (it := C) (fun b o hb e => (hs'.2 b hb).trans e) hC (fun z => hL z) (.inr hs0) hcell hpin, q⟩
end
end L2
set_option Elab.async false
set_option linter.all false
set_option maxRecDepth 100000
namespace Pu
open PySem PySem.Spec PyProof.Rows L2
inductive T where
  | non | bl (b : Bool) | int (i : Int) | str (x : Str) | tup (ts : List T) | ref (n : Nat)
inductive Ob where
  | lst (xs : List T) | fro (xs : List T) | dK (kvs : List (Key × T)) | dT (kvs : List (List Key × T))
noncomputable abbrev PH := List Ob
noncomputable def Ob.own : Ob → Bool
  | .fro _ => false
  | _ => true
mutual
inductive Den (H : Hp) (m : List Addr) : T → V → Prop
  | non : Den H m .non .non
  | bl (b : Bool) : Den H m (.bl b) (.bl b)
  | int (i : Int) : Den H m (.int i) (.int i)
  | str (x : Str) : Den H m (.str x) (.str x)
  | tup {a : Addr} {ts : List T} {vs : List V} (h : H a = some (.tup vs)) (d : Dens H m ts vs) : Den H m (.tup ts) (.ref a)
  | ref {n : Nat} {a : Addr} (h : m[n]? = some a) : Den H m (.ref n) (.ref a)
inductive Dens (H : Hp) (m : List Addr) : List T → List V → Prop
  | nil : Dens H m [] []
  | cons {t : T} {v : V} {ts : List T} {vs : List V} (d : Den H m t v) (r : Dens H m ts vs) : Dens H m (t :: ts) (v :: vs)
end
structure Up (m : List Addr) (H : Hp) (m' : List Addr) (H' : Hp) : Prop where
  sub : ∀ (i : Nat) (a : Addr), m[i]? = some a → m'[i]? = some a
  tup : ∀ b xs, H b = some (.tup xs) → H' b = some (.tup xs)
theorem Up.refl {m : List Addr} {H : Hp} : Up m H m H := ⟨fun _ _ h => h, fun _ _ h => h⟩
theorem Up.trans {m m1 m2 : List Addr} {H H1 H2 : Hp} (a : Up m H m1 H1) (b : Up m1 H1 m2 H2) : Up m H m2 H2 := ⟨fun i x h => b.sub i x (a.sub i x h), fun c xs h => b.tup c xs (a.tup c xs h)⟩
mutual
theorem Den.up {m m' : List Addr} {H H' : Hp} (u : Up m H m' H') : ∀ {t : T} {v : V}, Den H m t v → Den H' m' t v
  | _, _, .non => .non
  | _, _, .bl b => .bl b
  | _, _, .int i => .int i
  | _, _, .str x => .str x
  | _, _, .tup h d => .tup (u.tup _ _ h) (Dens.up u d)
  | _, _, .ref h => .ref (u.sub _ _ h)
theorem Dens.up {m m' : List Addr} {H H' : Hp} (u : Up m H m' H') : ∀ {ts : List T} {vs : List V}, Dens H m ts vs → Dens H' m' ts vs
  | _, _, .nil => .nil
  | _, _, .cons d r => .cons (Den.up u d) (Dens.up u r)
end
section
variable {H : Hp} {m : List Addr}
theorem Dens.length : ∀ {ts : List T} {vs : List V}, Dens H m ts vs → ts.length = vs.length
  | _, _, .nil => rfl
  | _, _, .cons _ r => congrArg (· + 1) (Dens.length r)
theorem Dens.append : ∀ {ts us : List T} {vs ws : List V}, Dens H m ts vs → Dens H m us ws → Dens H m (ts ++ us) (vs ++ ws)
  | _, _, _, _, .nil, s => s
  | _, _, _, _, .cons d r, s => .cons d (Dens.append r s)
theorem Dens.take : ∀ {ts : List T} {vs : List V} (n : Nat), Dens H m ts vs → Dens H m (ts.take n) (vs.take n)
  | _, _, 0, _ => by simp; exact .nil
  | _, _, _ + 1, .nil => .nil
  | _, _, n + 1, .cons d r => .cons d (Dens.take n r)
theorem Dens.drop : ∀ {ts : List T} {vs : List V} (n : Nat), Dens H m ts vs → Dens H m (ts.drop n) (vs.drop n)
  | _, _, 0, r => r
  | _, _, _ + 1, .nil => .nil
  | _, _, n + 1, .cons _ r => Dens.drop n r
theorem Dens.set {t : T} {v : V} (d : Den H m t v) : ∀ {ts : List T} {vs : List V} (n : Nat), Dens H m ts vs → Dens H m (ts.set n t) (vs.set n v)
  | _, _, _, .nil => .nil
  | _, _, 0, .cons _ r => .cons d r
  | _, _, n + 1, .cons e r => .cons e (Dens.set d n r)
theorem Dens.get : ∀ {ts : List T} {vs : List V} {i : Nat} {t : T}, Dens H m ts vs → ts[i]? = some t → ∃ v, vs[i]? = some v ∧ Den H m t v
  | _, _, _, _, .nil, e => by simp at e
  | _, _, 0, _, .cons d _, e => by simp at e; subst e; exact ⟨_, rfl, d⟩
  | _, _, i + 1, t, .cons _ r, e => by
    obtain ⟨v, h1, h2⟩ := Dens.get (i := i) (t := t) r (by simpa using e)
    exact ⟨v, by simpa using h1, h2⟩
theorem Dens.rep {ts : List T} {vs : List V} (h : Dens H m ts vs) : ∀ k : Nat, Dens H m (List.replicate k ts).flatten (List.replicate k vs).flatten
  | 0 => .nil
  | k + 1 => by
    rw [List.replicate_succ, List.replicate_succ, List.flatten_cons, List.flatten_cons]
    exact Dens.append h (Dens.rep h k)
theorem Dens.ints : ∀ {ns : List Int} {vs : List V}, Dens H m (ns.map T.int) vs → vs = ns.map V.int
  | [], _, .nil => rfl
  | n :: ns, _, .cons d r => by
    cases d
    rw [List.map_cons, Dens.ints r]
theorem Dens.of_ints : ∀ (ns : List Int), Dens H m (ns.map T.int) (ns.map V.int)
  | [] => .nil
  | n :: ns => .cons (.int n) (Dens.of_ints ns)
theorem Dens.nil_iff {ts : List T} {vs : List V} (h : Dens H m ts vs) : ts = [] ↔ vs = [] := by
  cases h <;> simp
end
noncomputable def ModL (K : PySem.W.Frag) (a : Addr) (xs : List V) : Prop :=
  ∃ (o : Obj) (its : Array Value) (n : Nat), K.lookup a = some o ∧ o.cls = .type "list" ∧ o.dict = none ∧ o.data = .seq its n ∧ its.size ≤ sizeLine ∧ Vals xs its.toList
noncomputable def ObR (K : PySem.W.Frag) (H : Hp) (m : List Addr) (a : Addr) : Ob → Prop
  | .lst xs => ∃ vs, H a = some (.lst vs) ∧ Dens H m xs vs
  | .fro xs => ∃ vs, ((∃ o, H a = some (.frz o (.lst vs))) ∨ ModL K a vs) ∧ Dens H m xs vs
  | .dK kvs => ∃ vs, H a = some (.dK vs) ∧ kvs.map (·.1) = vs.map (·.1) ∧ Dens H m (kvs.map (·.2)) (vs.map (·.2))
  | .dT kvs => ∃ vs, H a = some (.dT vs) ∧ kvs.map (·.1) = vs.map (·.1) ∧ Dens H m (kvs.map (·.2)) (vs.map (·.2))
structure Rep (K : PySem.W.Frag) (m : List Addr) (h : PH) (H : Hp) : Prop where
  len : m.length = h.length
  obj : ∀ (i : Nat) o, h[i]? = some o → ∃ a, m[i]? = some a ∧ ObR K H m a o
  inj : ∀ (i j : Nat) a oi oj, h[i]? = some oi → h[j]? = some oj → oi.own = true → oj.own = true → m[i]? = some a → m[j]? = some a → i = j
section
variable {K : PySem.W.Frag} {m m' : List Addr} {h : PH} {H H' : Hp} {a p : Addr}
theorem ObR.up {o : Ob} (u : Up m H m' H') (hk : ∀ ho, H a = some ho → H' a = some ho) (r : ObR K H m a o) : ObR K H' m' a o := by
  cases o with
  | lst xs => obtain ⟨vs, e, d⟩ := r; exact ⟨vs, hk _ e, d.up u⟩
  | fro xs => obtain ⟨vs, e, d⟩ := r; exact ⟨vs, e.imp (fun ⟨o, q⟩ => ⟨o, hk _ q⟩) id, d.up u⟩
  | dK xs => obtain ⟨vs, e, k, d⟩ := r; exact ⟨vs, hk _ e, k, d.up u⟩
  | dT xs => obtain ⟨vs, e, k, d⟩ := r; exact ⟨vs, hk _ e, k, d.up u⟩
theorem ObR.is {o : Ob} (r : ObR K H m a o) (ho : o.own = true) : ∃ x, H a = some x ∧ (∀ xs, x ≠ .tup xs) ∧ (∀ q xs, x ≠ .frz q xs) := by
  cases o with
  | lst xs => obtain ⟨vs, e, _⟩ := r; exact ⟨_, e, (fun _ z => nomatch z), (fun _ _ z => nomatch z)⟩
  | fro xs => cases ho
  | dK xs => obtain ⟨vs, e, _⟩ := r; exact ⟨_, e, (fun _ z => nomatch z), (fun _ _ z => nomatch z)⟩
  | dT xs => obtain ⟨vs, e, _⟩ := r; exact ⟨_, e, (fun _ z => nomatch z), (fun _ _ z => nomatch z)⟩
theorem ObR.other {o : Ob} {x : HO} (u : Up m H m' (upd H p x)) (hne : o.own = true → a ≠ p) (hf : ∀ q xs, H p ≠ some (.frz q xs)) (r : ObR K H m a o) : ObR K (upd H p x) m' a o := by
  by_cases e : a = p
  · cases o with
    | fro xs =>
      obtain ⟨vs, q, d⟩ := r
      refine ⟨vs, ?_, d.up u⟩
      rcases q with ⟨o, q⟩ | q
      · rw [e] at q; exact absurd q (hf _ _)
      · exact .inr q
    | lst xs => exact absurd e (hne rfl)
    | dK xs => exact absurd e (hne rfl)
    | dT xs => exact absurd e (hne rfl)
  · exact r.up u fun ho z => by rw [upd_ne e]; exact z
theorem Up.newTup {x : HO} (hp : H p = none) : Up m H m (upd H p x) := ⟨fun _ _ h => h, fun b xs q => by rw [upd_ne (ne_of_none q hp)]; exact q⟩
theorem Up.new {x : HO} (hp : H p = none) : Up m H (m ++ [p]) (upd H p x) := ⟨fun i b e => by
    obtain ⟨hi, _⟩ := List.getElem?_eq_some_iff.mp e
    rw [List.getElem?_append_left hi]; exact e, fun b xs q => by rw [upd_ne (ne_of_none q hp)]; exact q⟩
theorem Rep.tup {x : HO} (r : Rep K m h H) (hp : H p = none) : Rep K m h (upd H p x) :=
  ⟨r.len, fun i o e => let ⟨b, hb, q⟩ := r.obj i o e; ⟨b, hb, q.other (Up.newTup hp) (fun ho z => by obtain ⟨y, hy, _⟩ := q.is ho; rw [z, hp] at hy; cases hy) fun _ _ z => by rw [hp] at z; cases z⟩, r.inj⟩
theorem Rep.new {x : HO} {o : Ob} (r : Rep K m h H) (hp : H p = none) (n : ObR K (upd H p x) (m ++ [p]) p o) : Rep K (m ++ [p]) (h ++ [o]) (upd H p x) := by
  have low : ∀ {i : Nat} {q : Ob}, (h ++ [o])[i]? = some q → (i < h.length ∧ h[i]? = some q) ∨ (i = h.length ∧ q = o) := fun {i q} e => by
    by_cases hi : i < h.length
    · rw [List.getElem?_append_left hi] at e; exact .inl ⟨hi, e⟩
    · have : i = h.length := by
        obtain ⟨hl, _⟩ := List.getElem?_eq_some_iff.mp e
        rw [List.length_append, List.length_singleton] at hl; omega
      subst this
      rw [List.getElem?_append_right (Nat.le_refl _), Nat.sub_self] at e
      exact .inr ⟨rfl, by simpa using e.symm⟩
  have mlow : ∀ {i : Nat}, i < h.length → (m ++ [p])[i]? = m[i]? := fun {i} hi => List.getElem?_append_left (by rw [r.len]; exact hi)
  have mtop : (m ++ [p])[h.length]? = some p := by rw [← r.len, List.getElem?_append_right (Nat.le_refl _), Nat.sub_self] <;> rfl
  have fresh : ∀ {i : Nat} {q : Ob}, h[i]? = some q → q.own = true → m[i]? ≠ some p := fun {i q} e ho z => by
    obtain ⟨b, hb, hq⟩ := r.obj i q e
    obtain ⟨y, hy, _⟩ := hq.is ho
    rw [hb] at z; cases z
    rw [hp] at hy; cases hy
  refine ⟨by rw [List.length_append, List.length_append, r.len] <;> rfl, fun i q e => ?_, fun i j b oi oj ei ej hi hj mi mj => ?_⟩
  · rcases low e with ⟨hl, e⟩ | ⟨rfl, rfl⟩
    · obtain ⟨b, hb, hq⟩ := r.obj i q e
      exact ⟨b, by rw [mlow hl]; exact hb, hq.other (Up.new hp) (fun ho z => fresh e ho (by rw [hb, z])) fun _ _ z => by rw [hp] at z; cases z⟩
    · exact ⟨p, mtop, n⟩
  · rcases low ei with ⟨hl, ei'⟩ | ⟨e1, e2⟩
    · rw [mlow hl] at mi
      rcases low ej with ⟨hl', ej'⟩ | ⟨e1, e2⟩
      · rw [mlow hl'] at mj
        exact r.inj i j b oi oj ei' ej' hi hj mi mj
      · rw [e1, mtop] at mj; cases mj
        exact absurd mi (fresh ei' hi)
    · rw [e1, mtop] at mi; cases mi
      rcases low ej with ⟨hl', ej'⟩ | ⟨e3, e4⟩
      · rw [mlow hl'] at mj
        exact absurd mj (fresh ej' hj)
      · rw [e1, e3]
theorem Up.write {x y : HO} (e : H a = some x) (nt : ∀ xs, x ≠ .tup xs) : Up m H m (upd H a y) := ⟨fun _ _ h => h, fun b xs q => by
  rw [upd_ne (fun z => by rw [z, e] at q; exact nt xs (Option.some.inj q))]; exact q⟩
theorem Rep.write {y : HO} {i : Nat} {o o' : Ob} (r : Rep K m h H) (ei : h[i]? = some o) (hown : o.own = true) (hown' : o'.own = true) (ha : m[i]? = some a) (n : ObR K (upd H a y) m a o') : Rep K m (h.set i o') (upd H a y) := by
  obtain ⟨b, hb, q⟩ := r.obj i o ei
  rw [ha] at hb; cases hb
  obtain ⟨x, hx, nt, nf⟩ := q.is hown
  have hi : i < h.length := (List.getElem?_eq_some_iff.mp ei).1
  have get : ∀ {j : Nat} {u : Ob}, (h.set i o')[j]? = some u → (j = i ∧ u = o') ∨ (j ≠ i ∧ h[j]? = some u) := fun {j u} e => by
    by_cases hj : j = i
    · subst hj
      rw [List.getElem?_set_self hi] at e
      exact .inl ⟨rfl, (Option.some.inj e).symm⟩
    · rw [List.getElem?_set_ne (Ne.symm hj)] at e
      exact .inr ⟨hj, e⟩
  refine ⟨by rw [List.length_set]; exact r.len, fun j u e => ?_, fun j k b oj ok ej ek hj hk mj mk => ?_⟩
  · rcases get e with ⟨rfl, rfl⟩ | ⟨hj, e⟩
    · exact ⟨a, ha, n⟩
    · obtain ⟨b, hb, hq⟩ := r.obj j u e
      refine ⟨b, hb, hq.other (Up.write hx nt) (fun ho z => ?_) fun q xs z => by rw [hx] at z; exact nf q xs (Option.some.inj z)⟩
      rw [z] at hb
      exact hj (r.inj j i a u o e ei ho hown hb ha)
  · rcases get ej with ⟨e1, e2⟩ | ⟨hj', ej'⟩
    · rcases get ek with ⟨e3, e4⟩ | ⟨hk', ek'⟩
      · rw [e1, e3]
      · exact r.inj j k b o ok (by rw [e1]; exact ei) ek' hown hk mj mk
    · rcases get ek with ⟨e3, e4⟩ | ⟨hk', ek'⟩
      · exact r.inj j k b oj o ej' (by rw [e3]; exact ei) hj hown mj mk
      · exact r.inj j k b oj ok ej' ek' hj hk mj mk
theorem Rep.sqL {i : Nat} {xs : List T} (r : Rep K m h H) (e : h[i]? = some (.lst xs) ∨ h[i]? = some (.fro xs)) (ha : m[i]? = some a) : ∃ vs, SqL K H a vs ∧ Dens H m xs vs := by
  rcases e with e | e
  · obtain ⟨b, hb, vs, q, d⟩ := r.obj i _ e
    rw [ha] at hb; cases hb
    exact ⟨vs, .of q, d⟩
  · obtain ⟨b, hb, vs, q, d⟩ := r.obj i _ e
    rw [ha] at hb; cases hb
    refine ⟨vs, ?_, d⟩
    rcases q with ⟨o, q⟩ | q
    · exact .inl (.inr ⟨o, q⟩)
    · exact .inr q
theorem Rep.lst {i : Nat} {xs : List T} (r : Rep K m h H) (e : h[i]? = some (.lst xs)) (ha : m[i]? = some a) : ∃ vs, H a = some (.lst vs) ∧ Dens H m xs vs := by
  obtain ⟨b, hb, vs, q, d⟩ := r.obj i _ e
  rw [ha] at hb; cases hb
  exact ⟨vs, q, d⟩
end
end Pu
set_option Elab.async false
set_option linter.all false
set_option maxRecDepth 100000
namespace Pu
open PySem PySem.Spec PyProof.Rows L2
noncomputable abbrev St := L2.St
noncomputable abbrev En := List (Option T)
structure EnR (H : Hp) (m : List Addr) (env : En) (σ : St) : Prop where
  len : env.length = σ.length
  get : ∀ (i : Nat) t, env[i]? = some (some t) → ∃ v, σ[i]? = some (some v) ∧ Den H m t v
noncomputable abbrev WK := T → PH → Prop
noncomputable abbrev WE := En → PH → WK → Prop
noncomputable abbrev WT := En → PH → (Bool → PH → Prop) → Prop
noncomputable abbrev WA := En → PH → (List T → PH → Prop) → Prop
theorem EnR.up {m m' : List Addr} {H H' : Hp} {env : En} {σ : St} (r : EnR H m env σ) (u : Up m H m' H') : EnR H' m' env σ := ⟨r.len, fun i t e => let ⟨v, h1, h2⟩ := r.get i t e; ⟨v, h1, h2.up u⟩⟩
theorem EnR.set {m : List Addr} {H : Hp} {env : En} {σ : St} {t : T} {v : V} (r : EnR H m env σ) (d : Den H m t v) (i : Nat) : EnR H m (env.set i (some t)) (σ.set i (some v)) := by
  refine ⟨by rw [List.length_set, List.length_set]; exact r.len, fun j u e => ?_⟩
  rw [List.getElem?_set] at e
  rw [List.getElem?_set]
  by_cases hj : i = j
  · subst hj
    rw [if_pos rfl] at e ⊢
    by_cases hl : i < env.length
    · rw [if_pos hl] at e
      rw [if_pos (by rw [← r.len]; exact hl)]
      cases e
      exact ⟨v, rfl, d⟩
    · rw [if_neg hl] at e; cases e
  · rw [if_neg hj] at e ⊢
    exact r.get j u e
theorem EnR.clr {m : List Addr} {H : Hp} {env : En} {σ : St} (r : EnR H m env σ) (i : Nat) : EnR H m (env.set i none) (σ.set i none) := by
  refine ⟨by rw [List.length_set, List.length_set]; exact r.len, fun j u e => ?_⟩
  rw [List.getElem?_set] at e
  rw [List.getElem?_set]
  by_cases hj : i = j
  · subst hj
    rw [if_pos rfl] at e
    by_cases hl : i < env.length
    · rw [if_pos hl] at e; cases e
    · rw [if_neg hl] at e; cases e
  · rw [if_neg hj] at e ⊢
    exact r.get j u e
noncomputable def Aft (K : PySem.W.Frag) (m : List Addr) (H : Hp) (k : WK) (Q : VK) : Prop := ∀ t h' m' H' v, Up m H m' H' → Rep K m' h' H' → Den H' m' t v → k t h' → Q v H'
noncomputable def AftB (K : PySem.W.Frag) (m : List Addr) (H : Hp) (k : Bool → PH → Prop) (Q : Bool → Hp → Prop) : Prop := ∀ b h' m' H', Up m H m' H' → Rep K m' h' H' → k b h' → Q b H'
noncomputable def AftL (K : PySem.W.Frag) (m : List Addr) (H : Hp) (k : List T → PH → Prop) (Q : List V → Hp → Prop) : Prop := ∀ ts h' m' H' vs, Up m H m' H' → Rep K m' h' H' → Dens H' m' ts vs → k ts h' → Q vs H'
noncomputable def rdE (K : PySem.W.Frag) (w : WE) : TE := fun σ H Q => ∃ m env h k, Rep K m h H ∧ EnR H m env σ ∧ w env h k ∧ Aft K m H k Q
noncomputable def rdT (K : PySem.W.Frag) (w : WT) : TT := fun σ H Q => ∃ m env h k, Rep K m h H ∧ EnR H m env σ ∧ w env h k ∧ AftB K m H k Q
noncomputable def rdA (K : PySem.W.Frag) (w : WA) : TA := fun σ H Q => ∃ m env h k, Rep K m h H ∧ EnR H m env σ ∧ w env h k ∧ AftL K m H k Q
noncomputable def OE (X : Cx) (e : Expr) (w : WE) : Prop := PE X e (rdE X.K w)
noncomputable def OT (X : Cx) (e : Expr) (w : WT) : Prop := PT X e (rdT X.K w)
noncomputable def OW (X : Cx) (e : Expr) (w : WT) : Prop := PW X e (rdT X.K w)
noncomputable def OA (X : Cx) (es : List Expr) (w : WA) : Prop := PA X es (rdA X.K w)
section
variable {X : Cx} {a b c e : Expr} {es : List Expr} {pos : Pos}
theorem PE.imp {t t' : TE} (h : PE X e t) (hi : ∀ σ H Q, t' σ H Q → t σ H Q) : PE X e t' := fun pins s σ H Q I q => h pins s σ H Q I (hi σ H Q q)
theorem PT.imp {t t' : TT} (h : PT X e t) (hi : ∀ σ H Q, t' σ H Q → t σ H Q) : PT X e t' := fun pins s σ H Q I q => h pins s σ H Q I (hi σ H Q q)
theorem PW.imp {t t' : TT} (h : PW X e t) (hi : ∀ σ H Q, t' σ H Q → t σ H Q) : PW X e t' := fun wh pins s σ H Q I q => h wh pins s σ H Q I (hi σ H Q q)
theorem PA.imp {t t' : TA} (h : PA X es t) (hi : ∀ σ H Q, t' σ H Q → t σ H Q) : PA X es t' := fun ps pins s σ H Q I q => h ps pins s σ H Q I (hi σ H Q q)
noncomputable def wVar (i : Nat) : WE := fun env h k => match env[i]? with
  | some (some t) => k t h
  | _ => False
noncomputable def wC (t : T) : WE := fun _ h k => k t h
theorem ov (i : Nat) {x : Str} (hN : X.N[i]? = some x := by rfl) (hv : Vis X.env.scope x := by first | exact Or.inl rfl | exact Or.inr (Or.inl rfl) | exact Or.inr (Or.inr rfl)) (hd : (x == ("__debug__" : Str)) = false := by decide)
    (hcd : (x == ("__classdict__" : Str)) = false := by decide) : OE X (.Name x pos) (wVar i) := PE.imp (pe_var hN hv hd hcd) fun σ H Q ⟨m, env, h, k, r, en, w, af⟩ => by
  have w : (match env[i]? with | some (some t) => k t h | _ => False) := w
  cases e : env[i]? with
  | none => rw [e] at w; exact w.elim
  | some o =>
    cases o with
    | none => rw [e] at w; exact w.elim
    | some t =>
      rw [e] at w
      obtain ⟨v, h1, h2⟩ := en.get i t e
      exact ⟨v, h1, af t h m H v .refl r h2 w⟩
theorem oe_c {t : T} {v : V} (h : PE X e (tC v)) (hd : ∀ H m, Den H m t v) : OE X e (wC t) := PE.imp h fun σ H Q ⟨m, env, h, k, r, en, w, af⟩ => af t h m H v .refl r (hd H m) w
theorem oe_int {i j} : OE X (.Constant (.int i) j pos) (wC (.int i)) := oe_c pe_int fun _ _ => .int i
theorem oe_bl {b j} : OE X (.Constant (.bool b) j pos) (wC (.bl b)) := oe_c pe_bl fun _ _ => .bl b
theorem oe_non {j} : OE X (.Constant .none j pos) (wC .non) := oe_c pe_non fun _ _ => .non
noncomputable abbrev P2 := T → T → PH → WK → Prop
noncomputable def wOp (p : P2) (wa wb : WE) : WE := fun env h k => wa env h fun x h1 => wb env h1 fun y h2 => p x y h2 k
noncomputable def R2I (K : PySem.W.Frag) (r : R2) (p : P2) : Prop := ∀ m h H x y vx vy k Q, Rep K m h H → Den H m x vx → Den H m y vy → p x y h k → Aft K m H k Q → r vx vy H Q
theorem Aft.after {K : PySem.W.Frag} {m m' : List Addr} {H H' : Hp} {k : WK} {Q : VK} (a : Aft K m H k Q) (u : Up m H m' H') : Aft K m' H' k Q := fun t h2 m2 H2 v u2 => a t h2 m2 H2 v (u.trans u2)
theorem AftB.after {K : PySem.W.Frag} {m m' : List Addr} {H H' : Hp} {k : Bool → PH → Prop} {Q : Bool → Hp → Prop} (a : AftB K m H k Q) (u : Up m H m' H') : AftB K m' H' k Q := fun t h2 m2 H2 u2 => a t h2 m2 H2 (u.trans u2)
theorem rd2 {r : R2} {p : P2} {wa wb : WE} (hr : R2I X.K r p) : ∀ σ H Q, rdE X.K (wOp p wa wb) σ H Q → tOp r (rdE X.K wa) (rdE X.K wb) σ H Q := fun σ H Q ⟨m, env, h, k, rp, en, w, af⟩ =>
  ⟨m, env, h, _, rp, en, w, fun x h1 m1 H1 vx u1 r1 dx q1 => ⟨m1, env, h1, _, r1, en.up u1, q1, fun y h2 m2 H2 vy u2 r2 dy q2 => hr m2 h2 H2 x y vx vy k Q r2 (dx.up u2) dy q2 (af.after (u1.trans u2))⟩⟩
theorem oe_op {op : Operator} {r : R2} {p : P2} {wa wb : WE} (ho : OpR X (binaryOp op) r) (hr : R2I X.K r p) (ha : OE X a wa) (hb : OE X b wb) : OE X (.BinOp a op b pos) (wOp p wa wb) := PE.imp (pe_op ho ha hb) (rd2 hr)
theorem oe_cmp {op : CmpOp} {r : R2} {p : P2} {wa wb : WE} (ho : OpR X (compareOp op) r) (hr : R2I X.K r p) (hm : behindInMarks op b = false) (ha : OE X a wa) (hb : OE X b wb) : OE X (.Compare a [op] [b] pos) (wOp p wa wb) := PE.imp (pe_cmpR ho ha hb hm) (rd2 hr)
noncomputable def wTest (w : WE) : WT := fun env h k => w env h fun x h' => match x with
  | .bl c => k c h'
  | _ => False
theorem ot_cmp {op : CmpOp} {r : R2} {p : P2} {wa wb : WE} (ho : OpR X (compareOp op) r) (hr : R2I X.K r p) (hm : behindInMarks op b = false) (ha : OE X a wa) (hb : OE X b wb) : OT X (.Compare a [op] [b] pos) (wTest (wOp p wa wb)) :=
  PT.imp (pt_cmpR ho ha hb hm) fun σ H Q ⟨m, env, h, k, rp, en, w, af⟩ => rd2 hr σ H _ ⟨m, env, h, _, rp, en, w, fun t h' m' H' v u r' d q => by
    cases d with
    | bl c => exact ⟨c, rfl, af c h' m' H' u r' q⟩
    | _ => exact (show False from q).elim⟩
theorem ot_val {w : WE} (h : OE X e w) (he : ∀ whole, isTrue e X.env whole = (do let v ← whole; standAt e.pos; holding [v] (truthy v)) := by intro _; rfl) : OT X e (wTest w) :=
  PT.imp (pt_val h he) fun σ H Q ⟨m, env, h, k, rp, en, w, af⟩ => ⟨m, env, h, _, rp, en, w, fun t h' m' H' v u r' d q => by
    cases d with
    | bl c => exact ⟨c, rfl, af c h' m' H' u r' q⟩
    | _ => exact (show False from q).elim⟩
noncomputable def wChain (p p' : P2) (wa wb wc : WE) : WE := fun env h k => wa env h fun x h1 => wb env h1 fun y h2 => p x y h2 fun z h3 => match z with
  | .bl true => wc env h3 fun u h4 => p' y u h4 k
  | .bl false => k (.bl false) h3
  | _ => False
theorem rd_chain {r r' : R2} {p p' : P2} {wa wb wc : WE} (hr : R2I X.K r p) (hr' : R2I X.K r' p') : ∀ σ H Q, rdE X.K (wChain p p' wa wb wc) σ H Q → tChain r r' (rdE X.K wa) (rdE X.K wb) (rdE X.K wc) σ H Q := fun σ H Q ⟨m, env, h, k, rp, en, w, af⟩ =>
  ⟨m, env, h, _, rp, en, w, fun x h1 m1 H1 vx u1 r1 dx q1 => ⟨m1, env, h1, _, r1, en.up u1, q1, fun y h2 m2 H2 vy u2 r2 dy q2 => hr m2 h2 H2 x y vx vy _ _ r2 (dx.up u2) dy q2 fun z h3 m3 H3 vz u3 r3 dz q3 => by
    cases dz with
    | bl cc =>
      refine ⟨cc, rfl, ?_⟩
      cases cc with
      | true => exact ⟨m3, env, h3, _, r3, en.up (u1.trans (u2.trans u3)), q3, fun y' h4 m4 H4 vw u4 r4 dw q4 => hr' m4 h4 H4 y y' vy vw k Q r4 (dy.up (u3.trans u4)) dw q4 (af.after (u1.trans (u2.trans (u3.trans u4))))⟩
      | false => exact af (.bl false) h3 m3 H3 (.bl false) (u1.trans (u2.trans u3)) r3 (.bl false) q3
    | _ => exact (show False from q3).elim⟩⟩
theorem oe_chain {op op' : CmpOp} {r r' : R2} {p p' : P2} {wa wb wc : WE} (ho : OpR X (compareOp op) r) (hr : R2I X.K r p) (ho' : OpR X (compareOp op') r') (hr' : R2I X.K r' p') (ha : OE X a wa) (hb : OE X b wb) (hc : OE X c wc)
    (hm : lastMarks [op, op'] [b, c] = false := by with_unfolding_all rfl) : OE X (.Compare a [op, op'] [b, c] pos) (wChain p p' wa wb wc) := PE.imp (pe_chain ho ho' ha hb hc hm) (rd_chain hr hr')
theorem ot_chain {op op' : CmpOp} {r r' : R2} {p p' : P2} {wa wb wc : WE} (ho : OpR X (compareOp op) r) (hr : R2I X.K r p) (ho' : OpR X (compareOp op') r') (hr' : R2I X.K r' p') (ha : OE X a wa) (hb : OE X b wb) (hc : OE X c wc)
    (hm : lastMarks [op, op'] [b, c] = false := by with_unfolding_all rfl) : OT X (.Compare a [op, op'] [b, c] pos) (wTest (wChain p p' wa wb wc)) :=
  PT.imp (pt_chain ho ho' ha hb hc hm) fun σ H Q ⟨m, env, h, k, rp, en, w, af⟩ => rd_chain hr hr' σ H _ ⟨m, env, h, _, rp, en, w, fun t h' m' H' v u r' d q => by
    cases d with
    | bl c => exact ⟨c, rfl, af c h' m' H' u r' q⟩
    | _ => exact (show False from q).elim⟩
variable {rest : List Expr}
noncomputable def wAnd (t u : WT) : WT := fun env h k => t env h fun c h1 => if c = true then u env h1 k else k false h1
noncomputable def wOr (t u : WT) : WT := fun env h k => t env h fun c h1 => if c = true then k true h1 else u env h1 k
noncomputable def wNot (t : WT) : WT := fun env h k => t env h fun c h1 => k (!c) h1
theorem ow_and1 {w : WT} (h : OT X a w) : OW X (.BoolOp .And [a] pos) w := pw_and1 h
theorem ow_or1 {w : WT} (h : OT X a w) : OW X (.BoolOp .Or [a] pos) w := pw_or1 h
theorem ow_and {w u : WT} (ha : OT X a w) (hb : OW X (.BoolOp .And (b :: rest) pos) u) : OW X (.BoolOp .And (a :: b :: rest) pos) (wAnd w u) := PW.imp (pw_and ha hb) fun σ H Q ⟨m, env, h, k, rp, en, w, af⟩ =>
  ⟨m, env, h, _, rp, en, w, fun c h1 m1 H1 u1 r1 q1 => by
    cases c with
    | true => rw [if_pos rfl] at q1 ⊢; exact ⟨m1, env, h1, k, r1, en.up u1, q1, af.after u1⟩
    | false => rw [if_neg Bool.false_ne_true] at q1 ⊢; exact af false h1 m1 H1 u1 r1 q1⟩
theorem ow_or {w u : WT} (ha : OT X a w) (hb : OW X (.BoolOp .Or (b :: rest) pos) u) : OW X (.BoolOp .Or (a :: b :: rest) pos) (wOr w u) := PW.imp (pw_or ha hb) fun σ H Q ⟨m, env, h, k, rp, en, w, af⟩ =>
  ⟨m, env, h, _, rp, en, w, fun c h1 m1 H1 u1 r1 q1 => by
    cases c with
    | false => rw [if_neg Bool.false_ne_true] at q1 ⊢; exact ⟨m1, env, h1, k, r1, en.up u1, q1, af.after u1⟩
    | true => rw [if_pos rfl] at q1 ⊢; exact af true h1 m1 H1 u1 r1 q1⟩
theorem ot_w {w : WT} (h : OW X e w) : OT X e w := PW.pt h
theorem ot_not {w : WT} (ha : OT X a w) : OT X (.UnaryOp .Not a pos) (wNot w) := PT.imp (pt_not ha) fun σ H Q ⟨m, env, h, k, rp, en, w, af⟩ => ⟨m, env, h, _, rp, en, w, fun c h1 m1 H1 u1 r1 q1 => af (!c) h1 m1 H1 u1 r1 q1⟩
noncomputable def wAndV (wa wb : WE) : WE := fun env h k => wa env h fun x h1 => match x with
  | .bl true => wb env h1 k
  | .bl false => k (.bl false) h1
  | _ => False
noncomputable def wOrV (wa wb : WE) : WE := fun env h k => wa env h fun x h1 => match x with
  | .bl true => k (.bl true) h1
  | .bl false => wb env h1 k
  | _ => False
noncomputable def wNotV (wa : WE) : WE := fun env h k => wa env h fun x h1 => match x with
  | .bl c => k (.bl (!c)) h1
  | _ => False
theorem oe_one {op} {w : WE} (h : OE X a w) : OE X (.BoolOp op [a] pos) w := pe_one h
theorem oe_and {wa wb : WE} (ha : OE X a wa) (hb : OE X (.BoolOp .And (b :: rest) pos) wb) : OE X (.BoolOp .And (a :: b :: rest) pos) (wAndV wa wb) := PE.imp (pe_and ha hb) fun σ H Q ⟨m, env, h, k, rp, en, w, af⟩ =>
  ⟨m, env, h, _, rp, en, w, fun t h1 m1 H1 v u1 r1 d q1 => by
    cases d with
    | bl cc =>
      refine ⟨cc, rfl, ?_⟩
      cases cc with
      | true => rw [if_pos rfl]; exact ⟨m1, env, h1, k, r1, en.up u1, q1, af.after u1⟩
      | false => rw [if_neg Bool.false_ne_true]; exact af _ h1 m1 H1 _ u1 r1 (.bl false) q1
    | _ => exact (show False from q1).elim⟩
theorem oe_not {wa : WE} (ha : OE X a wa) : OE X (.UnaryOp .Not a pos) (wNotV wa) := PE.imp (pe_not ha) fun σ H Q ⟨m, env, h, k, rp, en, w, af⟩ =>
  ⟨m, env, h, _, rp, en, w, fun t h1 m1 H1 v u1 r1 d q1 => by
    cases d with
    | bl cc => exact ⟨cc, rfl, af _ h1 m1 H1 _ u1 r1 (.bl _) q1⟩
    | _ => exact (show False from q1).elim⟩
noncomputable def wIfE (t : WT) (wa wb : WE) : WE := fun env h k => t env h fun c h1 => if c = true then wa env h1 k else wb env h1 k
theorem oe_if {wc : WT} {wa wb : WE} (hc : OT X c wc) (ha : OE X a wa) (hb : OE X b wb) : OE X (.IfExp c a b pos) (wIfE wc wa wb) := PE.imp (pe_ifExp hc ha hb) fun σ H Q ⟨m, env, h, k, rp, en, w, af⟩ =>
  ⟨m, env, h, _, rp, en, w, fun cc h1 m1 H1 u1 r1 q1 => by
    cases cc with
    | true => rw [if_pos rfl] at q1 ⊢; exact ⟨m1, env, h1, k, r1, en.up u1, q1, af.after u1⟩
    | false => rw [if_neg Bool.false_ne_true] at q1 ⊢; exact ⟨m1, env, h1, k, r1, en.up u1, q1, af.after u1⟩⟩
noncomputable def wUn (p : T → PH → WK → Prop) (wa : WE) : WE := fun env h k => wa env h fun x h1 => p x h1 k
noncomputable def R1I (K : PySem.W.Frag) (r : V → Hp → VK → Prop) (p : T → PH → WK → Prop) : Prop := ∀ m h H x vx k Q, Rep K m h H → Den H m x vx → p x h k → Aft K m H k Q → r vx H Q
theorem oe_un {op : UnaryOp} {r : V → Hp → VK → Prop} {p : T → PH → WK → Prop} {wa : WE} (ho : UnR X (unaryOp op) r) (hr : R1I X.K r p) (ha : OE X a wa) : OE X (.UnaryOp op a pos) (wUn p wa) :=
  PE.imp (pe_un ho ha) fun σ H Q ⟨m, env, h, k, rp, en, w, af⟩ => ⟨m, env, h, _, rp, en, w, fun t h1 m1 H1 v u1 r1 d q1 => hr m1 h1 H1 t v k Q r1 d q1 (af.after u1)⟩
noncomputable def wNil : WA := fun _ h k => k [] h
noncomputable def wCons (wa : WE) (wr : WA) : WA := fun env h k => wa env h fun x h1 => wr env h1 fun xs h2 => k (x :: xs) h2
theorem oa_nil : OA X [] wNil := PA.imp pa_nil fun σ H Q ⟨m, env, h, k, rp, en, w, af⟩ => af [] h m H [] .refl rp .nil w
theorem oa_cons {wa : WE} {wr : WA} (ha : OE X e wa) (hr : OA X es wr) (hs : starEach (e :: es) X.env = (false, eval e X.env) :: starEach es X.env := by rfl) : OA X (e :: es) (wCons wa wr) :=
  PA.imp (pa_cons ha hr hs) fun σ H Q ⟨m, env, h, k, rp, en, w, af⟩ => ⟨m, env, h, _, rp, en, w, fun t h1 m1 H1 v u1 r1 d q1 => ⟨m1, env, h1, _, r1, en.up u1, q1, fun ts h2 m2 H2 vs u2 r2 ds q2 => af (t :: ts) h2 m2 H2 (v :: vs) (u1.trans u2) r2 (.cons (d.up u2) ds) q2⟩⟩
noncomputable def wTup (w : WA) : WE := fun env h k => w env h fun ts h1 => ts.length ≤ sizeLine ∧ k (.tup ts) h1
noncomputable def wLst (w : WA) : WE := fun env h k => w env h fun ts h1 => ts.length ≤ sizeLine ∧ k (.ref h1.length) (h1 ++ [.lst ts])
theorem Rep.newLst {K : PySem.W.Frag} {m : List Addr} {h : PH} {H : Hp} {p : Addr} {ts : List T} {vs : List V} (r : Rep K m h H) (hp : H p = none) (d : Dens H m ts vs) : Rep K (m ++ [p]) (h ++ [.lst ts]) (upd H p (.lst vs)) := r.new hp ⟨vs, upd_same, d.up (Up.new hp)⟩
theorem Rep.newRef {K : PySem.W.Frag} {m : List Addr} {h : PH} {H H' : Hp} {p : Addr} (r : Rep K m h H) : Den H' (m ++ [p]) (.ref h.length) (.ref p) := .ref (by rw [← r.len, List.getElem?_append_right (Nat.le_refl _), Nat.sub_self] <;> rfl)
theorem Aft.newLst {K : PySem.W.Frag} {m : List Addr} {h : PH} {H : Hp} {k : WK} {Q : VK} {p : Addr} {ts : List T} {vs : List V} (af : Aft K m H k Q) (r : Rep K m h H) (d : Dens H m ts vs) (w : k (.ref h.length) (h ++ [.lst ts])) (hp : H p = none) : Q (.ref p) (upd H p (.lst vs)) :=
  af _ _ _ _ _ (Up.new hp) (r.newLst hp d) r.newRef w
theorem Aft.newTup {K : PySem.W.Frag} {m : List Addr} {h : PH} {H : Hp} {k : WK} {Q : VK} {p : Addr} {ts : List T} {vs : List V} (af : Aft K m H k Q) (r : Rep K m h H) (d : Dens H m ts vs) (w : k (.tup ts) h) (hp : H p = none) : Q (.ref p) (upd H p (.tup vs)) :=
  af _ _ _ _ _ (Up.newTup hp) (r.tup hp) (.tup upd_same (d.up (Up.newTup hp))) w
theorem oe_tup {x1} {w : WA} (h : OA X es w) : OE X (.Tuple es x1 pos) (wTup w) := PE.imp (pe_tup h) fun σ H Q ⟨m, env, h, k, rp, en, w, af⟩ =>
  ⟨m, env, h, _, rp, en, w, fun ts h1 m1 H1 vs u1 r1 ds q1 => ⟨by rw [← ds.length]; exact q1.1, fun p hp => (af.after u1).newTup r1 ds q1.2 hp⟩⟩
theorem oe_lst {w : WA} (h : OA X es w) : OE X (.List es pos) (wLst w) := PE.imp (pe_lst h) fun σ H Q ⟨m, env, h, k, rp, en, w, af⟩ =>
  ⟨m, env, h, _, rp, en, w, fun ts h1 m1 H1 vs u1 r1 ds q1 => ⟨by rw [← ds.length]; exact q1.1, fun p hp => (af.after u1).newLst r1 ds q1.2 hp⟩⟩
theorem oe_ix {r : R2} {p : P2} {wa wb : WE} (ho : IxR X r) (hr : R2I X.K r p) (ha : OE X a wa) (hb : OE X b wb) (hs : PlainIx b := by intro _ _; rfl) : OE X (.Subscript a b pos) (wOp p wa wb) := PE.imp (pe_ix ho ha hb hs) (rd2 hr)
noncomputable def wCB (p : List T → PH → WK → Prop) (w : WA) : WE := fun env h k => w env h fun ts h1 => p ts h1 k
noncomputable def RLI (K : PySem.W.Frag) (r : List V → Hp → VK → Prop) (p : List T → PH → WK → Prop) : Prop := ∀ m h H ts vs k Q, Rep K m h H → Dens H m ts vs → p ts h k → Aft K m H k Q → r vs H Q
theorem rdCB {r : List V → Hp → VK → Prop} {p : List T → PH → WK → Prop} {w : WA} (hr : RLI X.K r p) : ∀ σ H Q, rdE X.K (wCB p w) σ H Q → tCB r (rdA X.K w) σ H Q := fun σ H Q ⟨m, env, h, k, rp, en, w, af⟩ =>
  ⟨m, env, h, _, rp, en, w, fun ts h1 m1 H1 vs u1 r1 ds q1 => hr m1 h1 H1 ts vs k Q r1 ds q1 (af.after u1)⟩
variable {x : Str} {ppos : Pos}
theorem oe_callB {id : String} {r : List V → Hp → VK → Prop} {p : List T → PH → WK → Prop} {w : WA} (hc : CallR X (.builtin id) r) (hr : RLI X.K r p) (hm : X.mg x = none) (ha : OA X (e :: es) w) (hg : Gl X x := by rfl) (hv : bootBuiltins x = some (.builtin id) := by rfl) (hn : x ≠ "__name__" := by decide) (hdb : (x == ("__debug__" : Str)) = false := by decide)
    (he : starEach (e :: es) X.env = (false, eval e X.env) :: starEach es X.env := by rfl) (hpl : (backTo pos (starEach es X.env)).any (·.1) = false := by rfl) : OE X (.Call (.Name x ppos) (e :: es) [] pos) (wCB p w) := PE.imp (pe_callB hc hg hm hv ha hn hdb he hpl) (rdCB hr)
theorem oe_callTy {id : String} {r : List V → Hp → VK → Prop} {p : List T → PH → WK → Prop} {w : WA} (hc : CallR X (.type id) r) (hr : RLI X.K r p) (hm : X.mg x = none) (ha : OA X (e :: es) w) (hg : Gl X x := by rfl) (hv : bootBuiltins x = some (.type id) := by rfl) (hn : x ≠ "__name__" := by decide) (hdb : (x == ("__debug__" : Str)) = false := by decide)
    (he : starEach (e :: es) X.env = (false, eval e X.env) :: starEach es X.env := by rfl) (hpl : (backTo pos (starEach es X.env)).any (·.1) = false := by rfl) : OE X (.Call (.Name x ppos) (e :: es) [] pos) (wCB p w) := PE.imp (pe_callTy hc hg hm hv ha hn hdb he hpl) (rdCB hr)
noncomputable def wBM (ty : T → PH → Prop) (p : T → List T → PH → WK → Prop) (wo : WE) (w : WA) : WE := fun env h k => wo env h fun x h1 => ty x h1 ∧ w env h1 fun ts h2 => p x ts h2 k
noncomputable def RMI (K : PySem.W.Frag) (r : V → List V → Hp → VK → Prop) (p : T → List T → PH → WK → Prop) : Prop := ∀ m h H x ts vx vs k Q, Rep K m h H → Den H m x vx → Dens H m ts vs → p x ts h k → Aft K m H k Q → r vx vs H Q
noncomputable def TyI (K : PySem.W.Frag) (id : String) (ty : T → PH → Prop) : Prop := ∀ m h H x vx, Rep K m h H → Den H m x vx → ty x h → tyV K id vx H
variable {o : Expr} {name : Str} {apos cpos : Pos}
theorem oe_bm {T id : String} {r : V → List V → Hp → VK → Prop} {p : Pu.T → List Pu.T → PH → WK → Prop} {ty : Pu.T → PH → Prop} {wo : WE} {w : WA} (pa : PlainAttrs T) (slot : Slot T name id) (hty : typeOf (.builtin id) = pure (.type "method_descriptor")) (hm : MtR X id r) (hr : RMI X.K r p) (ht : TyI X.K T ty) (ho : OE X o wo) (ha : OA X (e :: es) w)
    (hbase : attributeBase o name X.env (eval o X.env) = eval o X.env := by rfl)
    (hfew : ((backTo cpos (starEach (e :: es) X.env)).all (fun x => !x.1) && (backToKw cpos (keywordEach [] X.env)).all (fun x => x.1.isSome)
      && decide ((e :: es).length + ([] : List Keyword).length + (if ([] : List Keyword).isEmpty then 0 else 1) < 30)) = true := by rfl)
    (hline : (apos.endLine == cpos.line) = true := by rfl) (hs : starEach (e :: es) X.env = (false, eval e X.env) :: starEach es X.env := by rfl) (hplain : (backTo cpos (starEach es X.env)).any (·.1) = false := by rfl) :
    OE X (.Call (.Attribute o name apos) (e :: es) [] cpos) (wBM ty p wo w) := PE.imp (pe_bm pa slot hty hm ho ha hbase hfew hline hs hplain) fun σ H Q ⟨m, env, h, k, rp, en, w, af⟩ =>
  ⟨m, env, h, _, rp, en, w, fun t h1 m1 H1 v u1 r1 d q1 => ⟨ht m1 h1 H1 t v r1 d q1.1, m1, env, h1, _, r1, en.up u1, q1.2, fun ts h2 m2 H2 vs u2 r2 ds q2 => hr m2 h2 H2 t ts v vs k Q r2 (d.up u2) ds q2 (af.after (u1.trans u2))⟩⟩
noncomputable abbrev WO := En → PH → (Option Int → PH → Prop) → Prop
noncomputable def rdO (K : PySem.W.Frag) (w : WO) : TO := fun σ H Q => ∃ m env h k, Rep K m h H ∧ EnR H m env σ ∧ w env h k ∧ ∀ o h' m' H', Up m H m' H' → Rep K m' h' H' → k o h' → Q o H'
noncomputable def OO (X : Cx) (e : Option Expr) (w : WO) : Prop := PO X e (rdO X.K w)
noncomputable def wNoPart : WO := fun _ h k => k none h
noncomputable def wPart (w : WE) : WO := fun env h k => w env h fun x h1 => match x with
  | .int i => k (some i) h1
  | _ => False
theorem oo_none : OO X none wNoPart := fun pins s σ H Q I ⟨m, env, h, k, rp, en, w, af⟩ => po_none pins s σ H Q I (af none h m H .refl rp w)
theorem oo_some {w : WE} (h : OE X e w) : OO X (some e) (wPart w) := fun pins s σ H Q I ⟨m, env, h', k, rp, en, w, af⟩ => po_some h pins s σ H Q I ⟨m, env, h', _, rp, en, w, fun t h1 m1 H1 v u1 r1 d q1 => by
  cases d with
  | int i => exact ⟨i, rfl, af (some i) h1 m1 H1 u1 r1 q1⟩
  | _ => exact (show False from q1).elim⟩
noncomputable def wSl (p : T → Option Int → Option Int → PH → WK → Prop) (we : WE) (wl wh : WO) : WE := fun env h k => we env h fun x h1 => wl env h1 fun l h2 => wh env h2 fun u h3 => p x l u h3 k
theorem oe_slice {r : V → Option Int → Option Int → Hp → VK → Prop} {p : T → Option Int → Option Int → PH → WK → Prop} {we : WE} {wl wh : WO} {lo hi : Option Expr} {p2 : Pos} (hr : SlR X r)
    (hi' : ∀ m h H x vx l u k Q, Rep X.K m h H → Den H m x vx → p x l u h k → Aft X.K m H k Q → r vx l u H Q) (he : OE X e we) (hl : OO X lo wl) (hu : OO X hi wh) : OE X (.Subscript e (.Slice lo hi none p2) pos) (wSl p we wl wh) :=
  PE.imp (pe_slice hr he hl hu) fun σ H Q ⟨m, env, h, k, rp, en, w, af⟩ => ⟨m, env, h, _, rp, en, w, fun x h1 m1 H1 vx u1 r1 d q1 => ⟨m1, env, h1, _, r1, en.up u1, q1, fun l h2 m2 H2 u2 r2 q2 => ⟨m2, env, h2, _, r2, en.up (u1.trans u2), q2, fun u h3 m3 H3 u3 r3 q3 =>
    hi' m3 h3 H3 x vx l u k Q r3 (d.up (u2.trans u3)) q3 (af.after (u1.trans (u2.trans u3)))⟩⟩⟩
end
end Pu
set_option Elab.async false
set_option linter.all false
set_option maxRecDepth 100000
namespace Pu
open PySem PySem.Spec PyProof.Rows L2
structure Eds where
  nx : En → PH → Prop
  rt : WK
  bk : En → PH → Prop := fun _ _ => False
  ct : En → PH → Prop := fun _ _ => False
  ex : Str → List T → PH → Prop := fun _ _ _ => False
noncomputable abbrev WS := Eds → En → PH → Prop
noncomputable def AftE (K : PySem.W.Frag) (m : List Addr) (H : Hp) (k : En → PH → Prop) (Q : St → Hp → Prop) : Prop := ∀ env h m' H' σ, Up m H m' H' → Rep K m' h H' → EnR H' m' env σ → k env h → Q σ H'
theorem AftE.after {K : PySem.W.Frag} {m m' : List Addr} {H H' : Hp} {k : En → PH → Prop} {Q : St → Hp → Prop} (a : AftE K m H k Q) (u : Up m H m' H') : AftE K m' H' k Q := fun env h2 m2 H2 σ u2 => a env h2 m2 H2 σ (u.trans u2)
noncomputable def MadeX (K : PySem.W.Frag) (h h' : Heap) (e : Addr) (c : Str) (vs : List V) : Prop := vs = [] ∧ ∃ C args, PySem.W.nsIn K mainGlobals c = some (some (.ref C)) ∧ Heap.MadeExcOf h h' e (.ref C) args
noncomputable def CX1 (P : Program) (w : World) : CXT := fun outer H s E e s' => ∃ (ea C : Addr) (a0 : Value) (H' : Hp) (B : Heap), e = .ref ea ∧ s'.os = s.os ∧ AllBare s'.gens ∧ Un (frs outer) [] H H' s.heap s'.heap ∧ HOk P w H' s'.heap ∧
  Heap.FlyingW B outer ea (.ref C) a0 s'.heap ∧ (∀ b o, s'.heap.get? b = some o → B.get? b = some o ∨ b ∈ frs outer ∨ (s.heap.get? b = none ∧ H' b = none)) ∧ s.heap.get? ea = none ∧ H' ea = none ∧ E (.ref C) none H'
noncomputable def XE (X : Cx) (c : Str) (vs : List V) (H : Hp) : Prop := ∀ (pins : List (Addr × Obj)) (σ : St) (s s' : Shared) (e : Addr), Inv X pins σ H s → s'.os = s.os → AllBare s'.gens → MadeX X.K s.heap s'.heap e c vs → X.xe (.ref e) s'
noncomputable def AftXP (X : Cx) (m : List Addr) (H : Hp) (k : Str → List T → PH → Prop) : Prop := ∀ E' : XK, (∀ C H', E' (.ref C) none H' → ∃ c ts h' m', Up m H m' H' ∧ Rep X.K m' h' H' ∧ PySem.W.nsIn X.K mainGlobals c = some (some (.ref C)) ∧ k c ts h') → Passes (CX1 X.prog X.w) X E'
noncomputable def AftXE (X : Cx) (m : List Addr) (H : Hp) (k : Str → List T → PH → Prop) : Prop := (∀ c ts vs h' m' H', Up m H m' H' → Rep X.K m' h' H' → Dens H' m' ts vs → k c ts h' → XE X c vs H') ∧ AftXP X m H k
theorem AftXE.after {X : Cx} {m m' : List Addr} {H H' : Hp} {k : Str → List T → PH → Prop} (a : AftXE X m H k) (u : Up m H m' H') : AftXE X m' H' k :=
  ⟨fun c ts vs h2 m2 H2 u2 => a.1 c ts vs h2 m2 H2 (u.trans u2), fun E' hE => a.2 E' fun C H2 q => by
    obtain ⟨c, ts, h2, m2, u2, r⟩ := hE C H2 q
    exact ⟨c, ts, h2, m2, u.trans u2, r⟩⟩
theorem AftXE.no (X : Cx) (m : List Addr) (H : Hp) : AftXE X m H fun _ _ _ => False :=
  ⟨fun _ _ _ _ _ _ _ _ _ q => q.elim, fun E' hE pins σ H2 s e s' I cx => by
    obtain ⟨ea, C, a0, H', B, _, _, _, _, _, _, _, _, _, hC⟩ := cx
    obtain ⟨_, _, _, _, _, _, _, q⟩ := hE C H' hC
    exact q.elim⟩
structure AftS (X : Cx) (m : List Addr) (H : Hp) (D : Eds) (E : Ends) : Prop where
  nx : AftE X.K m H D.nx E.nx
  rt : Aft X.K m H D.rt E.rt
  bk : AftE X.K m H D.bk E.bk
  ct : AftE X.K m H D.ct E.ct
  xs : AftXE X m H D.ex
theorem AftS.after {X : Cx} {m m' : List Addr} {H H' : Hp} {D : Eds} {E : Ends} (a : AftS X m H D E) (u : Up m H m' H') : AftS X m' H' D E := ⟨a.nx.after u, a.rt.after u, a.bk.after u, a.ct.after u, a.xs.after u⟩
noncomputable def rdS (X : Cx) (w : WS) : TS := fun E σ H => ∃ m env h D, Rep X.K m h H ∧ EnR H m env σ ∧ w D env h ∧ AftS X m H D E
noncomputable def OS (X : Cx) (st : Stmt) (w : WS) : Prop := PS X st (rdS X w)
noncomputable def OSs (X : Cx) (sts : List Stmt) (w : WS) : Prop := PSs X sts (rdS X w)
section
variable {X : Cx} {st : Stmt} {rest : List Stmt} {e : Expr} {pos : Pos}
theorem PS.imp {t t' : TS} (h : PS X st t) (hi : ∀ D σ H, t' D σ H → t D σ H) : PS X st t' := fun pins s σ H D I q => h pins s σ H D I (hi D σ H q)
theorem PSs.imp {t t' : TS} (h : PSs X rest t) (hi : ∀ D σ H, t' D σ H → t D σ H) : PSs X rest t' := fun pins s σ H D I q => h pins s σ H D I (hi D σ H q)
noncomputable def wNext : WS := fun D env h => D.nx env h
noncomputable def wSeq (t u : WS) : WS := fun D env h => t { D with nx := u D } env h
theorem ss_nil : OSs X [] wNext := PSs.imp pss_nil fun D σ H ⟨m, env, h, D', rp, en, w, af⟩ => af.nx env h m H σ .refl rp en w
theorem ss_cons {t u : WS} (h1 : OS X st t) (h2 : OSs X rest u) : OSs X (st :: rest) (wSeq t u) := PSs.imp (pss_cons h1 h2) fun D σ H ⟨m, env, h, D', rp, en, w, af⟩ =>
  ⟨m, env, h, { D' with nx := u D' }, rp, en, w, ⟨fun env h m' H' σ up r en q => ⟨m', env, h, D', r, en, q, af.after up⟩, af.rt, af.bk, af.ct, af.xs⟩⟩
theorem ss_one {t : WS} (h1 : OS X st t) : OSs X [st] t := pss_one h1
noncomputable def wNever : WS := fun _ _ _ => False
theorem s_never : OS X st wNever := PS.imp ps_never fun D σ H ⟨m, env, h, D', rp, en, w, af⟩ => w
noncomputable def wDrop (we : WE) : WS := fun D env h => we env h fun _ h1 => D.nx env h1
theorem s_expr {w : WE} (he : OE X e w) (hs : swapsWith e none pos.line X.env = pure false := by rfl) : OS X (.Expr e pos) (wDrop w) := PS.imp (ps_expr he hs) fun D σ H ⟨m, env, h, D', rp, en, w, af⟩ =>
  ⟨m, env, h, _, rp, en, w, fun t h1 m1 H1 v u1 r1 d q1 => af.nx env h1 m1 H1 σ u1 r1 (en.up u1) q1⟩
noncomputable def wRet (we : WE) : WS := fun D env h => we env h D.rt
theorem s_ret {w : WE} (he : OE X e w) : OS X (.Return (some e) pos) (wRet w) := PS.imp (ps_ret he) fun D σ H ⟨m, env, h, D', rp, en, w, af⟩ => ⟨m, env, h, _, rp, en, w, af.rt⟩
noncomputable def wRetN : WS := fun D _ h => D.rt .non h
noncomputable def wIf (c : WT) (t u : WS) : WS := fun D env h => c env h fun b h1 => if b = true then t D env h1 else u D env h1
theorem s_if {c : Expr} {a b : List Stmt} {wc : WT} {t u : WS} (hc : OT X c wc) (ha : OSs X a t) (hb : OSs X b u) : OS X (.If c a b pos) (wIf wc t u) := PS.imp (ps_if hc ha hb) fun D σ H ⟨m, env, h, D', rp, en, w, af⟩ =>
  ⟨m, env, h, _, rp, en, w, fun cc h1 m1 H1 u1 r1 q1 => by
    cases cc with
    | true => rw [if_pos rfl] at q1 ⊢; exact ⟨m1, env, h1, D', r1, en.up u1, q1, af.after u1⟩
    | false => rw [if_neg Bool.false_ne_true] at q1 ⊢; exact ⟨m1, env, h1, D', r1, en.up u1, q1, af.after u1⟩⟩
noncomputable abbrev WG := T → En → PH → (En → PH → Prop) → Prop
noncomputable def rdG (K : PySem.W.Frag) (w : WG) : TG := fun v σ H Q => ∃ m env h t k, Rep K m h H ∧ EnR H m env σ ∧ Den H m t v ∧ w t env h k ∧ AftE K m H k Q
noncomputable def OG (X : Cx) (tg : Expr) (w : WG) : Prop := PG X tg (rdG X.K w)
theorem PG.imp {tg : Expr} {t t' : TG} (h : PG X tg t) (hi : ∀ v σ H Q, t' v σ H Q → t v σ H Q) : PG X tg t' := fun pins s σ H v u Q I r q => h pins s σ H v u Q I r (hi v σ H Q q)
noncomputable def gN (i : Nat) : WG := fun t env h k => k (env.set i (some t)) h
theorem g_name {x : Str} (i : Nat) (hN : X.N.Nodup) (hi : X.N[i]? = some x := by rfl) (hx : Loc X.env.scope x := by first | exact Or.inl rfl | exact Or.inr rfl) (hf : X.fn x = true ∨ X.env.scope.names.lookup x = some .local := by first | exact .inl rfl | exact .inr rfl) : OG X (.Name x pos) (gN i) :=
  PG.imp (pg_name hN hi hx hf) fun v σ H Q ⟨m, env, h, t, k, rp, en, d, w, af⟩ => af (env.set i (some t)) h m H _ .refl rp (en.set d i) w
noncomputable abbrev WGs := List T → En → PH → (En → PH → Prop) → Prop
noncomputable def rdGs (K : PySem.W.Frag) (w : WGs) : TGs := fun vs σ H Q => ∃ m env h ts k, Rep K m h H ∧ EnR H m env σ ∧ Dens H m ts vs ∧ w ts env h k ∧ AftE K m H k Q
noncomputable def OGs (X : Cx) (tgs : List Expr) (w : WGs) : Prop := PGs X tgs (rdGs X.K w)
noncomputable def gsNil : WGs := fun ts env h k => ts = [] ∧ k env h
noncomputable def gsCons (g : WG) (gs : WGs) : WGs := fun ts env h k => match ts with
  | t :: r => g t env h fun env1 h1 => gs r env1 h1 k
  | [] => False
theorem gs_nil : OGs X [] gsNil := fun pins s σ H vs us Q I r ⟨m, env, h, ts, k, rp, en, ds, w, af⟩ => by
  obtain ⟨rfl, w⟩ := w
  cases ds
  exact pgs_nil pins s σ H [] us Q I r ⟨rfl, af env h m H σ .refl rp en w⟩
theorem gs_cons {tg : Expr} {tgs : List Expr} {g : WG} {gs : WGs} (h1 : OG X tg g) (h2 : OGs X tgs gs) (hs : (assignEach (tg :: tgs) X.env).map (·.2) = assign tg X.env :: (assignEach tgs X.env).map (·.2) := by rfl) : OGs X (tg :: tgs) (gsCons g gs) :=
  fun pins s σ H vs us Q I r ⟨m, env, h, ts, k, rp, en, ds, w, af⟩ => by
  cases ds with
  | nil => exact (show False from w).elim
  | cons d ds =>
    refine pgs_cons h1 h2 hs pins s σ H _ us Q I r ⟨_, _, rfl, m, env, h, _, _, rp, en, d, w, fun env1 h1' m1 H1 σ1 u1 r1 en1 q1 => ?_⟩
    exact ⟨m1, env1, h1', _, k, r1, en1, ds.up u1, q1, af.after u1⟩
noncomputable def gTp (n : Nat) (gs : WGs) : WG := fun t env h k => match t with
  | .tup ts => ts.length = n ∧ gs ts env h k
  | _ => False
theorem g_tup {es : List Expr} {k : Nat} {gs : WGs} (hc : X.calm = true) (n : Nat) (h : OGs X es gs) (hn : (assignEach es X.env).length = n := by rfl) (hst : (assignEach es X.env).findIdx? (·.1) = none := by rfl) : OG X (.Tuple es k pos) (gTp n gs) :=
  PG.imp (pg_tup hc h hn hst) fun v σ H Q ⟨m, env, h, t, k, rp, en, d, w, af⟩ => by
    cases d with
    | @tup a ts vs hv ds =>
      have w : ts.length = n ∧ gs ts env h k := w
      exact ⟨a, vs, rfl, .of hv, by rw [← ds.length]; exact w.1, m, env, h, ts, k, rp, en, ds, w.2, af⟩
    | _ => exact (show False from w).elim
noncomputable def wAsg (we : WE) (g : WG) : WS := fun D env h => we env h fun t h1 => g t env h1 D.nx
theorem rdAsg {we : WE} {g : WG} : ∀ D σ H, rdS X (wAsg we g) D σ H → tAsg (rdE X.K we) (rdG X.K g) D σ H := fun D σ H ⟨m, env, h, D', rp, en, w, af⟩ =>
  ⟨m, env, h, _, rp, en, w, fun t h1 m1 H1 v u1 r1 d q1 => ⟨m1, env, h1, t, _, r1, en.up u1, d, q1, af.nx.after u1⟩⟩
theorem s_asg {tg : Expr} {we : WE} {g : WG} (he : OE X e we) (hg : OG X tg g) (hs : swapsWithSole [tg] e pos.line X.env = pure false := by rfl) (hw : swappedStores [tg] e X.env = pure none := by rfl)
    (h1 : (assignEach [tg] X.env).map (·.2) = [assign tg X.env] := by rfl) : OS X (.Assign [tg] e pos) (wAsg we g) := PS.imp (ps_asg he hg hs hw h1) rdAsg
theorem s_set {x : Str} {we : WE} {pos' : Pos} (i : Nat) (hN : X.N.Nodup) (he : OE X e we) (hi : X.N[i]? = some x := by rfl) (hx : Loc X.env.scope x := by first | exact Or.inl rfl | exact Or.inr rfl)
    (hs : swapsWith e (some (.Name x pos')) pos.line X.env = pure false := by rfl) (hf : X.fn x = true ∨ X.env.scope.names.lookup x = some .local := by first | exact .inl rfl | exact .inr rfl) : OS X (.Assign [.Name x pos'] e pos) (wAsg we (gN i)) :=
  PS.imp (ps_set hN hi hx he hs hf) fun D σ H ⟨m, env, h, D', rp, en, w, af⟩ => ⟨m, env, h, _, rp, en, w, fun t h1 m1 H1 v u1 r1 d q1 => af.nx _ h1 m1 H1 _ u1 r1 ((en.up u1).set d i) q1⟩
noncomputable def gSb (wo wi : WE) (p : T → T → T → PH → (PH → Prop) → Prop) : WG := fun t env h k => wo env h fun o h1 => wi env h1 fun i h2 => p o i t h2 fun h3 => k env h3
noncomputable def RSI (K : PySem.W.Frag) (r : TSet) (p : T → T → T → PH → (PH → Prop) → Prop) : Prop := ∀ m h H o i t vo vi v k Q, Rep K m h H → Den H m o vo → Den H m i vi → Den H m t v → p o i t h k → (∀ h' m' H', Up m H m' H' → Rep K m' h' H' → k h' → Q H') → r vo vi v H Q
theorem g_sub {o i : Expr} {wo wi : WE} {r : TSet} {p : T → T → T → PH → (PH → Prop) → Prop} (hs : PSet X r) (hr : RSI X.K r p) (ho : OE X o wo) (hi : OE X i wi)
    (ha : ∀ v, assign (.Subscript o i pos) X.env v = (do
      let ov ← holding [v] (eval o X.env)
      let iv ← holding [v, ov] (eval i X.env)
      standAt pos
      holding [v, ov, iv] (setItem ov iv v)
      release [v, ov, iv] []) := by intro _; rfl) : OG X (.Subscript o i pos) (gSb wo wi p) :=
  PG.imp (pg_sub ho hi hs ha) fun v σ H Q ⟨m, env, h, t, k, rp, en, d, w, af⟩ => ⟨m, env, h, _, rp, en, w, fun o h1 m1 H1 vo u1 r1 d1 q1 => ⟨m1, env, h1, _, r1, en.up u1, q1, fun i h2 m2 H2 vi u2 r2 d2 q2 =>
    hr m2 h2 H2 o i t vo vi v _ _ r2 (d1.up u2) d2 (d.up (u1.trans u2)) q2 fun h3 m3 H3 u3 r3 q3 => af env h3 m3 H3 σ (u1.trans (u2.trans u3)) r3 (en.up (u1.trans (u2.trans u3))) q3⟩⟩
noncomputable abbrev WI := En → PH → (List T → (PH → Prop) → PH → Prop) → Prop
noncomputable def ItOk (K : PySem.W.Frag) (m0 : List Addr) (H0 : Hp) (xs : List T) (chk : PH → Prop) (J : It) : Prop := ∀ (i : Nat) h m H, Up m0 H0 m H → Rep K m h H → chk h →
  (∀ t, xs[i]? = some t → J.go i H ∧ ∀ v H', J.yld i H v H' → ∃ m', Up m H m' H' ∧ Rep K m' h H' ∧ Den H' m' t v) ∧ (xs.length ≤ i → J.stop i H)
noncomputable def rdI (K : PySem.W.Frag) (w : WI) : TI := fun σ H R => ∃ m env h k, Rep K m h H ∧ EnR H m env σ ∧ w env h k ∧ ∀ xs chk h' m' H' J, Up m H m' H' → Rep K m' h' H' → chk h' → ItOk K m' H' xs chk J → k xs chk h' → R J H'
noncomputable def OI (X : Cx) (tg iter : Expr) (w : WI) : Prop := PI X tg iter (rdI X.K w)
theorem PI.imp {tg iter : Expr} {t t' : TI} (h : PI X tg iter t) (hi : ∀ σ H R, t' σ H R → t σ H R) : PI X tg iter t' := fun pins s σ H R I q => h pins s σ H R I (hi σ H R q)
noncomputable def seqOf (x : T) (h : PH) : Option (List T) := match x with
  | .tup ts => some ts
  | .ref n => match h[n]? with
    | some (.lst xs) => some xs
    | some (.fro xs) => some xs
    | _ => none
  | _ => none
noncomputable def wSeqI (we : WE) : WI := fun env h k => we env h fun x h1 => match seqOf x h1 with
  | some xs => k xs (fun h' => seqOf x h' = some xs) h1
  | none => False
theorem seqOf_ref {n : Nat} {h : PH} {xs : List T} (e : seqOf (.ref n) h = some xs) : h[n]? = some (.lst xs) ∨ h[n]? = some (.fro xs) := by
  have e : (match h[n]? with | some (.lst xs) => some xs | some (.fro xs) => some xs | _ => none) = some xs := e
  cases q : h[n]? with
  | none => rw [q] at e; cases e
  | some o =>
    rw [q] at e
    cases o with
    | lst ys => cases e; exact .inl rfl
    | fro ys => cases e; exact .inr rfl
    | dK _ => cases e
    | dT _ => cases e
theorem Itok_list {K : PySem.W.Frag} {m0 : List Addr} {H0 : Hp} {xs : List T} {n : Nat} {a : Addr} (ha : m0[n]? = some a) : ItOk K m0 H0 xs (fun h' => seqOf (.ref n) h' = some xs) (Itl K a) := fun i h m H u r c => by
  have e := seqOf_ref c
  have ha' := u.sub n a ha
  obtain ⟨vs, q, d⟩ := r.sqL e ha'
  refine ⟨fun t ht => ?_, fun hl => ⟨vs, q, by rw [← d.length]; exact hl⟩⟩
  obtain ⟨v, hv, dv⟩ := d.get ht
  refine ⟨⟨vs, v, q, hv⟩, fun v' H' y => ?_⟩
  obtain ⟨eH, y⟩ := y
  subst eH
  have hv' := y vs q
  rw [hv] at hv'; cases hv'
  exact ⟨m, .refl, r, dv⟩
theorem Itok_tup {K : PySem.W.Frag} {m0 : List Addr} {H0 : Hp} {xs : List T} {chk : PH → Prop} {a : Addr} {vs : List V} (ha : H0 a = some (.tup vs)) (d0 : Dens H0 m0 xs vs) : ItOk K m0 H0 xs chk (Itt K a) := fun i h m H u r c => by
  have q : SqT K H a vs := .of (u.tup _ _ ha)
  have d := d0.up u
  refine ⟨fun t ht => ?_, fun hl => ⟨vs, q, by rw [← d.length]; exact hl⟩⟩
  obtain ⟨v, hv, dv⟩ := d.get ht
  refine ⟨⟨vs, v, q, hv⟩, fun v' H' y => ?_⟩
  obtain ⟨eH, y⟩ := y
  subst eH
  have hv' := y vs q
  rw [hv] at hv'; cases hv'
  exact ⟨m, .refl, r, dv⟩
theorem pie_list {tg : Expr} {pins : List (Addr × Obj)} {σ : St} {H1 : Hp} {s1 : Shared} {R : It → Hp → Prop} {E : Value → Shared → Prop} {a : Addr} {xs : List V} (I1 : Inv X pins σ H1 s1) (hq : SqL X.K H1 a xs) (q : R (Itl X.K a) H1) :
    wpAny (model X.prog X.w) X.A (pyIter (.ref a)) (PIE X pins σ tg R) E s1 := by
  obtain ⟨its, rv, p, hz⟩ := I1.list hq
  refine wpAny_pyIter_list p.isList ?_
  refine ⟨s1.heap.objs.size, [s1.heap.objs.size], _, _, H1, rfl, I1.kept (t' := s1.toks) fun b o e => Heap.get?_push_of_some _ e, turn_list a _, ⟨_, Heap.get?_push_size _ rfl, rfl, rfl⟩, fun b hb => ?_, q⟩
  have e : b = s1.heap.objs.size := by simpa using hb
  subst e
  exact I1.fpOk (Nat.le_refl _) (I1.hok.fresh (Nat.le_refl _))
theorem pie_tup {tg : Expr} {pins : List (Addr × Obj)} {σ : St} {H1 : Hp} {s1 : Shared} {R : It → Hp → Prop} {E : Value → Shared → Prop} {a : Addr} {xs : List V} (I1 : Inv X pins σ H1 s1) (hq : SqT X.K H1 a xs) (q : R (Itt X.K a) H1) :
    wpAny (model X.prog X.w) X.A (pyIter (.ref a)) (PIE X pins σ tg R) E s1 := by
  obtain ⟨its, rv, p, hz⟩ := I1.tuple hq
  refine wpAny_pyIter_tuple (show s1.heap.IsTuple a its.toArray from p) ?_
  refine ⟨s1.heap.objs.size, [s1.heap.objs.size], _, _, H1, rfl, I1.kept (t' := s1.toks) fun b o e => Heap.get?_push_of_some _ e, turn_tuple a _, ⟨_, Heap.get?_push_size _ rfl, rfl, rfl⟩, fun b hb => ?_, q⟩
  have e : b = s1.heap.objs.size := by simpa using hb
  subst e
  exact I1.fpOk (Nat.le_refl _) (I1.hok.fresh (Nat.le_refl _))
theorem i_seq {tg : Expr} {we : WE} (h : OE X e we) : OI X tg e (wSeqI we) := by
  intro pins s σ H R I ⟨m, env, h', k, rp, en, w, af⟩
  -- by the value's kind: the two rules of the layer, each at the value's own reading
  refine thn (h pins s σ H (fun v H1 => ∃ t h1 m1, Up m H m1 H1 ∧ Rep X.K m1 h1 H1 ∧ Den H1 m1 t v ∧ match seqOf t h1 with | some xs => k xs (fun h' => seqOf t h' = some xs) h1 | none => False) I
    ⟨m, env, h', _, rp, en, w, fun t h1 m1 H1 v u1 r1 d q1 => ⟨t, h1, m1, u1, r1, d, q1⟩⟩) fun v s1 ⟨x, H1, I1, r1, t, h1, m1, u1, rp1, d, q1⟩ => ?_
  cases d with
  | @tup a ts vs hv ds =>
    have q1 : k ts (fun h' => seqOf (.tup ts) h' = some ts) h1 := q1
    have hR : R (Itt X.K a) H1 := af ts (fun h' => seqOf (.tup ts) h' = some ts) h1 m1 H1 (Itt X.K a) u1 rp1 rfl (Itok_tup hv ds) q1
    cases r1
    exact pie_tup I1 (.of hv) hR
  | @ref n a hn =>
    cases r1
    cases e : seqOf (.ref n) h1 with
    | none => rw [e] at q1; exact q1.elim
    | some xs =>
      rw [e] at q1
      obtain ⟨vs, hq, _⟩ := rp1.sqL (seqOf_ref e) hn
      have hR : R (Itl X.K a) H1 := af xs _ h1 m1 H1 (Itl X.K a) u1 rp1 e (Itok_list hn) q1
      exact pie_list I1 hq hR
  | _ => exact (show False from q1).elim
noncomputable def rngL (lo : Int) (n : Nat) : List T := (List.range n).map fun (i : Nat) => T.int (lo + (i : Int))
theorem Itok_rng {K : PySem.W.Frag} {m0 : List Addr} {H0 : Hp} {chk : PH → Prop} {lo : Int} {n : Nat} : ItOk K m0 H0 (rngL lo n) chk (Itr lo n) := fun i h m H u r c => by
  have hl : (rngL lo n).length = n := by simp [rngL]
  refine ⟨fun t ht => ?_, fun h => by rw [hl] at h; exact h⟩
  have hi : i < n := by
    have := (List.getElem?_eq_some_iff.mp ht).1
    rw [hl] at this; exact this
  have e : (rngL lo n)[i]? = some (.int (lo + (i : Int))) := by simp [rngL, hi]
  rw [e] at ht; cases ht
  refine ⟨hi, fun v H' y => ?_⟩
  obtain ⟨e1, e2⟩ := y
  subst e1 e2
  exact ⟨m, .refl, r, .int _⟩
noncomputable def wRng1 (wa : WA) : WI := fun env h k => wa env h fun ts h1 => match ts with
  | [.int j] => -(2 ^ 62) ≤ j ∧ j < 2 ^ 62 ∧ k (rngL 0 j.toNat) (fun _ => True) h1
  | _ => False
noncomputable def wRng2 (wa : WA) : WI := fun env h k => wa env h fun ts h1 => match ts with
  | [.int i, .int j] => (-(2 ^ 62) ≤ i ∧ i < 2 ^ 62 ∧ -(2 ^ 62) ≤ j ∧ j < 2 ^ 62) ∧ k (rngL i (j - i).toNat) (fun _ => True) h1
  | _ => False
theorem i_range1 {tg a : Expr} {wa : WA} {p : Pos} (hm : X.mg "range" = none) (ha : OA X [a] wa) (hg : Gl X "range" := by rfl) (hs : starEach [a] X.env = [(false, eval a X.env)] := by rfl) : OI X tg (.Call (.Name "range" p) [a] [] pos) (wRng1 wa) :=
  PI.imp (pi_range1 hg hm ha hs) fun σ H R ⟨m, env, h, k, rp, en, w, af⟩ => ⟨m, env, h, _, rp, en, w, fun ts h1 m1 H1 vs u1 r1 ds q1 => by
    cases ds with
    | nil => exact (show False from q1).elim
    | cons d ds =>
      cases ds with
      | cons _ _ => cases d <;> exact (show False from q1).elim
      | nil =>
        cases d with
        | int j => exact ⟨j, rfl, q1.1, q1.2.1, af _ _ h1 m1 H1 _ u1 r1 trivial Itok_rng q1.2.2⟩
        | _ => exact (show False from q1).elim⟩
theorem i_range2 {tg a b : Expr} {wa : WA} {p : Pos} (hm : X.mg "range" = none) (ha : OA X [a, b] wa) (hg : Gl X "range" := by rfl) (hs : starEach [a, b] X.env = [(false, eval a X.env), (false, eval b X.env)] := by rfl) (hs2 : starEach [b] X.env = [(false, eval b X.env)] := by rfl) : OI X tg (.Call (.Name "range" p) [a, b] [] pos) (wRng2 wa) :=
  PI.imp (pi_range2 hg hm ha hs hs2) fun σ H R ⟨m, env, h, k, rp, en, w, af⟩ => ⟨m, env, h, _, rp, en, w, fun ts h1 m1 H1 vs u1 r1 ds q1 => by
    rcases ds with _ | ⟨d, _ | ⟨d', _ | ⟨_, _⟩⟩⟩
    · exact (show False from q1).elim
    · cases d <;> exact (show False from q1).elim
    · cases d with
      | int i =>
        cases d' with
        | int j => exact ⟨i, j, rfl, q1.1, af _ _ h1 m1 H1 _ u1 r1 trivial Itok_rng q1.2⟩
        | _ => exact (show False from q1).elim
      | _ => exact (show False from q1).elim
    · cases d with
      | int i => cases d' <;> exact (show False from q1).elim
      | _ => exact (show False from q1).elim⟩
noncomputable def forL (chk : PH → Prop) (g : WG) (body : WS) (D : Eds) : List T → En → PH → Prop
  | [], env, h => D.nx env h
  | x :: xs, env, h => ∃ N : En → PH → Prop, (∀ env' h', N env' h' → chk h' ∧ forL chk g body D xs env' h') ∧ g x env h fun env2 h2 => body { D with nx := N, ct := N, bk := D.nx } env2 h2
noncomputable def wFor (wi : WI) (g : WG) (body : WS) : WS := fun D env h => wi env h fun xs chk h1 => forL chk g body D xs env h1
theorem s_for {tg iter : Expr} {body : List Stmt} {wi : WI} {g : WG} {tb : WS} (hp : PassesOwn (model X.prog X.w) X.A X.env X.xe) (hc : X.calm = true) (hi : OI X tg iter wi) (hg : OG X tg g) (hb : OSs X body tb)
    (hs : ∀ x, foldedSetIterable iter X.env x = pure x := by intro _; rfl) : OS X (.For tg iter body [] pos) (wFor wi g tb) :=
  PS.imp (ps_for hp hc hi hg hb hs) fun D σ H ⟨m, env, h, D', rp, en, w, af⟩ => ⟨m, env, h, _, rp, en, w, fun xs chk h1 m1 H1 J u1 r1 c1 it q1 => by
    refine ⟨fun i mz σ2 H2 => ∃ m2 env2 h2, Up m1 H1 m2 H2 ∧ Rep X.K m2 h2 H2 ∧ EnR H2 m2 env2 σ2 ∧ chk h2 ∧ mz = xs.length - i ∧ i ≤ xs.length ∧ forL chk g tb D' (xs.drop i) env2 h2,
      ⟨xs.length, m1, env, h1, .refl, r1, en.up u1, c1, by simp, Nat.zero_le _, by rw [List.drop_zero]; exact q1⟩, ?_⟩
    rintro i mz σ2 H2 ⟨m2, env2, h2, u2, r2, en2, c2, rfl, hi2, q2⟩
    obtain ⟨g1, g2⟩ := it i h2 m2 H2 u2 r2 c2
    by_cases hlt : i < xs.length
    · rw [List.drop_eq_getElem_cons hlt] at q2
      obtain ⟨N, hN, q3⟩ := q2
      have ht : xs[i]? = some xs[i] := List.getElem?_eq_getElem hlt
      obtain ⟨go, yl⟩ := g1 xs[i] ht
      refine .inr ⟨go, fun σ3 H3 => ∃ m3 env3 h3, Up m1 H1 m3 H3 ∧ Rep X.K m3 h3 H3 ∧ EnR H3 m3 env3 σ3 ∧ N env3 h3, ?_, ?_⟩
      · rintro σ3 H3 ⟨m3, env3, h3, u3, r3, en3, n3⟩
        obtain ⟨c3, f3⟩ := hN env3 h3 n3
        exact ⟨xs.length - (i + 1), by omega, m3, env3, h3, u3, r3, en3, c3, rfl, hlt, f3⟩
      · intro v H3 y
        obtain ⟨m3, u3, r3, d3⟩ := yl v H3 y
        refine ⟨m3, env2, h2, xs[i], _, r3, en2.up u3, d3, q3, fun env4 h4 m4 H4 σ4 u4 r4 en4 q4 => ?_⟩
        have u14 : Up m1 H1 m4 H4 := u2.trans (u3.trans u4)
        refine ⟨m4, env4, h4, _, r4, en4, q4, ⟨?_, af.rt.after (u1.trans u14), ?_, ?_, af.xs.after (u1.trans u14)⟩⟩
        · exact fun env5 h5 m5 H5 σ5 u5 r5 en5 q5 => ⟨m5, env5, h5, u14.trans u5, r5, en5, q5⟩
        · exact fun env5 h5 m5 H5 σ5 u5 r5 en5 q5 => af.nx env5 h5 m5 H5 σ5 (u1.trans (u14.trans u5)) r5 en5 q5
        · exact fun env5 h5 m5 H5 σ5 u5 r5 en5 q5 => ⟨m5, env5, h5, u14.trans u5, r5, en5, q5⟩
    · have hl : xs.length ≤ i := Nat.not_lt.mp hlt
      rw [List.drop_eq_nil_of_le hl] at q2
      exact .inl ⟨g2 hl, af.nx env2 h2 m2 H2 σ2 (u1.trans u2) r2 en2 q2⟩⟩
theorem forL_inv {chk : PH → Prop} {g : WG} {body : WS} {D : Eds} (xs : List T) (Iv : Nat → En → PH → Prop) {env : En} {h : PH} (h0 : Iv 0 env h) (hc : ∀ i env h, Iv i env h → chk h)
    (hs : ∀ i x env h, xs[i]? = some x → Iv i env h → g x env h fun env2 h2 => body { D with nx := Iv (i + 1), ct := Iv (i + 1), bk := D.nx } env2 h2) (hd : ∀ env h, Iv xs.length env h → D.nx env h) : forL chk g body D xs env h := by
  have go : ∀ (ys : List T) (i : Nat), xs.drop i = ys → i ≤ xs.length → ∀ env h, Iv i env h → forL chk g body D ys env h := by
    intro ys
    induction ys with
    | nil =>
      intro i e hi env h p
      have : i = xs.length := by
        have hz := List.drop_eq_nil_iff.mp e
        omega
      subst this
      exact hd env h p
    | cons y ys ih =>
      intro i e hi env h p
      have hlt : i < xs.length := by
        rcases Nat.lt_or_ge i xs.length with z | z
        · exact z
        · rw [List.drop_eq_nil_of_le z] at e; cases e
      rw [List.drop_eq_getElem_cons hlt] at e
      have e1 : xs[i] = y := (List.cons.inj e).1
      have e2 : xs.drop (i + 1) = ys := (List.cons.inj e).2
      exact ⟨Iv (i + 1), fun env' h' q => ⟨hc (i + 1) env' h' q, ih (i + 1) e2 hlt env' h' q⟩, hs i y env h (by rw [← e1]; exact List.getElem?_eq_getElem hlt) p⟩
  exact go xs 0 rfl (Nat.zero_le _) env h h0
noncomputable def clrE : List Nat → En → En
  | [], env => env
  | j :: js, env => clrE js (env.set j none)
noncomputable def compL (chk : PH → Prop) (j : Nat) (wc : WT) (we : WE) (env : En) (k : WK) : List T → List T → PH → Prop
  | [], acc, h => acc.length ≤ sizeLine ∧ k (.ref h.length) (h ++ [.lst acc])
  | x :: xs, acc, h => acc.length < sizeLine ∧ ∃ N : List T → PH → Prop, (∀ acc' h', N acc' h' → chk h' ∧ compL chk j wc we env k xs acc' h') ∧
    wc ((env.set j none).set j (some x)) h fun b h3 => if b = true then we ((env.set j none).set j (some x)) h3 fun v h4 => N (acc ++ [v]) h4 else N acc h3
noncomputable def wComp (wi : WI) (j : Nat) (wc : WT) (we : WE) : WE := fun env h k => wi env h fun xs chk h1 => compL chk j wc we env k xs [] h1
noncomputable def wYes : WT := fun _ h k => k true h
noncomputable def OIfs (X : Cx) (ifs : List Expr) (w : WT) : Prop := PIfs X ifs (rdT X.K w)
theorem if_nil : OIfs X [] wYes := fun pins s σ H Q I ⟨m, env, h, k, rp, en, w, af⟩ => pif_nil pins s σ H Q I (af true h m H .refl rp w)
theorem if_one {c : Expr} {w : WT} (h : OT X c w) : OIfs X [c] w := pif_one h
theorem wk_one {σ : St} {j : Nat} {v : V} : Wk (L2.clr [j] σ) ((L2.clr [j] σ).set j (some v)) := by
  refine ⟨List.length_set .., fun i u e => ?_⟩
  have hj : i ∉ [j] := clr_out [j] e
  have : j ≠ i := fun z => hj (by rw [z]; exact List.mem_singleton.mpr rfl)
  rw [List.getElem?_set_ne this]; exact e
theorem rd_comp {wi : WI} {j : Nat} {wc : WT} {we : WE} : ∀ σ H Q, rdE X.K (wComp wi j wc we) σ H Q → tComp (rdI X.K wi) [j] (gName j) (rdT X.K wc) (rdE X.K we) σ H Q := fun σ H Q ⟨m, env, h, k, rp, en, w, af⟩ => ⟨m, env, h, _, rp, en, w, fun xs chk h1 m1 H1 J u1 r1 c1 it q1 => by
    refine ⟨fun i mz vs H2 => ∃ m2 h2 acc, Up m1 H1 m2 H2 ∧ Rep X.K m2 h2 H2 ∧ Dens H2 m2 acc vs ∧ chk h2 ∧ mz = xs.length - i ∧ i ≤ xs.length ∧ compL chk j wc we env k (xs.drop i) acc h2,
      ⟨xs.length, m1, h1, [], .refl, r1, .nil, c1, by simp, Nat.zero_le _, by rw [List.drop_zero]; exact q1⟩, ?_⟩
    rintro i mz vs H2 ⟨m2, h2, acc, u2, r2, ds, c2, rfl, hi2, q2⟩
    obtain ⟨g1, g2⟩ := it i h2 m2 H2 u2 r2 c2
    by_cases hlt : i < xs.length
    · rw [List.drop_eq_getElem_cons hlt] at q2
      obtain ⟨hz, N, hN, q3⟩ := q2
      have ht : xs[i]? = some xs[i] := List.getElem?_eq_getElem hlt
      obtain ⟨go, yl⟩ := g1 xs[i] ht
      refine .inr ⟨go, by rw [← ds.length]; exact hz, fun vs3 H3 => ∃ m3 h3 acc3, Up m1 H1 m3 H3 ∧ Rep X.K m3 h3 H3 ∧ Dens H3 m3 acc3 vs3 ∧ N acc3 h3, ?_, ?_⟩
      · rintro vs3 H3 ⟨m3, h3, acc3, u3, r3, ds3, n3⟩
        obtain ⟨c3, f3⟩ := hN acc3 h3 n3
        exact ⟨xs.length - (i + 1), by omega, m3, h3, acc3, u3, r3, ds3, c3, rfl, hlt, f3⟩
      · intro v H3 y
        obtain ⟨m3, u3, r3, d3⟩ := yl v H3 y
        have en3 : EnR H3 m3 ((env.set j none).set j (some xs[i])) ((L2.clr [j] σ).set j (some v)) := (((en.up u1).up (u2.trans u3)).clr j).set d3 j
        refine ⟨wk_one, m3, _, h2, _, r3, en3, q3, fun b h4 m4 H4 u4 r4 q4 => ?_⟩
        cases b with
        | false =>
          rw [if_neg Bool.false_ne_true] at q4 ⊢
          exact ⟨m4, h4, acc, u2.trans (u3.trans u4), r4, ds.up (u3.trans u4), q4⟩
        | true =>
          rw [if_pos rfl] at q4 ⊢
          refine ⟨m4, _, h4, _, r4, en3.up u4, q4, fun t h5 m5 H5 v5 u5 r5 d5 q5 => ?_⟩
          exact ⟨m5, h5, acc ++ [t], u2.trans (u3.trans (u4.trans u5)), r5, (ds.up (u3.trans (u4.trans u5))).append (.cons d5 .nil), q5⟩
    · have hl : xs.length ≤ i := Nat.not_lt.mp hlt
      rw [List.drop_eq_nil_of_le hl] at q2
      exact .inl ⟨g2 hl, by rw [← ds.length]; exact q2.1, fun p hp => (af.after (u1.trans u2)).newLst r2 ds q2.2 hp⟩⟩
theorem oe_comp {scope : Scope} {x : Str} {px : Pos} {elt iter : Expr} {ifs : List Expr} {wi : WI} {wc : WT} {we : WE} (j : Nat) (hc : X.calm = true) (c : CompOk X scope [j]) (hN : X.N.Nodup) (hi : OI X (.Name x px) iter wi)
    (hf : ∀ cl C s₀ H₀ ex pn, OIfs (inX X scope cl C s₀ H₀ ex pn) ifs wc) (he : ∀ cl C s₀ H₀ ex pn, OE (inX X scope cl C s₀ H₀ ex pn) elt we)
    (hj : X.N[j]? = some x := by rfl) (hx : (relabel scope X.env).names.lookup x = some .local := by rfl)
    (hs : ∀ x, foldedSetIterable iter X.env x = pure x := by intro _; rfl) : OE X (.ListComp elt [⟨.Name x px, iter, ifs, 0⟩] scope pos) (wComp wi j wc we) :=
  PE.imp (pe_comp (js := [j]) hc c hi (fun cl C s₀ H₀ ex pn => pg_name (X := inX X scope cl C s₀ H₀ ex pn) hN hj (.inl hx) (.inr hx)) (tc := rdT X.K wc) (te := rdE X.K we) hf he hs) rd_comp
theorem s_comp {scope : Scope} {x y : Str} {px py spos : Pos} {elt iter : Expr} {ifs : List Expr} {wi : WI} {wc : WT} {we : WE} (i j : Nat) (hN : X.N.Nodup) (hc : X.calm = true) (c : CompOk X scope [j]) (hi : OI X (.Name x px) iter wi)
    (hf : ∀ cl C s₀ H₀ ex pn, OIfs (inX X scope cl C s₀ H₀ ex pn) ifs wc) (he : ∀ cl C s₀ H₀ ex pn, OE (inX X scope cl C s₀ H₀ ex pn) elt we)
    (hiN : X.N[i]? = some y := by rfl) (hy : X.env.scope.names.lookup y = some .local := by rfl)
    (hj : X.N[j]? = some x := by rfl) (hx : (relabel scope X.env).names.lookup x = some .local := by rfl)
    (hs : ∀ x, foldedSetIterable iter X.env x = pure x := by intro _; rfl) (hsw : swapsWith (.ListComp elt [⟨.Name x px, iter, ifs, 0⟩] scope pos) (some (.Name y py)) spos.line X.env = pure true := by rfl) :
    OS X (.Assign [.Name y py] (.ListComp elt [⟨.Name x px, iter, ifs, 0⟩] scope pos) spos) (wAsg (wComp wi j wc we) (gN i)) :=
  PS.imp (ps_comp (js := [j]) hN hiN hy hc c hi (fun cl C s₀ H₀ ex pn => pg_name (X := inX X scope cl C s₀ H₀ ex pn) hN hj (.inl hx) (.inr hx)) (tc := rdT X.K wc) (te := rdE X.K we) hf he hs hsw) fun D σ H ⟨m, env, h, D', rp, en, w, af⟩ =>
    rd_comp σ H _ ⟨m, env, h, _, rp, en, w, fun t h1 m1 H1 v u1 r1 d q1 => af.nx _ h1 m1 H1 _ u1 r1 ((en.up u1).set d i) q1⟩
theorem compL_inv {chk : PH → Prop} {j : Nat} {wc : WT} {we : WE} {env : En} {k : WK} (xs : List T) (Iv : Nat → List T → PH → Prop) {h : PH} (h0 : Iv 0 [] h) (hc : ∀ i acc h, Iv i acc h → chk h) (hz : ∀ i acc h, Iv i acc h → acc.length < sizeLine)
    (hs : ∀ i x acc h, xs[i]? = some x → Iv i acc h → wc ((env.set j none).set j (some x)) h fun b h3 => if b = true then we ((env.set j none).set j (some x)) h3 fun v h4 => Iv (i + 1) (acc ++ [v]) h4 else Iv (i + 1) acc h3)
    (hd : ∀ acc h, Iv xs.length acc h → k (.ref h.length) (h ++ [.lst acc])) : compL chk j wc we env k xs [] h := by
  have go : ∀ (ys : List T) (i : Nat), xs.drop i = ys → i ≤ xs.length → ∀ acc h, Iv i acc h → compL chk j wc we env k ys acc h := by
    intro ys
    induction ys with
    | nil =>
      intro i e hi acc h p
      have : i = xs.length := by
        have hz := List.drop_eq_nil_iff.mp e
        omega
      subst this
      exact ⟨Nat.le_of_lt (hz _ _ _ p), hd acc h p⟩
    | cons y ys ih =>
      intro i e hi acc h p
      have hlt : i < xs.length := by
        rcases Nat.lt_or_ge i xs.length with z | z
        · exact z
        · rw [List.drop_eq_nil_of_le z] at e; cases e
      rw [List.drop_eq_getElem_cons hlt] at e
      have e1 : xs[i] = y := (List.cons.inj e).1
      have e2 : xs.drop (i + 1) = ys := (List.cons.inj e).2
      exact ⟨hz _ _ _ p, Iv (i + 1), fun acc' h' q => ⟨hc (i + 1) acc' h' q, ih (i + 1) e2 hlt acc' h' q⟩, hs i y acc h (by rw [← e1]; exact List.getElem?_eq_getElem hlt) p⟩
  exact go xs 0 rfl (Nat.zero_le _) [] h h0
noncomputable abbrev CP := List T → PH → WK → Prop
noncomputable def spOf (K : PySem.W.Frag) (cp : CP) : Sp := fun vs H Q _ => ∃ m h ts k, Rep K m h H ∧ Dens H m ts vs ∧ cp ts h k ∧ Aft K m H k Q
noncomputable def Callee (P : Program) (w : World) (K : PySem.W.Frag) (mg : Str → Option Value) (base : Heap) (n : Nat) (x : Str) (cp : CP) : Prop :=
  ∃ f fd ps, FnOk P w K mg base CX0 n f fd ps (spOf K cp) ∧ mg x = some (.ref f) ∧ PySem.W.keepIn K (.ref f) = true ∧ Binds K fd ps []
noncomputable def wCall (cp : CP) (w : WA) : WE := fun env h k => w env h fun ts h1 => cp ts h1 k
theorem oe_call {n : Nat} {x : Str} {cp : CP} {w : WA} {es : List Expr} {p : Pos} (G : Callee X.prog X.w X.K X.mg X.base n x cp) (hr : Room n X.A) (ha : OA X (e :: es) w) (hg : Gl X x := by rfl)
    (hdb : (x == ("__debug__" : Str)) = false := by decide) (he : starEach (e :: es) X.env = (false, eval e X.env) :: starEach es X.env := by rfl) (hpl : (backTo pos (starEach es X.env)).any (·.1) = false := by rfl) : OE X (.Call (.Name x p) (e :: es) [] pos) (wCall cp w) := by
  obtain ⟨f, fd, ps, F, hm, hk, hb⟩ := G
  refine PE.imp (pe_call (E := E0) F hr hg hm hk hb .nil pass0 ha hdb he hpl) fun σ H Q ⟨m, env, h, k, rp, en, w, af⟩ => ⟨m, env, h, _, rp, en, w, fun ts h1 m1 H1 vs u1 r1 ds q1 => ?_⟩
  show spOf X.K cp (vs ++ []) H1 Q E0
  rw [List.append_nil]
  exact ⟨m1, h1, ts, k, r1, ds, q1, af.after u1⟩
noncomputable def begin_ (n : Nat) (ts : List T) : En := ts.map some ++ List.replicate (n - ts.length) none
theorem EnR.begin {H : Hp} {m : List Addr} {N : List Str} {ts : List T} {vs : List V} (d : Dens H m ts vs) : EnR H m (begin_ N.length ts) (L2.start N vs) := by
  refine ⟨?_, fun i t e => ?_⟩
  · unfold begin_ L2.start
    rw [List.length_append, List.length_append, List.length_map, List.length_map, List.length_replicate, List.length_replicate, d.length]
  · unfold begin_ at e
    by_cases hi : i < ts.length
    · rw [List.getElem?_append_left (by simpa using hi), List.getElem?_map] at e
      cases q : ts[i]? with
      | none => rw [q] at e; cases e
      | some u =>
        rw [q] at e; cases e
        obtain ⟨v, hv, dv⟩ := d.get q
        refine ⟨v, ?_, dv⟩
        unfold L2.start
        rw [List.getElem?_append_left (by rw [List.length_map, ← d.length]; exact hi), List.getElem?_map, hv]
        rfl
    · rw [List.getElem?_append_right (by simpa using hi), List.getElem?_replicate] at e
      split at e <;> cases e
end
theorem def_ok {P : Program} {w : World} {K : PySem.W.Frag} {mg : Str → Option Value} {base : Heap} {x qual : Str} {st : Stmt} {f : Addr} {fd : FuncData} {N ps : List Str} {n : Nat} {cp : CP} (F : Fun K x qual st f fd) (S : FnScope N ps (defScope st)) (len : ∀ ts h k, cp ts h k → ts.length = ps.length)
    (hbody : ∀ (cdv : Value) (A : Around) (outer : List Env) (s : Shared) (H : Hp) (E : XK), Room n (A.deeper (envOfC qual (defScope st) s.heap.objs.size f cdv)) →
      ∃ t, OSs (cxOf CX0 P w K mg base N qual (defScope st) f cdv A outer s H E).nox (defBody st) t ∧ ∀ ts h k, cp ts h k → t { nx := fun _ h' => k .non h', rt := k } (begin_ N.length ts) h) : FnOk P w K mg base CX0 (n + 1) f fd ps (spOf K cp) := by
  refine F.ok S (fun vs H Q E ⟨m, h, ts, k, rp, ds, c, af⟩ => by rw [← ds.length]; exact len ts h k c) fun cdv A outer s H vs Q E hr hsp => ?_
  obtain ⟨m, h, ts, k, rp, ds, c, af⟩ := hsp
  obtain ⟨t, ht, hq⟩ := hbody cdv A outer s H E hr
  refine ⟨_, ht, m, begin_ N.length ts, h, _, rp, .begin ds, hq ts h k c, ⟨fun env h' m' H' σ u r en q => af .non h' m' H' .non u r .non q, af, fun _ _ _ _ _ _ _ _ q => q.elim, fun _ _ _ _ _ _ _ _ q => q.elim, .no _ _ _⟩⟩
end Pu
set_option Elab.async false
set_option linter.all false
set_option maxRecDepth 100000
namespace Pu
open PySem PySem.Spec PyProof.Rows L2 PySem.SeqAt
noncomputable def eqZ (f : T → T → Option Bool) : List T → List T → Option Bool
  | a :: as, b :: bs => match f a b, eqZ f as bs with
    | some x, some y => some (x && y)
    | _, _ => none
  | [], [] => some true
  | _, _ => some false
noncomputable def lstOf (h : PH) (n : Nat) : Option (List T) := match h[n]? with
  | some (.lst xs) => some xs
  | _ => none
noncomputable def b2n (b : Bool) : Int := if b then 1 else 0
noncomputable def eqT (h : PH) : Nat → T → T → Option Bool
  | 0, _, _ => none
  | n + 1, t, u => match t, u with
    | .non, .non => some true
    | .bl a, .bl b => some (a == b)
    | .int a, .int b => some (a == b)
    | .str a, .str b => some (a == b)
    | .bl a, .int b => some (b2n a == b)
    | .int a, .bl b => some (a == b2n b)
    | .tup a, .tup b => eqZ (eqT h n) a b
    | .ref i, .ref j => match lstOf h i, lstOf h j with
      | some a, some b => eqZ (eqT h n) a b
      | _, _ => none
    | .ref i, .tup _ => (lstOf h i).map fun _ => false
    | .tup _, .ref j => (lstOf h j).map fun _ => false
    | .ref i, _ => (lstOf h i).map fun _ => false
    | _, .ref j => (lstOf h j).map fun _ => false
    | _, _ => some false
theorem eqZ_range {f : T → T → Option Bool} : ∀ {a b : List T} {c : Bool}, eqZ f a b = some c →
    c = ((List.range (min a.length b.length)).all (fun j => match a[j]?, b[j]? with | some x, some y => (f x y).getD false | _, _ => false) && a.length == b.length)
  | [], [], c, h => by cases h; rfl
  | [], b :: bs, c, h => by cases h; simp
  | a :: as, [], c, h => by cases h; simp
  | a :: as, b :: bs, c, h => by
    unfold eqZ at h
    cases h1 : f a b with
    | none => rw [h1] at h; cases h
    | some x =>
      cases h2 : eqZ f as bs with
      | none => rw [h1, h2] at h; cases h
      | some y =>
        rw [h1, h2] at h
        have e : (x && y) = c := Option.some.inj h
        subst e
        have ih := eqZ_range h2
        have hl : min (a :: as).length (b :: bs).length = min as.length bs.length + 1 := by simp only [List.length_cons]; omega
        rw [hl, List.range_succ_eq_map, List.all_cons, List.all_map, ih]
        have e2 : ((a :: as).length == (b :: bs).length) = (as.length == bs.length) := by simp
        rw [e2]
        simp only [List.getElem?_cons_zero, h1, Option.getD_some, Function.comp_def, List.getElem?_cons_succ, Bool.and_assoc]
theorem eqZ_def {f : T → T → Option Bool} : ∀ {a b : List T} {c : Bool}, eqZ f a b = some c → ∀ (j : Nat) x y, a[j]? = some x → b[j]? = some y → ∃ d, f x y = some d
  | [], _, _, _, j, x, y, h1, _ => by simp at h1
  | _ :: _, [], _, _, j, x, y, _, h2 => by simp at h2
  | a :: as, b :: bs, c, h, j, x, y, h1, h2 => by
    unfold eqZ at h
    cases e1 : f a b with
    | none => rw [e1] at h; cases h
    | some d =>
      cases e2 : eqZ f as bs with
      | none => rw [e1, e2] at h; cases h
      | some d' =>
        cases j with
        | zero => simp at h1 h2; subst h1 h2; exact ⟨d, e1⟩
        | succ j => exact eqZ_def e2 j x y (by simpa using h1) (by simpa using h2)
theorem lstOf_some {h : PH} {n : Nat} {xs : List T} (e : lstOf h n = some xs) : h[n]? = some (.lst xs) := by
  unfold lstOf at e
  split at e
  · rename_i ys hy; cases e; exact hy
  · cases e
section
variable {X : Cx} {pins : List (Addr × Obj)} {σ : St} {H : Hp} {s : Shared} {m : List Addr} {h : PH}
theorem eq_same (r : Rep X.K m h H) : ∀ (n : Nat) {t u : T} {v : V} {b : Bool}, Den H m t v → Den H m u v → eqT h n t u = some b → b = true := by
  intro n
  induction n with
  | zero => intro t u v b _ _ e; cases e
  | succ n ih =>
    have ihs : ∀ {ts us : List T} {vs : List V} {b : Bool}, Dens H m ts vs → Dens H m us vs → eqZ (eqT h n) ts us = some b → b = true := by
      intro ts
      induction ts with
      | nil => intro us vs b d1 d2 e; cases d1; cases d2; cases e; rfl
      | cons t ts iht =>
        intro us vs b d1 d2 e
        cases d1 with
        | cons d1 r1 =>
          cases d2 with
          | cons d2 r2 =>
            unfold eqZ at e
            rename_i u us
            cases e1 : eqT h n t u with
            | none => rw [e1] at e; cases e
            | some x =>
              cases e2 : eqZ (eqT h n) ts us with
              | none => rw [e1, e2] at e; cases e
              | some y =>
                rw [e1, e2] at e
                cases e
                rw [ih d1 d2 e1, iht r1 r2 e2]
                rfl
    intro t u v b d1 d2 e
    cases d1 with
    | non => cases d2; cases e; rfl
    | bl a => cases d2; simp [eqT] at e; exact e
    | int a => cases d2; simp [eqT] at e; exact e
    | str a => cases d2; simp [eqT] at e; exact e
    | @tup a ts vs hv ds =>
      cases d2 with
      | @tup _ us vs' hv' ds' =>
        rw [hv] at hv'; cases hv'
        exact ihs ds ds' e
      | @ref k _ hk =>
        have e : (lstOf h k).map (fun _ => false) = some b := e
        cases q : lstOf h k with
        | none => rw [q] at e; cases e
        | some xs =>
          obtain ⟨vs', hl, _⟩ := r.lst (lstOf_some q) hk
          rw [hv] at hl; cases hl
    | @ref i a hi =>
      cases d2 with
      | @tup _ us vs' hv' ds' =>
        have e : (lstOf h i).map (fun _ => false) = some b := e
        cases q : lstOf h i with
        | none => rw [q] at e; cases e
        | some xs =>
          obtain ⟨vs', hl, _⟩ := r.lst (lstOf_some q) hi
          rw [hv'] at hl; cases hl
      | @ref j _ hj =>
        have e : (match lstOf h i, lstOf h j with | some a, some b => eqZ (eqT h n) a b | _, _ => none) = some b := e
        cases q : lstOf h i with
        | none => rw [q] at e; cases e
        | some xs =>
          cases q' : lstOf h j with
          | none => rw [q, q'] at e; cases e
          | some ys =>
            rw [q, q'] at e
            have hij := r.inj i j a _ _ (lstOf_some q) (lstOf_some q') rfl rfl hi hj
            subst hij
            rw [q] at q'; cases q'
            obtain ⟨vs, _, ds⟩ := r.lst (lstOf_some q) hi
            exact ihs ds ds e
theorem den_list (I : Inv X pins σ H s) (r : Rep X.K m h H) {i : Nat} {xs : List T} {a : Addr} (q : lstOf h i = some xs) (hi : m[i]? = some a) : ∃ (vs : List V) (its : List Value), Dens H m xs vs ∧ Vals vs its ∧ s.heap.IsList a its.toArray := by
  obtain ⟨vs, hv, ds⟩ := r.lst (lstOf_some q) hi
  obtain ⟨its, rv, pl, _⟩ := I.list (SqL.of hv)
  exact ⟨vs, its, ds, rv, pl.isList⟩
theorem den_tup (I : Inv X pins σ H s) {ts : List T} {a : Addr} {vs : List V} (hv : H a = some (.tup vs)) : ∃ (its : List Value), Vals vs its ∧ s.heap.IsTuple a its.toArray := by
  obtain ⟨its, rv, pl, _⟩ := I.tuple (SqT.of hv)
  exact ⟨its, rv, pl⟩
theorem items_at {A : Around} {f : T → T → Option Bool} {ts us : List T} {vs ws : List V} {is js : List Value} {c : Bool} (d1 : Dens H m ts vs) (d2 : Dens H m us ws) (r1 : Vals vs is) (r2 : Vals ws js) (e : eqZ f ts us = some c)
    (ih : ∀ t u v w x y b, Den H m t v → Den H m u w → RelV v x → RelV w y → f t u = some b → EqAt A s x y b) :
    ∀ j (h1 : j < is.toArray.size) (h2 : j < js.toArray.size), EqAt A s is.toArray[j] js.toArray[j] (match ts[j]?, us[j]? with | some x, some y => (f x y).getD false | _, _ => false) := by
  intro j h1 h2
  rw [List.size_toArray] at h1 h2
  have l1 : ts.length = is.length := d1.length.trans r1.length
  have l2 : us.length = js.length := d2.length.trans r2.length
  have e1 : ts[j]? = some (ts[j]'(by omega)) := List.getElem?_eq_getElem (by omega)
  have e2 : us[j]? = some (us[j]'(by omega)) := List.getElem?_eq_getElem (by omega)
  obtain ⟨b, hb⟩ := eqZ_def e j _ _ e1 e2
  obtain ⟨v, hv, dv⟩ := d1.get e1
  obtain ⟨w, hw, dw⟩ := d2.get e2
  obtain ⟨x, hx, rx⟩ := r1.get hv
  obtain ⟨y, hy, ry⟩ := r2.get hw
  rw [e1, e2]
  simp only [hb, Option.getD_some]
  have q1 : is.toArray[j]'(by rw [List.size_toArray]; exact h1) = x := by
    have := List.getElem?_eq_getElem h1
    rw [hx] at this
    simpa using (Option.some.inj this).symm
  have q2 : js.toArray[j]'(by rw [List.size_toArray]; exact h2) = y := by
    have := List.getElem?_eq_getElem h2
    rw [hy] at this
    simpa using (Option.some.inj this).symm
  rw [q1, q2]
  exact ih _ _ v w x y b dv dw rx ry hb
theorem eq_at (I : Inv X pins σ H s) (r : Rep X.K m h H) : ∀ (n : Nat) {A : Around} {t u : T} {v w : V} {x y : Value} {b : Bool}, A.units + n < cLine → Den H m t v → Den H m u w → RelV v x → RelV w y → eqT h n t u = some b → EqAt A s x y b ∧ RcAt A s x y b ∧ RcNeAt A s x y (!b) := by
  intro n
  induction n with
  | zero => intro A t u v w x y b _ _ _ _ _ e; cases e
  | succ n ih =>
    intro A t u v w x y b hu d1 d2 rx ry e
    have hu0 : A.units < cLine := by omega
    have hu1 : A.in1.units + n < cLine := by show A.units + 1 + n < cLine; omega
    have ih' : ∀ t u v w x y b, Den H m t v → Den H m u w → RelV v x → RelV w y → eqT h n t u = some b → EqAt A.in1 s x y b := fun t u v w x y b a1 a2 a3 a4 a5 => (ih hu1 a1 a2 a3 a4 a5).1
    have tups : ∀ {a a' : Addr} {ts us : List T} {vs ws : List V} {c : Bool}, H a = some (.tup vs) → H a' = some (.tup ws) → Dens H m ts vs → Dens H m us ws → eqZ (eqT h n) ts us = some c → RcAt A s (.ref a) (.ref a') c ∧ RcNeAt A s (.ref a) (.ref a') (!c) := fun {a a' ts us vs ws c} ha ha' ds ds' e => by
      obtain ⟨its, r1, p1⟩ := den_tup I (ts := ts) ha
      obtain ⟨its2, r2, p2⟩ := den_tup I (ts := us) ha'
      have it := items_at ds ds' r1 r2 e ih'
      have hc := eqZ_range e
      have l1 : its.toArray.size = ts.length := by rw [List.size_toArray]; exact (ds.length.trans r1.length).symm
      have l2 : its2.toArray.size = us.length := by rw [List.size_toArray]; exact (ds'.length.trans r2.length).symm
      have g1 := RcAt.tuples p1 p2 hu0 it
      have g2 := RcNeAt.tuples p1 p2 hu0 it
      rw [l1, l2, ← hc] at g1 g2
      exact ⟨g1, g2⟩
    have lsts : ∀ {i j : Nat} {a a' : Addr} {ts us : List T} {c : Bool}, m[i]? = some a → m[j]? = some a' → lstOf h i = some ts → lstOf h j = some us → eqZ (eqT h n) ts us = some c → RcAt A s (.ref a) (.ref a') c ∧ RcNeAt A s (.ref a) (.ref a') (!c) := fun {i j a a' ts us c} hi hj q1 q2 e => by
      obtain ⟨vs, its, ds, r1, p1⟩ := den_list I r q1 hi
      obtain ⟨ws, its2, ds', r2, p2⟩ := den_list I r q2 hj
      have it := items_at ds ds' r1 r2 e ih'
      have hc := eqZ_range e
      have l1 : its.toArray.size = ts.length := by rw [List.size_toArray]; exact (ds.length.trans r1.length).symm
      have l2 : its2.toArray.size = us.length := by rw [List.size_toArray]; exact (ds'.length.trans r2.length).symm
      by_cases hl : ts.length = us.length
      · have hsz : its.toArray.size = its2.toArray.size := by rw [l1, l2, hl]
        have g1 := RcAt.lists p1 p2 hsz hu0 it
        have g2 := RcNeAt.lists p1 p2 hsz hu0 it
        rw [hl, Nat.min_self, beq_self_eq_true, Bool.and_true] at hc
        rw [l1, hl, ← hc] at g1 g2
        exact ⟨g1, g2⟩
      · have hf : (ts.length == us.length) = false := by simpa using hl
        rw [hf, Bool.and_false] at hc
        subst hc
        have hne : (its.toArray.size != its2.toArray.size) = true := by rw [l1, l2]; simpa using hl
        exact ⟨RcAt.lists_lengths p1 p2 hne hu0, RcNeAt.lists_lengths p1 p2 hne hu0⟩
    have refs : ∀ {a a' : Addr} {c : Bool}, (a = a' → c = true) → RcAt A s (.ref a) (.ref a') c → EqAt A s (.ref a) (.ref a') c := fun {a a' c} hs q => by
      by_cases ha : a = a'
      · rw [hs ha, ha]; exact .same _
      · exact .of_refs ha q
    have mapF : ∀ {i : Nat} {b : Bool}, (lstOf h i).map (fun _ => false) = some b → ∃ xs, lstOf h i = some xs ∧ b = false := fun {i b} e => by
      cases q : lstOf h i with
      | none => rw [q] at e; cases e
      | some xs => rw [q] at e; exact ⟨xs, rfl, (Option.some.inj e).symm⟩
    cases d1 with
    | non =>
      cases rx
      cases d2 with
      | non => cases ry; cases e; exact ⟨.same _, .none_none, .none_none⟩
      | bl c => cases ry; cases e; exact ⟨.none_bool c, .none_bool c, .none_bool c⟩
      | int c => obtain ⟨t, rfl⟩ := ry; cases e; exact ⟨.none_int c t, .none_int c t, .none_int c t⟩
      | str c => obtain ⟨t, rfl⟩ := ry; cases e; exact ⟨.none_str c t, .none_str c t, .none_str c t⟩
      | tup hv ds => cases ry; cases e; obtain ⟨_, _, p⟩ := den_tup I (ts := []) hv; exact ⟨.none_tuple p hu0, .none_tuple p hu0, .none_tuple p hu0⟩
      | ref hj => cases ry; obtain ⟨xs, q, rfl⟩ := mapF e; obtain ⟨_, _, _, _, p⟩ := den_list I r q hj; exact ⟨.none_list p hu0, .none_list p hu0, .none_list p hu0⟩
    | bl d =>
      cases rx
      cases d2 with
      | non => cases ry; cases e; exact ⟨.bool_none d, .bool_none d, .bool_none d⟩
      | bl c => cases ry; cases e; exact ⟨.bool_bool d c, .bool_bool d c, .bool_bool d c⟩
      | int c => obtain ⟨t, rfl⟩ := ry; cases e; exact ⟨.bool_int d c t, .bool_int d c t, .bool_int d c t⟩
      | str c => obtain ⟨t, rfl⟩ := ry; cases e; exact ⟨.bool_str d c t, .bool_str d c t, .bool_str d c t⟩
      | tup hv ds => cases ry; cases e; obtain ⟨_, _, p⟩ := den_tup I (ts := []) hv; exact ⟨.bool_tuple d p hu0, .bool_tuple d p hu0, .bool_tuple d p hu0⟩
      | ref hj => cases ry; obtain ⟨xs, q, rfl⟩ := mapF e; obtain ⟨_, _, _, _, p⟩ := den_list I r q hj; exact ⟨.bool_list d p hu0, .bool_list d p hu0, .bool_list d p hu0⟩
    | int d =>
      obtain ⟨td, rfl⟩ := rx
      cases d2 with
      | non => cases ry; cases e; exact ⟨.int_none d td, .int_none d td, .int_none d td⟩
      | bl c => cases ry; cases e; exact ⟨.int_bool d td c, .int_bool d td c, .int_bool d td c⟩
      | int c => obtain ⟨t, rfl⟩ := ry; cases e; exact ⟨.int_int d td c t, .int_int d td c t, .int_int d td c t⟩
      | str c => obtain ⟨t, rfl⟩ := ry; cases e; exact ⟨.int_str d td c t, .int_str d td c t, .int_str d td c t⟩
      | tup hv ds => cases ry; cases e; obtain ⟨_, _, p⟩ := den_tup I (ts := []) hv; exact ⟨.int_tuple d td p hu0, .int_tuple d td p hu0, .int_tuple d td p hu0⟩
      | ref hj => cases ry; obtain ⟨xs, q, rfl⟩ := mapF e; obtain ⟨_, _, _, _, p⟩ := den_list I r q hj; exact ⟨.int_list d td p hu0, .int_list d td p hu0, .int_list d td p hu0⟩
    | str d =>
      obtain ⟨td, rfl⟩ := rx
      cases d2 with
      | non => cases ry; cases e; exact ⟨.str_none d td, .str_none d td, .str_none d td⟩
      | bl c => cases ry; cases e; exact ⟨.str_bool d td c, .str_bool d td c, .str_bool d td c⟩
      | int c => obtain ⟨t, rfl⟩ := ry; cases e; exact ⟨.str_int d td c t, .str_int d td c t, .str_int d td c t⟩
      | str c => obtain ⟨t, rfl⟩ := ry; cases e; exact ⟨.str_str d td c t, .str_str d td c t, .str_str d td c t⟩
      | tup hv ds => cases ry; cases e; obtain ⟨_, _, p⟩ := den_tup I (ts := []) hv; exact ⟨.str_tuple d td p hu0, .str_tuple d td p hu0, .str_tuple d td p hu0⟩
      | ref hj => cases ry; obtain ⟨xs, q, rfl⟩ := mapF e; obtain ⟨_, _, _, _, p⟩ := den_list I r q hj; exact ⟨.str_list d td p hu0, .str_list d td p hu0, .str_list d td p hu0⟩
    | @tup a ts vs hv ds =>
      cases rx
      obtain ⟨_, _, p⟩ := den_tup I (ts := []) hv
      cases d2 with
      | non => cases ry; cases e; exact ⟨.tuple_none p hu0, .tuple_none p hu0, .tuple_none p hu0⟩
      | bl c => cases ry; cases e; exact ⟨.tuple_bool c p hu0, .tuple_bool c p hu0, .tuple_bool c p hu0⟩
      | int c => obtain ⟨t, rfl⟩ := ry; cases e; exact ⟨.tuple_int c t p hu0, .tuple_int c t p hu0, .tuple_int c t p hu0⟩
      | str c => obtain ⟨t, rfl⟩ := ry; cases e; exact ⟨.tuple_str c t p hu0, .tuple_str c t p hu0, .tuple_str c t p hu0⟩
      | @tup a' us ws hv' ds' =>
        cases ry
        obtain ⟨g1, g2⟩ := tups hv hv' ds ds' e
        exact ⟨refs (fun ea => by subst ea; exact eq_same r (n + 1) (.tup hv ds) (.tup hv' ds') e) g1, g1, g2⟩
      | @ref j a' hj =>
        cases ry
        obtain ⟨xs, q, rfl⟩ := mapF e
        obtain ⟨_, _, _, _, p'⟩ := den_list I r q hj
        exact ⟨.tuple_list p p' hu0, .tuple_list p p' hu0, .tuple_list p p' hu0⟩
    | @ref i a hi =>
      cases rx
      cases d2 with
      | non => cases ry; obtain ⟨xs, q, rfl⟩ := mapF e; obtain ⟨_, _, _, _, p⟩ := den_list I r q hi; exact ⟨.list_none p hu0, .list_none p hu0, .list_none p hu0⟩
      | bl c => cases ry; obtain ⟨xs, q, rfl⟩ := mapF e; obtain ⟨_, _, _, _, p⟩ := den_list I r q hi; exact ⟨.list_bool c p hu0, .list_bool c p hu0, .list_bool c p hu0⟩
      | int c => obtain ⟨t, rfl⟩ := ry; obtain ⟨xs, q, rfl⟩ := mapF e; obtain ⟨_, _, _, _, p⟩ := den_list I r q hi; exact ⟨.list_int c t p hu0, .list_int c t p hu0, .list_int c t p hu0⟩
      | str c => obtain ⟨t, rfl⟩ := ry; obtain ⟨xs, q, rfl⟩ := mapF e; obtain ⟨_, _, _, _, p⟩ := den_list I r q hi; exact ⟨.list_str c t p hu0, .list_str c t p hu0, .list_str c t p hu0⟩
      | @tup a' us ws hv' ds' =>
        cases ry
        obtain ⟨xs, q, rfl⟩ := mapF e
        obtain ⟨_, _, _, _, p⟩ := den_list I r q hi
        obtain ⟨_, _, p'⟩ := den_tup I (ts := []) hv'
        exact ⟨.list_tuple p p' hu0, .list_tuple p p' hu0, .list_tuple p p' hu0⟩
      | @ref j a' hj =>
        cases ry
        have e0 := e
        have e : (match lstOf h i, lstOf h j with | some a, some b => eqZ (eqT h n) a b | _, _ => none) = some b := e
        cases q : lstOf h i with
        | none => rw [q] at e; cases e
        | some xs =>
          cases q' : lstOf h j with
          | none => rw [q, q'] at e; cases e
          | some ys =>
            rw [q, q'] at e
            obtain ⟨g1, g2⟩ := lsts hi hj q q' e
            exact ⟨refs (fun ea => by subst ea; exact eq_same r (n + 1) (.ref hi) (.ref hj) e0) g1, g1, g2⟩
end
noncomputable def rEqD (K : PySem.W.Frag) (neg : Bool) : R2 := fun x y H Q => ∃ m h t u b, Rep K m h H ∧ Den H m t x ∧ Den H m u y ∧ eqT h 40 t u = some b ∧ Q (.bl (neg != b)) H
theorem op_eqD {X : Cx} (hu : X.A.units + 40 < cLine) : OpR X (compareOp .Eq) (rEqD X.K false) := by
  intro pins s σ H x y v u Q I rx ry h
  obtain ⟨m, h, t, t', b, r, d1, d2, e, q⟩ := h
  have g := (eq_at I r 40 hu d1 d2 rx ry e).2.1
  refine PySem.W.cmp_ofEq (g X.prog X.w X.xe _ ⟨.bl b, H, I, rfl, ?_⟩)
  cases b <;> exact q
theorem op_neD {X : Cx} (hu : X.A.units + 40 < cLine) : OpR X (compareOp .NotEq) (rEqD X.K true) := by
  intro pins s σ H x y v u Q I rx ry h
  obtain ⟨m, h, t, t', b, r, d1, d2, e, q⟩ := h
  have g := (eq_at I r 40 hu d1 d2 rx ry e).2.2
  refine PySem.W.cmp_ofNotEq (g X.prog X.w X.xe _ ⟨.bl (!b), H, I, rfl, ?_⟩)
  cases b <;> exact q
noncomputable def pEq : P2 := fun x y h k => match eqT h 40 x y with
  | some b => k (.bl b) h
  | none => False
noncomputable def pNe : P2 := fun x y h k => match eqT h 40 x y with
  | some b => k (.bl (!b)) h
  | none => False
theorem i_eq {K : PySem.W.Frag} : R2I K (rEqD K false) pEq := fun m h H x y vx vy k Q r d1 d2 w af => by
  unfold pEq at w
  cases e : eqT h 40 x y with
  | none => rw [e] at w; exact w.elim
  | some b =>
    rw [e] at w
    exact ⟨m, h, x, y, b, r, d1, d2, e, af _ h m H _ .refl r (by cases b <;> exact .bl _) w⟩
theorem i_ne {K : PySem.W.Frag} : R2I K (rEqD K true) pNe := fun m h H x y vx vy k Q r d1 d2 w af => by
  unfold pNe at w
  cases e : eqT h 40 x y with
  | none => rw [e] at w; exact w.elim
  | some b =>
    rw [e] at w
    exact ⟨m, h, x, y, b, r, d1, d2, e, af _ h m H _ .refl r (by cases b <;> exact .bl _) w⟩
end Pu
set_option Elab.async false
set_option linter.all false
set_option maxRecDepth 100000
namespace Pu
open PySem PySem.Spec PyProof.Rows L2 PySem.SeqAt
noncomputable def pI (g : Int → Int → Int) : P2 := fun x y h k => match x, y with
  | .int a, .int b => k (.int (g a b)) h
  | _, _ => False
noncomputable def pIc (C : Int → Int → Prop) (g : Int → Int → Int) : P2 := fun x y h k => match x, y with
  | .int a, .int b => C a b ∧ k (.int (g a b)) h
  | _, _ => False
noncomputable def pIb (g : Int → Int → Bool) : P2 := fun x y h k => match x, y with
  | .int a, .int b => k (.bl (g a b)) h
  | _, _ => False
section
variable {K : PySem.W.Frag} {X : Cx}
theorem i_I {g : Int → Int → Int} : R2I K (rI0 fun i j => .int (g i j)) (pI g) := fun m h H x y vx vy k Q r d1 d2 w af => by
  cases d1 <;> cases d2 <;> first | exact (show False from w).elim | exact ⟨_, _, rfl, rfl, af _ h m H _ .refl r (.int _) w⟩
theorem i_Ic {C : Int → Int → Prop} {g : Int → Int → Int} : R2I K (rI C fun i j => .int (g i j)) (pIc C g) := fun m h H x y vx vy k Q r d1 d2 w af => by
  cases d1 <;> cases d2 <;> first | exact (show False from w).elim | exact ⟨_, _, rfl, rfl, w.1, af _ h m H _ .refl r (.int _) w.2⟩
theorem i_Ib {g : Int → Int → Bool} : R2I K (rI0 fun i j => .bl (g i j)) (pIb g) := fun m h H x y vx vy k Q r d1 d2 w af => by
  cases d1 <;> cases d2 <;> first | exact (show False from w).elim | exact ⟨_, _, rfl, rfl, af _ h m H _ .refl r (.bl _) w⟩
noncomputable def pSub : P2 := pI fun a b => a - b
noncomputable def pFdiv : P2 := pIc CDiv fun a b => a / b
noncomputable def pMod : P2 := pIc (fun _ b => 0 < b) fun a b => a % b
noncomputable def pPow : P2 := pIc CPow fun a b => a ^ b.toNat
noncomputable def pShl : P2 := pIc CPow fun a b => a * 2 ^ b.toNat
noncomputable def pShr : P2 := pIc (fun _ b => 0 ≤ b) fun a b => a / 2 ^ b.toNat
noncomputable def pAnd : P2 := pI fun a b => Builtin.bitAnd a b
noncomputable def pOr : P2 := pI fun a b => Builtin.bitOr a b
noncomputable def pXor : P2 := pI fun a b => Builtin.bitXor a b
noncomputable def pLt : P2 := pIb fun a b => decide (a < b)
noncomputable def pLe : P2 := pIb fun a b => decide (a ≤ b)
noncomputable def pGt : P2 := pIb fun a b => decide (a > b)
noncomputable def pGe : P2 := pIb fun a b => decide (a ≥ b)
noncomputable def rCatA (K : PySem.W.Frag) : R2 := fun x y H Q => ∃ a b xs ys, x = .ref a ∧ y = .ref b ∧ SqT K H a xs ∧ SqT K H b ys ∧ xs.length + ys.length ≤ sizeLine ∧
  (xs = [] → Q (.ref b) H) ∧ (xs ≠ [] → ys = [] → Q (.ref a) H) ∧ (xs ≠ [] → ys ≠ [] → ∀ p, H p = none → Q (.ref p) (upd H p (.tup (xs ++ ys))))
theorem cat_tup0 {prog : Program} {w : World} {A : Around} {E : Value → Shared → Prop} {s : Shared} {t b : Addr} {ws : List Value} {Q : Value → Shared → Prop} (ht : IsTup s.heap t ([] : List Value).toArray) (hb : IsTup s.heap b ws.toArray) (h1 : Q (.ref b) s) : wpAny (model prog w) A (binaryOp .Add (.ref t) (.ref b)) Q E s := by
  obtain ⟨⟨cls, dd, data, sl⟩, ho, hc, n, hd⟩ := id ht
  obtain ⟨⟨cls2, dd2, data2, sl2⟩, ho2, hc2, n2, hd2⟩ := id hb
  simp only at hc hd hc2 hd2
  subst hc hd hc2 hd2
  exact concat_meets ⟨_, ho, rfl⟩ ⟨_, ho2, rfl⟩ noFill_tuple_add seq_tuple_add PySem.F.slot_tuple_add PySem.F.entry_tuple_add (PySem.F.args_tuple_add_2 _ _)
    (tuple_addW0 t b _ ws.toArray n n2 dd dd2 sl sl2 (by simp)) ⟨ho, ho2, h1⟩
theorem op_catA : OpR X (binaryOp .Add) (rCatA X.K) := by
  intro pins s σ H x y v u Q I rx ry h
  obtain ⟨a, b, xs, ys, rfl, rfl, ha, hb, hz, q0, q1, q2⟩ := h
  by_cases hx : xs = []
  · subst hx
    cases rx
    cases ry
    obtain ⟨its, r1, p1, _⟩ := I.tuple ha
    obtain ⟨its2, r2, p2, _⟩ := I.tuple hb
    cases r1
    exact cat_tup0 p1 p2 ⟨.ref b, H, I, rfl, q0 rfl⟩
  · exact op_catT pins s σ H _ _ v u Q I rx ry ⟨a, b, xs, ys, rfl, rfl, ha, hb, hx, hz, q1 hx, q2 hx⟩
noncomputable def rAddA (K : PySem.W.Frag) : R2 := fun x y H Q => rI0 (fun i j => .int (i + j)) x y H Q ∨ (rCat x y H Q ∨ rCatA K x y H Q)
theorem op_addA : OpR X (binaryOp .Add) (rAddA X.K) := op_add.or (op_cat.or op_catA)
noncomputable def pAdd : P2 := fun x y h k => match x, y with
  | .int a, .int b => k (.int (a + b)) h
  | .tup a, .tup b => a.length + b.length ≤ sizeLine ∧ k (.tup (a ++ b)) h
  | .ref i, .ref j => match lstOf h i, lstOf h j with
    | some a, some b => a.length + b.length ≤ sizeLine ∧ k (.ref h.length) (h ++ [.lst (a ++ b)])
    | _, _ => False
  | _, _ => False
theorem i_add : R2I K (rAddA K) pAdd := fun m h H x y vx vy k Q r d1 d2 w af => by
  cases d1 with
  | int a =>
    cases d2 with
    | int b => exact .inl ⟨a, b, rfl, rfl, af _ h m H _ .refl r (.int _) w⟩
    | _ => exact (show False from w).elim
  | @tup a ts vs hv ds =>
    cases d2 with
    | @tup b us ws hw es =>
      have w : ts.length + us.length ≤ sizeLine ∧ k (.tup (ts ++ us)) h := w
      refine .inr (.inr ⟨a, b, vs, ws, rfl, rfl, .of hv, .of hw, by rw [← ds.length, ← es.length]; exact w.1, fun e => ?_, fun _ e => ?_, fun _ _ p hp => ?_⟩)
      · have e' := ds.nil_iff.mpr e
        subst e'
        exact af _ h m H _ .refl r (.tup hw es) w.2
      · have e' := es.nil_iff.mpr e
        subst e'
        have w2 := w.2
        rw [List.append_nil] at w2
        exact af _ h m H _ .refl r (.tup hv ds) w2
      · exact af.newTup r (ds.append es) w.2 hp
    | _ => exact (show False from w).elim
  | @ref i a hi =>
    cases d2 with
    | @ref j b hj =>
      have w : (match lstOf h i, lstOf h j with | some a, some b => a.length + b.length ≤ sizeLine ∧ k (.ref h.length) (h ++ [.lst (a ++ b)]) | _, _ => False) := w
      cases q : lstOf h i with
      | none => rw [q] at w; exact w.elim
      | some xs =>
        cases q' : lstOf h j with
        | none => rw [q, q'] at w; exact w.elim
        | some ys =>
          rw [q, q'] at w
          obtain ⟨vs, hv, ds⟩ := r.lst (lstOf_some q) hi
          obtain ⟨ws, hw, es⟩ := r.lst (lstOf_some q') hj
          exact .inr (.inl ⟨a, b, vs, ws, rfl, rfl, hv, hw, by rw [← ds.length, ← es.length]; exact w.1, fun p hp => af.newLst r (ds.append es) w.2 hp⟩)
    | _ => exact (show False from w).elim
  | _ => exact (show False from w).elim
theorem Dens.atI {H : Hp} {m : List Addr} {ts : List T} {vs : List V} {i : Int} {t : T} (d : Dens H m ts vs) (e : L2.atI ts i = some t) : ∃ v, L2.atI vs i = some v ∧ Den H m t v := by
  unfold L2.atI at e ⊢
  rw [← d.length]
  cases q : ixN ts.length i with
  | none => rw [q] at e; cases e
  | some j =>
    rw [q] at e
    exact d.get e
noncomputable def pIx : P2 := fun x y h k => match y with
  | .int i => match seqOf x h with
    | some ts => match atI ts i with
      | some t => k t h
      | none => False
    | none => False
  | _ => False
noncomputable def rIxA (K : PySem.W.Frag) : R2 := fun x y H Q => rIxL K x y H Q ∨ rIxT K x y H Q
theorem ix_A : IxR X (rIxA X.K) := ix_list.or ix_tup
theorem i_ix : R2I K (rIxA K) pIx := fun m h H x y vx vy k Q r d1 d2 w af => by
  cases d2 with
  | int i =>
    have wz : (match seqOf x h with | some ts => (match atI ts i with | some t => k t h | none => False) | none => False) := w
    cases e : seqOf x h with
    | none => rw [e] at wz; exact wz.elim
    | some ts =>
      rw [e] at wz
      dsimp only at wz
      cases e2 : atI ts i with
      | none => rw [e2] at wz; exact wz.elim
      | some t =>
        rw [e2] at wz
        cases d1 with
        | @tup a us vs hv ds =>
          cases e
          obtain ⟨v, hv2, dv⟩ := ds.atI e2
          exact .inr ⟨a, vs, i, v, rfl, rfl, .of hv, hv2, af t h m H v .refl r dv wz⟩
        | @ref n a hn =>
          obtain ⟨vs, hq, ds⟩ := r.sqL (seqOf_ref e) hn
          obtain ⟨v, hv2, dv⟩ := ds.atI e2
          exact .inl ⟨a, vs, i, v, rfl, rfl, hq, hv2, af t h m H v .refl r dv wz⟩
        | _ => cases e
  | _ => exact (show False from w).elim
noncomputable def pSet (o i t : T) (h : PH) (k : PH → Prop) : Prop := match o, i with
  | .ref n, .int z => match lstOf h n with
    | some xs => match ixN xs.length z with
      | some j => k (h.set n (.lst (xs.set j t)))
      | none => False
    | none => False
  | _, _ => False
theorem i_set : RSI K rSetL pSet := fun m h H o i t vo vi v k Q r d1 d2 d3 w af => by
  cases d1 with
  | @ref n a hn =>
    cases d2 with
    | int z =>
      have w : (match lstOf h n with | some xs => (match ixN xs.length z with | some j => k (h.set n (.lst (xs.set j t))) | none => False) | none => False) := w
      cases e : lstOf h n with
      | none => rw [e] at w; exact w.elim
      | some xs =>
        rw [e] at w
        dsimp only at w
        cases e2 : ixN xs.length z with
        | none => rw [e2] at w; exact w.elim
        | some j =>
          rw [e2] at w
          obtain ⟨vs, hv, ds⟩ := r.lst (lstOf_some e) hn
          have hu : Up m H m (upd H a (.lst (vs.set j v))) := Up.write hv fun _ z => nomatch z
          exact ⟨a, vs, z, j, rfl, rfl, hv, by rw [← ds.length]; exact e2, af _ m _ hu (r.write (o' := .lst (xs.set j t)) (lstOf_some e) rfl rfl hn ⟨_, upd_same, (ds.set d3 j).up hu⟩) w⟩
    | _ => exact (show False from w).elim
  | _ => exact (show False from w).elim
noncomputable def pLen : List T → PH → WK → Prop := fun ts h k => match ts with
  | [x] => match seqOf x h with
    | some xs => k (.int xs.length) h
    | none => False
  | _ => False
theorem dens1 {H : Hp} {m : List Addr} {t : T} {vs : List V} (d : Dens H m [t] vs) : ∃ v, vs = [v] ∧ Den H m t v := by
  cases d with
  | cons d r => cases r; exact ⟨_, rfl, d⟩
theorem seqOf_den {m : List Addr} {h : PH} {H : Hp} {x : T} {v : V} {xs : List T} (r : Rep K m h H) (d : Den H m x v) (e : seqOf x h = some xs) : ∃ a vs, v = .ref a ∧ (SqL K H a vs ∨ SqT K H a vs) ∧ Dens H m xs vs := by
  cases d with
  | @tup a us vs hv ds => cases e; exact ⟨a, vs, rfl, .inr (.of hv), ds⟩
  | @ref n a hn =>
    obtain ⟨vs, hq, ds⟩ := r.sqL (seqOf_ref e) hn
    exact ⟨a, vs, rfl, .inl hq, ds⟩
  | _ => cases e
theorem i_len : RLI K (fun xs H Q => ∃ p ys, xs = [.ref p] ∧ (SqL K H p ys ∨ SqT K H p ys) ∧ Q (.int ys.length) H) pLen := fun m h H ts vs k Q r d w af => by
  match ts, d, w with
  | [x], d, w =>
    obtain ⟨v, hvs, dd⟩ := dens1 d
    subst hvs
    have w : (match seqOf x h with | some xs => k (.int xs.length) h | none => False) := w
    cases e : seqOf x h with
    | none => rw [e] at w; exact w.elim
    | some xs =>
      rw [e] at w
      obtain ⟨a, ws, hv, hq, ds⟩ := seqOf_den r dd e
      subst hv
      exact ⟨a, ws, rfl, hq, af _ h m H _ .refl r (by rw [ds.length]; exact .int _) w⟩
noncomputable def pList : List T → PH → WK → Prop := fun ts h k => match ts with
  | [x] => match seqOf x h with
    | some xs => k (.ref h.length) (h ++ [.lst xs])
    | none => False
  | _ => False
theorem i_list : RLI K (fun xs H Q => ∃ p ys, xs = [.ref p] ∧ (SqL K H p ys ∨ SqT K H p ys) ∧ ∀ l, H l = none → Q (.ref l) (upd H l (.lst ys))) pList := fun m h H ts vs k Q r d w af => by
  match ts, d, w with
  | [x], d, w =>
    obtain ⟨v, hvs, dd⟩ := dens1 d
    subst hvs
    have w : (match seqOf x h with | some xs => k (.ref h.length) (h ++ [.lst xs]) | none => False) := w
    cases e : seqOf x h with
    | none => rw [e] at w; exact w.elim
    | some xs =>
      rw [e] at w
      obtain ⟨a, ws, hv, hq, ds⟩ := seqOf_den r dd e
      subst hv
      exact ⟨a, ws, rfl, hq, fun p hp => af.newLst r ds w hp⟩
noncomputable def pTuple : List T → PH → WK → Prop := fun ts h k => match ts with
  | [x] => match seqOf x h with
    | some xs => k (.tup xs) h
    | none => False
  | _ => False
theorem i_tuple : RLI K (fun xs H Q => ∃ p ys, xs = [.ref p] ∧ ((SqL K H p ys ∧ ∀ l, H l = none → Q (.ref l) (upd H l (.tup ys))) ∨ (SqT K H p ys ∧ Q (.ref p) H))) pTuple := fun m h H ts vs k Q r d w af => by
  match ts, d, w with
  | [x], d, w =>
    obtain ⟨v, hvs, dd⟩ := dens1 d
    subst hvs
    have wz : (match seqOf x h with | some xs => k (.tup xs) h | none => False) := w
    cases e : seqOf x h with
    | none => rw [e] at wz; exact wz.elim
    | some xs =>
      rw [e] at wz
      cases dd with
      | @tup a us vs hv ds => cases e; exact ⟨a, vs, rfl, .inr ⟨.of hv, af _ h m H _ .refl r (.tup hv ds) wz⟩⟩
      | @ref n a hn =>
        obtain ⟨vs, hq, ds⟩ := r.sqL (seqOf_ref e) hn
        exact ⟨a, vs, rfl, .inl ⟨hq, fun p hp => af.newTup r ds wz hp⟩⟩
      | _ => cases e
noncomputable def pInt : List T → PH → WK → Prop := fun ts h k => match ts with
  | [.int i] => k (.int i) h
  | [.bl b] => k (.int (b2n b)) h
  | _ => False
theorem i_int : RLI K (fun xs H Q => (∃ i, xs = [.int i] ∧ Q (.int i) H) ∨ ∃ k, xs = [.bl k] ∧ Q (.int (if k then 1 else 0)) H) pInt := fun m h H ts vs k Q r d w af => by
  match ts, d, w with
  | [.int i], d, w =>
    obtain ⟨v, hvs, dd⟩ := dens1 d
    subst hvs
    cases dd
    exact .inl ⟨i, rfl, af _ h m H _ .refl r (.int i) w⟩
  | [.bl b], d, w =>
    obtain ⟨v, hvs, dd⟩ := dens1 d
    subst hvs
    cases dd
    exact .inr ⟨b, rfl, af _ h m H _ .refl r (.int _) w⟩
noncomputable def isLst : T → PH → Prop := fun x h => match x with
  | .ref n => match lstOf h n with
    | some _ => True
    | none => False
  | _ => False
theorem isLst_of {x : T} {h : PH} (w : isLst x h) : ∃ n xs, x = .ref n ∧ lstOf h n = some xs := by
  unfold isLst at w
  split at w
  · rename_i n
    split at w
    · rename_i xs e; exact ⟨n, xs, rfl, e⟩
    · exact w.elim
  · exact w.elim
theorem ty_lst : TyI K "list" isLst := fun m h H x vx r d w => by
  obtain ⟨n, xs, rfl, e⟩ := isLst_of w
  cases d with
  | ref hn =>
    obtain ⟨vs, hv, _⟩ := r.lst (lstOf_some e) hn
    exact .inl ⟨rfl, vs, .of hv⟩
noncomputable def pMt (f : List T → List T → Option (T × List T)) : T → List T → PH → WK → Prop := fun x ts h k => match x with
  | .ref n => match lstOf h n with
    | some xs => match f xs ts with
      | some (t, ys) => ys.length ≤ sizeLine ∧ k t (h.set n (.lst ys))
      | none => False
    | none => False
  | _ => False
theorem pMt_of {f : List T → List T → Option (T × List T)} {x : T} {ts : List T} {h : PH} {k : WK} (w : pMt f x ts h k) : ∃ n xs t ys, x = .ref n ∧ lstOf h n = some xs ∧ f xs ts = some (t, ys) ∧ ys.length ≤ sizeLine ∧ k t (h.set n (.lst ys)) := by
  unfold pMt at w
  split at w
  · rename_i n
    split at w
    · rename_i xs e
      split at w
      · rename_i t ys e2; exact ⟨n, xs, t, ys, rfl, e, e2, w⟩
      · exact w.elim
    · exact w.elim
  · exact w.elim
theorem Aft.mut {m : List Addr} {h : PH} {H : Hp} {k : WK} {Q : VK} {n : Nat} {a : Addr} {xs ys : List T} {vs ws : List V} {t : T} {v : V} (af : Aft K m H k Q) (r : Rep K m h H) (e : lstOf h n = some xs) (hn : m[n]? = some a) (hv : H a = some (.lst vs)) (ds : Dens H m ys ws) (d : Den H m t v) (w : k t (h.set n (.lst ys))) : Q v (upd H a (.lst ws)) := by
  have hu : Up m H m (upd H a (.lst ws)) := Up.write hv fun _ z => nomatch z
  exact af _ _ m _ _ hu (r.write (o' := .lst ys) (lstOf_some e) rfl rfl hn ⟨_, upd_same, ds.up hu⟩) (d.up hu) w
noncomputable def fAppend : List T → List T → Option (T × List T) := fun xs ts => match ts with
  | [t] => some (.non, xs ++ [t])
  | _ => none
theorem i_append : RMI K rAppend (pMt fAppend) := fun m h H x ts vx vs k Q r d ds w af => by
  obtain ⟨n, xs, t, ys, rfl, e, e2, hz, w⟩ := pMt_of w
  match ts, ds, e2 with
  | [u], ds, e2 =>
    cases e2
    obtain ⟨v, hvs, du⟩ := dens1 ds
    subst hvs
    cases d with
    | @ref _ a hn =>
      obtain ⟨ws, hv, dw⟩ := r.lst (lstOf_some e) hn
      refine ⟨a, ws, v, rfl, rfl, hv, ?_, af.mut r e hn hv (dw.append (.cons du .nil)) .non w⟩
      rw [List.length_append, List.length_singleton] at hz
      rw [← dw.length]; omega
noncomputable def fExtend (h : PH) : List T → List T → Option (T × List T) := fun xs ts => match ts with
  | [.ref b] => (lstOf h b).map fun zs => (.non, xs ++ zs)
  | _ => none
theorem i_extend : RMI K rExtend (fun x ts h k => pMt (fExtend h) x ts h k) := fun m h H x ts vx vs k Q r d ds w af => by
  obtain ⟨n, xs, t, ys, rfl, e, e2, hz, w⟩ := pMt_of w
  match ts, ds, e2 with
  | [.ref b], ds, e2 =>
    have e2 : (lstOf h b).map (fun zs => ((.non, xs ++ zs) : T × List T)) = some (t, ys) := e2
    cases q : lstOf h b with
    | none => rw [q] at e2; cases e2
    | some zs =>
      rw [q] at e2; cases e2
      obtain ⟨v, rfl, du⟩ := dens1 ds
      cases du with
      | @ref _ bb hb =>
        cases d with
        | @ref _ a hn =>
          obtain ⟨ws, hv, dw⟩ := r.lst (lstOf_some e) hn
          obtain ⟨us, hu, de⟩ := r.lst (lstOf_some q) hb
          refine ⟨a, bb, ws, us, rfl, rfl, hv, hu, ?_, af.mut r e hn hv (dw.append de) .non w⟩
          rw [List.length_append] at hz
          rw [← dw.length, ← de.length]; exact hz
noncomputable def fPop : List T → List T → Option (T × List T) := fun xs ts => match ts with
  | [] => xs[xs.length - 1]?.map fun t => (t, xs.dropLast)
  | _ => none
noncomputable def fReverse : List T → List T → Option (T × List T) := fun xs ts => match ts with
  | [] => some (.non, xs.reverse)
  | _ => none
noncomputable def fClear : List T → List T → Option (T × List T) := fun _ ts => match ts with
  | [] => some (.non, [])
  | _ => none
noncomputable def cutT (xs : List T) (lo hi : Option Int) : List T := (xs.drop (HT.sIx xs.length 0 lo)).take (HT.sIx xs.length xs.length hi - HT.sIx xs.length 0 lo)
noncomputable def pSlL (x : T) (lo hi : Option Int) (h : PH) (k : WK) : Prop := match x with
  | .ref n => match lstOf h n with
    | some xs => k (.ref h.length) (h ++ [.lst (cutT xs lo hi)])
    | none => False
  | _ => False
theorem i_slL : ∀ m h H x vx l u k Q, Rep K m h H → Den H m x vx → pSlL x l u h k → Aft K m H k Q → rSlL K vx l u H Q := fun m h H x vx l u k Q r d w af => by
  cases d with
  | @ref n a hn =>
    have w : (match lstOf h n with | some xs => k (.ref h.length) (h ++ [.lst (cutT xs l u)]) | none => False) := w
    cases e : lstOf h n with
    | none => rw [e] at w; exact w.elim
    | some xs =>
      rw [e] at w
      obtain ⟨vs, hv, ds⟩ := r.lst (lstOf_some e) hn
      refine ⟨a, vs, rfl, .of hv, fun p hp => af.newLst r ?_ w hp⟩
      unfold cutT cutV
      rw [← ds.length]
      exact (ds.drop _).take _
  | _ => exact (show False from w).elim
noncomputable def flatT : T → Bool
  | .non => true
  | .bl _ => true
  | .int _ => true
  | .str _ => true
  | _ => false
noncomputable def eqF : T → T → Bool
  | .non, .non => true
  | .bl a, .bl b => a == b
  | .int a, .int b => a == b
  | .str a, .str b => a == b
  | .bl a, .int b => b2n a == b
  | .int a, .bl b => a == b2n b
  | _, _ => false
noncomputable def tyN (x : T) (h : PH) : Option String := match x with
  | .non => some "NoneType"
  | .bl _ => some "bool"
  | .int _ => some "int"
  | .str _ => some "str"
  | .tup _ => some "tuple"
  | .ref n => match h[n]? with
    | some (.lst _) => some "list"
    | some (.dK _) => some "dict"
    | some (.dT _) => some "dict"
    | _ => none
noncomputable def isSub (s t : String) : Bool := s == t || (s == "bool" && t == "int")
noncomputable def rIsi (K : PySem.W.Frag) : List V → Hp → VK → Prop := fun xs H Q => ∃ v c t b, xs = [v, .ty c] ∧ TyOf K H v t ∧ PySem.W.kitOne K t (.type c) = some b ∧ Q (.bl b) H
theorem call_isi : CallR X (.builtin "isinstance") (rIsi X.K) := by
  intro pins s σ H xs us Q I r h
  obtain ⟨v, c, t, b, rfl, ty, e, q⟩ := h
  obtain ⟨u, w', rfl, ru, rc⟩ := vals2 r
  cases rc
  exact isinst_ok I ru ty e fun tk => ⟨.bl b, H, I.tok _, rfl, q⟩
theorem kit_tab {s c : String} (hs : s ∈ ["NoneType", "bool", "int", "str", "tuple", "list", "dict"]) (hc : c ∈ ["bool", "int", "str", "tuple", "list"]) : PySem.W.kitOne K (.type s) (.type c) = some (isSub s c) := by
  simp only [List.mem_cons, List.not_mem_nil, or_false] at hs hc
  rcases hs with rfl | rfl | rfl | rfl | rfl | rfl | rfl <;> rcases hc with rfl | rfl | rfl | rfl | rfl <;> with_unfolding_all rfl
theorem tyOf_of {m : List Addr} {h : PH} {H : Hp} {x : T} {v : V} {s : String} (r : Rep K m h H) (d : Den H m x v) (e : tyN x h = some s) : TyOf K H v (.type s) ∧ s ∈ ["NoneType", "bool", "int", "str", "tuple", "list", "dict"] := by
  cases d with
  | non => cases e; exact ⟨.non, by simp⟩
  | bl b => cases e; exact ⟨.bl b, by simp⟩
  | int i => cases e; exact ⟨.int i, by simp⟩
  | str y => cases e; exact ⟨.str y, by simp⟩
  | tup hv ds => cases e; exact ⟨.tup hv, by simp⟩
  | @ref n a hn =>
    have e : (match h[n]? with | some (.lst _) => some "list" | some (.dK _) => some "dict" | some (.dT _) => some "dict" | _ => none) = some s := e
    split at e
    · rename_i xs q
      cases e
      obtain ⟨b, hb, vs, hv, _⟩ := r.obj n _ q
      rw [hn] at hb; cases hb
      exact ⟨.lst hv, by simp⟩
    · rename_i xs q
      cases e
      obtain ⟨b, hb, vs, hv, _⟩ := r.obj n _ q
      rw [hn] at hb; cases hb
      exact ⟨.dK hv, by simp⟩
    · rename_i xs q
      cases e
      obtain ⟨b, hb, vs, hv, _⟩ := r.obj n _ q
      rw [hn] at hb; cases hb
      exact ⟨.dT hv, by simp⟩
    · cases e
noncomputable def wIsi (c : String) (wa : WE) : WE := fun env h k => wa env h fun x h1 => match tyN x h1 with
  | some s => k (.bl (isSub s c)) h1
  | none => False
theorem oe_isi {a : Expr} {wa : WE} {cn : Str} {p p2 pos : Pos} (c : String) (hm : X.mg "isinstance" = none) (hmc : X.mg cn = none) (ha : OE X a wa) (hc : c ∈ ["bool", "int", "str", "tuple", "list"] := by simp) (hv : bootBuiltins cn = some (.type c) := by rfl) (hg : Gl X "isinstance" := by rfl) (hgc : Gl X cn := by rfl) (hn : cn ≠ "__name__" := by decide) (hdb : (cn == ("__debug__" : Str)) = false := by decide)
    (hs : starEach [a, .Name cn p2] X.env = (false, eval a X.env) :: starEach [.Name cn p2] X.env := by rfl) : OE X (.Call (.Name "isinstance" p) [a, .Name cn p2] [] pos) (wIsi c wa) :=
  PE.imp (pe_callB call_isi hg hm (by rfl) (pa_cons ha (pa_cons (pe_bltn (v := .ty c) hgc hmc hv rfl hn hdb) pa_nil) hs) (by decide) (by decide) hs) fun σ H Q ⟨m, env, h, k, rp, en, w, af⟩ =>
    ⟨m, env, h, _, rp, en, w, fun x h1 m1 H1 v u1 r1 d q1 => by
      cases e : tyN x h1 with
      | none => simp only [e] at q1
      | some s =>
        simp only [e] at q1
        obtain ⟨ty, hs⟩ := tyOf_of r1 d e
        exact ⟨v, c, .type s, _, rfl, ty, kit_tab hs hc, af _ h1 m1 H1 _ u1 r1 (.bl _) q1⟩⟩
end
end Pu
set_option Elab.async false
set_option linter.all false
set_option maxRecDepth 100000
namespace Pu
open PySem PySem.Spec PyProof.Rows L2 PySem.SeqAt
section
variable {K : PySem.W.Frag} {X : Cx}
theorem i_sub : R2I K (rI0 fun i j => .int (i - j)) pSub := i_I
theorem i_fdiv : R2I K (rI CDiv fun i j => .int (i / j)) pFdiv := i_Ic
theorem i_mod : R2I K (rI (fun _ j => 0 < j) fun i j => .int (i % j)) pMod := i_Ic
theorem i_pow : R2I K (rI CPow fun i j => .int (i ^ j.toNat)) pPow := i_Ic
theorem i_shl : R2I K (rI CPow fun i j => .int (i * 2 ^ j.toNat)) pShl := i_Ic
theorem i_shr : R2I K (rI (fun _ j => 0 ≤ j) fun i j => .int (i / 2 ^ j.toNat)) pShr := i_Ic
theorem i_and : R2I K (rI0 fun i j => .int (Builtin.bitAnd i j)) pAnd := i_I
theorem i_or : R2I K (rI0 fun i j => .int (Builtin.bitOr i j)) pOr := i_I
theorem i_lt : R2I K (rI0 fun i j => .bl (decide (i < j))) pLt := i_Ib
theorem i_le : R2I K (rI0 fun i j => .bl (decide (i ≤ j))) pLe := i_Ib
theorem i_gt : R2I K (rI0 fun i j => .bl (decide (j < i))) pGt := i_Ib
noncomputable def pNeg : T → PH → WK → Prop := fun x h k => match x with
  | .int i => k (.int (-i)) h
  | _ => False
theorem i_neg : R1I K (rU fun i => .int (-i)) pNeg := fun m h H x vx k Q r d w af => by
  cases d with
  | int i => exact ⟨i, rfl, af _ h m H _ .refl r (.int _) w⟩
  | _ => exact (show False from w).elim
noncomputable def intsOf : List T → Option (List Int)
  | [] => some []
  | .int i :: r => (intsOf r).map (i :: ·)
  | _ => none
theorem intsOf_eq : ∀ {ts : List T} {ns : List Int}, intsOf ts = some ns → ts = ns.map T.int
  | [], ns, h => by cases h; rfl
  | .int i :: r, ns, h => by
    have h : (intsOf r).map (i :: ·) = some ns := h
    cases e : intsOf r with
    | none => rw [e] at h; cases h
    | some ms =>
      rw [e] at h; cases h
      rw [List.map_cons, intsOf_eq e]
  | .non :: _, _, h => by cases h
  | .bl _ :: _, _, h => by cases h
  | .str _ :: _, _, h => by cases h
  | .tup _ :: _, _, h => by cases h
  | .ref _ :: _, _, h => by cases h
theorem intsOf_map : ∀ (ns : List Int), intsOf (ns.map T.int) = some ns
  | [] => rfl
  | n :: ns => by
    show (intsOf (ns.map T.int)).map (n :: ·) = _
    rw [intsOf_map ns]; rfl
noncomputable def pLtA : P2 := fun x y h k => match x, y with
  | .int a, .int b => k (.bl (decide (a < b))) h
  | .tup a, .tup b => match intsOf a, intsOf b with
    | some ns, some ms => k (.bl (HT.lexLt ns ms)) h
    | _, _ => False
  | _, _ => False
noncomputable def wDict : WE := fun _ h k => k (.ref h.length) (h ++ [.dK []])
noncomputable def pIs : P2 := fun x y h k => match y with
  | .non => k (.bl (match x with | .non => true | _ => false)) h
  | _ => False
noncomputable def pIsNot : P2 := fun x y h k => match y with
  | .non => k (.bl (match x with | .non => false | _ => true)) h
  | _ => False
theorem i_isN : R2I K (fun x y H Q => y = .non ∧ Q (.bl (decide (x = .non))) H) pIs := fun m h H x y vx vy k Q r d1 d2 w af => by
  cases d2 with
  | non =>
    refine ⟨rfl, ?_⟩
    cases d1 <;> exact af _ h m H _ .refl r (.bl _) w
  | _ => exact (show False from w).elim
theorem i_notN : R2I K (fun x y H Q => y = .non ∧ Q (.bl (!decide (x = .non))) H) pIsNot := fun m h H x y vx vy k Q r d1 d2 w af => by
  cases d2 with
  | non =>
    refine ⟨rfl, ?_⟩
    cases d1 <;> exact af _ h m H _ .refl r (.bl _) w
  | _ => exact (show False from w).elim
noncomputable def pInB (neg : Bool) : P2 := fun x y h k => match seqOf y h with
  | some ys => flatT x = true ∧ ys.all flatT = true ∧ k (.bl (neg != ys.any fun t => eqF t x)) h
  | none => False
noncomputable def pIn : P2 := pInB false
theorem flat_den {H : Hp} {m : List Addr} {t : T} {v : V} (d : Den H m t v) (f : flatT t = true) : flatV v = true := by
  cases d <;> first | rfl | cases f
theorem eqF_den {H : Hp} {m : List Addr} {t u : T} {v w : V} (d : Den H m t v) (e : Den H m u w) (f : flatT t = true) (g : flatT u = true) : eqF t u = eqV v w := by
  cases d <;> cases e <;> first | rfl | cases f | cases g
theorem flat_dens {H : Hp} {m : List Addr} : ∀ {ts : List T} {vs : List V}, Dens H m ts vs → ts.all flatT = true → vs.all flatV = true
  | _, _, .nil, _ => rfl
  | _, _, .cons d r, f => by
    rw [List.all_cons, Bool.and_eq_true] at f ⊢
    exact ⟨flat_den d f.1, flat_dens r f.2⟩
theorem any_dens {H : Hp} {m : List Addr} {x : T} {v : V} (d : Den H m x v) (fx : flatT x = true) : ∀ {ts : List T} {vs : List V}, Dens H m ts vs → ts.all flatT = true → (ts.any fun t => eqF t x) = inV v vs
  | _, _, .nil, _ => rfl
  | _, _, .cons e r, f => by
    rw [List.all_cons, Bool.and_eq_true] at f
    unfold inV
    rw [List.any_cons, List.any_cons, eqF_den e d f.1 fx, any_dens d fx r f.2]
    rfl
theorem i_inB {neg : Bool} : R2I K (rIn K neg) (pInB neg) := fun m h H x y vx vy k Q r d1 d2 w af => by
  unfold pInB at w
  cases e : seqOf y h with
  | none => rw [e] at w; exact w.elim
  | some ys =>
    rw [e] at w
    obtain ⟨f1, f2, w⟩ := w
    obtain ⟨a, ws, rfl, hq, ds⟩ := seqOf_den r d2 e
    refine ⟨a, ws, rfl, hq, flat_den d1 f1, flat_dens ds f2, ?_⟩
    rw [any_dens d1 f1 ds f2] at w
    cases neg
    · refine af _ h m H _ .refl r (.bl _) ?_
      simpa using w
    · refine af _ h m H _ .refl r (.bl _) ?_
      simpa using w
theorem i_in : R2I K (rIn K false) pIn := i_inB
noncomputable def rMulA (K : PySem.W.Frag) : R2 := fun x y H Q => rI CMul (fun i j => .int (i * j)) x y H Q ∨ rRep x y H Q
theorem op_mulL : OpR X (binaryOp .Mult) (rMulA X.K) := op_mul.or op_rep
noncomputable def compChk (fs : Scope) (N : List Str) (scope : Scope) (js : List Nat) : Bool :=
  decide (scope.kind = .function) && scope.names.all (fun y => decide (y.2 ≠ .cell)) && scope.names.all (fun y => decide (y.2 ≠ .local) || decide (scope.names.lookup y.1 = some .local)) &&
  scope.names.all (fun y => decide (y.2 ≠ .free) || decide (fs.names.lookup y.1 = some .cell) || decide (fs.names.lookup y.1 = some .free)) &&
  (List.range N.length).all fun i => match N[i]? with
    | some x => decide (scope.names.lookup x ≠ some .local) || js.contains i
    | none => true
theorem compOk_of {scope : Scope} {js : List Nat} {fs : Scope} {N : List Str} (hs : X.env.scope = fs) (hN : X.N = N) (h : compChk fs N scope js = true) : CompOk X scope js := by
  unfold compChk at h
  simp only [Bool.and_eq_true, List.all_eq_true, decide_eq_true_eq, Bool.or_eq_true] at h
  obtain ⟨⟨⟨⟨h1, h2⟩, h3⟩, h4⟩, h5⟩ := h
  refine ⟨h1, h2, fun y hy hl => ?_, fun y hy hf => ?_, fun i x hx hl => ?_⟩
  · rcases h3 y hy with z | z
    · exact absurd hl z
    · exact z
  · show X.env.scope.names.lookup y.1 = some .cell ∨ X.env.scope.names.lookup y.1 = some .free
    rw [hs]
    rcases h4 y hy with (z | z) | z
    · exact absurd hf z
    · exact .inl z
    · exact .inr z
  · rw [hN] at hx
    have hi : i < N.length := (List.getElem?_eq_some_iff.mp hx).1
    have z := h5 i (List.mem_range.mpr hi)
    rw [hx] at z
    simp only [Bool.or_eq_true, decide_eq_true_eq] at z
    rcases z with z | z
    · exact absurd hl z
    · simpa using z
theorem hu40 {n : Nat} {A : Around} (hr : Room n A) : A.units + 40 < cLine := by have := hr.units; omega
structure Bt (mg : Str → Option Value) : Prop where
  len : mg "len" = none
  isinstance : mg "isinstance" = none
  int_ : mg "int" = none
  bool : mg "bool" = none
  str : mg "str" = none
  tuple : mg "tuple" = none
  list : mg "list" = none
  range : mg "range" = none
  zip : mg "zip" = none
end
end Pu
set_option Elab.async false
set_option linter.all false
set_option maxRecDepth 100000
namespace Pu
open PySem PySem.Spec PyProof.Rows L2 PySem.SeqAt
open AutoSeq1 (wpAny_loadPart')
theorem noFill_tuple_mul : fillsNumberSlot (.type "tuple") "mul" = pure false :=
  PySem.fillsNumberSlot_seq (id := "tuple.__mul__") (r := some (.builtin "tuple.__rmul__")) F.slot_tuple_mul.lookup (by decide +kernel) F.slot_tuple_rmul.lookup (by decide +kernel)
theorem repeat_tuple : seqRepeat? (.type "tuple") = pure (some (.builtin "tuple.__mul__")) := by
  unfold seqRepeat?
  rw [PySem.seqSlot_of (T := "tuple") (name := "__mul__") (id := "tuple.__mul__") F.slot_tuple_mul.lookup (by decide +kernel), PySem.seqSlot_of (T := "tuple") (name := "__rmul__") (id := "tuple.__rmul__") F.slot_tuple_rmul.lookup (by decide +kernel)]
  rfl
theorem int_rmul_tuple (a : Int) (t : Tok) (l : Addr) (items : Array Value) (n : Nat) (d : Option Addr) (sl : Array (Option Value)) :
    Meets (Builtin.«int.__rmul__» ⟨[.int a t, .ref l], []⟩) (fun _ R s => s.heap.get? l = some { cls := .type "tuple", dict := d, data := .seq items n, slots := sl } ∧ R (.ok (.ret Value.notImplemented)) s) :=
  .of_wp fun prog w A R s h => by obtain ⟨hp, g, d, tk, os⟩ := s; obtain ⟨hl, h⟩ := h; wp_walk; exact ⟨_, rfl, h⟩
theorem tuple_mul1 (l : Addr) (items : Array Value) (n : Nat) (d : Option Addr) (sl : Array (Option Value)) (u : Tok) :
    Meets (Builtin.«tuple.__mul__» ⟨[.ref l, .int 1 u], []⟩) (fun _ R s => s.heap.get? l = some { cls := .type "tuple", dict := d, data := .seq items n, slots := sl } ∧ R (.ok (.ret (.ref l))) s) :=
  .of_wp fun prog w A R s h => by
    obtain ⟨hp, g, d, tk, os⟩ := s; obtain ⟨hl, h⟩ := h
    have f1 := AutoSeq1.idx_int; have f2 := AutoSeq1.sub_tuple_tuple
    wp_walk using wpAny_loadPart' hl
    exact ⟨_, rfl, h⟩
theorem tuple_mul2 (l : Addr) (items : Array Value) (n : Nat) (d : Option Addr) (sl : Array (Option Value)) (x : Int) (u : Tok) (c1 : ¬ (decide (x < -(2 ^ 63)) || decide (x ≥ 2 ^ 63)) = true) (c2 : ¬ (items.isEmpty || x == 1) = true) (c3 : ¬ (decide (x ≤ 0) || items.isEmpty) = true)
    (c4 : ¬ ((items.size : Int) * x > (2 ^ 63 - 1) / 8)) (c5 : ¬ Builtin.Tuple.tupleTooMany ((items.size : Int) * x) = true) (hsz : (List.foldl (fun x1 x2 => x1 ++ x2) #[] (List.replicate x.toNat items)).size ≤ sizeLine) :
    Meets (Builtin.«tuple.__mul__» ⟨[.ref l, .int x u], []⟩) (fun _ R s => s.heap.get? l = some { cls := .type "tuple", dict := d, data := .seq items n, slots := sl } ∧ R (.ok (.ret (.ref s.heap.objs.size))) { s with heap := s.heap.push { cls := .type "tuple", data := .seq (List.foldl (fun x1 x2 => x1 ++ x2) #[] (List.replicate x.toNat items)) } }) :=
  .of_wp fun prog w A R s h => by
    obtain ⟨hp, g, d, tk, os⟩ := s; obtain ⟨hl, h⟩ := h
    have f1 := AutoSeq1.idx_int; have f2 := AutoSeq1.sub_tuple_tuple
    wp_walk using wpAny_loadPart' hl
    refine wpAny_ite_split (fun hab => absurd hab c1) (fun _ => ?_)
    wp_walk using wpAny_loadPart' hl
    refine wpAny_ite_split (fun hab => absurd hab c4) (fun _ => ?_)
    wp_walk using wpAny_loadPart' hl
    exact ⟨_, rfl, h⟩
section
variable {K : PySem.W.Frag} {X : Cx}
noncomputable def rRepT (K : PySem.W.Frag) : R2 := fun x y H Q => ∃ a n xs, x = .ref a ∧ y = .int n ∧ SqT K H a xs ∧ xs ≠ [] ∧ 1 ≤ n ∧ n < 16777216 ∧ xs.length * n.toNat ≤ sizeLine ∧
  (n = 1 → Q (.ref a) H) ∧ (n ≠ 1 → ∀ p, H p = none → Q (.ref p) (upd H p (.tup (List.replicate n.toNat xs).flatten)))
theorem op_repT : OpR X (binaryOp .Mult) (rRepT X.K) := by
  intro pins s σ H x y v u Q I rx ry h
  obtain ⟨a, n, xs, rfl, rfl, ha, hx, h1, h2, hz, q1, q2⟩ := h
  cases rx
  obtain ⟨t, rfl⟩ := ry
  obtain ⟨its, r, p, _⟩ := I.tuple ha
  obtain ⟨⟨cls, dd, data, sl⟩, ho, hc, k, hd⟩ := id p
  simp only at hc hd
  subst hc hd
  have hl := r.length
  have hne : its ≠ [] := fun z => hx (r.nil_iff.mp z)
  by_cases e1 : n = 1
  · subst e1
    refine wpAny_binaryOp_repeat_ref (T := "tuple") (U := "int") (by decide) ⟨_, ho, rfl⟩ (fun s' => typeIs_int s' 1 t) noFill_tuple_mul F.fills_int_mul F.slot_int_rmul repeat_tuple F.slot_int_index.lookup
      (call_meets F.slot_int_rmul (typeIs_int s 1 t) F.entry_int_rmul (F.args_int_rmul_2 _ _) (int_rmul_tuple 1 t a its.toArray k dd sl)
        ⟨ho, rfl, ⟨_, ho, rfl⟩, call_meets F.slot_tuple_mul ⟨_, ho, rfl⟩ F.entry_tuple_mul (F.args_tuple_mul_2 _ _) (tuple_mul1 a its.toArray k dd sl t) ⟨ho, ?_⟩⟩)
    exact ⟨.ref a, H, I, rfl, q1 rfl⟩
  · have hs : sizeLine = 16777216 := sizeLine_eq
    have f0 : List.foldl (fun x1 x2 => x1 ++ x2) #[] (List.replicate n.toNat its.toArray) = (List.replicate n.toNat its).flatten.toArray := by
      have := foldl_rep its n.toNat []
      rw [List.nil_append] at this
      exact this
    have hmul : ((its.toArray.size : Int) * n) = ((its.length * n.toNat : Nat) : Int) := by
      rw [List.size_toArray, Int.natCast_mul, Int.toNat_of_nonneg (by omega)]
    have hz' : its.length * n.toNat ≤ sizeLine := by rw [← hl]; exact hz
    have hemp : its.toArray.isEmpty = false := by cases its with | nil => exact absurd rfl hne | cons _ _ => rfl
    refine wpAny_binaryOp_repeat_ref (T := "tuple") (U := "int") (by decide) ⟨_, ho, rfl⟩ (fun s' => typeIs_int s' n t) noFill_tuple_mul F.fills_int_mul F.slot_int_rmul repeat_tuple F.slot_int_index.lookup
      (call_meets F.slot_int_rmul (typeIs_int s n t) F.entry_int_rmul (F.args_int_rmul_2 _ _) (int_rmul_tuple n t a its.toArray k dd sl)
        ⟨ho, rfl, ⟨_, ho, rfl⟩, call_meets F.slot_tuple_mul ⟨_, ho, rfl⟩ F.entry_tuple_mul (F.args_tuple_mul_2 _ _) (tuple_mul2 a its.toArray k dd sl n t ?_ ?_ ?_ ?_ ?_ ?_) ⟨ho, ?_⟩⟩)
    · simp only [Bool.or_eq_true, decide_eq_true_eq]; omega
    · rw [hemp]; simpa using e1
    · rw [hemp]; simp; omega
    · rw [hmul]; omega
    · unfold Builtin.Tuple.tupleTooMany
      rw [hmul]
      intro hh
      have := of_decide_eq_true hh
      omega
    · rw [f0, List.size_toArray, len_rep, Nat.mul_comm]; exact hz'
    · rw [f0]
      refine ⟨.ref s.heap.objs.size, _, I.laid (t' := s.toks) (o := .tup (List.replicate n.toNat xs).flatten) (fun b ob q => Heap.get?_push_of_some _ q) (Nat.le_refl _) ?_, rfl, q2 e1 _ (I.hok.fresh (Nat.le_refl _))⟩
      exact ⟨by rw [len_rep, Nat.mul_comm]; exact hz, _, r.rep n.toNat, IsTup.new _ _, _, Heap.get?_push_size _ rfl, rfl⟩
noncomputable def rMulT (K : PySem.W.Frag) : R2 := fun x y H Q => rMulA K x y H Q ∨ rRepT K x y H Q
theorem op_mulA : OpR X (binaryOp .Mult) (rMulT X.K) := op_mulL.or op_repT
noncomputable def pMul : P2 := fun x y h k => match x, y with
  | .int a, .int b => CMul a b ∧ k (.int (a * b)) h
  | .tup ts, .int n => ts ≠ [] ∧ 1 ≤ n ∧ n < 16777216 ∧ ts.length * n.toNat ≤ sizeLine ∧ k (.tup (List.replicate n.toNat ts).flatten) h
  | .ref i, .int n => match lstOf h i with
    | some xs => -(2 ^ 63) ≤ n ∧ n < 2 ^ 63 ∧ xs.length * n.toNat ≤ sizeLine ∧ k (.ref h.length) (h ++ [.lst (List.replicate n.toNat xs).flatten])
    | none => False
  | _, _ => False
theorem i_mul : R2I K (rMulT K) pMul := fun m h H x y vx vy k Q r d1 d2 w af => by
  cases d2 with
  | int n =>
    cases d1 with
    | int a => exact .inl (.inl ⟨a, n, rfl, rfl, w.1, af _ h m H _ .refl r (.int _) w.2⟩)
    | @tup a ts vs hv ds =>
      have w : ts ≠ [] ∧ 1 ≤ n ∧ n < 16777216 ∧ ts.length * n.toNat ≤ sizeLine ∧ k (.tup (List.replicate n.toNat ts).flatten) h := w
      obtain ⟨w1, w2, w3, w4, w5⟩ := w
      refine .inr ⟨a, n, vs, rfl, rfl, .of hv, fun z => w1 (ds.nil_iff.mpr z), w2, w3, by rw [← ds.length]; exact w4, fun e => ?_, fun _ p hp => af.newTup r (ds.rep _) w5 hp⟩
      subst e
      have e : (List.replicate (1 : Int).toNat ts).flatten = ts := by simp
      rw [e] at w5
      exact af _ h m H _ .refl r (.tup hv ds) w5
    | @ref i a hi =>
      have w : (match lstOf h i with | some xs => -(2 ^ 63) ≤ n ∧ n < 2 ^ 63 ∧ xs.length * n.toNat ≤ sizeLine ∧ k (.ref h.length) (h ++ [.lst (List.replicate n.toNat xs).flatten]) | none => False) := w
      cases e : lstOf h i with
      | none => rw [e] at w; exact w.elim
      | some xs =>
        rw [e] at w
        obtain ⟨w1, w2, w3, w4⟩ := w
        obtain ⟨vs, hv, ds⟩ := r.lst (lstOf_some e) hi
        exact .inl (.inr ⟨a, n, vs, rfl, rfl, hv, w1, w2, by rw [← ds.length]; exact w3, fun p hp => af.newLst r (ds.rep _) w4 hp⟩)
    | _ => exact (show False from w).elim
  | _ => cases d1 <;> exact (show False from w).elim
noncomputable def pSl : T → Option Int → Option Int → PH → WK → Prop := pSlL
noncomputable def pExt : T → List T → PH → WK → Prop := fun x ts h k => pMt (fExtend h) x ts h k
end
section
variable {prog : Program} {w : World} {A : Around} {E : Value → Shared → Prop} {s : Shared}
theorem wpAny_collect_range {Q : List Value → Shared → Prop} {r : Addr} {a b c : Int} {t u v : Tok} {n : Nat} (hh : A.handled = none) (hr : IsRange s.heap r a b c t u v) (hsmall : Builtin.Range.small a b c = true)
    (hn : Builtin.Range.rangeSize a b c = n) (hlen : n ≤ 2 ^ 24)
    (hQ : ∀ h' tk acc', (∀ b o', s.heap.get? b = some o' → h'.get? b = some o') → ItemsOf (fun i v => ∃ t, v = .int (a + i * c) t) acc' n → Q acc'.toList { s with heap := h', toks := tk }) :
    wpAny (model prog w) A (collect (.ref r)) Q E s := by
  unfold collect
  refine wpAny_bind (wpAny_runValue (codeAny_builtin F.entry_proto_collect ?_))
  rw [Around.under_plainId F.plain_proto_collect _]
  show wpAny _ A.in1 (newList [] >>= fun l => again (.builtin "list.__iadd__" ⟨[l, .ref r], []⟩)) _ _ s
  refine wpAny_bind (wpAny_newObj_type ?_)
  refine wpAny_pure ⟨plainId_quiet F.plain_list_iadd _, codeAny_builtin F.entry_list_iadd ?_⟩
  rw [Around.under_plainId F.plain_list_iadd _]
  show wpAny _ A.in1 (Builtin.List.listExtendWith (.ref s.heap.objs.size) (.ref r) (.ref s.heap.objs.size)) _ _ _
  have hS : (s.heap.push { cls := .type "list", data := .seq ([] : List Value).toArray }).get? s.heap.objs.size = some { cls := .type "list", data := .seq #[] 0 } := Heap.get?_push_size _ rfl
  refine wpAny_mono (wpAny_extend_range (A := A) (R := fun r' s' => r' = .ok (.ret (.ref s.heap.objs.size)) ∧ ∃ h' tk acc' c', (∀ b o', s.heap.get? b = some o' → h'.get? b = some o') ∧ h'.get? s.heap.objs.size = some { cls := .type "list", dict := none, data := .seq acc' c', slots := #[] } ∧ ItemsOf (fun i v => ∃ t, v = .int (a + i * c) t) acc' n ∧ s' = { s with heap := h', toks := tk })
    (s := { s with heap := s.heap.push { cls := .type "list", data := .seq ([] : List Value).toArray } }) hh (Heap.get?_push_of_some _ hr) hsmall hn hlen s.heap.objs.size _ 0 hS
    fun h' tk acc' c' hk hS' hacc => ⟨rfl, h', tk, acc', c', fun b o' e => hk b o' (Nat.ne_of_lt (Heap.lt_size e)) (Heap.get?_push_of_some _ e), hS', hacc, rfl⟩) (fun fin s' h => ?_) (fun e s' h => ?_)
  · have fin' : ∀ s'', (∃ h' tk acc' c', (∀ b o', s.heap.get? b = some o' → h'.get? b = some o') ∧ h'.get? s.heap.objs.size = some { cls := .type "list", dict := none, data := .seq acc' c', slots := #[] } ∧ ItemsOf (fun i v => ∃ t, v = .int (a + i * c) t) acc' n ∧ s'' = { s with heap := h', toks := tk }) → wpAny (model prog w) A (match Value.ref s.heap.objs.size with
        | Value.ref a => do
          match (← load a).data with
            | Data.seq xs _ => pure xs.toList
            | _ => unsupported "internal:collect"
        | _ => unsupported "internal:collect") Q E s'' := by
      rintro s'' ⟨h', tk, acc', c', hk, hS', hacc, rfl⟩
      show wpAny _ A (load s.heap.objs.size >>= _) _ _ _
      refine wpAny_bind (wpAny_load hS' ?_)
      exact wpAny_pure (hQ h' tk acc' hk hacc)
    cases fin with
    | done f =>
      obtain ⟨e, h⟩ := h
      cases e
      exact fin' s' h
    | again c' => exact ⟨h.1, codeAny_mono h.2 fun r' s'' hr => by obtain ⟨rfl, hr⟩ := hr; exact fin' s'' hr⟩
  · exact absurd h.1 (by simp)
theorem meets_tuple_new_range (l : Addr) {a b c : Int} {t u v : Tok} {n : Nat} (hsmall : Builtin.Range.small a b c = true) (hn : Builtin.Range.rangeSize a b c = n) (hlen : n ≤ 2 ^ 24) :
    Meets (Builtin.«tuple.__new__» ⟨[.type "tuple", .ref l], []⟩)
      (fun A R s => A.handled = none ∧ IsRange s.heap l a b c t u v ∧ ∀ (h' : Heap) tk acc', (∀ b o', s.heap.get? b = some o' → h'.get? b = some o') → ItemsOf (fun i v => ∃ t, v = .int (a + i * c) t) acc' n → R (.ok (.ret (.ref h'.objs.size))) { s with heap := h'.push { cls := .type "tuple", data := .seq acc' }, toks := tk }) :=
  .of_wp fun prog w A R s h => by
    obtain ⟨hp, g, d, tk, os⟩ := s; obtain ⟨hh, hr, h⟩ := h
    have hsub := sub_tuple_self
    have hinit := init_tuple_lookup
    have hmh := madeHere_tuple
    have hT : Shared.TypeIs ⟨hp, g, d, tk, os⟩ (.ref l) "range" := ⟨_, hr, rfl⟩
    have ht : hp.get? l = some _ := hr
    wp_walk using wpAny_loadPart' ht, wpAny_typeOf hT, wpAny_collect_range (A := A.in1) hh hr hsmall hn hlen
    intro h' tk' acc' hk hacc
    have hsz : acc'.size ≤ sizeLine := by rw [hacc.1, sizeLine_eq]; omega
    show wpAny _ _ (Builtin.Tuple.tupleExact acc'.toList.toArray >>= fun v => ret v) _ _ _
    unfold Builtin.Tuple.tupleExact
    refine wpAny_bind (wpAny_newObj_type ?_ (by show acc'.toList.toArray.size ≤ sizeLine; simpa using hsz))
    refine wpAny_pure ⟨_, rfl, ?_⟩
    have e : acc'.toList.toArray = acc' := by simp
    rw [e]
    exact h h' tk' acc' hk hacc
theorem call_tuple_range {Q : Value → Shared → Prop} {l : Addr} {a b c : Int} {t u v : Tok} {n : Nat} (hh : A.handled = none) (hr : IsRange s.heap l a b c t u v) (hsmall : Builtin.Range.small a b c = true) (hn : Builtin.Range.rangeSize a b c = n) (hlen : n ≤ 2 ^ 24)
    (h : ∀ (h' : Heap) tk acc', (∀ b o', s.heap.get? b = some o' → h'.get? b = some o') → ItemsOf (fun i v => ∃ t, v = .int (a + i * c) t) acc' n → Q (.ref h'.objs.size) { s with heap := h'.push { cls := .type "tuple", data := .seq acc' }, toks := tk }) :
    wpAny (model prog w) A (call (.type "tuple") [.ref l]) Q E s :=
  callType_new F.called_tuple (by decide) (F.typeCall_tuple_1 _) (F.newCall_tuple_1 _) (fun obj => F.args_object_init_2 obj _) F.entry_tuple_new
    (meets_tuple_new_range l hsmall hn hlen) ⟨hh, hr, fun h' tk acc' hk hacc => ⟨⟨_, Heap.get?_push_size _ rfl, rfl⟩, h h' tk acc' hk hacc⟩⟩
end
end Pu
set_option Elab.async false
set_option linter.all false
set_option maxRecDepth 100000
namespace Pu
open PySem PySem.Spec PyProof.Rows L2 PySem.SeqAt
theorem vals_of : ∀ {vs : List V} {us : List Value}, vs.length = us.length → (∀ (j : Nat) v u, vs[j]? = some v → us[j]? = some u → RelV v u) → Vals vs us
  | [], [], _, _ => .nil
  | [], _ :: _, h, _ => by simp at h
  | _ :: _, [], h, _ => by simp at h
  | v :: vs, u :: us, hl, h => .cons (h 0 v u rfl rfl) (vals_of (by simpa using hl) fun j a b h1 h2 => h (j + 1) a b (by simpa using h1) (by simpa using h2))
section
variable {K : PySem.W.Frag} {X : Cx} {a : Expr} {p p2 pos pos2 : Pos}
theorem pe_range1 {ta : TA} (hg : Gl X "range") (hm : X.mg "range" = none) (ha : PA X [a] ta) (hs : starEach [a] X.env = [(false, eval a X.env)] := by rfl) :
    PE X (.Call (.Name "range" p) [a] [] pos) (fun σ H Q => ta σ H fun vs H1 => ∃ j : Int, vs = [.int j] ∧ ∀ l, H1 l = none → Q (.ref l) (upd H1 l (.rng 0 j))) := by
  intro pins s σ H Q I h
  refine Call_ (ld_blt I hg hm boot_range (PyProof.Rows.callWith_type1 (thn (ha pos pins s σ H _ I h) fun us s1 ⟨vs, H1, I1, r1, q1⟩ => ?_) hs rfl))
  obtain ⟨j, e, q⟩ := q1
  subst e
  cases r1 with
  | cons r rr =>
    cases rr
    obtain ⟨t, rfl⟩ := r
    exact call_range_1 ⟨.ref s1.heap.objs.size, _, I1.laid (o := .rng 0 j) (fun b o e => Heap.get?_push_of_some _ e) (Nat.le_refl _) ⟨_, _, _, Heap.get?_push_size _ rfl⟩, rfl, q _ (I1.hok.fresh (Nat.le_refl _))⟩
noncomputable def rTupRng : List V → Hp → VK → Prop := fun xs H Q => ∃ l lo hi, xs = [.ref l] ∧ H l = some (.rng lo hi) ∧ (-(2 ^ 62) ≤ lo ∧ lo < 2 ^ 62 ∧ -(2 ^ 62) ≤ hi ∧ hi < 2 ^ 62) ∧ (hi - lo).toNat ≤ 16777216 ∧
  ∀ q, H q = none → Q (.ref q) (upd H q (.tup ((List.range (hi - lo).toNat).map fun (i : Nat) => V.int (lo + (i : Int)))))
theorem call_tupRng (hc : X.calm = true) : CallR X (.type "tuple") rTupRng := by
  intro pins s σ H xs us Q I r h
  obtain ⟨l, lo, hi, rfl, hl, ⟨b1, b2, b3, b4⟩, hz, q⟩ := h
  obtain ⟨u, rfl, ru⟩ := vals1 r
  cases ru
  obtain ⟨t, u, v, e⟩ := I.hok l _ hl
  have hn : Builtin.Range.rangeSize lo hi 1 = (((hi - lo).toNat : Nat) : Int) := by rw [rangeSize_one]; split <;> omega
  refine call_tuple_range (I.ok.hd hc) (show IsRange s.heap l lo hi 1 t u v from e) (small_one b1 b2 b3 b4) hn (by omega) fun h' tk acc' hk hacc => ?_
  have I1 : Inv X pins σ H { s with heap := h', toks := tk } := I.kept (t' := tk) hk
  have hs : acc'.toList.length = (hi - lo).toNat := by rw [Array.length_toList]; exact hacc.1
  have rv : Vals ((List.range (hi - lo).toNat).map fun (i : Nat) => V.int (lo + (i : Int))) acc'.toList := by
    refine vals_of (by rw [List.length_map, List.length_range, hs]) fun j v u h1 h2 => ?_
    have hj : j < (hi - lo).toNat := by
      have := (List.getElem?_eq_some_iff.mp h2).1
      omega
    rw [List.getElem?_map, List.getElem?_range hj] at h1
    cases h1
    obtain ⟨t, e⟩ := hacc.2 j u (by simpa using h2)
    exact ⟨t, by rw [e, Int.mul_one]⟩
  have I2 : Inv X pins σ (upd H h'.objs.size (.tup ((List.range (hi - lo).toNat).map fun (i : Nat) => V.int (lo + (i : Int))))) { s with heap := h'.push { cls := .type "tuple", data := .seq acc' }, toks := tk } :=
    I1.laid (t' := tk) (fun b o e => Heap.get?_push_of_some _ e) (Nat.le_refl _) ⟨by rw [List.length_map, List.length_range, sizeLine_eq]; exact hz, acc'.toList, rv, by simpa using IsTup.new _ _, _, Heap.get?_push_size _ rfl, rfl⟩
  exact ⟨.ref h'.objs.size, _, I2, rfl, q _ (I1.hok.fresh (Nat.le_refl _))⟩
noncomputable def wTupRng (wa : WA) : WE := fun env h k => wa env h fun ts h1 => match ts with
  | [.int j] => -(2 ^ 62) ≤ j ∧ j < 16777216 ∧ k (.tup (rngL 0 j.toNat)) h1
  | _ => False
theorem dens_rng {H : Hp} {m : List Addr} (lo : Int) : ∀ (is : List Nat), Dens H m (is.map fun (i : Nat) => T.int (lo + (i : Int))) (is.map fun (i : Nat) => V.int (lo + (i : Int)))
  | [] => .nil
  | i :: is => .cons (.int _) (dens_rng lo is)
theorem oe_tupRng {wa : WA} (hmt : X.mg "tuple" = none) (hm : X.mg "range" = none) (ha : OA X [a] wa) (hc : X.calm = true := by rfl) (hgt : Gl X "tuple" := by rfl) (hg : Gl X "range" := by rfl) (hs : starEach [a] X.env = [(false, eval a X.env)] := by rfl)
    (hs2 : starEach [.Call (.Name "range" p) [a] [] pos] X.env = [(false, eval (.Call (.Name "range" p) [a] [] pos) X.env)] := by rfl) :
    OE X (.Call (.Name "tuple" p2) [.Call (.Name "range" p) [a] [] pos] [] pos2) (wTupRng wa) :=
  PE.imp (pe_callTy (call_tupRng hc) hgt hmt (by rfl) (pa_cons (pe_range1 hg hm ha hs) pa_nil hs2) (by decide) (by decide) hs2) fun σ H Q ⟨m, env, h, k, rp, en, w, af⟩ =>
    ⟨m, env, h, _, rp, en, w, fun ts h1 m1 H1 vs u1 r1 ds q1 => by
      rcases ds with _ | ⟨d, _ | ⟨_, _⟩⟩
      · exact (show False from q1).elim
      · cases d with
        | int j =>
          have q1 : -(2 ^ 62) ≤ j ∧ j < 16777216 ∧ k (.tup (rngL 0 j.toNat)) h1 := q1
          refine ⟨j, rfl, fun l hl => ⟨l, 0, j, rfl, upd_same, ⟨by decide, by decide, q1.1, by omega⟩, by omega, fun q hq => ?_⟩⟩
          have hu := Up.newTup (m := m1) (x := .rng 0 j) hl
          have r2 : Rep X.K m1 h1 (upd H1 l (.rng 0 j)) := r1.tup hl
          have e : (j - 0).toNat = j.toNat := by rw [Int.sub_zero]
          rw [e]
          exact (af.after (u1.trans hu)).newTup r2 (dens_rng 0 _) q1.2.2 hq
        | _ => exact (show False from q1).elim
      · cases d <;> exact (show False from q1).elim⟩
end
end Pu
set_option Elab.async false
set_option linter.all false
set_option maxRecDepth 100000
namespace Pu
open PySem L2
noncomputable def Ext (n : Nat) (h h' : PH) : Prop := ∀ (i : Nat) o, i ≠ n → h[i]? = some o → h'[i]? = some o
noncomputable def Gro (h h' : PH) : Prop := ∀ (i : Nat) o, h[i]? = some o → h'[i]? = some o
theorem Gro.refl (h : PH) : Gro h h := fun _ _ e => e
theorem Gro.trans {a b c : PH} (x : Gro a b) (y : Gro b c) : Gro a c := fun i o e => y i o (x i o e)
theorem Gro.app (h g : PH) : Gro h (h ++ g) := fun i o e => by
  have hi := (List.getElem?_eq_some_iff.mp e).1
  rw [List.getElem?_append_left hi]; exact e
theorem Gro.len {h h' : PH} (x : Gro h h') : h.length ≤ h'.length := by
  cases h with
  | nil => exact Nat.zero_le _
  | cons a r =>
    have e : (a :: r)[(a :: r).length - 1]? = some ((a :: r)[(a :: r).length - 1]'(by simp)) := List.getElem?_eq_getElem _
    have := (List.getElem?_eq_some_iff.mp (x _ _ e)).1
    simp only [List.length_cons] at this ⊢
    omega
theorem Gro.ext {n : Nat} {h h' : PH} (x : Gro h h') : Ext n h h' := fun i o _ e => x i o e
theorem Ext.trans {n : Nat} {a b c : PH} (x : Ext n a b) (y : Ext n b c) : Ext n a c := fun i o hi e => y i o hi (x i o hi e)
theorem Ext.set (n : Nat) (h : PH) (o : Ob) : Ext n h (h.set n o) := fun i u hi e => by rw [List.getElem?_set_ne (Ne.symm hi)]; exact e
theorem Ext.app (n : Nat) (h g : PH) : Ext n h (h ++ g) := (Gro.app h g).ext
theorem get_app_left {h g : PH} {i : Nat} {o : Ob} (e : h[i]? = some o) : (h ++ g)[i]? = some o := Gro.app h g i o e
theorem get_app_new (h : PH) (o : Ob) : (h ++ [o])[h.length]? = some o := by simp
theorem lt_of_get {h : PH} {i : Nat} {o : Ob} (e : h[i]? = some o) : i < h.length := (List.getElem?_eq_some_iff.mp e).1
theorem lstOf_of {h : PH} {n : Nat} {xs : List T} (e : h[n]? = some (.lst xs)) : lstOf h n = some xs := by unfold lstOf; rw [e]
theorem seqOf_of {h : PH} {n : Nat} {xs : List T} (e : h[n]? = some (.lst xs)) : seqOf (.ref n) h = some xs := by unfold seqOf; simp only [e]
theorem seqOf_fro {h : PH} {n : Nat} {xs : List T} (e : h[n]? = some (.fro xs)) : seqOf (.ref n) h = some xs := by unfold seqOf; simp only [e]
theorem seqOf_tup (ts : List T) (h : PH) : seqOf (.tup ts) h = some ts := rfl
theorem eqT_int (h : PH) (a b : Int) : eqT h 40 (.int a) (.int b) = some (a == b) := rfl
theorem eqT_bl (h : PH) (a b : Bool) : eqT h 40 (.bl a) (.bl b) = some (a == b) := rfl
theorem atI_nn {α : Type} {xs : List α} {i : Int} (h0 : 0 ≤ i) (h1 : i < xs.length) : atI xs i = xs[i.toNat]? := by
  unfold atI ixN
  rw [if_pos h0, if_pos h1]
  rfl
theorem atI_0 {α : Type} (a : α) (r : List α) : atI (a :: r) 0 = some a := by rw [atI_nn (by decide) (by simp only [List.length_cons]; omega)] <;> rfl
theorem atI_1 {α : Type} (a b : α) (r : List α) : atI (a :: b :: r) 1 = some b := by rw [atI_nn (by decide) (by simp only [List.length_cons]; omega)] <;> rfl
theorem atI_2 {α : Type} (a b c : α) (r : List α) : atI (a :: b :: c :: r) 2 = some c := by rw [atI_nn (by decide) (by simp only [List.length_cons]; omega)] <;> rfl
theorem ixN_nn {n : Nat} {i : Int} (h0 : 0 ≤ i) (h1 : i < n) : ixN n i = some i.toNat := by unfold ixN; rw [if_pos h0, if_pos h1]
noncomputable def StOk (n sc : Nat) (ns : List Int) (h : PH) : Prop := ∃ count acc, h[n]? = some (.lst [.ref sc, .int count, .int acc]) ∧ 0 ≤ count ∧ h[sc]? = some (.fro (ns.map T.int))
theorem StOk.ext {n m sc : Nat} {ns : List Int} {h h' : PH} (s : StOk n sc ns h) (x : Ext m h h') (h1 : n ≠ m) (h2 : sc ≠ m) : StOk n sc ns h' := by
  obtain ⟨c, a, e1, e0, e2⟩ := s
  exact ⟨c, a, x _ _ h1 e1, e0, x _ _ h2 e2⟩
theorem StOk.gro {n sc : Nat} {ns : List Int} {h h' : PH} (s : StOk n sc ns h) (x : Gro h h') : StOk n sc ns h' := by
  obtain ⟨c, a, e1, e0, e2⟩ := s
  exact ⟨c, a, x _ _ e1, e0, x _ _ e2⟩
noncomputable def cpTake : CP := fun ts h k => ∃ n sc ns size, ts = [.ref n, .int size] ∧ StOk n sc ns h ∧ 0 < size ∧ size < 1073741824 ∧ ∀ r h', 0 ≤ r → r < size → StOk n sc ns h' → Ext n h h' → k (.int r) h'
theorem len_take : ∀ ts h k, cpTake ts h k → ts.length = 2 := by
  rintro ts h k ⟨n, sc, ns, size, rfl, _⟩
  rfl
theorem seq_cut {t u : WS} {D : Eds} {env : En} {h : PH} (H : ∀ U, U = u D → t { D with nx := U } env h) : wSeq t u D env h := H _ rfl
noncomputable def cpLaw : CP := fun ts h k => ∃ ns : List Int, ts = [.ref 0] ∧ h = [.fro (ns.map T.int)] ∧ ns.length ≤ 63 ∧ ∀ h', k (.bl true) h'
theorem len_cpLaw : ∀ ts h k, cpLaw ts h k → ts.length = 1 := by
  rintro ts h k ⟨x, rfl, _⟩
  rfl
theorem law_start {K : PySem.W.Frag} {H : Hp} {a : Addr} {ns : List Int} (hl : ns.length ≤ 63) (hO : Only H) (hS : SqL K H a (ns.map V.int)) : spOf K cpLaw [.ref a] H (fun v _ => v = .bl true) fun _ _ _ => False := by
  refine ⟨[a], [.fro (ns.map T.int)], [.ref 0], fun t _ => t = .bl true, ⟨rfl, fun i o e => ?_, fun i j b oi oj ei ej hi => ?_⟩, .cons (.ref rfl) .nil, ⟨ns, rfl, rfl, hl, fun _ => rfl⟩, fun t h' m' H' v u r d q => ?_⟩
  · cases i with
    | succ i => simp at e
    | zero =>
      have e : some (Ob.fro (ns.map T.int)) = some o := e
      cases e
      refine ⟨a, rfl, ns.map V.int, ?_, Dens.of_ints ns⟩
      rcases hS with (h | ⟨o, h⟩) | h
      · rcases hO a with z | ⟨o, xs, z⟩
        · rw [z] at h; cases h
        · rw [z] at h; cases h
      · exact .inl ⟨o, h⟩
      · exact .inr h
  · cases i with
    | succ i => simp at ei
    | zero =>
      have ei : some (Ob.fro (ns.map T.int)) = some oi := ei
      cases ei
      cases hi
  · subst q
    cases d
    rfl
end Pu
set_option Elab.async false
set_option linter.all false
set_option maxRecDepth 100000
set_option maxHeartbeats 1000000
namespace Pu
open PySem L2
noncomputable def W_law_take : WS :=
  wSeq (wAsg (wOp pIx (wVar 0) (wC (.int 0))) (gN 2))
  (wSeq (wAsg (wOp pIx (wVar 0) (wC (.int 1))) (gN 3))
  (wSeq (wAsg (wOp pAdd (wVar 3) (wC (.int 1))) (gSb (wVar 0) (wC (.int 1)) pSet))
  (wSeq (wAsg (wC (.int 0)) (gN 4))
  (wSeq (wIf (wAnd (wTest (wOp pGt (wCB pLen (wCons (wVar 2) (wNil))) (wC (.int 0)))) (wTest (wOp pEq (wOp pMod (wOp pIx (wVar 2) (wC (.int 0))) (wC (.int 2))) (wC (.int 1))))) (wSeq (wIf (wTest (wOp pEq (wOp pMod (wVar 3) (wC (.int 60))) (wC (.int 0)))) (wAsg (wOp pFdiv (wOp pIx (wVar 2) (wOp pMod (wOp pFdiv (wVar 3) (wC (.int 60))) (wCB pLen (wCons (wVar 2) (wNil))))) (wOp pIx (wLst (wCons (wC (.int 1)) (wCons (wC (.int 2)) (wNil)))) (wCB pInt (wCons (wOp pEq (wVar 3) (wC (.int 0))) (wNil))))) (gSb (wVar 0) (wC (.int 2)) pSet)) (wNext))
  (wSeq (wAsg (wOp pIx (wVar 0) (wC (.int 2))) (gN 4))
  (wSeq (wAsg (wOp pFdiv (wVar 4) (wVar 1)) (gSb (wVar 0) (wC (.int 2)) pSet))
  (wRet (wOp pMod (wVar 4) (wVar 1)))))) (wNext))
  (wSeq (wIf (wTest (wOp pGt (wCB pLen (wCons (wVar 2) (wNil))) (wC (.int 0)))) (wAsg (wOp pMod (wOp pIx (wVar 2) (wOp pMod (wVar 3) (wCB pLen (wCons (wVar 2) (wNil))))) (wOp pPow (wC (.int 10)) (wC (.int 30)))) (gN 4)) (wNext))
  (wSeq (wAsg (wOp pMod (wOp pMul (wOp pAdd (wOp pAdd (wVar 4) (wOp pMul (wC (.int 7919)) (wVar 3))) (wC (.int 11))) (wC (.int 48271))) (wC (.int 2147483647))) (gN 5))
  (wSeq (wAsg (wOp pMod (wOp pAdd (wOp pAdd (wOp pMul (wVar 5) (wVar 5)) (wOp pMul (wC (.int 104729)) (wVar 3))) (wC (.int 13))) (wC (.int 2147483629))) (gN 5))
  (wRet (wOp pMod (wOp pFdiv (wOp pMod (wOp pMul (wVar 5) (wOp pAdd (wVar 5) (wC (.int 69621)))) (wC (.int 2147483587))) (wC (.int 5))) (wVar 1))))))))))
theorem ix31 : ixN 3 1 = some 1 := rfl
theorem ix32 : ixN 3 2 = some 2 := rfl
theorem mod_b (x m : Int) (hm : 0 < m) : 0 ≤ x % m ∧ x % m < m := ⟨Int.emod_nonneg _ (by omega), Int.emod_lt_of_pos _ hm⟩
theorem cmul_l {a b : Int} (h1 : -18446744073709551616 < a) (h2 : a < 18446744073709551616) : CMul a b := .inl ⟨h1, h2⟩
theorem cmul_r {a b : Int} (h1 : -18446744073709551616 < b) (h2 : b < 18446744073709551616) : CMul a b := .inr ⟨h1, h2⟩
noncomputable abbrev cp_law_take : CP := cpTake
noncomputable abbrev len_law_take := len_take
end Pu
set_option Elab.async false
set_option linter.all false
set_option maxRecDepth 100000
set_option maxHeartbeats 1000000
namespace ZP
open PySem PySem.Spec PyProof.Rows
open AutoSeq1 (wpAny_loadPart')
noncomputable def ItK (b : Bool) (h : Heap) (it a : Addr) (k : Nat) : Prop := match b with
  | false => h.IsListIter it a k
  | true => h.IsTupleIter it a k
noncomputable def SqK (b : Bool) (h : Heap) (a : Addr) (xs : Array Value) : Prop := match b with
  | false => h.IsList a xs
  | true => h.IsTuple a xs
noncomputable abbrev TObj (h : Heap) (T : Addr) (vs : Array Value) : Prop := h.get? T = some { cls := .type "tuple", data := .seq vs }
theorem ItK.keep {b : Bool} {h h' : Heap} {it a : Addr} {k : Nat} (x : ItK b h it a k) (e : ∀ o, h.get? it = some o → h'.get? it = some o) : ItK b h' it a k := by
  cases b with
  | false => obtain ⟨o, ho, r⟩ := x; exact ⟨o, e o ho, r⟩
  | true => obtain ⟨o, ho, r⟩ := x; exact ⟨o, e o ho, r⟩
theorem SqK.keep {b : Bool} {h h' : Heap} {a : Addr} {xs : Array Value} (x : SqK b h a xs) (e : ∀ o, h.get? a = some o → h'.get? a = some o) : SqK b h' a xs := by
  cases b with
  | false => obtain ⟨o, ho, r⟩ := x; exact ⟨o, e o ho, r⟩
  | true => obtain ⟨o, ho, r⟩ := x; exact ⟨o, e o ho, r⟩
theorem ItK.obj {b : Bool} {h : Heap} {it a : Addr} {k : Nat} (x : ItK b h it a k) : ∃ o, h.get? it = some o ∧ ∀ v, o.data ≠ .cell v := by
  cases b with
  | false => obtain ⟨o, ho, _, d⟩ := x; exact ⟨o, ho, fun v z => by rw [d] at z; cases z⟩
  | true => obtain ⟨o, ho, _, d⟩ := x; exact ⟨o, ho, fun v z => by rw [d] at z; cases z⟩
section
variable {prog : Program} {w : World} {A : Around} {E : Value → Shared → Prop} {s : Shared}
theorem nextOf_tuple_item {it l : Addr} {i : Nat} {items} {x : Value} {Q : Value → Shared → Prop} (hit : s.heap.IsTupleIter it l i)
    (hl : s.heap.IsTuple l items) (hx : items[i]? = some x)
    (hQ : ∀ h', h'.IsTupleIter it l (i + 1) → Heap.SameBut it s.heap h' → Q x { s with heap := h' }) :
    wpAny (model prog w) A (Builtin.SmallTypes.nextOf (.ref it)) Q E s := by
  obtain ⟨o, ho, hc, hd⟩ := id hit
  obtain ⟨ol, hol, _, nl, hdl⟩ := hl
  unfold Builtin.SmallTypes.nextOf
  refine wpAny_bind (wpAny_callSpecial?_slot (name := Str.ofString "__next__") hit.typeIs F.slot_tuple_iterator_next
    (wpAny_call_entry F.slot_tuple_iterator_next hit.typeIs F.entry_tuple_iterator_next ?_ (F.args_tuple_iterator_next_1 _)))
  show wpAny _ _ (field (.ref it) 0 >>= _) _ _ s
  refine wpAny_bind (wpAny_field ho hd (x := .ref l) rfl ?_)
  show wpAny _ _ (if (Value.ref l == Value.none) = true then _ else _) _ _ s
  rw [if_neg (show ¬ ((Value.ref l == Value.none) = true) from Bool.false_ne_true)]
  show wpAny _ _ (field (.ref it) 1 >>= _) _ _ s
  refine wpAny_bind (wpAny_field ho hd (x := .int i 0) rfl ?_)
  show wpAny _ _ (seqItems? (.ref l) >>= _) _ _ s
  refine wpAny_bind (wpAny_seqItems hol hdl ?_)
  simp only [Int.toNat_natCast, hx]
  refine wpAny_bind (wpAny_setField ho hd (by simp) (wpAny_pure ⟨x, rfl, wpAny_pure (hQ _ ?_ (Heap.SameBut.update ..))⟩))
  exact ⟨_, Heap.get?_update_self _ ho (Obj.isFreed_of_fields (Obj.data_mapFields hd _)), (Obj.cls_mapFields ..).trans hc, by
    rw [Obj.data_mapFields hd]; simp [rawInt]⟩
theorem nextOf_tuple_end {it l : Addr} {i : Nat} {items} {Q : Value → Shared → Prop} (hh : A.handled = none)
    (hit : s.heap.IsTupleIter it l i) (hl : s.heap.IsTuple l items) (hx : items[i]? = none)
    (hE : ∀ h' e, Heap.ExtBut it s.heap h' → (∃ o, h'.get? e = some o ∧ o.cls = .type "StopIteration") → E (.ref e) { s with heap := h' }) :
    wpAny (model prog w) A (Builtin.SmallTypes.nextOf (.ref it)) Q E s := by
  obtain ⟨o, ho, hc, hd⟩ := id hit
  obtain ⟨ol, hol, _, nl, hdl⟩ := hl
  unfold Builtin.SmallTypes.nextOf
  refine wpAny_bind (wpAny_callSpecial?_slot (name := Str.ofString "__next__") hit.typeIs F.slot_tuple_iterator_next
    (wpAny_call_entry F.slot_tuple_iterator_next hit.typeIs F.entry_tuple_iterator_next ?_ (F.args_tuple_iterator_next_1 _)))
  show wpAny _ _ (field (.ref it) 0 >>= _) _ _ s
  refine wpAny_bind (wpAny_field ho hd (x := .ref l) rfl ?_)
  show wpAny _ _ (if (Value.ref l == Value.none) = true then _ else _) _ _ s
  rw [if_neg (show ¬ ((Value.ref l == Value.none) = true) from Bool.false_ne_true)]
  show wpAny _ _ (field (.ref it) 1 >>= _) _ _ s
  refine wpAny_bind (wpAny_field ho hd (x := .int i 0) rfl ?_)
  show wpAny _ _ (seqItems? (.ref l) >>= _) _ _ s
  refine wpAny_bind (wpAny_seqItems hol hdl ?_)
  simp only [Int.toNat_natCast, hx]
  refine wpAny_bind (wpAny_rule (wpAny_bind (wpAny_setField ho hd (by simp) ?_)))
  show wpAny _ _ (newExc (.type "StopIteration") [] >>= _) _ _ _
  refine wpAny_bind ?_
  simp only [newExc, newTuple]
  refine wpAny_bind (wpAny_newObj_type ?_ (by size_fits))
  refine wpAny_bind (m := firstArgMember _ _) (wpAny_of_eq (a := Value.none) (by first | rfl | (simp only [firstArgMember]; rfl)) ?_)
  refine wpAny_newObj_type ?_ (by size_fits)
  simp only [raiseNew]
  refine wpAny_bind (wpAny_handled ?_)
  first | rw [show A.in1.handled = none from hh] | rw [hh]
  refine wpAny_bind (wpAny_pure (wpAny_throw ?_))
  exact hE _ _ (((Heap.SameBut.update ..).extBut.push _).push _) ⟨_, Heap.get?_push_size _ rfl, rfl⟩
theorem nextOf_item {b : Bool} {it l : Addr} {k : Nat} {items : Array Value} {x : Value} {Q : Value → Shared → Prop} (hit : ItK b s.heap it l k) (hl : SqK b s.heap l items) (hx : items[k]? = some x)
    (hQ : ∀ h', ItK b h' it l (k + 1) → Heap.SameBut it s.heap h' → Q x { s with heap := h' }) : wpAny (model prog w) A (Builtin.SmallTypes.nextOf (.ref it)) Q E s := by
  cases b with
  | false => exact wpAny_nextOf_list_item hit hl hx hQ
  | true => exact nextOf_tuple_item hit hl hx hQ
theorem nextOf_end {b : Bool} {it l : Addr} {k : Nat} {items : Array Value} {Q : Value → Shared → Prop} (hh : A.handled = none) (hit : ItK b s.heap it l k) (hl : SqK b s.heap l items) (hx : items[k]? = none)
    (hE : ∀ h' e, Heap.ExtBut it s.heap h' → (∃ o, h'.get? e = some o ∧ o.cls = .type "StopIteration") → E (.ref e) { s with heap := h' }) : wpAny (model prog w) A (Builtin.SmallTypes.nextOf (.ref it)) Q E s := by
  cases b with
  | false => exact wpAny_nextOf_list_end hh hit hl hx hE
  | true => exact nextOf_tuple_end hh hit hl hx hE
theorem wpAny_updateSeq_t {T : Addr} {vs : Array Value} {x : Value} {k : Nat} {Q : Unit → Shared → Prop} (hT : TObj s.heap T vs)
    (h : ∀ h', h'.get? T = some { cls := .type "tuple", data := .seq (vs.setIfInBounds k x) } → Heap.SameBut T s.heap h' → Q () { s with heap := h' }) (hs : vs.size ≤ sizeLine := by (first | (show 2 ≤ sizeLine; decide) | (show 3 ≤ sizeLine; decide))) :
    wpAny (model prog w) A (updateSeq T (·.setIfInBounds k x)) Q E s := by
  refine wpAny_updateSeq (hz := hs) (_hz' := by rw [Array.size_setIfInBounds]; omega) hT rfl (h _ ?_ (Heap.SameBut.update ..))
  rw [Heap.get?_update_self _ hT rfl]
  simp [Obj.mapSeq]
structure ZA2 (z TI TO i1 i2 l1 l2 : Addr) : Prop where
  TIz : TI ≠ z
  TOz : TO ≠ z
  TITO : TI ≠ TO
  i1z : i1 ≠ z
  TIi1 : TI ≠ i1
  TOi1 : TO ≠ i1
  l1z : l1 ≠ z
  l1TO : l1 ≠ TO
  l1i1 : l1 ≠ i1
  l1i2 : l1 ≠ i2
  i12 : i1 ≠ i2
  i2z : i2 ≠ z
  TIi2 : TI ≠ i2
  TOi2 : TO ≠ i2
  l2z : l2 ≠ z
  l2TO : l2 ≠ TO
  l2i1 : l2 ≠ i1
  l2i2 : l2 ≠ i2
theorem zip2_item {z TI TO i1 i2 l1 l2 : Addr} {b1 b2 : Bool} {k : Nat} {xs1 xs2 : Array Value} {a1 a2 : Value} {x1 x2 : Value} {Q : Value → Shared → Prop} (D : ZA2 z TI TO i1 i2 l1 l2) (hz : IsZip s.heap z TI TO .none) (hTI : TObj s.heap TI #[.ref i1, .ref i2]) (hTO : TObj s.heap TO #[a1, a2]) (h1 : ItK b1 s.heap i1 l1 k) (h2 : ItK b2 s.heap i2 l2 k) (hl1 : SqK b1 s.heap l1 xs1) (hl2 : SqK b2 s.heap l2 xs2) (hx1 : xs1[k]? = some x1) (hx2 : xs2[k]? = some x2)
    (hQ : ∀ h', IsZip h' z TI TO (rawInt s.heap.objs.size) → TObj h' TO #[x1, x2] → ItK b1 h' i1 l1 (k + 1) → ItK b2 h' i2 l2 (k + 1) → TObj h' s.heap.objs.size #[x1, x2] → h'.objs.size = s.heap.objs.size + 1 →
      (∀ c o, c ≠ z → c ≠ TO → c ≠ i1 → c ≠ i2 → s.heap.get? c = some o → h'.get? c = some o) → Q (.ref s.heap.objs.size) { s with heap := h' }) :
    wpAny (model prog w) A (Builtin.«zip.__next__» ⟨[.ref z], []⟩) (fun fin s' => ∃ v, fin = .done (.ret v) ∧ Q v s') E s := by
  show wpAny _ _ (field (.ref z) 2 >>= _) _ _ _
  refine wpAny_bind (wpAny_field hz rfl (x := .bool false) rfl ?_)
  show wpAny _ _ (field (.ref z) 3 >>= _) _ _ _
  refine wpAny_bind (wpAny_field hz rfl (x := .ref TI) rfl ?_)
  refine wpAny_bind (wpAny_seqItems hTI rfl ?_)
  show wpAny _ _ (Builtin.SmallTypes.ownedTupleIsFree (.ref z) >>= _) _ _ _
  refine wpAny_bind ?_
  unfold Builtin.SmallTypes.ownedTupleIsFree
  refine wpAny_bind (wpAny_field hz rfl (x := .none) rfl (wpAny_pure ?_))
  simp only [if_true]
  refine wpAny_bind (wpAny_rule ?_)
  refine wpAny_bind (wpAny_field hz rfl (x := .ref TO) rfl ?_)
  refine wpAny_bind (wpAny_setField_rec hz (by simp) fun g0 hz0 s0 => ?_)
  replace hz0 : IsZip g0 z TI TO .ellipsis := hz0
  refine wpAny_bind ?_
  simp only [List.zipIdx_cons, List.zipIdx_nil, List.forIn_cons, List.forIn_nil]
  have o0 : ∀ c o, c ≠ z → s.heap.get? c = some o → g0.get? c = some o := fun c o c1 e => s0.extBut _ _ c1 e
  have TO0 : TObj g0 TO #[a1, a2] := o0 _ _ D.TOz hTO
  refine wpAny_bind (wpAny_bind (wpAny_onRaise ?_))
  show wpAny _ _ (Builtin.SmallTypes.nextOf (.ref i1) >>= _) _ _ _
  refine wpAny_bind (nextOf_item (h1.keep (fun o e => o0 _ o D.i1z e)) (hl1.keep (fun o e => o0 _ o D.l1z e)) hx1 fun g1 it1 s1 => wpAny_pure ?_)
  have TO1 : TObj g1 TO #[a1, a2] := s1.extBut _ _ D.TOi1 TO0
  refine wpAny_bind (wpAny_seqItems TO1 rfl ?_)
  refine wpAny_bind (wpAny_updateSeq_t TO1 fun g2 TO2 s2 => ?_)
  replace TO2 : TObj g2 TO #[x1, a2] := TO2
  refine wpAny_bind (wpAny_letGo (wpAny_pure ?_))
  have o2 : ∀ c o, c ≠ z → c ≠ TO → c ≠ i1 → s.heap.get? c = some o → g2.get? c = some o := fun c o c1 c2 d1 e => s2.extBut _ _ c2 (s1.extBut _ _ d1 (o0 c o c1 e))
  refine wpAny_bind (wpAny_bind (wpAny_onRaise ?_))
  show wpAny _ _ (Builtin.SmallTypes.nextOf (.ref i2) >>= _) _ _ _
  refine wpAny_bind (nextOf_item (h2.keep (fun o e => o2 _ o D.i2z D.TOi2.symm D.i12.symm e)) (hl2.keep (fun o e => o2 _ o D.l2z D.l2TO D.l2i1 e)) hx2 fun g3 it2 s3 => wpAny_pure ?_)
  have TO3 : TObj g3 TO #[x1, a2] := s3.extBut _ _ D.TOi2 TO2
  refine wpAny_bind (wpAny_seqItems TO3 rfl ?_)
  refine wpAny_bind (wpAny_updateSeq_t TO3 fun g4 TO4 s4 => ?_)
  replace TO4 : TObj g4 TO #[x1, x2] := TO4
  refine wpAny_bind (wpAny_letGo (wpAny_pure (wpAny_pure ?_)))
  have o4 : ∀ c o, c ≠ z → c ≠ TO → c ≠ i1 → c ≠ i2 → s.heap.get? c = some o → g4.get? c = some o := fun c o c1 c2 d1 d2 e => s4.extBut _ _ c2 (s3.extBut _ _ d2 (o2 c o c1 c2 d1 e))
  refine wpAny_bind (wpAny_seqItems TO4 rfl ?_)
  refine wpAny_bind (wpAny_newTuple ?_)
  have hsz : g4.objs.size = s.heap.objs.size := by rw [s4.1, s3.1, s2.1, s1.1, s0.1]
  have hzL : IsZip g4 z TI TO .ellipsis := s4.extBut _ _ D.TOz.symm (s3.extBut _ _ D.i2z.symm (s2.extBut _ _ D.TOz.symm (s1.extBut _ _ D.i1z.symm (hz0))))
  have itL1 : ItK b1 g4 i1 l1 (k + 1) := it1.keep fun o e => s4.extBut _ _ D.TOi1.symm (s3.extBut _ _ D.i12 (s2.extBut _ _ D.TOi1.symm (e)))
  have itL2 : ItK b2 g4 i2 l2 (k + 1) := it2.keep fun o e => s4.extBut _ _ D.TOi2.symm (e)
  have hzlt : z < g4.objs.size := Heap.lt_size hzL
  show wpAny _ _ (Builtin.SmallTypes.ownedTupleHandOut (.ref z) (.ref g4.objs.size) >>= _) _ _ _
  refine wpAny_bind ?_
  unfold Builtin.SmallTypes.ownedTupleHandOut
  have hzP : IsZip (g4.push { cls := .type "tuple", data := .seq #[x1, x2] }) z TI TO .ellipsis := Heap.get?_push_of_some _ hzL
  refine wpAny_bind (wpAny_setField_rec hzP (by simp) fun p1 zp1 sp1 => ?_)
  replace zp1 : IsZip p1 z TI TO (rawInt g4.objs.size) := zp1
  refine wpAny_setField_rec zp1 (by simp) fun p2 zp2 sp2 => ?_
  replace zp2 : IsZip p2 z TI TO (rawInt g4.objs.size) := zp2
  have up : ∀ c o, c ≠ z → g4.get? c = some o → p2.get? c = some o := fun c o c1 e => sp2.extBut _ _ c1 (sp1.extBut _ _ c1 (Heap.get?_push_of_some _ e))
  have hTn : TObj p2 g4.objs.size #[x1, x2] := sp2.extBut _ _ (Nat.ne_of_gt hzlt) (sp1.extBut _ _ (Nat.ne_of_gt hzlt) (Heap.get?_push_size _ rfl))
  have hzn : p2.objs.size = g4.objs.size + 1 := by rw [sp2.1, sp1.1, Heap.size_push]
  rw [hsz] at zp2 hTn hzn
  refine wpAny_pure ⟨_, rfl, ?_⟩
  show Q (.ref g4.objs.size) _
  rw [hsz]
  exact hQ p2 zp2 (up _ _ D.TOz TO4) (itL1.keep fun o e => up _ o D.i1z e) (itL2.keep fun o e => up _ o D.i2z e) hTn hzn fun c o c1 c2 d1 d2 e => up c o c1 (o4 c o c1 c2 d1 d2 e)
theorem zip2_end {z TI TO i1 i2 l1 l2 : Addr} {b1 b2 : Bool} {k : Nat} {xs1 xs2 : Array Value} {a1 a2 : Value} {Q : Fin → Shared → Prop} (hh : A.handled = none) (D : ZA2 z TI TO i1 i2 l1 l2) (hz : IsZip s.heap z TI TO .none) (hTI : TObj s.heap TI #[.ref i1, .ref i2]) (hTO : TObj s.heap TO #[a1, a2]) (h1 : ItK b1 s.heap i1 l1 k) (h2 : ItK b2 s.heap i2 l2 k) (hl1 : SqK b1 s.heap l1 xs1) (hl2 : SqK b2 s.heap l2 xs2) (hend : xs1[k]? = none ∨ xs2[k]? = none)
    (hE : ∀ h' e, (∀ c o, c ≠ z → c ≠ TO → c ≠ i1 → c ≠ i2 → s.heap.get? c = some o → h'.get? c = some o) → (∃ o, h'.get? e = some o ∧ o.cls = .type "StopIteration") → E (.ref e) { s with heap := h' }) :
    wpAny (model prog w) A (Builtin.«zip.__next__» ⟨[.ref z], []⟩) Q E s := by
  show wpAny _ _ (field (.ref z) 2 >>= _) _ _ _
  refine wpAny_bind (wpAny_field hz rfl (x := .bool false) rfl ?_)
  show wpAny _ _ (field (.ref z) 3 >>= _) _ _ _
  refine wpAny_bind (wpAny_field hz rfl (x := .ref TI) rfl ?_)
  refine wpAny_bind (wpAny_seqItems hTI rfl ?_)
  show wpAny _ _ (Builtin.SmallTypes.ownedTupleIsFree (.ref z) >>= _) _ _ _
  refine wpAny_bind ?_
  unfold Builtin.SmallTypes.ownedTupleIsFree
  refine wpAny_bind (wpAny_field hz rfl (x := .none) rfl (wpAny_pure ?_))
  simp only [if_true]
  refine wpAny_bind (wpAny_rule ?_)
  refine wpAny_bind (wpAny_field hz rfl (x := .ref TO) rfl ?_)
  refine wpAny_bind (wpAny_setField_rec hz (by simp) fun g0 hz0 s0 => ?_)
  replace hz0 : IsZip g0 z TI TO .ellipsis := hz0
  refine wpAny_bind ?_
  simp only [List.zipIdx_cons, List.zipIdx_nil, List.forIn_cons, List.forIn_nil]
  have o0 : ∀ c o, c ≠ z → s.heap.get? c = some o → g0.get? c = some o := fun c o c1 e => s0.extBut _ _ c1 e
  have TO0 : TObj g0 TO #[a1, a2] := o0 _ _ D.TOz hTO
  refine wpAny_bind (wpAny_bind (wpAny_onRaise ?_))
  show wpAny _ _ (Builtin.SmallTypes.nextOf (.ref i1) >>= _) _ _ _
  cases hx1 : xs1[k]? with
  | none =>
    refine wpAny_bind (nextOf_end hh (h1.keep (fun o e => o0 _ o D.i1z e)) (hl1.keep (fun o e => o0 _ o D.l1z e)) hx1 fun g e se he => ?_)
    obtain ⟨oe, hoe, hce⟩ := he
    have hzE : IsZip g z TI TO .ellipsis := se _ _ D.i1z.symm (hz0)
    have hez : e ≠ z := fun x => by subst x; rw [hzE] at hoe; cases hoe; simp at hce
    refine wpAny_setField_rec hzE (by simp) fun g' _ sg => hE g' e (fun c o c1 c2 d1 d2 y => sg.extBut _ _ c1 (se _ _ d1 (o0 c o c1 y))) ⟨oe, sg.extBut _ _ hez hoe, hce⟩
  | some x1 =>
    refine wpAny_bind (nextOf_item (h1.keep (fun o e => o0 _ o D.i1z e)) (hl1.keep (fun o e => o0 _ o D.l1z e)) hx1 fun g1 it1 s1 => wpAny_pure ?_)
    have TO1 : TObj g1 TO #[a1, a2] := s1.extBut _ _ D.TOi1 TO0
    refine wpAny_bind (wpAny_seqItems TO1 rfl ?_)
    refine wpAny_bind (wpAny_updateSeq_t TO1 fun g2 TO2 s2 => ?_)
    replace TO2 : TObj g2 TO #[x1, a2] := TO2
    refine wpAny_bind (wpAny_letGo (wpAny_pure ?_))
    have o2 : ∀ c o, c ≠ z → c ≠ TO → c ≠ i1 → s.heap.get? c = some o → g2.get? c = some o := fun c o c1 c2 d1 e => s2.extBut _ _ c2 (s1.extBut _ _ d1 (o0 c o c1 e))
    refine wpAny_bind (wpAny_bind (wpAny_onRaise ?_))
    show wpAny _ _ (Builtin.SmallTypes.nextOf (.ref i2) >>= _) _ _ _
    have hx2 : xs2[k]? = none := by
      rcases hend with q | q
      · rw [hx1] at q; cases q
      · exact q
    refine wpAny_bind (nextOf_end hh (h2.keep (fun o e => o2 _ o D.i2z D.TOi2.symm D.i12.symm e)) (hl2.keep (fun o e => o2 _ o D.l2z D.l2TO D.l2i1 e)) hx2 fun g e se he => ?_)
    obtain ⟨oe, hoe, hce⟩ := he
    have hzE : IsZip g z TI TO .ellipsis := se _ _ D.i2z.symm (s2.extBut _ _ D.TOz.symm (s1.extBut _ _ D.i1z.symm (hz0)))
    have hez : e ≠ z := fun x => by subst x; rw [hzE] at hoe; cases hoe; simp at hce
    refine wpAny_setField_rec hzE (by simp) fun g' _ sg => hE g' e (fun c o c1 c2 d1 d2 y => sg.extBut _ _ c1 (se _ _ d2 (o2 c o c1 c2 d1 y))) ⟨oe, sg.extBut _ _ hez hoe, hce⟩
theorem pyNext_zip2_item {z TI TO i1 i2 l1 l2 : Addr} {b1 b2 : Bool} {k : Nat} {xs1 xs2 : Array Value} {a1 a2 : Value} {x1 x2 : Value} {Q : Option Value → Shared → Prop} (D : ZA2 z TI TO i1 i2 l1 l2) (hz : IsZip s.heap z TI TO .none) (hTI : TObj s.heap TI #[.ref i1, .ref i2]) (hTO : TObj s.heap TO #[a1, a2]) (h1 : ItK b1 s.heap i1 l1 k) (h2 : ItK b2 s.heap i2 l2 k) (hl1 : SqK b1 s.heap l1 xs1) (hl2 : SqK b2 s.heap l2 xs2) (hx1 : xs1[k]? = some x1) (hx2 : xs2[k]? = some x2)
    (hQ : ∀ h', IsZip h' z TI TO (rawInt s.heap.objs.size) → TObj h' TO #[x1, x2] → ItK b1 h' i1 l1 (k + 1) → ItK b2 h' i2 l2 (k + 1) → TObj h' s.heap.objs.size #[x1, x2] → h'.objs.size = s.heap.objs.size + 1 →
      (∀ c o, c ≠ z → c ≠ TO → c ≠ i1 → c ≠ i2 → s.heap.get? c = some o → h'.get? c = some o) → Q (some (.ref s.heap.objs.size)) { s with heap := h' }) : wpAny (model prog w) A (pyNext (.ref z)) Q E s := by
  have hT : s.TypeIs (.ref z) "zip" := ⟨_, hz, rfl⟩
  unfold pyNext
  exact wpAny_bind (wpAny_attempt (wpAny_callSpecial?_slot (name := Str.ofString "__next__") hT F.slot_zip_next
    (wpAny_call_entry F.slot_zip_next hT F.entry_zip_next
      (zip2_item D hz hTI hTO h1 h2 hl1 hl2 hx1 hx2 fun h' a1 a2 q1 q2 a5 a6 a7 => wpAny_pure (hQ h' a1 a2 q1 q2 a5 a6 a7)) (F.args_zip_next_1 _))))
theorem pyNext_zip2_end {z TI TO i1 i2 l1 l2 : Addr} {b1 b2 : Bool} {k : Nat} {xs1 xs2 : Array Value} {a1 a2 : Value} {Q : Option Value → Shared → Prop} (hh : A.handled = none) (D : ZA2 z TI TO i1 i2 l1 l2) (hz : IsZip s.heap z TI TO .none) (hTI : TObj s.heap TI #[.ref i1, .ref i2]) (hTO : TObj s.heap TO #[a1, a2]) (h1 : ItK b1 s.heap i1 l1 k) (h2 : ItK b2 s.heap i2 l2 k) (hl1 : SqK b1 s.heap l1 xs1) (hl2 : SqK b2 s.heap l2 xs2) (hend : xs1[k]? = none ∨ xs2[k]? = none)
    (hQ : ∀ h', (∀ c o, c ≠ z → c ≠ TO → c ≠ i1 → c ≠ i2 → s.heap.get? c = some o → h'.get? c = some o) → Q none { s with heap := h' }) : wpAny (model prog w) A (pyNext (.ref z)) Q E s := by
  have hT : s.TypeIs (.ref z) "zip" := ⟨_, hz, rfl⟩
  unfold pyNext
  refine wpAny_bind (wpAny_attempt (wpAny_callSpecial?_slot (name := Str.ofString "__next__") hT F.slot_zip_next
    (wpAny_call_entry F.slot_zip_next hT F.entry_zip_next (zip2_end hh D hz hTI hTO h1 h2 hl1 hl2 hend fun h' e hk he => ?_) (F.args_zip_next_1 _))))
  obtain ⟨o, ho, hc⟩ := he
  refine wpAny_bind (wpAny_isInstance (T := "StopIteration") (b := true) ⟨o, ho, hc⟩ isSubtype_stop ?_)
  exact wpAny_pure (hQ _ hk)
structure ZA3 (z TI TO i1 i2 i3 l1 l2 l3 : Addr) : Prop where
  TIz : TI ≠ z
  TOz : TO ≠ z
  TITO : TI ≠ TO
  i1z : i1 ≠ z
  TIi1 : TI ≠ i1
  TOi1 : TO ≠ i1
  l1z : l1 ≠ z
  l1TO : l1 ≠ TO
  l1i1 : l1 ≠ i1
  l1i2 : l1 ≠ i2
  i12 : i1 ≠ i2
  l1i3 : l1 ≠ i3
  i13 : i1 ≠ i3
  i2z : i2 ≠ z
  TIi2 : TI ≠ i2
  TOi2 : TO ≠ i2
  l2z : l2 ≠ z
  l2TO : l2 ≠ TO
  l2i1 : l2 ≠ i1
  l2i2 : l2 ≠ i2
  l2i3 : l2 ≠ i3
  i23 : i2 ≠ i3
  i3z : i3 ≠ z
  TIi3 : TI ≠ i3
  TOi3 : TO ≠ i3
  l3z : l3 ≠ z
  l3TO : l3 ≠ TO
  l3i1 : l3 ≠ i1
  l3i2 : l3 ≠ i2
  l3i3 : l3 ≠ i3
theorem zip3_item {z TI TO i1 i2 i3 l1 l2 l3 : Addr} {b1 b2 b3 : Bool} {k : Nat} {xs1 xs2 xs3 : Array Value} {a1 a2 a3 : Value} {x1 x2 x3 : Value} {Q : Value → Shared → Prop} (D : ZA3 z TI TO i1 i2 i3 l1 l2 l3) (hz : IsZip s.heap z TI TO .none) (hTI : TObj s.heap TI #[.ref i1, .ref i2, .ref i3]) (hTO : TObj s.heap TO #[a1, a2, a3]) (h1 : ItK b1 s.heap i1 l1 k) (h2 : ItK b2 s.heap i2 l2 k) (h3 : ItK b3 s.heap i3 l3 k) (hl1 : SqK b1 s.heap l1 xs1) (hl2 : SqK b2 s.heap l2 xs2) (hl3 : SqK b3 s.heap l3 xs3) (hx1 : xs1[k]? = some x1) (hx2 : xs2[k]? = some x2) (hx3 : xs3[k]? = some x3)
    (hQ : ∀ h', IsZip h' z TI TO (rawInt s.heap.objs.size) → TObj h' TO #[x1, x2, x3] → ItK b1 h' i1 l1 (k + 1) → ItK b2 h' i2 l2 (k + 1) → ItK b3 h' i3 l3 (k + 1) → TObj h' s.heap.objs.size #[x1, x2, x3] → h'.objs.size = s.heap.objs.size + 1 →
      (∀ c o, c ≠ z → c ≠ TO → c ≠ i1 → c ≠ i2 → c ≠ i3 → s.heap.get? c = some o → h'.get? c = some o) → Q (.ref s.heap.objs.size) { s with heap := h' }) :
    wpAny (model prog w) A (Builtin.«zip.__next__» ⟨[.ref z], []⟩) (fun fin s' => ∃ v, fin = .done (.ret v) ∧ Q v s') E s := by
  show wpAny _ _ (field (.ref z) 2 >>= _) _ _ _
  refine wpAny_bind (wpAny_field hz rfl (x := .bool false) rfl ?_)
  show wpAny _ _ (field (.ref z) 3 >>= _) _ _ _
  refine wpAny_bind (wpAny_field hz rfl (x := .ref TI) rfl ?_)
  refine wpAny_bind (wpAny_seqItems hTI rfl ?_)
  show wpAny _ _ (Builtin.SmallTypes.ownedTupleIsFree (.ref z) >>= _) _ _ _
  refine wpAny_bind ?_
  unfold Builtin.SmallTypes.ownedTupleIsFree
  refine wpAny_bind (wpAny_field hz rfl (x := .none) rfl (wpAny_pure ?_))
  simp only [if_true]
  refine wpAny_bind (wpAny_rule ?_)
  refine wpAny_bind (wpAny_field hz rfl (x := .ref TO) rfl ?_)
  refine wpAny_bind (wpAny_setField_rec hz (by simp) fun g0 hz0 s0 => ?_)
  replace hz0 : IsZip g0 z TI TO .ellipsis := hz0
  refine wpAny_bind ?_
  simp only [List.zipIdx_cons, List.zipIdx_nil, List.forIn_cons, List.forIn_nil]
  have o0 : ∀ c o, c ≠ z → s.heap.get? c = some o → g0.get? c = some o := fun c o c1 e => s0.extBut _ _ c1 e
  have TO0 : TObj g0 TO #[a1, a2, a3] := o0 _ _ D.TOz hTO
  refine wpAny_bind (wpAny_bind (wpAny_onRaise ?_))
  show wpAny _ _ (Builtin.SmallTypes.nextOf (.ref i1) >>= _) _ _ _
  refine wpAny_bind (nextOf_item (h1.keep (fun o e => o0 _ o D.i1z e)) (hl1.keep (fun o e => o0 _ o D.l1z e)) hx1 fun g1 it1 s1 => wpAny_pure ?_)
  have TO1 : TObj g1 TO #[a1, a2, a3] := s1.extBut _ _ D.TOi1 TO0
  refine wpAny_bind (wpAny_seqItems TO1 rfl ?_)
  refine wpAny_bind (wpAny_updateSeq_t TO1 fun g2 TO2 s2 => ?_)
  replace TO2 : TObj g2 TO #[x1, a2, a3] := TO2
  refine wpAny_bind (wpAny_letGo (wpAny_pure ?_))
  have o2 : ∀ c o, c ≠ z → c ≠ TO → c ≠ i1 → s.heap.get? c = some o → g2.get? c = some o := fun c o c1 c2 d1 e => s2.extBut _ _ c2 (s1.extBut _ _ d1 (o0 c o c1 e))
  refine wpAny_bind (wpAny_bind (wpAny_onRaise ?_))
  show wpAny _ _ (Builtin.SmallTypes.nextOf (.ref i2) >>= _) _ _ _
  refine wpAny_bind (nextOf_item (h2.keep (fun o e => o2 _ o D.i2z D.TOi2.symm D.i12.symm e)) (hl2.keep (fun o e => o2 _ o D.l2z D.l2TO D.l2i1 e)) hx2 fun g3 it2 s3 => wpAny_pure ?_)
  have TO3 : TObj g3 TO #[x1, a2, a3] := s3.extBut _ _ D.TOi2 TO2
  refine wpAny_bind (wpAny_seqItems TO3 rfl ?_)
  refine wpAny_bind (wpAny_updateSeq_t TO3 fun g4 TO4 s4 => ?_)
  replace TO4 : TObj g4 TO #[x1, x2, a3] := TO4
  refine wpAny_bind (wpAny_letGo (wpAny_pure ?_))
  have o4 : ∀ c o, c ≠ z → c ≠ TO → c ≠ i1 → c ≠ i2 → s.heap.get? c = some o → g4.get? c = some o := fun c o c1 c2 d1 d2 e => s4.extBut _ _ c2 (s3.extBut _ _ d2 (o2 c o c1 c2 d1 e))
  refine wpAny_bind (wpAny_bind (wpAny_onRaise ?_))
  show wpAny _ _ (Builtin.SmallTypes.nextOf (.ref i3) >>= _) _ _ _
  refine wpAny_bind (nextOf_item (h3.keep (fun o e => o4 _ o D.i3z D.TOi3.symm D.i13.symm D.i23.symm e)) (hl3.keep (fun o e => o4 _ o D.l3z D.l3TO D.l3i1 D.l3i2 e)) hx3 fun g5 it3 s5 => wpAny_pure ?_)
  have TO5 : TObj g5 TO #[x1, x2, a3] := s5.extBut _ _ D.TOi3 TO4
  refine wpAny_bind (wpAny_seqItems TO5 rfl ?_)
  refine wpAny_bind (wpAny_updateSeq_t TO5 fun g6 TO6 s6 => ?_)
  replace TO6 : TObj g6 TO #[x1, x2, x3] := TO6
  refine wpAny_bind (wpAny_letGo (wpAny_pure (wpAny_pure ?_)))
  have o6 : ∀ c o, c ≠ z → c ≠ TO → c ≠ i1 → c ≠ i2 → c ≠ i3 → s.heap.get? c = some o → g6.get? c = some o := fun c o c1 c2 d1 d2 d3 e => s6.extBut _ _ c2 (s5.extBut _ _ d3 (o4 c o c1 c2 d1 d2 e))
  refine wpAny_bind (wpAny_seqItems TO6 rfl ?_)
  refine wpAny_bind (wpAny_newTuple ?_)
  have hsz : g6.objs.size = s.heap.objs.size := by rw [s6.1, s5.1, s4.1, s3.1, s2.1, s1.1, s0.1]
  have hzL : IsZip g6 z TI TO .ellipsis := s6.extBut _ _ D.TOz.symm (s5.extBut _ _ D.i3z.symm (s4.extBut _ _ D.TOz.symm (s3.extBut _ _ D.i2z.symm (s2.extBut _ _ D.TOz.symm (s1.extBut _ _ D.i1z.symm (hz0))))))
  have itL1 : ItK b1 g6 i1 l1 (k + 1) := it1.keep fun o e => s6.extBut _ _ D.TOi1.symm (s5.extBut _ _ D.i13 (s4.extBut _ _ D.TOi1.symm (s3.extBut _ _ D.i12 (s2.extBut _ _ D.TOi1.symm (e)))))
  have itL2 : ItK b2 g6 i2 l2 (k + 1) := it2.keep fun o e => s6.extBut _ _ D.TOi2.symm (s5.extBut _ _ D.i23 (s4.extBut _ _ D.TOi2.symm (e)))
  have itL3 : ItK b3 g6 i3 l3 (k + 1) := it3.keep fun o e => s6.extBut _ _ D.TOi3.symm (e)
  have hzlt : z < g6.objs.size := Heap.lt_size hzL
  show wpAny _ _ (Builtin.SmallTypes.ownedTupleHandOut (.ref z) (.ref g6.objs.size) >>= _) _ _ _
  refine wpAny_bind ?_
  unfold Builtin.SmallTypes.ownedTupleHandOut
  have hzP : IsZip (g6.push { cls := .type "tuple", data := .seq #[x1, x2, x3] }) z TI TO .ellipsis := Heap.get?_push_of_some _ hzL
  refine wpAny_bind (wpAny_setField_rec hzP (by simp) fun p1 zp1 sp1 => ?_)
  replace zp1 : IsZip p1 z TI TO (rawInt g6.objs.size) := zp1
  refine wpAny_setField_rec zp1 (by simp) fun p2 zp2 sp2 => ?_
  replace zp2 : IsZip p2 z TI TO (rawInt g6.objs.size) := zp2
  have up : ∀ c o, c ≠ z → g6.get? c = some o → p2.get? c = some o := fun c o c1 e => sp2.extBut _ _ c1 (sp1.extBut _ _ c1 (Heap.get?_push_of_some _ e))
  have hTn : TObj p2 g6.objs.size #[x1, x2, x3] := sp2.extBut _ _ (Nat.ne_of_gt hzlt) (sp1.extBut _ _ (Nat.ne_of_gt hzlt) (Heap.get?_push_size _ rfl))
  have hzn : p2.objs.size = g6.objs.size + 1 := by rw [sp2.1, sp1.1, Heap.size_push]
  rw [hsz] at zp2 hTn hzn
  refine wpAny_pure ⟨_, rfl, ?_⟩
  show Q (.ref g6.objs.size) _
  rw [hsz]
  exact hQ p2 zp2 (up _ _ D.TOz TO6) (itL1.keep fun o e => up _ o D.i1z e) (itL2.keep fun o e => up _ o D.i2z e) (itL3.keep fun o e => up _ o D.i3z e) hTn hzn fun c o c1 c2 d1 d2 d3 e => up c o c1 (o6 c o c1 c2 d1 d2 d3 e)
theorem zip3_end {z TI TO i1 i2 i3 l1 l2 l3 : Addr} {b1 b2 b3 : Bool} {k : Nat} {xs1 xs2 xs3 : Array Value} {a1 a2 a3 : Value} {Q : Fin → Shared → Prop} (hh : A.handled = none) (D : ZA3 z TI TO i1 i2 i3 l1 l2 l3) (hz : IsZip s.heap z TI TO .none) (hTI : TObj s.heap TI #[.ref i1, .ref i2, .ref i3]) (hTO : TObj s.heap TO #[a1, a2, a3]) (h1 : ItK b1 s.heap i1 l1 k) (h2 : ItK b2 s.heap i2 l2 k) (h3 : ItK b3 s.heap i3 l3 k) (hl1 : SqK b1 s.heap l1 xs1) (hl2 : SqK b2 s.heap l2 xs2) (hl3 : SqK b3 s.heap l3 xs3) (hend : xs1[k]? = none ∨ xs2[k]? = none ∨ xs3[k]? = none)
    (hE : ∀ h' e, (∀ c o, c ≠ z → c ≠ TO → c ≠ i1 → c ≠ i2 → c ≠ i3 → s.heap.get? c = some o → h'.get? c = some o) → (∃ o, h'.get? e = some o ∧ o.cls = .type "StopIteration") → E (.ref e) { s with heap := h' }) :
    wpAny (model prog w) A (Builtin.«zip.__next__» ⟨[.ref z], []⟩) Q E s := by
  show wpAny _ _ (field (.ref z) 2 >>= _) _ _ _
  refine wpAny_bind (wpAny_field hz rfl (x := .bool false) rfl ?_)
  show wpAny _ _ (field (.ref z) 3 >>= _) _ _ _
  refine wpAny_bind (wpAny_field hz rfl (x := .ref TI) rfl ?_)
  refine wpAny_bind (wpAny_seqItems hTI rfl ?_)
  show wpAny _ _ (Builtin.SmallTypes.ownedTupleIsFree (.ref z) >>= _) _ _ _
  refine wpAny_bind ?_
  unfold Builtin.SmallTypes.ownedTupleIsFree
  refine wpAny_bind (wpAny_field hz rfl (x := .none) rfl (wpAny_pure ?_))
  simp only [if_true]
  refine wpAny_bind (wpAny_rule ?_)
  refine wpAny_bind (wpAny_field hz rfl (x := .ref TO) rfl ?_)
  refine wpAny_bind (wpAny_setField_rec hz (by simp) fun g0 hz0 s0 => ?_)
  replace hz0 : IsZip g0 z TI TO .ellipsis := hz0
  refine wpAny_bind ?_
  simp only [List.zipIdx_cons, List.zipIdx_nil, List.forIn_cons, List.forIn_nil]
  have o0 : ∀ c o, c ≠ z → s.heap.get? c = some o → g0.get? c = some o := fun c o c1 e => s0.extBut _ _ c1 e
  have TO0 : TObj g0 TO #[a1, a2, a3] := o0 _ _ D.TOz hTO
  refine wpAny_bind (wpAny_bind (wpAny_onRaise ?_))
  show wpAny _ _ (Builtin.SmallTypes.nextOf (.ref i1) >>= _) _ _ _
  cases hx1 : xs1[k]? with
  | none =>
    refine wpAny_bind (nextOf_end hh (h1.keep (fun o e => o0 _ o D.i1z e)) (hl1.keep (fun o e => o0 _ o D.l1z e)) hx1 fun g e se he => ?_)
    obtain ⟨oe, hoe, hce⟩ := he
    have hzE : IsZip g z TI TO .ellipsis := se _ _ D.i1z.symm (hz0)
    have hez : e ≠ z := fun x => by subst x; rw [hzE] at hoe; cases hoe; simp at hce
    refine wpAny_setField_rec hzE (by simp) fun g' _ sg => hE g' e (fun c o c1 c2 d1 d2 d3 y => sg.extBut _ _ c1 (se _ _ d1 (o0 c o c1 y))) ⟨oe, sg.extBut _ _ hez hoe, hce⟩
  | some x1 =>
    refine wpAny_bind (nextOf_item (h1.keep (fun o e => o0 _ o D.i1z e)) (hl1.keep (fun o e => o0 _ o D.l1z e)) hx1 fun g1 it1 s1 => wpAny_pure ?_)
    have TO1 : TObj g1 TO #[a1, a2, a3] := s1.extBut _ _ D.TOi1 TO0
    refine wpAny_bind (wpAny_seqItems TO1 rfl ?_)
    refine wpAny_bind (wpAny_updateSeq_t TO1 fun g2 TO2 s2 => ?_)
    replace TO2 : TObj g2 TO #[x1, a2, a3] := TO2
    refine wpAny_bind (wpAny_letGo (wpAny_pure ?_))
    have o2 : ∀ c o, c ≠ z → c ≠ TO → c ≠ i1 → s.heap.get? c = some o → g2.get? c = some o := fun c o c1 c2 d1 e => s2.extBut _ _ c2 (s1.extBut _ _ d1 (o0 c o c1 e))
    refine wpAny_bind (wpAny_bind (wpAny_onRaise ?_))
    show wpAny _ _ (Builtin.SmallTypes.nextOf (.ref i2) >>= _) _ _ _
    cases hx2 : xs2[k]? with
    | none =>
      refine wpAny_bind (nextOf_end hh (h2.keep (fun o e => o2 _ o D.i2z D.TOi2.symm D.i12.symm e)) (hl2.keep (fun o e => o2 _ o D.l2z D.l2TO D.l2i1 e)) hx2 fun g e se he => ?_)
      obtain ⟨oe, hoe, hce⟩ := he
      have hzE : IsZip g z TI TO .ellipsis := se _ _ D.i2z.symm (s2.extBut _ _ D.TOz.symm (s1.extBut _ _ D.i1z.symm (hz0)))
      have hez : e ≠ z := fun x => by subst x; rw [hzE] at hoe; cases hoe; simp at hce
      refine wpAny_setField_rec hzE (by simp) fun g' _ sg => hE g' e (fun c o c1 c2 d1 d2 d3 y => sg.extBut _ _ c1 (se _ _ d2 (o2 c o c1 c2 d1 y))) ⟨oe, sg.extBut _ _ hez hoe, hce⟩
    | some x2 =>
      refine wpAny_bind (nextOf_item (h2.keep (fun o e => o2 _ o D.i2z D.TOi2.symm D.i12.symm e)) (hl2.keep (fun o e => o2 _ o D.l2z D.l2TO D.l2i1 e)) hx2 fun g3 it2 s3 => wpAny_pure ?_)
      have TO3 : TObj g3 TO #[x1, a2, a3] := s3.extBut _ _ D.TOi2 TO2
      refine wpAny_bind (wpAny_seqItems TO3 rfl ?_)
      refine wpAny_bind (wpAny_updateSeq_t TO3 fun g4 TO4 s4 => ?_)
      replace TO4 : TObj g4 TO #[x1, x2, a3] := TO4
      refine wpAny_bind (wpAny_letGo (wpAny_pure ?_))
      have o4 : ∀ c o, c ≠ z → c ≠ TO → c ≠ i1 → c ≠ i2 → s.heap.get? c = some o → g4.get? c = some o := fun c o c1 c2 d1 d2 e => s4.extBut _ _ c2 (s3.extBut _ _ d2 (o2 c o c1 c2 d1 e))
      refine wpAny_bind (wpAny_bind (wpAny_onRaise ?_))
      show wpAny _ _ (Builtin.SmallTypes.nextOf (.ref i3) >>= _) _ _ _
      have hx3 : xs3[k]? = none := by
        rcases hend with q | q | q
        · rw [hx1] at q; cases q
        · rw [hx2] at q; cases q
        · exact q
      refine wpAny_bind (nextOf_end hh (h3.keep (fun o e => o4 _ o D.i3z D.TOi3.symm D.i13.symm D.i23.symm e)) (hl3.keep (fun o e => o4 _ o D.l3z D.l3TO D.l3i1 D.l3i2 e)) hx3 fun g e se he => ?_)
      obtain ⟨oe, hoe, hce⟩ := he
      have hzE : IsZip g z TI TO .ellipsis := se _ _ D.i3z.symm (s4.extBut _ _ D.TOz.symm (s3.extBut _ _ D.i2z.symm (s2.extBut _ _ D.TOz.symm (s1.extBut _ _ D.i1z.symm (hz0)))))
      have hez : e ≠ z := fun x => by subst x; rw [hzE] at hoe; cases hoe; simp at hce
      refine wpAny_setField_rec hzE (by simp) fun g' _ sg => hE g' e (fun c o c1 c2 d1 d2 d3 y => sg.extBut _ _ c1 (se _ _ d3 (o4 c o c1 c2 d1 d2 y))) ⟨oe, sg.extBut _ _ hez hoe, hce⟩
theorem pyNext_zip3_item {z TI TO i1 i2 i3 l1 l2 l3 : Addr} {b1 b2 b3 : Bool} {k : Nat} {xs1 xs2 xs3 : Array Value} {a1 a2 a3 : Value} {x1 x2 x3 : Value} {Q : Option Value → Shared → Prop} (D : ZA3 z TI TO i1 i2 i3 l1 l2 l3) (hz : IsZip s.heap z TI TO .none) (hTI : TObj s.heap TI #[.ref i1, .ref i2, .ref i3]) (hTO : TObj s.heap TO #[a1, a2, a3]) (h1 : ItK b1 s.heap i1 l1 k) (h2 : ItK b2 s.heap i2 l2 k) (h3 : ItK b3 s.heap i3 l3 k) (hl1 : SqK b1 s.heap l1 xs1) (hl2 : SqK b2 s.heap l2 xs2) (hl3 : SqK b3 s.heap l3 xs3) (hx1 : xs1[k]? = some x1) (hx2 : xs2[k]? = some x2) (hx3 : xs3[k]? = some x3)
    (hQ : ∀ h', IsZip h' z TI TO (rawInt s.heap.objs.size) → TObj h' TO #[x1, x2, x3] → ItK b1 h' i1 l1 (k + 1) → ItK b2 h' i2 l2 (k + 1) → ItK b3 h' i3 l3 (k + 1) → TObj h' s.heap.objs.size #[x1, x2, x3] → h'.objs.size = s.heap.objs.size + 1 →
      (∀ c o, c ≠ z → c ≠ TO → c ≠ i1 → c ≠ i2 → c ≠ i3 → s.heap.get? c = some o → h'.get? c = some o) → Q (some (.ref s.heap.objs.size)) { s with heap := h' }) : wpAny (model prog w) A (pyNext (.ref z)) Q E s := by
  have hT : s.TypeIs (.ref z) "zip" := ⟨_, hz, rfl⟩
  unfold pyNext
  exact wpAny_bind (wpAny_attempt (wpAny_callSpecial?_slot (name := Str.ofString "__next__") hT F.slot_zip_next
    (wpAny_call_entry F.slot_zip_next hT F.entry_zip_next
      (zip3_item D hz hTI hTO h1 h2 h3 hl1 hl2 hl3 hx1 hx2 hx3 fun h' a1 a2 q1 q2 q3 a5 a6 a7 => wpAny_pure (hQ h' a1 a2 q1 q2 q3 a5 a6 a7)) (F.args_zip_next_1 _))))
theorem pyNext_zip3_end {z TI TO i1 i2 i3 l1 l2 l3 : Addr} {b1 b2 b3 : Bool} {k : Nat} {xs1 xs2 xs3 : Array Value} {a1 a2 a3 : Value} {Q : Option Value → Shared → Prop} (hh : A.handled = none) (D : ZA3 z TI TO i1 i2 i3 l1 l2 l3) (hz : IsZip s.heap z TI TO .none) (hTI : TObj s.heap TI #[.ref i1, .ref i2, .ref i3]) (hTO : TObj s.heap TO #[a1, a2, a3]) (h1 : ItK b1 s.heap i1 l1 k) (h2 : ItK b2 s.heap i2 l2 k) (h3 : ItK b3 s.heap i3 l3 k) (hl1 : SqK b1 s.heap l1 xs1) (hl2 : SqK b2 s.heap l2 xs2) (hl3 : SqK b3 s.heap l3 xs3) (hend : xs1[k]? = none ∨ xs2[k]? = none ∨ xs3[k]? = none)
    (hQ : ∀ h', (∀ c o, c ≠ z → c ≠ TO → c ≠ i1 → c ≠ i2 → c ≠ i3 → s.heap.get? c = some o → h'.get? c = some o) → Q none { s with heap := h' }) : wpAny (model prog w) A (pyNext (.ref z)) Q E s := by
  have hT : s.TypeIs (.ref z) "zip" := ⟨_, hz, rfl⟩
  unfold pyNext
  refine wpAny_bind (wpAny_attempt (wpAny_callSpecial?_slot (name := Str.ofString "__next__") hT F.slot_zip_next
    (wpAny_call_entry F.slot_zip_next hT F.entry_zip_next (zip3_end hh D hz hTI hTO h1 h2 h3 hl1 hl2 hl3 hend fun h' e hk he => ?_) (F.args_zip_next_1 _))))
  obtain ⟨o, ho, hc⟩ := he
  refine wpAny_bind (wpAny_isInstance (T := "StopIteration") (b := true) ⟨o, ho, hc⟩ isSubtype_stop ?_)
  exact wpAny_pure (hQ _ hk)
end
end ZP
set_option Elab.async false
set_option linter.all false
set_option maxRecDepth 100000
set_option maxHeartbeats 1000000
namespace ZP
open PySem PySem.Spec PyProof.Rows L2
open AutoSeq1 (wpAny_loadPart')
noncomputable def SqB (K : PySem.W.Frag) (b : Bool) (H : Hp) (a : Addr) (xs : List V) : Prop := match b with
  | false => SqL K H a xs
  | true => SqT K H a xs
section
variable {X : Cx} {pins : List (Addr × Obj)} {σ : L2.St} {H : Hp} {s : Shared}
theorem _root_.L2.Inv.seqB {b : Bool} {a : Addr} {xs : List V} (I : Inv X pins σ H s) (q : SqB X.K b H a xs) : ∃ us : List Value, Vals xs us ∧ SqK b s.heap a us.toArray := by
  cases b with
  | false => obtain ⟨its, r, p, _⟩ := I.list q; exact ⟨its, r, p.isList⟩
  | true => obtain ⟨its, r, p, _⟩ := I.tuple q; exact ⟨its, r, p⟩
theorem _root_.L2.Inv.seqB_inj {b : Bool} {a : Addr} {xs ys : List V} (I : Inv X pins σ H s) (q : SqB X.K b H a xs) (q' : SqB X.K b H a ys) : xs = ys := by
  cases b with
  | false => exact I.list_inj q q'
  | true => exact I.tuple_inj q q'
theorem _root_.L2.Inv.zipKeep {fp : List Addr} {h' : Heap} (I : Inv X pins σ H s) (hf : ∀ b ∈ fp, FpOk X pins H b) (hk : ∀ c o, c ∉ fp → s.heap.get? c = some o → h'.get? c = some o) : Inv X pins σ H { s with heap := h' } := by
  refine I.step (g' := s.gens) (d' := s.drawn) (t' := s.toks) (ch := fp) (fun b hb => ⟨(hf b hb).2.2.2.1, (hf b hb).2.1, (hf b hb).2.2.2.2.1, (hf b hb).2.2.2.2.2⟩) (fun b o _ _ hc e _ => hk b o hc e) (fun b o _ _ hc e _ => ⟨o.slots, hk b o hc e⟩) (fun _ _ _ _ n => n)
    (fun b o hc e => ⟨o, hk b o hc e⟩) (fun _ _ e => e) (fun _ _ _ e => e) (fun b ps e => ⟨#[], by rw [e]; simp⟩) (fun m hm => hm.at' fun o e => hk _ o (fun z => (hf _ z).2.1 rfl) e) (fun b u e => ?_) I.bare
  refine (I.hok b u e).stay (fun c v hc q => hk c v (fun z => ?_) q) (fun _ q => q) fun _ _ q => q
  rcases hc with rfl | hc
  · rw [(hf _ z).1] at e; cases e
  · rw [(hf _ z).1] at hc; cases hc
theorem _root_.L2.Inv.zipStep {fp : List Addr} {h' : Heap} {o : HO} (I : Inv X pins σ H s) (hf : ∀ b ∈ fp, FpOk X pins H b) (hl : ∀ b ∈ fp, b < s.heap.objs.size) (hk : ∀ c o, c ∉ fp → s.heap.get? c = some o → h'.get? c = some o)
    (new : ObjOk X.prog X.w (upd H s.heap.objs.size o) h' s.heap.objs.size o) : Inv X pins σ (upd H s.heap.objs.size o) { s with heap := h' } := by
  have hn : H s.heap.objs.size = none := I.hok.fresh (Nat.le_refl _)
  have nT : ∀ b u, s.heap.get? b = some u → b ≠ s.heap.objs.size := fun b u e => Nat.ne_of_lt (Heap.lt_size e)
  refine I.step (g' := s.gens) (d' := s.drawn) (t' := s.toks) (ch := fp) (fun b hb => ⟨(hf b hb).2.2.2.1, (hf b hb).2.1, (hf b hb).2.2.2.2.1, (hf b hb).2.2.2.2.2⟩) (fun b o _ _ hc e _ => hk b o hc e) (fun b o _ _ hc e _ => ⟨o.slots, hk b o hc e⟩) (fun b u _ e n => by rw [upd_ne (nT b u e)]; exact n)
    (fun b o hc e => ⟨o, hk b o hc e⟩) (fun b xs e => by rw [upd_ne (ne_of_none e hn)]; exact e) (fun b u xs e => by rw [upd_ne (ne_of_none e hn)]; exact e) (fun b ps e => ⟨#[], by rw [upd_ne (ne_of_none e hn), e]; simp⟩) (fun m hm => hm.at' fun o e => hk _ o (fun z => (hf _ z).2.1 rfl) e) (fun b u e => ?_) I.bare
  by_cases hb : b = s.heap.objs.size
  · subst hb
    rw [upd_same] at e; cases e
    exact new
  · rw [upd_ne hb] at e
    refine (I.hok b u e).stay (fun c v hc q => hk c v (fun z => ?_) q) (fun c q => by rw [upd_ne (ne_of_none q hn)]; exact q) fun c xs q => by rw [upd_ne (ne_of_none q hn)]; exact q
    rcases hc with rfl | hc
    · rw [(hf _ z).1] at e; cases e
    · rw [(hf _ z).1] at hc; cases hc
end
theorem pyIter_K {prog : Program} {w : World} {A : Around} {E : Value → Shared → Prop} {s : Shared} {b : Bool} {a : Addr} {xs : Array Value} {Q : Value → Shared → Prop} (h : SqK b s.heap a xs)
    (hQ : ∀ h', (∀ c o, s.heap.get? c = some o → h'.get? c = some o) → ItK b h' s.heap.objs.size a 0 → h'.objs.size = s.heap.objs.size + 1 → Q (.ref s.heap.objs.size) { s with heap := h' }) : wpAny (model prog w) A (pyIter (.ref a)) Q E s := by
  cases b with
  | false => exact wpAny_pyIter_list h (hQ _ (fun c o e => Heap.get?_push_of_some _ e) ⟨_, Heap.get?_push_size _ rfl, rfl, rfl⟩ (Heap.size_push ..))
  | true => exact wpAny_pyIter_tuple h (hQ _ (fun c o e => Heap.get?_push_of_some _ e) ⟨_, Heap.get?_push_size _ rfl, rfl, rfl⟩ (Heap.size_push ..))
noncomputable def Itz2 (K : PySem.W.Frag) (b1 : Bool) (a1 : Addr) (b2 : Bool) (a2 : Addr) : It :=
  ⟨fun i H => ∃ xs1 x1 xs2 x2, SqB K b1 H a1 xs1 ∧ xs1[i]? = some x1 ∧ SqB K b2 H a2 xs2 ∧ xs2[i]? = some x2, fun i H v H' => ∃ p x1 x2, H p = none ∧ H' = upd H p (.tup [x1, x2]) ∧ v = .ref p ∧ (∀ xs, SqB K b1 H a1 xs → xs[i]? = some x1) ∧ (∀ xs, SqB K b2 H a2 xs → xs[i]? = some x2), fun i H => ∃ xs1 xs2, SqB K b1 H a1 xs1 ∧ SqB K b2 H a2 xs2 ∧ (xs1.length ≤ i ∨ xs2.length ≤ i)⟩
theorem turn_zip2 {P : Program} {w : World} {K : PySem.W.Frag} {es : List Expr} {ek : Nat} {ep : Pos} {z TI TO i1 i2 a1 a2 : Addr} {b1 b2 : Bool} (D : ZA2 z TI TO i1 i2 a1 a2) :
    Turn P w K (.Tuple es ek ep) (Itz2 K b1 a1 b2 a2) [z, TI, TO, i1, i2] z (fun i h => IsZip h z TI TO .none ∧ TObj h TI #[.ref i1, .ref i2] ∧ (∃ u1 u2, TObj h TO #[u1, u2]) ∧ ItK b1 h i1 a1 i ∧ ItK b2 h i2 a2 i) where
  mem := by simp
  obj := fun i h st b hb => by
    obtain ⟨hz, hTI, ⟨u1, u2, hTO⟩, h1, h2⟩ := st
    simp only [List.mem_cons, List.not_mem_nil, or_false] at hb
    rcases hb with rfl | rfl | rfl | rfl | rfl
    · exact ⟨_, hz, fun v z => by cases z⟩
    · exact ⟨_, hTI, fun v z => by cases z⟩
    · exact ⟨_, hTO, fun v z => by cases z⟩
    · exact h1.obj
    · exact h2.obj
  keep := fun i h h' st k => by
    obtain ⟨hz, hTI, ⟨u1, u2, hTO⟩, h1, h2⟩ := st
    exact ⟨k z (by simp) _ hz, k TI (by simp) _ hTI, ⟨u1, u2, k TO (by simp) _ hTO⟩, h1.keep fun o e => k i1 (by simp) o e, h2.keep fun o e => k i2 (by simp) o e⟩
  item := by
    intro X hP hw hK hc i pins s σ H E I hf st hg
    subst hP hw hK
    obtain ⟨hz, hTI, ⟨u1, u2, hTO⟩, h1, h2⟩ := st
    obtain ⟨xs1, x1, xs2, x2, q1, e1, q2, e2⟩ := hg
    obtain ⟨us1, rv1, sq1⟩ := I.seqB q1
    obtain ⟨us2, rv2, sq2⟩ := I.seqB q2
    obtain ⟨w1, hw1, rw1⟩ := rv1.get e1
    obtain ⟨w2, hw2, rw2⟩ := rv2.get e2
    refine pyNext_zip2_item D hz hTI hTO h1 h2 sq1 sq2 (by simpa using hw1) (by simpa using hw2) fun h' z1 t1 j1 j2 tn1 sz1 hk => ?_
    have fne : ∀ b ∈ [z, TI, TO, i1, i2], b < s.heap.objs.size := fun b hb => by
      simp only [List.mem_cons, List.not_mem_nil, or_false] at hb
      rcases hb with rfl | rfl | rfl | rfl | rfl
      · exact Heap.lt_size hz
      · exact Heap.lt_size hTI
      · exact Heap.lt_size hTO
      · obtain ⟨o, e, _⟩ := h1.obj; exact Heap.lt_size e
      · obtain ⟨o, e, _⟩ := h2.obj; exact Heap.lt_size e
    have hkk : ∀ c o, c ∉ [z, TI, TO, i1, i2] → s.heap.get? c = some o → h'.get? c = some o := fun c o hc e => by
      simp only [List.mem_cons, List.not_mem_nil, or_false, not_or] at hc
      exact hk c o hc.1 hc.2.2.1 hc.2.2.2.1 hc.2.2.2.2 e
    have hn : H s.heap.objs.size = none := I.hok.fresh (Nat.le_refl _)
    have I1 : Inv X pins σ (upd H s.heap.objs.size (.tup [x1, x2])) { s with heap := h' } := by
      refine I.zipStep (fp := [z, TI, TO, i1, i2]) hf fne hkk ?_
      exact ⟨by show 2 ≤ sizeLine; decide, [w1, w2], .cons rw1 (.cons rw2 (.nil)), ⟨_, tn1, rfl, _, rfl⟩, _, tn1, rfl⟩
    refine ⟨_, rfl, wpAny_letOwnedTupleGo_zip (s := { s with heap := h' }) z1 fun h2 z2 s2 => ?_⟩
    obtain ⟨f0, f1, f2, f3, f4, f5⟩ := hf z (by simp)
    have hzT : z ≠ s.heap.objs.size := Nat.ne_of_lt (fne z (by simp))
    have I2 : Inv X pins σ (upd H s.heap.objs.size (.tup [x1, x2])) { s with heap := h2 } := I1.turned (s := { s with heap := h' }) (t' := s.toks) (it := z) (fun b o hb e => (s2.2 b hb).trans e) (by rw [upd_ne hzT]; exact f0) f1 f3 f4 f5
    refine ⟨.ref s.heap.objs.size, _, I2, rfl, ⟨s.heap.objs.size, x1, x2, hn, rfl, rfl, fun xs q => by rw [I.seqB_inj q q1]; exact e1, fun xs q => by rw [I.seqB_inj q q2]; exact e2⟩, ⟨z2, ?_, ⟨w1, w2, s2.extBut _ _ D.TOz t1⟩, j1.keep fun o e => s2.extBut _ _ D.i1z e, j2.keep fun o e => s2.extBut _ _ D.i2z e⟩, fun b hb => ?_⟩
    · exact s2.extBut _ _ D.TIz (hk _ _ D.TIz D.TITO D.TIi1 D.TIi2 hTI)
    · rw [upd_ne (Nat.ne_of_lt (fne b hb))]; exact (hf b hb).1
  done := by
    intro X hP hw hK hc i pins s σ H E I hf st hg
    subst hP hw hK
    obtain ⟨hz, hTI, ⟨u1, u2, hTO⟩, h1, h2⟩ := st
    obtain ⟨xs1, xs2, q1, q2, hend⟩ := hg
    obtain ⟨us1, rv1, sq1⟩ := I.seqB q1
    obtain ⟨us2, rv2, sq2⟩ := I.seqB q2
    have fne : ∀ b ∈ [z, TI, TO, i1, i2], b < s.heap.objs.size := fun b hb => by
      simp only [List.mem_cons, List.not_mem_nil, or_false] at hb
      rcases hb with rfl | rfl | rfl | rfl | rfl
      · exact Heap.lt_size hz
      · exact Heap.lt_size hTI
      · exact Heap.lt_size hTO
      · obtain ⟨o, e, _⟩ := h1.obj; exact Heap.lt_size e
      · obtain ⟨o, e, _⟩ := h2.obj; exact Heap.lt_size e
    refine pyNext_zip2_end (I.ok.hd hc) D hz hTI hTO h1 h2 sq1 sq2 ?_ fun h' hk => ⟨rfl, ?_⟩
    · rcases hend with q | q
      · exact .inl (by rw [List.getElem?_toArray]; exact List.getElem?_eq_none (by rw [← rv1.length]; exact q))
      · exact .inr ((by rw [List.getElem?_toArray]; exact List.getElem?_eq_none (by rw [← rv2.length]; exact q)))
    · refine I.zipKeep (fp := [z, TI, TO, i1, i2]) hf fun c o hc e => ?_
      simp only [List.mem_cons, List.not_mem_nil, or_false, not_or] at hc
      exact hk c o hc.1 hc.2.2.1 hc.2.2.2.1 hc.2.2.2.2 e
  self := fun _ _ _ _ _ st h => wpAny_pyIter_zip st.1 h
theorem typeCall_zip_2x (v1 v2 : Value) : checkTypeCall "zip" ⟨[v1, v2], []⟩ = pure () := by kernel_rfl
theorem newCall_zip_2x (v1 v2 : Value) : checkBuiltinCall "zip.__new__" ⟨[.type "zip", v1, v2], []⟩ = pure () := by kernel_rfl
theorem args_object_init_2x (o v1 v2 : Value) : argsOk "object.__init__" ⟨[o, v1, v2], []⟩ := by
  unfold argsOk; rw [signature?_of (id := "object.__init__") (n := ['_', '_', 't', 'i', 'n', 'i', '_', '_']) (o := ['t', 'c', 'e', 'j', 'b', 'o']) (by kernel_rfl) F.owner_object]; kernel_rfl
theorem meets_zip_new2 (a1 a2 : Addr) (b1 b2 : Bool) (xs1 xs2 : Array Value) :
    Meets (Builtin.«zip.__new__» ⟨[.type "zip", .ref a1, .ref a2], []⟩) (fun _ R s => SqK b1 s.heap a1 xs1 ∧ SqK b2 s.heap a2 xs2 ∧ ∀ h', IsZip h' (s.heap.objs.size + 4) (s.heap.objs.size + 2) (s.heap.objs.size + 3) .none → TObj h' (s.heap.objs.size + 2) #[.ref s.heap.objs.size, .ref (s.heap.objs.size + 1)] → TObj h' (s.heap.objs.size + 3) #[.none, .none] → ItK b1 h' (s.heap.objs.size) a1 0 → ItK b2 h' (s.heap.objs.size + 1) a2 0 → h'.objs.size = s.heap.objs.size + 5 →
      (∀ c o, s.heap.get? c = some o → h'.get? c = some o) → R (.ok (.ret (.ref (s.heap.objs.size + 4)))) { s with heap := h' }) :=
  .of_wp fun prog w A R s h => by
    obtain ⟨hp, g, d, tk, os⟩ := s; obtain ⟨hl1, hl2, h⟩ := h
    have hsub := sub_zip
    have hL1 : SqK b1 (Shared.heap ⟨hp, g, d, tk, os⟩) a1 xs1 := hl1
    wp_walk using pyIter_K hL1
    intro g1 k1 it1 z1
    have kp1 : ∀ c o, hp.get? c = some o → g1.get? c = some o := k1
    have zz1 : g1.objs.size = hp.objs.size + 1 := z1
    have hL2 : SqK b2 (Shared.heap ⟨g1, g, d, tk, os⟩) a2 xs2 := hl2.keep fun o e => kp1 _ o e
    wp_walk using pyIter_K hL2
    intro g2 k2 it2 z2
    have kp2 : ∀ c o, hp.get? c = some o → g2.get? c = some o := fun c o e => k2 c o (kp1 c o e)
    have zz2 : g2.objs.size = hp.objs.size + 2 := by rw [z2]; show g1.objs.size + 1 = _; rw [zz1]
    wp_walk
    refine ⟨_, rfl, ?_⟩
    simp only [Heap.size_push, zz1, zz2]
    have hsz : ∀ o1 o2 o3 : Obj, (((g2.push o1).push o2).push o3).objs.size = hp.objs.size + 5 := fun o1 o2 o3 => by rw [Heap.size_push, Heap.size_push, Heap.size_push, zz2]
    have hk3 : ∀ (o1 o2 o3 : Obj) c o, g2.get? c = some o → (((g2.push o1).push o2).push o3).get? c = some o := fun o1 o2 o3 c o e => Heap.get?_push_of_some _ (Heap.get?_push_of_some _ (Heap.get?_push_of_some _ e))
    have hg1 : ∀ o1 o2 o3 : Obj, o1.isFreed = false → (((g2.push o1).push o2).push o3).get? (hp.objs.size + 2) = some o1 := fun o1 o2 o3 f => Heap.get?_push_of_some _ (Heap.get?_push_of_some _ (by rw [← zz2]; exact Heap.get?_push_size _ f))
    have hg2 : ∀ o1 o2 o3 : Obj, o2.isFreed = false → (((g2.push o1).push o2).push o3).get? (hp.objs.size + 3) = some o2 := fun o1 o2 o3 f => Heap.get?_push_of_some _ (by rw [show hp.objs.size + 3 = (g2.push o1).objs.size by rw [Heap.size_push, zz2]]; exact Heap.get?_push_size _ f)
    have hg3 : ∀ o1 o2 o3 : Obj, o3.isFreed = false → (((g2.push o1).push o2).push o3).get? (hp.objs.size + 4) = some o3 := fun o1 o2 o3 f => by rw [show hp.objs.size + 4 = ((g2.push o1).push o2).objs.size by rw [Heap.size_push, Heap.size_push, zz2]]; exact Heap.get?_push_size _ f
    exact h _ (hg3 _ _ _ rfl) (hg1 _ _ _ rfl) (hg2 _ _ _ rfl) (show ItK b1 _ (hp.objs.size) a1 0 from (by have q := it1; exact q : ItK b1 g1 (hp.objs.size) a1 0).keep fun o e => hk3 _ _ _ _ o (k2 _ o e)) (show ItK b2 _ (hp.objs.size + 1) a2 0 from (by have q := it2; simp only [zz1] at q; exact q : ItK b2 g2 (hp.objs.size + 1) a2 0).keep fun o e => hk3 _ _ _ _ o e) (hsz _ _ _) (fun c o e => hk3 _ _ _ c o (kp2 c o e))
noncomputable def Itz3 (K : PySem.W.Frag) (b1 : Bool) (a1 : Addr) (b2 : Bool) (a2 : Addr) (b3 : Bool) (a3 : Addr) : It :=
  ⟨fun i H => ∃ xs1 x1 xs2 x2 xs3 x3, SqB K b1 H a1 xs1 ∧ xs1[i]? = some x1 ∧ SqB K b2 H a2 xs2 ∧ xs2[i]? = some x2 ∧ SqB K b3 H a3 xs3 ∧ xs3[i]? = some x3, fun i H v H' => ∃ p x1 x2 x3, H p = none ∧ H' = upd H p (.tup [x1, x2, x3]) ∧ v = .ref p ∧ (∀ xs, SqB K b1 H a1 xs → xs[i]? = some x1) ∧ (∀ xs, SqB K b2 H a2 xs → xs[i]? = some x2) ∧ (∀ xs, SqB K b3 H a3 xs → xs[i]? = some x3), fun i H => ∃ xs1 xs2 xs3, SqB K b1 H a1 xs1 ∧ SqB K b2 H a2 xs2 ∧ SqB K b3 H a3 xs3 ∧ (xs1.length ≤ i ∨ xs2.length ≤ i ∨ xs3.length ≤ i)⟩
theorem turn_zip3 {P : Program} {w : World} {K : PySem.W.Frag} {es : List Expr} {ek : Nat} {ep : Pos} {z TI TO i1 i2 i3 a1 a2 a3 : Addr} {b1 b2 b3 : Bool} (D : ZA3 z TI TO i1 i2 i3 a1 a2 a3) :
    Turn P w K (.Tuple es ek ep) (Itz3 K b1 a1 b2 a2 b3 a3) [z, TI, TO, i1, i2, i3] z (fun i h => IsZip h z TI TO .none ∧ TObj h TI #[.ref i1, .ref i2, .ref i3] ∧ (∃ u1 u2 u3, TObj h TO #[u1, u2, u3]) ∧ ItK b1 h i1 a1 i ∧ ItK b2 h i2 a2 i ∧ ItK b3 h i3 a3 i) where
  mem := by simp
  obj := fun i h st b hb => by
    obtain ⟨hz, hTI, ⟨u1, u2, u3, hTO⟩, h1, h2, h3⟩ := st
    simp only [List.mem_cons, List.not_mem_nil, or_false] at hb
    rcases hb with rfl | rfl | rfl | rfl | rfl | rfl
    · exact ⟨_, hz, fun v z => by cases z⟩
    · exact ⟨_, hTI, fun v z => by cases z⟩
    · exact ⟨_, hTO, fun v z => by cases z⟩
    · exact h1.obj
    · exact h2.obj
    · exact h3.obj
  keep := fun i h h' st k => by
    obtain ⟨hz, hTI, ⟨u1, u2, u3, hTO⟩, h1, h2, h3⟩ := st
    exact ⟨k z (by simp) _ hz, k TI (by simp) _ hTI, ⟨u1, u2, u3, k TO (by simp) _ hTO⟩, h1.keep fun o e => k i1 (by simp) o e, h2.keep fun o e => k i2 (by simp) o e, h3.keep fun o e => k i3 (by simp) o e⟩
  item := by
    intro X hP hw hK hc i pins s σ H E I hf st hg
    subst hP hw hK
    obtain ⟨hz, hTI, ⟨u1, u2, u3, hTO⟩, h1, h2, h3⟩ := st
    obtain ⟨xs1, x1, xs2, x2, xs3, x3, q1, e1, q2, e2, q3, e3⟩ := hg
    obtain ⟨us1, rv1, sq1⟩ := I.seqB q1
    obtain ⟨us2, rv2, sq2⟩ := I.seqB q2
    obtain ⟨us3, rv3, sq3⟩ := I.seqB q3
    obtain ⟨w1, hw1, rw1⟩ := rv1.get e1
    obtain ⟨w2, hw2, rw2⟩ := rv2.get e2
    obtain ⟨w3, hw3, rw3⟩ := rv3.get e3
    refine pyNext_zip3_item D hz hTI hTO h1 h2 h3 sq1 sq2 sq3 (by simpa using hw1) (by simpa using hw2) (by simpa using hw3) fun h' z1 t1 j1 j2 j3 tn1 sz1 hk => ?_
    have fne : ∀ b ∈ [z, TI, TO, i1, i2, i3], b < s.heap.objs.size := fun b hb => by
      simp only [List.mem_cons, List.not_mem_nil, or_false] at hb
      rcases hb with rfl | rfl | rfl | rfl | rfl | rfl
      · exact Heap.lt_size hz
      · exact Heap.lt_size hTI
      · exact Heap.lt_size hTO
      · obtain ⟨o, e, _⟩ := h1.obj; exact Heap.lt_size e
      · obtain ⟨o, e, _⟩ := h2.obj; exact Heap.lt_size e
      · obtain ⟨o, e, _⟩ := h3.obj; exact Heap.lt_size e
    have hkk : ∀ c o, c ∉ [z, TI, TO, i1, i2, i3] → s.heap.get? c = some o → h'.get? c = some o := fun c o hc e => by
      simp only [List.mem_cons, List.not_mem_nil, or_false, not_or] at hc
      exact hk c o hc.1 hc.2.2.1 hc.2.2.2.1 hc.2.2.2.2.1 hc.2.2.2.2.2 e
    have hn : H s.heap.objs.size = none := I.hok.fresh (Nat.le_refl _)
    have I1 : Inv X pins σ (upd H s.heap.objs.size (.tup [x1, x2, x3])) { s with heap := h' } := by
      refine I.zipStep (fp := [z, TI, TO, i1, i2, i3]) hf fne hkk ?_
      exact ⟨by show 3 ≤ sizeLine; decide, [w1, w2, w3], .cons rw1 (.cons rw2 (.cons rw3 (.nil))), ⟨_, tn1, rfl, _, rfl⟩, _, tn1, rfl⟩
    refine ⟨_, rfl, wpAny_letOwnedTupleGo_zip (s := { s with heap := h' }) z1 fun h2 z2 s2 => ?_⟩
    obtain ⟨f0, f1, f2, f3, f4, f5⟩ := hf z (by simp)
    have hzT : z ≠ s.heap.objs.size := Nat.ne_of_lt (fne z (by simp))
    have I2 : Inv X pins σ (upd H s.heap.objs.size (.tup [x1, x2, x3])) { s with heap := h2 } := I1.turned (s := { s with heap := h' }) (t' := s.toks) (it := z) (fun b o hb e => (s2.2 b hb).trans e) (by rw [upd_ne hzT]; exact f0) f1 f3 f4 f5
    refine ⟨.ref s.heap.objs.size, _, I2, rfl, ⟨s.heap.objs.size, x1, x2, x3, hn, rfl, rfl, fun xs q => by rw [I.seqB_inj q q1]; exact e1, fun xs q => by rw [I.seqB_inj q q2]; exact e2, fun xs q => by rw [I.seqB_inj q q3]; exact e3⟩, ⟨z2, ?_, ⟨w1, w2, w3, s2.extBut _ _ D.TOz t1⟩, j1.keep fun o e => s2.extBut _ _ D.i1z e, j2.keep fun o e => s2.extBut _ _ D.i2z e, j3.keep fun o e => s2.extBut _ _ D.i3z e⟩, fun b hb => ?_⟩
    · exact s2.extBut _ _ D.TIz (hk _ _ D.TIz D.TITO D.TIi1 D.TIi2 D.TIi3 hTI)
    · rw [upd_ne (Nat.ne_of_lt (fne b hb))]; exact (hf b hb).1
  done := by
    intro X hP hw hK hc i pins s σ H E I hf st hg
    subst hP hw hK
    obtain ⟨hz, hTI, ⟨u1, u2, u3, hTO⟩, h1, h2, h3⟩ := st
    obtain ⟨xs1, xs2, xs3, q1, q2, q3, hend⟩ := hg
    obtain ⟨us1, rv1, sq1⟩ := I.seqB q1
    obtain ⟨us2, rv2, sq2⟩ := I.seqB q2
    obtain ⟨us3, rv3, sq3⟩ := I.seqB q3
    have fne : ∀ b ∈ [z, TI, TO, i1, i2, i3], b < s.heap.objs.size := fun b hb => by
      simp only [List.mem_cons, List.not_mem_nil, or_false] at hb
      rcases hb with rfl | rfl | rfl | rfl | rfl | rfl
      · exact Heap.lt_size hz
      · exact Heap.lt_size hTI
      · exact Heap.lt_size hTO
      · obtain ⟨o, e, _⟩ := h1.obj; exact Heap.lt_size e
      · obtain ⟨o, e, _⟩ := h2.obj; exact Heap.lt_size e
      · obtain ⟨o, e, _⟩ := h3.obj; exact Heap.lt_size e
    refine pyNext_zip3_end (I.ok.hd hc) D hz hTI hTO h1 h2 h3 sq1 sq2 sq3 ?_ fun h' hk => ⟨rfl, ?_⟩
    · rcases hend with q | q | q
      · exact .inl (by rw [List.getElem?_toArray]; exact List.getElem?_eq_none (by rw [← rv1.length]; exact q))
      · exact .inr (.inl (by rw [List.getElem?_toArray]; exact List.getElem?_eq_none (by rw [← rv2.length]; exact q)))
      · exact .inr (.inr ((by rw [List.getElem?_toArray]; exact List.getElem?_eq_none (by rw [← rv3.length]; exact q))))
    · refine I.zipKeep (fp := [z, TI, TO, i1, i2, i3]) hf fun c o hc e => ?_
      simp only [List.mem_cons, List.not_mem_nil, or_false, not_or] at hc
      exact hk c o hc.1 hc.2.2.1 hc.2.2.2.1 hc.2.2.2.2.1 hc.2.2.2.2.2 e
  self := fun _ _ _ _ _ st h => wpAny_pyIter_zip st.1 h
theorem typeCall_zip_3x (v1 v2 v3 : Value) : checkTypeCall "zip" ⟨[v1, v2, v3], []⟩ = pure () := by kernel_rfl
theorem newCall_zip_3x (v1 v2 v3 : Value) : checkBuiltinCall "zip.__new__" ⟨[.type "zip", v1, v2, v3], []⟩ = pure () := by kernel_rfl
theorem args_object_init_3x (o v1 v2 v3 : Value) : argsOk "object.__init__" ⟨[o, v1, v2, v3], []⟩ := by
  unfold argsOk; rw [signature?_of (id := "object.__init__") (n := ['_', '_', 't', 'i', 'n', 'i', '_', '_']) (o := ['t', 'c', 'e', 'j', 'b', 'o']) (by kernel_rfl) F.owner_object]; kernel_rfl
theorem meets_zip_new3 (a1 a2 a3 : Addr) (b1 b2 b3 : Bool) (xs1 xs2 xs3 : Array Value) :
    Meets (Builtin.«zip.__new__» ⟨[.type "zip", .ref a1, .ref a2, .ref a3], []⟩) (fun _ R s => SqK b1 s.heap a1 xs1 ∧ SqK b2 s.heap a2 xs2 ∧ SqK b3 s.heap a3 xs3 ∧ ∀ h', IsZip h' (s.heap.objs.size + 5) (s.heap.objs.size + 3) (s.heap.objs.size + 4) .none → TObj h' (s.heap.objs.size + 3) #[.ref s.heap.objs.size, .ref (s.heap.objs.size + 1), .ref (s.heap.objs.size + 2)] → TObj h' (s.heap.objs.size + 4) #[.none, .none, .none] → ItK b1 h' (s.heap.objs.size) a1 0 → ItK b2 h' (s.heap.objs.size + 1) a2 0 → ItK b3 h' (s.heap.objs.size + 2) a3 0 → h'.objs.size = s.heap.objs.size + 6 →
      (∀ c o, s.heap.get? c = some o → h'.get? c = some o) → R (.ok (.ret (.ref (s.heap.objs.size + 5)))) { s with heap := h' }) :=
  .of_wp fun prog w A R s h => by
    obtain ⟨hp, g, d, tk, os⟩ := s; obtain ⟨hl1, hl2, hl3, h⟩ := h
    have hsub := sub_zip
    have hL1 : SqK b1 (Shared.heap ⟨hp, g, d, tk, os⟩) a1 xs1 := hl1
    wp_walk using pyIter_K hL1
    intro g1 k1 it1 z1
    have kp1 : ∀ c o, hp.get? c = some o → g1.get? c = some o := k1
    have zz1 : g1.objs.size = hp.objs.size + 1 := z1
    have hL2 : SqK b2 (Shared.heap ⟨g1, g, d, tk, os⟩) a2 xs2 := hl2.keep fun o e => kp1 _ o e
    wp_walk using pyIter_K hL2
    intro g2 k2 it2 z2
    have kp2 : ∀ c o, hp.get? c = some o → g2.get? c = some o := fun c o e => k2 c o (kp1 c o e)
    have zz2 : g2.objs.size = hp.objs.size + 2 := by rw [z2]; show g1.objs.size + 1 = _; rw [zz1]
    have hL3 : SqK b3 (Shared.heap ⟨g2, g, d, tk, os⟩) a3 xs3 := hl3.keep fun o e => kp2 _ o e
    wp_walk using pyIter_K hL3
    intro g3 k3 it3 z3
    have kp3 : ∀ c o, hp.get? c = some o → g3.get? c = some o := fun c o e => k3 c o (kp2 c o e)
    have zz3 : g3.objs.size = hp.objs.size + 3 := by rw [z3]; show g2.objs.size + 1 = _; rw [zz2]
    wp_walk
    refine ⟨_, rfl, ?_⟩
    simp only [Heap.size_push, zz1, zz2, zz3]
    have hsz : ∀ o1 o2 o3 : Obj, (((g3.push o1).push o2).push o3).objs.size = hp.objs.size + 6 := fun o1 o2 o3 => by rw [Heap.size_push, Heap.size_push, Heap.size_push, zz3]
    have hk3 : ∀ (o1 o2 o3 : Obj) c o, g3.get? c = some o → (((g3.push o1).push o2).push o3).get? c = some o := fun o1 o2 o3 c o e => Heap.get?_push_of_some _ (Heap.get?_push_of_some _ (Heap.get?_push_of_some _ e))
    have hg1 : ∀ o1 o2 o3 : Obj, o1.isFreed = false → (((g3.push o1).push o2).push o3).get? (hp.objs.size + 3) = some o1 := fun o1 o2 o3 f => Heap.get?_push_of_some _ (Heap.get?_push_of_some _ (by rw [← zz3]; exact Heap.get?_push_size _ f))
    have hg2 : ∀ o1 o2 o3 : Obj, o2.isFreed = false → (((g3.push o1).push o2).push o3).get? (hp.objs.size + 4) = some o2 := fun o1 o2 o3 f => Heap.get?_push_of_some _ (by rw [show hp.objs.size + 4 = (g3.push o1).objs.size by rw [Heap.size_push, zz3]]; exact Heap.get?_push_size _ f)
    have hg3 : ∀ o1 o2 o3 : Obj, o3.isFreed = false → (((g3.push o1).push o2).push o3).get? (hp.objs.size + 5) = some o3 := fun o1 o2 o3 f => by rw [show hp.objs.size + 5 = ((g3.push o1).push o2).objs.size by rw [Heap.size_push, Heap.size_push, zz3]]; exact Heap.get?_push_size _ f
    exact h _ (hg3 _ _ _ rfl) (hg1 _ _ _ rfl) (hg2 _ _ _ rfl) (show ItK b1 _ (hp.objs.size) a1 0 from (by have q := it1; exact q : ItK b1 g1 (hp.objs.size) a1 0).keep fun o e => hk3 _ _ _ _ o (k3 _ o (k2 _ o e))) (show ItK b2 _ (hp.objs.size + 1) a2 0 from (by have q := it2; simp only [zz1] at q; exact q : ItK b2 g2 (hp.objs.size + 1) a2 0).keep fun o e => hk3 _ _ _ _ o (k3 _ o e)) (show ItK b3 _ (hp.objs.size + 2) a3 0 from (by have q := it3; simp only [zz1, zz2] at q; exact q : ItK b3 g3 (hp.objs.size + 2) a3 0).keep fun o e => hk3 _ _ _ _ o e) (hsz _ _ _) (fun c o e => hk3 _ _ _ c o (kp3 c o e))
end ZP
set_option Elab.async false
set_option linter.all false
set_option maxRecDepth 100000
set_option maxHeartbeats 1000000
namespace ZP
open PySem PySem.Spec PyProof.Rows L2 Pu
theorem ne_nat {a b : Nat} (h : a < b ∨ b < a) : a ≠ b := by omega
theorem vals_cons {x : V} {xs : List V} {us : List Value} (r : Vals (x :: xs) us) : ∃ u vs, us = u :: vs ∧ RelV x u ∧ Vals xs vs := by
  cases r with
  | cons r rr => exact ⟨_, _, rfl, r, rr⟩
theorem seqB_of {K : PySem.W.Frag} {m : List Addr} {h : PH} {H : Hp} {t : T} {v : V} {xs : List T} (r : Rep K m h H) (d : Den H m t v) (e : seqOf t h = some xs) :
    ∃ b a, v = .ref a ∧ (∃ vs, SqB K b H a vs) ∧ ∀ h' m' H', Up m H m' H' → Rep K m' h' H' → seqOf t h' = some xs → ∃ vs, SqB K b H' a vs ∧ Dens H' m' xs vs := by
  cases d with
  | @tup a ts vs hv ds =>
    cases e
    exact ⟨true, a, rfl, ⟨vs, .of hv⟩, fun h' m' H' u r' e' => ⟨vs, .of (u.tup _ _ hv), ds.up u⟩⟩
  | @ref n a hn =>
    obtain ⟨vs, q, _⟩ := r.sqL (seqOf_ref e) hn
    exact ⟨false, a, rfl, ⟨vs, q⟩, fun h' m' H' u r' e' => r'.sqL (seqOf_ref e') (u.sub n a hn)⟩
  | _ => cases e
theorem call_zip2K {prog : Program} {w : World} {A : Around} {E : Value → Shared → Prop} {s : Shared} {a1 a2 : Addr} {b1 b2 : Bool} {xs1 xs2 : Array Value} {Q : Value → Shared → Prop} (hl1 : SqK b1 s.heap a1 xs1) (hl2 : SqK b2 s.heap a2 xs2)
    (h : ∀ h', IsZip h' (s.heap.objs.size + 4) (s.heap.objs.size + 2) (s.heap.objs.size + 3) .none → TObj h' (s.heap.objs.size + 2) #[.ref s.heap.objs.size, .ref (s.heap.objs.size + 1)] → TObj h' (s.heap.objs.size + 3) #[.none, .none] → ItK b1 h' (s.heap.objs.size) a1 0 → ItK b2 h' (s.heap.objs.size + 1) a2 0 → h'.objs.size = s.heap.objs.size + 5 →
      (∀ c o, s.heap.get? c = some o → h'.get? c = some o) → Q (.ref (s.heap.objs.size + 4)) { s with heap := h' }) :
    wpAny (model prog w) A (call (.type "zip") [.ref a1, .ref a2]) Q E s :=
  callType_new F.called_zip (by decide) (typeCall_zip_2x _ _) (newCall_zip_2x _ _) (fun obj => args_object_init_2x obj _ _) F.entry_zip_new
    (meets_zip_new2 a1 a2 b1 b2 xs1 xs2) ⟨hl1, hl2, fun h' hz h1 h2 k1 k2 hs hk => ⟨⟨_, hz, rfl⟩, h h' hz h1 h2 k1 k2 hs hk⟩⟩
noncomputable def iZip2 (K : PySem.W.Frag) (ta : TA) : TI := fun σ H R => ta σ H fun vs H1 => ∃ b1 a1 b2 a2, vs = [.ref a1, .ref a2] ∧ (∃ xs, SqB K b1 H1 a1 xs) ∧ (∃ xs, SqB K b2 H1 a2 xs) ∧ R (Itz2 K b1 a1 b2 a2) H1
theorem pi_zip2 {X : Cx} {es : List Expr} {ek : Nat} {ep : Pos} {e1 e2 : Expr} {ta : TA} {p pos : Pos} (hg : Gl X "zip") (hm : X.mg "zip" = none) (ha : PA X [e1, e2] ta) (hs1 : starEach [e1, e2] X.env = [(false, eval e1 X.env), (false, eval e2 X.env)] := by rfl) (hs2 : starEach [e2] X.env = [(false, eval e2 X.env)] := by rfl) :
    PI X (.Tuple es ek ep) (.Call (.Name "zip" p) [e1, e2] [] pos) (iZip2 X.K ta) := by
  intro pins s0 σ H R I h
  refine Call_ (ld_blt I hg hm boot_zip (PyProof.Rows.callWith_type1 (thn (ha pos pins s0 σ H _ I h) fun us s ⟨vs, H1, I1, r1, q1⟩ => ?_) (by rw [hs1, hs2]) (by rw [hs2]; rfl)))
  obtain ⟨b1, a1, b2, a2, e, ⟨ys1, q1⟩, ⟨ys2, q2⟩, hR⟩ := q1
  subst e
  obtain ⟨u1, us1, rfl, ru1, rr1⟩ := vals_cons r1
  cases ru1
  obtain ⟨u2, us2, rfl, ru2, rr2⟩ := vals_cons rr1
  cases ru2
  cases rr2
  obtain ⟨w1, rv1, sq1⟩ := I1.seqB q1
  obtain ⟨w2, rv2, sq2⟩ := I1.seqB q2
  have hlt : ∀ {b : Bool} {a : Addr} {xs : Array Value}, SqK b s.heap a xs → a < s.heap.objs.size := fun {b a xs} q => by
    cases b with
    | false => obtain ⟨o, e, _⟩ := q; exact Heap.lt_size e
    | true => obtain ⟨o, e, _⟩ := q; exact Heap.lt_size e
  have l1 : @LT.lt Nat _ a1 s.heap.objs.size := hlt sq1
  have l2 : @LT.lt Nat _ a2 s.heap.objs.size := hlt sq2
  refine call_zip2K sq1 sq2 fun h' hz hTI hTO k1 k2 hsz hk => ?_
  have st : IsZip h' (s.heap.objs.size + 4) (s.heap.objs.size + 2) (s.heap.objs.size + 3) .none := hz
  refine wpAny_pyIter_zip (s := { s with heap := h' }) st ?_
  have D : ZA2 (s.heap.objs.size + 4) (s.heap.objs.size + 2) (s.heap.objs.size + 3) (s.heap.objs.size) (s.heap.objs.size + 1) a1 a2 := ⟨ne_nat (by omega), ne_nat (by omega), ne_nat (by omega), ne_nat (by omega), ne_nat (by omega), ne_nat (by omega), ne_nat (by omega), ne_nat (by omega), ne_nat (by omega), ne_nat (by omega), ne_nat (by omega), ne_nat (by omega), ne_nat (by omega), ne_nat (by omega), ne_nat (by omega), ne_nat (by omega), ne_nat (by omega), ne_nat (by omega)⟩
  refine ⟨_, _, _, _, H1, rfl, I1.kept (t' := s.toks) hk, turn_zip2 D, ⟨st, hTI, ⟨_, _, hTO⟩, k1, k2⟩, fun b hb => ?_, hR⟩
  have hb' : s.heap.objs.size ≤ b := by
    simp only [List.mem_cons, List.not_mem_nil, or_false] at hb
    rcases hb with rfl | rfl | rfl | rfl | rfl <;> first | exact Nat.le_refl _ | exact Nat.le_add_right _ _
  exact I1.fpOk hb' (I1.hok.fresh hb')
noncomputable def wZip2 (wa : WA) : WI := fun env h k => wa env h fun ts h1 => match ts with
  | [t1, t2] => match seqOf t1 h1, seqOf t2 h1 with
    | some xs1, some xs2 => k (List.zipWith (fun x y => T.tup [x, y]) xs1 xs2) (fun h' => seqOf t1 h' = some xs1 ∧ seqOf t2 h' = some xs2) h1
    | _, _ => False
  | _ => False
theorem Itok_zip2 {K : PySem.W.Frag} {m0 : List Addr} {H0 : Hp} {t1 t2 : T} {xs1 xs2 : List T} {b1 b2 : Bool} {a1 a2 : Addr}
    (f1 : ∀ h' m' H', Up m0 H0 m' H' → Rep K m' h' H' → seqOf t1 h' = some xs1 → ∃ vs, SqB K b1 H' a1 vs ∧ Dens H' m' xs1 vs) (f2 : ∀ h' m' H', Up m0 H0 m' H' → Rep K m' h' H' → seqOf t2 h' = some xs2 → ∃ vs, SqB K b2 H' a2 vs ∧ Dens H' m' xs2 vs) :
    ItOk K m0 H0 (List.zipWith (fun x y => T.tup [x, y]) xs1 xs2) (fun h' => seqOf t1 h' = some xs1 ∧ seqOf t2 h' = some xs2) (Itz2 K b1 a1 b2 a2) := fun i h m H u r c => by
  obtain ⟨c1, c2⟩ := c
  obtain ⟨vs1, s1, d1⟩ := f1 h m H u r c1
  obtain ⟨vs2, s2, d2⟩ := f2 h m H u r c2
  refine ⟨fun t ht => ?_, fun hl => ⟨vs1, vs2, s1, s2, ?_⟩⟩
  · obtain ⟨x1, x2, hx1, hx2, rfl⟩ := List.getElem?_zipWith_eq_some.mp ht
    obtain ⟨v1, hv1, dv1⟩ := d1.get hx1
    obtain ⟨v2, hv2, dv2⟩ := d2.get hx2
    refine ⟨⟨vs1, v1, vs2, v2, s1, hv1, s2, hv2⟩, fun v H' y => ?_⟩
    obtain ⟨p, y1, y2, hp, eH, ev, g1, g2⟩ := y
    have z1 := g1 vs1 s1
    rw [hv1] at z1; cases z1
    have z2 := g2 vs2 s2
    rw [hv2] at z2; cases z2
    subst eH ev
    exact ⟨m, .newTup hp, r.tup hp, .tup upd_same (Dens.up (.newTup hp) (.cons dv1 (.cons dv2 (.nil))))⟩
  · simp only [List.length_zipWith, List.length_zip] at hl
    have l1 := d1.length
    have l2 := d2.length
    omega
theorem rd_zip2 {K : PySem.W.Frag} {m : List Addr} {H : Hp} {R : It → Hp → Prop} {k : List T → (PH → Prop) → PH → Prop} (af : ∀ xs chk h' m' H' J, Up m H m' H' → Rep K m' h' H' → chk h' → ItOk K m' H' xs chk J → k xs chk h' → R J H')
    {t1 t2 : T} {v1 v2 : V} {h1 : PH} {m1 : List Addr} {H1 : Hp} (u1 : Up m H m1 H1) (r1 : Rep K m1 h1 H1) (d1 : Den H1 m1 t1 v1) (d2 : Den H1 m1 t2 v2)
    (q1 : match seqOf t1 h1, seqOf t2 h1 with
        | some xs1, some xs2 => k (List.zipWith (fun x y => T.tup [x, y]) xs1 xs2) (fun h' => seqOf t1 h' = some xs1 ∧ seqOf t2 h' = some xs2) h1
        | _, _ => False) : ∃ b1 a1 b2 a2, [v1, v2] = [.ref a1, .ref a2] ∧ (∃ xs, SqB K b1 H1 a1 xs) ∧ (∃ xs, SqB K b2 H1 a2 xs) ∧ R (Itz2 K b1 a1 b2 a2) H1 := by
  rcases e1 : seqOf t1 h1 with _ | xs1
  · rw [e1] at q1; exact q1.elim
  rcases e2 : seqOf t2 h1 with _ | xs2
  · rw [e1, e2] at q1; exact q1.elim
  rw [e1, e2] at q1
  obtain ⟨b1, a1, rfl, sq1, f1⟩ := seqB_of r1 d1 e1
  obtain ⟨b2, a2, rfl, sq2, f2⟩ := seqB_of r1 d2 e2
  exact ⟨b1, a1, b2, a2, rfl, sq1, sq2, af _ _ h1 m1 H1 _ u1 r1 ⟨e1, e2⟩ (Itok_zip2 f1 f2) q1⟩
theorem i_zip2 {X : Cx} {es : List Expr} {ek : Nat} {ep : Pos} {e1 e2 : Expr} {wa : WA} {p pos : Pos} (hm : X.mg "zip" = none) (ha : OA X [e1, e2] wa) (hg : Gl X "zip" := by rfl) (hs1 : starEach [e1, e2] X.env = [(false, eval e1 X.env), (false, eval e2 X.env)] := by rfl) (hs2 : starEach [e2] X.env = [(false, eval e2 X.env)] := by rfl) :
    OI X (.Tuple es ek ep) (.Call (.Name "zip" p) [e1, e2] [] pos) (wZip2 wa) :=
  PI.imp (pi_zip2 hg hm ha hs1 hs2) fun σ H R ⟨m, env, h, k, rp, en, w, af⟩ => ⟨m, env, h, _, rp, en, w, fun ts h1 m1 H1 vs u1 r1 ds q1 => by
    rcases ds with _ | ⟨d1, _ | ⟨d2, _ | ⟨_, _⟩⟩⟩
    · exact (show False from q1).elim
    · exact (show False from q1).elim
    · exact rd_zip2 af u1 r1 d1 d2 q1
    · exact (show False from q1).elim⟩
theorem call_zip3K {prog : Program} {w : World} {A : Around} {E : Value → Shared → Prop} {s : Shared} {a1 a2 a3 : Addr} {b1 b2 b3 : Bool} {xs1 xs2 xs3 : Array Value} {Q : Value → Shared → Prop} (hl1 : SqK b1 s.heap a1 xs1) (hl2 : SqK b2 s.heap a2 xs2) (hl3 : SqK b3 s.heap a3 xs3)
    (h : ∀ h', IsZip h' (s.heap.objs.size + 5) (s.heap.objs.size + 3) (s.heap.objs.size + 4) .none → TObj h' (s.heap.objs.size + 3) #[.ref s.heap.objs.size, .ref (s.heap.objs.size + 1), .ref (s.heap.objs.size + 2)] → TObj h' (s.heap.objs.size + 4) #[.none, .none, .none] → ItK b1 h' (s.heap.objs.size) a1 0 → ItK b2 h' (s.heap.objs.size + 1) a2 0 → ItK b3 h' (s.heap.objs.size + 2) a3 0 → h'.objs.size = s.heap.objs.size + 6 →
      (∀ c o, s.heap.get? c = some o → h'.get? c = some o) → Q (.ref (s.heap.objs.size + 5)) { s with heap := h' }) :
    wpAny (model prog w) A (call (.type "zip") [.ref a1, .ref a2, .ref a3]) Q E s :=
  callType_new F.called_zip (by decide) (typeCall_zip_3x _ _ _) (newCall_zip_3x _ _ _) (fun obj => args_object_init_3x obj _ _ _) F.entry_zip_new
    (meets_zip_new3 a1 a2 a3 b1 b2 b3 xs1 xs2 xs3) ⟨hl1, hl2, hl3, fun h' hz h1 h2 k1 k2 k3 hs hk => ⟨⟨_, hz, rfl⟩, h h' hz h1 h2 k1 k2 k3 hs hk⟩⟩
noncomputable def iZip3 (K : PySem.W.Frag) (ta : TA) : TI := fun σ H R => ta σ H fun vs H1 => ∃ b1 a1 b2 a2 b3 a3, vs = [.ref a1, .ref a2, .ref a3] ∧ (∃ xs, SqB K b1 H1 a1 xs) ∧ (∃ xs, SqB K b2 H1 a2 xs) ∧ (∃ xs, SqB K b3 H1 a3 xs) ∧ R (Itz3 K b1 a1 b2 a2 b3 a3) H1
theorem pi_zip3 {X : Cx} {es : List Expr} {ek : Nat} {ep : Pos} {e1 e2 e3 : Expr} {ta : TA} {p pos : Pos} (hg : Gl X "zip") (hm : X.mg "zip" = none) (ha : PA X [e1, e2, e3] ta) (hs1 : starEach [e1, e2, e3] X.env = [(false, eval e1 X.env), (false, eval e2 X.env), (false, eval e3 X.env)] := by rfl) (hs2 : starEach [e2, e3] X.env = [(false, eval e2 X.env), (false, eval e3 X.env)] := by rfl) (hs3 : starEach [e3] X.env = [(false, eval e3 X.env)] := by rfl) :
    PI X (.Tuple es ek ep) (.Call (.Name "zip" p) [e1, e2, e3] [] pos) (iZip3 X.K ta) := by
  intro pins s0 σ H R I h
  refine Call_ (ld_blt I hg hm boot_zip (PyProof.Rows.callWith_type1 (thn (ha pos pins s0 σ H _ I h) fun us s ⟨vs, H1, I1, r1, q1⟩ => ?_) (by rw [hs1, hs2]) (by rw [hs2]; rfl)))
  obtain ⟨b1, a1, b2, a2, b3, a3, e, ⟨ys1, q1⟩, ⟨ys2, q2⟩, ⟨ys3, q3⟩, hR⟩ := q1
  subst e
  obtain ⟨u1, us1, rfl, ru1, rr1⟩ := vals_cons r1
  cases ru1
  obtain ⟨u2, us2, rfl, ru2, rr2⟩ := vals_cons rr1
  cases ru2
  obtain ⟨u3, us3, rfl, ru3, rr3⟩ := vals_cons rr2
  cases ru3
  cases rr3
  obtain ⟨w1, rv1, sq1⟩ := I1.seqB q1
  obtain ⟨w2, rv2, sq2⟩ := I1.seqB q2
  obtain ⟨w3, rv3, sq3⟩ := I1.seqB q3
  have hlt : ∀ {b : Bool} {a : Addr} {xs : Array Value}, SqK b s.heap a xs → a < s.heap.objs.size := fun {b a xs} q => by
    cases b with
    | false => obtain ⟨o, e, _⟩ := q; exact Heap.lt_size e
    | true => obtain ⟨o, e, _⟩ := q; exact Heap.lt_size e
  have l1 : @LT.lt Nat _ a1 s.heap.objs.size := hlt sq1
  have l2 : @LT.lt Nat _ a2 s.heap.objs.size := hlt sq2
  have l3 : @LT.lt Nat _ a3 s.heap.objs.size := hlt sq3
  refine call_zip3K sq1 sq2 sq3 fun h' hz hTI hTO k1 k2 k3 hsz hk => ?_
  have st : IsZip h' (s.heap.objs.size + 5) (s.heap.objs.size + 3) (s.heap.objs.size + 4) .none := hz
  refine wpAny_pyIter_zip (s := { s with heap := h' }) st ?_
  have D : ZA3 (s.heap.objs.size + 5) (s.heap.objs.size + 3) (s.heap.objs.size + 4) (s.heap.objs.size) (s.heap.objs.size + 1) (s.heap.objs.size + 2) a1 a2 a3 := ⟨ne_nat (by omega), ne_nat (by omega), ne_nat (by omega), ne_nat (by omega), ne_nat (by omega), ne_nat (by omega), ne_nat (by omega), ne_nat (by omega), ne_nat (by omega), ne_nat (by omega), ne_nat (by omega), ne_nat (by omega), ne_nat (by omega), ne_nat (by omega), ne_nat (by omega), ne_nat (by omega), ne_nat (by omega), ne_nat (by omega), ne_nat (by omega), ne_nat (by omega), ne_nat (by omega), ne_nat (by omega), ne_nat (by omega), ne_nat (by omega), ne_nat (by omega), ne_nat (by omega), ne_nat (by omega), ne_nat (by omega), ne_nat (by omega), ne_nat (by omega)⟩
  refine ⟨_, _, _, _, H1, rfl, I1.kept (t' := s.toks) hk, turn_zip3 D, ⟨st, hTI, ⟨_, _, _, hTO⟩, k1, k2, k3⟩, fun b hb => ?_, hR⟩
  have hb' : s.heap.objs.size ≤ b := by
    simp only [List.mem_cons, List.not_mem_nil, or_false] at hb
    rcases hb with rfl | rfl | rfl | rfl | rfl | rfl <;> first | exact Nat.le_refl _ | exact Nat.le_add_right _ _
  exact I1.fpOk hb' (I1.hok.fresh hb')
noncomputable def wZip3 (wa : WA) : WI := fun env h k => wa env h fun ts h1 => match ts with
  | [t1, t2, t3] => match seqOf t1 h1, seqOf t2 h1, seqOf t3 h1 with
    | some xs1, some xs2, some xs3 => k (List.zipWith (fun x (p : T × T) => T.tup [x, p.1, p.2]) xs1 (xs2.zip xs3)) (fun h' => seqOf t1 h' = some xs1 ∧ seqOf t2 h' = some xs2 ∧ seqOf t3 h' = some xs3) h1
    | _, _, _ => False
  | _ => False
theorem Itok_zip3 {K : PySem.W.Frag} {m0 : List Addr} {H0 : Hp} {t1 t2 t3 : T} {xs1 xs2 xs3 : List T} {b1 b2 b3 : Bool} {a1 a2 a3 : Addr}
    (f1 : ∀ h' m' H', Up m0 H0 m' H' → Rep K m' h' H' → seqOf t1 h' = some xs1 → ∃ vs, SqB K b1 H' a1 vs ∧ Dens H' m' xs1 vs) (f2 : ∀ h' m' H', Up m0 H0 m' H' → Rep K m' h' H' → seqOf t2 h' = some xs2 → ∃ vs, SqB K b2 H' a2 vs ∧ Dens H' m' xs2 vs) (f3 : ∀ h' m' H', Up m0 H0 m' H' → Rep K m' h' H' → seqOf t3 h' = some xs3 → ∃ vs, SqB K b3 H' a3 vs ∧ Dens H' m' xs3 vs) :
    ItOk K m0 H0 (List.zipWith (fun x (p : T × T) => T.tup [x, p.1, p.2]) xs1 (xs2.zip xs3)) (fun h' => seqOf t1 h' = some xs1 ∧ seqOf t2 h' = some xs2 ∧ seqOf t3 h' = some xs3) (Itz3 K b1 a1 b2 a2 b3 a3) := fun i h m H u r c => by
  obtain ⟨c1, c2, c3⟩ := c
  obtain ⟨vs1, s1, d1⟩ := f1 h m H u r c1
  obtain ⟨vs2, s2, d2⟩ := f2 h m H u r c2
  obtain ⟨vs3, s3, d3⟩ := f3 h m H u r c3
  refine ⟨fun t ht => ?_, fun hl => ⟨vs1, vs2, vs3, s1, s2, s3, ?_⟩⟩
  · obtain ⟨x1, ⟨x2, x3⟩, hx1, hx23, rfl⟩ := List.getElem?_zipWith_eq_some.mp ht
    obtain ⟨hx2, hx3⟩ := List.getElem?_zip_eq_some.mp hx23
    obtain ⟨v1, hv1, dv1⟩ := d1.get hx1
    obtain ⟨v2, hv2, dv2⟩ := d2.get hx2
    obtain ⟨v3, hv3, dv3⟩ := d3.get hx3
    refine ⟨⟨vs1, v1, vs2, v2, vs3, v3, s1, hv1, s2, hv2, s3, hv3⟩, fun v H' y => ?_⟩
    obtain ⟨p, y1, y2, y3, hp, eH, ev, g1, g2, g3⟩ := y
    have z1 := g1 vs1 s1
    rw [hv1] at z1; cases z1
    have z2 := g2 vs2 s2
    rw [hv2] at z2; cases z2
    have z3 := g3 vs3 s3
    rw [hv3] at z3; cases z3
    subst eH ev
    exact ⟨m, .newTup hp, r.tup hp, .tup upd_same (Dens.up (.newTup hp) (.cons dv1 (.cons dv2 (.cons dv3 (.nil)))))⟩
  · simp only [List.length_zipWith, List.length_zip] at hl
    have l1 := d1.length
    have l2 := d2.length
    have l3 := d3.length
    omega
theorem rd_zip3 {K : PySem.W.Frag} {m : List Addr} {H : Hp} {R : It → Hp → Prop} {k : List T → (PH → Prop) → PH → Prop} (af : ∀ xs chk h' m' H' J, Up m H m' H' → Rep K m' h' H' → chk h' → ItOk K m' H' xs chk J → k xs chk h' → R J H')
    {t1 t2 t3 : T} {v1 v2 v3 : V} {h1 : PH} {m1 : List Addr} {H1 : Hp} (u1 : Up m H m1 H1) (r1 : Rep K m1 h1 H1) (d1 : Den H1 m1 t1 v1) (d2 : Den H1 m1 t2 v2) (d3 : Den H1 m1 t3 v3)
    (q1 : match seqOf t1 h1, seqOf t2 h1, seqOf t3 h1 with
        | some xs1, some xs2, some xs3 => k (List.zipWith (fun x (p : T × T) => T.tup [x, p.1, p.2]) xs1 (xs2.zip xs3)) (fun h' => seqOf t1 h' = some xs1 ∧ seqOf t2 h' = some xs2 ∧ seqOf t3 h' = some xs3) h1
        | _, _, _ => False) : ∃ b1 a1 b2 a2 b3 a3, [v1, v2, v3] = [.ref a1, .ref a2, .ref a3] ∧ (∃ xs, SqB K b1 H1 a1 xs) ∧ (∃ xs, SqB K b2 H1 a2 xs) ∧ (∃ xs, SqB K b3 H1 a3 xs) ∧ R (Itz3 K b1 a1 b2 a2 b3 a3) H1 := by
  rcases e1 : seqOf t1 h1 with _ | xs1
  · rw [e1] at q1; exact q1.elim
  rcases e2 : seqOf t2 h1 with _ | xs2
  · rw [e1, e2] at q1; exact q1.elim
  rcases e3 : seqOf t3 h1 with _ | xs3
  · rw [e1, e2, e3] at q1; exact q1.elim
  rw [e1, e2, e3] at q1
  obtain ⟨b1, a1, rfl, sq1, f1⟩ := seqB_of r1 d1 e1
  obtain ⟨b2, a2, rfl, sq2, f2⟩ := seqB_of r1 d2 e2
  obtain ⟨b3, a3, rfl, sq3, f3⟩ := seqB_of r1 d3 e3
  exact ⟨b1, a1, b2, a2, b3, a3, rfl, sq1, sq2, sq3, af _ _ h1 m1 H1 _ u1 r1 ⟨e1, e2, e3⟩ (Itok_zip3 f1 f2 f3) q1⟩
theorem i_zip3 {X : Cx} {es : List Expr} {ek : Nat} {ep : Pos} {e1 e2 e3 : Expr} {wa : WA} {p pos : Pos} (hm : X.mg "zip" = none) (ha : OA X [e1, e2, e3] wa) (hg : Gl X "zip" := by rfl) (hs1 : starEach [e1, e2, e3] X.env = [(false, eval e1 X.env), (false, eval e2 X.env), (false, eval e3 X.env)] := by rfl) (hs2 : starEach [e2, e3] X.env = [(false, eval e2 X.env), (false, eval e3 X.env)] := by rfl) (hs3 : starEach [e3] X.env = [(false, eval e3 X.env)] := by rfl) :
    OI X (.Tuple es ek ep) (.Call (.Name "zip" p) [e1, e2, e3] [] pos) (wZip3 wa) :=
  PI.imp (pi_zip3 hg hm ha hs1 hs2 hs3) fun σ H R ⟨m, env, h, k, rp, en, w, af⟩ => ⟨m, env, h, _, rp, en, w, fun ts h1 m1 H1 vs u1 r1 ds q1 => by
    rcases ds with _ | ⟨d1, _ | ⟨d2, _ | ⟨d3, _ | ⟨_, _⟩⟩⟩⟩
    · exact (show False from q1).elim
    · exact (show False from q1).elim
    · exact (show False from q1).elim
    · exact rd_zip3 af u1 r1 d1 d2 d3 q1
    · exact (show False from q1).elim⟩
end ZP
set_option Elab.async false
set_option linter.all false
set_option maxRecDepth 100000
namespace Pu
open PySem L2
noncomputable def idxT (h : PH) (x : T) : List T → Option Nat
  | [] => none
  | t :: r => match eqT h 39 t x with
    | some true => some 0
    | some false => (idxT h x r).map (· + 1)
    | none => none
noncomputable def wIndex (wo : WE) (wa : WA) : WE := fun env h k => wo env h fun o h1 => match seqOf o h1 with
  | some _ => wa env h1 fun ts h2 => match ts with
    | [x] => match seqOf o h2 with
      | some xs => match idxT h2 x xs with
        | some i => k (.int (i : Int)) h2
        | none => False
      | none => False
    | _ => False
  | none => False
end Pu
set_option Elab.async false
set_option linter.all false
set_option maxRecDepth 100000
namespace Pu
open PySem PySem.Spec PyProof.Rows L2 PySem.SeqAt
open PySem.AutoSeq1 (wpAny_loadPart')
open PySem.MeetsSeq PySem.MeetsSeq2 PySem.MeetsSeq3 PySem.SeqRoads2
theorem tuple_indexP (l : Addr) (items : Array Value) (n : Nat) (dd : Option Addr) (sl : Array (Option Value)) (x : Value) (e : Nat → Bool) (j : Nat) (hj : j < items.size) (hit : e j = true) (hno : ∀ m, m < j → e m = false) :
    Meets (Builtin.«tuple.index» ⟨[.ref l, x], []⟩)
      (fun A R s => s.heap.get? l = some { cls := .type "tuple", dict := dd, data := .seq items n, slots := sl } ∧ (∀ m (hm : m < items.size), m ≤ j → EqAt A.in1 s items[m] x (e m)) ∧ R (.ok (.ret (.int j s.toks))) { s with toks := s.toks + 1 }) :=
  .of_wp fun prog w A R s z => by
    obtain ⟨hp, g, d, tk, os⟩ := s
    obtain ⟨hl, he, z⟩ := z
    wp_walk using wpAny_loadPart' hl
    show wpAny (model prog w) A.in1 (forIn (m := Sem) [:min items.size items.size] ((none : Option (PySem.Fin)), ()) (fun (i : Nat) __s => match items[i]? with
            | some y => do
              let __do_lift ← eqBool y x
              if __do_lift = true then do
                  let __do_lift ← retInt (i : Int)
                  pure (ForInStep.done (some __do_lift, ()))
                else pure (ForInStep.yield (none, ()))
            | x => pure (ForInStep.yield (none, ())))) _ _ _
    rw [Std.Legacy.Range.forIn_eq_forIn_range']
    refine wpAny_forIn_list _ (fun rest b s' => b.1 = none ∧ s' = ⟨hp, g, d, tk, os⟩ ∧ ∃ i, rest = List.range' i (items.size - i) ∧ i ≤ j) _ ?_ ?_ _ _ ⟨rfl, rfl, 0, ?_, Nat.zero_le _⟩
    · rintro i rest b s' ⟨hb, rfl, k, hr, hk⟩
      have hks : k < items.size := by omega
      rw [show items.size - k = (items.size - (k + 1)) + 1 by omega, List.range'_succ] at hr
      obtain ⟨rfl, hr⟩ := List.cons.inj hr
      have hi : items[i]? = some items[i] := by simp [hks]
      simp only [hi]
      refine wpAny_bind (he i hks hk prog w _ _ ?_)
      by_cases hij : i = j
      · subst hij
        rw [hit]
        wp_walk
        exact ⟨_, rfl, z⟩
      · rw [hno i (by omega)]
        wp_walk
        exact ⟨rfl, rfl, i + 1, hr, by omega⟩
    · rintro b s' ⟨hb, rfl, k, hr, hk⟩
      exfalso
      have := congrArg List.length hr
      simp at this
      omega
    · show List.range' 0 ((min items.size items.size - 0 + 1 - 1) / 1) 1 = _
      simp
theorem list_index_fromP (l : Addr) (items : Array Value) (n : Nat) (dd : Option Addr) (sl : Array (Option Value)) (x : Value) (e : Nat → Bool) (j : Nat) (hj : j < items.size) (up : Int) (hup : (j : Int) < up) (hit : e j = true) (hno : ∀ m, m < j → e m = false) : ∀ (k i : Nat), j - i = k → i ≤ j →
    Meets (Builtin.«list.index.loop» ⟨[.ref l, x, rawInt i, rawInt up], []⟩)
      (fun A R s => s.heap.get? l = some { cls := .type "list", dict := dd, data := .seq items n, slots := sl } ∧ (∀ m (hm : m < items.size), m ≤ j → EqAt A.in1 s items[m] x (e m)) ∧ R (.ok (.ret (.int j s.toks))) { s with toks := s.toks + 1 })
  | 0, i, hk, hij => fun prog w A R s z => by
    obtain ⟨hp, g, d, tk, os⟩ := s
    obtain ⟨hl, he, z⟩ := z
    obtain rfl : i = j := by omega
    wp_walk using wpAny_loadPart' hl
    rw [show (if (i : Int) < up then items[((i : Nat) : Int).toNat]? else none) = some items[i] by simp only [hup, if_true]; simp [hj]]
    refine wpAny_bind (he i hj hij prog w _ _ ?_)
    rw [hit]
    wp_walk
    exact z
  | k + 1, i, hk, hij => fun prog w A R s z => by
    obtain ⟨hp, g, d, tk, os⟩ := s
    obtain ⟨hl, he, z⟩ := z
    have lt1 : i < items.size := by omega
    have lt2 : (i : Int) < up := by omega
    wp_walk using wpAny_loadPart' hl
    rw [show (if (i : Int) < up then items[((i : Nat) : Int).toNat]? else none) = some items[i] by simp only [lt2, if_true]; simp [lt1]]
    refine wpAny_bind (he i lt1 hij prog w _ _ ?_)
    rw [hno i (by omega)]
    wp_walk
    rw [show ((i : Int) + 1) = ((i + 1 : Nat) : Int) by omega]
    refine ⟨plainId_quiet plain_index_loop _, codeAny_builtin entry_index_loop ?_⟩
    rw [Around.under_plainId plain_index_loop _]
    exact list_index_fromP l items n dd sl x e j hj up hup hit hno k (i + 1) (by omega) (by omega) prog w A R _ ⟨hl, he, z⟩
theorem list_indexP (l : Addr) (items : Array Value) (n : Nat) (dd : Option Addr) (sl : Array (Option Value)) (x : Value) (e : Nat → Bool) (j : Nat) (hj : j < items.size) (hup : (j : Int) < 2 ^ 63 - 1) (hit : e j = true) (hno : ∀ m, m < j → e m = false) :
    Meets (Builtin.«list.index» ⟨[.ref l, x], []⟩)
      (fun A R s => s.heap.get? l = some { cls := .type "list", dict := dd, data := .seq items n, slots := sl } ∧ (∀ m (hm : m < items.size), m ≤ j → EqAt A.in1 s items[m] x (e m)) ∧ R (.ok (.ret (.int j s.toks))) { s with toks := s.toks + 1 }) := fun prog w A R s z => by
  obtain ⟨hp, g, d, tk, os⟩ := s
  obtain ⟨hl, he, z⟩ := z
  wp_walk using wpAny_loadPart' hl
  have b1 : ((fun i : Int => if i < 0 then max 0 (i + (items.size : Int)) else i) ((none : Option Int).getD 0)) = ((0 : Nat) : Int) := rfl
  have b2 : ((fun i : Int => if i < 0 then max 0 (i + (items.size : Int)) else i) ((none : Option Int).getD (2 ^ 63 - 1))) = 2 ^ 63 - 1 := by simp
  rw [b1, b2]
  refine ⟨plainId_quiet plain_index_loop _, codeAny_builtin entry_index_loop ?_⟩
  rw [Around.under_plainId plain_index_loop _]
  exact list_index_fromP l items n dd sl x e j hj _ hup hit hno _ 0 rfl (Nat.zero_le _) prog w A R _ ⟨hl, he, z⟩
theorem idxT_spec {h : PH} {x : T} : ∀ {xs : List T} {j : Nat}, idxT h x xs = some j → j < xs.length ∧ (∀ t, xs[j]? = some t → eqT h 39 t x = some true) ∧ ∀ m t, m < j → xs[m]? = some t → eqT h 39 t x = some false
  | [], j, e => by cases e
  | t :: r, j, e => by
    unfold idxT at e
    cases q : eqT h 39 t x with
    | none => rw [q] at e; cases e
    | some b =>
      rw [q] at e
      cases b with
      | true =>
        cases e
        exact ⟨by simp, fun u hu => by cases hu; exact q, fun m u hm => by omega⟩
      | false =>
        cases q2 : idxT h x r with
        | none => rw [q2] at e; cases e
        | some i =>
          rw [q2] at e
          obtain rfl : i + 1 = j := Option.some.inj e
          obtain ⟨h1, h2, h3⟩ := idxT_spec q2
          refine ⟨by simp; omega, fun u hu => h2 u (by simpa using hu), fun m u hm hu => ?_⟩
          cases m with
          | zero => cases hu; exact q
          | succ m => exact h3 m u (by omega) (by simpa using hu)
section
variable {X : Cx}
noncomputable def rIdx (K : PySem.W.Frag) : V → List V → Hp → VK → Prop := fun x vs H Q => ∃ m h o xs y vy i, vs = [vy] ∧ Rep K m h H ∧ Den H m o x ∧ Den H m y vy ∧ seqOf o h = some xs ∧ idxT h y xs = some i ∧ Q (.int (i : Int)) H
theorem items_idx {pins : List (Addr × Obj)} {σ : St} {H : Hp} {s : Shared} {m : List Addr} {h : PH} {A : Around} {y : T} {vy : V} {u : Value} {xs : List T} {vs : List V} {its : List Value} {j : Nat} (I : Inv X pins σ H s) (r : Rep X.K m h H) (hu : A.units + 40 < cLine) (dy : Den H m y vy) (ry : RelV vy u)
    (ds : Dens H m xs vs) (rv : Vals vs its) (e : idxT h y xs = some j) : ∀ k (hk : k < its.toArray.size), k ≤ j → EqAt A.in1 s its.toArray[k] u (k == j) := by
  intro k hk hkj
  obtain ⟨h1, h2, h3⟩ := idxT_spec e
  have l1 : xs.length = its.length := ds.length.trans rv.length
  rw [List.size_toArray] at hk
  have e1 : xs[k]? = some (xs[k]'(by omega)) := List.getElem?_eq_getElem (by omega)
  obtain ⟨v, hv, dv⟩ := ds.get e1
  obtain ⟨x, hx, rx⟩ := rv.get hv
  have q1 : its.toArray[k]'(by rw [List.size_toArray]; exact hk) = x := by
    have := List.getElem?_eq_getElem hk
    rw [hx] at this
    simpa using (Option.some.inj this).symm
  rw [q1]
  have hb : eqT h 39 (xs[k]'(by omega)) y = some (k == j) := by
    by_cases z : k = j
    · subst z
      rw [beq_self_eq_true]
      exact h2 _ e1
    · rw [show (k == j) = false by simpa using z]
      exact h3 k _ (by omega) e1
  exact (eq_at I r 39 (A := A.in1) (by show A.units + 1 + 39 < cLine; omega) dv dy rx ry hb).1
theorem mt_idxT (hu : X.A.units + 40 < cLine) : MtR X "tuple.index" fun x vs H Q => (∃ a xs, x = .ref a ∧ H a = some (.tup xs)) ∧ rIdx X.K x vs H Q := by
  intro pins s σ H x vs v us Q I rx rs z0
  obtain ⟨⟨a, ys, ex, hy⟩, m, h, o, xs, y, vy, i, rfl, r, dx, dy, e1, e2, q⟩ := z0
  subst ex
  cases rx
  obtain ⟨u, rfl, ru⟩ := rs.one
  cases dx with
  | @tup _ ts vs hv ds =>
    cases e1
    obtain ⟨its, rv, p, hz⟩ := I.tuple (SqT.of hv)
    obtain ⟨⟨cls, dd, data, sl⟩, ho, hc, n, hd⟩ := id p
    simp only at hc hd
    subst hc hd
    have hj := (idxT_spec e2).1
    have hl := ds.length.trans rv.length
    refine call_meets F.slot_tuple_index ⟨_, ho, rfl⟩ F.entry_tuple_index (F.args_tuple_index_2 _ _) (tuple_indexP a its.toArray n dd sl u (fun k => k == i) i (by rw [List.size_toArray]; omega) (by simp) (fun k hk => by simp; omega)) ⟨ho, items_idx I r hu dy ru ds rv e2, ?_⟩
    exact ⟨.int i, H, I.tok _, ⟨_, rfl⟩, q⟩
  | @ref n _ hn =>
    exfalso
    rcases seqOf_ref e1 with e | e
    · obtain ⟨_, hl, _⟩ := r.lst e hn
      rw [hy] at hl; cases hl
    · obtain ⟨a', ha, vs, q, _⟩ := r.obj n _ e
      rw [hn] at ha; cases ha
      rcases q with ⟨o, q⟩ | ⟨o, its, nn, hk, hc, hd, _⟩
      · rw [hy] at q; cases q
      · obtain ⟨its', _, p, _⟩ := I.tuple (SqT.of hy)
        obtain ⟨o', ho', hc', _⟩ := p
        rw [I.kIn _ o hk] at ho'
        cases ho'
        rw [hc] at hc'
        exact absurd (Value.type.inj hc') (by decide)
theorem mt_idxL (hu : X.A.units + 40 < cLine) : MtR X "list.index" fun x vs H Q => (∃ a xs, x = .ref a ∧ SqL X.K H a xs) ∧ rIdx X.K x vs H Q := by
  intro pins s σ H x vs v us Q I rx rs z0
  obtain ⟨⟨a, ys, ex, hy⟩, m, h, o, xs, y, vy, i, rfl, r, dx, dy, e1, e2, q⟩ := z0
  subst ex
  cases rx
  obtain ⟨u, rfl, ru⟩ := rs.one
  cases dx with
  | @tup _ ts vs hv ds =>
    exfalso
    obtain ⟨its', _, p, _⟩ := I.tuple (SqT.of hv)
    obtain ⟨its2, _, p2, _⟩ := I.list hy
    obtain ⟨o', ho', hc', _⟩ := p
    obtain ⟨o2, ho2, hc2, _⟩ := p2.isList
    rw [ho'] at ho2
    cases ho2
    rw [hc'] at hc2
    exact absurd (Value.type.inj hc2) (by decide)
  | @ref n _ hn =>
    obtain ⟨vs, hq, ds⟩ := r.sqL (seqOf_ref e1) hn
    obtain ⟨its, rv, p, hz⟩ := I.list hq
    obtain ⟨⟨cls, dd, data, sl⟩, ho, hc, n, hd⟩ := id p.isList
    simp only at hc hd
    subst hc hd
    have hj := (idxT_spec e2).1
    have hl := ds.length.trans rv.length
    have h63 := line63
    have hl2 := rv.length
    refine call_meets F.slot_list_index ⟨_, ho, rfl⟩ F.entry_list_index (F.args_list_index_2 _ _) (list_indexP a its.toArray n dd sl u (fun k => k == i) i (by rw [List.size_toArray]; omega) (by omega) (by simp) (fun k hk => by simp; omega)) ⟨ho, items_idx I r hu dy ru ds rv e2, ?_⟩
    exact ⟨.int i, H, I.tok _, ⟨_, rfl⟩, q⟩
theorem oe_index {o e : Expr} {es : List Expr} {wo : WE} {w : WA} {apos cpos : Pos} (hu : X.A.units + 40 < cLine) (ho : OE X o wo) (ha : OA X (e :: es) w)
    (hbase : attributeBase o "index" X.env (eval o X.env) = eval o X.env := by rfl)
    (hfew : ((backTo cpos (starEach (e :: es) X.env)).all (fun x => !x.1) && (backToKw cpos (keywordEach [] X.env)).all (fun x => x.1.isSome)
      && decide ((e :: es).length + ([] : List Keyword).length + (if ([] : List Keyword).isEmpty then 0 else 1) < 30)) = true := by rfl)
    (hline : (apos.endLine == cpos.line) = true := by rfl) (hs : starEach (e :: es) X.env = (false, eval e X.env) :: starEach es X.env := by rfl) (hplain : (backTo cpos (starEach es X.env)).any (·.1) = false := by rfl) :
    OE X (.Call (.Attribute o "index" apos) (e :: es) [] cpos) (wIndex wo w) := by
  intro pins s σ H Q I ⟨m, env, h, k, rp, en, wp, af⟩
  refine wpAny_Call_method_late hbase hfew hline rfl (thn (ho pins s σ H (fun v H1 => ∃ t h1 m1, Up m H m1 H1 ∧ Rep X.K m1 h1 H1 ∧ Den H1 m1 t v ∧ match seqOf t h1 with
      | some _ => w env h1 fun ts h2 => match ts with
        | [x] => match seqOf t h2 with
          | some xs => match idxT h2 x xs with
            | some i => k (.int (i : Int)) h2
            | none => False
          | none => False
        | _ => False
      | none => False) I ⟨m, env, h, _, rp, en, wp, fun t h1 m1 H1 v u1 r1 d q => ⟨t, h1, m1, u1, r1, d, q⟩⟩) fun v s1 ⟨x, H1, I1, r1, t, h1, m1, u1, rp1, d1, q1⟩ => ?_)
  cases e0 : seqOf t h1 with
  | none => rw [e0] at q1; exact q1.elim
  | some xs0 =>
    rw [e0] at q1
    -- the arguments, then the method
    have hA := ha cpos pins s1 σ H1 (fun vs H2 => (∀ a ys, x = .ref a → H1 a = some (.tup ys) → H2 a = some (.tup ys)) ∧ (∀ a ys, x = .ref a → SqL X.K H1 a ys → ∃ zs, SqL X.K H2 a zs) ∧ rIdx X.K x vs H2 Q) I1 ⟨m1, env, h1, _, rp1, en.up u1, q1, fun ts h2 m2 H2 vs u2 r2 ds q2 => by
      match ts, ds, q2 with
      | [y], ds, q2 =>
        obtain ⟨vy, rfl, dy⟩ := dens1 ds
        cases e1 : seqOf t h2 with
        | none => simp only [e1] at q2
        | some xs =>
          simp only [e1] at q2
          cases e2 : idxT h2 y xs with
          | none => simp only [e2] at q2
          | some i =>
            simp only [e2] at q2
            refine ⟨fun a ys _ h => u2.tup _ _ h, fun a ys ex hq => ?_, m2, h2, t, xs, y, vy, i, rfl, r2, d1.up u2, dy, e1, e2, af (.int i) h2 m2 H2 (.int i) (u1.trans u2) r2 (.int _) q2⟩
            subst ex
            cases d1.up u2 with
            | tup hv ds' =>
              exfalso
              cases d1 with
              | tup hv1 ds1 =>
                obtain ⟨its', _, p, _⟩ := I1.tuple (SqT.of hv1)
                obtain ⟨its2, _, p2, _⟩ := I1.list hq
                obtain ⟨o', ho', hc', _⟩ := p
                obtain ⟨o2, ho2, hc2, _⟩ := p2.isList
                rw [ho'] at ho2
                cases ho2
                rw [hc'] at hc2
                exact absurd (Value.type.inj hc2) (by decide)
            | ref hn =>
              obtain ⟨vs, q, _⟩ := r2.sqL (seqOf_ref e1) hn
              exact ⟨vs, q⟩
      | [], _, q2 => exact (show False from q2).elim
      | _ :: _ :: _, _, q2 => exact (show False from q2).elim⟩
    rw [hs] at hA ⊢
    have hpl : ((false, eval e X.env) :: backTo cpos (starEach es X.env)).any (·.1) = false := by show (false || (backTo cpos (starEach es X.env)).any (·.1)) = false; rw [hplain]; rfl
    cases d1 with
    | @tup a ts vs hv ds =>
      obtain ⟨t1, t2⟩ := tyV_is (T := "tuple") I1 r1 (.inr (.inl ⟨rfl, .inr ⟨vs, hv⟩⟩))
      refine ⟨"tuple", _, PySem.F.plainAttrs_tuple, F.slot_tuple_index, F.type_tuple_index, t1, t2, ?_⟩
      refine Calls.callWith_builtin hpl (Calls.evalArgs_plain ?_)
      exact thn hA fun us s2 ⟨vs2, H2, I2, r2, g1, g2, q2⟩ => mt_idxT hu pins s2 σ H2 _ vs2 v us Q I2 r1 r2 ⟨⟨a, vs, rfl, g1 a vs rfl hv⟩, q2⟩
    | @ref n a hn =>
      obtain ⟨ws, hq, _⟩ := rp1.sqL (seqOf_ref e0) hn
      obtain ⟨t1, t2⟩ := tyV_is (T := "list") I1 r1 (.inl ⟨rfl, ws, hq⟩)
      refine ⟨"list", _, PySem.F.plainAttrs_list, F.slot_list_index, F.type_list_index, t1, t2, ?_⟩
      refine Calls.callWith_builtin hpl (Calls.evalArgs_plain ?_)
      exact thn hA fun us s2 ⟨vs2, H2, I2, r2, g1, g2, q2⟩ => mt_idxL hu pins s2 σ H2 _ vs2 v us Q I2 r1 r2 ⟨let ⟨zs, hz⟩ := g2 a ws rfl hq; ⟨a, zs, rfl, hz⟩, q2⟩
    | _ => cases e0
end
end Pu
set_option Elab.async false
set_option linter.all false
set_option maxRecDepth 100000
namespace Pu
open PySem L2
noncomputable def wDictT : WE := fun _ h k => k (.ref h.length) (h ++ [.dT []])
noncomputable def keysOf : List T → Option (List Key)
  | [] => some []
  | .int i :: r => (keysOf r).map (Sum.inl i :: ·)
  | .str x :: r => (keysOf r).map (Sum.inr x :: ·)
  | _ => none
noncomputable def dTOf (h : PH) (n : Nat) : Option (List (List Key × T)) := match h[n]? with
  | some (.dT kvs) => some kvs
  | _ => none
noncomputable def valT (kvs : List (List Key × T)) (k : List Key) : Option T := (kvs.find? fun kv => decide (kv.1 = k)).map (·.2)
noncomputable def putT (kvs : List (List Key × T)) (k : List Key) (v : T) : List (List Key × T) :=
  if (kvs.any fun kv => decide (kv.1 = k)) = true then kvs.map (fun kv => if kv.1 = k then (kv.1, v) else kv) else kvs ++ [(k, v)]
noncomputable def pDGet : P2 := fun x y h k => match x, y with
  | .ref n, .tup ks => match dTOf h n, keysOf ks with
    | some kvs, some key => match valT kvs key with
      | some t => k t h
      | none => False
    | _, _ => False
  | _, _ => False
noncomputable def wDPut (wd wi wv : WE) : WS := fun D env h => wv env h fun v h1 => wd env h1 fun d h2 => wi env h2 fun i h3 => match d, i with
  | .ref n, .tup ks => match dTOf h3 n, keysOf ks with
    | some kvs, some key => kvs.length < sizeLine ∧ D.nx env (h3.set n (.dT (putT kvs key v)))
    | _, _ => False
  | _, _ => False
noncomputable def wListVals (wd : WE) : WE := fun env h k => wd env h fun d h1 => match d with
  | .ref n => match dTOf h1 n with
    | some kvs => k (.ref h1.length) (h1 ++ [.lst (kvs.map (·.2))])
    | none => False
  | _ => False
noncomputable def sumI (ns : List Int) : Int := ns.foldl (· + ·) 0
noncomputable def pSum : List T → PH → WK → Prop := fun ts h k => match ts with
  | [x] => match seqOf x h with
    | some xs => match intsOf xs with
      | some ns => k (.int (sumI ns)) h
      | none => False
    | none => False
  | _ => False
noncomputable def blsOf : List T → Option (List Bool)
  | [] => some []
  | .bl i :: r => (blsOf r).map (i :: ·)
  | _ => none
noncomputable def pAny : List T → PH → WK → Prop := fun ts h k => match ts with
  | [x] => match seqOf x h with
    | some xs => match blsOf xs with
      | some bs => k (.bl (bs.any id)) h
      | none => False
    | none => False
  | _ => False
noncomputable def enumL : Nat → List T → List T
  | _, [] => []
  | i, x :: xs => .tup [.int (i : Int), x] :: enumL (i + 1) xs
noncomputable def wEnum (wa : WA) : WI := fun env h k => wa env h fun ts h1 => match ts with
  | [.ref n] => match seqOf (.ref n) h1 with
    | some xs => k (enumL 0 xs) (fun h' => seqOf (.ref n) h' = some xs) h1
    | none => False
  | _ => False
noncomputable def wIsi2 (c d : String) (wa : WE) : WE := fun env h k => wa env h fun x h1 => match tyN x h1 with
  | some s => k (.bl (isSub s c || isSub s d)) h1
  | none => False
noncomputable def pSlA (x : T) (lo hi : Option Int) (h : PH) (k : WK) : Prop := match x with
  | .ref n => match lstOf h n with
    | some xs => k (.ref h.length) (h ++ [.lst (cutT xs lo hi)])
    | none => False
  | .tup xs => k (.tup (cutT xs lo hi)) h
  | _ => False
noncomputable def compG (chk : PH → Prop) (js : List Nat) (g : WG) (wc : WT) (we : WE) (env : En) (k : WK) : List T → List T → PH → Prop
  | [], acc, h => acc.length ≤ sizeLine ∧ k (.ref h.length) (h ++ [.lst acc])
  | x :: xs, acc, h => acc.length < sizeLine ∧ ∃ N : List T → PH → Prop, (∀ acc' h', N acc' h' → chk h' ∧ compG chk js g wc we env k xs acc' h') ∧
    g x (clrE js env) h fun env2 h2 => wc env2 h2 fun b h3 => if b = true then we env2 h3 fun v h4 => N (acc ++ [v]) h4 else N acc h3
noncomputable def wComp2 (wi : WI) (i j : Nat) (wc : WT) (we : WE) : WE := fun env h k => wi env h fun xs chk h1 => compG chk [i, j] (gTp 2 (gsCons (gN i) (gsCons (gN j) gsNil))) wc we env k xs [] h1
end Pu
set_option Elab.async false
set_option linter.all false
set_option maxRecDepth 100000
namespace Pu
open PySem PySem.Spec PyProof.Rows L2
section
variable {X : Cx} {K : PySem.W.Frag}
theorem oe_dictT {pos : Pos} : OE X (.Dict [] [] pos) wDictT := PE.imp pe_dnewT fun σ H Q ⟨m, env, h, k, r, en, w, af⟩ p hp =>
  af _ _ _ _ _ (Up.new hp) (r.new (o := .dT []) hp ⟨[], upd_same, rfl, .nil⟩) r.newRef w
theorem keysOf_den {H : Hp} {m : List Addr} : ∀ {ts : List T} {key : List Key} {vs : List V}, keysOf ts = some key → Dens H m ts vs → vs = key.map kV
  | [], _, _, e, .nil => by cases e; rfl
  | .int i :: r, key, _, e, .cons d ds => by
    have e : (keysOf r).map (Sum.inl i :: ·) = some key := e
    cases q : keysOf r with
    | none => rw [q] at e; cases e
    | some k =>
      rw [q] at e; cases e
      cases d
      rw [keysOf_den q ds]
      rfl
  | .str i :: r, key, _, e, .cons d ds => by
    have e : (keysOf r).map (Sum.inr i :: ·) = some key := e
    cases q : keysOf r with
    | none => rw [q] at e; cases e
    | some k =>
      rw [q] at e; cases e
      cases d
      rw [keysOf_den q ds]
      rfl
  | .non :: _, _, _, e, _ => by cases e
  | .bl _ :: _, _, _, e, _ => by cases e
  | .tup _ :: _, _, _, e, _ => by cases e
  | .ref _ :: _, _, _, e, _ => by cases e
noncomputable def KvR (H : Hp) (m : List Addr) (kvs : List (List Key × T)) (vs : List (List Key × V)) : Prop := kvs.map (·.1) = vs.map (·.1) ∧ Dens H m (kvs.map (·.2)) (vs.map (·.2))
theorem KvR.nil_inv {H : Hp} {m : List Addr} {vs : List (List Key × V)} (r : KvR H m [] vs) : vs = [] := by
  have := r.1
  cases vs with
  | nil => rfl
  | cons _ _ => cases this
theorem KvR.cons_inv {H : Hp} {m : List Addr} {p : List Key × T} {kvs : List (List Key × T)} {vs : List (List Key × V)} (r : KvR H m (p :: kvs) vs) : ∃ v ws, vs = (p.1, v) :: ws ∧ Den H m p.2 v ∧ KvR H m kvs ws := by
  obtain ⟨r1, r2⟩ := r
  cases vs with
  | nil => cases r1
  | cons q ws =>
    obtain ⟨k, v⟩ := q
    have h1 := List.cons.inj r1
    have hk : p.1 = k := h1.1
    subst hk
    cases r2 with
    | cons d ds => exact ⟨v, ws, rfl, d, h1.2, ds⟩
theorem KvR.val {H : Hp} {m : List Addr} {key : List Key} {t : T} : ∀ {kvs : List (List Key × T)} {vs : List (List Key × V)}, KvR H m kvs vs → valT kvs key = some t → ∃ v, valV vs key = some v ∧ Den H m t v
  | [], _, _, e => by cases e
  | p :: kvs, vs, r, e => by
    obtain ⟨v, ws, rfl, d, r'⟩ := r.cons_inv
    unfold valT at e
    rw [List.find?_cons] at e
    by_cases hk : p.1 = key
    · rw [decide_eq_true hk] at e
      cases e
      exact ⟨v, valV_pos hk, d⟩
    · rw [decide_eq_false hk] at e
      obtain ⟨w, h1, h2⟩ := KvR.val (kvs := kvs) r' e
      exact ⟨w, by rw [valV_neg hk]; exact h1, h2⟩
theorem KvR.any {H : Hp} {m : List Addr} {key : List Key} : ∀ {kvs : List (List Key × T)} {vs : List (List Key × V)}, KvR H m kvs vs → (kvs.any fun kv => decide (kv.1 = key)) = vs.any fun kv => decide (kv.1 = key)
  | [], _, r => by rw [r.nil_inv]; rfl
  | p :: kvs, vs, r => by
    obtain ⟨v, ws, rfl, d, r'⟩ := r.cons_inv
    rw [List.any_cons, List.any_cons, KvR.any r']
theorem KvR.repl {H : Hp} {m : List Addr} {key : List Key} {t : T} {w : V} (dt : Den H m t w) : ∀ {kvs : List (List Key × T)} {vs : List (List Key × V)}, KvR H m kvs vs →
    KvR H m (kvs.map fun kv => if kv.1 = key then (kv.1, t) else kv) (vs.map fun kv => if kv.1 = key then (kv.1, w) else kv)
  | [], _, r => by rw [r.nil_inv]; exact ⟨rfl, .nil⟩
  | p :: kvs, vs, r => by
    obtain ⟨v, ws, rfl, d, r'⟩ := r.cons_inv
    obtain ⟨g1, g2⟩ := KvR.repl dt r'
    rw [List.map_cons, List.map_cons]
    by_cases hk : p.1 = key
    · simp only [hk, if_true]
      exact ⟨by rw [List.map_cons, List.map_cons, g1], .cons dt g2⟩
    · simp only [hk, if_false]
      exact ⟨by rw [List.map_cons, List.map_cons, g1], .cons d g2⟩
theorem KvR.put {H : Hp} {m : List Addr} {key : List Key} {t : T} {w : V} (dt : Den H m t w) {kvs : List (List Key × T)} {vs : List (List Key × V)} (r : KvR H m kvs vs) : KvR H m (putT kvs key t) (putK vs key w) := by
  unfold putT putK
  rw [r.any]
  split
  · exact r.repl dt
  · obtain ⟨r1, r2⟩ := r
    refine ⟨by rw [List.map_append, List.map_append, r1]; rfl, ?_⟩
    rw [List.map_append, List.map_append]
    exact r2.append (.cons dt .nil)
theorem dTOf_some {h : PH} {n : Nat} {kvs : List (List Key × T)} (e : dTOf h n = some kvs) : h[n]? = some (.dT kvs) := by
  unfold dTOf at e
  split at e
  · rename_i ys hy; cases e; exact hy
  · cases e
theorem Rep.dT {m : List Addr} {h : PH} {H : Hp} {n : Nat} {a : Addr} {kvs : List (List Key × T)} (r : Rep K m h H) (e : dTOf h n = some kvs) (hn : m[n]? = some a) : ∃ vs, H a = some (.dT vs) ∧ KvR H m kvs vs := by
  obtain ⟨a', ha, vs, h1, h2, h3⟩ := r.obj n _ (dTOf_some e)
  rw [hn] at ha; cases ha
  exact ⟨vs, h1, h2, h3⟩
theorem oe_dget {o i : Expr} {wo wi : WE} {pos : Pos} (hu : X.A.units + 40 < cLine) (ho : OE X o wo) (hi : OE X i wi) (hs : NoSl i := by exact fun _ _ => rfl) : OE X (.Subscript o i pos) (wOp pDGet wo wi) :=
  PE.imp (pe_dget (by omega) ho hi hs) fun σ H Q ⟨m, env, h, k, rp, en, w, af⟩ => ⟨m, env, h, _, rp, en, w, fun x h1 m1 H1 vx u1 r1 dx q1 => ⟨m1, env, h1, _, r1, en.up u1, q1, fun y h2 m2 H2 vy u2 r2 dy q2 => by
    cases dx with
    | @ref n a hn =>
      cases dy with
      | @tup b ts vs hv ds =>
        have q2 : (match dTOf h2 n, keysOf ts with | some kvs, some key => (match valT kvs key with | some t => k t h2 | none => False) | _, _ => False) := q2
        cases e1 : dTOf h2 n with
        | none => rw [e1] at q2; exact q2.elim
        | some kvs =>
          cases e2 : keysOf ts with
          | none => rw [e1, e2] at q2; exact q2.elim
          | some key =>
            rw [e1, e2] at q2
            cases e3 : valT kvs key with
            | none => simp only [e3] at q2
            | some t =>
              simp only [e3] at q2
              obtain ⟨ws, g1, g2⟩ := r2.dT e1 (u2.sub _ _ hn)
              obtain ⟨v, g3, g4⟩ := g2.val e3
              have := keysOf_den e2 ds
              subst this
              have g5 := DGet.t g1 hv
              rw [g3] at g5
              exact ⟨a, v, rfl, g5, af t h2 m2 H2 v (u1.trans u2) r2 g4 q2⟩
      | _ => exact (show False from q2).elim
    | _ => exact (show False from q2).elim⟩⟩
theorem s_dput {o i value : Expr} {wo wi wv : WE} {pos pos' : Pos} (hu : X.A.units + 40 < cLine) (ho : OE X o wo) (hi : OE X i wi) (hv : OE X value wv) (hs : swapsWith value (some (.Subscript o i pos')) pos.line X.env = pure false := by rfl) :
    OS X (.Assign [.Subscript o i pos'] value pos) (wDPut wo wi wv) :=
  PS.imp (ps_dput (by omega) ho hi hv hs) fun D σ H ⟨m, env, h, D', rp, en, w, af⟩ => ⟨m, env, h, _, rp, en, w, fun v h1 m1 H1 vv u1 r1 dv q1 => ⟨m1, env, h1, _, r1, en.up u1, q1, fun x h2 m2 H2 vx u2 r2 dx q2 => ⟨m2, env, h2, _, r2, en.up (u1.trans u2), q2, fun y h3 m3 H3 vy u3 r3 dy q3 => by
    cases dx with
    | @ref n a hn =>
      cases dy with
      | @tup b ts vs hvb ds =>
        have q3 : (match dTOf h3 n, keysOf ts with | some kvs, some key => kvs.length < sizeLine ∧ D'.nx env (h3.set n (.dT (putT kvs key v))) | _, _ => False) := q3
        cases e1 : dTOf h3 n with
        | none => rw [e1] at q3; exact q3.elim
        | some kvs =>
          cases e2 : keysOf ts with
          | none => rw [e1, e2] at q3; exact q3.elim
          | some key =>
            rw [e1, e2] at q3
            obtain ⟨ql, q3⟩ := q3
            have hn3 := u3.sub _ _ hn
            obtain ⟨ws, g1, g2⟩ := r3.dT e1 hn3
            have := keysOf_den e2 ds
            subst this
            have dv3 := dv.up (u2.trans u3)
            have gl : ws.length < sizeLine := by
              have := congrArg List.length g2.1
              simp at this
              omega
            have up : Up m3 H3 m3 (upd H3 a (.dT (putK ws key vv))) := ⟨fun _ _ e => e, fun b' ys e => by
              rw [upd_ne (fun z => by subst z; rw [g1] at e; cases e)]; exact e⟩
            obtain ⟨p1, p2⟩ := g2.put (key := key) dv3
            refine ⟨a, _, rfl, DPut.t g1 hvb gl, af.nx env _ m3 _ σ (u1.trans (u2.trans (u3.trans up))) (r3.write (o' := .dT (putT kvs key v)) (dTOf_some e1) rfl rfl hn3 ⟨_, upd_same, p1, p2.up up⟩) (en.up (u1.trans (u2.trans (u3.trans up)))) q3⟩
      | _ => exact (show False from q3).elim
    | _ => exact (show False from q3).elim⟩⟩⟩
end
end Pu
set_option Elab.async false
set_option linter.all false
set_option maxRecDepth 100000
namespace Pu
open PySem PySem.Spec PyProof.Rows L2
section
variable {X : Cx} {K : PySem.W.Frag}
noncomputable def Itm (its : List Value) (i : Nat) (v : Value) : Prop := its[i]? = some v
theorem walked {prog : Program} {w : World} {A : Around} {E : Value → Shared → Prop} {pins : List (Addr × Obj)} {σ : St} {H : Hp} {s : Shared} {p : Addr} {ys : List V} {Q : Value → Shared → Prop} (hh : A.handled = none) (I : Inv X pins σ H s) (hq : SqL X.K H p ys ∨ SqT X.K H p ys)
    (h : ∀ (its : List Value) J fp wr St (s₂ : Shared), Vals ys its → Walks prog w A J fp wr its.length (Itm its) St → St 0 s₂.heap → (∀ b ∈ fp, b < s₂.heap.objs.size) →
      (∀ h' tk, (∀ b o, b ∉ wr → s₂.heap.get? b = some o → h'.get? b = some o) → Inv X pins σ H { s₂ with heap := h', toks := tk }) → Q (.ref J) s₂) : wpAny (model prog w) A (pyIter (.ref p)) Q E s := by
  have lt2 : ∀ {s' : Shared} {o : Obj} {l : Addr}, l < s'.heap.objs.size → ∀ b ∈ [s'.heap.objs.size, l], b < (s'.heap.push o).objs.size := fun {s' o l} hl b hb => by
    rw [Heap.size_push]
    rcases List.mem_cons.mp hb with rfl | hb
    · exact Nat.lt_succ_self _
    · rw [List.mem_singleton.mp hb]; exact Nat.lt_succ_of_lt hl
  have kp : ∀ {o : Obj} {h' : Heap} {tk : Nat}, (∀ b u, b ∉ [s.heap.objs.size] → (s.heap.push o).get? b = some u → h'.get? b = some u) → Inv X pins σ H { s with heap := h', toks := tk } := fun {o h' tk} hk =>
    I.kept (t' := tk) fun b u e => hk b u (fun hm => by rw [List.mem_singleton.mp hm] at e; exact absurd (Heap.lt_size e) (Nat.lt_irrefl _)) (Heap.get?_push_of_some _ e)
  rcases hq with hq | hq
  · obtain ⟨its, r, pl, hz⟩ := I.list hq
    have hl := pl.isList
    have hlt : p < s.heap.objs.size := by obtain ⟨_, e, _⟩ := hl; exact Heap.lt_size e
    have W := Walks.list (prog := prog) (w := w) hh s.heap.objs.size p (Nat.ne_of_lt hlt) its.toArray
    have e1 : its.toArray.size = its.length := List.size_toArray
    have e2 : (fun (i : Nat) v => its.toArray[i]? = some v) = Itm its := by funext i v; simp [Itm]
    rw [e1, e2] at W
    exact wpAny_pyIter_list hl (h its _ _ _ _ _ r W ⟨⟨_, Heap.get?_push_size _ rfl, rfl, rfl⟩, hl.push _⟩ (lt2 hlt) fun h' tk hk => kp hk)
  · obtain ⟨its, r, pl, hz⟩ := I.tuple hq
    have hl : s.heap.IsTuple p its.toArray := pl
    have hlt : p < s.heap.objs.size := by obtain ⟨_, e, _⟩ := hl; exact Heap.lt_size e
    have W := Walks.tuple (prog := prog) (w := w) hh s.heap.objs.size p (Nat.ne_of_lt hlt) its.toArray
    have e1 : its.toArray.size = its.length := List.size_toArray
    have e2 : (fun (i : Nat) v => its.toArray[i]? = some v) = Itm its := by funext i v; simp [Itm]
    rw [e1, e2] at W
    exact wpAny_pyIter_tuple hl (h its _ _ _ _ _ r W ⟨⟨_, Heap.get?_push_size _ rfl, rfl, rfl⟩, hl.push _⟩ (lt2 hlt) fun h' tk hk => kp hk)
theorem preSum_ints (ns : List Int) : ∀ j, j ≤ ns.length → preSum (fun i => ns.getD i 0) j = (ns.take j).foldl (· + ·) 0
  | 0, _ => rfl
  | j + 1, h => by
    show preSum (fun i => ns.getD i 0) j + ns.getD j 0 = _
    rw [preSum_ints ns j (by omega), List.take_add_one, List.getD_eq_getElem?_getD, List.getElem?_eq_getElem (by omega)]
    rw [List.foldl_append]
    rfl
noncomputable def rSum (K : PySem.W.Frag) : List V → Hp → VK → Prop := fun xs H Q => ∃ p ns, xs = [.ref p] ∧ (SqL K H p (ns.map V.int) ∨ SqT K H p (ns.map V.int)) ∧ Q (.int (sumI ns)) H
theorem call_sum (hc : X.calm = true) : CallR X (.builtin "sum") (rSum X.K) := by
  intro pins s σ H xs us Q I r ⟨p, ns, e, hq, q⟩
  subst e
  obtain ⟨u, rfl, rx⟩ := vals1 r
  cases rx
  have hh := I.ok.hd hc
  refine call_sum_walkG (walked (A := X.A.in1) hh I hq fun its J fp wr St s₂ rv W st hfp ik => ?_)
  have hl := rv.length
  rw [List.length_map] at hl
  refine ⟨J, fp, wr, its.length, Itm its, St, fun i => ns.getD i 0, rfl, W, st, hfp, fun i v hv => ?_, fun h' tk t' hk => ?_⟩
  · have hi := (List.getElem?_eq_some_iff.mp (show its[i]? = some v from hv)).1
    obtain ⟨u, hu, ru⟩ := rv.get (show (ns.map V.int)[i]? = some (.int (ns.getD i 0)) by rw [List.getElem?_map, List.getElem?_eq_getElem (by omega), List.getD_eq_getElem?_getD, List.getElem?_eq_getElem (by omega)]; rfl)
    rw [show its[i]? = some v from hv] at hu
    cases hu
    exact ru
  · rw [preSum_ints ns its.length (by omega), ← hl, List.take_length]
    exact ⟨.int (sumI ns), H, ik h' tk hk, ⟨t', rfl⟩, q⟩
theorem i_sum : RLI K (rSum K) pSum := fun m h H ts vs k Q r d w af => by
  match ts, d, w with
  | [x], d, w =>
    obtain ⟨v, hvs, dd⟩ := dens1 d
    subst hvs
    have w : (match seqOf x h with | some xs => (match intsOf xs with | some ns => k (.int (sumI ns)) h | none => False) | none => False) := w
    cases e : seqOf x h with
    | none => rw [e] at w; exact w.elim
    | some xs =>
      rw [e] at w
      cases e2 : intsOf xs with
      | none => simp only [e2] at w
      | some ns =>
        simp only [e2] at w
        obtain ⟨a, ws, hv, hq, ds⟩ := seqOf_den r dd e
        subst hv
        rw [intsOf_eq e2] at ds
        rw [ds.ints] at hq
        exact ⟨a, ns, rfl, hq, af _ h m H _ .refl r (.int _) w⟩
  | [], _, w => exact (show False from w).elim
  | _ :: _ :: _, _, w => exact (show False from w).elim
noncomputable def rAny (K : PySem.W.Frag) : List V → Hp → VK → Prop := fun xs H Q => ∃ (p : Addr) (bs : List Bool), xs = [.ref p] ∧ (SqL K H p (bs.map V.bl) ∨ SqT K H p (bs.map V.bl)) ∧ Q (.bl (bs.any id)) H
theorem any_range (bs : List Bool) : (List.range bs.length).any (fun i => bs.getD i false) = bs.any id := by
  have e : bs = (List.range bs.length).map fun i => bs.getD i false := by
    refine List.ext_getElem? fun i => ?_
    rw [List.getElem?_map]
    by_cases hi : i < bs.length
    · rw [List.getElem?_range hi, List.getElem?_eq_getElem hi]
      simp [List.getD_eq_getElem?_getD, hi]
    · rw [List.getElem?_eq_none (by omega), List.getElem?_eq_none (by simp; omega)]; rfl
  conv => rhs; rw [e]
  rw [List.any_map]
  rfl
theorem call_any (hc : X.calm = true) : CallR X (.builtin "any") (rAny X.K) := by
  intro pins s σ H xs us Q I r ⟨p, bs, e, hq, q⟩
  subst e
  obtain ⟨u, rfl, rx⟩ := vals1 r
  cases rx
  have hh := I.ok.hd hc
  refine call_any_walk (walked (A := X.A.in1) hh I hq fun its J fp wr St s₂ rv W st hfp ik => ?_)
  have hl := rv.length
  rw [List.length_map] at hl
  refine ⟨J, fp, wr, its.length, Itm its, St, fun i => bs.getD i false, rfl, W, st, fun i v s' Q' E' hv hq' => ?_, fun h' tk hk => ?_⟩
  · have hi := (List.getElem?_eq_some_iff.mp (show its[i]? = some v from hv)).1
    obtain ⟨u, hu, ru⟩ := rv.get (show (bs.map V.bl)[i]? = some (.bl (bs.getD i false)) by rw [List.getElem?_map, List.getElem?_eq_getElem (by omega), List.getD_eq_getElem?_getD, List.getElem?_eq_getElem (by omega)]; rfl)
    rw [show its[i]? = some v from hv] at hu
    cases hu
    cases ru
    exact wpAny_of_eq rfl hq'
  · rw [← hl, any_range]
    exact ⟨.bl (bs.any id), H, ik h' tk hk, rfl, q⟩
theorem blsOf_eq : ∀ {ts : List T} {bs : List Bool}, blsOf ts = some bs → ts = bs.map T.bl
  | [], bs, h => by cases h; rfl
  | .bl i :: r, bs, h => by
    have h : (blsOf r).map (i :: ·) = some bs := h
    cases e : blsOf r with
    | none => rw [e] at h; cases h
    | some ms =>
      rw [e] at h; cases h
      rw [List.map_cons, blsOf_eq e]
  | .non :: _, _, h => by cases h
  | .int _ :: _, _, h => by cases h
  | .str _ :: _, _, h => by cases h
  | .tup _ :: _, _, h => by cases h
  | .ref _ :: _, _, h => by cases h
theorem Dens.bls {H : Hp} {m : List Addr} : ∀ {ns : List Bool} {vs : List V}, Dens H m (ns.map T.bl) vs → vs = ns.map V.bl
  | [], _, .nil => rfl
  | n :: ns, _, .cons d r => by
    cases d
    rw [List.map_cons, Dens.bls r]
theorem i_any : RLI K (rAny K) pAny := fun m h H ts vs k Q r d w af => by
  match ts, d, w with
  | [x], d, w =>
    obtain ⟨v, hvs, dd⟩ := dens1 d
    subst hvs
    have w : (match seqOf x h with | some xs => (match blsOf xs with | some bs => k (.bl (bs.any id)) h | none => False) | none => False) := w
    cases e : seqOf x h with
    | none => rw [e] at w; exact w.elim
    | some xs =>
      rw [e] at w
      cases e2 : blsOf xs with
      | none => simp only [e2] at w
      | some ns =>
        simp only [e2] at w
        obtain ⟨a, ws, hv, hq, ds⟩ := seqOf_den r dd e
        subst hv
        rw [blsOf_eq e2] at ds
        rw [ds.bls] at hq
        exact ⟨a, ns, rfl, hq, af _ h m H _ .refl r (.bl _) w⟩
  | [], _, w => exact (show False from w).elim
  | _ :: _ :: _, _, w => exact (show False from w).elim
end
end Pu
set_option Elab.async false
set_option linter.all false
set_option maxRecDepth 100000
namespace ZP
open PySem PySem.Spec PyProof.Rows L2 Pu
noncomputable def Ite (K : PySem.W.Frag) (a : Addr) : It :=
  ⟨fun i H => ∃ xs x, SqL K H a xs ∧ xs[i]? = some x, fun i H v H' => ∃ p x, H p = none ∧ H' = upd H p (.tup [.int (i : Int), x]) ∧ v = .ref p ∧ ∀ xs, SqL K H a xs → xs[i]? = some x, fun i H => ∃ xs, SqL K H a xs ∧ xs.length ≤ i⟩
theorem turn_enum {P : Program} {w : World} {K : PySem.W.Frag} {es : List Expr} {ek : Nat} {ep : Pos} {e it a : Addr} (hne : e ≠ it) (hae : a ≠ e) (hai : a ≠ it) :
    Turn P w K (.Tuple es ek ep) (Ite K a) [e, it] e (fun i h => (∃ old, IsEnum h e it (i : Int) old) ∧ h.IsListIter it a i) where
  mem := by simp
  obj := fun i h st b hb => by
    obtain ⟨⟨old, he⟩, o, e1, c, d⟩ := st
    simp only [List.mem_cons, List.not_mem_nil, or_false] at hb
    rcases hb with rfl | rfl
    · exact ⟨_, he, fun v z => by cases z⟩
    · exact ⟨o, e1, fun v z => by rw [d] at z; cases z⟩
  keep := fun i h h' st k => by
    obtain ⟨⟨old, he⟩, hi⟩ := st
    exact ⟨⟨old, k e (by simp) _ he⟩, hi.at fun o q => k it (by simp) o q⟩
  item := by
    intro X hP hw hK hc i pins s σ H E I hf st hg
    subst hP hw hK
    obtain ⟨⟨old, he⟩, hi⟩ := st
    obtain ⟨xs, x, q1, e1⟩ := hg
    obtain ⟨us, rv, pl, hz⟩ := I.list q1
    obtain ⟨w1, hw1, rw1⟩ := rv.get e1
    refine wpAny_pyNext_enum_item he hi pl.isList (by simpa using hw1) hne fun h' z1 j1 tn1 sz1 hk => ?_
    have fne : ∀ b ∈ [e, it], b < s.heap.objs.size := fun b hb => by
      simp only [List.mem_cons, List.not_mem_nil, or_false] at hb
      rcases hb with rfl | rfl
      · exact Heap.lt_size he
      · obtain ⟨o, q, _⟩ := hi; exact Heap.lt_size q
    have hkk : ∀ c o, c ∉ [e, it] → s.heap.get? c = some o → h'.get? c = some o := fun c o hc q => by
      simp only [List.mem_cons, List.not_mem_nil, or_false, not_or] at hc
      exact hk c o hc.1 hc.2 q
    have hn : H s.heap.objs.size = none := I.hok.fresh (Nat.le_refl _)
    have I1 : Inv X pins σ (upd H s.heap.objs.size (.tup [.int (i : Int), x])) { s with heap := h' } := by
      refine I.zipStep (fp := [e, it]) hf fne hkk ?_
      exact ⟨by show 2 ≤ sizeLine; decide, [.int i s.toks, w1], .cons ⟨_, rfl⟩ (.cons rw1 (.nil)), ⟨_, tn1, rfl, _, rfl⟩, _, tn1, rfl⟩
    refine ⟨_, rfl, wpAny_letOwnedTupleGo_enum (s := { s with heap := h', toks := s.toks + 1 }) z1 fun h2 z2 s2 => ?_⟩
    obtain ⟨f0, f1, f2, f3, f4, f5⟩ := hf e (by simp)
    have hzT : e ≠ s.heap.objs.size := Nat.ne_of_lt (fne e (by simp))
    have I2 : Inv X pins σ (upd H s.heap.objs.size (.tup [.int (i : Int), x])) { s with heap := h2, toks := s.toks + 1 } := I1.turned (s := { s with heap := h' }) (t' := s.toks + 1) (it := e) (fun b o hb q => (s2.2 b hb).trans q) (by rw [upd_ne hzT]; exact f0) f1 f3 f4 f5
    refine ⟨.ref s.heap.objs.size, _, I2, rfl, ⟨s.heap.objs.size, x, hn, rfl, rfl, fun ys q => by rw [I.list_inj q q1]; exact e1⟩, ⟨⟨_, z2⟩, j1.at fun o q => s2.extBut _ _ (Ne.symm hne) q⟩, fun b hb => ?_⟩
    rw [upd_ne (Nat.ne_of_lt (fne b hb))]; exact (hf b hb).1
  done := by
    intro X hP hw hK hc i pins s σ H E I hf st hg
    subst hP hw hK
    obtain ⟨⟨old, he⟩, hi⟩ := st
    obtain ⟨xs, q1, hend⟩ := hg
    obtain ⟨us, rv, pl, hz⟩ := I.list q1
    refine wpAny_pyNext_enum_end (I.ok.hd hc) he hi pl.isList (by rw [List.getElem?_toArray]; exact List.getElem?_eq_none (by rw [← rv.length]; exact hend)) fun h' hk => ⟨rfl, ?_⟩
    refine I.zipKeep (fp := [e, it]) hf fun c o hc q => ?_
    simp only [List.mem_cons, List.not_mem_nil, or_false, not_or] at hc
    exact hk c o hc.2 q
  self := by
    intro A i s Q E st h
    obtain ⟨⟨old, he⟩, _⟩ := st
    exact wpAny_pyIter_enum he h
noncomputable def iEnum (K : PySem.W.Frag) (ta : TA) : TI := fun σ H R => ta σ H fun vs H1 => ∃ a, vs = [.ref a] ∧ (∃ xs, SqL K H1 a xs) ∧ R (Ite K a) H1
theorem pi_enum {X : Cx} {es : List Expr} {ek : Nat} {ep : Pos} {e1 : Expr} {ta : TA} {p pos : Pos} (hg : Gl X "enumerate") (hm : X.mg "enumerate" = none) (ha : PA X [e1] ta) (hs1 : starEach [e1] X.env = [(false, eval e1 X.env)] := by rfl) :
    PI X (.Tuple es ek ep) (.Call (.Name "enumerate" p) [e1] [] pos) (iEnum X.K ta) := by
  intro pins s0 σ H R I h
  refine Call_ (ld_blt I hg hm boot_enumerate (PyProof.Rows.callWith_type1 (thn (ha pos pins s0 σ H _ I h) fun us s ⟨vs, H1, I1, r1, q1⟩ => ?_) (by rw [hs1]; rfl) (by rfl)))
  obtain ⟨a, e, ⟨ys, q1⟩, hR⟩ := q1
  subst e
  obtain ⟨u1, us1, rfl, ru1, rr1⟩ := vals_cons r1
  cases ru1
  cases rr1
  obtain ⟨w1, rv1, pl, hz⟩ := I1.list q1
  have hl : @LT.lt Nat _ a s.heap.objs.size := by obtain ⟨_, e, _⟩ := pl.isList; exact Heap.lt_size e
  refine call_enumerate_list pl.isList fun h' he hi hsz hk => ?_
  refine wpAny_pyIter_enum (s := { s with heap := h' }) he ?_
  refine ⟨_, _, _, _, H1, rfl, I1.kept (t' := s.toks) hk, turn_enum (ne_nat (by omega)) (ne_nat (by omega)) (ne_nat (by omega)), ⟨⟨_, he⟩, hi⟩, fun b hb => ?_, hR⟩
  have hb' : s.heap.objs.size ≤ b := by
    simp only [List.mem_cons, List.not_mem_nil, or_false] at hb
    rcases hb with rfl | rfl <;> first | exact Nat.le_refl _ | exact Nat.le_add_right _ _
  exact I1.fpOk hb' (I1.hok.fresh hb')
theorem enum_at : ∀ {xs : List T} {j i : Nat} {x : T}, (enumL j xs)[i]? = some x → ∃ y, xs[i]? = some y ∧ x = .tup [.int ((j + i : Nat) : Int), y]
  | [], j, i, x, h => by simp [enumL] at h
  | a :: xs, j, 0, x, h => by
    simp only [enumL, List.getElem?_cons_zero] at h
    cases h
    exact ⟨a, rfl, by simp⟩
  | a :: xs, j, i + 1, x, h => by
    simp only [enumL, List.getElem?_cons_succ] at h
    obtain ⟨y, h1, h2⟩ := enum_at h
    exact ⟨y, by simpa using h1, by rw [h2, show j + 1 + i = j + (i + 1) by omega]⟩
theorem enum_many : ∀ (xs : List T) (j : Nat), (enumL j xs).length = xs.length
  | [], _ => rfl
  | _ :: xs, j => by simp [enumL, enum_many xs]
theorem Itok_enum {K : PySem.W.Frag} {m0 : List Addr} {H0 : Hp} {n : Nat} {a : Addr} {xs : List T} (ha : m0[n]? = some a) : ItOk K m0 H0 (enumL 0 xs) (fun h' => seqOf (.ref n) h' = some xs) (Ite K a) := fun i h m H u r c => by
  obtain ⟨vs, q, d⟩ := r.sqL (seqOf_ref c) (u.sub n a ha)
  refine ⟨fun t ht => ?_, fun hl => ⟨vs, q, by rw [← d.length]; rw [enum_many] at hl; exact hl⟩⟩
  obtain ⟨y, hy, rfl⟩ := enum_at ht
  obtain ⟨v, hv, dv⟩ := d.get hy
  refine ⟨⟨vs, v, q, hv⟩, fun v' H' z => ?_⟩
  obtain ⟨p, x, hp, eH, ev, g⟩ := z
  have z1 := g vs q
  rw [hv] at z1; cases z1
  subst eH ev
  rw [Nat.zero_add]
  exact ⟨m, .newTup hp, r.tup hp, .tup upd_same (Dens.up (.newTup hp) (.cons (.int _) (.cons dv .nil)))⟩
theorem i_enum {X : Cx} {es : List Expr} {ek : Nat} {ep : Pos} {e1 : Expr} {wa : WA} {p pos : Pos} (hm : X.mg "enumerate" = none) (ha : OA X [e1] wa) (hg : Gl X "enumerate" := by rfl) (hs1 : starEach [e1] X.env = [(false, eval e1 X.env)] := by rfl) :
    OI X (.Tuple es ek ep) (.Call (.Name "enumerate" p) [e1] [] pos) (wEnum wa) :=
  PI.imp (pi_enum hg hm ha hs1) fun σ H R ⟨m, env, h, k, rp, en, w, af⟩ => ⟨m, env, h, _, rp, en, w, fun ts h1 m1 H1 vs u1 r1 ds q1 => by
    match ts, ds, q1 with
    | [.ref n], ds, q1 =>
      obtain ⟨v, rfl, dd⟩ := dens1 ds
      have q1 : (match seqOf (.ref n) h1 with | some xs => k (enumL 0 xs) (fun h' => seqOf (.ref n) h' = some xs) h1 | none => False) := q1
      cases e : seqOf (.ref n) h1 with
      | none => rw [e] at q1; exact q1.elim
      | some xs =>
        rw [e] at q1
        cases dd with
        | @ref _ a hn =>
          obtain ⟨ws, hq, _⟩ := r1.sqL (seqOf_ref e) hn
          exact ⟨a, rfl, ⟨ws, hq⟩, af _ _ h1 m1 H1 _ u1 r1 e (Itok_enum hn) q1⟩
    | [], _, q1 => exact (show False from q1).elim
    | [.non], _, q1 => exact (show False from q1).elim
    | [.bl _], _, q1 => exact (show False from q1).elim
    | [.int _], _, q1 => exact (show False from q1).elim
    | [.str _], _, q1 => exact (show False from q1).elim
    | [.tup _], _, q1 => exact (show False from q1).elim
    | a :: b :: r, _, q1 => cases a <;> exact (show False from q1).elim⟩
end ZP
set_option Elab.async false
set_option linter.all false
set_option maxRecDepth 100000
namespace Pu
open PySem PySem.Spec PyProof.Rows L2
section
variable {X : Cx} {K : PySem.W.Frag}
theorem oe_glob {x : Str} {n : Int} {pos : Pos} (M : ∃ t, X.mg x = some (.int n t)) (hg : Gl X x := by rfl) (hd : (x == ("__debug__" : Str)) = false := by decide) : OE X (.Name x pos) (wC (.int n)) := by
  obtain ⟨t, M⟩ := M
  exact PE.imp (pe_glob (v := .int n) hg M ⟨t, rfl⟩ hd) fun σ H Q ⟨m, env, h, k, r, en, w, af⟩ => af (.int n) h m H (.int n) .refl r (.int n) w
theorem isinst_tup {pins : List (Addr × Obj)} {σ : St} {H : Hp} {s : Shared} {A : Around} {E : Value → Shared → Prop} {Q : Value → Shared → Prop} {x : V} {u t : Value} {b : Bool} {tp : Addr} {dd : Option Addr} {its : List Value} {n : Nat} {sl : Array (Option Value)} (I : Inv X pins σ H s) (rx : RelV x u) (ty : TyOf X.K H x t) (htp : s.heap.get? tp = some ⟨.type "tuple", dd, .seq its.toArray n, sl⟩)
    (e : PySem.W.kitAny X.K t its = some b) (h : ∀ tk, Q (.bool b) { s with toks := tk }) : wpAny (model X.prog X.w) A (call (.builtin "isinstance") [u, .ref tp]) Q E s := by
  cases ty with
  | non => cases (show u = Value.none from rx); exact PySem.W.kia_tup PySem.W.kitx_none I.kIn True.intro htp e (fun z => nomatch z) h
  | bl y => cases (show u = Value.bool y from rx); exact PySem.W.kia_tup PySem.W.kitx_bool I.kIn True.intro htp e (fun z => nomatch z) h
  | int i => obtain ⟨t, q⟩ := (show ∃ t, u = Value.int i t from rx); cases q; exact PySem.W.kia_tup PySem.W.kitx_int I.kIn True.intro htp e (fun z => nomatch z) h
  | str y => obtain ⟨t, q⟩ := (show ∃ t, u = Value.str y t from rx); cases q; exact PySem.W.kia_tup PySem.W.kitx_str I.kIn True.intro htp e (fun z => nomatch z) h
  | flt y => obtain ⟨t, q⟩ := (show ∃ t, u = Value.float y t from rx); cases q; exact PySem.W.kia_tup PySem.W.kitx_float I.kIn True.intro htp e (fun z => nomatch z) h
  | @lst a xs ea =>
    cases (show u = Value.ref a from rx)
    obtain ⟨_, _, n, _, h1⟩ := (show ObjOk X.prog X.w H s.heap a (.lst xs) from I.hok a _ ea)
    exact PySem.W.kia_tup PySem.W.kitx_list I.kIn ⟨_, h1, rfl⟩ htp e (fun z => nomatch z) h
  | @frz a ob xs ea =>
    cases (show u = Value.ref a from rx)
    obtain ⟨_, _, _, n, _, h1⟩ := (show ObjOk X.prog X.w H s.heap a (.frz ob (.lst xs)) from I.hok a _ ea)
    exact PySem.W.kia_tup PySem.W.kitx_list I.kIn ⟨_, h1, rfl⟩ htp e (fun z => nomatch z) h
  | @tup a xs ea =>
    cases (show u = Value.ref a from rx)
    obtain ⟨_, _, _, p, _⟩ := (show ObjOk X.prog X.w H s.heap a (.tup xs) from I.hok a _ ea)
    obtain ⟨o, h1, h2, _⟩ := p
    exact PySem.W.kia_tup PySem.W.kitx_tuple I.kIn ⟨o, h1, h2⟩ htp e (fun z => nomatch z) h
  | @dK a kvs ea =>
    cases (show u = Value.ref a from rx)
    obtain ⟨_, _, vs, _, p⟩ := (show ObjOk X.prog X.w H s.heap a (.dK kvs) from I.hok a _ ea)
    obtain ⟨o, es, ep, h1, h2, _⟩ := p
    exact PySem.W.kia_tup PySem.W.kitx_dict I.kIn ⟨o, h1, h2.1⟩ htp e (fun z => nomatch z) h
  | @dT a kvs ea =>
    cases (show u = Value.ref a from rx)
    obtain ⟨_, _, xs, _, o, es, ep, h1, h2, _⟩ := (show ObjOk X.prog X.w H s.heap a (.dT kvs) from I.hok a _ ea)
    exact PySem.W.kia_tup PySem.W.kitx_dict I.kIn ⟨o, h1, h2.1⟩ htp e (fun z => nomatch z) h
  | @ins a C dx fs ea cl ha hn htk hm =>
    cases (show u = Value.ref a from rx)
    obtain ⟨mA, O, _⟩ := ins_get I.hok ea
    obtain ⟨od, J, _⟩ := O.look
    exact PySem.W.kia_tup (PySem.W.kitx_own (cl.get _) cl.hd ha hn htk hm) I.kIn J htp e (fun z => nomatch z) h
noncomputable def rIsiT (K : PySem.W.Frag) : List V → Hp → VK → Prop := fun xs H Q => ∃ v a c d t b, xs = [v, .ref a] ∧ H a = some (.tup [.ty c, .ty d]) ∧ TyOf K H v t ∧ PySem.W.kitAny K t [.type c, .type d] = some b ∧ Q (.bl b) H
theorem call_isiT : CallR X (.builtin "isinstance") (rIsiT X.K) := by
  intro pins s σ H xs us Q I r ⟨v, a, c, d, t, b, e0, ha, ty, e, q⟩
  subst e0
  obtain ⟨u, w', rfl, ru, rc⟩ := vals2 r
  cases rc
  obtain ⟨z, its, rv, ⟨⟨cls, dd, data, sl⟩, ho, hc, n, hd⟩, _⟩ := (show ObjOk X.prog X.w H s.heap a (.tup [.ty c, .ty d]) from I.hok a _ ha)
  simp only at hc hd
  subst hc hd
  obtain ⟨u1, u2, rfl, r1, r2⟩ := vals2 rv
  cases r1
  cases r2
  exact isinst_tup I ru ty ho e fun tk => ⟨.bl b, H, I.tok _, rfl, q⟩
theorem kit_two {s c d : String} (hs : s ∈ ["NoneType", "bool", "int", "str", "tuple", "list", "dict"]) (hc : c ∈ ["bool", "int", "str", "tuple", "list"]) (hd : d ∈ ["bool", "int", "str", "tuple", "list"]) : PySem.W.kitAny K (.type s) [.type c, .type d] = some (isSub s c || isSub s d) := by
  unfold PySem.W.kitAny
  rw [kit_tab hs hc]
  cases isSub s c with
  | true => rfl
  | false =>
    simp only [Bool.false_or]
    unfold PySem.W.kitAny
    rw [kit_tab hs hd]
    cases isSub s d <;> rfl
theorem oe_isi2 {a : Expr} {wa : WE} {cn dn : Str} {p p2 p3 pt pos : Pos} {kt : Nat} (c d : String) (hm : X.mg "isinstance" = none) (hmc : X.mg cn = none) (hmd : X.mg dn = none) (ha : OE X a wa) (hc : c ∈ ["bool", "int", "str", "tuple", "list"] := by simp) (hd : d ∈ ["bool", "int", "str", "tuple", "list"] := by simp)
    (hv : bootBuiltins cn = some (.type c) := by rfl) (hv2 : bootBuiltins dn = some (.type d) := by rfl) (hg : Gl X "isinstance" := by rfl) (hgc : Gl X cn := by rfl) (hgd : Gl X dn := by rfl) (hn : cn ≠ "__name__" := by decide) (hn2 : dn ≠ "__name__" := by decide) (hdb : (cn == ("__debug__" : Str)) = false := by decide) (hdb2 : (dn == ("__debug__" : Str)) = false := by decide)
    (hs : starEach [a, .Tuple [.Name cn p2, .Name dn p3] kt pt] X.env = (false, eval a X.env) :: starEach [.Tuple [.Name cn p2, .Name dn p3] kt pt] X.env := by rfl) : OE X (.Call (.Name "isinstance" p) [a, .Tuple [.Name cn p2, .Name dn p3] kt pt] [] pos) (wIsi2 c d wa) :=
  PE.imp (pe_callB call_isiT hg hm (by rfl) (pa_cons ha (pa_cons (pe_tup (pa_cons (pe_bltn (v := .ty c) hgc hmc hv rfl hn hdb) (pa_cons (pe_bltn (v := .ty d) hgd hmd hv2 rfl hn2 hdb2) pa_nil))) pa_nil) hs) (by decide) (by decide) hs) fun σ H Q ⟨m, env, h, k, rp, en, w, af⟩ =>
    ⟨m, env, h, _, rp, en, w, fun x h1 m1 H1 v u1 r1 dd q1 => by
      cases e : tyN x h1 with
      | none => simp only [e] at q1
      | some s =>
        simp only [e] at q1
        refine ⟨by show 2 ≤ sizeLine; decide, fun t ht => ?_⟩
        have u2 : Up m1 H1 m1 (upd H1 t (.tup [.ty c, .ty d])) := .newTup ht
        obtain ⟨ty, hs⟩ := tyOf_of (r1.tup (x := .tup [.ty c, .ty d]) ht) (dd.up u2) e
        exact ⟨v, t, c, d, .type s, _, rfl, upd_same, ty, kit_two hs hc hd, af _ h1 m1 _ _ (u1.trans u2) (r1.tup ht) (.bl _) q1⟩⟩
end
end Pu
set_option Elab.async false
set_option linter.all false
set_option maxRecDepth 100000
namespace L2
open PySem PySem.Spec PyProof.Rows
noncomputable def inXc (X : Cx) (scope : Scope) (y : Str) (cl : List (Str × Addr)) (C Cc : Addr) (s₂ : Shared) (H₂ : Hp) (ex : List Addr) (pn : List (Addr × Obj)) : Cx :=
  { X with env := compEnvC scope ((y, Cc) :: cl) C X.env, s₀ := s₂, H₀ := H₂, outer := X.stack, ex := ex, fn := fun x => x == y, pn := pn, xe := fun _ _ => False }
structure CompOkC (X : Cx) (scope : Scope) (js : List Nat) (y : Str) : Prop where
  kind : scope.kind = .function
  one : scope.names.filter (fun z => z.2 == .cell) = [(y, .cell)]
  names : ∀ z ∈ scope.names, z.2 = .local → scope.names.lookup z.1 = some .local
  fr : ∀ z ∈ scope.names, z.2 = .free → X.env.kindOf z.1 = some .cell ∨ X.env.kindOf z.1 = some .free
  frn : ∀ z ∈ scope.names, z.2 = .free → z.1 ≠ y
  loc : ∀ (i : Nat) x, X.N[i]? = some x → scope.names.lookup x = some .local ∨ scope.names.lookup x = some .cell → i ∈ js
theorem CompOkC.is {X : Cx} {scope : Scope} {js : List Nat} {y : Str} (c : CompOkC X scope js y) {x : Str} (h : (x, NameKind.cell) ∈ scope.names) : x = y := by
  have : (x, NameKind.cell) ∈ scope.names.filter (fun z => z.2 == .cell) := List.mem_filter.mpr ⟨h, rfl⟩
  rw [c.one] at this
  exact (Prod.mk.inj (List.mem_singleton.mp this)).1
theorem cells_one {y : Str} : ∀ (names : List (Str × NameKind)) (h : Heap) (n : Nat) (acc : List (Str × Addr)), names.filter (fun z => z.2 == .cell) = [(y, .cell)] →
    cellsFrom n names acc = (y, n) :: acc ∧ pushCells h names = h.push { cls := .type "cell", data := .cell none }
  | [], _, _, _, e => by cases e
  | (x, k) :: r, h, n, acc, e => by
    rw [List.filter_cons] at e
    unfold cellsFrom pushCells
    by_cases hk : (k == NameKind.cell) = true
    · simp only [hk, if_true] at e ⊢
      have e1 := (List.cons.inj e).1
      have e2 : r.filter (fun z => z.2 == .cell) = [] := (List.cons.inj e).2
      have none : ∀ (names : List (Str × NameKind)) (h : Heap) (n : Nat) (acc : List (Str × Addr)), names.filter (fun z => z.2 == .cell) = [] → cellsFrom n names acc = acc ∧ pushCells h names = h := by
        intro names
        induction names with
        | nil => intro h n acc _; exact ⟨rfl, rfl⟩
        | cons p r ih =>
          obtain ⟨x', k'⟩ := p
          intro h n acc e
          rw [List.filter_cons] at e
          unfold cellsFrom pushCells
          by_cases hk' : (k' == NameKind.cell) = true
          · simp only [hk', if_true] at e; cases e
          · simp only [hk', Bool.false_eq_true, if_false] at e ⊢
            exact ih h n acc e
      obtain ⟨g1, g2⟩ := none r (h.push { cls := .type "cell", data := .cell Option.none }) (n + 1) ((x, n) :: acc) e2
      rw [g1, g2, (Prod.mk.inj e1).1]
      exact ⟨rfl, rfl⟩
    · simp only [hk, Bool.false_eq_true, if_false] at e ⊢
      exact cells_one r h n acc e
theorem newEnv_cell {M : Model} {A : Around} {E : Value → Shared → Prop} {s : Shared} {scope : Scope} {globals : Addr} {cl : List (Str × Addr)} {qual : Str} {env : Env} {y : Str} {Q : Env → Shared → Prop} (h1 : scope.names.filter (fun z => z.2 == .cell) = [(y, .cell)])
    (hQ : ∀ h', h'.Ns s.heap.objs.size (fun _ => none) → h'.IsCell (s.heap.objs.size + 1) none → (∀ b o, s.heap.get? b = some o → h'.get? b = some o) →
      Q (newEnv scope s.heap.objs.size globals ((y, s.heap.objs.size + 1) :: cl) qual none .none (some env) builtinsNs) { s with heap := h' }) :
    wpAny M A (newFunctionEnv scope globals cl [] qual none .none (some env)) Q E s := by
  simp only [newFunctionEnv, Option.isSome_some, if_true]
  refine wpAny_bind (wpAny_alloc ?_)
  refine wpAny_bind (wpAny_layCells _ (fun name kind cells => by cases hkc : kind == NameKind.cell <;> simp [hkc]) _ _ _ _ ?_)
  obtain ⟨e1, e2⟩ := cells_one scope.names (s.heap.push { cls := .type "dict", data := .dict #[] }) (s.heap.objs.size + 1) cl h1
  rw [show ({ s with heap := s.heap.push { cls := .type "dict", data := .dict #[] } } : Shared).heap.objs.size = s.heap.objs.size + 1 from Heap.size_push .., e1]
  show wpAny _ _ _ _ _ { s with heap := pushCells (s.heap.push { cls := .type "dict", data := .dict #[] }) scope.names }
  rw [e2]
  refine wpAny_pure (hQ _ ?_ ?_ fun b o e => Heap.get?_push_of_some _ (Heap.get?_push_of_some _ e))
  · exact (Heap.Ns.new s.heap (.type "dict")).keeps fun b o e => Heap.get?_push_of_some _ e
  · refine ⟨{ cls := .type "cell", data := .cell none }, ?_, rfl⟩
    rw [show s.heap.objs.size + 1 = (s.heap.push { cls := .type "dict", data := .dict #[] }).objs.size from (Heap.size_push ..).symm]
    exact Heap.get?_push_size _ rfl
theorem look_two {y x : Str} {Cc a : Addr} {cl : List (Str × Addr)} (h : ((y, Cc) :: cl).lookup x = some a) : (x = y ∧ a = Cc) ∨ (x ≠ y ∧ cl.lookup x = some a) := by
  rw [List.lookup_cons] at h
  cases e : x == y with
  | true =>
    rw [e] at h
    cases h
    exact .inl ⟨by simpa using e, rfl⟩
  | false =>
    rw [e] at h
    exact .inr ⟨by simpa using e, h⟩
theorem look_ne {y x : Str} {Cc : Addr} {cl : List (Str × Addr)} (h : x ≠ y) : ((y, Cc) :: cl).lookup x = cl.lookup x := by
  rw [List.lookup_cons]
  have : (x == y) = false := by simpa using h
  rw [this]
section
variable {X : Cx} {pins : List (Addr × Obj)} {σ : St} {H₂ : Hp} {s₂ : Shared} {scope : Scope} {js : List Nat} {cl : List (Str × Addr)} {fp : List Addr} {C D Cc : Addr} {y : Str}
theorem inXc_ok (I : Inv X pins σ H₂ s₂) (c : CompOkC X scope js y) (k : Clos scope X.env cl) (hf : ∀ b ∈ fp, FpOk X pins H₂ b) (hfo : ∀ b ∈ fp, b < s₂.heap.objs.size) (hC : s₂.heap.objs.size ≤ C) (hCc : s₂.heap.objs.size ≤ Cc) :
    (inXc X scope y cl C Cc s₂ H₂ fp (X.pn ++ pins)).Ok where
  mod := I.ok.mod
  kind := c.kind
  glob := I.ok.glob
  blt := I.ok.blt
  above := hC
  inj := fun x x' a h1 h2 => by
    have old : ∀ z, cl.lookup z = some a → a < s₂.heap.objs.size := fun z e => let ⟨_, q⟩ := I.cell z a (k.sub z a e); q.lt
    rcases look_two h1 with ⟨e1, ea⟩ | ⟨_, h1⟩
    · rcases look_two h2 with ⟨e2, _⟩ | ⟨_, h2⟩
      · rw [e1, e2]
      · exact absurd (Nat.lt_of_lt_of_le (old _ h2) (ea ▸ hCc)) (Nat.lt_irrefl _)
    · rcases look_two h2 with ⟨_, ea⟩ | ⟨_, h2⟩
      · exact absurd (Nat.lt_of_lt_of_le (old _ h1) (ea ▸ hCc)) (Nat.lt_irrefl _)
      · exact I.ok.inj x x' a (k.sub x a h1) (k.sub x' a h2)
  has := fun x hx => by
    have hx : (relabel scope X.env).names.lookup x = some .cell ∨ (relabel scope X.env).names.lookup x = some .free := hx
    have fre : x = y ∨ (x, NameKind.free) ∈ scope.names := by
      rcases hx with h | h
      · rcases kind_in h with h | ⟨_, h⟩
        · exact .inl (c.is (mem_of_lookup' h))
        · exact .inr (mem_of_lookup' h)
      · rcases kind_in h with h | ⟨h, _⟩
        · exact .inr (mem_of_lookup' h)
        · cases h
    rcases fre with rfl | fre
    · exact ⟨Cc, by show ((x, Cc) :: cl).lookup x = _; rw [List.lookup_cons]; simp⟩
    · obtain ⟨a, ha⟩ := I.ok.has x (c.fr _ fre rfl)
      exact ⟨a, (look_ne (c.frn _ fre rfl)).trans ((k.all x fre).trans ha)⟩
  cab := fun x a h e => by
    have hx : x = y := by simpa using (show (x == y) = true from h)
    rcases look_two e with ⟨_, ea⟩ | ⟨hn, _⟩
    · show s₂.heap.objs.size ≤ a; rw [ea]; exact hCc
    · exact absurd hx hn
  hd := I.ok.hd
  frames := I.ok.frames
  stk := .inl rfl
  exf := fun b hb => ⟨Nat.ne_of_lt (Nat.lt_of_lt_of_le (hfo b hb) hC), fun x a h => by
    rcases look_two h with ⟨_, ea⟩ | ⟨_, h⟩
    · rw [ea]; exact Nat.ne_of_gt (Nat.lt_of_lt_of_le (hfo b hb) hCc)
    · exact (hf b hb).2.2.2.2.1 x a (k.sub x a h)⟩
  bs := I.bs
  bsz := Nat.le_trans I.ok.bsz I.sz
  noex := fun b o e hb => by
    rcases (hf b hb).2.2.2.1 with z | z
    · exact I.ok.noex b o e z
    · exact absurd (Nat.lt_of_lt_of_le (Heap.lt_size e) (Nat.le_trans I.ok.bsz z)) (Nat.lt_irrefl _)
  exfs := fun b hb z => by
    rcases List.mem_cons.mp (I.stkSub b z) with e | e
    · exact (hf b hb).2.1 e
    · exact (hf b hb).2.2.1 e
  funs := I.stack
  frf := I.stkFree
theorem inXc_start {s₄ : Shared} {m : Str → Option Value} {n : Nat} (I : Inv X pins σ H₂ s₂) (c : CompOkC X scope js y) (k : Clos scope X.env cl) (hf : ∀ b ∈ fp, FpOk X pins H₂ b) (hfo : ∀ b ∈ fp, b < s₂.heap.objs.size) (hC : s₂.heap.objs.size ≤ C) (hCc : s₂.heap.objs.size ≤ Cc)
    (old : ∀ b o, s₂.heap.get? b = some o → s₄.heap.get? b = some o) (hns : s₄.heap.Ns C m) (hcl : s₄.heap.IsCell Cc none) (hD : s₂.heap.objs.size ≤ D) (hDC : D ≠ C) (hDo : s₄.heap.get? D = some (lobj [] n)) (hos : s₄.os = s₂.os) (hg : s₄.gens = s₂.gens) :
    Inv (inXc X scope y cl C Cc s₂ H₂ fp (X.pn ++ pins)) [(D, lobj [] n)] (clr js σ) H₂ s₄ := by
  have nfs : ∀ b, s₂.heap.objs.size ≤ b → b ∉ frs X.stack := fun b hb z => by
    obtain ⟨_, o, ho, _⟩ := I.stack.mem z
    exact absurd (Nat.lt_of_lt_of_le (Heap.lt_size ho) hb) (Nat.lt_irrefl _)
  refine ⟨inXc_ok I c k hf hfo hC hCc, hos, by rw [hg]; exact I.bare, Un.kept old, ⟨m, hns, fun i x v e1 e2 e3 => ?_⟩, fun x a e => ?_, I.hok.fresh hC, fun x a e => ?_, fun p hp => ?_, I.hok.kept old, (clr_length js σ).trans I.len⟩
  · have e3 : (relabel scope X.env).names.lookup x = some .local ∨ (relabel scope X.env).names.lookup x = some .cell ∨ (relabel scope X.env).names.lookup x = some .free := e3
    have e1 : X.N[i]? = some x := e1
    have fre : (x, NameKind.free) ∈ scope.names := by
      rcases e3 with h | h | h
      · rcases kind_in h with h | ⟨h, _⟩
        · exact absurd (c.loc i x e1 (.inl h)) (clr_out js e2)
        · cases h
      · rcases kind_in h with h | ⟨_, h⟩
        · exact absurd (c.loc i x e1 (.inr h)) (clr_out js e2)
        · exact mem_of_lookup' h
      · rcases kind_in h with h | ⟨h, _⟩
        · exact mem_of_lookup' h
        · cases h
    have hko := c.fr _ fre rfl
    obtain ⟨m0, hn0, hl0⟩ := I.loc
    obtain ⟨u, r, l⟩ := hl0 i x v e1 (clr_get js e2) (hko.elim (fun z => .inr (.inl z)) fun z => .inr (.inr z))
    refine ⟨u, r, ?_⟩
    rcases l with ⟨z, _⟩ | ⟨_, a, ea, ha⟩
    · rcases hko with q | q <;> (have q' : X.env.kindOf x = _ := q; rw [z] at q'; cases q')
    · have ha' : s₄.heap.IsCell a (some u) := let ⟨o, ho, hd⟩ := ha; ⟨o, old _ _ ho, hd⟩
      have hk' : (relabel scope X.env).names.lookup x = some .cell ∨ (relabel scope X.env).names.lookup x = some .free := by
        rcases e3 with h | h | h
        · rcases kind_in h with h | ⟨h, _⟩
          · exact absurd (c.loc i x e1 (.inl h)) (clr_out js e2)
          · cases h
        · exact .inl h
        · exact .inr h
      exact .inr ⟨hk', a, (look_ne (c.frn _ fre rfl)).trans ((k.all x fre).trans ea), ha'⟩
  · rcases look_two e with ⟨_, ea⟩ | ⟨_, e⟩
    · exact ⟨none, by rw [ea]; exact hcl⟩
    · obtain ⟨v, o, ho, hd⟩ := I.cell x a (k.sub x a e)
      exact ⟨v, o, old _ _ ho, hd⟩
  · rcases look_two e with ⟨_, ea⟩ | ⟨_, e⟩
    · rw [ea]; exact I.hok.fresh hCc
    · exact I.freeC x a (k.sub x a e)
  · rcases List.mem_append.mp hp with hp | hp
    · obtain ⟨q1, q2, q3, q4, q5⟩ := I.pin p hp
      refine ⟨old _ _ q1, q2, Nat.ne_of_lt (Nat.lt_of_lt_of_le (Heap.lt_size q1) hC), fun z => ?_, q5⟩
      rcases List.mem_cons.mp (I.stkSub _ z) with e | e
      · exact q3 e
      · exact q4 e
    · have e : p = (D, lobj [] n) := by simpa using hp
      subst e
      exact ⟨hDo, I.hok.fresh hD, hDC, nfs D hD, fun v z => by cases z⟩
end
theorem comp_coreC {X : Cx} {scope : Scope} {y : Str} {js : List Nat} {tg elt iter : Expr} {ifs : List Expr} {g : TG} {tc : TT} {te : TE} {pos : Pos} {pins : List (Addr × Obj)} {σ : St} {H₂ : Hp} {s₂ : Shared} {cl : List (Str × Addr)}
    {it : Addr} {fp : List Addr} {tn : Nat → Heap → Prop} {J : It} {Q : VK} {E : Value → Shared → Prop} {RR : Value → Addr → Result → Shared → Prop}
    (hc : X.calm = true) (c : CompOkC X scope js y) (k : Clos scope X.env cl)
    (hg : ∀ C Cc s₀ H₀ ex pn, PG (inXc X scope y cl C Cc s₀ H₀ ex pn) tg g) (hi : ∀ C Cc s₀ H₀ ex pn, PIfs (inXc X scope y cl C Cc s₀ H₀ ex pn) ifs tc) (he : ∀ C Cc s₀ H₀ ex pn, PE (inXc X scope y cl C Cc s₀ H₀ ex pn) elt te)
    (I₂ : Inv X pins σ H₂ s₂) (T : Turn X.prog X.w X.K tg J fp it tn) (st : tn 0 s₂.heap) (hf : ∀ b ∈ fp, FpOk X pins H₂ b)
    (hW : ∃ W : Nat → Nat → List V → Hp → Prop, (∃ m, W 0 m [] H₂) ∧ ∀ i m vs H, W i m vs H →
      (J.stop i H ∧ vs.length ≤ sizeLine ∧ ∀ p, H p = none → Q (.ref p) (upd H p (.lst vs))) ∨
      (J.go i H ∧ vs.length < sizeLine ∧ ∃ N : List V → Hp → Prop, (∀ vs' H', N vs' H' → ∃ m', m' < m ∧ W (i + 1) m' vs' H') ∧
        ∀ x H', J.yld i H x H' → g x (clr js σ) H' fun σ2 H2 => Wk (clr js σ) σ2 ∧ tc σ2 H2 fun b H3 => if b = true then te σ2 H3 fun v H4 => N (vs ++ [v]) H4 else N vs H3))
    (fin : ∀ (s' : Shared) (H' : Hp) (C D : Addr) (m : Str → Option Value), Inv X pins σ H' s' → s'.heap.Ns C m → H' C = none → C ≠ X.env.locals → X.s₀.heap.objs.size ≤ C → (∀ x a, X.env.cells.lookup x = some a → a ≠ C) → (∀ p ∈ X.pn ++ pins, p.1 ≠ C) →
      Q (.ref D) H' → RR (.ref D) C (.ok .next) s') :
    wpAny (model X.prog X.w) X.A (newList []) (fun acc s₃ => wpAny (model X.prog X.w) X.A (newFunctionEnv scope X.env.globals cl [] X.env.qual none .none (some X.env)) (fun cenv s₄ =>
      codeAny (model X.prog X.w) X.A (.compStart (.ListComp elt [⟨tg, iter, ifs, 0⟩] scope pos) 0 (.ref it) acc { cenv with scope := relabel scope X.env }) (RR acc cenv.locals) s₄) E s₃) E s₂ := by
  refine wpAny_newObj_type (newEnv_cell c.one fun h₁ hns₁ hcl₁ hsb₁ => ?_)
  dsimp only at hns₁ hsb₁ hcl₁ ⊢
  generalize hH2 : s₂.heap.push { cls := .type "list", dict := none, data := .seq ([] : List Value).toArray } = G2 at hns₁ hsb₁ hcl₁ ⊢
  generalize hCe : G2.objs.size = C at hns₁ hsb₁ hcl₁ ⊢
  generalize hDe : s₂.heap.objs.size = D
  have hCD : C = D + 1 := by rw [← hCe, ← hH2, Heap.size_push, hDe]
  have hDC : D ≠ C := by rw [hCD]; exact Nat.ne_of_lt (Nat.lt_succ_self _)
  generalize hCce : C + 1 = Cc at hcl₁ ⊢
  have hCcs : s₂.heap.objs.size ≤ Cc := by rw [hDe, ← hCce, hCD]; exact Nat.le_succ_of_le (Nat.le_succ _)
  have hDCc : Cc ≠ D := by rw [← hCce, hCD]; exact Nat.ne_of_gt (Nat.lt_succ_of_lt (Nat.lt_succ_self _))
  have hfo : ∀ b ∈ fp, b < s₂.heap.objs.size := fun b hb => let ⟨o, e, _⟩ := T.obj _ _ st b hb; Heap.lt_size e
  have hCs : s₂.heap.objs.size ≤ C := by rw [hDe, hCD]; exact Nat.le_succ _
  have below : ∀ b, b < s₂.heap.objs.size → b ≠ C ∧ b ≠ D := fun b hb => by
    rw [hDe] at hb
    exact ⟨by rw [hCD]; exact Nat.ne_of_lt (Nat.lt_succ_of_lt hb), Nat.ne_of_lt hb⟩
  have old : ∀ b o, s₂.heap.get? b = some o → h₁.get? b = some o := fun b o e => hsb₁ b o (hH2 ▸ Heap.get?_push_of_some _ e)
  have hacc : h₁.get? D = some (lobj [] 0) := hsb₁ _ _ (by rw [← hH2, ← hDe]; exact Heap.get?_push_size _ rfl)
  have cellsB : ∀ x a, X.env.cells.lookup x = some a → a < s₂.heap.objs.size := fun x a e => let ⟨_, q⟩ := I₂.cell x a e; q.lt
  have pinsB : ∀ p ∈ X.pn ++ pins, p.1 < s₂.heap.objs.size := fun p hp => Heap.lt_size (I₂.pin p hp).1
  have nfs : ∀ b, s₂.heap.objs.size ≤ b → b ∉ frs X.stack := fun b hb z => by
    obtain ⟨_, o, ho, _⟩ := I₂.stack.mem z
    exact absurd (Nat.lt_of_lt_of_le (Heap.lt_size ho) hb) (Nat.lt_irrefl _)
  have fsB : ∀ b ∈ fp, b ∉ frs X.stack := fun b hb z => by
    rcases List.mem_cons.mp (I₂.stkSub b z) with e | e
    · exact (hf b hb).2.1 e
    · exact (hf b hb).2.2.1 e
  have DnotF : ∀ b ∈ fp, b ≠ D := fun b hb => (below b (hfo b hb)).2
  obtain ⟨W, ⟨m0, w0⟩, turn⟩ := hW
  have fpin : ∀ {H' : Hp} {o : Obj}, (∀ b ∈ fp, H' b = none) → ∀ b ∈ fp, FpOk (inXc X scope y cl C Cc s₂ H₂ fp (X.pn ++ pins)) [(D, o)] H' b := fun {H' o} hn b hb =>
    ⟨hn b hb, (below b (hfo b hb)).1, fsB b hb, .inl hb, fun x a e => by
        rcases look_two e with ⟨_, ea⟩ | ⟨_, e⟩
        · rw [ea]; exact Nat.ne_of_gt (Nat.lt_of_lt_of_le (hfo b hb) hCcs)
        · exact (hf b hb).2.2.2.2.1 x a (k.sub x a e), fun p hp => by
      rcases List.mem_append.mp hp with hp | hp
      · exact (hf b hb).2.2.2.2.2 p hp
      · have e : p = (D, o) := by simpa using hp
        rw [e]; exact (DnotF b hb).symm⟩
  have loop : ∀ s₃ : Shared, s₃ = { s₂ with heap := h₁ } →
      codeAny (model X.prog X.w) X.A (.compLoop (.ListComp elt [⟨tg, iter, ifs, 0⟩] scope pos) 0 (.ref it) (.ref D) (compEnvC scope ((y, Cc) :: cl) C X.env)) (RR (.ref D) C) s₃ := by
    rintro s₃ rfl
    have I4 : Inv (inXc X scope y cl C Cc s₂ H₂ fp (X.pn ++ pins)) [(D, lobj [] 0)] (clr js σ) H₂ { s₂ with heap := h₁ } :=
      inXc_start (s₄ := { s₂ with heap := h₁ }) I₂ c k hf hfo hCs hCcs old hns₁ hcl₁ (Nat.le_of_eq hDe) hDC hacc rfl rfl
    refine codeAny_compLoop_own (fun n s' => ∃ i vs us z H', Inv (inXc X scope y cl C Cc s₂ H₂ fp (X.pn ++ pins)) [(D, lobj us z)] (clr js σ) H' s' ∧ Vals vs us ∧ tn i s'.heap ∧ (∀ b ∈ fp, H' b = none) ∧ W i n vs H') ?_ m0
      ⟨0, [], [], 0, H₂, I4, .nil, T.keep _ _ _ st fun b hb o e => old b o e, fun b hb => (hf b hb).1, w0⟩
    rintro n s3 ⟨i, vs, us, z, H3, I3, rv, st3, fr3, w3⟩
    have pD := I3.pin (D, lobj us z) (List.mem_append_right _ (List.mem_singleton.mpr rfl))
    rcases turn i n vs H3 w3 with ⟨stop, hz, q⟩ | ⟨go, hz, N, hN, step⟩
    · refine thn (T.done (inXc X scope y cl C Cc s₂ H₂ fp (X.pn ++ pins)) rfl rfl rfl hc i _ s3 (clr js σ) H3 (fun _ _ => False) I3 (fpin fr3) st3 stop) fun r s4 zq => ?_
      obtain ⟨hr, I5⟩ := zq
      subst hr
      show RR (.ref D) C (.ok .next) s4
      have pE := I5.pin (D, lobj us z) (List.mem_append_right _ (List.mem_singleton.mpr rfl))
      have nD : H3 D = none := pE.2.1
      have un0 : Un (frs X.stack) fp H₂ H3 s₂.heap s4.heap := I5.base
      have un : Un (frs X.stack) fp H₂ (upd H3 D (.lst vs)) s₂.heap s4.heap :=
        ⟨un0.keep, un0.slot, fun b o e n hx => by rw [upd_ne (below b (Heap.lt_size e)).2]; exact un0.free b o e n hx, un0.there,
          fun b xs e => by have q := un0.tups b xs e; rw [upd_ne (ne_of_none q nD)]; exact q, fun b o u e => by have q := un0.frzs b o u e; rw [upd_ne (ne_of_none q nD)]; exact q,
          fun b ps e => by obtain ⟨more, q⟩ := un0.tbls b ps e; exact ⟨more, by rw [upd_ne (ne_of_none q nD)]; exact q⟩⟩
      have hok : HOk X.prog X.w (upd H3 D (.lst vs)) s4.heap := HOk.take I5.hok nD ⟨hz, us, z, rv, pE.1⟩
      have I6 : Inv X pins σ (upd H3 D (.lst vs)) s4 := I₂.call' I5.os un hok I5.bare fun b hb => ⟨(hf b hb).2.2.2.1, (hf b hb).2.1, (hf b hb).2.2.2.2.1, (hf b hb).2.2.2.2.2⟩
      obtain ⟨mC, hnC, _⟩ := I5.loc
      have nC : H3 C = none := I5.free
      exact fin s4 _ C D mC I6 hnC (by rw [upd_ne (Ne.symm hDC)]; exact nC) (Nat.ne_of_gt (Nat.lt_of_lt_of_le I₂.lt hCs)) (Nat.le_trans I₂.sz hCs) (fun x a e => (below a (cellsB x a e)).1) (fun p hp => (below p.1 (pinsB p hp)).1) (q D nD)
    · refine thn (T.item (inXc X scope y cl C Cc s₂ H₂ fp (X.pn ++ pins)) rfl rfl rfl hc i _ s3 (clr js σ) H3 (fun _ _ => False) I3 (fpin fr3) st3 go) fun r s4 zq => ?_
      obtain ⟨u, hr, h4⟩ := zq
      subst hr
      refine thn h4 fun _ s5 zq => ?_
      obtain ⟨x, H5, I5, r5, y5, st5, fr5⟩ := zq
      have I5' := I5.pinned (fpin fr5) (T.obj _ _ st5)
      refine thn (hg C Cc s₂ H₂ fp (X.pn ++ pins) _ s5 (clr js σ) H5 x u _ I5' r5 (step x H5 y5)) fun _ s6 zq => ?_
      obtain ⟨σ6, H6, I6, wk6, q6⟩ := zq
      refine thn (hi C Cc s₂ H₂ fp (X.pn ++ pins) _ s6 σ6 H6 _ I6 q6) fun ok s7 zq => ?_
      obtain ⟨H7, I7, q7⟩ := zq
      -- the iterator and the list so far, behind whatever was done
      have fpK : ∀ {H' : Hp} {s' : Shared}, Inv (inXc X scope y cl C Cc s₂ H₂ fp (X.pn ++ pins)) ([(D, lobj us z)] ++ pinsAt fp s5.heap) σ6 H' s' → (∀ b ∈ fp, ∀ o, s5.heap.get? b = some o → s'.heap.get? b = some o) ∧ (∀ b ∈ fp, H' b = none) ∧ s'.heap.get? D = some (lobj us z) ∧ H' D = none := fun {H' s'} I' => by
        refine ⟨fun b hb o e => (I'.pin (b, o) (List.mem_append_right _ (List.mem_append_right _ (mem_pinsAt hb e)))).1, fun b hb => ?_, ?_⟩
        · obtain ⟨o, e, _⟩ := T.obj _ _ st5 b hb
          exact (I'.pin (b, o) (List.mem_append_right _ (List.mem_append_right _ (mem_pinsAt hb e)))).2.1
        · have p := I'.pin (D, lobj us z) (List.mem_append_right _ (List.mem_append_left _ (List.mem_singleton.mpr rfl)))
          exact ⟨p.1, p.2.1⟩
      cases ok with
      | false =>
        have q7 : N vs H7 := q7
        show ∃ m, m < n ∧ _
        obtain ⟨k1, k2, k3, k4⟩ := fpK I7
        obtain ⟨m', hm, w7⟩ := hN vs H7 q7
        exact ⟨m', hm, i + 1, vs, us, z, H7, (Inv.unpinned I7).wk wk6, rv, T.keep _ _ _ st5 fun b hb o e => k1 b hb o e, k2, w7⟩
      | true =>
        have q7 : te σ6 H7 fun v H4 => N (vs ++ [v]) H4 := q7
        show wpAny _ _ _ _ _ _
        refine thn (he C Cc s₂ H₂ fp (X.pn ++ pins) _ s7 σ6 H7 _ I7 q7) fun uv s8 zq => ?_
        obtain ⟨v, H8, I8, r8, q8⟩ := zq
        obtain ⟨k1, k2, k3, k4⟩ := fpK I8
        have lenU : us.length < sizeLine := by rw [← rv.length]; exact hz
        refine append_at (hsz := by rw [List.size_toArray]; exact Nat.le_of_lt lenU) k3 fun h9 hs9 hD9 => ?_
        obtain ⟨m', hm, w9⟩ := hN _ _ q8
        have J0 : Inv (inXc X scope y cl C Cc s₂ H₂ fp (X.pn ++ pins)) [] σ6 H8 s8 := I8.pins_of fun p hp => nomatch hp
        have J1 : Inv (inXc X scope y cl C Cc s₂ H₂ fp (X.pn ++ pins)) [] σ6 H8 { s8 with heap := h9, toks := s8.toks } := J0.turned (it := D) (fun b o hb e => (hs9.2 b hb).trans e) k4 hDC (.inr (Nat.le_of_eq hDe))
          (fun x a e z => by
            rcases look_two e with ⟨_, ea⟩ | ⟨_, e⟩
            · rw [ea] at z; exact hDCc z
            · exact (below a (cellsB x a (k.sub x a e))).2 z) fun p hp => by
            rcases List.mem_append.mp hp with hp | hp
            · exact (below p.1 (pinsB p hp)).2
            · exact nomatch hp
        have J2 : Inv (inXc X scope y cl C Cc s₂ H₂ fp (X.pn ++ pins)) [(D, lobj (us ++ [uv]) (z + 1))] σ6 H8 { s8 with heap := h9, toks := s8.toks } := J1.pins_of fun p hp => by
          have e : p = (D, lobj (us ++ [uv]) (z + 1)) := by simpa using hp
          subst e
          refine ⟨?_, k4, hDC, nfs D (Nat.le_of_eq hDe), fun v z => by cases z⟩
          show h9.get? D = some _
          rw [hD9]
          simp [lobj]
        refine ⟨m', hm, i + 1, vs ++ [v], us ++ [uv], z + 1, H8, J2.wk wk6, rv.append (.cons r8 .nil), T.keep _ _ _ st5 fun b hb o e => ?_, k2, w9⟩
        exact (hs9.2 b (DnotF b hb)).trans (k1 b hb o e)
  exact codeAny_compStart_list (loop _ rfl) (T.self _ 0 _ _ _ (T.keep _ _ _ st fun b hb o e => old b o e) (loop _ rfl))
section
variable {X : Cx} {scope : Scope} {y0 : Str} {js : List Nat} {tg elt iter : Expr} {ifs : List Expr} {wi : TI} {g : TG} {tc : TT} {te : TE} {pos : Pos}
theorem ps_compC {i : Nat} {y : Str} {py spos : Pos} (hN : X.N.Nodup) (hiN : X.N[i]? = some y) (hy : X.env.scope.names.lookup y = some .local) (hc : X.calm = true) (c : CompOkC X scope js y0) (hi : PI X tg iter wi)
    (hg : ∀ cl C Cc s₀ H₀ ex pn, PG (inXc X scope y0 cl C Cc s₀ H₀ ex pn) tg g) (hf : ∀ cl C Cc s₀ H₀ ex pn, PIfs (inXc X scope y0 cl C Cc s₀ H₀ ex pn) ifs tc) (he : ∀ cl C Cc s₀ H₀ ex pn, PE (inXc X scope y0 cl C Cc s₀ H₀ ex pn) elt te)
    (hs : ∀ x, foldedSetIterable iter X.env x = pure x := by intro _; rfl) (hsw : swapsWith (.ListComp elt [⟨tg, iter, ifs, 0⟩] scope pos) (some (.Name y py)) spos.line X.env = pure true := by rfl) :
    PS X (.Assign [.Name y py] (.ListComp elt [⟨tg, iter, ifs, 0⟩] scope pos) spos) (tAsg (tComp wi js g tc te) (gName i)) := by
  intro pins s σ H D I h
  obtain ⟨cl, k⟩ := clos_of (scope := scope) (env := X.env) fun x hx => I.ok.has x (c.fr _ hx rfl)
  rw [exec_Assign_Name_used _ _ _ _ hsw]
  refine wpAny_bind (wpAny_standAt (wpAny_bind ?_))
  show wpAny _ X.A (do let _ ← comprehension (.ListComp elt [⟨tg, iter, ifs, 0⟩] scope pos) scope X.env _ (newList []) false (eval iter X.env) (some (assign (.Name y py) X.env))) _ _ s
  refine wpAny_bind (wpAny_mono (wpAny_comprehension_free (use := some (assign (.Name y py) X.env)) (Q := fun _ s' => SP X pins D .next s') rfl hs k.eq c.kind c.names
    (thn (hi pins s σ H _ I h) fun v s1 h1 => thn h1 fun itv s2 h2 => ?_)) (fun _ s' hq => wpAny_pure (wpAny_pure hq)) fun _ _ e => e)
  obtain ⟨it, fp, tn, J, H2, e, I2, T, st2, f2, hW⟩ := h2
  subst e
  refine comp_coreC (Q := fun v H' => gName i v σ H' D.nx) hc c k (hg cl) (hf cl) (he cl) I2 T st2 f2 hW fun s' H' C D' m I' hn hC hL hs0 hcell hpin q => ?_
  show wpAny _ X.A (assign (.Name y py) X.env (.ref D')) _ _ s'
  refine wpAny_assign_Name (store_ok2 I' hN hiN (.inl hy) (v := .ref D') rfl (fun s'' I'' ⟨a, hsb, ha⟩ => ?_) (.inr hy))
  have hCa : C ≠ a := by
    rcases ha with z | z
    · rw [z]; exact hL
    · exact fun e => hcell y a z e.symm
  refine ⟨m, hn.sameBut hsb hCa, fun h' hs' => ?_⟩
  exact ⟨_, H', I''.turned (t' := s''.toks) (it := C) (fun b o hb e => (hs'.2 b hb).trans e) hC (fun z => hL z) (.inr hs0) hcell hpin, q⟩
end
end L2
set_option Elab.async false
set_option linter.all false
set_option maxRecDepth 100000
namespace Pu
open PySem PySem.Spec PyProof.Rows L2
section
variable {X : Cx} {pos : Pos}
theorem compOkC_of {scope : Scope} {j : Nat} {y : Str} {fs : Scope} {N : List Str} (hs : X.env.scope = fs) (hN : X.N = N)
    (h : (decide (scope.kind = .function) && decide (scope.names.filter (fun z => z.2 == .cell) = [(y, .cell)]) && scope.names.all (fun z => decide (z.2 ≠ .local) || decide (scope.names.lookup z.1 = some .local)) &&
      scope.names.all (fun z => decide (z.2 ≠ .free) || ((decide (fs.names.lookup z.1 = some .cell) || decide (fs.names.lookup z.1 = some .free)) && decide (z.1 ≠ y))) &&
      (List.range N.length).all fun i => match N[i]? with
        | some x => (decide (scope.names.lookup x ≠ some .local) && decide (scope.names.lookup x ≠ some .cell)) || decide (i = j)
        | none => true) = true) : CompOkC X scope [j] y := by
  simp only [Bool.and_eq_true, List.all_eq_true, decide_eq_true_eq, Bool.or_eq_true] at h
  obtain ⟨⟨⟨⟨h1, h2⟩, h3⟩, h4⟩, h5⟩ := h
  refine ⟨h1, h2, fun y hy hl => ?_, fun y hy hf => ?_, fun y hy hf => ?_, fun i x hx hl => ?_⟩
  · rcases h3 y hy with z | z
    · exact absurd hl z
    · exact z
  · show X.env.scope.names.lookup y.1 = some .cell ∨ X.env.scope.names.lookup y.1 = some .free
    rw [hs]
    rcases h4 y hy with z | ⟨z, _⟩
    · exact absurd hf z
    · exact z
  · rcases h4 y hy with z | ⟨_, z⟩
    · exact absurd hf z
    · exact z
  · rw [hN] at hx
    have hi := (List.getElem?_eq_some_iff.mp hx).1
    have z := h5 i (List.mem_range.mpr hi)
    rw [hx] at z
    simp only [Bool.or_eq_true, Bool.and_eq_true, decide_eq_true_eq] at z
    rcases z with ⟨z1, z2⟩ | z
    · rcases hl with hl | hl
      · exact absurd hl z1
      · exact absurd hl z2
    · rw [z]; simp
theorem s_compC {scope : Scope} {x y : Str} {px py spos : Pos} {elt iter : Expr} {ifs : List Expr} {wi : WI} {wc : WT} {we : WE} (i j : Nat) (hN : X.N.Nodup) (hc : X.calm = true) (c : CompOkC X scope [j] x) (hi : OI X (.Name x px) iter wi)
    (hf : ∀ cl C Cc s₀ H₀ ex pn, OIfs (inXc X scope x cl C Cc s₀ H₀ ex pn) ifs wc) (he : ∀ cl C Cc s₀ H₀ ex pn, OE (inXc X scope x cl C Cc s₀ H₀ ex pn) elt we)
    (hiN : X.N[i]? = some y := by rfl) (hy : X.env.scope.names.lookup y = some .local := by rfl)
    (hj : X.N[j]? = some x := by rfl) (hx : (relabel scope X.env).names.lookup x = some .cell := by rfl)
    (hs : ∀ x, foldedSetIterable iter X.env x = pure x := by intro _; rfl) (hsw : swapsWith (.ListComp elt [⟨.Name x px, iter, ifs, 0⟩] scope pos) (some (.Name y py)) spos.line X.env = pure true := by rfl) :
    OS X (.Assign [.Name y py] (.ListComp elt [⟨.Name x px, iter, ifs, 0⟩] scope pos) spos) (wAsg (wComp wi j wc we) (gN i)) :=
  PS.imp (ps_compC (js := [j]) hN hiN hy hc c hi (fun cl C Cc s₀ H₀ ex pn => pg_name (X := inXc X scope x cl C Cc s₀ H₀ ex pn) hN hj (.inr hx) (.inl (by show (x == x) = true; simp))) (tc := rdT X.K wc) (te := rdE X.K we) hf he hs hsw) fun D σ H ⟨m, env, h, D', rp, en, w, af⟩ =>
    rd_comp σ H _ ⟨m, env, h, _, rp, en, w, fun t h1 m1 H1 v u1 r1 d q1 => af.nx _ h1 m1 H1 _ u1 r1 ((en.up u1).set d i) q1⟩
end
end Pu
set_option Elab.async false
set_option linter.all false
set_option maxRecDepth 100000
namespace Pu
open PySem PySem.Spec PyProof.Rows L2
section
variable {X : Cx} {pos : Pos}
end
end Pu
set_option Elab.async false
set_option linter.all false
set_option maxRecDepth 100000
namespace Pu
open PySem PySem.Spec PyProof.Rows L2
theorem getItem_tuple_whole {prog : Program} {w : World} {A : Around} {E : Value → Shared → Prop} {s : Shared} {t sl : Addr} {items : Array Value} {vl vu : Value} {lo hi : Option Int} {Q : Value → Shared → Prop} (ht : IsTup s.heap t items) (hs : s.heap.IsSliceOf sl vl vu .none) (pl : IsPart vl lo) (pu : IsPart vu hi)
    (h0 : HT.sIx items.size 0 lo = 0) (h1 : HT.sIx items.size items.size hi = items.size) (h : Q (.ref t) s) : wpAny (model prog w) A (getItem (.ref t) (.ref sl)) Q E s := by
  obtain ⟨os, hos, hcs, hds⟩ := id hs
  have hTs : s.TypeIs (.ref sl) "slice" := ⟨os, hos, hcs⟩
  unfold getItem
  try with_reducible refine wpAny_holding ?_
  first | refine wpAny_bind (wpAny_pure ?_) | skip
  refine wpAny_bind (wpAny_sequenceKey ht.typeIs (by decide) ?_)
  refine wpAny_bind (wpAny_callSpecial?_slot (name := Str.ofString "__getitem__") ht.typeIs PyProof.Rows.slot_tuple_getitem
    (wpAny_call_entry PyProof.Rows.slot_tuple_getitem ht.typeIs PySem.F.entry_tuple_getitem ?_ (PySem.F.args_tuple_getitem_2 _ _)))
  show wpAny _ _ (Builtin.Tuple.tupleItemsOf (.ref t) >>= _) _ _ s
  refine wpAny_bind (tupleItemsOf_ ht ?_)
  refine wpAny_bind (wpAny_typeOf hTs ?_)
  rw [if_pos (by decide)]
  refine wpAny_bind (HT.sliceApplied_gen hs pl pu ?_)
  rw [h0, h1]
  simp only [Nat.sub_zero]
  show wpAny _ _ (if ((((0 : Nat) : Int)) == 0 && (1 : Int) == 1 && items.size == items.size) = true then _ else _) _ _ s
  rw [if_pos (by simp)]
  refine wpAny_bind ?_
  unfold Builtin.Tuple.tupleIsExact
  refine wpAny_bind (wpAny_typeOf ht.typeIs (wpAny_pure ?_))
  rw [if_pos (by decide)]
  exact wpAny_bind (wpAny_rule (wpAny_pure ⟨_, rfl, wpAny_pure h⟩))
section
variable {X : Cx} {K : PySem.W.Frag}
noncomputable def rSlW (K : PySem.W.Frag) : V → Option Int → Option Int → Hp → VK → Prop := fun x lo hi H Q => ∃ a xs, x = .ref a ∧ SqT K H a xs ∧ HT.sIx xs.length 0 lo = 0 ∧ HT.sIx xs.length xs.length hi = xs.length ∧ Q (.ref a) H
theorem sl_whole : SlR X (rSlW X.K) := by
  intro pins s σ H x v vl vu lo hi sl Q I rx hs pl pu z
  obtain ⟨a, xs, rfl, hx, h0, h1, q⟩ := z
  cases rx
  obtain ⟨its, r, ht, hz⟩ := I.tuple hx
  have hlen : its.toArray.size = xs.length := by rw [List.size_toArray]; exact r.length.symm
  refine ⟨"tuple", _, PyProof.Rows.slot_tuple_getitem.lookup, ht.typeIs, ?_⟩
  exact getItem_tuple_whole ht hs pl pu (by rw [hlen]; exact h0) (by rw [hlen]; exact h1) ⟨.ref a, H, I, rfl, q⟩
noncomputable def rSlB (K : PySem.W.Frag) : V → Option Int → Option Int → Hp → VK → Prop := fun x lo hi H Q => rSlL K x lo hi H Q ∨ (rSlT K x lo hi H Q ∨ rSlW K x lo hi H Q)
theorem sl_B : SlR X (rSlB X.K) := sl_list.or (sl_tup.or sl_whole)
theorem i_slA : ∀ m h H x vx l u k Q, Rep K m h H → Den H m x vx → pSlA x l u h k → Aft K m H k Q → rSlB K vx l u H Q := fun m h H x vx l u k Q r d w af => by
  cases d with
  | @ref n a hn => exact .inl (i_slL m h H (.ref n) (.ref a) l u k Q r (.ref hn) w af)
  | @tup a ts vs hv ds =>
    have w : k (.tup (cutT ts l u)) h := w
    have hl := ds.length
    by_cases hw : HT.sIx vs.length 0 l = 0 ∧ HT.sIx vs.length vs.length u = vs.length
    · refine .inr (.inr ⟨a, vs, rfl, .of hv, hw.1, hw.2, af _ h m H _ .refl r (.tup hv ?_) w⟩)
      have e : cutT ts l u = ts := by
        unfold cutT
        rw [hl, hw.1, hw.2, ← hl]
        simp
      rw [e]
      exact ds
    · refine .inr (.inl ⟨a, vs, rfl, .of hv, hw, fun p hp => af _ h m _ _ (.newTup hp) (r.tup hp) (.tup upd_same ?_) w⟩)
      refine Dens.up (.newTup hp) ?_
      unfold cutT cutV
      rw [hl]
      exact (ds.drop _).take _
  | _ => exact (show False from w).elim
end
end Pu
set_option Elab.async false
set_option linter.all false
set_option maxRecDepth 100000
namespace Pu
open PySem PySem.Spec PyProof.Rows L2 PySem.W
noncomputable def RawD (h : Heap) (d : Addr) (es : Array DictEntry) (ep : Nat) : Prop := ∃ o, h.get? d = some o ∧ o.ExactDict ∧ o.data = .dict es ep
theorem RawD.to {h h' : Heap} {d : Addr} {es : Array DictEntry} {ep : Nat} (x : RawD h d es ep) (k : ∀ o, h.get? d = some o → h'.get? d = some o) : RawD h' d es ep := let ⟨o, e, r⟩ := x; ⟨o, k o e, r⟩
theorem RawD.lt {h : Heap} {d : Addr} {es : Array DictEntry} {ep : Nat} (x : RawD h d es ep) : d < h.objs.size := let ⟨_, e, _⟩ := x; Heap.lt_size e
section
variable {prog : Program} {w : World} {A : Around} {E : Value → Shared → Prop} {s : Shared}
theorem vd_iter {v d : Addr} {es : Array DictEntry} {ep : Nat} {Q : Value → Shared → Prop} (hv : s.heap.IsValuesView v d) (hm : RawD s.heap d es ep)
    (hQ : Q (.ref s.heap.objs.size) { s with heap := s.heap.push { cls := .type "dict_valueiterator", data := .fields #[.ref d, .int 0 0, .int es.size 0, .int ep 0] } }) :
    wpAny (model prog w) A (pyIter (.ref v)) Q E s := by
  obtain ⟨ov, g1, g2, g3⟩ := id hv; obtain ⟨o, k1, k2, k3⟩ := id hm
  refine wpAny_pyIter_slot hv.typeIs F.slot_dict_values_iter (wpAny_call_entry F.slot_dict_values_iter hv.typeIs F.entry_dict_values_iter (by
    unfold Builtin.«dict_values.__iter__»; refine wpAny_bind (wpAny_pure (wpAny_bind ?_))
    unfold Builtin.Dict_items.dictOf; refine wpAny_bind (wpAny_field g1 g3 (x := .ref d) rfl (wpAny_pure (wpAny_bind ?_)))
    unfold Builtin.Dict_items.newIterator; refine wpAny_bind (wpAny_dictEntries k1 k3 (wpAny_bind (wpAny_dictEpoch k1 k3 ?_)))
    simp only [show Builtin.Dict_items.ownsTuple "dict_valueiterator" = false by decide, Bool.false_eq_true, if_false]
    refine wpAny_newObj_type (wpAny_pure ⟨_, rfl, "dict_valueiterator", _, ⟨_, Heap.get?_push_size _ rfl, rfl⟩, F.slot_dict_valueiterator_next.lookup, by simpa [rawInt] using hQ⟩)) (F.args_dict_values_iter_1 _))
theorem vd_item {it d : Addr} {i ep : Nat} {es : Array DictEntry} {Q : Option Value → Shared → Prop} (hit : s.heap.IsValIter it d i es.size ep) (hm : RawD s.heap d es ep) (hi : i < es.size)
    (hQ : ∀ h', h'.IsValIter it d (i + 1) es.size ep → Heap.SameBut it s.heap h' → Q (some es[i].val) { s with heap := h' }) : wpAny (model prog w) A (pyNext (.ref it)) Q E s := by
  obtain ⟨o, g1, g2, g3⟩ := id hit; obtain ⟨od, k1, k2, k3⟩ := id hm
  have ho : Builtin.Dict_items.ownsTuple "dict_valueiterator" = false := by decide
  have hst : (s.heap.update it (Obj.mapFields (·.setIfInBounds 1 (rawInt ((i : Int) + 1))))).IsValIter it d (i + 1) es.size ep := ⟨_, Heap.get?_update_self _ g1 (Obj.isFreed_of_fields (Obj.data_mapFields g3 _)), (Obj.cls_mapFields ..).trans g2, by rw [Obj.data_mapFields g3]; simp [rawInt]⟩
  unfold pyNext
  refine wpAny_bind (wpAny_attempt (wpAny_callSpecial?_slot (name := Str.ofString "__next__") hit.typeIs F.slot_dict_valueiterator_next (wpAny_call_entry F.slot_dict_valueiterator_next hit.typeIs F.entry_dict_valueiterator_next ?_ (F.args_dict_valueiterator_next_1 _))))
  refine wpAny_bind (wpAny_pure (wpAny_bind (wpAny_bind ?_)))
  refine wpAny_bind (wpAny_typeNameOfWhole_valiter hit.typeIs (wpAny_pure (wpAny_bind (wpAny_fieldsOf g1 g3 ?_))))
  simp only [ho, Bool.false_eq_true, if_false]
  show wpAny (model prog w) _ (if (Value.ref d == Value.none) = true then _ else _) _ _ s
  rw [if_neg (show ¬ ((Value.ref d == Value.none) = true) from Bool.false_ne_true)]; refine wpAny_bind (wpAny_pure (wpAny_bind (wpAny_dictEntries k1 k3 ?_)))
  rw [if_neg (by simp)]; refine wpAny_bind (wpAny_pure (wpAny_bind (wpAny_dictEpoch k1 k3 ?_)))
  rw [if_neg (by simp)]; refine wpAny_pure ?_
  simp only [if_neg (show ¬ (i : Int) < 0 by omega), Int.toNat_natCast, Array.getElem?_eq_getElem hi]
  refine wpAny_bind (wpAny_bind (wpAny_typeNameOfWhole_valiter hit.typeIs (wpAny_pure (wpAny_bind (wpAny_isOneOf_valiter hit.typeIs ?_)))))
  show wpAny (model prog w) _ (setField (.ref it) 1 (rawInt ((i : Int) + 1)) >>= _) _ _ s
  refine wpAny_bind (wpAny_setField g1 g3 (by simp) (wpAny_bind (wpAny_holding ?_)))
  refine wpAny_bind (wpAny_isOneOf_valiter (s := { s with heap := s.heap.update it (Obj.mapFields (·.setIfInBounds 1 (rawInt ((i : Int) + 1)))) }) hst.typeIs (wpAny_bind (wpAny_isOneOf_valiter (s := { s with heap := s.heap.update it (Obj.mapFields (·.setIfInBounds 1 (rawInt ((i : Int) + 1)))) }) hst.typeIs ?_)))
  exact wpAny_pure (wpAny_pure ⟨_, rfl, wpAny_pure (hQ _ hst (Heap.SameBut.update ..))⟩)
theorem vd_end {it d : Addr} {i ep : Nat} {es : Array DictEntry} {Q : Option Value → Shared → Prop} (hh : A.handled = none) (hit : s.heap.IsValIter it d i es.size ep) (hm : RawD s.heap d es ep) (hi : es.size ≤ i)
    (hQ : ∀ h', Heap.ExtBut it s.heap h' → Q none { s with heap := h' }) : wpAny (model prog w) A (pyNext (.ref it)) Q E s := by
  obtain ⟨o, g1, g2, g3⟩ := id hit; obtain ⟨od, k1, k2, k3⟩ := id hm
  have ho : Builtin.Dict_items.ownsTuple "dict_valueiterator" = false := by decide
  unfold pyNext
  refine wpAny_bind (wpAny_attempt (wpAny_callSpecial?_slot (name := Str.ofString "__next__") hit.typeIs F.slot_dict_valueiterator_next (wpAny_call_entry F.slot_dict_valueiterator_next hit.typeIs F.entry_dict_valueiterator_next ?_ (F.args_dict_valueiterator_next_1 _))))
  refine wpAny_bind (wpAny_pure (wpAny_bind (wpAny_bind ?_)))
  refine wpAny_bind (wpAny_typeNameOfWhole_valiter hit.typeIs (wpAny_pure (wpAny_bind (wpAny_fieldsOf g1 g3 ?_))))
  simp only [ho, Bool.false_eq_true, if_false]
  show wpAny (model prog w) _ (if (Value.ref d == Value.none) = true then _ else _) _ _ s
  rw [if_neg (show ¬ ((Value.ref d == Value.none) = true) from Bool.false_ne_true)]; refine wpAny_bind (wpAny_pure (wpAny_bind (wpAny_dictEntries k1 k3 ?_)))
  rw [if_neg (by simp)]; refine wpAny_bind (wpAny_pure (wpAny_bind (wpAny_dictEpoch k1 k3 ?_)))
  rw [if_neg (by simp)]; refine wpAny_pure ?_
  simp only [if_neg (show ¬ (i : Int) < 0 by omega), Int.toNat_natCast, Array.getElem?_eq_none hi]
  refine wpAny_bind (wpAny_bind (wpAny_typeNameOfWhole_valiter hit.typeIs (wpAny_pure ?_)))
  show wpAny (model prog w) _ (setField (.ref it) 0 .none >>= _) _ _ s
  refine wpAny_bind (wpAny_setField g1 g3 (by simp) ?_)
  show wpAny (model prog w) _ (newExc (.type "StopIteration") [] >>= _) _ _ _
  refine wpAny_bind ?_; simp only [newExc, newTuple]; refine wpAny_bind (wpAny_newObj_type ?_ (by size_fits))
  refine wpAny_bind (m := firstArgMember _ _) (wpAny_of_eq (a := Value.none) (by first | rfl | (simp only [firstArgMember]; rfl)) (wpAny_newObj_type ?_ (by size_fits)))
  simp only [raiseNew]; refine wpAny_bind (wpAny_handled ?_); rw [show A.in1.handled = none from hh]; refine wpAny_bind (wpAny_pure (wpAny_throw ?_))
  refine wpAny_bind (wpAny_isInstance (T := "StopIteration") (b := true) ⟨_, Heap.get?_push_size _ rfl, rfl⟩ isSubtype_stop (wpAny_pure (hQ _ (((Heap.SameBut.update ..).extBut.push _).push _))))
theorem vd_walks (hh : A.handled = none) (I d : Addr) (hne : d ≠ I) (es : Array DictEntry) (ep : Nat) :
    Walks prog w A I [I, d] [I] es.size (fun i v => ∃ h : i < es.size, v = es[i].val) (fun i h => h.IsValIter I d i es.size ep ∧ RawD h d es ep) where
  sub := fun b hb => by simp only [List.mem_cons, List.not_mem_nil, or_false] at hb ⊢; exact .inl hb
  frame := fun _ _ _ st hk => ⟨st.1.at (hk I (by simp)), st.2.to (hk d (by simp))⟩
  item := fun i s Q E hi st hQ => vd_item st.1 st.2 hi fun h' a b => hQ _ h' s.toks ⟨hi, rfl⟩ ⟨a, st.2.to fun o e => b.extBut d o hne e⟩ fun c o hc e => b.extBut c o (fun z => hc (by simp [z])) e
  done := fun s Q E st hQ => vd_end hh st.1 st.2 (Nat.le_refl _) fun h' a => hQ h' s.toks fun c o hc e => a c o (fun z => hc (by simp [z])) e
  self := fun _ _ _ _ st hQ => wpAny_pyIter_valiter st.1 hQ
theorem vd_src {r d : Addr} {es : Array DictEntry} {ep : Nat} : KdlSrc prog w "dict_values" r d es.size (fun i v => ∃ h : i < es.size, v = es[i].val) (fun h => h.IsValuesView r d ∧ RawD h d es ep) where
  type := fun _ z => z.1.typeIs
  there := fun _ z => ⟨let ⟨_, e, _⟩ := z.1; Heap.lt_size e, z.2.lt⟩
  keep := fun _ _ z k => ⟨let ⟨o, e, q⟩ := z.1; ⟨o, k r (.inl rfl) o e, q⟩, z.2.to fun o e => k d (.inr rfl) o e⟩
  notList := by decide
  notTuple := by decide
  hint := fun _ _ _ _ z q => kdl_hint_values z.1.typeIs q
  iter := fun _ _ hh z => ⟨_, _, (fun _ _ q => vd_iter z.1 z.2 q), vd_walks hh _ d (Nat.ne_of_lt z.2.lt) es ep, ⟨⟨_, Heap.get?_push_size _ rfl, rfl, rfl⟩, z.2.to fun o e => Heap.get?_push_of_some _ e⟩⟩
end
section
variable {X : Cx} {K : PySem.W.Frag}
theorem vd_meets (prog : Program) (w : World) (d : Addr) (hd : (d == sysModules) = false) :
    MeetsIn prog w (Builtin.«dict.values» ⟨[.ref d], []⟩) (fun _ R s => s.TypeIs (.ref d) "dict" ∧ R (.ok (.ret (.ref s.heap.objs.size))) { s with heap := s.heap.push { cls := .type "dict_values", data := .fields #[.ref d] } }) :=
  .of_wp fun A R s z => by
    obtain ⟨hT, h⟩ := z
    refine wpAny_bind ?_; unfold Builtin.Dict.noArgs; refine wpAny_bind (wpAny_notOrdered_dict hT (show wpAny (model prog w) _ (pure d) _ _ s from wpAny_pure ?_))
    show wpAny (model prog w) _ (Builtin.Dict.showsAll d >>= _) _ _ s
    unfold Builtin.Dict.showsAll; rw [if_neg (fun z => by rw [hd] at z; cases z)]
    exact wpAny_bind (wpAny_pure (wpAny_bind (wpAny_newObj_type (wpAny_pure ⟨_, rfl, h⟩))))
theorem vd_view {pins : List (Addr × Obj)} {σ : St} {H : Hp} {s : Shared} {E : Value → Shared → Prop} {A : Around} {a : Addr} {kvs : List (List Key × V)} {Q : Value → Shared → Prop} (I : Inv X pins σ H s) (ha : H a = some (.dT kvs))
    (hQ : ∀ es ep, RawD s.heap a es ep → Vals (kvs.map (·.2)) (es.toList.map (·.val)) → Q (.ref s.heap.objs.size) { s with heap := s.heap.push { cls := .type "dict_values", data := .fields #[.ref a] } }) :
    wpAny (model X.prog X.w) A (call (.builtin "dict.values") [.ref a]) Q E s := by
  obtain ⟨hz, hsm, xs, pr, o, es, ep, e1, e2, e3, e4, e5⟩ := (show ObjOk X.prog X.w H s.heap a (.dT kvs) from I.hok a _ ha)
  have hT : s.TypeIs (.ref a) "dict" := ⟨o, e1, e2.1⟩
  have rv : Vals (kvs.map (·.2)) (es.toList.map (·.val)) := by
    rw [e4]
    clear e4 e5 e3 e1 ha hQ hz
    induction pr with
    | nil => exact .nil
    | cons h t ih => exact .cons h.2.2 ih
  exact call_meetsIn F.slot_dict_values hT F.entry_dict_values (F.args_dict_values_1 _) (vd_meets _ _ a hsm) ⟨hT, hQ es ep ⟨o, e1, e2, e3⟩ rv⟩
noncomputable def tListVals (td : TE) : TE := fun σ H Q => td σ H fun x H1 => ∃ a kvs, x = .ref a ∧ H1 a = some (.dT kvs) ∧ ∀ l, H1 l = none → Q (.ref l) (upd H1 l (.lst (kvs.map (·.2))))
theorem pe_listVals {d : Expr} {td : TE} {p apos cpos pos : Pos} (hc : X.calm = true) (hg : Gl X "list") (hm : X.mg "list" = none) (hd : PE X d td) (hbase : attributeBase d "values" X.env (eval d X.env) = eval d X.env := by rfl) (hline : (apos.endLine == cpos.line) = true := by rfl)
    (he : starEach [.Call (.Attribute d "values" apos) [] [] cpos] X.env = [(false, eval (.Call (.Attribute d "values" apos) [] [] cpos) X.env)] := by rfl) :
    PE X (.Call (.Name "list" p) [.Call (.Attribute d "values" apos) [] [] cpos] [] pos) (tListVals td) := by
  intro pins s σ H Q I h
  have hh := I.ok.hd hc
  refine wpAny_Call_Name_kw (ld_blt I hg hm (by rfl) ?_ (by decide) (by decide))
  refine PyProof.Rows.callWith_type1 ?_ (by rw [he]; rfl) (by rfl)
  rw [he]
  show wpAny _ _ (spliced ((false, eval (.Call (.Attribute d "values" apos) [] [] cpos) X.env) :: backTo pos [])) _ _ s
  refine Calls.spliced_cons ?_
  refine wpAny_Call_method0_late hbase hline (thn (hd pins s σ H _ I h) fun v s1 z => ?_)
  obtain ⟨x, H1, I1, r1, a, kvs, ex, ea, q⟩ := z
  subst ex
  cases r1
  obtain ⟨t1, t2⟩ := tyV_is (T := "dict") (x := .ref a) I1 rfl (.inr (.inr (.inl ⟨rfl, .inr ⟨kvs, ea⟩⟩)))
  refine ⟨"dict", _, F.plainAttrs_dict, F.slot_dict_values, F.type_dict_values, t1, t2, Calls.callWith_builtin rfl (PySem.evalArgs_none ?_)⟩
  obtain ⟨hz, _⟩ := (show ObjOk X.prog X.w H1 s1.heap a (.dT kvs) from I1.hok a _ ea)
  refine vd_view I1 ea fun es ep raw rv => Calls.spliced_nil ?_
  have hl : kvs.length = es.size := by
    have := rv.length
    simpa using this
  have keep : ∀ b o, s1.heap.get? b = some o → (s1.heap.push { cls := .type "dict_values", data := .fields #[.ref a] }).get? b = some o := fun b o e => Heap.get?_push_of_some _ e
  refine kdl_call (vd_src (r := s1.heap.objs.size) (d := a) (es := es) (ep := ep)) hh ⟨⟨_, Heap.get?_push_size _ rfl, rfl, rfl⟩, raw.to fun o e => keep _ _ e⟩ (by omega) fun h' tk acc c k1 k2 k3 => ?_
  have I2 : Inv X pins σ H1 { s1 with heap := s1.heap.push { cls := .type "dict_values", data := .fields #[.ref a] } } := I1.kept (t' := s1.toks) keep
  have ev : acc.toList = es.toList.map (·.val) := by
    obtain ⟨n1, n2⟩ := k3
    refine List.ext_getElem? fun j => ?_
    rw [List.getElem?_map, Array.getElem?_toList, Array.getElem?_toList]
    by_cases hj : j < es.size
    · have hj' : j < acc.size := by omega
      rw [Array.getElem?_eq_getElem hj, Array.getElem?_eq_getElem hj']
      obtain ⟨_, e⟩ := n2 j _ (Array.getElem?_eq_getElem hj')
      rw [e]
      rfl
    · rw [Array.getElem?_eq_none (by omega), Array.getElem?_eq_none (by omega)]
      rfl
  refine ⟨.ref _, _, I2.laid (t' := tk) (o := .lst (kvs.map (·.2))) k1 (Nat.le_refl _) ⟨by rw [List.length_map]; exact hz, acc.toList, c, by rw [ev]; exact rv, k2⟩, rfl, q _ (I2.hok.fresh (Nat.le_refl _))⟩
theorem oe_listVals {d : Expr} {wd : WE} {p apos cpos pos : Pos} (hc : X.calm = true) (hm : X.mg "list" = none) (hd : OE X d wd) (hg : Gl X "list" := by rfl) (hbase : attributeBase d "values" X.env (eval d X.env) = eval d X.env := by rfl) (hline : (apos.endLine == cpos.line) = true := by rfl)
    (he : starEach [.Call (.Attribute d "values" apos) [] [] cpos] X.env = [(false, eval (.Call (.Attribute d "values" apos) [] [] cpos) X.env)] := by rfl) :
    OE X (.Call (.Name "list" p) [.Call (.Attribute d "values" apos) [] [] cpos] [] pos) (wListVals wd) :=
  PE.imp (pe_listVals hc hg hm hd hbase hline he) fun σ H Q ⟨m, env, h, k, rp, en, w, af⟩ => ⟨m, env, h, _, rp, en, w, fun x h1 m1 H1 v u1 r1 dx q1 => by
    cases dx with
    | @ref n a hn =>
      have q1 : (match dTOf h1 n with | some kvs => k (.ref h1.length) (h1 ++ [.lst (kvs.map (·.2))]) | none => False) := q1
      cases e : dTOf h1 n with
      | none => rw [e] at q1; exact q1.elim
      | some kvs =>
        rw [e] at q1
        obtain ⟨vs, g1, g2⟩ := r1.dT e hn
        exact ⟨a, vs, rfl, g1, fun l hl => (af.after u1).newLst r1 g2.2 q1 hl⟩
    | _ => exact (show False from q1).elim⟩
end
end Pu
set_option Elab.async false
set_option linter.all false
namespace Pu
open PySem
section
variable {env : Env} {es : List Expr} {p : Pos} {a b c : Expr}
theorem sr_Constant {v : Const} {k : Nat} : starEach (.Constant v k p :: es) env = (false, eval (.Constant v k p) env) :: starEach es env := rfl
theorem sr_Name {x : Str} : starEach (.Name x p :: es) env = (false, eval (.Name x p) env) :: starEach es env := rfl
theorem sr_BinOp {o : Operator} : starEach (.BinOp a o b p :: es) env = (false, eval (.BinOp a o b p) env) :: starEach es env := rfl
theorem sr_Compare {os : List CmpOp} {xs : List Expr} : starEach (.Compare a os xs p :: es) env = (false, eval (.Compare a os xs p) env) :: starEach es env := rfl
theorem sr_Call {xs : List Expr} {ks : List Keyword} : starEach (.Call a xs ks p :: es) env = (false, eval (.Call a xs ks p) env) :: starEach es env := rfl
theorem sr_Subscript : starEach (.Subscript a b p :: es) env = (false, eval (.Subscript a b p) env) :: starEach es env := rfl
theorem sr_Tuple {xs : List Expr} {k : Nat} : starEach (.Tuple xs k p :: es) env = (false, eval (.Tuple xs k p) env) :: starEach es env := rfl
theorem sr_ListComp {gs : List Comprehension} {s : Scope} : starEach (.ListComp a gs s p :: es) env = (false, eval (.ListComp a gs s p) env) :: starEach es env := rfl
end
end Pu
set_option Elab.async false
set_option linter.all false
set_option maxRecDepth 100000
namespace Pu
open PySem L2
end Pu
set_option Elab.async false
set_option linter.all false
set_option maxRecDepth 100000
namespace Pu
open PySem PySem.Spec PyProof.Rows L2
section
variable {X : Cx} {K : PySem.W.Frag} {pos : Pos}
end
end Pu
set_option Elab.async false
set_option linter.all false
set_option maxRecDepth 100000
namespace Pu
open PySem PySem.Spec PyProof.Rows L2
section
variable {X : Cx} {K : PySem.W.Frag} {pos : Pos}
end
end Pu
set_option Elab.async false
set_option linter.all false
set_option maxRecDepth 100000
namespace Pu
open PySem PySem.Spec PyProof.Rows L2
end Pu
set_option Elab.async false
set_option linter.all false
set_option maxRecDepth 100000
namespace Pu
open PySem PySem.Spec PyProof.Rows L2
section
variable {prog : Program} {w : World} {A : Around} {E : Value → Shared → Prop} {s : Shared}
end
end Pu
set_option Elab.async false
set_option linter.all false
set_option maxRecDepth 100000
namespace Pu
open PySem PySem.Spec PyProof.Rows L2
section
variable {prog : Program} {w : World} {A : Around} {E : Value → Shared → Prop} {s : Shared}
end
end Pu
set_option Elab.async false
set_option linter.all false
set_option maxRecDepth 100000
namespace Pu
open PySem PySem.Spec PyProof.Rows L2
section
variable {prog : Program} {w : World} {A : Around} {E : Value → Shared → Prop} {s : Shared}
end
end Pu
set_option Elab.async false
set_option linter.all false
set_option maxRecDepth 100000
namespace Pu
open PySem PySem.Spec PyProof.Rows L2
section
variable {prog : Program} {w : World} {A : Around} {E : Value → Shared → Prop} {s : Shared}
end
end Pu
set_option Elab.async false
set_option linter.all false
set_option maxRecDepth 100000
namespace Pu
open PySem PySem.Spec PyProof.Rows L2
section
variable {prog : Program} {w : World} {A : Around} {E : Value → Shared → Prop} {s : Shared}
end
end Pu
set_option Elab.async false
set_option linter.all false
set_option maxRecDepth 100000
namespace Pu
open PySem PySem.Spec PyProof.Rows L2
section
variable {prog : Program} {w : World} {A : Around} {E : Value → Shared → Prop} {s : Shared}
end
section
variable {X : Cx} {K : PySem.W.Frag} {pos : Pos}
end
end Pu
set_option Elab.async false
set_option linter.all false
set_option maxRecDepth 100000
namespace Pu
open PySem PySem.Spec PyProof.Rows L2
section
variable {X : Cx} {K : PySem.W.Frag} {pos : Pos}
end
end Pu
set_option Elab.async false
set_option linter.all false
set_option maxRecDepth 100000
namespace Pu
open PySem PySem.Spec PyProof.Rows L2
section
variable {X : Cx} {K : PySem.W.Frag} {pos p2 : Pos} {e st : Expr}
end
end Pu
set_option Elab.async false
set_option linter.all false
namespace Pu
open PySem L2
end Pu
set_option Elab.async false
set_option linter.all false
set_option maxRecDepth 100000
namespace Pu
open PySem PySem.Spec PyProof.Rows L2
section
variable {X : Cx} {K : PySem.W.Frag}
end
end Pu
set_option Elab.async false
set_option linter.all false
namespace Pu
open PySem L2
end Pu
set_option Elab.async false
set_option linter.all false
set_option maxRecDepth 100000
namespace Pu
open PySem PySem.Spec PyProof.Rows L2
section
variable {X : Cx} {K : PySem.W.Frag}
end
end Pu
set_option Elab.async false
set_option linter.all false
set_option maxRecDepth 100000
namespace Pu
open PySem L2
end Pu
set_option Elab.async false
set_option linter.all false
set_option maxRecDepth 100000
namespace Pu
open PySem PySem.Spec PyProof.Rows L2
section
variable {X : Cx} {K : PySem.W.Frag}
end
end Pu
namespace Pu
open PySem L2
noncomputable abbrev CPX := List T → PH → WK → (Str → List T → PH → Prop) → Prop
end Pu
set_option Elab.async false
set_option linter.all false
set_option maxRecDepth 100000
namespace Pu
open PySem PySem.Spec PyProof.Rows L2
section
variable {P : Program} {w : World} {K : PySem.W.Frag} {mg : Str → Option Value} {base : Heap} {N : List Str} {qual : Str} {scope : Scope} {f : Addr} {cd : Value} {A : Around} {outer : List Env} {s₀ : Shared} {H₀ : Hp} {E : XK}
end
section
variable {P : Program} {w : World} {K : PySem.W.Frag} {mg : Str → Option Value} {base : Heap} {N : List Str} {qual : Str} {scope : Scope} {f : Addr} {cd : Value} {A : Around} {outer : List Env} {s₀ : Shared} {H₀ : Hp} {E E' : XK}
end
section
variable {X : Cx}
end
end Pu
set_option Elab.async false
set_option linter.all false
set_option maxRecDepth 100000
namespace Pu
open PySem PySem.Spec PyProof.Rows L2
section
variable {X : Cx} {pins : List (Addr × Obj)} {σ : St} {H : Hp} {s : Shared}
end
section
variable {X : Cx} {g a y n gl : Str} {ia iy j : Nat} {G f : Addr} {fd : FuncData} {ps : List Str} {sp : Sp} {k : Nat} {rest : List Stmt} {tr : Addr → Addr → TS} {p1 p2 p3 p4 p5 p6 p7 p8 p9 p10 : Pos}
end
end Pu
set_option Elab.async false
set_option linter.all false
set_option maxRecDepth 100000
namespace Pu
open PySem PySem.Spec PyProof.Rows L2
open PySem.W (Looks)
open PySem.Builtin PySem.Builtin.ObjectAttr PySem.Builtin.Getset_descriptor
structure ExcK (K : PySem.W.Frag) (C : Addr) : Prop where
  ga : PySem.W.findIn K (.ref C) "__getattribute__" = some (some (.builtin "BaseException.__getattribute__"))
  gn : PySem.W.findIn K (.ref C) "__getattr__" = some none
  cl : PySem.W.findIn K (.ref C) "__class__" = some (some (.builtin "object.__class__"))
  sp : PySem.W.specialIn K (.builtin "object.__class__") "__get__" = some (some (.builtin "getset_descriptor.__get__"))
  tk : PySem.W.takesIn K (.builtin "object.__class__") = some true
  mo : PySem.W.mroIn K C (.type "object") = some true
  sb : PySem.W.subIn K (.ref C) (.type "BaseException") = some true
  cs : PySem.W.hasDictIn K C = true
section
variable {prog : Program} {w : World} {A : Around} {E : Value → Shared → Prop} {s : Shared} {K : PySem.W.Frag} {x C : Addr}
end
section
variable {X : Cx} {ea C : Addr} {oe : Obj}
end
end Pu
set_option Elab.async false
set_option linter.all false
set_option maxRecDepth 100000
namespace Pu
open PySem PySem.Spec PyProof.Rows L2
section
variable {X : Cx} {e0 : Expr} {es : List Expr} {tA : TA} {g y n gl : Str} {iy j : Nat} {G f : Addr} {fd : FuncData} {ps : List Str} {sp : Sp} {k : Nat} {rest : List Stmt} {tr : Addr → Addr → TS} {p1 p2 p3 p4 p5 p6 p7 p8 p9 p10 : Pos}
end
end Pu
set_option Elab.async false
set_option linter.all false
set_option maxRecDepth 100000
namespace Pu
open PySem PySem.Spec PyProof.Rows L2
section
variable {X : Cx} {e : Expr} {n : Nat} {x : Str} {cp : CPX} {w : WA} {es : List Expr} {p cpos pos pos' : Pos}
end
end Pu
set_option Elab.async false
set_option linter.all false
set_option maxRecDepth 100000
namespace Pu
open PySem L2
end Pu
set_option Elab.async false
set_option linter.all false
set_option maxRecDepth 100000
namespace L2
open PySem PySem.Spec PyProof.Rows
variable {X : Cx} {a b c d : Expr} {ta tb tc td : TE} {pos : Pos}
end L2
namespace Pu
open PySem PySem.Spec PyProof.Rows L2
variable {X : Cx} {a b c d : Expr} {pos : Pos}
end Pu
set_option Elab.async false
set_option linter.all false
set_option maxRecDepth 100000
namespace ZP
open PySem PySem.Spec PyProof.Rows L2 Pu
open PySem.AutoSeq1 (wpAny_loadPart')
end ZP
set_option Elab.async false
set_option linter.all false
set_option maxRecDepth 100000
namespace Pu
open PySem L2
theorem isS : isSub "NoneType" "bool" = false ∧ isSub "NoneType" "int" = false ∧ isSub "NoneType" "str" = false ∧ isSub "NoneType" "tuple" = false ∧ isSub "NoneType" "list" = false ∧ isSub "bool" "bool" = true ∧ isSub "bool" "int" = true ∧ isSub "bool" "str" = false ∧ isSub "bool" "tuple" = false ∧ isSub "bool" "list" = false ∧ isSub "int" "bool" = false ∧ isSub "int" "int" = true ∧ isSub "int" "str" = false ∧ isSub "int" "tuple" = false ∧ isSub "int" "list" = false ∧ isSub "str" "bool" = false ∧ isSub "str" "int" = false ∧ isSub "str" "str" = true ∧ isSub "str" "tuple" = false ∧ isSub "str" "list" = false ∧ isSub "tuple" "bool" = false ∧ isSub "tuple" "int" = false ∧ isSub "tuple" "str" = false ∧ isSub "tuple" "tuple" = true ∧ isSub "tuple" "list" = false ∧ isSub "list" "bool" = false ∧ isSub "list" "int" = false ∧ isSub "list" "str" = false ∧ isSub "list" "tuple" = false ∧ isSub "list" "list" = true ∧ isSub "dict" "bool" = false ∧ isSub "dict" "int" = false ∧ isSub "dict" "str" = false ∧ isSub "dict" "tuple" = false ∧ isSub "dict" "list" = false := by decide
theorem Ext.setN {h h' : PH} {n m : Nat} {o : Ob} (g : Ext n h h') (hn : h.length ≤ m) : Ext n h (h'.set m o) := fun i u hi e => by
  have := lt_of_get e
  rw [List.getElem?_set_ne (by omega)]
  exact g i u hi e
theorem Ext.ap {h h' g : PH} {n : Nat} (x : Ext n h h') : Ext n h (h' ++ g) := x.trans (Ext.app _ _ _)
theorem Ext.gr {h h' h2 : PH} {n : Nat} (x : Ext n h h') (g : Gro h' h2) : Ext n h h2 := x.trans g.ext
theorem Ext.len {h h' : PH} {n : Nat} (x : Ext n h h') (hn : n < h'.length) : h.length ≤ h'.length := by
  rcases Nat.lt_or_ge h'.length h.length with hl | hl
  · exfalso
    have e : h[h.length - 1]? = some (h[h.length - 1]'(by omega)) := List.getElem?_eq_getElem _
    by_cases hi : h.length - 1 = n
    · omega
    · have := lt_of_get (x _ _ hi e)
      omega
  · exact hl
theorem StOk.lt {n sc : Nat} {ns : List Int} {h : PH} (s : StOk n sc ns h) : n < h.length ∧ sc < h.length := by
  obtain ⟨_, _, e1, _, e2⟩ := s
  exact ⟨lt_of_get e1, lt_of_get e2⟩
theorem StOk.setN {n sc m : Nat} {ns : List Int} {h : PH} {o : Ob} (s : StOk n sc ns h) (h1 : n ≠ m) (h2 : sc ≠ m) : StOk n sc ns (h.set m o) := s.ext (Ext.set _ _ _) h1 h2
theorem Gro.set {h h' : PH} {n : Nat} {o : Ob} (g : Gro h h') (hn : h.length ≤ n) : Gro h (h'.set n o) := fun i u e => by
  have := lt_of_get e
  rw [List.getElem?_set_ne (by omega)]
  exact g i u e
theorem Gro.ap {h h' g : PH} (x : Gro h h') : Gro h (h' ++ g) := x.trans (Gro.app _ _)
theorem set_get {h : PH} {n : Nat} {o u : Ob} (e : h[n]? = some u) : (h.set n o)[n]? = some o := List.getElem?_set_self (lt_of_get e)
theorem set_ne {h : PH} {n m : Nat} {o u : Ob} (e : h[m]? = some u) (hn : n ≠ m) : (h.set n o)[m]? = some u := by rw [List.getElem?_set_ne hn]; exact e
end Pu
open Lean in
local macro_rules
  | `(tactic| simp! only [$xs,*]) => do
    let ys ← ("wSeq wIf wRet wRetN wNext wAsg gN gSb gTp gsCons gsNil wDrop wOp wVar wC wTest wAnd wOr wNot wAndV wOrV wNotV wIfE wUn wChain wCons wNil wTup wLst wCB wCall wBM wSl wPart wNoPart wIsi wSeqI wRng1 wRng2 wFor wComp wYes wDict wTupRng pIx pSet pAdd pSub pI pLen pGt pGe pLe pLt pIb pLtA pEq pNe pMod pIc pFdiv pPow pShl pShr pAnd pOr pMul pInt pNeg pTuple pList pSl pSlL pMt fAppend fPop fReverse fClear isLst eqT_int eqT_bl seqOf_tup List.map_cons List.map_nil List.length_cons List.length_nil List.cons_append List.nil_append List.replicate List.getElem?_cons_zero List.getElem?_cons_succ List.set_cons_zero List.set_cons_succ Nat.reduceSub Nat.reduceAdd if_true if_false Bool.false_eq_true Bool.not_true Bool.not_false decide_true decide_false wZip2 wZip3 pExt fExtend pIs pIsNot pXor isS beq_self_eq_true wDictT pDGet wDPut wListVals pSum pAny wEnum wIsi2 wComp2 wIndex pSlA".splitOn " ").toArray.mapM fun s => let i := mkIdent ((s.splitOn ".").foldl (init := Name.anonymous) fun n c => Name.mkStr n c); `(Lean.Parser.Tactic.simpLemma| $i:ident)
    let zs : Array Syntax := ys.map (·.raw) ++ xs.getElems.map (·.raw)
    let all : Syntax.TSepArray [`Lean.Parser.Tactic.simpStar, `Lean.Parser.Tactic.simpErase, `Lean.Parser.Tactic.simpLemma] "," := ⟨mkSepArray zs (mkAtom ",")⟩
    `(tactic| simp only [$all,*])
namespace PL
open PySem L2 Pu ZP
noncomputable def tN (ns : List Nat) : List T := ns.map fun (n : Nat) => T.int (n : Int)
noncomputable def tI (r : List Int) : T := .tup (r.map T.int)
theorem tN_len (ns : List Nat) : (tN ns).length = ns.length := by simp [tN]
theorem tN_snoc (l : List Nat) (x : Nat) : tN (l ++ [x]) = tN l ++ [.int (x : Int)] := by simp [tN]
theorem tN_get {ns : List Nat} {i : Nat} {x : T} (h : (tN ns)[i]? = some x) : ∃ n, ns[i]? = some n ∧ x = .int (n : Int) := by
  unfold tN at h
  rw [List.getElem?_map] at h
  cases e : ns[i]? with
  | none => rw [e] at h; cases h
  | some n => rw [e] at h; cases h; exact ⟨n, rfl, rfl⟩
theorem tN_at {ns : List Nat} {i : Nat} {n : Nat} (h : ns[i]? = some n) : atI (tN ns) (i : Int) = some (.int (n : Int)) := by
  have hl := (List.getElem?_eq_some_iff.mp h).1
  rw [atI_nn (by omega) (by rw [tN_len]; omega)]
  simp [tN, h]
theorem rng_get {n i : Nat} {x : T} (h : (rngL 0 n)[i]? = some x) : i < n ∧ x = .int (i : Int) := by
  unfold rngL at h
  have hl := (List.getElem?_eq_some_iff.mp h).1
  simp only [List.length_map, List.length_range] at hl
  rw [List.getElem?_map, List.getElem?_range hl] at h
  cases h
  exact ⟨hl, by simp⟩
theorem rng_len (n : Nat) : (rngL 0 n).length = n := by simp [rngL]
theorem rng_tN (n : Nat) : rngL 0 n = tN (List.range n) := by
  unfold rngL tN
  exact List.map_congr_left fun i _ => by simp
theorem snoc_ind {α : Type} {P : List α → Prop} (h0 : P []) (hs : ∀ l a, P l → P (l ++ [a])) : ∀ l, P l := by
  have go : ∀ l : List α, P l.reverse := fun l => by
    induction l with
    | nil => exact h0
    | cons a l ih => rw [List.reverse_cons]; exact hs _ _ ih
  intro l
  have := go l.reverse
  rwa [List.reverse_reverse] at this
noncomputable def rowsStep (acc : List (List Int)) (n : Nat) : List (List Int) := acc.flatMap fun r => (List.range n).map fun (i : Nat) => r ++ [(i : Int)]
noncomputable def rowsK (ks : List Nat) : List (List Int) := ks.foldl rowsStep [[]]
noncomputable def vol (ks : List Nat) : Nat := ks.foldl (· * ·) 1
theorem rowsK_snoc (ks : List Nat) (n : Nat) : rowsK (ks ++ [n]) = rowsStep (rowsK ks) n := by simp [rowsK, List.foldl_append]
theorem vol_snoc (ks : List Nat) (n : Nat) : vol (ks ++ [n]) = vol ks * n := by simp [vol, List.foldl_append]
theorem step_len (acc : List (List Int)) (n : Nat) : (rowsStep acc n).length = acc.length * n := by
  unfold rowsStep
  induction acc with
  | nil => simp
  | cons a r ih => rw [List.flatMap_cons, List.length_append, ih]; simp [Nat.succ_mul, Nat.add_comm]
theorem foldl_len : ∀ (ks : List Nat) (acc : List (List Int)) (c : Nat), acc.length = c → (ks.foldl rowsStep acc).length = ks.foldl (· * ·) c
  | [], _, _, h => h
  | k :: ks, acc, c, h => foldl_len ks _ _ (by rw [step_len, h])
theorem rowsK_len (ks : List Nat) : (rowsK ks).length = vol ks := foldl_len ks [[]] 1 rfl
theorem vol_mono : ∀ (ks : List Nat) (c : Nat), (∀ k ∈ ks, k ≤ 3) → ks.foldl (· * ·) c ≤ c * 3 ^ ks.length
  | [], c, _ => by simp
  | k :: ks, c, h => by
    have := vol_mono ks (c * k) (fun x hx => h x (List.mem_cons_of_mem _ hx))
    have hk := h k List.mem_cons_self
    simp only [List.foldl_cons, List.length_cons, Nat.pow_succ]
    refine Nat.le_trans this ?_
    rw [Nat.mul_assoc, Nat.mul_comm (3 ^ ks.length) 3]
    exact Nat.mul_le_mul_left _ (Nat.mul_le_mul_right _ hk)
theorem vol_le {ks : List Nat} (h : ∀ k ∈ ks, k ≤ 3) (hl : ks.length ≤ 6) : vol ks ≤ 729 := by
  refine Nat.le_trans (vol_mono ks 1 h) ?_
  rw [Nat.one_mul]
  exact Nat.le_trans (Nat.pow_le_pow_right (by decide) hl) (by decide)
noncomputable def RowOk (ks : List Nat) (r : List Int) : Prop := r.length = ks.length ∧ ∀ (i : Nat) (k : Nat) (x : Int), ks[i]? = some k → r[i]? = some x → 0 ≤ x ∧ x < k
theorem rowsK_ok : ∀ (ks : List Nat), ∀ r ∈ rowsK ks, RowOk ks r := by
  refine snoc_ind ?_ ?_
  · intro r hr
    have : r = [] := by simpa [rowsK] using hr
    subst this
    exact ⟨rfl, fun i k x h => by simp at h⟩
  · intro ks n ih r hr
    rw [rowsK_snoc] at hr
    unfold rowsStep at hr
    obtain ⟨q, hq, hr⟩ := List.mem_flatMap.mp hr
    obtain ⟨i, hi, rfl⟩ := List.mem_map.mp hr
    have hi := List.mem_range.mp hi
    obtain ⟨h1, h2⟩ := ih q hq
    refine ⟨by simp [h1], fun j k x hk hx => ?_⟩
    rcases Nat.lt_or_ge j ks.length with hj | hj
    · rw [List.getElem?_append_left hj] at hk
      rw [List.getElem?_append_left (by omega)] at hx
      exact h2 j k x hk hx
    · have hj' : j = ks.length := by
        have := (List.getElem?_eq_some_iff.mp hk).1
        simp at this
        omega
      subst hj'
      rw [List.getElem?_append_right (Nat.le_refl _)] at hk
      rw [List.getElem?_append_right (by omega), h1] at hx
      simp at hk hx
      subst hk hx
      omega
theorem lex_snoc : ∀ (a b : List Int) (x y : Int), a.length = b.length → HT.lexLt a b = true → HT.lexLt (a ++ [x]) (b ++ [y]) = true
  | [], [], _, _, _, h => by cases h
  | [], _ :: _, _, _, h, _ => by cases h
  | _ :: _, [], _, _, h, _ => by cases h
  | a :: as, b :: bs, x, y, hl, h => by
    have hl' : as.length = bs.length := by simpa using hl
    rw [HT.lexLt_cons] at h
    rw [List.cons_append, List.cons_append, HT.lexLt_cons]
    split
    · rename_i e
      rw [if_pos e] at h
      exact lex_snoc as bs x y hl' h
    · rename_i e
      rw [if_neg e] at h
      exact h
theorem lex_same : ∀ (a : List Int) (x y : Int), x < y → HT.lexLt (a ++ [x]) (a ++ [y]) = true
  | [], x, y, h => by
    show HT.lexLt [x] [y] = true
    rw [HT.lexLt_cons, if_neg (by omega)]
    simpa using h
  | a :: as, x, y, h => by
    rw [List.cons_append, List.cons_append, HT.lexLt_cons, if_pos rfl]
    exact lex_same as x y h
theorem rowsK_lt (ks : List Nat) : (rowsK ks).Pairwise fun a b => HT.lexLt a b = true := by
  revert ks
  refine snoc_ind (by simp [rowsK]) ?_
  · intro ks n ih
    rw [rowsK_snoc]
    unfold rowsStep
    rw [List.pairwise_flatMap]
    refine ⟨fun r hr => ?_, ?_⟩
    · rw [List.pairwise_map]
      exact List.pairwise_lt_range.imp fun h => lex_same _ _ _ (by omega)
    · refine ih.imp_of_mem fun {a b} ha hb h => ?_
      intro x hx y hy
      obtain ⟨i, _, rfl⟩ := List.mem_map.mp hx
      obtain ⟨j, _, rfl⟩ := List.mem_map.mp hy
      exact lex_snoc a b _ _ ((rowsK_ok ks a ha).1.trans (rowsK_ok ks b hb).1.symm) h
theorem eqZ_map {α : Type} [DecidableEq α] {f : T → T → Option Bool} {g : α → T} (hf : ∀ x y, f (g x) (g y) = some (decide (x = y))) : ∀ xs ys : List α, eqZ f (xs.map g) (ys.map g) = some (decide (xs = ys))
  | [], [] => rfl
  | [], _ :: _ => rfl
  | _ :: _, [] => rfl
  | x :: xs, y :: ys => by
    rw [List.map_cons, List.map_cons]
    unfold eqZ
    rw [hf, eqZ_map hf xs ys]
    simp only [List.cons.injEq, Bool.decide_and]
theorem eqT_i (h : PH) (n : Nat) (x y : Int) : eqT h (n + 1) (.int x) (.int y) = some (decide (x = y)) := by
  show some (x == y) = _
  congr 1
theorem eqT_tI (h : PH) (n : Nat) (a b : List Int) : eqT h (n + 2) (tI a) (tI b) = some (decide (a = b)) := eqZ_map (fun x y => eqT_i h n x y) a b
theorem eqT_tN (h : PH) (n : Nat) (a b : List Nat) : eqT h (n + 2) (.tup (tN a)) (.tup (tN b)) = some (decide (a = b)) := by
  refine eqZ_map (fun x y => ?_) a b
  rw [eqT_i]
  congr 2
  exact propext Int.ofNat_inj
theorem eqT_ref {h : PH} {n i j : Nat} {xs ys : List T} (hi : h[i]? = some (.lst xs)) (hj : h[j]? = some (.lst ys)) : eqT h (n + 1) (.ref i) (.ref j) = eqZ (eqT h n) xs ys := by
  show (match lstOf h i, lstOf h j with | some a, some b => eqZ (eqT h n) a b | _, _ => none) = _
  rw [lstOf_of hi, lstOf_of hj]
end PL
set_option Elab.async false
set_option linter.all false
set_option maxRecDepth 100000
namespace Pu
open PySem L2 ZP PL
theorem vc_law_take2 : ∀ ts h k, cpTake ts h k → W_law_take { nx := fun _ h' => k .non h', rt := k } (begin_ 6 ts) h := by
  rintro ts h k ⟨n, sc, ns, size, rfl, ⟨count, acc, hn, hc, hs⟩, h1, h2, hk⟩
  have hne : n ≠ sc := by rintro rfl; rw [hn] at hs; cases hs
  have hl := lt_of_get hn
  have cs : ∀ a, CDiv a size := fun a => ⟨h1, h2⟩
  unfold W_law_take
  refine seq_cut fun U hU => ?_
  simp! only [begin_, seqOf_of hn, atI_0]
  subst hU
  refine seq_cut fun U hU => ?_
  simp! only [seqOf_of hn, atI_1]
  subst hU
  refine seq_cut fun U hU => ?_
  simp! only [lstOf_of hn, ix31]
  have en : (h.set n (.lst [.ref sc, .int (count + 1), .int acc]))[n]? = some (.lst [.ref sc, .int (count + 1), .int acc]) := List.getElem?_set_self hl
  have es : (h.set n (.lst [.ref sc, .int (count + 1), .int acc]))[sc]? = some (.fro (ns.map T.int)) := by rw [List.getElem?_set_ne hne]; exact hs
  have X : Ext n h (h.set n (.lst [.ref sc, .int (count + 1), .int acc])) := Ext.set _ _ _
  generalize h.set n (Ob.lst [T.ref sc, T.int (count + 1), T.int acc]) = h3 at en es X ⊢
  have hl3 := lt_of_get en
  have sS : seqOf (.ref sc) h3 = some (ns.map T.int) := by simp only [seqOf, es]
  clear hn hs hl
  subst hU
  refine seq_cut fun U hU => ?_
  simp! only [if_true]
  subst hU
  have fin : ∀ (a b : Int) (g : PH), 0 ≤ a → Gro h3 g → ∀ r, 0 ≤ r → r < size → k (.int r) (g.set n (.lst [.ref sc, .int a, .int b])) := fun a b g a0 G r r0 r1 => by
    have := G.len
    exact hk r _ r0 r1 ⟨a, b, List.getElem?_set_self (by omega), a0, by rw [List.getElem?_set_ne hne]; exact G _ _ es⟩ ((X.gr G).trans (Ext.set _ _ _))
  have fin0 : ∀ r, 0 ≤ r → r < size → k (.int r) h3 := fun r r0 r1 => hk r _ r0 r1 ⟨count + 1, acc, en, by omega, es⟩ X
  have at_ : ∀ i : Int, 0 ≤ i → i < ns.length → ∃ x, atI (ns.map T.int) i = some (.int x) := fun i h0 h1 => by
    have hi : i.toNat < ns.length := by omega
    refine ⟨ns[i.toNat], ?_⟩
    rw [atI_nn h0 (by rw [List.length_map]; exact h1), List.getElem?_map, List.getElem?_eq_getElem hi]
    rfl
  refine seq_cut fun U hU => ?_
  have tail : ∀ c : Int, wSeq (wAsg (wOp pMod (wOp pMul (wOp pAdd (wOp pAdd (wVar 4) (wOp pMul (wC (.int 7919)) (wVar 3))) (wC (.int 11))) (wC (.int 48271))) (wC (.int 2147483647))) (gN 5))
      (wSeq (wAsg (wOp pMod (wOp pAdd (wOp pAdd (wOp pMul (wVar 5) (wVar 5)) (wOp pMul (wC (.int 104729)) (wVar 3))) (wC (.int 13))) (wC (.int 2147483629))) (gN 5))
      (wRet (wOp pMod (wOp pFdiv (wOp pMod (wOp pMul (wVar 5) (wOp pAdd (wVar 5) (wC (.int 69621)))) (wC (.int 2147483587))) (wC (.int 5))) (wVar 1))))
      { nx := fun _ h' => k .non h', rt := k } [some (.ref n), some (.int size), some (.ref sc), some (.int count), some (.int c), none] h3 := by
    intro c
    refine seq_cut fun U hU => ?_
    simp! only [if_true]
    refine ⟨cmul_l (by decide) (by decide), cmul_r (by decide) (by decide), by decide, ?_⟩
    have m1 := mod_b ((c + 7919 * count + 11) * 48271) 2147483647 (by decide)
    generalize (c + 7919 * count + 11) * 48271 % 2147483647 = y at m1 ⊢
    subst hU
    refine seq_cut fun U hU => ?_
    simp! only [if_true]
    refine ⟨cmul_l (by omega) (by omega), cmul_l (by decide) (by decide), by decide, ?_⟩
    have m2 := mod_b (y * y + 104729 * count + 13) 2147483629 (by decide)
    generalize (y * y + 104729 * count + 13) % 2147483629 = z at m2 ⊢
    subst hU
    simp! only [if_true]
    refine ⟨cmul_l (by omega) (by omega), by decide, ⟨by decide, by decide⟩, h1, ?_⟩
    have m3 := mod_b (z * (z + 69621) % 2147483587 / 5) size h1
    exact fin0 _ m3.1 m3.2
  have rest : U [some (.ref n), some (.int size), some (.ref sc), some (.int count), some (.int 0), none] h3 := by
    subst hU
    refine seq_cut fun U hU => ?_
    simp! only [sS, List.length_map]
    by_cases hz : ns = []
    · subst hz
      simp! only [List.length_nil, Int.ofNat_zero, gt_iff_lt, Int.lt_irrefl]
      subst hU
      exact tail 0
    · have hp : 0 < ns.length := List.length_pos_iff.mpr hz
      have hp' : decide ((ns.length : Int) > 0) = true := by simp only [decide_eq_true_eq]; omega
      have b2 := mod_b count ns.length (by omega)
      obtain ⟨x2, e2⟩ := at_ (count % ns.length) b2.1 b2.2
      simp! only [hp', if_true, sS, List.length_map, e2]
      refine ⟨by omega, ⟨by decide, by decide, by decide⟩, by decide, ?_⟩
      subst hU
      exact tail _
  by_cases hz : ns = []
  · have sS0 : seqOf (.ref sc) h3 = some [] := by rw [sS, hz]; rfl
    simp! only [sS0, Int.ofNat_zero, gt_iff_lt, Int.lt_irrefl]
    exact rest
  have hp : 0 < ns.length := List.length_pos_iff.mpr hz
  have hp' : decide ((ns.length : Int) > 0) = true := by simp only [decide_eq_true_eq]; omega
  obtain ⟨x0, e0⟩ := at_ 0 (by decide) (by omega)
  simp only [wIf, wAnd, wTest, wOp, wCB, wCons, wNil, wVar, wC, pLen, pGt, pIb, pEq, pMod, pIc, pIx, sS, List.length_map, hp', e0, eqT_int, List.getElem?_cons_zero, List.getElem?_cons_succ]
  refine ⟨by decide, ?_⟩
  cases (x0 % 2 == 1) with
  | false =>
    simp only [Bool.false_eq_true, if_false]
    exact rest
  | true =>
    simp only [if_true]
    clear rest tail hU
    refine seq_cut fun U2 hU2 => ?_
    have nxt : ∀ (b : Int) (g : PH), g[n]? = some (.lst [.ref sc, .int (count + 1), .int b]) → (∀ r, 0 ≤ r → r < size → k (.int r) (g.set n (.lst [.ref sc, .int (count + 1), .int (b / size)]))) → ∀ c, U2 [some (.ref n), some (.int size), some (.ref sc), some (.int count), c, none] g := by
      intro b g eg hkk c
      subst hU2
      refine seq_cut fun U hU => ?_
      simp! only [seqOf_of eg, atI_2]
      subst hU
      refine seq_cut fun U hU => ?_
      simp! only [lstOf_of eg, ix32]
      refine ⟨⟨h1, h2⟩, ?_⟩
      subst hU
      simp! only [if_true]
      have m := mod_b b size h1
      exact ⟨h1, hkk _ m.1 m.2⟩
    simp! only [if_true]
    refine ⟨by decide, ?_⟩
    cases (count % 60 == 0) with
    | false =>
      simp only [Bool.false_eq_true, if_false]
      exact nxt acc h3 en (fun r r0 r1 => fin _ _ h3 (by omega) (Gro.refl _) r r0 r1) _
    | true =>
      simp only [if_true]
      have b1 := mod_b (count / 60) ns.length (by omega)
      obtain ⟨x1, e1⟩ := at_ (count / 60 % ns.length) b1.1 b1.2
      simp! only [sS, List.length_map, e1, lstOf_of en]
      refine ⟨⟨by decide, by decide⟩, by omega, by decide, ?_⟩
      have en4 := get_app_left (g := [Ob.lst [T.int 1, T.int 2]]) en
      have G4 : Gro h3 (h3 ++ [Ob.lst [T.int 1, T.int 2]]) := Gro.app _ _
      have e4 := get_app_new h3 (Ob.lst [T.int 1, T.int 2])
      generalize h3 ++ [Ob.lst [T.int 1, T.int 2]] = h4 at en4 G4 e4 ⊢
      have two : ∃ d : Int, atI [T.int 1, T.int 2] (b2n (count == 0)) = some (.int d) ∧ CDiv x1 d := by
        cases (count == 0) with
        | true => exact ⟨2, rfl, by decide, by decide⟩
        | false => exact ⟨1, rfl, by decide, by decide⟩
      obtain ⟨d, ed, cd⟩ := two
      simp only [seqOf_of e4, ed, lstOf_of en4, List.length_cons, List.length_nil, Nat.reduceAdd, ix32, List.set_cons_zero, List.set_cons_succ]
      refine ⟨cd, nxt (x1 / d) _ (List.getElem?_set_self (lt_of_get en4)) (fun r r0 r1 => ?_) _⟩
      rw [List.set_set]
      exact fin _ _ h4 (by omega) G4 r r0 r1
end Pu
set_option Elab.async false
set_option linter.all false
set_option maxRecDepth 100000
namespace PL
open PySem L2 Pu ZP
noncomputable def W_rows_of : WS :=
  wSeq (wAsg (wLst (wCons (wTup (wNil)) (wNil))) (gN 2))
  (wSeq (wFor (wSeqI (wVar 1)) (gN 3) (wSeq (wAsg (wLst (wNil)) (gN 4))
  (wSeq (wFor (wSeqI (wVar 2)) (gN 5) (wFor (wRng1 (wCons (wOp pIx (wVar 0) (wVar 3)) (wNil))) (gN 6) (wDrop (wBM isLst (pMt fAppend) (wVar 4) (wCons (wOp pAdd (wVar 5) (wTup (wCons (wVar 6) (wNil)))) (wNil))))))
  (wAsg (wVar 4) (gN 2)))))
  (wRet (wVar 2)))
noncomputable def kindsOf (fr gs : List Nat) : List Nat := gs.map fun m => fr.getD m 0
noncomputable def Sq (x : T) (h : PH) (xs : List T) : Prop := ∀ h', Gro h h' → seqOf x h' = some xs
theorem sq_tup {h : PH} {xs : List T} : Sq (.tup xs) h xs := fun _ _ => rfl
theorem sq_lst {h : PH} {n : Nat} {xs : List T} (e : h[n]? = some (.lst xs)) : Sq (.ref n) h xs := fun _ G => seqOf_of (G _ _ e)
theorem Sq.gro {x : T} {h h' : PH} {xs : List T} (s : Sq x h xs) (G : Gro h h') : Sq x h' xs := fun _ G' => s _ (G.trans G')
theorem Sq.seq {x : T} {h : PH} {xs : List T} (s : Sq x h xs) : seqOf x h = some xs := s h (Gro.refl h)
noncomputable def cp_rows_ofT : CP := fun ts h k => ∃ fr gs, ts = [.tup (tN fr), .tup (tN gs)] ∧ (∀ x ∈ fr, x ≤ 3) ∧ gs.length ≤ 6 ∧ (∀ m ∈ gs, m < fr.length) ∧
  ∀ h' n, Gro h h' → h.length ≤ n → h'[n]? = some (.lst ((rowsK (kindsOf fr gs)).map tI)) → k (.ref n) h'
noncomputable def cp_rows_of : CP := fun ts h k => ∃ fr gs f g, ts = [f, g] ∧ Sq f h (tN fr) ∧ Sq g h (tN gs) ∧ (∀ x ∈ fr, x ≤ 3) ∧ gs.length ≤ 6 ∧ (∀ m ∈ gs, m < fr.length) ∧
  ∀ h' n, Gro h h' → h.length ≤ n → h'[n]? = some (.lst ((rowsK (kindsOf fr gs)).map tI)) → k (.ref n) h'
theorem rows_t {ts : List T} {h : PH} {k : WK} (q : cp_rows_ofT ts h k) : cp_rows_of ts h k := by
  obtain ⟨fr, gs, rfl, q⟩ := q
  exact ⟨fr, gs, _, _, rfl, sq_tup, sq_tup, q⟩
theorem len_rows_of : ∀ ts h k, cp_rows_of ts h k → ts.length = 2 := by
  rintro ts h k ⟨_, _, _, _, rfl, _⟩
  rfl
theorem kindsOf_le {fr gs : List Nat} (h : ∀ x ∈ fr, x ≤ 3) : ∀ x ∈ kindsOf fr gs, x ≤ 3 := by
  intro x hx
  obtain ⟨m, _, rfl⟩ := List.mem_map.mp hx
  rw [List.getD_eq_getElem?_getD]
  cases e : fr[m]? with
  | none => simp
  | some v => exact h v (List.mem_of_getElem? e)
theorem take_snoc {α : Type} {xs : List α} {i : Nat} {x : α} (h : xs[i]? = some x) : xs.take (i + 1) = xs.take i ++ [x] := by
  rw [List.take_add_one, h]; rfl
theorem vc_rows_of : ∀ ts h k, cp_rows_of ts h k → W_rows_of { nx := fun _ h' => k .non h', rt := k } (begin_ 7 ts) h := by
  rintro ts h0 k ⟨fr, gs, f, g, rfl, sf, sg, hfr, hgl, hgs, hk⟩
  unfold W_rows_of
  simp! only [begin_, sg _ (Gro.app _ _)]
  refine ⟨by decide, by decide, ?_⟩
  have hsz : ∀ i, vol (kindsOf fr (gs.take i)) ≤ 729 := fun i => vol_le (kindsOf_le hfr) (by simp [kindsOf]; omega)
  refine forL_inv _ (fun i env h => ∃ n a b c d, env = [some f, some g, some (.ref n), a, b, c, d] ∧ Gro h0 h ∧ h0.length ≤ n ∧ h[n]? = some (.lst ((rowsK (kindsOf fr (gs.take i))).map tI)))
    ⟨_, _, _, _, _, rfl, Gro.app _ _, Nat.le_refl _, get_app_new _ _⟩ (fun i env h q => by obtain ⟨_, _, _, _, _, _, G, _⟩ := q; exact sg _ G) ?_ ?_
  · rintro i x env h hx ⟨n, a, b, c, d, rfl, G, hn, hr⟩
    obtain ⟨m, hm, rfl⟩ := tN_get hx
    have hmf := hgs m (List.mem_of_getElem? hm)
    have hkk : fr[m]? = some (fr.getD m 0) := by rw [List.getD_eq_getElem?_getD, List.getElem?_eq_getElem hmf]; rfl
    generalize hkd : fr.getD m 0 = kd at hkk
    have hkd3 : kd ≤ 3 := hfr kd (List.mem_of_getElem? hkk)
    have hsn : rowsK (kindsOf fr (gs.take (i + 1))) = rowsStep (rowsK (kindsOf fr (gs.take i))) kd := by
      rw [take_snoc hm]
      simp only [kindsOf, List.map_append, List.map_cons, List.map_nil, hkd]
      exact rowsK_snoc _ _
    have hln := hsz i
    rw [← rowsK_len] at hln
    have hok := rowsK_ok (kindsOf fr (gs.take i))
    have hkl : (kindsOf fr (gs.take i)).length ≤ 6 := by simp [kindsOf]; omega
    generalize rowsK (kindsOf fr (gs.take i)) = rs at *
    have hnl := lt_of_get hr
    simp! only [seqOf_of (get_app_left hr)]
    refine ⟨by decide, ?_⟩
    refine forL_inv _ (fun j env h' => ∃ c d, env = [some f, some g, some (.ref n), some (.int m), some (.ref h.length), c, d] ∧ Gro h0 h' ∧ h'[n]? = some (.lst (rs.map tI)) ∧ h'[h.length]? = some (.lst ((rowsStep (rs.take j) kd).map tI)))
      ⟨_, _, rfl, G.ap, get_app_left hr, get_app_new _ _⟩ (fun j env h' q => ?_) ?_ ?_
    · obtain ⟨_, _, _, _, q, _⟩ := q
      exact seqOf_of q
    · rintro j x env h' hx ⟨c, d, rfl, G', hr', hl'⟩
      rw [List.getElem?_map] at hx
      cases hj : rs[j]? with
      | none => rw [hj] at hx; cases hx
      | some r =>
        rw [hj] at hx
        cases hx
        simp! only [sf _ G', tN_at hkk]
        refine ⟨by omega, by omega, ?_⟩
        rw [show ((kd : Int)).toNat = kd by omega]
        have hrl : r.length ≤ 6 := by rw [(hok r (List.mem_of_getElem? hj)).1]; exact hkl
        refine forL_inv _ (fun q env h' => ∃ d, env = [some f, some g, some (.ref n), some (.int m), some (.ref h.length), some (tI r), d] ∧ Gro h0 h' ∧ h'[n]? = some (.lst (rs.map tI)) ∧
            h'[h.length]? = some (.lst (((rowsStep (rs.take j) kd) ++ (List.range q).map fun (i : Nat) => r ++ [(i : Int)]).map tI)))
          ⟨_, rfl, G', hr', by rw [List.range_zero, List.map_nil, List.append_nil]; exact hl'⟩ (fun _ _ _ _ => trivial) ?_ ?_
        · rintro q x env h2 hx ⟨d, rfl, G2, hr2, hl2⟩
          obtain ⟨hq, rfl⟩ := rng_get hx
          have hlen : ((rowsStep (rs.take j) kd) ++ (List.range q).map fun (i : Nat) => r ++ [(i : Int)]).length ≤ 3000 := by
            rw [List.length_append, step_len, List.length_map, List.length_range, List.length_take]
            have := Nat.mul_le_mul (Nat.min_le_right j rs.length) hkd3
            omega
          simp! only [tI, lstOf_of hl2]
          refine ⟨trivial, by decide, by simp only [List.length_map, sizeLine_eq]; omega, by rw [List.length_append, List.length_map, sizeLine_eq]; simp only [List.length_cons, List.length_nil]; omega, _, rfl, G2.set (by omega), set_ne hr2 (by omega), ?_⟩
          rw [set_get hl2, List.range_succ]
          simp [tI]
        · rintro env h2 ⟨d, rfl, G2, hr2, hl2⟩
          refine ⟨_, _, rfl, G2, hr2, ?_⟩
          rw [hl2, rng_len, take_snoc hj]
          congr 2
          simp [rowsStep, List.flatMap_append]
    · rintro env h' ⟨c, d, rfl, G', hr', hl'⟩
      simp! only [if_true]
      refine ⟨_, _, _, _, _, rfl, G', Nat.le_trans hn (Nat.le_of_lt hnl), ?_⟩
      rw [hl', List.length_map, List.take_length, hsn]
  · rintro env h ⟨n, a, b, c, d, rfl, G, hn, hr⟩
    simp! only [if_true]
    rw [tN_len, List.take_length] at hr
    exact hk h n G hn hr
end PL
set_option Elab.async false
set_option linter.all false
set_option maxRecDepth 100000
namespace PL
open PySem L2 Pu ZP
noncomputable def W_seen : WS :=
  wRet (wCB pTuple (wCons (wComp (wSeqI (wVar 2)) 3 (wYes) (wOp pIx (wVar 1) (wIndex (wVar 0) (wCons (wVar 3) (wNil))))) (wNil)))
noncomputable def seenT (gs : List Nat) (rs : List T) (ps : List Nat) : List T := ps.map fun p => rs.getD (gs.idxOf p) .non
noncomputable def cp_seen : CP := fun ts h k => ∃ gs rs ps g p, ts = [g, .tup rs, p] ∧ Sq g h (tN gs) ∧ Sq p h (tN ps) ∧ (∀ p ∈ ps, p ∈ gs) ∧ gs.length ≤ rs.length ∧ ps.length ≤ 100 ∧ ∀ h', Gro h h' → k (.tup (seenT gs rs ps)) h'
theorem len_seen : ∀ ts h k, cp_seen ts h k → ts.length = 3 := by
  rintro ts h k ⟨_, _, _, _, _, rfl, _⟩
  rfl
theorem idx_tN (h : PH) (p : Nat) : ∀ gs : List Nat, p ∈ gs → idxT h (.int (p : Int)) (tN gs) = some (gs.idxOf p)
  | [], hp => by simp at hp
  | g :: gs, hp => by
    show (match eqT h 39 (.int (g : Int)) (.int (p : Int)) with | some true => some 0 | some false => (idxT h (.int (p : Int)) (tN gs)).map (· + 1) | none => none) = _
    rw [eqT_i]
    by_cases e : g = p
    · subst e
      simp
    · have e' : ¬ (g : Int) = (p : Int) := by omega
      have hp' : p ∈ gs := by
        rcases List.mem_cons.mp hp with h | h
        · exact absurd h.symm e
        · exact h
      rw [idx_tN h p gs hp', List.idxOf_cons]
      have e2 : (g == p) = false := by simpa using e
      simp [e', e2]
theorem at_getD {rs : List T} {i : Nat} {d : T} (h : i < rs.length) : atI rs (i : Int) = some (rs.getD i d) := by
  rw [atI_nn (by omega) (by omega), List.getD_eq_getElem?_getD]
  simp [List.getElem?_eq_getElem h]
theorem vc_seen : ∀ ts h k, cp_seen ts h k → W_seen { nx := fun _ h' => k .non h', rt := k } (begin_ 4 ts) h := by
  rintro ts h0 k ⟨gs, rs, ps, g, p, rfl, sg, sp, hp, hl, hpl, hk⟩
  unfold W_seen
  simp! only [begin_, sp.seq]
  refine compL_inv _ (fun i acc h' => h' = h0 ∧ acc = seenT gs rs (ps.take i)) ⟨rfl, rfl⟩ (fun i acc h q => by rw [q.1]; exact sp.seq) (fun i acc h q => ?_) ?_ ?_
  · rw [q.2, sizeLine_eq]; simp [seenT]; omega
  · rintro i x acc h' hx ⟨rfl, rfl⟩
    obtain ⟨p, hpi, rfl⟩ := tN_get hx
    have hpg := hp p (List.mem_of_getElem? hpi)
    have hlt : gs.idxOf p < rs.length := Nat.lt_of_lt_of_le (List.idxOf_lt_length_of_mem hpg) hl
    simp! only [wIndex, sg.seq, idx_tN _ _ _ hpg, at_getD (d := T.non) hlt]
    refine ⟨trivial, ?_⟩
    rw [take_snoc hpi]
    simp [seenT]
  · rintro acc h' ⟨rfl, rfl⟩
    rw [tN_len, List.take_length]
    simp only [seqOf_of (get_app_new _ _)]
    exact hk _ (Gro.app _ _)
end PL
set_option Elab.async false
set_option linter.all false
set_option maxRecDepth 100000
namespace LH
open PySem L2 Pu ZP PL
noncomputable def W_law_volume : WS :=
  wSeq (wAsg (wC (.int 1)) (gN 1))
  (wSeq (wFor (wSeqI (wVar 0)) (gN 2) (wAsg (wOp pMul (wVar 1) (wVar 2)) (gN 1)))
  (wRet (wVar 1)))
noncomputable def W_law_frame (cp_law_take : CP) (cp_law_volume : CP) : WS :=
  wSeq (wAsg (wLst (wNil)) (gN 2))
  (wSeq (wFor (wRng1 (wCons (wOp pAdd (wC (.int 1)) (wCall cp_law_take (wCons (wVar 0) (wCons (wC (.int 6)) (wNil))))) (wNil))) (gN 3) (wSeq (wAsg (wOp pAdd (wC (.int 2)) (wCall cp_law_take (wCons (wVar 0) (wCons (wC (.int 2)) (wNil))))) (gN 4))
  (wIf (wTest (wOp pLe (wOp pMul (wCall cp_law_volume (wCons (wVar 2) (wNil))) (wVar 4)) (wVar 1))) (wDrop (wBM isLst (pMt fAppend) (wVar 2) (wCons (wVar 4) (wNil)))) (wNext))))
  (wRet (wCB pTuple (wCons (wVar 2) (wNil)))))
noncomputable def W_law_rows : WS :=
  wSeq (wAsg (wLst (wCons (wTup (wNil)) (wNil))) (gN 1))
  (wSeq (wFor (wSeqI (wVar 0)) (gN 2) (wSeq (wAsg (wLst (wNil)) (gN 3))
  (wSeq (wFor (wSeqI (wVar 1)) (gN 4) (wDrop (wBM isLst (pExt) (wVar 3) (wCons (wComp (wRng1 (wCons (wVar 2) (wNil))) 5 (wYes) (wOp pAdd (wVar 4) (wTup (wCons (wVar 5) (wNil))))) (wNil)))))
  (wAsg (wVar 3) (gN 1)))))
  (wRet (wVar 1)))
noncomputable def Fr (fr : List Nat) : Prop := 1 ≤ fr.length ∧ fr.length ≤ 6 ∧ ∀ x ∈ fr, 2 ≤ x ∧ x ≤ 3
noncomputable def K23 (ks : List Nat) : Prop := ks.length ≤ 6 ∧ ∀ x ∈ ks, 2 ≤ x ∧ x ≤ 3
theorem K23.take {ks : List Nat} (h : K23 ks) (i : Nat) : K23 (ks.take i) := ⟨by have := h.1; simp; omega, fun x hx => h.2 x (List.mem_of_mem_take hx)⟩
theorem K23.vol {ks : List Nat} (h : K23 ks) : vol ks ≤ 729 := vol_le (fun x hx => (h.2 x hx).2) h.1
theorem vol_pos {ks : List Nat} (h : ∀ x ∈ ks, 2 ≤ x ∧ x ≤ 3) : 1 ≤ vol ks := by
  revert h ks
  refine fun {ks} => snoc_ind (P := fun ks => (∀ x ∈ ks, 2 ≤ x ∧ x ≤ 3) → 1 ≤ vol ks) (by simp [vol]) (fun l a ih h => ?_) ks
  rw [vol_snoc]
  have h1 := ih fun x hx => h x (List.mem_append_left _ hx)
  have h2 := h a (by simp)
  exact Nat.mul_le_mul h1 (by omega : 1 ≤ a)
noncomputable def cp_law_volume : CP := fun ts h k => ∃ x ks, ts = [x] ∧ seqOf x h = some (tN ks) ∧ K23 ks ∧ k (.int (vol ks : Nat)) h
theorem len_law_volume : ∀ ts h k, cp_law_volume ts h k → ts.length = 1 := by
  rintro ts h k ⟨x, _, rfl, _⟩
  rfl
theorem vc_law_volume : ∀ ts h k, cp_law_volume ts h k → W_law_volume { nx := fun _ h' => k .non h', rt := k } (begin_ 3 ts) h := by
  rintro ts h0 k ⟨x, ks, rfl, hx, hk, hK⟩
  unfold W_law_volume
  simp! only [begin_, hx]
  refine forL_inv _ (fun i env h => h = h0 ∧ ∃ a, env = [some x, some (.int (vol (ks.take i) : Nat)), a]) ⟨rfl, _, rfl⟩ (fun i env h q => by rw [q.1]; exact hx) ?_ ?_
  · rintro i y env h hy ⟨rfl, a, rfl⟩
    obtain ⟨z, hz, rfl⟩ := tN_get hy
    simp! only [if_true]
    have := (hk.take i).vol
    refine ⟨cmul_l (by omega) (by omega), trivial, some (.int z), ?_⟩
    rw [take_snoc hz, vol_snoc]
    simp
  · rintro env h ⟨rfl, a, rfl⟩
    rw [tN_len, List.take_length]
    simp! only [if_true]
    exact hK
noncomputable def cp_law_frame : CP := fun ts h k => ∃ n sc ns room, ts = [.ref n, .int room] ∧ StOk n sc ns h ∧ 3 ≤ room ∧ room ≤ 64 ∧ ∀ fr h', Fr fr → (vol fr : Int) ≤ room → StOk n sc ns h' → Ext n h h' → k (.tup (tN fr)) h'
theorem len_law_frame : ∀ ts h k, cp_law_frame ts h k → ts.length = 2 := by
  rintro ts h k ⟨x, _, _, _, rfl, _⟩
  rfl
theorem vc_law_frame : ∀ ts h k, cp_law_frame ts h k → W_law_frame cp_law_take cp_law_volume { nx := fun _ h' => k .non h', rt := k } (begin_ 5 ts) h := by
  rintro ts h0 k ⟨n, sc, ns, room, rfl, S, hr3, hr64, hk⟩
  unfold W_law_frame
  simp! only [begin_]
  have hl := StOk.lt S
  refine ⟨by decide, n, sc, ns, 6, rfl, S.gro (Gro.app _ _), by decide, by decide, fun r h1 r0 r1 S1 X1 => ?_⟩
  simp! only [if_true]
  refine ⟨by omega, by omega, ?_⟩
  have hL := X1 _ _ (by omega) (get_app_new _ _)
  have E1 : Ext n h0 h1 := (Ext.app n h0 _).trans X1
  refine forL_inv _ (fun i env h => ∃ fr a b, env = [some (.ref n), some (.int room), some (.ref h0.length), a, b] ∧ fr.length ≤ i ∧ i ≤ 6 ∧ (0 < i → 0 < fr.length) ∧ (∀ x ∈ fr, 2 ≤ x ∧ x ≤ 3) ∧ (vol fr : Int) ≤ room ∧ StOk n sc ns h ∧ Ext n h0 h ∧ h[h0.length]? = some (.lst (tN fr)))
    ⟨[], _, _, rfl, Nat.le_refl _, by omega, by omega, by simp, by simp [vol]; omega, S1, E1, hL⟩ (fun _ _ _ _ => trivial) ?_ ?_
  · rintro i x env h hx ⟨fr, a, b, rfl, hfl, hi6, hpos, hfr, hv, S2, E2, hL2⟩
    obtain ⟨hi, rfl⟩ := rng_get hx
    simp! only [if_true]
    refine ⟨n, sc, ns, 2, rfl, S2, by decide, by decide, fun z h3 z0 z1 S3 X3 => ?_⟩
    have hL3 := X3 _ _ (by omega) hL2
    simp! only [if_true]
    obtain ⟨z, rfl⟩ : ∃ z' : Nat, z = z' := ⟨z.toNat, by omega⟩
    refine ⟨.ref h0.length, fr, rfl, seqOf_of hL3, ⟨by omega, hfr⟩, ?_⟩
    simp! only [if_true]
    refine ⟨cmul_l (by omega) (by omega), ?_⟩
    have hvv : (vol fr : Int) * (2 + (z : Int)) = ((vol (fr ++ [2 + z]) : Nat) : Int) := by rw [vol_snoc]; simp
    simp only [hvv]
    by_cases hle : ((vol (fr ++ [2 + z]) : Nat) : Int) ≤ room
    · simp! only [hle, lstOf_of hL3]
      refine ⟨trivial, by rw [List.length_append, tN_len, sizeLine_eq]; simp only [List.length_cons, List.length_nil]; omega, fr ++ [2 + z], _, _, rfl, by simp; omega, by omega, by simp, ?_, hle, S3.setN (by omega) (by omega), (E2.trans X3).setN (Nat.le_refl _), ?_⟩
      · intro x hx
        rcases List.mem_append.mp hx with hx | hx
        · exact hfr x hx
        · rw [List.mem_singleton.mp hx]; omega
      · rw [set_get hL3, tN_snoc]
        simp
    · simp! only [hle]
      refine ⟨fr, _, _, rfl, by omega, by omega, fun _ => ?_, hfr, hv, S3, E2.trans X3, hL3⟩
      cases fr with
      | nil =>
        exfalso
        simp [vol] at hle
        omega
      | cons _ _ => simp
  · rintro env h ⟨fr, a, b, rfl, hfl, hi6, hpos, hfr, hv, S2, E2, hL2⟩
    simp! only [seqOf_of hL2]
    rw [rng_len] at hfl hpos
    exact hk fr h ⟨hpos (by omega), by omega, hfr⟩ hv S2 E2
noncomputable def cp_law_rows : CP := fun ts h k => ∃ x ks, ts = [x] ∧ seqOf x h = some (tN ks) ∧ K23 ks ∧ ∀ h' n, Gro h h' → h.length ≤ n → h'[n]? = some (.lst ((rowsK ks).map tI)) → k (.ref n) h'
theorem len_law_rows : ∀ ts h k, cp_law_rows ts h k → ts.length = 1 := by
  rintro ts h k ⟨x, _, rfl, _⟩
  rfl
theorem seqOf_gro {x : T} {h h' : PH} {xs : List T} (e : seqOf x h = some xs) (g : Gro h h') : seqOf x h' = some xs := by
  cases x with
  | tup ts => exact e
  | ref n =>
    rcases seqOf_ref e with e | e
    · exact seqOf_of (g _ _ e)
    · exact seqOf_fro (g _ _ e)
  | _ => cases e
theorem comp_row {env : En} {k : WK} {j f : Nat} {h : PH} {r : List Int} {n : Nat} (hn : n ≤ 3) (hr : r.length ≤ 6) (hf : ∀ x, ((env.set j none).set j (some x))[f]? = some (some (tI r))) (hj : ∀ x, ((env.set j none).set j (some x))[j]? = some (some x))
    (hk : k (.ref h.length) (h ++ [.lst (((List.range n).map fun (i : Nat) => r ++ [(i : Int)]).map tI)])) : compL (fun _ => True) j wYes (wOp pAdd (wVar f) (wTup (wCons (wVar j) wNil))) env k (rngL 0 n) [] h := by
  refine compL_inv _ (fun i acc h' => h' = h ∧ acc = ((List.range i).map fun (i : Nat) => r ++ [(i : Int)]).map tI ∧ i ≤ n) ⟨rfl, rfl, Nat.zero_le _⟩ (fun _ _ _ _ => trivial) (fun i acc h q => ?_) ?_ ?_
  · obtain ⟨_, rfl, hi⟩ := q
    rw [sizeLine_eq]; simp; omega
  · rintro i x acc h' hx ⟨rfl, rfl, hi⟩
    obtain ⟨hi, rfl⟩ := rng_get hx
    simp! only [hf, hj, tI]
    refine ⟨by decide, by rw [List.length_map, sizeLine_eq]; omega, trivial, ?_, by omega⟩
    rw [List.range_succ]
    simp [tI]
  · rintro acc h' ⟨rfl, rfl, hi⟩
    rw [rng_len]
    exact hk
theorem vc_law_rows : ∀ ts h k, cp_law_rows ts h k → W_law_rows { nx := fun _ h' => k .non h', rt := k } (begin_ 6 ts) h := by
  rintro ts h0 k ⟨x, ks, rfl, hx, hks, hk⟩
  unfold W_law_rows
  simp! only [begin_, seqOf_gro hx (Gro.app _ _)]
  refine ⟨by decide, by decide, ?_⟩
  refine forL_inv _ (fun i env h => ∃ n a b c, env = [some x, some (.ref n), a, b, c, none] ∧ Gro h0 h ∧ h0.length ≤ n ∧ h[n]? = some (.lst ((rowsK (ks.take i)).map tI)))
    ⟨_, _, _, _, rfl, Gro.app _ _, Nat.le_refl _, get_app_new _ _⟩ (fun i env h q => by obtain ⟨_, _, _, _, _, G, _⟩ := q; exact seqOf_gro hx G) ?_ ?_
  · rintro i y env h hy ⟨n, a, b, c, rfl, G, hn, hr⟩
    obtain ⟨kd, hkd, rfl⟩ := tN_get hy
    have hkd3 := (hks.2 kd (List.mem_of_getElem? hkd)).2
    have hsn : rowsK (ks.take (i + 1)) = rowsStep (rowsK (ks.take i)) kd := by
      rw [take_snoc hkd]
      exact rowsK_snoc _ _
    have hln := (hks.take i).vol
    rw [← rowsK_len] at hln
    have hok := rowsK_ok (ks.take i)
    have hkl : (ks.take i).length ≤ 6 := (hks.take i).1
    generalize rowsK (ks.take i) = rs at *
    have hnl := lt_of_get hr
    simp! only [seqOf_of (get_app_left hr)]
    refine ⟨by decide, ?_⟩
    refine forL_inv _ (fun j env h' => ∃ c, env = [some x, some (.ref n), some (.int kd), some (.ref h.length), c, none] ∧ Gro h0 h' ∧ h'[n]? = some (.lst (rs.map tI)) ∧ h'[h.length]? = some (.lst ((rowsStep (rs.take j) kd).map tI)))
      ⟨_, rfl, G.ap, get_app_left hr, get_app_new _ _⟩ (fun j env h' q => ?_) ?_ ?_
    · obtain ⟨_, _, _, q, _⟩ := q
      exact seqOf_of q
    · rintro j y env h' hy ⟨c, rfl, G', hr', hl'⟩
      rw [List.getElem?_map] at hy
      cases hj : rs[j]? with
      | none => rw [hj] at hy; cases hy
      | some r =>
        rw [hj] at hy
        cases hy
        have hrl : r.length ≤ 6 := by rw [(hok r (List.mem_of_getElem? hj)).1]; exact hkl
        simp! only [lstOf_of hl', true_and]
        refine ⟨by omega, by omega, ?_⟩
        rw [show ((kd : Int)).toNat = kd by omega]
        refine comp_row hkd3 hrl (fun x => rfl) (fun x => rfl) ?_
        have hlen : (rowsStep (rs.take j) kd).length ≤ 2200 := by
          rw [step_len, List.length_take]
          have := Nat.mul_le_mul (Nat.min_le_right j rs.length) hkd3
          omega
        simp only [lstOf_of (get_app_left hl'), lstOf_of (get_app_new _ _), Option.map_some]
        refine ⟨by rw [List.length_append, sizeLine_eq]; simp; omega, _, rfl, (G'.ap).set (by omega), set_ne (get_app_left hr') (by omega), ?_⟩
        rw [set_get (get_app_left hl'), take_snoc hj]
        simp [rowsStep, List.flatMap_append]
    · rintro env h' ⟨c, rfl, G', hr', hl'⟩
      simp! only [if_true]
      refine ⟨_, _, _, _, rfl, G', Nat.le_trans hn (Nat.le_of_lt hnl), ?_⟩
      rw [hl', List.length_map, List.take_length, hsn]
  · rintro env h ⟨n, a, b, c, rfl, G, hn, hr⟩
    simp! only [if_true]
    rw [tN_len, List.take_length] at hr
    exact hk h n G hn hr
end LH
set_option Elab.async false
set_option linter.all false
set_option maxRecDepth 100000
namespace LH
open PySem L2 Pu ZP PL
noncomputable def W_law_groups (cp_law_take : CP) (cp_law_volume : CP) : WS :=
  wSeq (wAsg (wLst (wNil)) (gN 3))
  (wSeq (wFor (wRng1 (wCons (wCall cp_law_take (wCons (wVar 0) (wCons (wC (.int 6)) (wNil)))) (wNil))) (gN 4) (wSeq (wAsg (wOp pAdd (wC (.int 1)) (wCall cp_law_take (wCons (wVar 0) (wCons (wOp pSub (wOp pShl (wC (.int 1)) (wCB pLen (wCons (wVar 1) (wNil)))) (wC (.int 1))) (wNil))))) (gN 5))
  (wSeq (wIf (wTest (wOp pEq (wCall cp_law_take (wCons (wVar 0) (wCons (wC (.int 2)) (wNil)))) (wC (.int 1)))) (wAsg (wOp pOr (wOp pShl (wC (.int 1)) (wCall cp_law_take (wCons (wVar 0) (wCons (wCB pLen (wCons (wVar 1) (wNil))) (wNil))))) (wOp pShl (wC (.int 1)) (wCall cp_law_take (wCons (wVar 0) (wCons (wCB pLen (wCons (wVar 1) (wNil))) (wNil)))))) (gN 5)) (wNext))
  (wSeq (wAsg (wCB pTuple (wCons (wComp (wRng1 (wCons (wCB pLen (wCons (wVar 1) (wNil))) (wNil))) 11 (wTest (wOp pEq (wOp pAnd (wOp pShr (wVar 5) (wVar 11)) (wC (.int 1))) (wC (.int 1)))) (wVar 11)) (wNil))) (gN 6))
  (wSeq (wAsg (wCall cp_law_volume (wCons (wComp (wSeqI (wVar 6)) 11 (wYes) (wOp pIx (wVar 1) (wVar 11))) (wNil))) (gN 7))
  (wIf (wTest (wOp pLe (wVar 7) (wVar 2))) (wSeq (wDrop (wBM isLst (pMt fAppend) (wVar 3) (wCons (wVar 6) (wNil))))
  (wAsg (wOp pSub (wVar 2) (wVar 7)) (gN 2))) (wNext)))))))
  (wSeq (wAsg (wComp (wRng1 (wCons (wCB pLen (wCons (wVar 1) (wNil))) (wNil))) 11 (wTest (wOp pEq (wCB pLen (wCons (wComp (wSeqI (wVar 3)) 6 (wTest (wOp pIn (wVar 11) (wVar 6))) (wVar 6)) (wNil))) (wC (.int 0)))) (wVar 11)) (gN 8))
  (wSeq (wFor (wSeqI (wLst (wCons (wSl pSlA (wVar 8) wNoPart (wPart (wOp pFdiv (wCB pLen (wCons (wVar 8) (wNil))) (wC (.int 2))))) (wCons (wSl pSlA (wVar 8) (wPart (wOp pFdiv (wCB pLen (wCons (wVar 8) (wNil))) (wC (.int 2)))) wNoPart) (wNil))))) (gN 9) (wIf (wTest (wOp pNe (wVar 9) (wLst (wNil)))) (wDrop (wBM isLst (pMt fAppend) (wVar 3) (wCons (wCB pTuple (wCons (wVar 9) (wNil))) (wNil)))) (wNext)))
  (wSeq (wAsg (wCall cp_law_take (wCons (wVar 0) (wCons (wCB pLen (wCons (wVar 3) (wNil))) (wNil)))) (gN 10))
  (wRet (wOp pAdd (wSl pSlA (wVar 3) (wPart (wVar 10)) wNoPart) (wSl pSlA (wVar 3) wNoPart (wPart (wVar 10)))))))))
noncomputable def tG (g : List Nat) : T := .tup (tN g)
noncomputable def frs : Nat → List (List Nat)
  | 0 => [[]]
  | n + 1 => (frs n).flatMap fun f => [2 :: f, 3 :: f]
noncomputable def subs : List Nat → List (List Nat)
  | [] => [[]]
  | a :: l => (subs l).flatMap fun s => [s, a :: s]
theorem mem_frs : ∀ (fr : List Nat), (∀ x ∈ fr, 2 ≤ x ∧ x ≤ 3) → fr ∈ frs fr.length
  | [], _ => by simp [frs]
  | x :: fr, h => by
    have ih := mem_frs fr fun y hy => h y (List.mem_cons_of_mem _ hy)
    have hx := h x List.mem_cons_self
    simp only [List.length_cons, frs, List.mem_flatMap]
    refine ⟨fr, ih, ?_⟩
    have : x = 2 ∨ x = 3 := by omega
    rcases this with rfl | rfl <;> simp
theorem mem_subs (p : Nat → Bool) : ∀ l : List Nat, l.filter p ∈ subs l
  | [] => by simp [subs]
  | a :: l => by
    simp only [subs, List.mem_flatMap]
    refine ⟨l.filter p, mem_subs p l, ?_⟩
    rw [List.filter_cons]
    split <;> simp
noncomputable def halves (fr left : List Nat) : Nat := vol (kindsOf fr (left.take (left.length / 2))) + vol (kindsOf fr (left.drop (left.length / 2)))
noncomputable def okHalves : Bool := (List.range 7).all fun n => (frs n).all fun fr => decide (64 < vol fr) || (subs (List.range n)).all fun left => decide (halves fr left ≤ 20)
theorem okHalves_true : okHalves = true := by decide +kernel
theorem halves_le {fr : List Nat} (hf : Fr fr) (hv : vol fr ≤ 64) (p : Nat → Bool) : halves fr ((List.range fr.length).filter p) ≤ 20 := by
  have h := okHalves_true
  unfold okHalves at h
  rw [List.all_eq_true] at h
  have h1 := h fr.length (List.mem_range.mpr (by have := hf.2.1; omega))
  rw [List.all_eq_true] at h1
  have h2 := h1 fr (mem_frs fr hf.2.2)
  have hv' : ¬ 64 < vol fr := by omega
  simp only [hv', decide_false, Bool.false_or] at h2
  rw [List.all_eq_true] at h2
  have h3 := h2 _ (mem_subs p (List.range fr.length))
  simpa using h3
noncomputable def bitsOf (n : Nat) (B : Int) : List Nat := (List.range n).filter fun m => Builtin.bitAnd (B / 2 ^ m) 1 == 1
noncomputable def okBits : Bool := (List.range 7).all fun n => (List.range 64).all fun b => decide (b < 1) || decide (2 ^ n ≤ b) || !(bitsOf n (b : Int)).isEmpty
theorem okBits_true : okBits = true := by decide +kernel
theorem bits_ne {n : Nat} {B : Int} (hn : n ≤ 6) (h1 : 1 ≤ B) (h2 : B < 2 ^ n) : bitsOf n B ≠ [] := by
  have h := okBits_true
  unfold okBits at h
  rw [List.all_eq_true] at h
  have q1 := h n (List.mem_range.mpr (by omega))
  rw [List.all_eq_true] at q1
  have h64 : (2 : Int) ^ n ≤ 64 := by
    have : (2 : Nat) ^ n ≤ 2 ^ 6 := Nat.pow_le_pow_right (by decide) hn
    exact_mod_cast this
  obtain ⟨b, rfl⟩ : ∃ b : Nat, B = b := ⟨B.toNat, by omega⟩
  have q2 := q1 b (List.mem_range.mpr (by omega))
  have g1 : ¬ b < 1 := by omega
  have g2 : ¬ 2 ^ n ≤ b := by
    have : ((b : Nat) : Int) < ((2 ^ n : Nat) : Int) := by push_cast; exact h2
    omega
  simp only [g1, g2, decide_false, Bool.false_or] at q2
  intro e
  rw [e] at q2
  cases q2
noncomputable def okOr : Bool := (List.range 7).all fun n => (List.range n).all fun a => (List.range n).all fun b => decide (1 ≤ Builtin.bitOr (1 * 2 ^ a) (1 * 2 ^ b)) && decide (Builtin.bitOr (1 * 2 ^ a) (1 * 2 ^ b) < 2 ^ n)
theorem okOr_true : okOr = true := by decide +kernel
theorem or_in {n a b : Nat} (hn : n ≤ 6) (ha : a < n) (hb : b < n) : 1 ≤ Builtin.bitOr (1 * 2 ^ a) (1 * 2 ^ b) ∧ Builtin.bitOr (1 * 2 ^ a) (1 * 2 ^ b) < 2 ^ n := by
  have h := okOr_true
  unfold okOr at h
  rw [List.all_eq_true] at h
  have q1 := h n (List.mem_range.mpr (by omega))
  rw [List.all_eq_true] at q1
  have q2 := q1 a (List.mem_range.mpr ha)
  rw [List.all_eq_true] at q2
  have q3 := q2 b (List.mem_range.mpr hb)
  simpa using q3
theorem comp_filter {env : En} {k : WK} {j : Nat} {wc : WT} {h : PH} {n : Nat} (p : Nat → Bool) (hn : n ≤ 100) (hc : ∀ (i : Nat), i < n → ∀ h1, Gro h h1 → ∀ K : Bool → PH → Prop, (∀ h2, Gro h1 h2 → K (p i) h2) → wc ((env.set j none).set j (some (.int (i : Int)))) h1 K) (hj : ∀ x, ((env.set j none).set j (some x))[j]? = some (some x))
    (hk : ∀ h', Gro h h' → k (.ref h'.length) (h' ++ [.lst (tN ((List.range n).filter p))])) : compL (fun _ => True) j wc (wVar j) env k (rngL 0 n) [] h := by
  refine compL_inv _ (fun i acc h' => Gro h h' ∧ acc = tN ((List.range i).filter p) ∧ i ≤ n) ⟨Gro.refl _, rfl, Nat.zero_le _⟩ (fun _ _ _ _ => trivial) (fun i acc h q => ?_) ?_ ?_
  · obtain ⟨_, rfl, q2⟩ := q
    have := List.length_filter_le p (List.range i)
    rw [tN_len, sizeLine_eq]; simp at this; omega
  · rintro i x acc h' hx ⟨G, rfl, hi⟩
    obtain ⟨hi, rfl⟩ := rng_get hx
    refine hc i hi h' G _ fun h2 G2 => ?_
    rw [List.range_succ, List.filter_append]
    cases hb : p i with
    | false =>
      simp only [Bool.false_eq_true, if_false]
      exact ⟨G.trans G2, by simp [hb], by omega⟩
    | true =>
      simp only [if_true, wVar, hj]
      exact ⟨G.trans G2, by simp [hb, tN], by omega⟩
  · rintro acc h' ⟨G, rfl, hi⟩
    rw [rng_len]
    exact hk h' G
theorem comp_kinds {env : En} {k : WK} {j f : Nat} {h : PH} {fr gs : List Nat} (hl : gs.length ≤ 6) (hg : ∀ m ∈ gs, m < fr.length) (hf : ∀ x, ((env.set j none).set j (some x))[f]? = some (some (.tup (tN fr)))) (hj : ∀ x, ((env.set j none).set j (some x))[j]? = some (some x))
    (hk : k (.ref h.length) (h ++ [.lst (tN (kindsOf fr gs))])) {chk : PH → Prop} (hchk : chk h) : compL chk j wYes (wOp pIx (wVar f) (wVar j)) env k (tN gs) [] h := by
  refine compL_inv _ (fun i acc h' => h' = h ∧ acc = tN (kindsOf fr (gs.take i))) ⟨rfl, rfl⟩ (fun i acc h' q => by rw [q.1]; exact hchk) (fun i acc h q => ?_) ?_ ?_
  · rw [q.2, tN_len, sizeLine_eq]; simp [kindsOf]; omega
  · rintro i x acc h' hx ⟨rfl, rfl⟩
    obtain ⟨m, hm, rfl⟩ := tN_get hx
    have hmf := hg m (List.mem_of_getElem? hm)
    have hkk : fr[m]? = some (fr.getD m 0) := by rw [List.getD_eq_getElem?_getD, List.getElem?_eq_getElem hmf]; rfl
    simp! only [hf, hj, tN_at hkk]
    refine ⟨trivial, ?_⟩
    rw [take_snoc hm, ← tN_snoc]
    simp [kindsOf]
  · rintro acc h' ⟨rfl, rfl⟩
    rw [tN_len, List.take_length]
    exact hk
theorem flat_tN (g : List Nat) : (tN g).all flatT = true := by simp [tN, flatT]
theorem in_tN (g : List Nat) (m : Nat) : ((tN g).any fun t => eqF t (.int (m : Int))) = decide (m ∈ g) := by
  induction g with
  | nil => rfl
  | cons a g ih =>
    show (((a : Int) == (m : Int)) || (tN g).any fun t => eqF t (.int (m : Int))) = _
    rw [ih]
    by_cases e : a = m
    · subst e; simp
    · have e' : ((a : Int) == (m : Int)) = false := by simp; omega
      have : m ≠ a := fun z => e z.symm
      simp [e', this]
theorem comp_with {env : En} {k : WK} {j f : Nat} {h : PH} {gs : List (List Nat)} {m : Nat} (hl : gs.length ≤ 100) (hf : ∀ x, ((env.set j none).set j (some x))[f]? = some (some (.int (m : Int)))) (hj : ∀ x, ((env.set j none).set j (some x))[j]? = some (some x))
    (hk : k (.ref h.length) (h ++ [.lst ((gs.filter fun g => decide (m ∈ g)).map tG)])) {chk : PH → Prop} (hchk : chk h) : compL chk j (wTest (wOp pIn (wVar f) (wVar j))) (wVar j) env k (gs.map tG) [] h := by
  refine compL_inv _ (fun i acc h' => h' = h ∧ acc = ((gs.take i).filter fun g => decide (m ∈ g)).map tG) ⟨rfl, rfl⟩ (fun i acc h' q => by rw [q.1]; exact hchk) (fun i acc h q => ?_) ?_ ?_
  · have := List.length_filter_le (fun g => decide (m ∈ g)) (gs.take i)
    rw [q.2, List.length_map, sizeLine_eq]
    simp at this
    omega
  · rintro i x acc h' hx ⟨rfl, rfl⟩
    rw [List.getElem?_map] at hx
    cases hg : gs[i]? with
    | none => rw [hg] at hx; cases hx
    | some g =>
      rw [hg] at hx
      cases hx
      simp! only [tG, hf, hj, pIn, pInB, flatT, flat_tN, in_tN]
      refine ⟨trivial, trivial, ?_⟩
      rw [take_snoc hg, List.filter_append]
      by_cases hm : m ∈ g
      · simp [hm, tG]
      · simp [hm]
  · rintro acc h' ⟨rfl, rfl⟩
    rw [List.length_map, List.take_length]
    exact hk
theorem six (n d i : Nat) (h : i ≤ n) : HT.sIx n d (some (i : Int)) = i := by
  show (if (i : Int) < 0 then ((i : Int) + (n : Int)).toNat else min (i : Int).toNat n) = i
  rw [if_neg (by omega)]
  omega
theorem cut_to (xs : List T) (i : Nat) (h : i ≤ xs.length) : cutT xs none (some (i : Int)) = xs.take i := by
  unfold cutT
  rw [six _ _ _ h]
  show (xs.drop 0).take (i - 0) = _
  simp
theorem cut_from (xs : List T) (i : Nat) (h : i ≤ xs.length) : cutT xs (some (i : Int)) none = xs.drop i := by
  unfold cutT
  rw [six _ _ _ h]
  show (xs.drop i).take (xs.length - i) = _
  exact List.take_of_length_le (by simp)
noncomputable def volG (fr : List Nat) (g : List Nat) : Nat := vol (kindsOf fr g)
noncomputable def Grp (fr g : List Nat) : Prop := g ≠ [] ∧ g.Pairwise (· < ·) ∧ ∀ m ∈ g, m < fr.length
structure GroupsOk (fr : List Nat) (gs : List (List Nat)) : Prop where
  pos : 1 ≤ gs.length
  most : gs.length ≤ 7
  grp : ∀ g ∈ gs, Grp fr g
  all : ∀ m, m < fr.length → ∃ g ∈ gs, m ∈ g
  rows : (gs.map (volG fr)).sum ≤ 60
theorem Grp.len {fr g : List Nat} (hf : Fr fr) (h : Grp fr g) : g.length ≤ 6 := by
  have hs : g.length ≤ fr.length := by
    have hnd : g.Nodup := h.2.1.imp fun a b => by omega
    have hsub : g ⊆ List.range fr.length := fun m hm => List.mem_range.mpr (h.2.2 m hm)
    have := hnd.length_le_of_subset hsub
    simpa using this
  have := hf.2.1
  omega
theorem K23.of {fr g : List Nat} (hf : Fr fr) (hm : ∀ m ∈ g, m < fr.length) (hl : g.length ≤ 6) : K23 (kindsOf fr g) := by
  refine ⟨by simp [kindsOf]; exact hl, fun x hx => ?_⟩
  obtain ⟨m, hm', rfl⟩ := List.mem_map.mp hx
  have hmf := hm m hm'
  rw [List.getD_eq_getElem?_getD, List.getElem?_eq_getElem hmf]
  exact hf.2.2 _ (List.getElem_mem hmf)
theorem GroupsOk.rot {fr : List Nat} {gs : List (List Nat)} (h : GroupsOk fr gs) (t : Nat) : GroupsOk fr (gs.drop t ++ gs.take t) := by
  have hp : ∀ g, g ∈ gs.drop t ++ gs.take t ↔ g ∈ gs := fun g => by
    rw [List.mem_append, or_comm, ← List.mem_append, List.take_append_drop]
  refine ⟨?_, ?_, fun g hg => h.grp g ((hp g).mp hg), fun m hm => ?_, ?_⟩
  · have := h.pos; simp; omega
  · have := h.most; simp; omega
  · obtain ⟨g, hg, hm⟩ := h.all m hm
    exact ⟨g, (hp g).mpr hg, hm⟩
  · have e : (gs.map (volG fr)).sum = ((gs.drop t ++ gs.take t).map (volG fr)).sum := by
      rw [List.map_append, List.sum_append, Nat.add_comm, ← List.sum_append, ← List.map_append, List.take_append_drop]
    rw [← e]
    exact h.rows
noncomputable def cp_law_groups : CP := fun ts h k => ∃ n sc ns fr room, ts = [.ref n, .tup (tN fr), .int room] ∧ StOk n sc ns h ∧ Fr fr ∧ vol fr ≤ 64 ∧ 0 ≤ room ∧ room ≤ 40 ∧
  ∀ gs h' q, GroupsOk fr gs → StOk n sc ns h' → Ext n h h' → h.length ≤ q → h'[q]? = some (.lst (gs.map tG)) → k (.ref q) h'
theorem len_law_groups : ∀ ts h k, cp_law_groups ts h k → ts.length = 3 := by
  rintro ts h k ⟨x, _, _, _, _, rfl, _⟩
  rfl
theorem pw2 {n : Nat} (h1 : 1 ≤ n) (h6 : n ≤ 6) : (2 : Int) ≤ 2 ^ n ∧ (2 : Int) ^ n ≤ 64 := by
  have : n = 1 ∨ n = 2 ∨ n = 3 ∨ n = 4 ∨ n = 5 ∨ n = 6 := by omega
  rcases this with rfl | rfl | rfl | rfl | rfl | rfl <;> decide
theorem bits_grp {fr : List Nat} {B : Int} (hf : Fr fr) (h1 : 1 ≤ B) (h2 : B < 2 ^ fr.length) : Grp fr (bitsOf fr.length B) :=
  ⟨bits_ne hf.2.1 h1 h2, List.Pairwise.sublist List.filter_sublist List.pairwise_lt_range, fun m hm => List.mem_range.mp (List.mem_filter.mp hm).1⟩
theorem vc_law_groups : ∀ ts h k, cp_law_groups ts h k → W_law_groups cp_law_take cp_law_volume { nx := fun _ h' => k .non h', rt := k } (begin_ 12 ts) h := by
  rintro ts h0 k ⟨n, sc, ns, fr, room, rfl, S, hf, hv, hr0, hr40, hk⟩
  have hl := StOk.lt S
  obtain ⟨f1, f2, f3⟩ := id hf
  have hp2 := pw2 f1 f2
  unfold W_law_groups
  refine seq_cut fun U hU => ?_
  simp! only [begin_]
  refine ⟨by decide, ?_⟩
  subst hU
  refine seq_cut fun U hU => ?_
  simp! only [if_true]
  refine ⟨n, sc, ns, 6, rfl, S.gro (Gro.app _ _), by decide, by decide, fun r h1 r0 r1 S1 X1 => ?_⟩
  simp! only [if_true]
  refine ⟨by omega, by omega, ?_⟩
  have hL := X1 _ _ (by omega) (get_app_new _ _)
  have E1 : Ext n h0 h1 := (Ext.app n h0 _).trans X1
  refine forL_inv _ (fun i env h => ∃ (gs : List (List Nat)) (rm : Int) (a b c d : Option T), env = [some (.ref n), some (.tup (tN fr)), some (.int rm), some (.ref h0.length), a, b, c, d, none, none, none, none] ∧ gs.length ≤ i ∧ i ≤ 5 ∧ (∀ g ∈ gs, Grp fr g) ∧ 0 ≤ rm ∧ (((gs.map (volG fr)).sum : Nat) : Int) + rm ≤ 40 ∧
      StOk n sc ns h ∧ Ext n h0 h ∧ h[h0.length]? = some (.lst (gs.map tG)))
    ⟨[], room, _, _, _, _, rfl, Nat.le_refl _, by omega, by simp, hr0, by simp; omega, S1, E1, hL⟩ (fun _ _ _ _ => trivial) ?_ ?_
  · clear hL E1 S1 X1
    rintro i x env h hx ⟨gs, rm, a, b, c, d, rfl, hgl, hi5, hgs, hrm, hsum, S2, E2, hL2⟩
    obtain ⟨hi, rfl⟩ := rng_get hx
    clear hU
    simp only [gN, List.set_cons_zero, List.set_cons_succ]
    refine seq_cut fun U hU => ?_
    simp! only [tN_len]
    rw [show ((fr.length : Int)).toNat = fr.length by omega, Int.one_mul]
    refine ⟨⟨by omega, by omega, by decide⟩, n, sc, ns, _, rfl, S2, by omega, by omega, fun z h3 z0 z1 S3 X3 => ?_⟩
    have hL3 := X3 _ _ (by omega) hL2
    simp! only [if_true]
    subst hU
    refine seq_cut fun U hU => ?_
    have step : ∀ (B : Int) h, 1 ≤ B → B < 2 ^ fr.length → StOk n sc ns h → Ext n h0 h → h[h0.length]? = some (.lst (gs.map tG)) → U [some (.ref n), some (.tup (tN fr)), some (.int rm), some (.ref h0.length), some (.int i), some (.int B), c, d, none, none, none, none] h := by
      clear S2 E2 hL2 z1 z0 S3 X3 hL3
      clear h h3
      intro B h hB1 hB2 S2 E2 hL2
      have hg := bits_grp hf hB1 hB2
      have hgl6 := hg.len hf
      subst hU
      refine seq_cut fun U hU => ?_
      simp! only [tN_len]
      refine ⟨by omega, by omega, ?_⟩
      rw [show ((fr.length : Int)).toNat = fr.length by omega]
      refine comp_filter (fun m => Builtin.bitAnd (B / 2 ^ m) 1 == 1) (by omega) (fun i hi h1 G1 K hK => ?_) (fun x => rfl) fun h1 G1 => ?_
      · simp! only [if_true]
        refine ⟨by omega, ?_⟩
        rw [show ((i : Int)).toNat = i by omega]
        exact hK _ (Gro.refl _)
      simp only [seqOf_of (get_app_new _ _)]
      show U [some (.ref n), some (.tup (tN fr)), some (.int rm), some (.ref h0.length), some (.int i), some (.int B), some (.tup (tN (bitsOf fr.length B))), d, none, none, none, none] _
      have G2 : Gro h (h1 ++ [Ob.lst (tN (List.filter (fun m => Builtin.bitAnd (B / 2 ^ m) 1 == 1) (List.range fr.length)))]) := G1.ap
      generalize h1 ++ [Ob.lst (tN (List.filter (fun m => Builtin.bitAnd (B / 2 ^ m) 1 == 1) (List.range fr.length)))] = h2 at G2
      have S3 := S2.gro G2
      have E3 := E2.gr G2
      have hL3 := G2 _ _ hL2
      clear G1 G2 S2 E2 hL2
      clear h1
      generalize bitsOf fr.length B = g at hg hgl6
      subst hU
      refine seq_cut fun U hU => ?_
      simp! only [if_true]
      refine comp_kinds hgl6 hg.2.2 (fun x => rfl) (fun x => rfl) ?_ trivial
      refine ⟨_, kindsOf fr g, rfl, seqOf_of (get_app_new _ _), K23.of hf hg.2.2 hgl6, ?_⟩
      have S4 : StOk n sc ns (h2 ++ [.lst (tN (kindsOf fr g))]) := S3.gro (Gro.app _ _)
      have E4 : Ext n h0 (h2 ++ [.lst (tN (kindsOf fr g))]) := E3.ap
      have hL4 : (h2 ++ [.lst (tN (kindsOf fr g))])[h0.length]? = some (.lst (gs.map tG)) := get_app_left hL3
      generalize h2 ++ [Ob.lst (tN (kindsOf fr g))] = h4 at S4 E4 hL4
      subst hU
      have hvg : vol (kindsOf fr g) = volG fr g := rfl
      simp! only [hvg]
      by_cases hle : ((volG fr g : Nat) : Int) ≤ rm
      · simp! only [hle, lstOf_of hL4, true_and]
        refine ⟨by rw [List.length_append, List.length_map, sizeLine_eq]; simp only [List.length_cons, List.length_nil]; omega, gs ++ [g], _, _, _, _, _, rfl, by simp; omega, by omega, fun g' hg' => ?_, by omega, ?_, S4.setN (by omega) (by omega), E4.setN (Nat.le_refl _), ?_⟩
        · rcases List.mem_append.mp hg' with h | h
          · exact hgs g' h
          · rw [List.mem_singleton.mp h]; exact hg
        · rw [List.map_append, List.sum_append]
          simp only [List.map_cons, List.map_nil, List.sum_cons, List.sum_nil]
          omega
        · rw [set_get hL4]
          simp [tG]
      · simp! only [hle]
        exact ⟨gs, rm, _, _, _, _, rfl, by omega, by omega, hgs, hrm, hsum, S4, E4, hL4⟩
    simp! only [if_true]
    refine ⟨n, sc, ns, 2, rfl, S3, by decide, by decide, fun y h4 y0 y1 S4 X4 => ?_⟩
    have hL4 := X4 _ _ (by omega) hL3
    simp! only [if_true]
    have E4 := (E2.trans X3).trans X4
    by_cases hy : y = 1
    · subst hy
      simp! only [tN_len]
      refine ⟨n, sc, ns, _, rfl, S4, by omega, by omega, fun a h5 a0 a1 S5 X5 => ?_⟩
      refine ⟨⟨by omega, by omega, by decide⟩, n, sc, ns, _, rfl, S5, by omega, by omega, fun b h6 b0 b1 S6 X6 => ?_⟩
      refine ⟨⟨by omega, by omega, by decide⟩, ?_⟩
      have hor := or_in (n := fr.length) (a := a.toNat) (b := b.toNat) f2 (by omega) (by omega)
      exact step _ h6 hor.1 hor.2 S6 ((E4.trans X5).trans X6) (X6 _ _ (by omega) (X5 _ _ (by omega) hL4))
    · have hy' : (y == 1) = false := by simpa using hy
      simp! only [hy']
      exact step _ h4 (by omega) (by omega) S4 E4 hL4
  · clear hL E1 S1 X1
    rintro env h ⟨gs, rm, a0, b0, c0, d0, rfl, hgl, hi5, hgs, hrm, hsum, S2, E2, hL2⟩
    rw [rng_len] at hi5 hgl
    show U _ _
    subst hU
    refine seq_cut fun U hU => ?_
    simp! only [tN_len]
    refine ⟨by omega, by omega, ?_⟩
    rw [show ((fr.length : Int)).toNat = fr.length by omega]
    refine comp_filter (fun m => ((gs.filter fun g => decide (m ∈ g)).length : Int) == 0) (by omega) (fun i hi h1 G1 K hK => ?_) (fun x => rfl) fun h1 G1 => ?_
    · simp! only [seqOf_of (G1 _ _ hL2)]
      refine comp_with (m := i) (by omega) (fun x => rfl) (fun x => rfl) ?_ (seqOf_of (G1 _ _ hL2))
      simp only [seqOf_of (get_app_new _ _), List.length_map, eqT_int]
      exact hK _ (Gro.app _ _)
    have hhalf := halves_le hf hv fun m => ((gs.filter fun g => decide (m ∈ g)).length : Int) == 0
    have hmem : ∀ m, m < fr.length → (∃ g ∈ gs, m ∈ g) ∨ m ∈ (List.range fr.length).filter fun m => ((gs.filter fun g => decide (m ∈ g)).length : Int) == 0 := fun m hm => by
      by_cases hz : (gs.filter fun g => decide (m ∈ g)) = []
      · right
        rw [List.mem_filter]
        exact ⟨List.mem_range.mpr hm, by simp [hz]⟩
      · left
        obtain ⟨g, r, hg⟩ := List.exists_cons_of_ne_nil hz
        have : g ∈ gs.filter fun g => decide (m ∈ g) := by rw [hg]; exact List.mem_cons_self
        obtain ⟨q1, q2⟩ := List.mem_filter.mp this
        exact ⟨g, q1, by simpa using q2⟩
    have hsub : ((List.range fr.length).filter fun m => ((gs.filter fun g => decide (m ∈ g)).length : Int) == 0).Sublist (List.range fr.length) := List.filter_sublist
    generalize ((List.range fr.length).filter fun m => ((gs.filter fun g => decide (m ∈ g)).length : Int) == 0) = left at *
    have S3 : StOk n sc ns (h1 ++ [.lst (tN left)]) := (S2.gro G1).gro (Gro.app _ _)
    have E3 : Ext n h0 (h1 ++ [.lst (tN left)]) := (E2.gr G1).ap
    have hL3 : (h1 ++ [.lst (tN left)])[h0.length]? = some (.lst (gs.map tG)) := get_app_left (G1 _ _ hL2)
    have hQ3 := get_app_new h1 (.lst (tN left))
    have hq0 : h0.length < h1.length := lt_of_get (G1 _ _ hL2)
    generalize h1.length = q at hQ3 hq0
    generalize h1 ++ [Ob.lst (tN left)] = h3 at S3 E3 hL3 hQ3
    clear G1 S2 E2 hL2
    clear h1 h
    have hll : left.length ≤ 6 := by have := hsub.length_le; simp at this; omega
    subst hU
    refine seq_cut fun U hU => ?_
    simp! only [seqOf_of hQ3, lstOf_of hQ3, seqOf_of (get_app_left hQ3), lstOf_of (get_app_left hQ3), tN_len]
    rw [show ((left.length : Int) / 2) = ((left.length / 2 : Nat) : Int) by omega]
    rw [cut_to _ _ (by rw [tN_len]; omega), cut_from _ _ (by rw [tN_len]; omega)]
    have et : (tN left).take (left.length / 2) = tN (left.take (left.length / 2)) := by simp [tN, List.map_take]
    have ed : (tN left).drop (left.length / 2) = tN (left.drop (left.length / 2)) := by simp [tN, List.map_drop]
    rw [et, ed]
    refine ⟨⟨by decide, by decide⟩, ⟨by decide, by decide⟩, by decide, ?_⟩
    have hA : Grp fr (left.take (left.length / 2)) ∨ left.take (left.length / 2) = [] := by
      by_cases hz : left.take (left.length / 2) = []
      · exact .inr hz
      · exact .inl ⟨hz, List.Pairwise.sublist ((List.take_sublist _ _).trans hsub) List.pairwise_lt_range, fun m hm => List.mem_range.mp (hsub.subset (List.mem_of_mem_take hm))⟩
    have hB : Grp fr (left.drop (left.length / 2)) ∨ left.drop (left.length / 2) = [] := by
      by_cases hz : left.drop (left.length / 2) = []
      · exact .inr hz
      · exact .inl ⟨hz, List.Pairwise.sublist ((List.drop_sublist _ _).trans hsub) List.pairwise_lt_range, fun m hm => List.mem_range.mp (hsub.subset (List.mem_of_mem_drop hm))⟩
    have hAB : ∀ m ∈ left, m ∈ left.take (left.length / 2) ∨ m ∈ left.drop (left.length / 2) := fun m hm => by
      rw [← List.mem_append, List.take_append_drop]; exact hm
    have hvA : volG fr (left.take (left.length / 2)) + volG fr (left.drop (left.length / 2)) ≤ 20 := hhalf
    generalize left.take (left.length / 2) = A at *
    generalize left.drop (left.length / 2) = B at *
    clear hhalf et ed
    have e1 : (h3 ++ [Ob.lst (tN A)] ++ [Ob.lst (tN B)] ++ [Ob.lst [T.ref h3.length, T.ref (h3 ++ [Ob.lst (tN A)]).length]])[h3.length]? = some (.lst (tN A)) := get_app_left (get_app_left (get_app_new _ _))
    have e2 : (h3 ++ [Ob.lst (tN A)] ++ [Ob.lst (tN B)] ++ [Ob.lst [T.ref h3.length, T.ref (h3 ++ [Ob.lst (tN A)]).length]])[(h3 ++ [Ob.lst (tN A)]).length]? = some (.lst (tN B)) := get_app_left (get_app_new _ _)
    have e3 := get_app_new (h3 ++ [Ob.lst (tN A)] ++ [Ob.lst (tN B)]) (Ob.lst [T.ref h3.length, T.ref (h3 ++ [Ob.lst (tN A)]).length])
    have G3 : Gro h3 (h3 ++ [Ob.lst (tN A)] ++ [Ob.lst (tN B)] ++ [Ob.lst [T.ref h3.length, T.ref (h3 ++ [Ob.lst (tN A)]).length]]) := ((Gro.app _ _).ap).ap
    have d1 : (h3 ++ [Ob.lst (tN A)]).length = h3.length + 1 := by simp
    have d2 : (h3 ++ [Ob.lst (tN A)] ++ [Ob.lst (tN B)]).length = h3.length + 2 := by simp
    rw [d1] at e1 e2 e3 G3 ⊢
    rw [d2] at e3 ⊢
    have hq3 := lt_of_get hL3
    generalize h3 ++ [Ob.lst (tN A)] ++ [Ob.lst (tN B)] ++ [Ob.lst [T.ref h3.length, T.ref (h3.length + 1)]] = h4 at *
    have S4 := S3.gro G3
    have E4 := E3.gr G3
    have hL4 := G3 _ _ hL3
    clear G3 hQ3
    simp only [seqOf_of e3]
    have hlt := S3.lt
    refine forL_inv _ (fun i env h => ∃ a, env = [some (.ref n), some (.tup (tN fr)), some (.int rm), some (.ref h0.length), a0, b0, c0, d0, some (.ref q), a, none, none] ∧ StOk n sc ns h ∧ Ext n h0 h ∧ h[h3.length]? = some (.lst (tN A)) ∧ h[h3.length + 1]? = some (.lst (tN B)) ∧
        h[h3.length + 2]? = some (.lst [T.ref h3.length, T.ref (h3.length + 1)]) ∧ h[h0.length]? = some (.lst ((gs ++ (([A, B].take i).filter fun g => !g.isEmpty)).map tG)))
      ⟨_, rfl, S4, E4, e1, e2, e3, by simpa using hL4⟩ (fun i env h q => by obtain ⟨_, _, _, _, _, _, q, _⟩ := q; exact seqOf_of q) ?_ ?_
    · rintro i x env h hx ⟨a, rfl, S5, E5, e1, e2, e3, hL5⟩
      have hlen : (gs ++ (([A, B].take i).filter fun g => !g.isEmpty)).length ≤ 7 := by
        have := List.length_filter_le (fun g => !g.isEmpty) ([A, B].take i)
        rw [List.length_append]
        simp at this
        omega
      obtain ⟨G, nn, rfl, hG, htk, hne⟩ : ∃ (G : List Nat) (nn : Nat), x = .ref nn ∧ h[nn]? = some (.lst (tN G)) ∧ [A, B].take (i + 1) = [A, B].take i ++ [G] ∧ h3.length ≤ nn := by
        have hi := (List.getElem?_eq_some_iff.mp hx).1
        have : i = 0 ∨ i = 1 := by simp at hi; omega
        rcases this with rfl | rfl
        · cases hx; exact ⟨A, _, rfl, e1, rfl, by omega⟩
        · cases hx; exact ⟨B, _, rfl, e2, rfl, by omega⟩
      simp! only [if_true]
      rw [htk, List.filter_append]
      generalize (([A, B].take i).filter fun g => !g.isEmpty) = ps at *
      refine ⟨by decide, ?_⟩
      have en : eqT (h ++ [.lst []]) 40 (.ref nn) (.ref h.length) = some (decide (G = [])) := by
        rw [eqT_ref (get_app_left hG) (get_app_new _ _)]
        cases G with
        | nil => rfl
        | cons _ _ => rfl
      simp only [en, lstOf_of (get_app_left hL5), seqOf_of (get_app_left hG)]
      have S6 : StOk n sc ns (h ++ [.lst []]) := S5.gro (Gro.app _ _)
      have E6 : Ext n h0 (h ++ [.lst []]) := E5.ap
      by_cases hG0 : G = []
      · subst hG0
        simp! only [if_true]
        exact ⟨_, rfl, S6, E6, get_app_left e1, get_app_left e2, get_app_left e3, by simpa using get_app_left hL5⟩
      · have hG1 : G.isEmpty = false := by cases G with | nil => exact absurd rfl hG0 | cons _ _ => rfl
        simp! only [hG0, true_and]
        refine ⟨by rw [List.length_append, List.length_map, sizeLine_eq]; simp only [List.length_cons, List.length_nil]; omega, _, rfl, S6.setN (by omega) (by omega), E6.setN (Nat.le_refl _), set_ne (get_app_left e1) (by omega), set_ne (get_app_left e2) (by omega), set_ne (get_app_left e3) (by omega), ?_⟩
        rw [set_get (get_app_left hL5)]
        simp [hG1, tG]
    · rintro env h ⟨a, rfl, S5, E5, e1, e2, e3, hL5⟩
      have hok : GroupsOk fr (gs ++ (([A, B].take 2).filter fun g => !g.isEmpty)) := by
        have hlast : ∀ g, g ∈ ([A, B].take 2).filter (fun g => !g.isEmpty) → Grp fr g := fun g hg => by
          obtain ⟨h1, h2⟩ := List.mem_filter.mp hg
          have h1 : g ∈ [A, B] := List.mem_of_mem_take h1
          rcases List.mem_cons.mp h1 with rfl | h1
          · rcases hA with h | h
            · exact h
            · rw [h] at h2; cases h2
          · rw [List.mem_singleton] at h1
            subst h1
            rcases hB with h | h
            · exact h
            · rw [h] at h2; cases h2
        have hall : ∀ m, m < fr.length → ∃ g ∈ gs ++ (([A, B].take 2).filter fun g => !g.isEmpty), m ∈ g := fun m hm => by
          rcases hmem m hm with ⟨g, hg, hm⟩ | hm
          · exact ⟨g, List.mem_append_left _ hg, hm⟩
          · have ne : ∀ g : List Nat, m ∈ g → (!g.isEmpty) = true := fun g hg => by cases g with | nil => simp at hg | cons _ _ => rfl
            rcases hAB m hm with h | h
            · exact ⟨A, List.mem_append_right _ (List.mem_filter.mpr ⟨by simp, ne A h⟩), h⟩
            · exact ⟨B, List.mem_append_right _ (List.mem_filter.mpr ⟨by simp, ne B h⟩), h⟩
        refine ⟨?_, ?_, fun g hg => ?_, hall, ?_⟩
        · obtain ⟨g, hg, _⟩ := hall 0 (by omega)
          exact List.length_pos_of_mem hg
        · have := List.length_filter_le (fun g : List Nat => !g.isEmpty) ([A, B].take 2)
          rw [List.length_append]
          simp at this ⊢
          omega
        · rcases List.mem_append.mp hg with h | h
          · exact hgs g h
          · exact hlast g h
        · rw [List.map_append, List.sum_append]
          have : ((([A, B].take 2).filter fun g => !g.isEmpty).map (volG fr)).sum ≤ volG fr A + volG fr B := by
            show ((List.filter _ [A, B]).map (volG fr)).sum ≤ _
            rw [List.filter_cons, List.filter_cons]
            split <;> split <;> simp <;> omega
          omega
      show U _ _
      subst hU
      generalize gs ++ (([A, B].take 2).filter fun g => !g.isEmpty) = GS at *
      have hL5 : h[h0.length]? = some (.lst (GS.map tG)) := hL5
      have hp := hok.pos
      have hm7 := hok.most
      refine seq_cut fun U hU => ?_
      simp! only [seqOf_of hL5, List.length_map]
      refine ⟨n, sc, ns, _, rfl, S5, by omega, by omega, fun t h6 t0 t1 S6 X6 => ?_⟩
      have hL6 := X6 _ _ (by omega) hL5
      subst hU
      obtain ⟨t, rfl⟩ : ∃ t' : Nat, t = t' := ⟨t.toNat, by omega⟩
      simp! only [lstOf_of hL6, lstOf_of (get_app_left hL6)]
      rw [cut_to _ _ (by rw [List.length_map]; omega), cut_from _ _ (by rw [List.length_map]; omega)]
      simp only [lstOf_of (get_app_left (get_app_new _ _)), lstOf_of (get_app_new _ _)]
      refine ⟨by rw [sizeLine_eq]; simp; omega, ?_⟩
      refine hk _ _ _ (hok.rot t) (((S6.gro (Gro.app _ _)).gro (Gro.app _ _)).gro (Gro.app _ _)) (((E5.trans X6).ap).ap).ap ?_ ?_
      · have := E5
        have := lt_of_get hL6
        simp
        omega
      · rw [get_app_new]
        simp [List.map_drop, List.map_take]
end LH
set_option Elab.async false
set_option linter.all false
set_option maxRecDepth 100000
namespace LH
open PySem L2 Pu ZP PL
noncomputable def W_law_sums : WS :=
  wSeq (wAsg (wDictT) (gN 5))
  (wSeq (wFor (wSeqI (wVar 4)) (gN 6) (wDPut (wVar 5) (wVar 6) (wC (.int 0))))
  (wSeq (wFor (wZip2 (wCons (wVar 1) (wCons (wVar 2) (wNil)))) (gTp 2 (gsCons (gN 6) (gsCons (gN 7) (gsNil)))) (wSeq (wAsg (wCB pTuple (wCons (wComp (wSeqI (wVar 3)) 9 (wYes) (wOp pIx (wVar 6) (wIndex (wVar 0) (wCons (wVar 9) (wNil))))) (wNil))) (gN 8))
  (wDPut (wVar 5) (wVar 8) (wOp pAdd (wOp pDGet (wVar 5) (wVar 8)) (wVar 7)))))
  (wRet (wComp (wSeqI (wVar 4)) 6 (wYes) (wOp pDGet (wVar 5) (wVar 6))))))
noncomputable def seenI (gs : List Nat) (rs : List Int) (ps : List Nat) : List Int := ps.map fun p => rs.getD (gs.idxOf p) 0
theorem seen_map (gs : List Nat) (rs : List Int) (ps : List Nat) (h : ∀ p ∈ ps, p ∈ gs) (hl : gs.length ≤ rs.length) : seenT gs (rs.map T.int) ps = (seenI gs rs ps).map T.int := by
  unfold seenT seenI
  rw [List.map_map]
  refine List.map_congr_left fun p hp => ?_
  have hlt : gs.idxOf p < rs.length := Nat.lt_of_lt_of_le (List.idxOf_lt_length_of_mem (h p hp)) hl
  simp [List.getD_eq_getElem?_getD, hlt]
theorem comp_seen {env : En} {k : WK} {j r g : Nat} {h : PH} {gs : List Nat} {rs : List Int} {ps : List Nat} (hp : ∀ p ∈ ps, p ∈ gs) (hl : gs.length ≤ rs.length) (hpl : ps.length ≤ 100)
    (hr : ∀ x, ((env.set j none).set j (some x))[r]? = some (some (tI rs))) (hg : ∀ x, ((env.set j none).set j (some x))[g]? = some (some (.tup (tN gs)))) (hj : ∀ x, ((env.set j none).set j (some x))[j]? = some (some x))
    (hk : k (.ref h.length) (h ++ [.lst ((seenI gs rs ps).map T.int)])) : compL (fun _ => True) j wYes (wOp pIx (wVar r) (wIndex (wVar g) (wCons (wVar j) wNil))) env k (tN ps) [] h := by
  refine compL_inv _ (fun i acc h' => h' = h ∧ acc = (seenI gs rs (ps.take i)).map T.int) ⟨rfl, rfl⟩ (fun _ _ _ _ => trivial) (fun i acc h q => ?_) ?_ ?_
  · rw [q.2, sizeLine_eq]; simp [seenI]; omega
  · rintro i x acc h' hx ⟨rfl, rfl⟩
    obtain ⟨p, hpi, rfl⟩ := tN_get hx
    have hpg := hp p (List.mem_of_getElem? hpi)
    have hlt : gs.idxOf p < (rs.map T.int).length := by rw [List.length_map]; exact Nat.lt_of_lt_of_le (List.idxOf_lt_length_of_mem hpg) hl
    have hlt' : gs.idxOf p < rs.length := by simpa using hlt
    simp! only [hr, hg, hj, tI, idx_tN _ _ _ hpg, at_getD (d := T.int 0) hlt]
    refine ⟨trivial, ?_⟩
    rw [take_snoc hpi]
    simp [seenI, List.getD_eq_getElem?_getD, hlt']
  · rintro acc h' ⟨rfl, rfl⟩
    rw [tN_len, List.take_length]
    exact hk
noncomputable def keyI (d : List Int) : List Key := d.map Sum.inl
theorem keyI_inj {a b : List Int} : keyI a = keyI b ↔ a = b := by
  unfold keyI
  constructor
  · intro h
    exact (List.map_inj_right (fun x y e => Sum.inl.inj e)).mp h
  · rintro rfl; rfl
theorem keysOf_ints : ∀ d : List Int, keysOf (d.map T.int) = some (keyI d)
  | [] => rfl
  | x :: d => by
    show (keysOf (d.map T.int)).map (Sum.inl x :: ·) = _
    rw [keysOf_ints d]
    rfl
noncomputable def dictI (ds : List (List Int)) (f : List Int → Int) : List (List Key × T) := ds.map fun d => (keyI d, .int (f d))
theorem valT_dict {ds : List (List Int)} {f : List Int → Int} {d : List Int} (h : d ∈ ds) : valT (dictI ds f) (keyI d) = some (.int (f d)) := by
  unfold valT dictI
  induction ds with
  | nil => simp at h
  | cons a ds ih =>
    rw [List.map_cons, List.find?_cons]
    by_cases e : a = d
    · subst e; simp
    · have : ¬ keyI a = keyI d := fun z => e (keyI_inj.mp z)
      simp only [this, decide_false]
      exact ih (by rcases List.mem_cons.mp h with h | h; exact absurd h.symm e; exact h)
theorem any_dict {ds : List (List Int)} {f : List Int → Int} {d : List Int} : ((dictI ds f).any fun kv => decide (kv.1 = keyI d)) = decide (d ∈ ds) := by
  unfold dictI
  induction ds with
  | nil => rfl
  | cons a ds ih =>
    rw [List.map_cons, List.any_cons, ih]
    by_cases e : a = d
    · subst e; simp
    · have h1 : ¬ keyI a = keyI d := fun z => e (keyI_inj.mp z)
      have h2 : d ≠ a := fun z => e z.symm
      simp [h1, h2]
theorem putT_dict {ds : List (List Int)} {f : List Int → Int} {d : List Int} {v : Int} (h : d ∈ ds) : putT (dictI ds f) (keyI d) (.int v) = dictI ds fun e => if e = d then v else f e := by
  unfold putT
  rw [any_dict, if_pos (by simpa using h)]
  unfold dictI
  rw [List.map_map]
  refine List.map_congr_left fun a ha => ?_
  show (if keyI a = keyI d then (keyI a, T.int v) else (keyI a, T.int (f a))) = _
  by_cases e : a = d
  · simp [e]
  · have : ¬ keyI a = keyI d := fun z => e (keyI_inj.mp z)
    simp [e, this]
theorem putT_new {ds : List (List Int)} {d : List Int} {c : Int} (h : d ∉ ds) : putT (dictI ds fun _ => c) (keyI d) (.int c) = dictI (ds ++ [d]) fun _ => c := by
  unfold putT
  rw [any_dict, if_neg (by simpa using h)]
  simp [dictI]
theorem dTOf_of {h : PH} {n : Nat} {kvs : List (List Key × T)} (e : h[n]? = some (.dT kvs)) : dTOf h n = some kvs := by unfold dTOf; rw [e]
noncomputable def sumZ (gs ps : List Nat) (rc : List (List Int × Int)) (d : List Int) : Int := ((rc.filter fun x => decide (seenI gs x.1 ps = d)).map (·.2)).sum
theorem sumZ_snoc (gs ps : List Nat) (rc : List (List Int × Int)) (x : List Int × Int) (d : List Int) : sumZ gs ps (rc ++ [x]) d = if d = seenI gs x.1 ps then sumZ gs ps rc d + x.2 else sumZ gs ps rc d := by
  unfold sumZ
  rw [List.filter_append, List.map_append, List.sum_append]
  by_cases e : d = seenI gs x.1 ps
  · have : seenI gs x.1 ps = d := e.symm
    simp [this]
  · have : ¬ seenI gs x.1 ps = d := fun z => e z.symm
    simp [this, e]
noncomputable def cp_law_sums : CP := fun ts h k => ∃ (gs : List Nat) (R C : T) (ps : List Nat) (D : T) (rs : List (List Int)) (cs : List Int) (ds : List (List Int)), ts = [.tup (tN gs), R, C, .tup (tN ps), D] ∧ seqOf R h = some (rs.map tI) ∧ seqOf C h = some (cs.map T.int) ∧ seqOf D h = some (ds.map tI) ∧
  (∀ p ∈ ps, p ∈ gs) ∧ (∀ r ∈ rs, r.length = gs.length) ∧ (∀ r ∈ rs, seenI gs r ps ∈ ds) ∧ ds.Nodup ∧ ds.length ≤ 1000 ∧ ps.length ≤ 100 ∧
  ∀ h' q, Gro h h' → h.length ≤ q → h'[q]? = some (.lst ((ds.map (sumZ gs ps (rs.zip cs))).map T.int)) → k (.ref q) h'
theorem len_law_sums : ∀ ts h k, cp_law_sums ts h k → ts.length = 5 := by
  rintro ts h k ⟨_, _, _, _, _, _, _, _, rfl, _⟩
  rfl
theorem map_get {α : Type} {f : α → T} {xs : List α} {i : Nat} {x : T} (h : (xs.map f)[i]? = some x) : ∃ y, xs[i]? = some y ∧ x = f y := by
  rw [List.getElem?_map] at h
  cases e : xs[i]? with
  | none => rw [e] at h; cases h
  | some y => rw [e] at h; cases h; exact ⟨y, rfl, rfl⟩
theorem zip_get {rs : List (List Int)} {cs : List Int} {i : Nat} {x : T} (h : (List.zipWith (fun x y => T.tup [x, y]) (rs.map tI) (cs.map T.int))[i]? = some x) : ∃ r c, (rs.zip cs)[i]? = some (r, c) ∧ x = .tup [tI r, .int c] ∧ r ∈ rs := by
  rw [List.getElem?_zipWith] at h
  cases e1 : rs[i]? with
  | none => simp [e1] at h
  | some r =>
    cases e2 : cs[i]? with
    | none => simp [e1, e2] at h
    | some c =>
      simp [e1, e2] at h
      exact ⟨r, c, by simp [List.getElem?_zip_eq_some, e1, e2], h.symm, List.mem_of_getElem? e1⟩
theorem nodup_take {α : Type} {l : List α} {i : Nat} {d : α} (hnd : l.Nodup) (h : l[i]? = some d) : d ∉ l.take i := by
  have hd := List.getElem?_eq_some_iff.mp h
  have e : l.take i ++ d :: l.drop (i + 1) = l := by
    obtain ⟨h1, h2⟩ := hd
    rw [← h2, ← List.drop_eq_getElem_cons h1, List.take_append_drop]
  rw [← e] at hnd
  intro hm
  exact (List.pairwise_append.mp hnd).2.2 d hm d List.mem_cons_self rfl
theorem vc_law_sums : ∀ ts h k, cp_law_sums ts h k → W_law_sums { nx := fun _ h' => k .non h', rt := k } (begin_ 10 ts) h := by
  rintro ts h0 k ⟨gs, R, C, ps, D, rs, cs, ds, rfl, hR, hC, hD, hp, hrl, hin, hnd, hdl, hpl, hk⟩
  unfold W_law_sums
  simp! only [begin_, seqOf_gro hD (Gro.app _ _)]
  refine forL_inv _ (fun i env h => ∃ a, env = [some (.tup (tN gs)), some R, some C, some (.tup (tN ps)), some D, some (.ref h0.length), a, none, none, none] ∧ Gro h0 h ∧ h[h0.length]? = some (.dT (dictI (ds.take i) fun _ => 0)))
    ⟨_, rfl, Gro.app _ _, get_app_new _ _⟩ (fun i env h q => by obtain ⟨_, _, G, _⟩ := q; exact seqOf_gro hD G) ?_ ?_
  · rintro i x env h hx ⟨a, rfl, G, e⟩
    obtain ⟨d, hd, rfl⟩ := map_get hx
    have hnew : d ∉ ds.take i := nodup_take hnd hd
    simp! only [tI, dTOf_of e, keysOf_ints, putT_new hnew]
    refine ⟨by rw [sizeLine_eq]; simp [dictI]; omega, _, rfl, G.set (Nat.le_refl _), ?_⟩
    rw [set_get e, take_snoc hd]
  · rintro env h ⟨a, rfl, G, e⟩
    rw [List.length_map, List.take_length] at e
    simp! only [seqOf_gro hR G, seqOf_gro hC G]
    refine forL_inv _ (fun i env h => ∃ a b c, env = [some (.tup (tN gs)), some R, some C, some (.tup (tN ps)), some D, some (.ref h0.length), a, b, c, none] ∧ Gro h0 h ∧ h[h0.length]? = some (.dT (dictI ds (sumZ gs ps ((rs.zip cs).take i)))))
      ⟨_, _, _, rfl, G, by rw [e]; rfl⟩ (fun i env h q => by obtain ⟨_, _, _, _, G, _⟩ := q; exact ⟨seqOf_gro hR G, seqOf_gro hC G⟩) ?_ ?_
    · rintro i x env h hx ⟨a, b, c, rfl, G, e⟩
      obtain ⟨r, v, hz, rfl, hr⟩ := zip_get hx
      simp! only [true_and]
      refine comp_seen hp (Nat.le_of_eq (hrl r hr).symm) hpl (fun x => rfl) (fun x => rfl) (fun x => rfl) ?_
      have hm := hin r hr
      simp only [seqOf_of (get_app_new _ _), dTOf_of (get_app_left e), keysOf_ints, valT_dict hm, putT_dict hm]
      refine ⟨by rw [sizeLine_eq]; simp [dictI]; omega, _, _, _, rfl, (G.ap).set (Nat.le_refl _), ?_⟩
      rw [set_get (get_app_left e), take_snoc hz]
      congr 2
      unfold dictI
      refine List.map_congr_left fun d hd => ?_
      rw [sumZ_snoc]
      by_cases e : d = seenI gs r ps
      · simp [e]
      · simp [e]
    · rintro env h ⟨a, b, c, rfl, G, e⟩
      have hzl : (List.zipWith (fun x y => T.tup [x, y]) (rs.map tI) (cs.map T.int)).length = (rs.zip cs).length := by simp
      rw [hzl, List.take_length] at e
      simp! only [seqOf_gro hD G]
      refine compL_inv _ (fun i acc h' => h' = h ∧ acc = ((ds.take i).map (sumZ gs ps (rs.zip cs))).map T.int) ⟨rfl, rfl⟩ (fun i acc h' q => by rw [q.1]; exact seqOf_gro hD G) (fun i acc h q => ?_) ?_ ?_
      · rw [q.2, sizeLine_eq]; simp; omega
      · rintro i x acc h' hx ⟨rfl, rfl⟩
        obtain ⟨d, hd, rfl⟩ := map_get hx
        simp! only [tI, dTOf_of e, keysOf_ints, valT_dict (List.mem_of_getElem? hd)]
        refine ⟨trivial, ?_⟩
        rw [take_snoc hd]
        simp
      · rintro acc h' ⟨rfl, rfl⟩
        rw [List.length_map, List.take_length]
        exact hk _ _ G.ap (by have := lt_of_get e; omega) (get_app_new _ _)
end LH
set_option Elab.async false
set_option linter.all false
set_option maxRecDepth 100000
namespace LH
open PySem L2 Pu ZP PL
noncomputable def W_law_counts (cp_law_take : CP) : WS :=
  wSeq (wAsg (wCall cp_law_take (wCons (wVar 0) (wCons (wC (.int 4)) (wNil)))) (gN 2))
  (wSeq (wAsg (wLst (wNil)) (gN 3))
  (wSeq (wFor (wRng1 (wCons (wVar 1) (wNil))) (gN 4) (wSeq (wAsg (wCall cp_law_take (wCons (wVar 0) (wCons (wOp pIx (wLst (wCons (wC (.int 4)) (wCons (wC (.int 2)) (wCons (wC (.int 9)) (wCons (wOp pPow (wC (.int 10)) (wC (.int 6))) (wNil)))))) (wVar 2)) (wNil)))) (gN 5))
  (wSeq (wIf (wTest (wOp pEq (wVar 2) (wC (.int 2)))) (wAsg (wOp pIx (wLst (wCons (wC (.int 0)) (wCons (wC (.int 0)) (wCons (wC (.int 0)) (wCons (wC (.int 0)) (wCons (wC (.int 0)) (wCons (wC (.int 1)) (wCons (wC (.int 1)) (wCons (wC (.int 2)) (wCons (wC (.int 7)) (wNil))))))))))) (wVar 5)) (gN 5)) (wNext))
  (wDrop (wBM isLst (pMt fAppend) (wVar 3) (wCons (wVar 5) (wNil)))))))
  (wSeq (wIf (wTest (wOp pEq (wCB pSum (wCons (wVar 3) (wNil))) (wC (.int 0)))) (wAsg (wC (.int 1)) (gSb (wVar 3) (wCall cp_law_take (wCons (wVar 0) (wCons (wVar 1) (wNil)))) pSet)) (wNext))
  (wRet (wVar 3)))))
noncomputable def W_law_tables (cp_law_rows : CP) (cp_law_sums : CP) : WS :=
  wSeq (wAsg (wCall cp_law_rows (wCons (wVar 0) (wNil))) (gN 3))
  (wSeq (wAsg (wTupRng (wCons (wCB pLen (wCons (wVar 0) (wNil))) (wNil))) (gN 4))
  (wSeq (wAsg (wLst (wNil)) (gN 5))
  (wSeq (wFor (wSeqI (wVar 1)) (gN 6) (wSeq (wAsg (wCall cp_law_rows (wCons (wComp (wSeqI (wVar 6)) 8 (wYes) (wOp pIx (wVar 0) (wVar 8))) (wNil))) (gN 7))
  (wDrop (wBM isLst (pMt fAppend) (wVar 5) (wCons (wTup (wCons (wVar 6) (wCons (wCall cp_law_sums (wCons (wVar 4) (wCons (wVar 3) (wCons (wVar 2) (wCons (wVar 6) (wCons (wVar 7) (wNil))))))) (wNil)))) (wNil))))))
  (wRet (wVar 5)))))
theorem foldl_sum : ∀ (ns : List Int) (a : Int), ns.foldl (· + ·) a = a + ns.sum
  | [], a => by simp
  | n :: ns, a => by
    rw [List.foldl_cons, foldl_sum ns, List.sum_cons]
    omega
theorem sumI_eq (ns : List Int) : sumI ns = ns.sum := by
  unfold sumI
  rw [foldl_sum]
  omega
theorem sum_nonneg : ∀ {cs : List Int}, (∀ c ∈ cs, 0 ≤ c) → 0 ≤ cs.sum
  | [], _ => by simp
  | c :: cs, h => by
    have h1 := h c List.mem_cons_self
    have h2 := sum_nonneg (cs := cs) fun x hx => h x (List.mem_cons_of_mem _ hx)
    rw [List.sum_cons]
    omega
theorem sum_le {b : Int} : ∀ {cs : List Int}, (∀ c ∈ cs, c ≤ b) → cs.sum ≤ b * cs.length
  | [], _ => by simp
  | c :: cs, h => by
    have h1 := h c List.mem_cons_self
    have h2 := sum_le (cs := cs) fun x hx => h x (List.mem_cons_of_mem _ hx)
    rw [List.sum_cons, List.length_cons]
    have : b * ((cs.length + 1 : Nat) : Int) = b * cs.length + b := by push_cast; rw [Int.mul_add, Int.mul_one]
    omega
theorem sum_set : ∀ (cs : List Int) (i : Nat) (v : Int) (h : i < cs.length), (cs.set i v).sum = cs.sum - cs[i] + v
  | [], _, _, h => by simp at h
  | c :: cs, 0, v, h => by simp; omega
  | c :: cs, i + 1, v, h => by
    have := sum_set cs i v (by simpa using h)
    simp [this]
    omega
noncomputable def cp_law_counts : CP := fun ts h k => ∃ n sc ns, ∃ m : Nat, ts = [.ref n, .int (m : Int)] ∧ StOk n sc ns h ∧ 1 ≤ m ∧ m ≤ 64 ∧
  ∀ (cs : List Int) h' q, cs.length = m → (∀ c ∈ cs, 0 ≤ c ∧ c < 1000000) → 1 ≤ cs.sum → StOk n sc ns h' → Ext n h h' → h.length ≤ q → h'[q]? = some (.lst (cs.map T.int)) → k (.ref q) h'
theorem len_law_counts : ∀ ts h k, cp_law_counts ts h k → ts.length = 2 := by
  rintro ts h k ⟨_, _, _, _, rfl, _⟩
  rfl
theorem vc_law_counts : ∀ ts h k, cp_law_counts ts h k → W_law_counts cp_law_take { nx := fun _ h' => k .non h', rt := k } (begin_ 6 ts) h := by
  rintro ts h0 k ⟨n, sc, ns, m, rfl, S, hm1, hm64, hk⟩
  have hl := S.lt
  unfold W_law_counts
  refine seq_cut fun U hU => ?_
  simp! only [begin_]
  refine ⟨n, sc, ns, 4, rfl, S, by decide, by decide, fun w h1 w0 w1 S1 X1 => ?_⟩
  subst hU
  refine seq_cut fun U hU => ?_
  simp! only [if_true]
  refine ⟨by decide, ?_⟩
  subst hU
  have hl1 := S1.lt
  have h01 : h0.length ≤ h1.length := X1.len hl1.1
  refine seq_cut fun U hU => ?_
  simp! only [if_true]
  refine ⟨by omega, by omega, ?_⟩
  rw [show ((m : Int)).toNat = m by omega]
  refine forL_inv _ (fun i env h => ∃ (cs : List Int) (a b : Option T), env = [some (.ref n), some (.int m), some (.int w), some (.ref h1.length), a, b] ∧ cs.length = i ∧ i ≤ m ∧ (∀ c ∈ cs, 0 ≤ c ∧ c < 1000000) ∧ StOk n sc ns h ∧ Ext n h0 h ∧ h[h1.length]? = some (.lst (cs.map T.int)))
    ⟨[], _, _, rfl, rfl, by omega, by simp, S1.gro (Gro.app _ _), X1.ap, get_app_new _ _⟩ (fun _ _ _ _ => trivial) ?_ ?_
  · rintro i x env h hx ⟨cs, a, b, rfl, hcl, him, hcs, S2, E2, hL⟩
    obtain ⟨hi, rfl⟩ := rng_get hx
    clear hU
    simp only [gN, List.set_cons_zero, List.set_cons_succ]
    refine seq_cut fun U hU => ?_
    simp! only [seqOf_of (get_app_new _ _)]
    refine ⟨⟨by decide, by decide, by decide⟩, by decide, ?_⟩
    obtain ⟨sz, hsz, s0, s1, hw2⟩ : ∃ sz : Int, atI [T.int 4, T.int 2, T.int 9, T.int (10 ^ Int.toNat 6)] w = some (.int sz) ∧ 0 < sz ∧ sz ≤ 1000000 ∧ (w = 2 → sz = 9) := by
      have : w = 0 ∨ w = 1 ∨ w = 2 ∨ w = 3 := by omega
      rcases this with rfl | rfl | rfl | rfl
      · exact ⟨4, rfl, by decide, by decide, by decide⟩
      · exact ⟨2, rfl, by decide, by decide, by decide⟩
      · exact ⟨9, rfl, by decide, by decide, by decide⟩
      · exact ⟨1000000, rfl, by decide, by decide, by decide⟩
    simp only [hsz]
    refine ⟨n, sc, ns, sz, rfl, S2.gro (Gro.app _ _), s0, by omega, fun c h3 c0 c1 S3 X3 => ?_⟩
    have hlt := lt_of_get hL
    have hL3 := X3 _ _ (by omega) (get_app_left hL)
    have E3 := (E2.ap).trans X3
    subst hU
    refine seq_cut fun U hU => ?_
    have step : ∀ (c : Int) h, 0 ≤ c → c < 1000000 → StOk n sc ns h → Ext n h0 h → h[h1.length]? = some (.lst (cs.map T.int)) → U [some (.ref n), some (.int m), some (.int w), some (.ref h1.length), some (.int i), some (.int c)] h := by
      clear c0 c1 S3 X3 hL3 E3
      clear c h3
      intro c h c0 c1 S3 E3 hL3
      subst hU
      simp! only [lstOf_of hL3, true_and]
      refine ⟨by rw [List.length_append, List.length_map, sizeLine_eq]; simp only [List.length_cons, List.length_nil]; omega, cs ++ [c], _, _, rfl, by simp [hcl], by omega, fun x hx => ?_, S3.setN (by omega) (by omega), E3.setN h01, ?_⟩
      · rcases List.mem_append.mp hx with h | h
        · exact hcs x h
        · rw [List.mem_singleton.mp h]; exact ⟨c0, c1⟩
      · rw [set_get hL3]; simp
    simp! only [if_true]
    by_cases hw : w = 2
    · subst hw
      simp! only [seqOf_of (get_app_new _ _)]
      refine ⟨by decide, ?_⟩
      have hc9 : c < 9 := by have := hw2 rfl; omega
      obtain ⟨d, hd, d0, d1⟩ : ∃ d : Int, atI [T.int 0, T.int 0, T.int 0, T.int 0, T.int 0, T.int 1, T.int 1, T.int 2, T.int 7] c = some (.int d) ∧ 0 ≤ d ∧ d < 1000000 := by
        have : c = 0 ∨ c = 1 ∨ c = 2 ∨ c = 3 ∨ c = 4 ∨ c = 5 ∨ c = 6 ∨ c = 7 ∨ c = 8 := by omega
        rcases this with rfl | rfl | rfl | rfl | rfl | rfl | rfl | rfl | rfl
        all_goals exact ⟨_, rfl, by decide, by decide⟩
      simp only [hd]
      exact step d _ d0 d1 (S3.gro (Gro.app _ _)) E3.ap (get_app_left hL3)
    · have hw' : (w == 2) = false := by simpa using hw
      simp! only [hw']
      exact step c _ c0 (by omega) S3 E3 hL3
  · rintro env h ⟨cs, a, b, rfl, hcl, him, hcs, S2, E2, hL⟩
    rw [rng_len] at hcl
    show U _ _
    subst hU
    refine seq_cut fun U hU => ?_
    simp! only [seqOf_of hL, intsOf_map, sumI_eq]
    have hs0 := sum_nonneg fun c hc => (hcs c hc).1
    by_cases hz : cs.sum = 0
    · have hz' : (cs.sum == 0) = true := by simpa using hz
      simp! only [hz']
      refine ⟨n, sc, ns, _, rfl, S2, by omega, by omega, fun t h3 t0 t1 S3 X3 => ?_⟩
      have hL3 := X3 _ _ (by omega) hL
      simp only [lstOf_of hL3, List.length_map, ixN_nn t0 (show t < (cs.length : Int) by omega)]
      subst hU
      simp! only [if_true]
      have hti : t.toNat < cs.length := by omega
      refine hk (cs.set t.toNat 1) _ h1.length (by simp [hcl]) (fun c hc => ?_) ?_ (S3.setN (by omega) (by omega)) ((E2.trans X3).setN h01) h01 ?_
      · rcases List.mem_or_eq_of_mem_set hc with h | h
        · exact hcs c h
        · rw [h]; decide
      · rw [sum_set _ _ _ hti]
        have h1 := (hcs _ (List.getElem_mem hti)).1
        have h2 : cs[t.toNat] ≤ 0 := by
          have := sum_set cs t.toNat 0 hti
          have h3 := sum_nonneg (cs := cs.set t.toNat 0) fun c hc => by
            rcases List.mem_or_eq_of_mem_set hc with h | h
            · exact (hcs c h).1
            · omega
          omega
        omega
      · rw [set_get hL3]
        simp [List.map_set]
    · have hz' : (cs.sum == 0) = false := by simpa using hz
      simp! only [hz']
      subst hU
      simp! only [if_true]
      exact hk cs h h1.length hcl hcs (by omega) S2 E2 h01 hL
theorem rowsK_mem : ∀ (ks : List Nat) (r : List Int), RowOk ks r → r ∈ rowsK ks := by
  refine snoc_ind ?_ ?_
  · rintro r ⟨h, _⟩
    have : r = [] := List.length_eq_zero_iff.mp h
    subst this
    simp [rowsK]
  · intro ks n ih r ⟨h1, h2⟩
    rw [rowsK_snoc]
    unfold rowsStep
    have hne : r ≠ [] := by rintro rfl; simp at h1
    obtain ⟨q, x, rfl⟩ : ∃ q x, r = q ++ [x] := ⟨r.dropLast, r.getLast hne, (List.dropLast_concat_getLast hne).symm⟩
    have hl : q.length = ks.length := by simpa using h1
    have hx := h2 ks.length n x (by simp) (by rw [List.getElem?_append_right (by omega), hl]; simp)
    refine List.mem_flatMap.mpr ⟨q, ih _ ⟨hl, fun i k y hk hy => ?_⟩, List.mem_map.mpr ⟨x.toNat, List.mem_range.mpr (by omega), ?_⟩⟩
    · have hi := (List.getElem?_eq_some_iff.mp hk).1
      refine h2 i k y (by rw [List.getElem?_append_left hi]; exact hk) ?_
      rw [List.getElem?_append_left (by omega)]
      exact hy
    · rw [show ((x.toNat : Nat) : Int) = x by omega]
theorem lex_irr : ∀ a : List Int, HT.lexLt a a = false
  | [] => rfl
  | x :: a => by rw [HT.lexLt_cons, if_pos rfl]; exact lex_irr a
theorem rowsK_nodup (ks : List Nat) : (rowsK ks).Nodup := (rowsK_lt ks).imp fun {a b} h e => by
  subst e
  rw [lex_irr] at h
  cases h
theorem row_seen {fr g : List Nat} {r : List Int} (hr : RowOk fr r) (hg : ∀ m ∈ g, m < fr.length) : RowOk (kindsOf fr g) (seenI (List.range fr.length) r g) := by
  refine ⟨by simp [seenI, kindsOf], fun i k x hk hx => ?_⟩
  unfold kindsOf at hk
  unfold seenI at hx
  rw [List.getElem?_map] at hk hx
  cases e : g[i]? with
  | none => rw [e] at hk; cases hk
  | some m =>
    rw [e] at hk hx
    have hm := hg m (List.mem_of_getElem? e)
    have hi : (List.range fr.length).idxOf m = m := by
      have := List.Nodup.idxOf_getElem (List.nodup_range (n := fr.length)) m (by simpa using hm)
      simpa using this
    simp only [Option.map_some, Option.some.injEq] at hk hx
    rw [hi] at hx
    have hml : m < r.length := by rw [hr.1]; exact hm
    refine hr.2 m k x ?_ ?_
    · rw [← hk, List.getD_eq_getElem?_getD, List.getElem?_eq_getElem hm]; rfl
    · rw [← hx, List.getD_eq_getElem?_getD, List.getElem?_eq_getElem hml]; rfl
noncomputable def tabOf (fr : List Nat) (cs : List Int) (g : List Nat) : List Int := (rowsK (kindsOf fr g)).map (sumZ (List.range fr.length) g ((rowsK fr).zip cs))
noncomputable def tT (x : List Nat × Nat) : T := .tup [tG x.1, .ref x.2]
noncomputable def cp_law_tables : CP := fun ts h k => ∃ fr G C gs cs, ts = [.tup (tN fr), .ref G, .ref C] ∧ h[G]? = some (.lst (gs.map tG)) ∧ h[C]? = some (.lst (cs.map T.int)) ∧ Fr fr ∧ (∀ g ∈ gs, Grp fr g) ∧ gs.length ≤ 100 ∧
  ∀ (tb : List (List Nat × Nat)) h' q, tb.map (·.1) = gs → (tb.map (·.2)).Nodup → (∀ x ∈ tb, h.length ≤ x.2 ∧ x.2 ≠ q ∧ h'[x.2]? = some (.lst ((tabOf fr cs x.1).map T.int))) → Gro h h' → h.length ≤ q → h'[q]? = some (.lst (tb.map tT)) → k (.ref q) h'
theorem len_law_tables : ∀ ts h k, cp_law_tables ts h k → ts.length = 3 := by
  rintro ts h k ⟨_, _, _, _, _, rfl, _⟩
  rfl
theorem vc_law_tables : ∀ ts h k, cp_law_tables ts h k → W_law_tables cp_law_rows cp_law_sums { nx := fun _ h' => k .non h', rt := k } (begin_ 9 ts) h := by
  rintro ts h0 k ⟨fr, G, C, gs, cs, rfl, hG, hC, hf, hgs, hgl, hk⟩
  obtain ⟨f1, f2, f3⟩ := id hf
  unfold W_law_tables
  refine seq_cut fun U hU => ?_
  simp! only [begin_]
  refine ⟨_, fr, rfl, rfl, ⟨f2, f3⟩, fun h1 R G1 hR e1 => ?_⟩
  subst hU
  refine seq_cut fun U hU => ?_
  simp! only [tN_len]
  refine ⟨by omega, by omega, ?_⟩
  rw [show ((fr.length : Int)).toNat = fr.length by omega, rng_tN]
  subst hU
  refine seq_cut fun U hU => ?_
  simp! only [if_true]
  refine ⟨by decide, ?_⟩
  subst hU
  refine seq_cut fun U hU => ?_
  have hG1 := G1 _ _ hG
  have hR1 := lt_of_get e1
  have g01 := G1.len
  simp! only [seqOf_of (get_app_left hG1)]
  refine forL_inv _ (fun i env h => ∃ (tb : List (List Nat × Nat)) (a b : Option T), env = [some (.tup (tN fr)), some (.ref G), some (.ref C), some (.ref R), some (.tup (tN (List.range fr.length))), some (.ref h1.length), a, b, none] ∧ tb.map (·.1) = gs.take i ∧ (tb.map (·.2)).Nodup ∧
      (∀ x ∈ tb, h1.length < x.2 ∧ h[x.2]? = some (.lst ((tabOf fr cs x.1).map T.int))) ∧ Gro h1 h ∧ h[h1.length]? = some (.lst (tb.map tT)))
    ⟨[], _, _, rfl, rfl, by simp, by simp, Gro.app _ _, get_app_new _ _⟩ (fun i env h q => by obtain ⟨_, _, _, _, _, _, _, G, _⟩ := q; exact seqOf_of (G _ _ hG1)) ?_ ?_
  · rintro i x env h hx ⟨tb, a, b, rfl, h2, hnd, htb, G2, hL⟩
    obtain ⟨g, hg, rfl⟩ := map_get hx
    have hgg := hgs g (List.mem_of_getElem? hg)
    have hgl6 := hgg.len hf
    clear hU
    have htl : tb.length ≤ i := by
      have := congrArg List.length h2
      simp at this
      omega
    have hil : i < gs.length := (List.getElem?_eq_some_iff.mp hg).1
    simp only [gN, tG, List.set_cons_zero, List.set_cons_succ]
    refine seq_cut fun U hU => ?_
    simp! only [if_true]
    refine comp_kinds hgl6 hgg.2.2 (fun x => rfl) (fun x => rfl) ?_ trivial
    refine ⟨_, kindsOf fr g, rfl, seqOf_of (get_app_new _ _), K23.of hf hgg.2.2 hgl6, fun h3 D G3 hD e3 => ?_⟩
    subst hU
    have G3' : Gro h h3 := (Gro.app _ _).trans G3
    have hLl := lt_of_get hL
    have hlh : h.length < (h ++ [Ob.lst (tN (kindsOf fr g))]).length := by simp
    simp! only [lstOf_of (G3' _ _ hL), true_and]
    have hvk := (K23.of hf hgg.2.2 hgl6).vol
    refine ⟨List.range fr.length, .ref R, .ref C, g, .ref D, rowsK fr, cs, rowsK (kindsOf fr g), rfl, seqOf_of (G3' _ _ (G2 _ _ e1)), seqOf_of (G3' _ _ (G2 _ _ (G1 _ _ hC))), seqOf_of e3, fun p hp => List.mem_range.mpr (hgg.2.2 p hp), fun r hr => by rw [(rowsK_ok fr r hr).1]; simp,
      fun r hr => rowsK_mem _ _ (row_seen (rowsK_ok fr r hr) hgg.2.2), rowsK_nodup _, by rw [rowsK_len]; omega, by omega, fun h4 Q G4 hQ e4 => ?_⟩
    have hl34 := G3'.len
    simp only [lstOf_of (G4 _ _ (G3' _ _ hL))]
    refine ⟨by decide, by rw [List.length_append, List.length_map, sizeLine_eq]; simp only [List.length_cons, List.length_nil]; omega, tb ++ [(g, Q)], _, _, rfl, ?_, ?_, fun x hx => ?_, ?_, ?_⟩
    · rw [List.map_append, h2, take_snoc hg]; rfl
    · rw [List.map_append]
      refine List.pairwise_append.mpr ⟨hnd, by simp, fun a ha b hb => ?_⟩
      obtain ⟨x, hx, rfl⟩ := List.mem_map.mp ha
      have hx2 := lt_of_get (htb x hx).2
      simp at hb
      subst hb
      omega
    · rcases List.mem_append.mp hx with hx | hx
      · refine ⟨(htb x hx).1, set_ne (G4 _ _ (G3' _ _ (htb x hx).2)) ?_⟩
        have := (htb x hx).1
        omega
      · rw [List.mem_singleton.mp hx]
        exact ⟨by show h1.length < Q; omega, set_ne e4 (by show h1.length ≠ Q; omega)⟩
    · exact ((G2.trans G3').trans G4).set (Nat.le_refl _)
    · rw [set_get (G4 _ _ (G3' _ _ hL))]
      simp [tT, tG]
  · rintro env h ⟨tb, a, b, rfl, h2, hnd, htb, G2, hL⟩
    rw [List.length_map, List.take_length] at h2
    show U _ _
    subst hU
    simp! only [if_true]
    exact hk tb h _ h2 hnd (fun x hx => ⟨by have := (htb x hx).1; omega, by have := (htb x hx).1; omega, (htb x hx).2⟩) (G1.trans G2) (by omega) hL
end LH
set_option Elab.async false
set_option linter.all false
set_option maxRecDepth 100000
namespace PF
open PySem L2 Pu ZP PL LH
noncomputable def W_is_whole : WS :=
  wRet (wAndV (wIsi "int" (wVar 0)) (wNotV (wIsi "bool" (wVar 0))))
noncomputable def W_is_group (cp_is_whole : CP) : WS :=
  wSeq (wIf (wOr (wNot (wTest (wIsi "tuple" (wVar 1)))) (wTest (wOp pEq (wCB pLen (wCons (wVar 1) (wNil))) (wC (.int 0))))) (wRet (wC (.bl false))) (wNext))
  (wSeq (wAsg (wUn pNeg (wC (.int 1))) (gN 2))
  (wSeq (wFor (wSeqI (wVar 1)) (gN 3) (wSeq (wIf (wOr (wNot (wTest (wCall cp_is_whole (wCons (wVar 3) (wNil))))) (wNot (wTest (wChain pLt pLt (wVar 2) (wVar 3) (wCB pLen (wCons (wVar 0) (wNil))))))) (wRet (wC (.bl false))) (wNext))
  (wAsg (wVar 3) (gN 2))))
  (wRet (wC (.bl true)))))
noncomputable def W_frame_of (cp_is_whole : CP) : WS :=
  wSeq (wIf (wNot (wTest (wIsi2 "list" "tuple" (wVar 0)))) (wNever) (wNext))
  (wSeq (wIf (wNot (wTest (wChain pLe pLe (wC (.int 1)) (wCB pLen (wCons (wVar 0) (wNil))) (wC (.int 6))))) (wNever) (wNext))
  (wSeq (wAsg (wC (.int 1)) (gN 1))
  (wSeq (wFor (wSeqI (wVar 0)) (gN 2) (wSeq (wIf (wOr (wNot (wTest (wCall cp_is_whole (wCons (wVar 2) (wNil))))) (wNot (wTest (wChain pLe pLe (wC (.int 2)) (wVar 2) (wC (.int 3)))))) (wNever) (wNext))
  (wAsg (wOp pMul (wVar 1) (wVar 2)) (gN 1))))
  (wSeq (wIf (wTest (wOp pGt (wVar 1) (wC (.int 64)))) (wNever) (wNext))
  (wRet (wCB pTuple (wCons (wVar 0) (wNil))))))))
noncomputable def W_group_rows (cp_is_group : CP) (cp_rows_of : CP) : WS :=
  wSeq (wIf (wOr (wTest (wOp pIs (wVar 1) (wC .non))) (wNot (wTest (wCall cp_is_group (wCons (wVar 0) (wCons (wOp pIx (wVar 1) (wC (.int 0))) (wNil))))))) (wRet (wC (.int 0))) (wNext))
  (wRet (wCB pLen (wCons (wCall cp_rows_of (wCons (wVar 0) (wCons (wOp pIx (wVar 1) (wC (.int 0))) (wNil)))) (wNil))))
noncomputable def W_check_size (cp_group_rows : CP) : WS :=
  wSeq (wIf (wTest (wOp pGt (wCB pLen (wCons (wVar 1) (wNil))) (wC (.int 8)))) (wNever) (wNext))
  (wIf (wTest (wOp pGt (wCB pSum (wCons (wComp (wSeqI (wVar 1)) 2 (wYes) (wCall cp_group_rows (wCons (wVar 0) (wCons (wVar 2) (wNil))))) (wNil))) (wC (.int 60)))) (wNever) (wNext))
noncomputable def W_is_table (cp_group_rows : CP) (cp_is_whole : CP) : WS :=
  wSeq (wAsg (wCall cp_group_rows (wCons (wVar 0) (wCons (wVar 1) (wNil)))) (gN 2))
  (wSeq (wIf (wOr (wTest (wOp pEq (wVar 2) (wC (.int 0)))) (wOr (wNot (wTest (wIsi "tuple" (wOp pIx (wVar 1) (wC (.int 1)))))) (wTest (wOp pNe (wCB pLen (wCons (wOp pIx (wVar 1) (wC (.int 1))) (wNil))) (wVar 2))))) (wRet (wC (.bl false))) (wNext))
  (wSeq (wFor (wSeqI (wOp pIx (wVar 1) (wC (.int 1)))) (gN 3) (wIf (wOr (wNot (wTest (wCall cp_is_whole (wCons (wVar 3) (wNil))))) (wTest (wOp pLt (wVar 3) (wC (.int 0))))) (wRet (wC (.bl false))) (wNext)))
  (wRet (wChain pLe pLe (wC (.int 1)) (wCB pSum (wCons (wOp pIx (wVar 1) (wC (.int 1))) (wNil))) (wC (.int 1000000000))))))
noncomputable def W_check_tables (cp_is_table : CP) : WS :=
  wFor (wEnum (wCons (wVar 1) (wNil))) (gTp 2 (gsCons (gN 2) (gsCons (gN 3) (gsNil)))) (wIf (wOr (wNot (wTest (wCall cp_is_table (wCons (wVar 0) (wCons (wVar 3) (wNil)))))) (wTest (wOp pNe (wCB pSum (wCons (wOp pIx (wVar 3) (wC (.int 1))) (wNil))) (wCB pSum (wCons (wOp pIx (wOp pIx (wVar 1) (wC (.int 0))) (wC (.int 1))) (wNil)))))) (wNever) (wNext))
noncomputable def W_check_marks : WS :=
  wFor (wRng1 (wCons (wCB pLen (wCons (wVar 0) (wNil))) (wNil))) (gN 2) (wIf (wNot (wTest (wCB pAny (wCons (wComp (wSeqI (wVar 1)) 3 (wYes) (wOp pIn (wVar 2) (wOp pIx (wVar 3) (wC (.int 0))))) (wNil))))) (wNever) (wNext))
noncomputable def W_as_tuple : WS :=
  wRet (wIfE (wTest (wIsi2 "list" "tuple" (wVar 0))) (wCB pTuple (wCons (wVar 0) (wNil))) (wVar 0))
noncomputable def W_draft_of (cp_as_tuple : CP) : WS :=
  wSeq (wIf (wOr (wNot (wTest (wIsi "tuple" (wVar 0)))) (wTest (wOp pNe (wCB pLen (wCons (wVar 0) (wNil))) (wC (.int 2))))) (wRet (wC .non)) (wNext))
  (wRet (wTup (wCons (wCall cp_as_tuple (wCons (wOp pIx (wVar 0) (wC (.int 0))) (wNil))) (wCons (wCall cp_as_tuple (wCons (wOp pIx (wVar 0) (wC (.int 1))) (wNil))) (wNil)))))
noncomputable def W_family_of (cp_frame_of : CP) (cp_draft_of : CP) (cp_check_size : CP) (cp_check_tables : CP) (cp_check_marks : CP) : WS :=
  wSeq (wAsg (wCall cp_frame_of (wCons (wVar 0) (wNil))) (gN 2))
  (wSeq (wAsg (wComp (wSeqI (wVar 1)) 4 (wYes) (wCall cp_draft_of (wCons (wVar 4) (wNil)))) (gN 3))
  (wSeq (wDrop (wCall cp_check_size (wCons (wVar 2) (wCons (wVar 3) (wNil)))))
  (wSeq (wDrop (wCall cp_check_tables (wCons (wVar 2) (wCons (wVar 3) (wNil)))))
  (wSeq (wDrop (wCall cp_check_marks (wCons (wVar 2) (wCons (wVar 3) (wNil)))))
  (wRet (wTup (wCons (wVar 2) (wCons (wCB pTuple (wCons (wVar 3) (wNil))) (wNil)))))))))
noncomputable def wholeT : T → Bool
  | .int _ => true
  | _ => false
noncomputable def cp_is_whole : CP := fun ts h k => ∃ x, ts = [x] ∧ (tyN x h).isSome = true ∧ k (.bl (wholeT x)) h
theorem len_is_whole : ∀ ts h k, cp_is_whole ts h k → ts.length = 1 := by
  rintro ts h k ⟨x, rfl, _⟩
  rfl
theorem ty_cases {x : T} {h : PH} (e : (tyN x h).isSome = true) : ∃ s, tyN x h = some s ∧ (isSub s "int" && !isSub s "bool") = wholeT x ∧ isSub s "bool" = (match x with | .bl _ => true | _ => false) ∧ isSub s "int" = (match x with | .int _ => true | .bl _ => true | _ => false) ∧ isSub s "tuple" = (match x with | .tup _ => true | _ => false) := by
  cases x with
  | ref n =>
    have e' : (match h[n]? with | some (.lst _) => some "list" | some (.dK _) => some "dict" | some (.dT _) => some "dict" | _ => none : Option String).isSome = true := e
    show ∃ s, (match h[n]? with | some (.lst _) => some "list" | some (.dK _) => some "dict" | some (.dT _) => some "dict" | _ => none : Option String) = some s ∧ _
    split at e' <;> first | exact ⟨_, rfl, rfl, rfl, rfl, rfl⟩ | cases e'
  | _ => exact ⟨_, rfl, rfl, rfl, rfl, rfl⟩
theorem vc_is_whole : ∀ ts h k, cp_is_whole ts h k → W_is_whole { nx := fun _ h' => k .non h', rt := k } (begin_ 1 ts) h := by
  rintro ts h k ⟨x, rfl, hx, hk⟩
  obtain ⟨s, hs, e, _⟩ := ty_cases hx
  simp only [W_is_whole, begin_, wRet, wAndV, wNotV, wIsi, wVar, List.map_cons, List.map_nil, List.length_cons, List.length_nil, List.cons_append, List.nil_append, List.replicate, List.getElem?_cons_zero, hs]
  rw [← e] at hk
  cases h1 : isSub s "int"
  · rw [h1] at hk; exact hk
  · rw [h1] at hk; exact hk
noncomputable def rising (last : Int) (n : Nat) : List T → Bool
  | [] => true
  | .int m :: r => decide (last < m) && decide (m < n) && rising m n r
  | _ :: _ => false
noncomputable def group (n : Nat) : T → Bool
  | .tup ms => !ms.isEmpty && rising (-1) n ms
  | _ => false
noncomputable def cp_is_group : CP := fun ts h k => ∃ fs x, ts = [.tup fs, x] ∧ (tyN x h).isSome = true ∧ (∀ ms, x = .tup ms → ∀ t ∈ ms, (tyN t h).isSome = true) ∧ k (.bl (group fs.length x)) h
theorem len_is_group : ∀ ts h k, cp_is_group ts h k → ts.length = 2 := by
  rintro ts h k ⟨x, y, rfl, _⟩
  rfl
theorem vc_is_group : ∀ ts h k, cp_is_group ts h k → W_is_group cp_is_whole { nx := fun _ h' => k .non h', rt := k } (begin_ 4 ts) h := by
  rintro ts h k ⟨fs, x, rfl, hx, hms, hk⟩
  obtain ⟨s, hs, _, _, _, e⟩ := ty_cases hx
  simp only [W_is_group, begin_, wSeq, wIf, wRet, wNext, wAsg, gN, wC, wUn, pNeg, wOr, wNot, wTest, wIsi, wOp, wCB, wCons, wNil, wVar, wFor, wSeqI, pLen, pEq, eqT_int, List.map_cons, List.map_nil, List.length_cons, List.length_nil, List.cons_append, List.nil_append, List.replicate, List.getElem?_cons_zero, List.getElem?_cons_succ, List.set_cons_zero, List.set_cons_succ, Nat.reduceSub, Nat.reduceAdd, hs, e]
  cases x with
  | tup ms =>
    simp only [Bool.not_true, Bool.false_eq_true, if_false, seqOf_tup]
    split
    · rename_i hz
      have : ms = [] := by
        have : (ms.length : Int) = 0 := by simpa using hz
        exact List.length_eq_zero_iff.mp (by omega)
      subst this
      exact hk
    · rename_i hz
      have hne : ms.isEmpty = false := by
        cases ms with
        | nil => exact absurd rfl hz
        | cons _ _ => rfl
      refine forL_inv ms (fun i env h' => h' = h ∧ ∃ last mk, env = [some (.tup fs), some (.tup ms), some (.int last), mk] ∧ rising (-1) fs.length ms = rising last fs.length (ms.drop i)) ⟨rfl, -1, none, rfl, by rw [List.drop_zero]⟩ (fun i env h' q => trivial) ?_ ?_
      · rintro i t env h' ht ⟨rfl, last, mk, rfl, hr⟩
        have hi := (List.getElem?_eq_some_iff.mp ht).1
        have hd : ms.drop i = t :: ms.drop (i + 1) := by
          rw [List.drop_eq_getElem_cons hi]
          have := (List.getElem?_eq_some_iff.mp ht).2
          rw [this]
        rw [hd] at hr
        have hty := hms ms rfl t (List.mem_of_getElem? ht)
        simp only [gN, List.set_cons_zero, List.set_cons_succ, wSeq, wIf, wOr, wNot, wTest, wCall, wCons, wNil, wVar, wChain, wCB, wRet, wC, wNext, wAsg, List.getElem?_cons_zero, List.getElem?_cons_succ]
        refine ⟨t, rfl, hty, ?_⟩
        cases t with
        | int mm =>
          simp only [wholeT, Bool.not_true, Bool.false_eq_true, if_false, pLt, pIb, pLen, seqOf_tup]
          by_cases h1 : last < mm
          · by_cases h2 : mm < fs.length
            · simp only [h1, h2, decide_true, Bool.not_true, Bool.false_eq_true, if_false]
              refine ⟨trivial, mm, _, rfl, ?_⟩
              rw [hr]
              simp [rising, h1, h2]
            · simp only [h1, h2, decide_true, decide_false, Bool.not_false, if_true]
              have : group fs.length (.tup ms) = false := by
                simp [group, hr, rising, h1, h2]
              rw [this] at hk
              exact hk
          · simp only [h1, decide_false, Bool.not_false, if_true]
            have : group fs.length (.tup ms) = false := by
              simp [group, hr, rising, h1]
            rw [this] at hk
            exact hk
        | _ =>
          simp only [wholeT, Bool.not_false, if_true]
          have : group fs.length (.tup ms) = false := by
            simp [group, hr, rising]
          rw [this] at hk
          exact hk
      · rintro env h' ⟨rfl, last, mk, rfl, hr⟩
        rw [List.drop_length] at hr
        have : group fs.length (.tup ms) = true := by simp [group, hr, rising, hne]
        rw [this] at hk
        exact hk
  | _ => simp only [Bool.not_false, if_true]; exact hk
noncomputable def SeqLT (x : T) (h : PH) (xs : List T) : Prop := x = .tup xs ∨ ∃ n, x = .ref n ∧ h[n]? = some (.lst xs)
theorem SeqLT.seq {x : T} {h : PH} {xs : List T} (s : SeqLT x h xs) : seqOf x h = some xs := by
  rcases s with rfl | ⟨n, rfl, e⟩
  · rfl
  · exact seqOf_of e
theorem SeqLT.ty {x : T} {h : PH} {xs : List T} (s : SeqLT x h xs) : ∃ t, tyN x h = some t ∧ (isSub t "list" || isSub t "tuple") = true := by
  rcases s with rfl | ⟨n, rfl, e⟩
  · exact ⟨"tuple", rfl, rfl⟩
  · exact ⟨"list", by simp [tyN, e], rfl⟩
noncomputable def cp_frame_of : CP := fun ts h k => ∃ x fr, ts = [x] ∧ SeqLT x h (tN fr) ∧ Fr fr ∧ vol fr ≤ 64 ∧ k (.tup (tN fr)) h
theorem len_frame_of : ∀ ts h k, cp_frame_of ts h k → ts.length = 1 := by
  rintro ts h k ⟨_, _, rfl, _⟩
  rfl
theorem vc_frame_of : ∀ ts h k, cp_frame_of ts h k → W_frame_of cp_is_whole { nx := fun _ h' => k .non h', rt := k } (begin_ 3 ts) h := by
  rintro ts h0 k ⟨x, fr, rfl, hx, ⟨f1, f2, f3⟩, hv, hk⟩
  obtain ⟨t, ht, hty⟩ := hx.ty
  have b1 : (1 : Int) ≤ fr.length := by omega
  have b2 : (fr.length : Int) ≤ 6 := by omega
  unfold W_frame_of
  simp! only [begin_, ht, hty, hx.seq, tN_len, b1, b2]
  refine forL_inv _ (fun i env h => h = h0 ∧ ∃ a, env = [some x, some (.int (vol (fr.take i) : Nat)), a]) ⟨rfl, _, rfl⟩ (fun i env h q => by rw [q.1]; exact hx.seq) ?_ ?_
  · rintro i y env h hy ⟨rfl, a, rfl⟩
    obtain ⟨z, hz, rfl⟩ := tN_get hy
    have hz23 := f3 z (List.mem_of_getElem? hz)
    have c1 : (2 : Int) ≤ z := by omega
    have c2 : (z : Int) ≤ 3 := by omega
    simp! only [if_true]
    refine ⟨_, rfl, rfl, ?_⟩
    simp! only [wholeT, c1, c2]
    have := (K23.take ⟨f2, f3⟩ i : K23 _).vol
    refine ⟨cmul_l (by omega) (by omega), trivial, some (.int z), ?_⟩
    rw [take_snoc hz, vol_snoc]
    simp
  · rintro env h ⟨rfl, a, rfl⟩
    rw [tN_len, List.take_length]
    have : ¬ ((vol fr : Nat) : Int) > 64 := by omega
    simp! only [this, hx.seq]
    exact hk
noncomputable def cp_as_tuple : CP := fun ts h k => ∃ x xs, ts = [x] ∧ SeqLT x h xs ∧ k (.tup xs) h
theorem len_as_tuple : ∀ ts h k, cp_as_tuple ts h k → ts.length = 1 := by
  rintro ts h k ⟨_, _, rfl, _⟩
  rfl
theorem vc_as_tuple : ∀ ts h k, cp_as_tuple ts h k → W_as_tuple { nx := fun _ h' => k .non h', rt := k } (begin_ 1 ts) h := by
  rintro ts h0 k ⟨x, xs, rfl, hx, hk⟩
  obtain ⟨t, ht, hty⟩ := hx.ty
  unfold W_as_tuple
  simp! only [begin_, ht, hty, hx.seq]
  exact hk
noncomputable def cp_draft_of : CP := fun ts h k => ∃ x y xs ys, ts = [.tup [x, y]] ∧ SeqLT x h xs ∧ SeqLT y h ys ∧ k (.tup [.tup xs, .tup ys]) h
theorem len_draft_of : ∀ ts h k, cp_draft_of ts h k → ts.length = 1 := by
  rintro ts h k ⟨_, _, _, _, rfl, _⟩
  rfl
theorem vc_draft_of : ∀ ts h k, cp_draft_of ts h k → W_draft_of cp_as_tuple { nx := fun _ h' => k .non h', rt := k } (begin_ 1 ts) h := by
  rintro ts h0 k ⟨x, y, xs, ys, rfl, hx, hy, hk⟩
  unfold W_draft_of
  simp! only [begin_, tyN, atI_0, atI_1]
  refine ⟨x, xs, rfl, hx, y, ys, rfl, hy, by decide, hk⟩
noncomputable abbrev Tab := List Nat × List Int
noncomputable def tTab (x : Tab) : T := .tup [tG x.1, tI x.2]
structure TabOk (fr : List Nat) (w : Int) (x : Tab) : Prop where
  grp : Grp fr x.1
  len : x.2.length = volG fr x.1
  nn : ∀ c ∈ x.2, 0 ≤ c
  sum : x.2.sum = w
structure FamOk (fr : List Nat) (tb : List Tab) (w : Int) : Prop where
  hfr : Fr fr
  hvol : vol fr ≤ 64
  pos : 1 ≤ tb.length
  most : tb.length ≤ 8
  tab : ∀ x ∈ tb, TabOk fr w x
  all : ∀ m, m < fr.length → ∃ x ∈ tb, m ∈ x.1
  rows : (tb.map fun x => volG fr x.1).sum ≤ 60
  w1 : 1 ≤ w
  w9 : w ≤ 1000000000
theorem rising_tN (n : Nat) : ∀ (g : List Nat) (last : Int), (∀ m ∈ g, last < (m : Int)) → g.Pairwise (· < ·) → (∀ m ∈ g, m < n) → rising last n (tN g) = true
  | [], _, _, _, _ => rfl
  | a :: g, last, h1, h2, h3 => by
    show (decide (last < (a : Int)) && decide ((a : Int) < n) && rising (a : Int) n (tN g)) = true
    rw [List.pairwise_cons] at h2
    have q1 := h1 a List.mem_cons_self
    have q2 := h3 a List.mem_cons_self
    have q3 := rising_tN n g (a : Int) (fun m hm => by have := h2.1 m hm; omega) h2.2 fun m hm => h3 m (List.mem_cons_of_mem _ hm)
    rw [q3]
    simp [q1, q2]
theorem group_tN {fr g : List Nat} (h : Grp fr g) : group fr.length (.tup (tN g)) = true := by
  obtain ⟨h1, h2, h3⟩ := h
  have := rising_tN fr.length g (-1) (fun m _ => by omega) h2 h3
  show (!(tN g).isEmpty && rising (-1) fr.length (tN g)) = true
  rw [this]
  cases g with
  | nil => exact absurd rfl h1
  | cons _ _ => rfl
theorem ty_tN {h : PH} {g : List Nat} : ∀ t ∈ tN g, (tyN t h).isSome = true := by
  intro t ht
  obtain ⟨m, _, rfl⟩ := List.mem_map.mp ht
  rfl
noncomputable def cp_group_rows : CP := fun ts h k => ∃ fr x, ts = [.tup (tN fr), tTab x] ∧ Fr fr ∧ Grp fr x.1 ∧ ∀ h', Gro h h' → k (.int (volG fr x.1 : Nat)) h'
theorem len_group_rows : ∀ ts h k, cp_group_rows ts h k → ts.length = 2 := by
  rintro ts h k ⟨_, _, rfl, _⟩
  rfl
theorem vc_group_rows : ∀ ts h k, cp_group_rows ts h k → W_group_rows cp_is_group cp_rows_of { nx := fun _ h' => k .non h', rt := k } (begin_ 2 ts) h := by
  rintro ts h0 k ⟨fr, x, rfl, hf, hg, hk⟩
  unfold W_group_rows
  simp! only [begin_, tTab, atI_0]
  refine ⟨tN fr, tG x.1, rfl, rfl, fun ms e => ?_, ?_⟩
  · cases e; exact ty_tN
  have e1 : group (tN fr).length (tG x.1) = true := by rw [tN_len]; exact group_tN hg
  simp! only [e1, atI_0]
  refine rows_t ⟨fr, x.1, rfl, fun y hy => (hf.2.2 y hy).2, hg.len hf, hg.2.2, fun h' n G hn e => ?_⟩
  simp only [seqOf_of e, List.length_map, rowsK_len]
  exact hk h' G
noncomputable def cp_check_size : CP := fun ts h k => ∃ fr tb w, ∃ D : Nat, ts = [.tup (tN fr), .ref D] ∧ FamOk fr tb w ∧ h[D]? = some (.lst (tb.map tTab)) ∧ ∀ h', Gro h h' → k .non h'
theorem len_check_size : ∀ ts h k, cp_check_size ts h k → ts.length = 2 := by
  rintro ts h k ⟨_, _, _, _, rfl, _⟩
  rfl
theorem sum_cast : ∀ l : List Nat, ((l.map fun (n : Nat) => (n : Int)).sum) = ((l.sum : Nat) : Int)
  | [] => rfl
  | a :: l => by rw [List.map_cons, List.sum_cons, List.sum_cons, sum_cast l]; push_cast; rfl
theorem intsOf_tN (l : List Nat) : intsOf (tN l) = some (l.map fun (n : Nat) => (n : Int)) := by
  have : tN l = (l.map fun (n : Nat) => (n : Int)).map T.int := by simp [tN]
  rw [this]
  exact intsOf_map _
theorem vc_check_size : ∀ ts h k, cp_check_size ts h k → W_check_size cp_group_rows { nx := fun _ h' => k .non h', rt := k } (begin_ 3 ts) h := by
  rintro ts h0 k ⟨fr, tb, w, D, rfl, F, hD, hk⟩
  have hm := F.most
  have b1 : ¬ (tb.length : Int) > 8 := by omega
  unfold W_check_size
  simp! only [begin_, seqOf_of hD, List.length_map, b1]
  refine compL_inv _ (fun i acc h => Gro h0 h ∧ acc = tN ((tb.take i).map fun x => volG fr x.1)) ⟨Gro.refl _, rfl⟩ (fun i acc h q => seqOf_of (q.1 _ _ hD)) (fun i acc h q => ?_) ?_ ?_
  · rw [q.2, tN_len, sizeLine_eq]; simp; omega
  · rintro i y acc h hy ⟨G, rfl⟩
    obtain ⟨x, hx, rfl⟩ := map_get hy
    simp! only [if_true]
    refine ⟨fr, x, rfl, F.hfr, (F.tab x (List.mem_of_getElem? hx)).grp, fun h' G' => ⟨G.trans G', ?_⟩⟩
    rw [take_snoc hx, List.map_append, ← tN_snoc]
    rfl
  · rintro acc h ⟨G, rfl⟩
    rw [List.length_map, List.take_length]
    have hr := F.rows
    have b2 : ¬ (((tb.map fun x => volG fr x.1).sum : Nat) : Int) > 60 := by omega
    simp! only [seqOf_of (get_app_new _ _), intsOf_tN, sumI_eq, sum_cast, b2]
    exact hk _ G.ap
noncomputable def cp_is_table : CP := fun ts h k => ∃ fr x w, ts = [.tup (tN fr), tTab x] ∧ Fr fr ∧ TabOk fr w x ∧ 1 ≤ w ∧ w ≤ 1000000000 ∧ ∀ h', Gro h h' → k (.bl true) h'
theorem len_is_table : ∀ ts h k, cp_is_table ts h k → ts.length = 2 := by
  rintro ts h k ⟨_, _, _, rfl, _⟩
  rfl
theorem vc_is_table : ∀ ts h k, cp_is_table ts h k → W_is_table cp_group_rows cp_is_whole { nx := fun _ h' => k .non h', rt := k } (begin_ 4 ts) h := by
  rintro ts h0 k ⟨fr, x, w, rfl, hf, ht, w1, w9, hk⟩
  have hgl := ht.grp.len hf
  have hvp := vol_pos (K23.of hf ht.grp.2.2 hgl).2
  unfold W_is_table
  refine seq_cut fun U hU => ?_
  simp! only [begin_]
  refine ⟨fr, x, rfl, hf, ht.grp, fun h1 G1 => ?_⟩
  subst hU
  have e0 : (((volG fr x.1 : Nat) : Int) == 0) = false := by
    have : 1 ≤ volG fr x.1 := hvp
    simp; omega
  refine seq_cut fun U hU => ?_
  simp! only [tTab, atI_1, e0, tI, tyN, List.length_map, ht.len]
  subst hU
  refine seq_cut fun U hU => ?_
  simp! only [atI_1]
  refine forL_inv _ (fun i env h => h = h1 ∧ ∃ a, env = [some (.tup (tN fr)), some (.tup [tG x.1, .tup (x.2.map T.int)]), some (.int (volG fr x.1 : Nat)), a]) ⟨rfl, _, rfl⟩ (fun _ _ _ _ => trivial) ?_ ?_
  · rintro i y env h hy ⟨rfl, a, rfl⟩
    obtain ⟨c, hc, rfl⟩ := map_get hy
    have hc0 := ht.nn c (List.mem_of_getElem? hc)
    have b : ¬ c < 0 := by omega
    simp! only [if_true]
    refine ⟨_, rfl, rfl, ?_⟩
    simp! only [wholeT, b]
    exact ⟨trivial, _, rfl⟩
  · rintro env h ⟨rfl, a, rfl⟩
    show U _ _
    subst hU
    simp! only [atI_1, intsOf_map, sumI_eq, ht.sum, w1, w9]
    exact hk _ G1
noncomputable def cp_check_tables : CP := fun ts h k => ∃ fr tb w, ∃ D : Nat, ts = [.tup (tN fr), .ref D] ∧ FamOk fr tb w ∧ h[D]? = some (.lst (tb.map tTab)) ∧ ∀ h', Gro h h' → k .non h'
theorem len_check_tables : ∀ ts h k, cp_check_tables ts h k → ts.length = 2 := by
  rintro ts h k ⟨_, _, _, _, rfl, _⟩
  rfl
theorem enum_get : ∀ {xs : List T} {j i : Nat} {x : T}, (enumL j xs)[i]? = some x → ∃ y, xs[i]? = some y ∧ x = .tup [.int ((j + i : Nat) : Int), y]
  | [], j, i, x, h => by simp [enumL] at h
  | a :: xs, j, 0, x, h => by
    simp only [enumL, List.getElem?_cons_zero] at h
    cases h
    exact ⟨a, rfl, by simp⟩
  | a :: xs, j, i + 1, x, h => by
    simp only [enumL, List.getElem?_cons_succ] at h
    obtain ⟨y, h1, h2⟩ := enum_get h
    exact ⟨y, by simpa using h1, by rw [h2, show j + 1 + i = j + (i + 1) by omega]⟩
theorem vc_check_tables : ∀ ts h k, cp_check_tables ts h k → W_check_tables cp_is_table { nx := fun _ h' => k .non h', rt := k } (begin_ 4 ts) h := by
  rintro ts h0 k ⟨fr, tb, w, D, rfl, F, hD, hk⟩
  have hp := F.pos
  have h0t : tb[0]? = some (tb[0]'(by omega)) := List.getElem?_eq_getElem _
  generalize tb[0]'(by omega) = t0 at h0t
  have hT0 := F.tab t0 (List.mem_of_getElem? h0t)
  have a0 : atI (tb.map tTab) 0 = some (tTab t0) := by
    rw [atI_nn (by decide) (by rw [List.length_map]; omega)]
    simp [h0t]
  unfold W_check_tables
  simp! only [begin_, seqOf_of hD]
  refine forL_inv _ (fun i env h => Gro h0 h ∧ ∃ a b, env = [some (.tup (tN fr)), some (.ref D), a, b]) ⟨Gro.refl _, _, _, rfl⟩ (fun i env h q => seqOf_of (q.1 _ _ hD)) ?_ ?_
  · rintro i y env h hy ⟨G, a, b, rfl⟩
    obtain ⟨z, hz, rfl⟩ := enum_get hy
    obtain ⟨x, hx, rfl⟩ := map_get hz
    have hT := F.tab x (List.mem_of_getElem? hx)
    simp! only [true_and]
    refine ⟨fr, x, w, rfl, F.hfr, hT, F.w1, F.w9, fun h' G' => ?_⟩
    have hD' := (G.trans G') _ _ hD
    simp! only [tTab, atI_1, tI, intsOf_map, sumI_eq, hT.sum, seqOf_of hD', a0, hT0.sum]
    exact ⟨G.trans G', _, _, rfl⟩
  · rintro env h ⟨G, a, b, rfl⟩
    exact hk h G
noncomputable def cp_check_marks : CP := fun ts h k => ∃ fr tb w, ∃ D : Nat, ts = [.tup (tN fr), .ref D] ∧ FamOk fr tb w ∧ h[D]? = some (.lst (tb.map tTab)) ∧ ∀ h', Gro h h' → k .non h'
theorem len_check_marks : ∀ ts h k, cp_check_marks ts h k → ts.length = 2 := by
  rintro ts h k ⟨_, _, _, _, rfl, _⟩
  rfl
theorem blsOf_map : ∀ bs : List Bool, blsOf (bs.map T.bl) = some bs
  | [] => rfl
  | b :: bs => by
    show (blsOf (bs.map T.bl)).map (b :: ·) = _
    rw [blsOf_map bs]; rfl
theorem vc_check_marks : ∀ ts h k, cp_check_marks ts h k → W_check_marks { nx := fun _ h' => k .non h', rt := k } (begin_ 4 ts) h := by
  rintro ts h0 k ⟨fr, tb, w, D, rfl, F, hD, hk⟩
  have hm := F.most
  have hf := F.hfr.2.1
  unfold W_check_marks
  simp! only [begin_, tN_len]
  refine ⟨by omega, by omega, ?_⟩
  rw [show ((fr.length : Int)).toNat = fr.length by omega]
  refine forL_inv _ (fun i env h => Gro h0 h ∧ ∃ a, env = [some (.tup (tN fr)), some (.ref D), a, none]) ⟨Gro.refl _, _, rfl⟩ (fun _ _ _ _ => trivial) ?_ ?_
  · rintro i y env h hy ⟨G, a, rfl⟩
    obtain ⟨hi, rfl⟩ := rng_get hy
    have hD' := G _ _ hD
    simp! only [seqOf_of hD']
    refine compL_inv _ (fun j acc h' => h' = h ∧ acc = ((tb.take j).map fun x => decide (i ∈ x.1)).map T.bl) ⟨rfl, rfl⟩ (fun j acc h' q => by rw [q.1]; exact seqOf_of hD') (fun j acc h q => ?_) ?_ ?_
    · rw [q.2, sizeLine_eq]; simp; omega
    · rintro j y acc h' hy ⟨rfl, rfl⟩
      obtain ⟨x, hx, rfl⟩ := map_get hy
      simp! only [tTab, atI_0, tG, pIn, pInB, flatT, flat_tN, in_tN]
      refine ⟨trivial, trivial, trivial, ?_⟩
      rw [take_snoc hx]
      simp
    · rintro acc h' ⟨rfl, rfl⟩
      rw [List.length_map, List.take_length]
      have hany : ((tb.map fun x => decide (i ∈ x.1)).any id) = true := by
        obtain ⟨x, hx, hix⟩ := F.all i hi
        rw [List.any_map, List.any_eq_true]
        exact ⟨x, hx, by simpa using hix⟩
      simp! only [seqOf_of (get_app_new _ _), blsOf_map, hany]
      exact ⟨G.ap, _, rfl⟩
  · rintro env h ⟨G, a, rfl⟩
    exact hk h G
noncomputable def famT (fr : List Nat) (tb : List Tab) : T := .tup [.tup (tN fr), .tup (tb.map tTab)]
noncomputable def Item (h : PH) (t : T) (x : Tab) : Prop := ∃ a b, t = .tup [a, b] ∧ SeqLT a h (tN x.1) ∧ SeqLT b h (x.2.map T.int)
noncomputable def cp_family_of : CP := fun ts h k => ∃ f fr tb w its, ∃ H : Nat, ts = [f, .ref H] ∧ SeqLT f h (tN fr) ∧ FamOk fr tb w ∧ h[H]? = some (.lst its) ∧ its.length = tb.length ∧ (∀ (i : Nat) t x, its[i]? = some t → tb[i]? = some x → Item h t x) ∧
  ∀ h', Gro h h' → k (famT fr tb) h'
theorem len_family_of : ∀ ts h k, cp_family_of ts h k → ts.length = 2 := by
  rintro ts h k ⟨_, _, _, _, _, _, rfl, _⟩
  rfl
theorem vc_family_of : ∀ ts h k, cp_family_of ts h k → W_family_of cp_frame_of cp_draft_of cp_check_size cp_check_tables cp_check_marks { nx := fun _ h' => k .non h', rt := k } (begin_ 5 ts) h := by
  rintro ts h0 k ⟨f, fr, tb, w, its, H, rfl, hf, F, hH, hl, hit, hk⟩
  have hm := F.most
  unfold W_family_of
  refine seq_cut fun U hU => ?_
  simp! only [begin_]
  refine ⟨f, fr, rfl, hf, F.hfr, F.hvol, ?_⟩
  subst hU
  refine seq_cut fun U hU => ?_
  simp! only [seqOf_of hH]
  refine compL_inv _ (fun i acc h => h = h0 ∧ acc = (tb.take i).map tTab) ⟨rfl, rfl⟩ (fun i acc h q => by rw [q.1]; exact seqOf_of hH) (fun i acc h q => ?_) ?_ ?_
  · rw [q.2, sizeLine_eq]; simp; omega
  · rintro i t acc h ht ⟨rfl, rfl⟩
    have hi := (List.getElem?_eq_some_iff.mp ht).1
    have hx : tb[i]? = some (tb[i]'(by omega)) := List.getElem?_eq_getElem _
    generalize tb[i]'(by omega) = x at hx
    obtain ⟨a, b, rfl, s1, s2⟩ := hit i t x ht hx
    simp! only [if_true]
    refine ⟨a, b, _, _, rfl, s1, s2, rfl, ?_⟩
    rw [take_snoc hx]
    simp [tTab, tG, tI]
  · rintro acc h ⟨rfl, rfl⟩
    rw [hl, List.take_length]
    subst hU
    have e := get_app_new h (.lst (tb.map tTab))
    have G := Gro.app h [Ob.lst (tb.map tTab)]
    generalize h ++ [Ob.lst (tb.map tTab)] = h1 at e G
    generalize h.length = D at e
    refine seq_cut fun U hU => ?_
    simp! only [if_true]
    refine ⟨fr, tb, w, D, rfl, F, e, fun h2 G2 => ?_⟩
    subst hU
    refine seq_cut fun U hU => ?_
    simp! only [if_true]
    refine ⟨fr, tb, w, D, rfl, F, G2 _ _ e, fun h3 G3 => ?_⟩
    subst hU
    refine seq_cut fun U hU => ?_
    simp! only [if_true]
    refine ⟨fr, tb, w, D, rfl, F, G3 _ _ (G2 _ _ e), fun h4 G4 => ?_⟩
    subst hU
    simp! only [seqOf_of (G4 _ _ (G3 _ _ (G2 _ _ e)))]
    exact ⟨by decide, hk _ (((G.trans G2).trans G3).trans G4)⟩
end PF
set_option Elab.async false
set_option linter.all false
set_option maxRecDepth 100000
namespace LH
open PySem L2 Pu ZP PL PF
theorem sumZ_nil (gs ps : List Nat) (d : List Int) : sumZ gs ps [] d = 0 := rfl
theorem sumZ_cons (gs ps : List Nat) (x : List Int × Int) (rc : List (List Int × Int)) (d : List Int) : sumZ gs ps (x :: rc) d = (if seenI gs x.1 ps = d then x.2 else 0) + sumZ gs ps rc d := by
  unfold sumZ
  rw [List.filter_cons]
  by_cases e : seenI gs x.1 ps = d
  · simp [e]
  · simp [e]
theorem sumZ_nonneg (gs ps : List Nat) (d : List Int) : ∀ rc : List (List Int × Int), (∀ x ∈ rc, 0 ≤ x.2) → 0 ≤ sumZ gs ps rc d
  | [], _ => by rw [sumZ_nil]; omega
  | x :: rc, h => by
    have h1 := h x List.mem_cons_self
    have h2 := sumZ_nonneg gs ps d rc fun y hy => h y (List.mem_cons_of_mem _ hy)
    rw [sumZ_cons]
    split <;> omega
theorem sum_one {s : List Int} {c : Int} {f : List Int → Int} : ∀ {ds : List (List Int)}, ds.Nodup → s ∈ ds → (ds.map fun d => (if s = d then c else 0) + f d).sum = c + (ds.map f).sum
  | [], _, h => by simp at h
  | d :: ds, hnd, h => by
    have hnd' := List.nodup_cons.mp hnd
    rw [List.map_cons, List.map_cons, List.sum_cons, List.sum_cons]
    by_cases e : s = d
    · subst e
      have hz : ∀ (l : List (List Int)), s ∉ l → (l.map fun d => (if s = d then c else 0) + f d).sum = (l.map f).sum := fun l hl => by
        congr 1
        refine List.map_congr_left fun a ha => ?_
        have : ¬ s = a := fun z => hl (z ▸ ha)
        simp [this]
      rw [hz ds hnd'.1]
      simp
      omega
    · rw [sum_one hnd'.2 (by rcases List.mem_cons.mp h with h | h; exact absurd h e; exact h)]
      simp [e]
      omega
theorem sum_total {gs ps : List Nat} {ds : List (List Int)} (hnd : ds.Nodup) : ∀ rc : List (List Int × Int), (∀ x ∈ rc, seenI gs x.1 ps ∈ ds) → (ds.map (sumZ gs ps rc)).sum = (rc.map (·.2)).sum
  | [], _ => by
    have : ds.map (sumZ gs ps []) = ds.map fun _ => 0 := List.map_congr_left fun d _ => sumZ_nil gs ps d
    rw [this]
    clear this hnd
    induction ds with
    | nil => rfl
    | cons _ _ ih => rw [List.map_cons, List.sum_cons, ih (fun x hx => by simp at hx)]; rfl
  | x :: rc, h => by
    have e : ds.map (sumZ gs ps (x :: rc)) = ds.map fun d => (if seenI gs x.1 ps = d then x.2 else 0) + sumZ gs ps rc d := List.map_congr_left fun d _ => sumZ_cons gs ps x rc d
    rw [e, sum_one hnd (h x List.mem_cons_self), sum_total hnd rc fun y hy => h y (List.mem_cons_of_mem _ hy), List.map_cons, List.sum_cons]
theorem tabOf_ok {fr : List Nat} {cs : List Int} {g : List Nat} (hf : Fr fr) (hl : cs.length = vol fr) (hc : ∀ c ∈ cs, 0 ≤ c) (hg : Grp fr g) : TabOk fr cs.sum (g, tabOf fr cs g) := by
  have hin : ∀ x ∈ (rowsK fr).zip cs, seenI (List.range fr.length) x.1 g ∈ rowsK (kindsOf fr g) := fun x hx => rowsK_mem _ _ (row_seen (rowsK_ok fr x.1 (List.of_mem_zip hx).1) hg.2.2)
  refine ⟨hg, ?_, ?_, ?_⟩
  · show (tabOf fr cs g).length = vol (kindsOf fr g)
    rw [tabOf, List.length_map, rowsK_len]
  · intro c hc'
    obtain ⟨d, _, rfl⟩ := List.mem_map.mp hc'
    exact sumZ_nonneg _ _ _ _ fun x hx => hc x.2 (List.of_mem_zip hx).2
  · show (tabOf fr cs g).sum = cs.sum
    rw [tabOf, sum_total (rowsK_nodup _) _ hin, List.map_snd_zip]
    rw [rowsK_len]
    omega
structure TabsAt (h : PH) (q : Nat) (qs : List Nat) (tb : List Tab) : Prop where
  lst : h[q]? = some (.lst (List.zipWith (fun (x : Tab) n => T.tup [tG x.1, .ref n]) tb qs))
  len : qs.length = tb.length
  nd : qs.Nodup
  ne : q ∉ qs
  at_ : ∀ (i : Nat) (x : Tab) n, tb[i]? = some x → qs[i]? = some n → h[n]? = some (.lst (x.2.map T.int))
theorem TabsAt.ext {h h' : PH} {q m : Nat} {qs : List Nat} {tb : List Tab} (t : TabsAt h q qs tb) (x : Ext m h h') (hq : q ≠ m) (hqs : m ∉ qs) : TabsAt h' q qs tb :=
  ⟨x _ _ hq t.lst, t.len, t.nd, t.ne, fun i y n h1 h2 => x _ _ (fun e => hqs (e ▸ List.mem_of_getElem? h2)) (t.at_ i y n h1 h2)⟩
theorem TabsAt.gro {h h' : PH} {q : Nat} {qs : List Nat} {tb : List Tab} (t : TabsAt h q qs tb) (x : Gro h h') : TabsAt h' q qs tb :=
  ⟨x _ _ t.lst, t.len, t.nd, t.ne, fun i y n h1 h2 => x _ _ (t.at_ i y n h1 h2)⟩
theorem TabsAt.its {h : PH} {q : Nat} {qs : List Nat} {tb : List Tab} (t : TabsAt h q qs tb) : (List.zipWith (fun (x : Tab) n => T.tup [tG x.1, .ref n]) tb qs).length = tb.length := by
  have := t.len
  simp
  omega
theorem TabsAt.item {h : PH} {q : Nat} {qs : List Nat} {tb : List Tab} (t : TabsAt h q qs tb) : ∀ (i : Nat) (y : T) (x : Tab), (List.zipWith (fun (x : Tab) n => T.tup [tG x.1, .ref n]) tb qs)[i]? = some y → tb[i]? = some x → Item h y x := by
  intro i y x hy hx
  rw [List.getElem?_zipWith, hx] at hy
  cases e : qs[i]? with
  | none => rw [e] at hy; cases hy
  | some n =>
    rw [e] at hy
    cases hy
    exact ⟨_, _, rfl, .inl rfl, .inr ⟨n, rfl, t.at_ i x n hx e⟩⟩
theorem TabsAt.lt {h : PH} {q : Nat} {qs : List Nat} {tb : List Tab} (t : TabsAt h q qs tb) : q < h.length ∧ ∀ n ∈ qs, n < h.length := by
  refine ⟨lt_of_get t.lst, fun n hn => ?_⟩
  obtain ⟨i, hi, rfl⟩ := List.getElem_of_mem hn
  have hl := t.len
  exact lt_of_get (t.at_ i _ _ (List.getElem?_eq_getElem (show i < tb.length by omega)) (List.getElem?_eq_getElem hi))
structure Start (ns : List Int) (fr : List Nat) (gs : List (List Nat)) (cs : List Int) (G q : Nat) (qs : List Nat) (h : PH) : Prop where
  st : StOk 1 0 ns h
  hf : Fr fr
  hv : vol fr ≤ 64
  gok : GroupsOk fr gs
  cl : cs.length = vol fr
  cb : ∀ c ∈ cs, 0 ≤ c ∧ c < 1000000
  c1 : 1 ≤ cs.sum
  hG : h[G]? = some (.lst (gs.map tG))
  G2 : 2 ≤ G
  Gq : G < q
  Gqs : ∀ n ∈ qs, G < n
  tabs : TabsAt h q qs (gs.map fun g => (g, tabOf fr cs g))
theorem Start.fam {ns : List Int} {fr : List Nat} {gs : List (List Nat)} {cs : List Int} {G q : Nat} {qs : List Nat} {h : PH} (s : Start ns fr gs cs G q qs h) : FamOk fr (gs.map fun g => (g, tabOf fr cs g)) cs.sum := by
  have hg := s.gok
  refine ⟨s.hf, s.hv, by have := hg.pos; simp; omega, by have := hg.most; simp; omega, fun x hx => ?_, fun m hm => ?_, ?_, s.c1, ?_⟩
  · obtain ⟨g, hg', rfl⟩ := List.mem_map.mp hx
    exact tabOf_ok s.hf s.cl (fun c hc => (s.cb c hc).1) (hg.grp g hg')
  · obtain ⟨g, hg', hm'⟩ := hg.all m hm
    exact ⟨_, List.mem_map.mpr ⟨g, hg', rfl⟩, hm'⟩
  · rw [List.map_map]
    exact hg.rows
  · have := sum_le (b := 1000000) fun c hc => Int.le_of_lt (s.cb c hc).2
    have h1 := s.cl
    have h2 := s.hv
    omega
theorem start_ok {u : WS} {D : Eds} {rest : En} {ns : List Int} (hK : ∀ fr gs cs G q qs h, Start ns fr gs cs G q qs h → u D (some (.ref 0) :: some (.ref 1) :: some (.tup (tN fr)) :: some (.ref G) :: some (.ref q) :: rest) h) :
    wSeq (wAsg (wLst (wCons (wVar 0) (wCons (wC (.int 0)) (wCons (wC (.int 0)) (wNil))))) (gN 1))
    (wSeq (wAsg (wCall cp_law_frame (wCons (wVar 1) (wCons (wC (.int 64)) (wNil)))) (gN 2))
    (wSeq (wAsg (wCall cp_law_groups (wCons (wVar 1) (wCons (wVar 2) (wCons (wOp pIx (wLst (wCons (wC (.int 24)) (wCons (wC (.int 40)) (wNil)))) (wCall cp_law_take (wCons (wVar 1) (wCons (wC (.int 2)) (wNil))))) (wNil))))) (gN 3))
    (wSeq (wAsg (wCall cp_law_tables (wCons (wVar 2) (wCons (wVar 3) (wCons (wCall cp_law_counts (wCons (wVar 1) (wCons (wCall cp_law_volume (wCons (wVar 2) (wNil))) (wNil)))) (wNil))))) (gN 4)) u))) D (some (.ref 0) :: none :: none :: none :: none :: rest) [.fro (ns.map T.int)] := by
  refine seq_cut fun U hU => ?_
  simp! only [if_true]
  refine ⟨by decide, ?_⟩
  subst hU
  refine seq_cut fun U hU => ?_
  simp! only [if_true]
  refine ⟨1, 0, ns, 64, rfl, ⟨0, 0, rfl, by decide, rfl⟩, by decide, by decide, fun fr h hf hv S X => ?_⟩
  subst hU
  refine seq_cut fun U hU => ?_
  have hv' : vol fr ≤ 64 := by omega
  have l0 := S.lt
  simp! only [if_true]
  refine ⟨by decide, 1, 0, ns, 2, rfl, S.gro (Gro.app _ _), by decide, by decide, fun r h1 r0 r1 S1 X1 => ?_⟩
  have hL := X1 _ _ (by omega) (get_app_new _ _)
  simp only [seqOf_of hL]
  obtain ⟨room, hroom, m0, m1⟩ : ∃ room : Int, atI [T.int 24, T.int 40] r = some (.int room) ∧ 0 ≤ room ∧ room ≤ 40 := by
    have : r = 0 ∨ r = 1 := by omega
    rcases this with rfl | rfl
    · exact ⟨24, rfl, by decide, by decide⟩
    · exact ⟨40, rfl, by decide, by decide⟩
  simp only [hroom]
  refine ⟨1, 0, ns, fr, room, rfl, S1, hf, hv', m0, m1, fun gs h2 G gok S2 X2 hG e2 => ?_⟩
  have l1 := S1.lt
  have l01 : h.length < h1.length := lt_of_get hL
  subst hU
  refine seq_cut fun U hU => ?_
  simp! only [if_true]
  refine ⟨_, fr, rfl, rfl, ⟨hf.2.1, hf.2.2⟩, ?_⟩
  refine ⟨1, 0, ns, vol fr, rfl, S2, vol_pos hf.2.2, hv', fun cs h3 C cl cb c1 S3 X3 hC e3 => ?_⟩
  have l2 := lt_of_get e2
  have hm := gok.most
  refine ⟨fr, G, C, gs, cs, rfl, X3 _ _ (by omega) e2, e3, hf, gok.grp, by omega, fun tb h4 q t1 t2 t3 G4 hq e4 => ?_⟩
  have l3 := lt_of_get e3
  subst hU
  refine hK fr gs cs G q (tb.map (·.2)) h4 ⟨S3.gro G4, hf, hv', gok, cl, cb, c1, G4 _ _ (X3 _ _ (by omega) e2), by omega, by omega, fun n hn => ?_, ⟨?_, ?_, t2, fun hn => ?_, fun i x n hx hn => ?_⟩⟩
  · obtain ⟨x, hx, rfl⟩ := List.mem_map.mp hn
    have := (t3 x hx).1
    omega
  · rw [e4]
    congr 2
    subst t1
    clear e4 t2 t3 hq gok e2 hK G4 hm
    induction tb with
    | nil => rfl
    | cons x tb ih =>
      simp only [List.map_cons, List.zipWith_cons_cons]
      rw [ih]
      rfl
  · have := congrArg List.length t1
    simp at this
    simp [this]
  · obtain ⟨x, hx, rfl⟩ := List.mem_map.mp hn
    exact (t3 x hx).2.1 rfl
  · subst t1
    rw [List.getElem?_map, List.getElem?_map] at hx
    rw [List.getElem?_map] at hn
    cases e : tb[i]? with
    | none => rw [e] at hn; cases hn
    | some y =>
      rw [e] at hn hx
      cases hn
      cases hx
      exact (t3 y (List.mem_of_getElem? e)).2.2
end LH
set_option Elab.async false
set_option linter.all false
set_option maxRecDepth 100000
namespace PF
open PySem L2 Pu ZP PL LH
noncomputable def W_added_up (cp_rows_of : CP) : WS :=
  wSeq (wAsg (wDictT) (gN 4))
  (wSeq (wFor (wSeqI (wCall cp_rows_of (wCons (wVar 0) (wCons (wVar 1) (wNil))))) (gN 5) (wDPut (wVar 4) (wVar 5) (wC (.int 0))))
  (wSeq (wFor (wZip2 (wCons (wVar 2) (wCons (wVar 3) (wNil)))) (gTp 2 (gsCons (gN 6) (gsCons (gN 7) (gsNil)))) (wDPut (wVar 4) (wVar 6) (wOp pAdd (wOp pDGet (wVar 4) (wVar 6)) (wVar 7))))
  (wRet (wListVals (wVar 4)))))
noncomputable def W_sums (cp_rows_of : CP) (cp_seen : CP) (cp_added_up : CP) : WS :=
  wSeq (wAsg (wComp (wSeqI (wCall cp_rows_of (wCons (wVar 0) (wCons (wOp pIx (wVar 1) (wC (.int 0))) (wNil))))) 4 (wYes) (wCall cp_seen (wCons (wOp pIx (wVar 1) (wC (.int 0))) (wCons (wVar 4) (wCons (wVar 2) (wNil)))))) (gN 3))
  (wRet (wCall cp_added_up (wCons (wVar 0) (wCons (wVar 2) (wCons (wVar 3) (wCons (wOp pIx (wVar 1) (wC (.int 1))) (wNil)))))))
theorem row_seenG {fr g ps : List Nat} {r : List Int} (hr : RowOk (kindsOf fr g) r) (hp : ∀ p ∈ ps, p ∈ g) : RowOk (kindsOf fr ps) (seenI g r ps) := by
  refine ⟨by simp [seenI, kindsOf], fun i k x hk hx => ?_⟩
  unfold kindsOf at hk
  unfold seenI at hx
  rw [List.getElem?_map] at hk hx
  cases e : ps[i]? with
  | none => rw [e] at hk; cases hk
  | some m =>
    rw [e] at hk hx
    have hm := hp m (List.mem_of_getElem? e)
    have hi : g.idxOf m < g.length := List.idxOf_lt_length_of_mem hm
    simp only [Option.map_some, Option.some.injEq] at hk hx
    have hl : g.idxOf m < r.length := by rw [hr.1]; simpa [kindsOf] using hi
    refine hr.2 (g.idxOf m) k x ?_ ?_
    · unfold kindsOf
      rw [List.getElem?_map, List.getElem?_eq_getElem hi, List.getElem_idxOf hi, ← hk]
      rfl
    · rw [← hx, List.getD_eq_getElem?_getD, List.getElem?_eq_getElem hl]; rfl
noncomputable def sumsOf (fr : List Nat) (x : Tab) (ps : List Nat) : List Int := (rowsK (kindsOf fr ps)).map (sumZ x.1 ps ((rowsK (kindsOf fr x.1)).zip x.2))
noncomputable def atP (Z : List (List Int × Int)) (d : List Int) : Int := ((Z.filter fun x => decide (x.1 = d)).map (·.2)).sum
theorem atP_snoc (Z : List (List Int × Int)) (x : List Int × Int) (d : List Int) : atP (Z ++ [x]) d = if d = x.1 then atP Z d + x.2 else atP Z d := by
  unfold atP
  rw [List.filter_append, List.map_append, List.sum_append]
  by_cases e : d = x.1
  · simp [e]
  · have : ¬ x.1 = d := fun z => e z.symm
    simp [this, e]
theorem atP_seen (g ps : List Nat) : ∀ (rs : List (List Int)) (cs : List Int) (d : List Int), atP ((rs.map fun r => seenI g r ps).zip cs) d = sumZ g ps (rs.zip cs) d
  | [], _, _ => rfl
  | _ :: _, [], _ => rfl
  | r :: rs, c :: cs, d => by
    have ih := atP_seen g ps rs cs d
    unfold atP sumZ at *
    rw [List.map_cons, List.zip_cons_cons, List.zip_cons_cons, List.filter_cons, List.filter_cons]
    by_cases e : seenI g r ps = d
    · simp only [e, decide_true, if_true, List.map_cons, List.sum_cons, ih]
    · simp only [e, decide_false, Bool.false_eq_true, if_false, ih]
noncomputable def cp_added_up : CP := fun ts h k => ∃ (fr gs : List Nat) (f g P c : T) (pl : List (List Int)) (cs : List Int), ts = [f, g, P, c] ∧ Sq f h (tN fr) ∧ Sq g h (tN gs) ∧ Sq P h (pl.map tI) ∧ Sq c h (cs.map T.int) ∧ (∀ x ∈ fr, x ≤ 3) ∧ gs.length ≤ 6 ∧ (∀ m ∈ gs, m < fr.length) ∧ (∀ r ∈ pl, r ∈ rowsK (kindsOf fr gs)) ∧
  ∀ h' q, Gro h h' → h.length ≤ q → h'[q]? = some (.lst (((rowsK (kindsOf fr gs)).map (atP (pl.zip cs))).map T.int)) → k (.ref q) h'
theorem len_added_up : ∀ ts h k, cp_added_up ts h k → ts.length = 4 := by
  rintro ts h k ⟨_, _, _, _, _, _, _, _, rfl, _⟩
  rfl
theorem vc_added_up : ∀ ts h k, cp_added_up ts h k → W_added_up cp_rows_of { nx := fun _ h' => k .non h', rt := k } (begin_ 8 ts) h := by
  rintro ts h0 k ⟨fr, gs, f, g, P, c, pl, cs, rfl, sf, sg, sP, sc, hf3, hgl, hg, hin, hk⟩
  have hdl : (rowsK (kindsOf fr gs)).length ≤ 729 := by rw [rowsK_len]; exact vol_le (kindsOf_le hf3) (by simp [kindsOf]; omega)
  have hnd := rowsK_nodup (kindsOf fr gs)
  generalize hds : rowsK (kindsOf fr gs) = ds at *
  unfold W_added_up
  refine seq_cut fun U hU => ?_
  simp! only [begin_]
  subst hU
  refine seq_cut fun U hU => ?_
  simp! only [if_true]
  refine ⟨fr, gs, f, g, rfl, sf.gro (Gro.app _ _), sg.gro (Gro.app _ _), hf3, hgl, hg, fun h1 R1 G1 hR1 e1 => ?_⟩
  rw [hds] at e1
  have b1 := G1 _ _ (get_app_new h0 (.dT []))
  have lt1 : h0.length < h1.length := lt_of_get b1
  have hne : R1 ≠ h0.length := by simp at hR1; omega
  simp only [seqOf_of e1]
  refine forL_inv _ (fun i env h => ∃ a, env = [some f, some g, some P, some c, some (.ref h0.length), a, none, none] ∧ Gro h0 h ∧ h[R1]? = some (.lst (ds.map tI)) ∧ h[h0.length]? = some (.dT (dictI (ds.take i) fun _ => 0)))
    ⟨_, rfl, (Gro.app _ _).trans G1, e1, b1⟩ (fun i env h q => by obtain ⟨_, _, _, q, _⟩ := q; exact seqOf_of q) ?_ ?_
  · rintro i y env h hy ⟨a, rfl, G, eR, e⟩
    obtain ⟨d, hd, rfl⟩ := map_get hy
    have hnew : d ∉ ds.take i := nodup_take hnd hd
    simp! only [tI, dTOf_of e, keysOf_ints, putT_new hnew]
    refine ⟨by rw [sizeLine_eq]; simp [dictI]; omega, _, rfl, G.set (Nat.le_refl _), set_ne eR (Ne.symm hne), ?_⟩
    rw [set_get e, take_snoc hd]
  · rintro env h ⟨a, rfl, G, eR, e⟩
    rw [List.length_map, List.take_length] at e
    show U _ _
    subst hU
    refine seq_cut fun U hU => ?_
    simp! only [sP _ G, sc _ G]
    refine forL_inv _ (fun i env h => ∃ a b c', env = [some f, some g, some P, some c, some (.ref h0.length), a, b, c'] ∧ Gro h0 h ∧ h[h0.length]? = some (.dT (dictI ds (atP ((pl.zip cs).take i)))))
      ⟨_, _, _, rfl, G, by rw [e]; rfl⟩ (fun i env h q => by obtain ⟨_, _, _, _, G, _⟩ := q; exact ⟨sP _ G, sc _ G⟩) ?_ ?_
    · rintro i y env h hy ⟨a, b, c', rfl, G, e⟩
      obtain ⟨r, v, hz, rfl, hr⟩ := zip_get hy
      have hm := hin r hr
      simp! only [true_and, tI, dTOf_of e, keysOf_ints, valT_dict hm, putT_dict hm]
      refine ⟨by rw [sizeLine_eq]; simp [dictI]; omega, _, _, _, rfl, G.set (Nat.le_refl _), ?_⟩
      rw [set_get e, take_snoc hz]
      congr 2
      unfold dictI
      refine List.map_congr_left fun d hd => ?_
      rw [atP_snoc]
      by_cases e : d = r
      · simp [e]
      · simp [e]
    · rintro env h ⟨a, b, c', rfl, G, e⟩
      have hzl : (List.zipWith (fun x y => T.tup [x, y]) (pl.map tI) (cs.map T.int)).length = (pl.zip cs).length := by simp
      rw [hzl, List.take_length] at e
      show U _ _
      subst hU
      simp! only [dTOf_of e]
      refine hk _ _ G.ap (Nat.le_of_lt (lt_of_get e)) ?_
      rw [get_app_new]
      simp [dictI]
noncomputable def cp_sums : CP := fun ts h k => ∃ fr x ps p, ts = [.tup (tN fr), tTab x, p] ∧ Sq p h (tN ps) ∧ Fr fr ∧ (∀ m ∈ x.1, m < fr.length) ∧ x.1.length ≤ 6 ∧ (∀ p ∈ ps, p ∈ x.1) ∧ ps.length ≤ 6 ∧
  ∀ h' q, Gro h h' → h.length ≤ q → h'[q]? = some (.lst ((sumsOf fr x ps).map T.int)) → k (.ref q) h'
theorem len_sums : ∀ ts h k, cp_sums ts h k → ts.length = 3 := by
  rintro ts h k ⟨_, _, _, _, rfl, _⟩
  rfl
theorem vc_sums : ∀ ts h k, cp_sums ts h k → W_sums cp_rows_of cp_seen cp_added_up { nx := fun _ h' => k .non h', rt := k } (begin_ 5 ts) h := by
  rintro ts h0 k ⟨fr, x, ps, p, rfl, sp, hf, hg, hgl, hp, hpl, hk⟩
  have hf3 : ∀ y ∈ fr, y ≤ 3 := fun y hy => (hf.2.2 y hy).2
  have hin : ∀ r ∈ rowsK (kindsOf fr x.1), seenI x.1 r ps ∈ rowsK (kindsOf fr ps) := fun r hr => rowsK_mem _ _ (row_seenG (rowsK_ok _ r hr) hp)
  have hrl : ∀ r ∈ rowsK (kindsOf fr x.1), r.length = x.1.length := fun r hr => by rw [(rowsK_ok _ r hr).1]; simp [kindsOf]
  have hvl : (rowsK (kindsOf fr x.1)).length ≤ 729 := by rw [rowsK_len]; exact vol_le (kindsOf_le hf3) (by simp [kindsOf]; omega)
  unfold W_sums
  refine seq_cut fun U hU => ?_
  simp! only [begin_, tTab, atI_0]
  refine ⟨fr, x.1, _, _, rfl, sq_tup, sq_tup, hf3, hgl, hg, fun h1 R1 G1 hR1 e1 => ?_⟩
  simp only [seqOf_of e1]
  unfold sumsOf at hk
  generalize hrs : rowsK (kindsOf fr x.1) = rs at *
  refine compL_inv _ (fun i acc h' => Gro h1 h' ∧ acc = ((rs.take i).map fun r => seenI x.1 r ps).map tI) ⟨Gro.refl _, rfl⟩ (fun i acc h q => seqOf_of (q.1 _ _ e1)) (fun i acc h q => ?_) ?_ ?_
  · rw [q.2, sizeLine_eq]; simp; omega
  · rintro i y acc h hy ⟨G, rfl⟩
    obtain ⟨r, hr, rfl⟩ := map_get hy
    have hrm := List.mem_of_getElem? hr
    simp! only [tTab, atI_0]
    refine ⟨x.1, r.map T.int, ps, _, _, rfl, sq_tup, sp.gro (G1.trans G), hp, by rw [List.length_map, hrl r hrm]; exact Nat.le_refl _, by omega, fun h3 G3 => ⟨G.trans G3, ?_⟩⟩
    rw [seen_map x.1 r ps hp (by rw [hrl r hrm]; exact Nat.le_refl _), take_snoc hr]
    simp [tI]
  · rintro acc h ⟨G, rfl⟩
    rw [List.length_map, List.take_length]
    subst hU
    simp! only [tTab, atI_1]
    have G2 := (G1.trans G).ap (g := [.lst ((rs.map fun r => seenI x.1 r ps).map tI)])
    refine ⟨fr, ps, _, _, _, _, _, x.2, rfl, sq_tup, sp.gro G2, sq_lst (get_app_new _ _), sq_tup, hf3, hpl, fun m hm => hg m (hp m hm), fun r hr => ?_, fun h' q G' hq e => ?_⟩
    · obtain ⟨s, hs, rfl⟩ := List.mem_map.mp hr
      exact hin s hs
    · refine hk h' q (G2.trans G') (Nat.le_trans G2.len hq) ?_
      rw [e, show atP ((rs.map fun r => seenI x.1 r ps).zip x.2) = sumZ x.1 ps (rs.zip x.2) from funext fun d => atP_seen x.1 ps rs x.2 d]
end PF
set_option Elab.async false
set_option linter.all false
set_option maxRecDepth 100000
namespace K10
open PySem L2 Pu ZP PL LH PF
noncomputable def W_overlap : WS :=
  wRet (wCB pTuple (wCons (wComp (wSeqI (wVar 0)) 2 (wTest (wOp pIn (wVar 2) (wVar 1))) (wVar 2)) (wNil)))
noncomputable def W_unlike_row (cp_overlap : CP) (cp_sums : CP) (cp_rows_of : CP) : WS :=
  wSeq (wAsg (wCall cp_overlap (wCons (wOp pIx (wVar 1) (wC (.int 0))) (wCons (wOp pIx (wVar 2) (wC (.int 0))) (wNil)))) (gN 3))
  (wSeq (wFor (wZip3 (wCons (wCall cp_rows_of (wCons (wVar 0) (wCons (wVar 3) (wNil)))) (wCons (wCall cp_sums (wCons (wVar 0) (wCons (wVar 1) (wCons (wVar 3) (wNil))))) (wCons (wCall cp_sums (wCons (wVar 0) (wCons (wVar 2) (wCons (wVar 3) (wNil))))) (wNil))))) (gTp 3 (gsCons (gN 4) (gsCons (gN 5) (gsCons (gN 6) (gsNil))))) (wIf (wTest (wOp pNe (wVar 5) (wVar 6))) (wRet (wVar 4)) (wNext)))
  (wRet (wC .non)))
noncomputable def W_agree (cp_unlike_row : CP) : WS :=
  wSeq (wAsg (wOp pIx (wVar 0) (wC (.int 1))) (gN 1))
  (wSeq (wFor (wRng1 (wCons (wCB pLen (wCons (wVar 1) (wNil))) (wNil))) (gN 2) (wFor (wRng2 (wCons (wOp pAdd (wVar 2) (wC (.int 1))) (wCons (wCB pLen (wCons (wVar 1) (wNil))) (wNil)))) (gN 3) (wSeq (wAsg (wCall cp_unlike_row (wCons (wOp pIx (wVar 0) (wC (.int 0))) (wCons (wOp pIx (wVar 1) (wVar 2)) (wCons (wOp pIx (wVar 1) (wVar 3)) (wNil))))) (gN 4))
  (wIf (wTest (wOp pIsNot (wVar 4) (wC .non))) (wRet (wTup (wCons (wVar 2) (wCons (wVar 3) (wCons (wVar 4) (wNil)))))) (wNext)))))
  (wRet (wC .non)))
noncomputable def W_law_due (cp_law_rows : CP) (cp_law_sums : CP) : WS :=
  wSeq (wFor (wRng1 (wCons (wCB pLen (wCons (wVar 1) (wNil))) (wNil))) (gN 2) (wFor (wRng2 (wCons (wOp pAdd (wVar 2) (wC (.int 1))) (wCons (wCB pLen (wCons (wVar 1) (wNil))) (wNil)))) (gN 3) (wSeq (wAsg (wCB pTuple (wCons (wComp (wSeqI (wOp pIx (wOp pIx (wVar 1) (wVar 2)) (wC (.int 0)))) 13 (wTest (wOp pIn (wVar 13) (wOp pIx (wOp pIx (wVar 1) (wVar 3)) (wC (.int 0))))) (wVar 13)) (wNil))) (gN 4))
  (wSeq (wAsg (wCall cp_law_rows (wCons (wComp (wSeqI (wVar 4)) 13 (wYes) (wOp pIx (wVar 0) (wVar 13))) (wNil))) (gN 5))
  (wSeq (wAsg (wLst (wNil)) (gN 6))
  (wSeq (wFor (wSeqI (wLst (wCons (wOp pIx (wVar 1) (wVar 2)) (wCons (wOp pIx (wVar 1) (wVar 3)) (wNil))))) (gTp 2 (gsCons (gN 7) (gsCons (gN 8) (gsNil)))) (wSeq (wAsg (wCall cp_law_rows (wCons (wComp (wSeqI (wVar 7)) 13 (wYes) (wOp pIx (wVar 0) (wVar 13))) (wNil))) (gN 9))
  (wDrop (wBM isLst (pMt fAppend) (wVar 6) (wCons (wCall cp_law_sums (wCons (wVar 7) (wCons (wVar 9) (wCons (wVar 8) (wCons (wVar 4) (wCons (wVar 5) (wNil))))))) (wNil))))))
  (wFor (wZip3 (wCons (wVar 5) (wCons (wOp pIx (wVar 6) (wC (.int 0))) (wCons (wOp pIx (wVar 6) (wC (.int 1))) (wNil))))) (gTp 3 (gsCons (gN 10) (gsCons (gN 11) (gsCons (gN 12) (gsNil))))) (wIf (wTest (wOp pNe (wVar 11) (wVar 12))) (wRet (wTup (wCons (wVar 2) (wCons (wVar 3) (wCons (wVar 10) (wNil)))))) (wNext)))))))))
  (wRet (wC .non))
noncomputable def W_law_moved (cp_law_take : CP) (cp_law_rows : CP) : WS :=
  wSeq (wAsg (wOp pIx (wVar 2) (wCall cp_law_take (wCons (wVar 0) (wCons (wCB pLen (wCons (wVar 2) (wNil))) (wNil))))) (gTp 2 (gsCons (gN 3) (gsCons (gN 4) (gsNil)))))
  (wSeq (wAsg (wCall cp_law_rows (wCons (wComp (wSeqI (wVar 3)) 11 (wYes) (wOp pIx (wVar 1) (wVar 11))) (wNil))) (gN 5))
  (wSeq (wAsg (wCall cp_law_take (wCons (wVar 0) (wCons (wCB pLen (wCons (wVar 5) (wNil))) (wNil)))) (gN 6))
  (wSeq (wAsg (wCB pList (wCons (wOp pIx (wVar 5) (wVar 6)) (wNil))) (gN 7))
  (wSeq (wFor (wRng1 (wCons (wOp pAdd (wC (.int 1)) (wCall cp_law_take (wCons (wVar 0) (wCons (wC (.int 2)) (wNil))))) (wNil))) (gN 8) (wSeq (wAsg (wCall cp_law_take (wCons (wVar 0) (wCons (wCB pLen (wCons (wVar 3) (wNil))) (wNil)))) (gN 9))
  (wAsg (wOp pMod (wOp pAdd (wOp pIx (wVar 7) (wVar 9)) (wC (.int 1))) (wOp pIx (wVar 1) (wOp pIx (wVar 3) (wVar 9)))) (gSb (wVar 7) (wVar 9) pSet))))
  (wSeq (wAsg (wIndex (wVar 5) (wCons (wCB pTuple (wCons (wVar 7) (wNil))) (wNil))) (gN 10))
  (wIf (wTest (wOp pGt (wOp pIx (wVar 4) (wVar 6)) (wC (.int 0)))) (wSeq (wAsg (wOp pSub (wOp pIx (wVar 4) (wVar 6)) (wC (.int 1))) (gSb (wVar 4) (wVar 6) pSet))
  (wAsg (wOp pAdd (wOp pIx (wVar 4) (wVar 10)) (wC (.int 1))) (gSb (wVar 4) (wVar 10) pSet))) (wNext)))))))
noncomputable def W_law_right (cp_family_of : CP) (cp_agree : CP) (cp_law_due : CP) : WS :=
  wSeq (wAsg (wCall cp_family_of (wCons (wVar 0) (wCons (wVar 1) (wNil)))) (gN 2))
  (wSeq (wAsg (wCall cp_agree (wCons (wVar 2) (wNil))) (gN 3))
  (wSeq (wAsg (wCall cp_law_due (wCons (wVar 0) (wCons (wVar 1) (wNil)))) (gN 4))
  (wSeq (wIf (wOr (wTest (wOp pNe (wVar 2) (wCall cp_family_of (wCons (wVar 0) (wCons (wVar 1) (wNil)))))) (wTest (wOp pNe (wVar 3) (wVar 4)))) (wRet (wC (.bl false))) (wNext))
  (wSeq (wIf (wTest (wOp pIs (wVar 4) (wC .non))) (wRet (wOp pIs (wVar 3) (wC .non))) (wNext))
  (wSeq (wIf (wOr (wNot (wTest (wIsi "tuple" (wVar 3)))) (wNot (wTest (wIsi "tuple" (wOp pIx (wVar 3) (wC (.int 2))))))) (wRet (wC (.bl false))) (wNext))
  (wSeq (wAsg (wOp pAdd (wLst (wCons (wOp pIx (wVar 3) (wC (.int 0))) (wCons (wOp pIx (wVar 3) (wC (.int 1))) (wNil)))) (wCB pList (wCons (wOp pIx (wVar 3) (wC (.int 2))) (wNil)))) (gN 5))
  (wRet (wOp pEq (wComp (wSeqI (wVar 5)) 6 (wOr (wTest (wIsi "bool" (wVar 6))) (wNot (wTest (wIsi "int" (wVar 6))))) (wVar 6)) (wLst (wNil))))))))))
noncomputable def W_law (cp_law_frame : CP) (cp_law_groups : CP) (cp_law_take : CP) (cp_law_tables : CP) (cp_law_counts : CP) (cp_law_volume : CP) (cp_agree : CP) (cp_family_of : CP) (cp_law_moved : CP) (cp_law_right : CP) : WS :=
  wSeq (wAsg (wLst (wCons (wVar 0) (wCons (wC (.int 0)) (wCons (wC (.int 0)) (wNil))))) (gN 1))
  (wSeq (wAsg (wCall cp_law_frame (wCons (wVar 1) (wCons (wC (.int 64)) (wNil)))) (gN 2))
  (wSeq (wAsg (wCall cp_law_groups (wCons (wVar 1) (wCons (wVar 2) (wCons (wOp pIx (wLst (wCons (wC (.int 24)) (wCons (wC (.int 40)) (wNil)))) (wCall cp_law_take (wCons (wVar 1) (wCons (wC (.int 2)) (wNil))))) (wNil))))) (gN 3))
  (wSeq (wAsg (wCall cp_law_tables (wCons (wVar 2) (wCons (wVar 3) (wCons (wCall cp_law_counts (wCons (wVar 1) (wCons (wCall cp_law_volume (wCons (wVar 2) (wNil))) (wNil)))) (wNil))))) (gN 4))
  (wSeq (wIf (wTest (wOp pIsNot (wCall cp_agree (wCons (wCall cp_family_of (wCons (wVar 2) (wCons (wVar 4) (wNil)))) (wNil))) (wC .non))) (wRet (wC (.bl false))) (wNext))
  (wSeq (wFor (wRng1 (wCons (wCall cp_law_take (wCons (wVar 1) (wCons (wC (.int 4)) (wNil)))) (wNil))) (gN 5) (wSeq (wDrop (wCall cp_law_moved (wCons (wVar 1) (wCons (wVar 2) (wCons (wVar 4) (wNil))))))
  (wIf (wNot (wTest (wCall cp_law_right (wCons (wVar 2) (wCons (wVar 4) (wNil)))))) (wRet (wC (.bl false))) (wNext))))
  (wRet (wCall cp_law_right (wCons (wVar 2) (wCons (wVar 4) (wNil))))))))))
noncomputable def both (a b : List Nat) : List Nat := a.filter fun m => decide (m ∈ b)
theorem both_l {a b : List Nat} : ∀ m ∈ both a b, m ∈ a := fun m h => (List.mem_filter.mp h).1
theorem both_r {a b : List Nat} : ∀ m ∈ both a b, m ∈ b := fun m h => by simpa using (List.mem_filter.mp h).2
theorem both_len (a b : List Nat) : (both a b).length ≤ a.length := List.length_filter_le _ _
theorem comp_both {env : En} {k : WK} {j : Nat} {h : PH} {a b : List Nat} {we : WE} (hl : a.length ≤ 100) (hw : ∀ x (K : WK), K (.tup (tN b)) h → we ((env.set j none).set j (some x)) h K) (hj : ∀ x, ((env.set j none).set j (some x))[j]? = some (some x))
    (hk : k (.ref h.length) (h ++ [.lst (tN (both a b))])) {chk : PH → Prop} (hchk : chk h) : compL chk j (wTest (wOp pIn (wVar j) we)) (wVar j) env k (tN a) [] h := by
  refine compL_inv _ (fun i acc h' => h' = h ∧ acc = tN (both (a.take i) b)) ⟨rfl, rfl⟩ (fun i acc h' q => by rw [q.1]; exact hchk) (fun i acc h q => ?_) ?_ ?_
  · have := both_len (a.take i) b
    rw [q.2, tN_len, sizeLine_eq]
    simp at this
    omega
  · rintro i x acc h' hx ⟨rfl, rfl⟩
    obtain ⟨m, hm, rfl⟩ := tN_get hx
    simp only [wTest, wOp, wVar, hj]
    refine hw _ _ ?_
    simp only [pIn, pInB, flatT, flat_tN, in_tN, seqOf_tup]
    refine ⟨trivial, trivial, ?_⟩
    rw [take_snoc hm]
    by_cases e : m ∈ b
    · simp only [e, decide_true, Bool.false_bne, if_true]
      refine ⟨trivial, ?_⟩
      simp [both, e, tN]
    · simp only [e, decide_false, Bool.false_bne, if_false, Bool.false_eq_true]
      refine ⟨trivial, ?_⟩
      simp [both, e, tN]
  · rintro acc h' ⟨rfl, rfl⟩
    rw [tN_len, List.take_length]
    exact hk
noncomputable def cp_overlap : CP := fun ts h k => ∃ a b, ts = [.tup (tN a), .tup (tN b)] ∧ a.length ≤ 100 ∧ ∀ h', Gro h h' → k (.tup (tN (both a b))) h'
theorem len_overlap : ∀ ts h k, cp_overlap ts h k → ts.length = 2 := by
  rintro ts h k ⟨_, _, rfl, _⟩
  rfl
theorem vc_overlap : ∀ ts h k, cp_overlap ts h k → W_overlap { nx := fun _ h' => k .non h', rt := k } (begin_ 3 ts) h := by
  rintro ts h0 k ⟨a, b, rfl, hl, hk⟩
  unfold W_overlap
  simp only [begin_, wRet, wCB, wCons, wNil, wComp, wSeqI, pTuple, wVar, List.map_cons, List.map_nil, List.length_cons, List.length_nil, List.cons_append, List.nil_append, List.replicate, List.getElem?_cons_zero, List.getElem?_cons_succ, Nat.reduceSub, seqOf_tup]
  refine comp_both (b := b) hl (fun x K hK => hK) (fun x => rfl) ?_ trivial
  simp only [seqOf_of (get_app_new _ _)]
  exact hk _ (Gro.app _ _)
noncomputable abbrev Z3 := List Int × Int × Int
noncomputable def tZ (z : Z3) : T := .tup [tI z.1, .int z.2.1, .int z.2.2]
noncomputable def diff (zl : List Z3) : Option (List Int) := (zl.find? fun z => decide (z.2.1 ≠ z.2.2)).map (·.1)
theorem zip3_tZ : ∀ (rs : List (List Int)) (as bs : List Int), List.zipWith (fun x (p : T × T) => T.tup [x, p.1, p.2]) (rs.map tI) ((as.map T.int).zip (bs.map T.int)) = (rs.zip (as.zip bs)).map tZ
  | [], _, _ => rfl
  | _ :: _, [], _ => rfl
  | _ :: _, _ :: _, [] => rfl
  | r :: rs, a :: as, b :: bs => by
    have := zip3_tZ rs as bs
    simp only [List.map_cons, List.zip_cons_cons, List.zipWith_cons_cons, this]
    rfl
theorem find_first {α : Type} {p : α → Bool} : ∀ {zl : List α} {i : Nat} {z : α}, zl[i]? = some z → p z = true → (∀ y ∈ zl.take i, p y = false) → zl.find? p = some z
  | [], i, z, h, _, _ => by simp at h
  | a :: zl, 0, z, h, hp, _ => by
    simp at h
    subst h
    simp [List.find?, hp]
  | a :: zl, i + 1, z, h, hp, hf => by
    have h0 := hf a (by simp)
    have := find_first (zl := zl) (i := i) (z := z) (by simpa using h) hp fun y hy => hf y (by simp [hy])
    simp [List.find?, h0, this]
theorem find_not {α : Type} {p : α → Bool} {zl : List α} (h : ∀ y ∈ zl, p y = false) : zl.find? p = none := by
  rw [List.find?_eq_none]
  intro x hx
  rw [h x hx]
  decide
noncomputable def unl (fr : List Nat) (x y : Tab) : Option (List Int) := diff ((rowsK (kindsOf fr (both x.1 y.1))).zip ((sumsOf fr x (both x.1 y.1)).zip (sumsOf fr y (both x.1 y.1))))
theorem unl_len {fr : List Nat} {x y : Tab} {r : List Int} (h : unl fr x y = some r) : r.length = (both x.1 y.1).length := by
  unfold unl diff at h
  cases e : (List.find? (fun z : Z3 => decide (z.2.1 ≠ z.2.2)) ((rowsK (kindsOf fr (both x.1 y.1))).zip ((sumsOf fr x (both x.1 y.1)).zip (sumsOf fr y (both x.1 y.1))))) with
  | none => rw [e] at h; cases h
  | some z =>
    rw [e] at h
    cases h
    have hz := (List.of_mem_zip (List.mem_of_find?_eq_some e)).1
    rw [(rowsK_ok _ _ hz).1]
    simp [kindsOf]
noncomputable def optT : Option (List Int) → T
  | none => .non
  | some r => tI r
noncomputable def cp_unlike_row : CP := fun ts h k => ∃ fr x y w, ts = [.tup (tN fr), tTab x, tTab y] ∧ Fr fr ∧ TabOk fr w x ∧ TabOk fr w y ∧ ∀ h', Gro h h' → k (optT (unl fr x y)) h'
theorem len_unlike_row : ∀ ts h k, cp_unlike_row ts h k → ts.length = 3 := by
  rintro ts h k ⟨_, _, _, _, rfl, _⟩
  rfl
theorem vc_unlike_row : ∀ ts h k, cp_unlike_row ts h k → W_unlike_row cp_overlap cp_sums cp_rows_of { nx := fun _ h' => k .non h', rt := k } (begin_ 7 ts) h := by
  rintro ts h0 k ⟨fr, x, y, w, rfl, hf, hx, hy, hk⟩
  have hxl := hx.grp.len hf
  have hyl := hy.grp.len hf
  unfold W_unlike_row
  refine seq_cut fun U hU => ?_
  simp! only [begin_, tTab, atI_0]
  refine ⟨x.1, y.1, rfl, by omega, fun h1 G1 => ?_⟩
  have hbl := both_len x.1 y.1
  have b1 := both_l (a := x.1) (b := y.1)
  have b2 := both_r (a := x.1) (b := y.1)
  subst hU
  refine seq_cut fun U hU => ?_
  simp! only [if_true]
  refine rows_t ⟨fr, both x.1 y.1, rfl, fun z hz => (hf.2.2 z hz).2, by omega, fun m hm => hx.grp.2.2 m (b1 m hm), fun h2 R G2 hR e1 => ?_⟩
  refine ⟨fr, x, both x.1 y.1, _, rfl, sq_tup, hf, hx.grp.2.2, hxl, b1, by omega, fun h3 A G3 hA e2 => ?_⟩
  refine ⟨fr, y, both x.1 y.1, _, rfl, sq_tup, hf, hy.grp.2.2, hyl, b2, by omega, fun h4 B G4 hB e3 => ?_⟩
  replace e1 := G4 _ _ (G3 _ _ e1)
  replace e2 := G4 _ _ e2
  have G := ((G1.trans G2).trans G3).trans G4
  clear G1 G2 G3 G4 hR hA hB
  clear h1 h2 h3
  simp only [seqOf_of e1, seqOf_of e2, seqOf_of e3]
  rw [zip3_tZ]
  have hun : unl fr x y = diff ((rowsK (kindsOf fr (both x.1 y.1))).zip ((sumsOf fr x (both x.1 y.1)).zip (sumsOf fr y (both x.1 y.1)))) := rfl
  generalize (rowsK (kindsOf fr (both x.1 y.1))).zip ((sumsOf fr x (both x.1 y.1)).zip (sumsOf fr y (both x.1 y.1))) = zl at hun ⊢
  refine forL_inv _ (fun i env h => ∃ a b c, env = [some (.tup (tN fr)), some (tTab x), some (tTab y), some (.tup (tN (both x.1 y.1))), a, b, c] ∧ h = h4 ∧ ∀ z ∈ zl.take i, z.2.1 = z.2.2) ⟨_, _, _, rfl, rfl, by simp⟩ (fun i env h q => by obtain ⟨_, _, _, _, rfl, _⟩ := q; exact ⟨seqOf_of e1, seqOf_of e2, seqOf_of e3⟩) ?_ ?_
  · rintro i t env h ht ⟨a, b, c, rfl, rfl, hz⟩
    obtain ⟨z, hzi, rfl⟩ := map_get ht
    simp! only [tZ, true_and]
    by_cases e : z.2.1 = z.2.2
    · have e' : (z.2.1 == z.2.2) = true := by simpa using e
      simp! only [e']
      refine ⟨_, _, _, rfl, fun y hy => ?_⟩
      rw [take_snoc hzi] at hy
      rcases List.mem_append.mp hy with q | q
      · exact hz y q
      · rw [List.mem_singleton.mp q]; exact e
    · have e' : (z.2.1 == z.2.2) = false := by simpa using e
      simp! only [e']
      have : unl fr x y = some z.1 := by
        rw [hun, diff, find_first hzi (by simpa using e) fun y hy => by simpa using hz y hy]
        rfl
      have hk' := hk _ G
      rw [this] at hk'
      exact hk'
  · rintro env h ⟨a, b, c, rfl, rfl, hz⟩
    rw [List.length_map, List.take_length] at hz
    show U _ _
    subst hU
    simp! only [if_true]
    have : unl fr x y = none := by
      rw [hun, diff, find_not fun y hy => by simpa using hz y hy]
      rfl
    have hk' := hk _ G
    rw [this] at hk'
    exact hk'
noncomputable def Clr (fr : List Nat) (tb : List Tab) (i j : Nat) : Prop := ∀ i' j' x' y', i' < j' → (i' < i ∨ i' = i ∧ j' < j) → tb[i']? = some x' → tb[j']? = some y' → unl fr x' y' = none
noncomputable def Agr (fr : List Nat) (tb : List Tab) (v : T) : Prop := (v = .non ∧ ∀ (i j : Nat) x y, i < j → tb[i]? = some x → tb[j]? = some y → unl fr x y = none) ∨ ∃ (i j : Nat) (x y : Tab) (r : List Int), v = .tup [.int (i : Int), .int (j : Int), tI r] ∧ i < j ∧ tb[i]? = some x ∧ tb[j]? = some y ∧ unl fr x y = some r ∧ Clr fr tb i j
theorem Agr.one {fr : List Nat} {tb : List Tab} {v v' : T} (a : Agr fr tb v) (b : Agr fr tb v') : v = v' := by
  rcases a with ⟨rfl, ha⟩ | ⟨i, j, x, y, r, rfl, h1, h2, h3, h4, h5⟩
  · rcases b with ⟨rfl, hb⟩ | ⟨i', j', x', y', r', rfl, g1, g2, g3, g4, g5⟩
    · rfl
    · rw [ha i' j' x' y' g1 g2 g3] at g4; cases g4
  · rcases b with ⟨rfl, hb⟩ | ⟨i', j', x', y', r', rfl, g1, g2, g3, g4, g5⟩
    · rw [hb i j x y h1 h2 h3] at h4; cases h4
    · have n1 : ¬ (i' < i ∨ i' = i ∧ j' < j) := fun q => by rw [h5 i' j' x' y' g1 q g2 g3] at g4; cases g4
      have n2 : ¬ (i < i' ∨ i = i' ∧ j < j') := fun q => by rw [g5 i j x y h1 q h2 h3] at h4; cases h4
      have e1 : i = i' := by omega
      have e2 : j = j' := by omega
      subst e1 e2
      rw [h2] at g2
      rw [h3] at g3
      cases g2
      cases g3
      rw [h4] at g4
      cases g4
      rfl
noncomputable def cp_agree : CP := fun ts h k => ∃ fr tb w, ts = [famT fr tb] ∧ FamOk fr tb w ∧ ∀ v h', Agr fr tb v → Gro h h' → k v h'
theorem len_agree : ∀ ts h k, cp_agree ts h k → ts.length = 1 := by
  rintro ts h k ⟨_, _, _, rfl, _⟩
  rfl
theorem map_at {α : Type} {f : α → T} {xs : List α} {i : Nat} {x : α} (h : xs[i]? = some x) : atI (xs.map f) (i : Int) = some (f x) := by
  have hl := (List.getElem?_eq_some_iff.mp h).1
  rw [atI_nn (by omega) (by rw [List.length_map]; omega)]
  simp [h]
theorem rng2_get {lo n i : Nat} {x : T} (h : (rngL (lo : Int) n)[i]? = some x) : i < n ∧ x = .int ((lo + i : Nat) : Int) := by
  unfold rngL at h
  obtain ⟨y, hy, rfl⟩ := map_get h
  rw [List.getElem?_range (by rcases Nat.lt_or_ge i n with z | z; exact z; rw [List.getElem?_eq_none (by simpa using z)] at hy; cases hy)] at hy
  cases hy
  refine ⟨?_, by push_cast; rfl⟩
  have := (List.getElem?_eq_some_iff.mp h).1
  simpa using this
theorem vc_agree : ∀ ts h k, cp_agree ts h k → W_agree cp_unlike_row { nx := fun _ h' => k .non h', rt := k } (begin_ 5 ts) h := by
  rintro ts h0 k ⟨fr, tb, w, rfl, F, hk⟩
  have hm8 := F.most
  unfold W_agree
  refine seq_cut fun U hU => ?_
  simp! only [begin_, famT, atI_1]
  subst hU
  show wSeq _ _ _ [some (famT fr tb), some (.tup (tb.map tTab)), none, none, none] h0
  refine seq_cut fun U hU => ?_
  simp! only [List.length_map]
  refine ⟨by omega, by omega, ?_⟩
  rw [show ((tb.length : Int)).toNat = tb.length by omega]
  refine forL_inv _ (fun i env h => ∃ a b c, env = [some (famT fr tb), some (.tup (tb.map tTab)), a, b, c] ∧ Gro h0 h ∧ Clr fr tb i 0) ⟨_, _, _, rfl, Gro.refl _, fun i' j' x' y' h1 h2 => by omega⟩ (fun _ _ _ _ => trivial) ?_ ?_
  · rintro i t env h ht ⟨a, b, c, rfl, G, hC⟩
    obtain ⟨hi, rfl⟩ := rng_get ht
    simp! only [List.length_map]
    refine ⟨by omega, ?_⟩
    rw [show ((i : Int) + 1) = ((i + 1 : Nat) : Int) by omega, show ((tb.length : Int) - ((i + 1 : Nat) : Int)).toNat = tb.length - (i + 1) by omega]
    have hx : tb[i]? = some (tb[i]'(by omega)) := List.getElem?_eq_getElem _
    generalize tb[i]'(by omega) = x at hx
    have hTx := F.tab x (List.mem_of_getElem? hx)
    refine forL_inv _ (fun d env h => ∃ b c, env = [some (famT fr tb), some (.tup (tb.map tTab)), some (.int (i : Int)), b, c] ∧ Gro h0 h ∧ Clr fr tb i (i + 1 + d)) ⟨_, _, rfl, G, fun i' j' x' y' h1 h2 => hC i' j' x' y' h1 (by omega)⟩ (fun _ _ _ _ => trivial) ?_ ?_
    · clear G hC
      clear h
      rintro d t env h ht ⟨b, c, rfl, G, hC⟩
      obtain ⟨hd, rfl⟩ := rng2_get ht
      have hy : tb[i + 1 + d]? = some (tb[i + 1 + d]'(by omega)) := List.getElem?_eq_getElem _
      generalize tb[i + 1 + d]'(by omega) = y at hy
      have hTy := F.tab y (List.mem_of_getElem? hy)
      simp! only [famT, atI_0, map_at hx, map_at hy]
      refine ⟨fr, x, y, w, rfl, F.hfr, hTx, hTy, fun h1 G1 => ?_⟩
      cases e : unl fr x y with
      | none =>
        simp! only [optT]
        refine ⟨_, _, rfl, G.trans G1, fun i' j' x' y' h1 h2 h3 h4 => ?_⟩
        by_cases q : i' = i ∧ j' = i + 1 + d
        · obtain ⟨rfl, rfl⟩ := q
          rw [hx] at h3
          rw [hy] at h4
          cases h3
          cases h4
          exact e
        · exact hC i' j' x' y' h1 (by omega) h3 h4
      | some r =>
        simp! only [optT, tI]
        refine ⟨by decide, ?_⟩
        exact hk _ _ (.inr ⟨i, i + 1 + d, x, y, r, rfl, by omega, hx, hy, e, hC⟩) (G.trans G1)
    · rintro env h ⟨b, c, rfl, G, hC⟩
      refine ⟨_, _, _, rfl, G, fun i' j' x' y' h1 h2 h3 h4 => hC i' j' x' y' h1 ?_ h3 h4⟩
      have := (List.getElem?_eq_some_iff.mp h4).1
      simp only [rngL, List.length_map, List.length_range]
      omega
  · rintro env h ⟨a, b, c, rfl, G, hC⟩
    show U _ _
    subst hU
    simp! only [if_true]
    refine hk _ _ (.inl ⟨rfl, fun i j x y h1 h2 h3 => hC i j x y h1 ?_ h2 h3⟩) G
    have := (List.getElem?_eq_some_iff.mp h2).1
    simp only [rngL, List.length_map, List.length_range]
    omega
noncomputable def W_pair : WS := wSeq (wAsg (wCB pTuple (wCons (wComp (wSeqI (wOp pIx (wOp pIx (wVar 1) (wVar 2)) (wC (.int 0)))) 13 (wTest (wOp pIn (wVar 13) (wOp pIx (wOp pIx (wVar 1) (wVar 3)) (wC (.int 0))))) (wVar 13)) (wNil))) (gN 4))
  (wSeq (wAsg (wCall cp_law_rows (wCons (wComp (wSeqI (wVar 4)) 13 (wYes) (wOp pIx (wVar 0) (wVar 13))) (wNil))) (gN 5))
  (wSeq (wAsg (wLst (wNil)) (gN 6))
  (wSeq (wFor (wSeqI (wLst (wCons (wOp pIx (wVar 1) (wVar 2)) (wCons (wOp pIx (wVar 1) (wVar 3)) (wNil))))) (gTp 2 (gsCons (gN 7) (gsCons (gN 8) (gsNil)))) (wSeq (wAsg (wCall cp_law_rows (wCons (wComp (wSeqI (wVar 7)) 13 (wYes) (wOp pIx (wVar 0) (wVar 13))) (wNil))) (gN 9))
  (wDrop (wBM isLst (pMt fAppend) (wVar 6) (wCons (wCall cp_law_sums (wCons (wVar 7) (wCons (wVar 9) (wCons (wVar 8) (wCons (wVar 4) (wCons (wVar 5) (wNil))))))) (wNil))))))
  (wFor (wZip3 (wCons (wVar 5) (wCons (wOp pIx (wVar 6) (wC (.int 0))) (wCons (wOp pIx (wVar 6) (wC (.int 1))) (wNil))))) (gTp 3 (gsCons (gN 10) (gsCons (gN 11) (gsCons (gN 12) (gsNil))))) (wIf (wTest (wOp pNe (wVar 11) (wVar 12))) (wRet (wTup (wCons (wVar 2) (wCons (wVar 3) (wCons (wVar 10) (wNil)))))) (wNext))))))
theorem zip_at {tb : List Tab} {qs : List Nat} {i : Nat} {x : Tab} {n : Nat} (hx : tb[i]? = some x) (hn : qs[i]? = some n) : atI (List.zipWith (fun (x : Tab) n => T.tup [tG x.1, .ref n]) tb qs) (i : Int) = some (.tup [tG x.1, .ref n]) := by
  have h1 := (List.getElem?_eq_some_iff.mp hx).1
  have h2 := (List.getElem?_eq_some_iff.mp hn).1
  rw [atI_nn (by omega) (by rw [List.length_zipWith]; omega)]
  show (List.zipWith _ tb qs)[i]? = _
  rw [List.getElem?_zipWith, hx, hn]
theorem due_pair {D : Eds} {fr : List Nat} {tb : List Tab} {w : Int} {q : Nat} {qs : List Nat} {h : PH} {i j : Nat} {x y : Tab} {a4 a5 a6 a7 a8 a9 a10 a11 a12 : Option T} (F : FamOk fr tb w) (Tb : TabsAt h q qs tb) (hx : tb[i]? = some x) (hy : tb[j]? = some y)
    (hnone : unl fr x y = none → ∀ a4 a5 a6 a7 a8 a9 a10 a11 a12 h', Gro h h' → D.nx [some (.tup (tN fr)), some (.ref q), some (.int (i : Int)), some (.int (j : Int)), a4, a5, a6, a7, a8, a9, a10, a11, a12, none] h')
    (hsome : ∀ r, unl fr x y = some r → ∀ h', Gro h h' → D.rt (.tup [.int (i : Int), .int (j : Int), tI r]) h') :
    W_pair D [some (.tup (tN fr)), some (.ref q), some (.int (i : Int)), some (.int (j : Int)), a4, a5, a6, a7, a8, a9, a10, a11, a12, none] h := by
  have hf := F.hfr
  have hTx := F.tab x (List.mem_of_getElem? hx)
  have hTy := F.tab y (List.mem_of_getElem? hy)
  have hxl := hTx.grp.len hf
  have hyl := hTy.grp.len hf
  have hql := Tb.len
  have hi := (List.getElem?_eq_some_iff.mp hx).1
  have hj := (List.getElem?_eq_some_iff.mp hy).1
  have hn : qs[i]? = some (qs[i]'(by omega)) := List.getElem?_eq_getElem _
  generalize qs[i]'(by omega) = n at hn
  have hm : qs[j]? = some (qs[j]'(by omega)) := List.getElem?_eq_getElem _
  generalize qs[j]'(by omega) = m at hm
  unfold W_pair
  refine seq_cut fun U hU => ?_
  simp only [wAsg, gN, wCB, wCons, wNil, wComp, wSeqI, wOp, wC, pIx, pTuple, wVar, List.getElem?_cons_zero, List.getElem?_cons_succ, seqOf_of Tb.lst, zip_at hx hn, seqOf_tup, atI_0]
  refine comp_both (b := y.1) (by omega) (fun x K hK => ?_) (fun x => rfl) ?_ rfl
  · simp! only [seqOf_of Tb.lst, zip_at hy hm, atI_0]
    exact hK
  have hbl := both_len x.1 y.1
  have b1 := both_l (a := x.1) (b := y.1)
  have b2 := both_r (a := x.1) (b := y.1)
  have hbf : ∀ p ∈ both x.1 y.1, p < fr.length := fun p hp => hTx.grp.2.2 p (b1 p hp)
  have hun : unl fr x y = diff ((rowsK (kindsOf fr (both x.1 y.1))).zip ((sumsOf fr x (both x.1 y.1)).zip (sumsOf fr y (both x.1 y.1)))) := rfl
  generalize both x.1 y.1 = bo at *
  simp only [seqOf_of (get_app_new _ _), List.set_cons_zero, List.set_cons_succ]
  subst hU
  refine seq_cut fun U hU => ?_
  simp! only [if_true]
  refine comp_kinds (by omega) hbf (fun x => rfl) (fun x => rfl) ?_ trivial
  refine ⟨_, kindsOf fr bo, rfl, seqOf_of (get_app_new _ _), K23.of hf hbf (by omega), fun h1 R G1 hR e1 => ?_⟩
  replace G1 : Gro h h1 := ((Gro.app _ _).trans (Gro.app _ _)).trans G1
  subst hU
  refine seq_cut fun U hU => ?_
  simp! only [if_true]
  refine ⟨by decide, ?_⟩
  subst hU
  refine seq_cut fun U hU => ?_
  have lh : h.length ≤ h1.length := G1.len
  have Tb1 := (Tb.gro G1).gro (Gro.app _ [.lst []])
  simp only [wFor, wSeqI, wLst, wCons, wNil, wOp, wC, pIx, wVar, List.getElem?_cons_zero, List.getElem?_cons_succ, seqOf_of Tb1.lst, zip_at hx hn, zip_at hy hm]
  refine ⟨by rw [sizeLine_eq]; simp, ?_⟩
  have e1' := get_app_left (g := [Ob.lst []]) e1
  have hTo := get_app_new h1 (Ob.lst [])
  have hRT : R ≠ h1.length := by have := lt_of_get e1; omega
  have lq := Tb.lt
  have hqT : q ≠ h1.length := by have := lq.1; omega
  have hqsT : h1.length ∉ qs := fun hn => by have := lq.2 _ hn; omega
  have G1' : Gro h (h1 ++ [.lst []]) := G1.ap
  generalize h1.length = To at *
  generalize h1 ++ [Ob.lst []] = h2 at *
  have hL := get_app_new h2 (Ob.lst [.tup [tG x.1, .ref n], .tup [tG y.1, .ref m]])
  have hLT : To < h2.length := lt_of_get hTo
  simp only [seqOf_of hL]
  have hv : ∀ {g : List Nat}, (∀ p ∈ g, p < fr.length) → g.length ≤ 6 → (rowsK (kindsOf fr g)).length ≤ 1000 := fun {g} h1 h2 => by
    rw [rowsK_len]
    have := (K23.of hf h1 h2).vol
    omega
  refine forL_inv _ (fun d env h3 => ∃ a7 a8 a9 rl, env = [some (.tup (tN fr)), some (.ref q), some (.int (i : Int)), some (.int (j : Int)), some (.tup (tN bo)), some (.ref R), some (.ref To), a7, a8, a9, a10, a11, a12, none] ∧ Gro h h3 ∧ TabsAt h3 q qs tb ∧ h3[R]? = some (.lst ((rowsK (kindsOf fr bo)).map tI)) ∧ h3[h2.length]? = some (.lst [.tup [tG x.1, .ref n], .tup [tG y.1, .ref m]]) ∧ rl.length = d ∧ d ≤ 2 ∧ h3[To]? = some (.lst (rl.map T.ref)) ∧ ∀ (e : Nat) (A : Nat) (z : Tab), rl[e]? = some A → [x, y][e]? = some z → h3[A]? = some (.lst ((sumsOf fr z bo).map T.int)) ∧ A ≠ To)
    ⟨_, _, _, [], rfl, G1'.ap, Tb1.gro (Gro.app _ _), get_app_left e1', hL, rfl, by decide, get_app_left hTo, fun e A z h => by simp at h⟩ (fun i env h q => by obtain ⟨_, _, _, _, _, _, _, _, q, _⟩ := q; exact seqOf_of q) ?_ ?_
  · clear Tb1 e1' hTo hL hU G1' G1
    rintro d t env h3 ht ⟨a7, a8, a9, rl, rfl, G, Tb3, e3, hL, hrl, hd2, hTo, hA⟩
    obtain ⟨z, l, hz, rfl, hl, hTz, bz⟩ : ∃ z l, [x, y][d]? = some z ∧ t = .tup [tG z.1, .ref l] ∧ h3[l]? = some (.lst (z.2.map T.int)) ∧ TabOk fr w z ∧ ∀ p ∈ bo, p ∈ z.1 := by
      match d, ht with
      | 0, ht => cases ht; exact ⟨x, n, rfl, rfl, Tb3.at_ i x n hx hn, hTx, b1⟩
      | 1, ht => cases ht; exact ⟨y, m, rfl, rfl, Tb3.at_ j y m hy hm, hTy, b2⟩
    have hzl := hTz.grp.len hf
    have hd : d < 2 := (List.getElem?_eq_some_iff.mp hz).1
    simp only [gTp, gsCons, gsNil, gN, List.length_cons, List.length_nil, List.set_cons_zero, List.set_cons_succ, true_and, tG]
    refine seq_cut fun U hU => ?_
    simp! only [if_true]
    refine comp_kinds hzl hTz.grp.2.2 (fun x => rfl) (fun x => rfl) ?_ trivial
    refine ⟨_, kindsOf fr z.1, rfl, seqOf_of (get_app_new _ _), K23.of hf hTz.grp.2.2 hzl, fun h4 R9 G4 hR9 e4 => ?_⟩
    replace G4 : Gro h3 h4 := (Gro.app _ _).trans G4
    subst hU
    have hrw : ∀ r ∈ rowsK (kindsOf fr z.1), r.length = z.1.length := fun r hr => by rw [(rowsK_ok _ r hr).1]; simp [kindsOf]
    simp! only [lstOf_of (G4 _ _ hTo), true_and]
    refine ⟨z.1, .ref R9, .ref l, bo, .ref R, rowsK (kindsOf fr z.1), z.2, rowsK (kindsOf fr bo), rfl, seqOf_of e4, seqOf_of (G4 _ _ hl), seqOf_of (G4 _ _ e3), bz, hrw, fun r hr => rowsK_mem _ _ (row_seenG (rowsK_ok _ r hr) bz), rowsK_nodup _, hv hbf (by omega), by omega, fun h5 A G5 hA5 eA => ?_⟩
    have hTo5 := G5 _ _ (G4 _ _ hTo)
    have hAT : A ≠ To := by have := lt_of_get (G4 _ _ hTo); omega
    simp only [lstOf_of hTo5]
    refine ⟨by rw [List.length_append, List.length_map, sizeLine_eq]; simp only [List.length_cons, List.length_nil]; omega, _, _, _, rl ++ [A], rfl, ?_, ?_, set_ne (G5 _ _ (G4 _ _ e3)) (Ne.symm hRT), set_ne (G5 _ _ (G4 _ _ hL)) (by omega), by simp [hrl], by omega, ?_, fun e A' z' h6 h7 => ?_⟩
    · exact ((G.trans G4).trans G5).set lh
    · exact ((Tb3.gro G4).gro G5).ext (Ext.set To _ _) hqT hqsT
    · rw [set_get hTo5]
      simp
    · rw [List.getElem?_append] at h6
      split at h6
      · have := hA e A' z' h6 h7
        exact ⟨set_ne (G5 _ _ (G4 _ _ this.1)) (Ne.symm this.2), this.2⟩
      · rename_i hel
        have he : e = rl.length := by
          have := (List.getElem?_eq_some_iff.mp h6).1
          simp at this
          omega
        subst he
        rw [hrl, hz] at h7
        cases h7
        simp at h6
        subst h6
        exact ⟨set_ne eA (Ne.symm hAT), hAT⟩
  clear Tb1 e1' hTo hL G1' G1 e1
  rintro env h3 ⟨a7, a8, a9, rl, rfl, G, Tb3, e3, hL, hrl, hd2, hTo, hA⟩
  obtain ⟨A, B, rfl⟩ : ∃ A B, rl = [A, B] := by
    match rl, hrl with
    | [A, B], _ => exact ⟨A, B, rfl⟩
  have eA := (hA 0 A x rfl rfl).1
  have eB := (hA 1 B y rfl rfl).1
  show U _ _
  subst hU
  simp! only [seqOf_of e3, seqOf_of hTo, atI_0, atI_1, seqOf_of eA, seqOf_of eB]
  rw [zip3_tZ]
  generalize (rowsK (kindsOf fr bo)).zip ((sumsOf fr x bo).zip (sumsOf fr y bo)) = zl at hun ⊢
  refine forL_inv _ (fun d env h => ∃ a10 a11 a12, env = [some (.tup (tN fr)), some (.ref q), some (.int (i : Int)), some (.int (j : Int)), some (.tup (tN bo)), some (.ref R), some (.ref To), a7, a8, a9, a10, a11, a12, none] ∧ h = h3 ∧ ∀ z ∈ zl.take d, z.2.1 = z.2.2) ⟨_, _, _, rfl, rfl, by simp⟩ (fun i env h q => by obtain ⟨_, _, _, _, rfl, _⟩ := q; exact ⟨seqOf_of e3, seqOf_of eA, seqOf_of eB⟩) ?_ ?_
  · rintro d t env h ht ⟨a, b, c, rfl, rfl, hz⟩
    obtain ⟨z, hzi, rfl⟩ := map_get ht
    simp! only [tZ, true_and]
    by_cases e : z.2.1 = z.2.2
    · have e' : (z.2.1 == z.2.2) = true := by simpa using e
      simp! only [e']
      refine ⟨_, _, _, rfl, fun y hy => ?_⟩
      rw [take_snoc hzi] at hy
      rcases List.mem_append.mp hy with q | q
      · exact hz y q
      · rw [List.mem_singleton.mp q]; exact e
    · have e' : (z.2.1 == z.2.2) = false := by simpa using e
      simp! only [e']
      refine ⟨by decide, ?_⟩
      refine hsome z.1 ?_ _ G
      rw [hun, diff, find_first hzi (by simpa using e) fun y hy => by simpa using hz y hy]
      rfl
  · rintro env h ⟨a, b, c, rfl, rfl, hz⟩
    rw [List.length_map, List.take_length] at hz
    refine hnone ?_ _ _ _ _ _ _ _ _ _ _ G
    rw [hun, diff, find_not fun y hy => by simpa using hz y hy]
    rfl
noncomputable def cp_law_due : CP := fun ts h k => ∃ fr tb w q qs, ts = [.tup (tN fr), .ref q] ∧ FamOk fr tb w ∧ TabsAt h q qs tb ∧ ∀ v h', Agr fr tb v → Gro h h' → k v h'
theorem len_law_due : ∀ ts h k, cp_law_due ts h k → ts.length = 2 := by
  rintro ts h k ⟨_, _, _, _, _, rfl, _⟩
  rfl
theorem vc_law_due : ∀ ts h k, cp_law_due ts h k → W_law_due cp_law_rows cp_law_sums { nx := fun _ h' => k .non h', rt := k } (begin_ 14 ts) h := by
  rintro ts h0 k ⟨fr, tb, w, q, qs, rfl, F, Tb0, hk⟩
  have hm8 := F.most
  unfold W_law_due
  refine seq_cut fun U hU => ?_
  simp only [wFor, wRng1, wCons, wNil, wCB, pLen, wVar, begin_, List.map_cons, List.map_nil, List.length_cons, List.length_nil, List.cons_append, List.nil_append, List.replicate, List.getElem?_cons_zero, List.getElem?_cons_succ, Nat.reduceSub, Nat.reduceAdd, seqOf_of Tb0.lst, Tb0.its]
  refine ⟨by omega, by omega, ?_⟩
  rw [show ((tb.length : Int)).toNat = tb.length by omega]
  refine forL_inv _ (fun i env h => ∃ a2 a3 a4 a5 a6 a7 a8 a9 a10 a11 a12, env = [some (.tup (tN fr)), some (.ref q), a2, a3, a4, a5, a6, a7, a8, a9, a10, a11, a12, none] ∧ Gro h0 h ∧ Clr fr tb i 0) ⟨_, _, _, _, _, _, _, _, _, _, _, rfl, Gro.refl _, fun i' j' x' y' h1 h2 => by omega⟩ (fun _ _ _ _ => trivial) ?_ ?_
  · rintro i t env h ht ⟨a2, a3, a4, a5, a6, a7, a8, a9, a10, a11, a12, rfl, G, hC⟩
    obtain ⟨hi, rfl⟩ := rng_get ht
    have Tb := Tb0.gro G
    simp only [wFor, wRng2, wCons, wNil, wCB, pLen, wVar, wOp, pAdd, wC, gN, List.set_cons_zero, List.set_cons_succ, List.getElem?_cons_zero, List.getElem?_cons_succ, seqOf_of Tb.lst, Tb.its]
    refine ⟨by omega, ?_⟩
    rw [show ((i : Int) + 1) = ((i + 1 : Nat) : Int) by omega, show ((tb.length : Int) - ((i + 1 : Nat) : Int)).toNat = tb.length - (i + 1) by omega]
    have hx : tb[i]? = some (tb[i]'(by omega)) := List.getElem?_eq_getElem _
    generalize tb[i]'(by omega) = x at hx
    refine forL_inv _ (fun d env h => ∃ a3 a4 a5 a6 a7 a8 a9 a10 a11 a12, env = [some (.tup (tN fr)), some (.ref q), some (.int (i : Int)), a3, a4, a5, a6, a7, a8, a9, a10, a11, a12, none] ∧ Gro h0 h ∧ Clr fr tb i (i + 1 + d)) ⟨_, _, _, _, _, _, _, _, _, _, rfl, G, fun i' j' x' y' h1 h2 => hC i' j' x' y' h1 (by omega)⟩ (fun _ _ _ _ => trivial) ?_ ?_
    · clear G hC Tb
      clear h
      rintro d t env h ht ⟨a3, a4, a5, a6, a7, a8, a9, a10, a11, a12, rfl, G, hC⟩
      obtain ⟨hd, rfl⟩ := rng2_get ht
      have Tb := Tb0.gro G
      have hy : tb[i + 1 + d]? = some (tb[i + 1 + d]'(by omega)) := List.getElem?_eq_getElem _
      generalize tb[i + 1 + d]'(by omega) = y at hy
      simp only [gN, List.set_cons_zero, List.set_cons_succ]
      refine due_pair F Tb hx hy (fun e b4 b5 b6 b7 b8 b9 b10 b11 b12 h1 G1 => ?_) fun r e h1 G1 => ?_
      · refine ⟨_, _, _, _, _, _, _, _, _, _, rfl, G.trans G1, fun i' j' x' y' h1 h2 h3 h4 => ?_⟩
        by_cases q : i' = i ∧ j' = i + 1 + d
        · obtain ⟨rfl, rfl⟩ := q
          rw [hx] at h3
          rw [hy] at h4
          cases h3
          cases h4
          exact e
        · exact hC i' j' x' y' h1 (by omega) h3 h4
      · exact hk _ _ (.inr ⟨i, i + 1 + d, x, y, r, rfl, by omega, hx, hy, e, hC⟩) (G.trans G1)
    · rintro env h ⟨a3, a4, a5, a6, a7, a8, a9, a10, a11, a12, rfl, G, hC⟩
      refine ⟨_, _, _, _, _, _, _, _, _, _, _, rfl, G, fun i' j' x' y' h1 h2 h3 h4 => hC i' j' x' y' h1 ?_ h3 h4⟩
      have := (List.getElem?_eq_some_iff.mp h4).1
      simp only [rngL, List.length_map, List.length_range]
      omega
  · rintro env h ⟨a2, a3, a4, a5, a6, a7, a8, a9, a10, a11, a12, rfl, G, hC⟩
    show U _ _
    subst hU
    simp! only [if_true]
    refine hk _ _ (.inl ⟨rfl, fun i j x y h1 h2 h3 => hC i j x y h1 ?_ h2 h3⟩) G
    have := (List.getElem?_eq_some_iff.mp h2).1
    simp only [rngL, List.length_map, List.length_range]
    omega
noncomputable def cp_law_right : CP := fun ts h k => ∃ fr tb w q qs, ts = [.tup (tN fr), .ref q] ∧ FamOk fr tb w ∧ TabsAt h q qs tb ∧ ∀ h', Gro h h' → k (.bl true) h'
theorem len_law_right : ∀ ts h k, cp_law_right ts h k → ts.length = 2 := by
  rintro ts h k ⟨_, _, _, _, _, rfl, _⟩
  rfl
theorem eqT_tTab (h : PH) (n : Nat) (x y : Tab) : eqT h (n + 3) (tTab x) (tTab y) = some (decide (x = y)) := by
  show eqZ (eqT h (n + 2)) [tG x.1, tI x.2] [tG y.1, tI y.2] = _
  simp only [eqZ, tG, eqT_tN, eqT_tI]
  obtain ⟨a, b⟩ := x
  obtain ⟨c, d⟩ := y
  simp only [Prod.mk.injEq, Bool.decide_and, Bool.and_true]
theorem eqT_fam (h : PH) (n : Nat) (fr : List Nat) (tb : List Tab) : eqT h (n + 5) (famT fr tb) (famT fr tb) = some true := by
  show eqZ (eqT h (n + 4)) [.tup (tN fr), .tup (tb.map tTab)] [.tup (tN fr), .tup (tb.map tTab)] = _
  simp only [eqZ, eqT_tN]
  have : eqT h (n + 4) (.tup (tb.map tTab)) (.tup (tb.map tTab)) = some (decide (tb = tb)) := eqZ_map (fun x y => eqT_tTab h n x y) tb tb
  rw [this]
  simp
theorem Agr.eq {fr : List Nat} {tb : List Tab} {v : T} {h : PH} (a : Agr fr tb v) : eqT h 40 v v = some true := by
  rcases a with ⟨rfl, _⟩ | ⟨i, j, x, y, r, rfl, _⟩
  · rfl
  · show eqZ (eqT h 39) [.int (i : Int), .int (j : Int), tI r] [.int (i : Int), .int (j : Int), tI r] = _
    simp only [eqZ, eqT_i h 38, eqT_tI h 37, decide_true, Bool.and_self]
theorem vc_law_right : ∀ ts h k, cp_law_right ts h k → W_law_right cp_family_of cp_agree cp_law_due { nx := fun _ h' => k .non h', rt := k } (begin_ 7 ts) h := by
  rintro ts h0 k ⟨fr, tb, w, q, qs, rfl, F, Tb, hk⟩
  unfold W_law_right
  refine seq_cut fun U hU => ?_
  simp! only [begin_]
  refine ⟨_, fr, tb, w, _, q, rfl, .inl rfl, F, Tb.lst, Tb.its, Tb.item, fun h1 G1 => ?_⟩
  subst hU
  refine seq_cut fun U hU => ?_
  simp! only [if_true]
  refine ⟨fr, tb, w, rfl, F, fun v h2 av G2 => ?_⟩
  have Tb2 := (Tb.gro G1).gro G2
  subst hU
  refine seq_cut fun U hU => ?_
  simp! only [if_true]
  refine ⟨fr, tb, w, q, qs, rfl, F, Tb2, fun v' h3 av' G3 => ?_⟩
  cases av.one av'
  have Tb3 := Tb2.gro G3
  subst hU
  refine seq_cut fun U hU => ?_
  simp! only [if_true]
  refine ⟨_, fr, tb, w, _, q, rfl, .inl rfl, F, Tb3.lst, Tb3.its, Tb3.item, fun h4 G4 => ?_⟩
  have G := ((G1.trans G2).trans G3).trans G4
  simp! only [eqT_fam (n := 35), av.eq]
  subst hU
  rcases av with ⟨rfl, _⟩ | ⟨i, j, x, y, r, rfl, _, hx, _, hr, _⟩
  · simp! only [if_true]
    exact hk _ G
  · have hrl := unl_len hr
    have hTx := F.tab x (List.mem_of_getElem? hx)
    have hxl := hTx.grp.len F.hfr
    have hbl := both_len x.1 y.1
    simp! only [tyN, atI_0, atI_1, atI_2, tI]
    refine ⟨by rw [sizeLine_eq]; simp, ?_⟩
    simp! only [lstOf_of (get_app_new _ _), lstOf_of (get_app_left (get_app_new _ _)), seqOf_of (get_app_new _ _)]
    refine ⟨by rw [sizeLine_eq, List.length_map]; omega, ?_⟩
    have hN := get_app_new (h4 ++ [Ob.lst [T.int (i : Int), T.int (j : Int)]] ++ [Ob.lst (r.map T.int)]) (Ob.lst (T.int (i : Int) :: T.int (j : Int) :: r.map T.int))
    have GN : Gro h0 (h4 ++ [Ob.lst [T.int (i : Int), T.int (j : Int)]] ++ [Ob.lst (r.map T.int)] ++ [Ob.lst (T.int (i : Int) :: T.int (j : Int) :: r.map T.int)]) := G.ap.ap.ap
    generalize h4 ++ [Ob.lst [T.int (i : Int), T.int (j : Int)]] ++ [Ob.lst (r.map T.int)] ++ [Ob.lst (T.int (i : Int) :: T.int (j : Int) :: r.map T.int)] = h5 at hN GN ⊢
    refine compL_inv _ (fun i acc h => h = h5 ∧ acc = []) ⟨rfl, rfl⟩ (fun i acc h q => by rw [q.1]; exact seqOf_of hN) (fun i acc h q => by rw [q.2]; decide) ?_ ?_
    · rintro i t acc h ht ⟨rfl, rfl⟩
      have : ∃ v, t = .int v := by
        rcases List.mem_cons.mp (List.mem_of_getElem? ht) with z | z
        · exact ⟨_, z⟩
        · rcases List.mem_cons.mp z with z | z
          · exact ⟨_, z⟩
          · obtain ⟨v, _, rfl⟩ := List.mem_map.mp z
            exact ⟨_, rfl⟩
      obtain ⟨v, rfl⟩ := this
      simp! only [tyN]
      exact ⟨trivial, trivial⟩
    · rintro acc h ⟨rfl, rfl⟩
      refine ⟨by decide, ?_⟩
      rw [eqT_ref (n := 39) (get_app_left (get_app_new _ _)) (get_app_new _ _)]
      exact hk _ GN.ap.ap
theorem sum_set : ∀ (l : List Int) (i : Nat) (c v : Int), l[i]? = some c → (l.set i v).sum = l.sum - c + v
  | [], i, c, v, h => by simp at h
  | a :: l, 0, c, v, h => by
    simp at h
    subst h
    simp
    omega
  | a :: l, i + 1, c, v, h => by
    have := sum_set l i c v (by simpa using h)
    simp [this]
    omega
theorem fst_put {tb : List Tab} {i : Nat} {x : Tab} {cs : List Int} (hx : tb[i]? = some x) : (tb.set i (x.1, cs)).map (·.1) = tb.map (·.1) := by
  rw [List.map_set]
  refine List.ext_getElem? fun j => ?_
  rw [List.getElem?_set]
  split
  · rename_i e
    subst e
    have := (List.getElem?_eq_some_iff.mp hx).1
    rw [List.getElem?_map, hx, List.length_map, if_pos this]
    rfl
  · rfl
theorem tabs_put {h : PH} {q : Nat} {qs : List Nat} {tb : List Tab} {i n : Nat} {x : Tab} {cs : List Int} (t : TabsAt h q qs tb) (hx : tb[i]? = some x) (hn : qs[i]? = some n) : TabsAt (h.set n (.lst (cs.map T.int))) q qs (tb.set i (x.1, cs)) := by
  have hnq : n ≠ q := fun e => t.ne (e ▸ List.mem_of_getElem? hn)
  refine ⟨?_, by rw [List.length_set]; exact t.len, t.nd, t.ne, fun j y m hy hm => ?_⟩
  · rw [List.getElem?_set_ne hnq, t.lst]
    congr 2
    refine List.ext_getElem? fun j => ?_
    rw [List.getElem?_zipWith, List.getElem?_zipWith, List.getElem?_set]
    by_cases e : i = j
    · subst e
      have := (List.getElem?_eq_some_iff.mp hx).1
      rw [if_pos rfl, if_pos this, hx, hn]
    · rw [if_neg e]
  · rw [List.getElem?_set] at hy
    split at hy
    · rename_i e
      subst e
      have e2 : m = n := by rw [hn] at hm; exact (Option.some.inj hm).symm
      subst e2
      split at hy
      · cases hy
        exact set_get (t.at_ i x m hx hn)
      · cases hy
    · rename_i e
      refine set_ne (t.at_ j y m hy hm) fun z => e ?_
      subst z
      have h1 := (List.getElem?_eq_some_iff.mp hn).1
      exact (List.getElem?_inj h1 t.nd).mp (hn.trans hm.symm)
theorem fam_put {fr : List Nat} {tb : List Tab} {w : Int} {i : Nat} {x : Tab} {cs : List Int} (F : FamOk fr tb w) (hx : tb[i]? = some x) (hl : cs.length = x.2.length) (hn : ∀ c ∈ cs, 0 ≤ c) (hs : cs.sum = x.2.sum) : FamOk fr (tb.set i (x.1, cs)) w := by
  have hf := fst_put (cs := cs) hx
  have hT := F.tab x (List.mem_of_getElem? hx)
  refine ⟨F.hfr, F.hvol, by rw [List.length_set]; exact F.pos, by rw [List.length_set]; exact F.most, fun y hy => ?_, fun m hm => ?_, ?_, F.w1, F.w9⟩
  · rcases List.mem_or_eq_of_mem_set hy with h | rfl
    · exact F.tab y h
    · exact ⟨hT.grp, hl.trans hT.len, hn, hs.trans hT.sum⟩
  · obtain ⟨y, hy, hmy⟩ := F.all m hm
    have : y.1 ∈ (tb.set i (x.1, cs)).map (·.1) := by rw [hf]; exact List.mem_map.mpr ⟨y, hy, rfl⟩
    obtain ⟨z, hz, e⟩ := List.mem_map.mp this
    exact ⟨z, hz, e ▸ hmy⟩
  · have := F.rows
    have e : ∀ l : List Tab, (l.map fun x => volG fr x.1) = (l.map (·.1)).map (volG fr) := fun l => by rw [List.map_map]; rfl
    rw [e] at this ⊢
    rw [hf]
    exact this
theorem idx_tI (h : PH) (r : List Int) : ∀ rs : List (List Int), r ∈ rs → idxT h (tI r) (rs.map tI) = some (rs.idxOf r)
  | [], hr => by simp at hr
  | a :: rs, hr => by
    show (match eqT h 39 (tI a) (tI r) with | some true => some 0 | some false => (idxT h (tI r) (rs.map tI)).map (· + 1) | none => none : Option Nat) = _
    rw [eqT_tI h 37]
    by_cases e : a = r
    · subst e
      simp
    · have hr' : r ∈ rs := by
        rcases List.mem_cons.mp hr with z | z
        · exact absurd z.symm e
        · exact z
      have e2 : (a == r) = false := by simpa using e
      simp only [e, decide_false, idx_tI h r rs hr', List.idxOf_cons, e2, cond_false, Option.map_some]
theorem row_set {ks : List Nat} {r : List Int} {p k : Nat} {v : Int} (hr : RowOk ks r) (hk : ks[p]? = some k) (h0 : 0 ≤ v) (h1 : v < k) : RowOk ks (r.set p v) := by
  refine ⟨by rw [List.length_set]; exact hr.1, fun i k' x hk' hx => ?_⟩
  rw [List.getElem?_set] at hx
  split at hx
  · rename_i e
    subst e
    rw [hk] at hk'
    cases hk'
    split at hx
    · cases hx; exact ⟨h0, h1⟩
    · cases hx
  · exact hr.2 i k' x hk' hx
noncomputable def cp_law_moved : CP := fun ts h k => ∃ ns fr tb w q qs, ts = [.ref 1, .tup (tN fr), .ref q] ∧ StOk 1 0 ns h ∧ FamOk fr tb w ∧ TabsAt h q qs tb ∧ 1 < q ∧ (∀ n ∈ qs, 1 < n) ∧ ∀ tb' h', StOk 1 0 ns h' → FamOk fr tb' w → TabsAt h' q qs tb' → k .non h'
theorem len_law_moved : ∀ ts h k, cp_law_moved ts h k → ts.length = 3 := by
  rintro ts h k ⟨_, _, _, _, _, _, rfl, _⟩
  rfl
theorem vc_law_moved : ∀ ts h k, cp_law_moved ts h k → W_law_moved cp_law_take cp_law_rows { nx := fun _ h' => k .non h', rt := k } (begin_ 12 ts) h := by
  rintro ts h0 k ⟨ns, fr, tb, w, q, qs, rfl, S0, F, Tb0, hq, hqs, hK⟩
  have hq1 : q ≠ 1 := by omega
  have hqs1 : 1 ∉ qs := fun hn => by have := hqs 1 hn; omega
  have hp := F.pos
  have hm8 := F.most
  have hf := F.hfr
  have hql := Tb0.len
  unfold W_law_moved
  refine seq_cut fun U hU => ?_
  simp! only [begin_, seqOf_of Tb0.lst, Tb0.its]
  refine ⟨1, 0, ns, _, rfl, S0, by omega, by omega, fun i h1 r0 r1 S1 X1 => ?_⟩
  have Tb1 := Tb0.ext X1 hq1 hqs1
  clear Tb0 S0 X1
  clear h0
  obtain ⟨i, rfl⟩ : ∃ r' : Nat, i = r' := ⟨i.toNat, by omega⟩
  have hx : tb[i]? = some (tb[i]'(by omega)) := List.getElem?_eq_getElem _
  generalize tb[i]'(by omega) = x at hx
  have hn : qs[i]? = some (qs[i]'(by omega)) := List.getElem?_eq_getElem _
  generalize qs[i]'(by omega) = n at hn
  have hT := F.tab x (List.mem_of_getElem? hx)
  have hgl := hT.grp.len hf
  have hg1 : 1 ≤ x.1.length := by
    have := hT.grp.1
    cases e : x.1 with
    | nil => exact absurd e this
    | cons _ _ => simp
  have hn1 := hqs n (List.mem_of_getElem? hn)
  have hK3 := K23.of hf hT.grp.2.2 hgl
  have hv1 := vol_pos hK3.2
  have hv2 := hK3.vol
  have hxl : x.2.length = vol (kindsOf fr x.1) := hT.len
  simp! only [seqOf_of Tb1.lst, zip_at hx hn, true_and]
  simp only [tG]
  subst hU
  refine seq_cut fun U hU => ?_
  simp! only [if_true]
  refine comp_kinds hgl hT.grp.2.2 (fun x => rfl) (fun x => rfl) ?_ trivial
  refine ⟨_, kindsOf fr x.1, rfl, seqOf_of (get_app_new _ _), hK3, fun h2 R G2 hR e2 => ?_⟩
  replace G2 : Gro h1 h2 := (Gro.app _ _).trans G2
  replace hR : h1.length ≤ R := by simp at hR; omega
  have hlt := Tb1.lt
  have hst := S1.lt
  have Tb2 := Tb1.gro G2
  have S2 := S1.gro G2
  have hR1 : 1 < R := by omega
  clear Tb1 S1 G2 hst
  subst hU
  refine seq_cut fun U hU => ?_
  simp! only [seqOf_of e2, List.length_map, rowsK_len]
  refine ⟨1, 0, ns, _, rfl, S2, by omega, by omega, fun s h3 s0 s1 S3 X3 => ?_⟩
  have Tb3 := Tb2.ext X3 hq1 hqs1
  have e3 := X3 _ _ (by omega) e2
  obtain ⟨s, rfl⟩ : ∃ s' : Nat, s = s' := ⟨s.toNat, by omega⟩
  have hrl := rowsK_len (kindsOf fr x.1)
  have hr : (rowsK (kindsOf fr x.1))[s]? = some ((rowsK (kindsOf fr x.1))[s]'(by omega)) := List.getElem?_eq_getElem _
  generalize (rowsK (kindsOf fr x.1))[s]'(by omega) = r at hr
  have hrok := rowsK_ok _ r (List.mem_of_getElem? hr)
  clear X3 Tb2 S2 e2 hR
  subst hU
  refine seq_cut fun U hU => ?_
  simp! only [seqOf_of e3, map_at hr, tI]
  have lO : 1 < h3.length ∧ R < h3.length ∧ q < h3.length ∧ ∀ n ∈ qs, n < h3.length := ⟨S3.lt.1, lt_of_get e3, Tb3.lt.1, Tb3.lt.2⟩
  have hO := get_app_new h3 (Ob.lst (r.map T.int))
  have S4 := S3.gro (Gro.app _ [Ob.lst (r.map T.int)])
  have Tb4 := Tb3.gro (Gro.app _ [Ob.lst (r.map T.int)])
  have e4 := Gro.app _ [Ob.lst (r.map T.int)] _ _ e3
  generalize h3 ++ [Ob.lst (r.map T.int)] = h4 at hO S4 Tb4 e4 ⊢
  generalize h3.length = O at hO lO ⊢
  clear S3 Tb3 e3 hlt
  clear h1 h2 h3
  subst hU
  refine seq_cut fun U hU => ?_
  simp only [wFor, wRng1, wCons, wNil, wOp, pAdd, wC, wCall, wVar, List.getElem?_cons_zero, List.getElem?_cons_succ]
  refine ⟨1, 0, ns, 2, rfl, S4, by decide, by decide, fun m h5 m0 m1 S5 X5 => ?_⟩
  have hO5 := X5 _ _ (by omega) hO
  have e5 := X5 _ _ (by omega) e4
  have Tb5 := Tb4.ext X5 hq1 hqs1
  clear S4 X5 hO e4 Tb4
  refine ⟨by omega, by omega, ?_⟩
  refine forL_inv _ (fun d env h => ∃ a8 a9 r, env = [some (.ref 1), some (.tup (tN fr)), some (.ref q), some (.tup (tN x.1)), some (.ref n), some (.ref R), some (.int (s : Int)), some (.ref O), a8, a9, none, none] ∧ StOk 1 0 ns h ∧ TabsAt h q qs tb ∧ h[R]? = some (.lst ((rowsK (kindsOf fr x.1)).map tI)) ∧ h[O]? = some (.lst (r.map T.int)) ∧ RowOk (kindsOf fr x.1) r) ⟨_, _, r, rfl, S5, Tb5, e5, hO5, hrok⟩ (fun _ _ _ _ => trivial) ?_ ?_
  · clear S5 Tb5 e5 hO5 hrok hr hU
    clear h4 h5 r
    rintro d t env h ht ⟨a8, a9, r, rfl, S, Tb, e, hO, hr⟩
    simp only [gN, List.set_cons_zero, List.set_cons_succ]
    refine seq_cut fun U hU => ?_
    simp! only [tN_len]
    refine ⟨1, 0, ns, _, rfl, S, by omega, by omega, fun p h2 p0 p1 S2 X2 => ?_⟩
    have hO2 := X2 _ _ (by omega) hO
    have e2 := X2 _ _ (by omega) e
    have Tb2 := Tb.ext X2 hq1 hqs1
    obtain ⟨p, rfl⟩ : ∃ p' : Nat, p = p' := ⟨p.toNat, by omega⟩
    have hpg : x.1[p]? = some (x.1[p]'(by omega)) := List.getElem?_eq_getElem _
    generalize x.1[p]'(by omega) = g at hpg
    have hgf := hT.grp.2.2 g (List.mem_of_getElem? hpg)
    have hgk : fr[g]? = some (fr[g]'hgf) := List.getElem?_eq_getElem _
    generalize fr[g]'hgf = f at hgk
    have hf2 := hf.2.2 f (List.mem_of_getElem? hgk)
    have hkp : (kindsOf fr x.1)[p]? = some f := by
      unfold kindsOf
      rw [List.getElem?_map, hpg]
      simp [hgk]
    have hrl' : r.length = x.1.length := by rw [hr.1]; simp [kindsOf]
    have hv : r[p]? = some (r[p]'(by omega)) := List.getElem?_eq_getElem _
    generalize r[p]'(by omega) = v at hv
    have e1 : ixN r.length (p : Int) = some p := by rw [ixN_nn (by omega) (by omega)]; simp
    subst hU
    simp! only [seqOf_of hO2, map_at hv, tN_at hpg, tN_at hgk, lstOf_of hO2, List.length_map, e1, ← List.map_set]
    refine ⟨by omega, _, _, _, rfl, S2.setN (by omega) (by omega), Tb2.ext (Ext.set O _ _) (by omega) (fun hn => by have := lO.2.2.2 O hn; omega), set_ne e2 (by omega), set_get hO2, ?_⟩
    exact row_set hr hkp (Int.emod_nonneg _ (by omega)) (Int.emod_lt_of_pos _ (by omega))
  clear S5 Tb5 e5 hO5 hrok
  clear h4 h5
  rintro env h ⟨a8, a9, r', rfl, S, Tb, e, hO, hr'⟩
  show U _ _
  subst hU
  refine seq_cut fun U hU => ?_
  have hmem := rowsK_mem _ _ hr'
  have hidx : idxT h (.tup (r'.map T.int)) ((rowsK (kindsOf fr x.1)).map tI) = some ((rowsK (kindsOf fr x.1)).idxOf r') := idx_tI h r' _ hmem
  have hil := List.idxOf_lt_length_of_mem hmem
  generalize (rowsK (kindsOf fr x.1)).idxOf r' = gi at hidx hil
  simp! only [seqOf_of e, seqOf_of hO, hidx]
  subst hU
  have hc := Tb.at_ i x n hx hn
  have hs : x.2[s]? = some (x.2[s]'(by omega)) := List.getElem?_eq_getElem _
  generalize x.2[s]'(by omega) = c at hs
  have c0 := hT.nn c (List.mem_of_getElem? hs)
  have ht : (x.2.set s (c - 1))[gi]? = some ((x.2.set s (c - 1))[gi]'(by rw [List.length_set]; omega)) := List.getElem?_eq_getElem _
  generalize (x.2.set s (c - 1))[gi]'(by rw [List.length_set]; omega) = d at ht
  simp! only [seqOf_of hc, map_at hs]
  split
  · rename_i hc0
    have hc0 : 0 < c := by simpa using hc0
    have e1 : ixN x.2.length (s : Int) = some s := by rw [ixN_nn (by omega) (by omega)]; simp
    have e2 : ixN x.2.length (gi : Int) = some gi := by rw [ixN_nn (by omega) (by omega)]; simp
    have e3 := set_get (o := .lst ((x.2.set s (c - 1)).map T.int)) hc
    simp only [lstOf_of hc, List.length_map, e1, ← List.map_set, seqOf_of e3, map_at ht, lstOf_of e3, List.length_set, e2]
    rw [List.set_set]
    have nn1 : ∀ y ∈ x.2.set s (c - 1), 0 ≤ y := fun y hy => by
      rcases List.mem_or_eq_of_mem_set hy with h | rfl
      · exact hT.nn y h
      · omega
    have d0 := nn1 d (List.mem_of_getElem? ht)
    refine hK _ _ (S.setN (by omega) (by omega)) (fam_put F hx (by simp) (fun y hy => ?_) ?_) (tabs_put Tb hx hn)
    · rcases List.mem_or_eq_of_mem_set hy with h | rfl
      · exact nn1 y h
      · omega
    · rw [sum_set _ _ _ _ ht, sum_set _ _ _ _ hs]
      omega
  · exact hK _ _ S F Tb
theorem zip_map_self {α β : Type} (f : α → β) : ∀ S : List α, S.zip (S.map f) = S.map fun s => (s, f s)
  | [] => rfl
  | a :: S => by rw [List.map_cons, List.zip_cons_cons, zip_map_self f S, List.map_cons]
theorem seen_seen (gs : List Nat) (rs : List Int) (ps qs : List Nat) (h : ∀ q ∈ qs, q ∈ ps) : seenI ps (seenI gs rs ps) qs = seenI gs rs qs := by
  unfold seenI
  refine List.map_congr_left fun q hq => ?_
  have hlt : ps.idxOf q < ps.length := List.idxOf_lt_length_of_mem (h q hq)
  have e := List.getElem_idxOf (xs := ps) (x := q) hlt
  rw [List.getD_eq_getElem?_getD, List.getElem?_map, List.getElem?_eq_getElem hlt, e]
  rfl
theorem sumZ_map (ps qs : List Nat) (d : List Int) (f : List Int → Int) : ∀ S : List (List Int), sumZ ps qs (S.map fun s => (s, f s)) d = (S.map fun s => if seenI ps s qs = d then f s else 0).sum
  | [] => rfl
  | a :: S => by rw [List.map_cons, sumZ_cons, sumZ_map ps qs d f S, List.map_cons, List.sum_cons]
theorem sum_pick {S : List (List Int)} {s0 : List Int} {c : Int} {P : List Int → Prop} [DecidablePred P] {f : List Int → Int} (hnd : S.Nodup) (hs : s0 ∈ S) :
    (S.map fun s => if P s then (if s0 = s then c else 0) + f s else 0).sum = (if P s0 then c else 0) + (S.map fun s => if P s then f s else 0).sum := by
  induction S with
  | nil => simp at hs
  | cons a S ih =>
    have hnd' := List.nodup_cons.mp hnd
    rw [List.map_cons, List.map_cons, List.sum_cons, List.sum_cons]
    by_cases e : s0 = a
    · subst e
      have hz : (S.map fun s => if P s then (if s0 = s then c else 0) + f s else 0) = S.map fun s => if P s then f s else 0 := List.map_congr_left fun s hs' => by
        have : ¬ s0 = s := fun z => hnd'.1 (z ▸ hs')
        simp [this]
      rw [hz]
      split <;> simp <;> omega
    · rw [ih hnd'.2 (by rcases List.mem_cons.mp hs with h | h; exact absurd h e; exact h)]
      simp only [e, if_false]
      split <;> simp <;> omega
theorem sums_sums {g ps qs : List Nat} {S : List (List Int)} {d : List Int} (hnd : S.Nodup) (hq : ∀ q ∈ qs, q ∈ ps) : ∀ rc : List (List Int × Int), (∀ x ∈ rc, seenI g x.1 ps ∈ S) → sumZ ps qs (S.zip (S.map (sumZ g ps rc))) d = sumZ g qs rc d
  | [], _ => by
    rw [zip_map_self, sumZ_map, sumZ_nil]
    have : (S.map fun s => if seenI ps s qs = d then sumZ g ps [] s else 0) = S.map fun _ => (0 : Int) := List.map_congr_left fun s _ => by rw [sumZ_nil]; split <;> rfl
    rw [this]
    clear this hnd
    induction S with
    | nil => rfl
    | cons _ _ ih => rw [List.map_cons, List.sum_cons, ih (fun x hx => by simp at hx)]; rfl
  | x :: rc, h => by
    have ih := sums_sums (d := d) hnd hq rc fun y hy => h y (List.mem_cons_of_mem _ hy)
    rw [zip_map_self, sumZ_map] at ih ⊢
    have e : (S.map fun s => if seenI ps s qs = d then sumZ g ps (x :: rc) s else 0) = S.map fun s => if seenI ps s qs = d then (if seenI g x.1 ps = s then x.2 else 0) + sumZ g ps rc s else 0 := List.map_congr_left fun s _ => by rw [sumZ_cons]
    rw [e, sum_pick (P := fun s => seenI ps s qs = d) hnd (h x List.mem_cons_self), ih, sumZ_cons, seen_seen g x.1 ps qs hq]
theorem tab_sums {fr : List Nat} {cs : List Int} {g bo : List Nat} (hg : Grp fr g) (hb : ∀ p ∈ bo, p ∈ g) : sumsOf fr (g, tabOf fr cs g) bo = tabOf fr cs bo := by
  unfold sumsOf tabOf
  refine List.map_congr_left fun d _ => ?_
  exact sums_sums (rowsK_nodup _) hb _ fun y hy => rowsK_mem _ _ (row_seen (rowsK_ok _ y.1 (List.of_mem_zip hy).1) hg.2.2)
theorem diff_same : ∀ (rs : List (List Int)) (as : List Int), diff (rs.zip (as.zip as)) = none := by
  intro rs as
  unfold diff
  rw [find_not fun y hy => ?_]
  · rfl
  · have h1 := (List.of_mem_zip (show (y.1, y.2) ∈ _ from hy)).2
    have : ∀ (l : List Int) (p : Int × Int), p ∈ l.zip l → p.1 = p.2 := by
      intro l
      induction l with
      | nil => intro p hp; simp at hp
      | cons a l ih =>
        intro p hp
        rw [List.zip_cons_cons] at hp
        rcases List.mem_cons.mp hp with z | z
        · rw [z]
        · exact ih p z
    simpa using this as y.2 h1
theorem agr_start {fr : List Nat} {gs : List (List Nat)} {cs : List Int} {v : T} (hg : ∀ g ∈ gs, Grp fr g) (a : Agr fr (gs.map fun g => (g, tabOf fr cs g)) v) : v = .non := by
  have key : ∀ (i : Nat) (j : Nat) x y, (gs.map fun g => (g, tabOf fr cs g))[i]? = some x → (gs.map fun g => (g, tabOf fr cs g))[j]? = some y → unl fr x y = none := by
    intro i j x y hx hy
    obtain ⟨g, hg1, rfl⟩ := List.mem_map.mp (List.mem_of_getElem? hx)
    obtain ⟨g', hg2, rfl⟩ := List.mem_map.mp (List.mem_of_getElem? hy)
    unfold unl
    rw [tab_sums (hg g hg1) both_l, tab_sums (hg g' hg2) both_r]
    exact diff_same _ _
  rcases a with ⟨rfl, _⟩ | ⟨i, j, x, y, r, rfl, _, hx, hy, hr, _⟩
  · rfl
  · rw [key i j x y hx hy] at hr
    cases hr
noncomputable abbrev cp_law : CP := cpLaw
noncomputable abbrev len_law := len_cpLaw
theorem vc_law : ∀ ts h k, cp_law ts h k → W_law cp_law_frame cp_law_groups cp_law_take cp_law_tables cp_law_counts cp_law_volume cp_agree cp_family_of cp_law_moved cp_law_right { nx := fun _ h' => k .non h', rt := k } (begin_ 6 ts) h := by
  rintro ts h k ⟨ns, rfl, rfl, hns, hk⟩
  unfold W_law
  refine start_ok fun fr gs cs G q qs h0 st => ?_
  have F := st.fam
  have Tb := st.tabs
  have gok := st.gok
  have S0 := st.st
  have hq1 : 1 < q := by have := st.Gq; have := st.G2; omega
  have hqs : ∀ n ∈ qs, 1 < n := fun n hn => by have := st.Gqs n hn; have := st.G2; omega
  have hst : ∀ v, Agr fr (gs.map fun g => (g, tabOf fr cs g)) v → v = .non := fun v => agr_start gok.grp
  clear st
  generalize (gs.map fun g => (g, tabOf fr cs g)) = tb at F Tb hst
  generalize cs.sum = w at F
  have hq1' : q ≠ 1 := by omega
  have hqs1 : 1 ∉ qs := fun hn => by have := hqs 1 hn; omega
  refine seq_cut fun U hU => ?_
  simp! only [if_true]
  refine ⟨_, fr, tb, w, _, q, rfl, .inl rfl, F, Tb.lst, Tb.its, Tb.item, fun h1 G1 => ?_⟩
  refine ⟨fr, tb, w, rfl, F, fun v h2 av G2 => ?_⟩
  cases hst v av
  simp! only [if_true]
  replace Tb := (Tb.gro G1).gro G2
  replace S0 := (S0.gro G1).gro G2
  clear G1 G2 hst av
  clear h0 h1
  subst hU
  refine seq_cut fun U hU => ?_
  simp only [wFor, wRng1, wCons, wNil, wC, wCall, wVar, List.getElem?_cons_zero, List.getElem?_cons_succ]
  refine ⟨1, 0, ns, 4, rfl, S0, by decide, by decide, fun m h5 m0 m1 S5 X5 => ?_⟩
  refine ⟨by omega, by omega, ?_⟩
  refine forL_inv _ (fun d env h => ∃ a tb, env = [some (.ref 0), some (.ref 1), some (.tup (tN fr)), some (.ref G), some (.ref q), a] ∧ StOk 1 0 ns h ∧ FamOk fr tb w ∧ TabsAt h q qs tb) ⟨_, tb, rfl, S5, F, Tb.ext X5 hq1' hqs1⟩ (fun _ _ _ _ => trivial) ?_ ?_
  · clear S5 X5 F Tb S0
    rintro d t env h ht ⟨a, tb, rfl, S, F, Tb⟩
    simp only [gN, List.set_cons_zero, List.set_cons_succ]
    refine seq_cut fun V hV => ?_
    simp! only [if_true]
    refine ⟨ns, fr, tb, w, q, qs, rfl, S, F, Tb, hq1, hqs, fun tb' h' S' F' Tb' => ?_⟩
    subst hV
    simp! only [if_true]
    refine ⟨fr, tb', w, q, qs, rfl, F', Tb', fun h2 G2 => ?_⟩
    simp! only [if_true]
    exact ⟨_, tb', rfl, S'.gro G2, F', Tb'.gro G2⟩
  · rintro env h ⟨a, tb', rfl, S', F', Tb'⟩
    show U _ _
    subst hU
    simp! only [if_true]
    exact ⟨fr, tb', w, q, qs, rfl, F', Tb', fun h2 G2 => hk _⟩
end K10
set_option Elab.async false
set_option linter.all false
set_option maxRecDepth 100000
set_option maxHeartbeats 4000000
namespace K10
open PySem PySem.Spec PyProof.Rows L2 ZP PL LH PF
open Pu
seal Pu.OE Pu.OT Pu.OW Pu.OA Pu.OS Pu.OSs Pu.OG Pu.OGs Pu.OI Pu.OO Pu.OIfs
structure Bq (mg : Str → Option Value) : Prop where
  any : mg "any" = none
  bool : mg "bool" = none
  enumerate : mg "enumerate" = none
  int_ : mg "int" = none
  isinstance : mg "isinstance" = none
  len : mg "len" = none
  list : mg "list" = none
  range : mg "range" = none
  sum : mg "sum" = none
  tuple : mg "tuple" = none
  zip : mg "zip" = none
noncomputable def top (i : Nat) : Stmt := PySem.Challenge.pw_gluedtables_k10_tables_that_agree.main.body.getD i (.Pass ⟨0, 0, 0, 0⟩)
theorem lenS {α : Type} {us : List α} {n : Nat} (h : us.length = n + 1) : ∃ a r, us = a :: r ∧ r.length = n := by
  cases us with
  | nil => simp at h
  | cons a r => exact ⟨a, r, rfl, by simpa using h⟩
theorem len1 {f : FuncData} {xs : List Str} (h : ∀ a0 : Value, bindArgs f { pos := [a0] } = pure (xs.zip [a0])) (us : List Value) (e : us.length = 1) : bindArgs f { pos := us } = pure (xs.zip us) := by
  obtain ⟨a0, r0, rfl, e0⟩ := lenS e
  cases List.length_eq_zero_iff.mp e0
  exact h a0
theorem len2 {f : FuncData} {xs : List Str} (h : ∀ a0 a1 : Value, bindArgs f { pos := [a0, a1] } = pure (xs.zip [a0, a1])) (us : List Value) (e : us.length = 2) : bindArgs f { pos := us } = pure (xs.zip us) := by
  obtain ⟨a0, r0, rfl, e0⟩ := lenS e
  obtain ⟨a1, r1, rfl, e1⟩ := lenS e0
  cases List.length_eq_zero_iff.mp e1
  exact h a0 a1
theorem len3 {f : FuncData} {xs : List Str} (h : ∀ a0 a1 a2 : Value, bindArgs f { pos := [a0, a1, a2] } = pure (xs.zip [a0, a1, a2])) (us : List Value) (e : us.length = 3) : bindArgs f { pos := us } = pure (xs.zip us) := by
  obtain ⟨a0, r0, rfl, e0⟩ := lenS e
  obtain ⟨a1, r1, rfl, e1⟩ := lenS e0
  obtain ⟨a2, r2, rfl, e2⟩ := lenS e1
  cases List.length_eq_zero_iff.mp e2
  exact h a0 a1 a2
theorem len4 {f : FuncData} {xs : List Str} (h : ∀ a0 a1 a2 a3 : Value, bindArgs f { pos := [a0, a1, a2, a3] } = pure (xs.zip [a0, a1, a2, a3])) (us : List Value) (e : us.length = 4) : bindArgs f { pos := us } = pure (xs.zip us) := by
  obtain ⟨a0, r0, rfl, e0⟩ := lenS e
  obtain ⟨a1, r1, rfl, e1⟩ := lenS e0
  obtain ⟨a2, r2, rfl, e2⟩ := lenS e1
  obtain ⟨a3, r3, rfl, e3⟩ := lenS e2
  cases List.length_eq_zero_iff.mp e3
  exact h a0 a1 a2 a3
theorem len5 {f : FuncData} {xs : List Str} (h : ∀ a0 a1 a2 a3 a4 : Value, bindArgs f { pos := [a0, a1, a2, a3, a4] } = pure (xs.zip [a0, a1, a2, a3, a4])) (us : List Value) (e : us.length = 5) : bindArgs f { pos := us } = pure (xs.zip us) := by
  obtain ⟨a0, r0, rfl, e0⟩ := lenS e
  obtain ⟨a1, r1, rfl, e1⟩ := lenS e0
  obtain ⟨a2, r2, rfl, e2⟩ := lenS e1
  obtain ⟨a3, r3, rfl, e3⟩ := lenS e2
  obtain ⟨a4, r4, rfl, e4⟩ := lenS e3
  cases List.length_eq_zero_iff.mp e4
  exact h a0 a1 a2 a3 a4
section
variable {P : Program} {w : World} {K : PySem.W.Frag} {mg : Str → Option Value} {base : Heap}
noncomputable abbrev s_is_whole : Stmt := top 8
noncomputable def N_is_whole : List Str := ["thing"]
theorem sc_is_whole : FnScope N_is_whole ["thing"] (defScope s_is_whole) := ⟨rfl, rfl, rfl, by decide +kernel, rfl, by decide +kernel, by decide +kernel⟩
theorem f_is_whole {cp : CP} {f : Addr} {fd : FuncData} (F : Fun K "is_whole" "is_whole" s_is_whole f fd) (B : Bq mg) (len : ∀ ts h k, cp ts h k → ts.length = 1)
    (vc : ∀ ts h k, cp ts h k → W_is_whole { nx := fun _ h' => k .non h', rt := k } (begin_ 1 ts) h) : FnOk P w K mg base CX0 1 f fd ["thing"] (spOf K cp) := by
  refine def_ok F sc_is_whole len fun cdv A outer s H E hr => ⟨W_is_whole, ?_, vc⟩
  have hu : (A.deeper (envOfC "is_whole" (defScope s_is_whole) s.heap.objs.size f cdv)).units + 40 < cLine := hu40 hr
  exact (ss_one (s_ret (oe_and (oe_isi "int" B.isinstance B.int_ (ov 0)) (oe_one (oe_not (oe_isi "bool" B.isinstance B.bool (ov 0)))))))
theorem b_is_whole {f : Addr} {fd : FuncData} (F : Fun K "is_whole" "is_whole" s_is_whole f fd) : L2.Binds K fd ["thing"] [] := F.binds (ps := ["thing"]) fun _ _ _ _ _ _ us hl => len1 (fun _ => rfl) us hl
noncomputable abbrev s_frame_of : Stmt := top 9
noncomputable def N_frame_of : List Str := ["kinds", "product", "number"]
theorem sc_frame_of : FnScope N_frame_of ["kinds"] (defScope s_frame_of) := ⟨rfl, rfl, rfl, by decide +kernel, rfl, by decide +kernel, by decide +kernel⟩
theorem f_frame_of {cp_is_whole : CP} {cp : CP} {f : Addr} {fd : FuncData} (F : Fun K "frame_of" "frame_of" s_frame_of f fd) (B : Bq mg) (M_MOST_MARKS : ∃ t, mg "MOST_MARKS" = some (.int 6 t)) (M_MOST_ROWS : ∃ t, mg "MOST_ROWS" = some (.int 64 t)) (G_is_whole : Callee P w K mg base 1 "is_whole" cp_is_whole) (len : ∀ ts h k, cp ts h k → ts.length = 1)
    (vc : ∀ ts h k, cp ts h k → W_frame_of cp_is_whole { nx := fun _ h' => k .non h', rt := k } (begin_ 3 ts) h) : FnOk P w K mg base CX0 2 f fd ["kinds"] (spOf K cp) := by
  refine def_ok F sc_frame_of len fun cdv A outer s H E hr => ⟨W_frame_of cp_is_whole, ?_, vc⟩
  have hu : (A.deeper (envOfC "frame_of" (defScope s_frame_of) s.heap.objs.size f cdv)).units + 40 < cLine := hu40 hr
  exact (ss_cons (s_if (ot_not (ot_val (oe_isi2 "list" "tuple" B.isinstance B.list B.tuple (ov 0)))) (ss_one s_never) ss_nil)
  (ss_cons (s_if (ot_not (ot_chain op_le i_le op_le i_le oe_int (oe_callB call_len_seq i_len B.len (oa_cons (ov 0) oa_nil sr_Name)) (oe_glob M_MOST_MARKS))) (ss_one s_never) ss_nil)
  (ss_cons (s_set 1 sc_frame_of.nd oe_int)
  (ss_cons (s_for PassesOwn.never rfl (i_seq (ov 0)) (g_name 2 sc_frame_of.nd) (ss_cons (s_if (ot_w (ow_or (ot_not (ot_val (oe_call G_is_whole (hr.mono (by decide)) (oa_cons (ov 2) oa_nil sr_Name)))) (ow_or1 (ot_not (ot_chain op_le i_le op_le i_le oe_int (ov 2) oe_int))))) (ss_one s_never) ss_nil)
  (ss_one (s_set 1 sc_frame_of.nd (oe_op op_mulA i_mul (ov 1) (ov 2))))))
  (ss_cons (s_if (ot_cmp op_gt i_gt (nomark _) (ov 1) (oe_glob M_MOST_ROWS)) (ss_one s_never) ss_nil)
  (ss_one (s_ret (oe_callTy call_tuple_of i_tuple B.tuple (oa_cons (ov 0) oa_nil sr_Name)))))))))
theorem b_frame_of {f : Addr} {fd : FuncData} (F : Fun K "frame_of" "frame_of" s_frame_of f fd) : L2.Binds K fd ["kinds"] [] := F.binds (ps := ["kinds"]) fun _ _ _ _ _ _ us hl => len1 (fun _ => rfl) us hl
noncomputable abbrev s_is_group : Stmt := top 10
noncomputable def N_is_group : List Str := ["frame", "thing", "last", "mark"]
theorem sc_is_group : FnScope N_is_group ["frame", "thing"] (defScope s_is_group) := ⟨rfl, rfl, rfl, by decide +kernel, rfl, by decide +kernel, by decide +kernel⟩
theorem f_is_group {cp_is_whole : CP} {cp : CP} {f : Addr} {fd : FuncData} (F : Fun K "is_group" "is_group" s_is_group f fd) (B : Bq mg) (G_is_whole : Callee P w K mg base 1 "is_whole" cp_is_whole) (len : ∀ ts h k, cp ts h k → ts.length = 2)
    (vc : ∀ ts h k, cp ts h k → W_is_group cp_is_whole { nx := fun _ h' => k .non h', rt := k } (begin_ 4 ts) h) : FnOk P w K mg base CX0 2 f fd ["frame", "thing"] (spOf K cp) := by
  refine def_ok F sc_is_group len fun cdv A outer s H E hr => ⟨W_is_group cp_is_whole, ?_, vc⟩
  have hu : (A.deeper (envOfC "is_group" (defScope s_is_group) s.heap.objs.size f cdv)).units + 40 < cLine := hu40 hr
  exact (ss_cons (s_if (ot_w (ow_or (ot_not (ot_val (oe_isi "tuple" B.isinstance B.tuple (ov 1)))) (ow_or1 (ot_cmp (op_eqD hu) i_eq (nomark _) (oe_callB call_len_seq i_len B.len (oa_cons (ov 1) oa_nil sr_Name)) oe_int)))) (ss_one (s_ret oe_bl)) ss_nil)
  (ss_cons (s_set 2 sc_is_group.nd (oe_un un_neg i_neg oe_int))
  (ss_cons (s_for PassesOwn.never rfl (i_seq (ov 1)) (g_name 3 sc_is_group.nd) (ss_cons (s_if (ot_w (ow_or (ot_not (ot_val (oe_call G_is_whole (hr.mono (by decide)) (oa_cons (ov 3) oa_nil sr_Name)))) (ow_or1 (ot_not (ot_chain op_lt i_lt op_lt i_lt (ov 2) (ov 3) (oe_callB call_len_seq i_len B.len (oa_cons (ov 0) oa_nil sr_Name))))))) (ss_one (s_ret oe_bl)) ss_nil)
  (ss_one (s_set 2 sc_is_group.nd (ov 3)))))
  (ss_one (s_ret oe_bl)))))
theorem b_is_group {f : Addr} {fd : FuncData} (F : Fun K "is_group" "is_group" s_is_group f fd) : L2.Binds K fd ["frame", "thing"] [] := F.binds (ps := ["frame", "thing"]) fun _ _ _ _ _ _ us hl => len2 (fun _ _ => rfl) us hl
noncomputable abbrev s_rows_of : Stmt := top 11
noncomputable def N_rows_of : List Str := ["frame", "group", "rows", "mark", "longer", "row", "kind"]
theorem sc_rows_of : FnScope N_rows_of ["frame", "group"] (defScope s_rows_of) := ⟨rfl, rfl, rfl, by decide +kernel, rfl, by decide +kernel, by decide +kernel⟩
theorem f_rows_of {cp : CP} {f : Addr} {fd : FuncData} (F : Fun K "rows_of" "rows_of" s_rows_of f fd) (B : Bq mg) (len : ∀ ts h k, cp ts h k → ts.length = 2)
    (vc : ∀ ts h k, cp ts h k → W_rows_of { nx := fun _ h' => k .non h', rt := k } (begin_ 7 ts) h) : FnOk P w K mg base CX0 1 f fd ["frame", "group"] (spOf K cp) := by
  refine def_ok F sc_rows_of len fun cdv A outer s H E hr => ⟨W_rows_of, ?_, vc⟩
  have hu : (A.deeper (envOfC "rows_of" (defScope s_rows_of) s.heap.objs.size f cdv)).units + 40 < cLine := hu40 hr
  exact (ss_cons (s_set 2 sc_rows_of.nd (oe_lst (oa_cons (oe_tup oa_nil) oa_nil sr_Tuple)))
  (ss_cons (s_for PassesOwn.never rfl (i_seq (ov 1)) (g_name 3 sc_rows_of.nd) (ss_cons (s_set 4 sc_rows_of.nd (oe_lst oa_nil))
  (ss_cons (s_for PassesOwn.never rfl (i_seq (ov 2)) (g_name 5 sc_rows_of.nd) (ss_one (s_for PassesOwn.never rfl (i_range1 B.range (oa_cons (oe_ix ix_A i_ix (ov 0) (ov 3)) oa_nil sr_Subscript)) (g_name 6 sc_rows_of.nd) (ss_one (s_expr (oe_bm PySem.F.plainAttrs_list PySem.F.slot_list_append PySem.F.type_list_append mt_append i_append ty_lst (ov 4) (oa_cons (oe_op op_addA i_add (ov 5) (oe_tup (oa_cons (ov 6) oa_nil sr_Name))) oa_nil sr_BinOp)))))))
  (ss_one (s_set 2 sc_rows_of.nd (ov 4))))))
  (ss_one (s_ret (ov 2)))))
theorem b_rows_of {f : Addr} {fd : FuncData} (F : Fun K "rows_of" "rows_of" s_rows_of f fd) : L2.Binds K fd ["frame", "group"] [] := F.binds (ps := ["frame", "group"]) fun _ _ _ _ _ _ us hl => len2 (fun _ _ => rfl) us hl
noncomputable abbrev s_seen : Stmt := top 12
noncomputable def N_seen : List Str := ["group", "row", "part", "mark"]
theorem sc_seen : FnScope N_seen ["group", "row", "part"] (defScope s_seen) := ⟨rfl, rfl, rfl, by decide +kernel, rfl, by decide +kernel, by decide +kernel⟩
theorem f_seen {cp : CP} {f : Addr} {fd : FuncData} (F : Fun K "seen" "seen" s_seen f fd) (B : Bq mg) (len : ∀ ts h k, cp ts h k → ts.length = 3)
    (vc : ∀ ts h k, cp ts h k → W_seen { nx := fun _ h' => k .non h', rt := k } (begin_ 4 ts) h) : FnOk P w K mg base CX0 1 f fd ["group", "row", "part"] (spOf K cp) := by
  refine def_ok F sc_seen len fun cdv A outer s H E hr => ⟨W_seen, ?_, vc⟩
  have hu : (A.deeper (envOfC "seen" (defScope s_seen) s.heap.objs.size f cdv)).units + 40 < cLine := hu40 hr
  exact (ss_one (s_ret (oe_callTy call_tuple_of i_tuple B.tuple (oa_cons (oe_comp 3 rfl (compOk_of (fs := defScope s_seen) (N := N_seen) rfl rfl (by decide +kernel)) sc_seen.nd (i_seq (ov 2)) (fun _ _ _ _ _ _ => if_nil) (fun _ _ _ _ _ _ => (oe_ix ix_A i_ix (ov 1) (oe_index hu (ov 0) (oa_cons (ov 3) oa_nil sr_Name))))) oa_nil sr_ListComp))))
theorem b_seen {f : Addr} {fd : FuncData} (F : Fun K "seen" "seen" s_seen f fd) : L2.Binds K fd ["group", "row", "part"] [] := F.binds (ps := ["group", "row", "part"]) fun _ _ _ _ _ _ us hl => len3 (fun _ _ _ => rfl) us hl
noncomputable abbrev s_group_rows : Stmt := top 20
noncomputable def N_group_rows : List Str := ["frame", "draft"]
theorem sc_group_rows : FnScope N_group_rows ["frame", "draft"] (defScope s_group_rows) := ⟨rfl, rfl, rfl, by decide +kernel, rfl, by decide +kernel, by decide +kernel⟩
theorem f_group_rows {cp_is_group : CP} {cp_rows_of : CP} {cp : CP} {f : Addr} {fd : FuncData} (F : Fun K "group_rows" "group_rows" s_group_rows f fd) (B : Bq mg) (G_is_group : Callee P w K mg base 2 "is_group" cp_is_group) (G_rows_of : Callee P w K mg base 1 "rows_of" cp_rows_of) (len : ∀ ts h k, cp ts h k → ts.length = 2)
    (vc : ∀ ts h k, cp ts h k → W_group_rows cp_is_group cp_rows_of { nx := fun _ h' => k .non h', rt := k } (begin_ 2 ts) h) : FnOk P w K mg base CX0 3 f fd ["frame", "draft"] (spOf K cp) := by
  refine def_ok F sc_group_rows len fun cdv A outer s H E hr => ⟨W_group_rows cp_is_group cp_rows_of, ?_, vc⟩
  have hu : (A.deeper (envOfC "group_rows" (defScope s_group_rows) s.heap.objs.size f cdv)).units + 40 < cLine := hu40 hr
  exact (ss_cons (s_if (ot_w (ow_or (ot_cmp op_isN i_isN (nomark _) (ov 1) oe_non) (ow_or1 (ot_not (ot_val (oe_call G_is_group (hr.mono (by decide)) (oa_cons (ov 0) (oa_cons (oe_ix ix_A i_ix (ov 1) oe_int) oa_nil sr_Subscript) sr_Name))))))) (ss_one (s_ret oe_int)) ss_nil)
  (ss_one (s_ret (oe_callB call_len_seq i_len B.len (oa_cons (oe_call G_rows_of (hr.mono (by decide)) (oa_cons (ov 0) (oa_cons (oe_ix ix_A i_ix (ov 1) oe_int) oa_nil sr_Subscript) sr_Name)) oa_nil sr_Call)))))
theorem b_group_rows {f : Addr} {fd : FuncData} (F : Fun K "group_rows" "group_rows" s_group_rows f fd) : L2.Binds K fd ["frame", "draft"] [] := F.binds (ps := ["frame", "draft"]) fun _ _ _ _ _ _ us hl => len2 (fun _ _ => rfl) us hl
noncomputable abbrev s_check_size : Stmt := top 21
noncomputable def N_check_size : List Str := ["frame", "drafts", "draft"]
theorem sc_check_size : FnScope N_check_size ["frame", "drafts"] (defScope s_check_size) := ⟨rfl, rfl, rfl, by decide +kernel, rfl, by decide +kernel, by decide +kernel⟩
theorem f_check_size {cp_group_rows : CP} {cp : CP} {f : Addr} {fd : FuncData} (F : Fun K "check_size" "check_size" s_check_size f fd) (B : Bq mg) (M_MOST_TABLES : ∃ t, mg "MOST_TABLES" = some (.int 8 t)) (M_MOST_TABLE_ROWS : ∃ t, mg "MOST_TABLE_ROWS" = some (.int 60 t)) (G_group_rows : Callee P w K mg base 3 "group_rows" cp_group_rows) (len : ∀ ts h k, cp ts h k → ts.length = 2)
    (vc : ∀ ts h k, cp ts h k → W_check_size cp_group_rows { nx := fun _ h' => k .non h', rt := k } (begin_ 3 ts) h) : FnOk P w K mg base CX0 4 f fd ["frame", "drafts"] (spOf K cp) := by
  refine def_ok F sc_check_size len fun cdv A outer s H E hr => ⟨W_check_size cp_group_rows, ?_, vc⟩
  have hu : (A.deeper (envOfC "check_size" (defScope s_check_size) s.heap.objs.size f cdv)).units + 40 < cLine := hu40 hr
  exact (ss_cons (s_if (ot_cmp op_gt i_gt (nomark _) (oe_callB call_len_seq i_len B.len (oa_cons (ov 1) oa_nil sr_Name)) (oe_glob M_MOST_TABLES)) (ss_one s_never) ss_nil)
  (ss_one (s_if (ot_cmp op_gt i_gt (nomark _) (oe_callB (call_sum rfl) i_sum B.sum (oa_cons (oe_comp 2 rfl (compOk_of (fs := defScope s_check_size) (N := N_check_size) rfl rfl (by decide +kernel)) sc_check_size.nd (i_seq (ov 1)) (fun _ _ _ _ _ _ => if_nil) (fun _ _ _ _ _ _ => (oe_call G_group_rows (hr.mono (by decide)) (oa_cons (ov 0) (oa_cons (ov 2) oa_nil sr_Name) sr_Name)))) oa_nil sr_ListComp)) (oe_glob M_MOST_TABLE_ROWS)) (ss_one s_never) ss_nil)))
theorem b_check_size {f : Addr} {fd : FuncData} (F : Fun K "check_size" "check_size" s_check_size f fd) : L2.Binds K fd ["frame", "drafts"] [] := F.binds (ps := ["frame", "drafts"]) fun _ _ _ _ _ _ us hl => len2 (fun _ _ => rfl) us hl
noncomputable abbrev s_is_table : Stmt := top 23
noncomputable def N_is_table : List Str := ["frame", "draft", "rows", "count"]
theorem sc_is_table : FnScope N_is_table ["frame", "draft"] (defScope s_is_table) := ⟨rfl, rfl, rfl, by decide +kernel, rfl, by decide +kernel, by decide +kernel⟩
theorem f_is_table {cp_group_rows : CP} {cp_is_whole : CP} {cp : CP} {f : Addr} {fd : FuncData} (F : Fun K "is_table" "is_table" s_is_table f fd) (B : Bq mg) (M_MOST_WHOLE : ∃ t, mg "MOST_WHOLE" = some (.int 1000000000 t)) (G_group_rows : Callee P w K mg base 3 "group_rows" cp_group_rows) (G_is_whole : Callee P w K mg base 1 "is_whole" cp_is_whole) (len : ∀ ts h k, cp ts h k → ts.length = 2)
    (vc : ∀ ts h k, cp ts h k → W_is_table cp_group_rows cp_is_whole { nx := fun _ h' => k .non h', rt := k } (begin_ 4 ts) h) : FnOk P w K mg base CX0 4 f fd ["frame", "draft"] (spOf K cp) := by
  refine def_ok F sc_is_table len fun cdv A outer s H E hr => ⟨W_is_table cp_group_rows cp_is_whole, ?_, vc⟩
  have hu : (A.deeper (envOfC "is_table" (defScope s_is_table) s.heap.objs.size f cdv)).units + 40 < cLine := hu40 hr
  exact (ss_cons (s_set 2 sc_is_table.nd (oe_call G_group_rows (hr.mono (by decide)) (oa_cons (ov 0) (oa_cons (ov 1) oa_nil sr_Name) sr_Name)))
  (ss_cons (s_if (ot_w (ow_or (ot_cmp (op_eqD hu) i_eq (nomark _) (ov 2) oe_int) (ow_or (ot_not (ot_val (oe_isi "tuple" B.isinstance B.tuple (oe_ix ix_A i_ix (ov 1) oe_int)))) (ow_or1 (ot_cmp (op_neD hu) i_ne (nomark _) (oe_callB call_len_seq i_len B.len (oa_cons (oe_ix ix_A i_ix (ov 1) oe_int) oa_nil sr_Subscript)) (ov 2)))))) (ss_one (s_ret oe_bl)) ss_nil)
  (ss_cons (s_for PassesOwn.never rfl (i_seq (oe_ix ix_A i_ix (ov 1) oe_int)) (g_name 3 sc_is_table.nd) (ss_one (s_if (ot_w (ow_or (ot_not (ot_val (oe_call G_is_whole (hr.mono (by decide)) (oa_cons (ov 3) oa_nil sr_Name)))) (ow_or1 (ot_cmp op_lt i_lt (nomark _) (ov 3) oe_int)))) (ss_one (s_ret oe_bl)) ss_nil)))
  (ss_one (s_ret (oe_chain op_le i_le op_le i_le oe_int (oe_callB (call_sum rfl) i_sum B.sum (oa_cons (oe_ix ix_A i_ix (ov 1) oe_int) oa_nil sr_Subscript)) (oe_glob M_MOST_WHOLE)))))))
theorem b_is_table {f : Addr} {fd : FuncData} (F : Fun K "is_table" "is_table" s_is_table f fd) : L2.Binds K fd ["frame", "draft"] [] := F.binds (ps := ["frame", "draft"]) fun _ _ _ _ _ _ us hl => len2 (fun _ _ => rfl) us hl
noncomputable abbrev s_check_tables : Stmt := top 22
noncomputable def N_check_tables : List Str := ["frame", "drafts", "number", "draft"]
theorem sc_check_tables : FnScope N_check_tables ["frame", "drafts"] (defScope s_check_tables) := ⟨rfl, rfl, rfl, by decide +kernel, rfl, by decide +kernel, by decide +kernel⟩
theorem f_check_tables {cp_is_table : CP} {cp : CP} {f : Addr} {fd : FuncData} (F : Fun K "check_tables" "check_tables" s_check_tables f fd) (B : Bq mg) (G_is_table : Callee P w K mg base 4 "is_table" cp_is_table) (len : ∀ ts h k, cp ts h k → ts.length = 2)
    (vc : ∀ ts h k, cp ts h k → W_check_tables cp_is_table { nx := fun _ h' => k .non h', rt := k } (begin_ 4 ts) h) : FnOk P w K mg base CX0 5 f fd ["frame", "drafts"] (spOf K cp) := by
  refine def_ok F sc_check_tables len fun cdv A outer s H E hr => ⟨W_check_tables cp_is_table, ?_, vc⟩
  have hu : (A.deeper (envOfC "check_tables" (defScope s_check_tables) s.heap.objs.size f cdv)).units + 40 < cLine := hu40 hr
  exact (ss_one (s_for PassesOwn.never rfl (i_enum B.enumerate (oa_cons (ov 1) oa_nil sr_Name)) (g_tup rfl 2 (gs_cons (g_name 2 sc_check_tables.nd) (gs_cons (g_name 3 sc_check_tables.nd) gs_nil))) (ss_one (s_if (ot_w (ow_or (ot_not (ot_val (oe_call G_is_table (hr.mono (by decide)) (oa_cons (ov 0) (oa_cons (ov 3) oa_nil sr_Name) sr_Name)))) (ow_or1 (ot_cmp (op_neD hu) i_ne (nomark _) (oe_callB (call_sum rfl) i_sum B.sum (oa_cons (oe_ix ix_A i_ix (ov 3) oe_int) oa_nil sr_Subscript)) (oe_callB (call_sum rfl) i_sum B.sum (oa_cons (oe_ix ix_A i_ix (oe_ix ix_A i_ix (ov 1) oe_int) oe_int) oa_nil sr_Subscript)))))) (ss_one s_never) ss_nil))))
theorem b_check_tables {f : Addr} {fd : FuncData} (F : Fun K "check_tables" "check_tables" s_check_tables f fd) : L2.Binds K fd ["frame", "drafts"] [] := F.binds (ps := ["frame", "drafts"]) fun _ _ _ _ _ _ us hl => len2 (fun _ _ => rfl) us hl
noncomputable abbrev s_check_marks : Stmt := top 24
noncomputable def N_check_marks : List Str := ["frame", "tables", "mark", "table"]
theorem sc_check_marks : FnScope N_check_marks ["frame", "tables"] (defScope s_check_marks) := ⟨rfl, rfl, rfl, by decide +kernel, rfl, by decide +kernel, by decide +kernel⟩
theorem f_check_marks {cp : CP} {f : Addr} {fd : FuncData} (F : Fun K "check_marks" "check_marks" s_check_marks f fd) (B : Bq mg) (len : ∀ ts h k, cp ts h k → ts.length = 2)
    (vc : ∀ ts h k, cp ts h k → W_check_marks { nx := fun _ h' => k .non h', rt := k } (begin_ 4 ts) h) : FnOk P w K mg base CX0 1 f fd ["frame", "tables"] (spOf K cp) := by
  refine def_ok F sc_check_marks len fun cdv A outer s H E hr => ⟨W_check_marks, ?_, vc⟩
  have hu : (A.deeper (envOfC "check_marks" (defScope s_check_marks) s.heap.objs.size f cdv)).units + 40 < cLine := hu40 hr
  exact (ss_one (s_for PassesOwn.never rfl (i_range1 B.range (oa_cons (oe_callB call_len_seq i_len B.len (oa_cons (ov 0) oa_nil sr_Name)) oa_nil sr_Call)) (g_name 2 sc_check_marks.nd) (ss_one (s_if (ot_not (ot_val (oe_callB (call_any rfl) i_any B.any (oa_cons (oe_comp 3 rfl (compOk_of (fs := defScope s_check_marks) (N := N_check_marks) rfl rfl (by decide +kernel)) sc_check_marks.nd (i_seq (ov 1)) (fun _ _ _ _ _ _ => if_nil) (fun _ _ _ _ _ _ => (oe_cmp op_in_seq i_in (by with_unfolding_all rfl) (ov 2) (oe_ix ix_A i_ix (ov 3) oe_int)))) oa_nil sr_ListComp)))) (ss_one s_never) ss_nil))))
theorem b_check_marks {f : Addr} {fd : FuncData} (F : Fun K "check_marks" "check_marks" s_check_marks f fd) : L2.Binds K fd ["frame", "tables"] [] := F.binds (ps := ["frame", "tables"]) fun _ _ _ _ _ _ us hl => len2 (fun _ _ => rfl) us hl
noncomputable abbrev s_as_tuple : Stmt := top 19
noncomputable def N_as_tuple : List Str := ["thing"]
theorem sc_as_tuple : FnScope N_as_tuple ["thing"] (defScope s_as_tuple) := ⟨rfl, rfl, rfl, by decide +kernel, rfl, by decide +kernel, by decide +kernel⟩
theorem f_as_tuple {cp : CP} {f : Addr} {fd : FuncData} (F : Fun K "as_tuple" "as_tuple" s_as_tuple f fd) (B : Bq mg) (len : ∀ ts h k, cp ts h k → ts.length = 1)
    (vc : ∀ ts h k, cp ts h k → W_as_tuple { nx := fun _ h' => k .non h', rt := k } (begin_ 1 ts) h) : FnOk P w K mg base CX0 1 f fd ["thing"] (spOf K cp) := by
  refine def_ok F sc_as_tuple len fun cdv A outer s H E hr => ⟨W_as_tuple, ?_, vc⟩
  have hu : (A.deeper (envOfC "as_tuple" (defScope s_as_tuple) s.heap.objs.size f cdv)).units + 40 < cLine := hu40 hr
  exact (ss_one (s_ret (oe_if (ot_val (oe_isi2 "list" "tuple" B.isinstance B.list B.tuple (ov 0))) (oe_callTy call_tuple_of i_tuple B.tuple (oa_cons (ov 0) oa_nil sr_Name)) (ov 0))))
theorem b_as_tuple {f : Addr} {fd : FuncData} (F : Fun K "as_tuple" "as_tuple" s_as_tuple f fd) : L2.Binds K fd ["thing"] [] := F.binds (ps := ["thing"]) fun _ _ _ _ _ _ us hl => len1 (fun _ => rfl) us hl
noncomputable abbrev s_draft_of : Stmt := top 18
noncomputable def N_draft_of : List Str := ["thing"]
theorem sc_draft_of : FnScope N_draft_of ["thing"] (defScope s_draft_of) := ⟨rfl, rfl, rfl, by decide +kernel, rfl, by decide +kernel, by decide +kernel⟩
theorem f_draft_of {cp_as_tuple : CP} {cp : CP} {f : Addr} {fd : FuncData} (F : Fun K "draft_of" "draft_of" s_draft_of f fd) (B : Bq mg) (G_as_tuple : Callee P w K mg base 1 "as_tuple" cp_as_tuple) (len : ∀ ts h k, cp ts h k → ts.length = 1)
    (vc : ∀ ts h k, cp ts h k → W_draft_of cp_as_tuple { nx := fun _ h' => k .non h', rt := k } (begin_ 1 ts) h) : FnOk P w K mg base CX0 2 f fd ["thing"] (spOf K cp) := by
  refine def_ok F sc_draft_of len fun cdv A outer s H E hr => ⟨W_draft_of cp_as_tuple, ?_, vc⟩
  have hu : (A.deeper (envOfC "draft_of" (defScope s_draft_of) s.heap.objs.size f cdv)).units + 40 < cLine := hu40 hr
  exact (ss_cons (s_if (ot_w (ow_or (ot_not (ot_val (oe_isi "tuple" B.isinstance B.tuple (ov 0)))) (ow_or1 (ot_cmp (op_neD hu) i_ne (nomark _) (oe_callB call_len_seq i_len B.len (oa_cons (ov 0) oa_nil sr_Name)) oe_int)))) (ss_one (s_ret oe_non)) ss_nil)
  (ss_one (s_ret (oe_tup (oa_cons (oe_call G_as_tuple (hr.mono (by decide)) (oa_cons (oe_ix ix_A i_ix (ov 0) oe_int) oa_nil sr_Subscript)) (oa_cons (oe_call G_as_tuple (hr.mono (by decide)) (oa_cons (oe_ix ix_A i_ix (ov 0) oe_int) oa_nil sr_Subscript)) oa_nil sr_Call) sr_Call)))))
theorem b_draft_of {f : Addr} {fd : FuncData} (F : Fun K "draft_of" "draft_of" s_draft_of f fd) : L2.Binds K fd ["thing"] [] := F.binds (ps := ["thing"]) fun _ _ _ _ _ _ us hl => len1 (fun _ => rfl) us hl
noncomputable abbrev s_family_of : Stmt := top 17
noncomputable def N_family_of : List Str := ["frame", "tables", "made", "drafts", "thing"]
theorem sc_family_of : FnScope N_family_of ["frame", "tables"] (defScope s_family_of) := ⟨rfl, rfl, rfl, by decide +kernel, rfl, by decide +kernel, by decide +kernel⟩
theorem f_family_of {cp_frame_of : CP} {cp_draft_of : CP} {cp_check_size : CP} {cp_check_tables : CP} {cp_check_marks : CP} {cp : CP} {f : Addr} {fd : FuncData} (F : Fun K "family_of" "family_of" s_family_of f fd) (B : Bq mg) (G_frame_of : Callee P w K mg base 2 "frame_of" cp_frame_of) (G_draft_of : Callee P w K mg base 2 "draft_of" cp_draft_of) (G_check_size : Callee P w K mg base 4 "check_size" cp_check_size) (G_check_tables : Callee P w K mg base 5 "check_tables" cp_check_tables) (G_check_marks : Callee P w K mg base 1 "check_marks" cp_check_marks) (len : ∀ ts h k, cp ts h k → ts.length = 2)
    (vc : ∀ ts h k, cp ts h k → W_family_of cp_frame_of cp_draft_of cp_check_size cp_check_tables cp_check_marks { nx := fun _ h' => k .non h', rt := k } (begin_ 5 ts) h) : FnOk P w K mg base CX0 6 f fd ["frame", "tables"] (spOf K cp) := by
  refine def_ok F sc_family_of len fun cdv A outer s H E hr => ⟨W_family_of cp_frame_of cp_draft_of cp_check_size cp_check_tables cp_check_marks, ?_, vc⟩
  have hu : (A.deeper (envOfC "family_of" (defScope s_family_of) s.heap.objs.size f cdv)).units + 40 < cLine := hu40 hr
  exact (ss_cons (s_set 2 sc_family_of.nd (oe_call G_frame_of (hr.mono (by decide)) (oa_cons (ov 0) oa_nil sr_Name)))
  (ss_cons (s_comp 3 4 sc_family_of.nd rfl (compOk_of (fs := defScope s_family_of) (N := N_family_of) rfl rfl (by decide +kernel)) (i_seq (ov 1)) (fun _ _ _ _ _ _ => if_nil) (fun _ _ _ _ _ _ => (oe_call G_draft_of (hr.mono (by decide)) (oa_cons (ov 4) oa_nil sr_Name))))
  (ss_cons (s_expr (oe_call G_check_size (hr.mono (by decide)) (oa_cons (ov 2) (oa_cons (ov 3) oa_nil sr_Name) sr_Name)))
  (ss_cons (s_expr (oe_call G_check_tables (hr.mono (by decide)) (oa_cons (ov 2) (oa_cons (ov 3) oa_nil sr_Name) sr_Name)))
  (ss_cons (s_expr (oe_call G_check_marks (hr.mono (by decide)) (oa_cons (ov 2) (oa_cons (ov 3) oa_nil sr_Name) sr_Name)))
  (ss_one (s_ret (oe_tup (oa_cons (ov 2) (oa_cons (oe_callTy call_tuple_of i_tuple B.tuple (oa_cons (ov 3) oa_nil sr_Name)) oa_nil sr_Call) sr_Name)))))))))
theorem b_family_of {f : Addr} {fd : FuncData} (F : Fun K "family_of" "family_of" s_family_of f fd) : L2.Binds K fd ["frame", "tables"] [] := F.binds (ps := ["frame", "tables"]) fun _ _ _ _ _ _ us hl => len2 (fun _ _ => rfl) us hl
noncomputable abbrev s_added_up : Stmt := top 26
noncomputable def N_added_up : List Str := ["frame", "group", "places", "counts", "totals", "row", "place", "count"]
theorem sc_added_up : FnScope N_added_up ["frame", "group", "places", "counts"] (defScope s_added_up) := ⟨rfl, rfl, rfl, by decide +kernel, rfl, by decide +kernel, by decide +kernel⟩
theorem f_added_up {cp_rows_of : CP} {cp : CP} {f : Addr} {fd : FuncData} (F : Fun K "added_up" "added_up" s_added_up f fd) (B : Bq mg) (G_rows_of : Callee P w K mg base 1 "rows_of" cp_rows_of) (len : ∀ ts h k, cp ts h k → ts.length = 4)
    (vc : ∀ ts h k, cp ts h k → W_added_up cp_rows_of { nx := fun _ h' => k .non h', rt := k } (begin_ 8 ts) h) : FnOk P w K mg base CX0 2 f fd ["frame", "group", "places", "counts"] (spOf K cp) := by
  refine def_ok F sc_added_up len fun cdv A outer s H E hr => ⟨W_added_up cp_rows_of, ?_, vc⟩
  have hu : (A.deeper (envOfC "added_up" (defScope s_added_up) s.heap.objs.size f cdv)).units + 40 < cLine := hu40 hr
  exact (ss_cons (s_set 4 sc_added_up.nd oe_dictT)
  (ss_cons (s_for PassesOwn.never rfl (i_seq (oe_call G_rows_of (hr.mono (by decide)) (oa_cons (ov 0) (oa_cons (ov 1) oa_nil sr_Name) sr_Name))) (g_name 5 sc_added_up.nd) (ss_one (s_dput hu (ov 4) (ov 5) oe_int)))
  (ss_cons (s_for PassesOwn.never rfl (i_zip2 B.zip (oa_cons (ov 2) (oa_cons (ov 3) oa_nil sr_Name) sr_Name)) (g_tup rfl 2 (gs_cons (g_name 6 sc_added_up.nd) (gs_cons (g_name 7 sc_added_up.nd) gs_nil))) (ss_one (s_dput hu (ov 4) (ov 6) (oe_op op_addA i_add (oe_dget hu (ov 4) (ov 6)) (ov 7)))))
  (ss_one (s_ret (oe_listVals rfl B.list (ov 4)))))))
theorem b_added_up {f : Addr} {fd : FuncData} (F : Fun K "added_up" "added_up" s_added_up f fd) : L2.Binds K fd ["frame", "group", "places", "counts"] [] := F.binds (ps := ["frame", "group", "places", "counts"]) fun _ _ _ _ _ _ us hl => len4 (fun _ _ _ _ => rfl) us hl
noncomputable abbrev s_sums : Stmt := top 25
noncomputable def N_sums : List Str := ["frame", "table", "part", "places", "row"]
theorem sc_sums : FnScope N_sums ["frame", "table", "part"] (defScope s_sums) := ⟨rfl, rfl, rfl, by decide +kernel, rfl, by decide +kernel, by decide +kernel⟩
theorem f_sums {cp_rows_of : CP} {cp_seen : CP} {cp_added_up : CP} {cp : CP} {f : Addr} {fd : FuncData} (F : Fun K "sums" "sums" s_sums f fd) (B : Bq mg) (G_rows_of : Callee P w K mg base 1 "rows_of" cp_rows_of) (G_seen : Callee P w K mg base 1 "seen" cp_seen) (G_added_up : Callee P w K mg base 2 "added_up" cp_added_up) (len : ∀ ts h k, cp ts h k → ts.length = 3)
    (vc : ∀ ts h k, cp ts h k → W_sums cp_rows_of cp_seen cp_added_up { nx := fun _ h' => k .non h', rt := k } (begin_ 5 ts) h) : FnOk P w K mg base CX0 3 f fd ["frame", "table", "part"] (spOf K cp) := by
  refine def_ok F sc_sums len fun cdv A outer s H E hr => ⟨W_sums cp_rows_of cp_seen cp_added_up, ?_, vc⟩
  have hu : (A.deeper (envOfC "sums" (defScope s_sums) s.heap.objs.size f cdv)).units + 40 < cLine := hu40 hr
  exact (ss_cons (s_comp 3 4 sc_sums.nd rfl (compOk_of (fs := defScope s_sums) (N := N_sums) rfl rfl (by decide +kernel)) (i_seq (oe_call G_rows_of (hr.mono (by decide)) (oa_cons (ov 0) (oa_cons (oe_ix ix_A i_ix (ov 1) oe_int) oa_nil sr_Subscript) sr_Name))) (fun _ _ _ _ _ _ => if_nil) (fun _ _ _ _ _ _ => (oe_call G_seen (hr.mono (by decide)) (oa_cons (oe_ix ix_A i_ix (ov 1) oe_int) (oa_cons (ov 4) (oa_cons (ov 2) oa_nil sr_Name) sr_Name) sr_Subscript))))
  (ss_one (s_ret (oe_call G_added_up (hr.mono (by decide)) (oa_cons (ov 0) (oa_cons (ov 2) (oa_cons (ov 3) (oa_cons (oe_ix ix_A i_ix (ov 1) oe_int) oa_nil sr_Subscript) sr_Name) sr_Name) sr_Name)))))
theorem b_sums {f : Addr} {fd : FuncData} (F : Fun K "sums" "sums" s_sums f fd) : L2.Binds K fd ["frame", "table", "part"] [] := F.binds (ps := ["frame", "table", "part"]) fun _ _ _ _ _ _ us hl => len3 (fun _ _ _ => rfl) us hl
noncomputable abbrev s_overlap : Stmt := top 27
noncomputable def N_overlap : List Str := ["one", "other", "mark"]
theorem sc_overlap : FnScope N_overlap ["one", "other"] (defScope s_overlap) := ⟨rfl, rfl, rfl, by decide +kernel, rfl, by decide +kernel, by decide +kernel⟩
theorem f_overlap {cp : CP} {f : Addr} {fd : FuncData} (F : Fun K "overlap" "overlap" s_overlap f fd) (B : Bq mg) (len : ∀ ts h k, cp ts h k → ts.length = 2)
    (vc : ∀ ts h k, cp ts h k → W_overlap { nx := fun _ h' => k .non h', rt := k } (begin_ 3 ts) h) : FnOk P w K mg base CX0 1 f fd ["one", "other"] (spOf K cp) := by
  refine def_ok F sc_overlap len fun cdv A outer s H E hr => ⟨W_overlap, ?_, vc⟩
  have hu : (A.deeper (envOfC "overlap" (defScope s_overlap) s.heap.objs.size f cdv)).units + 40 < cLine := hu40 hr
  exact (ss_one (s_ret (oe_callTy call_tuple_of i_tuple B.tuple (oa_cons (oe_comp 2 rfl (compOk_of (fs := defScope s_overlap) (N := N_overlap) rfl rfl (by decide +kernel)) sc_overlap.nd (i_seq (ov 0)) (fun _ _ _ _ _ _ => (if_one (ot_cmp op_in_seq i_in (by with_unfolding_all rfl) (ov 2) (ov 1)))) (fun _ _ _ _ _ _ => (ov 2))) oa_nil sr_ListComp))))
theorem b_overlap {f : Addr} {fd : FuncData} (F : Fun K "overlap" "overlap" s_overlap f fd) : L2.Binds K fd ["one", "other"] [] := F.binds (ps := ["one", "other"]) fun _ _ _ _ _ _ us hl => len2 (fun _ _ => rfl) us hl
noncomputable abbrev s_unlike_row : Stmt := top 28
noncomputable def N_unlike_row : List Str := ["frame", "one", "other", "part", "row", "left", "right"]
theorem sc_unlike_row : FnScope N_unlike_row ["frame", "one", "other"] (defScope s_unlike_row) := ⟨rfl, rfl, rfl, by decide +kernel, rfl, by decide +kernel, by decide +kernel⟩
theorem f_unlike_row {cp_overlap : CP} {cp_sums : CP} {cp_rows_of : CP} {cp : CP} {f : Addr} {fd : FuncData} (F : Fun K "unlike_row" "unlike_row" s_unlike_row f fd) (B : Bq mg) (G_overlap : Callee P w K mg base 1 "overlap" cp_overlap) (G_sums : Callee P w K mg base 3 "sums" cp_sums) (G_rows_of : Callee P w K mg base 1 "rows_of" cp_rows_of) (len : ∀ ts h k, cp ts h k → ts.length = 3)
    (vc : ∀ ts h k, cp ts h k → W_unlike_row cp_overlap cp_sums cp_rows_of { nx := fun _ h' => k .non h', rt := k } (begin_ 7 ts) h) : FnOk P w K mg base CX0 4 f fd ["frame", "one", "other"] (spOf K cp) := by
  refine def_ok F sc_unlike_row len fun cdv A outer s H E hr => ⟨W_unlike_row cp_overlap cp_sums cp_rows_of, ?_, vc⟩
  have hu : (A.deeper (envOfC "unlike_row" (defScope s_unlike_row) s.heap.objs.size f cdv)).units + 40 < cLine := hu40 hr
  exact (ss_cons (s_set 3 sc_unlike_row.nd (oe_call G_overlap (hr.mono (by decide)) (oa_cons (oe_ix ix_A i_ix (ov 1) oe_int) (oa_cons (oe_ix ix_A i_ix (ov 2) oe_int) oa_nil sr_Subscript) sr_Subscript)))
  (ss_cons (s_for PassesOwn.never rfl (i_zip3 B.zip (oa_cons (oe_call G_rows_of (hr.mono (by decide)) (oa_cons (ov 0) (oa_cons (ov 3) oa_nil sr_Name) sr_Name)) (oa_cons (oe_call G_sums (hr.mono (by decide)) (oa_cons (ov 0) (oa_cons (ov 1) (oa_cons (ov 3) oa_nil sr_Name) sr_Name) sr_Name)) (oa_cons (oe_call G_sums (hr.mono (by decide)) (oa_cons (ov 0) (oa_cons (ov 2) (oa_cons (ov 3) oa_nil sr_Name) sr_Name) sr_Name)) oa_nil sr_Call) sr_Call) sr_Call)) (g_tup rfl 3 (gs_cons (g_name 4 sc_unlike_row.nd) (gs_cons (g_name 5 sc_unlike_row.nd) (gs_cons (g_name 6 sc_unlike_row.nd) gs_nil)))) (ss_one (s_if (ot_cmp (op_neD hu) i_ne (nomark _) (ov 5) (ov 6)) (ss_one (s_ret (ov 4))) ss_nil)))
  (ss_one (s_ret oe_non))))
theorem b_unlike_row {f : Addr} {fd : FuncData} (F : Fun K "unlike_row" "unlike_row" s_unlike_row f fd) : L2.Binds K fd ["frame", "one", "other"] [] := F.binds (ps := ["frame", "one", "other"]) fun _ _ _ _ _ _ us hl => len3 (fun _ _ _ => rfl) us hl
noncomputable abbrev s_agree : Stmt := top 29
noncomputable def N_agree : List Str := ["family", "tables", "first", "second", "row"]
theorem sc_agree : FnScope N_agree ["family"] (defScope s_agree) := ⟨rfl, rfl, rfl, by decide +kernel, rfl, by decide +kernel, by decide +kernel⟩
theorem f_agree {cp_unlike_row : CP} {cp : CP} {f : Addr} {fd : FuncData} (F : Fun K "agree" "agree" s_agree f fd) (B : Bq mg) (G_unlike_row : Callee P w K mg base 4 "unlike_row" cp_unlike_row) (len : ∀ ts h k, cp ts h k → ts.length = 1)
    (vc : ∀ ts h k, cp ts h k → W_agree cp_unlike_row { nx := fun _ h' => k .non h', rt := k } (begin_ 5 ts) h) : FnOk P w K mg base CX0 5 f fd ["family"] (spOf K cp) := by
  refine def_ok F sc_agree len fun cdv A outer s H E hr => ⟨W_agree cp_unlike_row, ?_, vc⟩
  have hu : (A.deeper (envOfC "agree" (defScope s_agree) s.heap.objs.size f cdv)).units + 40 < cLine := hu40 hr
  exact (ss_cons (s_set 1 sc_agree.nd (oe_ix ix_A i_ix (ov 0) oe_int))
  (ss_cons (s_for PassesOwn.never rfl (i_range1 B.range (oa_cons (oe_callB call_len_seq i_len B.len (oa_cons (ov 1) oa_nil sr_Name)) oa_nil sr_Call)) (g_name 2 sc_agree.nd) (ss_one (s_for PassesOwn.never rfl (i_range2 B.range (oa_cons (oe_op op_addA i_add (ov 2) oe_int) (oa_cons (oe_callB call_len_seq i_len B.len (oa_cons (ov 1) oa_nil sr_Name)) oa_nil sr_Call) sr_BinOp)) (g_name 3 sc_agree.nd) (ss_cons (s_set 4 sc_agree.nd (oe_call G_unlike_row (hr.mono (by decide)) (oa_cons (oe_ix ix_A i_ix (ov 0) oe_int) (oa_cons (oe_ix ix_A i_ix (ov 1) (ov 2)) (oa_cons (oe_ix ix_A i_ix (ov 1) (ov 3)) oa_nil sr_Subscript) sr_Subscript) sr_Subscript)))
  (ss_one (s_if (ot_cmp op_notN i_notN (nomark _) (ov 4) oe_non) (ss_one (s_ret (oe_tup (oa_cons (ov 2) (oa_cons (ov 3) (oa_cons (ov 4) oa_nil sr_Name) sr_Name) sr_Name)))) ss_nil))))))
  (ss_one (s_ret oe_non))))
theorem b_agree {f : Addr} {fd : FuncData} (F : Fun K "agree" "agree" s_agree f fd) : L2.Binds K fd ["family"] [] := F.binds (ps := ["family"]) fun _ _ _ _ _ _ us hl => len1 (fun _ => rfl) us hl
noncomputable abbrev s_law_take : Stmt := top 31
noncomputable def N_law_take : List Str := ["_law_state", "_law_size", "_law_script", "_law_count", "_law_cell", "_law_number"]
theorem sc_law_take : FnScope N_law_take ["_law_state", "_law_size"] (defScope s_law_take) := ⟨rfl, rfl, rfl, by decide +kernel, rfl, by decide +kernel, by decide +kernel⟩
theorem f_law_take {cp : CP} {f : Addr} {fd : FuncData} (F : Fun K "_law_take" "_law_take" s_law_take f fd) (B : Bq mg) (len : ∀ ts h k, cp ts h k → ts.length = 2)
    (vc : ∀ ts h k, cp ts h k → W_law_take { nx := fun _ h' => k .non h', rt := k } (begin_ 6 ts) h) : FnOk P w K mg base CX0 1 f fd ["_law_state", "_law_size"] (spOf K cp) := by
  refine def_ok F sc_law_take len fun cdv A outer s H E hr => ⟨W_law_take, ?_, vc⟩
  have hu : (A.deeper (envOfC "_law_take" (defScope s_law_take) s.heap.objs.size f cdv)).units + 40 < cLine := hu40 hr
  exact (ss_cons (s_set 2 sc_law_take.nd (oe_ix ix_A i_ix (ov 0) oe_int))
  (ss_cons (s_set 3 sc_law_take.nd (oe_ix ix_A i_ix (ov 0) oe_int))
  (ss_cons (s_asg (oe_op op_addA i_add (ov 3) oe_int) (g_sub set_list i_set (ov 0) oe_int))
  (ss_cons (s_set 4 sc_law_take.nd oe_int)
  (ss_cons (s_if (ot_w (ow_and (ot_cmp op_gt i_gt (nomark _) (oe_callB call_len_seq i_len B.len (oa_cons (ov 2) oa_nil sr_Name)) oe_int) (ow_and1 (ot_cmp (op_eqD hu) i_eq (nomark _) (oe_op op_mod i_mod (oe_ix ix_A i_ix (ov 2) oe_int) oe_int) oe_int)))) (ss_cons (s_if (ot_cmp (op_eqD hu) i_eq (nomark _) (oe_op op_mod i_mod (ov 3) oe_int) oe_int) (ss_one (s_asg (oe_op op_fdiv i_fdiv (oe_ix ix_A i_ix (ov 2) (oe_op op_mod i_mod (oe_op op_fdiv i_fdiv (ov 3) oe_int) (oe_callB call_len_seq i_len B.len (oa_cons (ov 2) oa_nil sr_Name)))) (oe_ix ix_A i_ix (oe_lst (oa_cons oe_int (oa_cons oe_int oa_nil sr_Constant) sr_Constant)) (oe_callTy call_int1 i_int B.int_ (oa_cons (oe_cmp (op_eqD hu) i_eq (nomark _) (ov 3) oe_int) oa_nil sr_Compare)))) (g_sub set_list i_set (ov 0) oe_int))) ss_nil)
  (ss_cons (s_set 4 sc_law_take.nd (oe_ix ix_A i_ix (ov 0) oe_int))
  (ss_cons (s_asg (oe_op op_fdiv i_fdiv (ov 4) (ov 1)) (g_sub set_list i_set (ov 0) oe_int))
  (ss_one (s_ret (oe_op op_mod i_mod (ov 4) (ov 1))))))) ss_nil)
  (ss_cons (s_if (ot_cmp op_gt i_gt (nomark _) (oe_callB call_len_seq i_len B.len (oa_cons (ov 2) oa_nil sr_Name)) oe_int) (ss_one (s_set 4 sc_law_take.nd (oe_op op_mod i_mod (oe_ix ix_A i_ix (ov 2) (oe_op op_mod i_mod (ov 3) (oe_callB call_len_seq i_len B.len (oa_cons (ov 2) oa_nil sr_Name)))) (oe_op op_pow i_pow oe_int oe_int)))) ss_nil)
  (ss_cons (s_set 5 sc_law_take.nd (oe_op op_mod i_mod (oe_op op_mulA i_mul (oe_op op_addA i_add (oe_op op_addA i_add (ov 4) (oe_op op_mulA i_mul oe_int (ov 3))) oe_int) oe_int) oe_int))
  (ss_cons (s_set 5 sc_law_take.nd (oe_op op_mod i_mod (oe_op op_addA i_add (oe_op op_addA i_add (oe_op op_mulA i_mul (ov 5) (ov 5)) (oe_op op_mulA i_mul oe_int (ov 3))) oe_int) oe_int))
  (ss_one (s_ret (oe_op op_mod i_mod (oe_op op_fdiv i_fdiv (oe_op op_mod i_mod (oe_op op_mulA i_mul (ov 5) (oe_op op_addA i_add (ov 5) oe_int)) oe_int) oe_int) (ov 1))))))))))))
theorem b_law_take {f : Addr} {fd : FuncData} (F : Fun K "_law_take" "_law_take" s_law_take f fd) : L2.Binds K fd ["_law_state", "_law_size"] [] := F.binds (ps := ["_law_state", "_law_size"]) fun _ _ _ _ _ _ us hl => len2 (fun _ _ => rfl) us hl
noncomputable abbrev s_law_rows : Stmt := top 32
noncomputable def N_law_rows : List Str := ["_law_kinds", "_law_found", "_law_many", "_law_longer", "_law_row", "_law_kind"]
theorem sc_law_rows : FnScope N_law_rows ["_law_kinds"] (defScope s_law_rows) := ⟨rfl, rfl, rfl, by decide +kernel, rfl, by decide +kernel, by decide +kernel⟩
theorem f_law_rows {cp : CP} {f : Addr} {fd : FuncData} (F : Fun K "_law_rows" "_law_rows" s_law_rows f fd) (B : Bq mg) (len : ∀ ts h k, cp ts h k → ts.length = 1)
    (vc : ∀ ts h k, cp ts h k → W_law_rows { nx := fun _ h' => k .non h', rt := k } (begin_ 6 ts) h) : FnOk P w K mg base CX0 1 f fd ["_law_kinds"] (spOf K cp) := by
  refine def_ok F sc_law_rows len fun cdv A outer s H E hr => ⟨W_law_rows, ?_, vc⟩
  have hu : (A.deeper (envOfC "_law_rows" (defScope s_law_rows) s.heap.objs.size f cdv)).units + 40 < cLine := hu40 hr
  exact (ss_cons (s_set 1 sc_law_rows.nd (oe_lst (oa_cons (oe_tup oa_nil) oa_nil sr_Tuple)))
  (ss_cons (s_for PassesOwn.never rfl (i_seq (ov 0)) (g_name 2 sc_law_rows.nd) (ss_cons (s_set 3 sc_law_rows.nd (oe_lst oa_nil))
  (ss_cons (s_for PassesOwn.never rfl (i_seq (ov 1)) (g_name 4 sc_law_rows.nd) (ss_one (s_expr (oe_bm PySem.F.plainAttrs_list PySem.F.slot_list_extend PySem.F.type_list_extend mt_extend i_extend ty_lst (ov 3) (oa_cons (oe_comp 5 rfl (compOk_of (fs := defScope s_law_rows) (N := N_law_rows) rfl rfl (by decide +kernel)) sc_law_rows.nd (i_range1 B.range (oa_cons (ov 2) oa_nil sr_Name)) (fun _ _ _ _ _ _ => if_nil) (fun _ _ _ _ _ _ => (oe_op op_addA i_add (ov 4) (oe_tup (oa_cons (ov 5) oa_nil sr_Name))))) oa_nil sr_ListComp)))))
  (ss_one (s_set 1 sc_law_rows.nd (ov 3))))))
  (ss_one (s_ret (ov 1)))))
theorem b_law_rows {f : Addr} {fd : FuncData} (F : Fun K "_law_rows" "_law_rows" s_law_rows f fd) : L2.Binds K fd ["_law_kinds"] [] := F.binds (ps := ["_law_kinds"]) fun _ _ _ _ _ _ us hl => len1 (fun _ => rfl) us hl
noncomputable abbrev s_law_volume : Stmt := top 33
noncomputable def N_law_volume : List Str := ["_law_kinds", "_law_volume_here", "_law_many"]
theorem sc_law_volume : FnScope N_law_volume ["_law_kinds"] (defScope s_law_volume) := ⟨rfl, rfl, rfl, by decide +kernel, rfl, by decide +kernel, by decide +kernel⟩
theorem f_law_volume {cp : CP} {f : Addr} {fd : FuncData} (F : Fun K "_law_volume" "_law_volume" s_law_volume f fd) (B : Bq mg) (len : ∀ ts h k, cp ts h k → ts.length = 1)
    (vc : ∀ ts h k, cp ts h k → W_law_volume { nx := fun _ h' => k .non h', rt := k } (begin_ 3 ts) h) : FnOk P w K mg base CX0 1 f fd ["_law_kinds"] (spOf K cp) := by
  refine def_ok F sc_law_volume len fun cdv A outer s H E hr => ⟨W_law_volume, ?_, vc⟩
  have hu : (A.deeper (envOfC "_law_volume" (defScope s_law_volume) s.heap.objs.size f cdv)).units + 40 < cLine := hu40 hr
  exact (ss_cons (s_set 1 sc_law_volume.nd oe_int)
  (ss_cons (s_for PassesOwn.never rfl (i_seq (ov 0)) (g_name 2 sc_law_volume.nd) (ss_one (s_set 1 sc_law_volume.nd (oe_op op_mulA i_mul (ov 1) (ov 2)))))
  (ss_one (s_ret (ov 1)))))
theorem b_law_volume {f : Addr} {fd : FuncData} (F : Fun K "_law_volume" "_law_volume" s_law_volume f fd) : L2.Binds K fd ["_law_kinds"] [] := F.binds (ps := ["_law_kinds"]) fun _ _ _ _ _ _ us hl => len1 (fun _ => rfl) us hl
noncomputable abbrev s_law_frame : Stmt := top 34
noncomputable def N_law_frame : List Str := ["_law_state", "_law_room", "_law_kinds", "_law_k", "_law_many"]
theorem sc_law_frame : FnScope N_law_frame ["_law_state", "_law_room"] (defScope s_law_frame) := ⟨rfl, rfl, rfl, by decide +kernel, rfl, by decide +kernel, by decide +kernel⟩
theorem f_law_frame {cp_law_take : CP} {cp_law_volume : CP} {cp : CP} {f : Addr} {fd : FuncData} (F : Fun K "_law_frame" "_law_frame" s_law_frame f fd) (B : Bq mg) (G_law_take : Callee P w K mg base 1 "_law_take" cp_law_take) (G_law_volume : Callee P w K mg base 1 "_law_volume" cp_law_volume) (len : ∀ ts h k, cp ts h k → ts.length = 2)
    (vc : ∀ ts h k, cp ts h k → W_law_frame cp_law_take cp_law_volume { nx := fun _ h' => k .non h', rt := k } (begin_ 5 ts) h) : FnOk P w K mg base CX0 2 f fd ["_law_state", "_law_room"] (spOf K cp) := by
  refine def_ok F sc_law_frame len fun cdv A outer s H E hr => ⟨W_law_frame cp_law_take cp_law_volume, ?_, vc⟩
  have hu : (A.deeper (envOfC "_law_frame" (defScope s_law_frame) s.heap.objs.size f cdv)).units + 40 < cLine := hu40 hr
  exact (ss_cons (s_set 2 sc_law_frame.nd (oe_lst oa_nil))
  (ss_cons (s_for PassesOwn.never rfl (i_range1 B.range (oa_cons (oe_op op_addA i_add oe_int (oe_call G_law_take (hr.mono (by decide)) (oa_cons (ov 0) (oa_cons oe_int oa_nil sr_Constant) sr_Name))) oa_nil sr_BinOp)) (g_name 3 sc_law_frame.nd) (ss_cons (s_set 4 sc_law_frame.nd (oe_op op_addA i_add oe_int (oe_call G_law_take (hr.mono (by decide)) (oa_cons (ov 0) (oa_cons oe_int oa_nil sr_Constant) sr_Name))))
  (ss_one (s_if (ot_cmp op_le i_le (nomark _) (oe_op op_mulA i_mul (oe_call G_law_volume (hr.mono (by decide)) (oa_cons (ov 2) oa_nil sr_Name)) (ov 4)) (ov 1)) (ss_one (s_expr (oe_bm PySem.F.plainAttrs_list PySem.F.slot_list_append PySem.F.type_list_append mt_append i_append ty_lst (ov 2) (oa_cons (ov 4) oa_nil sr_Name)))) ss_nil))))
  (ss_one (s_ret (oe_callTy call_tuple_of i_tuple B.tuple (oa_cons (ov 2) oa_nil sr_Name))))))
theorem b_law_frame {f : Addr} {fd : FuncData} (F : Fun K "_law_frame" "_law_frame" s_law_frame f fd) : L2.Binds K fd ["_law_state", "_law_room"] [] := F.binds (ps := ["_law_state", "_law_room"]) fun _ _ _ _ _ _ us hl => len2 (fun _ _ => rfl) us hl
noncomputable abbrev s_law_groups : Stmt := top 35
noncomputable def N_law_groups : List Str := ["_law_state", "_law_frame_here", "_law_room", "_law_groups_here", "_law_k", "_law_bits", "_law_group", "_law_volume_here", "_law_left", "_law_some", "_law_turn", "_law_mark"]
theorem sc_law_groups : FnScope N_law_groups ["_law_state", "_law_frame_here", "_law_room"] (defScope s_law_groups) := ⟨rfl, rfl, rfl, by decide +kernel, rfl, by decide +kernel, by decide +kernel⟩
theorem f_law_groups {cp_law_take : CP} {cp_law_volume : CP} {cp : CP} {f : Addr} {fd : FuncData} (F : Fun K "_law_groups" "_law_groups" s_law_groups f fd) (B : Bq mg) (G_law_take : Callee P w K mg base 1 "_law_take" cp_law_take) (G_law_volume : Callee P w K mg base 1 "_law_volume" cp_law_volume) (len : ∀ ts h k, cp ts h k → ts.length = 3)
    (vc : ∀ ts h k, cp ts h k → W_law_groups cp_law_take cp_law_volume { nx := fun _ h' => k .non h', rt := k } (begin_ 12 ts) h) : FnOk P w K mg base CX0 2 f fd ["_law_state", "_law_frame_here", "_law_room"] (spOf K cp) := by
  refine def_ok F sc_law_groups len fun cdv A outer s H E hr => ⟨W_law_groups cp_law_take cp_law_volume, ?_, vc⟩
  have hu : (A.deeper (envOfC "_law_groups" (defScope s_law_groups) s.heap.objs.size f cdv)).units + 40 < cLine := hu40 hr
  exact (ss_cons (s_set 3 sc_law_groups.nd (oe_lst oa_nil))
  (ss_cons (s_for PassesOwn.never rfl (i_range1 B.range (oa_cons (oe_call G_law_take (hr.mono (by decide)) (oa_cons (ov 0) (oa_cons oe_int oa_nil sr_Constant) sr_Name)) oa_nil sr_Call)) (g_name 4 sc_law_groups.nd) (ss_cons (s_set 5 sc_law_groups.nd (oe_op op_addA i_add oe_int (oe_call G_law_take (hr.mono (by decide)) (oa_cons (ov 0) (oa_cons (oe_op op_sub i_sub (oe_op op_shl i_shl oe_int (oe_callB call_len_seq i_len B.len (oa_cons (ov 1) oa_nil sr_Name))) oe_int) oa_nil sr_BinOp) sr_Name))))
  (ss_cons (s_if (ot_cmp (op_eqD hu) i_eq (nomark _) (oe_call G_law_take (hr.mono (by decide)) (oa_cons (ov 0) (oa_cons oe_int oa_nil sr_Constant) sr_Name)) oe_int) (ss_one (s_set 5 sc_law_groups.nd (oe_op op_or i_or (oe_op op_shl i_shl oe_int (oe_call G_law_take (hr.mono (by decide)) (oa_cons (ov 0) (oa_cons (oe_callB call_len_seq i_len B.len (oa_cons (ov 1) oa_nil sr_Name)) oa_nil sr_Call) sr_Name))) (oe_op op_shl i_shl oe_int (oe_call G_law_take (hr.mono (by decide)) (oa_cons (ov 0) (oa_cons (oe_callB call_len_seq i_len B.len (oa_cons (ov 1) oa_nil sr_Name)) oa_nil sr_Call) sr_Name)))))) ss_nil)
  (ss_cons (s_set 6 sc_law_groups.nd (oe_callTy call_tuple_of i_tuple B.tuple (oa_cons (oe_comp 11 rfl (compOk_of (fs := defScope s_law_groups) (N := N_law_groups) rfl rfl (by decide +kernel)) sc_law_groups.nd (i_range1 B.range (oa_cons (oe_callB call_len_seq i_len B.len (oa_cons (ov 1) oa_nil sr_Name)) oa_nil sr_Call)) (fun _ _ _ _ _ _ => (if_one (ot_cmp (op_eqD hu) i_eq (nomark _) (oe_op op_and i_and (oe_op op_shr i_shr (ov 5) (ov 11)) oe_int) oe_int))) (fun _ _ _ _ _ _ => (ov 11))) oa_nil sr_ListComp)))
  (ss_cons (s_set 7 sc_law_groups.nd (oe_call G_law_volume (hr.mono (by decide)) (oa_cons (oe_comp 11 rfl (compOk_of (fs := defScope s_law_groups) (N := N_law_groups) rfl rfl (by decide +kernel)) sc_law_groups.nd (i_seq (ov 6)) (fun _ _ _ _ _ _ => if_nil) (fun _ _ _ _ _ _ => (oe_ix ix_A i_ix (ov 1) (ov 11)))) oa_nil sr_ListComp)))
  (ss_one (s_if (ot_cmp op_le i_le (nomark _) (ov 7) (ov 2)) (ss_cons (s_expr (oe_bm PySem.F.plainAttrs_list PySem.F.slot_list_append PySem.F.type_list_append mt_append i_append ty_lst (ov 3) (oa_cons (ov 6) oa_nil sr_Name)))
  (ss_one (s_set 2 sc_law_groups.nd (oe_op op_sub i_sub (ov 2) (ov 7))))) ss_nil)))))))
  (ss_cons (s_compC 8 11 sc_law_groups.nd rfl (compOkC_of (fs := defScope s_law_groups) (N := N_law_groups) rfl rfl (by decide +kernel)) (i_range1 B.range (oa_cons (oe_callB call_len_seq i_len B.len (oa_cons (ov 1) oa_nil sr_Name)) oa_nil sr_Call)) (fun _ _ _ _ _ _ _ => (if_one (ot_cmp (op_eqD hu) i_eq (nomark _) (oe_callB call_len_seq i_len B.len (oa_cons (oe_comp 6 rfl (compOk_of (N := N_law_groups) rfl rfl rfl) sc_law_groups.nd (i_seq (ov 3)) (fun _ _ _ _ _ _ => (if_one (ot_cmp op_in_seq i_in (by with_unfolding_all rfl) (ov 11) (ov 6)))) (fun _ _ _ _ _ _ => (ov 6))) oa_nil sr_ListComp)) oe_int))) (fun _ _ _ _ _ _ _ => (ov 11)))
  (ss_cons (s_for PassesOwn.never rfl (i_seq (oe_lst (oa_cons (oe_slice sl_B i_slA (ov 8) oo_none (oo_some (oe_op op_fdiv i_fdiv (oe_callB call_len_seq i_len B.len (oa_cons (ov 8) oa_nil sr_Name)) oe_int))) (oa_cons (oe_slice sl_B i_slA (ov 8) (oo_some (oe_op op_fdiv i_fdiv (oe_callB call_len_seq i_len B.len (oa_cons (ov 8) oa_nil sr_Name)) oe_int)) oo_none) oa_nil sr_Subscript) sr_Subscript))) (g_name 9 sc_law_groups.nd) (ss_one (s_if (ot_cmp (op_neD hu) i_ne (nomark _) (ov 9) (oe_lst oa_nil)) (ss_one (s_expr (oe_bm PySem.F.plainAttrs_list PySem.F.slot_list_append PySem.F.type_list_append mt_append i_append ty_lst (ov 3) (oa_cons (oe_callTy call_tuple_of i_tuple B.tuple (oa_cons (ov 9) oa_nil sr_Name)) oa_nil sr_Call)))) ss_nil)))
  (ss_cons (s_set 10 sc_law_groups.nd (oe_call G_law_take (hr.mono (by decide)) (oa_cons (ov 0) (oa_cons (oe_callB call_len_seq i_len B.len (oa_cons (ov 3) oa_nil sr_Name)) oa_nil sr_Call) sr_Name)))
  (ss_one (s_ret (oe_op op_addA i_add (oe_slice sl_B i_slA (ov 3) (oo_some (ov 10)) oo_none) (oe_slice sl_B i_slA (ov 3) oo_none (oo_some (ov 10)))))))))))
theorem b_law_groups {f : Addr} {fd : FuncData} (F : Fun K "_law_groups" "_law_groups" s_law_groups f fd) : L2.Binds K fd ["_law_state", "_law_frame_here", "_law_room"] [] := F.binds (ps := ["_law_state", "_law_frame_here", "_law_room"]) fun _ _ _ _ _ _ us hl => len3 (fun _ _ _ => rfl) us hl
noncomputable abbrev s_law_sums : Stmt := top 36
noncomputable def N_law_sums : List Str := ["_law_group", "_law_rows_here", "_law_counts_here", "_law_some", "_law_due_rows", "_law_found", "_law_row", "_law_count", "_law_own", "_law_mark"]
theorem sc_law_sums : FnScope N_law_sums ["_law_group", "_law_rows_here", "_law_counts_here", "_law_some", "_law_due_rows"] (defScope s_law_sums) := ⟨rfl, rfl, rfl, by decide +kernel, rfl, by decide +kernel, by decide +kernel⟩
theorem f_law_sums {cp : CP} {f : Addr} {fd : FuncData} (F : Fun K "_law_sums" "_law_sums" s_law_sums f fd) (B : Bq mg) (len : ∀ ts h k, cp ts h k → ts.length = 5)
    (vc : ∀ ts h k, cp ts h k → W_law_sums { nx := fun _ h' => k .non h', rt := k } (begin_ 10 ts) h) : FnOk P w K mg base CX0 1 f fd ["_law_group", "_law_rows_here", "_law_counts_here", "_law_some", "_law_due_rows"] (spOf K cp) := by
  refine def_ok F sc_law_sums len fun cdv A outer s H E hr => ⟨W_law_sums, ?_, vc⟩
  have hu : (A.deeper (envOfC "_law_sums" (defScope s_law_sums) s.heap.objs.size f cdv)).units + 40 < cLine := hu40 hr
  exact (ss_cons (s_set 5 sc_law_sums.nd oe_dictT)
  (ss_cons (s_for PassesOwn.never rfl (i_seq (ov 4)) (g_name 6 sc_law_sums.nd) (ss_one (s_dput hu (ov 5) (ov 6) oe_int)))
  (ss_cons (s_for PassesOwn.never rfl (i_zip2 B.zip (oa_cons (ov 1) (oa_cons (ov 2) oa_nil sr_Name) sr_Name)) (g_tup rfl 2 (gs_cons (g_name 6 sc_law_sums.nd) (gs_cons (g_name 7 sc_law_sums.nd) gs_nil))) (ss_cons (s_set 8 sc_law_sums.nd (oe_callTy call_tuple_of i_tuple B.tuple (oa_cons (oe_comp 9 rfl (compOk_of (fs := defScope s_law_sums) (N := N_law_sums) rfl rfl (by decide +kernel)) sc_law_sums.nd (i_seq (ov 3)) (fun _ _ _ _ _ _ => if_nil) (fun _ _ _ _ _ _ => (oe_ix ix_A i_ix (ov 6) (oe_index hu (ov 0) (oa_cons (ov 9) oa_nil sr_Name))))) oa_nil sr_ListComp)))
  (ss_one (s_dput hu (ov 5) (ov 8) (oe_op op_addA i_add (oe_dget hu (ov 5) (ov 8)) (ov 7))))))
  (ss_one (s_ret (oe_comp 6 rfl (compOk_of (fs := defScope s_law_sums) (N := N_law_sums) rfl rfl (by decide +kernel)) sc_law_sums.nd (i_seq (ov 4)) (fun _ _ _ _ _ _ => if_nil) (fun _ _ _ _ _ _ => (oe_dget hu (ov 5) (ov 6)))))))))
theorem b_law_sums {f : Addr} {fd : FuncData} (F : Fun K "_law_sums" "_law_sums" s_law_sums f fd) : L2.Binds K fd ["_law_group", "_law_rows_here", "_law_counts_here", "_law_some", "_law_due_rows"] [] := F.binds (ps := ["_law_group", "_law_rows_here", "_law_counts_here", "_law_some", "_law_due_rows"]) fun _ _ _ _ _ _ us hl => len5 (fun _ _ _ _ _ => rfl) us hl
noncomputable abbrev s_law_counts : Stmt := top 37
noncomputable def N_law_counts : List Str := ["_law_state", "_law_many", "_law_way", "_law_counts_here", "_law_k", "_law_count"]
theorem sc_law_counts : FnScope N_law_counts ["_law_state", "_law_many"] (defScope s_law_counts) := ⟨rfl, rfl, rfl, by decide +kernel, rfl, by decide +kernel, by decide +kernel⟩
theorem f_law_counts {cp_law_take : CP} {cp : CP} {f : Addr} {fd : FuncData} (F : Fun K "_law_counts" "_law_counts" s_law_counts f fd) (B : Bq mg) (G_law_take : Callee P w K mg base 1 "_law_take" cp_law_take) (len : ∀ ts h k, cp ts h k → ts.length = 2)
    (vc : ∀ ts h k, cp ts h k → W_law_counts cp_law_take { nx := fun _ h' => k .non h', rt := k } (begin_ 6 ts) h) : FnOk P w K mg base CX0 2 f fd ["_law_state", "_law_many"] (spOf K cp) := by
  refine def_ok F sc_law_counts len fun cdv A outer s H E hr => ⟨W_law_counts cp_law_take, ?_, vc⟩
  have hu : (A.deeper (envOfC "_law_counts" (defScope s_law_counts) s.heap.objs.size f cdv)).units + 40 < cLine := hu40 hr
  exact (ss_cons (s_set 2 sc_law_counts.nd (oe_call G_law_take (hr.mono (by decide)) (oa_cons (ov 0) (oa_cons oe_int oa_nil sr_Constant) sr_Name)))
  (ss_cons (s_set 3 sc_law_counts.nd (oe_lst oa_nil))
  (ss_cons (s_for PassesOwn.never rfl (i_range1 B.range (oa_cons (ov 1) oa_nil sr_Name)) (g_name 4 sc_law_counts.nd) (ss_cons (s_set 5 sc_law_counts.nd (oe_call G_law_take (hr.mono (by decide)) (oa_cons (ov 0) (oa_cons (oe_ix ix_A i_ix (oe_lst (oa_cons oe_int (oa_cons oe_int (oa_cons oe_int (oa_cons (oe_op op_pow i_pow oe_int oe_int) oa_nil sr_BinOp) sr_Constant) sr_Constant) sr_Constant)) (ov 2)) oa_nil sr_Subscript) sr_Name)))
  (ss_cons (s_if (ot_cmp (op_eqD hu) i_eq (nomark _) (ov 2) oe_int) (ss_one (s_set 5 sc_law_counts.nd (oe_ix ix_A i_ix (oe_lst (oa_cons oe_int (oa_cons oe_int (oa_cons oe_int (oa_cons oe_int (oa_cons oe_int (oa_cons oe_int (oa_cons oe_int (oa_cons oe_int (oa_cons oe_int oa_nil sr_Constant) sr_Constant) sr_Constant) sr_Constant) sr_Constant) sr_Constant) sr_Constant) sr_Constant) sr_Constant)) (ov 5)))) ss_nil)
  (ss_one (s_expr (oe_bm PySem.F.plainAttrs_list PySem.F.slot_list_append PySem.F.type_list_append mt_append i_append ty_lst (ov 3) (oa_cons (ov 5) oa_nil sr_Name)))))))
  (ss_cons (s_if (ot_cmp (op_eqD hu) i_eq (nomark _) (oe_callB (call_sum rfl) i_sum B.sum (oa_cons (ov 3) oa_nil sr_Name)) oe_int) (ss_one (s_asg oe_int (g_sub set_list i_set (ov 3) (oe_call G_law_take (hr.mono (by decide)) (oa_cons (ov 0) (oa_cons (ov 1) oa_nil sr_Name) sr_Name))))) ss_nil)
  (ss_one (s_ret (ov 3)))))))
theorem b_law_counts {f : Addr} {fd : FuncData} (F : Fun K "_law_counts" "_law_counts" s_law_counts f fd) : L2.Binds K fd ["_law_state", "_law_many"] [] := F.binds (ps := ["_law_state", "_law_many"]) fun _ _ _ _ _ _ us hl => len2 (fun _ _ => rfl) us hl
noncomputable abbrev s_law_tables : Stmt := top 38
noncomputable def N_law_tables : List Str := ["_law_frame_here", "_law_groups_here", "_law_counts_here", "_law_rows_here", "_law_marks", "_law_tables_here", "_law_group", "_law_due_rows", "_law_mark"]
theorem sc_law_tables : FnScope N_law_tables ["_law_frame_here", "_law_groups_here", "_law_counts_here"] (defScope s_law_tables) := ⟨rfl, rfl, rfl, by decide +kernel, rfl, by decide +kernel, by decide +kernel⟩
theorem f_law_tables {cp_law_rows : CP} {cp_law_sums : CP} {cp : CP} {f : Addr} {fd : FuncData} (F : Fun K "_law_tables" "_law_tables" s_law_tables f fd) (B : Bq mg) (G_law_rows : Callee P w K mg base 1 "_law_rows" cp_law_rows) (G_law_sums : Callee P w K mg base 1 "_law_sums" cp_law_sums) (len : ∀ ts h k, cp ts h k → ts.length = 3)
    (vc : ∀ ts h k, cp ts h k → W_law_tables cp_law_rows cp_law_sums { nx := fun _ h' => k .non h', rt := k } (begin_ 9 ts) h) : FnOk P w K mg base CX0 2 f fd ["_law_frame_here", "_law_groups_here", "_law_counts_here"] (spOf K cp) := by
  refine def_ok F sc_law_tables len fun cdv A outer s H E hr => ⟨W_law_tables cp_law_rows cp_law_sums, ?_, vc⟩
  have hu : (A.deeper (envOfC "_law_tables" (defScope s_law_tables) s.heap.objs.size f cdv)).units + 40 < cLine := hu40 hr
  exact (ss_cons (s_set 3 sc_law_tables.nd (oe_call G_law_rows (hr.mono (by decide)) (oa_cons (ov 0) oa_nil sr_Name)))
  (ss_cons (s_set 4 sc_law_tables.nd (oe_tupRng B.tuple B.range (oa_cons (oe_callB call_len_seq i_len B.len (oa_cons (ov 0) oa_nil sr_Name)) oa_nil sr_Call)))
  (ss_cons (s_set 5 sc_law_tables.nd (oe_lst oa_nil))
  (ss_cons (s_for PassesOwn.never rfl (i_seq (ov 1)) (g_name 6 sc_law_tables.nd) (ss_cons (s_set 7 sc_law_tables.nd (oe_call G_law_rows (hr.mono (by decide)) (oa_cons (oe_comp 8 rfl (compOk_of (fs := defScope s_law_tables) (N := N_law_tables) rfl rfl (by decide +kernel)) sc_law_tables.nd (i_seq (ov 6)) (fun _ _ _ _ _ _ => if_nil) (fun _ _ _ _ _ _ => (oe_ix ix_A i_ix (ov 0) (ov 8)))) oa_nil sr_ListComp)))
  (ss_one (s_expr (oe_bm PySem.F.plainAttrs_list PySem.F.slot_list_append PySem.F.type_list_append mt_append i_append ty_lst (ov 5) (oa_cons (oe_tup (oa_cons (ov 6) (oa_cons (oe_call G_law_sums (hr.mono (by decide)) (oa_cons (ov 4) (oa_cons (ov 3) (oa_cons (ov 2) (oa_cons (ov 6) (oa_cons (ov 7) oa_nil sr_Name) sr_Name) sr_Name) sr_Name) sr_Name)) oa_nil sr_Call) sr_Name)) oa_nil sr_Tuple))))))
  (ss_one (s_ret (ov 5)))))))
theorem b_law_tables {f : Addr} {fd : FuncData} (F : Fun K "_law_tables" "_law_tables" s_law_tables f fd) : L2.Binds K fd ["_law_frame_here", "_law_groups_here", "_law_counts_here"] [] := F.binds (ps := ["_law_frame_here", "_law_groups_here", "_law_counts_here"]) fun _ _ _ _ _ _ us hl => len3 (fun _ _ _ => rfl) us hl
noncomputable abbrev s_law_due : Stmt := top 39
noncomputable def N_law_due : List Str := ["_law_frame_here", "_law_tables_here", "_law_i", "_law_j", "_law_both", "_law_both_rows", "_law_told", "_law_group", "_law_counts_here", "_law_rows_here", "_law_row", "_law_here", "_law_there", "_law_mark"]
theorem sc_law_due : FnScope N_law_due ["_law_frame_here", "_law_tables_here"] (defScope s_law_due) := ⟨rfl, rfl, rfl, by decide +kernel, rfl, by decide +kernel, by decide +kernel⟩
theorem f_law_due {cp_law_rows : CP} {cp_law_sums : CP} {cp : CP} {f : Addr} {fd : FuncData} (F : Fun K "_law_due" "_law_due" s_law_due f fd) (B : Bq mg) (G_law_rows : Callee P w K mg base 1 "_law_rows" cp_law_rows) (G_law_sums : Callee P w K mg base 1 "_law_sums" cp_law_sums) (len : ∀ ts h k, cp ts h k → ts.length = 2)
    (vc : ∀ ts h k, cp ts h k → W_law_due cp_law_rows cp_law_sums { nx := fun _ h' => k .non h', rt := k } (begin_ 14 ts) h) : FnOk P w K mg base CX0 2 f fd ["_law_frame_here", "_law_tables_here"] (spOf K cp) := by
  refine def_ok F sc_law_due len fun cdv A outer s H E hr => ⟨W_law_due cp_law_rows cp_law_sums, ?_, vc⟩
  have hu : (A.deeper (envOfC "_law_due" (defScope s_law_due) s.heap.objs.size f cdv)).units + 40 < cLine := hu40 hr
  exact (ss_cons (s_for PassesOwn.never rfl (i_range1 B.range (oa_cons (oe_callB call_len_seq i_len B.len (oa_cons (ov 1) oa_nil sr_Name)) oa_nil sr_Call)) (g_name 2 sc_law_due.nd) (ss_one (s_for PassesOwn.never rfl (i_range2 B.range (oa_cons (oe_op op_addA i_add (ov 2) oe_int) (oa_cons (oe_callB call_len_seq i_len B.len (oa_cons (ov 1) oa_nil sr_Name)) oa_nil sr_Call) sr_BinOp)) (g_name 3 sc_law_due.nd) (ss_cons (s_set 4 sc_law_due.nd (oe_callTy call_tuple_of i_tuple B.tuple (oa_cons (oe_comp 13 rfl (compOk_of (fs := defScope s_law_due) (N := N_law_due) rfl rfl (by decide +kernel)) sc_law_due.nd (i_seq (oe_ix ix_A i_ix (oe_ix ix_A i_ix (ov 1) (ov 2)) oe_int)) (fun _ _ _ _ _ _ => (if_one (ot_cmp op_in_seq i_in (by with_unfolding_all rfl) (ov 13) (oe_ix ix_A i_ix (oe_ix ix_A i_ix (ov 1) (ov 3)) oe_int)))) (fun _ _ _ _ _ _ => (ov 13))) oa_nil sr_ListComp)))
  (ss_cons (s_set 5 sc_law_due.nd (oe_call G_law_rows (hr.mono (by decide)) (oa_cons (oe_comp 13 rfl (compOk_of (fs := defScope s_law_due) (N := N_law_due) rfl rfl (by decide +kernel)) sc_law_due.nd (i_seq (ov 4)) (fun _ _ _ _ _ _ => if_nil) (fun _ _ _ _ _ _ => (oe_ix ix_A i_ix (ov 0) (ov 13)))) oa_nil sr_ListComp)))
  (ss_cons (s_set 6 sc_law_due.nd (oe_lst oa_nil))
  (ss_cons (s_for PassesOwn.never rfl (i_seq (oe_lst (oa_cons (oe_ix ix_A i_ix (ov 1) (ov 2)) (oa_cons (oe_ix ix_A i_ix (ov 1) (ov 3)) oa_nil sr_Subscript) sr_Subscript))) (g_tup rfl 2 (gs_cons (g_name 7 sc_law_due.nd) (gs_cons (g_name 8 sc_law_due.nd) gs_nil))) (ss_cons (s_set 9 sc_law_due.nd (oe_call G_law_rows (hr.mono (by decide)) (oa_cons (oe_comp 13 rfl (compOk_of (fs := defScope s_law_due) (N := N_law_due) rfl rfl (by decide +kernel)) sc_law_due.nd (i_seq (ov 7)) (fun _ _ _ _ _ _ => if_nil) (fun _ _ _ _ _ _ => (oe_ix ix_A i_ix (ov 0) (ov 13)))) oa_nil sr_ListComp)))
  (ss_one (s_expr (oe_bm PySem.F.plainAttrs_list PySem.F.slot_list_append PySem.F.type_list_append mt_append i_append ty_lst (ov 6) (oa_cons (oe_call G_law_sums (hr.mono (by decide)) (oa_cons (ov 7) (oa_cons (ov 9) (oa_cons (ov 8) (oa_cons (ov 4) (oa_cons (ov 5) oa_nil sr_Name) sr_Name) sr_Name) sr_Name) sr_Name)) oa_nil sr_Call))))))
  (ss_one (s_for PassesOwn.never rfl (i_zip3 B.zip (oa_cons (ov 5) (oa_cons (oe_ix ix_A i_ix (ov 6) oe_int) (oa_cons (oe_ix ix_A i_ix (ov 6) oe_int) oa_nil sr_Subscript) sr_Subscript) sr_Name)) (g_tup rfl 3 (gs_cons (g_name 10 sc_law_due.nd) (gs_cons (g_name 11 sc_law_due.nd) (gs_cons (g_name 12 sc_law_due.nd) gs_nil)))) (ss_one (s_if (ot_cmp (op_neD hu) i_ne (nomark _) (ov 11) (ov 12)) (ss_one (s_ret (oe_tup (oa_cons (ov 2) (oa_cons (ov 3) (oa_cons (ov 10) oa_nil sr_Name) sr_Name) sr_Name)))) ss_nil)))))))))))
  (ss_one (s_ret oe_non)))
theorem b_law_due {f : Addr} {fd : FuncData} (F : Fun K "_law_due" "_law_due" s_law_due f fd) : L2.Binds K fd ["_law_frame_here", "_law_tables_here"] [] := F.binds (ps := ["_law_frame_here", "_law_tables_here"]) fun _ _ _ _ _ _ us hl => len2 (fun _ _ => rfl) us hl
noncomputable abbrev s_law_moved : Stmt := top 40
noncomputable def N_law_moved : List Str := ["_law_state", "_law_frame_here", "_law_tables_here", "_law_group", "_law_counts_here", "_law_rows_here", "_law_spot", "_law_other", "_law_turn", "_law_place", "_law_goal", "_law_mark"]
theorem sc_law_moved : FnScope N_law_moved ["_law_state", "_law_frame_here", "_law_tables_here"] (defScope s_law_moved) := ⟨rfl, rfl, rfl, by decide +kernel, rfl, by decide +kernel, by decide +kernel⟩
theorem f_law_moved {cp_law_take : CP} {cp_law_rows : CP} {cp : CP} {f : Addr} {fd : FuncData} (F : Fun K "_law_moved" "_law_moved" s_law_moved f fd) (B : Bq mg) (G_law_take : Callee P w K mg base 1 "_law_take" cp_law_take) (G_law_rows : Callee P w K mg base 1 "_law_rows" cp_law_rows) (len : ∀ ts h k, cp ts h k → ts.length = 3)
    (vc : ∀ ts h k, cp ts h k → W_law_moved cp_law_take cp_law_rows { nx := fun _ h' => k .non h', rt := k } (begin_ 12 ts) h) : FnOk P w K mg base CX0 2 f fd ["_law_state", "_law_frame_here", "_law_tables_here"] (spOf K cp) := by
  refine def_ok F sc_law_moved len fun cdv A outer s H E hr => ⟨W_law_moved cp_law_take cp_law_rows, ?_, vc⟩
  have hu : (A.deeper (envOfC "_law_moved" (defScope s_law_moved) s.heap.objs.size f cdv)).units + 40 < cLine := hu40 hr
  exact (ss_cons (s_asg (oe_ix ix_A i_ix (ov 2) (oe_call G_law_take (hr.mono (by decide)) (oa_cons (ov 0) (oa_cons (oe_callB call_len_seq i_len B.len (oa_cons (ov 2) oa_nil sr_Name)) oa_nil sr_Call) sr_Name))) (g_tup rfl 2 (gs_cons (g_name 3 sc_law_moved.nd) (gs_cons (g_name 4 sc_law_moved.nd) gs_nil))))
  (ss_cons (s_set 5 sc_law_moved.nd (oe_call G_law_rows (hr.mono (by decide)) (oa_cons (oe_comp 11 rfl (compOk_of (fs := defScope s_law_moved) (N := N_law_moved) rfl rfl (by decide +kernel)) sc_law_moved.nd (i_seq (ov 3)) (fun _ _ _ _ _ _ => if_nil) (fun _ _ _ _ _ _ => (oe_ix ix_A i_ix (ov 1) (ov 11)))) oa_nil sr_ListComp)))
  (ss_cons (s_set 6 sc_law_moved.nd (oe_call G_law_take (hr.mono (by decide)) (oa_cons (ov 0) (oa_cons (oe_callB call_len_seq i_len B.len (oa_cons (ov 5) oa_nil sr_Name)) oa_nil sr_Call) sr_Name)))
  (ss_cons (s_set 7 sc_law_moved.nd (oe_callTy call_list_of i_list B.list (oa_cons (oe_ix ix_A i_ix (ov 5) (ov 6)) oa_nil sr_Subscript)))
  (ss_cons (s_for PassesOwn.never rfl (i_range1 B.range (oa_cons (oe_op op_addA i_add oe_int (oe_call G_law_take (hr.mono (by decide)) (oa_cons (ov 0) (oa_cons oe_int oa_nil sr_Constant) sr_Name))) oa_nil sr_BinOp)) (g_name 8 sc_law_moved.nd) (ss_cons (s_set 9 sc_law_moved.nd (oe_call G_law_take (hr.mono (by decide)) (oa_cons (ov 0) (oa_cons (oe_callB call_len_seq i_len B.len (oa_cons (ov 3) oa_nil sr_Name)) oa_nil sr_Call) sr_Name)))
  (ss_one (s_asg (oe_op op_mod i_mod (oe_op op_addA i_add (oe_ix ix_A i_ix (ov 7) (ov 9)) oe_int) (oe_ix ix_A i_ix (ov 1) (oe_ix ix_A i_ix (ov 3) (ov 9)))) (g_sub set_list i_set (ov 7) (ov 9))))))
  (ss_cons (s_set 10 sc_law_moved.nd (oe_index hu (ov 5) (oa_cons (oe_callTy call_tuple_of i_tuple B.tuple (oa_cons (ov 7) oa_nil sr_Name)) oa_nil sr_Call)))
  (ss_one (s_if (ot_cmp op_gt i_gt (nomark _) (oe_ix ix_A i_ix (ov 4) (ov 6)) oe_int) (ss_cons (s_asg (oe_op op_sub i_sub (oe_ix ix_A i_ix (ov 4) (ov 6)) oe_int) (g_sub set_list i_set (ov 4) (ov 6)))
  (ss_one (s_asg (oe_op op_addA i_add (oe_ix ix_A i_ix (ov 4) (ov 10)) oe_int) (g_sub set_list i_set (ov 4) (ov 10))))) ss_nil))))))))
theorem b_law_moved {f : Addr} {fd : FuncData} (F : Fun K "_law_moved" "_law_moved" s_law_moved f fd) : L2.Binds K fd ["_law_state", "_law_frame_here", "_law_tables_here"] [] := F.binds (ps := ["_law_state", "_law_frame_here", "_law_tables_here"]) fun _ _ _ _ _ _ us hl => len3 (fun _ _ _ => rfl) us hl
noncomputable abbrev s_law_right : Stmt := top 41
noncomputable def N_law_right : List Str := ["_law_frame_here", "_law_tables_here", "_law_family", "_law_found", "_law_due_here", "_law_numbers", "_law_number"]
theorem sc_law_right : FnScope N_law_right ["_law_frame_here", "_law_tables_here"] (defScope s_law_right) := ⟨rfl, rfl, rfl, by decide +kernel, rfl, by decide +kernel, by decide +kernel⟩
theorem f_law_right {cp_family_of : CP} {cp_agree : CP} {cp_law_due : CP} {cp : CP} {f : Addr} {fd : FuncData} (F : Fun K "_law_right" "_law_right" s_law_right f fd) (B : Bq mg) (G_family_of : Callee P w K mg base 6 "family_of" cp_family_of) (G_agree : Callee P w K mg base 5 "agree" cp_agree) (G_law_due : Callee P w K mg base 2 "_law_due" cp_law_due) (len : ∀ ts h k, cp ts h k → ts.length = 2)
    (vc : ∀ ts h k, cp ts h k → W_law_right cp_family_of cp_agree cp_law_due { nx := fun _ h' => k .non h', rt := k } (begin_ 7 ts) h) : FnOk P w K mg base CX0 7 f fd ["_law_frame_here", "_law_tables_here"] (spOf K cp) := by
  refine def_ok F sc_law_right len fun cdv A outer s H E hr => ⟨W_law_right cp_family_of cp_agree cp_law_due, ?_, vc⟩
  have hu : (A.deeper (envOfC "_law_right" (defScope s_law_right) s.heap.objs.size f cdv)).units + 40 < cLine := hu40 hr
  exact (ss_cons (s_set 2 sc_law_right.nd (oe_call G_family_of (hr.mono (by decide)) (oa_cons (ov 0) (oa_cons (ov 1) oa_nil sr_Name) sr_Name)))
  (ss_cons (s_set 3 sc_law_right.nd (oe_call G_agree (hr.mono (by decide)) (oa_cons (ov 2) oa_nil sr_Name)))
  (ss_cons (s_set 4 sc_law_right.nd (oe_call G_law_due (hr.mono (by decide)) (oa_cons (ov 0) (oa_cons (ov 1) oa_nil sr_Name) sr_Name)))
  (ss_cons (s_if (ot_w (ow_or (ot_cmp (op_neD hu) i_ne (nomark _) (ov 2) (oe_call G_family_of (hr.mono (by decide)) (oa_cons (ov 0) (oa_cons (ov 1) oa_nil sr_Name) sr_Name))) (ow_or1 (ot_cmp (op_neD hu) i_ne (nomark _) (ov 3) (ov 4))))) (ss_one (s_ret oe_bl)) ss_nil)
  (ss_cons (s_if (ot_cmp op_isN i_isN (nomark _) (ov 4) oe_non) (ss_one (s_ret (oe_cmp op_isN i_isN (nomark _) (ov 3) oe_non))) ss_nil)
  (ss_cons (s_if (ot_w (ow_or (ot_not (ot_val (oe_isi "tuple" B.isinstance B.tuple (ov 3)))) (ow_or1 (ot_not (ot_val (oe_isi "tuple" B.isinstance B.tuple (oe_ix ix_A i_ix (ov 3) oe_int))))))) (ss_one (s_ret oe_bl)) ss_nil)
  (ss_cons (s_set 5 sc_law_right.nd (oe_op op_addA i_add (oe_lst (oa_cons (oe_ix ix_A i_ix (ov 3) oe_int) (oa_cons (oe_ix ix_A i_ix (ov 3) oe_int) oa_nil sr_Subscript) sr_Subscript)) (oe_callTy call_list_of i_list B.list (oa_cons (oe_ix ix_A i_ix (ov 3) oe_int) oa_nil sr_Subscript))))
  (ss_one (s_ret (oe_cmp (op_eqD hu) i_eq (nomark _) (oe_comp 6 rfl (compOk_of (fs := defScope s_law_right) (N := N_law_right) rfl rfl (by decide +kernel)) sc_law_right.nd (i_seq (ov 5)) (fun _ _ _ _ _ _ => (if_one (ot_w (ow_or (ot_val (oe_isi "bool" B.isinstance B.bool (ov 6))) (ow_or1 (ot_not (ot_val (oe_isi "int" B.isinstance B.int_ (ov 6))))))))) (fun _ _ _ _ _ _ => (ov 6))) (oe_lst oa_nil)))))))))))
theorem b_law_right {f : Addr} {fd : FuncData} (F : Fun K "_law_right" "_law_right" s_law_right f fd) : L2.Binds K fd ["_law_frame_here", "_law_tables_here"] [] := F.binds (ps := ["_law_frame_here", "_law_tables_here"]) fun _ _ _ _ _ _ us hl => len2 (fun _ _ => rfl) us hl
noncomputable abbrev s_law : Stmt := top 42
noncomputable def N_law : List Str := ["_law_script", "_law_state", "_law_frame_here", "_law_groups_here", "_law_tables_here", "_law_turn"]
theorem sc_law : FnScope N_law ["_law_script"] (defScope s_law) := ⟨rfl, rfl, rfl, by decide +kernel, rfl, by decide +kernel, by decide +kernel⟩
theorem f_law {cp_law_frame : CP} {cp_law_groups : CP} {cp_law_take : CP} {cp_law_tables : CP} {cp_law_counts : CP} {cp_law_volume : CP} {cp_agree : CP} {cp_family_of : CP} {cp_law_moved : CP} {cp_law_right : CP} {cp : CP} {f : Addr} {fd : FuncData} (F : Fun K "law" "law" s_law f fd) (B : Bq mg) (G_law_frame : Callee P w K mg base 2 "_law_frame" cp_law_frame) (G_law_groups : Callee P w K mg base 2 "_law_groups" cp_law_groups) (G_law_take : Callee P w K mg base 1 "_law_take" cp_law_take) (G_law_tables : Callee P w K mg base 2 "_law_tables" cp_law_tables) (G_law_counts : Callee P w K mg base 2 "_law_counts" cp_law_counts) (G_law_volume : Callee P w K mg base 1 "_law_volume" cp_law_volume) (G_agree : Callee P w K mg base 5 "agree" cp_agree) (G_family_of : Callee P w K mg base 6 "family_of" cp_family_of) (G_law_moved : Callee P w K mg base 2 "_law_moved" cp_law_moved) (G_law_right : Callee P w K mg base 7 "_law_right" cp_law_right) (len : ∀ ts h k, cp ts h k → ts.length = 1)
    (vc : ∀ ts h k, cp ts h k → W_law cp_law_frame cp_law_groups cp_law_take cp_law_tables cp_law_counts cp_law_volume cp_agree cp_family_of cp_law_moved cp_law_right { nx := fun _ h' => k .non h', rt := k } (begin_ 6 ts) h) : FnOk P w K mg base CX0 8 f fd ["_law_script"] (spOf K cp) := by
  refine def_ok F sc_law len fun cdv A outer s H E hr => ⟨W_law cp_law_frame cp_law_groups cp_law_take cp_law_tables cp_law_counts cp_law_volume cp_agree cp_family_of cp_law_moved cp_law_right, ?_, vc⟩
  have hu : (A.deeper (envOfC "law" (defScope s_law) s.heap.objs.size f cdv)).units + 40 < cLine := hu40 hr
  exact (ss_cons (s_set 1 sc_law.nd (oe_lst (oa_cons (ov 0) (oa_cons oe_int (oa_cons oe_int oa_nil sr_Constant) sr_Constant) sr_Name)))
  (ss_cons (s_set 2 sc_law.nd (oe_call G_law_frame (hr.mono (by decide)) (oa_cons (ov 1) (oa_cons oe_int oa_nil sr_Constant) sr_Name)))
  (ss_cons (s_set 3 sc_law.nd (oe_call G_law_groups (hr.mono (by decide)) (oa_cons (ov 1) (oa_cons (ov 2) (oa_cons (oe_ix ix_A i_ix (oe_lst (oa_cons oe_int (oa_cons oe_int oa_nil sr_Constant) sr_Constant)) (oe_call G_law_take (hr.mono (by decide)) (oa_cons (ov 1) (oa_cons oe_int oa_nil sr_Constant) sr_Name))) oa_nil sr_Subscript) sr_Name) sr_Name)))
  (ss_cons (s_set 4 sc_law.nd (oe_call G_law_tables (hr.mono (by decide)) (oa_cons (ov 2) (oa_cons (ov 3) (oa_cons (oe_call G_law_counts (hr.mono (by decide)) (oa_cons (ov 1) (oa_cons (oe_call G_law_volume (hr.mono (by decide)) (oa_cons (ov 2) oa_nil sr_Name)) oa_nil sr_Call) sr_Name)) oa_nil sr_Call) sr_Name) sr_Name)))
  (ss_cons (s_if (ot_cmp op_notN i_notN (nomark _) (oe_call G_agree (hr.mono (by decide)) (oa_cons (oe_call G_family_of (hr.mono (by decide)) (oa_cons (ov 2) (oa_cons (ov 4) oa_nil sr_Name) sr_Name)) oa_nil sr_Call)) oe_non) (ss_one (s_ret oe_bl)) ss_nil)
  (ss_cons (s_for PassesOwn.never rfl (i_range1 B.range (oa_cons (oe_call G_law_take (hr.mono (by decide)) (oa_cons (ov 1) (oa_cons oe_int oa_nil sr_Constant) sr_Name)) oa_nil sr_Call)) (g_name 5 sc_law.nd) (ss_cons (s_expr (oe_call G_law_moved (hr.mono (by decide)) (oa_cons (ov 1) (oa_cons (ov 2) (oa_cons (ov 4) oa_nil sr_Name) sr_Name) sr_Name)))
  (ss_one (s_if (ot_not (ot_val (oe_call G_law_right (hr.mono (by decide)) (oa_cons (ov 2) (oa_cons (ov 4) oa_nil sr_Name) sr_Name)))) (ss_one (s_ret oe_bl)) ss_nil))))
  (ss_one (s_ret (oe_call G_law_right (hr.mono (by decide)) (oa_cons (ov 2) (oa_cons (ov 4) oa_nil sr_Name) sr_Name))))))))))
theorem b_law {f : Addr} {fd : FuncData} (F : Fun K "law" "law" s_law f fd) : L2.Binds K fd ["_law_script"] [] := F.binds (ps := ["_law_script"]) fun _ _ _ _ _ _ us hl => len1 (fun _ => rfl) us hl
end
theorem all_mk {l : PySem.W.OpenLaw} {w : World} {K : PySem.W.Frag} {h : Heap} {mg : Str → Option Value} {fa : Addr} (X : K.In h) (G : h.Ns mainGlobals mg) (hfa : mg "law" = some (.ref fa)) {t_MOST_MARKS t_MOST_ROWS t_MOST_TABLES t_MOST_TABLE_ROWS t_MOST_WHOLE : Tok} {f1 f2 f3 f4 f5 f6 f7 f8 f9 f10 f11 f12 f13 f14 f15 f16 f17 f18 f19 f20 f21 f22 f23 f24 f25 f26 f27 f28 f29 f30 : Addr} {od1 an1 od2 an2 od3 an3 od4 an4 od5 an5 od6 an6 od7 an7 od8 an8 od9 an9 od10 an10 od11 an11 od12 an12 od13 an13 od14 an14 od15 an15 od16 an16 od17 an17 od18 an18 od19 an19 od20 an20 od21 an21 od22 an22 od23 an23 od24 an24 od25 an25 od26 an26 od27 an27 od28 an28 od29 an29 od30 an30 : Option Addr} {sl1 sl2 sl3 sl4 sl5 sl6 sl7 sl8 sl9 sl10 sl11 sl12 sl13 sl14 sl15 sl16 sl17 sl18 sl19 sl20 sl21 sl22 sl23 sl24 sl25 sl26 sl27 sl28 sl29 sl30 : Array (Option Value)} {oc1 kV1 dc1 pm1 cd1 ct1 oc2 kV2 dc2 pm2 cd2 ct2 oc3 kV3 dc3 pm3 cd3 ct3 oc4 kV4 dc4 pm4 cd4 ct4 oc5 kV5 dc5 pm5 cd5 ct5 oc6 kV6 dc6 pm6 cd6 ct6 oc7 kV7 dc7 pm7 cd7 ct7 oc8 kV8 dc8 pm8 cd8 ct8 oc9 kV9 dc9 pm9 cd9 ct9 oc10 kV10 dc10 pm10 cd10 ct10 oc11 kV11 dc11 pm11 cd11 ct11 oc12 kV12 dc12 pm12 cd12 ct12 oc13 kV13 dc13 pm13 cd13 ct13 oc14 kV14 dc14 pm14 cd14 ct14 oc15 kV15 dc15 pm15 cd15 ct15 oc16 kV16 dc16 pm16 cd16 ct16 oc17 kV17 dc17 pm17 cd17 ct17 oc18 kV18 dc18 pm18 cd18 ct18 oc19 kV19 dc19 pm19 cd19 ct19 oc20 kV20 dc20 pm20 cd20 ct20 oc21 kV21 dc21 pm21 cd21 ct21 oc22 kV22 dc22 pm22 cd22 ct22 oc23 kV23 dc23 pm23 cd23 ct23 oc24 kV24 dc24 pm24 cd24 ct24 oc25 kV25 dc25 pm25 cd25 ct25 oc26 kV26 dc26 pm26 cd26 ct26 oc27 kV27 dc27 pm27 cd27 ct27 oc28 kV28 dc28 pm28 cd28 ct28 oc29 kV29 dc29 pm29 cd29 ct29 oc30 kV30 dc30 pm30 cd30 ct30 : Value}
    (a1 : PySem.W.nsIn K mainGlobals "is_whole" = some (some (.ref f1))) (l1 : K.lookup f1 = some ⟨oc1, od1, .func (PySem.W.fnOf "is_whole" "is_whole" (defArgs s_is_whole) (defBody s_is_whole) (defScope s_is_whole) .none kV1 dc1 pm1 an1 cd1 ct1), sl1⟩) (c1 : PySem.W.codeIn K cd1 "is_whole" = true) (k1 : PySem.W.keepIn K (.ref f1) = true)
    (a2 : PySem.W.nsIn K mainGlobals "frame_of" = some (some (.ref f2))) (l2 : K.lookup f2 = some ⟨oc2, od2, .func (PySem.W.fnOf "frame_of" "frame_of" (defArgs s_frame_of) (defBody s_frame_of) (defScope s_frame_of) .none kV2 dc2 pm2 an2 cd2 ct2), sl2⟩) (c2 : PySem.W.codeIn K cd2 "frame_of" = true) (k2 : PySem.W.keepIn K (.ref f2) = true)
    (a3 : PySem.W.nsIn K mainGlobals "is_group" = some (some (.ref f3))) (l3 : K.lookup f3 = some ⟨oc3, od3, .func (PySem.W.fnOf "is_group" "is_group" (defArgs s_is_group) (defBody s_is_group) (defScope s_is_group) .none kV3 dc3 pm3 an3 cd3 ct3), sl3⟩) (c3 : PySem.W.codeIn K cd3 "is_group" = true) (k3 : PySem.W.keepIn K (.ref f3) = true)
    (a4 : PySem.W.nsIn K mainGlobals "rows_of" = some (some (.ref f4))) (l4 : K.lookup f4 = some ⟨oc4, od4, .func (PySem.W.fnOf "rows_of" "rows_of" (defArgs s_rows_of) (defBody s_rows_of) (defScope s_rows_of) .none kV4 dc4 pm4 an4 cd4 ct4), sl4⟩) (c4 : PySem.W.codeIn K cd4 "rows_of" = true) (k4 : PySem.W.keepIn K (.ref f4) = true)
    (a5 : PySem.W.nsIn K mainGlobals "seen" = some (some (.ref f5))) (l5 : K.lookup f5 = some ⟨oc5, od5, .func (PySem.W.fnOf "seen" "seen" (defArgs s_seen) (defBody s_seen) (defScope s_seen) .none kV5 dc5 pm5 an5 cd5 ct5), sl5⟩) (c5 : PySem.W.codeIn K cd5 "seen" = true) (k5 : PySem.W.keepIn K (.ref f5) = true)
    (a6 : PySem.W.nsIn K mainGlobals "group_rows" = some (some (.ref f6))) (l6 : K.lookup f6 = some ⟨oc6, od6, .func (PySem.W.fnOf "group_rows" "group_rows" (defArgs s_group_rows) (defBody s_group_rows) (defScope s_group_rows) .none kV6 dc6 pm6 an6 cd6 ct6), sl6⟩) (c6 : PySem.W.codeIn K cd6 "group_rows" = true) (k6 : PySem.W.keepIn K (.ref f6) = true)
    (a7 : PySem.W.nsIn K mainGlobals "check_size" = some (some (.ref f7))) (l7 : K.lookup f7 = some ⟨oc7, od7, .func (PySem.W.fnOf "check_size" "check_size" (defArgs s_check_size) (defBody s_check_size) (defScope s_check_size) .none kV7 dc7 pm7 an7 cd7 ct7), sl7⟩) (c7 : PySem.W.codeIn K cd7 "check_size" = true) (k7 : PySem.W.keepIn K (.ref f7) = true)
    (a8 : PySem.W.nsIn K mainGlobals "is_table" = some (some (.ref f8))) (l8 : K.lookup f8 = some ⟨oc8, od8, .func (PySem.W.fnOf "is_table" "is_table" (defArgs s_is_table) (defBody s_is_table) (defScope s_is_table) .none kV8 dc8 pm8 an8 cd8 ct8), sl8⟩) (c8 : PySem.W.codeIn K cd8 "is_table" = true) (k8 : PySem.W.keepIn K (.ref f8) = true)
    (a9 : PySem.W.nsIn K mainGlobals "check_tables" = some (some (.ref f9))) (l9 : K.lookup f9 = some ⟨oc9, od9, .func (PySem.W.fnOf "check_tables" "check_tables" (defArgs s_check_tables) (defBody s_check_tables) (defScope s_check_tables) .none kV9 dc9 pm9 an9 cd9 ct9), sl9⟩) (c9 : PySem.W.codeIn K cd9 "check_tables" = true) (k9 : PySem.W.keepIn K (.ref f9) = true)
    (a10 : PySem.W.nsIn K mainGlobals "check_marks" = some (some (.ref f10))) (l10 : K.lookup f10 = some ⟨oc10, od10, .func (PySem.W.fnOf "check_marks" "check_marks" (defArgs s_check_marks) (defBody s_check_marks) (defScope s_check_marks) .none kV10 dc10 pm10 an10 cd10 ct10), sl10⟩) (c10 : PySem.W.codeIn K cd10 "check_marks" = true) (k10 : PySem.W.keepIn K (.ref f10) = true)
    (a11 : PySem.W.nsIn K mainGlobals "as_tuple" = some (some (.ref f11))) (l11 : K.lookup f11 = some ⟨oc11, od11, .func (PySem.W.fnOf "as_tuple" "as_tuple" (defArgs s_as_tuple) (defBody s_as_tuple) (defScope s_as_tuple) .none kV11 dc11 pm11 an11 cd11 ct11), sl11⟩) (c11 : PySem.W.codeIn K cd11 "as_tuple" = true) (k11 : PySem.W.keepIn K (.ref f11) = true)
    (a12 : PySem.W.nsIn K mainGlobals "draft_of" = some (some (.ref f12))) (l12 : K.lookup f12 = some ⟨oc12, od12, .func (PySem.W.fnOf "draft_of" "draft_of" (defArgs s_draft_of) (defBody s_draft_of) (defScope s_draft_of) .none kV12 dc12 pm12 an12 cd12 ct12), sl12⟩) (c12 : PySem.W.codeIn K cd12 "draft_of" = true) (k12 : PySem.W.keepIn K (.ref f12) = true)
    (a13 : PySem.W.nsIn K mainGlobals "family_of" = some (some (.ref f13))) (l13 : K.lookup f13 = some ⟨oc13, od13, .func (PySem.W.fnOf "family_of" "family_of" (defArgs s_family_of) (defBody s_family_of) (defScope s_family_of) .none kV13 dc13 pm13 an13 cd13 ct13), sl13⟩) (c13 : PySem.W.codeIn K cd13 "family_of" = true) (k13 : PySem.W.keepIn K (.ref f13) = true)
    (a14 : PySem.W.nsIn K mainGlobals "added_up" = some (some (.ref f14))) (l14 : K.lookup f14 = some ⟨oc14, od14, .func (PySem.W.fnOf "added_up" "added_up" (defArgs s_added_up) (defBody s_added_up) (defScope s_added_up) .none kV14 dc14 pm14 an14 cd14 ct14), sl14⟩) (c14 : PySem.W.codeIn K cd14 "added_up" = true) (k14 : PySem.W.keepIn K (.ref f14) = true)
    (a15 : PySem.W.nsIn K mainGlobals "sums" = some (some (.ref f15))) (l15 : K.lookup f15 = some ⟨oc15, od15, .func (PySem.W.fnOf "sums" "sums" (defArgs s_sums) (defBody s_sums) (defScope s_sums) .none kV15 dc15 pm15 an15 cd15 ct15), sl15⟩) (c15 : PySem.W.codeIn K cd15 "sums" = true) (k15 : PySem.W.keepIn K (.ref f15) = true)
    (a16 : PySem.W.nsIn K mainGlobals "overlap" = some (some (.ref f16))) (l16 : K.lookup f16 = some ⟨oc16, od16, .func (PySem.W.fnOf "overlap" "overlap" (defArgs s_overlap) (defBody s_overlap) (defScope s_overlap) .none kV16 dc16 pm16 an16 cd16 ct16), sl16⟩) (c16 : PySem.W.codeIn K cd16 "overlap" = true) (k16 : PySem.W.keepIn K (.ref f16) = true)
    (a17 : PySem.W.nsIn K mainGlobals "unlike_row" = some (some (.ref f17))) (l17 : K.lookup f17 = some ⟨oc17, od17, .func (PySem.W.fnOf "unlike_row" "unlike_row" (defArgs s_unlike_row) (defBody s_unlike_row) (defScope s_unlike_row) .none kV17 dc17 pm17 an17 cd17 ct17), sl17⟩) (c17 : PySem.W.codeIn K cd17 "unlike_row" = true) (k17 : PySem.W.keepIn K (.ref f17) = true)
    (a18 : PySem.W.nsIn K mainGlobals "agree" = some (some (.ref f18))) (l18 : K.lookup f18 = some ⟨oc18, od18, .func (PySem.W.fnOf "agree" "agree" (defArgs s_agree) (defBody s_agree) (defScope s_agree) .none kV18 dc18 pm18 an18 cd18 ct18), sl18⟩) (c18 : PySem.W.codeIn K cd18 "agree" = true) (k18 : PySem.W.keepIn K (.ref f18) = true)
    (a19 : PySem.W.nsIn K mainGlobals "_law_take" = some (some (.ref f19))) (l19 : K.lookup f19 = some ⟨oc19, od19, .func (PySem.W.fnOf "_law_take" "_law_take" (defArgs s_law_take) (defBody s_law_take) (defScope s_law_take) .none kV19 dc19 pm19 an19 cd19 ct19), sl19⟩) (c19 : PySem.W.codeIn K cd19 "_law_take" = true) (k19 : PySem.W.keepIn K (.ref f19) = true)
    (a20 : PySem.W.nsIn K mainGlobals "_law_rows" = some (some (.ref f20))) (l20 : K.lookup f20 = some ⟨oc20, od20, .func (PySem.W.fnOf "_law_rows" "_law_rows" (defArgs s_law_rows) (defBody s_law_rows) (defScope s_law_rows) .none kV20 dc20 pm20 an20 cd20 ct20), sl20⟩) (c20 : PySem.W.codeIn K cd20 "_law_rows" = true) (k20 : PySem.W.keepIn K (.ref f20) = true)
    (a21 : PySem.W.nsIn K mainGlobals "_law_volume" = some (some (.ref f21))) (l21 : K.lookup f21 = some ⟨oc21, od21, .func (PySem.W.fnOf "_law_volume" "_law_volume" (defArgs s_law_volume) (defBody s_law_volume) (defScope s_law_volume) .none kV21 dc21 pm21 an21 cd21 ct21), sl21⟩) (c21 : PySem.W.codeIn K cd21 "_law_volume" = true) (k21 : PySem.W.keepIn K (.ref f21) = true)
    (a22 : PySem.W.nsIn K mainGlobals "_law_frame" = some (some (.ref f22))) (l22 : K.lookup f22 = some ⟨oc22, od22, .func (PySem.W.fnOf "_law_frame" "_law_frame" (defArgs s_law_frame) (defBody s_law_frame) (defScope s_law_frame) .none kV22 dc22 pm22 an22 cd22 ct22), sl22⟩) (c22 : PySem.W.codeIn K cd22 "_law_frame" = true) (k22 : PySem.W.keepIn K (.ref f22) = true)
    (a23 : PySem.W.nsIn K mainGlobals "_law_groups" = some (some (.ref f23))) (l23 : K.lookup f23 = some ⟨oc23, od23, .func (PySem.W.fnOf "_law_groups" "_law_groups" (defArgs s_law_groups) (defBody s_law_groups) (defScope s_law_groups) .none kV23 dc23 pm23 an23 cd23 ct23), sl23⟩) (c23 : PySem.W.codeIn K cd23 "_law_groups" = true) (k23 : PySem.W.keepIn K (.ref f23) = true)
    (a24 : PySem.W.nsIn K mainGlobals "_law_sums" = some (some (.ref f24))) (l24 : K.lookup f24 = some ⟨oc24, od24, .func (PySem.W.fnOf "_law_sums" "_law_sums" (defArgs s_law_sums) (defBody s_law_sums) (defScope s_law_sums) .none kV24 dc24 pm24 an24 cd24 ct24), sl24⟩) (c24 : PySem.W.codeIn K cd24 "_law_sums" = true) (k24 : PySem.W.keepIn K (.ref f24) = true)
    (a25 : PySem.W.nsIn K mainGlobals "_law_counts" = some (some (.ref f25))) (l25 : K.lookup f25 = some ⟨oc25, od25, .func (PySem.W.fnOf "_law_counts" "_law_counts" (defArgs s_law_counts) (defBody s_law_counts) (defScope s_law_counts) .none kV25 dc25 pm25 an25 cd25 ct25), sl25⟩) (c25 : PySem.W.codeIn K cd25 "_law_counts" = true) (k25 : PySem.W.keepIn K (.ref f25) = true)
    (a26 : PySem.W.nsIn K mainGlobals "_law_tables" = some (some (.ref f26))) (l26 : K.lookup f26 = some ⟨oc26, od26, .func (PySem.W.fnOf "_law_tables" "_law_tables" (defArgs s_law_tables) (defBody s_law_tables) (defScope s_law_tables) .none kV26 dc26 pm26 an26 cd26 ct26), sl26⟩) (c26 : PySem.W.codeIn K cd26 "_law_tables" = true) (k26 : PySem.W.keepIn K (.ref f26) = true)
    (a27 : PySem.W.nsIn K mainGlobals "_law_due" = some (some (.ref f27))) (l27 : K.lookup f27 = some ⟨oc27, od27, .func (PySem.W.fnOf "_law_due" "_law_due" (defArgs s_law_due) (defBody s_law_due) (defScope s_law_due) .none kV27 dc27 pm27 an27 cd27 ct27), sl27⟩) (c27 : PySem.W.codeIn K cd27 "_law_due" = true) (k27 : PySem.W.keepIn K (.ref f27) = true)
    (a28 : PySem.W.nsIn K mainGlobals "_law_moved" = some (some (.ref f28))) (l28 : K.lookup f28 = some ⟨oc28, od28, .func (PySem.W.fnOf "_law_moved" "_law_moved" (defArgs s_law_moved) (defBody s_law_moved) (defScope s_law_moved) .none kV28 dc28 pm28 an28 cd28 ct28), sl28⟩) (c28 : PySem.W.codeIn K cd28 "_law_moved" = true) (k28 : PySem.W.keepIn K (.ref f28) = true)
    (a29 : PySem.W.nsIn K mainGlobals "_law_right" = some (some (.ref f29))) (l29 : K.lookup f29 = some ⟨oc29, od29, .func (PySem.W.fnOf "_law_right" "_law_right" (defArgs s_law_right) (defBody s_law_right) (defScope s_law_right) .none kV29 dc29 pm29 an29 cd29 ct29), sl29⟩) (c29 : PySem.W.codeIn K cd29 "_law_right" = true) (k29 : PySem.W.keepIn K (.ref f29) = true)
    (a30 : PySem.W.nsIn K mainGlobals "law" = some (some (.ref f30))) (l30 : K.lookup f30 = some ⟨oc30, od30, .func (PySem.W.fnOf "law" "law" (defArgs s_law) (defBody s_law) (defScope s_law) .none kV30 dc30 pm30 an30 cd30 ct30), sl30⟩) (c30 : PySem.W.codeIn K cd30 "law" = true) (k30 : PySem.W.keepIn K (.ref f30) = true)
    (z1 : PySem.W.nsIn K mainGlobals "any" = some none) (z2 : PySem.W.nsIn K mainGlobals "bool" = some none) (z3 : PySem.W.nsIn K mainGlobals "enumerate" = some none) (z4 : PySem.W.nsIn K mainGlobals "int" = some none) (z5 : PySem.W.nsIn K mainGlobals "isinstance" = some none) (z6 : PySem.W.nsIn K mainGlobals "len" = some none) (z7 : PySem.W.nsIn K mainGlobals "list" = some none) (z8 : PySem.W.nsIn K mainGlobals "range" = some none) (z9 : PySem.W.nsIn K mainGlobals "sum" = some none) (z10 : PySem.W.nsIn K mainGlobals "tuple" = some none) (z11 : PySem.W.nsIn K mainGlobals "zip" = some none) (m_MOST_MARKS : PySem.W.nsIn K mainGlobals "MOST_MARKS" = some (some (.int 6 t_MOST_MARKS))) (m_MOST_ROWS : PySem.W.nsIn K mainGlobals "MOST_ROWS" = some (some (.int 64 t_MOST_ROWS))) (m_MOST_TABLES : PySem.W.nsIn K mainGlobals "MOST_TABLES" = some (some (.int 8 t_MOST_TABLES))) (m_MOST_TABLE_ROWS : PySem.W.nsIn K mainGlobals "MOST_TABLE_ROWS" = some (some (.int 60 t_MOST_TABLE_ROWS))) (m_MOST_WHOLE : PySem.W.nsIn K mainGlobals "MOST_WHOLE" = some (some (.int 1000000000 t_MOST_WHOLE))) :
    ∃ fd : FuncData, (∀ (s : Shared) (v : Value), BindsTo s fd ⟨[v], []⟩ [("_law_script", v)]) ∧ ∀ base : Heap, K.In base → base.Ns mainGlobals mg → FnOk l.prog w K mg base CX0 8 fa fd ["_law_script"] (spOf K cp_law) := by
  have e := hfa.symm.trans (PySem.W.mg_of X G a30)
  cases e
  refine ⟨PySem.W.fnOf "law" "law" (defArgs s_law) (defBody s_law) (defScope s_law) .none kV30 dc30 pm30 an30 cd30 ct30, fun s v => .of_eq rfl, fun base _ _ => ?_⟩
  have F1 := fun_mk (st := s_is_whole) l1 c1 k1
  have F2 := fun_mk (st := s_frame_of) l2 c2 k2
  have F3 := fun_mk (st := s_is_group) l3 c3 k3
  have F4 := fun_mk (st := s_rows_of) l4 c4 k4
  have F5 := fun_mk (st := s_seen) l5 c5 k5
  have F6 := fun_mk (st := s_group_rows) l6 c6 k6
  have F7 := fun_mk (st := s_check_size) l7 c7 k7
  have F8 := fun_mk (st := s_is_table) l8 c8 k8
  have F9 := fun_mk (st := s_check_tables) l9 c9 k9
  have F10 := fun_mk (st := s_check_marks) l10 c10 k10
  have F11 := fun_mk (st := s_as_tuple) l11 c11 k11
  have F12 := fun_mk (st := s_draft_of) l12 c12 k12
  have F13 := fun_mk (st := s_family_of) l13 c13 k13
  have F14 := fun_mk (st := s_added_up) l14 c14 k14
  have F15 := fun_mk (st := s_sums) l15 c15 k15
  have F16 := fun_mk (st := s_overlap) l16 c16 k16
  have F17 := fun_mk (st := s_unlike_row) l17 c17 k17
  have F18 := fun_mk (st := s_agree) l18 c18 k18
  have F19 := fun_mk (st := s_law_take) l19 c19 k19
  have F20 := fun_mk (st := s_law_rows) l20 c20 k20
  have F21 := fun_mk (st := s_law_volume) l21 c21 k21
  have F22 := fun_mk (st := s_law_frame) l22 c22 k22
  have F23 := fun_mk (st := s_law_groups) l23 c23 k23
  have F24 := fun_mk (st := s_law_sums) l24 c24 k24
  have F25 := fun_mk (st := s_law_counts) l25 c25 k25
  have F26 := fun_mk (st := s_law_tables) l26 c26 k26
  have F27 := fun_mk (st := s_law_due) l27 c27 k27
  have F28 := fun_mk (st := s_law_moved) l28 c28 k28
  have F29 := fun_mk (st := s_law_right) l29 c29 k29
  have F30 := fun_mk (st := s_law) l30 c30 k30
  have B : Bq mg := ⟨PySem.W.mg_none_of X G z1, PySem.W.mg_none_of X G z2, PySem.W.mg_none_of X G z3, PySem.W.mg_none_of X G z4, PySem.W.mg_none_of X G z5, PySem.W.mg_none_of X G z6, PySem.W.mg_none_of X G z7, PySem.W.mg_none_of X G z8, PySem.W.mg_none_of X G z9, PySem.W.mg_none_of X G z10, PySem.W.mg_none_of X G z11⟩
  have M_MOST_MARKS : ∃ t, mg "MOST_MARKS" = some (.int 6 t) := ⟨_, PySem.W.mg_of X G m_MOST_MARKS⟩
  have M_MOST_ROWS : ∃ t, mg "MOST_ROWS" = some (.int 64 t) := ⟨_, PySem.W.mg_of X G m_MOST_ROWS⟩
  have M_MOST_TABLES : ∃ t, mg "MOST_TABLES" = some (.int 8 t) := ⟨_, PySem.W.mg_of X G m_MOST_TABLES⟩
  have M_MOST_TABLE_ROWS : ∃ t, mg "MOST_TABLE_ROWS" = some (.int 60 t) := ⟨_, PySem.W.mg_of X G m_MOST_TABLE_ROWS⟩
  have M_MOST_WHOLE : ∃ t, mg "MOST_WHOLE" = some (.int 1000000000 t) := ⟨_, PySem.W.mg_of X G m_MOST_WHOLE⟩
  have G1 : Callee l.prog w K mg base 1 "is_whole" cp_is_whole := ⟨_, _, _, f_is_whole F1 B len_is_whole vc_is_whole, PySem.W.mg_of X G a1, k1, b_is_whole F1⟩
  have G2 : Callee l.prog w K mg base 2 "frame_of" cp_frame_of := ⟨_, _, _, f_frame_of F2 B M_MOST_MARKS M_MOST_ROWS G1 len_frame_of vc_frame_of, PySem.W.mg_of X G a2, k2, b_frame_of F2⟩
  have G3 : Callee l.prog w K mg base 2 "is_group" cp_is_group := ⟨_, _, _, f_is_group F3 B G1 len_is_group vc_is_group, PySem.W.mg_of X G a3, k3, b_is_group F3⟩
  have G4 : Callee l.prog w K mg base 1 "rows_of" cp_rows_of := ⟨_, _, _, f_rows_of F4 B len_rows_of vc_rows_of, PySem.W.mg_of X G a4, k4, b_rows_of F4⟩
  have G5 : Callee l.prog w K mg base 1 "seen" cp_seen := ⟨_, _, _, f_seen F5 B len_seen vc_seen, PySem.W.mg_of X G a5, k5, b_seen F5⟩
  have G6 : Callee l.prog w K mg base 3 "group_rows" cp_group_rows := ⟨_, _, _, f_group_rows F6 B G3 G4 len_group_rows vc_group_rows, PySem.W.mg_of X G a6, k6, b_group_rows F6⟩
  have G7 : Callee l.prog w K mg base 4 "check_size" cp_check_size := ⟨_, _, _, f_check_size F7 B M_MOST_TABLES M_MOST_TABLE_ROWS G6 len_check_size vc_check_size, PySem.W.mg_of X G a7, k7, b_check_size F7⟩
  have G8 : Callee l.prog w K mg base 4 "is_table" cp_is_table := ⟨_, _, _, f_is_table F8 B M_MOST_WHOLE G6 G1 len_is_table vc_is_table, PySem.W.mg_of X G a8, k8, b_is_table F8⟩
  have G9 : Callee l.prog w K mg base 5 "check_tables" cp_check_tables := ⟨_, _, _, f_check_tables F9 B G8 len_check_tables vc_check_tables, PySem.W.mg_of X G a9, k9, b_check_tables F9⟩
  have G10 : Callee l.prog w K mg base 1 "check_marks" cp_check_marks := ⟨_, _, _, f_check_marks F10 B len_check_marks vc_check_marks, PySem.W.mg_of X G a10, k10, b_check_marks F10⟩
  have G11 : Callee l.prog w K mg base 1 "as_tuple" cp_as_tuple := ⟨_, _, _, f_as_tuple F11 B len_as_tuple vc_as_tuple, PySem.W.mg_of X G a11, k11, b_as_tuple F11⟩
  have G12 : Callee l.prog w K mg base 2 "draft_of" cp_draft_of := ⟨_, _, _, f_draft_of F12 B G11 len_draft_of vc_draft_of, PySem.W.mg_of X G a12, k12, b_draft_of F12⟩
  have G13 : Callee l.prog w K mg base 6 "family_of" cp_family_of := ⟨_, _, _, f_family_of F13 B G2 G12 G7 G9 G10 len_family_of vc_family_of, PySem.W.mg_of X G a13, k13, b_family_of F13⟩
  have G14 : Callee l.prog w K mg base 2 "added_up" cp_added_up := ⟨_, _, _, f_added_up F14 B G4 len_added_up vc_added_up, PySem.W.mg_of X G a14, k14, b_added_up F14⟩
  have G15 : Callee l.prog w K mg base 3 "sums" cp_sums := ⟨_, _, _, f_sums F15 B G4 G5 G14 len_sums vc_sums, PySem.W.mg_of X G a15, k15, b_sums F15⟩
  have G16 : Callee l.prog w K mg base 1 "overlap" cp_overlap := ⟨_, _, _, f_overlap F16 B len_overlap vc_overlap, PySem.W.mg_of X G a16, k16, b_overlap F16⟩
  have G17 : Callee l.prog w K mg base 4 "unlike_row" cp_unlike_row := ⟨_, _, _, f_unlike_row F17 B G16 G15 G4 len_unlike_row vc_unlike_row, PySem.W.mg_of X G a17, k17, b_unlike_row F17⟩
  have G18 : Callee l.prog w K mg base 5 "agree" cp_agree := ⟨_, _, _, f_agree F18 B G17 len_agree vc_agree, PySem.W.mg_of X G a18, k18, b_agree F18⟩
  have G19 : Callee l.prog w K mg base 1 "_law_take" cp_law_take := ⟨_, _, _, f_law_take F19 B len_law_take vc_law_take2, PySem.W.mg_of X G a19, k19, b_law_take F19⟩
  have G20 : Callee l.prog w K mg base 1 "_law_rows" cp_law_rows := ⟨_, _, _, f_law_rows F20 B len_law_rows vc_law_rows, PySem.W.mg_of X G a20, k20, b_law_rows F20⟩
  have G21 : Callee l.prog w K mg base 1 "_law_volume" cp_law_volume := ⟨_, _, _, f_law_volume F21 B len_law_volume vc_law_volume, PySem.W.mg_of X G a21, k21, b_law_volume F21⟩
  have G22 : Callee l.prog w K mg base 2 "_law_frame" cp_law_frame := ⟨_, _, _, f_law_frame F22 B G19 G21 len_law_frame vc_law_frame, PySem.W.mg_of X G a22, k22, b_law_frame F22⟩
  have G23 : Callee l.prog w K mg base 2 "_law_groups" cp_law_groups := ⟨_, _, _, f_law_groups F23 B G19 G21 len_law_groups vc_law_groups, PySem.W.mg_of X G a23, k23, b_law_groups F23⟩
  have G24 : Callee l.prog w K mg base 1 "_law_sums" cp_law_sums := ⟨_, _, _, f_law_sums F24 B len_law_sums vc_law_sums, PySem.W.mg_of X G a24, k24, b_law_sums F24⟩
  have G25 : Callee l.prog w K mg base 2 "_law_counts" cp_law_counts := ⟨_, _, _, f_law_counts F25 B G19 len_law_counts vc_law_counts, PySem.W.mg_of X G a25, k25, b_law_counts F25⟩
  have G26 : Callee l.prog w K mg base 2 "_law_tables" cp_law_tables := ⟨_, _, _, f_law_tables F26 B G20 G24 len_law_tables vc_law_tables, PySem.W.mg_of X G a26, k26, b_law_tables F26⟩
  have G27 : Callee l.prog w K mg base 2 "_law_due" cp_law_due := ⟨_, _, _, f_law_due F27 B G20 G24 len_law_due vc_law_due, PySem.W.mg_of X G a27, k27, b_law_due F27⟩
  have G28 : Callee l.prog w K mg base 2 "_law_moved" cp_law_moved := ⟨_, _, _, f_law_moved F28 B G19 G20 len_law_moved vc_law_moved, PySem.W.mg_of X G a28, k28, b_law_moved F28⟩
  have G29 : Callee l.prog w K mg base 7 "_law_right" cp_law_right := ⟨_, _, _, f_law_right F29 B G13 G18 G27 len_law_right vc_law_right, PySem.W.mg_of X G a29, k29, b_law_right F29⟩
  exact f_law F30 B G22 G23 G19 G26 G25 G21 G18 G13 G28 G29 len_law vc_law
theorem walk {l : PySem.W.OpenLaw} {q : Program} {loose : List Str} {XP : (Str → Option Value) → Heap → Prop} {YP : World → Heap → Prop} {d : DefRec} {K : Params → PySem.W.Frag} (hn : l.most = some 63) (hdf : d.params.defaults = [])
    (hY : ∀ (w : World) (h : Heap), YP w h → (K w.params).In h)
    (F : ∀ (w : World) (mg : Str → Option Value) (fa : Addr) (h : Heap), (K w.params).In h → h.Ns mainGlobals mg → mg d.name = some (.ref fa) →
      ∃ fd : FuncData, (∀ (s : Shared) (u : Value), BindsTo s fd ⟨[u], []⟩ [("_law_script", u)]) ∧ ∀ base : Heap, (K w.params).In base → base.Ns mainGlobals mg → FnOk l.prog w (K w.params) mg base CX0 8 fa fd ["_law_script"] (spOf (K w.params) cp_law)) :
    PySem.W.WalkO q loose XP YP l.row.toRowW d [] (fun f vs => PySem.call f vs) :=
  L2.walk_of (n := 63) (k := 8) (x := "_law_script") (CX := fun _ => CX0) (sp := fun w => spOf (K w.params) cp_law) hn (by decide) hdf ⟨rfl, by decide, by decide⟩ hY F (fun w H a ns hl hO hS => law_start hl hO hS) fun _ _ _ _ _ z => z
theorem walkX_of {q : Program} {loose : List Str} {XP : (Str → Option Value) → Heap → Prop} {r : PySem.W.RowW} {d : DefRec} {kwd : List (Str × Expr)} {run : Value → List Value → Sem Value} {K : Params → PySem.W.Frag} {as : List Addr} {n t : Nat} (e : ∀ P, as = (K P).map (·.1)) (hW : PySem.W.WalkO q loose XP (PySem.W.InK K) r d kwd run) : PySem.W.WalkX q loose XP (PySem.W.X.obsZ as) (PySem.W.X.valZ K n t) r d kwd run :=
  fun w s₀ s₁ mg mb G y a o pm cd doc dV kV h1 h2 h3 h4 h5 h6 args vals as' L => hW w s₀ s₁ mg mb G (PySem.W.InK.keeps w _ _ (PySem.W.X.z_facts e y).2.1 L.keeps) a o pm cd doc dV kV h1 h2 h3 h4 h5 h6 args vals as'
end K10
open PySem PySem.W PyProof.Rows
set_option maxRecDepth 100000 in
set_option maxHeartbeats 0 in
theorem PySem.Challenge.cw_gluedtables_k10_tables_that_agree_holds : PySem.Challenge.rw_gluedtables_k10_tables_that_agree.Holds := by
  w_on; o_law; z_head; (case hw => w_witness2)
  refine K10.walkX_of (fun _ => rfl) ?_
  refine K10.walk (l := PySem.Challenge.rw_gluedtables_k10_tables_that_agree) rfl rfl (fun w h Y => Y) ?F
  case F =>
    intro w mg fa h KX G hmg
    refine' K10.all_mk KX G hmg ?a1 ?l1 ?c1 ?k1 ?a2 ?l2 ?c2 ?k2 ?a3 ?l3 ?c3 ?k3 ?a4 ?l4 ?c4 ?k4 ?a5 ?l5 ?c5 ?k5 ?a6 ?l6 ?c6 ?k6 ?a7 ?l7 ?c7 ?k7 ?a8 ?l8 ?c8 ?k8 ?a9 ?l9 ?c9 ?k9 ?a10 ?l10 ?c10 ?k10 ?a11 ?l11 ?c11 ?k11 ?a12 ?l12 ?c12 ?k12 ?a13 ?l13 ?c13 ?k13 ?a14 ?l14 ?c14 ?k14 ?a15 ?l15 ?c15 ?k15 ?a16 ?l16 ?c16 ?k16 ?a17 ?l17 ?c17 ?k17 ?a18 ?l18 ?c18 ?k18 ?a19 ?l19 ?c19 ?k19 ?a20 ?l20 ?c20 ?k20 ?a21 ?l21 ?c21 ?k21 ?a22 ?l22 ?c22 ?k22 ?a23 ?l23 ?c23 ?k23 ?a24 ?l24 ?c24 ?k24 ?a25 ?l25 ?c25 ?k25 ?a26 ?l26 ?c26 ?k26 ?a27 ?l27 ?c27 ?k27 ?a28 ?l28 ?c28 ?k28 ?a29 ?l29 ?c29 ?k29 ?a30 ?l30 ?c30 ?k30 ?z1 ?z2 ?z3 ?z4 ?z5 ?z6 ?z7 ?z8 ?z9 ?z10 ?z11 ?m_MOST_MARKS ?m_MOST_ROWS ?m_MOST_TABLES ?m_MOST_TABLE_ROWS ?m_MOST_WHOLE
    (case a1 => k_is)
    (case l1 => k_is)
    (case c1 => k_is)
    (case k1 => k_is)
    (case a2 => k_is)
    (case l2 => k_is)
    (case c2 => k_is)
    (case k2 => k_is)
    (case a3 => k_is)
    (case l3 => k_is)
    (case c3 => k_is)
    (case k3 => k_is)
    (case a4 => k_is)
    (case l4 => k_is)
    (case c4 => k_is)
    (case k4 => k_is)
    (case a5 => k_is)
    (case l5 => k_is)
    (case c5 => k_is)
    (case k5 => k_is)
    (case a6 => k_is)
    (case l6 => k_is)
    (case c6 => k_is)
    (case k6 => k_is)
    (case a7 => k_is)
    (case l7 => k_is)
    (case c7 => k_is)
    (case k7 => k_is)
    (case a8 => k_is)
    (case l8 => k_is)
    (case c8 => k_is)
    (case k8 => k_is)
    (case a9 => k_is)
    (case l9 => k_is)
    (case c9 => k_is)
    (case k9 => k_is)
    (case a10 => k_is)
    (case l10 => k_is)
    (case c10 => k_is)
    (case k10 => k_is)
    (case a11 => k_is)
    (case l11 => k_is)
    (case c11 => k_is)
    (case k11 => k_is)
    (case a12 => k_is)
    (case l12 => k_is)
    (case c12 => k_is)
    (case k12 => k_is)
    (case a13 => k_is)
    (case l13 => k_is)
    (case c13 => k_is)
    (case k13 => k_is)
    (case a14 => k_is)
    (case l14 => k_is)
    (case c14 => k_is)
    (case k14 => k_is)
    (case a15 => k_is)
    (case l15 => k_is)
    (case c15 => k_is)
    (case k15 => k_is)
    (case a16 => k_is)
    (case l16 => k_is)
    (case c16 => k_is)
    (case k16 => k_is)
    (case a17 => k_is)
    (case l17 => k_is)
    (case c17 => k_is)
    (case k17 => k_is)
    (case a18 => k_is)
    (case l18 => k_is)
    (case c18 => k_is)
    (case k18 => k_is)
    (case a19 => k_is)
    (case l19 => k_is)
    (case c19 => k_is)
    (case k19 => k_is)
    (case a20 => k_is)
    (case l20 => k_is)
    (case c20 => k_is)
    (case k20 => k_is)
    (case a21 => k_is)
    (case l21 => k_is)
    (case c21 => k_is)
    (case k21 => k_is)
    (case a22 => k_is)
    (case l22 => k_is)
    (case c22 => k_is)
    (case k22 => k_is)
    (case a23 => k_is)
    (case l23 => k_is)
    (case c23 => k_is)
    (case k23 => k_is)
    (case a24 => k_is)
    (case l24 => k_is)
    (case c24 => k_is)
    (case k24 => k_is)
    (case a25 => k_is)
    (case l25 => k_is)
    (case c25 => k_is)
    (case k25 => k_is)
    (case a26 => k_is)
    (case l26 => k_is)
    (case c26 => k_is)
    (case k26 => k_is)
    (case a27 => k_is)
    (case l27 => k_is)
    (case c27 => k_is)
    (case k27 => k_is)
    (case a28 => k_is)
    (case l28 => k_is)
    (case c28 => k_is)
    (case k28 => k_is)
    (case a29 => k_is)
    (case l29 => k_is)
    (case c29 => k_is)
    (case k29 => k_is)
    (case a30 => k_is)
    (case l30 => k_is)
    (case c30 => k_is)
    (case k30 => k_is)
    (case z1 => k_is)
    (case z2 => k_is)
    (case z3 => k_is)
    (case z4 => k_is)
    (case z5 => k_is)
    (case z6 => k_is)
    (case z7 => k_is)
    (case z8 => k_is)
    (case z9 => k_is)
    (case z10 => k_is)
    (case z11 => k_is)
    (case m_MOST_MARKS => k_is)
    (case m_MOST_ROWS => k_is)
    (case m_MOST_TABLES => k_is)
    (case m_MOST_TABLE_ROWS => k_is)
    (case m_MOST_WHOLE => k_is)
#print axioms PySem.Challenge.cw_gluedtables_k10_tables_that_agree_holds
