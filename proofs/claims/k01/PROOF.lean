import PyProof.Rows.All
import Wide.All
import OpenK.AllK
import Wide.FinOn
import Lean
import PyProof.EqAt
import PyProof.EqKinds
import PyProof.TupleCall
import PyProof.NeKinds
import PySem.Challenge.RW_gluedtables_k01_frames_made
set_option compiler.extract_closed false
open Lean in
local macro_rules
  | `(fun $bs:funBinder* => $b) => do
    if !bs.any (fun x => x.raw.isOfKind ``Lean.Parser.Term.anonymousCtor) then Macro.throwUnsupported
    if (b.raw.find? (fun s => s.isOfKind ``Lean.Parser.Term.syntheticHole)).isSome then Macro.throwUnsupported
    let rec pat (fuel : Nat) (s : Syntax) : MacroM (TSyntax `rcasesPat) := match fuel with
      | 0 => Macro.throwUnsupported
      | fuel + 1 => do
        if s.isOfKind ``Lean.Parser.Term.anonymousCtor then
          let xs ← s[1].getSepArgs.mapM (pat fuel)
          let xs ← xs.mapM fun (x : TSyntax `rcasesPat) => `(Lean.Parser.Tactic.rcasesPatLo| $x:rcasesPat)
          `(rcasesPat| ⟨$xs,*⟩)
        else if s.isOfKind ``Lean.Parser.Term.hole then `(rcasesPat| _)
        else if s.isIdent then let i : Ident := ⟨s⟩; `(rcasesPat| $i:ident)
        else Macro.throwUnsupported
    let mut ns := #[]
    let mut ps := #[]
    let mut k := 0
    for x in bs do
      if x.raw.isOfKind ``Lean.Parser.Term.anonymousCtor then
        let i := mkIdent (Name.mkSimple s!"x{k}✝")
        k := k + 1
        ns := ns.push (⟨i.raw⟩ : TSyntax `Lean.Parser.Term.funBinder)
        ps := ps.push (i, ← pat 20 x)
      else ns := ns.push ⟨x.raw⟩
    let mut t ← `(tactic| exact $b)
    for (i, p) in ps.reverse do
      t ← `(tactic| (rcases $i:ident with $p:rcasesPat; $t))
    `(fun $ns:funBinder* => by $t:tactic)
set_option Elab.async false
set_option linter.all false
set_option maxRecDepth 100000
namespace L2
open PySem PySem.Spec PyProof.Rows
noncomputable abbrev Key := Sum Int Str
noncomputable def keyIs : Key → Value → Bool
  | .inl k, v => Value.isInt k v
  | .inr x, v => Value.isStrOf x v
noncomputable def keyH (w : World) : Key → Int
  | .inl k => hashInt k
  | .inr x => hashStr w x
theorem keyIs_shape : ∀ {k : Key} {v : Value}, keyIs k v = true → (∃ i t, k = Sum.inl i ∧ v = Value.int i t) ∨ (∃ x t, k = Sum.inr x ∧ v = Value.str x t)
  | .inl i, v, h => by
    obtain ⟨t, e⟩ := Value.isInt_shape (k := i) (v := v) h
    exact .inl ⟨i, t, rfl, e⟩
  | .inr x, v, h => by
    obtain ⟨t, e⟩ := Value.isStrOf_shape (x := x) (v := v) h
    exact .inr ⟨x, t, rfl, e⟩
theorem keyIs_int (i : Int) (t : Tok) : keyIs (.inl i) (.int i t) = true := by simp [keyIs, Value.isInt]
theorem keyIs_str (x : Str) (t : Tok) : keyIs (.inr x) (.str x t) = true := by simp [keyIs, Value.isStrOf]
theorem key_ll (a b : Int) : decide ((Sum.inl a : Key) = Sum.inl b) = (a == b) := by
  by_cases e : a = b
  · subst e; simp
  · have h : ¬ (Sum.inl a : Key) = Sum.inl b := fun q => e (Sum.inl.inj q)
    rw [decide_eq_false h]
    exact (beq_eq_false_iff_ne.mpr e).symm
theorem key_rr (a b : Str) : decide ((Sum.inr a : Key) = Sum.inr b) = decide (a = b) := by
  by_cases e : a = b
  · subst e; simp
  · have h : ¬ (Sum.inr a : Key) = Sum.inr b := fun q => e (Sum.inr.inj q)
    rw [decide_eq_false h, decide_eq_false e]
theorem key_lr (a : Int) (b : Str) : decide ((Sum.inl a : Key) = Sum.inr b) = false := decide_eq_false (fun q => nomatch q)
theorem key_rl (a : Str) (b : Int) : decide ((Sum.inr a : Key) = Sum.inl b) = false := decide_eq_false (fun q => nomatch q)
noncomputable def mixKind (prog : Program) (w : World) : PySem.KeyKind prog w Key where
  is := keyIs
  hash := keyH w
  inj := fun v a b ha hb => by
    rcases keyIs_shape ha with ⟨i, t, rfl, rfl⟩ | ⟨x, t, rfl, rfl⟩
    · rcases keyIs_shape hb with ⟨j, u, rfl, e⟩ | ⟨y, u, rfl, e⟩
      · injection e with e1 _; rw [e1]
      · exact nomatch e
    · rcases keyIs_shape hb with ⟨j, u, rfl, e⟩ | ⟨y, u, rfl, e⟩
      · exact nomatch e
      · injection e with e1 _; rw [e1]
  byValue := fun k v h => by
    rcases keyIs_shape h with ⟨i, t, rfl, rfl⟩ | ⟨x, t, rfl, rfl⟩ <;> rfl
  pyHash := fun hv h => by
    rcases keyIs_shape hv with ⟨i, t, rfl, rfl⟩ | ⟨x, t, rfl, rfl⟩
    · exact wpAny_pyHash_int h
    · exact wpAny_pyHash_str h
  eqBool := fun hu hv h => by
    rcases keyIs_shape hu with ⟨i, t, rfl, rfl⟩ | ⟨x, t, rfl, rfl⟩
    · rcases keyIs_shape hv with ⟨j, u, rfl, rfl⟩ | ⟨y, u, rfl, rfl⟩
      · rw [key_ll] at h; exact wpAny_eqBool_int h
      · rw [key_lr] at h; exact SeqAt.EqAt.int_str i t y u _ _ _ _ h
    · rcases keyIs_shape hv with ⟨j, u, rfl, rfl⟩ | ⟨y, u, rfl, rfl⟩
      · rw [key_rl] at h; exact SeqAt.EqAt.str_int x t j u _ _ _ _ h
      · rw [key_rr] at h; exact wpAny_eqBool_str h
  «strs» := fun k x t v h => by
    rcases keyIs_shape h with ⟨i, u, rfl, e⟩ | ⟨y, u, rfl, e⟩
    · exact nomatch e
    · injection e with e1 _
      subst e1
      cases v <;> rfl
theorem mixKind_int (prog : Program) (w : World) (i : Int) (t : Tok) : (mixKind prog w).is (.inl i) (.int i t) = true := keyIs_int i t
theorem mixKind_str (prog : Program) (w : World) (x : Str) (t : Tok) : (mixKind prog w).is (.inr x) (.str x t) = true := keyIs_str x t
end L2
namespace L2
open PySem PySem.Spec PyProof.Rows
inductive V where
  | non | bl (b : Bool) | int (i : Int) | str (x : Str) | byt (b : Array UInt8) | flt (b : UInt64) | ref (a : Addr) | ty (n : String)
  deriving DecidableEq
noncomputable def RelV : V → Value → Prop
  | .non, u => u = Value.none
  | .bl b, u => u = Value.bool b
  | .int i, u => ∃ t, u = Value.int i t
  | .str x, u => ∃ t, u = Value.str x t
  | .byt b, u => ∃ t, u = Value.bytes b t
  | .flt b, u => ∃ t, u = Value.float b t
  | .ref a, u => u = Value.ref a
  | .ty n, u => u = Value.type n
noncomputable abbrev Vals : List V → List Value → Prop := Paired RelV
theorem Vals.length {xs : List V} {us : List Value} (r : Vals xs us) : xs.length = us.length := Paired.length r
theorem Vals.get : ∀ {xs : List V} {us : List Value} {i : Nat} {x : V}, Vals xs us → xs[i]? = some x → ∃ u, us[i]? = some u ∧ RelV x u
  | _, _, _, _, .nil, e => by simp at e
  | _, _, 0, _, .cons r _, e => by simp at e; subst e; exact ⟨_, rfl, r⟩
  | _, _, i + 1, x, .cons _ t, e => by
    obtain ⟨u, h1, h2⟩ := Vals.get (i := i) (x := x) t (by simpa using e)
    exact ⟨u, by simpa using h1, h2⟩
theorem Vals.set {x : V} {u : Value} (r : RelV x u) : ∀ {xs : List V} {us : List Value} (i : Nat), Vals xs us → Vals (xs.set i x) (us.set i u)
  | _, _, _, .nil => .nil
  | _, _, 0, .cons _ t => .cons r t
  | _, _, i + 1, .cons q t => .cons q (Vals.set r i t)
theorem Vals.append : ∀ {xs ys : List V} {us ws : List Value}, Vals xs us → Vals ys ws → Vals (xs ++ ys) (us ++ ws)
  | _, _, _, _, .nil, s => s
  | _, _, _, _, .cons r t, s => .cons r (Vals.append t s)
theorem Vals.take : ∀ {xs : List V} {us : List Value} (n : Nat), Vals xs us → Vals (xs.take n) (us.take n)
  | _, _, 0, _ => .nil
  | _, _, _ + 1, .nil => .nil
  | _, _, n + 1, .cons r t => .cons r (Vals.take n t)
theorem Vals.drop : ∀ {xs : List V} {us : List Value} (n : Nat), Vals xs us → Vals (xs.drop n) (us.drop n)
  | _, _, 0, r => r
  | _, _, _ + 1, .nil => .nil
  | _, _, n + 1, .cons _ t => Vals.drop n t
noncomputable def RelO : Option V → Option Value → Prop
  | some v, some u => RelV v u
  | none, none => True
  | _, _ => False
noncomputable def KV {κ : Type} : List (κ × V) → List (κ × Value) → Prop := Paired fun (p : κ × V) (q : κ × Value) => p.1 = q.1 ∧ RelV p.2 q.2
noncomputable def kV : Key → V
  | .inl i => .int i
  | .inr x => .str x
inductive HO where
  | lst (xs : List V)
  | tup (xs : List V)
  | dK (kvs : List (Key × V)) | dT (kvs : List (List Key × V))
  | set (S : Int → Bool) (n : Nat)
  | ins (C dx : Addr) (fs : List (Str × V))
  | own (x : Addr)
  | xd (fs : List (Str × V))
  | met (f x : Addr)
  | rng (lo hi : Int)
  | frz (o : Obj) (u : HO)
  | tbl (ps : Array Value)
  | ext (φ : Heap → Prop)
noncomputable abbrev Hp := Addr → Option HO
noncomputable def upd (H : Hp) (a : Addr) (o : HO) : Hp := fun b => if b = a then some o else H b
theorem upd_same {H : Hp} {a : Addr} {o : HO} : upd H a o a = some o := by unfold upd; rw [if_pos rfl]
theorem upd_ne {H : Hp} {a b : Addr} {o : HO} (h : b ≠ a) : upd H a o b = H b := by unfold upd; rw [if_neg h]
theorem upd_upd {H : Hp} {a : Addr} {o u : HO} : upd (upd H a o) a u = upd H a u := by
  funext b; unfold upd; split <;> rfl
theorem ne_of_none {H : Hp} {a b : Addr} {o : HO} (h : H a = some o) (h' : H b = none) : a ≠ b := by
  intro e; subst e; rw [h] at h'; cases h'
section
variable (P : Program) (w : World)
noncomputable def ObjOk (H : Hp) (h : Heap) (a : Addr) : HO → Prop
  | .lst xs => xs.length ≤ sizeLine ∧ ∃ (its : List Value) (n : Nat), Vals xs its ∧ h.get? a = some { cls := .type "list", data := .seq its.toArray n }
  | .tup xs => xs.length ≤ sizeLine ∧ ∃ its : List Value, Vals xs its ∧ IsTup h a its.toArray ∧ ∃ ob, h.get? a = some ob ∧ ob.dict = none
  | .dK kvs => kvs.length ≤ sizeLine ∧ (a == sysModules) = false ∧ ∃ vs, KV kvs vs ∧ h.DictOf (mixKind P w) a vs
  | .dT kvs => kvs.length ≤ sizeLine ∧ (a == sysModules) = false ∧ ∃ xs : List (List Key × Addr × Value),
      Paired (fun (p : List Key × V) (q : List Key × Addr × Value) => p.1 = q.1 ∧ H q.2.1 = some (.tup (p.1.map kV)) ∧ RelV p.2 q.2.2) kvs xs ∧
      ∃ o es ep, h.get? a = some o ∧ o.ExactDict ∧ o.data = .dict es ep ∧ es.toList = xs.map (entryOfKey (tupleKind (mixKind P w))) ∧ (xs.map (·.1)).Nodup
  | .set S n => h.SetOf (intKind P w) a S n
  | .ins C dx fs => H dx = some (.own a) ∧ fs.length ≤ 1000 ∧ dx ≠ a ∧ h.get? a = some (PySem.W.instObj C dx) ∧
      ∃ mA, h.Ns1 dx mA ∧ (∀ f, RelO (fs.lookup f) (mA f)) ∧ PySem.Within mA (fs.map (·.1))
  | .own _ => ∃ o, h.get? a = some o
  | .xd fs => ∃ mA, h.Ns1 a mA ∧ ∀ f, RelO (fs.lookup f) (mA f)
  | .rng lo hi => ∃ t u v, h.get? a = some { cls := .type "range", data := .fields #[.int lo t, .int hi u, .int 1 v] }
  | .frz o u => h.get? a = some o ∧ ObjOk H h a u
  | .tbl ps => h.get? a = some { cls := .none, data := .fields ps }
  | .met f x => h.get? a = some (PySem.W.methodObj (.ref f) (.ref x))
  | .ext φ => φ h ∧ (∃ o, h.get? a = some o) ∧ ∀ h1 h2 : Heap, φ h1 → (∀ o, h1.get? a = some o → h2.get? a = some o) → φ h2
noncomputable def HOk (H : Hp) (h : Heap) : Prop := ∀ a o, H a = some o → ObjOk P w H h a o
end
section
variable {P : Program} {w : World} {H H' : Hp} {h h' : Heap} {a : Addr} {o : HO}
theorem ObjOk.lt (x : ObjOk P w H h a o) : a < h.objs.size := by
  cases o with
  | lst xs => obtain ⟨_, _, _, _, e⟩ := x; exact Heap.lt_size e
  | tup xs => obtain ⟨_, _, _, p, _⟩ := x; exact p.lt
  | dK kvs => obtain ⟨_, _, _, _, o, _, _, e, _⟩ := x; exact Heap.lt_size e
  | dT kvs => obtain ⟨_, _, _, _, o, _, _, e, _⟩ := x; exact Heap.lt_size e
  | set S n => obtain ⟨o, _, _, _, e, _⟩ := x; exact Heap.lt_size e
  | ins C dx fs => obtain ⟨_, _, _, e, _⟩ := x; exact Heap.lt_size e
  | own y => obtain ⟨_, e⟩ := x; exact Heap.lt_size e
  | xd fs => obtain ⟨_, ⟨_, _, _, e, _⟩, _⟩ := x; exact Heap.lt_size e
  | rng lo hi => obtain ⟨_, _, _, e⟩ := x; exact Heap.lt_size e
  | frz ob u => obtain ⟨e, _⟩ := x; exact Heap.lt_size e
  | tbl ps => exact Heap.lt_size (show h.get? a = some _ from x)
  | met f y => exact Heap.lt_size (show h.get? a = some _ from x)
  | ext φ => obtain ⟨_, ⟨_, e⟩, _⟩ := x; exact Heap.lt_size e
theorem Paired.mapP {α β : Type} {F G : α → β → Prop} : ∀ {l₁ : List α} {l₂ : List β}, Paired F l₁ l₂ → (∀ a b, F a b → G a b) → Paired G l₁ l₂
  | _, _, .nil, _ => .nil
  | _, _, .cons r t, f => .cons (f _ _ r) (Paired.mapP t f)
theorem ObjOk.stay (x : ObjOk P w H h a o) (k : ∀ b u, (b = a ∨ H b = some (.own a)) → h.get? b = some u → h'.get? b = some u)
    (ho : ∀ b, H b = some (.own a) → H' b = some (.own a)) (ht : ∀ b xs, H b = some (.tup xs) → H' b = some (.tup xs)) : ObjOk P w H' h' a o := by
  induction o with
  | lst xs => obtain ⟨z, its, n, r, e⟩ := x; exact ⟨z, its, n, r, k _ _ (.inl rfl) e⟩
  | tup xs => obtain ⟨z, its, r, ⟨ob, e, c⟩, o2, e2, c2⟩ := x; exact ⟨z, its, r, ⟨ob, k _ _ (.inl rfl) e, c⟩, o2, k _ _ (.inl rfl) e2, c2⟩
  | dK kvs => obtain ⟨z, y, vs, r, ob, es, ep, e, c⟩ := x; exact ⟨z, y, vs, r, ob, es, ep, k _ _ (.inl rfl) e, c⟩
  | dT kvs =>
    obtain ⟨z, y, xs, r, ob, es, ep, e, c⟩ := x
    exact ⟨z, y, xs, Paired.mapP r fun p q z => ⟨z.1, ht _ _ z.2.1, z.2.2⟩, ob, es, ep, k _ _ (.inl rfl) e, c⟩
  | set S n => obtain ⟨ob, es, ep, t, e, c⟩ := x; exact ⟨ob, es, ep, t, k _ _ (.inl rfl) e, c⟩
  | ins C dx fs =>
    obtain ⟨d, z, ne, e, mA, ⟨od, es, ep, e2, c⟩, r⟩ := x
    exact ⟨ho _ d, z, ne, k _ _ (.inl rfl) e, mA, ⟨od, es, ep, k _ _ (.inr d) e2, c⟩, r⟩
  | own y => obtain ⟨ob, e⟩ := x; exact ⟨ob, k _ _ (.inl rfl) e⟩
  | xd fs => obtain ⟨mA, ⟨od, es, ep, e, c⟩, r⟩ := x; exact ⟨mA, ⟨od, es, ep, k _ _ (.inl rfl) e, c⟩, r⟩
  | rng lo hi => obtain ⟨t, u, v, e⟩ := x; exact ⟨t, u, v, k _ _ (.inl rfl) e⟩
  | frz ob u ih => obtain ⟨e, q⟩ := x; exact ⟨k _ _ (.inl rfl) e, ih q⟩
  | tbl ps =>
    have e : h.get? a = some { cls := .none, data := .fields ps } := x
    show h'.get? a = some { cls := .none, data := .fields ps }
    exact k a _ (.inl rfl) e
  | met f y =>
    have e : h.get? a = some (PySem.W.methodObj (.ref f) (.ref y)) := x
    show h'.get? a = some (PySem.W.methodObj (.ref f) (.ref y))
    exact k a _ (.inl rfl) e
  | ext φ => obtain ⟨p, ⟨o, e⟩, st⟩ := x; exact ⟨st _ _ p fun o q => k _ _ (.inl rfl) q, ⟨o, k _ _ (.inl rfl) e⟩, st⟩
theorem HOk.lt (x : HOk P w H h) (e : H a = some o) : a < h.objs.size := (x a o e).lt
theorem HOk.fresh (x : HOk P w H h) (e : h.objs.size ≤ a) : H a = none := by
  cases q : H a with
  | none => rfl
  | some u => exact absurd (Nat.lt_of_lt_of_le (x.lt q) e) (Nat.lt_irrefl _)
theorem HOk.kept (x : HOk P w H h) (k : ∀ b u, h.get? b = some u → h'.get? b = some u) : HOk P w H h' := fun a o e =>
  (x a o e).stay (fun b u _ q => k b u q) (fun _ q => q) fun _ _ q => q
theorem HOk.laid (x : HOk P w H h) (k : ∀ b u, h.get? b = some u → h'.get? b = some u) (hp : h.objs.size ≤ a) (new : ObjOk P w (upd H a o) h' a o) : HOk P w (upd H a o) h' := fun b u e => by
  have hn := x.fresh hp
  by_cases hb : b = a
  · subst hb; rw [upd_same] at e; cases e; exact new
  · rw [upd_ne hb] at e
    exact (x b u e).stay (fun c v _ q => k c v q) (fun c q => by rw [upd_ne (ne_of_none q hn)]; exact q) fun c xs q => by rw [upd_ne (ne_of_none q hn)]; exact q
end
noncomputable def Rd (H : Hp) (a : Addr) (u : HO) : Prop := H a = some u ∨ ∃ o, H a = some (.frz o u)
theorem Rd.ok {P : Program} {w : World} {H : Hp} {h : Heap} {a : Addr} {u : HO} (r : Rd H a u) (x : HOk P w H h) : ObjOk P w H h a u := by
  rcases r with r | ⟨o, r⟩
  · exact x a u r
  · obtain ⟨_, q⟩ := x a _ r
    exact q
noncomputable def Mut : Option HO → Prop
  | some (.lst _) => True
  | some (.dK _) => True
  | some (.dT _) => True
  | some (.set _ _) => True
  | some (.ins _ _ _) => True
  | some (.ext _) => True
  | _ => False
section
variable {P : Program} {w : World} {H : Hp} {h h' : Heap} {x e : Addr} {o' : HO}
theorem HOk.write (ok : HOk P w H h) (mu : Mut (H x)) (he : e = x ∨ H e = some (.own x)) (k : ∀ b u, b ≠ e → h.get? b = some u → h'.get? b = some u) (heo : ∃ u, h'.get? e = some u)
    (new : ObjOk P w (upd H x o') h' x o') : HOk P w (upd H x o') h' := fun b u q => by
  have nown : ∀ c y, H c = some (.own y) → c ≠ x := fun c y r z => by subst z; rw [r] at mu; exact mu
  have ntup : ∀ c xs, H c = some (.tup xs) → c ≠ x := fun c xs r z => by subst z; rw [r] at mu; exact mu
  by_cases hb : b = x
  · subst hb; rw [upd_same] at q; cases q; exact new
  · rw [upd_ne hb] at q
    by_cases hbe : b = e
    · have q' : H b = some (.own x) := by
        rcases he with z | z
        · exact absurd (hbe.trans z) hb
        · rw [hbe]; exact z
      rw [q] at q'; cases q'
      obtain ⟨v, hv⟩ := heo
      exact ⟨v, by rw [hbe]; exact hv⟩
    · refine (ok b u q).stay (fun c v hc r => k c v ?_ r) (fun c r => by rw [upd_ne (nown c b r)]; exact r) fun c xs r => by rw [upd_ne (ntup c xs r)]; exact r
      rcases hc with rfl | hc
      · exact hbe
      · rintro rfl
        rcases he with z | z
        · exact nown c b hc z
        · rw [hc] at z; cases z; exact hb rfl
end
structure Un (fs ex : List Addr) (H H' : Hp) (h h' : Heap) : Prop where
  keep : ∀ b o, h.get? b = some o → H b = none → b ∉ fs → b ∉ ex → h'.get? b = some o
  slot : ∀ b o, h.get? b = some o → H b = none → b ∈ fs → b ∉ ex → ∃ sl, h'.get? b = some { o with slots := sl }
  free : ∀ b o, h.get? b = some o → H b = none → b ∉ ex → H' b = none
  there : ∀ b o, h.get? b = some o → b ∉ ex → ∃ o', h'.get? b = some o'
  tups : ∀ b xs, H b = some (.tup xs) → H' b = some (.tup xs)
  frzs : ∀ b o u, H b = some (.frz o u) → H' b = some (.frz o u)
  tbls : ∀ b ps, H b = some (.tbl ps) → ∃ more, H' b = some (.tbl (ps ++ more))
section
variable {fs fs' ex ex' : List Addr} {H H1 H2 : Hp} {h h1 h2 h' : Heap} {a x e : Addr} {o : HO}
theorem Un.any (u : Un fs ex H H1 h h1) {b : Addr} {ob : Obj} (q : h.get? b = some ob) (n : H b = none) (hx : b ∉ ex) : ∃ sl, h1.get? b = some { ob with slots := sl } := by
  by_cases hb : b ∈ fs
  · exact u.slot b ob q n hb hx
  · exact ⟨ob.slots, u.keep b ob q n hb hx⟩
theorem Un.kept (k : ∀ b u, h.get? b = some u → h'.get? b = some u) : Un fs ex H H h h' :=
  ⟨fun b ob q _ _ _ => k b ob q, fun b ob q _ _ _ => ⟨ob.slots, k b ob q⟩, fun _ _ _ n _ => n, fun b ob q _ => ⟨ob, k b ob q⟩, fun _ _ q => q, fun _ _ _ q => q, fun _ ps q => ⟨#[], by rw [q]; simp⟩⟩
theorem Un.refl : Un fs ex H H h h := Un.kept fun _ _ q => q
theorem Un.laid (k : ∀ b u, h.get? b = some u → h'.get? b = some u) (hp : h.objs.size ≤ a) (hn : H a = none) : Un fs ex H (upd H a o) h h' where
  keep := fun b u q _ _ _ => k b u q
  slot := fun b u q _ _ _ => ⟨u.slots, k b u q⟩
  free := fun b u q n _ => by rw [upd_ne (Nat.ne_of_lt (Nat.lt_of_lt_of_le (Heap.lt_size q) hp))]; exact n
  there := fun b u q _ => ⟨u, k b u q⟩
  tups := fun b xs q => by rw [upd_ne (ne_of_none q hn)]; exact q
  frzs := fun b u xs q => by rw [upd_ne (ne_of_none q hn)]; exact q
  tbls := fun b ps q => ⟨#[], by rw [upd_ne (ne_of_none q hn), q]; simp⟩
theorem Un.write (mu : Mut (H x)) (he : e = x ∨ H e = some (.own x)) (k : ∀ b u, b ≠ e → h.get? b = some u → h'.get? b = some u) (heo : ∃ u, h'.get? e = some u) : Un fs ex H (upd H x o) h h' := by
  have hx : ∀ b, H b = none → b ≠ x := fun b n z => by subst z; rw [n] at mu; exact mu
  have hb : ∀ b, H b = none → b ≠ e := fun b n z => by
    subst z
    rcases he with r | r
    · exact hx b n r
    · rw [n] at r; cases r
  have hm : ∀ b u, H b = some u → ¬ Mut (some u) → b ≠ x := fun b u q nm z => by subst z; rw [q] at mu; exact nm mu
  refine ⟨fun b u q n _ _ => k b u (hb b n) q, fun b u q n _ _ => ⟨u.slots, k b u (hb b n) q⟩, fun b u q n _ => by rw [upd_ne (hx b n)]; exact n, fun b u q _ => ?_,
    fun b xs q => by rw [upd_ne (hm b _ q fun z => z)]; exact q, fun b u xs q => by rw [upd_ne (hm b _ q fun z => z)]; exact q, fun b ps q => ⟨#[], by rw [upd_ne (hm b _ q fun z => z), q]; simp⟩⟩
  by_cases hbe : b = e
  · subst hbe; exact heo
  · exact ⟨u, k b u hbe q⟩
end
noncomputable def trk (h : Heap) (H : Hp) : List Addr := (List.range h.objs.size).filter fun a => (H a).isSome
noncomputable def hidT (h : Heap) (H : Hp) : Heap := PySem.W.hideAll h (trk h H)
theorem hidT_size (h : Heap) (H : Hp) : (hidT h H).objs.size = h.objs.size := PySem.W.hideAll_size _ _
theorem hidT_get {h : Heap} {H : Hp} {b : Addr} {o : Obj} (e : h.get? b = some o) (n : H b = none) : (hidT h H).get? b = some o :=
  PySem.W.hideAll_get _ e fun hm => by
    have q : (H b).isSome = true := (List.mem_filter.mp hm).2
    rw [n] at q; simp at q
theorem of_hidT {h : Heap} {H : Hp} {b : Addr} {o : Obj} (e : (hidT h H).get? b = some o) : h.get? b = some o ∧ H b = none := by
  have e' : h.get? b = some o := PySem.W.of_hideAll (trk h H) e
  refine ⟨e', ?_⟩
  cases q : H b with
  | none => rfl
  | some x =>
    have hm : b ∈ trk h H := List.mem_filter.mpr ⟨List.mem_range.mpr (Heap.lt_size e'), by simp [q]⟩
    have z : (hidT h H).get? b = none := PySem.W.hideAll_none (trk h H) hm
    rw [z] at e; cases e
noncomputable def allNews (g h : Heap) (L : Addr) : List (Addr × Obj) := (List.range h.objs.size).filterMap fun a => if a = L ∨ (g.get? a).isSome = true then none else (h.get? a).map fun o => (a, o)
noncomputable def rest (g h : Heap) (L d : Addr) : List (Addr × Obj) := (allNews g h L).filter fun p => decide (p.1 ≠ d)
end L2
namespace L2
open PySem PySem.Spec PyProof.Rows
structure Mod (K : PySem.W.Frag) (mg : Str → Option Value) (base : Heap) : Prop where
  kin : K.In base
  glob : base.Ns mainGlobals mg
  blt : ∃ mb, base.Ns builtinsNs mb ∧ ∀ x : Str, x ≠ "__name__" → mb x = bootBuiltins x
  nolimit : base.NoLimit
structure Cx where
  prog : Program
  w : World
  K : PySem.W.Frag
  mg : Str → Option Value
  base : Heap
  A : Around
  N : List Str
  s₀ : Shared
  H₀ : Hp
  env : Env
  outer : List Env
  stack : List Env
  ex : List Addr
  fn : Str → Bool
  calm : Bool
  pn : List (Addr × Obj)
  xe : Value → Shared → Prop
noncomputable def frs (l : List Env) : List Addr := l.filterMap (·.frame)
noncomputable abbrev Cx.fs (X : Cx) : List Addr := frs X.outer
noncomputable def Vis (sc : Scope) (x : Str) : Prop := sc.names.lookup x = some .local ∨ sc.names.lookup x = some .cell ∨ sc.names.lookup x = some .free
noncomputable def Loc (sc : Scope) (x : Str) : Prop := sc.names.lookup x = some .local ∨ sc.names.lookup x = some .cell
noncomputable def Look (env : Env) (h : Heap) (m : Str → Option Value) (x : Str) (u : Value) : Prop :=
  (env.kindOf x = some .local ∧ m x = some u) ∨ ((env.kindOf x = some .cell ∨ env.kindOf x = some .free) ∧ ∃ c, env.cells.lookup x = some c ∧ h.IsCell c (some u))
structure Cx.Ok (X : Cx) : Prop where
  mod : Mod X.K X.mg X.base
  kind : X.env.scope.kind = .function
  glob : X.env.globals = mainGlobals
  blt : X.env.builtins = builtinsNs
  above : X.s₀.heap.objs.size ≤ X.env.locals
  inj : ∀ x y c, X.env.cells.lookup x = some c → X.env.cells.lookup y = some c → x = y
  has : ∀ x, (X.env.kindOf x = some .cell ∨ X.env.kindOf x = some .free) → ∃ c, X.env.cells.lookup x = some c
  cab : ∀ x c, X.fn x = true → X.env.cells.lookup x = some c → X.s₀.heap.objs.size ≤ c
  hd : X.calm = true → X.A.handled = none
  frames : X.A.frames = some X.stack
  stk : X.stack = X.outer ∨ (X.stack = X.env :: X.outer ∧ X.env.frame = some X.env.locals)
  exf : ∀ b ∈ X.ex, b ≠ X.env.locals ∧ ∀ x c, X.env.cells.lookup x = some c → c ≠ b
  bs : ∀ b o, X.base.get? b = some o → X.s₀.heap.get? b = some o ∧ X.H₀ b = none
  bsz : X.base.objs.size ≤ X.s₀.heap.objs.size
  noex : ∀ b o, X.base.get? b = some o → b ∉ X.ex
  exfs : ∀ b ∈ X.ex, b ∉ X.fs
  funs : X.s₀.heap.FunFrames X.base X.outer
  frf : ∀ b ∈ X.fs, X.H₀ b = none
structure Inv (X : Cx) (pins : List (Addr × Obj)) (σ : List (Option V)) (H : Hp) (s : Shared) : Prop where
  ok : X.Ok
  os : s.os = X.s₀.os
  bare : AllBare s.gens
  base : Un X.fs X.ex X.H₀ H X.s₀.heap s.heap
  loc : ∃ m, s.heap.Ns X.env.locals m ∧ ∀ (i : Nat) (x : Str) (v : V), X.N[i]? = some x → σ[i]? = some (some v) → Vis X.env.scope x → ∃ u, RelV v u ∧ Look X.env s.heap m x u
  cell : ∀ x c, X.env.cells.lookup x = some c → ∃ v, s.heap.IsCell c v
  free : H X.env.locals = none
  freeC : ∀ x c, X.env.cells.lookup x = some c → H c = none
  pin : ∀ p ∈ X.pn ++ pins, s.heap.get? p.1 = some p.2 ∧ H p.1 = none ∧ p.1 ≠ X.env.locals ∧ p.1 ∉ X.fs ∧ ∀ v, p.2.data ≠ .cell v
  hok : HOk X.prog X.w H s.heap
  len : σ.length = X.N.length
section
variable {X : Cx} {pins : List (Addr × Obj)} {σ : List (Option V)} {H H' : Hp} {s : Shared} {h' : Heap}
theorem Cx.Ok.nofr (ok : X.Ok) {b : Addr} {o : Obj} (e : X.base.get? b = some o) : b ∉ X.fs := fun hb => by
  have := (ok.funs.mem hb).1
  rw [e] at this; cases this
theorem Inv.bs (I : Inv X pins σ H s) : ∀ b o, X.base.get? b = some o → s.heap.get? b = some o ∧ H b = none := fun b o e =>
  ⟨I.base.keep b o (I.ok.bs b o e).1 (I.ok.bs b o e).2 (I.ok.nofr e) (I.ok.noex b o e), I.base.free b o (I.ok.bs b o e).1 (I.ok.bs b o e).2 (I.ok.noex b o e)⟩
theorem Inv.bk (I : Inv X pins σ H s) : ∀ b o, X.base.get? b = some o → s.heap.get? b = some o := fun b o e => (I.bs b o e).1
theorem Inv.mod (I : Inv X pins σ H s) : Mod X.K X.mg X.base := I.ok.mod
theorem Inv.kIn (I : Inv X pins σ H s) : X.K.In s.heap := I.ok.mod.kin.keeps I.bk
theorem Inv.lt (I : Inv X pins σ H s) : X.env.locals < s.heap.objs.size := let ⟨_, hn, _⟩ := I.loc; hn.lt
theorem Inv.sz (I : Inv X pins σ H s) : X.s₀.heap.objs.size ≤ s.heap.objs.size := Nat.le_trans I.ok.above (Nat.le_of_lt I.lt)
theorem Inv.nofs (I : Inv X pins σ H s) {a : Addr} (h : s.heap.objs.size ≤ a) : a ∉ X.fs := fun hb => by
  obtain ⟨_, o, ho, _⟩ := I.ok.funs.mem hb
  exact absurd (Nat.lt_of_lt_of_le (Heap.lt_size ho) (Nat.le_trans I.sz h)) (Nat.lt_irrefl _)
theorem Inv.cne (I : Inv X pins σ H s) : ∀ x c, X.env.cells.lookup x = some c → c ≠ X.env.locals := fun x c e z => by
  obtain ⟨v, o, ho, hd⟩ := I.cell x c e
  obtain ⟨m, ⟨o', es, ep, ho', hd', _⟩, _⟩ := I.loc
  rw [z, ho'] at ho; cases ho; rw [hd'] at hd; cases hd
theorem Inv.funs (I : Inv X pins σ H s) : s.heap.FunFrames X.base X.outer := by
  have all : ∀ (l : List Env), (∀ b ∈ frs l, b ∈ X.fs) → X.s₀.heap.FunFrames X.base l → s.heap.FunFrames X.base l := by
    intro l
    induction l with
    | nil => intro _ _; trivial
    | cons env r ih =>
      intro hs hl
      obtain ⟨hk, ⟨L, o, hf, hn, ho, hd⟩, hr⟩ := hl
      have hL : L ∈ X.fs := hs L (by unfold frs; rw [List.filterMap_cons, hf]; exact List.mem_cons_self)
      obtain ⟨sl, e⟩ := I.base.slot L o ho (I.ok.frf L hL) hL fun z => I.ok.exfs L z hL
      exact ⟨hk, ⟨L, _, hf, hn, e, hd⟩, ih (fun b hb => hs b (by unfold frs; rw [List.filterMap_cons, hf]; exact List.mem_cons_of_mem _ hb)) hr⟩
  exact all X.outer (fun _ hb => hb) I.ok.funs
theorem Inv.stack (I : Inv X pins σ H s) : s.heap.FunFrames X.base X.stack := by
  rcases I.ok.stk with e | ⟨e, hf⟩
  · rw [e]; exact I.funs
  · rw [e]
    obtain ⟨m, hn, _⟩ := I.loc
    refine .cons (by rw [I.ok.kind]; decide) hf hn ?_ I.funs
    exact Heap.get?_none_of_le (Nat.le_trans I.ok.bsz I.ok.above)
theorem Inv.stkSub (I : Inv X pins σ H s) : ∀ b ∈ frs X.stack, b ∈ X.env.locals :: X.fs := fun b hb => by
  rcases I.ok.stk with e | ⟨e, hf⟩
  · rw [e] at hb; exact List.mem_cons_of_mem _ hb
  · rw [e] at hb
    unfold frs at hb
    rw [List.filterMap_cons, hf] at hb
    exact hb
theorem Inv.stkFree (I : Inv X pins σ H s) : ∀ b ∈ frs X.stack, H b = none := fun b hb => by
  rcases List.mem_cons.mp (I.stkSub b hb) with e | hb
  · rw [e]; exact I.free
  · obtain ⟨_, o, ho, _⟩ := I.ok.funs.mem hb
    exact I.base.free b o ho (I.ok.frf b hb) fun z => I.ok.exfs b z hb
theorem Inv.step {g' : Array GenState} {t' : Nat} {d' : Drawn} {ch : List Addr} (I : Inv X pins σ H s)
    (hch : ∀ b ∈ ch, (b ∈ X.ex ∨ X.s₀.heap.objs.size ≤ b) ∧ b ≠ X.env.locals ∧ (∀ x c, X.env.cells.lookup x = some c → c ≠ b) ∧ ∀ p ∈ X.pn ++ pins, p.1 ≠ b)
    (keep : ∀ b o, b ≠ X.env.locals → b ∉ X.fs → b ∉ ch → s.heap.get? b = some o → H b = none → h'.get? b = some o)
    (slot : ∀ b o, b ≠ X.env.locals → b ∈ X.fs → b ∉ ch → s.heap.get? b = some o → H b = none → ∃ sl, h'.get? b = some { o with slots := sl }) (free : ∀ b o, b ∉ ch → s.heap.get? b = some o → H b = none → H' b = none)
    (there : ∀ b o, b ∉ ch → s.heap.get? b = some o → ∃ o', h'.get? b = some o')
    (tups : ∀ b xs, H b = some (.tup xs) → H' b = some (.tup xs)) (frzs : ∀ b o u, H b = some (.frz o u) → H' b = some (.frz o u)) (tbls : ∀ b ps, H b = some (.tbl ps) → ∃ more, H' b = some (.tbl (ps ++ more)))
    (ns : ∀ m, s.heap.Ns X.env.locals m → h'.Ns X.env.locals m) (hok : HOk X.prog X.w H' h') (hg : AllBare g') :
    Inv X pins σ H' { s with heap := h', gens := g', drawn := d', toks := t' } := by
  have neL : ∀ b o, X.s₀.heap.get? b = some o → b ≠ X.env.locals := fun b o e => Nat.ne_of_lt (Nat.lt_of_lt_of_le (Heap.lt_size e) I.ok.above)
  have neC : ∀ b o, X.s₀.heap.get? b = some o → b ∉ X.ex → b ∉ ch := fun b o e hx hb => by
    rcases (hch b hb).1 with z | z
    · exact hx z
    · exact absurd (Nat.lt_of_lt_of_le (Heap.lt_size e) z) (Nat.lt_irrefl _)
  have cellK : ∀ x c, X.env.cells.lookup x = some c → ∀ v, s.heap.IsCell c v → h'.IsCell c v := fun x c e v ⟨o, ho, hd⟩ => by
    have nch : c ∉ ch := fun z => (hch c z).2.2.1 x c e rfl
    by_cases hc : c ∈ X.fs
    · obtain ⟨sl, q⟩ := slot c o (I.cne x c e) hc nch ho (I.freeC x c e)
      exact ⟨_, q, hd⟩
    · exact ⟨o, keep c o (I.cne x c e) hc nch ho (I.freeC x c e), hd⟩
  refine ⟨I.ok, I.os, hg, ⟨fun b o e n hb hx => ?_, fun b o e n hb hx => ?_, fun b o e n hx => ?_, fun b o e hx => ?_, fun b xs e => tups b xs (I.base.tups b xs e), fun b o xs e => frzs b o xs (I.base.frzs b o xs e), fun b ps e => ?_⟩, ?_, fun x c e => ?_, ?_, fun x c e => ?_, fun p hp => ?_, hok, I.len⟩
  · exact keep b o (neL b o e) hb (neC b o e hx) (I.base.keep b o e n hb hx) (I.base.free b o e n hx)
  · obtain ⟨sl, e1⟩ := I.base.slot b o e n hb hx
    obtain ⟨sl', e2⟩ := slot b _ (neL b o e) hb (neC b o e hx) e1 (I.base.free b o e n hx)
    exact ⟨sl', e2⟩
  · obtain ⟨o', e1⟩ := I.base.there b o e hx
    exact free b o' (neC b o e hx) e1 (I.base.free b o e n hx)
  · obtain ⟨o', e1⟩ := I.base.there b o e hx
    exact there b o' (neC b o e hx) e1
  · obtain ⟨m1, e1⟩ := I.base.tbls b ps e
    obtain ⟨m2, e2⟩ := tbls b _ e1
    exact ⟨m1 ++ m2, by rw [e2, Array.append_assoc]⟩
  · obtain ⟨m, hn, hl⟩ := I.loc
    refine ⟨m, ns m hn, fun i x v e1 e2 e3 => ?_⟩
    obtain ⟨u, r, l⟩ := hl i x v e1 e2 e3
    refine ⟨u, r, ?_⟩
    rcases l with l | ⟨k, c, e, z⟩
    · exact .inl l
    · exact .inr ⟨k, c, e, cellK x c e _ z⟩
  · obtain ⟨v, z⟩ := I.cell x c e
    exact ⟨v, cellK x c e v z⟩
  · obtain ⟨m, ⟨o, _, _, ho, _⟩, _⟩ := I.loc
    exact free _ o (fun z => (hch _ z).2.1 rfl) ho I.free
  · obtain ⟨v, o, ho, hd⟩ := I.cell x c e
    exact free c o (fun z => (hch c z).2.2.1 x c e rfl) ho (I.freeC x c e)
  · obtain ⟨e, n, ne, nf, d⟩ := I.pin p hp
    have nch : p.1 ∉ ch := fun z => (hch p.1 z).2.2.2 p hp rfl
    exact ⟨keep p.1 p.2 ne nf nch e n, free p.1 p.2 nch e n, ne, nf, d⟩
theorem Inv.un {t' : Nat} (I : Inv X pins σ H s) (u : Un X.fs [] H H' s.heap h') (hok : HOk X.prog X.w H' h') : Inv X pins σ H' { s with heap := h', toks := t' } := by
  obtain ⟨m, ⟨o, es, ep, ho, r⟩, _⟩ := id I.loc
  obtain ⟨sl, hL⟩ := u.any ho I.free (by simp)
  exact I.step (g' := s.gens) (d' := s.drawn) (ch := []) (fun _ z => nomatch z) (fun b o _ hb _ e n => u.keep b o e n hb (by simp)) (fun b o _ hb _ e n => u.slot b o e n hb (by simp)) (fun b o _ e n => u.free b o e n (by simp)) (fun b o _ e => u.there b o e (by simp)) u.tups u.frzs u.tbls (fun m' hm => by
    obtain ⟨o', es', ep', ho', r'⟩ := hm
    rw [ho] at ho'; cases ho'
    exact ⟨_, es', ep', hL, r'⟩) hok I.bare
theorem Inv.call {g' : Array GenState} {t' : Nat} {d' : Drawn} {ch : List Addr} (I : Inv X pins σ H s) (u : Un (frs X.stack) ch H H' s.heap h') (hok : HOk X.prog X.w H' h') (hg : AllBare g')
    (hch : ∀ b ∈ ch, (b ∈ X.ex ∨ X.s₀.heap.objs.size ≤ b) ∧ b ≠ X.env.locals ∧ (∀ x c, X.env.cells.lookup x = some c → c ≠ b) ∧ ∀ p ∈ X.pn ++ pins, p.1 ≠ b) :
    Inv X pins σ H' { s with heap := h', gens := g', drawn := d', toks := t' } := by
  obtain ⟨m, ⟨o, es, ep, ho, r⟩, _⟩ := id I.loc
  obtain ⟨sl, hL⟩ := u.any ho I.free fun z => (hch _ z).2.1 rfl
  exact I.step (ch := ch) hch (fun b o hL hb hc e n => u.keep b o e n (fun z => (List.mem_cons.mp (I.stkSub b z)).elim hL hb) hc) (fun b o _ _ hc e n => u.any e n hc) (fun b o hc e n => u.free b o e n hc) (fun b o hc e => u.there b o e hc) u.tups u.frzs u.tbls (fun m' hm => by
    obtain ⟨o', es', ep', ho', r'⟩ := hm
    rw [ho] at ho'; cases ho'
    exact ⟨_, es', ep', hL, r'⟩) hok hg
theorem Inv.turned {t' : Nat} {it : Addr} (I : Inv X pins σ H s) (k : ∀ b o, b ≠ it → s.heap.get? b = some o → h'.get? b = some o) (hn : H it = none) (hL : it ≠ X.env.locals)
    (h1 : it ∈ X.ex ∨ X.s₀.heap.objs.size ≤ it) (h2 : ∀ x c, X.env.cells.lookup x = some c → c ≠ it) (h3 : ∀ p ∈ X.pn ++ pins, p.1 ≠ it) : Inv X pins σ H { s with heap := h', toks := t' } := by
  have nit : ∀ b u, H b = some u → b ≠ it := fun b u e z => by rw [z, hn] at e; cases e
  refine I.step (g' := s.gens) (d' := s.drawn) (ch := [it]) (fun b hb => ?_) (fun b o _ _ hc e _ => k b o (fun z => hc (by simp [z])) e) (fun b o _ _ hc e _ => ⟨o.slots, k b o (fun z => hc (by simp [z])) e⟩) (fun _ _ _ _ n => n)
    (fun b o hc e => ⟨o, k b o (fun z => hc (by simp [z])) e⟩) (fun _ _ e => e) (fun _ _ _ e => e) (fun b ps e => ⟨#[], by rw [e]; simp⟩) (fun m hm => ?_) (fun b u e => ?_) I.bare
  · have e : b = it := by simpa using hb
    subst e
    exact ⟨h1, hL, h2, h3⟩
  · obtain ⟨o, es, ep, ho, r⟩ := hm
    exact ⟨o, es, ep, k _ o (Ne.symm hL) ho, r⟩
  · refine (I.hok b u e).stay (fun c v hc q => k c v ?_ q) (fun _ q => q) fun _ _ q => q
    rcases hc with z | z
    · rw [z]; exact nit b u e
    · exact nit c _ z
theorem Inv.tok (I : Inv X pins σ H s) (t : Nat) : Inv X pins σ H { s with toks := t } := I.un (h' := s.heap) (t' := t) Un.refl I.hok
theorem Inv.kept {t' : Nat} (I : Inv X pins σ H s) (k : ∀ b u, s.heap.get? b = some u → h'.get? b = some u) : Inv X pins σ H { s with heap := h', toks := t' } := I.un (Un.kept k) (I.hok.kept k)
theorem Inv.laid {a : Addr} {o : HO} {t' : Nat} (I : Inv X pins σ H s) (k : ∀ b u, s.heap.get? b = some u → h'.get? b = some u) (hp : s.heap.objs.size ≤ a) (new : ObjOk X.prog X.w (upd H a o) h' a o) :
    Inv X pins σ (upd H a o) { s with heap := h', toks := t' } := I.un (Un.laid k hp (I.hok.fresh hp)) (I.hok.laid k hp new)
theorem Inv.write {x e : Addr} {o : HO} {t' : Nat} (I : Inv X pins σ H s) (mu : Mut (H x)) (he : e = x ∨ H e = some (.own x)) (k : ∀ b u, b ≠ e → s.heap.get? b = some u → h'.get? b = some u) (heo : ∃ u, h'.get? e = some u)
    (new : ObjOk X.prog X.w (upd H x o) h' x o) : Inv X pins σ (upd H x o) { s with heap := h', toks := t' } := I.un (Un.write mu he k heo) (I.hok.write mu he k heo new)
theorem Inv.weak {σ' : List (Option V)} (I : Inv X pins σ H s) (hl : σ'.length = σ.length) (w : ∀ (i : Nat) v, σ'[i]? = some (some v) → σ[i]? = some (some v)) : Inv X pins σ' H s :=
  ⟨I.ok, I.os, I.bare, I.base, let ⟨m, hn, hl'⟩ := I.loc; ⟨m, hn, fun i x v e1 e2 e3 => hl' i x v e1 (w i v e2) e3⟩, I.cell, I.free, I.freeC, I.pin, I.hok, hl.trans I.len⟩
theorem Inv.pins_of {pins' : List (Addr × Obj)} (I : Inv X pins σ H s) (h : ∀ p ∈ pins', s.heap.get? p.1 = some p.2 ∧ H p.1 = none ∧ p.1 ≠ X.env.locals ∧ p.1 ∉ X.fs ∧ ∀ v, p.2.data ≠ .cell v) : Inv X pins' σ H s :=
  ⟨I.ok, I.os, I.bare, I.base, I.loc, I.cell, I.free, I.freeC, fun p hp => (List.mem_append.mp hp).elim (fun z => I.pin p (List.mem_append_left _ z)) (h p), I.hok, I.len⟩
theorem nodup_ix {N : List Str} (hN : N.Nodup) {i j : Nat} {x : Str} (a : N[i]? = some x) (b : N[j]? = some x) : i = j := by
  obtain ⟨h1, e1⟩ := List.getElem?_eq_some_iff.mp a
  obtain ⟨h2, e2⟩ := List.getElem?_eq_some_iff.mp b
  exact (List.getElem_inj hN).mp (e1.trans e2.symm)
theorem store_ok2 {M : Model} {A : Around} {E : Value → Shared → Prop} {i : Nat} {x : Str} {v : V} {u : Value} {Q : Unit → Shared → Prop} (I : Inv X pins σ H s) (hN : X.N.Nodup) (hi : X.N[i]? = some x) (hx : Loc X.env.scope x) (r : RelV v u)
    (h : ∀ s', Inv X pins (σ.set i (some v)) H s' → (∃ a, Heap.SameBut a s.heap s'.heap ∧ (a = X.env.locals ∨ X.env.cells.lookup x = some a)) → Q () s') (hf : X.fn x = true ∨ X.env.scope.names.lookup x = some .local := by first | exact .inl rfl | exact .inr rfl | assumption) : wpAny M A (storeName X.env x u) Q E s := by
  obtain ⟨m, hn, hl⟩ := id I.loc
  have hcls : (X.env.scope.kind == .class || (X.env.scope.kind == .module && X.env.locals != X.env.globals)) = false := by rw [I.ok.kind]; rfl
  have hiσ : i < σ.length := by rw [I.len]; exact (List.getElem?_eq_some_iff.mp hi).1
  have cne := I.cne
  have tracked : ∀ {a : Addr} {h' : Heap}, (∃ o, s.heap.get? a = some o ∧ H a = none) → Heap.SameBut a s.heap h' → HOk X.prog X.w H h' := fun {a h'} ha hs b ob e => by
    obtain ⟨_, _, hfree⟩ := ha
    refine (I.hok b ob e).stay (fun c w' hc q => (hs.2 c ?_).trans q) (fun _ q => q) fun _ _ q => q
    rintro rfl
    rcases hc with rfl | hc
    · rw [hfree] at e; cases e
    · rw [hfree] at hc; cases hc
  rcases hx with hk | hk
  · refine wpAny_storeName_local hk hn (fun h' hn' hs => ?_) hcls
    obtain ⟨oL, _, _, hoL, _⟩ := id hn
    refine h _ ⟨I.ok, I.os, I.bare, ⟨fun b o e n hb hx => ?_, fun b o e n hb hx => ?_, I.base.free, fun b o e hx => ?_, I.base.tups, I.base.frzs, I.base.tbls⟩, ⟨_, hn', fun j y v' e1 e2 e3 => ?_⟩, fun y c e => ?_, I.free, I.freeC, fun p hp => ?_, tracked ⟨oL, hoL, I.free⟩ hs, by simpa using I.len⟩ ⟨_, hs, .inl rfl⟩
    · exact (hs.2 b (Nat.ne_of_lt (Nat.lt_of_lt_of_le (Heap.lt_size e) I.ok.above))).trans (I.base.keep b o e n hb hx)
    · obtain ⟨sl, e1⟩ := I.base.slot b o e n hb hx
      exact ⟨sl, (hs.2 b (Nat.ne_of_lt (Nat.lt_of_lt_of_le (Heap.lt_size e) I.ok.above))).trans e1⟩
    · obtain ⟨o', e1⟩ := I.base.there b o e hx
      exact ⟨o', (hs.2 b (Nat.ne_of_lt (Nat.lt_of_lt_of_le (Heap.lt_size e) I.ok.above))).trans e1⟩
    · by_cases hj : j = i
      · subst hj
        rw [hi] at e1; cases e1
        rw [List.getElem?_set_self hiσ] at e2
        cases e2
        exact ⟨u, r, .inl ⟨hk, by simp⟩⟩
      · rw [List.getElem?_set_ne (Ne.symm hj)] at e2
        obtain ⟨u', r', q⟩ := hl j y v' e1 e2 e3
        refine ⟨u', r', ?_⟩
        rcases q with ⟨k, e⟩ | ⟨k, c, e, z⟩
        · refine .inl ⟨k, ?_⟩
          have : y ≠ x := fun e => hj (nodup_ix hN e1 (e ▸ hi))
          simp [this, e]
        · exact .inr ⟨k, c, e, z.sameBut hs (cne y c e)⟩
    · obtain ⟨w', z⟩ := I.cell y c e
      exact ⟨w', z.sameBut hs (cne y c e)⟩
    · obtain ⟨e, n, ne, nf, d⟩ := I.pin p hp
      exact ⟨(hs.2 p.1 ne).trans e, n, ne, nf, d⟩
  · have hfn : X.fn x = true := by
      rcases hf with z | z
      · exact z
      · rw [z] at hk; cases hk
    obtain ⟨c, hc⟩ := I.ok.has x (.inl hk)
    obtain ⟨w', z⟩ := I.cell x c hc
    refine wpAny_storeName_cell I.ok.kind hk hc z (fun h' hc' hs => ?_)
    obtain ⟨oc, hoc, hocd⟩ := id z
    refine h { s with heap := h' } ⟨I.ok, I.os, I.bare, ⟨fun b o e n hb hx => ?_, fun b o e n hb hx => ?_, I.base.free, fun b o e hx => ?_, I.base.tups, I.base.frzs, I.base.tbls⟩, ⟨m, hn.sameBut hs (Ne.symm (cne x c hc)), fun j y v' e1 e2 e3 => ?_⟩, fun y c' e => ?_, I.free, I.freeC, fun p hp => ?_, tracked ⟨oc, hoc, I.freeC x c hc⟩ hs, by simpa using I.len⟩ ⟨c, hs, .inr hc⟩
    · exact (hs.2 b (Nat.ne_of_lt (Nat.lt_of_lt_of_le (Heap.lt_size e) (I.ok.cab x c hfn hc)))).trans (I.base.keep b o e n hb hx)
    · obtain ⟨sl, e1⟩ := I.base.slot b o e n hb hx
      exact ⟨sl, (hs.2 b (Nat.ne_of_lt (Nat.lt_of_lt_of_le (Heap.lt_size e) (I.ok.cab x c hfn hc)))).trans e1⟩
    · obtain ⟨o', e1⟩ := I.base.there b o e hx
      exact ⟨o', (hs.2 b (Nat.ne_of_lt (Nat.lt_of_lt_of_le (Heap.lt_size e) (I.ok.cab x c hfn hc)))).trans e1⟩
    · by_cases hj : j = i
      · subst hj
        rw [hi] at e1; cases e1
        rw [List.getElem?_set_self hiσ] at e2
        cases e2
        exact ⟨u, r, .inr ⟨.inl hk, c, hc, hc'⟩⟩
      · rw [List.getElem?_set_ne (Ne.symm hj)] at e2
        obtain ⟨u', r', q⟩ := hl j y v' e1 e2 e3
        refine ⟨u', r', ?_⟩
        rcases q with q | ⟨k, c', e, z'⟩
        · exact .inl q
        · refine .inr ⟨k, c', e, z'.sameBut hs ?_⟩
          rintro rfl
          exact hj (nodup_ix hN e1 (I.ok.inj _ _ _ e hc ▸ hi))
    · by_cases hcc : c' = c
      · subst hcc; exact ⟨_, hc'⟩
      · obtain ⟨w2, z2⟩ := I.cell y c' e
        exact ⟨w2, z2.sameBut hs hcc⟩
    · obtain ⟨e, n, ne, nf, d⟩ := I.pin p hp
      refine ⟨(hs.2 p.1 ?_).trans e, n, ne, nf, d⟩
      intro q
      rw [q, hoc] at e
      have q' : oc = p.2 := Option.some.inj e
      exact d w' (by rw [← q']; exact hocd)
theorem store_ok {M : Model} {A : Around} {E : Value → Shared → Prop} {i : Nat} {x : Str} {v : V} {u : Value} {Q : Unit → Shared → Prop} (I : Inv X pins σ H s) (hN : X.N.Nodup) (hi : X.N[i]? = some x) (hx : Loc X.env.scope x) (r : RelV v u)
    (h : ∀ s', Inv X pins (σ.set i (some v)) H s' → Q () s') (hf : X.fn x = true ∨ X.env.scope.names.lookup x = some .local := by first | exact .inl rfl | exact .inr rfl | assumption) : wpAny M A (storeName X.env x u) Q E s :=
  store_ok2 I hN hi hx r (fun s' I' _ => h s' I') hf
theorem Inv.call' {s' : Shared} {ch : List Addr} (I : Inv X pins σ H s) (ho : s'.os = s.os) (u : Un (frs X.stack) ch H H' s.heap s'.heap) (hok : HOk X.prog X.w H' s'.heap) (hg : AllBare s'.gens)
    (hch : ∀ b ∈ ch, (b ∈ X.ex ∨ X.s₀.heap.objs.size ≤ b) ∧ b ≠ X.env.locals ∧ (∀ x c, X.env.cells.lookup x = some c → c ≠ b) ∧ ∀ p ∈ X.pn ++ pins, p.1 ≠ b) : Inv X pins σ H' s' := by
  obtain ⟨h', g', d', t', o'⟩ := s'
  have e : o' = s.os := ho
  subst e
  exact I.call (g' := g') (t' := t') (d' := d') u hok hg hch
end
noncomputable abbrev XK := Value → Option Addr → Hp → Prop
noncomputable abbrev St := List (Option V)
noncomputable abbrev VK := V → Hp → Prop
noncomputable abbrev TE := St → Hp → VK → Prop
noncomputable abbrev TT := St → Hp → (Bool → Hp → Prop) → Prop
noncomputable abbrev TA := St → Hp → (List V → Hp → Prop) → Prop
structure Ends where
  nx : St → Hp → Prop
  rt : VK
  bk : St → Hp → Prop := fun _ _ => False
  ct : St → Hp → Prop := fun _ _ => False
noncomputable abbrev TS := Ends → St → Hp → Prop
noncomputable def EP (X : Cx) (pins : List (Addr × Obj)) (σ : St) (Q : VK) (u : Value) (s' : Shared) : Prop := ∃ v H', Inv X pins σ H' s' ∧ RelV v u ∧ Q v H'
noncomputable def TP (X : Cx) (pins : List (Addr × Obj)) (σ : St) (Q : Bool → Hp → Prop) (b : Bool) (s' : Shared) : Prop := ∃ H', Inv X pins σ H' s' ∧ Q b H'
noncomputable def AP (X : Cx) (pins : List (Addr × Obj)) (σ : St) (Q : List V → Hp → Prop) (us : List Value) (s' : Shared) : Prop := ∃ vs H', Inv X pins σ H' s' ∧ Vals vs us ∧ Q vs H'
noncomputable def SP (X : Cx) (pins : List (Addr × Obj)) (D : Ends) (f : Flow) (s' : Shared) : Prop :=
  match f with
  | .next => ∃ σ' H', Inv X pins σ' H' s' ∧ D.nx σ' H'
  | .brk => ∃ σ' H', Inv X pins σ' H' s' ∧ D.bk σ' H'
  | .cont => ∃ σ' H', Inv X pins σ' H' s' ∧ D.ct σ' H'
  | .ret u => ∃ v σ' H', Inv X pins σ' H' s' ∧ RelV v u ∧ D.rt v H'
noncomputable def PE (X : Cx) (e : Expr) (t : TE) : Prop :=
  ∀ (pins : List (Addr × Obj)) (s : Shared) (σ : St) (H : Hp) (Q : VK), Inv X pins σ H s → t σ H Q → wpAny (model X.prog X.w) X.A (eval e X.env) (EP X pins σ Q) X.xe s
noncomputable def PT (X : Cx) (e : Expr) (t : TT) : Prop :=
  ∀ (pins : List (Addr × Obj)) (s : Shared) (σ : St) (H : Hp) (Q : Bool → Hp → Prop), Inv X pins σ H s → t σ H Q → wpAny (model X.prog X.w) X.A (isTrue e X.env (eval e X.env)) (TP X pins σ Q) X.xe s
noncomputable def PW (X : Cx) (e : Expr) (t : TT) : Prop :=
  ∀ (whole : Sem Value) (pins : List (Addr × Obj)) (s : Shared) (σ : St) (H : Hp) (Q : Bool → Hp → Prop), Inv X pins σ H s → t σ H Q → wpAny (model X.prog X.w) X.A (isTrue e X.env whole) (TP X pins σ Q) X.xe s
theorem PW.pt {X : Cx} {e : Expr} {t : TT} (h : PW X e t) : PT X e t := h _
noncomputable def PA (X : Cx) (es : List Expr) (t : TA) : Prop :=
  ∀ (pos : Pos) (pins : List (Addr × Obj)) (s : Shared) (σ : St) (H : Hp) (Q : List V → Hp → Prop), Inv X pins σ H s → t σ H Q → wpAny (model X.prog X.w) X.A (spliced (backTo pos (starEach es X.env))) (AP X pins σ Q) X.xe s
noncomputable def PS (X : Cx) (st : Stmt) (t : TS) : Prop :=
  ∀ (pins : List (Addr × Obj)) (s : Shared) (σ : St) (H : Hp) (D : Ends), Inv X pins σ H s → t D σ H → wpAny (model X.prog X.w) X.A (exec st X.env) (SP X pins D) X.xe s
noncomputable def PSs (X : Cx) (st : List Stmt) (t : TS) : Prop :=
  ∀ (pins : List (Addr × Obj)) (s : Shared) (σ : St) (H : Hp) (D : Ends), Inv X pins σ H s → t D σ H → wpAny (model X.prog X.w) X.A (execs st X.env) (SP X pins D) X.xe s
theorem thn {α : Type} {t : Sem α} {Q Q' : α → Shared → Prop} {M : Model} {A : Around} {E : Value → Shared → Prop} {s : Shared} (h : wpAny M A t Q E s) (hQ : ∀ a s, Q a s → Q' a s) : wpAny M A t Q' E s := wpAny_mono h hQ fun _ _ x => x
end L2
namespace L2
open PySem PySem.Spec PyProof.Rows
section
variable {X : Cx}
noncomputable def tVar (i : Nat) : TE := fun σ H Q => ∃ v, σ[i]? = some (some v) ∧ Q v H
noncomputable def tC (v : V) : TE := fun _ H Q => Q v H
theorem pe_var {i : Nat} {x : Str} {pos : Pos} (hN : X.N[i]? = some x) (hv : Vis X.env.scope x) (hd : (x == ("__debug__" : Str)) = false := by decide) (hcd : (x == ("__classdict__" : Str)) = false := by decide) : PE X (.Name x pos) (tVar i) := by
  intro pins s σ H Q I h
  obtain ⟨v, e, h⟩ := h
  obtain ⟨m, hn, hl⟩ := I.loc
  obtain ⟨u, r, l⟩ := hl i x v hN e hv
  have fin : EP X pins σ Q u s := ⟨v, H, I, r, h⟩
  rcases l with ⟨hk, hm⟩ | ⟨hk, c, hc, hcell⟩
  · exact wpAny_Name (wpAny_loadName_local I.ok.kind hk hn hm fin) hd
  · rcases hk with hk | hk
    · exact wpAny_Name (wpAny_loadName_cell I.ok.kind hk hc hcell fin) hd
    · exact wpAny_Name (wpAny_loadName_free I.ok.kind hk hc hcell fin hcd) hd
theorem pe_int {i j pos} : PE X (.Constant (.int i) j pos) (tC (.int i)) := fun _ _ _ H _ I h => wpAny_Constant_int ⟨.int i, H, I.tok _, ⟨_, rfl⟩, h⟩
theorem pe_bl {b j pos} : PE X (.Constant (.bool b) j pos) (tC (.bl b)) := fun _ _ _ H _ I h => Constant_bool ⟨.bl b, H, I, rfl, h⟩
theorem pe_non {j pos} : PE X (.Constant .none j pos) (tC .non) := fun _ _ _ H _ I h => Constant_none ⟨.non, H, I, rfl, h⟩
theorem pe_str {x j pos} : PE X (.Constant (.str x) j pos) (tC (.str x)) := fun _ _ _ H _ I h => Calls.Constant_str ⟨.str x, H, I.tok _, ⟨_, rfl⟩, h⟩
noncomputable def Gl (X : Cx) (x : Str) : Prop := X.env.kindOf x = some .globalImplicit
theorem ld_glob {E : Value → Shared → Prop} {pins : List (Addr × Obj)} {s : Shared} {σ : St} {H : Hp} {x : Str} {u : Value} {pos : Pos} {Q : Value → Shared → Prop} (I : Inv X pins σ H s) (hg : Gl X x) (hm : X.mg x = some u) (h : Q u s)
    (hd : (x == ("__debug__" : Str)) = false := by decide) : wpAny (model X.prog X.w) X.A (eval (.Name x pos) X.env) Q E s :=
  Calls.Name_function_global I.ok.kind hg (Calls.loadGlobal_global (by rw [I.ok.glob]; exact I.mod.glob.keeps I.bk) hm h) hd
theorem ld_blt {E : Value → Shared → Prop} {pins : List (Addr × Obj)} {s : Shared} {σ : St} {H : Hp} {x : Str} {u : Value} {pos : Pos} {Q : Value → Shared → Prop} (I : Inv X pins σ H s) (hg : Gl X x) (hm : X.mg x = none) (hv : bootBuiltins x = some u) (h : Q u s)
    (hn : x ≠ "__name__" := by decide) (hd : (x == ("__debug__" : Str)) = false := by decide) : wpAny (model X.prog X.w) X.A (eval (.Name x pos) X.env) Q E s := by
  obtain ⟨mb, h1, h2⟩ := I.mod.blt
  exact Calls.Name_function_global I.ok.kind hg (Calls.loadGlobal_builtin (by rw [I.ok.glob]; exact I.mod.glob.keeps I.bk) hm (by rw [I.ok.blt]; exact h1.keeps I.bk) ((h2 x hn).trans hv) h) hd
theorem pe_glob {x : Str} {v : V} {u : Value} {pos : Pos} (hg : Gl X x) (hm : X.mg x = some u) (r : RelV v u) (hd : (x == ("__debug__" : Str)) = false := by decide) : PE X (.Name x pos) (tC v) :=
  fun _ _ _ H _ I h => ld_glob I hg hm ⟨v, H, I, r, h⟩ hd
theorem pe_bltn {x : Str} {v : V} {u : Value} {pos : Pos} (hg : Gl X x) (hm : X.mg x = none) (hv : bootBuiltins x = some u) (r : RelV v u) (hn : x ≠ "__name__" := by decide) (hd : (x == ("__debug__" : Str)) = false := by decide) : PE X (.Name x pos) (tC v) :=
  fun _ _ _ H _ I h => ld_blt I hg hm hv ⟨v, H, I, r, h⟩ hn hd
variable {a b : Expr} {ta tb : TE} {pos : Pos}
noncomputable def tB (t : TE) : TT := fun σ H Q => t σ H fun x H1 => ∃ c, x = .bl c ∧ Q c H1
theorem pt_val {e : Expr} {t : TE} (h : PE X e t) (he : ∀ whole, isTrue e X.env whole = (do let v ← whole; standAt e.pos; holding [v] (truthy v)) := by intro _; rfl) : PT X e (tB t) := by
  intro pins s σ H Q I hw
  refine isTrue_plain (thn (h pins s σ H _ I hw) fun v s1 ⟨x, H1, I1, r1, q1⟩ => ?_) (he _)
  obtain ⟨d, rfl, q⟩ := q1
  cases r1
  exact wpAny_truthy_bool ⟨H1, I1, q⟩
variable {tA tB' : TT} {rest : List Expr}
noncomputable def tAnd (t u : TT) : TT := fun σ H Q => t σ H fun c H1 => if c = true then u σ H1 Q else Q false H1
noncomputable def tOr (t u : TT) : TT := fun σ H Q => t σ H fun c H1 => if c = true then Q true H1 else u σ H1 Q
noncomputable def tNot (t : TT) : TT := fun σ H Q => t σ H fun c H1 => Q (!c) H1
theorem pw_and1 (ha : PT X a tA) : PW X (.BoolOp .And [a] pos) tA := by
  intro wh pins s σ H Q I h
  refine isTrue_and (thn (ha pins s σ H Q I h) fun c s1 e => ?_)
  cases c with
  | true => exact isTrue_and_nil e
  | false => exact e
theorem pw_or1 (ha : PT X a tA) : PW X (.BoolOp .Or [a] pos) tA := by
  intro wh pins s σ H Q I h
  refine isTrue_or (thn (ha pins s σ H Q I h) fun c s1 e => ?_)
  cases c with
  | false => exact isTrue_or_nil e
  | true => exact e
theorem pw_and (ha : PT X a tA) (hb : PW X (.BoolOp .And (b :: rest) pos) tB') : PW X (.BoolOp .And (a :: b :: rest) pos) (tAnd tA tB') := by
  intro wh pins s σ H Q I h
  refine isTrue_and (thn (ha pins s σ H _ I h) fun c s1 zq => ?_)
  obtain ⟨H1, I1, q1⟩ := zq
  cases c with
  | true => exact hb wh pins s1 σ H1 Q I1 q1
  | false => exact ⟨H1, I1, q1⟩
theorem pw_or (ha : PT X a tA) (hb : PW X (.BoolOp .Or (b :: rest) pos) tB') : PW X (.BoolOp .Or (a :: b :: rest) pos) (tOr tA tB') := by
  intro wh pins s σ H Q I h
  refine isTrue_or (thn (ha pins s σ H _ I h) fun c s1 zq => ?_)
  obtain ⟨H1, I1, q1⟩ := zq
  cases c with
  | true => exact ⟨H1, I1, q1⟩
  | false => exact hb wh pins s1 σ H1 Q I1 q1
theorem pt_not (ha : PT X a tA) : PT X (.UnaryOp .Not a pos) (tNot tA) := by
  intro pins s σ H Q I h
  exact isTrue_not (ha pins s σ H (fun c H1 => Q (!c) H1) I h)
noncomputable def tAndV (ta tb : TE) : TE := fun σ H Q => ta σ H fun x H1 => ∃ c, x = .bl c ∧ if c = true then tb σ H1 Q else Q (.bl false) H1
noncomputable def tNotV (ta : TE) : TE := fun σ H Q => ta σ H fun x H1 => ∃ c, x = .bl c ∧ Q (.bl (!c)) H1
theorem pe_one {op} {t : TE} (h : PE X a t) : PE X (.BoolOp op [a] pos) t := fun pins s σ H Q I hw => BoolOp_one (h pins s σ H Q I hw)
theorem pe_and (ha : PE X a ta) (hb : PE X (.BoolOp .And (b :: rest) pos) tb) : PE X (.BoolOp .And (a :: b :: rest) pos) (tAndV ta tb) := by
  intro pins s σ H Q I h
  refine BoolOp_and (thn (ha pins s σ H _ I h) fun v s1 zq => ?_)
  obtain ⟨x, H1, I1, r1, q1⟩ := zq
  obtain ⟨c, rfl, q1⟩ := q1
  cases r1
  refine wpAny_truthy_bool ?_
  cases c with
  | true => exact hb pins s1 σ H1 Q I1 q1
  | false => exact ⟨.bl false, H1, I1, rfl, q1⟩
theorem pe_not (ha : PE X a ta) : PE X (.UnaryOp .Not a pos) (tNotV ta) := by
  intro pins s σ H Q I h
  refine UnaryOp_ (thn (ha pins s σ H _ I h) fun v s1 zq => ?_)
  obtain ⟨x, H1, I1, r1, q1⟩ := zq
  obtain ⟨c, rfl, q1⟩ := q1
  cases r1
  exact not_of (wpAny_truthy_bool ⟨.bl (!c), H1, I1, rfl, q1⟩)
end
end L2
namespace L2
open PySem PySem.Spec PyProof.Rows
noncomputable def SqL (K : PySem.W.Frag) (H : Hp) (a : Addr) (xs : List V) : Prop :=
  Rd H a (.lst xs) ∨
    ∃ (o : Obj) (its : Array Value) (n : Nat), K.lookup a = some o ∧ o.cls = .type "list" ∧ o.dict = none ∧ o.data = .seq its n ∧ its.size ≤ sizeLine ∧ Vals xs its.toList
noncomputable def SqT (K : PySem.W.Frag) (H : Hp) (a : Addr) (xs : List V) : Prop :=
  Rd H a (.tup xs) ∨
    ∃ (o : Obj) (its : Array Value) (n : Nat), K.lookup a = some o ∧ o.cls = .type "tuple" ∧ o.data = .seq its n ∧ its.size ≤ sizeLine ∧ Vals xs its.toList
noncomputable def absV : Value → Option V
  | .none => some .non
  | .bool b => some (.bl b)
  | .int i _ => some (.int i)
  | .str x _ => some (.str x)
  | .bytes b _ => some (.byt b)
  | .float b _ => some (.flt b)
  | .ref a => some (.ref a)
  | .type n => some (.ty n)
  | _ => none
theorem RelV.abs {x : V} {u : Value} (r : RelV x u) : absV u = some x := by
  cases x with
  | non => cases r; rfl
  | bl _ => cases r; rfl
  | int _ => obtain ⟨t, rfl⟩ := r; rfl
  | str _ => obtain ⟨t, rfl⟩ := r; rfl
  | byt _ => obtain ⟨t, rfl⟩ := r; rfl
  | flt _ => obtain ⟨t, rfl⟩ := r; rfl
  | ref _ => cases r; rfl
  | ty _ => cases r; rfl
theorem RelV.inj {x y : V} {u : Value} (r : RelV x u) (q : RelV y u) : x = y := Option.some.inj (r.abs.symm.trans q.abs)
theorem Vals.inj : ∀ {xs ys : List V} {us : List Value}, Vals xs us → Vals ys us → xs = ys
  | _, _, _, .nil, .nil => rfl
  | _, _, _, .cons r t, .cons r' t' => by rw [r.inj r', Vals.inj t t']
section
variable {X : Cx} {pins : List (Addr × Obj)} {σ : St} {H : Hp} {s : Shared} {a : Addr} {xs ys : List V}
theorem SqL.of {K : PySem.W.Frag} (h : H a = some (.lst xs)) : SqL K H a xs := .inl (.inl h)
theorem SqT.of {K : PySem.W.Frag} (h : H a = some (.tup xs)) : SqT K H a xs := .inl (.inl h)
theorem Inv.list (I : Inv X pins σ H s) (h : SqL X.K H a xs) : ∃ its : List Value, Vals xs its ∧ PlainL s.heap a its.toArray ∧ xs.length ≤ sizeLine := by
  rcases h with h | ⟨o, its, n, hk, hc, hd, hs, hz, r⟩
  · obtain ⟨z, its, n, r, e⟩ := h.ok I.hok
    exact ⟨its, r, ⟨_, n, e, rfl, rfl, rfl⟩, z⟩
  · refine ⟨its.toList, r, ⟨o, n, I.kIn a o hk, hc, hd, by simpa using hs⟩, ?_⟩
    have e := r.length
    simp only [Array.length_toList] at e
    omega
theorem Inv.tuple (I : Inv X pins σ H s) (h : SqT X.K H a xs) : ∃ its : List Value, Vals xs its ∧ IsTup s.heap a its.toArray ∧ xs.length ≤ sizeLine := by
  rcases h with h | ⟨o, its, n, hk, hc, hs, hz, r⟩
  · obtain ⟨z, its, r, p, _⟩ := h.ok I.hok
    exact ⟨its, r, p, z⟩
  · refine ⟨its.toList, r, ⟨o, I.kIn a o hk, hc, n, by simpa using hs⟩, ?_⟩
    have e := r.length
    simp only [Array.length_toList] at e
    omega
theorem Inv.list_inj (I : Inv X pins σ H s) (h : SqL X.K H a xs) (h' : SqL X.K H a ys) : xs = ys := by
  obtain ⟨its, r, ⟨o, n, e, _, _, d⟩, _⟩ := I.list h
  obtain ⟨its', r', ⟨o', n', e', _, _, d'⟩, _⟩ := I.list h'
  rw [e] at e'; cases e'
  rw [d] at d'
  injection d' with d1 _
  have : its = its' := by simpa using congrArg Array.toList d1
  subst this
  exact r.inj r'
theorem Inv.tuple_inj (I : Inv X pins σ H s) (h : SqT X.K H a xs) (h' : SqT X.K H a ys) : xs = ys := by
  obtain ⟨its, r, ⟨o, e, _, n, d⟩, _⟩ := I.tuple h
  obtain ⟨its', r', ⟨o', e', _, n', d'⟩, _⟩ := I.tuple h'
  rw [e] at e'; cases e'
  rw [d] at d'
  injection d' with d1 _
  have : its = its' := by simpa using congrArg Array.toList d1
  subst this
  exact r.inj r'
end
noncomputable abbrev Cx.wish (X : Cx) (E : Value → Shared → Prop) : Cx := { X with xe := E }
noncomputable abbrev Cx.nox (X : Cx) : Cx := X.wish fun _ _ => False
theorem Cx.Ok.wish {X : Cx} (ok : X.Ok) (E : Value → Shared → Prop) : (X.wish E).Ok :=
  ⟨ok.mod, ok.kind, ok.glob, ok.blt, ok.above, ok.inj, ok.has, ok.cab, ok.hd, ok.frames, ok.stk, ok.exf, ok.bs, ok.bsz, ok.noex, ok.exfs, ok.funs, ok.frf⟩
theorem Cx.Ok.unwish {X : Cx} {E : Value → Shared → Prop} (ok : (X.wish E).Ok) : X.Ok :=
  ⟨ok.mod, ok.kind, ok.glob, ok.blt, ok.above, ok.inj, ok.has, ok.cab, ok.hd, ok.frames, ok.stk, ok.exf, ok.bs, ok.bsz, ok.noex, ok.exfs, ok.funs, ok.frf⟩
section
variable {X : Cx} {pins : List (Addr × Obj)} {σ : St} {H : Hp} {s : Shared} {E : Value → Shared → Prop}
theorem Inv.wish (I : Inv X pins σ H s) (E : Value → Shared → Prop) : Inv (X.wish E) pins σ H s := ⟨I.ok.wish E, I.os, I.bare, I.base, I.loc, I.cell, I.free, I.freeC, I.pin, I.hok, I.len⟩
theorem Inv.unwish (I : Inv (X.wish E) pins σ H s) : Inv X pins σ H s := ⟨I.ok.unwish, I.os, I.bare, I.base, I.loc, I.cell, I.free, I.freeC, I.pin, I.hok, I.len⟩
theorem SP.unwish {D : Ends} {f : Flow} {s' : Shared} (h : SP (X.wish E) pins D f s') : SP X pins D f s' := by
  cases f with
  | next => obtain ⟨σ', H', I, q⟩ := h; exact ⟨σ', H', I.unwish, q⟩
  | brk => obtain ⟨σ', H', I, q⟩ := h; exact ⟨σ', H', I.unwish, q⟩
  | cont => obtain ⟨σ', H', I, q⟩ := h; exact ⟨σ', H', I.unwish, q⟩
  | ret u => obtain ⟨v, σ', H', I, r, q⟩ := h; exact ⟨v, σ', H', I.unwish, r, q⟩
theorem PSs.nox {st : List Stmt} {t : TS} (h : PSs X.nox st t) : PSs X st t := fun pins s σ H D I hw =>
  wpAny_mono (h pins s σ H D (I.wish _) hw) (fun _ _ q => q.unwish) fun _ _ z => False.elim z
end
section
variable {X : Cx} {st : Stmt} {rest : List Stmt} {t u : TS} {e : Expr} {te : TE} {pos : Pos}
noncomputable def tNext : TS := fun D σ H => D.nx σ H
noncomputable def tSeq (t u : TS) : TS := fun D σ H => t { D with nx := u D } σ H
theorem pss_nil : PSs X [] tNext := fun _ _ σ H _ I h => wpAny_execs_nil ⟨σ, H, I, h⟩
theorem pss_cons (h1 : PS X st t) (h2 : PSs X rest u) : PSs X (st :: rest) (tSeq t u) := by
  intro pins s σ H D I h
  refine wpAny_execs_cons (thn (h1 pins s σ H { D with nx := u D } I h) fun f s1 q => ?_)
  cases f with
  | next =>
    obtain ⟨σ', H', I', q⟩ := q
    exact h2 pins s1 σ' H' D I' q
  | ret v => exact q
  | brk => exact q
  | cont => exact q
theorem pss_one (h1 : PS X st t) : PSs X [st] t := by
  intro pins s σ H D I h
  refine wpAny_execs_cons (thn (h1 pins s σ H D I h) fun f s1 q => ?_)
  cases f with
  | next => exact wpAny_execs_nil q
  | ret v => exact q
  | brk => exact q
  | cont => exact q
theorem Inv.quiet {pins : List (Addr × Obj)} {σ : St} {H : Hp} {s : Shared} (I : Inv X pins σ H s) : interactive X.env = false := by simp [interactive, I.ok.kind]
noncomputable def tDrop (te : TE) : TS := fun D σ H => te σ H fun _ H1 => D.nx σ H1
theorem ps_expr (he : PE X e te) (hs : swapsWith e none pos.line X.env = pure false := by rfl) : PS X (.Expr e pos) (tDrop te) := by
  intro pins s σ H D I h
  exact wpAny_Expr_any (thn (he pins s σ H _ I h) fun v s1 ⟨x, H1, I1, r1, q1⟩ => ⟨σ, H1, I1, q1⟩) I.quiet hs
noncomputable def tRet (te : TE) : TS := fun D σ H => te σ H D.rt
theorem ps_ret (he : PE X e te) : PS X (.Return (some e) pos) (tRet te) := by
  intro pins s σ H D I h
  exact wpAny_Return_some (thn (he pins s σ H _ I h) fun v s1 ⟨x, H1, I1, r1, q1⟩ => ⟨x, σ, H1, I1, r1, q1⟩)
noncomputable def tIfS (c : TT) (t u : TS) : TS := fun D σ H => c σ H fun b H1 => if b = true then t D σ H1 else u D σ H1
theorem ps_if {c : Expr} {a b : List Stmt} {tc : TT} (hc : PT X c tc) (ha : PSs X a t) (hb : PSs X b u) : PS X (.If c a b pos) (tIfS tc t u) := by
  intro pins s σ H D I h
  refine wpAny_If (thn (hc pins s σ H _ I h) fun d s1 zq => ?_)
  obtain ⟨H1, I1, q1⟩ := zq
  cases d with
  | true => exact ha pins s1 σ H1 D I1 q1
  | false => exact hb pins s1 σ H1 D I1 q1
noncomputable def tNever : TS := fun _ _ _ => False
theorem ps_never : PS X st tNever := fun _ _ _ _ _ _ h => h.elim
end
noncomputable abbrev TG := V → St → Hp → (St → Hp → Prop) → Prop
noncomputable abbrev TGs := List V → St → Hp → (St → Hp → Prop) → Prop
noncomputable def PG (X : Cx) (target : Expr) (t : TG) : Prop :=
  ∀ (pins : List (Addr × Obj)) (s : Shared) (σ : St) (H : Hp) (v : V) (u : Value) (Q : St → Hp → Prop), Inv X pins σ H s → RelV v u → t v σ H Q →
    wpAny (model X.prog X.w) X.A (assign target X.env u) (fun _ s' => ∃ σ' H', Inv X pins σ' H' s' ∧ Q σ' H') X.xe s
noncomputable def PGs (X : Cx) (ts : List Expr) (t : TGs) : Prop :=
  ∀ (pins : List (Addr × Obj)) (s : Shared) (σ : St) (H : Hp) (vs : List V) (us : List Value) (Q : St → Hp → Prop), Inv X pins σ H s → Vals vs us → t vs σ H Q →
    wpAny (model X.prog X.w) X.A (assignInOrder ((assignEach ts X.env).map (·.2)) us) (fun _ s' => ∃ σ' H', Inv X pins σ' H' s' ∧ Q σ' H') X.xe s
noncomputable abbrev TSet := V → V → V → Hp → (Hp → Prop) → Prop
noncomputable def PSet (X : Cx) (t : TSet) : Prop :=
  ∀ (pins : List (Addr × Obj)) (s : Shared) (σ : St) (H : Hp) (o i v : V) (ov iv u : Value) (Q : Hp → Prop), Inv X pins σ H s → RelV o ov → RelV i iv → RelV v u → t o i v H Q →
    wpAny (model X.prog X.w) X.A (setItem ov iv u) (fun _ s' => ∃ H', Inv X pins σ H' s' ∧ Q H') X.xe s
section
variable {X : Cx} {pos : Pos}
noncomputable def gName (i : Nat) : TG := fun v σ H Q => Q (σ.set i (some v)) H
theorem pg_name {i : Nat} {x : Str} (hN : X.N.Nodup) (hi : X.N[i]? = some x) (hx : Loc X.env.scope x) (hf : X.fn x = true ∨ X.env.scope.names.lookup x = some .local := by first | exact .inl rfl | exact .inr rfl | assumption) : PG X (.Name x pos) (gName i) := by
  intro pins s σ H v u Q I r h
  exact wpAny_assign_Name (store_ok I hN hi hx r (fun s' I' => ⟨_, H, I', h⟩) hf)
noncomputable def gSub (to ti : TE) (t : TSet) : TG := fun v σ H Q => to σ H fun o H1 => ti σ H1 fun i H2 => t o i v H2 fun H3 => Q σ H3
theorem pg_sub {o i : Expr} {to ti : TE} {t : TSet} (ho : PE X o to) (hi : PE X i ti) (hs : PSet X t)
    (ha : ∀ v, assign (.Subscript o i pos) X.env v = (do
      let ov ← holding [v] (eval o X.env)
      let iv ← holding [v, ov] (eval i X.env)
      standAt pos
      holding [v, ov, iv] (setItem ov iv v)
      release [v, ov, iv] []) := by intro _; rfl) : PG X (.Subscript o i pos) (gSub to ti t) := by
  intro pins s σ H v u Q I r h
  rw [ha]
  refine wpAny_bind (wpAny_holding (thn (ho pins s σ H _ I h) fun ov s1 zq => ?_))
  obtain ⟨x, H1, I1, r1, q1⟩ := zq
  refine wpAny_bind (wpAny_holding (thn (hi pins s1 σ H1 _ I1 q1) fun iv s2 zq => ?_))
  obtain ⟨y, H2, I2, r2, q2⟩ := zq
  refine wpAny_bind (wpAny_standAt (wpAny_bind (wpAny_holding (thn (hs pins s2 σ H2 x y v ov iv u _ I2 r1 r2 r q2) fun _ s3 zq => ?_))))
  obtain ⟨H3, I3, q3⟩ := zq
  exact wpAny_release ⟨σ, H3, I3, q3⟩
noncomputable def tAsg (te : TE) (g : TG) : TS := fun D σ H => te σ H fun x H1 => g x σ H1 D.nx
theorem ps_asg {tg e : Expr} {te : TE} {g : TG} (he : PE X e te) (hg : PG X tg g) (hs : swapsWithSole [tg] e pos.line X.env = pure false := by rfl) (hw : swappedStores [tg] e X.env = pure none := by rfl)
    (h1 : (assignEach [tg] X.env).map (·.2) = [assign tg X.env] := by rfl) : PS X (.Assign [tg] e pos) (tAsg te g) := by
  intro pins s σ H D I h
  refine wpAny_Assign_stores (thn (he pins s σ H _ I h) fun v s1 ⟨x, H1, I1, r1, q1⟩ => ?_) hs hw
  rw [h1]
  exact thn (hg pins s1 σ H1 x v _ I1 r1 q1) fun _ s2 q => q
theorem ps_set {i : Nat} {x : Str} {e : Expr} {te : TE} {pos' : Pos} (hN : X.N.Nodup) (hi : X.N[i]? = some x) (hx : Loc X.env.scope x) (he : PE X e te) (hs : swapsWith e (some (.Name x pos')) pos.line X.env = pure false := by rfl) (hf : X.fn x = true ∨ X.env.scope.names.lookup x = some .local := by first | exact .inl rfl | exact .inr rfl | assumption) :
    PS X (.Assign [.Name x pos'] e pos) (tAsg te (gName i)) := by
  intro pins s σ H D I h
  refine wpAny_Assign_Name (thn (he pins s σ H _ I h) fun v s1 ⟨y, H1, I1, r1, q1⟩ => ?_) hs
  exact store_ok I1 hN hi hx r1 (fun s2 I2 => ⟨_, H1, I2, q1⟩) hf
end
section
variable {X : Cx} {pos : Pos}
end
structure It where
  go : Nat → Hp → Prop
  yld : Nat → Hp → V → Hp → Prop
  stop : Nat → Hp → Prop
noncomputable def FpOk (X : Cx) (pins : List (Addr × Obj)) (H : Hp) (b : Addr) : Prop :=
  H b = none ∧ b ≠ X.env.locals ∧ b ∉ X.fs ∧ (b ∈ X.ex ∨ X.s₀.heap.objs.size ≤ b) ∧ (∀ x c, X.env.cells.lookup x = some c → c ≠ b) ∧ ∀ p ∈ X.pn ++ pins, p.1 ≠ b
theorem Inv.fpOk {X : Cx} {pins : List (Addr × Obj)} {σ : St} {H H' : Hp} {s : Shared} {b : Addr} (I : Inv X pins σ H s) (hb : s.heap.objs.size ≤ b) (hn : H' b = none) : FpOk X pins H' b := by
  refine ⟨hn, Nat.ne_of_gt (Nat.lt_of_lt_of_le I.lt hb), I.nofs hb, .inr (Nat.le_trans I.sz hb), fun x c e z => ?_, fun p hp z => ?_⟩
  · obtain ⟨v, q⟩ := I.cell x c e
    exact absurd (Nat.lt_of_lt_of_le q.lt (by rw [z]; exact hb)) (Nat.lt_irrefl _)
  · exact absurd (Nat.lt_of_lt_of_le (Heap.lt_size (I.pin p hp).1) (by rw [z]; exact hb)) (Nat.lt_irrefl _)
structure Turn (P : Program) (w : World) (K : PySem.W.Frag) (tg : Expr) (J : It) (fp : List Addr) (it : Addr) (tn : Nat → Heap → Prop) : Prop where
  mem : it ∈ fp
  obj : ∀ i h, tn i h → ∀ b ∈ fp, ∃ o, h.get? b = some o ∧ ∀ v, o.data ≠ .cell v
  keep : ∀ i h h', tn i h → (∀ b ∈ fp, ∀ o, h.get? b = some o → h'.get? b = some o) → tn i h'
  item : ∀ (X : Cx), X.prog = P → X.w = w → X.K = K → X.calm = true → ∀ (i : Nat) (pins : List (Addr × Obj)) (s : Shared) (σ : St) (H : Hp) (E : Value → Shared → Prop), Inv X pins σ H s → (∀ b ∈ fp, FpOk X pins H b) → tn i s.heap → J.go i H →
    wpAny (model P w) X.A (pyNext (.ref it)) (fun r s1 => ∃ u, r = some u ∧
      wpAny (model P w) X.A (letOwnedTupleGo tg (.ref it) u) (fun _ s2 => ∃ x H', Inv X pins σ H' s2 ∧ RelV x u ∧ J.yld i H x H' ∧ tn (i + 1) s2.heap ∧ ∀ b ∈ fp, H' b = none) E s1) E s
  done : ∀ (X : Cx), X.prog = P → X.w = w → X.K = K → X.calm = true → ∀ (i : Nat) (pins : List (Addr × Obj)) (s : Shared) (σ : St) (H : Hp) (E : Value → Shared → Prop), Inv X pins σ H s → (∀ b ∈ fp, FpOk X pins H b) → tn i s.heap → J.stop i H →
    wpAny (model P w) X.A (pyNext (.ref it)) (fun r s1 => r = none ∧ Inv X pins σ H s1) E s
  self : ∀ (A : Around) (i : Nat) (s : Shared) (Q : Value → Shared → Prop) (E : Value → Shared → Prop), tn i s.heap → Q (.ref it) s → wpAny (model P w) A (pyIter (.ref it)) Q E s
noncomputable abbrev TI := St → Hp → (It → Hp → Prop) → Prop
noncomputable def PIE (X : Cx) (pins : List (Addr × Obj)) (σ : St) (tg : Expr) (R : It → Hp → Prop) (itv : Value) (s2 : Shared) : Prop :=
  ∃ (it : Addr) (fp : List Addr) (tn : Nat → Heap → Prop) (J : It) (H' : Hp), itv = .ref it ∧ Inv X pins σ H' s2 ∧ Turn X.prog X.w X.K tg J fp it tn ∧ tn 0 s2.heap ∧ (∀ b ∈ fp, FpOk X pins H' b) ∧ R J H'
noncomputable def PI (X : Cx) (tg iter : Expr) (wi : TI) : Prop :=
  ∀ (pins : List (Addr × Obj)) (s : Shared) (σ : St) (H : Hp) (R : It → Hp → Prop), Inv X pins σ H s → wi σ H R →
    wpAny (model X.prog X.w) X.A (eval iter X.env) (fun v s1 => wpAny (model X.prog X.w) X.A (pyIter v) (PIE X pins σ tg R) X.xe s1) X.xe s
theorem go_of {M : Model} {A : Around} {E : Value → Shared → Prop} {s : Shared} {tg : Expr} {it : Addr} {u : Value} {o : Obj} {n : String} {vs : Array Value} {Q : Unit → Shared → Prop} (ho : s.heap.get? it = some o) (hc : o.cls = .type n) (hd : o.data = .fields vs)
    (hn : ["enumerate", "zip", "dict_itemiterator", "dict_reverseitemiterator", "odict_iterator", "itertools.zip_longest", "itertools.pairwise"].contains n = false) (hQ : Q () s) : wpAny M A (letOwnedTupleGo tg (.ref it) u) Q E s := by
  unfold letOwnedTupleGo
  cases tg <;> first
    | exact wpAny_pure hQ
    | (cases u <;> first
        | exact wpAny_pure hQ
        | (refine wpAny_bind (wpAny_load ho ?_)
           rw [hc, hd]
           show wpAny M A (if (["enumerate", "zip", "dict_itemiterator", "dict_reverseitemiterator", "odict_iterator", "itertools.zip_longest", "itertools.pairwise"].contains n && vs[0]? == some (rawInt _)) = true then _ else _) Q E s
           rw [if_neg (by intro h; rw [hn, Bool.false_and] at h; cases h)]
           exact wpAny_pure hQ))
noncomputable def Itl (K : PySem.W.Frag) (a : Addr) : It :=
  ⟨fun i H => ∃ xs x, SqL K H a xs ∧ xs[i]? = some x, fun i H x H' => H' = H ∧ ∀ xs, SqL K H a xs → xs[i]? = some x, fun i H => ∃ xs, SqL K H a xs ∧ xs.length ≤ i⟩
noncomputable def Itt (K : PySem.W.Frag) (a : Addr) : It :=
  ⟨fun i H => ∃ xs x, SqT K H a xs ∧ xs[i]? = some x, fun i H x H' => H' = H ∧ ∀ xs, SqT K H a xs → xs[i]? = some x, fun i H => ∃ xs, SqT K H a xs ∧ xs.length ≤ i⟩
noncomputable def Itr (lo : Int) (n : Nat) : It := ⟨fun i _ => i < n, fun i H x H' => H' = H ∧ x = .int (lo + i), fun i _ => n ≤ i⟩
theorem turn_list {P : Program} {w : World} {K : PySem.W.Frag} {tg : Expr} (a it : Addr) : Turn P w K tg (Itl K a) [it] it (fun i h => h.IsListIter it a i) where
  mem := by simp
  obj := fun i h st b hb => by
    have e : b = it := by simpa using hb
    subst e
    obtain ⟨o, e, c, d⟩ := st
    exact ⟨o, e, fun v z => by rw [d] at z; cases z⟩
  keep := fun i h h' st k => st.at fun o e => k it (by simp) o e
  item := by
    intro X hP hw hK hc i pins s σ H E I hf st hg
    subst hP hw hK
    obtain ⟨xs, x, hq, hx⟩ := hg
    obtain ⟨its, rv, p, hz⟩ := I.list hq
    obtain ⟨u, hu, ru⟩ := rv.get hx
    obtain ⟨f0, f1, f2, f3, f4, f5⟩ := hf it (by simp)
    refine wpAny_pyNext_list_item st p.isList (x := u) (by simpa using hu) fun h' st' sb => ?_
    have I1 : Inv X pins σ H { s with heap := h' } := I.turned (t' := s.toks) (fun b o hb e => (sb.2 b hb).trans e) f0 f1 f3 f4 f5
    obtain ⟨o, e, c, d⟩ := id st'
    exact ⟨u, rfl, go_of (s := { s with heap := h' }) e c d (by decide) ⟨x, H, I1, ru, ⟨rfl, fun ys hy => by rw [I.list_inj hy hq]; exact hx⟩, st', fun b hb => (hf b hb).1⟩⟩
  done := by
    intro X hP hw hK hc i pins s σ H E I hf st hg
    subst hP hw hK
    obtain ⟨xs, hq, hx⟩ := hg
    obtain ⟨its, rv, p, hz⟩ := I.list hq
    obtain ⟨f0, f1, f2, f3, f4, f5⟩ := hf it (by simp)
    have hl := rv.length
    exact wpAny_pyNext_list_end (I.ok.hd hc) st p.isList (by simp; omega) fun h' eb => ⟨rfl, I.turned (t' := s.toks) (fun b o hb e => eb b o hb e) f0 f1 f3 f4 f5⟩
  self := fun _ _ _ _ _ st h => wpAny_pyIter_listiter st h
theorem turn_tuple {P : Program} {w : World} {K : PySem.W.Frag} {tg : Expr} (a it : Addr) : Turn P w K tg (Itt K a) [it] it (fun i h => h.IsTupleIter it a i) where
  mem := by simp
  obj := fun i h st b hb => by
    have e : b = it := by simpa using hb
    subst e
    obtain ⟨o, e, c, d⟩ := st
    exact ⟨o, e, fun v z => by rw [d] at z; cases z⟩
  keep := fun i h h' st k => st.at fun o e => k it (by simp) o e
  item := by
    intro X hP hw hK hc i pins s σ H E I hf st hg
    subst hP hw hK
    obtain ⟨xs, x, hq, hx⟩ := hg
    obtain ⟨its, rv, p, hz⟩ := I.tuple hq
    obtain ⟨u, hu, ru⟩ := rv.get hx
    obtain ⟨f0, f1, f2, f3, f4, f5⟩ := hf it (by simp)
    refine wpAny_pyNext_tuple_item st (show s.heap.IsTuple a its.toArray from p) (x := u) (by simpa using hu) fun h' st' sb => ?_
    have I1 : Inv X pins σ H { s with heap := h' } := I.turned (t' := s.toks) (fun b o hb e => (sb.2 b hb).trans e) f0 f1 f3 f4 f5
    obtain ⟨o, e, c, d⟩ := id st'
    exact ⟨u, rfl, go_of (s := { s with heap := h' }) e c d (by decide) ⟨x, H, I1, ru, ⟨rfl, fun ys hy => by rw [I.tuple_inj hy hq]; exact hx⟩, st', fun b hb => (hf b hb).1⟩⟩
  done := by
    intro X hP hw hK hc i pins s σ H E I hf st hg
    subst hP hw hK
    obtain ⟨xs, hq, hx⟩ := hg
    obtain ⟨its, rv, p, hz⟩ := I.tuple hq
    obtain ⟨f0, f1, f2, f3, f4, f5⟩ := hf it (by simp)
    have hl := rv.length
    exact wpAny_pyNext_tuple_end (I.ok.hd hc) st (show s.heap.IsTuple a its.toArray from p) (by simp; omega) fun h' eb => ⟨rfl, I.turned (t' := s.toks) (fun b o hb e => eb b o hb e) f0 f1 f3 f4 f5⟩
  self := fun _ _ _ _ _ st h => wpAny_pyIter_tupleiter st h
theorem turn_range {P : Program} {w : World} {K : PySem.W.Frag} {tg : Expr} (it : Addr) (lo : Int) (n : Nat) : Turn P w K tg (Itr lo n) [it] it (fun i h => IsRangeIter h it (lo + (i : Nat) * 1) ((n : Int) - (i : Nat)) 1) where
  mem := by simp
  obj := fun i h st b hb => by
    have e : b = it := by simpa using hb
    subst e
    exact ⟨_, st, fun v z => by
      have z' : Data.fields _ = Data.cell v := z
      cases z'⟩
  keep := fun i h h' st k => k it (by simp) _ st
  item := by
    intro X hP hw hK hc i pins s σ H E I hf st hg
    subst hP hw hK
    obtain ⟨f0, f1, f2, f3, f4, f5⟩ := hf it (by simp)
    have W := Walks.range (prog := X.prog) (w := X.w) (I.ok.hd hc) it lo 1 n
    refine W.item i s _ _ hg st fun v h' tk hv st' kk => ?_
    obtain ⟨t, rfl⟩ := hv
    have I1 : Inv X pins σ H { s with heap := h', toks := tk } := I.turned (fun b o hb e => kk b o (by simpa using hb) e) f0 f1 f3 f4 f5
    refine ⟨_, rfl, go_of (s := { s with heap := h', toks := tk }) (n := "range_iterator") st' rfl rfl (by decide) ⟨.int (lo + i), H, I1, ⟨t, ?_⟩, ⟨rfl, rfl⟩, st', fun b hb => (hf b hb).1⟩⟩
    rw [Int.mul_one]
  done := by
    intro X hP hw hK hc i pins s σ H E I hf st hg
    subst hP hw hK
    obtain ⟨f0, f1, f2, f3, f4, f5⟩ := hf it (by simp)
    exact wpAny_pyNext_range_end (I.ok.hd hc) st (by have : n ≤ i := hg; omega) fun h' eb => ⟨rfl, I.turned (t' := s.toks) (fun b o hb e => eb b o hb e) f0 f1 f3 f4 f5⟩
  self := fun _ _ _ _ _ st h => wpAny_pyIter_rangeiter st h
end L2
namespace L2
open PySem PySem.Spec PyProof.Rows
section
variable {X : Cx} {tg : Expr}
theorem range_it {pins : List (Addr × Obj)} {σ : St} {H : Hp} {s : Shared} {R : It → Hp → Prop} {E : Value → Shared → Prop} {lo hi : Int} {t u v : Tok} {tk : Nat} (I : Inv X pins σ H s) (h1 : -(2 ^ 62) ≤ lo) (h2 : lo < 2 ^ 62) (h3 : -(2 ^ 62) ≤ hi) (h4 : hi < 2 ^ 62)
    (q : R (Itr lo (hi - lo).toNat) H) : wpAny (model X.prog X.w) X.A (pyIter (.ref s.heap.objs.size)) (PIE X pins σ tg R) E { s with heap := s.heap.push { cls := .type "range", data := .fields #[.int lo t, .int hi u, .int 1 v] }, toks := tk } := by
  refine wpAny_pyIter_range (IsRange.new ..) (small_one h1 h2 h3 h4) ?_
  have I1 : Inv X pins σ H { s with heap := s.heap.push { cls := .type "range", data := .fields #[.int lo t, .int hi u, .int 1 v] }, toks := tk } := I.kept fun b o e => Heap.get?_push_of_some _ e
  refine ⟨(s.heap.push { cls := .type "range", data := .fields #[.int lo t, .int hi u, .int 1 v] }).objs.size, [(s.heap.push { cls := .type "range", data := .fields #[.int lo t, .int hi u, .int 1 v] }).objs.size], _, _, H, rfl,
    I1.kept (t' := tk) fun b o e => Heap.get?_push_of_some _ e, turn_range _ lo (hi - lo).toNat, ?_, fun b hb => ?_, q⟩
  · have e1 : lo + ((0 : Nat) : Int) * 1 = lo := by simp
    have e2 : (((hi - lo).toNat : Nat) : Int) - ((0 : Nat) : Int) = Builtin.Range.rangeSize lo hi 1 := by rw [rangeSize_one]; split <;> omega
    show IsRangeIter _ _ (lo + ((0 : Nat) : Int) * 1) ((((hi - lo).toNat : Nat) : Int) - ((0 : Nat) : Int)) 1
    rw [e1, e2]
    exact Heap.get?_push_size _ rfl
  · have e : b = (s.heap.push { cls := .type "range", data := .fields #[.int lo t, .int hi u, .int 1 v] }).objs.size := by simpa using hb
    subst e
    exact I1.fpOk (Nat.le_refl _) (I1.hok.fresh (Nat.le_refl _))
noncomputable def iRng1 (ta : TA) : TI := fun σ H R => ta σ H fun vs H1 => ∃ j : Int, vs = [.int j] ∧ -(2 ^ 62) ≤ j ∧ j < 2 ^ 62 ∧ R (Itr 0 j.toNat) H1
theorem pi_range1 {a : Expr} {ta : TA} {p pos : Pos} (hg : Gl X "range") (hm : X.mg "range" = none) (ha : PA X [a] ta) (hs : starEach [a] X.env = [(false, eval a X.env)] := by rfl) : PI X tg (.Call (.Name "range" p) [a] [] pos) (iRng1 ta) := by
  intro pins s σ H R I h
  refine Call_ (ld_blt I hg hm boot_range (PyProof.Rows.callWith_type1 (thn (ha pos pins s σ H _ I h) fun us s1 ⟨vs, H1, I1, r1, q1⟩ => ?_) hs rfl))
  obtain ⟨j, e, q1, q2, q⟩ := q1
  subst e
  cases r1 with
  | cons r rr =>
    cases rr
    obtain ⟨t, rfl⟩ := r
    exact call_range_1 (range_it I1 (by omega) (by omega) q1 q2 (by simpa using q))
noncomputable def tFor (wi : TI) (g : TG) (tb : TS) : TS := fun D σ H => wi σ H fun J H1 => ∃ W : Nat → Nat → St → Hp → Prop, (∃ m, W 0 m σ H1) ∧ ∀ i m σ H, W i m σ H →
  (J.stop i H ∧ D.nx σ H) ∨ (J.go i H ∧ ∃ N : St → Hp → Prop, (∀ σ' H', N σ' H' → ∃ m', m' < m ∧ W (i + 1) m' σ' H') ∧ ∀ x H', J.yld i H x H' → g x σ H' fun σ2 H2 => tb { D with nx := N, ct := N, bk := D.nx } σ2 H2)
noncomputable def pinsAt (fp : List Addr) (h : Heap) : List (Addr × Obj) := fp.filterMap fun b => (h.get? b).map fun o => (b, o)
theorem mem_pinsAt {fp : List Addr} {h : Heap} {b : Addr} {o : Obj} (hb : b ∈ fp) (e : h.get? b = some o) : (b, o) ∈ pinsAt fp h := List.mem_filterMap.mpr ⟨b, hb, by rw [e]; rfl⟩
theorem of_pinsAt {fp : List Addr} {h : Heap} {p : Addr × Obj} (hp : p ∈ pinsAt fp h) : p.1 ∈ fp ∧ h.get? p.1 = some p.2 := by
  obtain ⟨b, hb, e⟩ := List.mem_filterMap.mp hp
  cases q : h.get? b with
  | none => rw [q] at e; cases e
  | some o =>
    rw [q] at e
    have e' : (b, o) = p := Option.some.inj e
    subst e'
    exact ⟨hb, q⟩
theorem Inv.pinned {pins : List (Addr × Obj)} {σ : St} {H : Hp} {s : Shared} {fp : List Addr} (I : Inv X pins σ H s) (hf : ∀ b ∈ fp, FpOk X pins H b) (ho : ∀ b ∈ fp, ∃ o, s.heap.get? b = some o ∧ ∀ v, o.data ≠ .cell v) : Inv X (pins ++ pinsAt fp s.heap) σ H s :=
  I.pins_of fun p hp => (List.mem_append.mp hp).elim (fun z => I.pin p (List.mem_append_right _ z)) fun z => by
    obtain ⟨hb, e⟩ := of_pinsAt z
    obtain ⟨f0, f1, f2, _⟩ := hf p.1 hb
    obtain ⟨o, e', d⟩ := ho p.1 hb
    rw [e] at e'; cases e'
    exact ⟨e, f0, f1, f2, d⟩
theorem Inv.unpinned {pins pl : List (Addr × Obj)} {σ : St} {H : Hp} {s : Shared} (I : Inv X (pins ++ pl) σ H s) : Inv X pins σ H s := I.pins_of fun p hp => I.pin p (List.mem_append_right _ (List.mem_append_left _ hp))
theorem ps_for {iter : Expr} {body : List Stmt} {wi : TI} {g : TG} {tb : TS} {pos : Pos} (hp : PassesOwn (model X.prog X.w) X.A X.env X.xe) (hc : X.calm = true) (hi : PI X tg iter wi) (hg : PG X tg g) (hb : PSs X body tb)
    (hs : ∀ x, foldedSetIterable iter X.env x = pure x := by intro _; rfl) : PS X (.For tg iter body [] pos) (tFor wi g tb) := by
  intro pins s σ H D I h
  refine wpAny_For (thn (hi pins s σ H _ I h) fun v s1 h1 => thn h1 fun itv s2 h2 => ?_) hs
  obtain ⟨it, fp, tn, J, H2, e, I2, T, st2, f2, W, ⟨m0, w0⟩, turn⟩ := h2
  subst e
  -- what stays true of the iterator's objects through the loop
  have stat : ∀ {H' : Hp}, (∀ b ∈ fp, H' b = none) → ∀ b ∈ fp, FpOk X pins H' b := fun hn b hb => ⟨hn b hb, (f2 b hb).2⟩
  refine codeAny_forLoop_any (fun n s' => ∃ i σ' H', Inv X pins σ' H' s' ∧ tn i s'.heap ∧ (∀ b ∈ fp, H' b = none) ∧ W i n σ' H') ?_ m0 ⟨0, σ, H2, I2, st2, fun b hb => (f2 b hb).1, w0⟩
  rintro n s3 ⟨i, σ3, H3, I3, st3, fr3, w3⟩
  rcases turn i n σ3 H3 w3 with ⟨stop, qn⟩ | ⟨go, N, hN, step⟩
  · refine wpAny_passesOwn hp (thn (T.done X rfl rfl rfl hc i pins s3 σ3 H3 X.xe I3 (stat fr3) st3 stop) fun r s4 zq => ?_)
    obtain ⟨hr, I4⟩ := zq
    subst hr
    exact wpAny_execs_nil ⟨σ3, H3, I4, qn⟩
  · refine wpAny_passesOwn hp (thn (T.item X rfl rfl rfl hc i pins s3 σ3 H3 X.xe I3 (stat fr3) st3 go) fun r s4 zq => ?_)
    obtain ⟨u, hr, h4⟩ := zq
    subst hr
    refine wpAny_passesOwn hp (thn h4 fun _ s5 zq => ?_)
    obtain ⟨x, H5, I5, r5, y5, st5, fr5⟩ := zq
    have I5' := I5.pinned (stat fr5) (T.obj _ _ st5)
    refine wpAny_passesOwn hp (thn (hg _ s5 σ3 H5 x u _ I5' r5 (step x H5 y5)) fun _ s6 zq => ?_)
    obtain ⟨σ6, H6, I6, q6⟩ := zq
    refine wpAny_passesOwn hp (thn (hb _ s6 σ6 H6 _ I6 q6) fun f s7 q7 => ?_)
    have again : ∀ {σ7 : St} {H7 : Hp}, Inv X (pins ++ pinsAt fp s5.heap) σ7 H7 s7 → N σ7 H7 → ∃ m, m < n ∧ ∃ i σ' H', Inv X pins σ' H' s7 ∧ tn i s7.heap ∧ (∀ b ∈ fp, H' b = none) ∧ W i m σ' H' := fun {σ7 H7} I7 n7 => by
      obtain ⟨m', hm, w7⟩ := hN σ7 H7 n7
      refine ⟨m', hm, i + 1, σ7, H7, I7.unpinned, T.keep _ _ _ st5 fun b hb o e => (I7.pin (b, o) (List.mem_append_right _ (List.mem_append_right _ (mem_pinsAt hb e)))).1, fun b hb => ?_, w7⟩
      obtain ⟨o, e, d⟩ := T.obj _ _ st5 b hb
      exact (I7.pin (b, o) (List.mem_append_right _ (List.mem_append_right _ (mem_pinsAt hb e)))).2.1
    cases f with
    | next => obtain ⟨σ7, H7, I7, n7⟩ := q7; exact again I7 n7
    | cont => obtain ⟨σ7, H7, I7, n7⟩ := q7; exact again I7 n7
    | brk => obtain ⟨σ7, H7, I7, q7⟩ := q7; exact ⟨σ7, H7, I7.unpinned, q7⟩
    | ret v => obtain ⟨x7, σ7, H7, I7, r7, q7⟩ := q7; exact ⟨x7, σ7, H7, I7.unpinned, r7, q7⟩
end
end L2
namespace L2
open PySem PySem.Spec PyProof.Rows
noncomputable abbrev R2 := V → V → Hp → VK → Prop
noncomputable def OpR (X : Cx) (f : Value → Value → Sem Value) (r : R2) : Prop :=
  ∀ (pins : List (Addr × Obj)) (s : Shared) (σ : St) (H : Hp) (x y : V) (v u : Value) (Q : VK), Inv X pins σ H s → RelV x v → RelV y u → r x y H Q →
    wpAny (model X.prog X.w) X.A (f v u) (EP X pins σ Q) X.xe s
noncomputable def UnR (X : Cx) (f : Value → Sem Value) (r : V → Hp → VK → Prop) : Prop :=
  ∀ (pins : List (Addr × Obj)) (s : Shared) (σ : St) (H : Hp) (x : V) (v : Value) (Q : VK), Inv X pins σ H s → RelV x v → r x H Q →
    wpAny (model X.prog X.w) X.A (f v) (EP X pins σ Q) X.xe s
noncomputable def CallR (X : Cx) (f : Value) (r : List V → Hp → VK → Prop) : Prop :=
  ∀ (pins : List (Addr × Obj)) (s : Shared) (σ : St) (H : Hp) (xs : List V) (us : List Value) (Q : VK), Inv X pins σ H s → Vals xs us → r xs H Q →
    wpAny (model X.prog X.w) X.A (call f us) (EP X pins σ Q) X.xe s
noncomputable def tOp (r : R2) (ta tb : TE) : TE := fun σ H Q => ta σ H fun x H1 => tb σ H1 fun y H2 => r x y H2 Q
noncomputable def tUn (r : V → Hp → VK → Prop) (ta : TE) : TE := fun σ H Q => ta σ H fun x H1 => r x H1 Q
noncomputable def rI (C : Int → Int → Prop) (g : Int → Int → V) : R2 := fun x y H Q => ∃ i j, x = .int i ∧ y = .int j ∧ C i j ∧ Q (g i j) H
noncomputable def rI0 (g : Int → Int → V) : R2 := fun x y H Q => ∃ i j, x = .int i ∧ y = .int j ∧ Q (g i j) H
noncomputable def rU (g : Int → V) : V → Hp → VK → Prop := fun x H Q => ∃ i, x = .int i ∧ Q (g i) H
section
variable {X : Cx} {a b c : Expr} {ta tb tc : TE} {pos : Pos}
theorem binT (ha : PE X a ta) (hb : PE X b tb) {pins : List (Addr × Obj)} {s : Shared} {σ : St} {H : Hp} {R : V → V → Hp → Prop} (I : Inv X pins σ H s)
    (h : ta σ H fun x H1 => tb σ H1 fun y H2 => R x y H2) {Q : Value → Shared → Prop} {f : Value → Value → Sem Value}
    (hf : ∀ v u s2 x y H2, Inv X pins σ H2 s2 → RelV x v → RelV y u → R x y H2 → wpAny (model X.prog X.w) X.A (f v u) Q X.xe s2) :
    wpAny (model X.prog X.w) X.A (eval a X.env) (fun v s₁ => wpAny (model X.prog X.w) X.A (eval b X.env) (fun u s₂ => wpAny (model X.prog X.w) X.A (f v u) Q X.xe s₂) X.xe s₁) X.xe s := by
  refine thn (ha pins s σ H _ I h) fun v s1 zq => ?_
  obtain ⟨x, H1, I1, r1, q1⟩ := zq
  refine thn (hb pins s1 σ H1 _ I1 q1) fun u s2 zq => ?_
  obtain ⟨y, H2, I2, r2, q2⟩ := zq
  exact hf v u s2 x y H2 I2 r1 r2 q2
theorem pe_op {op : Operator} {r : R2} (ho : OpR X (binaryOp op) r) (ha : PE X a ta) (hb : PE X b tb) : PE X (.BinOp a op b pos) (tOp r ta tb) := by
  intro pins s σ H Q I h
  exact wpAny_BinOp (binT ha hb I h fun v u s2 x y H2 I2 rx ry q => ho pins s2 σ H2 x y v u Q I2 rx ry q)
theorem pe_un {op : UnaryOp} {r : V → Hp → VK → Prop} (ho : UnR X (unaryOp op) r) (ha : PE X a ta) : PE X (.UnaryOp op a pos) (tUn r ta) := by
  intro pins s σ H Q I h
  exact UnaryOp_ (thn (ha pins s σ H _ I h) fun v s1 ⟨x, H1, I1, r1, q1⟩ => ho pins s1 σ H1 x v Q I1 r1 q1)
theorem opI {f : Value → Value → Sem Value} {C : Int → Int → Prop} {g : Int → Int → Int}
    (rule : ∀ (i j : Int) (t u : Tok) (s : Shared) (Q : Value → Shared → Prop) (E : Value → Shared → Prop), C i j → Q (.int (g i j) s.toks) { s with toks := s.toks + 1 } → wpAny (model X.prog X.w) X.A (f (.int i t) (.int j u)) Q E s) :
    OpR X f (rI C fun i j => .int (g i j)) := by
  intro pins s σ H x y v u Q I rx ry h
  obtain ⟨i, j, rfl, rfl, hc, q⟩ := h
  obtain ⟨t, rfl⟩ := rx
  obtain ⟨t', rfl⟩ := ry
  exact rule i j t t' s _ _ hc ⟨.int (g i j), H, I.tok _, ⟨_, rfl⟩, q⟩
theorem opI0 {f : Value → Value → Sem Value} {g : Int → Int → Int}
    (rule : ∀ (i j : Int) (t u : Tok) (s : Shared) (Q : Value → Shared → Prop) (E : Value → Shared → Prop), Q (.int (g i j) s.toks) { s with toks := s.toks + 1 } → wpAny (model X.prog X.w) X.A (f (.int i t) (.int j u)) Q E s) :
    OpR X f (rI0 fun i j => .int (g i j)) := by
  intro pins s σ H x y v u Q I rx ry h
  obtain ⟨i, j, rfl, rfl, q⟩ := h
  obtain ⟨t, rfl⟩ := rx
  obtain ⟨t', rfl⟩ := ry
  exact rule i j t t' s _ _ ⟨.int (g i j), H, I.tok _, ⟨_, rfl⟩, q⟩
theorem opB0 {f : Value → Value → Sem Value} {g : Int → Int → Bool}
    (rule : ∀ (i j : Int) (t u : Tok) (s : Shared) (Q : Value → Shared → Prop) (E : Value → Shared → Prop), Q (.bool (g i j)) s → wpAny (model X.prog X.w) X.A (f (.int i t) (.int j u)) Q E s) :
    OpR X f (rI0 fun i j => .bl (g i j)) := by
  intro pins s σ H x y v u Q I rx ry h
  obtain ⟨i, j, rfl, rfl, q⟩ := h
  obtain ⟨t, rfl⟩ := rx
  obtain ⟨t', rfl⟩ := ry
  exact rule i j t t' s _ _ ⟨.bl (g i j), H, I, rfl, q⟩
noncomputable def CDiv (i j : Int) : Prop := 0 < j ∧ j < 1073741824
noncomputable def CPow (i j : Int) : Prop := 0 ≤ j ∧ j ≤ 1000000 ∧ i.natAbs < 2 ^ 64
noncomputable def CMul (i j : Int) : Prop := (-(2 ^ 64) < i ∧ i < 2 ^ 64) ∨ (-(2 ^ 64) < j ∧ j < 2 ^ 64)
theorem CMul.ok {i j : Int} (h : CMul i j) : IntMulOk i j := by
  rcases h with ⟨h1, h2⟩ | ⟨h1, h2⟩
  · exact .of_left (intBits_le_64 h1 h2)
  · exact .of_right (intBits_le_64 h1 h2)
theorem op_add : OpR X (binaryOp .Add) (rI0 fun i j => .int (i + j)) := opI0 fun _ _ _ _ _ _ _ q => add_int q
theorem op_mul : OpR X (binaryOp .Mult) (rI CMul fun i j => .int (i * j)) := opI fun _ _ _ _ _ _ _ hc q => mul_int q hc.ok
theorem op_fdiv : OpR X (binaryOp .FloorDiv) (rI CDiv fun i j => .int (i / j)) := opI fun i j _ _ _ _ _ hc q => by
  have h1 : (0 : Int) < j := hc.1
  have h2 : j < 1073741824 := hc.2
  exact floordiv_int (by omega) (by rw [Int.fdiv_eq_ediv_of_nonneg i (by omega)]; exact q) (.inl (PyProof.noPylong_small (by omega)))
theorem op_mod : OpR X (binaryOp .Mod) (rI (fun _ j => 0 < j) fun i j => .int (i % j)) := opI fun i j _ _ _ _ _ hc q => by
  have h1 : (0 : Int) < j := hc
  exact mod_int' (by omega) (by rw [Int.fmod_eq_emod_of_nonneg i (by omega)]; exact q)
theorem op_pow : OpR X (binaryOp .Pow) (rI CPow fun i j => .int (i ^ j.toNat)) := opI fun _ _ _ _ _ _ _ hc q => pow_int_small hc.1 hc.2.1 hc.2.2 q
theorem unI {f : Value → Sem Value} {g : Int → Int}
    (rule : ∀ (i : Int) (t : Tok) (s : Shared) (Q : Value → Shared → Prop) (E : Value → Shared → Prop), Q (.int (g i) s.toks) { s with toks := s.toks + 1 } → wpAny (model X.prog X.w) X.A (f (.int i t)) Q E s) :
    UnR X f (rU fun i => .int (g i)) := by
  intro pins s σ H x v Q I rx h
  obtain ⟨i, rfl, q⟩ := h
  obtain ⟨t, rfl⟩ := rx
  exact rule i t s _ _ ⟨.int (g i), H, I.tok _, ⟨_, rfl⟩, q⟩
theorem un_neg : UnR X (unaryOp .USub) (rU fun i => .int (-i)) := unI fun _ _ _ _ _ q => neg_int q
end
section
variable {X : Cx} {a b c : Expr} {ta tb tc : TE} {pos : Pos}
theorem op_le : OpR X (compareOp .LtE) (rI0 fun i j => .bl (decide (i ≤ j))) := opB0 fun _ _ _ _ _ _ _ q => le_int q
theorem op_gt : OpR X (compareOp .Gt) (rI0 fun i j => .bl (decide (j < i))) := opB0 fun _ _ _ _ _ _ _ q => gt_int q
theorem OpR.or {f : Value → Value → Sem Value} {r r' : R2} (h : OpR X f r) (h' : OpR X f r') : OpR X f (fun x y H Q => r x y H Q ∨ r' x y H Q) := by
  intro pins s σ H x y v u Q I rx ry q
  rcases q with q | q
  · exact h pins s σ H x y v u Q I rx ry q
  · exact h' pins s σ H x y v u Q I rx ry q
theorem nomark (b : Expr) {op : CmpOp} (h : op ≠ .In := by decide) (h2 : op ≠ .NotIn := by decide) : behindInMarks op b = false := by
  have e1 : (op == CmpOp.In) = false := by cases op <;> first | rfl | exact absurd rfl h
  have e2 : (op == CmpOp.NotIn) = false := by cases op <;> first | rfl | exact absurd rfl h2
  cases b <;> simp [behindInMarks, e1, e2]
theorem pe_cmpR {op : CmpOp} {r : R2} (ho : OpR X (compareOp op) r) (ha : PE X a ta) (hb : PE X b tb) (hm : behindInMarks op b = false) : PE X (.Compare a [op] [b] pos) (tOp r ta tb) := by
  intro pins s σ H Q I h
  exact wpAny_Compare1 (binT ha hb I h fun v u s2 x y H2 I2 rx ry q => ho pins s2 σ H2 x y v u Q I2 rx ry q) hm
noncomputable def tTest (t : TE) : TT := fun σ H Q => t σ H fun x H' => ∃ k, x = .bl k ∧ Q k H'
theorem pt_cmpR {op : CmpOp} {r : R2} (ho : OpR X (compareOp op) r) (ha : PE X a ta) (hb : PE X b tb) (hm : behindInMarks op b = false) : PT X (.Compare a [op] [b] pos) (tTest (tOp r ta tb)) := by
  intro pins s σ H Q I h
  refine wpAny_isTrue_Compare1 (thn (ha pins s σ H _ I h) fun v s1 ⟨x, H1, I1, r1, q1⟩ => thn (hb pins s1 σ H1 _ I1 q1) fun u s2 ⟨y, H2, I2, r2, q2⟩ =>
    thn (ho pins s2 σ H2 x y v u _ I2 r1 r2 q2) fun c s3 ⟨z, H3, I3, r3, k, e, q3⟩ => ?_) hm
  subst e
  cases r3
  exact wpAny_truthy_bool ⟨H3, I3, q3⟩
noncomputable def tChain (r r' : R2) (ta tb tc : TE) : TE := fun σ H Q => ta σ H fun x H1 => tb σ H1 fun y H2 => r x y H2 fun z H3 => ∃ k, z = .bl k ∧
  (if k = true then tc σ H3 fun w' H4 => r' y w' H4 Q else Q (.bl false) H3)
theorem pe_chain {op op' : CmpOp} {r r' : R2} (ho : OpR X (compareOp op) r) (ho' : OpR X (compareOp op') r') (ha : PE X a ta) (hb : PE X b tb) (hc : PE X c tc)
    (hm : lastMarks [op, op'] [b, c] = false := by with_unfolding_all rfl) : PE X (.Compare a [op, op'] [b, c] pos) (tChain r r' ta tb tc) := by
  intro pins s σ H Q I h
  refine Compare_chain (thn (ha pins s σ H _ I h) fun v s1 ⟨x, H1, I1, r1, q1⟩ => chain_link (thn (hb pins s1 σ H1 _ I1 q1) fun u s2 ⟨y, H2, I2, r2, q2⟩ =>
    thn (ho pins s2 σ H2 x y v u _ I2 r1 r2 q2) fun d s3 ⟨z, H3, I3, r3, k, e, q3⟩ => ?_)) hm
  subst e
  cases r3
  refine wpAny_truthy_bool ?_
  cases k with
  | false => exact ite_ff ⟨.bl false, H3, I3, rfl, q3⟩
  | true => exact ite_tt (chain_last (thn (hc pins s3 σ H3 _ I3 q3) fun w' s4 ⟨z', H4, I4, r4, q4⟩ => ho' pins s4 σ H4 y z' u w' Q I4 r2 r4 q4))
theorem pt_chain {op op' : CmpOp} {r r' : R2} (ho : OpR X (compareOp op) r) (ho' : OpR X (compareOp op') r') (ha : PE X a ta) (hb : PE X b tb) (hc : PE X c tc)
    (hm : lastMarks [op, op'] [b, c] = false := by with_unfolding_all rfl) : PT X (.Compare a [op, op'] [b, c] pos) (tTest (tChain r r' ta tb tc)) := by
  intro pins s σ H Q I h
  refine isTrue_chain (thn (ha pins s σ H _ I h) fun v s1 ⟨x, H1, I1, r1, q1⟩ => test_link (thn (hb pins s1 σ H1 _ I1 q1) fun u s2 ⟨y, H2, I2, r2, q2⟩ =>
    thn (ho pins s2 σ H2 x y v u _ I2 r1 r2 q2) fun d s3 ⟨z, H3, I3, r3, k, e, q3⟩ => ?_)) hm
  subst e
  cases r3
  refine wpAny_truthy_bool ?_
  cases k with
  | false =>
    obtain ⟨k', e', q'⟩ := q3
    cases e'
    exact ite_ff ⟨H3, I3, q'⟩
  | true =>
    refine ite_tt (test_last (thn (hc pins s3 σ H3 _ I3 q3) fun w' s4 ⟨z', H4, I4, r4, q4⟩ => thn (ho' pins s4 σ H4 y z' u w' _ I4 r2 r4 q4) fun d' s5 zq => ?_))
    obtain ⟨z2, H5, I5, r5, k2, e2, q5⟩ := zq
    subst e2
    cases r5
    exact wpAny_truthy_bool ⟨H5, I5, q5⟩
theorem line63 : (sizeLine : Nat) < 2 ^ 63 := by rw [sizeLine_eq]; decide
theorem vals1 {x : V} {us : List Value} (r : Vals [x] us) : ∃ u, us = [u] ∧ RelV x u := by
  cases r with
  | cons r1 r2 => cases r2; exact ⟨_, rfl, r1⟩
theorem vals2 {x y : V} {us : List Value} (r : Vals [x, y] us) : ∃ u w', us = [u, w'] ∧ RelV x u ∧ RelV y w' := by
  cases r with
  | cons r1 r2 =>
    cases r2 with
    | cons r3 r4 => cases r4; exact ⟨_, _, rfl, r1, r3⟩
theorem call_int1 : CallR X (.type "int") (fun xs H Q => (∃ i, xs = [.int i] ∧ Q (.int i) H) ∨ ∃ k, xs = [.bl k] ∧ Q (.int (if k then 1 else 0)) H) := by
  intro pins s σ H xs us Q I r h
  rcases h with ⟨i, rfl, q⟩ | ⟨k, rfl, q⟩
  · obtain ⟨u, rfl, t, rfl⟩ := vals1 r
    exact call_int_int ⟨.int i, H, I, ⟨_, rfl⟩, q⟩
  · obtain ⟨u, rfl, r1⟩ := vals1 r
    cases r1
    exact call_int_bool ⟨.int (if k then 1 else 0), H, I.tok _, ⟨_, rfl⟩, q⟩
end
end L2
namespace L2
open PySem PySem.Spec PyProof.Rows
structure ObjM (h : Heap) (x dx C : Addr) (mA : Str → Option Value) : Prop where
  obj : h.get? x = some (PySem.W.instObj C dx)
  ns : h.Ns1 dx mA
  ne : dx ≠ x
theorem lookIn_ns {h : Heap} {dx : Addr} {mA : Str → Option Value} (n : h.Ns1 dx mA) : ∃ od, h.get? dx = some od ∧ ∀ name, PySem.W.lookIn name od = some (mA name) := by
  obtain ⟨o, es, ep, ho, hd, hk, _, hm⟩ := n
  refine ⟨o, ho, fun name => ?_⟩
  have e := hm name
  unfold nsFind findBy at e
  rw [← Array.find?_toList] at e
  unfold PySem.W.lookIn
  rw [hd]
  dsimp only
  split
  · rename_i y q
    rw [q] at e
    exact congrArg some e
  · rename_i q
    rw [q] at e
    have a : es.toList.any (·.refKey) = false := by
      rw [List.any_eq_false]
      intro y hy
      obtain ⟨z, t, hkey⟩ := hk y (Array.mem_toList_iff.mp hy)
      simp [DictEntry.refKey, hkey]
    have a' : ¬ es.toList.any (·.refKey) = true := by rw [a]; exact Bool.false_ne_true
    rw [if_neg a']
    exact congrArg some e
theorem ObjM.look {h : Heap} {x dx C : Addr} {mA : Str → Option Value} (I : ObjM h x dx C mA) : ∃ od, PySem.W.InstAt h x (PySem.W.instObj C dx) C (some od) ∧ ∀ name, PySem.W.lookIn name od = some (mA name) :=
  let ⟨od, ho, hl⟩ := lookIn_ns I.ns
  ⟨od, ⟨I.obj, rfl, rfl, ho⟩, hl⟩
section
variable {prog : Program} {w : World} {A : Around} {E : Value → Shared → Prop} {s : Shared} {K : PySem.W.Frag} {x dx C f : Addr} {mA : Str → Option Value} {name : Str} {v : Value}
end
section
variable {P : Program} {w : World} {H H' : Hp} {h h' : Heap} {a C dx : Addr} {fs fs' : List (Str × V)}
theorem ins_get (hok : HOk P w H h) (e : H a = some (.ins C dx fs)) : ∃ mA, ObjM h a dx C mA ∧ (∀ f, RelO (fs.lookup f) (mA f)) ∧ PySem.Within mA (fs.map (·.1)) ∧ fs.length ≤ 1000 ∧ H dx = some (.own a) := by
  obtain ⟨d, z, ne, ob, mA, n, r, q⟩ := (show ObjOk P w H h a (.ins C dx fs) from hok a _ e)
  exact ⟨mA, ⟨ob, n, ne⟩, r, q, z, d⟩
end
structure Cls (K : PySem.W.Frag) (C : Addr) : Prop where
  pg : PySem.W.plainGet K C Str.empty = true
  hd : PySem.W.hasDictIn K C = true
  po : PySem.W.plainOver K C = true
  sa : PySem.W.findIn K (.ref C) "__setattr__" = some (some (.builtin "object.__setattr__"))
theorem Cls.get {K : PySem.W.Frag} {C : Addr} (c : Cls K C) (f : Str) : PySem.W.plainGet K C f = true := c.pg
structure Con (K : PySem.W.Frag) (C : Addr) (f : Str) (v : V) (u : Value) : Prop where
  at_ : PySem.W.findIn K (.ref C) f = some (some u)
  rel : RelV v u
  get : PySem.W.specialIn K u "__get__" = some none
  cp : PySem.W.copiedNames.contains f = false
structure Meth (K : PySem.W.Frag) (C : Addr) (m : Str) (f : Addr) : Prop where
  at_ : PySem.W.findIn K (.ref C) m = some (some (.ref f))
  fn : PySem.W.isFn K (.ref f) = true
  kp : PySem.W.keepIn K (.ref f) = true
section
variable {X : Cx} {pins : List (Addr × Obj)} {σ : St} {H : Hp} {s : Shared} {a C dx : Addr} {fs : List (Str × V)} {f : Str} {v : V} {A : Around} {E : Value → Shared → Prop}
end
section
variable {X : Cx} {o e value : Expr} {f : Str} {pos pos' tpos : Pos} {ta tv : TE}
end
section
variable {X : Cx} {pins : List (Addr × Obj)} {σ : St} {H : Hp} {s : Shared} {A : Around} {E : Value → Shared → Prop} {Q : Value → Shared → Prop} {c : Value} {b : Bool}
inductive TyOf (K : PySem.W.Frag) (H : Hp) : V → Value → Prop where
  | non : TyOf K H .non (.type "NoneType")
  | bl (x : Bool) : TyOf K H (.bl x) (.type "bool")
  | int (i : Int) : TyOf K H (.int i) (.type "int")
  | str (x : Str) : TyOf K H (.str x) (.type "str")
  | flt (x : UInt64) : TyOf K H (.flt x) (.type "float")
  | lst {a : Addr} {xs : List V} (e : H a = some (.lst xs)) : TyOf K H (.ref a) (.type "list")
  | frz {a : Addr} {o : Obj} {xs : List V} (e : H a = some (.frz o (.lst xs))) : TyOf K H (.ref a) (.type "list")
  | tup {a : Addr} {xs : List V} (e : H a = some (.tup xs)) : TyOf K H (.ref a) (.type "tuple")
  | dK {a : Addr} {kvs : List (Key × V)} (e : H a = some (.dK kvs)) : TyOf K H (.ref a) (.type "dict")
  | dT {a : Addr} {kvs : List (List Key × V)} (e : H a = some (.dT kvs)) : TyOf K H (.ref a) (.type "dict")
  | ins {a C dx : Addr} {fs : List (Str × V)} (e : H a = some (.ins C dx fs)) (cl : Cls K C) (ha : PySem.W.findIn K (.ref C) "__class__" = some (some (.builtin "object.__class__")))
      (hn : PySem.W.specialIn K (.builtin "object.__class__") "__get__" = some (some (.builtin "getset_descriptor.__get__"))) (htk : PySem.W.takesIn K (.builtin "object.__class__") = some true)
      (hm : PySem.W.mroIn K C (.type "object") = some true) : TyOf K H (.ref a) (.ref C)
theorem isinst_ok {x : V} {u t : Value} (I : Inv X pins σ H s) (rx : RelV x u) (ty : TyOf X.K H x t) (e : PySem.W.kitOne X.K t c = some b) (h : ∀ tk, Q (.bool b) { s with toks := tk }) :
    wpAny (model X.prog X.w) A (call (.builtin "isinstance") [u, c]) Q E s := by
  cases ty with
  | non => cases (show u = Value.none from rx); exact PySem.W.kia_one PySem.W.kitx_none I.kIn True.intro e (fun z => nomatch z) h
  | bl y => cases (show u = Value.bool y from rx); exact PySem.W.kia_one PySem.W.kitx_bool I.kIn True.intro e (fun z => nomatch z) h
  | int i => obtain ⟨t, q⟩ := (show ∃ t, u = Value.int i t from rx); cases q; exact PySem.W.kia_one PySem.W.kitx_int I.kIn True.intro e (fun z => nomatch z) h
  | str y => obtain ⟨t, q⟩ := (show ∃ t, u = Value.str y t from rx); cases q; exact PySem.W.kia_one PySem.W.kitx_str I.kIn True.intro e (fun z => nomatch z) h
  | flt y => obtain ⟨t, q⟩ := (show ∃ t, u = Value.float y t from rx); cases q; exact PySem.W.kia_one PySem.W.kitx_float I.kIn True.intro e (fun z => nomatch z) h
  | @lst a xs ea =>
    cases (show u = Value.ref a from rx)
    obtain ⟨_, _, n, _, h1⟩ := (show ObjOk X.prog X.w H s.heap a (.lst xs) from I.hok a _ ea)
    exact PySem.W.kia_one PySem.W.kitx_list I.kIn ⟨_, h1, rfl⟩ e (fun z => nomatch z) h
  | @frz a ob xs ea =>
    cases (show u = Value.ref a from rx)
    obtain ⟨_, _, _, n, _, h1⟩ := (show ObjOk X.prog X.w H s.heap a (.frz ob (.lst xs)) from I.hok a _ ea)
    exact PySem.W.kia_one PySem.W.kitx_list I.kIn ⟨_, h1, rfl⟩ e (fun z => nomatch z) h
  | @tup a xs ea =>
    cases (show u = Value.ref a from rx)
    obtain ⟨_, _, _, p, _⟩ := (show ObjOk X.prog X.w H s.heap a (.tup xs) from I.hok a _ ea)
    obtain ⟨o, h1, h2, _⟩ := p
    exact PySem.W.kia_one PySem.W.kitx_tuple I.kIn ⟨o, h1, h2⟩ e (fun z => nomatch z) h
  | @dK a kvs ea =>
    cases (show u = Value.ref a from rx)
    obtain ⟨_, _, vs, _, p⟩ := (show ObjOk X.prog X.w H s.heap a (.dK kvs) from I.hok a _ ea)
    obtain ⟨o, es, ep, h1, h2, _⟩ := p
    exact PySem.W.kia_one PySem.W.kitx_dict I.kIn ⟨o, h1, h2.1⟩ e (fun z => nomatch z) h
  | @dT a kvs ea =>
    cases (show u = Value.ref a from rx)
    obtain ⟨_, _, xs, _, o, es, ep, h1, h2, _⟩ := (show ObjOk X.prog X.w H s.heap a (.dT kvs) from I.hok a _ ea)
    exact PySem.W.kia_one PySem.W.kitx_dict I.kIn ⟨o, h1, h2.1⟩ e (fun z => nomatch z) h
  | @ins a C dx fs ea cl ha hn htk hm =>
    cases (show u = Value.ref a from rx)
    obtain ⟨mA, O, _⟩ := ins_get I.hok ea
    obtain ⟨od, J, _⟩ := O.look
    exact PySem.W.kia_one (PySem.W.kitx_own (cl.get _) cl.hd ha hn htk hm) I.kIn J e (fun z => nomatch z) h
end
end L2
namespace L2
open PySem PySem.Spec PyProof.Rows
structure Room (k : Nat) (A : Around) : Prop where
  hd : A.handled = none
  dp : A.depth + 3 * k + 5 < recursionLimit
  un : A.units + 16 * k + 200 < cLine
theorem Room.mono {j k : Nat} {A : Around} (r : Room k A) (h : j ≤ k) : Room j A := ⟨r.hd, by have := r.dp; omega, by have := r.un; omega⟩
theorem Room.deeper {k : Nat} {A : Around} (r : Room (k + 1) A) (env : Env) : Room k (A.deeper env) :=
  ⟨r.hd, by have := r.dp; show A.depth + 1 + 3 * k + 5 < _; omega, by have := r.un; show A.units + 3 + 16 * k + 200 < _; omega⟩
theorem Room.depth {k : Nat} {A : Around} (r : Room k A) : A.depth < recursionLimit := by have := r.dp; omega
theorem Room.units {k : Nat} {A : Around} (r : Room k A) : A.units + 64 < cLine := by have := r.un; omega
noncomputable def tNil : TA := fun _ H Q => Q [] H
noncomputable def tCons (ta : TE) (tr : TA) : TA := fun σ H Q => ta σ H fun x H1 => tr σ H1 fun xs H2 => Q (x :: xs) H2
section
variable {X : Cx} {e : Expr} {es : List Expr} {te : TE} {t : TA} {pos : Pos}
theorem pa_nil : PA X [] tNil := fun _ _ _ _ H Q I h => Calls.spliced_nil ⟨[], H, I, .nil, h⟩
theorem pa_cons (ha : PE X e te) (hr : PA X es t) (hs : starEach (e :: es) X.env = (false, eval e X.env) :: starEach es X.env := by rfl) : PA X (e :: es) (tCons te t) := by
  intro pos pins s σ H Q I h
  rw [hs]
  show wpAny _ _ (spliced ((false, eval e X.env) :: backTo pos (starEach es X.env))) _ _ s
  refine Calls.spliced_cons (thn (ha pins s σ H _ I h) fun u s1 zq => ?_)
  obtain ⟨x, H1, I1, r1, q1⟩ := zq
  exact thn (hr pos pins s1 σ H1 _ I1 q1) fun us s2 ⟨xs, H2, I2, r2, q2⟩ => ⟨x :: xs, H2, I2, .cons r1 r2, q2⟩
noncomputable def tTup (t : TA) : TE := fun σ H Q => t σ H fun xs H1 => xs.length ≤ sizeLine ∧ ∀ p, H1 p = none → Q (.ref p) (upd H1 p (.tup xs))
noncomputable def tLst (t : TA) : TE := fun σ H Q => t σ H fun xs H1 => xs.length ≤ sizeLine ∧ ∀ p, H1 p = none → Q (.ref p) (upd H1 p (.lst xs))
theorem pe_tup {x1} (h : PA X es t) : PE X (.Tuple es x1 pos) (tTup t) := by
  intro pins s σ H Q I hq
  refine wpAny_Tuple_spliced (thn (h pos pins s σ H _ I hq) fun us s1 ⟨xs, H1, I1, r, z, q⟩ => ⟨by rw [← r.length]; exact z, ?_⟩)
  have hf : H1 s1.heap.objs.size = none := I1.hok.fresh (Nat.le_refl _)
  refine ⟨.ref s1.heap.objs.size, upd H1 s1.heap.objs.size (.tup xs), I1.laid (t' := s1.toks) (fun b u e => Heap.get?_push_of_some _ e) (Nat.le_refl _) ?_, rfl, q _ hf⟩
  exact ⟨z, us, r, ⟨_, Heap.get?_push_size _ rfl, rfl, _, rfl⟩, _, Heap.get?_push_size _ rfl, rfl⟩
theorem pe_lst (h : PA X es t) : PE X (.List es pos) (tLst t) := by
  intro pins s σ H Q I hq
  refine wpAny_List_spliced (thn (h pos pins s σ H _ I hq) fun us s1 ⟨xs, H1, I1, r, z, q⟩ => ⟨by rw [← r.length]; exact z, ?_⟩)
  have hf : H1 s1.heap.objs.size = none := I1.hok.fresh (Nat.le_refl _)
  refine ⟨.ref s1.heap.objs.size, upd H1 s1.heap.objs.size (.lst xs), I1.laid (t' := s1.toks) (fun b u e => Heap.get?_push_of_some _ e) (Nat.le_refl _) ?_, rfl, q _ hf⟩
  exact ⟨z, us, 0, r, Heap.get?_push_size _ rfl⟩
end
noncomputable abbrev Sp := List V → Hp → VK → XK → Prop
noncomputable abbrev CXT := List Env → Hp → Shared → XK → Value → Shared → Prop
structure Env0 (P : Program) (w : World) (K : PySem.W.Frag) (mg : Str → Option Value) (base : Heap) (A : Around) (outer : List Env) (s : Shared) (H : Hp) : Prop where
  frames : A.frames = some outer
  mod : Mod K mg base
  bs : ∀ b o, base.get? b = some o → s.heap.get? b = some o ∧ H b = none
  bsz : base.objs.size ≤ s.heap.objs.size
  funs : s.heap.FunFrames base outer
  frf : ∀ b ∈ frs outer, H b = none
  hok : HOk P w H s.heap
  bare : AllBare s.gens
noncomputable def CE (outer : List Env) (P : Program) (w : World) (H : Hp) (s : Shared) (Q : VK) (u : Value) (s' : Shared) : Prop :=
  ∃ v H', s'.os = s.os ∧ AllBare s'.gens ∧ Un (frs outer) [] H H' s.heap s'.heap ∧ HOk P w H' s'.heap ∧ RelV v u ∧ Q v H'
noncomputable def CR (CX : CXT) (outer : List Env) (P : Program) (w : World) (H : Hp) (s : Shared) (Q : VK) (E : XK) (r : Result) (s' : Shared) : Prop :=
  match r with
  | .ok (.ret u) => CE outer P w H s Q u s'
  | .ok _ => False
  | .error e => CX outer H s E e s'
structure FnOk (P : Program) (w : World) (K : PySem.W.Frag) (mg : Str → Option Value) (base : Heap) (CX : CXT) (k : Nat) (f : Addr) (fd : FuncData) (ps : List Str) (sp : Sp) : Prop where
  len : ∀ vs H Q E, sp vs H Q E → vs.length = ps.length
  run : ∀ (A : Around) (outer : List Env) (s : Shared) (H : Hp) (args : Args) (us : List Value) (vs : List V) (Q : VK) (E : XK), Room k A → Env0 P w K mg base A outer s H → BindsTo s fd args (ps.zip us) → Vals vs us → sp vs H Q E →
    codeAny (model P w) A (.call (.ref f) args) (CR CX outer P w H s Q E) s
section
variable {X : Cx} {pins : List (Addr × Obj)} {σ : St} {H : Hp} {s s' : Shared}
theorem Inv.env0 (I : Inv X pins σ H s) : Env0 X.prog X.w X.K X.mg X.base X.A X.stack s H :=
  ⟨I.ok.frames, I.ok.mod, I.bs, Nat.le_trans I.ok.bsz I.sz, I.stack, I.stkFree, I.hok, I.bare⟩
theorem Inv.after {Q : VK} {u : Value} (I : Inv X pins σ H s) (h : CE X.stack X.prog X.w H s Q u s') : EP X pins σ Q u s' := by
  obtain ⟨v, H', os, bare, un, hok, r, q⟩ := h
  obtain ⟨hh, g, d, t, os'⟩ := s'
  obtain rfl : os' = s.os := os
  exact ⟨v, H', I.call (h' := hh) (g' := g) (d' := d) (t' := t) (ch := []) un hok bare (fun b z => absurd z (by simp)), r, q⟩
end
noncomputable def tCall (sp : Sp) (dvs : List V) (E : XK) (t : TA) : TE := fun σ H Q => t σ H fun vs H1 => sp (vs ++ dvs) H1 Q E
noncomputable def Binds (K : PySem.W.Frag) (fd : FuncData) (ps : List Str) (ds : List Value) : Prop :=
  ∀ (s : Shared) (us : List Value), K.In s.heap → (us ++ ds).length = ps.length → BindsTo s fd ⟨us, []⟩ (ps.zip (us ++ ds))
theorem Binds.all {K : PySem.W.Frag} {fd : FuncData} {ps : List Str} (h : ∀ us : List Value, us.length = ps.length → bindArgs fd ⟨us, []⟩ = pure (ps.zip us)) : Binds K fd ps [] := fun s us _ hl => by
  rw [List.append_nil] at hl ⊢
  exact .of_eq (h us hl)
noncomputable def Passes (CX : CXT) (X : Cx) (E : XK) : Prop := ∀ (pins : List (Addr × Obj)) (σ : St) (H : Hp) (s : Shared) (e : Value) (s' : Shared), Inv X pins σ H s → CX X.stack H s E e s' → X.xe e s'
section
variable {X : Cx} {CX : CXT} {k : Nat} {f C : Addr} {fd : FuncData} {ps : List Str} {sp : Sp} {dvs : List V} {ds : List Value} {E : XK} {x m : Str} {p pos apos : Pos} {e o : Expr} {es : List Expr} {ta : TE} {t : TA}
theorem run_fn {pins : List (Addr × Obj)} {σ : St} {H : Hp} {s : Shared} {Q : VK} {us : List Value} {vs : List V} (F : FnOk X.prog X.w X.K X.mg X.base CX k f fd ps sp) (hr : Room k X.A) (hb : Binds X.K fd ps ds) (hd : Vals dvs ds) (hx : Passes CX X E)
    (I : Inv X pins σ H s) (r : Vals vs us) (h : sp (vs ++ dvs) H Q E) : wpAny (model X.prog X.w) X.A (call (.ref f) us) (EP X pins σ Q) X.xe s := by
  have r2 : Vals (vs ++ dvs) (us ++ ds) := r.append hd
  have hl : (us ++ ds).length = ps.length := by rw [← r2.length]; exact F.len _ _ _ _ h
  refine wpAny_call (codeAny_mono (F.run X.A X.stack s H ⟨us, []⟩ (us ++ ds) (vs ++ dvs) Q E hr I.env0 (hb s us I.kIn hl) r2 h) fun r s' hq => ?_)
  cases r with
  | error e => exact hx pins σ H s e s' I hq
  | ok fl =>
    cases fl with
    | ret u => exact I.after hq
    | next => exact False.elim hq
    | brk => exact False.elim hq
    | cont => exact False.elim hq
theorem pe_call (F : FnOk X.prog X.w X.K X.mg X.base CX k f fd ps sp) (hr : Room k X.A) (hg : Gl X x) (hm : X.mg x = some (.ref f)) (hk : PySem.W.keepIn X.K (.ref f) = true) (hb : Binds X.K fd ps ds) (hd : Vals dvs ds) (hx : Passes CX X E)
    (ha : PA X (e :: es) t) (hdb : (x == ("__debug__" : Str)) = false := by decide) (he : starEach (e :: es) X.env = (false, eval e X.env) :: starEach es X.env := by rfl) (hpl : (backTo pos (starEach es X.env)).any (·.1) = false := by rfl) :
    PE X (.Call (.Name x p) (e :: es) [] pos) (tCall sp dvs E t) := by
  intro pins s σ H Q I h
  refine wpAny_Call_Name_kw (ld_glob I hg hm ?_ hdb)
  refine PySem.W.callWith_K (h₀ := X.base) I.ok.mod.kin hk (thn (ha pos pins s σ H _ I h) fun us s1 ⟨vs, H1, I1, r, q⟩ => ⟨I1.kIn, ?_⟩) he hpl
  exact run_fn F hr hb hd hx I1 r q
structure Mk (K : PySem.W.Frag) (C f : Addr) : Prop where
  makes : PySem.W.makesIn K C = true
  init : PySem.W.findIn K (.ref C) "__init__" = some (some (.ref f))
  fn : PySem.W.isFn K (.ref f) = true
  kp : PySem.W.keepIn K (.ref C) = true
end
section
variable {X : Cx} {CX : CXT} {k : Nat} {f C : Addr} {fd : FuncData} {ps ks : List Str} {sp : Sp} {E : XK} {x m : Str} {p pos apos kpos : Pos} {e o : Expr} {es : List Expr} {kws : List Keyword} {te ta : TE} {t tk : TA} {nm : Option Str}
structure KBinds (K : PySem.W.Frag) (fd : FuncData) (ps ks : List Str) (g : List Value → List Value → List Value) (gV : List V → List V → List V) : Prop where
  to : ∀ (s : Shared) (us ws : List Value), K.In s.heap → (g us ws).length = ps.length → BindsTo s fd ⟨us, ks.zip ws⟩ (ps.zip (g us ws))
  rel : ∀ {vs : List V} {us : List Value} {zs : List V} {ws : List Value}, Vals vs us → Vals zs ws → Vals (gV vs zs) (g us ws)
variable {g : List Value → List Value → List Value} {gV : List V → List V → List V}
end
structure FnScope (N P : List Str) (sc : Scope) : Prop where
  kind : sc.kind = .function
  co : sc.isCoroutine = false
  gen : sc.isGenerator = false
  nd : N.Nodup
  pre : N.take P.length = P
  par : ∀ x ∈ P, sc.names.lookup x = some .local ∨ sc.names.lookup x = some .cell
  nofree : ∀ y ∈ sc.names, y.2 ≠ .free
theorem bindL_out {kindOf : Str → Option NameKind} {x : Str} : ∀ {binds : List (Str × Value)} {m : Str → Option Value}, (∀ v, (x, v) ∉ binds) → bindL kindOf binds m x = m x
  | [], _, _ => rfl
  | (n, v) :: r, m, h => by
    unfold bindL
    rw [bindL_out fun w hw => h w (List.mem_cons_of_mem _ hw)]
    split
    · have : x ≠ n := by rintro rfl; exact h v List.mem_cons_self
      simp [this]
    · rfl
theorem bindC_out {kindOf : Str → Option NameKind} {x : Str} : ∀ {binds : List (Str × Value)} {m : Str → Option Value}, (∀ v, (x, v) ∉ binds) → bindC kindOf binds m x = m x
  | [], _, _ => rfl
  | (n, v) :: r, m, h => by
    unfold bindC
    rw [bindC_out fun w hw => h w (List.mem_cons_of_mem _ hw)]
    split
    · rfl
    · have : x ≠ n := by rintro rfl; exact h v List.mem_cons_self
      simp [this]
theorem bindL_get {kindOf : Str → Option NameKind} {x : Str} {v : Value} : ∀ {P : List Str} {vs : List Value} {i : Nat} {m : Str → Option Value}, P.Nodup → P[i]? = some x → vs[i]? = some v → kindOf x = some .local →
    bindL kindOf (P.zip vs) m x = some v
  | [], _, _, _, _, h, _, _ => by simp at h
  | _ :: _, [], _, _, _, _, h, _ => by simp at h
  | p :: P, w :: vs, 0, m, nd, h1, h2, hk => by
    simp at h1 h2; subst h1; subst h2
    show bindL kindOf ((p, w) :: P.zip vs) m p = _
    unfold bindL
    rw [bindL_out fun v hv => (List.nodup_cons.mp nd).1 (List.of_mem_zip hv).1, if_pos hk]
    simp
  | p :: P, w :: vs, i + 1, m, nd, h1, h2, hk => by
    show bindL kindOf ((p, w) :: P.zip vs) m x = _
    unfold bindL
    exact bindL_get (i := i) (List.nodup_cons.mp nd).2 (by simpa using h1) (by simpa using h2) hk
theorem bindC_get {kindOf : Str → Option NameKind} {x : Str} {v : Value} : ∀ {P : List Str} {vs : List Value} {i : Nat} {m : Str → Option Value}, P.Nodup → P[i]? = some x → vs[i]? = some v → kindOf x ≠ some .local →
    bindC kindOf (P.zip vs) m x = some v
  | [], _, _, _, _, h, _, _ => by simp at h
  | _ :: _, [], _, _, _, _, h, _ => by simp at h
  | p :: P, w :: vs, 0, m, nd, h1, h2, hk => by
    simp at h1 h2; subst h1; subst h2
    show bindC kindOf ((p, w) :: P.zip vs) m p = _
    unfold bindC
    rw [bindC_out fun v hv => (List.nodup_cons.mp nd).1 (List.of_mem_zip hv).1, if_neg hk]
    simp
  | p :: P, w :: vs, i + 1, m, nd, h1, h2, hk => by
    show bindC kindOf ((p, w) :: P.zip vs) m x = _
    unfold bindC
    exact bindC_get (i := i) (List.nodup_cons.mp nd).2 (by simpa using h1) (by simpa using h2) hk
noncomputable def start (N : List Str) (vs : List V) : St := vs.map some ++ List.replicate (N.length - vs.length) none
noncomputable def cxOf (CX : CXT) (P : Program) (w : World) (K : PySem.W.Frag) (mg : Str → Option Value) (base : Heap) (N : List Str) (qual : Str) (scope : Scope) (f : Addr) (cd : Value) (A : Around) (outer : List Env) (s : Shared) (H : Hp) (E : XK) : Cx where
  prog := P
  w := w
  K := K
  mg := mg
  base := base
  A := A.deeper (envOfC qual scope s.heap.objs.size f cd)
  N := N
  s₀ := s
  H₀ := H
  env := envOfC qual scope s.heap.objs.size f cd
  outer := outer
  stack := envOfC qual scope s.heap.objs.size f cd :: outer
  ex := []
  calm := true
  fn := fun _ => true
  pn := []
  xe := fun e s' => wpAny (model P w) (A.deeper (envOfC qual scope s.heap.objs.size f cd)) (leaving (envOfC qual scope s.heap.objs.size f cd) e) (fun _ s'' => CX outer H s E e s'') (fun e' s'' => CX outer H s E e' s'') s'
theorem cell_has {sc : Scope} {n : Nat} {x : Str} (h : sc.names.lookup x = some .cell) : ∃ c, (cellsFrom n sc.names []).lookup x = some c := by
  have q := PySem.W.cellsFrom_some sc.names n [] (.inl h)
  exact Option.isSome_iff_exists.mp q
theorem inv_start {CX : CXT} {P : Program} {w : World} {K : PySem.W.Frag} {mg : Str → Option Value} {base : Heap} {N ps : List Str} {qual : Str} {scope : Scope} {f : Addr} {cd : Value} {A : Around} {outer : List Env} {s s1 : Shared} {H : Hp} {E : XK} {us : List Value} {vs : List V}
    (S : FnScope N ps scope) (hd : A.handled = none) (e0 : Env0 P w K mg base A outer s H) (hl : vs.length = ps.length) (r : Vals vs us)
    (x : InCallC s s.heap.objs.size (bindL (envOfC qual scope s.heap.objs.size f cd).kindOf (ps.zip us) fun _ => none) (cellsFrom (s.heap.objs.size + 1) scope.names []) (bindC (envOfC qual scope s.heap.objs.size f cd).kindOf (ps.zip us) fun _ => none) s1) :
    Inv (cxOf CX P w K mg base N qual scope f cd A outer s H E) [] (start N vs) H s1 := by
  have hpl : ps.length ≤ N.length := by have := congrArg List.length S.pre; rw [List.length_take] at this; omega
  obtain ⟨h1, tk, rfl, hk⟩ := x.done
  have noA : ∀ b : Addr, b ∉ (cxOf CX P w K mg base N qual scope f cd A outer s H E).ex := fun b z => absurd (show b ∈ ([] : List Addr) from z) (by simp)
  refine ⟨⟨e0.mod, S.kind, rfl, rfl, Nat.le_refl _, fun y z c h1 h2 => ?_, fun y hy => ?_, fun y c _ h => ?_, fun _ => hd, Around.frames_deeper e0.frames, .inr ⟨rfl, rfl⟩, fun b z => absurd z (noA b), e0.bs, e0.bsz, fun b _ _ => noA b, fun b z => absurd z (noA b), e0.funs, e0.frf⟩,
    rfl, e0.bare, Un.kept hk, ⟨_, x.toInCall.ns, fun i y v h1 h2 h3 => ?_⟩, fun y c h => ⟨_, x.cell y c h⟩, e0.hok.fresh (Nat.le_refl _), fun y c h => ?_, fun p hp => absurd (show p ∈ ([] : List (Addr × Obj)) from hp) (by simp), e0.hok.kept hk, ?_⟩
  · exact name_of_addr x.apart (PySem.mem_of_lookup h1) (PySem.mem_of_lookup h2)
  · have hy : scope.names.lookup y = some .cell ∨ scope.names.lookup y = some .free := hy
    rcases hy with hy | hy
    · exact cell_has hy
    · exact absurd rfl (S.nofree _ (PySem.mem_of_lookup hy))
  · exact Nat.le_of_lt (x.above y c (PySem.mem_of_lookup h))
  · have hi : i < vs.length := by
      unfold start at h2
      by_cases hi : i < vs.length
      · exact hi
      · rw [List.getElem?_append_right (by simpa using hi)] at h2
        rw [List.getElem?_replicate] at h2
        split at h2 <;> cases h2
    have ha : vs[i]? = some v := by
      unfold start at h2
      rw [List.getElem?_append_left (by simpa using hi), List.getElem?_map] at h2
      cases e : vs[i]? with
      | none => rw [e] at h2; cases h2
      | some a => rw [e] at h2; cases h2; rfl
    obtain ⟨u, hu, rv⟩ := r.get ha
    have hp : ps[i]? = some y := by
      rw [← S.pre, List.getElem?_take_of_lt (by omega)]; exact h1
    have ndP : ps.Nodup := by rw [← S.pre]; exact S.nd.sublist (List.take_sublist _ _)
    refine ⟨u, rv, ?_⟩
    rcases S.par y (List.mem_of_getElem? hp) with k | k
    · exact .inl ⟨k, bindL_get ndP hp hu k⟩
    · obtain ⟨c, e⟩ := cell_has (n := s.heap.objs.size + 1) k
      refine .inr ⟨.inl k, c, e, ?_⟩
      have q := x.cell y c e
      rw [bindC_get ndP hp hu (by show scope.names.lookup y ≠ _; rw [k]; decide)] at q
      exact q
  · exact e0.hok.fresh (Nat.le_of_lt (x.above y c (PySem.mem_of_lookup h)))
  · unfold start
    show _ = N.length
    rw [List.length_append, List.length_map, List.length_replicate]
    omega
theorem fn_of {CX : CXT} {P : Program} {w : World} {K : PySem.W.Frag} {mg : Str → Option Value} {base : Heap} {k : Nat} {f : Addr} {name qual : Str} {params : Arguments} {body : List Stmt} {scope : Scope} {dV kV doc pm cdv ct oc : Value} {an od : Option Addr}
    {osl : Array (Option Value)} {N ps : List Str} {sp : Sp} (lk : K.lookup f = some ⟨oc, od, .func (PySem.W.fnOf name qual params body scope dV kV doc pm an cdv ct), osl⟩) (hcd : PySem.W.codeIn K cdv qual = true) (S : FnScope N ps scope)
    (len : ∀ vs H Q E, sp vs H Q E → vs.length = ps.length)
    (hbody : ∀ (A : Around) (outer : List Env) (s : Shared) (H : Hp) (vs : List V) (Q : VK) (E : XK), Room k (A.deeper (envOfC qual scope s.heap.objs.size f cdv)) → sp vs H Q E →
      ∃ t, PSs (cxOf CX P w K mg base N qual scope f cdv A outer s H E) body t ∧ t { nx := fun _ H' => Q .non H', rt := Q } (start N vs) H) :
    FnOk P w K mg base CX (k + 1) f (PySem.W.fnOf name qual params body scope dV kV doc pm an cdv ct) ps sp := by
  refine ⟨len, fun A outer s H args us vs Q E hr e0 hb r hsp => ?_⟩
  have hl := len _ _ _ _ hsp
  have KX : K.In s.heap := e0.mod.kin.keeps fun b o e => (e0.bs b o e).1
  have lim : s.heap.NoLimit := e0.mod.nolimit.keeps fun b o e => (e0.bs b o e).1
  have hkind : ∀ y ∈ ps.zip us, scope.names.lookup y.1 = some .local ∨ (scope.names.lookup y.1 = some .cell ∧ ((cellsFrom (s.heap.objs.size + 1) scope.names []).lookup y.1).isSome = true) := fun ⟨n, v⟩ hy => by
    rcases S.par n (List.of_mem_zip hy).1 with q | q
    · exact .inl q
    · exact .inr ⟨q, PySem.W.cellsFrom_some _ _ _ (.inl q)⟩
  refine codeAny_call_function hr.depth (KX _ _ lk) rfl S.co S.gen rfl (PySem.W.codeRec_of KX hcd) (hb _ _ _ _ ?_)
  refine wpAny_newFunctionEnv_cells S.kind hkind fun env he s1 x => ?_
  subst he
  refine ⟨lim.keeps x.toInCall.keep, codeAny_func ?_⟩
  obtain ⟨t, ht, hq⟩ := hbody A outer s H vs Q E (hr.deeper _) hsp
  have I : Inv (cxOf CX P w K mg base N qual scope f cdv A outer s H E) [] (start N vs) H s1 := inv_start S hr.hd e0 hl r x
  refine wpAny_mono (ht [] s1 (start N vs) H _ I hq) (fun fl s' hs => ?_) fun e s' hs => hs
  have fin : ∀ {σ' : St} {H' : Hp} {v : V} {u : Value}, Inv (cxOf CX P w K mg base N qual scope f cdv A outer s H E) [] σ' H' s' → RelV v u → Q v H' → CE outer P w H s Q u s' :=
    fun {σ' H' v u} J rv q => ⟨v, H', J.os, J.bare, J.base, J.hok, rv, q⟩
  cases fl with
  | ret u =>
    obtain ⟨v, σ', H', J, rv, q⟩ := hs
    exact fin J rv q
  | next =>
    obtain ⟨σ', H', J, q⟩ := hs
    exact fin (v := V.non) (u := Value.none) J rfl q
  | brk =>
    obtain ⟨_, _, _, q⟩ := hs
    exact False.elim q
  | cont =>
    obtain ⟨_, _, _, q⟩ := hs
    exact False.elim q
end L2
namespace L2
open PySem PySem.Spec PyProof.Rows
section
variable {X : Cx} {x : Str} {p pos : Pos} {e : Expr} {es : List Expr} {t : TA} {id T : String} {r : List V → Hp → VK → Prop}
noncomputable def tCB (r : List V → Hp → VK → Prop) (t : TA) : TE := fun σ H Q => t σ H fun vs H1 => r vs H1 Q
theorem pe_callB (hc : CallR X (.builtin id) r) (hg : Gl X x) (hm : X.mg x = none) (hv : bootBuiltins x = some (.builtin id)) (ha : PA X (e :: es) t) (hn : x ≠ "__name__" := by decide) (hdb : (x == ("__debug__" : Str)) = false := by decide)
    (he : starEach (e :: es) X.env = (false, eval e X.env) :: starEach es X.env := by rfl) (hpl : (backTo pos (starEach es X.env)).any (·.1) = false := by rfl) : PE X (.Call (.Name x p) (e :: es) [] pos) (tCB r t) := by
  intro pins s σ H Q I h
  refine wpAny_Call_Name_kw (ld_blt I hg hm hv ?_ hn hdb)
  exact PyProof.Rows.callWith_builtin1 (thn (ha pos pins s σ H _ I h) fun us s1 ⟨vs, H1, I1, r1, q1⟩ => hc pins s1 σ H1 vs us Q I1 r1 q1) he hpl
theorem pe_callTy (hc : CallR X (.type T) r) (hg : Gl X x) (hm : X.mg x = none) (hv : bootBuiltins x = some (.type T)) (ha : PA X (e :: es) t) (hn : x ≠ "__name__" := by decide) (hdb : (x == ("__debug__" : Str)) = false := by decide)
    (he : starEach (e :: es) X.env = (false, eval e X.env) :: starEach es X.env := by rfl) (hpl : (backTo pos (starEach es X.env)).any (·.1) = false := by rfl) : PE X (.Call (.Name x p) (e :: es) [] pos) (tCB r t) := by
  intro pins s σ H Q I h
  refine wpAny_Call_Name_kw (ld_blt I hg hm hv ?_ hn hdb)
  exact PyProof.Rows.callWith_type1 (thn (ha pos pins s σ H _ I h) fun us s1 ⟨vs, H1, I1, r1, q1⟩ => hc pins s1 σ H1 vs us Q I1 r1 q1) he hpl
end
end L2
namespace HT
open PySem PyProof.Rows
noncomputable def lexLt : List Int → List Int → Bool
  | [], [] => false
  | [], _ :: _ => true
  | _ :: _, [] => false
  | x :: xs, y :: ys => if x = y then lexLt xs ys else decide (x < y)
section
open PySem.SeqAt
open PySem.AutoSeq1 (wpAny_loadPart')
open PySem.MeetsSeq PySem.MeetsSeq2 PySem.MeetsSeq3
end
section
variable {prog : Program} {w : World} {A : Around} {E : Value → Shared → Prop} {s : Shared}
theorem cat_tup {t b : Addr} {vs ws : List Value} {Q : Value → Shared → Prop} (ht : IsTup s.heap t vs.toArray) (hb : IsTup s.heap b ws.toArray) (hv : vs ≠ [])
    (h1 : ws = [] → Q (.ref t) s) (h2 : ws ≠ [] → Q (.ref s.heap.objs.size) { s with heap := s.heap.push { cls := .type "tuple", data := .seq (vs ++ ws).toArray } })
    (hsz : vs.length + ws.length ≤ sizeLine) : wpAny (model prog w) A (binaryOp .Add (.ref t) (.ref b)) Q E s := by
  obtain ⟨⟨cls, dd, data, sl⟩, ho, hc, n, hd⟩ := id ht
  obtain ⟨⟨cls2, dd2, data2, sl2⟩, ho2, hc2, n2, hd2⟩ := id hb
  simp only at hc hd hc2 hd2
  subst hc hd hc2 hd2
  have e : vs.toArray ++ ws.toArray = (vs ++ ws).toArray := by simp
  by_cases hw : ws = []
  · exact concat_meets ⟨_, ho, rfl⟩ ⟨_, ho2, rfl⟩ noFill_tuple_add seq_tuple_add PySem.F.slot_tuple_add PySem.F.entry_tuple_add (PySem.F.args_tuple_add_2 _ _)
      (tuple_addW1 t b vs.toArray ws.toArray n n2 dd dd2 sl sl2 (by simpa using hv) (by simp [hw])) ⟨ho, ho2, h1 hw⟩
  · refine concat_meets ⟨_, ho, rfl⟩ ⟨_, ho2, rfl⟩ noFill_tuple_add seq_tuple_add PySem.F.slot_tuple_add PySem.F.entry_tuple_add (PySem.F.args_tuple_add_2 _ _)
      (tuple_addW2 t b vs.toArray ws.toArray n n2 dd dd2 sl sl2 (by simpa using hv) (by simpa using hw) (by rw [List.size_toArray, List.size_toArray]; exact hsz)) ⟨ho, ho2, ?_⟩
    rw [e]
    exact h2 hw
noncomputable def sIx (n d : Nat) : Option Int → Nat
  | none => d
  | some v => if v < 0 then (v + (n : Int)).toNat else min v.toNat n
theorem sIx_le (n d : Nat) (hd : d ≤ n) (o : Option Int) : sIx n d o ≤ n := by
  cases o with
  | none => exact hd
  | some v =>
    show (if v < 0 then (v + (n : Int)).toNat else min v.toNat n) ≤ n
    by_cases hv : v < 0
    · rw [if_pos hv]; omega
    · rw [if_neg hv]; exact Nat.min_le_right _ _
theorem clip_eq (v : Int) (n d : Nat) : (if v < 0 then max (v + (n : Int)) 0 else min v (n : Int)) = ((sIx n d (some v) : Nat) : Int) := by
  show (if v < 0 then max (v + (n : Int)) 0 else min v (n : Int)) = (((if v < 0 then (v + (n : Int)).toNat else min v.toNat n) : Nat) : Int)
  by_cases hv : v < 0
  · simp only [if_pos hv]; omega
  · simp only [if_neg hv]; omega
theorem adjust_gen (lo hi : Option Int) (n : Nat) : Builtin.Slice.sliceAdjust lo hi 1 (n : Int) = (((sIx n 0 lo : Nat) : Int), ((sIx n n hi : Nat) : Int)) := by
  have h1 : ¬ ((1 : Int) < 0) := by omega
  unfold Builtin.Slice.sliceAdjust
  simp only [h1, if_false]
  refine Prod.ext ?_ ?_
  · cases lo with
    | none => rfl
    | some v => exact clip_eq v n 0
  · cases hi with
    | none => rfl
    | some v => exact clip_eq v n n
theorem places_gen (i j : Nat) : Builtin.Slice.slicePlaces (i : Int) (j : Int) 1 = j - i := by
  unfold Builtin.Slice.slicePlaces
  have h1 : (1 : Int) > 0 := by omega
  simp only [h1, if_true, Int.ediv_one]
  split <;> omega
theorem slicePart_ {v : Value} {o : Option Int} {Q : Option Int → Shared → Prop} (p : IsPart v o) (h : Q o s) : wpAny (model prog w) A (Builtin.Slice.slicePartIndex v) Q E s := by
  cases p with
  | none => exact slicePart_none h
  | int i t => exact slicePart_int h
theorem sliceApplied_gen {sl : Addr} {vl vu : Value} {lo hi : Option Int} {n : Nat} {Q : Int × Int × Nat → Shared → Prop} (hs : s.heap.IsSliceOf sl vl vu .none) (pl : IsPart vl lo) (pu : IsPart vu hi)
    (h : Q (((sIx n 0 lo : Nat) : Int), 1, sIx n n hi - sIx n 0 lo) s) : wpAny (model prog w) A (Builtin.Slice.sliceApplied (.ref sl) (pure (n : Int))) Q E s := by
  obtain ⟨os, hos, hcs, hds⟩ := id hs
  unfold Builtin.Slice.sliceApplied Builtin.Slice.sliceFields
  refine wpAny_bind (wpAny_bind (wpAny_field hos hds (x := vl) rfl (wpAny_bind (wpAny_field hos hds (x := vu) rfl (wpAny_bind (wpAny_field hos hds (x := .none) rfl (wpAny_pure ?_)))))))
  refine wpAny_bind (slicePart_none ?_)
  show wpAny _ _ (if ((1 : Int) == 0) = true then _ else _) _ _ s
  rw [if_neg (by decide)]
  refine wpAny_bind (slicePart_ pl (wpAny_bind (slicePart_ pu (wpAny_bind (wpAny_pure ?_)))))
  show wpAny _ _ (match Builtin.Slice.sliceAdjust lo hi 1 (n : Int) with | (lo, hi) => pure (lo, (1 : Int), Builtin.Slice.slicePlaces lo hi 1)) _ _ s
  rw [adjust_gen lo hi n]
  show wpAny _ _ (pure (((sIx n 0 lo : Nat) : Int), (1 : Int), Builtin.Slice.slicePlaces ((sIx n 0 lo : Nat) : Int) ((sIx n n hi : Nat) : Int) 1)) _ _ s
  rw [places_gen]
  exact wpAny_pure h
theorem pick_gen (xs : Array Value) (i k : Nat) : ((List.range k).filterMap fun (m : Nat) => xs[((i : Int) + (m : Int) * 1).toNat]?).toArray = ((xs.toList.drop i).take k).toArray := by
  have e : (fun (m : Nat) => xs[((i : Int) + (m : Int) * 1).toNat]?) = fun m => xs[i + m]? := by
    funext m
    have : ((i : Int) + (m : Int) * 1).toNat = i + m := by omega
    rw [this]
  rw [e]
  have := pick_run xs i k
  rw [List.filterMap_map] at this
  have e2 : ((fun x => xs[x]?) ∘ fun x => i + x) = fun m => xs[i + m]? := rfl
  rw [e2] at this
  rw [this]
theorem getItem_tuple_cut {t sl : Addr} {items : Array Value} {vl vu : Value} {lo hi : Option Int} {Q : Value → Shared → Prop} (ht : IsTup s.heap t items) (hs : s.heap.IsSliceOf sl vl vu .none) (pl : IsPart vl lo) (pu : IsPart vu hi)
    (hw : ¬ (sIx items.size 0 lo = 0 ∧ sIx items.size items.size hi = items.size))
    (h : Q (.ref s.heap.objs.size) { s with heap := s.heap.push { cls := .type "tuple", data := .seq ((items.toList.drop (sIx items.size 0 lo)).take (sIx items.size items.size hi - sIx items.size 0 lo)).toArray } })
    (hsz : items.size ≤ sizeLine) : wpAny (model prog w) A (getItem (.ref t) (.ref sl)) Q E s := by
  have htake : sizeOk (.seq ((items.toList.drop (sIx items.size 0 lo)).take (sIx items.size items.size hi - sIx items.size 0 lo)).toArray) := by
    show ((items.toList.drop (sIx items.size 0 lo)).take (sIx items.size items.size hi - sIx items.size 0 lo)).toArray.size ≤ sizeLine
    rw [List.size_toArray, List.length_take, List.length_drop, Array.length_toList]
    omega
  have hj : sIx items.size items.size hi ≤ items.size := sIx_le _ _ (Nat.le_refl _) hi
  obtain ⟨os, hos, hcs, hds⟩ := id hs
  have hTs : s.TypeIs (.ref sl) "slice" := ⟨os, hos, hcs⟩
  unfold getItem
  try with_reducible refine wpAny_holding ?_
  first | refine wpAny_bind (wpAny_pure ?_) | skip
  refine wpAny_bind (wpAny_sequenceKey ht.typeIs (by decide) ?_)
  refine wpAny_bind (wpAny_callSpecial?_slot (name := Str.ofString "__getitem__") ht.typeIs PyProof.Rows.slot_tuple_getitem
    (wpAny_call_entry PyProof.Rows.slot_tuple_getitem ht.typeIs entry_tuple_getitem ?_ (args_tuple_getitem _ _)))
  show wpAny _ _ (Builtin.Tuple.tupleItemsOf (.ref t) >>= _) _ _ s
  refine wpAny_bind (tupleItemsOf_ ht ?_)
  refine wpAny_bind (wpAny_typeOf hTs ?_)
  rw [if_pos (by decide)]
  refine wpAny_bind (sliceApplied_gen hs pl pu ?_)
  have hno : ¬ ((((sIx items.size 0 lo : Nat) : Int) == 0 && (1 : Int) == 1 && (sIx items.size items.size hi - sIx items.size 0 lo) == items.size) = true) := by
    intro q
    rw [Bool.and_eq_true, Bool.and_eq_true] at q
    have q1 : ((sIx items.size 0 lo : Nat) : Int) = 0 := eq_of_beq q.1.1
    have q2 : sIx items.size items.size hi - sIx items.size 0 lo = items.size := eq_of_beq q.2
    exact hw ⟨by omega, by omega⟩
  show wpAny _ _ (if (((sIx items.size 0 lo : Nat) : Int) == 0 && (1 : Int) == 1 && (sIx items.size items.size hi - sIx items.size 0 lo) == items.size) = true then _ else _) _ _ s
  rw [if_neg hno, pick_gen]
  first
    | exact wpAny_bind (m := Builtin.Tuple.tupleExact _) (wpAny_newObj_type (wpAny_pure ⟨_, rfl, wpAny_pure h⟩) htake)
    | exact wpAny_bind (m := Builtin.Tuple.tupleExact _) (wpAny_newObj_type (wpAny_bind (wpAny_pure (wpAny_pure ⟨_, rfl, wpAny_pure h⟩))) htake)
    | exact wpAny_bind (wpAny_bind (m := Builtin.Tuple.tupleExact _) (wpAny_newObj_type (wpAny_pure (wpAny_pure ⟨_, rfl, wpAny_pure h⟩)) htake))
    | exact wpAny_bind (wpAny_bind (m := Builtin.Tuple.tupleExact _) (wpAny_newObj_type (wpAny_pure ⟨_, rfl, wpAny_pure h⟩) htake))
end
end HT
namespace L2
open PySem PySem.Spec PyProof.Rows
noncomputable abbrev TO := St → Hp → (Option Int → Hp → Prop) → Prop
noncomputable def PO (X : Cx) (e : Option Expr) (t : TO) : Prop :=
  ∀ (pins : List (Addr × Obj)) (s : Shared) (σ : St) (H : Hp) (Q : Option Int → Hp → Prop), Inv X pins σ H s → t σ H Q →
    wpAny (model X.prog X.w) X.A (evalPart e X.env) (fun u s' => ∃ o H', Inv X pins σ H' s' ∧ IsPart u o ∧ Q o H') X.xe s
noncomputable def tNoPart : TO := fun _ H Q => Q none H
noncomputable def tPart (t : TE) : TO := fun σ H Q => t σ H fun x H1 => ∃ i, x = .int i ∧ Q (some i) H1
section
variable {X : Cx} {e : Expr} {te : TE} {lo hi : Option Expr} {tl th : TO} {pos p2 : Pos}
theorem po_none : PO X none tNoPart := by
  intro pins s σ H Q I h
  rw [evalPart_none]
  exact wpAny_pure ⟨none, H, I, .none, h⟩
theorem po_some (h : PE X e te) : PO X (some e) (tPart te) := by
  intro pins s σ H Q I hw
  rw [evalPart_some]
  refine thn (h pins s σ H _ I hw) fun u s1 zq => ?_
  obtain ⟨x, H1, I1, r1, q1⟩ := zq
  obtain ⟨i, rfl, q⟩ := q1
  obtain ⟨t, rfl⟩ := r1
  exact ⟨some i, H1, I1, .int i t, q⟩
noncomputable def SlR (X : Cx) (r : V → Option Int → Option Int → Hp → VK → Prop) : Prop :=
  ∀ (pins : List (Addr × Obj)) (s : Shared) (σ : St) (H : Hp) (x : V) (v vl vu : Value) (lo hi : Option Int) (sl : Addr) (Q : VK), Inv X pins σ H s → RelV x v → s.heap.IsSliceOf sl vl vu .none → IsPart vl lo → IsPart vu hi → r x lo hi H Q →
    ∃ T id, typeLookup (.type T) "__getitem__" = pure (some (.builtin id)) ∧ s.TypeIs v T ∧ wpAny (model X.prog X.w) X.A (getItem v (.ref sl)) (EP X pins σ Q) X.xe s
theorem SlR.or {r r' : V → Option Int → Option Int → Hp → VK → Prop} (h : SlR X r) (h' : SlR X r') : SlR X (fun x lo hi H Q => r x lo hi H Q ∨ r' x lo hi H Q) := by
  intro pins s σ H x v vl vu lo hi sl Q I rx hs pl pu q
  rcases q with q | q
  · exact h pins s σ H x v vl vu lo hi sl Q I rx hs pl pu q
  · exact h' pins s σ H x v vl vu lo hi sl Q I rx hs pl pu q
noncomputable def tSl (r : V → Option Int → Option Int → Hp → VK → Prop) (te : TE) (tl th : TO) : TE := fun σ H Q => te σ H fun x H1 => tl σ H1 fun l H2 => th σ H2 fun u H3 => r x l u H3 Q
theorem pe_slice {r : V → Option Int → Option Int → Hp → VK → Prop} (hr : SlR X r) (he : PE X e te) (hl : PO X lo tl) (hu : PO X hi th) : PE X (.Subscript e (.Slice lo hi none p2) pos) (tSl r te tl th) := by
  intro pins s σ H Q I h
  refine Subscript_ (thn (he pins s σ H _ I h) fun v s1 zq => ?_)
  obtain ⟨x, H1, I1, r1, q1⟩ := zq
  refine wpAny_Slice (thn (hl pins s1 σ H1 _ I1 q1) fun vl s2 ⟨l, H2, I2, pl, q2⟩ => thn (hu pins s2 σ H2 _ I2 q2) fun vu s3 zq => ?_)
  obtain ⟨u, H3, I3, pu, q3⟩ := zq
  rw [evalPart_none]
  refine wpAny_pure ?_
  have I4 : Inv X pins σ H3 { s3 with heap := s3.heap.push { cls := .type "slice", data := .fields #[vl, vu, .none] } } := I3.kept (t' := s3.toks) fun b ob q => Heap.get?_push_of_some _ q
  obtain ⟨T, id, hT, ht, hg⟩ := hr pins { s3 with heap := s3.heap.push { cls := .type "slice", data := .fields #[vl, vu, .none] } } σ H3 x v vl vu l u s3.heap.objs.size Q I4 r1 (Heap.IsSliceOf.new ..) pl pu q3
  show wpAny (model X.prog X.w) X.A (subscriptTail e (.Slice lo hi none p2) v (.ref s3.heap.objs.size)) (EP X pins σ Q) X.xe { s3 with heap := s3.heap.push { cls := .type "slice", data := .fields #[vl, vu, .none] } }
  exact tail_any (ops := [.ref s3.heap.objs.size, v]) ht hT hg (by with_unfolding_all rfl)
noncomputable def cutV (xs : List V) (lo hi : Option Int) : List V := (xs.drop (HT.sIx xs.length 0 lo)).take (HT.sIx xs.length xs.length hi - HT.sIx xs.length 0 lo)
theorem cutV_length (xs : List V) (lo hi : Option Int) : (cutV xs lo hi).length ≤ xs.length := by
  unfold cutV
  rw [List.length_take, List.length_drop]
  omega
noncomputable def rSlT (K : PySem.W.Frag) : V → Option Int → Option Int → Hp → VK → Prop := fun x lo hi H Q => ∃ a xs, x = .ref a ∧ SqT K H a xs ∧
  ¬ (HT.sIx xs.length 0 lo = 0 ∧ HT.sIx xs.length xs.length hi = xs.length) ∧ ∀ p, H p = none → Q (.ref p) (upd H p (.tup (cutV xs lo hi)))
theorem sl_tup : SlR X (rSlT X.K) := by
  intro pins s σ H x v vl vu lo hi sl Q I rx hs pl pu h
  obtain ⟨a, xs, rfl, hx, hw, q⟩ := h
  cases rx
  obtain ⟨its, r, ht, hz⟩ := I.tuple hx
  have hlen : its.toArray.size = xs.length := by rw [List.size_toArray]; exact r.length.symm
  refine ⟨"tuple", _, PyProof.Rows.slot_tuple_getitem.lookup, ht.typeIs, ?_⟩
  refine HT.getItem_tuple_cut ht hs pl pu (by rw [hlen]; exact hw) ?_ (by rw [hlen]; exact hz)
  rw [hlen]
  refine ⟨.ref s.heap.objs.size, _, I.laid (t' := s.toks) (o := .tup (cutV xs lo hi)) (fun b ob q => Heap.get?_push_of_some _ q) (Nat.le_refl _) ?_, rfl, q _ (I.hok.fresh (Nat.le_refl _))⟩
  exact ⟨Nat.le_trans (cutV_length xs lo hi) hz, _, (r.drop (HT.sIx xs.length 0 lo)).take (HT.sIx xs.length xs.length hi - HT.sIx xs.length 0 lo), IsTup.new _ _, _, Heap.get?_push_size _ rfl, rfl⟩
noncomputable def rCatT (K : PySem.W.Frag) : R2 := fun x y H Q => ∃ a b xs ys, x = .ref a ∧ y = .ref b ∧ SqT K H a xs ∧ SqT K H b ys ∧ xs ≠ [] ∧ xs.length + ys.length ≤ sizeLine ∧
  (ys = [] → Q (.ref a) H) ∧ (ys ≠ [] → ∀ p, H p = none → Q (.ref p) (upd H p (.tup (xs ++ ys))))
theorem Vals.nil_iff {xs : List V} {us : List Value} (r : Vals xs us) : us = [] ↔ xs = [] := by
  cases r with
  | nil => simp
  | cons _ _ => simp
theorem op_catT : OpR X (binaryOp .Add) (rCatT X.K) := by
  intro pins s σ H x y v u Q I rx ry h
  obtain ⟨a, b, xs, ys, rfl, rfl, ha, hb, hx, hz, q1, q2⟩ := h
  cases rx
  cases ry
  obtain ⟨its, r1, p1, _⟩ := I.tuple ha
  obtain ⟨its2, r2, p2, _⟩ := I.tuple hb
  refine HT.cat_tup p1 p2 (fun z => hx (r1.nil_iff.mp z)) (fun z => ⟨.ref a, H, I, rfl, q1 (r2.nil_iff.mp z)⟩) (fun z => ?_) (by rw [← r1.length, ← r2.length]; exact hz)
  refine ⟨.ref s.heap.objs.size, _, I.laid (t' := s.toks) (o := .tup (xs ++ ys)) (fun b ob q => Heap.get?_push_of_some _ q) (Nat.le_refl _) ?_, rfl, q2 (fun w => z (r2.nil_iff.mpr w)) _ (I.hok.fresh (Nat.le_refl _))⟩
  exact ⟨by rw [List.length_append]; exact hz, _, r1.append r2, IsTup.new _ _, _, Heap.get?_push_size _ rfl, rfl⟩
end
end L2
namespace L2
open PySem PySem.Spec PyProof.Rows
noncomputable def ixN (n : Nat) (i : Int) : Option Nat := if 0 ≤ i then (if i < n then some i.toNat else none) else if -(n : Int) ≤ i then some (i + n).toNat else none
noncomputable def atI {α : Type} (xs : List α) (i : Int) : Option α := (ixN xs.length i).bind fun j => xs[j]?
theorem ixN_seq {n : Nat} {i : Int} {j : Nat} (h : ixN n i = some j) : seqIndex? i n = some j ∧ j < n ∧ -(n : Int) ≤ i ∧ i < n := by
  unfold ixN at h
  by_cases h0 : 0 ≤ i
  · rw [if_pos h0] at h
    by_cases h1 : i < n
    · rw [if_pos h1] at h
      have e : i.toNat = j := Option.some.inj h
      exact ⟨by rw [seqIndex_of h0 h1, e], by omega, by omega, h1⟩
    · rw [if_neg h1] at h; cases h
  · rw [if_neg h0] at h
    by_cases h1 : -(n : Int) ≤ i
    · rw [if_pos h1] at h
      have e : (i + n).toNat = j := Option.some.inj h
      exact ⟨by rw [seqIndex_neg (by omega) h1, e], by omega, h1, by omega⟩
    · rw [if_neg h1] at h; cases h
theorem atI_get {α : Type} {xs : List α} {i : Int} {v : α} (h : atI xs i = some v) : ∃ j, seqIndex? i xs.length = some j ∧ xs[j]? = some v ∧ j < xs.length ∧ -(xs.length : Int) ≤ i ∧ i < xs.length := by
  unfold atI at h
  cases e : ixN xs.length i with
  | none => rw [e] at h; cases h
  | some j =>
    rw [e] at h
    obtain ⟨h1, h2, h3, h4⟩ := ixN_seq e
    exact ⟨j, h1, h, h2, h3, h4⟩
noncomputable def PlainIx (b : Expr) : Prop := ∀ o i, subscripted b false o i = operate [o, i] (getItem o i)
noncomputable def IxR (X : Cx) (r : R2) : Prop :=
  ∀ (value slice : Expr) (pins : List (Addr × Obj)) (s : Shared) (σ : St) (H : Hp) (x y : V) (v u : Value) (Q : VK), Inv X pins σ H s → RelV x v → RelV y u → r x y H Q →
    subscripted slice false v u = operate [v, u] (getItem v u) → wpAny (model X.prog X.w) X.A (subscriptTail value slice v u) (EP X pins σ Q) X.xe s
noncomputable def MtR (X : Cx) (id : String) (r : V → List V → Hp → VK → Prop) : Prop :=
  ∀ (pins : List (Addr × Obj)) (s : Shared) (σ : St) (H : Hp) (x : V) (xs : List V) (v : Value) (us : List Value) (Q : VK), Inv X pins σ H s → RelV x v → Vals xs us → r x xs H Q →
    wpAny (model X.prog X.w) X.A (call (.builtin id) (v :: us)) (EP X pins σ Q) X.xe s
section
variable {X : Cx} {a b : Expr} {ta tb : TE} {pos : Pos}
theorem IxR.or {r r' : R2} (h : IxR X r) (h' : IxR X r') : IxR X (fun x y H Q => r x y H Q ∨ r' x y H Q) := by
  intro value slice pins s σ H x y v u Q I rx ry q hs
  rcases q with q | q
  · exact h value slice pins s σ H x y v u Q I rx ry q hs
  · exact h' value slice pins s σ H x y v u Q I rx ry q hs
theorem pe_ix {r : R2} (hr : IxR X r) (ha : PE X a ta) (hb : PE X b tb) (hs : PlainIx b) : PE X (.Subscript a b pos) (tOp r ta tb) := by
  intro pins s σ H Q I h
  exact Subscript_ (binT ha hb I h fun v u s2 x y H2 I2 rx ry q => hr a b pins s2 σ H2 x y v u Q I2 rx ry q (hs _ _))
noncomputable def rIxL (K : PySem.W.Frag) : R2 := fun x y H Q => ∃ p xs i v, x = .ref p ∧ y = .int i ∧ SqL K H p xs ∧ atI xs i = some v ∧ Q v H
noncomputable def rIxT (K : PySem.W.Frag) : R2 := fun x y H Q => ∃ p xs i v, x = .ref p ∧ y = .int i ∧ SqT K H p xs ∧ atI xs i = some v ∧ Q v H
theorem ix_list : IxR X (rIxL X.K) := by
  intro value slice pins s σ H x y v u Q I rx ry h hs
  obtain ⟨p, xs, i, z, rfl, rfl, hq, he, q⟩ := h
  cases rx
  obtain ⟨t, rfl⟩ := ry
  obtain ⟨its, r, pl, hz⟩ := I.list hq
  obtain ⟨j, h1, h2, h3, h4, h5⟩ := atI_get he
  obtain ⟨w, ew, rw'⟩ := r.get h2
  have hl := r.length
  have hn := line63
  have fin : EP X pins σ Q w s := ⟨z, H, I, rw', q⟩
  by_cases h0 : 0 ≤ i
  · have hj : i.toNat = j := by
      rw [seqIndex_of h0 h5] at h1
      exact Option.some.inj h1
    exact item_listR pl.isList h0 (by omega) (by rw [hj]; simpa using ew) fin hs
  · have hj : (i + (its.toArray.size : Int)).toNat = j := by
      rw [seqIndex_neg (by omega) h4] at h1
      rw [List.size_toArray, ← hl]
      exact Option.some.inj h1
    exact subscriptTail_builtinR (x := w) pl.isList.typeIs slot_list_getitem.lookup
      (wpAny_getItem_list_neg (Q := fun r s' => r = w ∧ EP X pins σ Q r s') pl.isList (by omega) (by rw [List.size_toArray] <;> omega) (by omega) (by rw [hj]; simpa using ew) ⟨rfl, fin⟩) hs
theorem ix_tup : IxR X (rIxT X.K) := by
  intro value slice pins s σ H x y v u Q I rx ry h hs
  obtain ⟨p, xs, i, z, rfl, rfl, hq, he, q⟩ := h
  cases rx
  obtain ⟨t, rfl⟩ := ry
  obtain ⟨its, r, pl, hz⟩ := I.tuple hq
  obtain ⟨j, h1, h2, h3, h4, h5⟩ := atI_get he
  obtain ⟨w, ew, rw'⟩ := r.get h2
  have hl := r.length
  have hn := line63
  have fin : EP X pins σ Q w s := ⟨z, H, I, rw', q⟩
  exact subscriptTail_builtinR (x := w) pl.typeIs slot_tuple_getitem.lookup
    (getItem_tuple (j := j) (Q := fun r s' => r = w ∧ EP X pins σ Q r s') pl (by omega) (by omega) (by rw [List.size_toArray, ← hl]; exact h1) (by simpa using ew) ⟨rfl, fin⟩) hs
theorem mapSeq_set (its : List Value) (n j : Nat) (u : Value) : Obj.mapSeq (·.setIfInBounds j u) { cls := .type "list", data := .seq its.toArray n } = { cls := .type "list", data := .seq (its.set j u).toArray n } := by
  simp [Obj.mapSeq]
theorem Inv.lst {pins : List (Addr × Obj)} {σ : St} {H : Hp} {s : Shared} {p : Addr} {xs : List V} (I : Inv X pins σ H s) (h : H p = some (.lst xs)) :
    ∃ (its : List Value) (n : Nat), Vals xs its ∧ s.heap.get? p = some { cls := .type "list", data := .seq its.toArray n } ∧ xs.length ≤ sizeLine := by
  obtain ⟨z, its, n, r, e⟩ := I.hok p _ h
  exact ⟨its, n, r, e, z⟩
theorem Inv.lstUpd {pins : List (Addr × Obj)} {σ : St} {H : Hp} {s : Shared} {p : Addr} {xs ys : List V} {its its' : List Value} {n n' : Nat} {f : Obj → Obj} (I : Inv X pins σ H s) (h : H p = some (.lst xs))
    (ho : s.heap.get? p = some { cls := .type "list", data := .seq its.toArray n }) (hf : f { cls := .type "list", data := .seq its.toArray n } = { cls := .type "list", data := .seq its'.toArray n' }) (r : Vals ys its') (hz : ys.length ≤ sizeLine) (t : Nat) :
    Inv X pins σ (upd H p (.lst ys)) { s with heap := s.heap.update p f, toks := t } := by
  have e : (s.heap.update p f).get? p = some { cls := .type "list", data := .seq its'.toArray n' } := by
    rw [Heap.get?_update_self f ho (by rw [hf] <;> rfl), hf]
  refine I.write (x := p) (e := p) (by rw [h]; trivial) (.inl rfl) (fun b u hb q => (Heap.get?_update_other _ _ (Ne.symm hb)).trans q) ⟨_, e⟩ ?_
  exact ⟨hz, its', n', r, e⟩
noncomputable def rSetL : V → V → V → Hp → (Hp → Prop) → Prop := fun o i v H Q => ∃ p xs k j, o = .ref p ∧ i = .int k ∧ H p = some (.lst xs) ∧ ixN xs.length k = some j ∧ Q (upd H p (.lst (xs.set j v)))
theorem set_list : PSet X rSetL := by
  intro pins s σ H o i v ov iv u Q I ro ri rv h
  obtain ⟨p, xs, k, j, rfl, rfl, hp, hj, q⟩ := h
  cases ro
  obtain ⟨t, rfl⟩ := ri
  obtain ⟨its, n, r, ho, hz⟩ := I.lst hp
  obtain ⟨h1, h2, h3, h4⟩ := ixN_seq hj
  have hl := r.length
  have hn := line63
  have I' : Inv X pins σ (upd H p (.lst (xs.set j v))) { s with heap := s.heap.update p (Obj.mapSeq (·.setIfInBounds j u)) } :=
    I.lstUpd hp ho (mapSeq_set its n j u) (r.set rv j) (by rw [List.length_set]; exact hz) s.toks
  by_cases h0 : 0 ≤ k
  · have hk : k.toNat = j := by
      rw [seqIndex_of h0 h4] at h1
      exact Option.some.inj h1
    exact PySem.W.ki_setAt ho h0 (by omega) (by rw [List.size_toArray, ← hl]; exact h4) (by rw [hk]; exact ⟨_, I', q⟩)
  · have hk : (k + (its.toArray.size : Int)).toNat = j := by
      rw [seqIndex_neg (by omega) h3] at h1
      rw [List.size_toArray, ← hl]
      exact Option.some.inj h1
    exact PySem.W.ki_setBack ho (by omega) (by rw [List.size_toArray, ← hl]; exact h3) (by omega) (by rw [hk]; exact ⟨_, I', q⟩)
theorem slice_bounds (lo hi : Option Int) (n : Nat) : (sliceBounds lo hi none n).1 = ((HT.sIx n 0 lo : Nat) : Int) ∧ (sliceBounds lo hi none n).2.1 = ((HT.sIx n n hi : Nat) : Int) ∧ (sliceBounds lo hi none n).2.2 = 1 := by
  refine ⟨?_, ?_, rfl⟩
  · cases lo with
    | none => simp [sliceBounds, HT.sIx]
    | some i =>
      simp only [sliceBounds, HT.sIx, Option.getD_none, show (1 : Int) > 0 by decide, if_true]
      by_cases h : i < 0
      · simp only [h, if_true] <;> omega
      · simp only [h, if_false] <;> omega
  · cases hi with
    | none => simp [sliceBounds, HT.sIx]
    | some i =>
      simp only [sliceBounds, HT.sIx, Option.getD_none, show (1 : Int) > 0 by decide, if_true]
      by_cases h : i < 0
      · simp only [h, if_true] <;> omega
      · simp only [h, if_false] <;> omega
theorem slicePick_cut (its : List Value) (lo hi : Option Int) : slicePick its.toArray lo hi none = ((its.drop (HT.sIx its.length 0 lo)).take (HT.sIx its.length its.length hi - HT.sIx its.length 0 lo)).toArray := by
  obtain ⟨h1, h2, h3⟩ := slice_bounds lo hi its.toArray.size
  unfold slicePick
  rw [h1, h2, h3]
  simp only [sliceRange_one, pick_run, List.size_toArray] <;> rfl
noncomputable def rSlL (K : PySem.W.Frag) : V → Option Int → Option Int → Hp → VK → Prop := fun x lo hi H Q => ∃ a xs, x = .ref a ∧ SqL K H a xs ∧ ∀ p, H p = none → Q (.ref p) (upd H p (.lst (cutV xs lo hi)))
theorem sl_list : SlR X (rSlL X.K) := by
  intro pins s σ H x v vl vu lo hi sl Q I rx hs pl pu h
  obtain ⟨a, xs, rfl, hx, q⟩ := h
  cases rx
  obtain ⟨its, r, ht, hz⟩ := I.list hx
  have hlen := r.length
  refine ⟨"list", _, slot_list_getitem.lookup, ht.isList.typeIs, ?_⟩
  refine wpAny_getItem_list_slice ht.isList hs pl pu .none (by simp) ?_ (by rw [List.size_toArray] <;> omega)
  rw [slicePick_cut, ← hlen]
  refine ⟨.ref s.heap.objs.size, _, I.laid (t' := s.toks) (o := .lst (cutV xs lo hi)) (fun b ob q => Heap.get?_push_of_some _ q) (Nat.le_refl _) ?_, rfl, q _ (I.hok.fresh (Nat.le_refl _))⟩
  exact ⟨Nat.le_trans (cutV_length xs lo hi) hz, _, 0, (r.drop (HT.sIx xs.length 0 lo)).take (HT.sIx xs.length xs.length hi - HT.sIx xs.length 0 lo), Heap.get?_push_size _ rfl⟩
noncomputable def flatV : V → Bool
  | .non => true
  | .bl _ => true
  | .int _ => true
  | .str _ => true
  | _ => false
noncomputable def eqV : V → V → Bool
  | .non, .non => true
  | .bl a, .bl b => a == b
  | .bl a, .int b => (if a then 1 else 0) == b
  | .int a, .bl b => a == (if b then 1 else 0)
  | .int a, .int b => a == b
  | .str a, .str b => a == b
  | _, _ => false
theorem eqAt_V {A : Around} {s : Shared} {y x : V} {u v : Value} (ry : RelV y u) (rx : RelV x v) (fy : flatV y = true) (fx : flatV x = true) : SeqAt.EqAt A s u v (eqV y x) := by
  cases y with
  | non =>
    cases ry
    cases x with
    | non => cases rx; exact SeqAt.EqAt.same _
    | bl b => cases rx; exact SeqAt.EqAt.none_bool b
    | int b => obtain ⟨t, rfl⟩ := rx; exact SeqAt.EqAt.none_int b t
    | str b => obtain ⟨t, rfl⟩ := rx; exact SeqAt.EqAt.none_str b t
    | _ => exact absurd (show false = true from fx) Bool.false_ne_true
  | bl a =>
    cases ry
    cases x with
    | non => cases rx; exact SeqAt.EqAt.bool_none a
    | bl b => cases rx; exact SeqAt.EqAt.bool_bool a b
    | int b => obtain ⟨t, rfl⟩ := rx; exact SeqAt.EqAt.bool_int a b t
    | str b => obtain ⟨t, rfl⟩ := rx; exact SeqAt.EqAt.bool_str a b t
    | _ => exact absurd (show false = true from fx) Bool.false_ne_true
  | int a =>
    obtain ⟨t', rfl⟩ := ry
    cases x with
    | non => cases rx; exact SeqAt.EqAt.int_none a t'
    | bl b => cases rx; exact SeqAt.EqAt.int_bool a t' b
    | int b => obtain ⟨t, rfl⟩ := rx; exact SeqAt.EqAt.int_int a t' b t
    | str b => obtain ⟨t, rfl⟩ := rx; exact SeqAt.EqAt.int_str a t' b t
    | _ => exact absurd (show false = true from fx) Bool.false_ne_true
  | str a =>
    obtain ⟨t', rfl⟩ := ry
    cases x with
    | non => cases rx; exact SeqAt.EqAt.str_none a t'
    | bl b => cases rx; exact SeqAt.EqAt.str_bool a t' b
    | int b => obtain ⟨t, rfl⟩ := rx; exact SeqAt.EqAt.str_int a t' b t
    | str b => obtain ⟨t, rfl⟩ := rx; exact SeqAt.EqAt.str_str a t' b t
    | _ => exact absurd (show false = true from fx) Bool.false_ne_true
  | _ => exact absurd (show false = true from fy) Bool.false_ne_true
noncomputable def eqU (x : V) (u : Value) : Bool := match u with
  | .none => eqV .non x
  | .bool b => eqV (.bl b) x
  | .int i _ => eqV (.int i) x
  | .str z _ => eqV (.str z) x
  | _ => false
theorem eqU_of {x y : V} {u : Value} (r : RelV y u) (f : flatV y = true) : eqU x u = eqV y x := by
  cases y with
  | non => cases r; rfl
  | bl b => cases r; rfl
  | int i => obtain ⟨t, rfl⟩ := r; rfl
  | str z => obtain ⟨t, rfl⟩ := r; rfl
  | _ => exact absurd (show false = true from f) Bool.false_ne_true
theorem any_eqU {x : V} : ∀ {xs : List V} {us : List Value}, Vals xs us → xs.all flatV = true → us.any (eqU x) = xs.any fun y => eqV y x
  | _, _, .nil, _ => rfl
  | y :: xs, u :: us, .cons r t, f => by
    rw [List.all_cons, Bool.and_eq_true] at f
    rw [List.any_cons, List.any_cons, eqU_of r f.1, any_eqU t f.2]
theorem mem_eqAt {A : Around} {s : Shared} {x : V} {v : Value} (rx : RelV x v) (fx : flatV x = true) : ∀ {xs : List V} {us : List Value}, Vals xs us → xs.all flatV = true → ∀ u ∈ us, SeqAt.EqAt A s u v (eqU x u)
  | _, _, .nil, _ => fun u hu => by cases hu
  | y :: xs, u :: us, .cons r t, f => fun u' hu => by
    rw [List.all_cons, Bool.and_eq_true] at f
    rcases List.mem_cons.mp hu with rfl | hu
    · rw [eqU_of r f.1]; exact eqAt_V r rx f.1 fx
    · exact mem_eqAt rx fx t f.2 u' hu
noncomputable def inV (x : V) (xs : List V) : Bool := xs.any fun y => eqV y x
noncomputable def rIn (K : PySem.W.Frag) (neg : Bool) : R2 := fun x y H Q => ∃ p xs, y = .ref p ∧ (SqL K H p xs ∨ SqT K H p xs) ∧ flatV x = true ∧ xs.all flatV = true ∧ Q (.bl (if neg then !inV x xs else inV x xs)) H
theorem op_notIn_seq : OpR X (compareOp .NotIn) (rIn X.K true) := by
  intro pins s σ H x y v u Q I rx ry h
  obtain ⟨p, xs, rfl, hq, fx, fs, q⟩ := h
  cases ry
  rcases hq with hq | hq
  · obtain ⟨its, r, pl, hz⟩ := I.list hq
    refine SeqAt.notIn_listAt (eqU x) pl.isList (fun w hw => mem_eqAt rx fx r fs w (by simpa using hw)) ⟨.bl _, H, I, rfl, ?_⟩
    rw [show its.toArray.any (eqU x) = its.any (eqU x) by simp, any_eqU r fs]
    exact q
  · obtain ⟨its, r, pl, hz⟩ := I.tuple hq
    refine SeqAt.notIn_tupleAt (eqU x) pl (fun w hw => mem_eqAt rx fx r fs w (by simpa using hw)) ⟨.bl _, H, I, rfl, ?_⟩
    rw [show its.toArray.any (eqU x) = its.any (eqU x) by simp, any_eqU r fs]
    exact q
theorem call_len_seq : CallR X (.builtin "len") (fun xs H Q => ∃ p ys, xs = [.ref p] ∧ (SqL X.K H p ys ∨ SqT X.K H p ys) ∧ Q (.int ys.length) H) := by
  intro pins s σ H xs us Q I r h
  obtain ⟨p, ys, rfl, hq, q⟩ := h
  obtain ⟨u, rfl, rx⟩ := vals1 r
  cases rx
  have hn := line63
  rcases hq with hq | hq
  · obtain ⟨its, r', pl, hz⟩ := I.list hq
    have hlen := r'.length
    exact Calls.call_len_list pl.isList (by simp only [List.size_toArray] <;> omega) ⟨.int ys.length, H, I.tok _, ⟨s.toks + 1, by rw [List.size_toArray, hlen]⟩, q⟩
  · obtain ⟨its, r', pl, hz⟩ := I.tuple hq
    have hlen := r'.length
    exact len_tuple pl (by simp only [List.size_toArray] <;> omega) ⟨.int ys.length, H, I.tok _, ⟨s.toks + 1, by rw [List.size_toArray, hlen]⟩, q⟩
theorem call_list_of : CallR X (.type "list") (fun xs H Q => ∃ p ys, xs = [.ref p] ∧ (SqL X.K H p ys ∨ SqT X.K H p ys) ∧ ∀ l, H l = none → Q (.ref l) (upd H l (.lst ys))) := by
  intro pins s σ H xs us Q I r h
  obtain ⟨p, ys, rfl, hq, q⟩ := h
  obtain ⟨u, rfl, rx⟩ := vals1 r
  cases rx
  have fin : ∀ (its : List Value), Vals ys its → ys.length ≤ sizeLine → ∀ (h' : Heap) (c' : Nat), (∀ b o', s.heap.get? b = some o' → h'.get? b = some o') →
      h'.get? s.heap.objs.size = some { cls := .type "list", dict := none, data := .seq its.toArray c', slots := #[] } → EP X pins σ Q (.ref s.heap.objs.size) { s with heap := h' } := fun its r' hz h' c' kp e =>
    ⟨.ref s.heap.objs.size, _, I.laid (t' := s.toks) kp (Nat.le_refl _) (show ObjOk X.prog X.w _ h' _ (.lst ys) from ⟨hz, its, c', r', e⟩), rfl, q _ (I.hok.fresh (Nat.le_refl _))⟩
  rcases hq with hq | hq
  · obtain ⟨its, r', pl, hz⟩ := I.list hq
    have hlen := r'.length
    obtain ⟨o, ho, hc, n, hd⟩ := pl.isList
    exact call_list_seq p (.inl rfl) ho hc hd (fun h' c' kp e => fin its r' hz h' c' kp e) (by simp only [List.size_toArray] <;> omega)
  · obtain ⟨its, r', pl, hz⟩ := I.tuple hq
    have hlen := r'.length
    obtain ⟨o, ho, hc, n, hd⟩ := pl
    exact call_list_seq p (.inr rfl) ho hc hd (fun h' c' kp e => fin its r' hz h' c' kp e) (by simp only [List.size_toArray] <;> omega)
theorem call_tuple_of : CallR X (.type "tuple") (fun xs H Q => ∃ p ys, xs = [.ref p] ∧ ((SqL X.K H p ys ∧ ∀ l, H l = none → Q (.ref l) (upd H l (.tup ys))) ∨ (SqT X.K H p ys ∧ Q (.ref p) H))) := by
  intro pins s σ H xs us Q I r h
  obtain ⟨p, ys, rfl, h⟩ := h
  obtain ⟨u, rfl, rx⟩ := vals1 r
  cases rx
  rcases h with ⟨hq, q⟩ | ⟨hq, q⟩
  · obtain ⟨its, r', pl, hz⟩ := I.list hq
    have hlen := r'.length
    refine call_tuple_list pl.isList (fun h' kp => ?_) (by simp only [List.size_toArray] <;> omega)
    have I1 : Inv X pins σ H { s with heap := h' } := I.kept (t' := s.toks) kp
    have I2 : Inv X pins σ (upd H h'.objs.size (.tup ys)) { s with heap := h'.push { cls := .type "tuple", data := .seq its.toArray } } :=
      I1.laid (t' := s.toks) (fun b o e => Heap.get?_push_of_some _ e) (Nat.le_refl _) (show ObjOk X.prog X.w _ _ _ (.tup ys) from ⟨hz, its, r', IsTup.new _ _, _, Heap.get?_push_size _ rfl, rfl⟩)
    exact ⟨.ref h'.objs.size, _, I2, rfl, q _ (I1.hok.fresh (Nat.le_refl _))⟩
  · obtain ⟨its, r', pl, hz⟩ := I.tuple hq
    exact call_tuple_same pl ⟨.ref p, H, I, rfl, q⟩
noncomputable def tyV (K : PySem.W.Frag) (T : String) (x : V) (H : Hp) : Prop := match x with
  | .str _ => T = "str"
  | .int _ => T = "int"
  | .ref p => (T = "list" ∧ ∃ xs, SqL K H p xs) ∨ (T = "tuple" ∧ ((∃ o, K.lookup p = some o ∧ o.cls = .type "tuple" ∧ o.dict = none) ∨ ∃ xs, H p = some (.tup xs))) ∨
      (T = "dict" ∧ ((∃ kvs, H p = some (.dK kvs)) ∨ ∃ kvs, H p = some (.dT kvs))) ∨ (T = "set" ∧ ∃ S n, H p = some (.set S n))
  | _ => False
theorem tyV_is {pins : List (Addr × Obj)} {σ : St} {H : Hp} {s : Shared} {T : String} {x : V} {v : Value} (I : Inv X pins σ H s) (r : RelV x v) (ty : tyV X.K T x H) :
    s.TypeIs v T ∧ ∀ a, v = .ref a → ∃ ob, s.heap.get? a = some ob ∧ ob.dict = none := by
  cases x with
  | str z =>
    obtain ⟨t, rfl⟩ := r
    cases (show T = "str" from ty)
    exact ⟨typeIs_str s z t, fun _ e => nomatch e⟩
  | int i =>
    obtain ⟨t, rfl⟩ := r
    cases (show T = "int" from ty)
    exact ⟨typeIs_int s i t, fun _ e => nomatch e⟩
  | ref p =>
    cases r
    rcases ty with ⟨rfl, xs, hq⟩ | ⟨rfl, ⟨o, hk, hc, hd⟩ | ⟨xs, hq⟩⟩ | ⟨rfl, hk⟩ | ⟨rfl, S, n, hk⟩
    · obtain ⟨its, _, pl, _⟩ := I.list hq
      refine ⟨pl.isList.typeIs, fun a e => ?_⟩
      cases e
      obtain ⟨o, n, e, c, hd, _⟩ := pl
      exact ⟨o, e, hd⟩
    · refine ⟨⟨o, I.kIn p o hk, hc⟩, fun a e => ?_⟩
      cases e
      exact ⟨o, I.kIn _ o hk, hd⟩
    · obtain ⟨_, _, _, p1, o2, e2, d2⟩ := I.hok p _ hq
      refine ⟨p1.typeIs, fun a e => ?_⟩
      cases e
      exact ⟨o2, e2, d2⟩
    · have z : ∃ o, s.heap.get? p = some o ∧ o.ExactDict := by
        rcases hk with ⟨kvs, hk⟩ | ⟨kvs, hk⟩
        · obtain ⟨_, _, _, _, o, _, _, e, ex, _⟩ := I.hok p _ hk
          exact ⟨o, e, ex⟩
        · obtain ⟨_, _, _, _, o, _, _, e, ex, _⟩ := I.hok p _ hk
          exact ⟨o, e, ex⟩
      obtain ⟨o, e, ex⟩ := z
      refine ⟨⟨o, e, ex.1⟩, fun a e2 => ?_⟩
      cases e2
      exact ⟨o, e, ex.2.1⟩
    · obtain ⟨o, _, _, _, e, ex, _⟩ := I.hok p _ hk
      refine ⟨⟨o, e, ex.1⟩, fun a e2 => ?_⟩
      cases e2
      exact ⟨o, e, ex.2.1⟩
  | _ => exact False.elim ty
noncomputable def tBM0 (K : PySem.W.Frag) (T : String) (r : V → List V → Hp → VK → Prop) (to : TE) : TE := fun σ H Q => to σ H fun x H1 => tyV K T x H1 ∧ r x [] H1 Q
variable {o e : Expr} {es : List Expr} {to : TE} {t : TA} {name : Str} {apos cpos : Pos} {T id : String} {r : V → List V → Hp → VK → Prop}
theorem pe_bm0 (pa : PlainAttrs T) (slot : Slot T name id) (hty : typeOf (.builtin id) = pure (.type "method_descriptor")) (hm : MtR X id r) (ho : PE X o to)
    (hbase : attributeBase o name X.env (eval o X.env) = eval o X.env := by rfl) (hline : (apos.endLine == cpos.line) = true := by rfl) : PE X (.Call (.Attribute o name apos) [] [] cpos) (tBM0 X.K T r to) := by
  intro pins s σ H Q I h
  refine wpAny_Call_method0_late hbase hline (thn (ho pins s σ H _ I h) fun v s1 zq => ?_)
  obtain ⟨x, H1, I1, r1, ty, q1⟩ := zq
  obtain ⟨h1, h2⟩ := tyV_is I1 r1 ty
  exact ⟨T, id, pa, slot, hty, h1, h2, Calls.callWith_builtin rfl (PySem.evalArgs_none (hm pins s1 σ H1 x [] v [] Q I1 r1 .nil q1))⟩
end
end L2
namespace L2
open PySem PySem.Spec PyProof.Rows
noncomputable def MtM (X : Cx) (id : String) (r : V → List V → Hp → VK → Prop) : Prop :=
  ∀ (pins : List (Addr × Obj)) (s : Shared) (σ : St) (H : Hp) (x : V) (xs : List V) (v : Value) (us : List Value) (Q : VK), Inv X pins σ H s → RelV x v → Vals xs us → r x xs H Q →
    wpAny (model X.prog X.w) X.A (call (.builtin id) (v :: us)) (EP X pins σ Q) X.xe s
theorem Vals.zero : ∀ {us : List Value}, Vals [] us → us = []
  | _, .nil => rfl
theorem Vals.rep {xs : List V} {us : List Value} (h : Vals xs us) : ∀ k : Nat, Vals (List.replicate k xs).flatten (List.replicate k us).flatten
  | 0 => .nil
  | k + 1 => by
    rw [List.replicate_succ, List.replicate_succ, List.flatten_cons, List.flatten_cons]
    exact Vals.append h (Vals.rep h k)
theorem foldl_rep (its : List Value) : ∀ (k : Nat) (acc : List Value),
    List.foldl (fun x1 x2 => x1 ++ x2) acc.toArray (List.replicate k its.toArray) = (acc ++ (List.replicate k its).flatten).toArray
  | 0, acc => by simp
  | k + 1, acc => by
    have e : acc.toArray ++ its.toArray = (acc ++ its).toArray := by simp
    have e2 : (acc ++ its) ++ (List.replicate k its).flatten = acc ++ (List.replicate (k + 1) its).flatten := by
      rw [List.replicate_succ, List.flatten_cons, List.append_assoc]
    rw [← e2, ← foldl_rep its k (acc ++ its), ← e, List.replicate_succ, List.foldl_cons]
section
variable {X : Cx} {pins : List (Addr × Obj)} {σ : St} {H : Hp} {s : Shared} {l b : Addr} {xs ys zs : List V}
theorem Inv.lset {its its' : List Value} {n : Nat} {f : Array Value → Array Value} {t' : Nat} (I : Inv X pins σ H s) (hH : H l = some (.lst xs))
    (e : s.heap.get? l = some { cls := .type "list", data := .seq its.toArray n }) (hf : f its.toArray = its'.toArray) (hv : Vals ys its') (hz : ys.length ≤ sizeLine) :
    Inv X pins σ (upd H l (.lst ys)) { s with heap := s.heap.update l (Obj.mapSeq f), toks := t' } := by
  have q := PySem.IsL.update e f
  rw [hf] at q
  refine I.write (x := l) (e := l) (by rw [hH]; exact trivial) (.inl rfl) (fun b' u hb hu => (Heap.get?_update_other s.heap (Obj.mapSeq f) (Ne.symm hb)).trans hu) ⟨_, q⟩ ?_
  exact ⟨hz, its', _, hv, q⟩
theorem Inv.lnew {its : List Value} {t' : Nat} (I : Inv X pins σ H s) (hv : Vals ys its) (hz : ys.length ≤ sizeLine) :
    Inv X pins σ (upd H s.heap.objs.size (.lst ys)) { s with heap := s.heap.push { cls := .type "list", data := .seq its.toArray }, toks := t' } :=
  I.laid (fun _ _ q => Heap.get?_push_of_some _ q) (Nat.le_refl _) ⟨hz, its, 0, hv, Heap.get?_push_size _ rfl⟩
theorem Inv.fresh (I : Inv X pins σ H s) : H s.heap.objs.size = none := I.hok.fresh (Nat.le_refl _)
theorem Inv.lstM (I : Inv X pins σ H s) (hH : H l = some (.lst xs)) : xs.length ≤ sizeLine ∧ ∃ (its : List Value) (n : Nat), Vals xs its ∧ xs.length = its.length ∧ s.heap.get? l = some { cls := .type "list", data := .seq its.toArray n } := by
  obtain ⟨z, its, n, r, e⟩ := I.hok l _ hH
  exact ⟨z, its, n, r, r.length, e⟩
theorem notLongL {n : Nat} (h : n ≤ sizeLine) : Builtin.List.listTooLong n = false := by
  unfold Builtin.List.listTooLong
  exact decide_eq_false (by omega)
end
section
variable {X : Cx}
noncomputable def rClear : V → List V → Hp → VK → Prop := fun x vs H Q => ∃ l xs, x = .ref l ∧ vs = [] ∧ H l = some (.lst xs) ∧ Q .non (upd H l (.lst []))
theorem mt_clear : MtM X "list.clear" rClear := by
  intro pins s σ H x vs v us Q I rx rv h
  obtain ⟨l, xs, rfl, rfl, hH, q⟩ := h
  cases rx
  have hus := rv.zero
  subst hus
  obtain ⟨z, its, n, r, hl, e⟩ := I.lstM hH
  refine call_meets F.slot_list_clear ⟨_, e, rfl⟩ F.entry_list_clear (F.args_list_clear_1 _) (AutoSeq1.list_clear_list_0 l its.toArray n (by rw [List.size_toArray]; omega)) ⟨e, ?_⟩
  exact ⟨.non, _, I.lset (its' := []) (ys := []) hH e rfl .nil (Nat.zero_le _), rfl, q⟩
noncomputable def rCat : R2 := fun x y H Q => ∃ l b xs zs, x = .ref l ∧ y = .ref b ∧ H l = some (.lst xs) ∧ H b = some (.lst zs) ∧ xs.length + zs.length ≤ sizeLine ∧ ∀ p, H p = none → Q (.ref p) (upd H p (.lst (xs ++ zs)))
theorem op_cat : OpR X (binaryOp .Add) rCat := by
  intro pins s σ H x y v u Q I rx ry h
  obtain ⟨l, b, xs, zs, rfl, rfl, hH, hB, hz, q⟩ := h
  cases rx
  cases ry
  obtain ⟨z, its, n, r, hl, e⟩ := I.lstM hH
  obtain ⟨z2, its2, n2, r2, hl2, e2⟩ := I.lstM hB
  refine PySem.P.add_list e e2 ?_ (by rw [List.size_toArray, List.size_toArray]; omega)
  have ea : its.toArray ++ its2.toArray = (its ++ its2).toArray := by simp
  rw [ea]
  exact ⟨.ref _, _, I.lnew (t' := s.toks) (r.append r2) (by rw [List.length_append]; omega), rfl, q _ I.fresh⟩
noncomputable def rRep : R2 := fun x y H Q => ∃ l k xs, x = .ref l ∧ y = .int k ∧ H l = some (.lst xs) ∧ -(2 ^ 63) ≤ k ∧ k < 2 ^ 63 ∧ xs.length * k.toNat ≤ sizeLine ∧
  ∀ p, H p = none → Q (.ref p) (upd H p (.lst (List.replicate k.toNat xs).flatten))
theorem len_rep {α : Type} (xs : List α) (k : Nat) : (List.replicate k xs).flatten.length = k * xs.length := by
  induction k with
  | zero => simp
  | succ k ih => rw [List.replicate_succ, List.flatten_cons, List.length_append, ih, Nat.succ_mul, Nat.add_comm]
theorem op_rep : OpR X (binaryOp .Mult) rRep := by
  intro pins s σ H x y v u Q I rx ry h
  obtain ⟨l, k, xs, rfl, rfl, hH, h1, h2, hz, q⟩ := h
  cases rx
  obtain ⟨t, rfl⟩ := ry
  obtain ⟨z, its, n, r, hl, e⟩ := I.lstM hH
  have hlen : its.toArray.size * k.toNat ≤ sizeLine := by rw [List.size_toArray, ← hl]; exact hz
  have hcap : ¬ its.toArray.size * k.toNat > (2 ^ 63 - 1) / 8 := by
    have : (sizeLine : Nat) ≤ (2 ^ 63 - 1) / 8 := by decide
    omega
  have hfit : ¬ (!Builtin.List.listFitsIndex k) = true := by
    rw [fitsIndex_both h1 h2]
    exact Bool.false_ne_true
  have hlong : ¬ Builtin.List.listTooLong (its.toArray.size * k.toNat) = true := by
    rw [notLongL hlen]
    exact Bool.false_ne_true
  have hnew : List.foldl (fun x1 x2 => x1 ++ x2) #[] (List.replicate (if its.toArray.isEmpty = true then 0 else k.toNat) its.toArray) = (List.replicate k.toNat its).flatten.toArray := by
    have f0 : ∀ m : Nat, List.foldl (fun x1 x2 => x1 ++ x2) #[] (List.replicate m its.toArray) = (List.replicate m its).flatten.toArray := fun m => by
      have := foldl_rep its m []
      rw [List.nil_append] at this
      exact this
    rw [f0]
    cases its with
    | nil => simp
    | cons a r' => rw [if_neg (by simp)]
  refine wpAny_binaryOp_repeat_ref (T := "list") (U := "int") (by decide) ⟨_, e, rfl⟩ (fun s' => typeIs_int s' k t) noFill_list_mul F.fills_int_mul F.slot_int_rmul repeat_list F.slot_int_index.lookup
    (call_meets F.slot_int_rmul (typeIs_int s k t) F.entry_int_rmul (F.args_int_rmul_2 _ _) (int___rmul___int_list k t l its.toArray n)
      ⟨e, rfl, ⟨_, e, rfl⟩, call_meets F.slot_list_mul ⟨_, e, rfl⟩ F.entry_list_mul (F.args_list_mul_2 _ _) (AutoListH.list___mul___list_int_3 l its.toArray n k t hfit hcap hlong) ⟨e, ?_⟩⟩)
  rw [hnew]
  exact ⟨.ref _, _, I.lnew (t' := s.toks) (r.rep k.toNat) (by rw [len_rep, Nat.mul_comm]; exact hz), rfl, q _ I.fresh⟩
end
section
variable {prog : Program} {w : World} {A : Around} {E : Value → Shared → Prop} {s : Shared}
end
section
variable {X : Cx}
end
end L2
namespace Att
open PySem PySem.W PySem.Calls PyProof.Rows
theorem ints_of_wellAll {P : Params} {h : Heap} : ∀ (ns : List Int) (vs : List Value), WellAll P h vs (ns.map WData.int) → IntsAre vs ns := by
  intro ns
  induction ns with
  | nil =>
    intro vs w
    rw [List.map_nil] at w
    cases w
    exact .nil
  | cons n ns ih =>
    intro vs w
    rw [List.map_cons] at w
    cases w with
    | cons a b =>
      cases a
      exact .cons _ _ (ih _ b)
theorem script_of {l : OpenLaw} {n : Nat} (hn : l.most = some n) {P : Params} {h : Heap} {args : List WData} {vals : List Value}
    (hpre : l.row.toRowW.claim.pre args = true) (hwl : WellAll P h vals args) :
    ∃ a vs ns, vals = [Value.ref a] ∧ args = [WData.list (ns.map WData.int)] ∧ h.get? a = some { cls := .type "list", data := .seq vs.toArray } ∧ IntsAre vs ns ∧ ns.length ≤ n := by
  have hsh : WShape.hasAll [] args [.list .int] = true := (pre_splitW hpre).1
  have hc : l.pre.holds [] { args := args } = true := (pre_splitW hpre).2
  obtain ⟨d, r, rfl, h1, h2⟩ := hasAllW_cons hsh
  obtain rfl := hasAllW_nil h2
  obtain ⟨xs, rfl, h3⟩ := hasW_list h1
  obtain ⟨ns, rfl⟩ := items_int h3
  have hlen : ns.length ≤ n := by
    unfold OpenLaw.pre at hc
    have h4 : (WTm.not (.lt (.lit (.int (n : Int))) (.len (.arg 0)))).holds [] { args := [.list (ns.map .int)] } = true := by
      have h4 := (holds_andW hc).1
      rw [hn] at h4
      exact h4
    have h5 := condW_of h4 (w_not (w_lt w_lit (w_len_list (w_arg rfl))))
    rw [List.length_map] at h5
    refine Nat.le_of_not_lt fun q => ?_
    have q' : (n : Int) < ((ns.length : Nat) : Int) := by omega
    first
      | (rw [decide_eq_true q'] at h5; exact absurd h5 (by decide))
      | (simp at h5; omega)
  cases hwl with
  | cons w1 w2 =>
    cases w2
    cases w1 with
    | list ho hall => exact ⟨_, _, ns, rfl, rfl, ho, ints_of_wellAll ns _ hall, hlen⟩
theorem post_true (l : OpenLaw) (args : List WData) : l.row.toRowW.claim.post args (.bool true) args = true :=
  postW_of (r := l.row.toRowW) (X := (true == true))
    (show WShape.has [] (.bool true) .bool = true by first | rfl | decide | simp [WShape.has, WShape.arms, WShape.armsAll])
    (show (WTm.eq .res (.lit (.bool true))).value [] { args := args, res := some (.bool true), after := args } = some (.bool (true == true)) from w_eq_bool (w_res rfl) w_lit) rfl
theorem attach_call {l : OpenLaw} {n : Nat} {q : Program} {loose : List Str} {XP : (Str → Option Value) → Heap → Prop} {YP : World → Heap → Prop} {d : DefRec}
    (hn : l.most = some n) (hdf : d.params.defaults = [])
    (call : ∀ (w : World) (s₀ s₁ : Shared) (mg mb : Str → Option Value) (fa : Addr) (o : Obj) (pm cd doc : Value) (a : Addr) (vs : List Value) (ns : List Int),
      Ground q loose [] XP w s₀ mg mb s₁.heap → YP w s₁.heap →
      s₁.heap.get? fa = some o → o.data = .func (docDef d.name d.params d.body d.scope pm cd doc) → s₁.heap.CodeRec cd d.name → mg d.name = some (.ref fa) →
      s₁.heap.get? a = some { cls := .type "list", data := .seq vs.toArray } → IntsAre vs ns → ns.length ≤ n → s₁.gens = #[] →
      codeAny (model l.prog w) callerA (.call (.ref fa) ⟨[.ref a], []⟩) (fun r s' => r = .ok (.ret (.bool true)) ∧ OldK s₁.heap s'.heap ∧ s'.os = s₁.os ∧ AllBare s'.gens) s₁) :
    WalkO q loose XP YP l.row.toRowW d [] (fun f vs => PySem.call f vs) := by
  intro w s₀ s₁ mg mb G Y fa o pm cd doc dV kV ho hd hcd hD hmg hg args vals as hpre hlay hrd hwl hlo
  obtain rfl : dV = .none := Dflts.none hD hdf
  obtain rfl : kV = .none := Dflts.noKw hD
  obtain ⟨a, vs, ns, rfl, rfl, hobj, hints, hlen⟩ := script_of hn hpre hwl
  refine enter_call (codeAny_mono (call w s₀ s₁ mg mb fa o pm cd doc a vs ns G Y ho (fd_plain hd) hcd hmg hobj hints hlen hg) fun r s' hq => ?_)
  obtain ⟨rfl, h2, h3, h4⟩ := hq
  exact ⟨.inl ⟨.bool true, .bool true, [], rfl, fun _ => rfl, .bool true, post_true l _, fun _ => ⟨List.Pairwise.nil, fun _ hm => (nomatch hm)⟩⟩, h2, h3, h4⟩
section
variable {prog : Program} {w : World} {A : Around} {E : Value → Shared → Prop} {s : Shared} {K : Frag}
end
end Att
namespace L2
open PySem PySem.Spec PyProof.Rows
theorem vals_ints : ∀ {vs : List Value} {ns : List Int}, IntsAre vs ns → Vals (ns.map V.int) vs
  | _, _, .nil => .nil
  | _, _, .cons n t h => .cons ⟨t, rfl⟩ (vals_ints h)
noncomputable def Only (H : Hp) : Prop := ∀ b, H b = none ∨ ∃ o xs, H b = some (.frz o (.lst xs))
theorem law_call {P : Program} {w : World} {K : PySem.W.Frag} {mg mb : Str → Option Value} {CX : CXT} {k : Nat} {fa a : Addr} {fd : FuncData} {x : Str} {sp : Sp} {s₁ : Shared} {vs : List Value} {ns : List Int}
    (KX : K.In s₁.heap) (hns : s₁.heap.Ns mainGlobals mg) (hb : s₁.heap.Ns builtinsNs mb) (hbb : ∀ x : Str, x ≠ "__name__" → mb x = bootBuiltins x) (hlim : s₁.heap.NoLimit) (hg : s₁.gens = #[])
    (ha : s₁.heap.get? a = some { cls := .type "list", data := .seq vs.toArray }) (hi : IntsAre vs ns) (hl : ns.length ≤ sizeLine) (hr : Room k callerA)
    (F : ∀ base : Heap, K.In base → base.Ns mainGlobals mg → FnOk P w K mg base CX k fa fd [x] sp) (hbind : ∀ (s : Shared) (u : Value), BindsTo s fd ⟨[u], []⟩ [(x, u)])
    (hsp : ∀ H : Hp, Only H → SqL K H a (ns.map V.int) → sp [.ref a] H (fun v _ => v = .bl true) fun _ _ _ => False)
    (hCX : ∀ H e s', CX [] H s₁ (fun _ _ _ => False) e s' → False) :
    codeAny (model P w) callerA (.call (.ref fa) ⟨[.ref a], []⟩) (fun r s' => r = .ok (.ret (.bool true)) ∧ OldK s₁.heap s'.heap ∧ s'.os = s₁.os ∧ AllBare s'.gens) s₁ := by
  have rv := vals_ints hi
  have lenV := hi.length
  -- from an abstract heap in which nothing but the script may be tracked
  have core : ∀ H : Hp, Only H → SqL K H a (ns.map V.int) → HOk P w H s₁.heap → (∀ b, H b ≠ none → b = a) → (H a ≠ none → K.lookup a = none) →
      codeAny (model P w) callerA (.call (.ref fa) ⟨[.ref a], []⟩) (fun r s' => r = .ok (.ret (.bool true)) ∧ OldK s₁.heap s'.heap ∧ s'.os = s₁.os ∧ AllBare s'.gens) s₁ := by
    intro H hO hS hok hA hK
    have base_of : ∀ {b : Addr} {o : Obj}, s₁.heap.get? b = some o → H b = none → (hidT s₁.heap H).get? b = some o := fun e n => hidT_get e n
    have noA : ∀ {b : Addr} {o : Obj} {es : Array DictEntry} {ep : Nat}, s₁.heap.get? b = some o → o.data = .dict es ep → H b = none := fun {b o es ep} e d => by
      cases q : H b with
      | none => rfl
      | some u =>
        have e' : b = a := hA b (by rw [q]; simp)
        subst e'
        rw [ha] at e; cases e
        have d' : Data.seq vs.toArray _ = Data.dict es ep := d
        cases d'
    have nsK : ∀ {b : Addr} {m : Str → Option Value}, s₁.heap.Ns b m → (hidT s₁.heap H).Ns b m := fun {b m} ⟨o, es, ep, e, d, r⟩ => ⟨o, es, ep, base_of e (noA e d), d, r⟩
    have hKb : K.In (hidT s₁.heap H) := fun b o e => base_of (KX b o e) (by
      cases q : H b with
      | none => rfl
      | some u =>
        have e' : b = a := hA b (by rw [q]; simp)
        subst e'
        rw [hK (by rw [q]; simp)] at e; cases e)
    have hM : Mod K mg (hidT s₁.heap H) := ⟨hKb, nsK hns, ⟨mb, nsK hb, hbb⟩, let ⟨mc, h1, h2⟩ := hlim; ⟨mc, nsK h1, h2⟩⟩
    have e0 : Env0 P w K mg (hidT s₁.heap H) callerA [] s₁ H := ⟨rfl, hM, fun b o e => of_hidT e, Nat.le_of_eq (hidT_size _ _), trivial, fun b hb => absurd (show b ∈ ([] : List Addr) from hb) (by simp), hok, .of_eq hg⟩
    refine codeAny_mono ((F _ hKb (nsK hns)).run callerA [] s₁ H ⟨[.ref a], []⟩ [.ref a] [.ref a] _ _ hr e0 (hbind s₁ (.ref a)) (.cons rfl .nil) (hsp H hO hS)) fun r s' h => ?_
    cases r with
    | error e => exact (hCX H e s' h).elim
    | ok fl =>
      cases fl with
      | next => exact False.elim h
      | brk => exact False.elim h
      | cont => exact False.elim h
      | ret u =>
        obtain ⟨v, H', os, bare, un, hok', r', q⟩ := h
        have q' : v = .bl true := q
        subst q'
        obtain rfl : u = Value.bool true := r'
        refine ⟨rfl, OldK.of_keep fun b o e => ?_, os, bare⟩
        cases q : H b with
        | none => exact un.keep b o e q (by intro z; exact absurd (show b ∈ ([] : List Addr) from z) (by simp)) (by simp)
        | some u =>
          rcases hO b with z | ⟨ob, xs, z⟩
          · rw [q] at z; cases z
          · have z2 := un.frzs b ob _ z
            obtain ⟨e1, _⟩ := hok b _ z
            obtain ⟨e2, _⟩ := hok' b _ z2
            rw [e] at e1; cases e1
            exact e2
  cases hk : K.lookup a with
  | some o =>
    -- the script is one of the module's own objects
    have e := KX a o hk
    rw [ha] at e
    cases e
    refine core (fun _ => none) (fun _ => .inl rfl) (.inr ⟨_, vs.toArray, _, hk, rfl, rfl, rfl, by rw [List.size_toArray, lenV]; exact hl, by simpa using rv⟩) (fun b u z => by have z' : (none : Option HO) = some u := z; cases z') (fun b z => absurd rfl z) fun z => absurd rfl z
  | none =>
    refine core (fun b => if b = a then some (.frz { cls := .type "list", data := .seq vs.toArray } (.lst (ns.map V.int))) else none) (fun b => ?_) (.inl (.inr ⟨{ cls := .type "list", data := .seq vs.toArray }, if_pos rfl⟩)) (fun b u z => ?_) (fun b z => ?_) fun _ => hk
    · by_cases hb : b = a
      · exact .inr ⟨_, _, if_pos hb⟩
      · exact .inl (if_neg hb)
    · by_cases hb : b = a
      · have z' := (if_pos hb).symm.trans z
        cases z'
        subst hb
        exact ⟨ha, by rw [List.length_map]; exact hl, vs, _, rv, ha⟩
      · have z' := (if_neg hb).symm.trans z
        cases z'
    · by_cases hb : b = a
      · exact hb
      · exact absurd (if_neg hb) z
end L2
namespace L2
open PySem PySem.Spec PyProof.Rows
theorem walk_of {l : PySem.W.OpenLaw} {n k : Nat} {q : Program} {loose : List Str} {XP : (Str → Option Value) → Heap → Prop} {YP : World → Heap → Prop} {d : DefRec} {K : Params → PySem.W.Frag} {CX : World → CXT} {sp : World → Sp} {x : Str}
    (hn : l.most = some n) (hn2 : n ≤ sizeLine) (hdf : d.params.defaults = []) (hr : Room k callerA)
    (hY : ∀ (w : World) (h : Heap), YP w h → (K w.params).In h)
    (F : ∀ (w : World) (mg : Str → Option Value) (fa : Addr) (h : Heap), (K w.params).In h → h.Ns mainGlobals mg → mg d.name = some (.ref fa) →
      ∃ fd : FuncData, (∀ (s : Shared) (u : Value), BindsTo s fd ⟨[u], []⟩ [(x, u)]) ∧
        ∀ base : Heap, (K w.params).In base → base.Ns mainGlobals mg → FnOk l.prog w (K w.params) mg base (CX w) k fa fd [x] (sp w))
    (hsp : ∀ (w : World) (H : Hp) (a : Addr) (ns : List Int), ns.length ≤ n → Only H → SqL (K w.params) H a (ns.map V.int) → sp w [.ref a] H (fun v _ => v = .bl true) fun _ _ _ => False)
    (hCX : ∀ (w : World) (H : Hp) (s : Shared) (e : Value) (s' : Shared), CX w [] H s (fun _ _ _ => False) e s' → False) :
    PySem.W.WalkO q loose XP YP l.row.toRowW d [] (fun f vs => PySem.call f vs) := by
  refine Att.attach_call hn hdf fun w s₀ s₁ mg mb fa o pm cd doc a vs ns G Y ho hd hcd hmg hobj hints hlen hg => ?_
  have KX := hY w _ Y
  obtain ⟨fd, hb, hF⟩ := F w mg fa _ KX G.T.g hmg
  exact law_call KX G.T.g G.T.b G.T.builtins G.T.nolimit hg hobj hints (Nat.le_trans hlen hn2) hr hF hb (fun H hO hS => hsp w H a ns hlen hO hS) fun H e s' => hCX w H s₁ e s'
end L2
namespace L2
open PySem PySem.Spec PyProof.Rows
noncomputable def defArgs (s : Stmt) : Arguments := match s with
  | .FunctionDef _ a _ _ _ _ _ _ _ _ => a
  | _ => { posonlyargs := [], args := [], vararg := none, kwonlyargs := [], kw_defaults := [], kwarg := none, defaults := [] }
noncomputable def defBody (s : Stmt) : List Stmt := match s with
  | .FunctionDef _ _ b _ _ _ _ _ _ _ => b
  | _ => []
noncomputable def defScope (s : Stmt) : Scope := match s with
  | .FunctionDef _ _ _ _ _ _ sc _ _ _ => sc
  | _ => { kind := .function, names := [], isGenerator := false, isCoroutine := false }
noncomputable abbrev CX0 : CXT := fun _ _ _ _ _ _ => False
noncomputable abbrev E0 : XK := fun _ _ _ => False
theorem pass0 {X : Cx} : Passes CX0 X E0 := fun _ _ _ _ _ _ _ h => h.elim
structure Fun (K : PySem.W.Frag) (x qual : Str) (st : Stmt) (f : Addr) (fd : FuncData) : Prop where
  ex : ∃ (oc : Value) (od : Option Addr) (kV doc pm : Value) (an : Option Addr) (cdv ct : Value) (osl : Array (Option Value)),
    fd = PySem.W.fnOf x qual (defArgs st) (defBody st) (defScope st) .none kV doc pm an cdv ct ∧ K.lookup f = some ⟨oc, od, .func fd, osl⟩ ∧ PySem.W.codeIn K cdv qual = true
  kp : PySem.W.keepIn K (.ref f) = true
section
variable {P : Program} {w : World} {K : PySem.W.Frag} {mg : Str → Option Value} {base : Heap}
theorem Fun.ok {x qual : Str} {st : Stmt} {f : Addr} {fd : FuncData} {N ps : List Str} {k : Nat} {sp : Sp} (F : Fun K x qual st f fd) (S : FnScope N ps (defScope st)) (len : ∀ vs H Q E, sp vs H Q E → vs.length = ps.length)
    (hbody : ∀ (cdv : Value) (A : Around) (outer : List Env) (s : Shared) (H : Hp) (vs : List V) (Q : VK) (E : XK), Room k (A.deeper (envOfC qual (defScope st) s.heap.objs.size f cdv)) → sp vs H Q E →
      ∃ t, PSs (cxOf CX0 P w K mg base N qual (defScope st) f cdv A outer s H E).nox (defBody st) t ∧ t { nx := fun _ H' => Q .non H', rt := Q } (start N vs) H) : FnOk P w K mg base CX0 (k + 1) f fd ps sp := by
  obtain ⟨oc, od, kV, doc, pm, an, cdv, ct, osl, rfl, lk, hcd⟩ := F.ex
  refine fn_of lk hcd S len fun A outer s H vs Q E hr hsp => ?_
  obtain ⟨t, h, q⟩ := hbody cdv A outer s H vs Q E hr hsp
  exact ⟨t, h.nox, q⟩
theorem Fun.binds {x qual : Str} {st : Stmt} {f : Addr} {fd : FuncData} {ps : List Str} (F : Fun K x qual st f fd)
    (h : ∀ (kV doc pm : Value) (an : Option Addr) (cdv ct : Value) (us : List Value), us.length = ps.length → bindArgs (PySem.W.fnOf x qual (defArgs st) (defBody st) (defScope st) .none kV doc pm an cdv ct) ⟨us, []⟩ = pure (ps.zip us)) : Binds K fd ps [] := by
  obtain ⟨oc, od, kV, doc, pm, an, cdv, ct, osl, rfl, lk, hcd⟩ := F.ex
  exact .all (h kV doc pm an cdv ct)
theorem fun_mk {x qual : Str} {st : Stmt} {f : Addr} {oc : Value} {od an : Option Addr} {osl : Array (Option Value)} {kV doc pm cdv ct : Value} (l : K.lookup f = some ⟨oc, od, .func (PySem.W.fnOf x qual (defArgs st) (defBody st) (defScope st) .none kV doc pm an cdv ct), osl⟩)
    (c : PySem.W.codeIn K cdv qual = true) (k : PySem.W.keepIn K (.ref f) = true) : Fun K x qual st f (PySem.W.fnOf x qual (defArgs st) (defBody st) (defScope st) .none kV doc pm an cdv ct) := ⟨⟨oc, od, kV, doc, pm, an, cdv, ct, osl, rfl, l, c⟩, k⟩
end
section
variable {X : Cx}
theorem pv (i : Nat) {x : Str} {pos : Pos} (hN : X.N[i]? = some x := by rfl) (hv : Vis X.env.scope x := by first | exact Or.inl rfl | exact Or.inr (Or.inl rfl) | exact Or.inr (Or.inr rfl)) (hd : (x == ("__debug__" : Str)) = false := by decide)
    (hcd : (x == ("__classdict__" : Str)) = false := by decide) : PE X (.Name x pos) (tVar i) := pe_var hN hv hd hcd
end
end L2
set_option Elab.async false
set_option linter.all false
set_option maxRecDepth 100000
namespace L2
open PySem PySem.Spec PyProof.Rows
section
variable {κ : Type} [DecidableEq κ]
noncomputable def putK (kvs : List (κ × V)) (k : κ) (v : V) : List (κ × V) :=
  if (kvs.any fun kv => decide (kv.1 = k)) = true then kvs.map (fun kv => if kv.1 = k then (kv.1, v) else kv) else kvs ++ [(k, v)]
theorem length_putK (kvs : List (κ × V)) (k : κ) (v : V) : (putK kvs k v).length ≤ kvs.length + 1 := by
  unfold putK
  split
  · rw [List.length_map]; omega
  · rw [List.length_append, List.length_cons, List.length_nil]; omega
theorem KV.any {kvs : List (κ × V)} {vs : List (κ × Value)} (r : KV kvs vs) (k : κ) : (kvs.any fun kv => decide (kv.1 = k)) = vs.any fun kv => decide (kv.1 = k) := by
  unfold KV at r
  induction r with
  | nil => rfl
  | cons h t ih => rw [List.any_cons, List.any_cons, ih, h.1]
theorem KV.repl {kvs : List (κ × V)} {vs : List (κ × Value)} (r : KV kvs vs) (k : κ) {y : V} {u : Value} (ry : RelV y u) :
    KV (kvs.map fun kv => if kv.1 = k then (kv.1, y) else kv) (vs.map fun kv => if kv.1 = k then (kv.1, u) else kv) := by
  unfold KV at r ⊢
  induction r with
  | nil => exact .nil
  | @cons p q ps qs h t ih =>
    rw [List.map_cons, List.map_cons]
    refine .cons ?_ ih
    obtain ⟨h1, h2⟩ := h
    by_cases e : p.1 = k
    · rw [if_pos e, if_pos (h1.symm.trans e)]; exact ⟨h1, ry⟩
    · rw [if_neg e, if_neg (fun z => e (h1.trans z))]; exact ⟨h1, h2⟩
theorem KV.put {kvs : List (κ × V)} {vs : List (κ × Value)} (r : KV kvs vs) (k : κ) {y : V} {u : Value} (ry : RelV y u) : KV (putK kvs k y) (stored vs k u) := by
  unfold putK stored
  rw [r.any k]
  by_cases e : (vs.any fun kv => decide (kv.1 = k)) = true
  · rw [if_pos e, if_pos e]; exact r.repl k ry
  · rw [if_neg e, if_neg e]; exact Paired.snoc r ⟨rfl, ry⟩
end
theorem kV_is {P : Program} {w : World} {k : Key} {u : Value} (r : RelV (kV k) u) : (mixKind P w).is k u = true := by
  cases k with
  | inl i => obtain ⟨t, e⟩ := (show ∃ t, u = Value.int i t from r); subst e; exact mixKind_int P w i t
  | inr x => obtain ⟨t, e⟩ := (show ∃ t, u = Value.str x t from r); subst e; exact mixKind_str P w x t
section
variable {P : Program} {w : World} {H : Hp} {h : Heap} {a : Addr}
theorem rd_of {u : HO} (ok : HOk P w H h) (e : Rd H a u) : ObjOk P w H h a u := e.ok ok
theorem dk_rd {kvs : List (Key × V)} (ok : HOk P w H h) (e : Rd H a (.dK kvs)) : kvs.length ≤ sizeLine ∧ (a == sysModules) = false ∧ ∃ vs, KV kvs vs ∧ h.DictOf (mixKind P w) a vs :=
  show ObjOk P w H h a (.dK kvs) from rd_of ok e
theorem dk_of {kvs : List (Key × V)} (ok : HOk P w H h) (e : H a = some (.dK kvs)) : kvs.length ≤ sizeLine ∧ (a == sysModules) = false ∧ ∃ vs, KV kvs vs ∧ h.DictOf (mixKind P w) a vs := dk_rd ok (.inl e)
end
section
variable {X : Cx} {pins : List (Addr × Obj)} {σ : St} {H : Hp} {s : Shared} {a : Addr} {y v : V} {u r : Value} {o : Option V} {A : Around} {E : Value → Shared → Prop}
theorem Inv.big (I : Inv X pins σ H s) : sysModules < s.heap.objs.size := by
  have h : mainGlobals < s.heap.objs.size := (I.mod.glob.keeps I.bk).lt
  exact Nat.lt_trans (by decide) h
theorem d_write {h' : Heap} {t' : Nat} {ob : HO} (I : Inv X pins σ H s) (mu : Mut (H a)) (hs : Heap.SameBut a s.heap h') (he : ∃ q, h'.get? a = some q) (new : ObjOk X.prog X.w (upd H a ob) h' a ob) :
    Inv X pins σ (upd H a ob) { s with heap := h', toks := t' } :=
  I.write (x := a) (e := a) mu (.inl rfl) (fun b q hb z => (hs.2 b hb).trans z) he new
theorem dk_new {P : Program} {w : World} {H' : Hp} {h' : Heap} {kvs : List (Key × V)} {vs : List (Key × Value)} (z : kvs.length ≤ sizeLine) (hd : (a == sysModules) = false) (rel : KV kvs vs) (dd : h'.DictOf (mixKind P w) a vs) :
    ObjOk P w H' h' a (.dK kvs) := ⟨z, hd, vs, rel, dd⟩
end
section
variable {X : Cx} {pins : List (Addr × Obj)} {σ : St} {H : Hp} {s : Shared} {a : Addr} {kvs : List (Key × V)} {k : Key} {u : Value} {A : Around} {E : Value → Shared → Prop}
end
section
variable {X : Cx} {o i e value : Expr} {pos pos' tpos : Pos} {td ty tv : TE}
end
theorem dk_empty {P : Program} {w : World} {H : Hp} (h : Heap) (hb : sysModules < h.objs.size) : ObjOk P w H (h.push { cls := .type "dict", data := .dict #[] }) h.objs.size (.dK []) :=
  ⟨Nat.zero_le _, beq_eq_false_iff_ne.mpr (Ne.symm (Nat.ne_of_lt hb)), [], .nil, Heap.DictOf.new h⟩
section
variable {X : Cx} {pos : Pos}
end
noncomputable def tPairs : List (TE × TE) → St → Hp → (List (V × V) → Hp → Prop) → Prop
  | [], _, H, Q => Q [] H
  | (tk, tv) :: r, σ, H, Q => tk σ H fun x H1 => tv σ H1 fun y H2 => tPairs r σ H2 fun ps H3 => Q ((x, y) :: ps) H3
noncomputable abbrev VV : List (V × V) → List (Value × Value) → Prop := Paired fun p q => RelV p.1 q.1 ∧ RelV p.2 q.2
noncomputable def PPs (X : Cx) (pos : Pos) (keys : List (Option Expr)) (values : List Expr) (trs : List (TE × TE)) : Prop :=
  ∀ (pins : List (Addr × Obj)) (s : Shared) (σ : St) (H : Hp) (Q : List (V × V) → Hp → Prop), Inv X pins σ H s → tPairs trs σ H Q →
    wpAny (model X.prog X.w) X.A (evalPairs (pairTrees keys values X.env pos)) (fun vs s' => ∃ ps H', Inv X pins σ H' s' ∧ VV ps vs ∧ Q ps H') X.xe s
theorem pps_nil {X : Cx} {pos : Pos} : PPs X pos [] [] [] := fun pins s σ H Q I h => pairTrees_nil_walk ⟨[], H, I, .nil, h⟩
theorem pps_cons {X : Cx} {pos : Pos} {k v : Expr} {ks : List (Option Expr)} {vs : List Expr} {tk tv : TE} {trs : List (TE × TE)} (hk : PE X k tk) (hv : PE X v tv) (hr : PPs X pos ks vs trs) :
    PPs X pos (some k :: ks) (v :: vs) ((tk, tv) :: trs) := fun pins s σ H Q I h =>
  pairTrees_cons_walk (thn (hk pins s σ H _ I h) fun u s1 ⟨x, H1, I1, rx, q1⟩ => thn (hv pins s1 σ H1 _ I1 q1) fun w2 s2 ⟨y, H2, I2, ry, q2⟩ =>
    thn (hr pins s2 σ H2 _ I2 q2) fun ws s3 ⟨ps, H3, I3, rel, q3⟩ => ⟨(x, y) :: ps, H3, I3, .cons ⟨rx, ry⟩ rel, q3⟩)
noncomputable def mergeK (kvs more : List (Key × V)) : List (Key × V) := more.foldl (fun acc kv => putK acc kv.1 kv.2) kvs
theorem KV.merge : ∀ {more : List (Key × V)} {rs : List (Key × Value)} {kvs : List (Key × V)} {vs : List (Key × Value)}, KV more rs → KV kvs vs → KV (mergeK kvs more) (merged vs rs) := by
  intro more rs kvs vs r
  unfold KV at r
  induction r generalizing kvs vs with
  | nil => intro q; exact q
  | @cons p q ps qs h t ih =>
    intro r0
    have e : KV (putK kvs p.1 p.2) (stored vs q.1 q.2) := by
      have := r0.put p.1 h.2
      rw [← h.1]; exact this
    exact ih e
theorem length_mergeK : ∀ (more kvs : List (Key × V)), (mergeK kvs more).length ≤ kvs.length + more.length
  | [], kvs => by show kvs.length ≤ kvs.length + 0; omega
  | p :: r, kvs => by
    have h1 := length_mergeK r (putK kvs p.1 p.2)
    have h2 := length_putK kvs p.1 p.2
    show (mergeK (putK kvs p.1 p.2) r).length ≤ _
    rw [List.length_cons]; omega
theorem carries_of {P : Program} {w : World} : ∀ {kvs : List (Key × V)} {ws : List (Value × Value)}, VV (kvs.map fun kv => (kV kv.1, kv.2)) ws → ∃ rs, Carries (mixKind P w) ws rs ∧ KV kvs rs
  | [], _, r => by rw [List.map_nil] at r; cases r; exact ⟨[], True.intro, .nil⟩
  | p :: kvs, _, r => by
    rw [List.map_cons] at r
    cases r with
    | @cons a b as bs h t =>
      obtain ⟨rs, c, q⟩ := carries_of (P := P) (w := w) t
      obtain ⟨b1, b2⟩ := b
      exact ⟨(p.1, b2) :: rs, ⟨kV_is h.1, rfl, c⟩, .cons ⟨rfl, h.2⟩ q⟩
noncomputable def tDisp (trs : List (TE × TE)) : TE := fun σ H Q => ∀ p, H p = none → tPairs trs σ (upd H p (.dK [])) fun ps H2 => H2 p = some (.dK []) ∧ ∃ kvs : List (Key × V), ps = kvs.map (fun kv => (kV kv.1, kv.2)) ∧ kvs.length ≤ 15 ∧ Q (.ref p) (upd H2 p (.dK (mergeK [] kvs)))
theorem pe_disp {X : Cx} {pos : Pos} {keys : List (Option Expr)} {values : List Expr} {trs : List (TE × TE)} (h : PPs X pos keys values trs) (hall : keys.all (·.isSome) = true) (hl : keys.length = values.length) (h0 : keys ≠ [])
    (h15 : keys.length ≤ 15) : PE X (.Dict keys values pos) (tDisp trs) := by
  intro pins s σ H Q I q
  have hn := I.hok.fresh (Nat.le_refl s.heap.objs.size)
  have I1 := I.laid (a := s.heap.objs.size) (o := .dK []) (h' := s.heap.push { cls := .type "dict", data := .dict #[] }) (t' := s.toks) (fun _ _ q => Heap.get?_push_of_some _ q) (Nat.le_refl _) (dk_empty s.heap I.big)
  refine wpAny_Dict_walk (knd := mixKind X.prog X.w) hall hl h0 h15 (thn (h pins _ σ _ _ I1 (q _ hn)) fun ws s2 zq => ?_)
  obtain ⟨ps, H2, I2, rel, e, kvs, ep, lk, q2⟩ := zq
  subst ep
  obtain ⟨rs, c, rk⟩ := carries_of (P := X.prog) (w := X.w) rel
  obtain ⟨z, hd, vs0, r0, dd⟩ := dk_of I2.hok e
  cases r0
  refine ⟨rs, c, dd, fun h' dd' hs => ⟨.ref s.heap.objs.size, _, ?_, rfl, q2⟩⟩
  have hz : (mergeK [] kvs).length ≤ sizeLine := by
    have h1 := length_mergeK kvs []
    rw [List.length_nil] at h1
    rw [sizeLine_eq]; omega
  have he : ∃ q, h'.get? s.heap.objs.size = some q := let ⟨q, _, _, hq, _⟩ := dd'; ⟨q, hq⟩
  exact d_write I2 (by rw [e]; exact True.intro) hs he (dk_new hz hd (rk.merge .nil) dd')
structure M1 (X : Cx) (o : Expr) (m : Str) (apos : Pos) (e : Expr) (cpos : Pos) : Prop where
  base : attributeBase o m X.env (eval o X.env) = eval o X.env
  few : ((backTo cpos (starEach [e] X.env)).all (fun x => !x.1) && (backToKw cpos (keywordEach [] X.env)).all (fun x => x.1.isSome)
    && decide (([e] : List Expr).length + ([] : List Keyword).length + (if ([] : List Keyword).isEmpty then 0 else 1) < 30)) = true
  line : (apos.endLine == cpos.line) = true
  trees : backTo cpos (starEach [e] X.env) = [(false, eval e X.env)]
structure M2 (X : Cx) (o : Expr) (m : Str) (apos : Pos) (e f : Expr) (cpos : Pos) : Prop where
  base : attributeBase o m X.env (eval o X.env) = eval o X.env
  few : ((backTo cpos (starEach [e, f] X.env)).all (fun x => !x.1) && (backToKw cpos (keywordEach [] X.env)).all (fun x => x.1.isSome)
    && decide (([e, f] : List Expr).length + ([] : List Keyword).length + (if ([] : List Keyword).isEmpty then 0 else 1) < 30)) = true
  line : (apos.endLine == cpos.line) = true
  trees : backTo cpos (starEach [e, f] X.env) = [(false, eval e X.env), (false, eval f X.env)]
section
variable {X : Cx} {pins : List (Addr × Obj)} {σ : St} {H : Hp} {s : Shared} {a : Addr} {y d : V} {u r : Value} {o : Option V} {A : Around} {E : Value → Shared → Prop}
end
section
variable {X : Cx} {o e f : Expr} {apos cpos : Pos} {td ty tx : TE}
end
section
variable {X : Cx} {pins : List (Addr × Obj)} {σ : St} {H : Hp} {s : Shared} {a : Addr} {kvs : List (Key × V)} {A : Around} {E : Value → Shared → Prop}
end
section
variable {X : Cx} {pins : List (Addr × Obj)} {σ : St} {H : Hp} {s : Shared} {a : Addr} {y : V} {u : Value} {A : Around} {E : Value → Shared → Prop}
end
end L2
set_option Elab.async false
set_option linter.all false
set_option maxRecDepth 100000
namespace L2
open PySem PySem.Spec PyProof.Rows
noncomputable def inX (X : Cx) (scope : Scope) (cl : List (Str × Addr)) (C : Addr) (s₂ : Shared) (H₂ : Hp) (ex : List Addr) (pn : List (Addr × Obj)) : Cx :=
  { X with env := compEnvC scope cl C X.env, s₀ := s₂, H₀ := H₂, outer := X.stack, ex := ex, fn := fun _ => false, pn := pn, xe := fun _ _ => False }
structure Clos (scope : Scope) (env : Env) (cl : List (Str × Addr)) : Prop where
  eq : closureFor scope env = pure cl
  sub : ∀ x c, cl.lookup x = some c → env.cells.lookup x = some c
  all : ∀ x, (x, NameKind.free) ∈ scope.names → cl.lookup x = env.cells.lookup x
theorem clos_go (env : Env) : ∀ (names : List (Str × NameKind)) (acc : List (Str × Addr)), (∀ x, (x, NameKind.free) ∈ names → ∃ c, env.cells.lookup x = some c) → (∀ x c, acc.lookup x = some c → env.cells.lookup x = some c) →
    ∃ cl, (forIn names acc fun x r => if (x.2 == NameKind.free) = true then do let c ← cellOf env x.1; pure (ForInStep.yield ((x.1, c) :: r)) else pure (ForInStep.yield r)) = (pure cl : Sem _) ∧
      (∀ x c, cl.lookup x = some c → env.cells.lookup x = some c) ∧ (∀ x c, acc.lookup x = some c → ∃ d, cl.lookup x = some d) ∧ ∀ x, (x, NameKind.free) ∈ names → ∃ c, cl.lookup x = some c
  | [], acc, _, ha => ⟨acc, rfl, ha, fun x c h => ⟨c, h⟩, fun x h => nomatch h⟩
  | (n, k) :: r, acc, hn, ha => by
    by_cases hk : k = .free
    · subst hk
      obtain ⟨c, hc⟩ := hn n List.mem_cons_self
      have hacc : ∀ x d, List.lookup x ((n, c) :: acc) = some d → env.cells.lookup x = some d := fun x d h => by
        rw [List.lookup_cons] at h
        cases e : x == n with
        | true =>
          rw [e] at h
          have e' : x = n := by simpa using e
          cases h
          rw [e']; exact hc
        | false =>
          rw [e] at h
          exact ha x d h
      obtain ⟨cl, h1, h2, h3, h4⟩ := clos_go env r ((n, c) :: acc) (fun x hx => hn x (List.mem_cons_of_mem _ hx)) hacc
      refine ⟨cl, ?_, h2, fun x d h => ?_, fun x hx => ?_⟩
      · rw [List.forIn_cons]
        have e1 : cellOf env n = pure c := by unfold cellOf; rw [hc]
        simp only [beq_self_eq_true, if_true, e1]
        exact h1
      · cases e : x == n with
        | true => exact h3 x c (by rw [List.lookup_cons, e])
        | false => exact h3 x d (by rw [List.lookup_cons, e]; exact h)
      · rcases List.mem_cons.mp hx with e | hx
        · cases e
          exact h3 n c (by rw [List.lookup_cons]; simp)
        · exact h4 x hx
    · have hb : (k == NameKind.free) = false := by simpa using hk
      obtain ⟨cl, h1, h2, h3, h4⟩ := clos_go env r acc (fun x hx => hn x (List.mem_cons_of_mem _ hx)) ha
      refine ⟨cl, ?_, h2, h3, fun x hx => ?_⟩
      · rw [List.forIn_cons]
        simp only [hb, Bool.false_eq_true, if_false]
        exact h1
      · rcases List.mem_cons.mp hx with e | hx
        · cases e; exact absurd rfl hk
        · exact h4 x hx
theorem clos_of {scope : Scope} {env : Env} (h : ∀ x, (x, NameKind.free) ∈ scope.names → ∃ c, env.cells.lookup x = some c) : ∃ cl, Clos scope env cl := by
  obtain ⟨cl, h1, h2, _, h4⟩ := clos_go env scope.names [] h (fun _ _ z => nomatch z)
  refine ⟨cl, ⟨?_, h2, fun x hx => ?_⟩⟩
  · unfold closureFor
    show (forIn scope.names [] _ >>= _) = _
    have e : (forIn scope.names ([] : List (Str × Addr)) fun (x : Str × NameKind) (r : List (Str × Addr)) => if (x.2 == NameKind.free) = true then do let c ← cellOf env x.1; pure (ForInStep.yield ((x.1, c) :: r)) else pure (ForInStep.yield r)) = (pure cl : Sem _) := h1
    exact congrArg (· >>= fun cs => pure cs) e
  · obtain ⟨c, hc⟩ := h4 x hx
    rw [hc, h2 x c hc]
noncomputable def clr : List Nat → St → St
  | [], σ => σ
  | j :: js, σ => clr js (σ.set j none)
theorem clr_length : ∀ (js : List Nat) (σ : St), (clr js σ).length = σ.length
  | [], _ => rfl
  | j :: js, σ => by
    show (clr js (σ.set j none)).length = _
    rw [clr_length js, List.length_set]
theorem clr_get : ∀ (js : List Nat) {σ : St} {i : Nat} {v : V}, (clr js σ)[i]? = some (some v) → σ[i]? = some (some v)
  | [], _, _, _, h => h
  | j :: js, σ, i, v, h => by
    have q := clr_get js (σ := σ.set j none) h
    rw [List.getElem?_set] at q
    split at q
    · split at q
      · cases q
      · cases q
    · exact q
theorem clr_out : ∀ (js : List Nat) {σ : St} {i : Nat} {v : V}, (clr js σ)[i]? = some (some v) → i ∉ js
  | [], _, _, _, _ => by simp
  | j :: js, σ, i, v, h => by
    intro hm
    rcases List.mem_cons.mp hm with e | hm
    · have q := clr_get js (σ := σ.set j none) h
      rw [e, List.getElem?_set] at q
      simp at q
    · exact clr_out js h hm
noncomputable def Wk (σ σ' : St) : Prop := σ'.length = σ.length ∧ ∀ (i : Nat) v, σ[i]? = some (some v) → σ'[i]? = some (some v)
theorem Inv.wk {X : Cx} {pins : List (Addr × Obj)} {σ σ' : St} {H : Hp} {s : Shared} (I : Inv X pins σ' H s) (w : Wk σ σ') : Inv X pins σ H s := I.weak w.1.symm w.2
theorem mem_of_lookup' {x : Str} {k : NameKind} : ∀ {l : List (Str × NameKind)}, l.lookup x = some k → (x, k) ∈ l
  | [], h => nomatch h
  | (n, j) :: r, h => by
    rw [List.lookup_cons] at h
    cases e : x == n with
    | true =>
      rw [e] at h
      cases h
      have e' : x = n := by simpa using e
      rw [e']; exact List.mem_cons_self
    | false =>
      rw [e] at h
      exact List.mem_cons_of_mem _ (mem_of_lookup' h)
theorem kind_in {scope : Scope} {env : Env} {x : Str} {k : NameKind} (h : (relabel scope env).names.lookup x = some k) : scope.names.lookup x = some k ∨ (k = .cell ∧ scope.names.lookup x = some .free) := by
  have go : ∀ (l : List (Str × NameKind)), (l.map fun (n, k) => if (k == NameKind.free && env.scope.kind == .function && env.kindOf n == some .cell) then (n, NameKind.cell) else (n, k)).lookup x = some k →
      l.lookup x = some k ∨ (k = .cell ∧ l.lookup x = some .free) := by
    intro l
    induction l with
    | nil => intro h; exact nomatch h
    | cons p r ih =>
      obtain ⟨n, j⟩ := p
      intro h
      rw [List.map_cons, List.lookup_cons] at h
      rw [List.lookup_cons]
      by_cases hc : (j == NameKind.free && env.scope.kind == .function && env.kindOf n == some .cell) = true
      · simp only [hc, if_true] at h
        cases e : x == n with
        | true =>
          rw [e] at h
          simp only [Option.some.injEq] at h
          refine .inr ⟨h.symm, ?_⟩
          simp only [Bool.and_eq_true, beq_iff_eq] at hc
          rw [hc.1.1]
        | false =>
          rw [e] at h
          exact ih h
      · simp only [hc, Bool.false_eq_true, if_false] at h
        cases e : x == n with
        | true =>
          rw [e] at h
          exact .inl h
        | false =>
          rw [e] at h
          exact ih h
  exact go _ h
structure CompOk (X : Cx) (scope : Scope) (js : List Nat) : Prop where
  kind : scope.kind = .function
  nocell : ∀ y ∈ scope.names, y.2 ≠ .cell
  names : ∀ y ∈ scope.names, y.2 = .local → scope.names.lookup y.1 = some .local
  fr : ∀ y ∈ scope.names, y.2 = .free → X.env.kindOf y.1 = some .cell ∨ X.env.kindOf y.1 = some .free
  loc : ∀ (i : Nat) x, X.N[i]? = some x → scope.names.lookup x = some .local → i ∈ js
noncomputable abbrev lobj (us : List Value) (n : Nat) : Obj := { cls := .type "list", data := .seq us.toArray n }
section
variable {X : Cx} {pins : List (Addr × Obj)} {σ : St} {H₂ : Hp} {s₂ : Shared} {scope : Scope} {js : List Nat} {cl : List (Str × Addr)} {fp : List Addr} {C D : Addr}
theorem inX_ok (I : Inv X pins σ H₂ s₂) (c : CompOk X scope js) (k : Clos scope X.env cl) (hf : ∀ b ∈ fp, FpOk X pins H₂ b) (hfo : ∀ b ∈ fp, b < s₂.heap.objs.size) (hC : s₂.heap.objs.size ≤ C) :
    (inX X scope cl C s₂ H₂ fp (X.pn ++ pins)).Ok where
  mod := I.ok.mod
  kind := c.kind
  glob := I.ok.glob
  blt := I.ok.blt
  above := hC
  inj := fun x y a h1 h2 => I.ok.inj x y a (k.sub x a h1) (k.sub y a h2)
  has := fun x hx => by
    have hx : (relabel scope X.env).names.lookup x = some .cell ∨ (relabel scope X.env).names.lookup x = some .free := hx
    have fre : (x, NameKind.free) ∈ scope.names := by
      rcases hx with h | h
      · rcases kind_in h with h | ⟨_, h⟩
        · exact absurd rfl (c.nocell _ (mem_of_lookup' h))
        · exact mem_of_lookup' h
      · rcases kind_in h with h | ⟨h, _⟩
        · exact mem_of_lookup' h
        · cases h
    obtain ⟨a, ha⟩ := I.ok.has x (c.fr _ fre rfl)
    exact ⟨a, (k.all x fre).trans ha⟩
  cab := fun x a h _ => nomatch h
  hd := I.ok.hd
  frames := I.ok.frames
  stk := .inl rfl
  exf := fun b hb => ⟨Nat.ne_of_lt (Nat.lt_of_lt_of_le (hfo b hb) hC), fun x a h => (hf b hb).2.2.2.2.1 x a (k.sub x a h)⟩
  bs := I.bs
  bsz := Nat.le_trans I.ok.bsz I.sz
  noex := fun b o e hb => by
    rcases (hf b hb).2.2.2.1 with z | z
    · exact I.ok.noex b o e z
    · exact absurd (Nat.lt_of_lt_of_le (Heap.lt_size e) (Nat.le_trans I.ok.bsz z)) (Nat.lt_irrefl _)
  exfs := fun b hb z => by
    rcases List.mem_cons.mp (I.stkSub b z) with e | e
    · exact (hf b hb).2.1 e
    · exact (hf b hb).2.2.1 e
  funs := I.stack
  frf := I.stkFree
theorem inX_start {s₄ : Shared} {m : Str → Option Value} {n : Nat} (I : Inv X pins σ H₂ s₂) (c : CompOk X scope js) (k : Clos scope X.env cl) (hf : ∀ b ∈ fp, FpOk X pins H₂ b) (hfo : ∀ b ∈ fp, b < s₂.heap.objs.size) (hC : s₂.heap.objs.size ≤ C)
    (old : ∀ b o, s₂.heap.get? b = some o → s₄.heap.get? b = some o) (hns : s₄.heap.Ns C m) (hD : s₂.heap.objs.size ≤ D) (hDC : D ≠ C) (hDo : s₄.heap.get? D = some (lobj [] n)) (hos : s₄.os = s₂.os) (hg : s₄.gens = s₂.gens) :
    Inv (inX X scope cl C s₂ H₂ fp (X.pn ++ pins)) [(D, lobj [] n)] (clr js σ) H₂ s₄ := by
  have nfs : ∀ b, s₂.heap.objs.size ≤ b → b ∉ frs X.stack := fun b hb z => by
    obtain ⟨_, o, ho, _⟩ := I.stack.mem z
    exact absurd (Nat.lt_of_lt_of_le (Heap.lt_size ho) hb) (Nat.lt_irrefl _)
  refine ⟨inX_ok I c k hf hfo hC, hos, by rw [hg]; exact I.bare, Un.kept old, ⟨m, hns, fun i x v e1 e2 e3 => ?_⟩, fun x a e => ?_, I.hok.fresh hC, fun x a e => I.freeC x a (k.sub x a e), fun p hp => ?_, I.hok.kept old, (clr_length js σ).trans I.len⟩
  · have e3 : (relabel scope X.env).names.lookup x = some .local ∨ (relabel scope X.env).names.lookup x = some .cell ∨ (relabel scope X.env).names.lookup x = some .free := e3
    have e1 : X.N[i]? = some x := e1
    have fre : (x, NameKind.free) ∈ scope.names := by
      rcases e3 with h | h | h
      · rcases kind_in h with h | ⟨h, _⟩
        · exact absurd (c.loc i x e1 h) (clr_out js e2)
        · cases h
      · rcases kind_in h with h | ⟨_, h⟩
        · exact absurd rfl (c.nocell _ (mem_of_lookup' h))
        · exact mem_of_lookup' h
      · rcases kind_in h with h | ⟨h, _⟩
        · exact mem_of_lookup' h
        · cases h
    have hko := c.fr _ fre rfl
    obtain ⟨m0, hn0, hl0⟩ := I.loc
    obtain ⟨u, r, l⟩ := hl0 i x v e1 (clr_get js e2) (hko.elim (fun z => .inr (.inl z)) fun z => .inr (.inr z))
    refine ⟨u, r, ?_⟩
    rcases l with ⟨z, _⟩ | ⟨_, a, ea, ha⟩
    · rcases hko with q | q <;> (have q' : X.env.kindOf x = _ := q; rw [z] at q'; cases q')
    · have ha' : s₄.heap.IsCell a (some u) := let ⟨o, ho, hd⟩ := ha; ⟨o, old _ _ ho, hd⟩
      have hk' : (relabel scope X.env).names.lookup x = some .cell ∨ (relabel scope X.env).names.lookup x = some .free := by
        rcases e3 with h | h | h
        · rcases kind_in h with h | ⟨h, _⟩
          · exact absurd (c.loc i x e1 h) (clr_out js e2)
          · cases h
        · exact .inl h
        · exact .inr h
      exact .inr ⟨hk', a, (k.all x fre).trans ea, ha'⟩
  · obtain ⟨v, o, ho, hd⟩ := I.cell x a (k.sub x a e)
    exact ⟨v, o, old _ _ ho, hd⟩
  · rcases List.mem_append.mp hp with hp | hp
    · obtain ⟨q1, q2, q3, q4, q5⟩ := I.pin p hp
      refine ⟨old _ _ q1, q2, Nat.ne_of_lt (Nat.lt_of_lt_of_le (Heap.lt_size q1) hC), fun z => ?_, q5⟩
      rcases List.mem_cons.mp (I.stkSub _ z) with e | e
      · exact q3 e
      · exact q4 e
    · have e : p = (D, lobj [] n) := by simpa using hp
      subst e
      exact ⟨hDo, I.hok.fresh hD, hDC, nfs D hD, fun v z => by cases z⟩
end
theorem HOk.take {P : Program} {w : World} {H : Hp} {h : Heap} {a : Addr} {o : HO} (x : HOk P w H h) (hn : H a = none) (new : ObjOk P w (upd H a o) h a o) : HOk P w (upd H a o) h := fun b u e => by
  by_cases hb : b = a
  · subst hb; rw [upd_same] at e; cases e; exact new
  · rw [upd_ne hb] at e
    exact (x b u e).stay (fun c v _ q => q) (fun c q => by rw [upd_ne (ne_of_none q hn)]; exact q) fun c xs q => by rw [upd_ne (ne_of_none q hn)]; exact q
noncomputable def tComp (wi : TI) (js : List Nat) (g : TG) (tc : TT) (te : TE) : TE := fun σ H Q => wi σ H fun J H1 => ∃ W : Nat → Nat → List V → Hp → Prop, (∃ m, W 0 m [] H1) ∧ ∀ i m vs H, W i m vs H →
  (J.stop i H ∧ vs.length ≤ sizeLine ∧ ∀ p, H p = none → Q (.ref p) (upd H p (.lst vs))) ∨
  (J.go i H ∧ vs.length < sizeLine ∧ ∃ N : List V → Hp → Prop, (∀ vs' H', N vs' H' → ∃ m', m' < m ∧ W (i + 1) m' vs' H') ∧
    ∀ x H', J.yld i H x H' → g x (clr js σ) H' fun σ2 H2 => Wk (clr js σ) σ2 ∧ tc σ2 H2 fun b H3 => if b = true then te σ2 H3 fun v H4 => N (vs ++ [v]) H4 else N vs H3)
theorem codeAny_compLoop_own {prog : Program} {w : World} {A : Around} {R : Result → Shared → Prop} {s : Shared} {elt target iter : Expr} {ifs : List Expr} {scope : Scope} {pos : Pos} {it acc : Value} {env : Env} (I : Nat → Shared → Prop)
    (turn : ∀ n s, I n s → wpAny (model prog w) A (pyNext it) (fun r s₁ => match r with
      | none => R (.ok .next) s₁
      | some v => wpAny (model prog w) A (letOwnedTupleGo target it v) (fun _ s₀ => wpAny (model prog w) A (assign target env v) (fun _ s₂ =>
          wpAny (model prog w) A (forIn ifs true fun c r => if r = true then do let ok ← isTrue c env (eval c env); pure (ForInStep.yield ok) else pure (ForInStep.yield r)) (fun ok s₃ =>
            if ok = true then wpAny (model prog w) A (eval elt env) (fun x s₄ =>
              wpAny (model prog w) A (call (.builtin "list.append") [acc, x]) (fun _ s₅ => ∃ m, m < n ∧ I m s₅) (fun _ _ => False) s₄) (fun _ _ => False) s₃
            else ∃ m, m < n ∧ I m s₃) (fun _ _ => False) s₂) (fun _ _ => False) s₀) (fun _ _ => False) s₁) (fun _ _ => False) s)
    (n : Nat) (h : I n s) :
    codeAny (model prog w) A (.compLoop (.ListComp elt [⟨target, iter, ifs, 0⟩] scope pos) 0 it acc env) R s := by
  refine codeAny_loop rfl I (fun n s hI => ?_) n h
  show wpAny _ A ((compTurn (.ListComp elt [⟨target, iter, ifs, 0⟩] scope pos) 0 it acc env).onRaise (fun x => do noteFrame x env; theTreesLotGoes x)) _ _ s
  refine wpAny_noted ?_
  rw [compTurn_list]
  refine wpAny_bind (wpAny_standAt (wpAny_bind (wpAny_mono (turn n s hI) (fun r s₁ h₁ => ?_) fun _ _ h' => h'.elim)))
  cases r with
  | none => exact wpAny_pure h₁
  | some v =>
    refine wpAny_bind (wpAny_mono h₁ (fun _ s₀ h₀ => ?_) fun _ _ h' => h'.elim)
    refine wpAny_bind (wpAny_mono h₀ (fun _ s₂ h₂ => wpAny_bind (wpAny_mono h₂ (fun ok s₃ h₃ => ?_) fun _ _ h' => h'.elim)) fun _ _ h' => h'.elim)
    cases ok with
    | false => exact wpAny_pure ⟨rfl, h₃⟩
    | true =>
      exact wpAny_bind (wpAny_bind (wpAny_mono h₃ (fun x s₄ h₄ => wpAny_bind (wpAny_mono h₄ (fun _ s₅ h₅ => wpAny_pure (wpAny_pure ⟨rfl, h₅⟩)) fun _ _ h' => h'.elim)) fun _ _ h' => h'.elim))
noncomputable def PIfs (X : Cx) (ifs : List Expr) (tc : TT) : Prop :=
  ∀ (pins : List (Addr × Obj)) (s : Shared) (σ : St) (H : Hp) (Q : Bool → Hp → Prop), Inv X pins σ H s → tc σ H Q →
    wpAny (model X.prog X.w) X.A (forIn ifs true fun c r => if r = true then do let ok ← isTrue c X.env (eval c X.env); pure (ForInStep.yield ok) else pure (ForInStep.yield r)) (TP X pins σ Q) X.xe s
theorem pif_nil {X : Cx} : PIfs X [] (fun _ H Q => Q true H) := fun pins s σ H Q I h => wpAny_tests_nil ⟨H, I, h⟩
theorem pif_one {X : Cx} {c : Expr} {tc : TT} (h : PT X c tc) : PIfs X [c] tc := fun pins s σ H Q I hw => wpAny_tests_one (h pins s σ H Q I hw)
theorem comp_core {X : Cx} {scope : Scope} {js : List Nat} {tg elt iter : Expr} {ifs : List Expr} {g : TG} {tc : TT} {te : TE} {pos : Pos} {pins : List (Addr × Obj)} {σ : St} {H₂ : Hp} {s₂ : Shared} {cl : List (Str × Addr)}
    {it : Addr} {fp : List Addr} {tn : Nat → Heap → Prop} {J : It} {Q : VK} {E : Value → Shared → Prop} {RR : Value → Addr → Result → Shared → Prop}
    (hc : X.calm = true) (c : CompOk X scope js) (k : Clos scope X.env cl)
    (hg : ∀ C s₀ H₀ ex pn, PG (inX X scope cl C s₀ H₀ ex pn) tg g) (hi : ∀ C s₀ H₀ ex pn, PIfs (inX X scope cl C s₀ H₀ ex pn) ifs tc) (he : ∀ C s₀ H₀ ex pn, PE (inX X scope cl C s₀ H₀ ex pn) elt te)
    (I₂ : Inv X pins σ H₂ s₂) (T : Turn X.prog X.w X.K tg J fp it tn) (st : tn 0 s₂.heap) (hf : ∀ b ∈ fp, FpOk X pins H₂ b)
    (hW : ∃ W : Nat → Nat → List V → Hp → Prop, (∃ m, W 0 m [] H₂) ∧ ∀ i m vs H, W i m vs H →
      (J.stop i H ∧ vs.length ≤ sizeLine ∧ ∀ p, H p = none → Q (.ref p) (upd H p (.lst vs))) ∨
      (J.go i H ∧ vs.length < sizeLine ∧ ∃ N : List V → Hp → Prop, (∀ vs' H', N vs' H' → ∃ m', m' < m ∧ W (i + 1) m' vs' H') ∧
        ∀ x H', J.yld i H x H' → g x (clr js σ) H' fun σ2 H2 => Wk (clr js σ) σ2 ∧ tc σ2 H2 fun b H3 => if b = true then te σ2 H3 fun v H4 => N (vs ++ [v]) H4 else N vs H3))
    (fin : ∀ (s' : Shared) (H' : Hp) (C D : Addr) (m : Str → Option Value), Inv X pins σ H' s' → s'.heap.Ns C m → H' C = none → C ≠ X.env.locals → X.s₀.heap.objs.size ≤ C → (∀ x a, X.env.cells.lookup x = some a → a ≠ C) → (∀ p ∈ X.pn ++ pins, p.1 ≠ C) →
      Q (.ref D) H' → RR (.ref D) C (.ok .next) s') :
    wpAny (model X.prog X.w) X.A (newList []) (fun acc s₃ => wpAny (model X.prog X.w) X.A (newFunctionEnv scope X.env.globals cl [] X.env.qual none .none (some X.env)) (fun cenv s₄ =>
      codeAny (model X.prog X.w) X.A (.compStart (.ListComp elt [⟨tg, iter, ifs, 0⟩] scope pos) 0 (.ref it) acc { cenv with scope := relabel scope X.env }) (RR acc cenv.locals) s₄) E s₃) E s₂ := by
  refine wpAny_newObj_type (wpAny_newFunctionEnv c.nocell (by intro y hy; simp at hy) (fun h₁ hns₁ hsb₁ => ?_) c.kind)
  dsimp only at hns₁ hsb₁ ⊢
  generalize hH2 : s₂.heap.push { cls := .type "list", dict := none, data := .seq ([] : List Value).toArray } = G2 at hns₁ hsb₁ ⊢
  generalize hCe : G2.objs.size = C at hns₁ hsb₁ ⊢
  generalize hDe : s₂.heap.objs.size = D
  have hCD : C = D + 1 := by rw [← hCe, ← hH2, Heap.size_push, hDe]
  have hDC : D ≠ C := by rw [hCD]; exact Nat.ne_of_lt (Nat.lt_succ_self _)
  have hfo : ∀ b ∈ fp, b < s₂.heap.objs.size := fun b hb => let ⟨o, e, _⟩ := T.obj _ _ st b hb; Heap.lt_size e
  have hCs : s₂.heap.objs.size ≤ C := by rw [hDe, hCD]; exact Nat.le_succ _
  have below : ∀ b, b < s₂.heap.objs.size → b ≠ C ∧ b ≠ D := fun b hb => by
    rw [hDe] at hb
    exact ⟨by rw [hCD]; exact Nat.ne_of_lt (Nat.lt_succ_of_lt hb), Nat.ne_of_lt hb⟩
  have old : ∀ b o, s₂.heap.get? b = some o → h₁.get? b = some o := fun b o e => hsb₁.extBut b o (below b (Heap.lt_size e)).1 (Heap.get?_push_of_some _ (hH2 ▸ Heap.get?_push_of_some _ e))
  have hacc : h₁.get? D = some (lobj [] 0) := hsb₁.extBut _ _ hDC (Heap.get?_push_of_some _ (by rw [← hH2, ← hDe]; exact Heap.get?_push_size _ rfl))
  have cellsB : ∀ x a, X.env.cells.lookup x = some a → a < s₂.heap.objs.size := fun x a e => let ⟨_, q⟩ := I₂.cell x a e; q.lt
  have pinsB : ∀ p ∈ X.pn ++ pins, p.1 < s₂.heap.objs.size := fun p hp => Heap.lt_size (I₂.pin p hp).1
  have nfs : ∀ b, s₂.heap.objs.size ≤ b → b ∉ frs X.stack := fun b hb z => by
    obtain ⟨_, o, ho, _⟩ := I₂.stack.mem z
    exact absurd (Nat.lt_of_lt_of_le (Heap.lt_size ho) hb) (Nat.lt_irrefl _)
  have fsB : ∀ b ∈ fp, b ∉ frs X.stack := fun b hb z => by
    rcases List.mem_cons.mp (I₂.stkSub b z) with e | e
    · exact (hf b hb).2.1 e
    · exact (hf b hb).2.2.1 e
  have DnotF : ∀ b ∈ fp, b ≠ D := fun b hb => (below b (hfo b hb)).2
  obtain ⟨W, ⟨m0, w0⟩, turn⟩ := hW
  have fpin : ∀ {H' : Hp} {o : Obj}, (∀ b ∈ fp, H' b = none) → ∀ b ∈ fp, FpOk (inX X scope cl C s₂ H₂ fp (X.pn ++ pins)) [(D, o)] H' b := fun {H' o} hn b hb =>
    ⟨hn b hb, (below b (hfo b hb)).1, fsB b hb, .inl hb, fun x a e => (hf b hb).2.2.2.2.1 x a (k.sub x a e), fun p hp => by
      rcases List.mem_append.mp hp with hp | hp
      · exact (hf b hb).2.2.2.2.2 p hp
      · have e : p = (D, o) := by simpa using hp
        rw [e]; exact (DnotF b hb).symm⟩
  have loop : ∀ s₃ : Shared, s₃ = { s₂ with heap := h₁, toks := s₂.toks + ([] : List (Str × Value)).length } →
      codeAny (model X.prog X.w) X.A (.compLoop (.ListComp elt [⟨tg, iter, ifs, 0⟩] scope pos) 0 (.ref it) (.ref D) (compEnvC scope cl C X.env)) (RR (.ref D) C) s₃ := by
    rintro s₃ rfl
    have I4 : Inv (inX X scope cl C s₂ H₂ fp (X.pn ++ pins)) [(D, lobj [] 0)] (clr js σ) H₂ { s₂ with heap := h₁, toks := s₂.toks + ([] : List (Str × Value)).length } :=
      inX_start (s₄ := { s₂ with heap := h₁, toks := s₂.toks + ([] : List (Str × Value)).length }) I₂ c k hf hfo hCs old hns₁ (Nat.le_of_eq hDe) hDC hacc rfl rfl
    refine codeAny_compLoop_own (fun n s' => ∃ i vs us z H', Inv (inX X scope cl C s₂ H₂ fp (X.pn ++ pins)) [(D, lobj us z)] (clr js σ) H' s' ∧ Vals vs us ∧ tn i s'.heap ∧ (∀ b ∈ fp, H' b = none) ∧ W i n vs H') ?_ m0
      ⟨0, [], [], 0, H₂, I4, .nil, T.keep _ _ _ st fun b hb o e => old b o e, fun b hb => (hf b hb).1, w0⟩
    rintro n s3 ⟨i, vs, us, z, H3, I3, rv, st3, fr3, w3⟩
    have pD := I3.pin (D, lobj us z) (List.mem_append_right _ (List.mem_singleton.mpr rfl))
    rcases turn i n vs H3 w3 with ⟨stop, hz, q⟩ | ⟨go, hz, N, hN, step⟩
    · refine thn (T.done (inX X scope cl C s₂ H₂ fp (X.pn ++ pins)) rfl rfl rfl hc i _ s3 (clr js σ) H3 (fun _ _ => False) I3 (fpin fr3) st3 stop) fun r s4 zq => ?_
      obtain ⟨hr, I5⟩ := zq
      subst hr
      show RR (.ref D) C (.ok .next) s4
      have pE := I5.pin (D, lobj us z) (List.mem_append_right _ (List.mem_singleton.mpr rfl))
      have nD : H3 D = none := pE.2.1
      have un0 : Un (frs X.stack) fp H₂ H3 s₂.heap s4.heap := I5.base
      have un : Un (frs X.stack) fp H₂ (upd H3 D (.lst vs)) s₂.heap s4.heap :=
        ⟨un0.keep, un0.slot, fun b o e n hx => by rw [upd_ne (below b (Heap.lt_size e)).2]; exact un0.free b o e n hx, un0.there,
          fun b xs e => by have q := un0.tups b xs e; rw [upd_ne (ne_of_none q nD)]; exact q, fun b o u e => by have q := un0.frzs b o u e; rw [upd_ne (ne_of_none q nD)]; exact q,
          fun b ps e => by obtain ⟨more, q⟩ := un0.tbls b ps e; exact ⟨more, by rw [upd_ne (ne_of_none q nD)]; exact q⟩⟩
      have hok : HOk X.prog X.w (upd H3 D (.lst vs)) s4.heap := HOk.take I5.hok nD ⟨hz, us, z, rv, pE.1⟩
      have I6 : Inv X pins σ (upd H3 D (.lst vs)) s4 := I₂.call' I5.os un hok I5.bare fun b hb => ⟨(hf b hb).2.2.2.1, (hf b hb).2.1, (hf b hb).2.2.2.2.1, (hf b hb).2.2.2.2.2⟩
      obtain ⟨mC, hnC, _⟩ := I5.loc
      have nC : H3 C = none := I5.free
      exact fin s4 _ C D mC I6 hnC (by rw [upd_ne (Ne.symm hDC)]; exact nC) (Nat.ne_of_gt (Nat.lt_of_lt_of_le I₂.lt hCs)) (Nat.le_trans I₂.sz hCs) (fun x a e => (below a (cellsB x a e)).1) (fun p hp => (below p.1 (pinsB p hp)).1) (q D nD)
    · refine thn (T.item (inX X scope cl C s₂ H₂ fp (X.pn ++ pins)) rfl rfl rfl hc i _ s3 (clr js σ) H3 (fun _ _ => False) I3 (fpin fr3) st3 go) fun r s4 zq => ?_
      obtain ⟨u, hr, h4⟩ := zq
      subst hr
      refine thn h4 fun _ s5 zq => ?_
      obtain ⟨x, H5, I5, r5, y5, st5, fr5⟩ := zq
      have I5' := I5.pinned (fpin fr5) (T.obj _ _ st5)
      refine thn (hg C s₂ H₂ fp (X.pn ++ pins) _ s5 (clr js σ) H5 x u _ I5' r5 (step x H5 y5)) fun _ s6 zq => ?_
      obtain ⟨σ6, H6, I6, wk6, q6⟩ := zq
      refine thn (hi C s₂ H₂ fp (X.pn ++ pins) _ s6 σ6 H6 _ I6 q6) fun ok s7 zq => ?_
      obtain ⟨H7, I7, q7⟩ := zq
      -- the iterator and the list so far, behind whatever was done
      have fpK : ∀ {H' : Hp} {s' : Shared}, Inv (inX X scope cl C s₂ H₂ fp (X.pn ++ pins)) ([(D, lobj us z)] ++ pinsAt fp s5.heap) σ6 H' s' → (∀ b ∈ fp, ∀ o, s5.heap.get? b = some o → s'.heap.get? b = some o) ∧ (∀ b ∈ fp, H' b = none) ∧ s'.heap.get? D = some (lobj us z) ∧ H' D = none := fun {H' s'} I' => by
        refine ⟨fun b hb o e => (I'.pin (b, o) (List.mem_append_right _ (List.mem_append_right _ (mem_pinsAt hb e)))).1, fun b hb => ?_, ?_⟩
        · obtain ⟨o, e, _⟩ := T.obj _ _ st5 b hb
          exact (I'.pin (b, o) (List.mem_append_right _ (List.mem_append_right _ (mem_pinsAt hb e)))).2.1
        · have p := I'.pin (D, lobj us z) (List.mem_append_right _ (List.mem_append_left _ (List.mem_singleton.mpr rfl)))
          exact ⟨p.1, p.2.1⟩
      cases ok with
      | false =>
        have q7 : N vs H7 := q7
        show ∃ m, m < n ∧ _
        obtain ⟨k1, k2, k3, k4⟩ := fpK I7
        obtain ⟨m', hm, w7⟩ := hN vs H7 q7
        exact ⟨m', hm, i + 1, vs, us, z, H7, (Inv.unpinned I7).wk wk6, rv, T.keep _ _ _ st5 fun b hb o e => k1 b hb o e, k2, w7⟩
      | true =>
        have q7 : te σ6 H7 fun v H4 => N (vs ++ [v]) H4 := q7
        show wpAny _ _ _ _ _ _
        refine thn (he C s₂ H₂ fp (X.pn ++ pins) _ s7 σ6 H7 _ I7 q7) fun uv s8 zq => ?_
        obtain ⟨v, H8, I8, r8, q8⟩ := zq
        obtain ⟨k1, k2, k3, k4⟩ := fpK I8
        have lenU : us.length < sizeLine := by rw [← rv.length]; exact hz
        refine append_at (hsz := by rw [List.size_toArray]; exact Nat.le_of_lt lenU) k3 fun h9 hs9 hD9 => ?_
        obtain ⟨m', hm, w9⟩ := hN _ _ q8
        have J0 : Inv (inX X scope cl C s₂ H₂ fp (X.pn ++ pins)) [] σ6 H8 s8 := I8.pins_of fun p hp => nomatch hp
        have J1 : Inv (inX X scope cl C s₂ H₂ fp (X.pn ++ pins)) [] σ6 H8 { s8 with heap := h9, toks := s8.toks } := J0.turned (it := D) (fun b o hb e => (hs9.2 b hb).trans e) k4 hDC (.inr (Nat.le_of_eq hDe))
          (fun x a e z => (below a (cellsB x a (k.sub x a e))).2 z) fun p hp => by
            rcases List.mem_append.mp hp with hp | hp
            · exact (below p.1 (pinsB p hp)).2
            · exact nomatch hp
        have J2 : Inv (inX X scope cl C s₂ H₂ fp (X.pn ++ pins)) [(D, lobj (us ++ [uv]) (z + 1))] σ6 H8 { s8 with heap := h9, toks := s8.toks } := J1.pins_of fun p hp => by
          have e : p = (D, lobj (us ++ [uv]) (z + 1)) := by simpa using hp
          subst e
          refine ⟨?_, k4, hDC, nfs D (Nat.le_of_eq hDe), fun v z => by cases z⟩
          show h9.get? D = some _
          rw [hD9]
          simp [lobj]
        refine ⟨m', hm, i + 1, vs ++ [v], us ++ [uv], z + 1, H8, J2.wk wk6, rv.append (.cons r8 .nil), T.keep _ _ _ st5 fun b hb o e => ?_, k2, w9⟩
        exact (hs9.2 b (DnotF b hb)).trans (k1 b hb o e)
  exact codeAny_compStart_list (loop _ rfl) (T.self _ 0 _ _ _ (T.keep _ _ _ st fun b hb o e => old b o e) (loop _ rfl))
section
variable {X : Cx} {scope : Scope} {js : List Nat} {tg elt iter : Expr} {ifs : List Expr} {wi : TI} {g : TG} {tc : TT} {te : TE} {pos : Pos}
theorem Inv.clos {pins : List (Addr × Obj)} {σ : St} {H : Hp} {s : Shared} (I : Inv X pins σ H s) (c : CompOk X scope js) : ∃ cl, Clos scope X.env cl :=
  clos_of fun x hx => I.ok.has x (c.fr _ hx rfl)
theorem pe_comp (hc : X.calm = true) (c : CompOk X scope js) (hi : PI X tg iter wi)
    (hg : ∀ cl C s₀ H₀ ex pn, PG (inX X scope cl C s₀ H₀ ex pn) tg g) (hf : ∀ cl C s₀ H₀ ex pn, PIfs (inX X scope cl C s₀ H₀ ex pn) ifs tc) (he : ∀ cl C s₀ H₀ ex pn, PE (inX X scope cl C s₀ H₀ ex pn) elt te)
    (hs : ∀ x, foldedSetIterable iter X.env x = pure x := by intro _; rfl) : PE X (.ListComp elt [⟨tg, iter, ifs, 0⟩] scope pos) (tComp wi js g tc te) := by
  intro pins s σ H Q I h
  obtain ⟨cl, k⟩ := I.clos c
  rw [eval_ListComp]
  refine wpAny_comprehension_free (use := none) rfl hs k.eq c.kind c.names (thn (hi pins s σ H _ I h) fun v s1 h1 => thn h1 fun itv s2 h2 => ?_)
  obtain ⟨it, fp, tn, J, H2, e, I2, T, st2, f2, hW⟩ := h2
  subst e
  refine comp_core (Q := Q) hc c k (hg cl) (hf cl) (he cl) I2 T st2 f2 hW fun s' H' C D m I' hn hC hL hs0 hcell hpin q => ?_
  refine ⟨m, hn, fun h' hs' => ?_⟩
  exact ⟨.ref D, H', I'.turned (t' := s'.toks) (it := C) (fun b o hb e => (hs'.2 b hb).trans e) hC (fun z => hL z) (.inr hs0) hcell hpin, rfl, q⟩
theorem ps_comp {i : Nat} {y : Str} {py spos : Pos} (hN : X.N.Nodup) (hiN : X.N[i]? = some y) (hy : X.env.scope.names.lookup y = some .local) (hc : X.calm = true) (c : CompOk X scope js) (hi : PI X tg iter wi)
    (hg : ∀ cl C s₀ H₀ ex pn, PG (inX X scope cl C s₀ H₀ ex pn) tg g) (hf : ∀ cl C s₀ H₀ ex pn, PIfs (inX X scope cl C s₀ H₀ ex pn) ifs tc) (he : ∀ cl C s₀ H₀ ex pn, PE (inX X scope cl C s₀ H₀ ex pn) elt te)
    (hs : ∀ x, foldedSetIterable iter X.env x = pure x := by intro _; rfl) (hsw : swapsWith (.ListComp elt [⟨tg, iter, ifs, 0⟩] scope pos) (some (.Name y py)) spos.line X.env = pure true := by rfl) :
    PS X (.Assign [.Name y py] (.ListComp elt [⟨tg, iter, ifs, 0⟩] scope pos) spos) (tAsg (tComp wi js g tc te) (gName i)) := by
  intro pins s σ H D I h
  obtain ⟨cl, k⟩ := I.clos c
  rw [exec_Assign_Name_used _ _ _ _ hsw]
  refine wpAny_bind (wpAny_standAt (wpAny_bind ?_))
  show wpAny _ X.A (do let _ ← comprehension (.ListComp elt [⟨tg, iter, ifs, 0⟩] scope pos) scope X.env _ (newList []) false (eval iter X.env) (some (assign (.Name y py) X.env))) _ _ s
  refine wpAny_bind (wpAny_mono (wpAny_comprehension_free (use := some (assign (.Name y py) X.env)) (Q := fun _ s' => SP X pins D .next s') rfl hs k.eq c.kind c.names
    (thn (hi pins s σ H _ I h) fun v s1 h1 => thn h1 fun itv s2 h2 => ?_)) (fun _ s' hq => wpAny_pure (wpAny_pure hq)) fun _ _ e => e)
  obtain ⟨it, fp, tn, J, H2, e, I2, T, st2, f2, hW⟩ := h2
  subst e
  refine comp_core (Q := fun v H' => gName i v σ H' D.nx) hc c k (hg cl) (hf cl) (he cl) I2 T st2 f2 hW fun s' H' C D' m I' hn hC hL hs0 hcell hpin q => ?_
  show wpAny _ X.A (assign (.Name y py) X.env (.ref D')) _ _ s'
  refine wpAny_assign_Name (store_ok2 I' hN hiN (.inl hy) (v := .ref D') rfl (fun s'' I'' ⟨a, hsb, ha⟩ => ?_) (.inr hy))
  have hCa : C ≠ a := by
    rcases ha with z | z
    · rw [z]; exact hL
    · exact fun e => hcell y a z e.symm
  refine ⟨m, hn.sameBut hsb hCa, fun h' hs' => ?_⟩
  exact ⟨_, H', I''.turned (t' := s''.toks) (it := C) (fun b o hb e => (hs'.2 b hb).trans e) hC (fun z => hL z) (.inr hs0) hcell hpin, q⟩
end
end L2
set_option Elab.async false
set_option linter.all false
set_option maxRecDepth 100000
namespace Pu
open PySem PySem.Spec PyProof.Rows L2
inductive T where
  | non | bl (b : Bool) | int (i : Int) | str (x : Str) | tup (ts : List T) | ref (n : Nat)
inductive Ob where
  | lst (xs : List T) | fro (xs : List T) | dK (kvs : List (Key × T)) | dT (kvs : List (List Key × T))
noncomputable abbrev PH := List Ob
noncomputable def Ob.own : Ob → Bool
  | .fro _ => false
  | _ => true
mutual
inductive Den (H : Hp) (m : List Addr) : T → V → Prop
  | non : Den H m .non .non
  | bl (b : Bool) : Den H m (.bl b) (.bl b)
  | int (i : Int) : Den H m (.int i) (.int i)
  | str (x : Str) : Den H m (.str x) (.str x)
  | tup {a : Addr} {ts : List T} {vs : List V} (h : H a = some (.tup vs)) (d : Dens H m ts vs) : Den H m (.tup ts) (.ref a)
  | ref {n : Nat} {a : Addr} (h : m[n]? = some a) : Den H m (.ref n) (.ref a)
inductive Dens (H : Hp) (m : List Addr) : List T → List V → Prop
  | nil : Dens H m [] []
  | cons {t : T} {v : V} {ts : List T} {vs : List V} (d : Den H m t v) (r : Dens H m ts vs) : Dens H m (t :: ts) (v :: vs)
end
structure Up (m : List Addr) (H : Hp) (m' : List Addr) (H' : Hp) : Prop where
  sub : ∀ (i : Nat) (a : Addr), m[i]? = some a → m'[i]? = some a
  tup : ∀ b xs, H b = some (.tup xs) → H' b = some (.tup xs)
theorem Up.refl {m : List Addr} {H : Hp} : Up m H m H := ⟨fun _ _ h => h, fun _ _ h => h⟩
theorem Up.trans {m m1 m2 : List Addr} {H H1 H2 : Hp} (a : Up m H m1 H1) (b : Up m1 H1 m2 H2) : Up m H m2 H2 := ⟨fun i x h => b.sub i x (a.sub i x h), fun c xs h => b.tup c xs (a.tup c xs h)⟩
mutual
theorem Den.up {m m' : List Addr} {H H' : Hp} (u : Up m H m' H') : ∀ {t : T} {v : V}, Den H m t v → Den H' m' t v
  | _, _, .non => .non
  | _, _, .bl b => .bl b
  | _, _, .int i => .int i
  | _, _, .str x => .str x
  | _, _, .tup h d => .tup (u.tup _ _ h) (Dens.up u d)
  | _, _, .ref h => .ref (u.sub _ _ h)
theorem Dens.up {m m' : List Addr} {H H' : Hp} (u : Up m H m' H') : ∀ {ts : List T} {vs : List V}, Dens H m ts vs → Dens H' m' ts vs
  | _, _, .nil => .nil
  | _, _, .cons d r => .cons (Den.up u d) (Dens.up u r)
end
section
variable {H : Hp} {m : List Addr}
theorem Dens.length : ∀ {ts : List T} {vs : List V}, Dens H m ts vs → ts.length = vs.length
  | _, _, .nil => rfl
  | _, _, .cons _ r => congrArg (· + 1) (Dens.length r)
theorem Dens.append : ∀ {ts us : List T} {vs ws : List V}, Dens H m ts vs → Dens H m us ws → Dens H m (ts ++ us) (vs ++ ws)
  | _, _, _, _, .nil, s => s
  | _, _, _, _, .cons d r, s => .cons d (Dens.append r s)
theorem Dens.take : ∀ {ts : List T} {vs : List V} (n : Nat), Dens H m ts vs → Dens H m (ts.take n) (vs.take n)
  | _, _, 0, _ => by simp; exact .nil
  | _, _, _ + 1, .nil => .nil
  | _, _, n + 1, .cons d r => .cons d (Dens.take n r)
theorem Dens.drop : ∀ {ts : List T} {vs : List V} (n : Nat), Dens H m ts vs → Dens H m (ts.drop n) (vs.drop n)
  | _, _, 0, r => r
  | _, _, _ + 1, .nil => .nil
  | _, _, n + 1, .cons _ r => Dens.drop n r
theorem Dens.set {t : T} {v : V} (d : Den H m t v) : ∀ {ts : List T} {vs : List V} (n : Nat), Dens H m ts vs → Dens H m (ts.set n t) (vs.set n v)
  | _, _, _, .nil => .nil
  | _, _, 0, .cons _ r => .cons d r
  | _, _, n + 1, .cons e r => .cons e (Dens.set d n r)
theorem Dens.get : ∀ {ts : List T} {vs : List V} {i : Nat} {t : T}, Dens H m ts vs → ts[i]? = some t → ∃ v, vs[i]? = some v ∧ Den H m t v
  | _, _, _, _, .nil, e => by simp at e
  | _, _, 0, _, .cons d _, e => by simp at e; subst e; exact ⟨_, rfl, d⟩
  | _, _, i + 1, t, .cons _ r, e => by
    obtain ⟨v, h1, h2⟩ := Dens.get (i := i) (t := t) r (by simpa using e)
    exact ⟨v, by simpa using h1, h2⟩
theorem Dens.rep {ts : List T} {vs : List V} (h : Dens H m ts vs) : ∀ k : Nat, Dens H m (List.replicate k ts).flatten (List.replicate k vs).flatten
  | 0 => .nil
  | k + 1 => by
    rw [List.replicate_succ, List.replicate_succ, List.flatten_cons, List.flatten_cons]
    exact Dens.append h (Dens.rep h k)
theorem Dens.of_ints : ∀ (ns : List Int), Dens H m (ns.map T.int) (ns.map V.int)
  | [] => .nil
  | n :: ns => .cons (.int n) (Dens.of_ints ns)
theorem Dens.nil_iff {ts : List T} {vs : List V} (h : Dens H m ts vs) : ts = [] ↔ vs = [] := by
  cases h <;> simp
end
noncomputable def ModL (K : PySem.W.Frag) (a : Addr) (xs : List V) : Prop :=
  ∃ (o : Obj) (its : Array Value) (n : Nat), K.lookup a = some o ∧ o.cls = .type "list" ∧ o.dict = none ∧ o.data = .seq its n ∧ its.size ≤ sizeLine ∧ Vals xs its.toList
noncomputable def ObR (K : PySem.W.Frag) (H : Hp) (m : List Addr) (a : Addr) : Ob → Prop
  | .lst xs => ∃ vs, H a = some (.lst vs) ∧ Dens H m xs vs
  | .fro xs => ∃ vs, ((∃ o, H a = some (.frz o (.lst vs))) ∨ ModL K a vs) ∧ Dens H m xs vs
  | .dK kvs => ∃ vs, H a = some (.dK vs) ∧ kvs.map (·.1) = vs.map (·.1) ∧ Dens H m (kvs.map (·.2)) (vs.map (·.2))
  | .dT kvs => ∃ vs, H a = some (.dT vs) ∧ kvs.map (·.1) = vs.map (·.1) ∧ Dens H m (kvs.map (·.2)) (vs.map (·.2))
structure Rep (K : PySem.W.Frag) (m : List Addr) (h : PH) (H : Hp) : Prop where
  len : m.length = h.length
  obj : ∀ (i : Nat) o, h[i]? = some o → ∃ a, m[i]? = some a ∧ ObR K H m a o
  inj : ∀ (i j : Nat) a oi oj, h[i]? = some oi → h[j]? = some oj → oi.own = true → oj.own = true → m[i]? = some a → m[j]? = some a → i = j
section
variable {K : PySem.W.Frag} {m m' : List Addr} {h : PH} {H H' : Hp} {a p : Addr}
theorem ObR.up {o : Ob} (u : Up m H m' H') (hk : ∀ ho, H a = some ho → H' a = some ho) (r : ObR K H m a o) : ObR K H' m' a o := by
  cases o with
  | lst xs => obtain ⟨vs, e, d⟩ := r; exact ⟨vs, hk _ e, d.up u⟩
  | fro xs => obtain ⟨vs, e, d⟩ := r; exact ⟨vs, e.imp (fun ⟨o, q⟩ => ⟨o, hk _ q⟩) id, d.up u⟩
  | dK xs => obtain ⟨vs, e, k, d⟩ := r; exact ⟨vs, hk _ e, k, d.up u⟩
  | dT xs => obtain ⟨vs, e, k, d⟩ := r; exact ⟨vs, hk _ e, k, d.up u⟩
theorem ObR.is {o : Ob} (r : ObR K H m a o) (ho : o.own = true) : ∃ x, H a = some x ∧ (∀ xs, x ≠ .tup xs) ∧ (∀ q xs, x ≠ .frz q xs) := by
  cases o with
  | lst xs => obtain ⟨vs, e, _⟩ := r; exact ⟨_, e, (fun _ z => nomatch z), (fun _ _ z => nomatch z)⟩
  | fro xs => cases ho
  | dK xs => obtain ⟨vs, e, _⟩ := r; exact ⟨_, e, (fun _ z => nomatch z), (fun _ _ z => nomatch z)⟩
  | dT xs => obtain ⟨vs, e, _⟩ := r; exact ⟨_, e, (fun _ z => nomatch z), (fun _ _ z => nomatch z)⟩
theorem ObR.other {o : Ob} {x : HO} (u : Up m H m' (upd H p x)) (hne : o.own = true → a ≠ p) (hf : ∀ q xs, H p ≠ some (.frz q xs)) (r : ObR K H m a o) : ObR K (upd H p x) m' a o := by
  by_cases e : a = p
  · cases o with
    | fro xs =>
      obtain ⟨vs, q, d⟩ := r
      refine ⟨vs, ?_, d.up u⟩
      rcases q with ⟨o, q⟩ | q
      · rw [e] at q; exact absurd q (hf _ _)
      · exact .inr q
    | lst xs => exact absurd e (hne rfl)
    | dK xs => exact absurd e (hne rfl)
    | dT xs => exact absurd e (hne rfl)
  · exact r.up u fun ho z => by rw [upd_ne e]; exact z
theorem Up.newTup {x : HO} (hp : H p = none) : Up m H m (upd H p x) := ⟨fun _ _ h => h, fun b xs q => by rw [upd_ne (ne_of_none q hp)]; exact q⟩
theorem Up.new {x : HO} (hp : H p = none) : Up m H (m ++ [p]) (upd H p x) := ⟨fun i b e => by
    obtain ⟨hi, _⟩ := List.getElem?_eq_some_iff.mp e
    rw [List.getElem?_append_left hi]; exact e, fun b xs q => by rw [upd_ne (ne_of_none q hp)]; exact q⟩
theorem Rep.tup {x : HO} (r : Rep K m h H) (hp : H p = none) : Rep K m h (upd H p x) :=
  ⟨r.len, fun i o e => let ⟨b, hb, q⟩ := r.obj i o e; ⟨b, hb, q.other (Up.newTup hp) (fun ho z => by obtain ⟨y, hy, _⟩ := q.is ho; rw [z, hp] at hy; cases hy) fun _ _ z => by rw [hp] at z; cases z⟩, r.inj⟩
theorem Rep.new {x : HO} {o : Ob} (r : Rep K m h H) (hp : H p = none) (n : ObR K (upd H p x) (m ++ [p]) p o) : Rep K (m ++ [p]) (h ++ [o]) (upd H p x) := by
  have low : ∀ {i : Nat} {q : Ob}, (h ++ [o])[i]? = some q → (i < h.length ∧ h[i]? = some q) ∨ (i = h.length ∧ q = o) := fun {i q} e => by
    by_cases hi : i < h.length
    · rw [List.getElem?_append_left hi] at e; exact .inl ⟨hi, e⟩
    · have : i = h.length := by
        obtain ⟨hl, _⟩ := List.getElem?_eq_some_iff.mp e
        rw [List.length_append, List.length_singleton] at hl; omega
      subst this
      rw [List.getElem?_append_right (Nat.le_refl _), Nat.sub_self] at e
      exact .inr ⟨rfl, by simpa using e.symm⟩
  have mlow : ∀ {i : Nat}, i < h.length → (m ++ [p])[i]? = m[i]? := fun {i} hi => List.getElem?_append_left (by rw [r.len]; exact hi)
  have mtop : (m ++ [p])[h.length]? = some p := by rw [← r.len, List.getElem?_append_right (Nat.le_refl _), Nat.sub_self] <;> rfl
  have fresh : ∀ {i : Nat} {q : Ob}, h[i]? = some q → q.own = true → m[i]? ≠ some p := fun {i q} e ho z => by
    obtain ⟨b, hb, hq⟩ := r.obj i q e
    obtain ⟨y, hy, _⟩ := hq.is ho
    rw [hb] at z; cases z
    rw [hp] at hy; cases hy
  refine ⟨by rw [List.length_append, List.length_append, r.len] <;> rfl, fun i q e => ?_, fun i j b oi oj ei ej hi hj mi mj => ?_⟩
  · rcases low e with ⟨hl, e⟩ | ⟨rfl, rfl⟩
    · obtain ⟨b, hb, hq⟩ := r.obj i q e
      exact ⟨b, by rw [mlow hl]; exact hb, hq.other (Up.new hp) (fun ho z => fresh e ho (by rw [hb, z])) fun _ _ z => by rw [hp] at z; cases z⟩
    · exact ⟨p, mtop, n⟩
  · rcases low ei with ⟨hl, ei'⟩ | ⟨e1, e2⟩
    · rw [mlow hl] at mi
      rcases low ej with ⟨hl', ej'⟩ | ⟨e1, e2⟩
      · rw [mlow hl'] at mj
        exact r.inj i j b oi oj ei' ej' hi hj mi mj
      · rw [e1, mtop] at mj; cases mj
        exact absurd mi (fresh ei' hi)
    · rw [e1, mtop] at mi; cases mi
      rcases low ej with ⟨hl', ej'⟩ | ⟨e3, e4⟩
      · rw [mlow hl'] at mj
        exact absurd mj (fresh ej' hj)
      · rw [e1, e3]
theorem Up.write {x y : HO} (e : H a = some x) (nt : ∀ xs, x ≠ .tup xs) : Up m H m (upd H a y) := ⟨fun _ _ h => h, fun b xs q => by
  rw [upd_ne (fun z => by rw [z, e] at q; exact nt xs (Option.some.inj q))]; exact q⟩
theorem Rep.write {y : HO} {i : Nat} {o o' : Ob} (r : Rep K m h H) (ei : h[i]? = some o) (hown : o.own = true) (hown' : o'.own = true) (ha : m[i]? = some a) (n : ObR K (upd H a y) m a o') : Rep K m (h.set i o') (upd H a y) := by
  obtain ⟨b, hb, q⟩ := r.obj i o ei
  rw [ha] at hb; cases hb
  obtain ⟨x, hx, nt, nf⟩ := q.is hown
  have hi : i < h.length := (List.getElem?_eq_some_iff.mp ei).1
  have get : ∀ {j : Nat} {u : Ob}, (h.set i o')[j]? = some u → (j = i ∧ u = o') ∨ (j ≠ i ∧ h[j]? = some u) := fun {j u} e => by
    by_cases hj : j = i
    · subst hj
      rw [List.getElem?_set_self hi] at e
      exact .inl ⟨rfl, (Option.some.inj e).symm⟩
    · rw [List.getElem?_set_ne (Ne.symm hj)] at e
      exact .inr ⟨hj, e⟩
  refine ⟨by rw [List.length_set]; exact r.len, fun j u e => ?_, fun j k b oj ok ej ek hj hk mj mk => ?_⟩
  · rcases get e with ⟨rfl, rfl⟩ | ⟨hj, e⟩
    · exact ⟨a, ha, n⟩
    · obtain ⟨b, hb, hq⟩ := r.obj j u e
      refine ⟨b, hb, hq.other (Up.write hx nt) (fun ho z => ?_) fun q xs z => by rw [hx] at z; exact nf q xs (Option.some.inj z)⟩
      rw [z] at hb
      exact hj (r.inj j i a u o e ei ho hown hb ha)
  · rcases get ej with ⟨e1, e2⟩ | ⟨hj', ej'⟩
    · rcases get ek with ⟨e3, e4⟩ | ⟨hk', ek'⟩
      · rw [e1, e3]
      · exact r.inj j k b o ok (by rw [e1]; exact ei) ek' hown hk mj mk
    · rcases get ek with ⟨e3, e4⟩ | ⟨hk', ek'⟩
      · exact r.inj j k b oj o ej' (by rw [e3]; exact ei) hj hown mj mk
      · exact r.inj j k b oj ok ej' ek' hj hk mj mk
theorem Rep.sqL {i : Nat} {xs : List T} (r : Rep K m h H) (e : h[i]? = some (.lst xs) ∨ h[i]? = some (.fro xs)) (ha : m[i]? = some a) : ∃ vs, SqL K H a vs ∧ Dens H m xs vs := by
  rcases e with e | e
  · obtain ⟨b, hb, vs, q, d⟩ := r.obj i _ e
    rw [ha] at hb; cases hb
    exact ⟨vs, .of q, d⟩
  · obtain ⟨b, hb, vs, q, d⟩ := r.obj i _ e
    rw [ha] at hb; cases hb
    refine ⟨vs, ?_, d⟩
    rcases q with ⟨o, q⟩ | q
    · exact .inl (.inr ⟨o, q⟩)
    · exact .inr q
theorem Rep.lst {i : Nat} {xs : List T} (r : Rep K m h H) (e : h[i]? = some (.lst xs)) (ha : m[i]? = some a) : ∃ vs, H a = some (.lst vs) ∧ Dens H m xs vs := by
  obtain ⟨b, hb, vs, q, d⟩ := r.obj i _ e
  rw [ha] at hb; cases hb
  exact ⟨vs, q, d⟩
end
end Pu
set_option Elab.async false
set_option linter.all false
set_option maxRecDepth 100000
namespace Pu
open PySem PySem.Spec PyProof.Rows L2
noncomputable abbrev St := L2.St
noncomputable abbrev En := List (Option T)
structure EnR (H : Hp) (m : List Addr) (env : En) (σ : St) : Prop where
  len : env.length = σ.length
  get : ∀ (i : Nat) t, env[i]? = some (some t) → ∃ v, σ[i]? = some (some v) ∧ Den H m t v
noncomputable abbrev WK := T → PH → Prop
noncomputable abbrev WE := En → PH → WK → Prop
noncomputable abbrev WT := En → PH → (Bool → PH → Prop) → Prop
noncomputable abbrev WA := En → PH → (List T → PH → Prop) → Prop
theorem EnR.up {m m' : List Addr} {H H' : Hp} {env : En} {σ : St} (r : EnR H m env σ) (u : Up m H m' H') : EnR H' m' env σ := ⟨r.len, fun i t e => let ⟨v, h1, h2⟩ := r.get i t e; ⟨v, h1, h2.up u⟩⟩
theorem EnR.set {m : List Addr} {H : Hp} {env : En} {σ : St} {t : T} {v : V} (r : EnR H m env σ) (d : Den H m t v) (i : Nat) : EnR H m (env.set i (some t)) (σ.set i (some v)) := by
  refine ⟨by rw [List.length_set, List.length_set]; exact r.len, fun j u e => ?_⟩
  rw [List.getElem?_set] at e
  rw [List.getElem?_set]
  by_cases hj : i = j
  · subst hj
    rw [if_pos rfl] at e ⊢
    by_cases hl : i < env.length
    · rw [if_pos hl] at e
      rw [if_pos (by rw [← r.len]; exact hl)]
      cases e
      exact ⟨v, rfl, d⟩
    · rw [if_neg hl] at e; cases e
  · rw [if_neg hj] at e ⊢
    exact r.get j u e
theorem EnR.clr {m : List Addr} {H : Hp} {env : En} {σ : St} (r : EnR H m env σ) (i : Nat) : EnR H m (env.set i none) (σ.set i none) := by
  refine ⟨by rw [List.length_set, List.length_set]; exact r.len, fun j u e => ?_⟩
  rw [List.getElem?_set] at e
  rw [List.getElem?_set]
  by_cases hj : i = j
  · subst hj
    rw [if_pos rfl] at e
    by_cases hl : i < env.length
    · rw [if_pos hl] at e; cases e
    · rw [if_neg hl] at e; cases e
  · rw [if_neg hj] at e ⊢
    exact r.get j u e
noncomputable def Aft (K : PySem.W.Frag) (m : List Addr) (H : Hp) (k : WK) (Q : VK) : Prop := ∀ t h' m' H' v, Up m H m' H' → Rep K m' h' H' → Den H' m' t v → k t h' → Q v H'
noncomputable def AftB (K : PySem.W.Frag) (m : List Addr) (H : Hp) (k : Bool → PH → Prop) (Q : Bool → Hp → Prop) : Prop := ∀ b h' m' H', Up m H m' H' → Rep K m' h' H' → k b h' → Q b H'
noncomputable def AftL (K : PySem.W.Frag) (m : List Addr) (H : Hp) (k : List T → PH → Prop) (Q : List V → Hp → Prop) : Prop := ∀ ts h' m' H' vs, Up m H m' H' → Rep K m' h' H' → Dens H' m' ts vs → k ts h' → Q vs H'
noncomputable def rdE (K : PySem.W.Frag) (w : WE) : TE := fun σ H Q => ∃ m env h k, Rep K m h H ∧ EnR H m env σ ∧ w env h k ∧ Aft K m H k Q
noncomputable def rdT (K : PySem.W.Frag) (w : WT) : TT := fun σ H Q => ∃ m env h k, Rep K m h H ∧ EnR H m env σ ∧ w env h k ∧ AftB K m H k Q
noncomputable def rdA (K : PySem.W.Frag) (w : WA) : TA := fun σ H Q => ∃ m env h k, Rep K m h H ∧ EnR H m env σ ∧ w env h k ∧ AftL K m H k Q
noncomputable def OE (X : Cx) (e : Expr) (w : WE) : Prop := PE X e (rdE X.K w)
noncomputable def OT (X : Cx) (e : Expr) (w : WT) : Prop := PT X e (rdT X.K w)
noncomputable def OW (X : Cx) (e : Expr) (w : WT) : Prop := PW X e (rdT X.K w)
noncomputable def OA (X : Cx) (es : List Expr) (w : WA) : Prop := PA X es (rdA X.K w)
section
variable {X : Cx} {a b c e : Expr} {es : List Expr} {pos : Pos}
theorem PE.imp {t t' : TE} (h : PE X e t) (hi : ∀ σ H Q, t' σ H Q → t σ H Q) : PE X e t' := fun pins s σ H Q I q => h pins s σ H Q I (hi σ H Q q)
theorem PT.imp {t t' : TT} (h : PT X e t) (hi : ∀ σ H Q, t' σ H Q → t σ H Q) : PT X e t' := fun pins s σ H Q I q => h pins s σ H Q I (hi σ H Q q)
theorem PW.imp {t t' : TT} (h : PW X e t) (hi : ∀ σ H Q, t' σ H Q → t σ H Q) : PW X e t' := fun wh pins s σ H Q I q => h wh pins s σ H Q I (hi σ H Q q)
theorem PA.imp {t t' : TA} (h : PA X es t) (hi : ∀ σ H Q, t' σ H Q → t σ H Q) : PA X es t' := fun ps pins s σ H Q I q => h ps pins s σ H Q I (hi σ H Q q)
noncomputable def wVar (i : Nat) : WE := fun env h k => match env[i]? with
  | some (some t) => k t h
  | _ => False
noncomputable def wC (t : T) : WE := fun _ h k => k t h
theorem ov (i : Nat) {x : Str} (hN : X.N[i]? = some x := by rfl) (hv : Vis X.env.scope x := by first | exact Or.inl rfl | exact Or.inr (Or.inl rfl) | exact Or.inr (Or.inr rfl)) (hd : (x == ("__debug__" : Str)) = false := by decide)
    (hcd : (x == ("__classdict__" : Str)) = false := by decide) : OE X (.Name x pos) (wVar i) := PE.imp (pe_var hN hv hd hcd) fun σ H Q ⟨m, env, h, k, r, en, w, af⟩ => by
  have w : (match env[i]? with | some (some t) => k t h | _ => False) := w
  cases e : env[i]? with
  | none => rw [e] at w; exact w.elim
  | some o =>
    cases o with
    | none => rw [e] at w; exact w.elim
    | some t =>
      rw [e] at w
      obtain ⟨v, h1, h2⟩ := en.get i t e
      exact ⟨v, h1, af t h m H v .refl r h2 w⟩
theorem oe_c {t : T} {v : V} (h : PE X e (tC v)) (hd : ∀ H m, Den H m t v) : OE X e (wC t) := PE.imp h fun σ H Q ⟨m, env, h, k, r, en, w, af⟩ => af t h m H v .refl r (hd H m) w
theorem oe_int {i j} : OE X (.Constant (.int i) j pos) (wC (.int i)) := oe_c pe_int fun _ _ => .int i
theorem oe_bl {b j} : OE X (.Constant (.bool b) j pos) (wC (.bl b)) := oe_c pe_bl fun _ _ => .bl b
theorem oe_non {j} : OE X (.Constant .none j pos) (wC .non) := oe_c pe_non fun _ _ => .non
theorem oe_str {x j} : OE X (.Constant (.str x) j pos) (wC (.str x)) := oe_c pe_str fun _ _ => .str x
noncomputable abbrev P2 := T → T → PH → WK → Prop
noncomputable def wOp (p : P2) (wa wb : WE) : WE := fun env h k => wa env h fun x h1 => wb env h1 fun y h2 => p x y h2 k
noncomputable def R2I (K : PySem.W.Frag) (r : R2) (p : P2) : Prop := ∀ m h H x y vx vy k Q, Rep K m h H → Den H m x vx → Den H m y vy → p x y h k → Aft K m H k Q → r vx vy H Q
theorem Aft.after {K : PySem.W.Frag} {m m' : List Addr} {H H' : Hp} {k : WK} {Q : VK} (a : Aft K m H k Q) (u : Up m H m' H') : Aft K m' H' k Q := fun t h2 m2 H2 v u2 => a t h2 m2 H2 v (u.trans u2)
theorem AftB.after {K : PySem.W.Frag} {m m' : List Addr} {H H' : Hp} {k : Bool → PH → Prop} {Q : Bool → Hp → Prop} (a : AftB K m H k Q) (u : Up m H m' H') : AftB K m' H' k Q := fun t h2 m2 H2 u2 => a t h2 m2 H2 (u.trans u2)
theorem rd2 {r : R2} {p : P2} {wa wb : WE} (hr : R2I X.K r p) : ∀ σ H Q, rdE X.K (wOp p wa wb) σ H Q → tOp r (rdE X.K wa) (rdE X.K wb) σ H Q := fun σ H Q ⟨m, env, h, k, rp, en, w, af⟩ =>
  ⟨m, env, h, _, rp, en, w, fun x h1 m1 H1 vx u1 r1 dx q1 => ⟨m1, env, h1, _, r1, en.up u1, q1, fun y h2 m2 H2 vy u2 r2 dy q2 => hr m2 h2 H2 x y vx vy k Q r2 (dx.up u2) dy q2 (af.after (u1.trans u2))⟩⟩
theorem oe_op {op : Operator} {r : R2} {p : P2} {wa wb : WE} (ho : OpR X (binaryOp op) r) (hr : R2I X.K r p) (ha : OE X a wa) (hb : OE X b wb) : OE X (.BinOp a op b pos) (wOp p wa wb) := PE.imp (pe_op ho ha hb) (rd2 hr)
theorem oe_cmp {op : CmpOp} {r : R2} {p : P2} {wa wb : WE} (ho : OpR X (compareOp op) r) (hr : R2I X.K r p) (hm : behindInMarks op b = false) (ha : OE X a wa) (hb : OE X b wb) : OE X (.Compare a [op] [b] pos) (wOp p wa wb) := PE.imp (pe_cmpR ho ha hb hm) (rd2 hr)
noncomputable def wTest (w : WE) : WT := fun env h k => w env h fun x h' => match x with
  | .bl c => k c h'
  | _ => False
theorem ot_cmp {op : CmpOp} {r : R2} {p : P2} {wa wb : WE} (ho : OpR X (compareOp op) r) (hr : R2I X.K r p) (hm : behindInMarks op b = false) (ha : OE X a wa) (hb : OE X b wb) : OT X (.Compare a [op] [b] pos) (wTest (wOp p wa wb)) :=
  PT.imp (pt_cmpR ho ha hb hm) fun σ H Q ⟨m, env, h, k, rp, en, w, af⟩ => rd2 hr σ H _ ⟨m, env, h, _, rp, en, w, fun t h' m' H' v u r' d q => by
    cases d with
    | bl c => exact ⟨c, rfl, af c h' m' H' u r' q⟩
    | _ => exact (show False from q).elim⟩
theorem ot_val {w : WE} (h : OE X e w) (he : ∀ whole, isTrue e X.env whole = (do let v ← whole; standAt e.pos; holding [v] (truthy v)) := by intro _; rfl) : OT X e (wTest w) :=
  PT.imp (pt_val h he) fun σ H Q ⟨m, env, h, k, rp, en, w, af⟩ => ⟨m, env, h, _, rp, en, w, fun t h' m' H' v u r' d q => by
    cases d with
    | bl c => exact ⟨c, rfl, af c h' m' H' u r' q⟩
    | _ => exact (show False from q).elim⟩
noncomputable def wChain (p p' : P2) (wa wb wc : WE) : WE := fun env h k => wa env h fun x h1 => wb env h1 fun y h2 => p x y h2 fun z h3 => match z with
  | .bl true => wc env h3 fun u h4 => p' y u h4 k
  | .bl false => k (.bl false) h3
  | _ => False
theorem rd_chain {r r' : R2} {p p' : P2} {wa wb wc : WE} (hr : R2I X.K r p) (hr' : R2I X.K r' p') : ∀ σ H Q, rdE X.K (wChain p p' wa wb wc) σ H Q → tChain r r' (rdE X.K wa) (rdE X.K wb) (rdE X.K wc) σ H Q := fun σ H Q ⟨m, env, h, k, rp, en, w, af⟩ =>
  ⟨m, env, h, _, rp, en, w, fun x h1 m1 H1 vx u1 r1 dx q1 => ⟨m1, env, h1, _, r1, en.up u1, q1, fun y h2 m2 H2 vy u2 r2 dy q2 => hr m2 h2 H2 x y vx vy _ _ r2 (dx.up u2) dy q2 fun z h3 m3 H3 vz u3 r3 dz q3 => by
    cases dz with
    | bl cc =>
      refine ⟨cc, rfl, ?_⟩
      cases cc with
      | true => exact ⟨m3, env, h3, _, r3, en.up (u1.trans (u2.trans u3)), q3, fun y' h4 m4 H4 vw u4 r4 dw q4 => hr' m4 h4 H4 y y' vy vw k Q r4 (dy.up (u3.trans u4)) dw q4 (af.after (u1.trans (u2.trans (u3.trans u4))))⟩
      | false => exact af (.bl false) h3 m3 H3 (.bl false) (u1.trans (u2.trans u3)) r3 (.bl false) q3
    | _ => exact (show False from q3).elim⟩⟩
theorem oe_chain {op op' : CmpOp} {r r' : R2} {p p' : P2} {wa wb wc : WE} (ho : OpR X (compareOp op) r) (hr : R2I X.K r p) (ho' : OpR X (compareOp op') r') (hr' : R2I X.K r' p') (ha : OE X a wa) (hb : OE X b wb) (hc : OE X c wc)
    (hm : lastMarks [op, op'] [b, c] = false := by with_unfolding_all rfl) : OE X (.Compare a [op, op'] [b, c] pos) (wChain p p' wa wb wc) := PE.imp (pe_chain ho ho' ha hb hc hm) (rd_chain hr hr')
theorem ot_chain {op op' : CmpOp} {r r' : R2} {p p' : P2} {wa wb wc : WE} (ho : OpR X (compareOp op) r) (hr : R2I X.K r p) (ho' : OpR X (compareOp op') r') (hr' : R2I X.K r' p') (ha : OE X a wa) (hb : OE X b wb) (hc : OE X c wc)
    (hm : lastMarks [op, op'] [b, c] = false := by with_unfolding_all rfl) : OT X (.Compare a [op, op'] [b, c] pos) (wTest (wChain p p' wa wb wc)) :=
  PT.imp (pt_chain ho ho' ha hb hc hm) fun σ H Q ⟨m, env, h, k, rp, en, w, af⟩ => rd_chain hr hr' σ H _ ⟨m, env, h, _, rp, en, w, fun t h' m' H' v u r' d q => by
    cases d with
    | bl c => exact ⟨c, rfl, af c h' m' H' u r' q⟩
    | _ => exact (show False from q).elim⟩
variable {rest : List Expr}
noncomputable def wAnd (t u : WT) : WT := fun env h k => t env h fun c h1 => if c = true then u env h1 k else k false h1
noncomputable def wOr (t u : WT) : WT := fun env h k => t env h fun c h1 => if c = true then k true h1 else u env h1 k
noncomputable def wNot (t : WT) : WT := fun env h k => t env h fun c h1 => k (!c) h1
theorem ow_and1 {w : WT} (h : OT X a w) : OW X (.BoolOp .And [a] pos) w := pw_and1 h
theorem ow_or1 {w : WT} (h : OT X a w) : OW X (.BoolOp .Or [a] pos) w := pw_or1 h
theorem ow_and {w u : WT} (ha : OT X a w) (hb : OW X (.BoolOp .And (b :: rest) pos) u) : OW X (.BoolOp .And (a :: b :: rest) pos) (wAnd w u) := PW.imp (pw_and ha hb) fun σ H Q ⟨m, env, h, k, rp, en, w, af⟩ =>
  ⟨m, env, h, _, rp, en, w, fun c h1 m1 H1 u1 r1 q1 => by
    cases c with
    | true => rw [if_pos rfl] at q1 ⊢; exact ⟨m1, env, h1, k, r1, en.up u1, q1, af.after u1⟩
    | false => rw [if_neg Bool.false_ne_true] at q1 ⊢; exact af false h1 m1 H1 u1 r1 q1⟩
theorem ow_or {w u : WT} (ha : OT X a w) (hb : OW X (.BoolOp .Or (b :: rest) pos) u) : OW X (.BoolOp .Or (a :: b :: rest) pos) (wOr w u) := PW.imp (pw_or ha hb) fun σ H Q ⟨m, env, h, k, rp, en, w, af⟩ =>
  ⟨m, env, h, _, rp, en, w, fun c h1 m1 H1 u1 r1 q1 => by
    cases c with
    | false => rw [if_neg Bool.false_ne_true] at q1 ⊢; exact ⟨m1, env, h1, k, r1, en.up u1, q1, af.after u1⟩
    | true => rw [if_pos rfl] at q1 ⊢; exact af true h1 m1 H1 u1 r1 q1⟩
theorem ot_w {w : WT} (h : OW X e w) : OT X e w := PW.pt h
theorem ot_not {w : WT} (ha : OT X a w) : OT X (.UnaryOp .Not a pos) (wNot w) := PT.imp (pt_not ha) fun σ H Q ⟨m, env, h, k, rp, en, w, af⟩ => ⟨m, env, h, _, rp, en, w, fun c h1 m1 H1 u1 r1 q1 => af (!c) h1 m1 H1 u1 r1 q1⟩
noncomputable def wAndV (wa wb : WE) : WE := fun env h k => wa env h fun x h1 => match x with
  | .bl true => wb env h1 k
  | .bl false => k (.bl false) h1
  | _ => False
noncomputable def wOrV (wa wb : WE) : WE := fun env h k => wa env h fun x h1 => match x with
  | .bl true => k (.bl true) h1
  | .bl false => wb env h1 k
  | _ => False
noncomputable def wNotV (wa : WE) : WE := fun env h k => wa env h fun x h1 => match x with
  | .bl c => k (.bl (!c)) h1
  | _ => False
theorem oe_one {op} {w : WE} (h : OE X a w) : OE X (.BoolOp op [a] pos) w := pe_one h
theorem oe_and {wa wb : WE} (ha : OE X a wa) (hb : OE X (.BoolOp .And (b :: rest) pos) wb) : OE X (.BoolOp .And (a :: b :: rest) pos) (wAndV wa wb) := PE.imp (pe_and ha hb) fun σ H Q ⟨m, env, h, k, rp, en, w, af⟩ =>
  ⟨m, env, h, _, rp, en, w, fun t h1 m1 H1 v u1 r1 d q1 => by
    cases d with
    | bl cc =>
      refine ⟨cc, rfl, ?_⟩
      cases cc with
      | true => rw [if_pos rfl]; exact ⟨m1, env, h1, k, r1, en.up u1, q1, af.after u1⟩
      | false => rw [if_neg Bool.false_ne_true]; exact af _ h1 m1 H1 _ u1 r1 (.bl false) q1
    | _ => exact (show False from q1).elim⟩
theorem oe_not {wa : WE} (ha : OE X a wa) : OE X (.UnaryOp .Not a pos) (wNotV wa) := PE.imp (pe_not ha) fun σ H Q ⟨m, env, h, k, rp, en, w, af⟩ =>
  ⟨m, env, h, _, rp, en, w, fun t h1 m1 H1 v u1 r1 d q1 => by
    cases d with
    | bl cc => exact ⟨cc, rfl, af _ h1 m1 H1 _ u1 r1 (.bl _) q1⟩
    | _ => exact (show False from q1).elim⟩
noncomputable def wIfE (t : WT) (wa wb : WE) : WE := fun env h k => t env h fun c h1 => if c = true then wa env h1 k else wb env h1 k
noncomputable def wUn (p : T → PH → WK → Prop) (wa : WE) : WE := fun env h k => wa env h fun x h1 => p x h1 k
noncomputable def R1I (K : PySem.W.Frag) (r : V → Hp → VK → Prop) (p : T → PH → WK → Prop) : Prop := ∀ m h H x vx k Q, Rep K m h H → Den H m x vx → p x h k → Aft K m H k Q → r vx H Q
theorem oe_un {op : UnaryOp} {r : V → Hp → VK → Prop} {p : T → PH → WK → Prop} {wa : WE} (ho : UnR X (unaryOp op) r) (hr : R1I X.K r p) (ha : OE X a wa) : OE X (.UnaryOp op a pos) (wUn p wa) :=
  PE.imp (pe_un ho ha) fun σ H Q ⟨m, env, h, k, rp, en, w, af⟩ => ⟨m, env, h, _, rp, en, w, fun t h1 m1 H1 v u1 r1 d q1 => hr m1 h1 H1 t v k Q r1 d q1 (af.after u1)⟩
noncomputable def wNil : WA := fun _ h k => k [] h
noncomputable def wCons (wa : WE) (wr : WA) : WA := fun env h k => wa env h fun x h1 => wr env h1 fun xs h2 => k (x :: xs) h2
theorem oa_nil : OA X [] wNil := PA.imp pa_nil fun σ H Q ⟨m, env, h, k, rp, en, w, af⟩ => af [] h m H [] .refl rp .nil w
theorem oa_cons {wa : WE} {wr : WA} (ha : OE X e wa) (hr : OA X es wr) (hs : starEach (e :: es) X.env = (false, eval e X.env) :: starEach es X.env := by rfl) : OA X (e :: es) (wCons wa wr) :=
  PA.imp (pa_cons ha hr hs) fun σ H Q ⟨m, env, h, k, rp, en, w, af⟩ => ⟨m, env, h, _, rp, en, w, fun t h1 m1 H1 v u1 r1 d q1 => ⟨m1, env, h1, _, r1, en.up u1, q1, fun ts h2 m2 H2 vs u2 r2 ds q2 => af (t :: ts) h2 m2 H2 (v :: vs) (u1.trans u2) r2 (.cons (d.up u2) ds) q2⟩⟩
noncomputable def wTup (w : WA) : WE := fun env h k => w env h fun ts h1 => ts.length ≤ sizeLine ∧ k (.tup ts) h1
noncomputable def wLst (w : WA) : WE := fun env h k => w env h fun ts h1 => ts.length ≤ sizeLine ∧ k (.ref h1.length) (h1 ++ [.lst ts])
theorem Rep.newLst {K : PySem.W.Frag} {m : List Addr} {h : PH} {H : Hp} {p : Addr} {ts : List T} {vs : List V} (r : Rep K m h H) (hp : H p = none) (d : Dens H m ts vs) : Rep K (m ++ [p]) (h ++ [.lst ts]) (upd H p (.lst vs)) := r.new hp ⟨vs, upd_same, d.up (Up.new hp)⟩
theorem Rep.newRef {K : PySem.W.Frag} {m : List Addr} {h : PH} {H H' : Hp} {p : Addr} (r : Rep K m h H) : Den H' (m ++ [p]) (.ref h.length) (.ref p) := .ref (by rw [← r.len, List.getElem?_append_right (Nat.le_refl _), Nat.sub_self] <;> rfl)
theorem Aft.newLst {K : PySem.W.Frag} {m : List Addr} {h : PH} {H : Hp} {k : WK} {Q : VK} {p : Addr} {ts : List T} {vs : List V} (af : Aft K m H k Q) (r : Rep K m h H) (d : Dens H m ts vs) (w : k (.ref h.length) (h ++ [.lst ts])) (hp : H p = none) : Q (.ref p) (upd H p (.lst vs)) :=
  af _ _ _ _ _ (Up.new hp) (r.newLst hp d) r.newRef w
theorem Aft.newTup {K : PySem.W.Frag} {m : List Addr} {h : PH} {H : Hp} {k : WK} {Q : VK} {p : Addr} {ts : List T} {vs : List V} (af : Aft K m H k Q) (r : Rep K m h H) (d : Dens H m ts vs) (w : k (.tup ts) h) (hp : H p = none) : Q (.ref p) (upd H p (.tup vs)) :=
  af _ _ _ _ _ (Up.newTup hp) (r.tup hp) (.tup upd_same (d.up (Up.newTup hp))) w
theorem oe_tup {x1} {w : WA} (h : OA X es w) : OE X (.Tuple es x1 pos) (wTup w) := PE.imp (pe_tup h) fun σ H Q ⟨m, env, h, k, rp, en, w, af⟩ =>
  ⟨m, env, h, _, rp, en, w, fun ts h1 m1 H1 vs u1 r1 ds q1 => ⟨by rw [← ds.length]; exact q1.1, fun p hp => (af.after u1).newTup r1 ds q1.2 hp⟩⟩
theorem oe_lst {w : WA} (h : OA X es w) : OE X (.List es pos) (wLst w) := PE.imp (pe_lst h) fun σ H Q ⟨m, env, h, k, rp, en, w, af⟩ =>
  ⟨m, env, h, _, rp, en, w, fun ts h1 m1 H1 vs u1 r1 ds q1 => ⟨by rw [← ds.length]; exact q1.1, fun p hp => (af.after u1).newLst r1 ds q1.2 hp⟩⟩
theorem oe_ix {r : R2} {p : P2} {wa wb : WE} (ho : IxR X r) (hr : R2I X.K r p) (ha : OE X a wa) (hb : OE X b wb) (hs : PlainIx b := by intro _ _; rfl) : OE X (.Subscript a b pos) (wOp p wa wb) := PE.imp (pe_ix ho ha hb hs) (rd2 hr)
noncomputable def wCB (p : List T → PH → WK → Prop) (w : WA) : WE := fun env h k => w env h fun ts h1 => p ts h1 k
noncomputable def RLI (K : PySem.W.Frag) (r : List V → Hp → VK → Prop) (p : List T → PH → WK → Prop) : Prop := ∀ m h H ts vs k Q, Rep K m h H → Dens H m ts vs → p ts h k → Aft K m H k Q → r vs H Q
theorem rdCB {r : List V → Hp → VK → Prop} {p : List T → PH → WK → Prop} {w : WA} (hr : RLI X.K r p) : ∀ σ H Q, rdE X.K (wCB p w) σ H Q → tCB r (rdA X.K w) σ H Q := fun σ H Q ⟨m, env, h, k, rp, en, w, af⟩ =>
  ⟨m, env, h, _, rp, en, w, fun ts h1 m1 H1 vs u1 r1 ds q1 => hr m1 h1 H1 ts vs k Q r1 ds q1 (af.after u1)⟩
variable {x : Str} {ppos : Pos}
theorem oe_callB {id : String} {r : List V → Hp → VK → Prop} {p : List T → PH → WK → Prop} {w : WA} (hc : CallR X (.builtin id) r) (hr : RLI X.K r p) (hm : X.mg x = none) (ha : OA X (e :: es) w) (hg : Gl X x := by rfl) (hv : bootBuiltins x = some (.builtin id) := by rfl) (hn : x ≠ "__name__" := by decide) (hdb : (x == ("__debug__" : Str)) = false := by decide)
    (he : starEach (e :: es) X.env = (false, eval e X.env) :: starEach es X.env := by rfl) (hpl : (backTo pos (starEach es X.env)).any (·.1) = false := by rfl) : OE X (.Call (.Name x ppos) (e :: es) [] pos) (wCB p w) := PE.imp (pe_callB hc hg hm hv ha hn hdb he hpl) (rdCB hr)
theorem oe_callTy {id : String} {r : List V → Hp → VK → Prop} {p : List T → PH → WK → Prop} {w : WA} (hc : CallR X (.type id) r) (hr : RLI X.K r p) (hm : X.mg x = none) (ha : OA X (e :: es) w) (hg : Gl X x := by rfl) (hv : bootBuiltins x = some (.type id) := by rfl) (hn : x ≠ "__name__" := by decide) (hdb : (x == ("__debug__" : Str)) = false := by decide)
    (he : starEach (e :: es) X.env = (false, eval e X.env) :: starEach es X.env := by rfl) (hpl : (backTo pos (starEach es X.env)).any (·.1) = false := by rfl) : OE X (.Call (.Name x ppos) (e :: es) [] pos) (wCB p w) := PE.imp (pe_callTy hc hg hm hv ha hn hdb he hpl) (rdCB hr)
noncomputable def wBM (ty : T → PH → Prop) (p : T → List T → PH → WK → Prop) (wo : WE) (w : WA) : WE := fun env h k => wo env h fun x h1 => ty x h1 ∧ w env h1 fun ts h2 => p x ts h2 k
noncomputable def RMI (K : PySem.W.Frag) (r : V → List V → Hp → VK → Prop) (p : T → List T → PH → WK → Prop) : Prop := ∀ m h H x ts vx vs k Q, Rep K m h H → Den H m x vx → Dens H m ts vs → p x ts h k → Aft K m H k Q → r vx vs H Q
noncomputable def TyI (K : PySem.W.Frag) (id : String) (ty : T → PH → Prop) : Prop := ∀ m h H x vx, Rep K m h H → Den H m x vx → ty x h → tyV K id vx H
variable {o : Expr} {name : Str} {apos cpos : Pos}
theorem oe_bm0 {T id : String} {r : V → List V → Hp → VK → Prop} {p : Pu.T → List Pu.T → PH → WK → Prop} {ty : Pu.T → PH → Prop} {wo : WE} (pa : PlainAttrs T) (slot : Slot T name id) (hty : typeOf (.builtin id) = pure (.type "method_descriptor")) (hm : MtR X id r) (hr : RMI X.K r p) (ht : TyI X.K T ty) (ho : OE X o wo)
    (hbase : attributeBase o name X.env (eval o X.env) = eval o X.env := by rfl) (hline : (apos.endLine == cpos.line) = true := by rfl) :
    OE X (.Call (.Attribute o name apos) [] [] cpos) (wBM ty p wo wNil) := PE.imp (pe_bm0 pa slot hty hm ho hbase hline) fun σ H Q ⟨m, env, h, k, rp, en, w, af⟩ =>
  ⟨m, env, h, _, rp, en, w, fun t h1 m1 H1 v u1 r1 d q1 => ⟨ht m1 h1 H1 t v r1 d q1.1, hr m1 h1 H1 t [] v [] k Q r1 d .nil q1.2 (af.after u1)⟩⟩
noncomputable abbrev WO := En → PH → (Option Int → PH → Prop) → Prop
noncomputable def rdO (K : PySem.W.Frag) (w : WO) : TO := fun σ H Q => ∃ m env h k, Rep K m h H ∧ EnR H m env σ ∧ w env h k ∧ ∀ o h' m' H', Up m H m' H' → Rep K m' h' H' → k o h' → Q o H'
noncomputable def OO (X : Cx) (e : Option Expr) (w : WO) : Prop := PO X e (rdO X.K w)
noncomputable def wNoPart : WO := fun _ h k => k none h
noncomputable def wPart (w : WE) : WO := fun env h k => w env h fun x h1 => match x with
  | .int i => k (some i) h1
  | _ => False
theorem oo_none : OO X none wNoPart := fun pins s σ H Q I ⟨m, env, h, k, rp, en, w, af⟩ => po_none pins s σ H Q I (af none h m H .refl rp w)
theorem oo_some {w : WE} (h : OE X e w) : OO X (some e) (wPart w) := fun pins s σ H Q I ⟨m, env, h', k, rp, en, w, af⟩ => po_some h pins s σ H Q I ⟨m, env, h', _, rp, en, w, fun t h1 m1 H1 v u1 r1 d q1 => by
  cases d with
  | int i => exact ⟨i, rfl, af (some i) h1 m1 H1 u1 r1 q1⟩
  | _ => exact (show False from q1).elim⟩
noncomputable def wSl (p : T → Option Int → Option Int → PH → WK → Prop) (we : WE) (wl wh : WO) : WE := fun env h k => we env h fun x h1 => wl env h1 fun l h2 => wh env h2 fun u h3 => p x l u h3 k
theorem oe_slice {r : V → Option Int → Option Int → Hp → VK → Prop} {p : T → Option Int → Option Int → PH → WK → Prop} {we : WE} {wl wh : WO} {lo hi : Option Expr} {p2 : Pos} (hr : SlR X r)
    (hi' : ∀ m h H x vx l u k Q, Rep X.K m h H → Den H m x vx → p x l u h k → Aft X.K m H k Q → r vx l u H Q) (he : OE X e we) (hl : OO X lo wl) (hu : OO X hi wh) : OE X (.Subscript e (.Slice lo hi none p2) pos) (wSl p we wl wh) :=
  PE.imp (pe_slice hr he hl hu) fun σ H Q ⟨m, env, h, k, rp, en, w, af⟩ => ⟨m, env, h, _, rp, en, w, fun x h1 m1 H1 vx u1 r1 d q1 => ⟨m1, env, h1, _, r1, en.up u1, q1, fun l h2 m2 H2 u2 r2 q2 => ⟨m2, env, h2, _, r2, en.up (u1.trans u2), q2, fun u h3 m3 H3 u3 r3 q3 =>
    hi' m3 h3 H3 x vx l u k Q r3 (d.up (u2.trans u3)) q3 (af.after (u1.trans (u2.trans u3)))⟩⟩⟩
end
end Pu
set_option Elab.async false
set_option linter.all false
set_option maxRecDepth 100000
namespace Pu
open PySem PySem.Spec PyProof.Rows L2
structure Eds where
  nx : En → PH → Prop
  rt : WK
  bk : En → PH → Prop := fun _ _ => False
  ct : En → PH → Prop := fun _ _ => False
  ex : Str → List T → PH → Prop := fun _ _ _ => False
noncomputable abbrev WS := Eds → En → PH → Prop
noncomputable def AftE (K : PySem.W.Frag) (m : List Addr) (H : Hp) (k : En → PH → Prop) (Q : St → Hp → Prop) : Prop := ∀ env h m' H' σ, Up m H m' H' → Rep K m' h H' → EnR H' m' env σ → k env h → Q σ H'
theorem AftE.after {K : PySem.W.Frag} {m m' : List Addr} {H H' : Hp} {k : En → PH → Prop} {Q : St → Hp → Prop} (a : AftE K m H k Q) (u : Up m H m' H') : AftE K m' H' k Q := fun env h2 m2 H2 σ u2 => a env h2 m2 H2 σ (u.trans u2)
noncomputable def MadeX (K : PySem.W.Frag) (h h' : Heap) (e : Addr) (c : Str) (vs : List V) : Prop := vs = [] ∧ ∃ C args, PySem.W.nsIn K mainGlobals c = some (some (.ref C)) ∧ Heap.MadeExcOf h h' e (.ref C) args
noncomputable def XE (X : Cx) (c : Str) (vs : List V) (H : Hp) : Prop := ∀ (pins : List (Addr × Obj)) (σ : St) (s s' : Shared) (e : Addr), Inv X pins σ H s → s'.os = s.os → AllBare s'.gens → MadeX X.K s.heap s'.heap e c vs → X.xe (.ref e) s'
noncomputable def AftXE (X : Cx) (m : List Addr) (H : Hp) (k : Str → List T → PH → Prop) : Prop := ∀ c ts vs h' m' H', Up m H m' H' → Rep X.K m' h' H' → Dens H' m' ts vs → k c ts h' → XE X c vs H'
theorem AftXE.after {X : Cx} {m m' : List Addr} {H H' : Hp} {k : Str → List T → PH → Prop} (a : AftXE X m H k) (u : Up m H m' H') : AftXE X m' H' k := fun c ts vs h2 m2 H2 u2 => a c ts vs h2 m2 H2 (u.trans u2)
structure AftS (X : Cx) (m : List Addr) (H : Hp) (D : Eds) (E : Ends) : Prop where
  nx : AftE X.K m H D.nx E.nx
  rt : Aft X.K m H D.rt E.rt
  bk : AftE X.K m H D.bk E.bk
  ct : AftE X.K m H D.ct E.ct
  xs : AftXE X m H D.ex
theorem AftS.after {X : Cx} {m m' : List Addr} {H H' : Hp} {D : Eds} {E : Ends} (a : AftS X m H D E) (u : Up m H m' H') : AftS X m' H' D E := ⟨a.nx.after u, a.rt.after u, a.bk.after u, a.ct.after u, a.xs.after u⟩
noncomputable def rdS (X : Cx) (w : WS) : TS := fun E σ H => ∃ m env h D, Rep X.K m h H ∧ EnR H m env σ ∧ w D env h ∧ AftS X m H D E
noncomputable def OS (X : Cx) (st : Stmt) (w : WS) : Prop := PS X st (rdS X w)
noncomputable def OSs (X : Cx) (sts : List Stmt) (w : WS) : Prop := PSs X sts (rdS X w)
section
variable {X : Cx} {st : Stmt} {rest : List Stmt} {e : Expr} {pos : Pos}
theorem PS.imp {t t' : TS} (h : PS X st t) (hi : ∀ D σ H, t' D σ H → t D σ H) : PS X st t' := fun pins s σ H D I q => h pins s σ H D I (hi D σ H q)
theorem PSs.imp {t t' : TS} (h : PSs X rest t) (hi : ∀ D σ H, t' D σ H → t D σ H) : PSs X rest t' := fun pins s σ H D I q => h pins s σ H D I (hi D σ H q)
noncomputable def wNext : WS := fun D env h => D.nx env h
noncomputable def wSeq (t u : WS) : WS := fun D env h => t { D with nx := u D } env h
theorem ss_nil : OSs X [] wNext := PSs.imp pss_nil fun D σ H ⟨m, env, h, D', rp, en, w, af⟩ => af.nx env h m H σ .refl rp en w
theorem ss_cons {t u : WS} (h1 : OS X st t) (h2 : OSs X rest u) : OSs X (st :: rest) (wSeq t u) := PSs.imp (pss_cons h1 h2) fun D σ H ⟨m, env, h, D', rp, en, w, af⟩ =>
  ⟨m, env, h, { D' with nx := u D' }, rp, en, w, ⟨fun env h m' H' σ up r en q => ⟨m', env, h, D', r, en, q, af.after up⟩, af.rt, af.bk, af.ct, af.xs⟩⟩
theorem ss_one {t : WS} (h1 : OS X st t) : OSs X [st] t := pss_one h1
noncomputable def wRaise (c : Str) : WS := fun D _ h => D.ex c [] h
noncomputable def wNever : WS := fun _ _ _ => False
theorem s_never : OS X st wNever := PS.imp ps_never fun D σ H ⟨m, env, h, D', rp, en, w, af⟩ => w
noncomputable def wDrop (we : WE) : WS := fun D env h => we env h fun _ h1 => D.nx env h1
theorem s_expr {w : WE} (he : OE X e w) (hs : swapsWith e none pos.line X.env = pure false := by rfl) : OS X (.Expr e pos) (wDrop w) := PS.imp (ps_expr he hs) fun D σ H ⟨m, env, h, D', rp, en, w, af⟩ =>
  ⟨m, env, h, _, rp, en, w, fun t h1 m1 H1 v u1 r1 d q1 => af.nx env h1 m1 H1 σ u1 r1 (en.up u1) q1⟩
noncomputable def wRet (we : WE) : WS := fun D env h => we env h D.rt
theorem s_ret {w : WE} (he : OE X e w) : OS X (.Return (some e) pos) (wRet w) := PS.imp (ps_ret he) fun D σ H ⟨m, env, h, D', rp, en, w, af⟩ => ⟨m, env, h, _, rp, en, w, af.rt⟩
noncomputable def wRetN : WS := fun D _ h => D.rt .non h
noncomputable def wIf (c : WT) (t u : WS) : WS := fun D env h => c env h fun b h1 => if b = true then t D env h1 else u D env h1
theorem s_if {c : Expr} {a b : List Stmt} {wc : WT} {t u : WS} (hc : OT X c wc) (ha : OSs X a t) (hb : OSs X b u) : OS X (.If c a b pos) (wIf wc t u) := PS.imp (ps_if hc ha hb) fun D σ H ⟨m, env, h, D', rp, en, w, af⟩ =>
  ⟨m, env, h, _, rp, en, w, fun cc h1 m1 H1 u1 r1 q1 => by
    cases cc with
    | true => rw [if_pos rfl] at q1 ⊢; exact ⟨m1, env, h1, D', r1, en.up u1, q1, af.after u1⟩
    | false => rw [if_neg Bool.false_ne_true] at q1 ⊢; exact ⟨m1, env, h1, D', r1, en.up u1, q1, af.after u1⟩⟩
noncomputable abbrev WG := T → En → PH → (En → PH → Prop) → Prop
noncomputable def rdG (K : PySem.W.Frag) (w : WG) : TG := fun v σ H Q => ∃ m env h t k, Rep K m h H ∧ EnR H m env σ ∧ Den H m t v ∧ w t env h k ∧ AftE K m H k Q
noncomputable def OG (X : Cx) (tg : Expr) (w : WG) : Prop := PG X tg (rdG X.K w)
theorem PG.imp {tg : Expr} {t t' : TG} (h : PG X tg t) (hi : ∀ v σ H Q, t' v σ H Q → t v σ H Q) : PG X tg t' := fun pins s σ H v u Q I r q => h pins s σ H v u Q I r (hi v σ H Q q)
noncomputable def gN (i : Nat) : WG := fun t env h k => k (env.set i (some t)) h
theorem g_name {x : Str} (i : Nat) (hN : X.N.Nodup) (hi : X.N[i]? = some x := by rfl) (hx : Loc X.env.scope x := by first | exact Or.inl rfl | exact Or.inr rfl) (hf : X.fn x = true ∨ X.env.scope.names.lookup x = some .local := by first | exact .inl rfl | exact .inr rfl) : OG X (.Name x pos) (gN i) :=
  PG.imp (pg_name hN hi hx hf) fun v σ H Q ⟨m, env, h, t, k, rp, en, d, w, af⟩ => af (env.set i (some t)) h m H _ .refl rp (en.set d i) w
noncomputable abbrev WGs := List T → En → PH → (En → PH → Prop) → Prop
noncomputable def rdGs (K : PySem.W.Frag) (w : WGs) : TGs := fun vs σ H Q => ∃ m env h ts k, Rep K m h H ∧ EnR H m env σ ∧ Dens H m ts vs ∧ w ts env h k ∧ AftE K m H k Q
noncomputable def OGs (X : Cx) (tgs : List Expr) (w : WGs) : Prop := PGs X tgs (rdGs X.K w)
noncomputable def gsNil : WGs := fun ts env h k => ts = [] ∧ k env h
noncomputable def gsCons (g : WG) (gs : WGs) : WGs := fun ts env h k => match ts with
  | t :: r => g t env h fun env1 h1 => gs r env1 h1 k
  | [] => False
noncomputable def gTp (n : Nat) (gs : WGs) : WG := fun t env h k => match t with
  | .tup ts => ts.length = n ∧ gs ts env h k
  | _ => False
noncomputable def wAsg (we : WE) (g : WG) : WS := fun D env h => we env h fun t h1 => g t env h1 D.nx
theorem rdAsg {we : WE} {g : WG} : ∀ D σ H, rdS X (wAsg we g) D σ H → tAsg (rdE X.K we) (rdG X.K g) D σ H := fun D σ H ⟨m, env, h, D', rp, en, w, af⟩ =>
  ⟨m, env, h, _, rp, en, w, fun t h1 m1 H1 v u1 r1 d q1 => ⟨m1, env, h1, t, _, r1, en.up u1, d, q1, af.nx.after u1⟩⟩
theorem s_asg {tg : Expr} {we : WE} {g : WG} (he : OE X e we) (hg : OG X tg g) (hs : swapsWithSole [tg] e pos.line X.env = pure false := by rfl) (hw : swappedStores [tg] e X.env = pure none := by rfl)
    (h1 : (assignEach [tg] X.env).map (·.2) = [assign tg X.env] := by rfl) : OS X (.Assign [tg] e pos) (wAsg we g) := PS.imp (ps_asg he hg hs hw h1) rdAsg
theorem s_set {x : Str} {we : WE} {pos' : Pos} (i : Nat) (hN : X.N.Nodup) (he : OE X e we) (hi : X.N[i]? = some x := by rfl) (hx : Loc X.env.scope x := by first | exact Or.inl rfl | exact Or.inr rfl)
    (hs : swapsWith e (some (.Name x pos')) pos.line X.env = pure false := by rfl) (hf : X.fn x = true ∨ X.env.scope.names.lookup x = some .local := by first | exact .inl rfl | exact .inr rfl) : OS X (.Assign [.Name x pos'] e pos) (wAsg we (gN i)) :=
  PS.imp (ps_set hN hi hx he hs hf) fun D σ H ⟨m, env, h, D', rp, en, w, af⟩ => ⟨m, env, h, _, rp, en, w, fun t h1 m1 H1 v u1 r1 d q1 => af.nx _ h1 m1 H1 _ u1 r1 ((en.up u1).set d i) q1⟩
noncomputable def gSb (wo wi : WE) (p : T → T → T → PH → (PH → Prop) → Prop) : WG := fun t env h k => wo env h fun o h1 => wi env h1 fun i h2 => p o i t h2 fun h3 => k env h3
noncomputable def RSI (K : PySem.W.Frag) (r : TSet) (p : T → T → T → PH → (PH → Prop) → Prop) : Prop := ∀ m h H o i t vo vi v k Q, Rep K m h H → Den H m o vo → Den H m i vi → Den H m t v → p o i t h k → (∀ h' m' H', Up m H m' H' → Rep K m' h' H' → k h' → Q H') → r vo vi v H Q
theorem g_sub {o i : Expr} {wo wi : WE} {r : TSet} {p : T → T → T → PH → (PH → Prop) → Prop} (hs : PSet X r) (hr : RSI X.K r p) (ho : OE X o wo) (hi : OE X i wi)
    (ha : ∀ v, assign (.Subscript o i pos) X.env v = (do
      let ov ← holding [v] (eval o X.env)
      let iv ← holding [v, ov] (eval i X.env)
      standAt pos
      holding [v, ov, iv] (setItem ov iv v)
      release [v, ov, iv] []) := by intro _; rfl) : OG X (.Subscript o i pos) (gSb wo wi p) :=
  PG.imp (pg_sub ho hi hs ha) fun v σ H Q ⟨m, env, h, t, k, rp, en, d, w, af⟩ => ⟨m, env, h, _, rp, en, w, fun o h1 m1 H1 vo u1 r1 d1 q1 => ⟨m1, env, h1, _, r1, en.up u1, q1, fun i h2 m2 H2 vi u2 r2 d2 q2 =>
    hr m2 h2 H2 o i t vo vi v _ _ r2 (d1.up u2) d2 (d.up (u1.trans u2)) q2 fun h3 m3 H3 u3 r3 q3 => af env h3 m3 H3 σ (u1.trans (u2.trans u3)) r3 (en.up (u1.trans (u2.trans u3))) q3⟩⟩
noncomputable abbrev WI := En → PH → (List T → (PH → Prop) → PH → Prop) → Prop
noncomputable def ItOk (K : PySem.W.Frag) (m0 : List Addr) (H0 : Hp) (xs : List T) (chk : PH → Prop) (J : It) : Prop := ∀ (i : Nat) h m H, Up m0 H0 m H → Rep K m h H → chk h →
  (∀ t, xs[i]? = some t → J.go i H ∧ ∀ v H', J.yld i H v H' → ∃ m', Up m H m' H' ∧ Rep K m' h H' ∧ Den H' m' t v) ∧ (xs.length ≤ i → J.stop i H)
noncomputable def rdI (K : PySem.W.Frag) (w : WI) : TI := fun σ H R => ∃ m env h k, Rep K m h H ∧ EnR H m env σ ∧ w env h k ∧ ∀ xs chk h' m' H' J, Up m H m' H' → Rep K m' h' H' → chk h' → ItOk K m' H' xs chk J → k xs chk h' → R J H'
noncomputable def OI (X : Cx) (tg iter : Expr) (w : WI) : Prop := PI X tg iter (rdI X.K w)
theorem PI.imp {tg iter : Expr} {t t' : TI} (h : PI X tg iter t) (hi : ∀ σ H R, t' σ H R → t σ H R) : PI X tg iter t' := fun pins s σ H R I q => h pins s σ H R I (hi σ H R q)
noncomputable def seqOf (x : T) (h : PH) : Option (List T) := match x with
  | .tup ts => some ts
  | .ref n => match h[n]? with
    | some (.lst xs) => some xs
    | some (.fro xs) => some xs
    | _ => none
  | _ => none
noncomputable def wSeqI (we : WE) : WI := fun env h k => we env h fun x h1 => match seqOf x h1 with
  | some xs => k xs (fun h' => seqOf x h' = some xs) h1
  | none => False
theorem seqOf_ref {n : Nat} {h : PH} {xs : List T} (e : seqOf (.ref n) h = some xs) : h[n]? = some (.lst xs) ∨ h[n]? = some (.fro xs) := by
  have e : (match h[n]? with | some (.lst xs) => some xs | some (.fro xs) => some xs | _ => none) = some xs := e
  cases q : h[n]? with
  | none => rw [q] at e; cases e
  | some o =>
    rw [q] at e
    cases o with
    | lst ys => cases e; exact .inl rfl
    | fro ys => cases e; exact .inr rfl
    | dK _ => cases e
    | dT _ => cases e
theorem Itok_list {K : PySem.W.Frag} {m0 : List Addr} {H0 : Hp} {xs : List T} {n : Nat} {a : Addr} (ha : m0[n]? = some a) : ItOk K m0 H0 xs (fun h' => seqOf (.ref n) h' = some xs) (Itl K a) := fun i h m H u r c => by
  have e := seqOf_ref c
  have ha' := u.sub n a ha
  obtain ⟨vs, q, d⟩ := r.sqL e ha'
  refine ⟨fun t ht => ?_, fun hl => ⟨vs, q, by rw [← d.length]; exact hl⟩⟩
  obtain ⟨v, hv, dv⟩ := d.get ht
  refine ⟨⟨vs, v, q, hv⟩, fun v' H' y => ?_⟩
  obtain ⟨eH, y⟩ := y
  subst eH
  have hv' := y vs q
  rw [hv] at hv'; cases hv'
  exact ⟨m, .refl, r, dv⟩
theorem Itok_tup {K : PySem.W.Frag} {m0 : List Addr} {H0 : Hp} {xs : List T} {chk : PH → Prop} {a : Addr} {vs : List V} (ha : H0 a = some (.tup vs)) (d0 : Dens H0 m0 xs vs) : ItOk K m0 H0 xs chk (Itt K a) := fun i h m H u r c => by
  have q : SqT K H a vs := .of (u.tup _ _ ha)
  have d := d0.up u
  refine ⟨fun t ht => ?_, fun hl => ⟨vs, q, by rw [← d.length]; exact hl⟩⟩
  obtain ⟨v, hv, dv⟩ := d.get ht
  refine ⟨⟨vs, v, q, hv⟩, fun v' H' y => ?_⟩
  obtain ⟨eH, y⟩ := y
  subst eH
  have hv' := y vs q
  rw [hv] at hv'; cases hv'
  exact ⟨m, .refl, r, dv⟩
theorem pie_list {tg : Expr} {pins : List (Addr × Obj)} {σ : St} {H1 : Hp} {s1 : Shared} {R : It → Hp → Prop} {E : Value → Shared → Prop} {a : Addr} {xs : List V} (I1 : Inv X pins σ H1 s1) (hq : SqL X.K H1 a xs) (q : R (Itl X.K a) H1) :
    wpAny (model X.prog X.w) X.A (pyIter (.ref a)) (PIE X pins σ tg R) E s1 := by
  obtain ⟨its, rv, p, hz⟩ := I1.list hq
  refine wpAny_pyIter_list p.isList ?_
  refine ⟨s1.heap.objs.size, [s1.heap.objs.size], _, _, H1, rfl, I1.kept (t' := s1.toks) fun b o e => Heap.get?_push_of_some _ e, turn_list a _, ⟨_, Heap.get?_push_size _ rfl, rfl, rfl⟩, fun b hb => ?_, q⟩
  have e : b = s1.heap.objs.size := by simpa using hb
  subst e
  exact I1.fpOk (Nat.le_refl _) (I1.hok.fresh (Nat.le_refl _))
theorem pie_tup {tg : Expr} {pins : List (Addr × Obj)} {σ : St} {H1 : Hp} {s1 : Shared} {R : It → Hp → Prop} {E : Value → Shared → Prop} {a : Addr} {xs : List V} (I1 : Inv X pins σ H1 s1) (hq : SqT X.K H1 a xs) (q : R (Itt X.K a) H1) :
    wpAny (model X.prog X.w) X.A (pyIter (.ref a)) (PIE X pins σ tg R) E s1 := by
  obtain ⟨its, rv, p, hz⟩ := I1.tuple hq
  refine wpAny_pyIter_tuple (show s1.heap.IsTuple a its.toArray from p) ?_
  refine ⟨s1.heap.objs.size, [s1.heap.objs.size], _, _, H1, rfl, I1.kept (t' := s1.toks) fun b o e => Heap.get?_push_of_some _ e, turn_tuple a _, ⟨_, Heap.get?_push_size _ rfl, rfl, rfl⟩, fun b hb => ?_, q⟩
  have e : b = s1.heap.objs.size := by simpa using hb
  subst e
  exact I1.fpOk (Nat.le_refl _) (I1.hok.fresh (Nat.le_refl _))
theorem i_seq {tg : Expr} {we : WE} (h : OE X e we) : OI X tg e (wSeqI we) := by
  intro pins s σ H R I ⟨m, env, h', k, rp, en, w, af⟩
  -- by the value's kind: the two rules of the layer, each at the value's own reading
  refine thn (h pins s σ H (fun v H1 => ∃ t h1 m1, Up m H m1 H1 ∧ Rep X.K m1 h1 H1 ∧ Den H1 m1 t v ∧ match seqOf t h1 with | some xs => k xs (fun h' => seqOf t h' = some xs) h1 | none => False) I
    ⟨m, env, h', _, rp, en, w, fun t h1 m1 H1 v u1 r1 d q1 => ⟨t, h1, m1, u1, r1, d, q1⟩⟩) fun v s1 ⟨x, H1, I1, r1, t, h1, m1, u1, rp1, d, q1⟩ => ?_
  cases d with
  | @tup a ts vs hv ds =>
    have q1 : k ts (fun h' => seqOf (.tup ts) h' = some ts) h1 := q1
    have hR : R (Itt X.K a) H1 := af ts (fun h' => seqOf (.tup ts) h' = some ts) h1 m1 H1 (Itt X.K a) u1 rp1 rfl (Itok_tup hv ds) q1
    cases r1
    exact pie_tup I1 (.of hv) hR
  | @ref n a hn =>
    cases r1
    cases e : seqOf (.ref n) h1 with
    | none => rw [e] at q1; exact q1.elim
    | some xs =>
      rw [e] at q1
      obtain ⟨vs, hq, _⟩ := rp1.sqL (seqOf_ref e) hn
      have hR : R (Itl X.K a) H1 := af xs _ h1 m1 H1 (Itl X.K a) u1 rp1 e (Itok_list hn) q1
      exact pie_list I1 hq hR
  | _ => exact (show False from q1).elim
noncomputable def rngL (lo : Int) (n : Nat) : List T := (List.range n).map fun (i : Nat) => T.int (lo + (i : Int))
theorem Itok_rng {K : PySem.W.Frag} {m0 : List Addr} {H0 : Hp} {chk : PH → Prop} {lo : Int} {n : Nat} : ItOk K m0 H0 (rngL lo n) chk (Itr lo n) := fun i h m H u r c => by
  have hl : (rngL lo n).length = n := by simp [rngL]
  refine ⟨fun t ht => ?_, fun h => by rw [hl] at h; exact h⟩
  have hi : i < n := by
    have := (List.getElem?_eq_some_iff.mp ht).1
    rw [hl] at this; exact this
  have e : (rngL lo n)[i]? = some (.int (lo + (i : Int))) := by simp [rngL, hi]
  rw [e] at ht; cases ht
  refine ⟨hi, fun v H' y => ?_⟩
  obtain ⟨e1, e2⟩ := y
  subst e1 e2
  exact ⟨m, .refl, r, .int _⟩
noncomputable def wRng1 (wa : WA) : WI := fun env h k => wa env h fun ts h1 => match ts with
  | [.int j] => -(2 ^ 62) ≤ j ∧ j < 2 ^ 62 ∧ k (rngL 0 j.toNat) (fun _ => True) h1
  | _ => False
noncomputable def wRng2 (wa : WA) : WI := fun env h k => wa env h fun ts h1 => match ts with
  | [.int i, .int j] => (-(2 ^ 62) ≤ i ∧ i < 2 ^ 62 ∧ -(2 ^ 62) ≤ j ∧ j < 2 ^ 62) ∧ k (rngL i (j - i).toNat) (fun _ => True) h1
  | _ => False
theorem i_range1 {tg a : Expr} {wa : WA} {p : Pos} (hm : X.mg "range" = none) (ha : OA X [a] wa) (hg : Gl X "range" := by rfl) (hs : starEach [a] X.env = [(false, eval a X.env)] := by rfl) : OI X tg (.Call (.Name "range" p) [a] [] pos) (wRng1 wa) :=
  PI.imp (pi_range1 hg hm ha hs) fun σ H R ⟨m, env, h, k, rp, en, w, af⟩ => ⟨m, env, h, _, rp, en, w, fun ts h1 m1 H1 vs u1 r1 ds q1 => by
    cases ds with
    | nil => exact (show False from q1).elim
    | cons d ds =>
      cases ds with
      | cons _ _ => cases d <;> exact (show False from q1).elim
      | nil =>
        cases d with
        | int j => exact ⟨j, rfl, q1.1, q1.2.1, af _ _ h1 m1 H1 _ u1 r1 trivial Itok_rng q1.2.2⟩
        | _ => exact (show False from q1).elim⟩
noncomputable def forL (chk : PH → Prop) (g : WG) (body : WS) (D : Eds) : List T → En → PH → Prop
  | [], env, h => D.nx env h
  | x :: xs, env, h => ∃ N : En → PH → Prop, (∀ env' h', N env' h' → chk h' ∧ forL chk g body D xs env' h') ∧ g x env h fun env2 h2 => body { D with nx := N, ct := N, bk := D.nx } env2 h2
noncomputable def wFor (wi : WI) (g : WG) (body : WS) : WS := fun D env h => wi env h fun xs chk h1 => forL chk g body D xs env h1
theorem s_for {tg iter : Expr} {body : List Stmt} {wi : WI} {g : WG} {tb : WS} (hp : PassesOwn (model X.prog X.w) X.A X.env X.xe) (hc : X.calm = true) (hi : OI X tg iter wi) (hg : OG X tg g) (hb : OSs X body tb)
    (hs : ∀ x, foldedSetIterable iter X.env x = pure x := by intro _; rfl) : OS X (.For tg iter body [] pos) (wFor wi g tb) :=
  PS.imp (ps_for hp hc hi hg hb hs) fun D σ H ⟨m, env, h, D', rp, en, w, af⟩ => ⟨m, env, h, _, rp, en, w, fun xs chk h1 m1 H1 J u1 r1 c1 it q1 => by
    refine ⟨fun i mz σ2 H2 => ∃ m2 env2 h2, Up m1 H1 m2 H2 ∧ Rep X.K m2 h2 H2 ∧ EnR H2 m2 env2 σ2 ∧ chk h2 ∧ mz = xs.length - i ∧ i ≤ xs.length ∧ forL chk g tb D' (xs.drop i) env2 h2,
      ⟨xs.length, m1, env, h1, .refl, r1, en.up u1, c1, by simp, Nat.zero_le _, by rw [List.drop_zero]; exact q1⟩, ?_⟩
    rintro i mz σ2 H2 ⟨m2, env2, h2, u2, r2, en2, c2, rfl, hi2, q2⟩
    obtain ⟨g1, g2⟩ := it i h2 m2 H2 u2 r2 c2
    by_cases hlt : i < xs.length
    · rw [List.drop_eq_getElem_cons hlt] at q2
      obtain ⟨N, hN, q3⟩ := q2
      have ht : xs[i]? = some xs[i] := List.getElem?_eq_getElem hlt
      obtain ⟨go, yl⟩ := g1 xs[i] ht
      refine .inr ⟨go, fun σ3 H3 => ∃ m3 env3 h3, Up m1 H1 m3 H3 ∧ Rep X.K m3 h3 H3 ∧ EnR H3 m3 env3 σ3 ∧ N env3 h3, ?_, ?_⟩
      · rintro σ3 H3 ⟨m3, env3, h3, u3, r3, en3, n3⟩
        obtain ⟨c3, f3⟩ := hN env3 h3 n3
        exact ⟨xs.length - (i + 1), by omega, m3, env3, h3, u3, r3, en3, c3, rfl, hlt, f3⟩
      · intro v H3 y
        obtain ⟨m3, u3, r3, d3⟩ := yl v H3 y
        refine ⟨m3, env2, h2, xs[i], _, r3, en2.up u3, d3, q3, fun env4 h4 m4 H4 σ4 u4 r4 en4 q4 => ?_⟩
        have u14 : Up m1 H1 m4 H4 := u2.trans (u3.trans u4)
        refine ⟨m4, env4, h4, _, r4, en4, q4, ⟨?_, af.rt.after (u1.trans u14), ?_, ?_, af.xs.after (u1.trans u14)⟩⟩
        · exact fun env5 h5 m5 H5 σ5 u5 r5 en5 q5 => ⟨m5, env5, h5, u14.trans u5, r5, en5, q5⟩
        · exact fun env5 h5 m5 H5 σ5 u5 r5 en5 q5 => af.nx env5 h5 m5 H5 σ5 (u1.trans (u14.trans u5)) r5 en5 q5
        · exact fun env5 h5 m5 H5 σ5 u5 r5 en5 q5 => ⟨m5, env5, h5, u14.trans u5, r5, en5, q5⟩
    · have hl : xs.length ≤ i := Nat.not_lt.mp hlt
      rw [List.drop_eq_nil_of_le hl] at q2
      exact .inl ⟨g2 hl, af.nx env2 h2 m2 H2 σ2 (u1.trans u2) r2 en2 q2⟩⟩
theorem forL_inv {chk : PH → Prop} {g : WG} {body : WS} {D : Eds} (xs : List T) (Iv : Nat → En → PH → Prop) {env : En} {h : PH} (h0 : Iv 0 env h) (hc : ∀ i env h, Iv i env h → chk h)
    (hs : ∀ i x env h, xs[i]? = some x → Iv i env h → g x env h fun env2 h2 => body { D with nx := Iv (i + 1), ct := Iv (i + 1), bk := D.nx } env2 h2) (hd : ∀ env h, Iv xs.length env h → D.nx env h) : forL chk g body D xs env h := by
  have go : ∀ (ys : List T) (i : Nat), xs.drop i = ys → i ≤ xs.length → ∀ env h, Iv i env h → forL chk g body D ys env h := by
    intro ys
    induction ys with
    | nil =>
      intro i e hi env h p
      have : i = xs.length := by
        have hz := List.drop_eq_nil_iff.mp e
        omega
      subst this
      exact hd env h p
    | cons y ys ih =>
      intro i e hi env h p
      have hlt : i < xs.length := by
        rcases Nat.lt_or_ge i xs.length with z | z
        · exact z
        · rw [List.drop_eq_nil_of_le z] at e; cases e
      rw [List.drop_eq_getElem_cons hlt] at e
      have e1 : xs[i] = y := (List.cons.inj e).1
      have e2 : xs.drop (i + 1) = ys := (List.cons.inj e).2
      exact ⟨Iv (i + 1), fun env' h' q => ⟨hc (i + 1) env' h' q, ih (i + 1) e2 hlt env' h' q⟩, hs i y env h (by rw [← e1]; exact List.getElem?_eq_getElem hlt) p⟩
  exact go xs 0 rfl (Nat.zero_le _) env h h0
noncomputable def clrE : List Nat → En → En
  | [], env => env
  | j :: js, env => clrE js (env.set j none)
noncomputable def compL (chk : PH → Prop) (j : Nat) (wc : WT) (we : WE) (env : En) (k : WK) : List T → List T → PH → Prop
  | [], acc, h => acc.length ≤ sizeLine ∧ k (.ref h.length) (h ++ [.lst acc])
  | x :: xs, acc, h => acc.length < sizeLine ∧ ∃ N : List T → PH → Prop, (∀ acc' h', N acc' h' → chk h' ∧ compL chk j wc we env k xs acc' h') ∧
    wc ((env.set j none).set j (some x)) h fun b h3 => if b = true then we ((env.set j none).set j (some x)) h3 fun v h4 => N (acc ++ [v]) h4 else N acc h3
noncomputable def wComp (wi : WI) (j : Nat) (wc : WT) (we : WE) : WE := fun env h k => wi env h fun xs chk h1 => compL chk j wc we env k xs [] h1
noncomputable def wYes : WT := fun _ h k => k true h
noncomputable def OIfs (X : Cx) (ifs : List Expr) (w : WT) : Prop := PIfs X ifs (rdT X.K w)
theorem if_nil : OIfs X [] wYes := fun pins s σ H Q I ⟨m, env, h, k, rp, en, w, af⟩ => pif_nil pins s σ H Q I (af true h m H .refl rp w)
theorem if_one {c : Expr} {w : WT} (h : OT X c w) : OIfs X [c] w := pif_one h
theorem wk_one {σ : St} {j : Nat} {v : V} : Wk (L2.clr [j] σ) ((L2.clr [j] σ).set j (some v)) := by
  refine ⟨List.length_set .., fun i u e => ?_⟩
  have hj : i ∉ [j] := clr_out [j] e
  have : j ≠ i := fun z => hj (by rw [z]; exact List.mem_singleton.mpr rfl)
  rw [List.getElem?_set_ne this]; exact e
theorem rd_comp {wi : WI} {j : Nat} {wc : WT} {we : WE} : ∀ σ H Q, rdE X.K (wComp wi j wc we) σ H Q → tComp (rdI X.K wi) [j] (gName j) (rdT X.K wc) (rdE X.K we) σ H Q := fun σ H Q ⟨m, env, h, k, rp, en, w, af⟩ => ⟨m, env, h, _, rp, en, w, fun xs chk h1 m1 H1 J u1 r1 c1 it q1 => by
    refine ⟨fun i mz vs H2 => ∃ m2 h2 acc, Up m1 H1 m2 H2 ∧ Rep X.K m2 h2 H2 ∧ Dens H2 m2 acc vs ∧ chk h2 ∧ mz = xs.length - i ∧ i ≤ xs.length ∧ compL chk j wc we env k (xs.drop i) acc h2,
      ⟨xs.length, m1, h1, [], .refl, r1, .nil, c1, by simp, Nat.zero_le _, by rw [List.drop_zero]; exact q1⟩, ?_⟩
    rintro i mz vs H2 ⟨m2, h2, acc, u2, r2, ds, c2, rfl, hi2, q2⟩
    obtain ⟨g1, g2⟩ := it i h2 m2 H2 u2 r2 c2
    by_cases hlt : i < xs.length
    · rw [List.drop_eq_getElem_cons hlt] at q2
      obtain ⟨hz, N, hN, q3⟩ := q2
      have ht : xs[i]? = some xs[i] := List.getElem?_eq_getElem hlt
      obtain ⟨go, yl⟩ := g1 xs[i] ht
      refine .inr ⟨go, by rw [← ds.length]; exact hz, fun vs3 H3 => ∃ m3 h3 acc3, Up m1 H1 m3 H3 ∧ Rep X.K m3 h3 H3 ∧ Dens H3 m3 acc3 vs3 ∧ N acc3 h3, ?_, ?_⟩
      · rintro vs3 H3 ⟨m3, h3, acc3, u3, r3, ds3, n3⟩
        obtain ⟨c3, f3⟩ := hN acc3 h3 n3
        exact ⟨xs.length - (i + 1), by omega, m3, h3, acc3, u3, r3, ds3, c3, rfl, hlt, f3⟩
      · intro v H3 y
        obtain ⟨m3, u3, r3, d3⟩ := yl v H3 y
        have en3 : EnR H3 m3 ((env.set j none).set j (some xs[i])) ((L2.clr [j] σ).set j (some v)) := (((en.up u1).up (u2.trans u3)).clr j).set d3 j
        refine ⟨wk_one, m3, _, h2, _, r3, en3, q3, fun b h4 m4 H4 u4 r4 q4 => ?_⟩
        cases b with
        | false =>
          rw [if_neg Bool.false_ne_true] at q4 ⊢
          exact ⟨m4, h4, acc, u2.trans (u3.trans u4), r4, ds.up (u3.trans u4), q4⟩
        | true =>
          rw [if_pos rfl] at q4 ⊢
          refine ⟨m4, _, h4, _, r4, en3.up u4, q4, fun t h5 m5 H5 v5 u5 r5 d5 q5 => ?_⟩
          exact ⟨m5, h5, acc ++ [t], u2.trans (u3.trans (u4.trans u5)), r5, (ds.up (u3.trans (u4.trans u5))).append (.cons d5 .nil), q5⟩
    · have hl : xs.length ≤ i := Nat.not_lt.mp hlt
      rw [List.drop_eq_nil_of_le hl] at q2
      exact .inl ⟨g2 hl, by rw [← ds.length]; exact q2.1, fun p hp => (af.after (u1.trans u2)).newLst r2 ds q2.2 hp⟩⟩
theorem oe_comp {scope : Scope} {x : Str} {px : Pos} {elt iter : Expr} {ifs : List Expr} {wi : WI} {wc : WT} {we : WE} (j : Nat) (hc : X.calm = true) (c : CompOk X scope [j]) (hN : X.N.Nodup) (hi : OI X (.Name x px) iter wi)
    (hf : ∀ cl C s₀ H₀ ex pn, OIfs (inX X scope cl C s₀ H₀ ex pn) ifs wc) (he : ∀ cl C s₀ H₀ ex pn, OE (inX X scope cl C s₀ H₀ ex pn) elt we)
    (hj : X.N[j]? = some x := by rfl) (hx : (relabel scope X.env).names.lookup x = some .local := by rfl)
    (hs : ∀ x, foldedSetIterable iter X.env x = pure x := by intro _; rfl) : OE X (.ListComp elt [⟨.Name x px, iter, ifs, 0⟩] scope pos) (wComp wi j wc we) :=
  PE.imp (pe_comp (js := [j]) hc c hi (fun cl C s₀ H₀ ex pn => pg_name (X := inX X scope cl C s₀ H₀ ex pn) hN hj (.inl hx) (.inr hx)) (tc := rdT X.K wc) (te := rdE X.K we) hf he hs) rd_comp
theorem s_comp {scope : Scope} {x y : Str} {px py spos : Pos} {elt iter : Expr} {ifs : List Expr} {wi : WI} {wc : WT} {we : WE} (i j : Nat) (hN : X.N.Nodup) (hc : X.calm = true) (c : CompOk X scope [j]) (hi : OI X (.Name x px) iter wi)
    (hf : ∀ cl C s₀ H₀ ex pn, OIfs (inX X scope cl C s₀ H₀ ex pn) ifs wc) (he : ∀ cl C s₀ H₀ ex pn, OE (inX X scope cl C s₀ H₀ ex pn) elt we)
    (hiN : X.N[i]? = some y := by rfl) (hy : X.env.scope.names.lookup y = some .local := by rfl)
    (hj : X.N[j]? = some x := by rfl) (hx : (relabel scope X.env).names.lookup x = some .local := by rfl)
    (hs : ∀ x, foldedSetIterable iter X.env x = pure x := by intro _; rfl) (hsw : swapsWith (.ListComp elt [⟨.Name x px, iter, ifs, 0⟩] scope pos) (some (.Name y py)) spos.line X.env = pure true := by rfl) :
    OS X (.Assign [.Name y py] (.ListComp elt [⟨.Name x px, iter, ifs, 0⟩] scope pos) spos) (wAsg (wComp wi j wc we) (gN i)) :=
  PS.imp (ps_comp (js := [j]) hN hiN hy hc c hi (fun cl C s₀ H₀ ex pn => pg_name (X := inX X scope cl C s₀ H₀ ex pn) hN hj (.inl hx) (.inr hx)) (tc := rdT X.K wc) (te := rdE X.K we) hf he hs hsw) fun D σ H ⟨m, env, h, D', rp, en, w, af⟩ =>
    rd_comp σ H _ ⟨m, env, h, _, rp, en, w, fun t h1 m1 H1 v u1 r1 d q1 => af.nx _ h1 m1 H1 _ u1 r1 ((en.up u1).set d i) q1⟩
theorem compL_inv {chk : PH → Prop} {j : Nat} {wc : WT} {we : WE} {env : En} {k : WK} (xs : List T) (Iv : Nat → List T → PH → Prop) {h : PH} (h0 : Iv 0 [] h) (hc : ∀ i acc h, Iv i acc h → chk h) (hz : ∀ i acc h, Iv i acc h → acc.length < sizeLine)
    (hs : ∀ i x acc h, xs[i]? = some x → Iv i acc h → wc ((env.set j none).set j (some x)) h fun b h3 => if b = true then we ((env.set j none).set j (some x)) h3 fun v h4 => Iv (i + 1) (acc ++ [v]) h4 else Iv (i + 1) acc h3)
    (hd : ∀ acc h, Iv xs.length acc h → k (.ref h.length) (h ++ [.lst acc])) : compL chk j wc we env k xs [] h := by
  have go : ∀ (ys : List T) (i : Nat), xs.drop i = ys → i ≤ xs.length → ∀ acc h, Iv i acc h → compL chk j wc we env k ys acc h := by
    intro ys
    induction ys with
    | nil =>
      intro i e hi acc h p
      have : i = xs.length := by
        have hz := List.drop_eq_nil_iff.mp e
        omega
      subst this
      exact ⟨Nat.le_of_lt (hz _ _ _ p), hd acc h p⟩
    | cons y ys ih =>
      intro i e hi acc h p
      have hlt : i < xs.length := by
        rcases Nat.lt_or_ge i xs.length with z | z
        · exact z
        · rw [List.drop_eq_nil_of_le z] at e; cases e
      rw [List.drop_eq_getElem_cons hlt] at e
      have e1 : xs[i] = y := (List.cons.inj e).1
      have e2 : xs.drop (i + 1) = ys := (List.cons.inj e).2
      exact ⟨hz _ _ _ p, Iv (i + 1), fun acc' h' q => ⟨hc (i + 1) acc' h' q, ih (i + 1) e2 hlt acc' h' q⟩, hs i y acc h (by rw [← e1]; exact List.getElem?_eq_getElem hlt) p⟩
  exact go xs 0 rfl (Nat.zero_le _) [] h h0
noncomputable abbrev CP := List T → PH → WK → Prop
noncomputable def spOf (K : PySem.W.Frag) (cp : CP) : Sp := fun vs H Q _ => ∃ m h ts k, Rep K m h H ∧ Dens H m ts vs ∧ cp ts h k ∧ Aft K m H k Q
noncomputable def Callee (P : Program) (w : World) (K : PySem.W.Frag) (mg : Str → Option Value) (base : Heap) (n : Nat) (x : Str) (cp : CP) : Prop :=
  ∃ f fd ps, FnOk P w K mg base CX0 n f fd ps (spOf K cp) ∧ mg x = some (.ref f) ∧ PySem.W.keepIn K (.ref f) = true ∧ Binds K fd ps []
noncomputable def wCall (cp : CP) (w : WA) : WE := fun env h k => w env h fun ts h1 => cp ts h1 k
theorem oe_call {n : Nat} {x : Str} {cp : CP} {w : WA} {es : List Expr} {p : Pos} (G : Callee X.prog X.w X.K X.mg X.base n x cp) (hr : Room n X.A) (ha : OA X (e :: es) w) (hg : Gl X x := by rfl)
    (hdb : (x == ("__debug__" : Str)) = false := by decide) (he : starEach (e :: es) X.env = (false, eval e X.env) :: starEach es X.env := by rfl) (hpl : (backTo pos (starEach es X.env)).any (·.1) = false := by rfl) : OE X (.Call (.Name x p) (e :: es) [] pos) (wCall cp w) := by
  obtain ⟨f, fd, ps, F, hm, hk, hb⟩ := G
  refine PE.imp (pe_call (E := E0) F hr hg hm hk hb .nil pass0 ha hdb he hpl) fun σ H Q ⟨m, env, h, k, rp, en, w, af⟩ => ⟨m, env, h, _, rp, en, w, fun ts h1 m1 H1 vs u1 r1 ds q1 => ?_⟩
  show spOf X.K cp (vs ++ []) H1 Q E0
  rw [List.append_nil]
  exact ⟨m1, h1, ts, k, r1, ds, q1, af.after u1⟩
noncomputable def begin_ (n : Nat) (ts : List T) : En := ts.map some ++ List.replicate (n - ts.length) none
theorem EnR.begin {H : Hp} {m : List Addr} {N : List Str} {ts : List T} {vs : List V} (d : Dens H m ts vs) : EnR H m (begin_ N.length ts) (L2.start N vs) := by
  refine ⟨?_, fun i t e => ?_⟩
  · unfold begin_ L2.start
    rw [List.length_append, List.length_append, List.length_map, List.length_map, List.length_replicate, List.length_replicate, d.length]
  · unfold begin_ at e
    by_cases hi : i < ts.length
    · rw [List.getElem?_append_left (by simpa using hi), List.getElem?_map] at e
      cases q : ts[i]? with
      | none => rw [q] at e; cases e
      | some u =>
        rw [q] at e; cases e
        obtain ⟨v, hv, dv⟩ := d.get q
        refine ⟨v, ?_, dv⟩
        unfold L2.start
        rw [List.getElem?_append_left (by rw [List.length_map, ← d.length]; exact hi), List.getElem?_map, hv]
        rfl
    · rw [List.getElem?_append_right (by simpa using hi), List.getElem?_replicate] at e
      split at e <;> cases e
end
theorem def_ok {P : Program} {w : World} {K : PySem.W.Frag} {mg : Str → Option Value} {base : Heap} {x qual : Str} {st : Stmt} {f : Addr} {fd : FuncData} {N ps : List Str} {n : Nat} {cp : CP} (F : Fun K x qual st f fd) (S : FnScope N ps (defScope st)) (len : ∀ ts h k, cp ts h k → ts.length = ps.length)
    (hbody : ∀ (cdv : Value) (A : Around) (outer : List Env) (s : Shared) (H : Hp) (E : XK), Room n (A.deeper (envOfC qual (defScope st) s.heap.objs.size f cdv)) →
      ∃ t, OSs (cxOf CX0 P w K mg base N qual (defScope st) f cdv A outer s H E).nox (defBody st) t ∧ ∀ ts h k, cp ts h k → t { nx := fun _ h' => k .non h', rt := k } (begin_ N.length ts) h) : FnOk P w K mg base CX0 (n + 1) f fd ps (spOf K cp) := by
  refine F.ok S (fun vs H Q E ⟨m, h, ts, k, rp, ds, c, af⟩ => by rw [← ds.length]; exact len ts h k c) fun cdv A outer s H vs Q E hr hsp => ?_
  obtain ⟨m, h, ts, k, rp, ds, c, af⟩ := hsp
  obtain ⟨t, ht, hq⟩ := hbody cdv A outer s H E hr
  refine ⟨_, ht, m, begin_ N.length ts, h, _, rp, .begin ds, hq ts h k c, ⟨fun env h' m' H' σ u r en q => af .non h' m' H' .non u r .non q, af, fun _ _ _ _ _ _ _ _ q => q.elim, fun _ _ _ _ _ _ _ _ q => q.elim, fun _ _ _ _ _ _ _ _ _ q => q.elim⟩⟩
end Pu
set_option Elab.async false
set_option linter.all false
set_option maxRecDepth 100000
namespace Pu
open PySem PySem.Spec PyProof.Rows L2 PySem.SeqAt
noncomputable def eqZ (f : T → T → Option Bool) : List T → List T → Option Bool
  | a :: as, b :: bs => match f a b, eqZ f as bs with
    | some x, some y => some (x && y)
    | _, _ => none
  | [], [] => some true
  | _, _ => some false
noncomputable def lstOf (h : PH) (n : Nat) : Option (List T) := match h[n]? with
  | some (.lst xs) => some xs
  | _ => none
noncomputable def b2n (b : Bool) : Int := if b then 1 else 0
noncomputable def eqT (h : PH) : Nat → T → T → Option Bool
  | 0, _, _ => none
  | n + 1, t, u => match t, u with
    | .non, .non => some true
    | .bl a, .bl b => some (a == b)
    | .int a, .int b => some (a == b)
    | .str a, .str b => some (a == b)
    | .bl a, .int b => some (b2n a == b)
    | .int a, .bl b => some (a == b2n b)
    | .tup a, .tup b => eqZ (eqT h n) a b
    | .ref i, .ref j => match lstOf h i, lstOf h j with
      | some a, some b => eqZ (eqT h n) a b
      | _, _ => none
    | .ref i, .tup _ => (lstOf h i).map fun _ => false
    | .tup _, .ref j => (lstOf h j).map fun _ => false
    | .ref i, _ => (lstOf h i).map fun _ => false
    | _, .ref j => (lstOf h j).map fun _ => false
    | _, _ => some false
theorem eqZ_range {f : T → T → Option Bool} : ∀ {a b : List T} {c : Bool}, eqZ f a b = some c →
    c = ((List.range (min a.length b.length)).all (fun j => match a[j]?, b[j]? with | some x, some y => (f x y).getD false | _, _ => false) && a.length == b.length)
  | [], [], c, h => by cases h; rfl
  | [], b :: bs, c, h => by cases h; simp
  | a :: as, [], c, h => by cases h; simp
  | a :: as, b :: bs, c, h => by
    unfold eqZ at h
    cases h1 : f a b with
    | none => rw [h1] at h; cases h
    | some x =>
      cases h2 : eqZ f as bs with
      | none => rw [h1, h2] at h; cases h
      | some y =>
        rw [h1, h2] at h
        have e : (x && y) = c := Option.some.inj h
        subst e
        have ih := eqZ_range h2
        have hl : min (a :: as).length (b :: bs).length = min as.length bs.length + 1 := by simp only [List.length_cons]; omega
        rw [hl, List.range_succ_eq_map, List.all_cons, List.all_map, ih]
        have e2 : ((a :: as).length == (b :: bs).length) = (as.length == bs.length) := by simp
        rw [e2]
        simp only [List.getElem?_cons_zero, h1, Option.getD_some, Function.comp_def, List.getElem?_cons_succ, Bool.and_assoc]
theorem eqZ_def {f : T → T → Option Bool} : ∀ {a b : List T} {c : Bool}, eqZ f a b = some c → ∀ (j : Nat) x y, a[j]? = some x → b[j]? = some y → ∃ d, f x y = some d
  | [], _, _, _, j, x, y, h1, _ => by simp at h1
  | _ :: _, [], _, _, j, x, y, _, h2 => by simp at h2
  | a :: as, b :: bs, c, h, j, x, y, h1, h2 => by
    unfold eqZ at h
    cases e1 : f a b with
    | none => rw [e1] at h; cases h
    | some d =>
      cases e2 : eqZ f as bs with
      | none => rw [e1, e2] at h; cases h
      | some d' =>
        cases j with
        | zero => simp at h1 h2; subst h1 h2; exact ⟨d, e1⟩
        | succ j => exact eqZ_def e2 j x y (by simpa using h1) (by simpa using h2)
theorem lstOf_some {h : PH} {n : Nat} {xs : List T} (e : lstOf h n = some xs) : h[n]? = some (.lst xs) := by
  unfold lstOf at e
  split at e
  · rename_i ys hy; cases e; exact hy
  · cases e
section
variable {X : Cx} {pins : List (Addr × Obj)} {σ : St} {H : Hp} {s : Shared} {m : List Addr} {h : PH}
theorem eq_same (r : Rep X.K m h H) : ∀ (n : Nat) {t u : T} {v : V} {b : Bool}, Den H m t v → Den H m u v → eqT h n t u = some b → b = true := by
  intro n
  induction n with
  | zero => intro t u v b _ _ e; cases e
  | succ n ih =>
    have ihs : ∀ {ts us : List T} {vs : List V} {b : Bool}, Dens H m ts vs → Dens H m us vs → eqZ (eqT h n) ts us = some b → b = true := by
      intro ts
      induction ts with
      | nil => intro us vs b d1 d2 e; cases d1; cases d2; cases e; rfl
      | cons t ts iht =>
        intro us vs b d1 d2 e
        cases d1 with
        | cons d1 r1 =>
          cases d2 with
          | cons d2 r2 =>
            unfold eqZ at e
            rename_i u us
            cases e1 : eqT h n t u with
            | none => rw [e1] at e; cases e
            | some x =>
              cases e2 : eqZ (eqT h n) ts us with
              | none => rw [e1, e2] at e; cases e
              | some y =>
                rw [e1, e2] at e
                cases e
                rw [ih d1 d2 e1, iht r1 r2 e2]
                rfl
    intro t u v b d1 d2 e
    cases d1 with
    | non => cases d2; cases e; rfl
    | bl a => cases d2; simp [eqT] at e; exact e
    | int a => cases d2; simp [eqT] at e; exact e
    | str a => cases d2; simp [eqT] at e; exact e
    | @tup a ts vs hv ds =>
      cases d2 with
      | @tup _ us vs' hv' ds' =>
        rw [hv] at hv'; cases hv'
        exact ihs ds ds' e
      | @ref k _ hk =>
        have e : (lstOf h k).map (fun _ => false) = some b := e
        cases q : lstOf h k with
        | none => rw [q] at e; cases e
        | some xs =>
          obtain ⟨vs', hl, _⟩ := r.lst (lstOf_some q) hk
          rw [hv] at hl; cases hl
    | @ref i a hi =>
      cases d2 with
      | @tup _ us vs' hv' ds' =>
        have e : (lstOf h i).map (fun _ => false) = some b := e
        cases q : lstOf h i with
        | none => rw [q] at e; cases e
        | some xs =>
          obtain ⟨vs', hl, _⟩ := r.lst (lstOf_some q) hi
          rw [hv'] at hl; cases hl
      | @ref j _ hj =>
        have e : (match lstOf h i, lstOf h j with | some a, some b => eqZ (eqT h n) a b | _, _ => none) = some b := e
        cases q : lstOf h i with
        | none => rw [q] at e; cases e
        | some xs =>
          cases q' : lstOf h j with
          | none => rw [q, q'] at e; cases e
          | some ys =>
            rw [q, q'] at e
            have hij := r.inj i j a _ _ (lstOf_some q) (lstOf_some q') rfl rfl hi hj
            subst hij
            rw [q] at q'; cases q'
            obtain ⟨vs, _, ds⟩ := r.lst (lstOf_some q) hi
            exact ihs ds ds e
theorem den_list (I : Inv X pins σ H s) (r : Rep X.K m h H) {i : Nat} {xs : List T} {a : Addr} (q : lstOf h i = some xs) (hi : m[i]? = some a) : ∃ (vs : List V) (its : List Value), Dens H m xs vs ∧ Vals vs its ∧ s.heap.IsList a its.toArray := by
  obtain ⟨vs, hv, ds⟩ := r.lst (lstOf_some q) hi
  obtain ⟨its, rv, pl, _⟩ := I.list (SqL.of hv)
  exact ⟨vs, its, ds, rv, pl.isList⟩
theorem den_tup (I : Inv X pins σ H s) {ts : List T} {a : Addr} {vs : List V} (hv : H a = some (.tup vs)) : ∃ (its : List Value), Vals vs its ∧ s.heap.IsTuple a its.toArray := by
  obtain ⟨its, rv, pl, _⟩ := I.tuple (SqT.of hv)
  exact ⟨its, rv, pl⟩
theorem items_at {A : Around} {f : T → T → Option Bool} {ts us : List T} {vs ws : List V} {is js : List Value} {c : Bool} (d1 : Dens H m ts vs) (d2 : Dens H m us ws) (r1 : Vals vs is) (r2 : Vals ws js) (e : eqZ f ts us = some c)
    (ih : ∀ t u v w x y b, Den H m t v → Den H m u w → RelV v x → RelV w y → f t u = some b → EqAt A s x y b) :
    ∀ j (h1 : j < is.toArray.size) (h2 : j < js.toArray.size), EqAt A s is.toArray[j] js.toArray[j] (match ts[j]?, us[j]? with | some x, some y => (f x y).getD false | _, _ => false) := by
  intro j h1 h2
  rw [List.size_toArray] at h1 h2
  have l1 : ts.length = is.length := d1.length.trans r1.length
  have l2 : us.length = js.length := d2.length.trans r2.length
  have e1 : ts[j]? = some (ts[j]'(by omega)) := List.getElem?_eq_getElem (by omega)
  have e2 : us[j]? = some (us[j]'(by omega)) := List.getElem?_eq_getElem (by omega)
  obtain ⟨b, hb⟩ := eqZ_def e j _ _ e1 e2
  obtain ⟨v, hv, dv⟩ := d1.get e1
  obtain ⟨w, hw, dw⟩ := d2.get e2
  obtain ⟨x, hx, rx⟩ := r1.get hv
  obtain ⟨y, hy, ry⟩ := r2.get hw
  rw [e1, e2]
  simp only [hb, Option.getD_some]
  have q1 : is.toArray[j]'(by rw [List.size_toArray]; exact h1) = x := by
    have := List.getElem?_eq_getElem h1
    rw [hx] at this
    simpa using (Option.some.inj this).symm
  have q2 : js.toArray[j]'(by rw [List.size_toArray]; exact h2) = y := by
    have := List.getElem?_eq_getElem h2
    rw [hy] at this
    simpa using (Option.some.inj this).symm
  rw [q1, q2]
  exact ih _ _ v w x y b dv dw rx ry hb
theorem eq_at (I : Inv X pins σ H s) (r : Rep X.K m h H) : ∀ (n : Nat) {A : Around} {t u : T} {v w : V} {x y : Value} {b : Bool}, A.units + n < cLine → Den H m t v → Den H m u w → RelV v x → RelV w y → eqT h n t u = some b → EqAt A s x y b ∧ RcAt A s x y b ∧ RcNeAt A s x y (!b) := by
  intro n
  induction n with
  | zero => intro A t u v w x y b _ _ _ _ _ e; cases e
  | succ n ih =>
    intro A t u v w x y b hu d1 d2 rx ry e
    have hu0 : A.units < cLine := by omega
    have hu1 : A.in1.units + n < cLine := by show A.units + 1 + n < cLine; omega
    have ih' : ∀ t u v w x y b, Den H m t v → Den H m u w → RelV v x → RelV w y → eqT h n t u = some b → EqAt A.in1 s x y b := fun t u v w x y b a1 a2 a3 a4 a5 => (ih hu1 a1 a2 a3 a4 a5).1
    have tups : ∀ {a a' : Addr} {ts us : List T} {vs ws : List V} {c : Bool}, H a = some (.tup vs) → H a' = some (.tup ws) → Dens H m ts vs → Dens H m us ws → eqZ (eqT h n) ts us = some c → RcAt A s (.ref a) (.ref a') c ∧ RcNeAt A s (.ref a) (.ref a') (!c) := fun {a a' ts us vs ws c} ha ha' ds ds' e => by
      obtain ⟨its, r1, p1⟩ := den_tup I (ts := ts) ha
      obtain ⟨its2, r2, p2⟩ := den_tup I (ts := us) ha'
      have it := items_at ds ds' r1 r2 e ih'
      have hc := eqZ_range e
      have l1 : its.toArray.size = ts.length := by rw [List.size_toArray]; exact (ds.length.trans r1.length).symm
      have l2 : its2.toArray.size = us.length := by rw [List.size_toArray]; exact (ds'.length.trans r2.length).symm
      have g1 := RcAt.tuples p1 p2 hu0 it
      have g2 := RcNeAt.tuples p1 p2 hu0 it
      rw [l1, l2, ← hc] at g1 g2
      exact ⟨g1, g2⟩
    have lsts : ∀ {i j : Nat} {a a' : Addr} {ts us : List T} {c : Bool}, m[i]? = some a → m[j]? = some a' → lstOf h i = some ts → lstOf h j = some us → eqZ (eqT h n) ts us = some c → RcAt A s (.ref a) (.ref a') c ∧ RcNeAt A s (.ref a) (.ref a') (!c) := fun {i j a a' ts us c} hi hj q1 q2 e => by
      obtain ⟨vs, its, ds, r1, p1⟩ := den_list I r q1 hi
      obtain ⟨ws, its2, ds', r2, p2⟩ := den_list I r q2 hj
      have it := items_at ds ds' r1 r2 e ih'
      have hc := eqZ_range e
      have l1 : its.toArray.size = ts.length := by rw [List.size_toArray]; exact (ds.length.trans r1.length).symm
      have l2 : its2.toArray.size = us.length := by rw [List.size_toArray]; exact (ds'.length.trans r2.length).symm
      by_cases hl : ts.length = us.length
      · have hsz : its.toArray.size = its2.toArray.size := by rw [l1, l2, hl]
        have g1 := RcAt.lists p1 p2 hsz hu0 it
        have g2 := RcNeAt.lists p1 p2 hsz hu0 it
        rw [hl, Nat.min_self, beq_self_eq_true, Bool.and_true] at hc
        rw [l1, hl, ← hc] at g1 g2
        exact ⟨g1, g2⟩
      · have hf : (ts.length == us.length) = false := by simpa using hl
        rw [hf, Bool.and_false] at hc
        subst hc
        have hne : (its.toArray.size != its2.toArray.size) = true := by rw [l1, l2]; simpa using hl
        exact ⟨RcAt.lists_lengths p1 p2 hne hu0, RcNeAt.lists_lengths p1 p2 hne hu0⟩
    have refs : ∀ {a a' : Addr} {c : Bool}, (a = a' → c = true) → RcAt A s (.ref a) (.ref a') c → EqAt A s (.ref a) (.ref a') c := fun {a a' c} hs q => by
      by_cases ha : a = a'
      · rw [hs ha, ha]; exact .same _
      · exact .of_refs ha q
    have mapF : ∀ {i : Nat} {b : Bool}, (lstOf h i).map (fun _ => false) = some b → ∃ xs, lstOf h i = some xs ∧ b = false := fun {i b} e => by
      cases q : lstOf h i with
      | none => rw [q] at e; cases e
      | some xs => rw [q] at e; exact ⟨xs, rfl, (Option.some.inj e).symm⟩
    cases d1 with
    | non =>
      cases rx
      cases d2 with
      | non => cases ry; cases e; exact ⟨.same _, .none_none, .none_none⟩
      | bl c => cases ry; cases e; exact ⟨.none_bool c, .none_bool c, .none_bool c⟩
      | int c => obtain ⟨t, rfl⟩ := ry; cases e; exact ⟨.none_int c t, .none_int c t, .none_int c t⟩
      | str c => obtain ⟨t, rfl⟩ := ry; cases e; exact ⟨.none_str c t, .none_str c t, .none_str c t⟩
      | tup hv ds => cases ry; cases e; obtain ⟨_, _, p⟩ := den_tup I (ts := []) hv; exact ⟨.none_tuple p hu0, .none_tuple p hu0, .none_tuple p hu0⟩
      | ref hj => cases ry; obtain ⟨xs, q, rfl⟩ := mapF e; obtain ⟨_, _, _, _, p⟩ := den_list I r q hj; exact ⟨.none_list p hu0, .none_list p hu0, .none_list p hu0⟩
    | bl d =>
      cases rx
      cases d2 with
      | non => cases ry; cases e; exact ⟨.bool_none d, .bool_none d, .bool_none d⟩
      | bl c => cases ry; cases e; exact ⟨.bool_bool d c, .bool_bool d c, .bool_bool d c⟩
      | int c => obtain ⟨t, rfl⟩ := ry; cases e; exact ⟨.bool_int d c t, .bool_int d c t, .bool_int d c t⟩
      | str c => obtain ⟨t, rfl⟩ := ry; cases e; exact ⟨.bool_str d c t, .bool_str d c t, .bool_str d c t⟩
      | tup hv ds => cases ry; cases e; obtain ⟨_, _, p⟩ := den_tup I (ts := []) hv; exact ⟨.bool_tuple d p hu0, .bool_tuple d p hu0, .bool_tuple d p hu0⟩
      | ref hj => cases ry; obtain ⟨xs, q, rfl⟩ := mapF e; obtain ⟨_, _, _, _, p⟩ := den_list I r q hj; exact ⟨.bool_list d p hu0, .bool_list d p hu0, .bool_list d p hu0⟩
    | int d =>
      obtain ⟨td, rfl⟩ := rx
      cases d2 with
      | non => cases ry; cases e; exact ⟨.int_none d td, .int_none d td, .int_none d td⟩
      | bl c => cases ry; cases e; exact ⟨.int_bool d td c, .int_bool d td c, .int_bool d td c⟩
      | int c => obtain ⟨t, rfl⟩ := ry; cases e; exact ⟨.int_int d td c t, .int_int d td c t, .int_int d td c t⟩
      | str c => obtain ⟨t, rfl⟩ := ry; cases e; exact ⟨.int_str d td c t, .int_str d td c t, .int_str d td c t⟩
      | tup hv ds => cases ry; cases e; obtain ⟨_, _, p⟩ := den_tup I (ts := []) hv; exact ⟨.int_tuple d td p hu0, .int_tuple d td p hu0, .int_tuple d td p hu0⟩
      | ref hj => cases ry; obtain ⟨xs, q, rfl⟩ := mapF e; obtain ⟨_, _, _, _, p⟩ := den_list I r q hj; exact ⟨.int_list d td p hu0, .int_list d td p hu0, .int_list d td p hu0⟩
    | str d =>
      obtain ⟨td, rfl⟩ := rx
      cases d2 with
      | non => cases ry; cases e; exact ⟨.str_none d td, .str_none d td, .str_none d td⟩
      | bl c => cases ry; cases e; exact ⟨.str_bool d td c, .str_bool d td c, .str_bool d td c⟩
      | int c => obtain ⟨t, rfl⟩ := ry; cases e; exact ⟨.str_int d td c t, .str_int d td c t, .str_int d td c t⟩
      | str c => obtain ⟨t, rfl⟩ := ry; cases e; exact ⟨.str_str d td c t, .str_str d td c t, .str_str d td c t⟩
      | tup hv ds => cases ry; cases e; obtain ⟨_, _, p⟩ := den_tup I (ts := []) hv; exact ⟨.str_tuple d td p hu0, .str_tuple d td p hu0, .str_tuple d td p hu0⟩
      | ref hj => cases ry; obtain ⟨xs, q, rfl⟩ := mapF e; obtain ⟨_, _, _, _, p⟩ := den_list I r q hj; exact ⟨.str_list d td p hu0, .str_list d td p hu0, .str_list d td p hu0⟩
    | @tup a ts vs hv ds =>
      cases rx
      obtain ⟨_, _, p⟩ := den_tup I (ts := []) hv
      cases d2 with
      | non => cases ry; cases e; exact ⟨.tuple_none p hu0, .tuple_none p hu0, .tuple_none p hu0⟩
      | bl c => cases ry; cases e; exact ⟨.tuple_bool c p hu0, .tuple_bool c p hu0, .tuple_bool c p hu0⟩
      | int c => obtain ⟨t, rfl⟩ := ry; cases e; exact ⟨.tuple_int c t p hu0, .tuple_int c t p hu0, .tuple_int c t p hu0⟩
      | str c => obtain ⟨t, rfl⟩ := ry; cases e; exact ⟨.tuple_str c t p hu0, .tuple_str c t p hu0, .tuple_str c t p hu0⟩
      | @tup a' us ws hv' ds' =>
        cases ry
        obtain ⟨g1, g2⟩ := tups hv hv' ds ds' e
        exact ⟨refs (fun ea => by subst ea; exact eq_same r (n + 1) (.tup hv ds) (.tup hv' ds') e) g1, g1, g2⟩
      | @ref j a' hj =>
        cases ry
        obtain ⟨xs, q, rfl⟩ := mapF e
        obtain ⟨_, _, _, _, p'⟩ := den_list I r q hj
        exact ⟨.tuple_list p p' hu0, .tuple_list p p' hu0, .tuple_list p p' hu0⟩
    | @ref i a hi =>
      cases rx
      cases d2 with
      | non => cases ry; obtain ⟨xs, q, rfl⟩ := mapF e; obtain ⟨_, _, _, _, p⟩ := den_list I r q hi; exact ⟨.list_none p hu0, .list_none p hu0, .list_none p hu0⟩
      | bl c => cases ry; obtain ⟨xs, q, rfl⟩ := mapF e; obtain ⟨_, _, _, _, p⟩ := den_list I r q hi; exact ⟨.list_bool c p hu0, .list_bool c p hu0, .list_bool c p hu0⟩
      | int c => obtain ⟨t, rfl⟩ := ry; obtain ⟨xs, q, rfl⟩ := mapF e; obtain ⟨_, _, _, _, p⟩ := den_list I r q hi; exact ⟨.list_int c t p hu0, .list_int c t p hu0, .list_int c t p hu0⟩
      | str c => obtain ⟨t, rfl⟩ := ry; obtain ⟨xs, q, rfl⟩ := mapF e; obtain ⟨_, _, _, _, p⟩ := den_list I r q hi; exact ⟨.list_str c t p hu0, .list_str c t p hu0, .list_str c t p hu0⟩
      | @tup a' us ws hv' ds' =>
        cases ry
        obtain ⟨xs, q, rfl⟩ := mapF e
        obtain ⟨_, _, _, _, p⟩ := den_list I r q hi
        obtain ⟨_, _, p'⟩ := den_tup I (ts := []) hv'
        exact ⟨.list_tuple p p' hu0, .list_tuple p p' hu0, .list_tuple p p' hu0⟩
      | @ref j a' hj =>
        cases ry
        have e0 := e
        have e : (match lstOf h i, lstOf h j with | some a, some b => eqZ (eqT h n) a b | _, _ => none) = some b := e
        cases q : lstOf h i with
        | none => rw [q] at e; cases e
        | some xs =>
          cases q' : lstOf h j with
          | none => rw [q, q'] at e; cases e
          | some ys =>
            rw [q, q'] at e
            obtain ⟨g1, g2⟩ := lsts hi hj q q' e
            exact ⟨refs (fun ea => by subst ea; exact eq_same r (n + 1) (.ref hi) (.ref hj) e0) g1, g1, g2⟩
end
noncomputable def rEqD (K : PySem.W.Frag) (neg : Bool) : R2 := fun x y H Q => ∃ m h t u b, Rep K m h H ∧ Den H m t x ∧ Den H m u y ∧ eqT h 40 t u = some b ∧ Q (.bl (neg != b)) H
theorem op_eqD {X : Cx} (hu : X.A.units + 40 < cLine) : OpR X (compareOp .Eq) (rEqD X.K false) := by
  intro pins s σ H x y v u Q I rx ry h
  obtain ⟨m, h, t, t', b, r, d1, d2, e, q⟩ := h
  have g := (eq_at I r 40 hu d1 d2 rx ry e).2.1
  refine PySem.W.cmp_ofEq (g X.prog X.w X.xe _ ⟨.bl b, H, I, rfl, ?_⟩)
  cases b <;> exact q
theorem op_neD {X : Cx} (hu : X.A.units + 40 < cLine) : OpR X (compareOp .NotEq) (rEqD X.K true) := by
  intro pins s σ H x y v u Q I rx ry h
  obtain ⟨m, h, t, t', b, r, d1, d2, e, q⟩ := h
  have g := (eq_at I r 40 hu d1 d2 rx ry e).2.2
  refine PySem.W.cmp_ofNotEq (g X.prog X.w X.xe _ ⟨.bl (!b), H, I, rfl, ?_⟩)
  cases b <;> exact q
noncomputable def pEq : P2 := fun x y h k => match eqT h 40 x y with
  | some b => k (.bl b) h
  | none => False
noncomputable def pNe : P2 := fun x y h k => match eqT h 40 x y with
  | some b => k (.bl (!b)) h
  | none => False
theorem i_eq {K : PySem.W.Frag} : R2I K (rEqD K false) pEq := fun m h H x y vx vy k Q r d1 d2 w af => by
  unfold pEq at w
  cases e : eqT h 40 x y with
  | none => rw [e] at w; exact w.elim
  | some b =>
    rw [e] at w
    exact ⟨m, h, x, y, b, r, d1, d2, e, af _ h m H _ .refl r (by cases b <;> exact .bl _) w⟩
theorem i_ne {K : PySem.W.Frag} : R2I K (rEqD K true) pNe := fun m h H x y vx vy k Q r d1 d2 w af => by
  unfold pNe at w
  cases e : eqT h 40 x y with
  | none => rw [e] at w; exact w.elim
  | some b =>
    rw [e] at w
    exact ⟨m, h, x, y, b, r, d1, d2, e, af _ h m H _ .refl r (by cases b <;> exact .bl _) w⟩
end Pu
set_option Elab.async false
set_option linter.all false
set_option maxRecDepth 100000
namespace Pu
open PySem PySem.Spec PyProof.Rows L2 PySem.SeqAt
noncomputable def pI (g : Int → Int → Int) : P2 := fun x y h k => match x, y with
  | .int a, .int b => k (.int (g a b)) h
  | _, _ => False
noncomputable def pIc (C : Int → Int → Prop) (g : Int → Int → Int) : P2 := fun x y h k => match x, y with
  | .int a, .int b => C a b ∧ k (.int (g a b)) h
  | _, _ => False
noncomputable def pIb (g : Int → Int → Bool) : P2 := fun x y h k => match x, y with
  | .int a, .int b => k (.bl (g a b)) h
  | _, _ => False
section
variable {K : PySem.W.Frag} {X : Cx}
theorem i_Ic {C : Int → Int → Prop} {g : Int → Int → Int} : R2I K (rI C fun i j => .int (g i j)) (pIc C g) := fun m h H x y vx vy k Q r d1 d2 w af => by
  cases d1 <;> cases d2 <;> first | exact (show False from w).elim | exact ⟨_, _, rfl, rfl, w.1, af _ h m H _ .refl r (.int _) w.2⟩
theorem i_Ib {g : Int → Int → Bool} : R2I K (rI0 fun i j => .bl (g i j)) (pIb g) := fun m h H x y vx vy k Q r d1 d2 w af => by
  cases d1 <;> cases d2 <;> first | exact (show False from w).elim | exact ⟨_, _, rfl, rfl, af _ h m H _ .refl r (.bl _) w⟩
noncomputable def pSub : P2 := pI fun a b => a - b
noncomputable def pFdiv : P2 := pIc CDiv fun a b => a / b
noncomputable def pMod : P2 := pIc (fun _ b => 0 < b) fun a b => a % b
noncomputable def pPow : P2 := pIc CPow fun a b => a ^ b.toNat
noncomputable def pShl : P2 := pIc CPow fun a b => a * 2 ^ b.toNat
noncomputable def pShr : P2 := pIc (fun _ b => 0 ≤ b) fun a b => a / 2 ^ b.toNat
noncomputable def pAnd : P2 := pI fun a b => Builtin.bitAnd a b
noncomputable def pOr : P2 := pI fun a b => Builtin.bitOr a b
noncomputable def pXor : P2 := pI fun a b => Builtin.bitXor a b
noncomputable def pLt : P2 := pIb fun a b => decide (a < b)
noncomputable def pLe : P2 := pIb fun a b => decide (a ≤ b)
noncomputable def pGt : P2 := pIb fun a b => decide (a > b)
noncomputable def pGe : P2 := pIb fun a b => decide (a ≥ b)
noncomputable def rCatA (K : PySem.W.Frag) : R2 := fun x y H Q => ∃ a b xs ys, x = .ref a ∧ y = .ref b ∧ SqT K H a xs ∧ SqT K H b ys ∧ xs.length + ys.length ≤ sizeLine ∧
  (xs = [] → Q (.ref b) H) ∧ (xs ≠ [] → ys = [] → Q (.ref a) H) ∧ (xs ≠ [] → ys ≠ [] → ∀ p, H p = none → Q (.ref p) (upd H p (.tup (xs ++ ys))))
theorem cat_tup0 {prog : Program} {w : World} {A : Around} {E : Value → Shared → Prop} {s : Shared} {t b : Addr} {ws : List Value} {Q : Value → Shared → Prop} (ht : IsTup s.heap t ([] : List Value).toArray) (hb : IsTup s.heap b ws.toArray) (h1 : Q (.ref b) s) : wpAny (model prog w) A (binaryOp .Add (.ref t) (.ref b)) Q E s := by
  obtain ⟨⟨cls, dd, data, sl⟩, ho, hc, n, hd⟩ := id ht
  obtain ⟨⟨cls2, dd2, data2, sl2⟩, ho2, hc2, n2, hd2⟩ := id hb
  simp only at hc hd hc2 hd2
  subst hc hd hc2 hd2
  exact concat_meets ⟨_, ho, rfl⟩ ⟨_, ho2, rfl⟩ noFill_tuple_add seq_tuple_add PySem.F.slot_tuple_add PySem.F.entry_tuple_add (PySem.F.args_tuple_add_2 _ _)
    (tuple_addW0 t b _ ws.toArray n n2 dd dd2 sl sl2 (by simp)) ⟨ho, ho2, h1⟩
theorem op_catA : OpR X (binaryOp .Add) (rCatA X.K) := by
  intro pins s σ H x y v u Q I rx ry h
  obtain ⟨a, b, xs, ys, rfl, rfl, ha, hb, hz, q0, q1, q2⟩ := h
  by_cases hx : xs = []
  · subst hx
    cases rx
    cases ry
    obtain ⟨its, r1, p1, _⟩ := I.tuple ha
    obtain ⟨its2, r2, p2, _⟩ := I.tuple hb
    cases r1
    exact cat_tup0 p1 p2 ⟨.ref b, H, I, rfl, q0 rfl⟩
  · exact op_catT pins s σ H _ _ v u Q I rx ry ⟨a, b, xs, ys, rfl, rfl, ha, hb, hx, hz, q1 hx, q2 hx⟩
noncomputable def rAddA (K : PySem.W.Frag) : R2 := fun x y H Q => rI0 (fun i j => .int (i + j)) x y H Q ∨ (rCat x y H Q ∨ rCatA K x y H Q)
theorem op_addA : OpR X (binaryOp .Add) (rAddA X.K) := op_add.or (op_cat.or op_catA)
noncomputable def pAdd : P2 := fun x y h k => match x, y with
  | .int a, .int b => k (.int (a + b)) h
  | .tup a, .tup b => a.length + b.length ≤ sizeLine ∧ k (.tup (a ++ b)) h
  | .ref i, .ref j => match lstOf h i, lstOf h j with
    | some a, some b => a.length + b.length ≤ sizeLine ∧ k (.ref h.length) (h ++ [.lst (a ++ b)])
    | _, _ => False
  | _, _ => False
theorem i_add : R2I K (rAddA K) pAdd := fun m h H x y vx vy k Q r d1 d2 w af => by
  cases d1 with
  | int a =>
    cases d2 with
    | int b => exact .inl ⟨a, b, rfl, rfl, af _ h m H _ .refl r (.int _) w⟩
    | _ => exact (show False from w).elim
  | @tup a ts vs hv ds =>
    cases d2 with
    | @tup b us ws hw es =>
      have w : ts.length + us.length ≤ sizeLine ∧ k (.tup (ts ++ us)) h := w
      refine .inr (.inr ⟨a, b, vs, ws, rfl, rfl, .of hv, .of hw, by rw [← ds.length, ← es.length]; exact w.1, fun e => ?_, fun _ e => ?_, fun _ _ p hp => ?_⟩)
      · have e' := ds.nil_iff.mpr e
        subst e'
        exact af _ h m H _ .refl r (.tup hw es) w.2
      · have e' := es.nil_iff.mpr e
        subst e'
        have w2 := w.2
        rw [List.append_nil] at w2
        exact af _ h m H _ .refl r (.tup hv ds) w2
      · exact af.newTup r (ds.append es) w.2 hp
    | _ => exact (show False from w).elim
  | @ref i a hi =>
    cases d2 with
    | @ref j b hj =>
      have w : (match lstOf h i, lstOf h j with | some a, some b => a.length + b.length ≤ sizeLine ∧ k (.ref h.length) (h ++ [.lst (a ++ b)]) | _, _ => False) := w
      cases q : lstOf h i with
      | none => rw [q] at w; exact w.elim
      | some xs =>
        cases q' : lstOf h j with
        | none => rw [q, q'] at w; exact w.elim
        | some ys =>
          rw [q, q'] at w
          obtain ⟨vs, hv, ds⟩ := r.lst (lstOf_some q) hi
          obtain ⟨ws, hw, es⟩ := r.lst (lstOf_some q') hj
          exact .inr (.inl ⟨a, b, vs, ws, rfl, rfl, hv, hw, by rw [← ds.length, ← es.length]; exact w.1, fun p hp => af.newLst r (ds.append es) w.2 hp⟩)
    | _ => exact (show False from w).elim
  | _ => exact (show False from w).elim
theorem Dens.atI {H : Hp} {m : List Addr} {ts : List T} {vs : List V} {i : Int} {t : T} (d : Dens H m ts vs) (e : L2.atI ts i = some t) : ∃ v, L2.atI vs i = some v ∧ Den H m t v := by
  unfold L2.atI at e ⊢
  rw [← d.length]
  cases q : ixN ts.length i with
  | none => rw [q] at e; cases e
  | some j =>
    rw [q] at e
    exact d.get e
noncomputable def pIx : P2 := fun x y h k => match y with
  | .int i => match seqOf x h with
    | some ts => match atI ts i with
      | some t => k t h
      | none => False
    | none => False
  | _ => False
noncomputable def rIxA (K : PySem.W.Frag) : R2 := fun x y H Q => rIxL K x y H Q ∨ rIxT K x y H Q
theorem ix_A : IxR X (rIxA X.K) := ix_list.or ix_tup
theorem i_ix : R2I K (rIxA K) pIx := fun m h H x y vx vy k Q r d1 d2 w af => by
  cases d2 with
  | int i =>
    have wz : (match seqOf x h with | some ts => (match atI ts i with | some t => k t h | none => False) | none => False) := w
    cases e : seqOf x h with
    | none => rw [e] at wz; exact wz.elim
    | some ts =>
      rw [e] at wz
      dsimp only at wz
      cases e2 : atI ts i with
      | none => rw [e2] at wz; exact wz.elim
      | some t =>
        rw [e2] at wz
        cases d1 with
        | @tup a us vs hv ds =>
          cases e
          obtain ⟨v, hv2, dv⟩ := ds.atI e2
          exact .inr ⟨a, vs, i, v, rfl, rfl, .of hv, hv2, af t h m H v .refl r dv wz⟩
        | @ref n a hn =>
          obtain ⟨vs, hq, ds⟩ := r.sqL (seqOf_ref e) hn
          obtain ⟨v, hv2, dv⟩ := ds.atI e2
          exact .inl ⟨a, vs, i, v, rfl, rfl, hq, hv2, af t h m H v .refl r dv wz⟩
        | _ => cases e
  | _ => exact (show False from w).elim
noncomputable def pSet (o i t : T) (h : PH) (k : PH → Prop) : Prop := match o, i with
  | .ref n, .int z => match lstOf h n with
    | some xs => match ixN xs.length z with
      | some j => k (h.set n (.lst (xs.set j t)))
      | none => False
    | none => False
  | _, _ => False
theorem i_set : RSI K rSetL pSet := fun m h H o i t vo vi v k Q r d1 d2 d3 w af => by
  cases d1 with
  | @ref n a hn =>
    cases d2 with
    | int z =>
      have w : (match lstOf h n with | some xs => (match ixN xs.length z with | some j => k (h.set n (.lst (xs.set j t))) | none => False) | none => False) := w
      cases e : lstOf h n with
      | none => rw [e] at w; exact w.elim
      | some xs =>
        rw [e] at w
        dsimp only at w
        cases e2 : ixN xs.length z with
        | none => rw [e2] at w; exact w.elim
        | some j =>
          rw [e2] at w
          obtain ⟨vs, hv, ds⟩ := r.lst (lstOf_some e) hn
          have hu : Up m H m (upd H a (.lst (vs.set j v))) := Up.write hv fun _ z => nomatch z
          exact ⟨a, vs, z, j, rfl, rfl, hv, by rw [← ds.length]; exact e2, af _ m _ hu (r.write (o' := .lst (xs.set j t)) (lstOf_some e) rfl rfl hn ⟨_, upd_same, (ds.set d3 j).up hu⟩) w⟩
    | _ => exact (show False from w).elim
  | _ => exact (show False from w).elim
noncomputable def pLen : List T → PH → WK → Prop := fun ts h k => match ts with
  | [x] => match seqOf x h with
    | some xs => k (.int xs.length) h
    | none => False
  | _ => False
theorem dens1 {H : Hp} {m : List Addr} {t : T} {vs : List V} (d : Dens H m [t] vs) : ∃ v, vs = [v] ∧ Den H m t v := by
  cases d with
  | cons d r => cases r; exact ⟨_, rfl, d⟩
theorem seqOf_den {m : List Addr} {h : PH} {H : Hp} {x : T} {v : V} {xs : List T} (r : Rep K m h H) (d : Den H m x v) (e : seqOf x h = some xs) : ∃ a vs, v = .ref a ∧ (SqL K H a vs ∨ SqT K H a vs) ∧ Dens H m xs vs := by
  cases d with
  | @tup a us vs hv ds => cases e; exact ⟨a, vs, rfl, .inr (.of hv), ds⟩
  | @ref n a hn =>
    obtain ⟨vs, hq, ds⟩ := r.sqL (seqOf_ref e) hn
    exact ⟨a, vs, rfl, .inl hq, ds⟩
  | _ => cases e
theorem i_len : RLI K (fun xs H Q => ∃ p ys, xs = [.ref p] ∧ (SqL K H p ys ∨ SqT K H p ys) ∧ Q (.int ys.length) H) pLen := fun m h H ts vs k Q r d w af => by
  match ts, d, w with
  | [x], d, w =>
    obtain ⟨v, hvs, dd⟩ := dens1 d
    subst hvs
    have w : (match seqOf x h with | some xs => k (.int xs.length) h | none => False) := w
    cases e : seqOf x h with
    | none => rw [e] at w; exact w.elim
    | some xs =>
      rw [e] at w
      obtain ⟨a, ws, hv, hq, ds⟩ := seqOf_den r dd e
      subst hv
      exact ⟨a, ws, rfl, hq, af _ h m H _ .refl r (by rw [ds.length]; exact .int _) w⟩
noncomputable def pList : List T → PH → WK → Prop := fun ts h k => match ts with
  | [x] => match seqOf x h with
    | some xs => k (.ref h.length) (h ++ [.lst xs])
    | none => False
  | _ => False
theorem i_list : RLI K (fun xs H Q => ∃ p ys, xs = [.ref p] ∧ (SqL K H p ys ∨ SqT K H p ys) ∧ ∀ l, H l = none → Q (.ref l) (upd H l (.lst ys))) pList := fun m h H ts vs k Q r d w af => by
  match ts, d, w with
  | [x], d, w =>
    obtain ⟨v, hvs, dd⟩ := dens1 d
    subst hvs
    have w : (match seqOf x h with | some xs => k (.ref h.length) (h ++ [.lst xs]) | none => False) := w
    cases e : seqOf x h with
    | none => rw [e] at w; exact w.elim
    | some xs =>
      rw [e] at w
      obtain ⟨a, ws, hv, hq, ds⟩ := seqOf_den r dd e
      subst hv
      exact ⟨a, ws, rfl, hq, fun p hp => af.newLst r ds w hp⟩
noncomputable def pTuple : List T → PH → WK → Prop := fun ts h k => match ts with
  | [x] => match seqOf x h with
    | some xs => k (.tup xs) h
    | none => False
  | _ => False
theorem i_tuple : RLI K (fun xs H Q => ∃ p ys, xs = [.ref p] ∧ ((SqL K H p ys ∧ ∀ l, H l = none → Q (.ref l) (upd H l (.tup ys))) ∨ (SqT K H p ys ∧ Q (.ref p) H))) pTuple := fun m h H ts vs k Q r d w af => by
  match ts, d, w with
  | [x], d, w =>
    obtain ⟨v, hvs, dd⟩ := dens1 d
    subst hvs
    have wz : (match seqOf x h with | some xs => k (.tup xs) h | none => False) := w
    cases e : seqOf x h with
    | none => rw [e] at wz; exact wz.elim
    | some xs =>
      rw [e] at wz
      cases dd with
      | @tup a us vs hv ds => cases e; exact ⟨a, vs, rfl, .inr ⟨.of hv, af _ h m H _ .refl r (.tup hv ds) wz⟩⟩
      | @ref n a hn =>
        obtain ⟨vs, hq, ds⟩ := r.sqL (seqOf_ref e) hn
        exact ⟨a, vs, rfl, .inl ⟨hq, fun p hp => af.newTup r ds wz hp⟩⟩
      | _ => cases e
noncomputable def pInt : List T → PH → WK → Prop := fun ts h k => match ts with
  | [.int i] => k (.int i) h
  | [.bl b] => k (.int (b2n b)) h
  | _ => False
theorem i_int : RLI K (fun xs H Q => (∃ i, xs = [.int i] ∧ Q (.int i) H) ∨ ∃ k, xs = [.bl k] ∧ Q (.int (if k then 1 else 0)) H) pInt := fun m h H ts vs k Q r d w af => by
  match ts, d, w with
  | [.int i], d, w =>
    obtain ⟨v, hvs, dd⟩ := dens1 d
    subst hvs
    cases dd
    exact .inl ⟨i, rfl, af _ h m H _ .refl r (.int i) w⟩
  | [.bl b], d, w =>
    obtain ⟨v, hvs, dd⟩ := dens1 d
    subst hvs
    cases dd
    exact .inr ⟨b, rfl, af _ h m H _ .refl r (.int _) w⟩
noncomputable def isLst : T → PH → Prop := fun x h => match x with
  | .ref n => match lstOf h n with
    | some _ => True
    | none => False
  | _ => False
theorem isLst_of {x : T} {h : PH} (w : isLst x h) : ∃ n xs, x = .ref n ∧ lstOf h n = some xs := by
  unfold isLst at w
  split at w
  · rename_i n
    split at w
    · rename_i xs e; exact ⟨n, xs, rfl, e⟩
    · exact w.elim
  · exact w.elim
theorem ty_lst : TyI K "list" isLst := fun m h H x vx r d w => by
  obtain ⟨n, xs, rfl, e⟩ := isLst_of w
  cases d with
  | ref hn =>
    obtain ⟨vs, hv, _⟩ := r.lst (lstOf_some e) hn
    exact .inl ⟨rfl, vs, .of hv⟩
noncomputable def pMt (f : List T → List T → Option (T × List T)) : T → List T → PH → WK → Prop := fun x ts h k => match x with
  | .ref n => match lstOf h n with
    | some xs => match f xs ts with
      | some (t, ys) => ys.length ≤ sizeLine ∧ k t (h.set n (.lst ys))
      | none => False
    | none => False
  | _ => False
theorem pMt_of {f : List T → List T → Option (T × List T)} {x : T} {ts : List T} {h : PH} {k : WK} (w : pMt f x ts h k) : ∃ n xs t ys, x = .ref n ∧ lstOf h n = some xs ∧ f xs ts = some (t, ys) ∧ ys.length ≤ sizeLine ∧ k t (h.set n (.lst ys)) := by
  unfold pMt at w
  split at w
  · rename_i n
    split at w
    · rename_i xs e
      split at w
      · rename_i t ys e2; exact ⟨n, xs, t, ys, rfl, e, e2, w⟩
      · exact w.elim
    · exact w.elim
  · exact w.elim
theorem Aft.mut {m : List Addr} {h : PH} {H : Hp} {k : WK} {Q : VK} {n : Nat} {a : Addr} {xs ys : List T} {vs ws : List V} {t : T} {v : V} (af : Aft K m H k Q) (r : Rep K m h H) (e : lstOf h n = some xs) (hn : m[n]? = some a) (hv : H a = some (.lst vs)) (ds : Dens H m ys ws) (d : Den H m t v) (w : k t (h.set n (.lst ys))) : Q v (upd H a (.lst ws)) := by
  have hu : Up m H m (upd H a (.lst ws)) := Up.write hv fun _ z => nomatch z
  exact af _ _ m _ _ hu (r.write (o' := .lst ys) (lstOf_some e) rfl rfl hn ⟨_, upd_same, ds.up hu⟩) (d.up hu) w
noncomputable def fAppend : List T → List T → Option (T × List T) := fun xs ts => match ts with
  | [t] => some (.non, xs ++ [t])
  | _ => none
noncomputable def fExtend (h : PH) : List T → List T → Option (T × List T) := fun xs ts => match ts with
  | [.ref b] => (lstOf h b).map fun zs => (.non, xs ++ zs)
  | _ => none
noncomputable def fPop : List T → List T → Option (T × List T) := fun xs ts => match ts with
  | [] => xs[xs.length - 1]?.map fun t => (t, xs.dropLast)
  | _ => none
noncomputable def fReverse : List T → List T → Option (T × List T) := fun xs ts => match ts with
  | [] => some (.non, xs.reverse)
  | _ => none
noncomputable def fClear : List T → List T → Option (T × List T) := fun _ ts => match ts with
  | [] => some (.non, [])
  | _ => none
theorem i_clear : RMI K rClear (pMt fClear) := fun m h H x ts vx vs k Q r d ds w af => by
  obtain ⟨n, xs, t, ys, rfl, e, e2, hz, w⟩ := pMt_of w
  match ts, ds, e2 with
  | [], ds, e2 =>
    cases ds
    cases e2
    cases d with
    | @ref _ a hn =>
      obtain ⟨ws, hv, dw⟩ := r.lst (lstOf_some e) hn
      exact ⟨a, ws, rfl, rfl, hv, af.mut r e hn hv .nil .non w⟩
noncomputable def cutT (xs : List T) (lo hi : Option Int) : List T := (xs.drop (HT.sIx xs.length 0 lo)).take (HT.sIx xs.length xs.length hi - HT.sIx xs.length 0 lo)
noncomputable def pSlL (x : T) (lo hi : Option Int) (h : PH) (k : WK) : Prop := match x with
  | .ref n => match lstOf h n with
    | some xs => k (.ref h.length) (h ++ [.lst (cutT xs lo hi)])
    | none => False
  | _ => False
theorem i_slL : ∀ m h H x vx l u k Q, Rep K m h H → Den H m x vx → pSlL x l u h k → Aft K m H k Q → rSlL K vx l u H Q := fun m h H x vx l u k Q r d w af => by
  cases d with
  | @ref n a hn =>
    have w : (match lstOf h n with | some xs => k (.ref h.length) (h ++ [.lst (cutT xs l u)]) | none => False) := w
    cases e : lstOf h n with
    | none => rw [e] at w; exact w.elim
    | some xs =>
      rw [e] at w
      obtain ⟨vs, hv, ds⟩ := r.lst (lstOf_some e) hn
      refine ⟨a, vs, rfl, .of hv, fun p hp => af.newLst r ?_ w hp⟩
      unfold cutT cutV
      rw [← ds.length]
      exact (ds.drop _).take _
  | _ => exact (show False from w).elim
noncomputable def flatT : T → Bool
  | .non => true
  | .bl _ => true
  | .int _ => true
  | .str _ => true
  | _ => false
noncomputable def eqF : T → T → Bool
  | .non, .non => true
  | .bl a, .bl b => a == b
  | .int a, .int b => a == b
  | .str a, .str b => a == b
  | .bl a, .int b => b2n a == b
  | .int a, .bl b => a == b2n b
  | _, _ => false
noncomputable def tyN (x : T) (h : PH) : Option String := match x with
  | .non => some "NoneType"
  | .bl _ => some "bool"
  | .int _ => some "int"
  | .str _ => some "str"
  | .tup _ => some "tuple"
  | .ref n => match h[n]? with
    | some (.lst _) => some "list"
    | some (.dK _) => some "dict"
    | some (.dT _) => some "dict"
    | _ => none
noncomputable def isSub (s t : String) : Bool := s == t || (s == "bool" && t == "int")
noncomputable def rIsi (K : PySem.W.Frag) : List V → Hp → VK → Prop := fun xs H Q => ∃ v c t b, xs = [v, .ty c] ∧ TyOf K H v t ∧ PySem.W.kitOne K t (.type c) = some b ∧ Q (.bl b) H
theorem call_isi : CallR X (.builtin "isinstance") (rIsi X.K) := by
  intro pins s σ H xs us Q I r h
  obtain ⟨v, c, t, b, rfl, ty, e, q⟩ := h
  obtain ⟨u, w', rfl, ru, rc⟩ := vals2 r
  cases rc
  exact isinst_ok I ru ty e fun tk => ⟨.bl b, H, I.tok _, rfl, q⟩
theorem kit_tab {s c : String} (hs : s ∈ ["NoneType", "bool", "int", "str", "tuple", "list", "dict"]) (hc : c ∈ ["bool", "int", "str", "tuple", "list"]) : PySem.W.kitOne K (.type s) (.type c) = some (isSub s c) := by
  simp only [List.mem_cons, List.not_mem_nil, or_false] at hs hc
  rcases hs with rfl | rfl | rfl | rfl | rfl | rfl | rfl <;> rcases hc with rfl | rfl | rfl | rfl | rfl <;> with_unfolding_all rfl
theorem tyOf_of {m : List Addr} {h : PH} {H : Hp} {x : T} {v : V} {s : String} (r : Rep K m h H) (d : Den H m x v) (e : tyN x h = some s) : TyOf K H v (.type s) ∧ s ∈ ["NoneType", "bool", "int", "str", "tuple", "list", "dict"] := by
  cases d with
  | non => cases e; exact ⟨.non, by simp⟩
  | bl b => cases e; exact ⟨.bl b, by simp⟩
  | int i => cases e; exact ⟨.int i, by simp⟩
  | str y => cases e; exact ⟨.str y, by simp⟩
  | tup hv ds => cases e; exact ⟨.tup hv, by simp⟩
  | @ref n a hn =>
    have e : (match h[n]? with | some (.lst _) => some "list" | some (.dK _) => some "dict" | some (.dT _) => some "dict" | _ => none) = some s := e
    split at e
    · rename_i xs q
      cases e
      obtain ⟨b, hb, vs, hv, _⟩ := r.obj n _ q
      rw [hn] at hb; cases hb
      exact ⟨.lst hv, by simp⟩
    · rename_i xs q
      cases e
      obtain ⟨b, hb, vs, hv, _⟩ := r.obj n _ q
      rw [hn] at hb; cases hb
      exact ⟨.dK hv, by simp⟩
    · rename_i xs q
      cases e
      obtain ⟨b, hb, vs, hv, _⟩ := r.obj n _ q
      rw [hn] at hb; cases hb
      exact ⟨.dT hv, by simp⟩
    · cases e
noncomputable def wIsi (c : String) (wa : WE) : WE := fun env h k => wa env h fun x h1 => match tyN x h1 with
  | some s => k (.bl (isSub s c)) h1
  | none => False
theorem oe_isi {a : Expr} {wa : WE} {cn : Str} {p p2 pos : Pos} (c : String) (hm : X.mg "isinstance" = none) (hmc : X.mg cn = none) (ha : OE X a wa) (hc : c ∈ ["bool", "int", "str", "tuple", "list"] := by simp) (hv : bootBuiltins cn = some (.type c) := by rfl) (hg : Gl X "isinstance" := by rfl) (hgc : Gl X cn := by rfl) (hn : cn ≠ "__name__" := by decide) (hdb : (cn == ("__debug__" : Str)) = false := by decide)
    (hs : starEach [a, .Name cn p2] X.env = (false, eval a X.env) :: starEach [.Name cn p2] X.env := by rfl) : OE X (.Call (.Name "isinstance" p) [a, .Name cn p2] [] pos) (wIsi c wa) :=
  PE.imp (pe_callB call_isi hg hm (by rfl) (pa_cons ha (pa_cons (pe_bltn (v := .ty c) hgc hmc hv rfl hn hdb) pa_nil) hs) (by decide) (by decide) hs) fun σ H Q ⟨m, env, h, k, rp, en, w, af⟩ =>
    ⟨m, env, h, _, rp, en, w, fun x h1 m1 H1 v u1 r1 d q1 => by
      cases e : tyN x h1 with
      | none => simp only [e] at q1
      | some s =>
        simp only [e] at q1
        obtain ⟨ty, hs⟩ := tyOf_of r1 d e
        exact ⟨v, c, .type s, _, rfl, ty, kit_tab hs hc, af _ h1 m1 H1 _ u1 r1 (.bl _) q1⟩⟩
end
end Pu
set_option Elab.async false
set_option linter.all false
set_option maxRecDepth 100000
namespace Pu
open PySem PySem.Spec PyProof.Rows L2 PySem.SeqAt
section
variable {K : PySem.W.Frag} {X : Cx}
theorem i_fdiv : R2I K (rI CDiv fun i j => .int (i / j)) pFdiv := i_Ic
theorem i_mod : R2I K (rI (fun _ j => 0 < j) fun i j => .int (i % j)) pMod := i_Ic
theorem i_pow : R2I K (rI CPow fun i j => .int (i ^ j.toNat)) pPow := i_Ic
theorem i_le : R2I K (rI0 fun i j => .bl (decide (i ≤ j))) pLe := i_Ib
theorem i_gt : R2I K (rI0 fun i j => .bl (decide (j < i))) pGt := i_Ib
noncomputable def pNeg : T → PH → WK → Prop := fun x h k => match x with
  | .int i => k (.int (-i)) h
  | _ => False
theorem i_neg : R1I K (rU fun i => .int (-i)) pNeg := fun m h H x vx k Q r d w af => by
  cases d with
  | int i => exact ⟨i, rfl, af _ h m H _ .refl r (.int _) w⟩
  | _ => exact (show False from w).elim
noncomputable def intsOf : List T → Option (List Int)
  | [] => some []
  | .int i :: r => (intsOf r).map (i :: ·)
  | _ => none
noncomputable def pLtA : P2 := fun x y h k => match x, y with
  | .int a, .int b => k (.bl (decide (a < b))) h
  | .tup a, .tup b => match intsOf a, intsOf b with
    | some ns, some ms => k (.bl (HT.lexLt ns ms)) h
    | _, _ => False
  | _, _ => False
noncomputable def wDict : WE := fun _ h k => k (.ref h.length) (h ++ [.dK []])
noncomputable def pIs : P2 := fun x y h k => match y with
  | .non => k (.bl (match x with | .non => true | _ => false)) h
  | _ => False
noncomputable def pIsNot : P2 := fun x y h k => match y with
  | .non => k (.bl (match x with | .non => false | _ => true)) h
  | _ => False
noncomputable def pInB (neg : Bool) : P2 := fun x y h k => match seqOf y h with
  | some ys => flatT x = true ∧ ys.all flatT = true ∧ k (.bl (neg != ys.any fun t => eqF t x)) h
  | none => False
noncomputable def pNotIn : P2 := pInB true
theorem flat_den {H : Hp} {m : List Addr} {t : T} {v : V} (d : Den H m t v) (f : flatT t = true) : flatV v = true := by
  cases d <;> first | rfl | cases f
theorem eqF_den {H : Hp} {m : List Addr} {t u : T} {v w : V} (d : Den H m t v) (e : Den H m u w) (f : flatT t = true) (g : flatT u = true) : eqF t u = eqV v w := by
  cases d <;> cases e <;> first | rfl | cases f | cases g
theorem flat_dens {H : Hp} {m : List Addr} : ∀ {ts : List T} {vs : List V}, Dens H m ts vs → ts.all flatT = true → vs.all flatV = true
  | _, _, .nil, _ => rfl
  | _, _, .cons d r, f => by
    rw [List.all_cons, Bool.and_eq_true] at f ⊢
    exact ⟨flat_den d f.1, flat_dens r f.2⟩
theorem any_dens {H : Hp} {m : List Addr} {x : T} {v : V} (d : Den H m x v) (fx : flatT x = true) : ∀ {ts : List T} {vs : List V}, Dens H m ts vs → ts.all flatT = true → (ts.any fun t => eqF t x) = inV v vs
  | _, _, .nil, _ => rfl
  | _, _, .cons e r, f => by
    rw [List.all_cons, Bool.and_eq_true] at f
    unfold inV
    rw [List.any_cons, List.any_cons, eqF_den e d f.1 fx, any_dens d fx r f.2]
    rfl
theorem i_inB {neg : Bool} : R2I K (rIn K neg) (pInB neg) := fun m h H x y vx vy k Q r d1 d2 w af => by
  unfold pInB at w
  cases e : seqOf y h with
  | none => rw [e] at w; exact w.elim
  | some ys =>
    rw [e] at w
    obtain ⟨f1, f2, w⟩ := w
    obtain ⟨a, ws, rfl, hq, ds⟩ := seqOf_den r d2 e
    refine ⟨a, ws, rfl, hq, flat_den d1 f1, flat_dens ds f2, ?_⟩
    rw [any_dens d1 f1 ds f2] at w
    cases neg
    · refine af _ h m H _ .refl r (.bl _) ?_
      simpa using w
    · refine af _ h m H _ .refl r (.bl _) ?_
      simpa using w
theorem i_notIn : R2I K (rIn K true) pNotIn := i_inB
noncomputable def rMulA (K : PySem.W.Frag) : R2 := fun x y H Q => rI CMul (fun i j => .int (i * j)) x y H Q ∨ rRep x y H Q
theorem op_mulL : OpR X (binaryOp .Mult) (rMulA X.K) := op_mul.or op_rep
noncomputable def compChk (fs : Scope) (N : List Str) (scope : Scope) (js : List Nat) : Bool :=
  decide (scope.kind = .function) && scope.names.all (fun y => decide (y.2 ≠ .cell)) && scope.names.all (fun y => decide (y.2 ≠ .local) || decide (scope.names.lookup y.1 = some .local)) &&
  scope.names.all (fun y => decide (y.2 ≠ .free) || decide (fs.names.lookup y.1 = some .cell) || decide (fs.names.lookup y.1 = some .free)) &&
  (List.range N.length).all fun i => match N[i]? with
    | some x => decide (scope.names.lookup x ≠ some .local) || js.contains i
    | none => true
theorem compOk_of {scope : Scope} {js : List Nat} {fs : Scope} {N : List Str} (hs : X.env.scope = fs) (hN : X.N = N) (h : compChk fs N scope js = true) : CompOk X scope js := by
  unfold compChk at h
  simp only [Bool.and_eq_true, List.all_eq_true, decide_eq_true_eq, Bool.or_eq_true] at h
  obtain ⟨⟨⟨⟨h1, h2⟩, h3⟩, h4⟩, h5⟩ := h
  refine ⟨h1, h2, fun y hy hl => ?_, fun y hy hf => ?_, fun i x hx hl => ?_⟩
  · rcases h3 y hy with z | z
    · exact absurd hl z
    · exact z
  · show X.env.scope.names.lookup y.1 = some .cell ∨ X.env.scope.names.lookup y.1 = some .free
    rw [hs]
    rcases h4 y hy with (z | z) | z
    · exact absurd hf z
    · exact .inl z
    · exact .inr z
  · rw [hN] at hx
    have hi : i < N.length := (List.getElem?_eq_some_iff.mp hx).1
    have z := h5 i (List.mem_range.mpr hi)
    rw [hx] at z
    simp only [Bool.or_eq_true, decide_eq_true_eq] at z
    rcases z with z | z
    · exact absurd hl z
    · simpa using z
theorem hu40 {n : Nat} {A : Around} (hr : Room n A) : A.units + 40 < cLine := by have := hr.units; omega
structure Bt (mg : Str → Option Value) : Prop where
  len : mg "len" = none
  isinstance : mg "isinstance" = none
  int_ : mg "int" = none
  bool : mg "bool" = none
  str : mg "str" = none
  tuple : mg "tuple" = none
  list : mg "list" = none
  range : mg "range" = none
  zip : mg "zip" = none
end
end Pu
set_option Elab.async false
set_option linter.all false
set_option maxRecDepth 100000
namespace Pu
open PySem PySem.Spec PyProof.Rows L2 PySem.SeqAt
open AutoSeq1 (wpAny_loadPart')
theorem noFill_tuple_mul : fillsNumberSlot (.type "tuple") "mul" = pure false :=
  PySem.fillsNumberSlot_seq (id := "tuple.__mul__") (r := some (.builtin "tuple.__rmul__")) F.slot_tuple_mul.lookup (by decide +kernel) F.slot_tuple_rmul.lookup (by decide +kernel)
theorem repeat_tuple : seqRepeat? (.type "tuple") = pure (some (.builtin "tuple.__mul__")) := by
  unfold seqRepeat?
  rw [PySem.seqSlot_of (T := "tuple") (name := "__mul__") (id := "tuple.__mul__") F.slot_tuple_mul.lookup (by decide +kernel), PySem.seqSlot_of (T := "tuple") (name := "__rmul__") (id := "tuple.__rmul__") F.slot_tuple_rmul.lookup (by decide +kernel)]
  rfl
theorem int_rmul_tuple (a : Int) (t : Tok) (l : Addr) (items : Array Value) (n : Nat) (d : Option Addr) (sl : Array (Option Value)) :
    Meets (Builtin.«int.__rmul__» ⟨[.int a t, .ref l], []⟩) (fun _ R s => s.heap.get? l = some { cls := .type "tuple", dict := d, data := .seq items n, slots := sl } ∧ R (.ok (.ret Value.notImplemented)) s) :=
  .of_wp fun prog w A R s h => by obtain ⟨hp, g, d, tk, os⟩ := s; obtain ⟨hl, h⟩ := h; wp_walk; exact ⟨_, rfl, h⟩
theorem tuple_mul1 (l : Addr) (items : Array Value) (n : Nat) (d : Option Addr) (sl : Array (Option Value)) (u : Tok) :
    Meets (Builtin.«tuple.__mul__» ⟨[.ref l, .int 1 u], []⟩) (fun _ R s => s.heap.get? l = some { cls := .type "tuple", dict := d, data := .seq items n, slots := sl } ∧ R (.ok (.ret (.ref l))) s) :=
  .of_wp fun prog w A R s h => by
    obtain ⟨hp, g, d, tk, os⟩ := s; obtain ⟨hl, h⟩ := h
    have f1 := AutoSeq1.idx_int; have f2 := AutoSeq1.sub_tuple_tuple
    wp_walk using wpAny_loadPart' hl
    exact ⟨_, rfl, h⟩
theorem tuple_mul2 (l : Addr) (items : Array Value) (n : Nat) (d : Option Addr) (sl : Array (Option Value)) (x : Int) (u : Tok) (c1 : ¬ (decide (x < -(2 ^ 63)) || decide (x ≥ 2 ^ 63)) = true) (c2 : ¬ (items.isEmpty || x == 1) = true) (c3 : ¬ (decide (x ≤ 0) || items.isEmpty) = true)
    (c4 : ¬ ((items.size : Int) * x > (2 ^ 63 - 1) / 8)) (c5 : ¬ Builtin.Tuple.tupleTooMany ((items.size : Int) * x) = true) (hsz : (List.foldl (fun x1 x2 => x1 ++ x2) #[] (List.replicate x.toNat items)).size ≤ sizeLine) :
    Meets (Builtin.«tuple.__mul__» ⟨[.ref l, .int x u], []⟩) (fun _ R s => s.heap.get? l = some { cls := .type "tuple", dict := d, data := .seq items n, slots := sl } ∧ R (.ok (.ret (.ref s.heap.objs.size))) { s with heap := s.heap.push { cls := .type "tuple", data := .seq (List.foldl (fun x1 x2 => x1 ++ x2) #[] (List.replicate x.toNat items)) } }) :=
  .of_wp fun prog w A R s h => by
    obtain ⟨hp, g, d, tk, os⟩ := s; obtain ⟨hl, h⟩ := h
    have f1 := AutoSeq1.idx_int; have f2 := AutoSeq1.sub_tuple_tuple
    wp_walk using wpAny_loadPart' hl
    refine wpAny_ite_split (fun hab => absurd hab c1) (fun _ => ?_)
    wp_walk using wpAny_loadPart' hl
    refine wpAny_ite_split (fun hab => absurd hab c4) (fun _ => ?_)
    wp_walk using wpAny_loadPart' hl
    exact ⟨_, rfl, h⟩
section
variable {K : PySem.W.Frag} {X : Cx}
noncomputable def rRepT (K : PySem.W.Frag) : R2 := fun x y H Q => ∃ a n xs, x = .ref a ∧ y = .int n ∧ SqT K H a xs ∧ xs ≠ [] ∧ 1 ≤ n ∧ n < 16777216 ∧ xs.length * n.toNat ≤ sizeLine ∧
  (n = 1 → Q (.ref a) H) ∧ (n ≠ 1 → ∀ p, H p = none → Q (.ref p) (upd H p (.tup (List.replicate n.toNat xs).flatten)))
theorem op_repT : OpR X (binaryOp .Mult) (rRepT X.K) := by
  intro pins s σ H x y v u Q I rx ry h
  obtain ⟨a, n, xs, rfl, rfl, ha, hx, h1, h2, hz, q1, q2⟩ := h
  cases rx
  obtain ⟨t, rfl⟩ := ry
  obtain ⟨its, r, p, _⟩ := I.tuple ha
  obtain ⟨⟨cls, dd, data, sl⟩, ho, hc, k, hd⟩ := id p
  simp only at hc hd
  subst hc hd
  have hl := r.length
  have hne : its ≠ [] := fun z => hx (r.nil_iff.mp z)
  by_cases e1 : n = 1
  · subst e1
    refine wpAny_binaryOp_repeat_ref (T := "tuple") (U := "int") (by decide) ⟨_, ho, rfl⟩ (fun s' => typeIs_int s' 1 t) noFill_tuple_mul F.fills_int_mul F.slot_int_rmul repeat_tuple F.slot_int_index.lookup
      (call_meets F.slot_int_rmul (typeIs_int s 1 t) F.entry_int_rmul (F.args_int_rmul_2 _ _) (int_rmul_tuple 1 t a its.toArray k dd sl)
        ⟨ho, rfl, ⟨_, ho, rfl⟩, call_meets F.slot_tuple_mul ⟨_, ho, rfl⟩ F.entry_tuple_mul (F.args_tuple_mul_2 _ _) (tuple_mul1 a its.toArray k dd sl t) ⟨ho, ?_⟩⟩)
    exact ⟨.ref a, H, I, rfl, q1 rfl⟩
  · have hs : sizeLine = 16777216 := sizeLine_eq
    have f0 : List.foldl (fun x1 x2 => x1 ++ x2) #[] (List.replicate n.toNat its.toArray) = (List.replicate n.toNat its).flatten.toArray := by
      have := foldl_rep its n.toNat []
      rw [List.nil_append] at this
      exact this
    have hmul : ((its.toArray.size : Int) * n) = ((its.length * n.toNat : Nat) : Int) := by
      rw [List.size_toArray, Int.natCast_mul, Int.toNat_of_nonneg (by omega)]
    have hz' : its.length * n.toNat ≤ sizeLine := by rw [← hl]; exact hz
    have hemp : its.toArray.isEmpty = false := by cases its with | nil => exact absurd rfl hne | cons _ _ => rfl
    refine wpAny_binaryOp_repeat_ref (T := "tuple") (U := "int") (by decide) ⟨_, ho, rfl⟩ (fun s' => typeIs_int s' n t) noFill_tuple_mul F.fills_int_mul F.slot_int_rmul repeat_tuple F.slot_int_index.lookup
      (call_meets F.slot_int_rmul (typeIs_int s n t) F.entry_int_rmul (F.args_int_rmul_2 _ _) (int_rmul_tuple n t a its.toArray k dd sl)
        ⟨ho, rfl, ⟨_, ho, rfl⟩, call_meets F.slot_tuple_mul ⟨_, ho, rfl⟩ F.entry_tuple_mul (F.args_tuple_mul_2 _ _) (tuple_mul2 a its.toArray k dd sl n t ?_ ?_ ?_ ?_ ?_ ?_) ⟨ho, ?_⟩⟩)
    · simp only [Bool.or_eq_true, decide_eq_true_eq]; omega
    · rw [hemp]; simpa using e1
    · rw [hemp]; simp; omega
    · rw [hmul]; omega
    · unfold Builtin.Tuple.tupleTooMany
      rw [hmul]
      intro hh
      have := of_decide_eq_true hh
      omega
    · rw [f0, List.size_toArray, len_rep, Nat.mul_comm]; exact hz'
    · rw [f0]
      refine ⟨.ref s.heap.objs.size, _, I.laid (t' := s.toks) (o := .tup (List.replicate n.toNat xs).flatten) (fun b ob q => Heap.get?_push_of_some _ q) (Nat.le_refl _) ?_, rfl, q2 e1 _ (I.hok.fresh (Nat.le_refl _))⟩
      exact ⟨by rw [len_rep, Nat.mul_comm]; exact hz, _, r.rep n.toNat, IsTup.new _ _, _, Heap.get?_push_size _ rfl, rfl⟩
noncomputable def rMulT (K : PySem.W.Frag) : R2 := fun x y H Q => rMulA K x y H Q ∨ rRepT K x y H Q
theorem op_mulA : OpR X (binaryOp .Mult) (rMulT X.K) := op_mulL.or op_repT
noncomputable def pMul : P2 := fun x y h k => match x, y with
  | .int a, .int b => CMul a b ∧ k (.int (a * b)) h
  | .tup ts, .int n => ts ≠ [] ∧ 1 ≤ n ∧ n < 16777216 ∧ ts.length * n.toNat ≤ sizeLine ∧ k (.tup (List.replicate n.toNat ts).flatten) h
  | .ref i, .int n => match lstOf h i with
    | some xs => -(2 ^ 63) ≤ n ∧ n < 2 ^ 63 ∧ xs.length * n.toNat ≤ sizeLine ∧ k (.ref h.length) (h ++ [.lst (List.replicate n.toNat xs).flatten])
    | none => False
  | _, _ => False
theorem i_mul : R2I K (rMulT K) pMul := fun m h H x y vx vy k Q r d1 d2 w af => by
  cases d2 with
  | int n =>
    cases d1 with
    | int a => exact .inl (.inl ⟨a, n, rfl, rfl, w.1, af _ h m H _ .refl r (.int _) w.2⟩)
    | @tup a ts vs hv ds =>
      have w : ts ≠ [] ∧ 1 ≤ n ∧ n < 16777216 ∧ ts.length * n.toNat ≤ sizeLine ∧ k (.tup (List.replicate n.toNat ts).flatten) h := w
      obtain ⟨w1, w2, w3, w4, w5⟩ := w
      refine .inr ⟨a, n, vs, rfl, rfl, .of hv, fun z => w1 (ds.nil_iff.mpr z), w2, w3, by rw [← ds.length]; exact w4, fun e => ?_, fun _ p hp => af.newTup r (ds.rep _) w5 hp⟩
      subst e
      have e : (List.replicate (1 : Int).toNat ts).flatten = ts := by simp
      rw [e] at w5
      exact af _ h m H _ .refl r (.tup hv ds) w5
    | @ref i a hi =>
      have w : (match lstOf h i with | some xs => -(2 ^ 63) ≤ n ∧ n < 2 ^ 63 ∧ xs.length * n.toNat ≤ sizeLine ∧ k (.ref h.length) (h ++ [.lst (List.replicate n.toNat xs).flatten]) | none => False) := w
      cases e : lstOf h i with
      | none => rw [e] at w; exact w.elim
      | some xs =>
        rw [e] at w
        obtain ⟨w1, w2, w3, w4⟩ := w
        obtain ⟨vs, hv, ds⟩ := r.lst (lstOf_some e) hi
        exact .inl (.inr ⟨a, n, vs, rfl, rfl, hv, w1, w2, by rw [← ds.length]; exact w3, fun p hp => af.newLst r (ds.rep _) w4 hp⟩)
    | _ => exact (show False from w).elim
  | _ => cases d1 <;> exact (show False from w).elim
noncomputable def pSl : T → Option Int → Option Int → PH → WK → Prop := pSlL
noncomputable def pExt : T → List T → PH → WK → Prop := fun x ts h k => pMt (fExtend h) x ts h k
end
section
variable {prog : Program} {w : World} {A : Around} {E : Value → Shared → Prop} {s : Shared}
end
end Pu
set_option Elab.async false
set_option linter.all false
set_option maxRecDepth 100000
namespace Pu
open PySem PySem.Spec PyProof.Rows L2 PySem.SeqAt
section
variable {K : PySem.W.Frag} {X : Cx} {a : Expr} {p p2 pos pos2 : Pos}
noncomputable def wTupRng (wa : WA) : WE := fun env h k => wa env h fun ts h1 => match ts with
  | [.int j] => -(2 ^ 62) ≤ j ∧ j < 16777216 ∧ k (.tup (rngL 0 j.toNat)) h1
  | _ => False
end
end Pu
set_option Elab.async false
set_option linter.all false
set_option maxRecDepth 100000
namespace Pu
open PySem L2
noncomputable def Ext (n : Nat) (h h' : PH) : Prop := ∀ (i : Nat) o, i ≠ n → h[i]? = some o → h'[i]? = some o
noncomputable def Gro (h h' : PH) : Prop := ∀ (i : Nat) o, h[i]? = some o → h'[i]? = some o
theorem Gro.refl (h : PH) : Gro h h := fun _ _ e => e
theorem Gro.trans {a b c : PH} (x : Gro a b) (y : Gro b c) : Gro a c := fun i o e => y i o (x i o e)
theorem Gro.app (h g : PH) : Gro h (h ++ g) := fun i o e => by
  have hi := (List.getElem?_eq_some_iff.mp e).1
  rw [List.getElem?_append_left hi]; exact e
theorem Gro.ext {n : Nat} {h h' : PH} (x : Gro h h') : Ext n h h' := fun i o _ e => x i o e
theorem Ext.trans {n : Nat} {a b c : PH} (x : Ext n a b) (y : Ext n b c) : Ext n a c := fun i o hi e => y i o hi (x i o hi e)
theorem Ext.set (n : Nat) (h : PH) (o : Ob) : Ext n h (h.set n o) := fun i u hi e => by rw [List.getElem?_set_ne (Ne.symm hi)]; exact e
theorem Ext.app (n : Nat) (h g : PH) : Ext n h (h ++ g) := (Gro.app h g).ext
theorem get_app_left {h g : PH} {i : Nat} {o : Ob} (e : h[i]? = some o) : (h ++ g)[i]? = some o := Gro.app h g i o e
theorem get_app_new (h : PH) (o : Ob) : (h ++ [o])[h.length]? = some o := by simp
theorem lt_of_get {h : PH} {i : Nat} {o : Ob} (e : h[i]? = some o) : i < h.length := (List.getElem?_eq_some_iff.mp e).1
theorem lstOf_of {h : PH} {n : Nat} {xs : List T} (e : h[n]? = some (.lst xs)) : lstOf h n = some xs := by unfold lstOf; rw [e]
theorem seqOf_of {h : PH} {n : Nat} {xs : List T} (e : h[n]? = some (.lst xs)) : seqOf (.ref n) h = some xs := by unfold seqOf; simp only [e]
theorem seqOf_fro {h : PH} {n : Nat} {xs : List T} (e : h[n]? = some (.fro xs)) : seqOf (.ref n) h = some xs := by unfold seqOf; simp only [e]
theorem seqOf_tup (ts : List T) (h : PH) : seqOf (.tup ts) h = some ts := rfl
theorem eqT_int (h : PH) (a b : Int) : eqT h 40 (.int a) (.int b) = some (a == b) := rfl
theorem eqT_bl (h : PH) (a b : Bool) : eqT h 40 (.bl a) (.bl b) = some (a == b) := rfl
theorem atI_nn {α : Type} {xs : List α} {i : Int} (h0 : 0 ≤ i) (h1 : i < xs.length) : atI xs i = xs[i.toNat]? := by
  unfold atI ixN
  rw [if_pos h0, if_pos h1]
  rfl
theorem atI_0 {α : Type} (a : α) (r : List α) : atI (a :: r) 0 = some a := by rw [atI_nn (by decide) (by simp only [List.length_cons]; omega)] <;> rfl
theorem atI_1 {α : Type} (a b : α) (r : List α) : atI (a :: b :: r) 1 = some b := by rw [atI_nn (by decide) (by simp only [List.length_cons]; omega)] <;> rfl
theorem atI_2 {α : Type} (a b c : α) (r : List α) : atI (a :: b :: c :: r) 2 = some c := by rw [atI_nn (by decide) (by simp only [List.length_cons]; omega)] <;> rfl
noncomputable def StOk (n sc : Nat) (ns : List Int) (h : PH) : Prop := ∃ count acc, h[n]? = some (.lst [.ref sc, .int count, .int acc]) ∧ 0 ≤ count ∧ h[sc]? = some (.fro (ns.map T.int))
theorem StOk.gro {n sc : Nat} {ns : List Int} {h h' : PH} (s : StOk n sc ns h) (x : Gro h h') : StOk n sc ns h' := by
  obtain ⟨c, a, e1, e0, e2⟩ := s
  exact ⟨c, a, x _ _ e1, e0, x _ _ e2⟩
noncomputable def cpTake : CP := fun ts h k => ∃ n sc ns size, ts = [.ref n, .int size] ∧ StOk n sc ns h ∧ 0 < size ∧ size < 1073741824 ∧ ∀ r h', 0 ≤ r → r < size → StOk n sc ns h' → Ext n h h' → k (.int r) h'
theorem len_take : ∀ ts h k, cpTake ts h k → ts.length = 2 := by
  rintro ts h k ⟨n, sc, ns, size, rfl, _⟩
  rfl
theorem atI_mem {α : Type} {xs : List α} {i : Int} (h0 : 0 ≤ i) (h1 : i < xs.length) : ∃ t, t ∈ xs ∧ atI xs i = some t := by
  have hi : i.toNat < xs.length := by omega
  exact ⟨xs[i.toNat], List.getElem_mem hi, by rw [atI_nn h0 h1, List.getElem?_eq_getElem hi]⟩
theorem seq_cut {t u : WS} {D : Eds} {env : En} {h : PH} (H : ∀ U, U = u D → t { D with nx := U } env h) : wSeq t u D env h := H _ rfl
noncomputable def cpLaw : CP := fun ts h k => ∃ ns : List Int, ts = [.ref 0] ∧ h = [.fro (ns.map T.int)] ∧ ns.length ≤ 63 ∧ ∀ h', k (.bl true) h'
theorem len_cpLaw : ∀ ts h k, cpLaw ts h k → ts.length = 1 := by
  rintro ts h k ⟨x, rfl, _⟩
  rfl
theorem law_start {K : PySem.W.Frag} {H : Hp} {a : Addr} {ns : List Int} (hl : ns.length ≤ 63) (hO : Only H) (hS : SqL K H a (ns.map V.int)) : spOf K cpLaw [.ref a] H (fun v _ => v = .bl true) fun _ _ _ => False := by
  refine ⟨[a], [.fro (ns.map T.int)], [.ref 0], fun t _ => t = .bl true, ⟨rfl, fun i o e => ?_, fun i j b oi oj ei ej hi => ?_⟩, .cons (.ref rfl) .nil, ⟨ns, rfl, rfl, hl, fun _ => rfl⟩, fun t h' m' H' v u r d q => ?_⟩
  · cases i with
    | succ i => simp at e
    | zero =>
      have e : some (Ob.fro (ns.map T.int)) = some o := e
      cases e
      refine ⟨a, rfl, ns.map V.int, ?_, Dens.of_ints ns⟩
      rcases hS with (h | ⟨o, h⟩) | h
      · rcases hO a with z | ⟨o, xs, z⟩
        · rw [z] at h; cases h
        · rw [z] at h; cases h
      · exact .inl ⟨o, h⟩
      · exact .inr h
  · cases i with
    | succ i => simp at ei
    | zero =>
      have ei : some (Ob.fro (ns.map T.int)) = some oi := ei
      cases ei
      cases hi
  · subst q
    cases d
    rfl
end Pu
set_option Elab.async false
set_option linter.all false
set_option maxRecDepth 100000
set_option maxHeartbeats 1000000
namespace Pu
open PySem L2
noncomputable def W_law_take : WS :=
  wSeq (wAsg (wOp pIx (wVar 0) (wC (.int 0))) (gN 2))
  (wSeq (wAsg (wOp pIx (wVar 0) (wC (.int 1))) (gN 3))
  (wSeq (wAsg (wOp pAdd (wVar 3) (wC (.int 1))) (gSb (wVar 0) (wC (.int 1)) pSet))
  (wSeq (wAsg (wC (.int 0)) (gN 4))
  (wSeq (wIf (wAnd (wTest (wOp pGt (wCB pLen (wCons (wVar 2) (wNil))) (wC (.int 0)))) (wTest (wOp pEq (wOp pMod (wOp pIx (wVar 2) (wC (.int 0))) (wC (.int 2))) (wC (.int 1))))) (wSeq (wIf (wTest (wOp pEq (wOp pMod (wVar 3) (wC (.int 60))) (wC (.int 0)))) (wAsg (wOp pFdiv (wOp pIx (wVar 2) (wOp pMod (wOp pFdiv (wVar 3) (wC (.int 60))) (wCB pLen (wCons (wVar 2) (wNil))))) (wOp pIx (wLst (wCons (wC (.int 1)) (wCons (wC (.int 2)) (wNil)))) (wCB pInt (wCons (wOp pEq (wVar 3) (wC (.int 0))) (wNil))))) (gSb (wVar 0) (wC (.int 2)) pSet)) (wNext))
  (wSeq (wAsg (wOp pIx (wVar 0) (wC (.int 2))) (gN 4))
  (wSeq (wAsg (wOp pFdiv (wVar 4) (wVar 1)) (gSb (wVar 0) (wC (.int 2)) pSet))
  (wRet (wOp pMod (wVar 4) (wVar 1)))))) (wNext))
  (wSeq (wIf (wTest (wOp pGt (wCB pLen (wCons (wVar 2) (wNil))) (wC (.int 0)))) (wAsg (wOp pMod (wOp pIx (wVar 2) (wOp pMod (wVar 3) (wCB pLen (wCons (wVar 2) (wNil))))) (wOp pPow (wC (.int 10)) (wC (.int 30)))) (gN 4)) (wNext))
  (wSeq (wAsg (wOp pMod (wOp pMul (wOp pAdd (wOp pAdd (wVar 4) (wOp pMul (wC (.int 7919)) (wVar 3))) (wC (.int 11))) (wC (.int 48271))) (wC (.int 2147483647))) (gN 5))
  (wSeq (wAsg (wOp pMod (wOp pAdd (wOp pAdd (wOp pMul (wVar 5) (wVar 5)) (wOp pMul (wC (.int 104729)) (wVar 3))) (wC (.int 13))) (wC (.int 2147483629))) (gN 5))
  (wRet (wOp pMod (wOp pFdiv (wOp pMod (wOp pMul (wVar 5) (wOp pAdd (wVar 5) (wC (.int 69621)))) (wC (.int 2147483587))) (wC (.int 5))) (wVar 1))))))))))
theorem ix31 : ixN 3 1 = some 1 := rfl
theorem ix32 : ixN 3 2 = some 2 := rfl
theorem mod_b (x m : Int) (hm : 0 < m) : 0 ≤ x % m ∧ x % m < m := ⟨Int.emod_nonneg _ (by omega), Int.emod_lt_of_pos _ hm⟩
theorem cmul_l {a b : Int} (h1 : -18446744073709551616 < a) (h2 : a < 18446744073709551616) : CMul a b := .inl ⟨h1, h2⟩
theorem cmul_r {a b : Int} (h1 : -18446744073709551616 < b) (h2 : b < 18446744073709551616) : CMul a b := .inr ⟨h1, h2⟩
theorem end_ok {n sc : Nat} {ns : List Int} {h g : PH} {a b : Int} (hl : n < h.length) (hne : n ≠ sc) (hs : h[sc]? = some (.fro (ns.map T.int))) (hb : 0 ≤ a) {o : Ob} : StOk n sc ns ((h.set n o ++ g).set n (.lst [.ref sc, .int a, .int b])) ∧ Ext n h ((h.set n o ++ g).set n (.lst [.ref sc, .int a, .int b])) := by
  refine ⟨⟨a, b, List.getElem?_set_self (by rw [List.length_append, List.length_set]; omega), hb, ?_⟩, ((Ext.set n h o).trans (Ext.app n _ g)).trans (Ext.set n _ _)⟩
  rw [List.getElem?_set_ne hne]
  refine get_app_left ?_
  rw [List.getElem?_set_ne hne]; exact hs
theorem end_ok1 {n sc : Nat} {ns : List Int} {h : PH} {a b : Int} (hl : n < h.length) (hne : n ≠ sc) (hs : h[sc]? = some (.fro (ns.map T.int))) (hb : 0 ≤ a) : StOk n sc ns (h.set n (.lst [.ref sc, .int a, .int b])) ∧ Ext n h (h.set n (.lst [.ref sc, .int a, .int b])) := by
  refine ⟨⟨a, b, List.getElem?_set_self hl, hb, ?_⟩, Ext.set n h _⟩
  rw [List.getElem?_set_ne hne]; exact hs
theorem tail_ok {c count size : Int} (h1 : 0 < size) {K : Int → Prop} (hk : ∀ r, 0 ≤ r → r < size → K r) :
    CMul 7919 count ∧ CMul (c + 7919 * count + 11) 48271 ∧ (0 : Int) < 2147483647 ∧ CMul ((c + 7919 * count + 11) * 48271 % 2147483647) ((c + 7919 * count + 11) * 48271 % 2147483647) ∧ CMul 104729 count ∧ (0 : Int) < 2147483629 ∧
      CMul (((c + 7919 * count + 11) * 48271 % 2147483647 * ((c + 7919 * count + 11) * 48271 % 2147483647) + 104729 * count + 13) % 2147483629) (((c + 7919 * count + 11) * 48271 % 2147483647 * ((c + 7919 * count + 11) * 48271 % 2147483647) + 104729 * count + 13) % 2147483629 + 69621) ∧ (0 : Int) < 2147483587 ∧
      CDiv (((c + 7919 * count + 11) * 48271 % 2147483647 * ((c + 7919 * count + 11) * 48271 % 2147483647) + 104729 * count + 13) % 2147483629 * (((c + 7919 * count + 11) * 48271 % 2147483647 * ((c + 7919 * count + 11) * 48271 % 2147483647) + 104729 * count + 13) % 2147483629 + 69621) % 2147483587) 5 ∧
      K (((c + 7919 * count + 11) * 48271 % 2147483647 * ((c + 7919 * count + 11) * 48271 % 2147483647) + 104729 * count + 13) % 2147483629 * (((c + 7919 * count + 11) * 48271 % 2147483647 * ((c + 7919 * count + 11) * 48271 % 2147483647) + 104729 * count + 13) % 2147483629 + 69621) % 2147483587 / 5 % size) := by
  have m1 := mod_b ((c + 7919 * count + 11) * 48271) 2147483647 (by decide)
  generalize (c + 7919 * count + 11) * 48271 % 2147483647 = y at m1 ⊢
  have m2 := mod_b (y * y + 104729 * count + 13) 2147483629 (by decide)
  generalize (y * y + 104729 * count + 13) % 2147483629 = z at m2 ⊢
  refine ⟨cmul_l (by decide) (by decide), cmul_r (by decide) (by decide), by decide, cmul_l (by omega) (by omega), cmul_l (by decide) (by decide), by decide, cmul_l (by omega) (by omega), by decide, ⟨by decide, by decide⟩, ?_⟩
  have m3 := mod_b (z * (z + 69621) % 2147483587 / 5) size h1
  exact hk _ m3.1 m3.2
set_option maxRecDepth 100000 in
theorem vc_law_take : ∀ ts h k, cpTake ts h k → W_law_take { nx := fun _ h' => k .non h', rt := k } (begin_ 6 ts) h := by
  rintro ts h k ⟨n, sc, ns, size, rfl, ⟨count, acc, hn, hc, hs⟩, h1, h2, hk⟩
  have hne : n ≠ sc := by rintro rfl; rw [hn] at hs; cases hs
  have hl := lt_of_get hn
  have hs' : ∀ o, (h.set n o)[sc]? = some (.fro (ns.map T.int)) := fun o => by rw [List.getElem?_set_ne hne]; exact hs
  have hn' : ∀ xs, (h.set n (.lst xs))[n]? = some (.lst xs) := fun xs => List.getElem?_set_self hl
  have hn2 : ∀ xs g, (h.set n (.lst xs) ++ g)[n]? = some (.lst xs) := fun xs g => get_app_left (hn' xs)
  have hn3 : ∀ xs ys g, ((h.set n (.lst xs) ++ g).set n (.lst ys))[n]? = some (.lst ys) := fun xs ys g => List.getElem?_set_self (by rw [List.length_append, List.length_set]; omega)
  have hg : ∀ o xs, ((h.set n o) ++ [.lst xs])[(h.set n o).length]? = some (.lst xs) := fun o xs => get_app_new _ _
  have cd : CDiv count 60 := ⟨by decide, by decide⟩
  have cs : ∀ a, CDiv a size := fun a => ⟨h1, h2⟩
  have cp : CPow 10 30 := ⟨by decide, by decide, by decide⟩
  have p30 : (0 : Int) < 10 ^ Int.toNat 30 := by decide
  have fin0 : ∀ r, 0 ≤ r → r < size → k (.int r) (h.set n (.lst [.ref sc, .int (count + 1), .int acc])) := fun r r0 r1 => by
    have q := end_ok1 (a := count + 1) (b := acc) hl hne hs (by omega)
    exact hk r _ r0 r1 q.1 q.2
  by_cases hz : ns = []
  · subst hz
    simp only [W_law_take, begin_, wSeq, wIf, wRet, wNext, wAsg, gN, gSb, wOp, wVar, wC, wTest, wAnd, wOr, wNot, wCons, wNil, wLst, wCB, pIx, pSet, pAdd, pLen, pGt, pIb, pEq, pMod, pIc, pFdiv, pPow, pMul, pInt,
      List.map_cons, List.map_nil, List.length_cons, List.length_nil, List.cons_append, List.nil_append, List.replicate, List.getElem?_cons_zero, List.getElem?_cons_succ, List.set_cons_zero, List.set_cons_succ, Nat.reduceSub, Nat.reduceAdd,
      seqOf_of hn, seqOf_of (hn' _), seqOf_fro hs, seqOf_fro (hs' _), lstOf_of hn, lstOf_of (hn' _), atI_0, atI_1, atI_2, eqT_int, ix31, ix32, Int.ofNat_zero, gt_iff_lt, Int.lt_irrefl, decide_false, Bool.false_eq_true, if_false, h1, true_and]
    exact tail_ok h1 (K := fun r => k (.int r) (h.set n (.lst [.ref sc, .int (count + 1), .int acc]))) fin0
  · have hp : 0 < ns.length := List.length_pos_iff.mpr hz
    have hp' : (0 : Int) < (ns.map T.int).length := by rw [List.length_map]; omega
    have at_ : ∀ i : Int, 0 ≤ i → i < ns.length → ∃ x, atI (ns.map T.int) i = some (.int x) := fun i h0 h1 => by
      have hi : i.toNat < ns.length := by omega
      refine ⟨ns[i.toNat], ?_⟩
      rw [atI_nn h0 (by rw [List.length_map]; exact h1), List.getElem?_map, List.getElem?_eq_getElem hi]
      rfl
    obtain ⟨x0, e0⟩ := at_ 0 (by decide) (by omega)
    have b1 := mod_b (count / 60) (ns.map T.int).length hp'
    have b2 := mod_b count (ns.map T.int).length hp'
    rw [List.length_map] at b1 b2
    obtain ⟨x1, e1⟩ := at_ (count / 60 % (ns.map T.int).length) (by rw [List.length_map]; exact b1.1) (by rw [List.length_map]; exact b1.2)
    obtain ⟨x2, e2⟩ := at_ (count % (ns.map T.int).length) (by rw [List.length_map]; exact b2.1) (by rw [List.length_map]; exact b2.2)
    simp only [W_law_take, begin_, wSeq, wIf, wRet, wNext, wAsg, gN, gSb, wOp, wVar, wC, wTest, wAnd, wOr, wNot, wCons, wNil, wLst, wCB, pIx, pSet, pAdd, pLen, pGt, pIb, pEq, pMod, pIc, pFdiv, pPow, pMul, pInt,
      List.map_cons, List.map_nil, List.length_cons, List.length_nil, List.cons_append, List.nil_append, List.replicate, List.getElem?_cons_zero, List.getElem?_cons_succ, List.set_cons_zero, List.set_cons_succ, Nat.reduceSub, Nat.reduceAdd,
      seqOf_of hn, seqOf_of (hn' _), seqOf_of (hn2 _ _), seqOf_of (hn3 _ _ _), seqOf_of (hg _ _), seqOf_fro hs, seqOf_fro (hs' _), lstOf_of hn, lstOf_of (hn' _), lstOf_of (hn2 _ _), lstOf_of (hn3 _ _ _), atI_0, atI_1, atI_2, eqT_int, ix31, ix32, e0, e1, e2, hp', gt_iff_lt, decide_true, if_true, cd, cs, cp, p30, h1, true_and]
    refine ⟨by decide, ?_⟩
    split
    · refine ⟨by decide, ?_⟩
      split
      · refine ⟨by decide, ?_⟩
        have fin : ∀ a : Int, k (.int (a % size)) (((h.set n (Ob.lst [T.ref sc, T.int (count + 1), T.int acc]) ++ [Ob.lst [T.int 1, T.int 2]]).set n (Ob.lst [T.ref sc, T.int (count + 1), T.int a])).set n (Ob.lst [T.ref sc, T.int (count + 1), T.int (a / size)])) := fun a => by
          have m := mod_b a size h1
          rw [List.set_set]
          exact hk _ _ m.1 m.2 (end_ok hl hne hs (by omega)).1 (end_ok (ns := ns) hl hne hs (by omega)).2
        cases hcz : (count == 0) with
        | true => exact ⟨⟨by decide, by decide⟩, fin _⟩
        | false => exact ⟨⟨by decide, by decide⟩, fin _⟩
      · have m := mod_b acc size h1
        rw [List.set_set]
        exact hk _ _ m.1 m.2 (end_ok1 hl hne hs (by omega)).1 (end_ok1 (ns := ns) hl hne hs (by omega)).2
    · exact tail_ok h1 (K := fun r => k (.int r) (h.set n (.lst [.ref sc, .int (count + 1), .int acc]))) fin0
noncomputable abbrev cp_law_take : CP := cpTake
noncomputable abbrev len_law_take := len_take
end Pu
set_option Elab.async false
set_option linter.all false
set_option maxRecDepth 100000
set_option maxHeartbeats 1000000
namespace ZP
open PySem PySem.Spec PyProof.Rows
open AutoSeq1 (wpAny_loadPart')
section
variable {prog : Program} {w : World} {A : Around} {E : Value → Shared → Prop} {s : Shared}
structure ZA2 (z TI TO i1 i2 l1 l2 : Addr) : Prop where
  TIz : TI ≠ z
  TOz : TO ≠ z
  TITO : TI ≠ TO
  i1z : i1 ≠ z
  TIi1 : TI ≠ i1
  TOi1 : TO ≠ i1
  l1z : l1 ≠ z
  l1TO : l1 ≠ TO
  l1i1 : l1 ≠ i1
  l1i2 : l1 ≠ i2
  i12 : i1 ≠ i2
  i2z : i2 ≠ z
  TIi2 : TI ≠ i2
  TOi2 : TO ≠ i2
  l2z : l2 ≠ z
  l2TO : l2 ≠ TO
  l2i1 : l2 ≠ i1
  l2i2 : l2 ≠ i2
structure ZA3 (z TI TO i1 i2 i3 l1 l2 l3 : Addr) : Prop where
  TIz : TI ≠ z
  TOz : TO ≠ z
  TITO : TI ≠ TO
  i1z : i1 ≠ z
  TIi1 : TI ≠ i1
  TOi1 : TO ≠ i1
  l1z : l1 ≠ z
  l1TO : l1 ≠ TO
  l1i1 : l1 ≠ i1
  l1i2 : l1 ≠ i2
  i12 : i1 ≠ i2
  l1i3 : l1 ≠ i3
  i13 : i1 ≠ i3
  i2z : i2 ≠ z
  TIi2 : TI ≠ i2
  TOi2 : TO ≠ i2
  l2z : l2 ≠ z
  l2TO : l2 ≠ TO
  l2i1 : l2 ≠ i1
  l2i2 : l2 ≠ i2
  l2i3 : l2 ≠ i3
  i23 : i2 ≠ i3
  i3z : i3 ≠ z
  TIi3 : TI ≠ i3
  TOi3 : TO ≠ i3
  l3z : l3 ≠ z
  l3TO : l3 ≠ TO
  l3i1 : l3 ≠ i1
  l3i2 : l3 ≠ i2
  l3i3 : l3 ≠ i3
end
end ZP
set_option Elab.async false
set_option linter.all false
set_option maxRecDepth 100000
set_option maxHeartbeats 1000000
namespace ZP
open PySem PySem.Spec PyProof.Rows L2
open AutoSeq1 (wpAny_loadPart')
section
variable {X : Cx} {pins : List (Addr × Obj)} {σ : L2.St} {H : Hp} {s : Shared}
end
end ZP
set_option Elab.async false
set_option linter.all false
set_option maxRecDepth 100000
set_option maxHeartbeats 1000000
namespace ZP
open PySem PySem.Spec PyProof.Rows L2 Pu
noncomputable def wZip2 (wa : WA) : WI := fun env h k => wa env h fun ts h1 => match ts with
  | [t1, t2] => match seqOf t1 h1, seqOf t2 h1 with
    | some xs1, some xs2 => k (List.zipWith (fun x y => T.tup [x, y]) xs1 xs2) (fun h' => seqOf t1 h' = some xs1 ∧ seqOf t2 h' = some xs2) h1
    | _, _ => False
  | _ => False
noncomputable def wZip3 (wa : WA) : WI := fun env h k => wa env h fun ts h1 => match ts with
  | [t1, t2, t3] => match seqOf t1 h1, seqOf t2 h1, seqOf t3 h1 with
    | some xs1, some xs2, some xs3 => k (List.zipWith (fun x (p : T × T) => T.tup [x, p.1, p.2]) xs1 (xs2.zip xs3)) (fun h' => seqOf t1 h' = some xs1 ∧ seqOf t2 h' = some xs2 ∧ seqOf t3 h' = some xs3) h1
    | _, _, _ => False
  | _ => False
end ZP
set_option Elab.async false
set_option linter.all false
set_option maxRecDepth 100000
namespace Pu
open PySem L2
noncomputable def idxT (h : PH) (x : T) : List T → Option Nat
  | [] => none
  | t :: r => match eqT h 39 t x with
    | some true => some 0
    | some false => (idxT h x r).map (· + 1)
    | none => none
noncomputable def wIndex (wo : WE) (wa : WA) : WE := fun env h k => wo env h fun o h1 => match seqOf o h1 with
  | some _ => wa env h1 fun ts h2 => match ts with
    | [x] => match seqOf o h2 with
      | some xs => match idxT h2 x xs with
        | some i => k (.int (i : Int)) h2
        | none => False
      | none => False
    | _ => False
  | none => False
end Pu
set_option Elab.async false
set_option linter.all false
set_option maxRecDepth 100000
namespace Pu
open PySem PySem.Spec PyProof.Rows L2 PySem.SeqAt
open PySem.AutoSeq1 (wpAny_loadPart')
open PySem.MeetsSeq PySem.MeetsSeq2 PySem.MeetsSeq3 PySem.SeqRoads2
section
variable {X : Cx}
end
end Pu
set_option Elab.async false
set_option linter.all false
set_option maxRecDepth 100000
namespace Pu
open PySem L2
noncomputable def wDictT : WE := fun _ h k => k (.ref h.length) (h ++ [.dT []])
noncomputable def keysOf : List T → Option (List Key)
  | [] => some []
  | .int i :: r => (keysOf r).map (Sum.inl i :: ·)
  | .str x :: r => (keysOf r).map (Sum.inr x :: ·)
  | _ => none
noncomputable def dTOf (h : PH) (n : Nat) : Option (List (List Key × T)) := match h[n]? with
  | some (.dT kvs) => some kvs
  | _ => none
noncomputable def valT (kvs : List (List Key × T)) (k : List Key) : Option T := (kvs.find? fun kv => decide (kv.1 = k)).map (·.2)
noncomputable def putT (kvs : List (List Key × T)) (k : List Key) (v : T) : List (List Key × T) :=
  if (kvs.any fun kv => decide (kv.1 = k)) = true then kvs.map (fun kv => if kv.1 = k then (kv.1, v) else kv) else kvs ++ [(k, v)]
noncomputable def pDGet : P2 := fun x y h k => match x, y with
  | .ref n, .tup ks => match dTOf h n, keysOf ks with
    | some kvs, some key => match valT kvs key with
      | some t => k t h
      | none => False
    | _, _ => False
  | _, _ => False
noncomputable def wDPut (wd wi wv : WE) : WS := fun D env h => wv env h fun v h1 => wd env h1 fun d h2 => wi env h2 fun i h3 => match d, i with
  | .ref n, .tup ks => match dTOf h3 n, keysOf ks with
    | some kvs, some key => kvs.length < sizeLine ∧ D.nx env (h3.set n (.dT (putT kvs key v)))
    | _, _ => False
  | _, _ => False
noncomputable def wListVals (wd : WE) : WE := fun env h k => wd env h fun d h1 => match d with
  | .ref n => match dTOf h1 n with
    | some kvs => k (.ref h1.length) (h1 ++ [.lst (kvs.map (·.2))])
    | none => False
  | _ => False
noncomputable def sumI (ns : List Int) : Int := ns.foldl (· + ·) 0
noncomputable def pSum : List T → PH → WK → Prop := fun ts h k => match ts with
  | [x] => match seqOf x h with
    | some xs => match intsOf xs with
      | some ns => k (.int (sumI ns)) h
      | none => False
    | none => False
  | _ => False
noncomputable def blsOf : List T → Option (List Bool)
  | [] => some []
  | .bl i :: r => (blsOf r).map (i :: ·)
  | _ => none
noncomputable def pAny : List T → PH → WK → Prop := fun ts h k => match ts with
  | [x] => match seqOf x h with
    | some xs => match blsOf xs with
      | some bs => k (.bl (bs.any id)) h
      | none => False
    | none => False
  | _ => False
noncomputable def enumL : Nat → List T → List T
  | _, [] => []
  | i, x :: xs => .tup [.int (i : Int), x] :: enumL (i + 1) xs
noncomputable def wEnum (wa : WA) : WI := fun env h k => wa env h fun ts h1 => match ts with
  | [.ref n] => match seqOf (.ref n) h1 with
    | some xs => k (enumL 0 xs) (fun h' => seqOf (.ref n) h' = some xs) h1
    | none => False
  | _ => False
noncomputable def wIsi2 (c d : String) (wa : WE) : WE := fun env h k => wa env h fun x h1 => match tyN x h1 with
  | some s => k (.bl (isSub s c || isSub s d)) h1
  | none => False
noncomputable def pSlA (x : T) (lo hi : Option Int) (h : PH) (k : WK) : Prop := match x with
  | .ref n => match lstOf h n with
    | some xs => k (.ref h.length) (h ++ [.lst (cutT xs lo hi)])
    | none => False
  | .tup xs => k (.tup (cutT xs lo hi)) h
  | _ => False
noncomputable def compG (chk : PH → Prop) (js : List Nat) (g : WG) (wc : WT) (we : WE) (env : En) (k : WK) : List T → List T → PH → Prop
  | [], acc, h => acc.length ≤ sizeLine ∧ k (.ref h.length) (h ++ [.lst acc])
  | x :: xs, acc, h => acc.length < sizeLine ∧ ∃ N : List T → PH → Prop, (∀ acc' h', N acc' h' → chk h' ∧ compG chk js g wc we env k xs acc' h') ∧
    g x (clrE js env) h fun env2 h2 => wc env2 h2 fun b h3 => if b = true then we env2 h3 fun v h4 => N (acc ++ [v]) h4 else N acc h3
noncomputable def wComp2 (wi : WI) (i j : Nat) (wc : WT) (we : WE) : WE := fun env h k => wi env h fun xs chk h1 => compG chk [i, j] (gTp 2 (gsCons (gN i) (gsCons (gN j) gsNil))) wc we env k xs [] h1
end Pu
set_option Elab.async false
set_option linter.all false
set_option maxRecDepth 100000
namespace Pu
open PySem PySem.Spec PyProof.Rows L2
section
variable {X : Cx} {K : PySem.W.Frag}
end
end Pu
set_option Elab.async false
set_option linter.all false
set_option maxRecDepth 100000
namespace Pu
open PySem PySem.Spec PyProof.Rows L2
section
variable {X : Cx} {K : PySem.W.Frag}
end
end Pu
set_option Elab.async false
set_option linter.all false
set_option maxRecDepth 100000
namespace ZP
open PySem PySem.Spec PyProof.Rows L2 Pu
end ZP
set_option Elab.async false
set_option linter.all false
set_option maxRecDepth 100000
namespace Pu
open PySem PySem.Spec PyProof.Rows L2
section
variable {X : Cx} {K : PySem.W.Frag}
theorem oe_glob {x : Str} {n : Int} {pos : Pos} (M : ∃ t, X.mg x = some (.int n t)) (hg : Gl X x := by rfl) (hd : (x == ("__debug__" : Str)) = false := by decide) : OE X (.Name x pos) (wC (.int n)) := by
  obtain ⟨t, M⟩ := M
  exact PE.imp (pe_glob (v := .int n) hg M ⟨t, rfl⟩ hd) fun σ H Q ⟨m, env, h, k, r, en, w, af⟩ => af (.int n) h m H (.int n) .refl r (.int n) w
theorem isinst_tup {pins : List (Addr × Obj)} {σ : St} {H : Hp} {s : Shared} {A : Around} {E : Value → Shared → Prop} {Q : Value → Shared → Prop} {x : V} {u t : Value} {b : Bool} {tp : Addr} {dd : Option Addr} {its : List Value} {n : Nat} {sl : Array (Option Value)} (I : Inv X pins σ H s) (rx : RelV x u) (ty : TyOf X.K H x t) (htp : s.heap.get? tp = some ⟨.type "tuple", dd, .seq its.toArray n, sl⟩)
    (e : PySem.W.kitAny X.K t its = some b) (h : ∀ tk, Q (.bool b) { s with toks := tk }) : wpAny (model X.prog X.w) A (call (.builtin "isinstance") [u, .ref tp]) Q E s := by
  cases ty with
  | non => cases (show u = Value.none from rx); exact PySem.W.kia_tup PySem.W.kitx_none I.kIn True.intro htp e (fun z => nomatch z) h
  | bl y => cases (show u = Value.bool y from rx); exact PySem.W.kia_tup PySem.W.kitx_bool I.kIn True.intro htp e (fun z => nomatch z) h
  | int i => obtain ⟨t, q⟩ := (show ∃ t, u = Value.int i t from rx); cases q; exact PySem.W.kia_tup PySem.W.kitx_int I.kIn True.intro htp e (fun z => nomatch z) h
  | str y => obtain ⟨t, q⟩ := (show ∃ t, u = Value.str y t from rx); cases q; exact PySem.W.kia_tup PySem.W.kitx_str I.kIn True.intro htp e (fun z => nomatch z) h
  | flt y => obtain ⟨t, q⟩ := (show ∃ t, u = Value.float y t from rx); cases q; exact PySem.W.kia_tup PySem.W.kitx_float I.kIn True.intro htp e (fun z => nomatch z) h
  | @lst a xs ea =>
    cases (show u = Value.ref a from rx)
    obtain ⟨_, _, n, _, h1⟩ := (show ObjOk X.prog X.w H s.heap a (.lst xs) from I.hok a _ ea)
    exact PySem.W.kia_tup PySem.W.kitx_list I.kIn ⟨_, h1, rfl⟩ htp e (fun z => nomatch z) h
  | @frz a ob xs ea =>
    cases (show u = Value.ref a from rx)
    obtain ⟨_, _, _, n, _, h1⟩ := (show ObjOk X.prog X.w H s.heap a (.frz ob (.lst xs)) from I.hok a _ ea)
    exact PySem.W.kia_tup PySem.W.kitx_list I.kIn ⟨_, h1, rfl⟩ htp e (fun z => nomatch z) h
  | @tup a xs ea =>
    cases (show u = Value.ref a from rx)
    obtain ⟨_, _, _, p, _⟩ := (show ObjOk X.prog X.w H s.heap a (.tup xs) from I.hok a _ ea)
    obtain ⟨o, h1, h2, _⟩ := p
    exact PySem.W.kia_tup PySem.W.kitx_tuple I.kIn ⟨o, h1, h2⟩ htp e (fun z => nomatch z) h
  | @dK a kvs ea =>
    cases (show u = Value.ref a from rx)
    obtain ⟨_, _, vs, _, p⟩ := (show ObjOk X.prog X.w H s.heap a (.dK kvs) from I.hok a _ ea)
    obtain ⟨o, es, ep, h1, h2, _⟩ := p
    exact PySem.W.kia_tup PySem.W.kitx_dict I.kIn ⟨o, h1, h2.1⟩ htp e (fun z => nomatch z) h
  | @dT a kvs ea =>
    cases (show u = Value.ref a from rx)
    obtain ⟨_, _, xs, _, o, es, ep, h1, h2, _⟩ := (show ObjOk X.prog X.w H s.heap a (.dT kvs) from I.hok a _ ea)
    exact PySem.W.kia_tup PySem.W.kitx_dict I.kIn ⟨o, h1, h2.1⟩ htp e (fun z => nomatch z) h
  | @ins a C dx fs ea cl ha hn htk hm =>
    cases (show u = Value.ref a from rx)
    obtain ⟨mA, O, _⟩ := ins_get I.hok ea
    obtain ⟨od, J, _⟩ := O.look
    exact PySem.W.kia_tup (PySem.W.kitx_own (cl.get _) cl.hd ha hn htk hm) I.kIn J htp e (fun z => nomatch z) h
noncomputable def rIsiT (K : PySem.W.Frag) : List V → Hp → VK → Prop := fun xs H Q => ∃ v a c d t b, xs = [v, .ref a] ∧ H a = some (.tup [.ty c, .ty d]) ∧ TyOf K H v t ∧ PySem.W.kitAny K t [.type c, .type d] = some b ∧ Q (.bl b) H
theorem call_isiT : CallR X (.builtin "isinstance") (rIsiT X.K) := by
  intro pins s σ H xs us Q I r ⟨v, a, c, d, t, b, e0, ha, ty, e, q⟩
  subst e0
  obtain ⟨u, w', rfl, ru, rc⟩ := vals2 r
  cases rc
  obtain ⟨z, its, rv, ⟨⟨cls, dd, data, sl⟩, ho, hc, n, hd⟩, _⟩ := (show ObjOk X.prog X.w H s.heap a (.tup [.ty c, .ty d]) from I.hok a _ ha)
  simp only at hc hd
  subst hc hd
  obtain ⟨u1, u2, rfl, r1, r2⟩ := vals2 rv
  cases r1
  cases r2
  exact isinst_tup I ru ty ho e fun tk => ⟨.bl b, H, I.tok _, rfl, q⟩
theorem kit_two {s c d : String} (hs : s ∈ ["NoneType", "bool", "int", "str", "tuple", "list", "dict"]) (hc : c ∈ ["bool", "int", "str", "tuple", "list"]) (hd : d ∈ ["bool", "int", "str", "tuple", "list"]) : PySem.W.kitAny K (.type s) [.type c, .type d] = some (isSub s c || isSub s d) := by
  unfold PySem.W.kitAny
  rw [kit_tab hs hc]
  cases isSub s c with
  | true => rfl
  | false =>
    simp only [Bool.false_or]
    unfold PySem.W.kitAny
    rw [kit_tab hs hd]
    cases isSub s d <;> rfl
theorem oe_isi2 {a : Expr} {wa : WE} {cn dn : Str} {p p2 p3 pt pos : Pos} {kt : Nat} (c d : String) (hm : X.mg "isinstance" = none) (hmc : X.mg cn = none) (hmd : X.mg dn = none) (ha : OE X a wa) (hc : c ∈ ["bool", "int", "str", "tuple", "list"] := by simp) (hd : d ∈ ["bool", "int", "str", "tuple", "list"] := by simp)
    (hv : bootBuiltins cn = some (.type c) := by rfl) (hv2 : bootBuiltins dn = some (.type d) := by rfl) (hg : Gl X "isinstance" := by rfl) (hgc : Gl X cn := by rfl) (hgd : Gl X dn := by rfl) (hn : cn ≠ "__name__" := by decide) (hn2 : dn ≠ "__name__" := by decide) (hdb : (cn == ("__debug__" : Str)) = false := by decide) (hdb2 : (dn == ("__debug__" : Str)) = false := by decide)
    (hs : starEach [a, .Tuple [.Name cn p2, .Name dn p3] kt pt] X.env = (false, eval a X.env) :: starEach [.Tuple [.Name cn p2, .Name dn p3] kt pt] X.env := by rfl) : OE X (.Call (.Name "isinstance" p) [a, .Tuple [.Name cn p2, .Name dn p3] kt pt] [] pos) (wIsi2 c d wa) :=
  PE.imp (pe_callB call_isiT hg hm (by rfl) (pa_cons ha (pa_cons (pe_tup (pa_cons (pe_bltn (v := .ty c) hgc hmc hv rfl hn hdb) (pa_cons (pe_bltn (v := .ty d) hgd hmd hv2 rfl hn2 hdb2) pa_nil))) pa_nil) hs) (by decide) (by decide) hs) fun σ H Q ⟨m, env, h, k, rp, en, w, af⟩ =>
    ⟨m, env, h, _, rp, en, w, fun x h1 m1 H1 v u1 r1 dd q1 => by
      cases e : tyN x h1 with
      | none => simp only [e] at q1
      | some s =>
        simp only [e] at q1
        refine ⟨by show 2 ≤ sizeLine; decide, fun t ht => ?_⟩
        have u2 : Up m1 H1 m1 (upd H1 t (.tup [.ty c, .ty d])) := .newTup ht
        obtain ⟨ty, hs⟩ := tyOf_of (r1.tup (x := .tup [.ty c, .ty d]) ht) (dd.up u2) e
        exact ⟨v, t, c, d, .type s, _, rfl, upd_same, ty, kit_two hs hc hd, af _ h1 m1 _ _ (u1.trans u2) (r1.tup ht) (.bl _) q1⟩⟩
end
end Pu
set_option Elab.async false
set_option linter.all false
set_option maxRecDepth 100000
namespace L2
open PySem PySem.Spec PyProof.Rows
structure CompOkC (X : Cx) (scope : Scope) (js : List Nat) (y : Str) : Prop where
  kind : scope.kind = .function
  one : scope.names.filter (fun z => z.2 == .cell) = [(y, .cell)]
  names : ∀ z ∈ scope.names, z.2 = .local → scope.names.lookup z.1 = some .local
  fr : ∀ z ∈ scope.names, z.2 = .free → X.env.kindOf z.1 = some .cell ∨ X.env.kindOf z.1 = some .free
  frn : ∀ z ∈ scope.names, z.2 = .free → z.1 ≠ y
  loc : ∀ (i : Nat) x, X.N[i]? = some x → scope.names.lookup x = some .local ∨ scope.names.lookup x = some .cell → i ∈ js
section
variable {X : Cx} {pins : List (Addr × Obj)} {σ : St} {H₂ : Hp} {s₂ : Shared} {scope : Scope} {js : List Nat} {cl : List (Str × Addr)} {fp : List Addr} {C D Cc : Addr} {y : Str}
end
section
variable {X : Cx} {scope : Scope} {y0 : Str} {js : List Nat} {tg elt iter : Expr} {ifs : List Expr} {wi : TI} {g : TG} {tc : TT} {te : TE} {pos : Pos}
end
end L2
set_option Elab.async false
set_option linter.all false
set_option maxRecDepth 100000
namespace Pu
open PySem PySem.Spec PyProof.Rows L2
section
variable {X : Cx} {pos : Pos}
end
end Pu
set_option Elab.async false
set_option linter.all false
set_option maxRecDepth 100000
namespace Pu
open PySem PySem.Spec PyProof.Rows L2
section
variable {X : Cx} {pos : Pos}
end
end Pu
set_option Elab.async false
set_option linter.all false
set_option maxRecDepth 100000
namespace Pu
open PySem PySem.Spec PyProof.Rows L2
theorem getItem_tuple_whole {prog : Program} {w : World} {A : Around} {E : Value → Shared → Prop} {s : Shared} {t sl : Addr} {items : Array Value} {vl vu : Value} {lo hi : Option Int} {Q : Value → Shared → Prop} (ht : IsTup s.heap t items) (hs : s.heap.IsSliceOf sl vl vu .none) (pl : IsPart vl lo) (pu : IsPart vu hi)
    (h0 : HT.sIx items.size 0 lo = 0) (h1 : HT.sIx items.size items.size hi = items.size) (h : Q (.ref t) s) : wpAny (model prog w) A (getItem (.ref t) (.ref sl)) Q E s := by
  obtain ⟨os, hos, hcs, hds⟩ := id hs
  have hTs : s.TypeIs (.ref sl) "slice" := ⟨os, hos, hcs⟩
  unfold getItem
  try with_reducible refine wpAny_holding ?_
  first | refine wpAny_bind (wpAny_pure ?_) | skip
  refine wpAny_bind (wpAny_sequenceKey ht.typeIs (by decide) ?_)
  refine wpAny_bind (wpAny_callSpecial?_slot (name := Str.ofString "__getitem__") ht.typeIs PyProof.Rows.slot_tuple_getitem
    (wpAny_call_entry PyProof.Rows.slot_tuple_getitem ht.typeIs PySem.F.entry_tuple_getitem ?_ (PySem.F.args_tuple_getitem_2 _ _)))
  show wpAny _ _ (Builtin.Tuple.tupleItemsOf (.ref t) >>= _) _ _ s
  refine wpAny_bind (tupleItemsOf_ ht ?_)
  refine wpAny_bind (wpAny_typeOf hTs ?_)
  rw [if_pos (by decide)]
  refine wpAny_bind (HT.sliceApplied_gen hs pl pu ?_)
  rw [h0, h1]
  simp only [Nat.sub_zero]
  show wpAny _ _ (if ((((0 : Nat) : Int)) == 0 && (1 : Int) == 1 && items.size == items.size) = true then _ else _) _ _ s
  rw [if_pos (by simp)]
  refine wpAny_bind ?_
  unfold Builtin.Tuple.tupleIsExact
  refine wpAny_bind (wpAny_typeOf ht.typeIs (wpAny_pure ?_))
  rw [if_pos (by decide)]
  exact wpAny_bind (wpAny_rule (wpAny_pure ⟨_, rfl, wpAny_pure h⟩))
section
variable {X : Cx} {K : PySem.W.Frag}
noncomputable def rSlW (K : PySem.W.Frag) : V → Option Int → Option Int → Hp → VK → Prop := fun x lo hi H Q => ∃ a xs, x = .ref a ∧ SqT K H a xs ∧ HT.sIx xs.length 0 lo = 0 ∧ HT.sIx xs.length xs.length hi = xs.length ∧ Q (.ref a) H
theorem sl_whole : SlR X (rSlW X.K) := by
  intro pins s σ H x v vl vu lo hi sl Q I rx hs pl pu z
  obtain ⟨a, xs, rfl, hx, h0, h1, q⟩ := z
  cases rx
  obtain ⟨its, r, ht, hz⟩ := I.tuple hx
  have hlen : its.toArray.size = xs.length := by rw [List.size_toArray]; exact r.length.symm
  refine ⟨"tuple", _, PyProof.Rows.slot_tuple_getitem.lookup, ht.typeIs, ?_⟩
  exact getItem_tuple_whole ht hs pl pu (by rw [hlen]; exact h0) (by rw [hlen]; exact h1) ⟨.ref a, H, I, rfl, q⟩
noncomputable def rSlB (K : PySem.W.Frag) : V → Option Int → Option Int → Hp → VK → Prop := fun x lo hi H Q => rSlL K x lo hi H Q ∨ (rSlT K x lo hi H Q ∨ rSlW K x lo hi H Q)
theorem sl_B : SlR X (rSlB X.K) := sl_list.or (sl_tup.or sl_whole)
theorem i_slA : ∀ m h H x vx l u k Q, Rep K m h H → Den H m x vx → pSlA x l u h k → Aft K m H k Q → rSlB K vx l u H Q := fun m h H x vx l u k Q r d w af => by
  cases d with
  | @ref n a hn => exact .inl (i_slL m h H (.ref n) (.ref a) l u k Q r (.ref hn) w af)
  | @tup a ts vs hv ds =>
    have w : k (.tup (cutT ts l u)) h := w
    have hl := ds.length
    by_cases hw : HT.sIx vs.length 0 l = 0 ∧ HT.sIx vs.length vs.length u = vs.length
    · refine .inr (.inr ⟨a, vs, rfl, .of hv, hw.1, hw.2, af _ h m H _ .refl r (.tup hv ?_) w⟩)
      have e : cutT ts l u = ts := by
        unfold cutT
        rw [hl, hw.1, hw.2, ← hl]
        simp
      rw [e]
      exact ds
    · refine .inr (.inl ⟨a, vs, rfl, .of hv, hw, fun p hp => af _ h m _ _ (.newTup hp) (r.tup hp) (.tup upd_same ?_) w⟩)
      refine Dens.up (.newTup hp) ?_
      unfold cutT cutV
      rw [hl]
      exact (ds.drop _).take _
  | _ => exact (show False from w).elim
end
end Pu
set_option Elab.async false
set_option linter.all false
set_option maxRecDepth 100000
namespace Pu
open PySem PySem.Spec PyProof.Rows L2 PySem.W
section
variable {prog : Program} {w : World} {A : Around} {E : Value → Shared → Prop} {s : Shared}
end
section
variable {X : Cx} {K : PySem.W.Frag}
end
end Pu
set_option Elab.async false
set_option linter.all false
namespace Pu
open PySem
section
variable {env : Env} {es : List Expr} {p : Pos} {a b c : Expr}
theorem sr_Constant {v : Const} {k : Nat} : starEach (.Constant v k p :: es) env = (false, eval (.Constant v k p) env) :: starEach es env := rfl
theorem sr_Name {x : Str} : starEach (.Name x p :: es) env = (false, eval (.Name x p) env) :: starEach es env := rfl
theorem sr_BinOp {o : Operator} : starEach (.BinOp a o b p :: es) env = (false, eval (.BinOp a o b p) env) :: starEach es env := rfl
theorem sr_UnaryOp {o : UnaryOp} : starEach (.UnaryOp o a p :: es) env = (false, eval (.UnaryOp o a p) env) :: starEach es env := rfl
theorem sr_Compare {os : List CmpOp} {xs : List Expr} : starEach (.Compare a os xs p :: es) env = (false, eval (.Compare a os xs p) env) :: starEach es env := rfl
theorem sr_Call {xs : List Expr} {ks : List Keyword} : starEach (.Call a xs ks p :: es) env = (false, eval (.Call a xs ks p) env) :: starEach es env := rfl
theorem sr_List {xs : List Expr} : starEach (.List xs p :: es) env = (false, eval (.List xs p) env) :: starEach es env := rfl
theorem sr_Dict {ks : List (Option Expr)} {xs : List Expr} : starEach (.Dict ks xs p :: es) env = (false, eval (.Dict ks xs p) env) :: starEach es env := rfl
end
end Pu
set_option Elab.async false
set_option linter.all false
set_option maxRecDepth 100000
namespace Pu
open PySem L2
end Pu
set_option Elab.async false
set_option linter.all false
set_option maxRecDepth 100000
namespace Pu
open PySem PySem.Spec PyProof.Rows L2
section
variable {X : Cx} {K : PySem.W.Frag} {pos : Pos}
end
end Pu
set_option Elab.async false
set_option linter.all false
set_option maxRecDepth 100000
namespace Pu
open PySem PySem.Spec PyProof.Rows L2
section
variable {X : Cx} {K : PySem.W.Frag} {pos : Pos}
end
end Pu
set_option Elab.async false
set_option linter.all false
set_option maxRecDepth 100000
namespace Pu
open PySem PySem.Spec PyProof.Rows L2
end Pu
set_option Elab.async false
set_option linter.all false
set_option maxRecDepth 100000
namespace Pu
open PySem PySem.Spec PyProof.Rows L2
section
variable {prog : Program} {w : World} {A : Around} {E : Value → Shared → Prop} {s : Shared}
end
end Pu
set_option Elab.async false
set_option linter.all false
set_option maxRecDepth 100000
namespace Pu
open PySem PySem.Spec PyProof.Rows L2
section
variable {prog : Program} {w : World} {A : Around} {E : Value → Shared → Prop} {s : Shared}
end
end Pu
set_option Elab.async false
set_option linter.all false
set_option maxRecDepth 100000
namespace Pu
open PySem PySem.Spec PyProof.Rows L2
section
variable {prog : Program} {w : World} {A : Around} {E : Value → Shared → Prop} {s : Shared}
end
end Pu
set_option Elab.async false
set_option linter.all false
set_option maxRecDepth 100000
namespace Pu
open PySem PySem.Spec PyProof.Rows L2
section
variable {prog : Program} {w : World} {A : Around} {E : Value → Shared → Prop} {s : Shared}
end
end Pu
set_option Elab.async false
set_option linter.all false
set_option maxRecDepth 100000
namespace Pu
open PySem PySem.Spec PyProof.Rows L2
section
variable {prog : Program} {w : World} {A : Around} {E : Value → Shared → Prop} {s : Shared}
end
end Pu
set_option Elab.async false
set_option linter.all false
set_option maxRecDepth 100000
namespace Pu
open PySem PySem.Spec PyProof.Rows L2
section
variable {prog : Program} {w : World} {A : Around} {E : Value → Shared → Prop} {s : Shared}
end
section
variable {X : Cx} {K : PySem.W.Frag} {pos : Pos}
end
end Pu
set_option Elab.async false
set_option linter.all false
set_option maxRecDepth 100000
namespace Pu
open PySem PySem.Spec PyProof.Rows L2
section
variable {X : Cx} {K : PySem.W.Frag} {pos : Pos}
end
end Pu
set_option Elab.async false
set_option linter.all false
set_option maxRecDepth 100000
namespace Pu
open PySem PySem.Spec PyProof.Rows L2
section
variable {X : Cx} {K : PySem.W.Frag} {pos p2 : Pos} {e st : Expr}
end
end Pu
set_option Elab.async false
set_option linter.all false
namespace Pu
open PySem L2
end Pu
set_option Elab.async false
set_option linter.all false
set_option maxRecDepth 100000
namespace Pu
open PySem PySem.Spec PyProof.Rows L2
section
variable {X : Cx} {K : PySem.W.Frag}
end
end Pu
set_option Elab.async false
set_option linter.all false
namespace Pu
open PySem L2
end Pu
set_option Elab.async false
set_option linter.all false
set_option maxRecDepth 100000
namespace Pu
open PySem PySem.Spec PyProof.Rows L2
section
variable {X : Cx} {K : PySem.W.Frag}
end
end Pu
set_option Elab.async false
set_option linter.all false
set_option maxRecDepth 100000
namespace Pu
open PySem L2
end Pu
set_option Elab.async false
set_option linter.all false
set_option maxRecDepth 100000
namespace Pu
open PySem PySem.Spec PyProof.Rows L2
section
variable {X : Cx} {K : PySem.W.Frag}
end
end Pu
namespace Pu
open PySem L2
noncomputable abbrev CPX := List T → PH → WK → (Str → List T → PH → Prop) → Prop
noncomputable def wDisp1 (k v : Int) : WE := fun _ h K => K (.ref h.length) (h ++ [.dK [(Sum.inl k, .int v)]])
end Pu
set_option Elab.async false
set_option linter.all false
set_option maxRecDepth 100000
namespace Pu
open PySem PySem.Spec PyProof.Rows L2
theorem ObjOk.there {P : Program} {w : World} {H : Hp} {h : Heap} {a : Addr} {o : HO} (x : ObjOk P w H h a o) : ∃ u, h.get? a = some u := by
  cases o with
  | lst xs => obtain ⟨_, _, _, _, e⟩ := x; exact ⟨_, e⟩
  | tup xs => obtain ⟨_, _, _, ⟨ob, e, _⟩, _⟩ := x; exact ⟨_, e⟩
  | dK kvs => obtain ⟨_, _, _, _, o, _, _, e, _⟩ := x; exact ⟨_, e⟩
  | dT kvs => obtain ⟨_, _, _, _, o, _, _, e, _⟩ := x; exact ⟨_, e⟩
  | set S n => obtain ⟨o, _, _, _, e, _⟩ := x; exact ⟨_, e⟩
  | ins C dx fs => obtain ⟨_, _, _, e, _⟩ := x; exact ⟨_, e⟩
  | own y => exact x
  | xd fs => obtain ⟨_, ⟨_, _, _, e, _⟩, _⟩ := x; exact ⟨_, e⟩
  | rng lo hi => obtain ⟨_, _, _, e⟩ := x; exact ⟨_, e⟩
  | frz ob u => exact ⟨_, x.1⟩
  | tbl ps => exact ⟨_, x⟩
  | met f y => exact ⟨_, x⟩
  | ext φ => exact x.2.1
theorem hok_none {P : Program} {w : World} {H : Hp} {h : Heap} {a : Addr} (x : HOk P w H h) (e : h.get? a = none) : H a = none := by
  cases q : H a with
  | none => rfl
  | some u =>
    obtain ⟨o, z⟩ := ObjOk.there (x a u q)
    rw [e] at z; cases z
noncomputable def CX1 (P : Program) (w : World) : CXT := fun outer H s E e s' => ∃ (ea C : Addr) (a0 : Value) (H' : Hp) (B : Heap), e = .ref ea ∧ s'.os = s.os ∧ AllBare s'.gens ∧ Un (frs outer) [] H H' s.heap s'.heap ∧ HOk P w H' s'.heap ∧
  Heap.FlyingW B outer ea (.ref C) a0 s'.heap ∧ (∀ b o, s'.heap.get? b = some o → B.get? b = some o ∨ b ∈ frs outer ∨ (s.heap.get? b = none ∧ H' b = none)) ∧ s.heap.get? ea = none ∧ H' ea = none ∧ E (.ref C) none H'
section
variable {P : Program} {w : World} {K : PySem.W.Frag} {mg : Str → Option Value} {base : Heap} {N : List Str} {qual : Str} {scope : Scope} {f : Addr} {cd : Value} {A : Around} {outer : List Env} {s₀ : Shared} {H₀ : Hp} {E : XK}
theorem xe_new {pins : List (Addr × Obj)} {σ : St} {H : Hp} {s s' : Shared} {e : Addr} {c : Str} {vs : List V} (I : Inv (cxOf (CX1 P w) P w K mg base N qual scope f cd A outer s₀ H₀ E) pins σ H s) (hos : s'.os = s.os) (hg : AllBare s'.gens)
    (M : MadeX K s.heap s'.heap e c vs) (hE : ∀ C, PySem.W.nsIn K mainGlobals c = some (some (.ref C)) → E (.ref C) none H) : (cxOf (CX1 P w) P w K mg base N qual scope f cd A outer s₀ H₀ E).xe (.ref e) s' := by
  obtain ⟨-, C, args, hC, M⟩ := M
  have fr : s.heap.FunFrames base (envOfC qual scope s₀.heap.objs.size f cd :: outer) := I.stack
  have hin : ∀ env ∈ (envOfC qual scope s₀.heap.objs.size f cd :: outer), ∀ b, env.frame = some b → b ∈ frs (envOfC qual scope s₀.heap.objs.size f cd :: outer) := fun env he b hb => List.mem_filterMap.mpr ⟨env, he, hb⟩
  have efr : frs (envOfC qual scope s₀.heap.objs.size f cd :: outer) = s₀.heap.objs.size :: frs outer := rfl
  have stk : ∀ b ∈ frs (envOfC qual scope s₀.heap.objs.size f cd :: outer), H b = none := I.stkFree
  have base0 : Un (frs outer) [] H₀ H s₀.heap s.heap := I.base
  have en0 : s₀.heap.get? e = none := by
    cases q : s₀.heap.get? e with
    | none => rfl
    | some o =>
      obtain ⟨o', z⟩ := base0.there e o q (by simp)
      rw [M.new] at z; cases z
  refine wpAny_leaves_madeW (base := PySem.W.hideAll s.heap (frs (envOfC qual scope s₀.heap.objs.size f cd :: outer))) I.ok.frames rfl (fun b o q => PySem.W.of_hideAll _ q) (PySem.W.funFrames_hide fr hin) M fun h' t fl tp tn up => ?_
  have keep : ∀ b o, b ∉ frs (envOfC qual scope s₀.heap.objs.size f cd :: outer) → s.heap.get? b = some o → h'.get? b = some o := fun b o hb q => fl.1 b o (PySem.W.hideAll_get _ q hb)
  have slot : ∀ b o, b ∈ frs (envOfC qual scope s₀.heap.objs.size f cd :: outer) → s.heap.get? b = some o → ∃ sl, h'.get? b = some { o with slots := sl } := fun b o hb q => by
    obtain ⟨_, o', ho', hd⟩ := fr.mem hb
    rw [q] at ho'; cases ho'
    exact up b o (M.keeps b o q) hd
  refine ⟨e, C, .ref t, H, _, rfl, hos.trans I.os, hg, ⟨fun b o q n hb hx => ?_, fun b o q n hb hx => ?_, base0.free, fun b o q hx => ?_, base0.tups, base0.frzs, base0.tbls⟩, fun a o ha => ?_, fl, fun b o q => ?_, en0, hok_none I.hok M.new, hE C hC⟩
  · refine keep b o (fun z => ?_) (base0.keep b o q n hb hx)
    rw [efr] at z
    rcases List.mem_cons.mp z with z | z
    · exact absurd (Heap.lt_size q) (by rw [z]; exact Nat.lt_irrefl _)
    · exact hb z
  · obtain ⟨sl, z⟩ := base0.slot b o q n hb hx
    obtain ⟨sl2, y⟩ := slot b _ (by rw [efr]; exact List.mem_cons_of_mem _ hb) z
    exact ⟨sl2, y⟩
  · obtain ⟨o', z⟩ := base0.there b o q hx
    by_cases hb : b ∈ frs (envOfC qual scope s₀.heap.objs.size f cd :: outer)
    · obtain ⟨sl, y⟩ := slot b o' hb z
      exact ⟨_, y⟩
    · exact ⟨_, keep b o' hb z⟩
  · refine ObjOk.stay (I.hok a o ha) (fun b u hb q => keep b u (fun z => ?_) q) (fun _ z => z) fun _ _ z => z
    have := stk b z
    rcases hb with rfl | hb
    · rw [ha] at this; cases this
    · rw [hb] at this; cases this
  · cases z : s.heap.get? b with
    | none =>
      refine .inr (.inr ⟨?_, hok_none I.hok z⟩)
      cases y : s₀.heap.get? b with
      | none => rfl
      | some o' =>
        obtain ⟨o2, x⟩ := base0.there b o' y (by simp)
        rw [z] at x; cases x
    | some o' =>
      by_cases hb : b ∈ frs (envOfC qual scope s₀.heap.objs.size f cd :: outer)
      · rw [efr] at hb
        rcases List.mem_cons.mp hb with y | y
        · refine .inr (.inr ⟨?_, ?_⟩)
          · rw [y]; exact Heap.get?_none_of_le (Nat.le_refl _)
          · exact stk b (by rw [efr]; exact hb)
        · exact .inr (.inl y)
      · have := keep b o' hb z
        rw [q] at this; cases this
        exact .inl (PySem.W.hideAll_get _ z hb)
end
noncomputable def AftX (K : PySem.W.Frag) (m : List Addr) (H : Hp) (x : Str → List T → PH → Prop) (E : XK) : Prop := ∀ c ts C h' m' H', Up m H m' H' → Rep K m' h' H' → PySem.W.nsIn K mainGlobals c = some (some (.ref C)) → x c ts h' → E (.ref C) none H'
noncomputable def spOfX (K : PySem.W.Frag) (cp : CPX) : Sp := fun vs H Q E => ∃ m h ts k x, Rep K m h H ∧ Dens H m ts vs ∧ cp ts h k x ∧ Aft K m H k Q ∧ AftX K m H x E
theorem def_okX {P : Program} {w : World} {K : PySem.W.Frag} {mg : Str → Option Value} {base : Heap} {x qual : Str} {st : Stmt} {f : Addr} {fd : FuncData} {N ps : List Str} {n : Nat} {cp : CPX} (F : Fun K x qual st f fd) (S : FnScope N ps (defScope st)) (len : ∀ ts h k y, cp ts h k y → ts.length = ps.length)
    (hbody : ∀ (cdv : Value) (A : Around) (outer : List Env) (s : Shared) (H : Hp) (E : XK), Room n (A.deeper (envOfC qual (defScope st) s.heap.objs.size f cdv)) →
      ∃ t, OSs (cxOf (CX1 P w) P w K mg base N qual (defScope st) f cdv A outer s H E) (defBody st) t ∧ ∀ ts h k y, cp ts h k y → t { nx := fun _ h' => k .non h', rt := k, ex := y } (begin_ N.length ts) h) : FnOk P w K mg base (CX1 P w) (n + 1) f fd ps (spOfX K cp) := by
  obtain ⟨oc, od, kV, doc, pm, an, cdv, ct, osl, rfl, lk, hcd⟩ := F.ex
  refine fn_of lk hcd S (fun vs H Q E ⟨m, h, ts, k, y, rp, ds, c, af, ax⟩ => by rw [← ds.length]; exact len ts h k y c) fun A outer s H vs Q E hr hsp => ?_
  obtain ⟨m, h, ts, k, y, rp, ds, c, af, ax⟩ := hsp
  obtain ⟨t, ht, hq⟩ := hbody cdv A outer s H E hr
  refine ⟨_, ht, m, begin_ N.length ts, h, _, rp, .begin ds, hq ts h k y c, ⟨fun env h' m' H' σ u r en q => af .non h' m' H' .non u r .non q, af, fun _ _ _ _ _ _ _ _ q => q.elim, fun _ _ _ _ _ _ _ _ q => q.elim, ?_⟩⟩
  exact fun c ts vs h' m' H' u r d q pins σ s s' e I os bare M => xe_new I os bare M fun C hC => ax c ts C h' m' H' u r hC q
noncomputable abbrev excVal : List Value := [.type "ValueError", .type "Exception", .type "BaseException", .type "object"]
theorem own_obj {K : PySem.W.Frag} {h : Heap} {C : Addr} {bmB : List Value} {nid : String} (X : K.In h) (q : PySem.W.excIn K C bmB nid = true) :
    ∃ bm N nm qn bs hd sn sub ab col dd k0 k1 k2 k3 k5 mN, h.get? C = some (excClassObj nm qn C N bs bm hd sn sub ab col dd k0 k1 k2 k3 k5 nid) ∧ h.Ns N mN ∧ mN "__init__" = none ∧ OwnTail h bmB bm := by
  unfold PySem.W.excIn at q
  cases e : K.lookup C with
  | none => rw [e] at q; cases q
  | some o =>
    rw [e] at q
    have ho := X _ _ e
    obtain ⟨oc, od, da, sl⟩ := o
    split at q
    · rename_i dy cl sy hy
      cases hy
      obtain ⟨nm, bs, mro, ns, qn, hd, sn, sub, ab, col, del⟩ := cl
      dsimp only at q
      split at q
      · rename_i c2 bm k0 k1 k2 k3 n2 k5 hs
        simp only [Bool.and_eq_true, beq_iff_eq, Bool.not_eq_true'] at q
        obtain ⟨⟨⟨⟨⟨q1, q2⟩, q3⟩, q4⟩, q5⟩, q6⟩ := q
        subst q1 q2 q3
        obtain ⟨sl⟩ := sl
        have hs : sl = _ := hs
        subst hs
        exact ⟨bm, ns, nm, qn, bs, hd, sn, sub, ab, col, od, k0, k1, k2, k3, k5, _, ho, .of_isNs (PySem.W.isNs_of_in X q5), PySem.W.nsMap_none_of_in X q5 q6, PySem.W.tail_of_in X q4⟩
      · cases q
    · cases q
section
variable {X : Cx}
theorem s_raise {c : Str} {C : Addr} {bs : Str} {j : Nat} {np p0 cpos pos : Pos} (hcalm : X.calm = true) (hC : PySem.W.nsIn X.K mainGlobals c = some (some (.ref C))) (hq : PySem.W.excIn X.K C excVal "ValueError.__new__" = true) (hm : X.mg c = some (.ref C)) (hg : Gl X c := by rfl)
    (hd : (c == ("__debug__" : Str)) = false := by decide) : OS X (.Raise (some (.Call (.Name c np) [.Constant (.str bs) j p0] [] cpos)) none pos) (wRaise c) := by
  intro pins s σ H D I ⟨m, env, h, D', rp, en, w, af⟩
  have hx : XE X c [] H := af.xs c [] [] h m H .refl rp .nil w
  obtain ⟨bm, N, nm, qn, bs2, hdc, sn, sub, ab, col, dd, k0, k1, k2, k3, k5, mN, oC, oN, oi, oT⟩ := own_obj I.ok.mod.kin hq
  refine wpAny_Raise_call_subT (C := C) (nm := nm) (q := qn) (N := N) (bs := bs2) (bm := bm) (hdct := hdc) (sn := sn) (sub := sub) (ab := ab) (col := col) (dd := dd) (k0 := k0) (k1 := k1) (k2 := k2) (k3 := k3) (k5 := k5) PySem.F.excBase_ValueError (mN := mN) (oT.hasType PySem.F.excBase_ValueError.hasBase) (I.ok.hd hcalm) rfl oi (ld_glob I hg hm ⟨rfl, ?_⟩ hd)
  have ha : PA X [.Constant (.str bs) j p0] (tCons (tC (.str bs)) tNil) := pa_cons pe_str pa_nil
  have := ha cpos pins s σ H (fun vs H1 => vs.length = 1 ∧ H1 = H) I ⟨rfl, rfl⟩
  refine Calls.evalArgs_plain (wpAny_mono this (fun us s2 ⟨vs, H1, I2, r, q1, q2⟩ => ?_) fun _ _ y => y)
  subst q2
  refine ⟨rfl, by rw [← r.length, q1]; decide, I2.bk _ _ oC, oN.keeps I2.bk, oT.keeps I2.bk, fun h' e M => ?_⟩
  exact hx pins σ s2 { s2 with heap := h' } e I2 rfl I2.bare ⟨rfl, C, us, hC, M⟩
end
end Pu
set_option Elab.async false
set_option linter.all false
set_option maxRecDepth 100000
namespace Pu
open PySem PySem.Spec PyProof.Rows L2
section
variable {X : Cx} {pins : List (Addr × Obj)} {σ : St} {H : Hp} {s : Shared}
theorem name_goes {M : Model} {A : Around} {E : Value → Shared → Prop} {n : Str} {j : Nat} {pos : Pos} {Q : Unit → Shared → Prop} (I : Inv X pins σ H s) (hN : X.N.Nodup) (hj : X.N[j]? = some n) (hl : X.env.scope.names.lookup n = some .local)
    (h : ∀ s', Inv X pins (σ.set j none) H s' → Q () s') : wpAny M A (do bindName X.env n .none; unbindBehindTheSuite X.env n pos) Q E s := by
  refine wpAny_bind (wpAny_bindName (store_ok (v := .non) I hN hj (.inl hl) rfl (fun s1 I1 => ?_) (.inr hl)))
  obtain ⟨m, hn, hv⟩ := id I1.loc
  have hjs : j < σ.length := by rw [I.len]; exact (List.getElem?_eq_some_iff.mp hj).1
  have hc : (X.env.scope.kind == .class || (X.env.scope.kind == .module && X.env.locals != X.env.globals)) = false := by rw [I.ok.kind]; rfl
  obtain ⟨u, ru, q⟩ := hv j n .non hj (List.getElem?_set_self hjs) (.inl hl)
  have hk : X.env.kindOf n = some .local := hl
  have hmn : m n = some u := by
    rcases q with ⟨_, e⟩ | ⟨k, _⟩
    · exact e
    · rw [hk] at k
      rcases k with k | k <;> cases k
  unfold unbindBehindTheSuite
  refine wpAny_onRaise (wpAny_unbindName_local hk hn hmn hc fun h' v' hn' hs => h _ ?_)
  have nl : ∀ b o, X.s₀.heap.get? b = some o → b ≠ X.env.locals := fun b o e => Nat.ne_of_lt (Nat.lt_of_lt_of_le (Heap.lt_size e) I.ok.above)
  refine ⟨I1.ok, I1.os, I1.bare, ⟨fun b o e n hb hx => (hs.2 b (nl b o e)).trans (I1.base.keep b o e n hb hx), fun b o e n hb hx => ?_, I1.base.free, fun b o e hx => ?_, I1.base.tups, I1.base.frzs, I1.base.tbls⟩, ⟨_, hn', fun i y v e1 e2 e3 => ?_⟩, fun y c e => ?_, I1.free, I1.freeC, fun p hp => ?_, fun a o ha => ?_, by rw [List.length_set]; exact I.len⟩
  · obtain ⟨sl, z⟩ := I1.base.slot b o e n hb hx
    exact ⟨sl, (hs.2 b (nl b o e)).trans z⟩
  · obtain ⟨o', z⟩ := I1.base.there b o e hx
    exact ⟨o', (hs.2 b (nl b o e)).trans z⟩
  · have hij : i ≠ j := fun z => by
      rw [z, List.getElem?_set_self hjs] at e2
      cases e2
    have hyn : y ≠ n := fun z => hij (nodup_ix hN e1 (z ▸ hj))
    rw [List.getElem?_set_ne (Ne.symm hij)] at e2
    obtain ⟨u', r', z⟩ := hv i y v e1 (by rw [List.getElem?_set_ne (Ne.symm hij)]; exact e2) e3
    refine ⟨u', r', z.imp (fun ⟨k, e⟩ => ⟨k, ?_⟩) fun ⟨k, c, e, z⟩ => ⟨k, c, e, z.sameBut hs (I1.cne y c e)⟩⟩
    simp [hyn, e]
  · obtain ⟨v, z⟩ := I1.cell y c e
    exact ⟨v, z.sameBut hs (I1.cne y c e)⟩
  · obtain ⟨e, n, ne, nf, d⟩ := I1.pin p hp
    exact ⟨(hs.2 p.1 ne).trans e, n, ne, nf, d⟩
  · refine (I1.hok a o ha).stay (fun b w' hb q => (hs.2 b fun z => ?_).trans q) (fun _ q => q) fun _ _ q => q
    have := I1.free
    rw [← z] at this
    rcases hb with rfl | hb
    · rw [ha] at this; cases this
    · rw [hb] at this; cases this
end
noncomputable def tTryX (K : PySem.W.Frag) (sp : Sp) (G : Addr) (ia iy : Nat) (tr : Addr → Addr → TS) : TS := fun D σ H => ∃ v, σ[ia]? = some (some v) ∧ sp [v] H (fun _ _ => False) (fun Cv _ H' => ∃ C, Cv = .ref C ∧ PySem.W.exmOne K (.ref C) (.ref G) = some true ∧
  ∀ ea σ', σ'[iy]? = some (some (.ref ea)) → tr ea C D σ' H')
theorem Ok.of {X X' : Cx} (ok : X.Ok) (h1 : X'.K = X.K) (h2 : X'.mg = X.mg) (h3 : X'.base = X.base) (h4 : X'.env = X.env) (h5 : X'.s₀ = X.s₀) (h6 : X'.H₀ = X.H₀) (h7 : X'.outer = X.outer) (h8 : X'.stack = X.stack) (h9 : X'.ex = X.ex) (h10 : X'.fn = X.fn) (h11 : X'.A.frames = X.A.frames) (h12 : X'.calm = true → X'.A.handled = none) : X'.Ok := by
  obtain ⟨prog, w, K, mg, base, A, N, s₀, H₀, env, outer, stack, ex, fn, calm, pn, xe⟩ := X
  obtain ⟨prog', w', K', mg', base', A', N', s₀', H₀', env', outer', stack', ex', fn', calm', pn', xe'⟩ := X'
  dsimp only at *
  subst h1 h2 h3 h4 h5 h6 h7 h8 h9 h10
  exact ⟨ok.mod, ok.kind, ok.glob, ok.blt, ok.above, ok.inj, ok.has, ok.cab, h12, h11.trans ok.frames, ok.stk, ok.exf, ok.bs, ok.bsz, ok.noex, ok.exfs, ok.funs, ok.frf⟩
section
variable {X : Cx} {g a y n gl : Str} {ia iy j : Nat} {G f : Addr} {fd : FuncData} {ps : List Str} {sp : Sp} {k : Nat} {rest : List Stmt} {tr : Addr → Addr → TS} {p1 p2 p3 p4 p5 p6 p7 p8 p9 p10 : Pos}
theorem pss_try (hcalm : X.calm = true) (hstk : X.stack = X.env :: X.outer) (hfr : X.env.frame = some X.env.locals) (hN : X.N.Nodup) (F : FnOk X.prog X.w X.K X.mg X.base (CX1 X.prog X.w) k f fd ps sp) (hr : Room k X.A) (hm : X.mg g = some (.ref f)) (hk : PySem.W.keepIn X.K (.ref f) = true) (hb : L2.Binds X.K fd ps [])
    (ha : X.N[ia]? = some a) (hy : X.N[iy]? = some y) (hj : X.N[j]? = some n) (la : X.env.scope.names.lookup a = some .local) (ly : X.env.scope.names.lookup y = some .local) (ln : X.env.scope.names.lookup n = some .local) (hyj : iy ≠ j) (hmG : X.mg gl = some (.ref G)) (hg : Gl X g) (hgl : Gl X gl)
    (d1 : (g == ("__debug__" : Str)) = false) (d2 : (gl == ("__debug__" : Str)) = false) (d3 : (a == ("__debug__" : Str)) = false) (d4 : (a == ("__classdict__" : Str)) = false) (d5 : (n == ("__debug__" : Str)) = false) (d6 : (n == ("__classdict__" : Str)) = false)
    (s1 : swapsWith (.Call (.Name g p1) [.Name a p2] [] p3) none p4.line X.env = pure false) (s2 : swapsWith (.Name n p7) (some (.Name y p6)) p8.line X.env = pure false)
    (hrest : ∀ ea C oe, oe.cls = .ref C → (∃ vs, oe.data = .fields vs) → PSs { X with pn := (ea, oe) :: X.pn } rest (tr ea C)) :
    PSs X (.Try [.Expr (.Call (.Name g p1) [.Name a p2] [] p3) p4] [.ExceptHandler (some (.Name gl p5)) (some n) [.Assign [.Name y p6] (.Name n p7) p8] p9] [] [] p10 :: rest) (tTryX X.K sp G ia iy tr) := by
  intro pins s σ H D I ⟨v, hv, hsp⟩
  refine wpAny_execs_cons (wpAny_Try_except ?_)
  -- the body, in a context that keeps the pins and wants what the handler does of an exception
  have bodyE : ∀ E' : Value → Shared → Prop, Passes (CX1 X.prog X.w) { X with pn := X.pn ++ pins, xe := E' } (fun Cv _ H' => ∃ C, Cv = .ref C ∧ PySem.W.exmOne X.K (.ref C) (.ref G) = some true ∧ ∀ ea σ', σ'[iy]? = some (some (.ref ea)) → tr ea C D σ' H') →
      wpAny (model X.prog X.w) X.A (execs [.Expr (.Call (.Name g p1) [.Name a p2] [] p3) p4] X.env) (fun _ _ => False) E' s := fun E' hp => by
    have I1 : Inv { X with pn := X.pn ++ pins, xe := E' } [] σ H s := ⟨Ok.of I.ok rfl rfl rfl rfl rfl rfl rfl rfl rfl rfl rfl I.ok.hd, I.os, I.bare, I.base, I.loc, I.cell, I.free, I.freeC, fun p hp => I.pin p (by rw [List.append_nil] at hp; exact hp), I.hok, I.len⟩
    have pe : PE { X with pn := X.pn ++ pins, xe := E' } (.Call (.Name g p1) [.Name a p2] [] p3) _ := pe_call (X := { X with pn := X.pn ++ pins, xe := E' }) F hr hg hm hk hb .nil hp (pa_cons (pe_var ha (.inl la) d3 d4) pa_nil rfl) d1 rfl rfl
    refine thn ((pss_one (ps_expr pe s1)) [] s σ H { nx := fun _ _ => False, rt := fun _ _ => False } I1 ⟨v, hv, hsp⟩) fun fl s' q => ?_
    cases fl with
    | next => obtain ⟨_, _, _, z⟩ := q; exact z
    | brk => obtain ⟨_, _, _, z⟩ := q; exact z
    | cont => obtain ⟨_, _, _, z⟩ := q; exact z
    | ret u => obtain ⟨_, _, _, _, _, z⟩ := q; exact z
  refine wpAny_mono (bodyE _ ?_) (fun _ _ z => z.elim) (fun _ _ z => z)
  -- the handler
  intro pins' σ' H' s' e s₁ I' cx
  have I' : Inv { X with pn := X.pn ++ pins, xe := fun _ _ => False } pins' σ' H' s' := I'.wish fun _ _ => False
  obtain ⟨ea, C, a0, H'', B, rfl, hos, bare, un, hok, fl, full, en, hn, C', eC, hex, htr⟩ := cx
  cases eC
  have fl : Heap.FlyingW B (X.env :: X.outer) ea (.ref C) a0 s₁.heap := by
    have : Heap.FlyingW B X.stack ea (.ref C) a0 s₁.heap := fl
    rw [hstk] at this; exact this
  have un : Un (frs X.stack) [] H' H'' s'.heap s₁.heap := un
  have frm : X.A.frames = some (X.env :: X.outer) := by rw [← hstk]; exact I.ok.frames
  have stf : s'.heap.FunFrames X.base X.stack := I'.stack
  have stn : ∀ b ∈ frs X.stack, H' b = none := I'.stkFree
  have land : ∀ h', B.StaysIn h' → s₁.heap.UpToSlots h' → Inv X pins σ' H'' { s₁ with heap := h' } := fun h' hB hU => by
    have keep : ∀ b o, b ∉ frs X.stack → (s'.heap.get? b ≠ none ∨ H'' b ≠ none) → s₁.heap.get? b = some o → h'.get? b = some o := fun b o hb hz q => by
      rcases full b o q with z | z | z
      · exact hB b o z
      · exact absurd z hb
      · rcases hz with w | w
        · exact absurd z.1 w
        · exact absurd z.2 w
    have slot : ∀ b o, b ∈ frs X.stack → s₁.heap.get? b = some o → ∃ sl, h'.get? b = some { o with slots := sl } := fun b o hb q => by
      obtain ⟨_, o1, ho1, hd1⟩ := stf.mem hb
      obtain ⟨sl, q1⟩ := un.slot b o1 ho1 (stn b hb) hb (by simp)
      rw [q] at q1; cases q1
      exact hU b _ q hd1
    have J : Inv { X with pn := X.pn ++ pins, xe := fun _ _ => False } pins' σ' H'' { s₁ with heap := h' } := by
      refine I'.call' (s' := { s₁ with heap := h' }) (ch := []) hos ⟨fun b o q n hb hx => ?_, fun b o q n hb hx => ?_, un.free, fun b o q hx => ?_, un.tups, un.frzs, un.tbls⟩ (fun b o hbo => ?_) bare (by simp)
      · exact keep b o hb (.inl (by rw [q]; simp)) (un.keep b o q n hb hx)
      · obtain ⟨sl, z⟩ := un.slot b o q n hb hx
        obtain ⟨sl2, w2⟩ := slot b _ hb z
        exact ⟨sl2, w2⟩
      · obtain ⟨o', z⟩ := un.there b o q hx
        by_cases hb : b ∈ frs X.stack
        · obtain ⟨sl, w⟩ := slot b o' hb z
          exact ⟨_, w⟩
        · exact ⟨o', keep b o' hb (.inl (by rw [q]; simp)) z⟩
      · refine ObjOk.stay (hok b o hbo) (fun c u hc q => ?_) (fun _ z => z) fun _ _ z => z
        have hc' : H'' c ≠ none := by
          rcases hc with rfl | hc
          · rw [hbo]; simp
          · rw [hc]; simp
        refine keep c u (fun z => hc' ?_) (.inr hc') q
        obtain ⟨_, o1, ho1, _⟩ := stf.mem z
        exact un.free c o1 ho1 (stn c z) (by simp)
    exact ⟨I.ok, J.os, J.bare, J.base, J.loc, J.cell, J.free, J.freeC, fun p hp => J.pin p (List.mem_append_left _ hp), J.hok, J.len⟩
  refine wpAny_looks_onW frm hfr fl fun h₄ held up4 => ?_
  refine wpAny_landsW held fun h₅ fl5 up5 => ?_
  have up45 := up4.trans up5
  have I5 := land h₅ fl5.1 up45
  obtain ⟨o5, he5, hc5⟩ := fl5.there
  refine wpAny_handleBy_cons (codeAny_handlers_test ?_) (by intro q; cases q)
  have mk : ∀ (s : Shared) (σ : St) (pn : List (Addr × Obj)) , Inv X pins σ H'' s → (∀ p ∈ pn, s.heap.get? p.1 = some p.2 ∧ H'' p.1 = none ∧ p.1 ≠ X.env.locals ∧ p.1 ∉ X.fs ∧ ∀ v, p.2.data ≠ .cell v) →
      Inv { X with A := X.A.mark (some (.ref ea)), calm := false, pn := pn ++ X.pn, xe := fun _ _ => False } pins σ H'' s := fun s σ pn I hpn =>
    ⟨Ok.of I.ok rfl rfl rfl rfl rfl rfl rfl rfl rfl rfl rfl (fun z => by cases z), I.os, I.bare, I.base, I.loc, I.cell, I.free, I.freeC, fun p hp => by
      rcases List.mem_append.mp hp with hp | hp
      · rcases List.mem_append.mp hp with hp | hp
        · exact hpn p hp
        · exact I.pin p (List.mem_append_left _ hp)
      · exact I.pin p (List.mem_append_right _ hp), I.hok, I.len⟩
  refine ld_glob (X := { X with A := X.A.mark (some (.ref ea)), calm := false, pn := [] ++ X.pn, xe := fun _ _ => False }) (mk _ _ [] I5 (by simp)) hgl hmG ?_ d2
  have LT : PySem.W.Looks (model X.prog X.w) h₅ (typeOf (.ref ea)) (.ref C) := hc5 ▸ (PySem.W.Looks.ld he5).andThen .now
  refine (PySem.W.exm_one (K := X.K) I5.kIn LT hex).at ?_
  refine codeAny_handlers_suite_as (lands_againW fl5 fun h₆ fl6 up6 => ?_)
  obtain ⟨o6, vs6, he6, hc6, hd6, _⟩ := fl6.first
  have I6 := land h₆ fl6.1 (up45.trans up6)
  have pin6 : ∀ p ∈ [(ea, o6)], h₆.get? p.1 = some p.2 ∧ H'' p.1 = none ∧ p.1 ≠ X.env.locals ∧ p.1 ∉ X.fs ∧ ∀ v, p.2.data ≠ .cell v := by
    intro p hp
    cases List.mem_singleton.mp hp
    refine ⟨he6, hn, fun z => ?_, fun z => ?_, fun v q => by rw [hd6] at q; cases q⟩
    · obtain ⟨m, ⟨o, _, _, ho, _⟩, _⟩ := I'.loc
      have ho : s'.heap.get? X.env.locals = some o := ho
      rw [← z, en] at ho; cases ho
    · obtain ⟨_, o, ho, _⟩ := I'.funs.mem z
      rw [en] at ho; cases ho
  have I6' := mk _ _ [(ea, o6)] I6 pin6
  refine store_ok (X := { X with A := X.A.mark (some (.ref ea)), calm := false, pn := [(ea, o6)] ++ X.pn, xe := fun _ _ => False }) (v := .ref ea) I6' hN hj (.inl ln) rfl (fun s7 I7 => ?_) (.inr ln)
  have hjs : j < σ'.length := by rw [I6.len]; exact (List.getElem?_eq_some_iff.mp hj).1
  have hys : iy < σ'.length := by rw [I6.len]; exact (List.getElem?_eq_some_iff.mp hy).1
  have st : PS { X with A := X.A.mark (some (.ref ea)), calm := false, pn := [(ea, o6)] ++ X.pn, xe := fun _ _ => False } (.Assign [.Name y p6] (.Name n p7) p8) _ := ps_set hN hy (.inl ly) (pe_var hj (.inl ln) d5 d6) s2 (.inr ly)
  refine wpAny_mono (pss_one st pins s7 _ H'' { nx := fun σ8 H8 => σ8 = (σ'.set j (some (.ref ea))).set iy (some (.ref ea)) ∧ H8 = H'', rt := fun _ _ => False } I7 ⟨.ref ea, List.getElem?_set_self hjs, rfl, rfl⟩) (fun f8 s8 q => ?_) fun _ _ z => z.elim
  cases f8 with
  | brk => obtain ⟨_, _, _, z⟩ := q; exact z.elim
  | cont => obtain ⟨_, _, _, z⟩ := q; exact z.elim
  | ret u => obtain ⟨_, _, _, _, _, z⟩ := q; exact z.elim
  | next =>
    obtain ⟨σ8, H8, I8, q1, q2⟩ := q
    rw [q1, q2] at I8
    have I9 : Inv { X with pn := (ea, o6) :: X.pn } pins ((σ'.set j (some (.ref ea))).set iy (some (.ref ea))) H'' s8 := ⟨Ok.of I.ok rfl rfl rfl rfl rfl rfl rfl rfl rfl rfl rfl I.ok.hd, I8.os, I8.bare, I8.base, I8.loc, I8.cell, I8.free, I8.freeC, I8.pin, I8.hok, I8.len⟩
    refine name_goes (X := { X with pn := (ea, o6) :: X.pn }) I9 hN hj ln fun s9 I10 => ?_
    have := hrest ea C o6 hc6 ⟨vs6, hd6⟩ pins s9 _ H'' D I10 (htr ea _ (by rw [List.getElem?_set_ne (Ne.symm hyj), List.getElem?_set_self (by rw [List.length_set]; exact hys)]))
    refine thn this fun fl s10 q => ?_
    have dn : ∀ {σ : St} {H : Hp} {s : Shared}, Inv { X with pn := (ea, o6) :: X.pn } pins σ H s → Inv X pins σ H s := fun J => ⟨I.ok, J.os, J.bare, J.base, J.loc, J.cell, J.free, J.freeC, fun p hp => J.pin p (List.mem_cons_of_mem _ hp), J.hok, J.len⟩
    cases fl with
    | next => obtain ⟨σ2, H2, J, z⟩ := q; exact ⟨σ2, H2, dn J, z⟩
    | brk => obtain ⟨σ2, H2, J, z⟩ := q; exact ⟨σ2, H2, dn J, z⟩
    | cont => obtain ⟨σ2, H2, J, z⟩ := q; exact ⟨σ2, H2, dn J, z⟩
    | ret u => obtain ⟨v2, σ2, H2, J, r, z⟩ := q; exact ⟨v2, σ2, H2, dn J, r, z⟩
end
end Pu
set_option Elab.async false
set_option linter.all false
set_option maxRecDepth 100000
namespace Pu
open PySem PySem.Spec PyProof.Rows L2
open PySem.W (Looks)
open PySem.Builtin PySem.Builtin.ObjectAttr PySem.Builtin.Getset_descriptor
structure ExcK (K : PySem.W.Frag) (C : Addr) : Prop where
  ga : PySem.W.findIn K (.ref C) "__getattribute__" = some (some (.builtin "BaseException.__getattribute__"))
  gn : PySem.W.findIn K (.ref C) "__getattr__" = some none
  cl : PySem.W.findIn K (.ref C) "__class__" = some (some (.builtin "object.__class__"))
  sp : PySem.W.specialIn K (.builtin "object.__class__") "__get__" = some (some (.builtin "getset_descriptor.__get__"))
  tk : PySem.W.takesIn K (.builtin "object.__class__") = some true
  mo : PySem.W.mroIn K C (.type "object") = some true
  sb : PySem.W.subIn K (.ref C) (.type "BaseException") = some true
  cs : PySem.W.hasDictIn K C = true
section
variable {prog : Program} {w : World} {A : Around} {E : Value → Shared → Prop} {s : Shared} {K : PySem.W.Frag} {x C : Addr}
theorem exc_getset {R : Result → Shared → Prop} {tp : Value} (X : K.In s.heap) (L0 : Looks (model prog w) s.heap (typeOf (.ref x)) (.ref C)) (hm : PySem.W.mroIn K C (.type "object") = some true)
    (h : R (.ok (.ret (.ref C))) s) : codeAny (model prog w) A (.call (.builtin "getset_descriptor.__get__") ⟨[.builtin "object.__class__", .ref x, tp], []⟩) R s := by
  obtain ⟨hp, gs, dr, tt, osx⟩ := s
  have L9 := PySem.W.looks_mroIn (M := model prog w) X hm
  refine codeAny_call_builtin (by exact PySem.W.KF.slot_gs.plain) (by exact PySem.W.KF.entry_gs)
    (PySem.W.KF.slot_gs.check _ _ _ _ _ _ _ _ (by exact PySem.W.KF.type_class) (by exact PySem.W.KF.args_gs _ _ _) ?_)
  unfold Builtin.«getset_descriptor.__get__»
  unfold descrGet
  rw [PySem.W.dga_obj]
  refine wpAny_bind (wpAny_pure ?_)
  unfold descrGetter
  unfold descrCheckInstance descrNameAndClass
  unfold isInstance
  simp only [PySem.W.KF.owner_class]
  repeat lk
  exact ⟨Code.quiet_builtin _ (by decide +kernel), codeAny_builtin PySem.W.KF.entry_class (by
    unfold Builtin.«object.__class__»
    unfold shownTypeOf
    repeat lk
    exact h)⟩
theorem exc_find (X : K.In s.heap) (k : ExcK K C) : Looks (model prog w) s.heap (find (.ref x) (.ref C) "__class__") (.bind (.builtin "getset_descriptor.__get__") (.builtin "object.__class__")) := by
  unfold find
  refine (PySem.W.looks_findIn X k.cl).andThen ?_
  refine Looks.andThen (a := some (.builtin "getset_descriptor.__get__")) (PySem.W.looks_specialIn X k.sp) ?_
  have : Looks (model prog w) s.heap (dataDescriptor? (some (.builtin "object.__class__")) (some (.builtin "getset_descriptor.__get__"))) (some (.builtin "getset_descriptor.__get__", .builtin "object.__class__")) := by
    unfold dataDescriptor?
    exact (PySem.W.looks_takesIn X k.tk).andThen .now
  exact this.andThen (Looks.tag .now)
theorem exc_class {Q : Option Value → Shared → Prop} (X : K.In s.heap) (L0 : Looks (model prog w) s.heap (typeOf (.ref x)) (.ref C)) (k : ExcK K C) (h : Q (some (.ref C)) { s with toks := s.toks + 1 }) :
    wpAny (model prog w) A (getAttr? (.ref x) "__class__") Q E s := by
  have F1 := exc_find (prog := prog) (w := w) (x := x) X k
  obtain ⟨hp, gs, dr, tt, osx⟩ := s
  have L0 : Looks (model prog w) hp (typeOf (.ref x)) (.ref C) := L0
  have F1 : Looks (model prog w) hp (find (.ref x) (.ref C) "__class__") (.bind (.builtin "getset_descriptor.__get__") (.builtin "object.__class__")) := F1
  have X : K.In hp := X
  have L1 := PySem.W.looks_findIn (M := model prog w) X k.ga
  have L2 := PySem.W.looks_findIn (M := model prog w) X k.gn
  have L3 := PySem.W.looks_subIn (M := model prog w) X k.sb
  unfold getAttr?
  unfold getAttrBy?
  unfold getAttrBy
  refine wpAny_bind (wpAny_mkText (wpAny_bind (wpAny_attempt (wpAny_holding (wpAny_bind (L0.at (wpAny_bind (L1.at ?_))))))))
  dsimp only
  have nb : (onTheHeap (Value.ref C) && Value.builtin "BaseException.__getattribute__" == Value.builtin "object.__getattribute__") = false := by
    rw [show (Value.builtin "BaseException.__getattribute__" == Value.builtin "object.__getattribute__") = false by decide +kernel, Bool.and_false]
  rw [nb, if_neg Bool.false_ne_true]
  unfold getAttrByItsOwn
  refine wpAny_bind ?_
  unfold hookBefore
  rw [if_pos (show onTheHeap (Value.ref C) = true from rfl)]
  refine L2.at ?_
  refine wpAny_bind (wpAny_attempt (wpAny_holding ?_))
  unfold callGetattribute
  rw [if_neg (show ¬ ((false && onTheHeap (Value.builtin "BaseException.__getattribute__")) = true) by simp)]
  unfold boundAndCalled
  refine wpAny_bind (wpAny_of_eq (PySem.F.excAttr_ValueError.ga.bind _) ?_)
  refine wpAny_call (codeAny_call_builtin PySem.F.excAttr_ValueError.ga.plain F.entry_bexc_ga ?_)
  have hk : builtinKind "BaseException.__getattribute__" = some .slot := by decide +kernel
  have hsp : splitId "BaseException.__getattribute__" = some ("BaseException", "__getattribute__") := by decide +kernel
  have har := F.args_bexc_ga (.ref x) (.str "__class__" tt)
  simp only [checkBuiltinCall, hk, hsp]
  refine wpAny_bind ?_
  unfold isInstance
  refine wpAny_bind (L0.at (L3.at ?_))
  repeat (first | assumption | with_reducible refine wpAny_bind (L0.at ?_) | with_reducible refine L0.at ?_ | with_reducible refine wpAny_bind (F1.at ?_) | wp_step)
  refine exc_getset X L0 k.mo ?_
  repeat (any_goals (first | assumption | exact h | wp_step))
theorem kitx_exc {oe : Obj} (hc : oe.cls = .ref C) (k : ExcK K C) : PySem.W.KitX K (.ref x) (.ref C) (fun h => h.get? x = some oe) where
  ty := fun M h _ e => hc ▸ (Looks.ld e).andThen .now
  it := fun M h X _ => by
    have e : (PySem.W.clsIn K C).isSome = true := by
      obtain ⟨cd, hc, _⟩ := PySem.W.any_some k.cs
      rw [hc]; rfl
    unfold PySem.W.clsIn at e
    split at e
    · rename_i ho
      intro A' Q' E' s' kp q
      unfold isType
      unfold loadHead
      exact wpAny_bind (wpAny_loadPart (kp _ _ (X _ _ ho)) (by exact wpAny_pure q))
    · cases e
  ne := fun h tp dd its n sl X htp => by
    have e : (PySem.W.clsIn K C).isSome = true := by
      obtain ⟨cd, hc, _⟩ := PySem.W.any_some k.cs
      rw [hc]; rfl
    refine Bool.eq_false_iff.mpr fun q => ?_
    cases Value.ref.inj (beq_iff_eq.mp q)
    unfold PySem.W.clsIn at e
    split at e
    · rename_i ho
      have z := X _ _ ho
      rw [htp] at z
      cases z
    · cases e
  ca := fun {prog w A E Q s} X e kq => exc_class X (hc ▸ (Looks.ld e).andThen .now) k kq
end
section
variable {X : Cx} {ea C : Addr} {oe : Obj}
noncomputable def rIsX (K : PySem.W.Frag) (ea C : Addr) : List V → Hp → VK → Prop := fun xs H Q => ∃ c cv b, xs = [.ref ea, c] ∧ (∀ u, RelV c u → u = cv) ∧ PySem.W.kitOne K (.ref C) cv = some b ∧ Q (.bl b) H
theorem call_isX (hp : (ea, oe) ∈ X.pn) (hc : oe.cls = .ref C) (k : ExcK X.K C) : CallR X (.builtin "isinstance") (rIsX X.K ea C) := by
  intro pins s σ H xs us Q I r ⟨c, cv, b, e0, hu, e, q⟩
  subst e0
  obtain ⟨u, w', rfl, ru, rc⟩ := vals2 r
  cases ru
  cases hu _ rc
  exact PySem.W.kia_one (kitx_exc hc k) I.kIn (I.pin (ea, oe) (List.mem_append_left _ hp)).1 e (fun z => nomatch z) fun tk => ⟨.bl b, H, I.tok _, rfl, q⟩
theorem vals_refs : ∀ {Ds : List Addr} {us : List Value}, Vals (Ds.map V.ref) us → us = Ds.map Value.ref
  | [], _, .nil => rfl
  | d :: ds, _, .cons r t => by
    cases r
    rw [List.map_cons, vals_refs t]
noncomputable def rIsXT (K : PySem.W.Frag) (ea C : Addr) : List V → Hp → VK → Prop := fun xs H Q => ∃ (t : Addr) (Ds : List Addr) (b : Bool), xs = [.ref ea, .ref t] ∧ H t = some (.tup (Ds.map V.ref)) ∧ PySem.W.kitAny K (.ref C) (Ds.map Value.ref) = some b ∧ Q (.bl b) H
theorem call_isXT (hp : (ea, oe) ∈ X.pn) (hc : oe.cls = .ref C) (k : ExcK X.K C) : CallR X (.builtin "isinstance") (rIsXT X.K ea C) := by
  intro pins s σ H xs us Q I r ⟨t, Ds, b, e0, ht, e, q⟩
  subst e0
  obtain ⟨u, w', rfl, ru, rc⟩ := vals2 r
  cases ru
  cases rc
  obtain ⟨z, its, rv, ⟨⟨cls, dd, data, sl⟩, ho, hcl, n, hd⟩, _⟩ := (show ObjOk X.prog X.w H s.heap t (.tup (Ds.map V.ref)) from I.hok t _ ht)
  simp only at hcl hd
  subst hcl hd
  rw [vals_refs rv] at ho
  exact PySem.W.kia_tup (kitx_exc hc k) I.kIn (I.pin (ea, oe) (List.mem_append_left _ hp)).1 ho e (fun z => nomatch z) fun tk => ⟨.bl b, H, I.tok _, rfl, q⟩
noncomputable def tIsX (iy : Nat) (ea : Addr) (b : Bool) : TE := fun σ H Q => σ[iy]? = some (some (.ref ea)) ∧ Q (.bl b) H
theorem pe_isX {y cn : Str} {iy : Nat} {D : Addr} {b : Bool} {p p1 p2 pos : Pos} (hp : (ea, oe) ∈ X.pn) (hc : oe.cls = .ref C) (k : ExcK X.K C) (hm : X.mg "isinstance" = none) (hmc : X.mg cn = some (.ref D)) (hb : PySem.W.kitOne X.K (.ref C) (.ref D) = some b)
    (hy : X.N[iy]? = some y) (ly : X.env.scope.names.lookup y = some .local) (hg : Gl X "isinstance" := by rfl) (hgc : Gl X cn := by rfl) (hd : (cn == ("__debug__" : Str)) = false := by decide) (d3 : (y == ("__debug__" : Str)) = false := by decide) (d4 : (y == ("__classdict__" : Str)) = false := by decide) :
    PE X (.Call (.Name "isinstance" p) [.Name y p1, .Name cn p2] [] pos) (tIsX iy ea b) :=
  PE.imp (pe_callB (call_isX hp hc k) hg hm (by rfl) (pa_cons (pe_var hy (.inl ly) d3 d4) (pa_cons (pe_glob (v := .ref D) hgc hmc rfl hd) pa_nil rfl) rfl) (by decide) (by decide) rfl rfl) fun σ H Q ⟨e, q⟩ => ⟨.ref ea, e, .ref D, .ref D, b, rfl, fun u r => r, hb, q⟩
theorem pe_isXB {y cn : Str} {iy : Nat} {T : String} {b : Bool} {p p1 p2 pos : Pos} (hp : (ea, oe) ∈ X.pn) (hc : oe.cls = .ref C) (k : ExcK X.K C) (hm : X.mg "isinstance" = none) (hmc : X.mg cn = none) (hv : bootBuiltins cn = some (.type T)) (hb : PySem.W.kitOne X.K (.ref C) (.type T) = some b)
    (hy : X.N[iy]? = some y) (ly : X.env.scope.names.lookup y = some .local) (hg : Gl X "isinstance" := by rfl) (hgc : Gl X cn := by rfl) (hn : cn ≠ "__name__" := by decide) (hd : (cn == ("__debug__" : Str)) = false := by decide) (d3 : (y == ("__debug__" : Str)) = false := by decide) (d4 : (y == ("__classdict__" : Str)) = false := by decide) :
    PE X (.Call (.Name "isinstance" p) [.Name y p1, .Name cn p2] [] pos) (tIsX iy ea b) :=
  PE.imp (pe_callB (call_isX hp hc k) hg hm (by rfl) (pa_cons (pe_var hy (.inl ly) d3 d4) (pa_cons (pe_bltn (v := .ty T) hgc hmc hv rfl hn hd) pa_nil rfl) rfl) (by decide) (by decide) rfl rfl) fun σ H Q ⟨e, q⟩ => ⟨.ref ea, e, .ty T, .type T, b, rfl, fun u r => r, hb, q⟩
noncomputable def tIsXT (iy : Nat) (ea : Addr) (b : Bool) (Ds : List Addr) : TE := fun σ H Q => σ[iy]? = some (some (.ref ea)) ∧ ∀ p, H p = none → Q (.bl b) (upd H p (.tup (Ds.map V.ref)))
theorem pe_isXT {y : Str} {iy : Nat} {Ds : List Addr} {b : Bool} {es : List Expr} {tT : TA} {kt : _} {p p1 pt pos : Pos} (hp : (ea, oe) ∈ X.pn) (hc : oe.cls = .ref C) (k : ExcK X.K C) (hm : X.mg "isinstance" = none) (hT : PA X es tT) (hTe : ∀ σ H Q, Q (Ds.map V.ref) H → tT σ H Q) (hl : Ds.length ≤ 100)
    (hb : PySem.W.kitAny X.K (.ref C) (Ds.map Value.ref) = some b) (hy : X.N[iy]? = some y) (ly : X.env.scope.names.lookup y = some .local) (hg : Gl X "isinstance" := by rfl) (d3 : (y == ("__debug__" : Str)) = false := by decide) (d4 : (y == ("__classdict__" : Str)) = false := by decide) :
    PE X (.Call (.Name "isinstance" p) [.Name y p1, .Tuple es kt pt] [] pos) (tIsXT iy ea b Ds) :=
  PE.imp (pe_callB (call_isXT hp hc k) hg hm (by rfl) (pa_cons (pe_var hy (.inl ly) d3 d4) (pa_cons (pe_tup hT) pa_nil rfl) rfl) (by decide) (by decide) rfl rfl) fun σ H Q ⟨e, q⟩ => ⟨.ref ea, e, hTe σ H _ ⟨by rw [List.length_map, sizeLine_eq]; omega, fun t ht => ⟨t, Ds, b, rfl, upd_same, hb, q t ht⟩⟩⟩
end
theorem oe_disp1 {X : Cx} {k v : Int} {jk jv : _} {pk pv pos : Pos} : OE X (.Dict [some (.Constant (.int k) jk pk)] [.Constant (.int v) jv pv] pos) (wDisp1 k v) :=
  PE.imp (pe_disp (pps_cons pe_int pe_int pps_nil) rfl rfl (by simp) (by simp)) fun σ H Q ⟨m, env, h, K', rp, en, w, af⟩ p hp => by
    refine ⟨upd_same, [(Sum.inl k, .int v)], rfl, by simp, ?_⟩
    rw [upd_upd]
    exact af (.ref h.length) (h ++ [Ob.dK [(Sum.inl k, T.int v)]]) (m ++ [p]) (upd H p (.dK [(Sum.inl k, .int v)])) (.ref p) (Up.new hp) (rp.new (o := Ob.dK [(Sum.inl k, T.int v)]) hp ⟨_, upd_same, rfl, .cons (.int v) .nil⟩) rp.newRef w
noncomputable def CalleeX (P : Program) (w : World) (K : PySem.W.Frag) (mg : Str → Option Value) (base : Heap) (n : Nat) (x : Str) (cp : CPX) : Prop :=
  ∃ f fd ps, FnOk P w K mg base (CX1 P w) n f fd ps (spOfX K cp) ∧ mg x = some (.ref f) ∧ PySem.W.keepIn K (.ref f) = true ∧ L2.Binds K fd ps []
end Pu
set_option Elab.async false
set_option linter.all false
set_option maxRecDepth 100000
namespace Pu
open PySem L2
theorem isS : isSub "NoneType" "bool" = false ∧ isSub "NoneType" "int" = false ∧ isSub "NoneType" "str" = false ∧ isSub "NoneType" "tuple" = false ∧ isSub "NoneType" "list" = false ∧ isSub "bool" "bool" = true ∧ isSub "bool" "int" = true ∧ isSub "bool" "str" = false ∧ isSub "bool" "tuple" = false ∧ isSub "bool" "list" = false ∧ isSub "int" "bool" = false ∧ isSub "int" "int" = true ∧ isSub "int" "str" = false ∧ isSub "int" "tuple" = false ∧ isSub "int" "list" = false ∧ isSub "str" "bool" = false ∧ isSub "str" "int" = false ∧ isSub "str" "str" = true ∧ isSub "str" "tuple" = false ∧ isSub "str" "list" = false ∧ isSub "tuple" "bool" = false ∧ isSub "tuple" "int" = false ∧ isSub "tuple" "str" = false ∧ isSub "tuple" "tuple" = true ∧ isSub "tuple" "list" = false ∧ isSub "list" "bool" = false ∧ isSub "list" "int" = false ∧ isSub "list" "str" = false ∧ isSub "list" "tuple" = false ∧ isSub "list" "list" = true ∧ isSub "dict" "bool" = false ∧ isSub "dict" "int" = false ∧ isSub "dict" "str" = false ∧ isSub "dict" "tuple" = false ∧ isSub "dict" "list" = false := by decide
theorem StOk.lt {n sc : Nat} {ns : List Int} {h : PH} (s : StOk n sc ns h) : n < h.length ∧ sc < h.length := by
  obtain ⟨_, _, e1, _, e2⟩ := s
  exact ⟨lt_of_get e1, lt_of_get e2⟩
theorem Gro.set {h h' : PH} {n : Nat} {o : Ob} (g : Gro h h') (hn : h.length ≤ n) : Gro h (h'.set n o) := fun i u e => by
  have := lt_of_get e
  rw [List.getElem?_set_ne (by omega)]
  exact g i u e
theorem Gro.ap {h h' g : PH} (x : Gro h h') : Gro h (h' ++ g) := x.trans (Gro.app _ _)
end Pu
open Lean in
local macro_rules
  | `(tactic| simp! only [$xs,*]) => do
    let ys ← ("wSeq wIf wRet wRetN wNext wAsg gN gSb gTp gsCons gsNil wDrop wOp wVar wC wTest wAnd wOr wNot wAndV wOrV wNotV wIfE wUn wChain wCons wNil wTup wLst wCB wCall wBM wSl wPart wNoPart wIsi wSeqI wRng1 wRng2 wFor wComp wYes wDict wTupRng pIx pSet pAdd pSub pI pLen pGt pGe pLe pLt pIb pLtA pEq pNe pMod pIc pFdiv pPow pShl pShr pAnd pOr pMul pInt pNeg pTuple pList pSl pSlL pMt fAppend fPop fReverse fClear isLst eqT_int eqT_bl seqOf_tup List.map_cons List.map_nil List.length_cons List.length_nil List.cons_append List.nil_append List.replicate List.getElem?_cons_zero List.getElem?_cons_succ List.set_cons_zero List.set_cons_succ Nat.reduceSub Nat.reduceAdd if_true if_false Bool.false_eq_true Bool.not_true Bool.not_false decide_true decide_false wZip2 wZip3 pExt fExtend pIs pIsNot pXor isS beq_self_eq_true wDictT pDGet wDPut wListVals pSum pAny wEnum wIsi2 wComp2 wIndex pSlA".splitOn " ").toArray.mapM fun s => let i := mkIdent ((s.splitOn ".").foldl (init := Name.anonymous) fun n c => Name.mkStr n c); `(Lean.Parser.Tactic.simpLemma| $i:ident)
    let zs : Array Syntax := ys.map (·.raw) ++ xs.getElems.map (·.raw)
    let all : Syntax.TSepArray [`Lean.Parser.Tactic.simpStar, `Lean.Parser.Tactic.simpErase, `Lean.Parser.Tactic.simpLemma] "," := ⟨mkSepArray zs (mkAtom ",")⟩
    `(tactic| simp only [$all,*])
namespace PL
open PySem L2 Pu ZP
noncomputable def tN (ns : List Nat) : List T := ns.map fun (n : Nat) => T.int (n : Int)
theorem tN_len (ns : List Nat) : (tN ns).length = ns.length := by simp [tN]
theorem tN_snoc (l : List Nat) (x : Nat) : tN (l ++ [x]) = tN l ++ [.int (x : Int)] := by simp [tN]
theorem tN_get {ns : List Nat} {i : Nat} {x : T} (h : (tN ns)[i]? = some x) : ∃ n, ns[i]? = some n ∧ x = .int (n : Int) := by
  unfold tN at h
  rw [List.getElem?_map] at h
  cases e : ns[i]? with
  | none => rw [e] at h; cases h
  | some n => rw [e] at h; cases h; exact ⟨n, rfl, rfl⟩
theorem rng_get {n i : Nat} {x : T} (h : (rngL 0 n)[i]? = some x) : i < n ∧ x = .int (i : Int) := by
  unfold rngL at h
  have hl := (List.getElem?_eq_some_iff.mp h).1
  simp only [List.length_map, List.length_range] at hl
  rw [List.getElem?_map, List.getElem?_range hl] at h
  cases h
  exact ⟨hl, by simp⟩
theorem rng_len (n : Nat) : (rngL 0 n).length = n := by simp [rngL]
noncomputable def vol (ks : List Nat) : Nat := ks.foldl (· * ·) 1
theorem vol_snoc (ks : List Nat) (n : Nat) : vol (ks ++ [n]) = vol ks * n := by simp [vol, List.foldl_append]
theorem vol_mono : ∀ (ks : List Nat) (c : Nat), (∀ k ∈ ks, k ≤ 3) → ks.foldl (· * ·) c ≤ c * 3 ^ ks.length
  | [], c, _ => by simp
  | k :: ks, c, h => by
    have := vol_mono ks (c * k) (fun x hx => h x (List.mem_cons_of_mem _ hx))
    have hk := h k List.mem_cons_self
    simp only [List.foldl_cons, List.length_cons, Nat.pow_succ]
    refine Nat.le_trans this ?_
    rw [Nat.mul_assoc, Nat.mul_comm (3 ^ ks.length) 3]
    exact Nat.mul_le_mul_left _ (Nat.mul_le_mul_right _ hk)
theorem vol_le {ks : List Nat} (h : ∀ k ∈ ks, k ≤ 3) (hl : ks.length ≤ 6) : vol ks ≤ 729 := by
  refine Nat.le_trans (vol_mono ks 1 h) ?_
  rw [Nat.one_mul]
  exact Nat.le_trans (Nat.pow_le_pow_right (by decide) hl) (by decide)
theorem eqZ_map {α : Type} [DecidableEq α] {f : T → T → Option Bool} {g : α → T} (hf : ∀ x y, f (g x) (g y) = some (decide (x = y))) : ∀ xs ys : List α, eqZ f (xs.map g) (ys.map g) = some (decide (xs = ys))
  | [], [] => rfl
  | [], _ :: _ => rfl
  | _ :: _, [] => rfl
  | x :: xs, y :: ys => by
    rw [List.map_cons, List.map_cons]
    unfold eqZ
    rw [hf, eqZ_map hf xs ys]
    simp only [List.cons.injEq, Bool.decide_and]
theorem eqT_i (h : PH) (n : Nat) (x y : Int) : eqT h (n + 1) (.int x) (.int y) = some (decide (x = y)) := by
  show some (x == y) = _
  congr 1
theorem eqT_tN (h : PH) (n : Nat) (a b : List Nat) : eqT h (n + 2) (.tup (tN a)) (.tup (tN b)) = some (decide (a = b)) := by
  refine eqZ_map (fun x y => ?_) a b
  rw [eqT_i]
  congr 2
  exact propext Int.ofNat_inj
theorem eqT_ref {h : PH} {n i j : Nat} {xs ys : List T} (hi : h[i]? = some (.lst xs)) (hj : h[j]? = some (.lst ys)) : eqT h (n + 1) (.ref i) (.ref j) = eqZ (eqT h n) xs ys := by
  show (match lstOf h i, lstOf h j with | some a, some b => eqZ (eqT h n) a b | _, _ => none) = _
  rw [lstOf_of hi, lstOf_of hj]
end PL
set_option Elab.async false
set_option linter.all false
set_option maxRecDepth 100000
namespace PL
open PySem L2 Pu ZP
noncomputable def kindsOf (fr gs : List Nat) : List Nat := gs.map fun m => fr.getD m 0
theorem take_snoc {α : Type} {xs : List α} {i : Nat} {x : α} (h : xs[i]? = some x) : xs.take (i + 1) = xs.take i ++ [x] := by
  rw [List.take_add_one, h]; rfl
end PL
set_option Elab.async false
set_option linter.all false
set_option maxRecDepth 100000
namespace PL
open PySem L2 Pu ZP
end PL
set_option Elab.async false
set_option linter.all false
set_option maxRecDepth 100000
namespace LH
open PySem L2 Pu ZP PL
noncomputable def Fr (fr : List Nat) : Prop := 1 ≤ fr.length ∧ fr.length ≤ 6 ∧ ∀ x ∈ fr, 2 ≤ x ∧ x ≤ 3
noncomputable def K23 (ks : List Nat) : Prop := ks.length ≤ 6 ∧ ∀ x ∈ ks, 2 ≤ x ∧ x ≤ 3
theorem K23.take {ks : List Nat} (h : K23 ks) (i : Nat) : K23 (ks.take i) := ⟨by have := h.1; simp; omega, fun x hx => h.2 x (List.mem_of_mem_take hx)⟩
theorem K23.vol {ks : List Nat} (h : K23 ks) : vol ks ≤ 729 := vol_le (fun x hx => (h.2 x hx).2) h.1
theorem seqOf_gro {x : T} {h h' : PH} {xs : List T} (e : seqOf x h = some xs) (g : Gro h h') : seqOf x h' = some xs := by
  cases x with
  | tup ts => exact e
  | ref n =>
    rcases seqOf_ref e with e | e
    · exact seqOf_of (g _ _ e)
    · exact seqOf_fro (g _ _ e)
  | _ => cases e
end LH
set_option Elab.async false
set_option linter.all false
set_option maxRecDepth 100000
namespace LH
open PySem L2 Pu ZP PL
noncomputable def tG (g : List Nat) : T := .tup (tN g)
theorem flat_tN (g : List Nat) : (tN g).all flatT = true := by simp [tN, flatT]
theorem in_tN (g : List Nat) (m : Nat) : ((tN g).any fun t => eqF t (.int (m : Int))) = decide (m ∈ g) := by
  induction g with
  | nil => rfl
  | cons a g ih =>
    show (((a : Int) == (m : Int)) || (tN g).any fun t => eqF t (.int (m : Int))) = _
    rw [ih]
    by_cases e : a = m
    · subst e; simp
    · have e' : ((a : Int) == (m : Int)) = false := by simp; omega
      have : m ≠ a := fun z => e z.symm
      simp [e', this]
noncomputable def volG (fr : List Nat) (g : List Nat) : Nat := vol (kindsOf fr g)
noncomputable def Grp (fr g : List Nat) : Prop := g ≠ [] ∧ g.Pairwise (· < ·) ∧ ∀ m ∈ g, m < fr.length
structure GroupsOk (fr : List Nat) (gs : List (List Nat)) : Prop where
  pos : 1 ≤ gs.length
  most : gs.length ≤ 7
  grp : ∀ g ∈ gs, Grp fr g
  all : ∀ m, m < fr.length → ∃ g ∈ gs, m ∈ g
  rows : (gs.map (volG fr)).sum ≤ 60
end LH
set_option Elab.async false
set_option linter.all false
set_option maxRecDepth 100000
namespace LH
open PySem L2 Pu ZP PL
end LH
set_option Elab.async false
set_option linter.all false
set_option maxRecDepth 100000
namespace LH
open PySem L2 Pu ZP PL
noncomputable def tT (x : List Nat × Nat) : T := .tup [tG x.1, .ref x.2]
end LH
set_option Elab.async false
set_option linter.all false
set_option maxRecDepth 100000
namespace PF
open PySem L2 Pu ZP PL LH
noncomputable def W_is_whole : WS :=
  wRet (wAndV (wIsi "int" (wVar 0)) (wNotV (wIsi "bool" (wVar 0))))
noncomputable def W_frame_of (cp_is_whole : CP) : WS :=
  wSeq (wIf (wNot (wTest (wIsi2 "list" "tuple" (wVar 0)))) (wNever) (wNext))
  (wSeq (wIf (wNot (wTest (wChain pLe pLe (wC (.int 1)) (wCB pLen (wCons (wVar 0) (wNil))) (wC (.int 6))))) (wNever) (wNext))
  (wSeq (wAsg (wC (.int 1)) (gN 1))
  (wSeq (wFor (wSeqI (wVar 0)) (gN 2) (wSeq (wIf (wOr (wNot (wTest (wCall cp_is_whole (wCons (wVar 2) (wNil))))) (wNot (wTest (wChain pLe pLe (wC (.int 2)) (wVar 2) (wC (.int 3)))))) (wNever) (wNext))
  (wAsg (wOp pMul (wVar 1) (wVar 2)) (gN 1))))
  (wSeq (wIf (wTest (wOp pGt (wVar 1) (wC (.int 64)))) (wNever) (wNext))
  (wRet (wCB pTuple (wCons (wVar 0) (wNil))))))))
noncomputable def wholeT : T → Bool
  | .int _ => true
  | _ => false
noncomputable def cp_is_whole : CP := fun ts h k => ∃ x, ts = [x] ∧ (tyN x h).isSome = true ∧ k (.bl (wholeT x)) h
theorem len_is_whole : ∀ ts h k, cp_is_whole ts h k → ts.length = 1 := by
  rintro ts h k ⟨x, rfl, _⟩
  rfl
theorem ty_cases {x : T} {h : PH} (e : (tyN x h).isSome = true) : ∃ s, tyN x h = some s ∧ (isSub s "int" && !isSub s "bool") = wholeT x ∧ isSub s "bool" = (match x with | .bl _ => true | _ => false) ∧ isSub s "int" = (match x with | .int _ => true | .bl _ => true | _ => false) ∧ isSub s "tuple" = (match x with | .tup _ => true | _ => false) := by
  cases x with
  | ref n =>
    have e' : (match h[n]? with | some (.lst _) => some "list" | some (.dK _) => some "dict" | some (.dT _) => some "dict" | _ => none : Option String).isSome = true := e
    show ∃ s, (match h[n]? with | some (.lst _) => some "list" | some (.dK _) => some "dict" | some (.dT _) => some "dict" | _ => none : Option String) = some s ∧ _
    split at e' <;> first | exact ⟨_, rfl, rfl, rfl, rfl, rfl⟩ | cases e'
  | _ => exact ⟨_, rfl, rfl, rfl, rfl, rfl⟩
theorem vc_is_whole : ∀ ts h k, cp_is_whole ts h k → W_is_whole { nx := fun _ h' => k .non h', rt := k } (begin_ 1 ts) h := by
  rintro ts h k ⟨x, rfl, hx, hk⟩
  obtain ⟨s, hs, e, _⟩ := ty_cases hx
  simp only [W_is_whole, begin_, wRet, wAndV, wNotV, wIsi, wVar, List.map_cons, List.map_nil, List.length_cons, List.length_nil, List.cons_append, List.nil_append, List.replicate, List.getElem?_cons_zero, hs]
  rw [← e] at hk
  cases h1 : isSub s "int"
  · rw [h1] at hk; exact hk
  · rw [h1] at hk; exact hk
noncomputable def SeqLT (x : T) (h : PH) (xs : List T) : Prop := x = .tup xs ∨ ∃ n, x = .ref n ∧ h[n]? = some (.lst xs)
theorem SeqLT.seq {x : T} {h : PH} {xs : List T} (s : SeqLT x h xs) : seqOf x h = some xs := by
  rcases s with rfl | ⟨n, rfl, e⟩
  · rfl
  · exact seqOf_of e
theorem SeqLT.ty {x : T} {h : PH} {xs : List T} (s : SeqLT x h xs) : ∃ t, tyN x h = some t ∧ (isSub t "list" || isSub t "tuple") = true := by
  rcases s with rfl | ⟨n, rfl, e⟩
  · exact ⟨"tuple", rfl, rfl⟩
  · exact ⟨"list", by simp [tyN, e], rfl⟩
noncomputable def cp_frame_of : CP := fun ts h k => ∃ x fr, ts = [x] ∧ SeqLT x h (tN fr) ∧ Fr fr ∧ vol fr ≤ 64 ∧ k (.tup (tN fr)) h
theorem len_frame_of : ∀ ts h k, cp_frame_of ts h k → ts.length = 1 := by
  rintro ts h k ⟨_, _, rfl, _⟩
  rfl
theorem vc_frame_of : ∀ ts h k, cp_frame_of ts h k → W_frame_of cp_is_whole { nx := fun _ h' => k .non h', rt := k } (begin_ 3 ts) h := by
  rintro ts h0 k ⟨x, fr, rfl, hx, ⟨f1, f2, f3⟩, hv, hk⟩
  obtain ⟨t, ht, hty⟩ := hx.ty
  have b1 : (1 : Int) ≤ fr.length := by omega
  have b2 : (fr.length : Int) ≤ 6 := by omega
  unfold W_frame_of
  simp! only [begin_, ht, hty, hx.seq, tN_len, b1, b2]
  refine forL_inv _ (fun i env h => h = h0 ∧ ∃ a, env = [some x, some (.int (vol (fr.take i) : Nat)), a]) ⟨rfl, _, rfl⟩ (fun i env h q => by rw [q.1]; exact hx.seq) ?_ ?_
  · rintro i y env h hy ⟨rfl, a, rfl⟩
    obtain ⟨z, hz, rfl⟩ := tN_get hy
    have hz23 := f3 z (List.mem_of_getElem? hz)
    have c1 : (2 : Int) ≤ z := by omega
    have c2 : (z : Int) ≤ 3 := by omega
    simp! only [if_true]
    refine ⟨_, rfl, rfl, ?_⟩
    simp! only [wholeT, c1, c2]
    have := (K23.take ⟨f2, f3⟩ i : K23 _).vol
    refine ⟨cmul_l (by omega) (by omega), trivial, some (.int z), ?_⟩
    rw [take_snoc hz, vol_snoc]
    simp
  · rintro env h ⟨rfl, a, rfl⟩
    rw [tN_len, List.take_length]
    have : ¬ ((vol fr : Nat) : Int) > 64 := by omega
    simp! only [this, hx.seq]
    exact hk
noncomputable abbrev Tab := List Nat × List Int
structure TabOk (fr : List Nat) (w : Int) (x : Tab) : Prop where
  grp : Grp fr x.1
  len : x.2.length = volG fr x.1
  nn : ∀ c ∈ x.2, 0 ≤ c
  sum : x.2.sum = w
structure FamOk (fr : List Nat) (tb : List Tab) (w : Int) : Prop where
  hfr : Fr fr
  hvol : vol fr ≤ 64
  pos : 1 ≤ tb.length
  most : tb.length ≤ 8
  tab : ∀ x ∈ tb, TabOk fr w x
  all : ∀ m, m < fr.length → ∃ x ∈ tb, m ∈ x.1
  rows : (tb.map fun x => volG fr x.1).sum ≤ 60
  w1 : 1 ≤ w
  w9 : w ≤ 1000000000
end PF
set_option Elab.async false
set_option linter.all false
set_option maxRecDepth 100000
namespace PN
open PySem L2 Pu ZP PL LH
noncomputable def PenOk (n sc : Nat) (ns : List Int) (q : Nat) (h : PH) : Prop := ∃ b c d : Int, h[n]? = some (.lst [.ref sc, .int b, .int c, .int d]) ∧ 0 ≤ d ∧ d ≤ q ∧ h[sc]? = some (.fro (ns.map T.int)) ∧ (b = 0 ∨ ns ≠ [])
theorem map_at {α : Type} {f : α → T} {xs : List α} {i : Nat} {x : α} (h : xs[i]? = some x) : atI (xs.map f) (i : Int) = some (f x) := by
  have hl := (List.getElem?_eq_some_iff.mp h).1
  rw [atI_nn (by omega) (by rw [List.length_map]; omega)]
  simp [h]
noncomputable def G6 (g : List Nat) : Prop := g ≠ [] ∧ g.Pairwise (· < ·) ∧ ∀ m ∈ g, m < 6
end PN
set_option Elab.async false
set_option linter.all false
set_option maxRecDepth 100000
namespace PO
open PySem L2 Pu ZP PL LH PN
noncomputable def othersOf (gs : List (List Nat)) (left : List Nat) (k m : Nat) : List Nat := left.filter fun i => decide (i ≠ k) && decide (m ∈ gs.getD i [])
noncomputable def keeps (gs : List (List Nat)) (left : List Nat) (k j : Nat) : Bool := decide (k ≠ j) && decide (k ∈ left) && decide (j ∈ left) && (gs.getD k []).all fun m => decide (m ∈ gs.getD j []) || (othersOf gs left k m).isEmpty
theorem getD_some {gs : List (List Nat)} {i : Nat} (h : i < gs.length) : gs[i]? = some (gs.getD i []) := by
  rw [List.getD_eq_getElem?_getD, List.getElem?_eq_getElem h]
  rfl
noncomputable def pT (p : Nat × Nat) : T := .tup [.int (p.1 : Int), .int (p.2 : Int)]
noncomputable def pairsAt (gs : List (List Nat)) (left : List Nat) (k : Nat) : List (Nat × Nat) := (left.filter fun j => keeps gs left k j).map fun j => (k, j)
noncomputable def allPairs (gs : List (List Nat)) (left : List Nat) : List (Nat × Nat) := left.flatMap (pairsAt gs left)
noncomputable def offR (gs : List (List Nat)) : Nat → List (Nat × Nat) → List Nat → List (Nat × Nat) × List Nat
  | 0, ps, left => (ps, left)
  | f + 1, ps, left => match allPairs gs left with
    | [] => (ps, left)
    | p :: _ => offR gs f (ps ++ [p]) (left.erase p.1)
noncomputable def off (gs : List (List Nat)) : List (Nat × Nat) × List Nat := offR gs gs.length [] (List.range gs.length)
theorem eqT_nilX {h : PH} {A N : Nat} {xs : List T} (hA : h[A]? = some (.lst xs)) (hN : h[N]? = some (.lst [])) : eqT h 40 (.ref A) (.ref N) = some xs.isEmpty := by
  rw [eqT_ref (n := 39) hA hN]
  cases xs <;> rfl
end PO
set_option Elab.async false
set_option linter.all false
set_option maxRecDepth 100000
namespace PM
open Classical
noncomputable abbrev Hy := List (List Nat)
noncomputable def Tog (H : Hy) (S : List Nat) : Prop := ∃ g ∈ H, ∀ x ∈ S, x ∈ g
noncomputable def GRing (A : Nat → Nat → Prop) (L : List Nat) : Prop := 4 ≤ L.length ∧ L.Nodup ∧ ∀ (i j x y : Nat), L[i]? = some x → L[j]? = some y → i < j → (A x y ↔ (j = i + 1 ∨ (i = 0 ∧ j + 1 = L.length)))
noncomputable def Ring (H : Hy) (L : List Nat) : Prop := GRing (fun x y => Tog H [x, y]) L
noncomputable def Knot (H : Hy) (L : List Nat) : Prop := 3 ≤ L.length ∧ L.Nodup ∧ ¬Tog H L ∧ ∀ x ∈ L, Tog H (L.erase x)
noncomputable def Bad (H : Hy) : Prop := ∃ L, Ring H L ∨ Knot H L
inductive Q (A : Nat → Nat → Prop) (P : Nat → Prop) : Nat → Nat → Prop
  | one {c : Nat} : P c → Q A P c c
  | step {c d e : Nat} : Q A P c d → P e → A d e → Q A P c e
end PM
set_option Elab.async false
set_option linter.all false
set_option maxRecDepth 100000
namespace PM
open Classical
open PO (keeps othersOf allPairs pairsAt off offR)
noncomputable def cut (gs : List (List Nat)) (S : List Nat) : List (List Nat) := gs.map fun g => g.filter fun x => decide (x ∈ S)
noncomputable def BadIn (gs : List (List Nat)) (S : List Nat) : Prop := ∃ L, (∀ x ∈ L, x ∈ S) ∧ (Ring gs L ∨ Knot gs L)
noncomputable def Way (gs : List (List Nat)) (L R : List Nat) : Prop := R ≠ [] ∧ R.Nodup ∧ (∀ x ∈ R, x ∈ L) ∧ ∀ i x y, R[i]? = some x → R[i + 1]? = some y → Tog gs [x, y]
end PM
set_option Elab.async false
set_option linter.all false
set_option maxRecDepth 100000
namespace PV
open PySem L2 Pu ZP PL
open LH (tG flat_tN in_tN)
open PN (map_at)
open PO (keeps othersOf pT allPairs pairsAt off offR getD_some)
theorem seqOf_gro {h h' : PH} (G : Gro h h') {t : T} {xs : List T} (e : seqOf t h = some xs) : seqOf t h' = some xs := by
  cases t with
  | tup ts => exact e
  | ref n =>
    rcases seqOf_ref e with z | z
    · have := G _ _ z
      simp only [seqOf, this]
    · have := G _ _ z
      simp only [seqOf, this]
  | non => cases e
  | bl _ => cases e
  | int _ => cases e
  | str _ => cases e
noncomputable def GsL (h : PH) : List T → List (List Nat) → Prop
  | [], [] => True
  | t :: ts, g :: gs => seqOf t h = some (tN g) ∧ GsL h ts gs
  | _, _ => False
theorem filt_true {α : Type} (l : List α) : (l.filter fun _ => true) = l := by
  induction l with
  | nil => rfl
  | cons a l ih => rw [List.filter_cons, if_pos rfl, ih]
theorem comp_fil {α : Type} {chk : PH → Prop} {j : Nat} {wc : WT} {we : WE} {env : En} {k : WK} {h : PH} (zs : List α) (emb f : α → T) (p : α → Bool) (hl : zs.length ≤ 10000)
    (hc : ∀ z ∈ zs, ∀ h', Gro h h' → ∀ K : Bool → PH → Prop, (∀ h'', Gro h' h'' → K (p z) h'') → wc ((env.set j none).set j (some (emb z))) h' K)
    (he : ∀ z ∈ zs, p z = true → ∀ h', Gro h h' → ∀ K : WK, (∀ h'', Gro h' h'' → K (f z) h'') → we ((env.set j none).set j (some (emb z))) h' K)
    (hchk : ∀ h', Gro h h' → chk h') (hk : ∀ h', Gro h h' → k (.ref h'.length) (h' ++ [.lst ((zs.filter p).map f)])) : compL chk j wc we env k (zs.map emb) [] h := by
  refine compL_inv _ (fun i acc h' => Gro h h' ∧ acc = (((zs.take i).filter p).map f)) ⟨Gro.refl _, rfl⟩ (fun i acc h' q => hchk h' q.1) (fun i acc h' q => ?_) ?_ ?_
  · have := List.length_filter_le p (zs.take i)
    rw [q.2, List.length_map, sizeLine_eq]
    simp at this
    omega
  · rintro i x acc h' hx ⟨G, rfl⟩
    rw [List.getElem?_map] at hx
    obtain ⟨z, hz, rfl⟩ := Option.map_eq_some_iff.mp hx
    have hm := List.mem_of_getElem? hz
    refine hc z hm h' G _ fun h2 G2 => ?_
    rw [take_snoc hz, List.filter_append, List.filter_cons]
    cases e : p z with
    | true =>
      simp only [if_true]
      refine he z hm e h2 (G.trans G2) _ fun h3 G3 => ⟨(G.trans G2).trans G3, ?_⟩
      simp
    | false =>
      simp only [Bool.false_eq_true, if_false]
      exact ⟨G.trans G2, by simp⟩
  · rintro acc h' ⟨G, rfl⟩
    rw [List.length_map, List.take_length]
    exact hk h' G
theorem in_tI (g : List Nat) (i : Int) : ((tN g).any fun t => eqF t (.int i)) = decide (i ∈ g.map fun (n : Nat) => (n : Int)) := by
  induction g with
  | nil => rfl
  | cons a g ih =>
    have ih' : (List.any (tN g) fun t => eqF t (.int i)) = decide (i ∈ g.map fun (n : Nat) => (n : Int)) := ih
    show (eqF (.int (a : Int)) (.int i) || List.any (tN g) fun t => eqF t (.int i)) = _
    rw [ih', List.map_cons]
    simp only [eqF, List.mem_cons, Bool.decide_or]
    congr 1
    by_cases e : (a : Int) = i
    · simp [e]
    · have : ¬i = (a : Int) := fun z => e z.symm
      simp [e, this]
noncomputable def hasB (g : List Nat) (is : List Int) : Bool := is.all fun i => decide (i ∈ g.map fun (n : Nat) => (n : Int))
noncomputable def togB (gs : List (List Nat)) (is : List Int) : Bool := gs.any fun g => hasB g is
theorem tN_map (l : List Nat) : tN l = l.map fun (n : Nat) => T.int (n : Int) := rfl
theorem tN_ints (l : List Nat) : tN l = (l.map fun (n : Nat) => (n : Int)).map T.int := by
  rw [List.map_map]
  rfl
noncomputable def knotB (gs : List (List Nat)) (is : List Int) : Bool := decide (3 ≤ is.length) && !togB gs is && is.all fun m => togB gs (is.filter fun i => decide (i ≠ m))
end PV
set_option Elab.async false
set_option linter.all false
set_option maxRecDepth 100000
namespace PW
open PySem L2 Pu ZP PL
open LH (tG flat_tN in_tN)
open PN (map_at)
open PO (keeps pT off getD_some)
open PV
open PM (Tog Ring Knot Bad BadIn cut Way)
noncomputable def but (M : List Nat) (m : Nat) : List Nat := M.filter fun x => decide (x ≠ m)
end PW
set_option Elab.async false
set_option linter.all false
set_option maxRecDepth 100000
namespace PX
open PySem L2 Pu ZP PL
open LH (tG flat_tN in_tN)
open PO (keeps pT off getD_some)
open PV
noncomputable def pZ (p : Int × Int) : T := .tup [.int p.1, .int p.2]
noncomputable def inL (left : List Nat) (i : Int) : Bool := decide (i ∈ left.map fun (n : Nat) => (n : Int))
noncomputable def okP (gs : List (List Nat)) (left : List Nat) (p : Int × Int) : Bool := inL left p.1 && inL left p.2 && keeps gs left p.1.toNat p.2.toNat
noncomputable def takeP (gs : List (List Nat)) : List Nat → List (Int × Int) → Option (List Nat)
  | left, [] => some left
  | left, p :: r => if okP gs left p = true then takeP gs (left.erase p.1.toNat) r else none
theorem inL_iff {left : List Nat} {i : Int} (h : inL left i = true) : i = (i.toNat : Int) ∧ i.toNat ∈ left := by
  unfold inL at h
  rw [decide_eq_true_eq] at h
  obtain ⟨n, hn, rfl⟩ := List.mem_map.mp h
  exact ⟨by omega, by simpa using hn⟩
noncomputable def tookB (gs : List (List Nat)) (ps : List (Int × Int)) : Bool := (takeP gs (List.range gs.length) ps).isSome && decide (gs.length ≤ ps.length + 1)
noncomputable def besB (gs : List (List Nat)) (is : List Int) (i j : Nat) : Bool := togB gs [is.getD j 0, is.getD i 0] == (decide (i - j = 1) || decide (i - j = is.length - 1))
noncomputable def ringB (gs : List (List Nat)) (is : List Int) : Bool := decide (4 ≤ is.length) && (List.range is.length).all fun i => (List.range i).all fun j => besB gs is i j
theorem togB_comm (gs : List (List Nat)) (x y : Int) : togB gs [x, y] = togB gs [y, x] := by
  unfold togB hasB
  congr 1
  funext g
  simp only [List.all_cons, List.all_nil, Bool.and_true]
  exact Bool.and_comm _ _
theorem ix_int {is : List Int} {i : Nat} (h : i < is.length) : atI (is.map T.int) (i : Int) = some (.int (is.getD i 0)) := by
  refine PN.map_at (f := T.int) ?_
  rw [List.getD_eq_getElem?_getD, List.getElem?_eq_getElem h]
  rfl
theorem ring_no {gs : List (List Nat)} {is : List Int} {i j : Nat} (hi : i < is.length) (hj : j < i) (e : besB gs is i j = false) : ringB gs is = false := by
  unfold ringB
  have : ((List.range is.length).all fun i => (List.range i).all fun j => besB gs is i j) = false := by
    rw [List.all_eq_false]
    refine ⟨i, List.mem_range.mpr hi, ?_⟩
    rw [Bool.not_eq_true, List.all_eq_false]
    exact ⟨j, List.mem_range.mpr hj, by rw [e]; decide⟩
  rw [this, Bool.and_false]
theorem ring_yes {gs : List (List Nat)} {is : List Int} (h4 : 4 ≤ is.length) (h : ∀ i < is.length, ∀ j < i, besB gs is i j = true) : ringB gs is = true := by
  unfold ringB
  rw [decide_eq_true h4, Bool.true_and, List.all_eq_true]
  intro i hi
  rw [List.all_eq_true]
  intro j hj
  exact h i (List.mem_range.mp hi) j (List.mem_range.mp hj)
noncomputable abbrev sTree : Str := PySem.Str.ofString "tree"
noncomputable abbrev sRing : Str := PySem.Str.ofString "ring"
noncomputable abbrev sKnot : Str := PySem.Str.ofString "knot"
noncomputable def markB (gs : List (List Nat)) (w : Str) (is : List Int) : Bool :=
  if (w == sTree) = true then is.isEmpty && decide (gs.length ≤ 1) else decide is.Nodup && (if (w == sRing) = true then ringB gs is else (w == sKnot) && knotB gs is)
noncomputable def pairB (gs : List (List Nat)) (w : Str) (ps : List (Int × Int)) : Bool := (w == sTree) && tookB gs ps
theorem eqT_s (h : PH) (v w : Str) : eqT h 40 (.str v) (.str w) = some (v == w) := rfl
end PX
set_option Elab.async false
set_option linter.all false
set_option maxRecDepth 100000
namespace K16
open PySem L2 Pu ZP PL
open LH (tG flat_tN in_tN)
open PN (map_at PenOk G6)
open PO (keeps pT off getD_some eqT_nilX)
open PV (seqOf_gro GsL comp_fil hasB togB knotB filt_true in_tI tN_map tN_ints)
open PX (pZ inL okP takeP tookB ringB besB markB pairB eqT_s ix_int ring_no ring_yes togB_comm inL_iff sTree sRing sKnot)
theorem cut_mem {xs : List T} {lo hi : Option Int} {y : T} (h : y ∈ cutT xs lo hi) : y ∈ xs := by
  unfold cutT at h
  exact List.mem_of_mem_drop (List.mem_of_mem_take h)
theorem cut_len (xs : List T) (lo hi : Option Int) : (cutT xs lo hi).length ≤ xs.length := by
  unfold cutT
  rw [List.length_take, List.length_drop]
  omega
end K16
set_option Elab.async false
set_option linter.all false
set_option maxRecDepth 100000
namespace K01
open PySem L2 Pu ZP PL LH
open PF (SeqLT wholeT cp_is_whole cp_frame_of)
noncomputable def good (xs : List T) : Prop := ∃ fr : List Nat, xs = tN fr ∧ Fr fr ∧ vol fr ≤ 64
noncomputable def Ty (h : PH) (xs : List T) : Prop := ∀ t ∈ xs, ∃ s, tyN t h = some s
noncomputable def bad (v : T) (h : PH) : Prop := (∃ s, tyN v h = some s ∧ (isSub s "list" || isSub s "tuple") = false) ∨ ∃ xs, SeqLT v h xs ∧ Ty h xs ∧ xs.length ≤ 100 ∧ ¬ good xs
noncomputable def W_frame_ofX (cp_is_whole : CP) : WS :=
  wSeq (wIf (wNot (wTest (wIsi2 "list" "tuple" (wVar 0)))) (wRaise "NoFrame") (wNext))
  (wSeq (wIf (wNot (wTest (wChain pLe pLe (wC (.int 1)) (wCB pLen (wCons (wVar 0) (wNil))) (wC (.int 6))))) (wRaise "NoFrame") (wNext))
  (wSeq (wAsg (wC (.int 1)) (gN 1))
  (wSeq (wFor (wSeqI (wVar 0)) (gN 2) (wSeq (wIf (wOr (wNot (wTest (wCall cp_is_whole (wCons (wVar 2) (wNil))))) (wNot (wTest (wChain pLe pLe (wC (.int 2)) (wVar 2) (wC (.int 3)))))) (wRaise "NoFrame") (wNext))
  (wAsg (wOp pMul (wVar 1) (wVar 2)) (gN 1))))
  (wSeq (wIf (wTest (wOp pGt (wVar 1) (wC (.int 64)))) (wRaise "NoFrame") (wNext))
  (wRet (wCB pTuple (wCons (wVar 0) (wNil))))))))
noncomputable def cpx_frame_of : CPX := fun ts h _ x => ∃ v, ts = [v] ∧ bad v h ∧ x "NoFrame" [] h
theorem len_frame_ofX : ∀ ts h k x, cpx_frame_of ts h k x → ts.length = 1 := by
  rintro ts h k x ⟨_, rfl, _⟩
  rfl
theorem vc_frame_ofX : ∀ ts h k x, cpx_frame_of ts h k x → W_frame_ofX cp_is_whole { nx := fun _ h' => k .non h', rt := k, ex := x } (begin_ 3 ts) h := by
  rintro ts h0 k x ⟨v, rfl, hv, hx⟩
  unfold W_frame_ofX
  refine seq_cut fun U hU => ?_
  rcases hv with ⟨s, hs, hf⟩ | ⟨xs, sq, ty, hl, ng⟩
  · simp! only [begin_, hs, hf, wRaise]
    exact hx
  obtain ⟨t, ht, hty⟩ := sq.ty
  simp! only [begin_, ht, hty]
  subst hU
  refine seq_cut fun U hU => ?_
  by_cases l1 : 1 ≤ xs.length
  rotate_left
  · have b1 : ¬ (1 : Int) ≤ (xs.length : Int) := by omega
    simp! only [sq.seq, b1, wRaise]
    exact hx
  by_cases l2 : xs.length ≤ 6
  rotate_left
  · have b1 : (1 : Int) ≤ (xs.length : Int) := by omega
    have b2 : ¬ (xs.length : Int) ≤ 6 := by omega
    simp! only [sq.seq, b1, b2, wRaise]
    exact hx
  have b1 : (1 : Int) ≤ (xs.length : Int) := by omega
  have b2 : (xs.length : Int) ≤ 6 := by omega
  simp! only [sq.seq, b1, b2]
  subst hU
  refine seq_cut fun U hU => ?_
  simp! only [if_true]
  subst hU
  refine seq_cut fun U hU => ?_
  simp only [wFor, wSeqI, wVar, List.getElem?_cons_zero, List.getElem?_cons_succ, sq.seq]
  refine forL_inv _ (fun i env h => h = h0 ∧ ∃ (fr : List Nat) (a : Option T), xs.take i = tN fr ∧ (∀ z ∈ fr, 2 ≤ z ∧ z ≤ 3) ∧ env = [some v, some (.int (vol fr : Nat)), a]) ⟨rfl, [], _, by simp [tN], by simp, rfl⟩ (fun i env h q => by rw [q.1]; exact sq.seq) ?_ ?_
  · rintro i y env h hy ⟨rfl, fr, a, hfr, h23, rfl⟩
    have hym := List.mem_of_getElem? hy
    obtain ⟨sy, hsy⟩ := ty y hym
    simp only [gN, List.set_cons_zero, List.set_cons_succ]
    refine seq_cut fun U2 hU2 => ?_
    simp! only [if_true]
    refine ⟨y, rfl, by rw [hsy]; rfl, ?_⟩
    have frl : fr.length ≤ 6 := by
      have := congrArg List.length hfr
      rw [tN_len, List.length_take] at this
      omega
    cases y with
    | int z =>
      have hw : wholeT (.int z) = true := rfl
      simp! only [hw]
      by_cases c1 : 2 ≤ z
      rotate_left
      · simp! only [c1, wRaise]
        exact hx
      by_cases c2 : z ≤ 3
      rotate_left
      · simp! only [c1, c2, wRaise]
        exact hx
      simp! only [c1, c2]
      subst hU2
      simp! only [if_true]
      have hv9 : vol fr ≤ 729 := vol_le (fun z hz => (h23 z hz).2) frl
      refine ⟨cmul_l (by omega) (by omega), trivial, fr ++ [z.toNat], some (.int z), ?_, ?_, ?_⟩
      · rw [take_snoc hy, hfr]
        have : ((z.toNat : Nat) : Int) = z := by omega
        simp [tN, this]
      · intro q hq
        rcases List.mem_append.mp hq with hq | hq
        · exact h23 q hq
        · rw [List.mem_singleton.mp hq]; omega
      · have : ((z.toNat : Nat) : Int) = z := by omega
        rw [vol_snoc]
        simp [this]
    | non => simp! only [wholeT, wRaise]; exact hx
    | bl b => simp! only [wholeT, wRaise]; exact hx
    | str b => simp! only [wholeT, wRaise]; exact hx
    | tup b => simp! only [wholeT, wRaise]; exact hx
    | ref b => simp! only [wholeT, wRaise]; exact hx
  · rintro env h ⟨rfl, fr, a, hfr, h23, rfl⟩
    rw [List.take_length] at hfr
    show U _ _
    subst hU
    have big : ¬ vol fr ≤ 64 := fun hv => ng ⟨fr, hfr, ⟨by rw [hfr, tN_len] at l1; exact l1, by rw [hfr, tN_len] at l2; exact l2, h23⟩, hv⟩
    refine seq_cut fun U hU => ?_
    have : ((vol fr : Nat) : Int) > 64 := by omega
    simp! only [this, wRaise]
    exact hx
noncomputable def cp_law_refused : CP := fun ts h k => ∃ v, ts = [v] ∧ bad v h ∧ k (.bl true) h
theorem len_law_refused : ∀ ts h k, cp_law_refused ts h k → ts.length = 1 := by
  rintro ts h k ⟨_, rfl, _⟩
  rfl
noncomputable def Th (h : PH) (t : T) : Prop := ∀ h', Gro h h' → (∃ s, tyN t h' = some s) ∧ eqT h' 39 t t = some true
theorem Th.gro {h h' : PH} {t : T} (x : Th h t) (G : Gro h h') : Th h' t := fun h2 G2 => x h2 (G.trans G2)
theorem th_int (h : PH) (i : Int) : Th h (.int i) := fun h' _ => ⟨⟨_, rfl⟩, by show some (i == i) = _; simp⟩
theorem th_bl (h : PH) (b : Bool) : Th h (.bl b) := fun h' _ => ⟨⟨_, rfl⟩, by show some (b == b) = _; simp⟩
theorem th_str (h : PH) (b : Str) : Th h (.str b) := fun h' _ => ⟨⟨_, rfl⟩, by show some (b == b) = _; simp⟩
theorem th_non (h : PH) : Th h .non := fun h' _ => ⟨⟨_, rfl⟩, rfl⟩
theorem th_lst {h : PH} {r : Nat} {i : Int} (e : h[r]? = some (.lst [.int i])) : Th h (.ref r) := fun h' G => by
  have e' := G _ _ e
  refine ⟨⟨"list", ?_⟩, ?_⟩
  · show (match h'[r]? with | some (.lst _) => some "list" | some (.dK _) => some "dict" | some (.dT _) => some "dict" | _ => none) = _
    rw [e']
  · have := eqZ_map (f := eqT h' 38) (g := T.int) (fun a b => eqT_i h' 37 a b) [i] [i]
    rw [eqT_ref (n := 38) e' e']
    rw [decide_eq_true rfl] at this
    exact this
theorem eqZ_refl {f : T → T → Option Bool} : ∀ xs : List T, (∀ t ∈ xs, f t t = some true) → eqZ f xs xs = some true
  | [], _ => rfl
  | x :: xs, h => by
    unfold eqZ
    rw [h x (by simp), eqZ_refl xs fun t ht => h t (by simp [ht])]
    rfl
theorem ty_of {h : PH} {xs : List T} (x : ∀ t ∈ xs, Th h t) : Ty h xs := fun t ht => (x t ht h (Gro.refl _)).1
theorem tN_inj : ∀ {a b : List Nat}, tN a = tN b → a = b
  | [], [], _ => rfl
  | [], _ :: _, h => by simp [tN] at h
  | _ :: _, [], h => by simp [tN] at h
  | x :: a, y :: b, h => by
    simp only [tN, List.map_cons, List.cons.injEq, T.int.injEq] at h
    have : x = y := by omega
    rw [this, tN_inj h.2]
theorem not_good {xs : List T} {i : Nat} {t : T} (hi : xs[i]? = some t) (ht : ∀ z : Nat, 2 ≤ z → z ≤ 3 → t ≠ .int (z : Int)) : ¬ good xs := by
  rintro ⟨fr, rfl, hf, _⟩
  obtain ⟨z, hz, rfl⟩ := tN_get hi
  have := hf.2.2 z (List.mem_of_getElem? hz)
  exact ht z this.1 this.2 rfl
noncomputable def W_law_good : WS :=
  wSeq (wAsg (wC (.int 1)) (gN 1))
  (wSeq (wFor (wSeqI (wVar 0)) (gN 2) (wSeq (wIf (wOr (wTest (wIsi "bool" (wVar 2))) (wOr (wNot (wTest (wIsi "int" (wVar 2)))) (wTest (wOp pNotIn (wVar 2) (wTup (wCons (wC (.int 2)) (wCons (wC (.int 3)) (wNil)))))))) (wRet (wC (.bl false))) (wNext))
  (wAsg (wOp pMul (wVar 1) (wVar 2)) (gN 1))))
  (wRet (wAndV (wChain pLe pLe (wC (.int 1)) (wCB pLen (wCons (wVar 0) (wNil))) (wC (.int 6))) (wOp pLe (wVar 1) (wC (.int 64))))))
noncomputable def cp_law_good : CP := fun ts h k => ∃ N xs, ts = [.ref N] ∧ h[N]? = some (.lst xs) ∧ Ty h xs ∧ xs.length ≤ 100 ∧ ∀ b : Bool, (b = true ↔ good xs) → k (.bl b) h
theorem len_law_good : ∀ ts h k, cp_law_good ts h k → ts.length = 1 := by
  rintro ts h k ⟨_, _, rfl, _⟩
  rfl
theorem ty_ref {h : PH} {n : Nat} {s : String} (e : tyN (.ref n) h = some s) : isSub s "bool" = false ∧ isSub s "int" = false := by
  have e : (match h[n]? with | some (.lst _) => some "list" | some (.dK _) => some "dict" | some (.dT _) => some "dict" | _ => none) = some s := e
  split at e
  · cases e; decide
  · cases e; decide
  · cases e; decide
  · cases e
theorem vc_law_good : ∀ ts h k, cp_law_good ts h k → W_law_good { nx := fun _ h' => k .non h', rt := k } (begin_ 3 ts) h := by
  rintro ts h0 k ⟨N, xs, rfl, hN, ty, hl, hk⟩
  unfold W_law_good
  refine seq_cut fun U hU => ?_
  simp! only [begin_]
  subst hU
  refine seq_cut fun U hU => ?_
  simp only [wFor, wSeqI, wVar, List.getElem?_cons_zero, List.getElem?_cons_succ, seqOf_of hN]
  refine forL_inv _ (fun i env h => h = h0 ∧ ∃ (fr : List Nat) (a : Option T), xs.take i = tN fr ∧ (∀ z ∈ fr, 2 ≤ z ∧ z ≤ 3) ∧ env = [some (.ref N), some (.int (vol fr : Nat)), a]) ⟨rfl, [], _, by simp [tN], by simp, rfl⟩ (fun i env h q => by rw [q.1]; exact seqOf_of hN) ?_ ?_
  · rintro i y env h hy ⟨rfl, fr, a, hfr, h23, rfl⟩
    have hym := List.mem_of_getElem? hy
    obtain ⟨sy, hsy⟩ := ty y hym
    simp only [gN, List.set_cons_zero, List.set_cons_succ]
    refine seq_cut fun U2 hU2 => ?_
    have no : (∀ z : Nat, 2 ≤ z → z ≤ 3 → y ≠ .int (z : Int)) → k (.bl false) h := fun q => hk false ⟨fun z => (by cases z), fun g => absurd g (not_good hy q)⟩
    cases y with
    | int z =>
      have s1 : isSub "int" "bool" = false := by decide
      have s2 : isSub "int" "int" = true := by decide
      have ty1 : tyN (.int z) h = some "int" := rfl
      have fl : (flatT (.int z) = true ∧ ([T.int 2, T.int 3].all flatT) = true) := ⟨rfl, rfl⟩
      simp! only [ty1, s1, s2, pNotIn, pInB, true_and]
      refine ⟨by decide, fl.1, fl.2, ?_⟩
      have ea : (true != [T.int 2, T.int 3].any fun t => eqF t (.int z)) = !(decide (z = 2) || decide (z = 3)) := by
        simp only [List.any_cons, List.any_nil, eqF, Bool.or_false]
        cases h1 : ((2 : Int) == z) <;> cases h2 : ((3 : Int) == z) <;> simp_all <;> omega
      rw [ea]
      by_cases c : z = 2 ∨ z = 3
      rotate_left
      · have d : (!(decide (z = 2) || decide (z = 3))) = true := by
          rw [not_or] at c
          simp [c.1, c.2]
        simp! only [d, if_true]
        exact no fun w h1 h2 e => by cases e; omega
      have d : (!(decide (z = 2) || decide (z = 3))) = false := by rcases c with rfl | rfl <;> rfl
      simp! only [d]
      subst hU2
      simp! only [if_true]
      refine ⟨cmul_r (by omega) (by omega), trivial, fr ++ [z.toNat], some (.int z), ?_, ?_, ?_⟩
      · rw [take_snoc hy, hfr]
        have : ((z.toNat : Nat) : Int) = z := by omega
        simp [tN, this]
      · intro q hq
        rcases List.mem_append.mp hq with hq | hq
        · exact h23 q hq
        · rw [List.mem_singleton.mp hq]; omega
      · have : ((z.toNat : Nat) : Int) = z := by omega
        rw [vol_snoc]
        simp [this]
    | non =>
      have s1 : isSub "NoneType" "bool" = false := by decide
      have s2 : isSub "NoneType" "int" = false := by decide
      simp! only [tyN, s1, s2]
      exact no fun w h1 h2 e => by cases e
    | bl b =>
      have s1 : isSub "bool" "bool" = true := by decide
      simp! only [tyN, s1]
      exact no fun w h1 h2 e => by cases e
    | str b =>
      have s1 : isSub "str" "bool" = false := by decide
      have s2 : isSub "str" "int" = false := by decide
      simp! only [tyN, s1, s2]
      exact no fun w h1 h2 e => by cases e
    | tup b =>
      have s1 : isSub "tuple" "bool" = false := by decide
      have s2 : isSub "tuple" "int" = false := by decide
      simp! only [tyN, s1, s2]
      exact no fun w h1 h2 e => by cases e
    | ref b =>
      obtain ⟨s1, s2⟩ := ty_ref hsy
      simp! only [hsy, s1, s2]
      exact no fun w h1 h2 e => by cases e
  · rintro env h ⟨rfl, fr, a, hfr, h23, rfl⟩
    rw [List.take_length] at hfr
    show U _ _
    subst hU
    have hxl : xs.length = fr.length := by rw [hfr, tN_len]
    have gi : good xs ↔ (1 ≤ fr.length ∧ fr.length ≤ 6 ∧ vol fr ≤ 64) := by
      constructor
      · rintro ⟨fr', e, hf, hv⟩
        rw [hfr] at e
        rw [tN_inj e]
        exact ⟨hf.1, hf.2.1, hv⟩
      · rintro ⟨h1, h2, h3⟩
        exact ⟨fr, hfr, ⟨h1, h2, h23⟩, h3⟩
    by_cases l1 : 1 ≤ fr.length
    rotate_left
    · have b1 : ¬ (1 : Int) ≤ (fr.length : Int) := by omega
      simp! only [seqOf_of hN, hxl, b1]
      exact hk false ⟨fun z => (by cases z), fun g => absurd (gi.mp g).1 l1⟩
    by_cases l2 : fr.length ≤ 6
    rotate_left
    · have b1 : (1 : Int) ≤ (fr.length : Int) := by omega
      have b2 : ¬ (fr.length : Int) ≤ 6 := by omega
      simp! only [seqOf_of hN, hxl, b1, b2]
      exact hk false ⟨fun z => (by cases z), fun g => absurd (gi.mp g).2.1 l2⟩
    have b1 : (1 : Int) ≤ (fr.length : Int) := by omega
    have b2 : (fr.length : Int) ≤ 6 := by omega
    simp! only [seqOf_of hN, hxl, b1, b2]
    refine hk _ ?_
    rw [gi, decide_eq_true_iff]
    constructor
    · intro q; exact ⟨l1, l2, by omega⟩
    · intro q; have := q.2.2; omega
noncomputable def W_law_right (cp_law_good : CP) (cp_law_refused : CP) (cp_frame_of : CP) : WS :=
  wSeq (wAsg (wCB pList (wCons (wVar 0) (wNil))) (gN 1))
  (wSeq (wIf (wNot (wTest (wCall cp_law_good (wCons (wVar 0) (wNil))))) (wRet (wAndV (wCall cp_law_refused (wCons (wVar 1) (wNil))) (wAndV (wOp pEq (wVar 1) (wVar 0)) (wCall cp_law_refused (wCons (wCB pTuple (wCons (wVar 0) (wNil))) (wNil)))))) (wNext))
  (wSeq (wAsg (wCall cp_frame_of (wCons (wVar 1) (wNil))) (gN 2))
  (wSeq (wDrop (wBM isLst (pMt fClear) (wVar 1) wNil))
  (wSeq (wIf (wOr (wNot (wTest (wIsi "tuple" (wVar 2)))) (wOr (wTest (wOp pNe (wVar 2) (wCB pTuple (wCons (wVar 0) (wNil))))) (wTest (wOp pNe (wCall cp_frame_of (wCons (wCB pTuple (wCons (wVar 0) (wNil))) (wNil))) (wCB pTuple (wCons (wVar 0) (wNil))))))) (wRet (wC (.bl false))) (wNext))
  (wRet (wOp pEq (wComp (wSeqI (wVar 2)) 3 (wOr (wTest (wIsi "bool" (wVar 3))) (wNot (wTest (wIsi "int" (wVar 3))))) (wVar 3)) (wLst (wNil))))))))
noncomputable def cp_law_right : CP := fun ts h k => ∃ N xs, ts = [.ref N] ∧ h[N]? = some (.lst xs) ∧ xs.length ≤ 100 ∧ (∀ t ∈ xs, Th h t) ∧ ∀ h', Gro h h' → k (.bl true) h'
theorem len_law_right : ∀ ts h k, cp_law_right ts h k → ts.length = 1 := by
  rintro ts h k ⟨_, _, rfl, _⟩
  rfl
theorem vc_law_right : ∀ ts h k, cp_law_right ts h k → W_law_right cp_law_good cp_law_refused cp_frame_of { nx := fun _ h' => k .non h', rt := k } (begin_ 4 ts) h := by
  rintro ts h0 k ⟨N, xs, rfl, hN, hl, th, hk⟩
  unfold W_law_right
  refine seq_cut fun U hU => ?_
  simp! only [begin_, seqOf_of hN]
  have G1 : Gro h0 (h0 ++ [.lst xs]) := Gro.app _ _
  have eH := get_app_new h0 (.lst xs)
  have eN := G1 _ _ hN
  have ty := ty_of fun t ht => (th t ht).gro G1
  have lN := lt_of_get hN
  subst hU
  refine seq_cut fun U hU => ?_
  simp only [wIf, wNot, wTest, wCall, wCons, wNil, wVar, List.getElem?_cons_zero, List.getElem?_cons_succ]
  refine ⟨N, xs, rfl, eN, ty, hl, fun b hb => ?_⟩
  cases b with
  | false =>
    have ng : ¬ good xs := fun g => by have := hb.mpr g; cases this
    simp! only [if_true]
    refine ⟨.ref h0.length, rfl, .inr ⟨xs, .inr ⟨_, rfl, eH⟩, ty, hl, ng⟩, ?_⟩
    have ee : eqT (h0 ++ [.lst xs]) 40 (.ref h0.length) (.ref N) = some true := by
      rw [eqT_ref (n := 39) eH eN]
      exact eqZ_refl xs fun t ht => ((th t ht) _ G1).2
    simp! only [ee, seqOf_of eN]
    exact ⟨.tup xs, rfl, .inr ⟨xs, .inl rfl, ty, hl, ng⟩, hk _ G1⟩
  | true =>
    obtain ⟨fr, rfl, hf, hv⟩ := hb.mp rfl
    simp! only [if_true]
    subst hU
    refine seq_cut fun U hU => ?_
    simp! only [if_true]
    refine ⟨.ref h0.length, fr, rfl, .inr ⟨_, rfl, eH⟩, hf, hv, ?_⟩
    subst hU
    refine seq_cut fun U hU => ?_
    simp! only [lstOf_of eH, List.reverse_nil]
    subst hU
    refine ⟨trivial, Nat.zero_le _, ?_⟩
    have G2 : Gro h0 ((h0 ++ [Ob.lst (tN fr)]).set h0.length (Ob.lst [])) := G1.set (Nat.le_refl _)
    have eN2 := G2 _ _ hN
    generalize (h0 ++ [Ob.lst (tN fr)]).set h0.length (Ob.lst []) = h2 at G2 eN2 ⊢
    refine seq_cut fun U hU => ?_
    have tt : isSub "tuple" "tuple" = true := by decide
    have tyt : tyN (.tup (tN fr)) h2 = some "tuple" := rfl
    have e1 : eqT h2 40 (.tup (tN fr)) (.tup (tN fr)) = some true := by rw [eqT_tN h2 38, decide_eq_true rfl]
    simp! only [tyt, tt, seqOf_of eN2, e1]
    refine ⟨.tup (tN fr), fr, rfl, .inl rfl, hf, hv, ?_⟩
    simp! only [seqOf_of eN2, e1]
    subst hU
    simp only [wRet, wOp, wComp, wSeqI, wVar, List.getElem?_cons_zero, List.getElem?_cons_succ, seqOf_tup]
    have s1 : isSub "int" "bool" = false := by decide
    have s2 : isSub "int" "int" = true := by decide
    rw [PV.tN_map]
    refine PV.comp_fil fr (fun (n : Nat) => T.int (n : Int)) (fun (n : Nat) => T.int (n : Int)) (fun _ => false) (by have := hf.2.1; omega) ?_ ?_ (fun _ _ => trivial) fun h3 G3 => ?_
    · intro z _ h' _ K hK
      have ty1 : tyN (.int (z : Int)) h' = some "int" := rfl
      simp! only [ty1, s1, s2]
      exact hK h' (Gro.refl _)
    · intro z _ hz
      cases hz
    have ef : (fr.filter fun _ => false) = [] := by simp
    rw [ef]
    simp! only [if_true]
    refine ⟨by decide, ?_⟩
    have eA := get_app_left (g := [Ob.lst ([] : List T)]) (get_app_new h3 (Ob.lst ([] : List T)))
    have eB := get_app_new (h3 ++ [Ob.lst ([] : List T)]) (Ob.lst ([] : List T))
    rw [eqT_ref (n := 39) eA eB]
    exact hk _ ((G2.trans G3).ap).ap
noncomputable def W_law (cp_law_take : CP) (cp_law_right : CP) (cp_law_refused : CP) (cp_frame_of : CP) : WS :=
  wSeq (wAsg (wLst (wCons (wVar 0) (wCons (wC (.int 0)) (wCons (wC (.int 0)) (wNil))))) (gN 1))
  (wSeq (wFor (wRng1 (wCons (wC (.int 7)) (wNil))) (gN 2) (wSeq (wAsg (wComp (wRng1 (wCons (wCall cp_law_take (wCons (wVar 1) (wCons (wC (.int 9)) (wNil)))) (wNil))) 7 (wYes) (wOp pAdd (wC (.int 2)) (wCall cp_law_take (wCons (wVar 1) (wCons (wC (.int 2)) (wNil)))))) (gN 3))
  (wSeq (wIf (wAnd (wTest (wOp pNe (wVar 3) (wLst (wNil)))) (wTest (wOp pEq (wCall cp_law_take (wCons (wVar 1) (wCons (wC (.int 2)) (wNil)))) (wC (.int 1))))) (wSeq (wAsg (wCall cp_law_take (wCons (wVar 1) (wCons (wCB pLen (wCons (wVar 3) (wNil))) (wNil)))) (gN 4))
  (wSeq (wAsg (wOp pIx (wLst (wCons (wUn pNeg (wC (.int 1))) (wCons (wC (.int 0)) (wCons (wC (.int 1)) (wCons (wC (.int 4)) (wCons (wC (.int 5)) (wCons (wOp pAdd (wOp pMul (wC (.int 2)) (wOp pPow (wC (.int 10)) (wC (.int 59)))) (wC (.int 3))) (wCons (wC (.bl true)) (wCons (wC .non) (wCons (wC (.str (PySem.Str.ofString "2"))) (wCons (wLst (wCons (wC (.int 2)) (wNil))) (wNil)))))))))))) (wCall cp_law_take (wCons (wVar 1) (wCons (wC (.int 10)) (wNil))))) (gN 5))
  (wIf (wNot (wTest (wCall cp_law_right (wCons (wOp pAdd (wOp pAdd (wSl pSlA (wVar 3) wNoPart (wPart (wVar 4))) (wLst (wCons (wVar 5) (wNil)))) (wSl pSlA (wVar 3) (wPart (wOp pAdd (wVar 4) (wC (.int 1)))) wNoPart)) (wNil))))) (wRet (wC (.bl false))) (wNext)))) (wNext))
  (wIf (wNot (wTest (wCall cp_law_right (wCons (wVar 3) (wNil))))) (wRet (wC (.bl false))) (wNext)))))
  (wSeq (wFor (wSeqI (wLst (wCons (wC .non) (wCons (wC (.int 2)) (wCons (wC (.bl true)) (wCons (wC (.str (PySem.Str.ofString "22"))) (wCons (wDisp1 2 3) (wNil)))))))) (gN 6) (wIf (wNot (wTest (wCall cp_law_refused (wCons (wVar 6) (wNil))))) (wRet (wC (.bl false))) (wNext)))
  (wRet (wAndV (wOp pEq (wCall cp_frame_of (wCons (wOp pMul (wLst (wCons (wC (.int 2)) (wNil))) (wC (.int 6))) (wNil))) (wOp pMul (wTup (wCons (wC (.int 2)) (wNil))) (wC (.int 6)))) (wCall cp_law_refused (wCons (wOp pAdd (wOp pMul (wLst (wCons (wC (.int 2)) (wNil))) (wC (.int 5))) (wLst (wCons (wC (.int 3)) (wNil)))) (wNil)))))))
noncomputable abbrev cp_law : CP := cpLaw
noncomputable abbrev len_law := len_cpLaw
theorem th_N (h : PH) (ks : List Nat) : ∀ t ∈ tN ks, Th h t := fun t ht => by
  obtain ⟨n, _, rfl⟩ := List.mem_map.mp ht
  exact th_int h n
theorem dict_bad {h : PH} {n : Nat} {kvs : List (Key × T)} (e : h[n]? = some (.dK kvs)) : bad (.ref n) h := .inl ⟨"dict", by
  show (match h[n]? with | some (.lst _) => some "list" | some (.dK _) => some "dict" | some (.dT _) => some "dict" | _ => none) = _
  rw [e], by decide⟩
theorem vc_law : ∀ ts h k, cp_law ts h k → W_law cp_law_take cp_law_right cp_law_refused cp_frame_of { nx := fun _ h' => k .non h', rt := k } (begin_ 8 ts) h := by
  rintro ts h0 k ⟨ns, rfl, rfl, hl, hk⟩
  unfold W_law
  refine seq_cut fun U hU => ?_
  simp! only [begin_]
  refine ⟨by decide, ?_⟩
  have S1 : StOk 1 0 ns [Ob.fro (ns.map T.int), Ob.lst [.ref 0, .int 0, .int 0]] := ⟨0, 0, rfl, by decide, rfl⟩
  generalize [Ob.fro (ns.map T.int), Ob.lst [.ref 0, .int 0, .int 0]] = h1 at S1 ⊢
  subst hU
  refine seq_cut fun U hU => ?_
  simp only [wFor, wRng1, wCons, wNil, wC]
  refine ⟨by decide, by decide, ?_⟩
  refine forL_inv _ (fun i env h => ∃ a b c d, env = [some (.ref 0), some (.ref 1), a, b, c, d, none, none] ∧ StOk 1 0 ns h) ⟨_, _, _, _, rfl, S1⟩ (fun _ _ _ _ => trivial) ?_ ?_
  · rintro i y env h hy ⟨a, b, c, d, rfl, S⟩
    obtain ⟨hi, rfl⟩ := rng_get hy
    clear S1
    simp only [gN, List.set_cons_zero, List.set_cons_succ]
    refine seq_cut fun U2 hU2 => ?_
    simp only [wAsg, wComp, wRng1, wCall, wCons, wNil, wC, wVar, List.getElem?_cons_zero, List.getElem?_cons_succ]
    refine ⟨1, 0, ns, 9, rfl, S, by decide, by decide, fun r h2 r0 r1 S2 X2 => ?_⟩
    refine ⟨by omega, by omega, ?_⟩
    refine compL_inv _ (fun i acc h => StOk 1 0 ns h ∧ i ≤ 9 ∧ ∃ ks : List Nat, acc = tN ks ∧ ks.length = i) ⟨S2, by omega, [], rfl, rfl⟩ (fun _ _ _ _ => trivial) ?_ ?_ ?_
    · rintro i acc h ⟨_, hi, ks, rfl, hk⟩
      rw [tN_len, sizeLine_eq]; omega
    · rintro i y acc h hy ⟨S3, hi, ks, rfl, hkl⟩
      obtain ⟨hi2, rfl⟩ := rng_get hy
      simp! only [if_true]
      refine ⟨1, 0, ns, 2, rfl, S3, by decide, by decide, fun z h4 z0 z1 S4 X4 => ?_⟩
      obtain ⟨z, rfl⟩ : ∃ z' : Nat, z = z' := ⟨z.toNat, by omega⟩
      simp! only [if_true]
      refine ⟨S4, by omega, ks ++ [2 + z], ?_, by simp [hkl]⟩
      rw [tN_snoc]
      simp
    rintro acc h3 ⟨S3, _, ks, rfl, hkl⟩
    rw [rng_len] at hkl
    have ks9 : ks.length ≤ 9 := by omega
    have eK := get_app_new h3 (Ob.lst (tN ks))
    have S4 := S3.gro (Gro.app h3 [Ob.lst (tN ks)])
    have n1 : 1 ≠ h3.length := by have := S3.lt; omega
    simp only [gN, List.set_cons_zero, List.set_cons_succ]
    generalize h3 ++ [Ob.lst (tN ks)] = h4 at eK S4 ⊢
    generalize h3.length = Kn at eK n1 ⊢
    clear S3 S2 X2 S
    subst hU2
    refine seq_cut fun U2 hU2 => ?_
    have fin : ∀ (h : PH) (c d : Option T), StOk 1 0 ns h → h[Kn]? = some (.lst (tN ks)) → U2 [some (.ref 0), some (.ref 1), some (.int (i : Int)), some (.ref Kn), c, d, none, none] h := by
      intro h c d S e
      subst hU2
      simp! only [if_true]
      exact ⟨Kn, tN ks, rfl, e, by rw [tN_len]; omega, th_N _ ks, fun h' G' => ⟨_, _, _, _, rfl, S.gro G'⟩⟩
    simp! only [if_true]
    refine ⟨by decide, ?_⟩
    have eK5 := get_app_left (g := [Ob.lst ([] : List T)]) eK
    have S5 := S4.gro (Gro.app h4 [Ob.lst ([] : List T)])
    rw [eqT_ref (n := 39) eK5 (get_app_new h4 (Ob.lst ([] : List T)))]
    generalize h4 ++ [Ob.lst ([] : List T)] = h5 at eK5 S5 ⊢
    cases hks : ks with
    | nil =>
      subst hks
      simp! only [tN, List.map_nil, eqZ]
      exact fin h5 _ _ S5 eK5
    | cons k0 kr =>
      have ez : eqZ (eqT h5 39) (tN (k0 :: kr)) [] = some false := rfl
      rw [← hks] at ez ⊢
      have kp : 0 < ks.length := by rw [hks]; simp
      clear hks k0 kr
      simp! only [ez]
      refine ⟨1, 0, ns, 2, rfl, S5, by decide, by decide, fun q h6 q0 q1 S6 X6 => ?_⟩
      have eK6 := X6 _ _ (Ne.symm n1) eK5
      simp! only [if_true]
      by_cases hq : q = 1
      rotate_left
      · have : (q == 1) = false := by simpa using hq
        simp only [this, Bool.false_eq_true, if_false]
        exact fin h6 _ _ S6 eK6
      have : (q == 1) = true := by simp [hq]
      simp only [this, if_true]
      simp only [seqOf_of eK6, tN_len]
      refine ⟨1, 0, ns, (ks.length : Int), rfl, S6, by omega, by omega, fun sp h7 sp0 sp1 S7 X7 => ?_⟩
      have eK7 := X7 _ _ (Ne.symm n1) eK6
      refine ⟨⟨by decide, by decide, by decide⟩, cmul_l (by decide) (by decide), by decide, by decide, ?_⟩
      have G7 : Gro h7 (h7 ++ [Ob.lst [.int 2]] ++ [Ob.lst [.int (-1), .int 0, .int 1, .int 4, .int 5, .int (2 * 10 ^ Int.toNat 59 + 3), .bl true, .non, .str (PySem.Str.ofString "2"), .ref h7.length]]) := (Gro.app _ _).ap
      have eI := get_app_left (g := [Ob.lst [.int (-1), .int 0, .int 1, .int 4, .int 5, .int (2 * 10 ^ Int.toNat 59 + 3), .bl true, .non, .str (PySem.Str.ofString "2"), .ref h7.length]]) (get_app_new h7 (Ob.lst [.int 2]))
      have eT := get_app_new (h7 ++ [Ob.lst [.int 2]]) (Ob.lst [.int (-1), .int 0, .int 1, .int 4, .int 5, .int (2 * 10 ^ Int.toNat 59 + 3), .bl true, .non, .str (PySem.Str.ofString "2"), .ref h7.length])
      have hTl : ([.int (-1), .int 0, .int 1, .int 4, .int 5, .int (2 * 10 ^ Int.toNat 59 + 3), .bl true, .non, .str (PySem.Str.ofString "2"), .ref h7.length] : List T).length = 10 := rfl
      have l7 := S7.lt
      have nT : 1 ≠ (h7 ++ [Ob.lst [.int 2]]).length := by rw [List.length_append, List.length_singleton]; omega
      have nI : 1 ≠ h7.length := by omega
      generalize h7 ++ [Ob.lst [.int 2]] ++ [Ob.lst [.int (-1), .int 0, .int 1, .int 4, .int 5, .int (2 * 10 ^ Int.toNat 59 + 3), .bl true, .non, .str (PySem.Str.ofString "2"), .ref h7.length]] = h8 at G7 eT eI ⊢
      generalize (h7 ++ [Ob.lst [.int 2]]).length = Tn at eT nT ⊢
      refine ⟨1, 0, ns, 10, rfl, S7.gro G7, by decide, by decide, fun q h9 q0 q1 S9 X9 => ?_⟩
      have eK9 := X9 _ _ (Ne.symm n1) (G7 _ _ eK7)
      have eT9 := X9 _ _ (Ne.symm nT) eT
      have eI9 := X9 _ _ (Ne.symm nI) eI
      have thT : ∀ t ∈ ([.int (-1), .int 0, .int 1, .int 4, .int 5, .int (2 * 10 ^ Int.toNat 59 + 3), .bl true, .non, .str (PySem.Str.ofString "2"), .ref h7.length] : List T), Th h9 t := by
        intro t ht
        simp only [List.mem_cons, List.not_mem_nil, or_false] at ht
        rcases ht with rfl | rfl | rfl | rfl | rfl | rfl | rfl | rfl | rfl | rfl
        · exact th_int _ _
        · exact th_int _ _
        · exact th_int _ _
        · exact th_int _ _
        · exact th_int _ _
        · exact th_int _ _
        · exact th_bl _ _
        · exact th_non _
        · exact th_str _ _
        · exact th_lst eI9
      clear eT eI eI9 X9 G7
      generalize ([.int (-1), .int 0, .int 1, .int 4, .int 5, .int (2 * 10 ^ Int.toNat 59 + 3), .bl true, .non, .str (PySem.Str.ofString "2"), .ref h7.length] : List T) = tens at hTl thT eT9
      obtain ⟨t, ht, et⟩ := atI_mem (xs := tens) q0 (by rw [hTl]; exact q1)
      have tht := thT t ht
      simp only [seqOf_of eT9, et, lstOf_of eK9]
      refine ⟨by decide, ?_⟩
      have c1 := K16.cut_len (tN ks) none (some sp)
      have cm1 : ∀ u ∈ cutT (tN ks) none (some sp), u ∈ tN ks := fun u hu => K16.cut_mem hu
      rw [tN_len] at c1
      generalize cutT (tN ks) none (some sp) = a1 at c1 cm1 ⊢
      have e1 : lstOf (h9 ++ [Ob.lst a1] ++ [Ob.lst [t]]) h9.length = some a1 := lstOf_of (get_app_left (get_app_new _ _))
      have e2 : lstOf (h9 ++ [Ob.lst a1] ++ [Ob.lst [t]]) (h9 ++ [Ob.lst a1]).length = some [t] := lstOf_of (get_app_new _ _)
      simp only [e1, e2]
      refine ⟨by rw [sizeLine_eq]; simp; omega, ?_⟩
      have G10 : Gro h9 (h9 ++ [Ob.lst a1] ++ [Ob.lst [t]] ++ [Ob.lst (a1 ++ [t])]) := ((Gro.app _ _).ap).ap
      have eB := get_app_new (h9 ++ [Ob.lst a1] ++ [Ob.lst [t]]) (Ob.lst (a1 ++ [t]))
      generalize (h9 ++ [Ob.lst a1] ++ [Ob.lst [t]]).length = B at eB ⊢
      generalize h9 ++ [Ob.lst a1] ++ [Ob.lst [t]] ++ [Ob.lst (a1 ++ [t])] = h10 at G10 eB ⊢
      have eK10 := G10 _ _ eK9
      simp only [lstOf_of eK10]
      have c2 := K16.cut_len (tN ks) (some (sp + 1)) none
      have cm2 : ∀ u ∈ cutT (tN ks) (some (sp + 1)) none, u ∈ tN ks := fun u hu => K16.cut_mem hu
      rw [tN_len] at c2
      generalize cutT (tN ks) (some (sp + 1)) none = a2 at c2 cm2 ⊢
      simp only [lstOf_of (get_app_left (g := [Ob.lst a2]) eB), lstOf_of (get_app_new h10 (Ob.lst a2))]
      refine ⟨by rw [sizeLine_eq]; simp; omega, ?_⟩
      have G11 : Gro h9 (h10 ++ [Ob.lst a2] ++ [Ob.lst (a1 ++ [t] ++ a2)]) := (G10.ap).ap
      refine ⟨_, a1 ++ [t] ++ a2, rfl, get_app_new _ _, by simp; omega, fun u hu => ?_, fun h' G' => ?_⟩
      · rcases List.mem_append.mp hu with hu | hu
        · rcases List.mem_append.mp hu with hu | hu
          · exact th_N _ ks u (cm1 u hu)
          · rw [List.mem_singleton.mp hu]; exact tht.gro G11
        · exact th_N _ ks u (cm2 u hu)
      · simp only [Bool.not_true, Bool.false_eq_true, if_false]
        have G12 := G11.trans G'
        exact fin h' _ _ (S9.gro G12) (G12 _ _ eK9)
  · rintro env h ⟨a, b, c, d, rfl, S⟩
    show U _ _
    subst hU
    refine seq_cut fun U hU => ?_
    simp only [wFor, wSeqI, wLst, wCons, wNil, wC, wDisp1, List.length_cons, List.length_nil]
    refine ⟨by decide, ?_⟩
    simp only [seqOf_of (get_app_new (h ++ [Ob.dK [(Sum.inl 2, T.int 3)]]) _)]
    have eD := get_app_left (g := [Ob.lst [.non, .int 2, .bl true, .str (PySem.Str.ofString "22"), .ref h.length]]) (get_app_new h (Ob.dK [(Sum.inl 2, T.int 3)]))
    have eL := get_app_new (h ++ [Ob.dK [(Sum.inl 2, T.int 3)]]) (Ob.lst [.non, .int 2, .bl true, .str (PySem.Str.ofString "22"), .ref h.length])
    generalize h ++ [Ob.dK [(Sum.inl 2, T.int 3)]] ++ [Ob.lst [.non, .int 2, .bl true, .str (PySem.Str.ofString "22"), .ref h.length]] = h2 at eD eL ⊢
    generalize (h ++ [Ob.dK [(Sum.inl 2, T.int 3)]]).length = Ln at eL ⊢
    refine forL_inv _ (fun i env h' => h' = h2 ∧ ∃ e, env = [some (.ref 0), some (.ref 1), a, b, c, d, e, none]) ⟨rfl, _, rfl⟩ (fun i env h' q => by rw [q.1]; exact seqOf_of eL) ?_ ?_
    · rintro i y env h' hy ⟨rfl, e, rfl⟩
      have hym := List.mem_of_getElem? hy
      have hb : bad y h' := by
        simp only [List.mem_cons, List.not_mem_nil, or_false] at hym
        rcases hym with rfl | rfl | rfl | rfl | rfl
        · exact .inl ⟨_, rfl, by decide⟩
        · exact .inl ⟨_, rfl, by decide⟩
        · exact .inl ⟨_, rfl, by decide⟩
        · exact .inl ⟨_, rfl, by decide⟩
        · exact dict_bad eD
      simp! only [if_true]
      exact ⟨y, rfl, hb, rfl, some y, rfl⟩
    · rintro env h' ⟨rfl, e, rfl⟩
      show U _ _
      subst hU
      simp! only [if_true]
      refine ⟨by decide, ?_⟩
      simp only [lstOf_of (get_app_new _ _)]
      refine ⟨by decide, by decide, by decide, ?_⟩
      have e6 : (List.replicate (Int.toNat 6) [T.int 2]).flatten = tN [2, 2, 2, 2, 2, 2] := rfl
      rw [e6]
      refine ⟨_, [2, 2, 2, 2, 2, 2], rfl, .inr ⟨_, rfl, get_app_new _ _⟩, ⟨by decide, by decide, by decide⟩, by decide, ?_⟩
      generalize h' ++ [Ob.lst [T.int 2]] ++ [Ob.lst (tN [2, 2, 2, 2, 2, 2])] = h3
      refine ⟨by decide, by decide, by decide, by decide, by decide, ?_⟩
      rw [eqT_tN h3 38, decide_eq_true rfl]
      refine ⟨by decide, by decide, by decide, by decide, by decide, ?_⟩
      have e5 : (List.replicate (Int.toNat 5) [T.int 2]).flatten = tN [2, 2, 2, 2, 2] := rfl
      rw [e5]
      have eA : lstOf (h3 ++ [Ob.lst [T.int 2]] ++ [Ob.lst (tN [2, 2, 2, 2, 2])] ++ [Ob.lst [T.int 3]]) (h3 ++ [Ob.lst [T.int 2]]).length = some (tN [2, 2, 2, 2, 2]) := lstOf_of (get_app_left (get_app_new _ _))
      rw [eA]
      refine ⟨by decide, _, rfl, .inr ⟨tN [2, 2, 2, 2, 2, 3], .inr ⟨_, rfl, get_app_new _ _⟩, ty_of (th_N _ _), by decide, ?_⟩, hk _⟩
      rintro ⟨fr, e, _, hv⟩
      rw [← tN_inj e] at hv
      exact absurd hv (by decide)
noncomputable abbrev cp_is_whole := PF.cp_is_whole
noncomputable abbrev W_is_whole := PF.W_is_whole
noncomputable abbrev len_is_whole := PF.len_is_whole
noncomputable abbrev vc_is_whole := PF.vc_is_whole
noncomputable abbrev cp_frame_of := PF.cp_frame_of
noncomputable abbrev W_frame_of := PF.W_frame_of
noncomputable abbrev len_frame_of := PF.len_frame_of
noncomputable abbrev vc_frame_of := PF.vc_frame_of
end K01
set_option Elab.async false
set_option linter.all false
set_option maxRecDepth 100000
set_option maxHeartbeats 4000000
namespace K01
open PySem PySem.Spec PyProof.Rows L2 ZP PL
open Pu
seal Pu.OE Pu.OT Pu.OW Pu.OA Pu.OS Pu.OSs Pu.OG Pu.OGs Pu.OI Pu.OO Pu.OIfs
structure Bq (mg : Str → Option Value) : Prop where
  bool : mg "bool" = none
  int_ : mg "int" = none
  isinstance : mg "isinstance" = none
  len : mg "len" = none
  list : mg "list" = none
  range : mg "range" = none
  tuple : mg "tuple" = none
noncomputable def top (i : Nat) : Stmt := PySem.Challenge.pw_gluedtables_k01_frames_made.main.body.getD i (.Pass ⟨0, 0, 0, 0⟩)
theorem lenS {α : Type} {us : List α} {n : Nat} (h : us.length = n + 1) : ∃ a r, us = a :: r ∧ r.length = n := by
  cases us with
  | nil => simp at h
  | cons a r => exact ⟨a, r, rfl, by simpa using h⟩
theorem len1 {f : FuncData} {xs : List Str} (h : ∀ a0 : Value, bindArgs f { pos := [a0] } = pure (xs.zip [a0])) (us : List Value) (e : us.length = 1) : bindArgs f { pos := us } = pure (xs.zip us) := by
  obtain ⟨a0, r0, rfl, e0⟩ := lenS e
  cases List.length_eq_zero_iff.mp e0
  exact h a0
theorem len2 {f : FuncData} {xs : List Str} (h : ∀ a0 a1 : Value, bindArgs f { pos := [a0, a1] } = pure (xs.zip [a0, a1])) (us : List Value) (e : us.length = 2) : bindArgs f { pos := us } = pure (xs.zip us) := by
  obtain ⟨a0, r0, rfl, e0⟩ := lenS e
  obtain ⟨a1, r1, rfl, e1⟩ := lenS e0
  cases List.length_eq_zero_iff.mp e1
  exact h a0 a1
theorem len3 {f : FuncData} {xs : List Str} (h : ∀ a0 a1 a2 : Value, bindArgs f { pos := [a0, a1, a2] } = pure (xs.zip [a0, a1, a2])) (us : List Value) (e : us.length = 3) : bindArgs f { pos := us } = pure (xs.zip us) := by
  obtain ⟨a0, r0, rfl, e0⟩ := lenS e
  obtain ⟨a1, r1, rfl, e1⟩ := lenS e0
  obtain ⟨a2, r2, rfl, e2⟩ := lenS e1
  cases List.length_eq_zero_iff.mp e2
  exact h a0 a1 a2
theorem len4 {f : FuncData} {xs : List Str} (h : ∀ a0 a1 a2 a3 : Value, bindArgs f { pos := [a0, a1, a2, a3] } = pure (xs.zip [a0, a1, a2, a3])) (us : List Value) (e : us.length = 4) : bindArgs f { pos := us } = pure (xs.zip us) := by
  obtain ⟨a0, r0, rfl, e0⟩ := lenS e
  obtain ⟨a1, r1, rfl, e1⟩ := lenS e0
  obtain ⟨a2, r2, rfl, e2⟩ := lenS e1
  obtain ⟨a3, r3, rfl, e3⟩ := lenS e2
  cases List.length_eq_zero_iff.mp e3
  exact h a0 a1 a2 a3
theorem len5 {f : FuncData} {xs : List Str} (h : ∀ a0 a1 a2 a3 a4 : Value, bindArgs f { pos := [a0, a1, a2, a3, a4] } = pure (xs.zip [a0, a1, a2, a3, a4])) (us : List Value) (e : us.length = 5) : bindArgs f { pos := us } = pure (xs.zip us) := by
  obtain ⟨a0, r0, rfl, e0⟩ := lenS e
  obtain ⟨a1, r1, rfl, e1⟩ := lenS e0
  obtain ⟨a2, r2, rfl, e2⟩ := lenS e1
  obtain ⟨a3, r3, rfl, e3⟩ := lenS e2
  obtain ⟨a4, r4, rfl, e4⟩ := lenS e3
  cases List.length_eq_zero_iff.mp e4
  exact h a0 a1 a2 a3 a4
section
variable {P : Program} {w : World} {K : PySem.W.Frag} {mg : Str → Option Value} {base : Heap}
noncomputable abbrev s_is_whole : Stmt := top 15
noncomputable def N_is_whole : List Str := ["thing"]
theorem sc_is_whole : FnScope N_is_whole ["thing"] (defScope s_is_whole) := ⟨rfl, rfl, rfl, by decide +kernel, rfl, by decide +kernel, by decide +kernel⟩
theorem f_is_whole {cp : CP} {f : Addr} {fd : FuncData} (F : Fun K "is_whole" "is_whole" s_is_whole f fd) (B : Bq mg) (len : ∀ ts h k, cp ts h k → ts.length = 1)
    (vc : ∀ ts h k, cp ts h k → W_is_whole { nx := fun _ h' => k .non h', rt := k } (begin_ 1 ts) h) : FnOk P w K mg base CX0 1 f fd ["thing"] (spOf K cp) := by
  refine def_ok F sc_is_whole len fun cdv A outer s H E hr => ⟨W_is_whole, ?_, vc⟩
  have hu : (A.deeper (envOfC "is_whole" (defScope s_is_whole) s.heap.objs.size f cdv)).units + 40 < cLine := hu40 hr
  exact (ss_one (s_ret (oe_and (oe_isi "int" B.isinstance B.int_ (ov 0)) (oe_one (oe_not (oe_isi "bool" B.isinstance B.bool (ov 0)))))))
theorem b_is_whole {f : Addr} {fd : FuncData} (F : Fun K "is_whole" "is_whole" s_is_whole f fd) : L2.Binds K fd ["thing"] [] := F.binds (ps := ["thing"]) fun _ _ _ _ _ _ us hl => len1 (fun _ => rfl) us hl
noncomputable abbrev s_frame_of : Stmt := top 16
noncomputable def N_frame_of : List Str := ["kinds", "product", "number"]
theorem sc_frame_of : FnScope N_frame_of ["kinds"] (defScope s_frame_of) := ⟨rfl, rfl, rfl, by decide +kernel, rfl, by decide +kernel, by decide +kernel⟩
theorem f_frame_of {cp_is_whole : CP} {cp : CP} {f : Addr} {fd : FuncData} (F : Fun K "frame_of" "frame_of" s_frame_of f fd) (B : Bq mg) (M_MOST_MARKS : ∃ t, mg "MOST_MARKS" = some (.int 6 t)) (M_MOST_ROWS : ∃ t, mg "MOST_ROWS" = some (.int 64 t)) (G_is_whole : Callee P w K mg base 1 "is_whole" cp_is_whole) (len : ∀ ts h k, cp ts h k → ts.length = 1)
    (vc : ∀ ts h k, cp ts h k → W_frame_of cp_is_whole { nx := fun _ h' => k .non h', rt := k } (begin_ 3 ts) h) : FnOk P w K mg base CX0 2 f fd ["kinds"] (spOf K cp) := by
  refine def_ok F sc_frame_of len fun cdv A outer s H E hr => ⟨W_frame_of cp_is_whole, ?_, vc⟩
  have hu : (A.deeper (envOfC "frame_of" (defScope s_frame_of) s.heap.objs.size f cdv)).units + 40 < cLine := hu40 hr
  exact (ss_cons (s_if (ot_not (ot_val (oe_isi2 "list" "tuple" B.isinstance B.list B.tuple (ov 0)))) (ss_one s_never) ss_nil)
  (ss_cons (s_if (ot_not (ot_chain op_le i_le op_le i_le oe_int (oe_callB call_len_seq i_len B.len (oa_cons (ov 0) oa_nil sr_Name)) (oe_glob M_MOST_MARKS))) (ss_one s_never) ss_nil)
  (ss_cons (s_set 1 sc_frame_of.nd oe_int)
  (ss_cons (s_for PassesOwn.never rfl (i_seq (ov 0)) (g_name 2 sc_frame_of.nd) (ss_cons (s_if (ot_w (ow_or (ot_not (ot_val (oe_call G_is_whole (hr.mono (by decide)) (oa_cons (ov 2) oa_nil sr_Name)))) (ow_or1 (ot_not (ot_chain op_le i_le op_le i_le oe_int (ov 2) oe_int))))) (ss_one s_never) ss_nil)
  (ss_one (s_set 1 sc_frame_of.nd (oe_op op_mulA i_mul (ov 1) (ov 2))))))
  (ss_cons (s_if (ot_cmp op_gt i_gt (nomark _) (ov 1) (oe_glob M_MOST_ROWS)) (ss_one s_never) ss_nil)
  (ss_one (s_ret (oe_callTy call_tuple_of i_tuple B.tuple (oa_cons (ov 0) oa_nil sr_Name)))))))))
theorem b_frame_of {f : Addr} {fd : FuncData} (F : Fun K "frame_of" "frame_of" s_frame_of f fd) : L2.Binds K fd ["kinds"] [] := F.binds (ps := ["kinds"]) fun _ _ _ _ _ _ us hl => len1 (fun _ => rfl) us hl
noncomputable abbrev s_law_take : Stmt := top 18
noncomputable def N_law_take : List Str := ["_law_state", "_law_size", "_law_script", "_law_count", "_law_cell", "_law_number"]
theorem sc_law_take : FnScope N_law_take ["_law_state", "_law_size"] (defScope s_law_take) := ⟨rfl, rfl, rfl, by decide +kernel, rfl, by decide +kernel, by decide +kernel⟩
theorem f_law_take {cp : CP} {f : Addr} {fd : FuncData} (F : Fun K "_law_take" "_law_take" s_law_take f fd) (B : Bq mg) (len : ∀ ts h k, cp ts h k → ts.length = 2)
    (vc : ∀ ts h k, cp ts h k → W_law_take { nx := fun _ h' => k .non h', rt := k } (begin_ 6 ts) h) : FnOk P w K mg base CX0 1 f fd ["_law_state", "_law_size"] (spOf K cp) := by
  refine def_ok F sc_law_take len fun cdv A outer s H E hr => ⟨W_law_take, ?_, vc⟩
  have hu : (A.deeper (envOfC "_law_take" (defScope s_law_take) s.heap.objs.size f cdv)).units + 40 < cLine := hu40 hr
  exact (ss_cons (s_set 2 sc_law_take.nd (oe_ix ix_A i_ix (ov 0) oe_int))
  (ss_cons (s_set 3 sc_law_take.nd (oe_ix ix_A i_ix (ov 0) oe_int))
  (ss_cons (s_asg (oe_op op_addA i_add (ov 3) oe_int) (g_sub set_list i_set (ov 0) oe_int))
  (ss_cons (s_set 4 sc_law_take.nd oe_int)
  (ss_cons (s_if (ot_w (ow_and (ot_cmp op_gt i_gt (nomark _) (oe_callB call_len_seq i_len B.len (oa_cons (ov 2) oa_nil sr_Name)) oe_int) (ow_and1 (ot_cmp (op_eqD hu) i_eq (nomark _) (oe_op op_mod i_mod (oe_ix ix_A i_ix (ov 2) oe_int) oe_int) oe_int)))) (ss_cons (s_if (ot_cmp (op_eqD hu) i_eq (nomark _) (oe_op op_mod i_mod (ov 3) oe_int) oe_int) (ss_one (s_asg (oe_op op_fdiv i_fdiv (oe_ix ix_A i_ix (ov 2) (oe_op op_mod i_mod (oe_op op_fdiv i_fdiv (ov 3) oe_int) (oe_callB call_len_seq i_len B.len (oa_cons (ov 2) oa_nil sr_Name)))) (oe_ix ix_A i_ix (oe_lst (oa_cons oe_int (oa_cons oe_int oa_nil sr_Constant) sr_Constant)) (oe_callTy call_int1 i_int B.int_ (oa_cons (oe_cmp (op_eqD hu) i_eq (nomark _) (ov 3) oe_int) oa_nil sr_Compare)))) (g_sub set_list i_set (ov 0) oe_int))) ss_nil)
  (ss_cons (s_set 4 sc_law_take.nd (oe_ix ix_A i_ix (ov 0) oe_int))
  (ss_cons (s_asg (oe_op op_fdiv i_fdiv (ov 4) (ov 1)) (g_sub set_list i_set (ov 0) oe_int))
  (ss_one (s_ret (oe_op op_mod i_mod (ov 4) (ov 1))))))) ss_nil)
  (ss_cons (s_if (ot_cmp op_gt i_gt (nomark _) (oe_callB call_len_seq i_len B.len (oa_cons (ov 2) oa_nil sr_Name)) oe_int) (ss_one (s_set 4 sc_law_take.nd (oe_op op_mod i_mod (oe_ix ix_A i_ix (ov 2) (oe_op op_mod i_mod (ov 3) (oe_callB call_len_seq i_len B.len (oa_cons (ov 2) oa_nil sr_Name)))) (oe_op op_pow i_pow oe_int oe_int)))) ss_nil)
  (ss_cons (s_set 5 sc_law_take.nd (oe_op op_mod i_mod (oe_op op_mulA i_mul (oe_op op_addA i_add (oe_op op_addA i_add (ov 4) (oe_op op_mulA i_mul oe_int (ov 3))) oe_int) oe_int) oe_int))
  (ss_cons (s_set 5 sc_law_take.nd (oe_op op_mod i_mod (oe_op op_addA i_add (oe_op op_addA i_add (oe_op op_mulA i_mul (ov 5) (ov 5)) (oe_op op_mulA i_mul oe_int (ov 3))) oe_int) oe_int))
  (ss_one (s_ret (oe_op op_mod i_mod (oe_op op_fdiv i_fdiv (oe_op op_mod i_mod (oe_op op_mulA i_mul (ov 5) (oe_op op_addA i_add (ov 5) oe_int)) oe_int) oe_int) (ov 1))))))))))))
theorem b_law_take {f : Addr} {fd : FuncData} (F : Fun K "_law_take" "_law_take" s_law_take f fd) : L2.Binds K fd ["_law_state", "_law_size"] [] := F.binds (ps := ["_law_state", "_law_size"]) fun _ _ _ _ _ _ us hl => len2 (fun _ _ => rfl) us hl
noncomputable abbrev s_law_refused : Stmt := top 19
noncomputable def N_law_refused : List Str := ["_law_thing", "_law_caught", "e"]
theorem sc_law_refused : FnScope N_law_refused ["_law_thing"] (defScope s_law_refused) := ⟨rfl, rfl, rfl, by decide +kernel, rfl, by decide +kernel, by decide +kernel⟩
theorem b_law_refused {f : Addr} {fd : FuncData} (F : Fun K "_law_refused" "_law_refused" s_law_refused f fd) : L2.Binds K fd ["_law_thing"] [] := F.binds (ps := ["_law_thing"]) fun _ _ _ _ _ _ us hl => len1 (fun _ => rfl) us hl
theorem f_law_refused {cNF cGE : Addr} {f : Addr} {fd : FuncData} (F : Fun K "_law_refused" "_law_refused" s_law_refused f fd) (B : Bq mg) (GX : CalleeX P w K mg base 2 "frame_of" cpx_frame_of) (hN : PySem.W.nsIn K mainGlobals "NoFrame" = some (some (.ref cNF))) (mN : mg "NoFrame" = some (.ref cNF)) (mG : mg "GlueError" = some (.ref cGE)) (mV : mg "ValueError" = none)
    (hex : PySem.W.exmOne K (.ref cNF) (.ref cGE) = some true) (k : ExcK K cNF) (h1 : PySem.W.kitOne K (.ref cNF) (.ref cNF) = some true) (h2 : PySem.W.kitOne K (.ref cNF) (.type "ValueError") = some true) {d1 : Addr} (m1 : mg "NoBack" = some (.ref d1)) {d2 : Addr} (m2 : mg "NoGlue" = some (.ref d2)) {d3 : Addr} (m3 : mg "NoName" = some (.ref d3)) {d4 : Addr} (m4 : mg "NoRow" = some (.ref d4)) {d5 : Addr} (m5 : mg "NoTable" = some (.ref d5)) {d6 : Addr} (m6 : mg "NoText" = some (.ref d6)) {d7 : Addr} (m7 : mg "NoTree" = some (.ref d7)) {d8 : Addr} (m8 : mg "TooMany" = some (.ref d8)) {d9 : Addr} (m9 : mg "Unlike" = some (.ref d9))
    (h3 : PySem.W.kitAny K (.ref cNF) [.ref d1, .ref d2, .ref d3, .ref d4, .ref d5, .ref d6, .ref d7, .ref d8, .ref d9] = some false) : FnOk P w K mg base CX0 3 f fd ["_law_thing"] (spOf K cp_law_refused) := by
  refine F.ok sc_law_refused (fun vs H Q E ⟨m, h, ts, k, rp, ds, c, af⟩ => by rw [← ds.length]; exact len_law_refused ts h k c) fun cdv A outer s H vs Q E hr hsp => ?_
  obtain ⟨m, h, ts, kk, rp, ds, c, af⟩ := hsp
  obtain ⟨f2, fd2, ps2, F2, hm2, hk2, hb2⟩ := GX
  have rest : ∀ (ea C : Addr) (oe : Obj), oe.cls = .ref C → (∃ vs, oe.data = .fields vs) → PSs { (cxOf CX0 P w K mg base N_law_refused "_law_refused" (defScope s_law_refused) f cdv A outer s H E).nox with pn := (ea, oe) :: (cxOf CX0 P w K mg base N_law_refused "_law_refused" (defScope s_law_refused) f cdv A outer s H E).nox.pn } ((defBody s_law_refused).drop 2)
      (fun D σ H => C = cNF ∧ σ[1]? = some (some (.ref ea)) ∧ ∀ p, H p = none → D.rt (.bl true) (upd H p (.tup [.ref d1, .ref d2, .ref d3, .ref d4, .ref d5, .ref d6, .ref d7, .ref d8, .ref d9]))) := by
    intro ea C oe hc _ pins s2 σ H2 D I ⟨hC, hσ, hD⟩
    subst hC
    have mem : (ea, oe) ∈ ({ (cxOf CX0 P w K mg base N_law_refused "_law_refused" (defScope s_law_refused) f cdv A outer s H E).nox with pn := (ea, oe) :: (cxOf CX0 P w K mg base N_law_refused "_law_refused" (defScope s_law_refused) f cdv A outer s H E).nox.pn } : Cx).pn := List.mem_cons_self
    refine (pss_cons (ps_if (PW.pt (pw_or (pt_not (pt_val (pe_isX (iy := 1) mem hc k B.isinstance mN h1 rfl rfl))) (pw_or1 (pt_not (pt_val (pe_isXB (iy := 1) mem hc k B.isinstance mV rfl h2 rfl rfl)))))) (pss_one (ps_ret pe_bl)) pss_nil)
      (pss_one (ps_ret (pe_not (pe_isXT (iy := 1) (Ds := [d1, d2, d3, d4, d5, d6, d7, d8, d9]) mem hc k B.isinstance (pa_cons (pe_glob (x := "NoBack") (v := .ref d1) rfl m1 rfl) (pa_cons (pe_glob (x := "NoGlue") (v := .ref d2) rfl m2 rfl) (pa_cons (pe_glob (x := "NoName") (v := .ref d3) rfl m3 rfl) (pa_cons (pe_glob (x := "NoRow") (v := .ref d4) rfl m4 rfl) (pa_cons (pe_glob (x := "NoTable") (v := .ref d5) rfl m5 rfl) (pa_cons (pe_glob (x := "NoText") (v := .ref d6) rfl m6 rfl) (pa_cons (pe_glob (x := "NoTree") (v := .ref d7) rfl m7 rfl) (pa_cons (pe_glob (x := "TooMany") (v := .ref d8) rfl m8 rfl) (pa_cons (pe_glob (x := "Unlike") (v := .ref d9) rfl m9 rfl) pa_nil))))))))) (fun σ H Q q => q) (by simp) h3 rfl rfl))))) pins s2 σ H2 D I ?_
    exact ⟨hσ, true, rfl, hσ, true, rfl, hσ, fun p hp => ⟨false, rfl, hD p hp⟩⟩
  refine ⟨_, pss_cons (ps_set (i := 1) sc_law_refused.nd rfl (.inl rfl) pe_non) (pss_try (ia := 0) (iy := 1) (j := 2) rfl rfl rfl sc_law_refused.nd F2 (hr.mono (by decide)) hm2 hk2 hb2 rfl rfl rfl rfl rfl rfl (by decide) mG rfl rfl (by decide) (by decide) (by decide) (by decide) (by decide) (by decide) rfl rfl rest), ?_⟩
  obtain ⟨v0, rfl, bd, hk⟩ := c
  cases ds with
  | @cons _ v _ vs d dr =>
    cases dr
    refine ⟨v, rfl, m, h, [v0], fun _ _ => False, fun c _ h' => c = "NoFrame" ∧ kk (.bl true) h', rp, .cons d .nil, ⟨v0, rfl, bd, rfl, hk⟩, fun _ _ _ _ _ _ _ _ q => q.elim, ?_⟩
    rintro c ts C h' m' H' up rp' hC ⟨rfl, q⟩
    rw [hN] at hC
    cases hC
    exact ⟨cNF, rfl, hex, fun ea σ' hσ => ⟨rfl, hσ, fun p hp => af (.bl true) h' m' _ (.bl true) (up.trans (.newTup hp)) (rp'.tup hp) (.bl true) q⟩⟩
noncomputable abbrev s_law_good : Stmt := top 20
noncomputable def N_law_good : List Str := ["_law_kinds", "_law_volume", "_law_kind"]
theorem sc_law_good : FnScope N_law_good ["_law_kinds"] (defScope s_law_good) := ⟨rfl, rfl, rfl, by decide +kernel, rfl, by decide +kernel, by decide +kernel⟩
theorem f_law_good {cp : CP} {f : Addr} {fd : FuncData} (F : Fun K "_law_good" "_law_good" s_law_good f fd) (B : Bq mg) (len : ∀ ts h k, cp ts h k → ts.length = 1)
    (vc : ∀ ts h k, cp ts h k → W_law_good { nx := fun _ h' => k .non h', rt := k } (begin_ 3 ts) h) : FnOk P w K mg base CX0 1 f fd ["_law_kinds"] (spOf K cp) := by
  refine def_ok F sc_law_good len fun cdv A outer s H E hr => ⟨W_law_good, ?_, vc⟩
  have hu : (A.deeper (envOfC "_law_good" (defScope s_law_good) s.heap.objs.size f cdv)).units + 40 < cLine := hu40 hr
  exact (ss_cons (s_set 1 sc_law_good.nd oe_int)
  (ss_cons (s_for PassesOwn.never rfl (i_seq (ov 0)) (g_name 2 sc_law_good.nd) (ss_cons (s_if (ot_w (ow_or (ot_val (oe_isi "bool" B.isinstance B.bool (ov 2))) (ow_or (ot_not (ot_val (oe_isi "int" B.isinstance B.int_ (ov 2)))) (ow_or1 (ot_cmp op_notIn_seq i_notIn (by with_unfolding_all rfl) (ov 2) (oe_tup (oa_cons oe_int (oa_cons oe_int oa_nil sr_Constant) sr_Constant))))))) (ss_one (s_ret oe_bl)) ss_nil)
  (ss_one (s_set 1 sc_law_good.nd (oe_op op_mulA i_mul (ov 1) (ov 2))))))
  (ss_one (s_ret (oe_and (oe_chain op_le i_le op_le i_le oe_int (oe_callB call_len_seq i_len B.len (oa_cons (ov 0) oa_nil sr_Name)) oe_int) (oe_one (oe_cmp op_le i_le (nomark _) (ov 1) oe_int)))))))
theorem b_law_good {f : Addr} {fd : FuncData} (F : Fun K "_law_good" "_law_good" s_law_good f fd) : L2.Binds K fd ["_law_kinds"] [] := F.binds (ps := ["_law_kinds"]) fun _ _ _ _ _ _ us hl => len1 (fun _ => rfl) us hl
noncomputable abbrev s_law_right : Stmt := top 21
noncomputable def N_law_right : List Str := ["_law_kinds", "_law_handed", "_law_found", "_law_kind"]
theorem sc_law_right : FnScope N_law_right ["_law_kinds"] (defScope s_law_right) := ⟨rfl, rfl, rfl, by decide +kernel, rfl, by decide +kernel, by decide +kernel⟩
theorem f_law_right {cp_law_good : CP} {cp_law_refused : CP} {cp_frame_of : CP} {cp : CP} {f : Addr} {fd : FuncData} (F : Fun K "_law_right" "_law_right" s_law_right f fd) (B : Bq mg) (G_law_good : Callee P w K mg base 1 "_law_good" cp_law_good) (G_law_refused : Callee P w K mg base 3 "_law_refused" cp_law_refused) (G_frame_of : Callee P w K mg base 2 "frame_of" cp_frame_of) (len : ∀ ts h k, cp ts h k → ts.length = 1)
    (vc : ∀ ts h k, cp ts h k → W_law_right cp_law_good cp_law_refused cp_frame_of { nx := fun _ h' => k .non h', rt := k } (begin_ 4 ts) h) : FnOk P w K mg base CX0 4 f fd ["_law_kinds"] (spOf K cp) := by
  refine def_ok F sc_law_right len fun cdv A outer s H E hr => ⟨W_law_right cp_law_good cp_law_refused cp_frame_of, ?_, vc⟩
  have hu : (A.deeper (envOfC "_law_right" (defScope s_law_right) s.heap.objs.size f cdv)).units + 40 < cLine := hu40 hr
  exact (ss_cons (s_set 1 sc_law_right.nd (oe_callTy call_list_of i_list B.list (oa_cons (ov 0) oa_nil sr_Name)))
  (ss_cons (s_if (ot_not (ot_val (oe_call G_law_good (hr.mono (by decide)) (oa_cons (ov 0) oa_nil sr_Name)))) (ss_one (s_ret (oe_and (oe_call G_law_refused (hr.mono (by decide)) (oa_cons (ov 1) oa_nil sr_Name)) (oe_and (oe_cmp (op_eqD hu) i_eq (nomark _) (ov 1) (ov 0)) (oe_one (oe_call G_law_refused (hr.mono (by decide)) (oa_cons (oe_callTy call_tuple_of i_tuple B.tuple (oa_cons (ov 0) oa_nil sr_Name)) oa_nil sr_Call))))))) ss_nil)
  (ss_cons (s_set 2 sc_law_right.nd (oe_call G_frame_of (hr.mono (by decide)) (oa_cons (ov 1) oa_nil sr_Name)))
  (ss_cons (s_expr (oe_bm0 PySem.F.plainAttrs_list PySem.F.slot_list_clear PySem.F.type_list_clear mt_clear i_clear ty_lst (ov 1)))
  (ss_cons (s_if (ot_w (ow_or (ot_not (ot_val (oe_isi "tuple" B.isinstance B.tuple (ov 2)))) (ow_or (ot_cmp (op_neD hu) i_ne (nomark _) (ov 2) (oe_callTy call_tuple_of i_tuple B.tuple (oa_cons (ov 0) oa_nil sr_Name))) (ow_or1 (ot_cmp (op_neD hu) i_ne (nomark _) (oe_call G_frame_of (hr.mono (by decide)) (oa_cons (oe_callTy call_tuple_of i_tuple B.tuple (oa_cons (ov 0) oa_nil sr_Name)) oa_nil sr_Call)) (oe_callTy call_tuple_of i_tuple B.tuple (oa_cons (ov 0) oa_nil sr_Name))))))) (ss_one (s_ret oe_bl)) ss_nil)
  (ss_one (s_ret (oe_cmp (op_eqD hu) i_eq (nomark _) (oe_comp 3 rfl (compOk_of (fs := defScope s_law_right) (N := N_law_right) rfl rfl (by decide +kernel)) sc_law_right.nd (i_seq (ov 2)) (fun _ _ _ _ _ _ => (if_one (ot_w (ow_or (ot_val (oe_isi "bool" B.isinstance B.bool (ov 3))) (ow_or1 (ot_not (ot_val (oe_isi "int" B.isinstance B.int_ (ov 3))))))))) (fun _ _ _ _ _ _ => (ov 3))) (oe_lst oa_nil)))))))))
theorem b_law_right {f : Addr} {fd : FuncData} (F : Fun K "_law_right" "_law_right" s_law_right f fd) : L2.Binds K fd ["_law_kinds"] [] := F.binds (ps := ["_law_kinds"]) fun _ _ _ _ _ _ us hl => len1 (fun _ => rfl) us hl
noncomputable abbrev s_law : Stmt := top 22
noncomputable def N_law : List Str := ["_law_script", "_law_state", "_law_turn", "_law_kinds", "_law_spot", "_law_bad", "_law_thing", "_law_k"]
theorem sc_law : FnScope N_law ["_law_script"] (defScope s_law) := ⟨rfl, rfl, rfl, by decide +kernel, rfl, by decide +kernel, by decide +kernel⟩
theorem f_law {cp_law_take : CP} {cp_law_right : CP} {cp_law_refused : CP} {cp_frame_of : CP} {cp : CP} {f : Addr} {fd : FuncData} (F : Fun K "law" "law" s_law f fd) (B : Bq mg) (G_law_take : Callee P w K mg base 1 "_law_take" cp_law_take) (G_law_right : Callee P w K mg base 4 "_law_right" cp_law_right) (G_law_refused : Callee P w K mg base 3 "_law_refused" cp_law_refused) (G_frame_of : Callee P w K mg base 2 "frame_of" cp_frame_of) (len : ∀ ts h k, cp ts h k → ts.length = 1)
    (vc : ∀ ts h k, cp ts h k → W_law cp_law_take cp_law_right cp_law_refused cp_frame_of { nx := fun _ h' => k .non h', rt := k } (begin_ 8 ts) h) : FnOk P w K mg base CX0 5 f fd ["_law_script"] (spOf K cp) := by
  refine def_ok F sc_law len fun cdv A outer s H E hr => ⟨W_law cp_law_take cp_law_right cp_law_refused cp_frame_of, ?_, vc⟩
  have hu : (A.deeper (envOfC "law" (defScope s_law) s.heap.objs.size f cdv)).units + 40 < cLine := hu40 hr
  exact (ss_cons (s_set 1 sc_law.nd (oe_lst (oa_cons (ov 0) (oa_cons oe_int (oa_cons oe_int oa_nil sr_Constant) sr_Constant) sr_Name)))
  (ss_cons (s_for PassesOwn.never rfl (i_range1 B.range (oa_cons oe_int oa_nil sr_Constant)) (g_name 2 sc_law.nd) (ss_cons (s_comp 3 7 sc_law.nd rfl (compOk_of (fs := defScope s_law) (N := N_law) rfl rfl (by decide +kernel)) (i_range1 B.range (oa_cons (oe_call G_law_take (hr.mono (by decide)) (oa_cons (ov 1) (oa_cons oe_int oa_nil sr_Constant) sr_Name)) oa_nil sr_Call)) (fun _ _ _ _ _ _ => if_nil) (fun _ _ _ _ _ _ => (oe_op op_addA i_add oe_int (oe_call G_law_take (hr.mono (by decide)) (oa_cons (ov 1) (oa_cons oe_int oa_nil sr_Constant) sr_Name)))))
  (ss_cons (s_if (ot_w (ow_and (ot_cmp (op_neD hu) i_ne (nomark _) (ov 3) (oe_lst oa_nil)) (ow_and1 (ot_cmp (op_eqD hu) i_eq (nomark _) (oe_call G_law_take (hr.mono (by decide)) (oa_cons (ov 1) (oa_cons oe_int oa_nil sr_Constant) sr_Name)) oe_int)))) (ss_cons (s_set 4 sc_law.nd (oe_call G_law_take (hr.mono (by decide)) (oa_cons (ov 1) (oa_cons (oe_callB call_len_seq i_len B.len (oa_cons (ov 3) oa_nil sr_Name)) oa_nil sr_Call) sr_Name)))
  (ss_cons (s_set 5 sc_law.nd (oe_ix ix_A i_ix (oe_lst (oa_cons (oe_un un_neg i_neg oe_int) (oa_cons oe_int (oa_cons oe_int (oa_cons oe_int (oa_cons oe_int (oa_cons (oe_op op_addA i_add (oe_op op_mulA i_mul oe_int (oe_op op_pow i_pow oe_int oe_int)) oe_int) (oa_cons oe_bl (oa_cons oe_non (oa_cons oe_str (oa_cons (oe_lst (oa_cons oe_int oa_nil sr_Constant)) oa_nil sr_List) sr_Constant) sr_Constant) sr_Constant) sr_BinOp) sr_Constant) sr_Constant) sr_Constant) sr_Constant) sr_UnaryOp)) (oe_call G_law_take (hr.mono (by decide)) (oa_cons (ov 1) (oa_cons oe_int oa_nil sr_Constant) sr_Name))))
  (ss_one (s_if (ot_not (ot_val (oe_call G_law_right (hr.mono (by decide)) (oa_cons (oe_op op_addA i_add (oe_op op_addA i_add (oe_slice sl_B i_slA (ov 3) oo_none (oo_some (ov 4))) (oe_lst (oa_cons (ov 5) oa_nil sr_Name))) (oe_slice sl_B i_slA (ov 3) (oo_some (oe_op op_addA i_add (ov 4) oe_int)) oo_none)) oa_nil sr_BinOp)))) (ss_one (s_ret oe_bl)) ss_nil)))) ss_nil)
  (ss_one (s_if (ot_not (ot_val (oe_call G_law_right (hr.mono (by decide)) (oa_cons (ov 3) oa_nil sr_Name)))) (ss_one (s_ret oe_bl)) ss_nil)))))
  (ss_cons (s_for PassesOwn.never rfl (i_seq (oe_lst (oa_cons oe_non (oa_cons oe_int (oa_cons oe_bl (oa_cons oe_str (oa_cons oe_disp1 oa_nil sr_Dict) sr_Constant) sr_Constant) sr_Constant) sr_Constant))) (g_name 6 sc_law.nd) (ss_one (s_if (ot_not (ot_val (oe_call G_law_refused (hr.mono (by decide)) (oa_cons (ov 6) oa_nil sr_Name)))) (ss_one (s_ret oe_bl)) ss_nil)))
  (ss_one (s_ret (oe_and (oe_cmp (op_eqD hu) i_eq (nomark _) (oe_call G_frame_of (hr.mono (by decide)) (oa_cons (oe_op op_mulA i_mul (oe_lst (oa_cons oe_int oa_nil sr_Constant)) oe_int) oa_nil sr_BinOp)) (oe_op op_mulA i_mul (oe_tup (oa_cons oe_int oa_nil sr_Constant)) oe_int)) (oe_one (oe_call G_law_refused (hr.mono (by decide)) (oa_cons (oe_op op_addA i_add (oe_op op_mulA i_mul (oe_lst (oa_cons oe_int oa_nil sr_Constant)) oe_int) (oe_lst (oa_cons oe_int oa_nil sr_Constant))) oa_nil sr_BinOp)))))))))
theorem b_law {f : Addr} {fd : FuncData} (F : Fun K "law" "law" s_law f fd) : L2.Binds K fd ["_law_script"] [] := F.binds (ps := ["_law_script"]) fun _ _ _ _ _ _ us hl => len1 (fun _ => rfl) us hl
theorem f_frame_ofX {cp_is_whole : CP} {cp : CPX} {f : Addr} {fd : FuncData} (F : Fun K "frame_of" "frame_of" s_frame_of f fd) (B : Bq mg) (M_MOST_MARKS : ∃ t, mg "MOST_MARKS" = some (.int 6 t)) (M_MOST_ROWS : ∃ t, mg "MOST_ROWS" = some (.int 64 t)) (G_is_whole : Callee P w K mg base 1 "is_whole" cp_is_whole) {c_NoFrame : Addr} (C_NoFrame : PySem.W.nsIn K mainGlobals "NoFrame" = some (some (.ref c_NoFrame))) (Q_NoFrame : PySem.W.excIn K c_NoFrame excVal "ValueError.__new__" = true) (M_NoFrame : mg "NoFrame" = some (.ref c_NoFrame)) (len : ∀ ts h k y, cp ts h k y → ts.length = 1)
    (vc : ∀ ts h k y, cp ts h k y → W_frame_ofX cp_is_whole { nx := fun _ h' => k .non h', rt := k, ex := y } (begin_ 3 ts) h) : FnOk P w K mg base (CX1 P w) 2 f fd ["kinds"] (spOfX K cp) := by
  refine def_okX F sc_frame_of len fun cdv A outer s H E hr => ⟨W_frame_ofX cp_is_whole, ?_, vc⟩
  have hu : (A.deeper (envOfC "frame_of" (defScope s_frame_of) s.heap.objs.size f cdv)).units + 40 < cLine := hu40 hr
  exact (ss_cons (s_if (ot_not (ot_val (oe_isi2 "list" "tuple" B.isinstance B.list B.tuple (ov 0)))) (ss_one (s_raise rfl C_NoFrame Q_NoFrame M_NoFrame)) ss_nil)
  (ss_cons (s_if (ot_not (ot_chain op_le i_le op_le i_le oe_int (oe_callB call_len_seq i_len B.len (oa_cons (ov 0) oa_nil sr_Name)) (oe_glob M_MOST_MARKS))) (ss_one (s_raise rfl C_NoFrame Q_NoFrame M_NoFrame)) ss_nil)
  (ss_cons (s_set 1 sc_frame_of.nd oe_int)
  (ss_cons (s_for PassesOwn.leaving rfl (i_seq (ov 0)) (g_name 2 sc_frame_of.nd) (ss_cons (s_if (ot_w (ow_or (ot_not (ot_val (oe_call G_is_whole (hr.mono (by decide)) (oa_cons (ov 2) oa_nil sr_Name)))) (ow_or1 (ot_not (ot_chain op_le i_le op_le i_le oe_int (ov 2) oe_int))))) (ss_one (s_raise rfl C_NoFrame Q_NoFrame M_NoFrame)) ss_nil)
  (ss_one (s_set 1 sc_frame_of.nd (oe_op op_mulA i_mul (ov 1) (ov 2))))))
  (ss_cons (s_if (ot_cmp op_gt i_gt (nomark _) (ov 1) (oe_glob M_MOST_ROWS)) (ss_one (s_raise rfl C_NoFrame Q_NoFrame M_NoFrame)) ss_nil)
  (ss_one (s_ret (oe_callTy call_tuple_of i_tuple B.tuple (oa_cons (ov 0) oa_nil sr_Name)))))))))
end
theorem all_mk {l : PySem.W.OpenLaw} {w : World} {K : PySem.W.Frag} {h : Heap} {mg : Str → Option Value} {fa : Addr} (X : K.In h) (G : h.Ns mainGlobals mg) (hfa : mg "law" = some (.ref fa)) {t_MOST_MARKS t_MOST_ROWS : Tok} {f1 f2 f3 f4 f5 f6 f7 : Addr} {od1 an1 od2 an2 od3 an3 od4 an4 od5 an5 od6 an6 od7 an7 : Option Addr} {sl1 sl2 sl3 sl4 sl5 sl6 sl7 : Array (Option Value)} {oc1 kV1 dc1 pm1 cd1 ct1 oc2 kV2 dc2 pm2 cd2 ct2 oc3 kV3 dc3 pm3 cd3 ct3 oc4 kV4 dc4 pm4 cd4 ct4 oc5 kV5 dc5 pm5 cd5 ct5 oc6 kV6 dc6 pm6 cd6 ct6 oc7 kV7 dc7 pm7 cd7 ct7 : Value}
    (a1 : PySem.W.nsIn K mainGlobals "is_whole" = some (some (.ref f1))) (l1 : K.lookup f1 = some ⟨oc1, od1, .func (PySem.W.fnOf "is_whole" "is_whole" (defArgs s_is_whole) (defBody s_is_whole) (defScope s_is_whole) .none kV1 dc1 pm1 an1 cd1 ct1), sl1⟩) (c1 : PySem.W.codeIn K cd1 "is_whole" = true) (k1 : PySem.W.keepIn K (.ref f1) = true)
    (a2 : PySem.W.nsIn K mainGlobals "frame_of" = some (some (.ref f2))) (l2 : K.lookup f2 = some ⟨oc2, od2, .func (PySem.W.fnOf "frame_of" "frame_of" (defArgs s_frame_of) (defBody s_frame_of) (defScope s_frame_of) .none kV2 dc2 pm2 an2 cd2 ct2), sl2⟩) (c2 : PySem.W.codeIn K cd2 "frame_of" = true) (k2 : PySem.W.keepIn K (.ref f2) = true)
    (a3 : PySem.W.nsIn K mainGlobals "_law_take" = some (some (.ref f3))) (l3 : K.lookup f3 = some ⟨oc3, od3, .func (PySem.W.fnOf "_law_take" "_law_take" (defArgs s_law_take) (defBody s_law_take) (defScope s_law_take) .none kV3 dc3 pm3 an3 cd3 ct3), sl3⟩) (c3 : PySem.W.codeIn K cd3 "_law_take" = true) (k3 : PySem.W.keepIn K (.ref f3) = true)
    (a4 : PySem.W.nsIn K mainGlobals "_law_refused" = some (some (.ref f4))) (l4 : K.lookup f4 = some ⟨oc4, od4, .func (PySem.W.fnOf "_law_refused" "_law_refused" (defArgs s_law_refused) (defBody s_law_refused) (defScope s_law_refused) .none kV4 dc4 pm4 an4 cd4 ct4), sl4⟩) (c4 : PySem.W.codeIn K cd4 "_law_refused" = true) (k4 : PySem.W.keepIn K (.ref f4) = true)
    (a5 : PySem.W.nsIn K mainGlobals "_law_good" = some (some (.ref f5))) (l5 : K.lookup f5 = some ⟨oc5, od5, .func (PySem.W.fnOf "_law_good" "_law_good" (defArgs s_law_good) (defBody s_law_good) (defScope s_law_good) .none kV5 dc5 pm5 an5 cd5 ct5), sl5⟩) (c5 : PySem.W.codeIn K cd5 "_law_good" = true) (k5 : PySem.W.keepIn K (.ref f5) = true)
    (a6 : PySem.W.nsIn K mainGlobals "_law_right" = some (some (.ref f6))) (l6 : K.lookup f6 = some ⟨oc6, od6, .func (PySem.W.fnOf "_law_right" "_law_right" (defArgs s_law_right) (defBody s_law_right) (defScope s_law_right) .none kV6 dc6 pm6 an6 cd6 ct6), sl6⟩) (c6 : PySem.W.codeIn K cd6 "_law_right" = true) (k6 : PySem.W.keepIn K (.ref f6) = true)
    (a7 : PySem.W.nsIn K mainGlobals "law" = some (some (.ref f7))) (l7 : K.lookup f7 = some ⟨oc7, od7, .func (PySem.W.fnOf "law" "law" (defArgs s_law) (defBody s_law) (defScope s_law) .none kV7 dc7 pm7 an7 cd7 ct7), sl7⟩) (c7 : PySem.W.codeIn K cd7 "law" = true) (k7 : PySem.W.keepIn K (.ref f7) = true)
    (z1 : PySem.W.nsIn K mainGlobals "bool" = some none) (z2 : PySem.W.nsIn K mainGlobals "int" = some none) (z3 : PySem.W.nsIn K mainGlobals "isinstance" = some none) (z4 : PySem.W.nsIn K mainGlobals "len" = some none) (z5 : PySem.W.nsIn K mainGlobals "list" = some none) (z6 : PySem.W.nsIn K mainGlobals "range" = some none) (z7 : PySem.W.nsIn K mainGlobals "tuple" = some none) (m_MOST_MARKS : PySem.W.nsIn K mainGlobals "MOST_MARKS" = some (some (.int 6 t_MOST_MARKS))) (m_MOST_ROWS : PySem.W.nsIn K mainGlobals "MOST_ROWS" = some (some (.int 64 t_MOST_ROWS))) {c_NoFrame c_GlueError c_NoBack c_NoGlue c_NoName c_NoRow c_NoTable c_NoText c_NoTree c_TooMany c_Unlike : Addr} (b_NoFrame : PySem.W.nsIn K mainGlobals "NoFrame" = some (some (.ref c_NoFrame))) (b_GlueError : PySem.W.nsIn K mainGlobals "GlueError" = some (some (.ref c_GlueError))) (b_NoBack : PySem.W.nsIn K mainGlobals "NoBack" = some (some (.ref c_NoBack))) (b_NoGlue : PySem.W.nsIn K mainGlobals "NoGlue" = some (some (.ref c_NoGlue))) (b_NoName : PySem.W.nsIn K mainGlobals "NoName" = some (some (.ref c_NoName))) (b_NoRow : PySem.W.nsIn K mainGlobals "NoRow" = some (some (.ref c_NoRow))) (b_NoTable : PySem.W.nsIn K mainGlobals "NoTable" = some (some (.ref c_NoTable))) (b_NoText : PySem.W.nsIn K mainGlobals "NoText" = some (some (.ref c_NoText))) (b_NoTree : PySem.W.nsIn K mainGlobals "NoTree" = some (some (.ref c_NoTree))) (b_TooMany : PySem.W.nsIn K mainGlobals "TooMany" = some (some (.ref c_TooMany))) (b_Unlike : PySem.W.nsIn K mainGlobals "Unlike" = some (some (.ref c_Unlike))) (b_ValueError : PySem.W.nsIn K mainGlobals "ValueError" = some none) (q_NoFrame : PySem.W.excIn K c_NoFrame [.type "ValueError", .type "Exception", .type "BaseException", .type "object"] "ValueError.__new__" = true) (x1 : PySem.W.exmOne K (.ref c_NoFrame) (.ref c_GlueError) = some true) (x2 : PySem.W.kitOne K (.ref c_NoFrame) (.ref c_NoFrame) = some true) (x3 : PySem.W.kitOne K (.ref c_NoFrame) (.type "ValueError") = some true) (x4 : PySem.W.kitAny K (.ref c_NoFrame) [.ref c_NoBack, .ref c_NoGlue, .ref c_NoName, .ref c_NoRow, .ref c_NoTable, .ref c_NoText, .ref c_NoTree, .ref c_TooMany, .ref c_Unlike] = some false) (y1 : PySem.W.findIn K (.ref c_NoFrame) "__getattribute__" = some (some (.builtin "BaseException.__getattribute__"))) (y2 : PySem.W.findIn K (.ref c_NoFrame) "__getattr__" = some none) (y3 : PySem.W.findIn K (.ref c_NoFrame) "__class__" = some (some (.builtin "object.__class__"))) (y4 : PySem.W.specialIn K (.builtin "object.__class__") "__get__" = some (some (.builtin "getset_descriptor.__get__"))) (y5 : PySem.W.takesIn K (.builtin "object.__class__") = some true) (y6 : PySem.W.mroIn K c_NoFrame (.type "object") = some true) (y7 : PySem.W.subIn K (.ref c_NoFrame) (.type "BaseException") = some true) (y8 : PySem.W.hasDictIn K c_NoFrame = true) :
    ∃ fd : FuncData, (∀ (s : Shared) (v : Value), BindsTo s fd ⟨[v], []⟩ [("_law_script", v)]) ∧ ∀ base : Heap, K.In base → base.Ns mainGlobals mg → FnOk l.prog w K mg base CX0 5 fa fd ["_law_script"] (spOf K cp_law) := by
  have e := hfa.symm.trans (PySem.W.mg_of X G a7)
  cases e
  refine ⟨PySem.W.fnOf "law" "law" (defArgs s_law) (defBody s_law) (defScope s_law) .none kV7 dc7 pm7 an7 cd7 ct7, fun s v => .of_eq rfl, fun base _ _ => ?_⟩
  have F1 := fun_mk (st := s_is_whole) l1 c1 k1
  have F2 := fun_mk (st := s_frame_of) l2 c2 k2
  have F3 := fun_mk (st := s_law_take) l3 c3 k3
  have F4 := fun_mk (st := s_law_refused) l4 c4 k4
  have F5 := fun_mk (st := s_law_good) l5 c5 k5
  have F6 := fun_mk (st := s_law_right) l6 c6 k6
  have F7 := fun_mk (st := s_law) l7 c7 k7
  have B : Bq mg := ⟨PySem.W.mg_none_of X G z1, PySem.W.mg_none_of X G z2, PySem.W.mg_none_of X G z3, PySem.W.mg_none_of X G z4, PySem.W.mg_none_of X G z5, PySem.W.mg_none_of X G z6, PySem.W.mg_none_of X G z7⟩
  have M_MOST_MARKS : ∃ t, mg "MOST_MARKS" = some (.int 6 t) := ⟨_, PySem.W.mg_of X G m_MOST_MARKS⟩
  have M_MOST_ROWS : ∃ t, mg "MOST_ROWS" = some (.int 64 t) := ⟨_, PySem.W.mg_of X G m_MOST_ROWS⟩
  have G1 : Callee l.prog w K mg base 1 "is_whole" cp_is_whole := ⟨_, _, _, f_is_whole F1 B len_is_whole vc_is_whole, PySem.W.mg_of X G a1, k1, b_is_whole F1⟩
  have G2 : Callee l.prog w K mg base 2 "frame_of" cp_frame_of := ⟨_, _, _, f_frame_of F2 B M_MOST_MARKS M_MOST_ROWS G1 len_frame_of vc_frame_of, PySem.W.mg_of X G a2, k2, b_frame_of F2⟩
  have G3 : Callee l.prog w K mg base 1 "_law_take" cp_law_take := ⟨_, _, _, f_law_take F3 B len_law_take vc_law_take, PySem.W.mg_of X G a3, k3, b_law_take F3⟩
  have GX : CalleeX l.prog w K mg base 2 "frame_of" cpx_frame_of := ⟨_, _, _, f_frame_ofX F2 B M_MOST_MARKS M_MOST_ROWS G1 b_NoFrame q_NoFrame (PySem.W.mg_of X G b_NoFrame) len_frame_ofX vc_frame_ofX, PySem.W.mg_of X G a2, k2, b_frame_of F2⟩
  have G4 : Callee l.prog w K mg base 3 "_law_refused" cp_law_refused := ⟨_, _, _, f_law_refused F4 B GX b_NoFrame (PySem.W.mg_of X G b_NoFrame) (PySem.W.mg_of X G b_GlueError) (PySem.W.mg_none_of X G b_ValueError) x1 ⟨y1, y2, y3, y4, y5, y6, y7, y8⟩ x2 x3 (PySem.W.mg_of X G b_NoBack) (PySem.W.mg_of X G b_NoGlue) (PySem.W.mg_of X G b_NoName) (PySem.W.mg_of X G b_NoRow) (PySem.W.mg_of X G b_NoTable) (PySem.W.mg_of X G b_NoText) (PySem.W.mg_of X G b_NoTree) (PySem.W.mg_of X G b_TooMany) (PySem.W.mg_of X G b_Unlike) x4, PySem.W.mg_of X G a4, k4, b_law_refused F4⟩
  have G5 : Callee l.prog w K mg base 1 "_law_good" cp_law_good := ⟨_, _, _, f_law_good F5 B len_law_good vc_law_good, PySem.W.mg_of X G a5, k5, b_law_good F5⟩
  have G6 : Callee l.prog w K mg base 4 "_law_right" cp_law_right := ⟨_, _, _, f_law_right F6 B G5 G4 G2 len_law_right vc_law_right, PySem.W.mg_of X G a6, k6, b_law_right F6⟩
  exact f_law F7 B G3 G6 G4 G2 len_law vc_law
theorem walk {l : PySem.W.OpenLaw} {q : Program} {loose : List Str} {XP : (Str → Option Value) → Heap → Prop} {YP : World → Heap → Prop} {d : DefRec} {K : Params → PySem.W.Frag} (hn : l.most = some 63) (hdf : d.params.defaults = [])
    (hY : ∀ (w : World) (h : Heap), YP w h → (K w.params).In h)
    (F : ∀ (w : World) (mg : Str → Option Value) (fa : Addr) (h : Heap), (K w.params).In h → h.Ns mainGlobals mg → mg d.name = some (.ref fa) →
      ∃ fd : FuncData, (∀ (s : Shared) (u : Value), BindsTo s fd ⟨[u], []⟩ [("_law_script", u)]) ∧ ∀ base : Heap, (K w.params).In base → base.Ns mainGlobals mg → FnOk l.prog w (K w.params) mg base CX0 5 fa fd ["_law_script"] (spOf (K w.params) cp_law)) :
    PySem.W.WalkO q loose XP YP l.row.toRowW d [] (fun f vs => PySem.call f vs) :=
  L2.walk_of (n := 63) (k := 5) (x := "_law_script") (CX := fun _ => CX0) (sp := fun w => spOf (K w.params) cp_law) hn (by decide) hdf ⟨rfl, by decide, by decide⟩ hY F (fun w H a ns hl hO hS => law_start hl hO hS) fun _ _ _ _ _ z => z
end K01
open PySem PySem.W PyProof.Rows
set_option maxRecDepth 100000 in
set_option maxHeartbeats 0 in
theorem PySem.Challenge.cw_gluedtables_k01_frames_made_holds : PySem.Challenge.rw_gluedtables_k01_frames_made.Holds := by
  w_on; o_law; k_head; (case hw => w_witness2)
  k_fill
  refine K01.walk (l := PySem.Challenge.rw_gluedtables_k01_frames_made) rfl rfl (fun w h Y => PySem.W.kIn_of Y) ?F
  case F =>
    intro w mg fa h KX G hmg
    refine' K01.all_mk KX G hmg ?a1 ?l1 ?c1 ?k1 ?a2 ?l2 ?c2 ?k2 ?a3 ?l3 ?c3 ?k3 ?a4 ?l4 ?c4 ?k4 ?a5 ?l5 ?c5 ?k5 ?a6 ?l6 ?c6 ?k6 ?a7 ?l7 ?c7 ?k7 ?z1 ?z2 ?z3 ?z4 ?z5 ?z6 ?z7 ?m_MOST_MARKS ?m_MOST_ROWS ?b_NoFrame ?b_GlueError ?b_NoBack ?b_NoGlue ?b_NoName ?b_NoRow ?b_NoTable ?b_NoText ?b_NoTree ?b_TooMany ?b_Unlike ?b_ValueError ?q_NoFrame ?x1 ?x2 ?x3 ?x4 ?y1 ?y2 ?y3 ?y4 ?y5 ?y6 ?y7 ?y8
    (case a1 => k_is)
    (case l1 => k_is)
    (case c1 => k_is)
    (case k1 => k_is)
    (case a2 => k_is)
    (case l2 => k_is)
    (case c2 => k_is)
    (case k2 => k_is)
    (case a3 => k_is)
    (case l3 => k_is)
    (case c3 => k_is)
    (case k3 => k_is)
    (case a4 => k_is)
    (case l4 => k_is)
    (case c4 => k_is)
    (case k4 => k_is)
    (case a5 => k_is)
    (case l5 => k_is)
    (case c5 => k_is)
    (case k5 => k_is)
    (case a6 => k_is)
    (case l6 => k_is)
    (case c6 => k_is)
    (case k6 => k_is)
    (case a7 => k_is)
    (case l7 => k_is)
    (case c7 => k_is)
    (case k7 => k_is)
    (case z1 => k_is)
    (case z2 => k_is)
    (case z3 => k_is)
    (case z4 => k_is)
    (case z5 => k_is)
    (case z6 => k_is)
    (case z7 => k_is)
    (case m_MOST_MARKS => k_is)
    (case m_MOST_ROWS => k_is)
    (case b_NoFrame => k_is)
    (case b_GlueError => k_is)
    (case b_NoBack => k_is)
    (case b_NoGlue => k_is)
    (case b_NoName => k_is)
    (case b_NoRow => k_is)
    (case b_NoTable => k_is)
    (case b_NoText => k_is)
    (case b_NoTree => k_is)
    (case b_TooMany => k_is)
    (case b_Unlike => k_is)
    (case b_ValueError => k_is)
    (case q_NoFrame => k_exc)
    (case x1 => kts_exm)
    (case x2 => kit_is)
    (case x3 => kit_is)
    (case x4 => kit_is)
    (case y1 => k_is)
    (case y2 => k_is)
    (case y3 => k_is)
    (case y4 => k_is)
    (case y5 => k_is)
    (case y6 => k_is)
    (case y7 => k_is)
    (case y8 => k_is)
#print axioms PySem.Challenge.cw_gluedtables_k01_frames_made_holds
