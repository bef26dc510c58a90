/- Plain mathematics of reading: expressions, what a marked expression tells along a text, where rules fit; nothing of the program is named here. -/
import Derived.Deep.Trees
namespace Go.Proofs.Ytjbhfonokgkalaa
set_option linter.unusedVariables false

/-- Expressions, one behind the other: each has its kind and its classes, its parts, and those behind it (the library's trees; their addresses are not looked at). -/
abbrev Fo := Go.Deep.BT (Int × List Int)
/-- An expression. -/
structure Nd where
  op : Int
  cl : List Int
  kids : Fo
def toL : Fo → List Nd
  | .nil => []
  | .node _ _ a k r => ⟨a.1, a.2, k⟩ :: toL r
def ofL : List Nd → Fo
  | [] => .nil
  | n :: r => .node 0 0 (n.op, n.cl) n.kids (ofL r)
theorem toL_ofL : (l : List Nd) → toL (ofL l) = l
  | [] => rfl
  | n :: r => by simp [ofL, toL, toL_ofL r]
/-- How deep the deepest is. -/
def deepF : Fo → Nat
  | .nil => 0
  | .node _ _ _ k r => max (deepF k + 1) (deepF r)
def Nd.deep (n : Nd) : Nat := deepF n.kids + 1
theorem deep_mem : (f : Fo) → (n : Nd) → n ∈ toL f → n.deep ≤ deepF f
  | .nil, n, h => by simp [toL] at h
  | .node _ _ a k r, n, h => by
    simp only [toL, List.mem_cons] at h
    simp only [deepF]
    rcases h with rfl | h
    · simp only [Nd.deep]; omega
    · have := deep_mem r n h; omega

/-- What was read, the newest ahead: the class, and whether one began ahead of it. -/
abbrev Hist := List (Int × Bool)
/-- What an expression tells: whether it fits nothing, and whether it ends behind what was read. -/
abbrev Dn := Bool × (Hist → Bool)
def setE (cl : List Int) : Hist → Bool
  | [] => false
  | (c, b) :: _ => b && decide (c ∈ cl)
def nextH (e : Bool) (F : Hist → Bool) : Hist → Hist
  | [] => []
  | (c, b) :: h => (c, F h || (b && e)) :: nextH e F h
def starH (F : Hist → Bool) : Hist → Hist
  | [] => []
  | (c, b) :: h => (c, b || F (starH F h)) :: starH F h
def rowE (acc : Bool) : List Dn → Hist → Bool
  | [], _ => acc
  | k :: r, h => rowE (k.2 h || (acc && k.1)) r (nextH k.1 k.2 h)
def anyE (ks : List Dn) (h : Hist) : Bool := ks.any fun k => k.2 h
def nodeE (op : Int) (cl : List Int) (ks : List Dn) (h : Hist) : Bool :=
  if op = 1 then setE cl h else if op = 2 then rowE false ks h else if op = 3 ∨ op = 5 then anyE ks h else if op = 4 then anyE ks (starH (anyE ks) h) else false
def nodeM (op : Int) (ks : List Dn) : Bool :=
  if op = 0 then true else if op = 2 then ks.all (fun k => k.1) else if op = 3 then ks.any (fun k => k.1) else if op = 4 ∨ op = 5 then decide (ks.length = 1) else false
def den : Fo → List Dn
  | .nil => []
  | .node _ _ a k r => (nodeM a.1 (den k), nodeE a.1 a.2 (den k)) :: den r
def Nd.emp (n : Nd) : Bool := nodeM n.op (den n.kids)
def Nd.end (n : Nd) (h : Hist) : Bool := nodeE n.op n.cl (den n.kids) h
theorem den_map : (f : Fo) → den f = (toL f).map fun n => (n.emp, n.end)
  | .nil => rfl
  | .node _ _ a k r => by simp only [den, toL, List.map_cons, den_map r]; rfl
theorem den_len (f : Fo) : (den f).length = (toL f).length := by rw [den_map]; simp
/-- What the parts, each behind the other, have read. -/
def seqHs : List Dn → Hist → List Hist
  | [], _ => []
  | k :: r, h => h :: seqHs r (nextH k.1 k.2 h)
theorem seqHs_len : (ks : List Dn) → (h : Hist) → (seqHs ks h).length = ks.length
  | [], _ => rfl
  | k :: r, h => by simp [seqHs, seqHs_len r]
/-- What the parts of an expression have read. -/
def Nd.hs (n : Nd) (h : Hist) : List Hist :=
  if n.op = 2 then seqHs (den n.kids) h else List.replicate (toL n.kids).length (if n.op = 4 then starH (anyE (den n.kids)) h else h)
theorem Nd.hs_len (n : Nd) (h : Hist) : (n.hs h).length = (toL n.kids).length := by
  unfold Nd.hs; split
  · rw [seqHs_len, den_len]
  · simp
theorem end_nil_aux : (ks : List Dn) → (∀ k ∈ ks, k.2 [] = false) → rowE false ks [] = false
  | [], _ => rfl
  | k :: r, h => by
    have h1 := h k (by simp)
    simp only [rowE, h1, Bool.false_and, Bool.or_self]
    exact end_nil_aux r (fun x hx => h x (by simp [hx]))
theorem den_nil : (f : Fo) → ∀ k ∈ den f, k.2 [] = false
  | .nil, k, h => by simp [den] at h
  | .node _ _ a f r, k, h => by
    simp only [den, List.mem_cons] at h
    rcases h with rfl | h
    · have ih := den_nil f
      have ha : anyE (den f) [] = false := by
        unfold anyE; rw [List.any_eq_false]; intro x hx; rw [ih x hx]; simp
      show nodeE a.1 a.2 (den f) [] = false
      unfold nodeE
      split
      · rfl
      · split
        · exact end_nil_aux _ ih
        · split
          · exact ha
          · split
            · exact ha
            · rfl
    · exact den_nil r k h
theorem end_nil (n : Nd) : n.end [] = false := den_nil (.node 0 0 (n.op, n.cl) n.kids .nil) _ (by simp only [den, List.mem_cons]; exact .inl rfl)

/-- Turned round, if it is asked. -/
def revL (t : Bool) (l : List Nd) : List Nd := if t then l.reverse else l
/-- Do the parts count? -/
def cnt (op : Int) (k : Nat) : Bool := decide (op = 2 ∨ op = 3) || (decide (op = 4 ∨ op = 5) && decide (k = 1))
/-- Expressions with the parts that count, turned round if it is asked. -/
def nrm (t : Bool) : Fo → List Nd
  | .nil => []
  | .node _ _ a k r => ⟨a.1, a.2, ofL (if cnt a.1 (toL k).length then revL t (nrm t k) else [])⟩ :: nrm t r
def Nd.nrm (t : Bool) (n : Nd) : Nd := ⟨n.op, n.cl, ofL (if cnt n.op (toL n.kids).length then revL t (Go.Proofs.Ytjbhfonokgkalaa.nrm t n.kids) else [])⟩
theorem nrm_map (t : Bool) : (f : Fo) → nrm t f = (toL f).map (Nd.nrm t)
  | .nil => rfl
  | .node _ _ a k r => by simp only [nrm, toL, List.map_cons, nrm_map t r]; rfl
/-- A text of which the newest is ahead, as it is read: from its first place, or from all. -/
def hsr (any : Bool) : List Int → Hist
  | [] => []
  | c :: r => (c, any || r.isEmpty) :: hsr any r
/-- Does it fit up to the end of what was read? -/
def endsAt (n : Nd) (any : Bool) (rev : List Int) : Bool := if rev.isEmpty then n.emp else n.end (hsr any rev) || (any && n.emp)
/-- Of each place whether it fits up to it. -/
def endsL (n : Nd) (any : Bool) (text : List Int) : List Bool := (List.range (text.length + 1)).map fun p => endsAt n any (text.take p).reverse
/-- A rule. -/
structure Rl where
  left : Nd
  right : Nd
  brk : Bool
  start : Bool
def Rl.fitL (r : Rl) (text : List Int) (p : Nat) : Bool := endsAt (r.left.nrm false) (!r.start) (text.take p).reverse
def Rl.fitR (r : Rl) (text : List Int) (p : Nat) : Bool := endsAt (r.right.nrm true) true (text.drop p)
/-- Does a rule fit at a place that there is? -/
def Rl.fit (r : Rl) (text : List Int) (p : Nat) : Bool := r.fitL text p && r.fitR text p
/-- The first one's place. -/
def firstI {α : Type} (q : α → Bool) : List α → Int
  | [] => -1
  | x :: r => if q x then 0 else if firstI q r = -1 then -1 else firstI q r + 1
def whichI (l : List Rl) (text : List Int) (p : Nat) : Int := firstI (fun r => r.fit text p) l
/-- What the first one that fits says; true, if none does. -/
def saysB (q : Rl → Bool) : List Rl → Bool
  | [] => true
  | r :: l => if q r then r.brk else saysB q l
def boundAt (l : List Rl) (text : List Int) (p : Nat) : Bool := if p = 0 ∨ p = text.length then decide (0 < text.length) else saysB (fun r => r.fit text p) l
def boundL (l : List Rl) (text : List Int) : List Bool := (List.range (text.length + 1)).map (boundAt l text)
end Go.Proofs.Ytjbhfonokgkalaa
