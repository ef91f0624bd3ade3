/-
  The law's laid by its contract: fields with one more, by their names. Conditions: as stated.
-/
import Derived.Test.YtdcaohnaiepllaaGreatDoorJQ2
import Derived.Test.YtdcaohnaiepllaaGreatDoorU4
import Derived.Test.YtdcaohnaiepllaaGreatDoorU16
namespace Go.Proofs.YtdcaohnaiepllaaGreatDoor
open Go.RowKit Go.Extern.Stop Go.Stop Go.Extern

/-- a row of fields that is the call's own, made behind w0. -/
structure OwF (w0 : World) (s : Value) (es : List Fl) (w : World) : Prop where
  below : Below w0.heap.size w0 w
  own : w.ownsRow w0.heap.size 49 6 s es.length (encFs es)
theorem OwF.same {w0 w w' : World} {s : Value} {es : List Fl} (h : OwF w0 s es w) (hb : Below w.heap.size w w') : OwF w0 s es w' :=
  ⟨h.below.trans (hb.mono h.below.size), ownsRow_move (fun b hb' hl => ⟨(h.own.lt b hb').1, hb.block b hl⟩) h.own⟩
theorem OwF.nil {w0 w : World} (h : Below w0.heap.size w0 w) : OwF w0 (.slice none 0 0) [] w := ⟨h, World.ownsRow_nil _ _ _ _⟩
/-- what appending leaves as it was. -/
structure KpF (s : Value) (w w' : World) : Prop where
  size : w.heap.size ≤ w'.heap.size
  block : ∀ k, k < w.heap.size → s.ownBlock ≠ some k → w'.heap[k]? = w.heap[k]?
theorem append_fl {ops : Array Oper} {rest : List Oper} {o : Oper} {a : Act} {Q : Exit → Act → World → Prop} (hgd : o.guard = none) (so xo : Operand)
    (ho : o.op = .call { callee := .builtin .append, args := #[so, xo], argTypes := #[29, 29] })
    {w0 w : World} {s : Value} {es : List Fl} (h : OwF w0 s es w) (nm : ByteArray) (x : V) (al : Option Addr) (nl cl : Nat) (af : Option Addr) (nf cf : Nat)
    (hs : a.eval so = s) (H : Nat) (hx : a.eval xo = .slice (some ⟨H, 0, none⟩) 1 1) (hH : w.heap.size = H) (hlen : es.length + 1 ≤ 1000000)
    (k : ∀ s' w3, OwF w0 s' (es ++ [⟨nm, x, .slice al nl cl, .slice af nf cf⟩]) w3 → KpF s w w3 → wpList Tryz.prog ops Q rest (a.put o.dst s') w3) :
    wpList Tryz.prog ops Q (o :: rest) a (w.alloc (.cells #[.string nm, .int .i64 x.kind, .int .i64 x.num, .string x.text, .slice al nl cl, .slice af nf cf] 49)) := by
  subst hH
  obtain ⟨i0, hi, hz0, hz1, hz2⟩ := info_parts infoF
  obtain ⟨O2, hO2⟩ : ∃ O, O = Obj.cells #[.string nm, .int .i64 x.kind, .int .i64 x.num, .string x.text, .slice al nl cl, .slice af nf cf] 49 := ⟨_, rfl⟩
  rw [← hO2]
  have hA : Below w.heap.size w (w.alloc O2) := (Below.refl _ _).alloc (Nat.le_refl _) _
  have h1 := h.same hA
  have hnews : ∀ j u, [Value.string nm, .int .i64 x.kind, .int .i64 x.num, .string x.text, .slice al nl cl, .slice af nf cf][j]? = some u → (w.alloc O2).cell? ((⟨w.heap.size, 0, none⟩ : Addr).add j) = some u := by
    have hh : (w.alloc O2).heap[w.heap.size]? = some O2 := heap_alloc_new w _
    rw [hO2] at hh ⊢
    exact World.news_of_block hh
  have hone : ∀ v ∈ [Value.string nm, .int .i64 x.kind, .int .i64 x.num, .string x.text, .slice al nl cl, .slice af nf cf], v.oneCell' = true := by
    intro v hv
    simp only [List.mem_cons, List.not_mem_nil, or_false] at hv
    rcases hv with rfl | rfl | rfl | rfl | rfl | rfl <;> rfl
  refine wpList_append_lies _ hgd so xo 29 ho w0.heap.size 49 i0 _ 6 96 Tryz.underlying29 hi hz0 hz1 hz2 rfl (by decide) s es.length (encFs es) hs h1.own ⟨w.heap.size, 0, none⟩ 1 1 [Value.string nm, .int .i64 x.kind, .int .i64 x.num, .string x.text, .slice al nl cl, .slice af nf cf] hx rfl hnews hone (by omega) (by unfold maxLen; omega) (by omega) h1.below.size _ rfl ?_
  intro g cap w3 hown3 hgrow3 hlie hlt3
  refine k _ w3 ⟨h1.below.grown hgrow3 h1.below.size (fun k e => (h.own.lt k e).1), ?_⟩ ⟨Nat.le_trans hA.size hgrow3.size, ?_⟩
  · rw [encFs_append, List.length_append]; exact hown3
  · intro k hk hne
    exact (hgrow3.block k (Nat.lt_of_lt_of_le hk hA.size) (fun e => hne e.symm)).trans (hA.block k hk)

/-- one more field, by its name. -/
def insL (f : Fl) : List Fl → List Fl
  | [] => [f]
  | x :: xs => if 0 < cmpT x.name f.name then f :: x :: xs else x :: insL f xs
theorem insL_len (f : Fl) : ∀ xs, (insL f xs).length = xs.length + 1
  | [] => rfl
  | x :: xs => by
    unfold insL
    split
    · rfl
    · simp [insL_len f xs]
theorem insL_set (f : Fl) : ∀ xs : List Fl, getF f.name (xs.map Fl.pair) = none → (insL f xs).map Fl.pair = setF f.name f.v (xs.map Fl.pair)
  | [], _ => rfl
  | x :: xs, h => by
    rw [List.map_cons, getF_cons] at h
    split at h
    · cases h
    · rename_i h1
      have ih := insL_set f xs h
      have h1 : ¬ cmpT x.name f.name = 0 := h1
      show (if 0 < cmpT x.name f.name then f :: x :: xs else x :: insL f xs).map Fl.pair = (if cmpT x.name f.name = 0 then _ else if 0 < cmpT x.name f.name then _ else _)
      rw [if_neg h1]
      split
      · rfl
      · rw [List.map_cons, ih]
theorem insL_mem {f e : Fl} : ∀ {xs : List Fl}, e ∈ insL f xs → e = f ∨ e ∈ xs
  | [], h => .inl (List.mem_singleton.1 h)
  | x :: xs, h => by
    unfold insL at h
    split at h
    · rcases List.mem_cons.1 h with h | h
      · exact .inl h
      · exact .inr h
    · rcases List.mem_cons.1 h with h | h
      · exact .inr (by rw [h]; simp)
      · rcases insL_mem h with h | h
        · exact .inl h
        · exact .inr (List.mem_cons_of_mem _ h)

/-- what laid answers. -/
def LaidA (w : World) (es : List Fl) (e : Ending) (w' : World) : Prop := ∃ s', e = .returned s' ∧ OwF w s' es w'
set_option maxRecDepth 100000 in
set_option maxHeartbeats 8000000 in
theorem laid_any (nm : ByteArray) (x : V) (al : Option Addr) (nl cl : Nat) (af : Option Addr) (nf cf : Nat) (xs : List Fl) (sl : Value) (w : World) (hrow : RowAt (fun _ => True) w 49 6 sl xs.length (encFs xs)) (hsh : ∀ e ∈ xs, ∃ a1 n1 c1 a2 n2 c2, e.l = .slice a1 n1 c1 ∧ e.f = .slice a2 n2 c2) (hxl : xs.length ≤ 100000) :
    Calls Tryz.prog 70 #[sl, .agg #[.string nm, .int .i64 x.kind, .int .i64 x.num, .string x.text, .slice al nl cl, .slice af nf cf]] w (LaidA w (insL ⟨nm, x, .slice al nl cl, .slice af nf cf⟩ xs)) := by
  obtain ⟨aa, ca, rfl⟩ := hrow.slice
  have na := hrow.2.1
  obtain ⟨O, hO⟩ : ∃ O, O = Obj.cells #[.string nm, .int .i64 x.kind, .int .i64 x.num, .string x.text, .slice al nl cl, .slice af nf cf] 49 := ⟨_, rfl⟩
  obtain ⟨W, hW⟩ : ∃ W, W = w.alloc O := ⟨_, rfl⟩
  have hWB : Below w.heap.size w W := by rw [hW]; exact (Below.refl _ _).alloc (Nat.le_refl _) _
  have rW : W.heap[w.heap.size]? = some O := by rw [hW]; exact heap_alloc_new w _
  have hWs : W.heap.size = w.heap.size + 1 := by rw [hW]; simp
  rw [hO] at rW
  obtain ⟨F, hF⟩ : ∃ F : Fl, (⟨nm, x, .slice al nl cl, .slice af nf cf⟩ : Fl) = F := ⟨_, rfl⟩
  rw [hF]
  have HH := (show Hid _ from And.intro hrow (And.intro hsh (And.intro hWB (And.intro rW (And.intro hWs hF)))))
  clear hrow hsh hWB rW hWs hF
  go_enter Tryz.func70, Tryz.ntmps70
  go_wp2_with fail
  rw [← hO, ← hW]
  clear hO hW O
  go_loopg [5, 6, 8, 11] xs.length (fun gg out put _ i wr => ∃ (k : Nat) (es : List Fl) (q : Bool), k ≤ xs.length ∧ xs.length - k ≤ gg ∧ i = .int .i64 k ∧ put = .bool q ∧ es.length ≤ 2 * k ∧ Aside (OwF W out es wr) ∧ Aside (insL F xs = es ++ (if q then xs.drop k else insL F (xs.drop k))))
  case atStart => exact ⟨0, [], false, Nat.zero_le _, by omega, rfl, rfl, by simp, OwF.nil (Below.refl _ _), rfl⟩
  case round =>
    obtain ⟨k, es, q, hk, hgg, rfl, rfl, hel, hOw, hIn⟩ := hrel
    obtain ⟨hrow, hsh, hWB, rW, hWs, hF⟩ := HH.out
    have hB := hOw.out.below
    have rWr := (hB.block _ (lt_of_heap rW)).trans rW
    obtain ⟨g0, g1, g2, g3, g4, g5, gf⟩ := row6 rWr
    have hltb := lt_of_heap rWr
    by_cases hlt : k < xs.length
    · obtain ⟨b0, c', e1, hb0, _, hc1, hc2, _⟩ := hrow.cells (by omega)
      simp only [Value.slice.injEq, true_and] at e1
      obtain ⟨rfl, rfl⟩ := e1
      obtain ⟨⟨xn, xv, xl, xf⟩, hx⟩ : ∃ x, xs[k]? = some x := ⟨_, List.getElem?_eq_getElem hlt⟩
      have hBw : Below w.heap.size w wr := hWB.trans (hB.mono (by omega))
      obtain ⟨a0, a1, a2, a3, a4, a5⟩ := (hrow.move fun c _ hl => ⟨trivial, hBw.block c hl⟩).fl hx
      obtain ⟨p1, n1, c1, p2, n2, c2, e1, e2⟩ := hsh _ (List.mem_of_getElem? hx)
      simp only at a0 a1 a2 a3 a4 a5 e1 e2
      subst e1 e2
      have hdr : xs.drop k = ⟨xn, xv, .slice p1 n1 c1, .slice p2 n2 c2⟩ :: xs.drop (k + 1) := by
        rw [List.drop_eq_getElem_cons hlt]
        congr 1
        rw [List.getElem?_eq_getElem hlt] at hx
        exact Option.some.inj hx
      have zk : (k : Int) < (xs.length : Int) := by omega
      have hb0r : b0 < wr.heap.size := Nat.lt_of_lt_of_le hb0 hBw.size
      obtain ⟨OX, hOX⟩ : ∃ O, O = Obj.cells #[.string xn, .int .i64 xv.kind, .int .i64 xv.num, .string xv.text, .slice p1 n1 c1, .slice p2 n2 c2] 49 := ⟨_, rfl⟩
      have hBX : Below wr.heap.size wr (wr.alloc OX) := (Below.refl _ _).alloc (Nat.le_refl _) _
      have rX : (wr.alloc OX).heap[wr.heap.size]? = some OX := heap_alloc_new wr _
      have hOwX := hOw.out.same hBX
      have hne : u5.ownBlock ≠ some wr.heap.size := fun e => by have := (hOw.out.own.lt _ e).2; omega
      have gX := (hBX.block _ hltb).trans rWr
      obtain ⟨G0, G1, G2, G3, G4, G5, Gf⟩ := row6 gX
      rw [hOX] at rX hOwX G0 G1 G2 G3 G4 G5
      have hnb : u5.ownBlock ≠ some w.heap.size := fun e => by have := (hOw.out.own.lt _ e).1; omega
      have HX := (show Hid _ from And.intro rX (And.intro hOwX (And.intro hdr (And.intro hne hF))))
      have hgt := gtr_cmpT xn nm
      clear hrow hsh hWB rW hWs hB rWr hBw hx hBX rX hOwX hdr hne gX hOX hF hnb
      have hel2 : es.length + 1 ≤ 1000000 := by omega
      cases q
      · by_cases hc : 0 < cmpT xn nm
        · rw [decide_eq_true hc] at hgt
          rw [Bool.and_eq_true, Bool.not_eq_true', Bool.not_eq_true'] at hgt
          obtain ⟨l1, l2⟩ := hgt
          have HC := (show Hid _ from hc)
          clear hc
          go_wp2_with (first | (at_builtin; refine append_fl rfl (.tmp 24) (.tmp 26) rfl HX.out.2.1 nm x al nl cl af nf cf rfl _ rfl (by simp) hel2 ?_; intro s1 u1' h1 k1; have rX1 := (k1.block _ (by simp) HX.out.2.2.2.1).trans HX.out.1; obtain ⟨m0, m1, m2, m3, m4, m5, mf⟩ := row6 rX1; have hlt1 := lt_of_heap rX1; have H1 := (show Hid _ from h1); clear h1 k1 rX1) | (at_builtin; refine append_fl rfl (.tmp 28) (.tmp 30) rfl H1.out xn xv p1 n1 c1 p2 n2 c2 rfl _ rfl rfl (by simp; omega) ?_; intro s2 u2' h2 k2; have H2 := (show Hid _ from h2); clear h2 k2))
          go_roundg (xs.length - (k + 1))
          case measure => omega
          case rel =>
            refine ⟨k + 1, es ++ ([⟨nm, x, .slice al nl cl, .slice af nf cf⟩] : List Fl) ++ ([⟨xn, xv, .slice p1 n1 c1, .slice p2 n2 c2⟩] : List Fl), true, by omega, by omega, by go_num, rfl, by simp; omega, H2.out, ?_⟩
            show _ = _
            rw [hIn.out, HX.out.2.2.1, HX.out.2.2.2.2]
            have hc := HC.out
            have hn : F.name = nm := by rw [← HX.out.2.2.2.2]
            show es ++ (if 0 < cmpT xn F.name then _ else _) = _
            rw [if_pos (by rw [hn]; exact hc)]
            simp
        · rw [decide_eq_false hc] at hgt
          have HC := (show Hid _ from hc)
          clear hc
          obtain ⟨q1, hq1⟩ : ∃ q, Op.bytesLess xn.toList nm.toList = q := ⟨_, rfl⟩
          obtain ⟨q2, hq2⟩ : ∃ q, (xn.toList == nm.toList) = q := ⟨_, rfl⟩
          rw [hq1, hq2] at hgt
          cases q1 <;> cases q2
          · simp at hgt
          all_goals
            clear hgt
            go_wp2_with (first | (at_builtin; refine append_fl rfl (.tmp 28) (.tmp 30) rfl HX.out.2.1 xn xv p1 n1 c1 p2 n2 c2 rfl _ rfl (by simp) hel2 ?_; intro s2 u2' h2 k2; have H2 := (show Hid _ from h2); clear h2 k2))
            go_roundg (xs.length - (k + 1))
            case measure => omega
            case rel =>
              refine ⟨k + 1, es ++ ([⟨xn, xv, .slice p1 n1 c1, .slice p2 n2 c2⟩] : List Fl), false, by omega, by omega, by go_num, rfl, by simp; omega, H2.out, ?_⟩
              show _ = _
              rw [hIn.out, HX.out.2.2.1]
              have hc := HC.out
              have hn : F.name = nm := by rw [← HX.out.2.2.2.2]
              show es ++ (if 0 < cmpT xn F.name then _ else _) = _
              rw [if_neg (by rw [hn]; exact hc)]
              simp
      · clear hgt
        go_wp2_with (first | (at_builtin; refine append_fl rfl (.tmp 28) (.tmp 30) rfl HX.out.2.1 xn xv p1 n1 c1 p2 n2 c2 rfl _ rfl (by simp) hel2 ?_; intro s2 u2' h2 k2; have H2 := (show Hid _ from h2); clear h2 k2))
        go_roundg (xs.length - (k + 1))
        case measure => omega
        case rel =>
          refine ⟨k + 1, es ++ ([⟨xn, xv, .slice p1 n1 c1, .slice p2 n2 c2⟩] : List Fl), true, by omega, by omega, by go_num, rfl, by simp; omega, H2.out, ?_⟩
          show _ = _
          rw [hIn.out, HX.out.2.2.1]
          simp
    · have zk : ¬ (k : Int) < (xs.length : Int) := by omega
      have hdr : xs.drop k = [] := List.drop_eq_nil_of_le (by omega)
      have hel2 : es.length + 1 ≤ 1000000 := by omega
      have HX := (show Hid _ from And.intro hdr (And.intro hF (And.intro hWB hWs)))
      clear hrow hsh hWB rW hWs hB rWr hdr hF
      cases q
      · go_wp2_with (first | (at_builtin; refine append_fl rfl (.tmp 35) (.tmp 37) rfl hOw.out nm x al nl cl af nf cf rfl _ rfl rfl hel2 ?_; intro s2 u2' h2 k2; have H2 := (show Hid _ from h2); clear h2 k2))
        go_ret
        refine ⟨s2, rfl, ?_, ?_⟩
        · have hb := H2.out.below
          obtain ⟨_, _, hWB, hWs⟩ := HX.out
          exact hWB.trans (hb.mono (by omega))
        · have h2 := H2.out.own
          have e : insL F xs = es ++ [⟨nm, x, .slice al nl cl, .slice af nf cf⟩] := by
            rw [hIn.out, HX.out.1, HX.out.2.1]; rfl
          rw [e]
          exact ownsRow_move (fun b hb _ => ⟨by have := (h2.lt b hb).1; have := HX.out.2.2.2; omega, rfl⟩) h2
      · go_wp2_with fail
        go_ret
        refine ⟨u5, rfl, ?_, ?_⟩
        · have hb := hOw.out.below
          obtain ⟨_, _, hWB, hWs⟩ := HX.out
          exact hWB.trans (hb.mono (by omega))
        · have h2 := hOw.out.own
          have e : insL F xs = es := by
            rw [hIn.out, HX.out.1]; simp
          rw [e]
          exact ownsRow_move (fun b hb _ => ⟨by have := (h2.lt b hb).1; have := HX.out.2.2.2; omega, rfl⟩) h2
end Go.Proofs.YtdcaohnaiepllaaGreatDoor
