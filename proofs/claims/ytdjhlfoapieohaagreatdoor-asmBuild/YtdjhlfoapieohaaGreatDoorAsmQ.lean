/-
  What is listed of a program is built as it, line by line, as plain data.
-/
import Derived.Test.YtdjhlfoapieohaaGreatDoorAsmP
namespace Go.Proofs.YtdjhlfoapieohaaGreatDoor.S
set_option linter.unusedVariables false

theorem name_not : ∀ k, k < 32 → ((10 : UInt8) ∉ (K.row k).1 ∧ (32 : UInt8) ∉ (K.row k).1 ∧ (58 : UInt8) ∉ (K.row k).1) ∧ (K.row k).1 ≠ plain ∧ (k ≠ 30 → opOf (K.row k).1 = some k) := by decide +kernel
theorem line_not (x : UInt8) (h1 : x ≠ 44) (h2 : x ≠ 32) (h3 : x ≠ 45) (h4 : ¬ (48 ≤ x.toNat ∧ x.toNat ≤ 57)) (h5 : x ≠ 114) (k : Nat) (hn : x ∉ (K.row k).1) (o : Ord) : x ∉ orderText k o := by
  unfold orderText
  intro h
  rcases List.mem_append.1 h with h | h
  · exact hn h
  · split at h
    · cases h
    · rcases List.mem_cons.1 h with h | h
      · exact h2 h
      · refine join_not x h1 h2 _ (fun p hp => ?_) h
        obtain ⟨q, _, rfl⟩ := List.mem_map.1 hp
        exact partText_not o q x h3 h4 h5
theorem partText_ne (o : Ord) (p : Nat) : partText o p ≠ [] := by unfold partText; split <;> simp [itoa_ne]
theorem join_ne (p : By) (ps : List By) (hp : p ≠ []) : Lib.join (p :: ps) comma ≠ [] := by
  cases ps with
  | nil => rw [join_one]; exact hp
  | cons q ps => rw [join_cons]; simp
/-- The parts of an order's line are its parts. -/
theorem cut_line (k : Nat) (hk : k < 32) (o : Ord) : (Lib.cut (orderText k o) [32]).1 = (K.row k).1 ∧ partsOf (Lib.cut (orderText k o) [32]).2.1 = (parts k).map (partText o) := by
  obtain ⟨⟨_, h32, _⟩, _⟩ := name_not k hk
  unfold orderText
  cases hp : parts k with
  | nil => rw [if_pos rfl, List.append_nil, cut_no 32 _ h32]; exact ⟨rfl, rfl⟩
  | cons p ps =>
    rw [if_neg (by simp), cut_at 32 _ _ h32, List.map_cons]
    refine ⟨rfl, ?_⟩
    unfold partsOf
    rw [if_neg (join_ne _ _ (partText_ne o p))]
    refine split_of _ _ (partText_not o p 44 (by decide) (by decide) (by decide)) (fun q hq => ?_)
    obtain ⟨r, _, rfl⟩ := List.mem_map.1 hq
    exact partText_not o r 44 (by decide) (by decide) (by decide)
theorem readParts_text (o : Ord) (hd : 0 ≤ o.d ∧ o.d ≤ 7) (hs : 0 ≤ o.s ∧ o.s ≤ 7) (hn : -16 ≤ o.n ∧ o.n ≤ 15) (hw : 0 ≤ o.w ∧ o.w ≤ 65535) : ∀ (ks : List Nat), (∀ p ∈ ks, p < 4) → ∀ a : Ord,
    readParts ks (ks.map (partText o)) a [] = some (ks.foldl (fun a p => a.set p (o.get p)) a, [])
  | [], _, a => rfl
  | p :: ks, h, a => by
    have ih := fun a => readParts_text o hd hs hn hw ks (fun q hq => h q (List.mem_cons_of_mem _ hq)) a
    have hp := h p (List.mem_cons_self ..)
    have hc : p = 0 ∨ p = 1 ∨ p = 2 ∨ p = 3 := by omega
    have e : readPart p (partText o p) a [] = some (a.set p (o.get p), []) := by
      rcases hc with rfl | rfl | rfl | rfl
      · have := reg_itoa o.d hd.1 hd.2
        simp [readPart, partText, Ord.get, this]
      · have := reg_itoa o.s hs.1 hs.2
        simp [readPart, partText, Ord.get, this]
      · have := wordOrName_itoa o.w (by omega) (by omega)
        simp [readPart, partText, Ord.get, this]
      · have := num_itoa o.n (by omega) (by omega)
        simp [readPart, partText, Ord.get, this]
    simp only [List.map_cons, readParts, e, Option.bind_some, List.foldl_cons, ih]
theorem foldl_parts (k : Nat) (o : Ord) (h : O.okB k o.d o.s o.n o.w = true) : (parts k).foldl (fun a p => a.set p (o.get p)) Ord.zero = o := by
  unfold O.okB O.part at h
  simp only [Bool.and_eq_true] at h
  obtain ⟨⟨⟨h0, h1⟩, h3⟩, h2⟩ := h
  obtain ⟨d, s, n, w⟩ := o
  have e : List.range 4 = [0, 1, 2, 3] := rfl
  unfold parts
  rw [e]
  have s0 : sgn 0 = 100 := rfl
  have s1 : sgn 1 = 115 := rfl
  have s2 : sgn 2 = 119 := rfl
  have s3 : sgn 3 = 110 := rfl
  cases c0 : O.hasC k 100 <;> cases c1 : O.hasC k 115 <;> cases c2 : O.hasC k 119 <;> cases c3 : O.hasC k 110 <;>
    simp [c0, c1, c2, c3] at h0 h1 h2 h3 <;> simp [List.filter, s0, s1, s2, s3, c0, c1, c2, c3, Ord.set, Ord.get, Ord.zero] <;> simp_all
theorem readLine_order (k : Nat) (hk : k < 32) (h30 : k ≠ 30) (o : Ord) (hok : O.okB k o.d o.s o.n o.w = true) (ln : Nat) (st : St) : readLine (orderText k o) ln st = put (O.words k o.d o.s o.n o.w) [] ln st := by
  obtain ⟨⟨_, _, h58⟩, hpl, hop⟩ := name_not k hk
  obtain ⟨b1, b2, b3, b4⟩ := O.ok_bd hok
  obtain ⟨c1, c2⟩ := cut_line k hk o
  unfold readLine
  rw [suffix_no 58 _ (line_not 58 (by decide) (by decide) (by decide) (by decide) (by decide) k h58 o), c1, c2, if_neg (by simp), if_neg hpl]
  unfold readOrder
  rw [hop h30]
  simp only [List.length_map, if_true]
  rw [readParts_text o b1 b2 b3 b4 (parts k) (fun p hp => by simp [parts] at hp; exact hp.1), foldl_parts k o hok]
  have : O.ck (k : Int) o.d o.s o.n o.w = 0 := by
    unfold O.ck
    rw [(O.isOp_iff _).2 ⟨by omega, by omega, by omega⟩, Int.toNat_natCast, hok]; rfl
  simp only [this, if_true]
theorem readLine_word (a : Int) (ha : 0 ≤ a ∧ a ≤ 65535) (ln : Nat) (st : St) : readLine (wordText a) ln st = put [a] [] ln st := by
  have h58 : (58 : UInt8) ∉ wordText a := by
    unfold wordText
    intro h
    rcases List.mem_append.1 h with h | h
    · revert h; decide
    · rcases List.mem_cons.1 h with h | h
      · revert h; decide
      · exact itoa_not a 58 (by decide) (by decide) h
  have hc : Lib.cut (wordText a) [32] = (plain, Lib.itoa a, true) := cut_at 32 plain (Lib.itoa a) (by decide)
  unfold readLine
  rw [suffix_no 58 _ h58, hc, if_neg (by simp), if_pos rfl]
  have hp : partsOf (Lib.itoa a) = [Lib.itoa a] := by
    unfold partsOf
    rw [if_neg (itoa_ne a)]
    have := split_of (Lib.itoa a) [] (itoa_not a 44 (by decide) (by decide)) (by simp)
    rwa [join_one] at this
  simp only [hp, readWord, wordOrName_itoa a (by omega) (by omega)]
  rw [if_neg (by omega)]
theorem word_bd (a b : UInt8) : 0 ≤ word a b ∧ word a b ≤ 65535 := by
  have := a.toNat_lt
  have := b.toNat_lt
  unfold word; omega
theorem second_bd (r : By) : 0 ≤ second r ∧ second r ≤ 65535 := by
  unfold second
  split
  · exact word_bd _ _
  · omega
theorem bytes_word (a b : UInt8) (ws : List Int) : bytesOf (word a b :: ws) = a :: b :: bytesOf ws := by
  have ha := a.toNat_lt
  have hb := b.toNat_lt
  have e1 : (word a b / 256).toNat = a.toNat := by unfold word; omega
  have e2 : (word a b % 256).toNat = b.toNat := by unfold word; omega
  simp only [bytesOf, e1, e2, UInt8.ofNat_toNat]
theorem put_ok (ws : List Int) (ln : Nat) (st : St) (h : st.rom.length + 2 * ws.length ≤ 1024) : put ws [] ln st = .ok { st with rom := st.rom ++ bytesOf ws } := by
  unfold put
  rw [if_neg (by omega), if_pos rfl]
theorem rLen_or (a : Int) : O.rLen a = 1 ∨ O.rLen a = 2 := by unfold O.rLen; split <;> simp
theorem first_size (rom : By) : (firstLine rom).2 = 2 ∨ (firstLine rom).2 = 4 := by
  unfold firstLine lineOf
  split
  · rcases rLen_or (second rom) with h | h <;> rw [h] <;> simp
  · exact Or.inl rfl
theorem first_le (rom : By) (h : 2 ≤ rom.length) : (firstLine rom).2 ≤ rom.length := by
  unfold firstLine lineOf
  cases hi : isOrder (second rom) rom.length with
  | false => rw [if_neg (by simp)]; exact h
  | true =>
    rw [if_pos rfl]
    unfold isOrder at hi
    simp only [Bool.and_eq_true, decide_eq_true_eq] at hi
    have := hi.2
    show 2 * (O.rLen (second rom)).toNat ≤ rom.length
    rcases rLen_or (second rom) with h' | h' <;> rw [h'] at this ⊢ <;> simp at this ⊢ <;> omega
/-- A program's first line is read as the bytes that it tells. -/
theorem readLine_first (rom : By) (h2 : 2 ≤ rom.length) (he : rom.length % 2 = 0) (ln : Nat) (st : St) (hm : st.rom.length + rom.length ≤ 1024) :
    readLine (firstLine rom).1 ln st = .ok { st with rom := st.rom ++ rom.take (firstLine rom).2 } := by
  match rom, h2, he, hm with
  | a :: b :: r, h2, he, hm =>
    have hf := word_bd a b
    have hs : second (a :: b :: r) = word a b := rfl
    have hsd : (a :: b :: r).drop 2 = r := rfl
    unfold firstLine lineOf
    rw [hs, hsd]
    cases hi : isOrder (word a b) (a :: b :: r).length with
    | false =>
      simp only [Bool.false_eq_true, if_false]
      rw [readLine_word _ hf, put_ok _ _ _ (by simp at hm ⊢; omega), bytes_word]
      rfl
    | true =>
      simp only [if_true]
      unfold isOrder at hi
      simp only [Bool.and_eq_true, decide_eq_true_eq, beq_iff_eq] at hi
      obtain ⟨hfst, hlen⟩ := hi
      have hop := O.rOp_isOp (word a b) hf
      obtain ⟨o1, o2, o3⟩ := (O.isOp_iff _).1 hop
      have hok := O.read_ok (word a b) (second r) hf (second_bd r)
      have hk : O.rk (word a b) = (O.rOp (word a b)).toNat := rfl
      rw [readLine_order (O.rk (word a b)) (by rw [hk]; omega) (by rw [hk]; omega) (rOrd (word a b) (second r)) (by rw [hk]; exact hok)]
      have hkc : ((O.rk (word a b) : Nat) : Int) = O.rOp (word a b) := by rw [hk]; omega
      have hfirst : O.first ((O.rk (word a b) : Nat) : Int) (rOrd (word a b) (second r)).d (rOrd (word a b) (second r)).s (rOrd (word a b) (second r)).n = word a b := by rw [hkc]; exact hfst
      unfold O.words
      rw [hfirst, Int.toNat_natCast]
      cases hw : O.hasC (O.rk (word a b)) 119 with
      | false =>
        have hl : O.rLen (word a b) = 1 := by unfold O.rLen; rw [hw]; rfl
        rw [hl]
        simp only [Bool.false_eq_true, if_false]
        rw [put_ok _ _ _ (by simp at hm ⊢; omega), bytes_word]
        rfl
      | true =>
        have hl : O.rLen (word a b) = 2 := by unfold O.rLen; rw [hw]; rfl
        rw [hl] at hlen ⊢
        simp only [if_true]
        match r, he, hlen with
        | c :: d :: q, _, _ =>
          have hW : (rOrd (word a b) (second (c :: d :: q))).w = word c d := by
            unfold rOrd O.rW; rw [hw]; rfl
          rw [hW, put_ok _ _ _ (by simp at hm ⊢; omega), bytes_word, bytes_word]
          rfl
        | [c], he, _ => simp at he
        | [], _, hlen => simp at hlen
theorem first_no10 (rom : By) (h2 : 2 ≤ rom.length) : (10 : UInt8) ∉ (firstLine rom).1 := by
  unfold firstLine lineOf
  split
  · have hop := O.rOp_isOp (second rom) (second_bd rom)
    obtain ⟨o1, o2, o3⟩ := (O.isOp_iff _).1 hop
    have hk : O.rk (second rom) = (O.rOp (second rom)).toNat := rfl
    exact line_not 10 (by decide) (by decide) (by decide) (by decide) (by decide) _ (name_not _ (by rw [hk]; omega)).1.1 _
  · unfold wordText
    intro h
    rcases List.mem_append.1 h with h | h
    · revert h; decide
    · rcases List.mem_cons.1 h with h | h
      · revert h; decide
      · exact itoa_not _ 10 (by decide) (by decide) h
/-- A listing, with whatever behind it. -/
theorem lines_list : ∀ (f : Nat) (rom : By), rom.length ≤ f → rom.length % 2 = 0 → ∃ m, m ≤ (listN f rom).length ∧ ∀ (t : By) (g ln : Nat) (st : St), st.rom.length + rom.length ≤ 1024 →
    readLines (m + g) (listN f rom ++ t) ln st = readLines g t (ln + m) { st with rom := st.rom ++ rom }
  | 0, rom, hl, he => by
    have : rom = [] := List.length_eq_zero_iff.1 (by omega)
    subst this
    exact ⟨0, Nat.zero_le _, fun t g ln st h => by simp [listN]⟩
  | f + 1, rom, hl, he => by
    by_cases h0 : rom = []
    · subst h0
      exact ⟨0, Nat.zero_le _, fun t g ln st h => by simp [listN]⟩
    · have h2 : 2 ≤ rom.length := by
        have : rom.length ≠ 0 := fun h => h0 (List.length_eq_zero_iff.1 h)
        omega
      have hsz := first_size rom
      have hle := first_le rom h2
      obtain ⟨m, hm, ih⟩ := lines_list f (rom.drop (firstLine rom).2) (by simp; omega) (by simp; omega)
      refine ⟨m + 1, ?_, fun t g ln st h => ?_⟩
      · simp only [listN, if_neg h0, List.length_append, List.length_cons]; omega
      · have e : listN (f + 1) rom ++ t = (firstLine rom).1 ++ 10 :: (listN f (rom.drop (firstLine rom).2) ++ t) := by simp [listN, if_neg h0]
        rw [e, show m + 1 + g = (m + g) + 1 by omega, readLines, if_neg (by simp), cut_at 10 _ _ (first_no10 rom h2)]
        simp only [if_true]
        rw [readLine_first rom h2 he ln st h]
        simp only
        rw [ih t g (ln + 1) _ (by simp; omega)]
        simp only [List.append_assoc, List.take_append_drop]
        rw [show ln + 1 + m = ln + (m + 1) by omega]
theorem readLines_nil (g ln : Nat) (st : St) : readLines g [] ln st = .ok st := by
  cases g with
  | zero => rfl
  | succ g => simp [readLines]
theorem readText_two (a b : By) (ha : a.length % 2 = 0) (hb : b.length % 2 = 0) (h : a.length + b.length ≤ 1024) : readText (list a ++ list b) = .ok (a ++ b) := by
  unfold readText list
  obtain ⟨m, hm, h1⟩ := lines_list a.length a (Nat.le_refl _) ha
  obtain ⟨n, hn, h2⟩ := lines_list b.length b (Nat.le_refl _) hb
  have e1 := h1 (listN b.length b) ((listN a.length a ++ listN b.length b).length - m) 0 St.zero (by simp [St.zero]; omega)
  have e2 := h2 [] ((listN a.length a ++ listN b.length b).length - m - n) (0 + m) { St.zero with rom := St.zero.rom ++ a } (by simp [St.zero]; omega)
  have hlen : (listN a.length a ++ listN b.length b).length = (listN a.length a).length + (listN b.length b).length := List.length_append
  rw [show m + ((listN a.length a ++ listN b.length b).length - m) = (listN a.length a ++ listN b.length b).length by omega] at e1
  rw [List.append_nil, show n + ((listN a.length a ++ listN b.length b).length - m - n) = (listN a.length a ++ listN b.length b).length - m by omega] at e2
  rw [e1, e2, readLines_nil]
  simp [lay, St.zero]
theorem readText_one (a : By) (ha : a.length % 2 = 0) (h : a.length ≤ 1024) : readText (list a) = .ok a := by
  have := readText_two a [] ha rfl (by simpa using h)
  simpa [list, listN] using this
end Go.Proofs.YtdjhlfoapieohaaGreatDoor.S
