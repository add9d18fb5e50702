package hol

import (
	"iter"
	"strings"
)

// The constants, axioms and rules, in the notation of the document.

const (
	holConsts = "Trueprop True False Not And Or Implies Equal All Ex The If"
	natConsts = "Zero Suc plus times le less"
)

const holAxioms = `trueI True
falseE False ==> P
notI (P ==> False) ==> Not P
notE Not P ==> P ==> Q
conjI P ==> Q ==> And P Q
conjunct1 And P Q ==> P
conjunct2 And P Q ==> Q
disjI1 P ==> Or P Q
disjI2 Q ==> Or P Q
disjE Or P Q ==> (P ==> R) ==> (Q ==> R) ==> R
impI (P ==> Q) ==> Implies P Q
mp Implies P Q ==> P ==> Q
allI (!!x. P x) ==> All P
spec All P ==> P x
exI P x ==> Ex P
exE Ex P ==> (!!x. P x ==> Q) ==> Q
refl Equal x x
subst Equal x y ==> P x ==> P y
ext (!!x. Equal (f x) (g x)) ==> Equal f g
iffI (P ==> Q) ==> (Q ==> P) ==> Equal P Q
excluded_middle Or P (Not P)
the_eq Equal (The (%x. Equal x a)) a
if_true P ==> Equal (If P x y) x
if_false Not P ==> Equal (If P x y) y
eq_reflection Equal x y ==> (x == y)`

const natAxioms = `Suc_inject Equal (Suc m) (Suc n) ==> Equal m n
Suc_Zero Equal (Suc n) Zero ==> P
nat_induct P Zero ==> (!!n. P n ==> P (Suc n)) ==> P n
plus_Zero Equal (plus Zero n) n
plus_Suc Equal (plus (Suc m) n) (Suc (plus m n))
times_Zero Equal (times Zero n) Zero
times_Suc Equal (times (Suc m) n) (plus n (times m n))
le_Zero Equal (le Zero n) True
le_Suc_Zero Equal (le (Suc m) Zero) False
le_Suc Equal (le (Suc m) (Suc n)) (le m n)
less_Zero Equal (less m Zero) False
less_Zero_Suc Equal (less Zero (Suc n)) True
less_Suc Equal (less (Suc m) (Suc n)) (less m n)`

const holRules = `conjE And P Q ==> (P ==> Q ==> R) ==> R
impE Implies P Q ==> P ==> (Q ==> R) ==> R
allE All P ==> (P x ==> R) ==> R
iffD1 Equal P Q ==> P ==> Q
iffD2 Equal P Q ==> Q ==> P
classical (Not P ==> P) ==> P
ccontr (Not P ==> False) ==> P
sym Equal x y ==> Equal y x
trans Equal x y ==> Equal y z ==> Equal x z
meta_eq (x == y) ==> Equal x y
arg_cong Equal x y ==> Equal (f x) (f y)
fun_cong Equal f g ==> Equal (f x) (g x)
cong Equal f g ==> Equal x y ==> Equal (f x) (g y)
the_equality P a ==> (!!x. P x ==> Equal x a) ==> Equal (The P) a
eq_True P ==> Equal P True
eq_False Not P ==> Equal P False
not_not Equal (Not (Not P)) P
not_conj Equal (Not (And P Q)) (Or (Not P) (Not Q))
not_disj Equal (Not (Or P Q)) (And (Not P) (Not Q))
not_imp Equal (Not (Implies P Q)) (And P (Not Q))
imp_disj Equal (Implies P Q) (Or (Not P) Q)
not_all Equal (Not (All P)) (Ex (%x. Not (P x)))
not_ex Equal (Not (Ex P)) (All (%x. Not (P x)))
and_True Equal (And True P) P
and_True2 Equal (And P True) P
and_False Equal (And False P) False
and_False2 Equal (And P False) False
or_True Equal (Or True P) True
or_True2 Equal (Or P True) True
or_False Equal (Or False P) P
or_False2 Equal (Or P False) P
imp_True Equal (Implies True P) P
imp_True2 Equal (Implies P True) True
imp_False Equal (Implies False P) True
imp_False2 Equal (Implies P False) (Not P)
not_True Equal (Not True) False
not_False Equal (Not False) True
eq_refl Equal (Equal x x) True
all_simp Equal (All (%x. P)) P
ex_simp Equal (Ex (%x. P)) P
if_True Equal (If True x y) x
if_False Equal (If False x y) y
conj_cong Equal P P' ==> (P' ==> Equal Q Q') ==> Equal (And P Q) (And P' Q')
imp_cong Equal P P' ==> (P' ==> Equal Q Q') ==> Equal (Implies P Q) (Implies P' Q')
if_cong Equal P Q ==> (Q ==> Equal x u) ==> (Not Q ==> Equal y v) ==> Equal (If P x y) (If Q u v)
if_split Equal (P (If Q x y)) (And (Implies Q (P x)) (Implies (Not Q) (P y)))`

const natRules = `plus_Zero2 Equal (plus n Zero) n
plus_Suc2 Equal (plus m (Suc n)) (Suc (plus m n))
plus_commute Equal (plus m n) (plus n m)
plus_assoc Equal (plus (plus k m) n) (plus k (plus m n))
plus_left_commute Equal (plus k (plus m n)) (plus m (plus k n))
plus_cancel Equal (plus k m) (plus k n) ==> Equal m n
Suc_eq Equal (Equal (Suc m) (Suc n)) (Equal m n)
Suc_not_Zero Equal (Equal (Suc n) Zero) False
Zero_not_Suc Equal (Equal Zero (Suc n)) False
le_refl le n n
le_trans le k m ==> le m n ==> le k n
le_antisym le m n ==> le n m ==> Equal m n
le_total Or (le m n) (le n m)
le_plus le m (plus n m)
plus_le_mono le k m ==> le i n ==> le (plus k i) (plus m n)
plus_le_cancel Equal (le (plus k m) (plus k n)) (le m n)
less_le Equal (less m n) (le (Suc m) n)
not_le Equal (Not (le m n)) (less n m)
not_less Equal (Not (less m n)) (le n m)
le_diff le m n ==> Ex (%k. Equal n (plus m k))
nat_cases (Equal n Zero ==> P) ==> (!!m. Equal n (Suc m) ==> P) ==> P`

// lines yields the names of a list of rules, each with its proposition.
func lines(s string) iter.Seq2[string, string] {
	return func(yield func(name, prop string) bool) {
		for line := range strings.SplitSeq(s, "\n") {
			name, prop, _ := strings.Cut(line, " ")
			if !yield(name, prop) {
				return
			}
		}
	}
}

// words yields the words of a list.
func words(s string) iter.Seq[string] { return strings.FieldsSeq(s) }

// lineOf returns the proposition of a rule of a list.
func lineOf(s, name string) (string, bool) {
	for n, prop := range lines(s) {
		if n == name {
			return prop, true
		}
	}
	return "", false
}
