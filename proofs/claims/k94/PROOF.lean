import PyProof.Rows.All
import Wide.All
import OpenK.AllK
import Wide.FinOn
import Lean
import PyProof.EqAt
import PyProof.EqKinds
import PyProof.TupleCall
import PyProof.NeKinds
import PyProof.ZipIter
import PyProof.Rows.DictRows
import PyProof.DictTable
import PyProof.SeqI3
import PyProof.StrCalls2
import PyProof.StrBlockH
import PyProof.StrLawsTight
import PyProof.StrLawsJoin
import KE.KIntText
import PyProof.DictWalks
import PySem.Challenge.RW_chordwebs_k94_desk_refuses
set_option Elab.async false
set_option linter.all false
set_option maxRecDepth 100000
set_option bootstrap.genMatcherCode false
set_option genSizeOf false
set_option compiler.extract_closed false
set_option genInjectivity false
set_option maxHeartbeats 4000000
local macro_rules | `(tactic| omega) => `(tactic| lia)
set_option hygiene false
local macro_rules
| `(1#0)=>`(⟨rfl,rfl,rfl,by decide +kernel,rfl,by decide +kernel,by decide +kernel⟩)
| `(2#0)=>`((autoParam (starEach (e::es) X.env=(false,eval e X.env)::starEach es X.env) Zq5._auto_1))
| `(3#0)=>`((by decide +kernel))
| `(4#0)=>`((autoParam ((x==("__debug__":Str))=false) Zq2._auto_1))
| `(5#0)=>`((fun E σ G=>(fun E σ G=>(xB (zO (yY true) (zJ yF (zB (zA 4) zG)) (zJ yF (zB (wo zY (zA 3)) zG)))) σ G fun b G2=>b=true/\(fun E σ G=>(xC (.str "another count of words")) σ G fun u0 G2=>E G2) E σ G2) E σ G\/(fun E σ G=>(wM (xB (zO (yY true) (zJ yF (zB (zA 4) zG)) (zJ yF (zB (wo zY (zA 3)) zG)))) 26#0 zZ) { nx:=(fun E σ G=>(zA 3) σ G fun u0 G1=>(zB1 (iZM (zB (wo zY (zA 3)) (zB (zA 4) zG))) bd1 zAJ (zJ yT 6#0) (fun E σ G=>6#0 σ G fun ds G2=>ye ds G2 E)) E σ G1) E,rt:=fun u0 u0=>False } σ G) E σ G))
| `(6#0)=>`((zB (zO zz (zA 5) (xC (.int 0))) (zB (zO zz (zA 5) 21#0) zG)))
| `(7#0)=>`((fun cdv A outer s H E hr=>?_))
| `(8#0)=>`((autoParam (starEach [e] X.env=(false,eval e X.env)::starEach [] X.env) Zq5._auto_1))
| `(9#0)=>`((autoParam ((backTo pos (starEach es X.env)).any (·.1)=false) Zq5._auto_1))
| `(10#0)=>`((Value->Shared->Prop))
| `(11#0)=>`((by decide))
| `(12#0)=>`((Array (Option Value)))
| `(13#0)=>`((model X.prog X.w))
| `(14#0)=>`((PySem.W.Frag))
| `(15#0)=>`((autoParam (∀ x,foldedSetIterable iter X.env x=pure x) Zq4._auto_1))
| `(16#0)=>`((zT X pins σ H s))
| `(17#0)=>`((by omega))
| `(18#0)=>`((autoParam ((backTo pos (starEach [] X.env)).any (·.1)=false) Zq5._auto_1))
| `(19#0)=>`((k==NameKind.free&&env.scope.kind==.function&&env.kindOf n==some .cell))
| `(20#0)=>`((List (Addr×Obj)))
| `(21#0)=>`((xC (.int 1)))
| `(22#0)=>`((by unfold zQ;rfl))
| `(23#0)=>`((.ListComp elt [⟨tg,iter,ifs,0⟩] sc pos))
| `(24#0)=>`((∀(cdv:Value) (A:Around) (outer:List Env) (s:Shared) (H:Hp) (E:XK),yS k (A.deeper (envOfC qual (zD st) s.heap.objs.size f cdv))->Ps2 (zBi CX0 P w K mg base N qual (zD st) f cdv A outer s H E).nox (zR st) t))
| `(25#0)=>`((X.comp (N0++own) sc C s H fp pins))
| `(26#0)=>`((fun u0 u0 u0=>False))
| `(27#0)=>`((by simp))
| `(28#0)=>`((zO zz (zA 2) (xC (.int 0))))
| `(29#0)=>`((zW (wM (xB (zO (yY true) (zi (wu (zBG 4 C "say" (zu C) (zA 1) (zB (zA 2) zG)) (wu (zBG 3 C "say" (yJ C) (zA 1) (zB (zA 2) zG)) (zBG 0 C "say" (yB C) (zA 1) (zB (zA 2) zG))))) (zi (yl (zB (zA 5) zG))))) (zk (xC (.bl false))) zZ) (wM (zAh (xB (zO (yY true) (wE C "say" (yw C) (zA 1) (zB (xC (.str "webs")) zG)) (xC (.str "eight seven w")))) (zAh (xB (zO (yY true) (wE C "say" (yw C) (zA 1) (zB (xC (.str "rings")) zG)) (xC (.str "r")))) (xB (zO (yY true) (wE C "say" (yw C) (zA 1) (zB (xC (.str "show web w")) zG)) (xC (.str "3 : 0-1 1-2")))))) (zk (xC (.bl false))) zZ)))
| `(30#0)=>`((.ListComp elt [⟨.Name x px,iter,ifs,0⟩] sc pos))
| `(31#0)=>`((K.lookup aA=some ⟨.type "tuple",none,.seq #[.str "web" aB,.str "ring" aC,.str "of" aD,.str "found" aE,.str "turn" aF] bh,bn⟩))
| `(32#0)=>`(([e].length+([]:List Keyword).length+(if ([]:List Keyword).isEmpty then 0 else 1)<30))
| `(33#0)=>`((.builtin "object.__class__"))
| `(34#0)=>`((X.comp (N0++[x]) sc C s H fp pins))
| `(35#0)=>`((model prog w))
local macro_rules
| `(tactic|sleep 1)=>`(tactic|(rintro σ1 H Q ⟨σ,G,R,r,q,k⟩))
| `(tactic|sleep 2)=>`(tactic|(intro X hP hw hK hc i pins s σ H E I hf st hg;subst hP hw hK))
| `(tactic|sleep 3)=>`(tactic|(refine fB (wpAny_callSpecial?_slot (name:=Str.ofString "__next__") hit.typeIs F.slot_tuple_iterator_next (gZ F.slot_tuple_iterator_next hit.typeIs F.entry_tuple_iterator_next ?_ (F.args_tuple_iterator_next_1 _)));show wpAny _ _ (field (.ref nt) 0>>=_) _ _ s;refine fB (gA ho hd (x:=.ref tp) rfl ?_);show wpAny _ _ (if (Value.ref tp==Value.none)=true then _ else _) _ _ s;rw[if_neg (show ¬ ((Value.ref tp==Value.none)=true) from gH)];show wpAny _ _ (field (.ref nt) 1>>=_) _ _ s))
open PySem renaming wpAny_bind → fB, wpAny_pure → fF, wpAny_mono → fV, wpAny_execs_cons → gq, wpAny_Call_Name_kw → gz, wpAny_field → gA, wpAny_truthy_bool → gD, wpAny_newObj_type → gE, codeAny_mono → gG, wpAny_call_entry → gZ, wpAny_holding → hU, wpAny_setField_rec → ig, wpAny_ite_false → ii, wpAny_newFunctionEnv_cells → io, wpAny_seqItems → iq, wpAny_comprehension_free → iw, wpAny_call → iH, codeAny_call_function → iJ
open PySem.Heap renaming get?_push_of_some → fC, lt_size → fK, get?_push_size → fM, size_push → gS, SameBut → gW, get?_update_of_ne → ib, get?_update_self → iK
open List renaming length_map → fE, set_cons_zero → fG, set_cons_succ → fH, getElem?_eq_some_iff → fI, map_cons → fJ, range → fQ, mem_cons → fS, lookup_cons → fU, replicate → fX, size_toArray → fY, mem_append_right → fZ, mem_cons_of_mem → g9, getElem?_append_left → gb, all_eq_true → ge, mem_map → gf, mem_cons_self → gg, getElem?_map → gh, length_cons → gi, length_append → gj, map_map → gk, getElem?_append_right → gm, mem_of_getElem? → gp, getElem?_set_self → gu, not_mem_nil → gw, zip_cons_cons → gx, getElem?_set_ne → gF, mem_range → gJ, getElem_mem → gL, of_mem_zip → gM, mem_singleton → gO, getElem?_replicate → gQ, length_drop → gR, append_nil → gT, map_congr_left → gX, length_take → hJ, find?_cons → hW, count_append → i6, filterMap_cons → i8, take_of_length_le → ia, nodup_cons → ik, lookup → il, length_replicate → im, mem_append_left → ip, getD → iu, mem_append → iy, map → iA, length_zip → iB, length_nil → iC, length_eq_zero_iff → iD, forIn_cons → iE, count_cons → iG, length_range → iI, count_eq_zero_of_not_mem → iL, cons_append → iM
open Nat renaming lt_of_lt_of_le → fN, le_refl → fP, ne_of_lt → gc, lt_irrefl → gn, le_trans → gt, zero_le → i7
open Bool renaming and_eq_true → fW, false_ne_true → gH, false_eq_true → gI, eq_iff_iff → gK
open Array renaming length_toList → gC, mk → gU
open Int renaming toNat_of_nonneg → gY
open Option renaming isSome_iff_exists → hV, map_eq_some_iff → i9
open PySem PySem.Spec PyProof.Rows
theorem Zq1(h:True:=by first | exact .inl rfl | exact .inr rfl | assumption):True:=h
theorem Zq2(h:True:=by decide):True:=h
theorem Zq3(h:True:=by first | exact zMb _ 11#0 11#0 | rfl):True:=h
theorem Zq4(h:True:=by intro u0;rfl):True:=h
theorem Zq5(h:True:=by rfl):True:=h
theorem Zq6(h:True:=by with_unfolding_all rfl):True:=h
theorem Zq7(h:True:=by first | exact Or.inl rfl | exact Or.inr (Or.inl rfl) | exact Or.inr (Or.inr rfl)):True:=h
theorem Zq8(h:True:=by first | exact Or.inl rfl | exact Or.inr rfl):True:=h
theorem Zq9(h:True:=by intro u0 u0;rfl):True:=h
theorem Zq10(h:True:=by exact .refl _):True:=h
namespace K
open PySem
@[elab_as_elim] theorem us1{m:List Value->Prop}(us:List Value)(hl:us.length=1)(h:∀ a,m [a]):m us:=by
 rcases us with _|⟨a,_|⟨e,r⟩⟩
 ·cases hl
 ·exact h a
 ·cases hl
@[elab_as_elim] theorem us2{m:List Value->Prop}(us:List Value)(hl:us.length=2)(h:∀ a b,m [a,b]):m us:=by
 rcases us with _|⟨a,_|⟨b,_|⟨e,r⟩⟩⟩
 ·cases hl
 ·cases hl
 ·exact h a b
 ·cases hl
@[elab_as_elim] theorem us3{m:List Value->Prop}(us:List Value)(hl:us.length=3)(h:∀ a b c,m [a,b,c]):m us:=by
 rcases us with _|⟨a,_|⟨b,_|⟨c,_|⟨e,r⟩⟩⟩⟩
 ·cases hl
 ·cases hl
 ·cases hl
 ·exact h a b c
 ·cases hl
end K
namespace L2
open PySem PySem.W
noncomputable def za(s:Stmt):Arguments:=match s with
 | .FunctionDef _ a _ _ _ _ _ _ _ _=>a
 | _=>{ posonlyargs:=[],args:=[],vararg:=none,kwonlyargs:=[],kw_defaults:=[],kwarg:=none,defaults:=[] }
noncomputable def zR(s:Stmt):List Stmt:=match s with
 | .FunctionDef _ _ b _ _ _ _ _ _ _=>b
 | _=>[]
noncomputable def zD(s:Stmt):Scope:=match s with
 | .FunctionDef _ _ _ _ _ _ sc _ _ _=>sc
 | _=>{ kind:=.function,names:=[],isGenerator:=false,isCoroutine:=false }
end L2
namespace K
open PySem PySem.W PyProof.Rows L2
noncomputable def top(i:Nat):Stmt:=PySem.Challenge.pw_chordwebs_k94_desk_refuses.main.body.getD i (.Pass ⟨0,0,0,0⟩)
noncomputable def zUP:Stmt->List Stmt | .ClassDef _ _ _ b _ _ _ _ _ _ _=>b | _=>[]
noncomputable def zGM(i j:Nat):Stmt:=(zUP (top i)).getD j (.Pass ⟨0,0,0,0⟩)
noncomputable def kq:Program:={ PySem.Challenge.pw_chordwebs_k94_desk_refuses with main:={ PySem.Challenge.pw_chordwebs_k94_desk_refuses.main with body:=[top 1,top 2,top 3,top 4,top 5,top 6,top 8,top 9,top 10,top 11,top 12,top 13,top 14,top 16,top 17,top 18,top 19,top 20,top 21,top 23,top 24,top 25,top 26,top 28,top 29,top 30,top 31,top 32,top 33,top 34,top 36,top 37,top 39,top 40,top 41,top 42,top 43,top 44,top 45,top 46,top 48,top 49,top 50,top 51,top 52,top 53,top 54,top 55,top 56,top 58,top 59,top 60,top 61,top 62,top 64,top 65,top 66,top 68,top 69,top 70,top 71,top 72,top 73,top 74,top 75,top 76,top 77,top 78,top 79,top 80,top 82,top 83,top 84,top 85,top 86,top 87,top 88] } }
noncomputable def cO(n q:Str)(t u l m g a:Nat)(b:Bool):Obj:=⟨.type "code",none,.fields #[.str n t,.str q (t+1),.str "/claim/cut.py" (t+2),.int l 0,.int m 0,.int 0 0,.int 0 0,.int g 0,.ref a,.bool true,.int 181 0,.ref (a+1),.none,if b then .ref (a+2) else .none,if b then .ref (a+3) else .none,.ref (if b then a+4 else a+2),.int u 0,.int l 0,.str "/claim/cut.py" (u+1)],#[]⟩
noncomputable def fO(n q:Str)(s:Stmt)(c:Nat)(m:Str)(t:Nat):Obj:=⟨.type "function",none,.func (fnOf n q (za s) (zR s) (zD s) .none .none .none (.str m t) none (.ref c) .none),#[]⟩
noncomputable def dE(P:Params)(n:Str)(t:Nat)(v:Value):DictEntry:=⟨PyData.keyHash P n,.str n t,v⟩
noncomputable def cC(n:Str)(b m:List Value)(d:Nat)(s:List Value)(r:Option Value)(t u:Nat)(w:String):Obj:=⟨.type "type",none,.cls ⟨n,b,m,d,n,true,[],s,false,none,false⟩,#[r,none,some (.str n t),some (.str n u),some (.builtin w),some (.bool true)]⟩
noncomputable def kf(P:Params):Frag:=(nat_lit 3,⟨.type "dict",none,.dict #[dE P "__name__" 165 (.str "law_chordwebs_k94_desk_refuses" 847),dE P "__doc__" 166 .none,dE P "__package__" 167 .none,dE P "__loader__" 168 (.builtin "__main__.__loader__#opaque"),dE P "__spec__" 169 .none,dE P "__annotations__" 170 (.ref 6),dE P "__builtins__" 171 (.ref 4),dE P "__file__" 173 (.str "/claim/cut.py" 172),dE P "__cached__" 174 .none,dE P "ChordError" 206 (.ref 24),dE P "TooMany" 222 (.ref 37),dE P "NoTie" 238 (.ref 49),dE P "NoSplit" 254 (.ref 61),dE P "NoName" 270 (.ref 73),dE P "BadNote" 286 (.ref 85),dE P "MOST_PLACES" 290 (.int 9 289),dE P "is_number" 297 (.ref 94),dE P "are_places" 303 (.ref 99),dE P "is_rising" 309 (.ref 104),dE P "pairs" 316 (.ref 111),dE P "pairs_of" 326 (.ref 118),dE P "refuse_more" 334 (.ref 125),dE P "is_ring" 342 (.ref 130),dE P "cross" 353 (.ref 137),dE P "web_of" 359 (.ref 142),dE P "turned_round" 367 (.ref 149),dE P "mirrored" 374 (.ref 156),dE P "least" 384 (.ref 163),dE P "is_web" 392 (.ref 168),dE P "is_tie" 400 (.ref 175),dE P "tied" 409 (.ref 182),dE P "around" 415 (.ref 187),dE P "MOST_FOUND" 419 (.int 7 418),dE P "tells" 427 (.ref 194),dE P "ring_of" 435 (.ref 201),dE P "near_order" 441 (.ref 206),dE P "tied_among" 447 (.ref 211),dE P "grown" 460 (.ref 218),dE P "with_chord" 466 (.ref 223),dE P "web_turned" 477 (.ref 230),dE P "spread" 489 (.ref 237),dE P "MOST_BARRED" 493 (.int 7 492),dE P "WORDS" 497 (.ref 238),dE P "bar_web" 505 (.ref 245),dE P "around_nought" 511 (.ref 250),dE P "bar_of" 522 (.ref 257),dE P "bar_places" 532 (.ref 264),dE P "places_like" 543 (.ref 271),dE P "goes_on" 554 (.ref 278),dE P "FIGURES" 558 (.str "0123456789" 557),dE P "web_text" 564 (.ref 283),dE P "tie_text" 570 (.ref 288),dE P "ring_text" 576 (.ref 293),dE P "web_read" 582 (.ref 298),dE P "tie_read" 589 (.ref 305),dE P "ring_read" 595 (.ref 310),dE P "words_of" 602 (.ref 317),dE P "figure" 609 (.ref 324),dE P "other_side" 617 (.ref 329),dE P "cut_rank" 630 (.ref 336),dE P "row_of" 636 (.ref 341),dE P "is_split" 644 (.ref 348),dE P "splits" 650 (.ref 353),dE P "MOST_TOLD" 654 (.int 5 653),dE P "all_rings" 660 (.ref 358),dE P "all_with_chord" 671 (.ref 365),dE P "LETTERS" 675 (.str "abcdefghijklmnopqrstuvwxyz" 674),dE P "LONGEST_NAME" 677 (.int 8 676),dE P "LAST_PLACE" 679 (.int 8 678),dE P "FORMS" 727 (.ref 366),dE P "KEEPING" 733 (.ref 381),dE P "line_read" 739 (.ref 386),dE P "word_read" 747 (.ref 393),dE P "place_read" 755 (.ref 400),dE P "is_name" 761 (.ref 405),dE P "turned_at" 769 (.ref 412),dE P "yes_or_no" 776 (.ref 419),dE P "sides_text" 782 (.ref 424),dE P "Desk" 846 (.ref 467),dE P "_law_cell_at" 856 (.ref 478),dE P "_law_state" 865 (.ref 485),dE P "_law_take" 875 (.ref 492),dE P "_law_refused" 881 (.ref 497),dE P "_law_bad" 889 (.ref 504),dE P "_law_due" 897 (.ref 511),dE P "law" 909 (.ref 518)] 86,#[]⟩)::(nat_lit 23,⟨.type "dict",none,.dict #[dE P "__module__" 196 (.str "chordwebs.errors" 187),dE P "__firstlineno__" 200 (.int 2 199),dE P "__static_attributes__" 201 (.ref 22),dE P "__weakref__" 203 (.ref 25),dE P "__doc__" 204 .none] 3,#[]⟩)::(nat_lit 24,cC "ChordError" [.type "ValueError"] [.ref 24,.type "ValueError",.type "Exception",.type "BaseException",.type "object"] 23 [.ref 37,.ref 49,.ref 61,.ref 73,.ref 85] (some (.ref 15)) 189 197 "ValueError.__new__")::(nat_lit 36,⟨.type "dict",none,.dict #[dE P "__module__" 214 (.str "chordwebs.errors" 187),dE P "__firstlineno__" 218 (.int 4 217),dE P "__static_attributes__" 219 (.ref 35),dE P "__doc__" 220 .none] 2,#[]⟩)::(nat_lit 37,cC "TooMany" [.ref 24] [.ref 37,.ref 24,.type "ValueError",.type "Exception",.type "BaseException",.type "object"] 36 [] (some (.ref 28)) 207 215 "ValueError.__new__")::(nat_lit 48,⟨.type "dict",none,.dict #[dE P "__module__" 230 (.str "chordwebs.errors" 187),dE P "__firstlineno__" 234 (.int 6 233),dE P "__static_attributes__" 235 (.ref 47),dE P "__doc__" 236 .none] 2,#[]⟩)::(nat_lit 49,cC "NoTie" [.ref 24] [.ref 49,.ref 24,.type "ValueError",.type "Exception",.type "BaseException",.type "object"] 48 [] (some (.ref 40)) 223 231 "ValueError.__new__")::(nat_lit 60,⟨.type "dict",none,.dict #[dE P "__module__" 246 (.str "chordwebs.errors" 187),dE P "__firstlineno__" 250 (.int 8 249),dE P "__static_attributes__" 251 (.ref 59),dE P "__doc__" 252 .none] 2,#[]⟩)::(nat_lit 61,cC "NoSplit" [.ref 24] [.ref 61,.ref 24,.type "ValueError",.type "Exception",.type "BaseException",.type "object"] 60 [] (some (.ref 52)) 239 247 "ValueError.__new__")::(nat_lit 72,⟨.type "dict",none,.dict #[dE P "__module__" 262 (.str "chordwebs.errors" 187),dE P "__firstlineno__" 266 (.int 10 265),dE P "__static_attributes__" 267 (.ref 71),dE P "__doc__" 268 .none] 2,#[]⟩)::(nat_lit 73,cC "NoName" [.ref 24] [.ref 73,.ref 24,.type "ValueError",.type "Exception",.type "BaseException",.type "object"] 72 [] (some (.ref 64)) 255 263 "ValueError.__new__")::(nat_lit 84,⟨.type "dict",none,.dict #[dE P "__module__" 278 (.str "chordwebs.errors" 187),dE P "__firstlineno__" 282 (.int 12 281),dE P "__static_attributes__" 283 (.ref 83),dE P "__doc__" 284 .none] 2,#[]⟩)::(nat_lit 85,cC "BadNote" [.ref 24] [.ref 85,.ref 24,.type "ValueError",.type "Exception",.type "BaseException",.type "object"] 84 [] (some (.ref 76)) 271 279 "ValueError.__new__")::(nat_lit 93,cO "is_number" "is_number" 291 295 16 1 3 88 true)::(nat_lit 94,fO "is_number" "is_number" (top 9) 93 "chordwebs.basics" 287)::(nat_lit 103,cO "is_rising" "is_rising" 304 307 20 1 3 100 false)::(nat_lit 104,fO "is_rising" "is_rising" (top 11) 103 "chordwebs.basics" 287)::(nat_lit 110,cO "pairs" "pairs" 310 314 22 1 3 105 true)::(nat_lit 111,fO "pairs" "pairs" (top 12) 110 "chordwebs.basics" 287)::(nat_lit 117,cO "pairs_of" "pairs_of" 317 324 24 1 3 112 true)::(nat_lit 118,fO "pairs_of" "pairs_of" (top 13) 117 "chordwebs.basics" 287)::(nat_lit 124,cO "refuse_more" "refuse_more" 327 332 30 2 3 119 true)::(nat_lit 125,fO "refuse_more" "refuse_more" (top 14) 124 "chordwebs.basics" 287)::(nat_lit 129,cO "is_ring" "is_ring" 337 340 34 1 3 126 false)::(nat_lit 130,fO "is_ring" "is_ring" (top 16) 129 "chordwebs.rings" 335)::(nat_lit 136,cO "cross" "cross" 343 351 41 3 3 131 true)::(nat_lit 137,fO "cross" "cross" (top 17) 136 "chordwebs.rings" 335)::(nat_lit 141,cO "web_of" "web_of" 354 357 45 1 3 138 false)::(nat_lit 142,fO "web_of" "web_of" (top 18) 141 "chordwebs.rings" 335)::(nat_lit 167,cO "is_web" "is_web" 387 390 59 1 3 164 false)::(nat_lit 168,fO "is_web" "is_web" (top 23) 167 "chordwebs.webs" 385)::(nat_lit 174,cO "is_tie" "is_tie" 393 398 69 2 3 169 true)::(nat_lit 175,fO "is_tie" "is_tie" (top 24) 174 "chordwebs.webs" 385)::(nat_lit 193,cO "tells" "tells" 420 425 81 2 3 188 true)::(nat_lit 194,fO "tells" "tells" (top 29) 193 "chordwebs.found" 416)::(nat_lit 200,cO "ring_of" "ring_of" 428 433 83 1 3 195 true)::(nat_lit 201,fO "ring_of" "ring_of" (top 30) 200 "chordwebs.found" 416)::(nat_lit 256,cO "bar_of" "bar_of" 512 520 141 1 3 251 true)::(nat_lit 257,fO "bar_of" "bar_of" (top 43) 256 "chordwebs.bars" 490)::(nat_lit 282,cO "web_text" "web_text" 559 562 178 1 3 279 false)::(nat_lit 283,fO "web_text" "web_text" (top 49) 282 "chordwebs.notes" 555)::(nat_lit 287,cO "tie_text" "tie_text" 565 568 182 1 3 284 false)::(nat_lit 288,fO "tie_text" "tie_text" (top 50) 287 "chordwebs.notes" 555)::(nat_lit 292,cO "ring_text" "ring_text" 571 574 184 1 3 289 false)::(nat_lit 293,fO "ring_text" "ring_text" (top 51) 292 "chordwebs.notes" 555)::(nat_lit 297,cO "web_read" "web_read" 577 580 186 1 3 294 false)::(nat_lit 298,fO "web_read" "web_read" (top 52) 297 "chordwebs.notes" 555)::(nat_lit 304,cO "tie_read" "tie_read" 583 587 194 1 3 299 true)::(nat_lit 305,fO "tie_read" "tie_read" (top 53) 304 "chordwebs.notes" 555)::(nat_lit 309,cO "ring_read" "ring_read" 590 593 196 1 3 306 false)::(nat_lit 310,fO "ring_read" "ring_read" (top 54) 309 "chordwebs.notes" 555)::(nat_lit 316,cO "words_of" "words_of" 596 600 201 1 3 311 true)::(nat_lit 317,fO "words_of" "words_of" (top 55) 316 "chordwebs.notes" 555)::(nat_lit 323,cO "figure" "figure" 603 607 205 1 3 318 true)::(nat_lit 324,fO "figure" "figure" (top 56) 323 "chordwebs.notes" 555)::(nat_lit 357,cO "all_rings" "all_rings" 655 658 233 1 3 354 false)::(nat_lit 358,fO "all_rings" "all_rings" (top 65) 357 "chordwebs.tellings" 651)::(nat_lit 366,⟨.type "dict",none,.dict #[dE P "web" 680 (.ref 367),dE P "ring" 683 (.ref 368),dE P "webs" 686 (.ref 369),dE P "rings" 687 (.ref 370),dE P "show web" 688 (.ref 371),dE P "show ring" 690 (.ref 372),dE P "of" 692 (.ref 373),dE P "found" 695 (.ref 374),dE P "tells" 698 (.ref 375),dE P "all" 701 (.ref 376),dE P "turn" 703 (.ref 377),dE P "least" 707 (.ref 378),dE P "splits" 709 (.ref 379),dE P "bar" 711 (.ref 380)] 14,#[]⟩)::(nat_lit 367,⟨.type "tuple",none,.seq #[.str "new" 681,.str "web text" 682],#[]⟩)::(nat_lit 368,⟨.type "tuple",none,.seq #[.str "new" 684,.str "ring text" 685],#[]⟩)::(nat_lit 369,⟨.type "tuple",none,.seq #[],#[]⟩)::(nat_lit 370,⟨.type "tuple",none,.seq #[],#[]⟩)::(nat_lit 371,⟨.type "tuple",none,.seq #[.str "web" 689],#[]⟩)::(nat_lit 372,⟨.type "tuple",none,.seq #[.str "ring" 691],#[]⟩)::(nat_lit 373,⟨.type "tuple",none,.seq #[.str "ring" 693,.str "new" 694],#[]⟩)::(nat_lit 374,⟨.type "tuple",none,.seq #[.str "web" 696,.str "new" 697],#[]⟩)::(nat_lit 375,⟨.type "tuple",none,.seq #[.str "ring" 699,.str "web" 700],#[]⟩)::(nat_lit 376,⟨.type "tuple",none,.seq #[.str "web" 702],#[]⟩)::(nat_lit 377,⟨.type "tuple",none,.seq #[.str "web" 704,.str "place" 705,.str "new" 706],#[]⟩)::(nat_lit 378,⟨.type "tuple",none,.seq #[.str "ring" 708],#[]⟩)::(nat_lit 379,⟨.type "tuple",none,.seq #[.str "web" 710],#[]⟩)::(nat_lit 380,⟨.type "tuple",none,.seq #[.str "web" 712],#[]⟩)::(nat_lit 381,⟨.type "tuple",none,.seq #[.str "web" 728,.str "ring" 729,.str "of" 730,.str "found" 731,.str "turn" 732],#[]⟩)::(nat_lit 385,cO "line_read" "line_read" 734 737 250 1 3 382 false)::(nat_lit 386,fO "line_read" "line_read" (top 73) 385 "chordwebs.desk" 672)::(nat_lit 392,cO "word_read" "word_read" 740 745 262 2 3 387 true)::(nat_lit 393,fO "word_read" "word_read" (top 74) 392 "chordwebs.desk" 672)::(nat_lit 399,cO "place_read" "place_read" 748 753 272 1 3 394 true)::(nat_lit 400,fO "place_read" "place_read" (top 75) 399 "chordwebs.desk" 672)::(nat_lit 404,cO "is_name" "is_name" 756 759 277 1 3 401 false)::(nat_lit 405,fO "is_name" "is_name" (top 76) 404 "chordwebs.desk" 672)::(nat_lit 411,cO "turned_at" "turned_at" 762 767 279 2 3 406 true)::(nat_lit 412,fO "turned_at" "turned_at" (top 77) 411 "chordwebs.desk" 672)::(nat_lit 418,cO "yes_or_no" "yes_or_no" 770 774 283 1 3 413 true)::(nat_lit 419,fO "yes_or_no" "yes_or_no" (top 78) 418 "chordwebs.desk" 672)::(nat_lit 437,cO "__init__" "Desk.__init__" 795 799 289 1 3 432 true)::(nat_lit 438,fO "__init__" "Desk.__init__" (zGM 80 0) 437 "chordwebs.desk" 672)::(nat_lit 442,cO "say" "Desk.say" 802 805 293 2 3 439 false)::(nat_lit 443,fO "say" "Desk.say" (zGM 80 1) 442 "chordwebs.desk" 672)::(nat_lit 449,cO "looked_up" "Desk.looked_up" 808 815 299 3 3 444 true)::(nat_lit 450,fO "looked_up" "Desk.looked_up" (zGM 80 2) 449 "chordwebs.desk" 672)::(nat_lit 456,cO "keep" "Desk.keep" 818 825 307 3 3 451 true)::(nat_lit 457,fO "keep" "Desk.keep" (zGM 80 3) 456 "chordwebs.desk" 672)::(nat_lit 463,cO "tell" "Desk.tell" 828 834 323 3 3 458 true)::(nat_lit 464,fO "tell" "Desk.tell" (zGM 80 4) 463 "chordwebs.desk" 672)::(nat_lit 466,⟨.type "dict",none,.dict #[dE P "__module__" 790 (.str "chordwebs.desk" 672),dE P "__firstlineno__" 794 (.int 287 793),dE P "__init__" 801 (.ref 438),dE P "say" 807 (.ref 443),dE P "looked_up" 817 (.ref 450),dE P "keep" 827 (.ref 457),dE P "tell" 836 (.ref 464),dE P "__static_attributes__" 839 (.ref 465),dE P "__dict__" 841 (.ref 468),dE P "__weakref__" 843 (.ref 469),dE P "__doc__" 844 .none] 4,#[]⟩)::(nat_lit 467,cC "Desk" [.type "object"] [.ref 467,.type "object"] 466 [] (none) 783 791 "object.__new__")::(nat_lit 496,cO "_law_refused" "_law_refused" 876 879 360 1 3 493 false)::(nat_lit 497,fO "_law_refused" "_law_refused" (top 85) 496 "law_chordwebs_k94_desk_refuses" 847)::(nat_lit 503,cO "_law_bad" "_law_bad" 882 887 371 1 3 498 true)::(nat_lit 504,fO "_law_bad" "_law_bad" (top 86) 503 "law_chordwebs_k94_desk_refuses" 847)::(nat_lit 510,cO "_law_due" "_law_due" 890 895 383 1 3 505 true)::(nat_lit 511,fO "_law_due" "_law_due" (top 87) 510 "law_chordwebs_k94_desk_refuses" 847)::(nat_lit 517,cO "law" "law" 898 907 389 1 3 512 true)::(nat_lit 518,fO "law" "law" (top 88) 517 "law_chordwebs_k94_desk_refuses" 847)::[]
noncomputable def ka:List Addr:=3::23::24::36::37::48::49::60::61::72::73::84::85::93::94::103::104::110::111::117::118::124::125::129::130::136::137::141::142::167::168::174::175::193::194::200::201::256::257::282::283::287::288::292::293::297::298::304::305::309::310::316::317::323::324::357::358::366::367::368::369::370::371::372::373::374::375::376::377::378::379::380::381::385::386::392::393::399::400::404::405::411::412::418::419::437::438::442::443::449::450::456::457::463::464::466::467::496::497::503::504::510::511::517::518::[]
theorem ke(P:Params):ka=(kf P).map (·.1):=by kernel_rfl
noncomputable def goT(p:Program)(w:World)(m:Nat)(a:Option Value):Nat->SharedT->Thread->Option SharedT
 | 0,_,_=>none
 | n+1,s,t=>match through t with
  | true=>some s
  | false=>match stepOk m a t with
   | false=>none
   | true=>match stepT (denote treeTable) p w s t with
    | none=>none
    | some (x,y)=>goT p w m a n x y
theorem zRF{p:Program}{w:World}{m:Nat}{a:Option Value}{r:SharedT}(n:Nat):∀(s:SharedT) (t:Thread),goT p w m a n s t=some r->topRun treeTable p w m a n s.abs t=some r.abs:=by
 induction n with
 | zero=>intro s t h;cases h
 | succ n ih =>
  intro s t h;unfold goT at h;unfold topRun;cases h1:through t with
  | true=>rw[h1] at h;cases h;rfl
  | false =>
   rw[h1] at h;cases h2:stepOk m a t with
   | false=>rw[h2] at h;cases h
   | true =>
    rw[h2] at h;cases h3:stepT (denote treeTable) p w s t with
    | none=>rw[h3] at h;cases h
    | some z=>rw[h3] at h;rw[stepT_spec h3];exact ih _ _ h
noncomputable def bT (P:Params):BT:=.node (boot_o_0 P) (.node (boot_o_1 P) (.node (boot_o_3 P) (.node (boot_o_7 P) .nil .nil) .nil) (.node (boot_o_5 P) (.node (boot_o_9 P) .nil .nil) .nil)) (.node (boot_o_2 P) (.node (boot_o_4 P) (.node (boot_o_8 P) .nil .nil) .nil) (.node (boot_o_6 P) (.node (boot_o_10 P) .nil .nil) .nil))
theorem zS2(P:Params):absHeap (bT P) 11 {}=boot_heap P:=by kernel_rfl
noncomputable def zOq(p q:Program)(loose:List Str)(Xt:Shared->Bool){α:Type}(Yf:Shared->α)(h:Heap)(s:Shared):Bool×(type_of% (openGood q loose))×α:=(staticsOk (importedModules p.main.body) h s.heap&&namesBound p s.heap&&gensDone s&&laidKept h s.heap,openSeen q loose (importedModules p.main.body) Xt true s,Yf s)
theorem zS3{p q:Program}{loose:List Str}{Xt:Shared->Bool}{α:Type}{Yf:Shared->α}{Ya:World->α}{N:Nat}{a:Option Value}(e:opening p=plainProg p.main.scope.names)(hN:Nat.ble 600 N=true)(f:∀ s,fenceModules? p s=some s)
  (sz:∀ w:World,((boot_heap w.params).isNs mainGlobals&&(gU []:Array GenState).size==0,(boot_heap w.params).objs.size,(boot_heap w.params).nsMap mainGlobals "__annotations__")=(true,11,a))
  (run:∀(w:World) (os:OsState),∃ s,topRun treeTable p w 11 a N ⟨boot_heap w.params,gU [],boot_drawn,boot_toks,os⟩ (topStub p)=some s/\zOq p q loose Xt Yf (boot_heap w.params) s=(true,openGood q loose,Ya w)):LeftO p q loose Xt Yf Ya N:=fun w=>by
 obtain⟨⟨h,gs,d,k,os⟩,e1,e2⟩:=i9.mp (boot_open e hN f w);simp only[Prod.mk.injEq] at e2;obtain⟨rfl,rfl,rfl,rfl⟩:=e2;obtain⟨r,r3,r2⟩:=run w os;unfold zOq at r2;simp only[Prod.mk.injEq] at r2;have s1:=sz w;simp only[Prod.mk.injEq] at s1;have t:topFrom treeTable p w N ⟨boot_heap w.params,gU [],boot_drawn,boot_toks,os⟩=some r:=by
  unfold topFrom;dsimp only;rw[s1.1,s1.2.1,s1.2.2,r3,Option.bind_some,r2.1]
 unfold openEnds;rw[e1];dsimp only[Option.bind];rw[t];exact congrArg some (Prod.ext r2.2.1 r2.2.2)
noncomputable def tO(l:List Obj):BT:=(List.foldl (fun(x:BT×Nat) o=>(x.1.ins x.2 o,x.2+1)) (.nil,0) l).1
noncomputable def oC:Obj:=⟨.type "code",none,.fields #[.str "<module>" 182,.str "<module>" 183,.str "/claim/cut.py" 184,.int 1 0,.int 0 0,.int 0 0,.int 0 0,.int 0 0,.ref 11,.bool false,.int 181 0,.ref 12,.none,.none,.none,.none,.int 185 0,.int 1 0,.str "/claim/cut.py" 186],#[]⟩
noncomputable def oF:Obj:=⟨.type "frame",none,.plain,#[some (.ref 13),some (.ref 3),some (.ref 3),none,some (.str "__main__" 164),none,some (.ref 0)]⟩
noncomputable def tE:Obj:=⟨.type "tuple",none,.seq #[],#[]⟩
noncomputable def lO(l:List (Nat×Nat)):Obj:=⟨.none,none,.fields (l.flatMap fun x=>[.int x.1 0,.int 0 0,.ref x.2]).toArray,#[]⟩
noncomputable def k5(P:Params)(n:Str)(a t l:Nat):List Obj:=[⟨.type "tuple",none,.seq #[.ref 24],#[]⟩,⟨.type "builtin_function_or_method",none,.fields #[.builtin "type.__prepare__",.type "type"],#[]⟩,⟨.type "dict",none,.dict #[dE P "__module__" (t+7) (.str "chordwebs.errors" 187),dE P "__qualname__" (t+9) (.str n (t+8)),dE P "__firstlineno__" (t+11) (.int l (t+10)),dE P "__static_attributes__" (t+12) (.ref (a+7))] 4,#[]⟩,⟨.type "tuple",none,.seq #[],#[]⟩,⟨.none,none,.fields #[],#[]⟩,⟨.type "code",none,.fields #[.str n (t+2),.str n (t+3),.str "/claim/cut.py" (t+4),.int l 0,.int 0 0,.int 0 0,.int 0 0,.int 0 0,.ref (a+3),.bool false,.int 181 0,.ref (a+4),.none,.none,.none,.none,.int (t+5:Nat) 0,.int l 0,.str "/claim/cut.py" (t+6)],#[]⟩,⟨.type "frame",none,.plain,#[some (.ref (a+5)),some (.ref 3),some (.ref (a+2)),none,some (.str "chordwebs.errors" 187),none,some (.ref 0)]⟩,⟨.type "tuple",none,.seq #[],#[]⟩,⟨.type "dict",none,.dict #[dE P "__module__" (t+7) (.str "chordwebs.errors" 187),dE P "__firstlineno__" (t+11) (.int l (t+10)),dE P "__static_attributes__" (t+12) (.ref (a+7)),dE P "__doc__" (t+13) .none] 2,#[]⟩,⟨.type "type",none,.cls (ClassData.mk n [.ref 24] [.ref (a+9),.ref 24,.type "ValueError",.type "Exception",.type "BaseException",.type "object"] (a+8) n true [] [] false none false),#[some (.ref (a+0)),none,some (.str n (t+0)),some (.str n (t+8)),some (.builtin "ValueError.__new__"),some (.bool true)]⟩,⟨.type "super",none,.fields #[.ref (a+9),.ref (a+9),.ref (a+9)],#[]⟩,⟨.type "builtin_function_or_method",none,.fields #[.builtin "object.__init_subclass__",.ref (a+9)],#[]⟩]
noncomputable def mdO:List (Str×Nat):=[("chordwebs.basics",287),("chordwebs.rings",335),("chordwebs.webs",385),("chordwebs.found",416),("chordwebs.turns",467),("chordwebs.bars",490),("chordwebs.notes",555),("chordwebs.splits",610),("chordwebs.tellings",651)]
noncomputable def gB(n:Str)(i a t l m d:Nat)(v:List Str):List Obj:=tE::lO []::((if v.isEmpty then [] else [⟨.type "tuple",none,.seq (v.zipIdx.map fun x=>.str x.1 (t+3+x.2)).toArray,#[]⟩,tE])++[⟨.none,none,.func ⟨n,n,za (top i),.stmts (zR (top i)),zD (top i),0,[],.none,.none,.none,.none,none,.none,.none,0⟩,#[]⟩,cO n n t (t+3+v.length) l m 3 a (!v.isEmpty),fO n n (top i) (if v.isEmpty then a+3 else a+5) (mdO.getD d ("",0)).1 (mdO.getD d ("",0)).2])
noncomputable def d1(P:Params):Obj:=⟨.type "dict",none,.dict #[dE P "__name__" 165 (.str "chordwebs.errors" 187),dE P "__doc__" 166 .none,dE P "__package__" 167 .none,dE P "__loader__" 168 (.builtin "__main__.__loader__#opaque"),dE P "__spec__" 169 .none,dE P "__annotations__" 170 (.ref 6),dE P "__builtins__" 171 (.ref 4),dE P "__file__" 173 (.str "/claim/cut.py" 172),dE P "__cached__" 174 .none,dE P "ChordError" 206 (.ref 24),dE P "TooMany" 222 (.ref 37),dE P "NoTie" 238 (.ref 49),dE P "NoSplit" 254 (.ref 61),dE P "NoName" 270 (.ref 73),dE P "BadNote" 286 (.ref 85)] 15,#[]⟩
noncomputable def d2(P:Params):Obj:=⟨.type "dict",none,.dict #[dE P "__name__" 165 (.str "chordwebs.desk" 672),dE P "__doc__" 166 .none,dE P "__package__" 167 .none,dE P "__loader__" 168 (.builtin "__main__.__loader__#opaque"),dE P "__spec__" 169 .none,dE P "__annotations__" 170 (.ref 6),dE P "__builtins__" 171 (.ref 4),dE P "__file__" 173 (.str "/claim/cut.py" 172),dE P "__cached__" 174 .none,dE P "ChordError" 206 (.ref 24),dE P "TooMany" 222 (.ref 37),dE P "NoTie" 238 (.ref 49),dE P "NoSplit" 254 (.ref 61),dE P "NoName" 270 (.ref 73),dE P "BadNote" 286 (.ref 85),dE P "MOST_PLACES" 290 (.int 9 289),dE P "is_number" 297 (.ref 94),dE P "are_places" 303 (.ref 99),dE P "is_rising" 309 (.ref 104),dE P "pairs" 316 (.ref 111),dE P "pairs_of" 326 (.ref 118),dE P "refuse_more" 334 (.ref 125),dE P "is_ring" 342 (.ref 130),dE P "cross" 353 (.ref 137),dE P "web_of" 359 (.ref 142),dE P "turned_round" 367 (.ref 149),dE P "mirrored" 374 (.ref 156),dE P "least" 384 (.ref 163),dE P "is_web" 392 (.ref 168),dE P "is_tie" 400 (.ref 175),dE P "tied" 409 (.ref 182),dE P "around" 415 (.ref 187),dE P "MOST_FOUND" 419 (.int 7 418),dE P "tells" 427 (.ref 194),dE P "ring_of" 435 (.ref 201),dE P "near_order" 441 (.ref 206),dE P "tied_among" 447 (.ref 211),dE P "grown" 460 (.ref 218),dE P "with_chord" 466 (.ref 223),dE P "web_turned" 477 (.ref 230),dE P "spread" 489 (.ref 237),dE P "MOST_BARRED" 493 (.int 7 492),dE P "WORDS" 497 (.ref 238),dE P "bar_web" 505 (.ref 245),dE P "around_nought" 511 (.ref 250),dE P "bar_of" 522 (.ref 257),dE P "bar_places" 532 (.ref 264),dE P "places_like" 543 (.ref 271),dE P "goes_on" 554 (.ref 278),dE P "FIGURES" 558 (.str "0123456789" 557),dE P "web_text" 564 (.ref 283),dE P "tie_text" 570 (.ref 288),dE P "ring_text" 576 (.ref 293),dE P "web_read" 582 (.ref 298),dE P "tie_read" 589 (.ref 305),dE P "ring_read" 595 (.ref 310),dE P "words_of" 602 (.ref 317),dE P "figure" 609 (.ref 324),dE P "other_side" 617 (.ref 329),dE P "cut_rank" 630 (.ref 336),dE P "row_of" 636 (.ref 341),dE P "is_split" 644 (.ref 348),dE P "splits" 650 (.ref 353),dE P "MOST_TOLD" 654 (.int 5 653),dE P "all_rings" 660 (.ref 358),dE P "all_with_chord" 671 (.ref 365),dE P "LETTERS" 675 (.str "abcdefghijklmnopqrstuvwxyz" 674),dE P "LONGEST_NAME" 677 (.int 8 676),dE P "LAST_PLACE" 679 (.int 8 678)] 69,#[]⟩
noncomputable def l1 (P:Params) (d o:Obj):List Obj:=[boot_o_0 P,boot_o_1 P,boot_o_2 P,d,boot_o_4 P,boot_o_5 P,boot_o_6 P,boot_o_7 P,boot_o_8 P,boot_o_9 P,boot_o_10 P,tE,o,oC,oF,⟨.type "tuple",none,.seq #[.type "ValueError"],#[]⟩,⟨.type "builtin_function_or_method",none,.fields #[.builtin "type.__prepare__",.type "type"],#[]⟩,⟨.type "dict",none,.dict #[dE P "__module__" 196 (.str "chordwebs.errors" 187),dE P "__qualname__" 198 (.str "ChordError" 197),dE P "__firstlineno__" 200 (.int 2 199),dE P "__static_attributes__" 201 (.ref 22)] 4,#[]⟩,⟨.type "tuple",none,.seq #[],#[]⟩,⟨.none,none,.fields #[],#[]⟩,⟨.type "code",none,.fields #[.str "ChordError" 191,.str "ChordError" 192,.str "/claim/cut.py" 193,.int 2 0,.int 0 0,.int 0 0,.int 0 0,.int 0 0,.ref 18,.bool false,.int 181 0,.ref 19,.none,.none,.none,.none,.int 194 0,.int 2 0,.str "/claim/cut.py" 195],#[]⟩,⟨.type "frame",none,.plain,#[some (.ref 20),some (.ref 3),some (.ref 17),none,some (.str "chordwebs.errors" 187),none,some (.ref 0)]⟩,⟨.type "tuple",none,.seq #[],#[]⟩,⟨.type "dict",none,.dict #[dE P "__module__" 196 (.str "chordwebs.errors" 187),dE P "__firstlineno__" 200 (.int 2 199),dE P "__static_attributes__" 201 (.ref 22),dE P "__weakref__" 203 (.ref 25),dE P "__doc__" 204 .none] 3,#[]⟩,⟨.type "type",none,.cls (ClassData.mk "ChordError" [.type "ValueError"] [.ref 24,.type "ValueError",.type "Exception",.type "BaseException",.type "object"] 23 "ChordError" true [] [.ref 37,.ref 49,.ref 61,.ref 73,.ref 85] false none false),#[some (.ref 15),none,some (.str "ChordError" 189),some (.str "ChordError" 197),some (.builtin "ValueError.__new__"),some (.bool true)]⟩,⟨.type "getset_descriptor",none,.fields #[.str "__weakref__" 202,.ref 24,.builtin "ExceptionGroup.__weakref__",.none],#[]⟩,⟨.type "super",none,.fields #[.ref 24,.ref 24,.ref 24],#[]⟩,⟨.type "builtin_function_or_method",none,.fields #[.builtin "object.__init_subclass__",.ref 24],#[]⟩]++k5 P "TooMany" 28 207 4++k5 P "NoTie" 40 223 6++k5 P "NoSplit" 52 239 8++k5 P "NoName" 64 255 10++k5 P "BadNote" 76 271 12
noncomputable def sa (P:Params):BT:=tO [boot_o_0 P,boot_o_1 P,boot_o_2 P,boot_o_3 P,boot_o_4 P,boot_o_5 P,boot_o_6 P,boot_o_7 P,boot_o_8 P,boot_o_9 P,boot_o_10 P,tE,lO [],oC,oF]
noncomputable def st1 (P:Params):BT:=tO (l1 P (d1 P) (lO [(2,20),(4,33),(6,45),(8,57),(10,69),(12,81)]))
noncomputable def st2 (P:Params):BT:=tO (l1 P (d2 P) (lO [(2,20),(4,33),(6,45),(8,57),(10,69),(12,81),(16,93),(18,98),(20,103),(22,110),(24,117),(30,124),(34,129),(41,136),(45,141),(48,148),(50,155),(52,162),(59,167),(69,174),(75,181),(77,186),(81,193),(83,200),(87,205),(93,210),(95,217),(104,222),(116,229),(119,236),(131,244),(136,249),(141,256),(154,263),(162,270),(171,277),(178,282),(182,287),(184,292),(186,297),(194,304),(196,309),(201,316),(205,323),(208,328),(210,335),(220,340),(222,347),(226,352),(233,357),(239,364)])++(gB "is_number" 9 88 291 16 1 0 ["thing"]++gB "are_places" 10 95 298 18 2 0 []++gB "is_rising" 11 100 304 20 1 0 []++gB "pairs" 12 105 310 22 1 0 ["many"]++gB "pairs_of" 13 112 317 24 1 0 ["places","found","k","j"]++gB "refuse_more" 14 119 327 30 2 0 ["many","most"]++gB "is_ring" 16 126 337 34 1 1 []++gB "cross" 17 131 343 41 3 1 ["ring","one","other","first","second"]++gB "web_of" 18 138 354 45 1 1 []++gB "turned_round" 19 143 360 48 2 1 ["ring","by"]++gB "mirrored" 20 150 368 50 1 1 ["ring"]++gB "least" 21 157 375 52 1 1 ["ring","back","best","by"]++gB "is_web" 23 164 387 59 1 2 []++gB "is_tie" 24 169 393 69 2 2 ["many","thing"]++gB "tied" 25 176 401 75 3 2 ["web","one","other"]++gB "around" 26 183 410 77 2 2 []++gB "tells" 29 188 420 81 2 3 ["ring","web"]++gB "ring_of" 30 195 428 83 1 3 ["web","order"]++gB "near_order" 31 202 436 87 1 3 []++gB "tied_among" 32 207 442 93 3 3 []++gB "grown" 33 212 448 95 4 3 ["web","order","done","ring","place","longer","found"]++gB "with_chord" 34 219 461 104 3 3 []++gB "web_turned" 36 224 469 116 2 4 ["web","place","near"]++gB "spread" 37 231 478 119 2 4 ["lists","edge","farther","web","place","turned"]++[⟨.type "tuple",none,.seq #[.str "wheel5" 494,.str "wheel7" 495,.str "cube7" 496],#[]⟩]++gB "bar_web" 41 239 498 131 1 5 ["word","rim"]++gB "around_nought" 42 246 506 136 2 5 []++gB "bar_of" 43 251 512 141 1 5 ["web","lists","edge","turned","places"]++gB "bar_places" 44 258 523 154 1 5 ["web","word","wanted","places"]++gB "places_like" 45 265 533 162 3 5 ["web","wanted","places","place","found"]++gB "goes_on" 46 272 544 171 4 5 ["web","wanted","places","place","k"]++gB "web_text" 49 279 559 178 1 6 []++gB "tie_text" 50 284 565 182 1 6 []++gB "ring_text" 51 289 571 184 1 6 []++gB "web_read" 52 294 577 186 1 6 []++gB "tie_read" 53 299 583 194 1 6 ["word"]++gB "ring_read" 54 306 590 196 1 6 []++gB "words_of" 55 311 596 201 1 6 ["text"]++gB "figure" 56 318 603 205 1 6 ["word"]++gB "other_side" 58 325 612 208 2 7 []++gB "cut_rank" 59 330 618 210 2 7 ["web","places","others","free","place","rest","row"]++gB "row_of" 60 337 631 220 3 7 []++gB "is_split" 61 342 637 222 2 7 ["web","places"]++gB "splits" 62 349 645 226 1 7 []++gB "all_rings" 65 354 655 233 1 8 []++gB "all_with_chord" 66 359 661 239 3 8 ["rings","place","crossed","longer","ring"]))
noncomputable def zKX(p:Program)(w:World)(m:Nat)(a:Option Value):Nat->SharedT->Thread->Option (SharedT×Thread)
 | 0,s,t=>some (s,t)
 | n+1,s,t=>match through t with
  | true=>none
  | false=>match stepOk m a t with
   | false=>none
   | true=>match stepT (denote treeTable) p w s t with
    | none=>none
    | some (x,y)=>zKX p w m a n x y
theorem zOr{p:Program}{w:World}{m:Nat}{a:Option Value}{s1:SharedT}{t1:Thread}(n:Nat):∀(s:SharedT) (t:Thread),zKX p w m a n s t=some (s1,t1)->topGo treeTable p w m a n s.abs t=some (s1.abs,t1):=by
 induction n with
 | zero=>intro s t h;cases h;rfl
 | succ n ih =>
  intro s t h;unfold zKX at h;unfold topGo;cases h1:through t with
  | true=>rw[h1] at h;cases h
  | false =>
   rw[h1] at h;cases h2:stepOk m a t with
   | false=>rw[h2] at h;cases h
   | true =>
    rw[h2] at h;cases h3:stepT (denote treeTable) p w s t with
    | none=>rw[h3] at h;cases h
    | some z=>rw[h3] at h;rw[stepT_spec h3];exact ih _ _ h
noncomputable abbrev pp:Program:=PySem.Challenge.rw_chordwebs_k94_desk_refuses.row.prog
noncomputable abbrev xt:Shared->Bool:=fun s=>xlAt kq [] s&&recOk (RowW.records PySem.Challenge.rw_chordwebs_k94_desk_refuses.row.toRowW) s
noncomputable abbrev hk:Hook:=kmHook kf ka ke [513]
noncomputable abbrev en:Env:={ scope:=pp.main.scope,locals:=mainNs,globals:=mainNs,cells:=[],code:=.ref 13,frame:=some 14 }
noncomputable abbrev bE:List Stmt:=behindTheImports pp
noncomputable abbrev cE:Code:=.body bE en
noncomputable abbrev p0:Pos:=⟨0,0,0,0⟩
noncomputable abbrev t2:Thread:=restOf (bE.drop 71) en cE ⟨247,0,247,10⟩ [topFrame p0]
theorem zUQ(w:World):(fun os=>zKX pp w 11 (some (.ref 6)) 12 ⟨bT w.params,11,{},gU [],boot_drawn,boot_toks,os⟩ (topStub pp))=fun os=>some (⟨sa w.params,15,{},gU [],boot_drawn,187,os⟩,⟨denote treeTable cE,cE,p0,[topFrame p0]⟩):=by kernel_rfl
theorem zUR(w:World):(fun os=>segRunT treeTable pp w 11 (some (.ref 6)) 1 1 ⟨sa w.params,15,{},gU [],boot_drawn,187,os⟩ (blockOf bE en cE p0 [topFrame p0]))=fun os=>some (.next,⟨sa w.params,15,{},gU [],boot_drawn,187,os⟩,cE,p0):=by kernel_rfl
set_option maxHeartbeats 0 in
theorem runC(w:World):(fun os=>segRunT treeTable pp w 11 (some (.ref 6)) 1 1261 ⟨sa w.params,15,{},gU [],boot_drawn,187,os⟩ (piecesOf (bE.take 7) en cE p0 [topFrame p0]))=fun os=>some (.next,⟨st1 w.params,88,{},gU [],boot_drawn,287,os⟩,cE,⟨12,0,13,8⟩):=by kernel_rfl
set_option maxHeartbeats 0 in
theorem zUS(w:World):(fun os=>segRunT treeTable pp w 11 (some (.ref 6)) 1 1481 ⟨st1 w.params,88,{},gU [],boot_drawn,287,os⟩ (piecesOf ((bE.drop 7).take 64) en cE ⟨12,0,13,8⟩ [topFrame p0]))=fun os=>some (.next,⟨st2 w.params,366,{},gU [],boot_drawn,680,os⟩,cE,⟨247,0,247,10⟩):=by kernel_rfl
noncomputable abbrev oS(s:Shared):=openSeen kq ["FORMS"] (importedModules pp.main.body) xt true s
noncomputable abbrev oG:=openGood kq ["FORMS"]
set_option maxHeartbeats 0 in
theorem zUT(w:World):(fun os=>(goT pp (w.withFollow "special-get-raises" false) 11 (some (.ref 6)) 4927 ⟨st2 (w.withFollow "special-get-raises" false).params,366,{},gU [],boot_drawn,680,os⟩ t2).map fun r=>(staticsOk (importedModules pp.main.body) (boot_heap (w.withFollow "special-get-raises" false).params) r.abs.heap&&namesBound pp r.abs.heap&&gensDone r.abs&&laidKept (boot_heap (w.withFollow "special-get-raises" false).params) r.abs.heap,(oS r.abs).1,hk.obs r.abs))=fun u0=>some (true,oG.1,hk.val (w.withFollow "special-get-raises" false)):=by kernel_rfl
set_option maxHeartbeats 0 in
theorem zUU(w:World):(fun os=>(goT pp (w.withFollow "special-get-raises" true) 11 (some (.ref 6)) 4927 ⟨st2 (w.withFollow "special-get-raises" true).params,366,{},gU [],boot_drawn,680,os⟩ t2).map fun r=>(staticsOk (importedModules pp.main.body) (boot_heap (w.withFollow "special-get-raises" true).params) r.abs.heap&&namesBound pp r.abs.heap&&gensDone r.abs&&laidKept (boot_heap (w.withFollow "special-get-raises" true).params) r.abs.heap,(oS r.abs).1,hk.obs r.abs))=fun u0=>some (true,oG.1,hk.val (w.withFollow "special-get-raises" true)):=by kernel_rfl
set_option maxHeartbeats 0 in
theorem zUV(w:World):(fun os=>(goT pp (w.withFollow "special-get-raises" false) 11 (some (.ref 6)) 4927 ⟨st2 (w.withFollow "special-get-raises" false).params,366,{},gU [],boot_drawn,680,os⟩ t2).map fun r=>(oS r.abs).2)=fun u0=>some (oG.2):=by kernel_rfl
set_option maxHeartbeats 0 in
theorem zUW(w:World):(fun os=>(goT pp (w.withFollow "special-get-raises" true) 11 (some (.ref 6)) 4927 ⟨st2 (w.withFollow "special-get-raises" true).params,366,{},gU [],boot_drawn,680,os⟩ t2).map fun r=>(oS r.abs).2)=fun u0=>some (oG.2):=by kernel_rfl
theorem zUX(w:World)(os:OsState):∃ s,topRun treeTable pp w 11 (some (.ref 6)) (12+(1+(1261+(1481+4927)))) ⟨boot_heap w.params,gU [],boot_drawn,boot_toks,os⟩ (topStub pp)=some s/\zOq pp kq ["FORMS"] xt hk.obs (boot_heap w.params) s=(true,openGood kq ["FORMS"],hk.val w):=by
 have h:=congrFun (byRow2 "special-get-raises" (P:=fun w=>(fun os=>(goT pp w 11 (some (.ref 6)) 4927 ⟨st2 w.params,366,{},gU [],boot_drawn,680,os⟩ t2).map fun r=>(staticsOk (importedModules pp.main.body) (boot_heap w.params) r.abs.heap&&namesBound pp r.abs.heap&&gensDone r.abs&&laidKept (boot_heap w.params) r.abs.heap,(oS r.abs).1,hk.obs r.abs))=fun u0=>some (true,oG.1,hk.val w)) zUT zUU w) os;have h':=congrFun (byRow2 "special-get-raises" (P:=fun w=>(fun os=>(goT pp w 11 (some (.ref 6)) 4927 ⟨st2 w.params,366,{},gU [],boot_drawn,680,os⟩ t2).map fun r=>(oS r.abs).2)=fun u0=>some (oG.2)) zUV zUW w) os;obtain⟨r,h1,h2⟩:=i9.mp h;have h3:some (oS r.abs).2=some oG.2:=by
  have h4:Option.map (fun r:SharedT=>(oS r.abs).2) (goT pp w 11 (some (.ref 6)) 4927 ⟨st2 w.params,366,{},gU [],boot_drawn,680,os⟩ t2)=some oG.2:=h';rw[h1] at h4;exact h4
 have k1:=piece_app (segRun_of (congrFun (zUS w) os)) (show topRun treeTable pp w 11 (some (.ref 6)) 4927 _ (restOf ((bE.drop 7).drop 64) en cE ⟨247,0,247,10⟩ [topFrame p0])=some r.abs by rw[List.drop_drop];exact zRF _ _ _ h1);rw[List.take_append_drop] at k1;have k2:=piece_app (segRun_of (congrFun (runC w) os)) k1;rw[List.take_append_drop] at k2;have k4:=go_top (zOr _ _ _ (congrFun (zUQ w) os)) (piece_block (segRun_of (congrFun (zUR w) os)) k2);have hs:(SharedT.mk (bT w.params) 11 {} (gU []) boot_drawn boot_toks os).abs=⟨boot_heap w.params,gU [],boot_drawn,boot_toks,os⟩:=by unfold SharedT.abs;rw[zS2]
 rw[hs] at k4;refine⟨r.abs,k4,?_⟩;unfold zOq;simp only[Prod.mk.injEq] at h2 ⊢;exact⟨h2.1,Prod.ext h2.2.1 (Option.some.inj h3),h2.2.2⟩
theorem hl:LeftO pp kq ["FORMS"] xt hk.obs hk.val 7682:=zS3 (by kernel_rfl) 3#0 (fun s=>by kernel_rfl) (fun w=>by kernel_rfl) zUX
end K
namespace L2
noncomputable abbrev Key:=Sum Int Str
noncomputable def zFN:Key->Value->Bool
 | .inl k,v=>Value.isInt k v
 | .inr x,v=>Value.isStrOf x v
noncomputable def zUY(w:World):Key->Int
 | .inl k=>hashInt k
 | .inr x=>hashStr w x
theorem yn:∀ {k:Key} {v:Value},zFN k v=true->(∃ i t,k=Sum.inl i/\v=Value.int i t)\/(∃ x t,k=Sum.inr x/\v=Value.str x t)
 | .inl i,v,h=>by
  obtain⟨t,e⟩:=Value.isInt_shape (k:=i) (v:=v) h;exact .inl ⟨i,t,rfl,e⟩
 | .inr x,v,h=>by
  obtain⟨t,e⟩:=Value.isStrOf_shape (x:=x) (v:=v) h;exact .inr ⟨x,t,rfl,e⟩
theorem zLS(i:Int)(t:Tok):zFN (.inl i) (.int i t)=true:=by simp[zFN,Value.isInt]
theorem zLT(x:Str)(t:Tok):zFN (.inr x) (.str x t)=true:=by simp[zFN,Value.isStrOf]
theorem zRG(a b:Int):decide ((Sum.inl a:Key)=Sum.inl b)=(a==b):=by
 by_cases e:a=b
 ·subst e;simp
 ·have h:¬ (Sum.inl a:Key)=Sum.inl b:=fun q=>e (Sum.inl.inj q)
  rw[decide_eq_false h];exact(beq_eq_false_iff_ne.mpr e).symm
theorem zRH(a b:Str):decide ((Sum.inr a:Key)=Sum.inr b)=decide (a=b):=by
 by_cases e:a=b
 ·subst e;simp
 ·have h:¬ (Sum.inr a:Key)=Sum.inr b:=fun q=>e (Sum.inr.inj q)
  rw[decide_eq_false h,decide_eq_false e]
theorem zRI(a:Int)(b:Str):decide ((Sum.inl a:Key)=Sum.inr b)=false:=decide_eq_false (fun q=>nomatch q)
theorem zRJ(a:Str)(b:Int):decide ((Sum.inr a:Key)=Sum.inl b)=false:=decide_eq_false (fun q=>nomatch q)
noncomputable def yG(prog:Program)(w:World):PySem.KeyKind prog w Key where
 is:=zFN
 hash:=zUY w
 inj:=fun v a b ha hb=>by
  rcases yn ha with ⟨i,t,rfl,rfl⟩ | ⟨x,t,rfl,rfl⟩
  ·rcases yn hb with ⟨j,u,rfl,e⟩ | ⟨y,u,rfl,e⟩
   ·injection e with e1 _;rw[e1]
   ·exact nomatch e
  ·rcases yn hb with ⟨j,u,rfl,e⟩ | ⟨y,u,rfl,e⟩
   ·exact nomatch e
   ·injection e with e1 _;rw[e1]
 byValue:=fun k v h=>by
  rcases yn h with ⟨i,t,rfl,rfl⟩ | ⟨x,t,rfl,rfl⟩<;>rfl
 pyHash:=fun hv h=>by
  rcases yn hv with ⟨i,t,rfl,rfl⟩ | ⟨x,t,rfl,rfl⟩
  ·exact wpAny_pyHash_int h
  ·exact wpAny_pyHash_str h
 eqBool:=fun hu hv h=>by
  rcases yn hu with ⟨i,t,rfl,rfl⟩ | ⟨x,t,rfl,rfl⟩
  ·rcases yn hv with ⟨j,u,rfl,rfl⟩ | ⟨y,u,rfl,rfl⟩
   ·rw[zRG] at h;exact wpAny_eqBool_int h
   ·rw[zRI] at h;exact SeqAt.EqAt.int_str i t y u _ _ _ _ h
  ·rcases yn hv with ⟨j,u,rfl,rfl⟩ | ⟨y,u,rfl,rfl⟩
   ·rw[zRJ] at h;exact SeqAt.EqAt.str_int x t j u _ _ _ _ h
   ·rw[zRH] at h;exact wpAny_eqBool_str h
 «strs»:=fun k x t v h=>by
  rcases yn h with ⟨i,u,rfl,e⟩ | ⟨y,u,rfl,e⟩
  ·exact nomatch e
  ·injection e with e1 _
   subst e1;cases v<;>rfl
theorem zIG(prog:Program)(w:World)(i:Int)(t:Tok):(yG prog w).is (.inl i) (.int i t)=true:=zLS i t
theorem zEd(prog:Program)(w:World)(x:Str)(t:Tok):(yG prog w).is (.inr x) (.str x t)=true:=zLT x t
set_option genInjectivity true in
inductive V where
 | non | bl (b:Bool) | int (i:Int) | str (x:Str) | byt (b:Array UInt8) | flt (b:UInt64) | ref (a:Addr) | ty (n:String)
 deriving DecidableEq
def RelV:V->Value->Prop
 | .non,u=>u=Value.none
 | .bl b,u=>u=Value.bool b
 | .int i,u=>∃ t,u=Value.int i t
 | .str x,u=>∃ t,u=Value.str x t
 | .byt b,u=>∃ t,u=Value.bytes b t
 | .flt b,u=>∃ t,u=Value.float b t
 | .ref a,u=>u=Value.ref a
 | .ty n,u=>u=Value.type n
abbrev zy:List V->List Value->Prop:=Paired RelV
theorem zy.length{xs:List V}{us:List Value}(r:zy xs us):xs.length=us.length:=Paired.length r
theorem zy.get:∀ {xs:List V} {us:List Value} {i:Nat} {x:V},zy xs us->xs[i]?=some x->∃ u,us[i]?=some u/\RelV x u
 | _,_,_,_,.nil,e=>by simp at e
 | _,_,0,_,.cons r _,e=>by simp at e;subst e;exact⟨_,rfl,r⟩
 | _,_,i+1,x,.cons _ t,e=>by
  obtain⟨u,h1,h2⟩:=zy.get (i:=i) (x:=x) t (by simpa using e);exact⟨u,by simpa using h1,h2⟩
theorem zy.set{x:V}{u:Value}(r:RelV x u):∀ {xs:List V} {us:List Value} (i:Nat),zy xs us->zy (xs.set i x) (us.set i u)
 | _,_,_,.nil=>.nil
 | _,_,0,.cons _ t=>.cons r t
 | _,_,i+1,.cons q t=>.cons q (zy.set r i t)
theorem zy.append:∀ {xs ys:List V} {us ws:List Value},zy xs us->zy ys ws->zy (xs++ys) (us++ws)
 | _,_,_,_,.nil,s=>s
 | _,_,_,_,.cons r t,s=>.cons r (zy.append t s)
theorem zy.take:∀ {xs:List V} {us:List Value} (n:Nat),zy xs us->zy (xs.take n) (us.take n)
 | _,_,0,_=>.nil
 | _,_,_+1,.nil=>.nil
 | _,_,n+1,.cons r t=>.cons r (zy.take n t)
theorem zy.drop:∀ {xs:List V} {us:List Value} (n:Nat),zy xs us->zy (xs.drop n) (us.drop n)
 | _,_,0,r=>r
 | _,_,_+1,.nil=>.nil
 | _,_,n+1,.cons _ t=>zy.drop n t
def zDS:Option V->Option Value->Prop
 | some v,some u=>RelV v u
 | none,none=>True
 | _,_=>False
def KV{κ:Type}:List (κ×V)->List (κ×Value)->Prop:=Paired fun(p:κ×V) (q:κ×Value)=>p.1=q.1/\RelV p.2 q.2
noncomputable def kV:Key->V
 | .inl i=>.int i
 | .inr x=>.str x
set_option genInjectivity true in
inductive HO where
 /-- a list -/
 | lst (xs:List V)
 /-- a tuple (never changes) -/
 | tup (xs:List V)
 /-- a dict whose keys are ints and texts;one whose keys are tuples of ints and texts (the empty one is both) -/
 | dK (kvs:List (Key×V)) | dT (kvs:List (List Key×V))
 /-- a set of ints: its members,its size -/
 | set (S:Int->Bool) (n:Nat)
 /-- an instance of the class at C,its dict at dx,its attributes -/
 | ins (C dx:Addr) (fs:List (Str×V))
 /-- the dict of the instance at x -/
 | own (x:Addr)
 /-- the dict of an exception -/
 | xd (fs:List (Str×V))
 /-- a bound method,f of x -/
 | met (f x:Addr)
 /-- a range object lo,lo+1,.. below hi -/
 | rng (lo hi:Int)
 /-- a thing that is known to the object (the script;a dict while a loop walks it): read,never written while it is so -/
 | frz (o:Obj) (u:HO)
 /-- a code object's table -/
 | tbl (ps:Array Value)
 /-- any other thing,by what is true of its one object (a def of one's own: SetO a S n:=HO.ext fun h=>..) -/
 | ext (φ:Heap->Prop)
noncomputable abbrev Hp:=Addr->Option HO
noncomputable def yx(H:Hp)(a:Addr)(o:HO):Hp:=fun b=>if b=a then some o else H b
theorem yC{H:Hp}{a:Addr}{o:HO}:yx H a o a=some o:=by unfold yx;rw[if_pos rfl]
theorem zr{H:Hp}{a b:Addr}{o:HO}(h:b≠a):yx H a o b=H b:=by unfold yx;rw[if_neg h]
theorem zKY{H:Hp}{a b:Addr}{o u:HO}(h:H a=some o)(h':H b=some u)(d:o≠u):a≠b:=by
 intro e;subst e;rw[h] at h';exact d (Option.some.inj h')
theorem yt{H:Hp}{a b:Addr}{o:HO}(h:H a=some o)(h':H b=none):a≠b:=by
 intro e;subst e;rw[h] at h';cases h'
def zEx(h:Heap)(a:Addr)(items:Array Value):Prop:=∃ o,h.get? a=some o/\o.cls=.type "tuple"/\(∃ n,o.data=.seq items n)/\o.dict=none
theorem zEx.isTup{h:Heap}{a:Addr}{items:Array Value}(x:zEx h a items):IsTup h a items:=let ⟨o,h1,h2,h3,_⟩:=x;⟨o,h1,h2,h3⟩
theorem zEx.lt{h:Heap}{a:Addr}{items:Array Value}(x:zEx h a items):a<h.objs.size:=x.isTup.lt
theorem zEx.new(h:Heap)(items:Array Value):zEx (h.push { cls:=.type "tuple",data:=.seq items }) h.objs.size items:=⟨_,fM _ rfl,rfl,⟨_,rfl⟩,rfl⟩
section
variable (P:Program) (w:World)
def yy(H:Hp)(h:Heap)(a:Addr):HO->Prop
 | .lst xs=>xs.length<=sizeLine/\∃(its:List Value) (n:Nat),zy xs its/\h.get? a=some { cls:=.type "list",data:=.seq its.toArray n }
 | .tup xs=>xs.length<=sizeLine/\∃ its:List Value,zy xs its/\zEx h a its.toArray
 | .dK kvs=>kvs.length<=sizeLine/\(a==sysModules)=false/\∃ vs,KV kvs vs/\h.DictOf (yG P w) a vs
 | .dT kvs=>kvs.length<=sizeLine/\(a==sysModules)=false/\∃ xs:List (List Key×Addr×Value),
   Paired (fun(p:List Key×V) (q:List Key×Addr×Value)=>p.1=q.1/\H q.2.1=some (.tup (p.1.map kV))/\RelV p.2 q.2.2) kvs xs /\
   ∃ o es ep,h.get? a=some o/\o.ExactDict/\o.data=.dict es ep/\es.toList=xs.map (entryOfKey (tupleKind (yG P w)))/\(xs.map (·.1)).Nodup
 | .set S n=>h.SetOf (intKind P w) a S n
 | .ins C dx fs=>H dx=some (.own a)/\fs.length<=1000/\dx≠a/\h.get? a=some (PySem.W.instObj C dx) /\
   ∃ mA,h.Ns1 dx mA/\(∀ f,zDS (fs.lookup f) (mA f))/\PySem.Within mA (fs.map (·.1))
 | .own _=>∃ o,h.get? a=some o
 | .xd fs=>∃ mA,h.Ns1 a mA/\∀ f,zDS (fs.lookup f) (mA f)
 | .rng lo hi=>∃ t u v,h.get? a=some { cls:=.type "range",data:=.fields #[.int lo t,.int hi u,.int 1 v] }
 | .frz o u=>h.get? a=some o/\yy H h a u
 | .tbl ps=>∃(q:Str) (t:Tok) (vs:Array Value),ps=#[.str q t]/\h.get? a=some (PySem.W.tabObj vs)/\TriplesOk vs.toList/\∀(pos:Pos) (cv:Value),codeAmong pos vs.toList=some cv ->
   ∃(c:Addr) (o:Obj) (us:Array Value) (t':Tok),cv=.ref c/\H c=some (.frz o (.own 0))/\o.data=.fields us/\us[1]?=some (.str q t')
 | .met f x=>h.get? a=some (PySem.W.methodObj (.ref f) (.ref x))
 | .ext φ=>φ h/\(∃ o,h.get? a=some o)/\∀ h1 h2:Heap,φ h1->(∀ o,h1.get? a=some o->h2.get? a=some o)->φ h2
def HOk(H:Hp)(h:Heap):Prop:=∀ a o,H a=some o->yy P w H h a o
end
section
variable {P:Program} {w:World} {H H':Hp} {h h':Heap} {a:Addr} {o:HO}
theorem yy.lt(x:yy P w H h a o):a<h.objs.size:=by
 cases o with
 | lst xs=>obtain⟨u0,u0,u0,u0,e⟩:=x;exact fK e
 | tup xs=>obtain⟨u0,u0,u0,p⟩:=x;exact p.lt
 | dK kvs=>obtain⟨u0,u0,u0,u0,o,u0,u0,e,u0⟩:=x;exact fK e
 | dT kvs=>obtain⟨u0,u0,u0,u0,o,u0,u0,e,u0⟩:=x;exact fK e
 | set S n=>obtain⟨o,u0,u0,u0,e,u0⟩:=x;exact fK e
 | ins C dx fs=>obtain⟨u0,u0,u0,e,u0⟩:=x;exact fK e
 | own y=>obtain⟨u0,e⟩:=x;exact fK e
 | xd fs=>obtain⟨u0,⟨u0,u0,u0,e,u0⟩,u0⟩:=x;exact fK e
 | rng lo hi=>obtain⟨u0,u0,u0,e⟩:=x;exact fK e
 | frz ob u=>obtain⟨e,u0⟩:=x;exact fK e
 | tbl ps=>obtain⟨u0,u0,u0,u0,e,u0⟩:=x;exact fK e
 | met f y=>exact fK (show h.get? a=some _ from x)
 | ext φ=>obtain⟨u0,⟨u0,e⟩,u0⟩:=x;exact fK e
theorem Paired.mapP{α β:Type}{F G:α->β->Prop}:∀ {l₁:List α} {l₂:List β},Paired F l₁ l₂->(∀ a b,F a b->G a b)->Paired G l₁ l₂
 | _,_,.nil,_=>.nil
 | _,_,.cons r t,f=>.cons (f _ _ r) (Paired.mapP t f)
theorem yy.stay(x:yy P w H h a o)(k:∀ b u,(b=a\/H b=some (.own a))->h.get? b=some u->h'.get? b=some u)
  (ho:∀ b,H b=some (.own a)->H' b=some (.own a)) (ht:∀ b xs,H b=some (.tup xs)->H' b=some (.tup xs)) (hz:∀ b o u,H b=some (.frz o u)->H' b=some (.frz o u)):yy P w H' h' a o:=by
 induction o with
 | lst xs=>obtain⟨z,its,n,r,e⟩:=x;exact⟨z,its,n,r,k _ _ (.inl rfl) e⟩
 | tup xs=>obtain⟨z,its,r,ob,e,c⟩:=x;exact⟨z,its,r,ob,k _ _ (.inl rfl) e,c⟩
 | dK kvs=>obtain⟨z,y,vs,r,ob,es,ep,e,c⟩:=x;exact⟨z,y,vs,r,ob,es,ep,k _ _ (.inl rfl) e,c⟩
 | dT kvs =>
  obtain⟨z,y,xs,r,ob,es,ep,e,c⟩:=x;exact⟨z,y,xs,Paired.mapP r fun p q z=>⟨z.1,ht _ _ z.2.1,z.2.2⟩,ob,es,ep,k _ _ (.inl rfl) e,c⟩
 | set S n=>obtain⟨ob,es,ep,t,e,c⟩:=x;exact⟨ob,es,ep,t,k _ _ (.inl rfl) e,c⟩
 | ins C dx fs =>
  obtain⟨d,z,ne,e,mA,⟨od,es,ep,e2,c⟩,r⟩:=x;exact⟨ho _ d,z,ne,k _ _ (.inl rfl) e,mA,⟨od,es,ep,k _ _ (.inr d) e2,c⟩,r⟩
 | own y=>obtain⟨ob,e⟩:=x;exact⟨ob,k _ _ (.inl rfl) e⟩
 | xd fs=>obtain⟨mA,⟨od,es,ep,e,c⟩,r⟩:=x;exact⟨mA,⟨od,es,ep,k _ _ (.inl rfl) e,c⟩,r⟩
 | rng lo hi=>obtain⟨t,u,v,e⟩:=x;exact⟨t,u,v,k _ _ (.inl rfl) e⟩
 | frz ob u ih=>obtain⟨e,q⟩:=x;exact⟨k _ _ (.inl rfl) e,ih q⟩
 | tbl ps =>
  obtain⟨q,t,vs,e0,e,e1,e2⟩:=x;refine⟨q,t,vs,e0,k _ _ (.inl rfl) e,e1,fun pos cv z=>?_⟩;obtain⟨c,oc,us,t',z1,z2,z3⟩:=e2 pos cv z;exact⟨c,oc,us,t',z1,hz _ _ _ z2,z3⟩
 | met f y =>
  have e:h.get? a=some (PySem.W.methodObj (.ref f) (.ref y)):=x;show h'.get? a=some (PySem.W.methodObj (.ref f) (.ref y));exact k a _ (.inl rfl) e
 | ext φ=>obtain⟨p,⟨o,e⟩,st⟩:=x;exact⟨st _ _ p fun o q=>k _ _ (.inl rfl) q,⟨o,k _ _ (.inl rfl) e⟩,st⟩
theorem HOk.lt(x:HOk P w H h)(e:H a=some o):a<h.objs.size:=(x a o e).lt
theorem HOk.fresh(x:HOk P w H h)(e:h.objs.size<=a):H a=none:=by
 cases q:H a with
 | none=>rfl
 | some u=>exact absurd (fN (x.lt q) e) (gn _)
theorem HOk.kept(x:HOk P w H h)(k:∀ b u,h.get? b=some u->h'.get? b=some u):HOk P w H h':=fun a o e =>
 (x a o e).stay (fun b u u0 q=>k b u q) (fun u0 q=>q) (fun u0 u0 q=>q) fun u0 u0 u0 q=>q
theorem HOk.laid(x:HOk P w H h)(k:∀ b u,h.get? b=some u->h'.get? b=some u)(hp:h.objs.size<=a)(new:yy P w (yx H a o) h' a o):HOk P w (yx H a o) h':=fun b u e=>by
 have hn:=x.fresh hp;by_cases hb:b=a
 ·subst hb;rw[yC] at e;cases e;exact new
 ·rw[zr hb] at e
  exact(x b u e).stay (fun c v u0 q=>k c v q) (fun c q=>by rw[zr (yt q hn)];exact q) (fun c xs q=>by rw[zr (yt q hn)];exact q) fun c oo u q=>by rw[zr (yt q hn)];exact q
end
def Rd(H:Hp)(a:Addr)(u:HO):Prop:=H a=some u\/∃ o,H a=some (.frz o u)
theorem Rd.of{H:Hp}{a:Addr}{u:HO}(h:H a=some u):Rd H a u:=.inl h
theorem Rd.ok{P:Program}{w:World}{H:Hp}{h:Heap}{a:Addr}{u:HO}(r:Rd H a u)(x:HOk P w H h):yy P w H h a u:=by
 rcases r with r | ⟨o,r⟩
 ·exact x a u r
 ·obtain⟨u0,q⟩:=x a _ r
  exact q
def Mut:Option HO->Prop
 | some (.lst _)=>True
 | some (.dK _)=>True
 | some (.dT _)=>True
 | some (.set _ _)=>True
 | some (.ins _ _ _)=>True
 | some (.ext _)=>True
 | _=>False
section
variable {P:Program} {w:World} {H:Hp} {h h':Heap} {x e:Addr} {o':HO}
theorem HOk.write(ok:HOk P w H h)(mu:Mut (H x))(he:e=x\/H e=some (.own x))(k:∀ b u,b≠e->h.get? b=some u->h'.get? b=some u)(heo:∃ u,h'.get? e=some u)
  (new:yy P w (yx H x o') h' x o'):HOk P w (yx H x o') h':=fun b u q=>by
 have nown:∀ c y,H c=some (.own y)->c≠x:=fun c y r z=>by subst z;rw[r] at mu;exact mu
 have ntup:∀ c xs,H c=some (.tup xs)->c≠x:=fun c xs r z=>by subst z;rw[r] at mu;exact mu
 have nfrz:∀ c oo u,H c=some (.frz oo u)->c≠x:=fun c oo u r z=>by subst z;rw[r] at mu;exact mu
 by_cases hb:b=x
 ·subst hb;rw[yC] at q;cases q;exact new
 ·rw[zr hb] at q
  by_cases hbe:b=e
  ·have q':H b=some (.own x):=by
    rcases he with z | z
    ·exact absurd (hbe.trans z) hb
    ·rw[hbe];exact z
   rw[q] at q';cases q';obtain⟨v,hv⟩:=heo;exact⟨v,by rw[hbe];exact hv⟩
  ·refine(ok b u q).stay (fun c v hc r=>k c v ?_ r) (fun c r=>by rw[zr (nown c b r)];exact r) (fun c xs r=>by rw[zr (ntup c xs r)];exact r) fun c oo u r=>by rw[zr (nfrz c oo u r)];exact r
   rcases hc with rfl | hc
   ·exact hbe
   ·rintro rfl
    rcases he with z | z
    ·exact nown c b hc z
    ·rw[hc] at z;cases z;exact hb rfl
end
structure Un (fs ex:List Addr) (H H':Hp) (h h':Heap):Prop where
 keep:∀ b o,h.get? b=some o->H b=none->b∉fs->b∉ex->h'.get? b=some o
 slot:∀ b o,h.get? b=some o->H b=none->b∈fs->b∉ex->∃ sl,h'.get? b=some { o with slots:=sl }
 free:∀ b o,h.get? b=some o->H b=none->b∉ex->H' b=none
 there:∀ b o,h.get? b=some o->b∉ex->∃ o',h'.get? b=some o'
 tups:∀ b xs,H b=some (.tup xs)->H' b=some (.tup xs)
 frzs:∀ b o u,H b=some (.frz o u)->H' b=some (.frz o u)
 tbls:∀ b ps,H b=some (.tbl ps)->H' b=some (.tbl ps)
section
variable {fs fs' ex ex':List Addr} {H H1 H2:Hp} {h h1 h2 h':Heap} {a x e:Addr} {o:HO}
theorem Un.any(u:Un fs ex H H1 h h1){b:Addr}{ob:Obj}(q:h.get? b=some ob)(n:H b=none)(hx:b∉ex):∃ sl,h1.get? b=some { ob with slots:=sl }:=by
 by_cases hb:b∈fs
 ·exact u.slot b ob q n hb hx
 ·exact⟨ob.slots,u.keep b ob q n hb hx⟩
theorem Un.kept(k:∀ b u,h.get? b=some u->h'.get? b=some u):Un fs ex H H h h' :=
 ⟨fun b ob q u0 u0 u0=>k b ob q,fun b ob q u0 u0 u0=>⟨ob.slots,k b ob q⟩,fun u0 u0 u0 n u0=>n,fun b ob q u0=>⟨ob,k b ob q⟩,fun u0 u0 q=>q,fun u0 u0 u0 q=>q,fun u0 u0 q=>q⟩
theorem Un.refl:Un fs ex H H h h:=Un.kept fun u0 u0 q=>q
theorem Un.laid(k:∀ b u,h.get? b=some u->h'.get? b=some u)(hp:h.objs.size<=a)(hn:H a=none):Un fs ex H (yx H a o) h h' where
 keep:=fun b u q u0 u0 u0=>k b u q
 slot:=fun b u q u0 u0 u0=>⟨u.slots,k b u q⟩
 free:=fun b u q n u0=>by rw[zr (gc (fN (fK q) hp))];exact n
 there:=fun b u q u0=>⟨u,k b u q⟩
 tups:=fun b xs q=>by rw[zr (yt q hn)];exact q
 frzs:=fun b u xs q=>by rw[zr (yt q hn)];exact q
 tbls:=fun b ps q=>by rw[zr (yt q hn)];exact q
theorem Un.write(mu:Mut (H x))(he:e=x\/H e=some (.own x))(k:∀ b u,b≠e->h.get? b=some u->h'.get? b=some u)(heo:∃ u,h'.get? e=some u):Un fs ex H (yx H x o) h h':=by
 have hx:∀ b,H b=none->b≠x:=fun b n z=>by subst z;rw[n] at mu;exact mu
 have hb:∀ b,H b=none->b≠e:=fun b n z=>by
  subst z;rcases he with r | r
  ·exact hx b n r
  ·rw[n] at r;cases r
 have hm:∀ b u,H b=some u->¬ Mut (some u)->b≠x:=fun b u q nm z=>by subst z;rw[q] at mu;exact nm mu
 refine⟨fun b u q n u0 u0=>k b u (hb b n) q,fun b u q n u0 u0=>⟨u.slots,k b u (hb b n) q⟩,fun b u q n u0=>by rw[zr (hx b n)];exact n,fun b u q u0=>?_,
  fun b xs q=>by rw[zr (hm b _ q fun z=>z)];exact q,fun b u xs q=>by rw[zr (hm b _ q fun z=>z)];exact q,fun b ps q=>by rw[zr (hm b _ q fun z=>z)];exact q⟩
 by_cases hbe:b=e
 ·subst hbe;exact heo
 ·exact⟨u,k b u hbe q⟩
end
noncomputable def trk(h:Heap)(H:Hp):List Addr:=(fQ h.objs.size).filter fun a=>(H a).isSome
noncomputable def zGN(h:Heap)(H:Hp):Heap:=PySem.W.hideAll h (trk h H)
theorem zLU(h:Heap)(H:Hp):(zGN h H).objs.size=h.objs.size:=PySem.W.hideAll_size _ _
theorem zMZ{h:Heap}{H:Hp}{b:Addr}{o:Obj}(e:h.get? b=some o)(n:H b=none):(zGN h H).get? b=some o :=
 PySem.W.hideAll_get _ e fun hm=>by
  have q:(H b).isSome=true:=(List.mem_filter.mp hm).2;rw[n] at q;simp at q
theorem zOs{h:Heap}{H:Hp}{b:Addr}{o:Obj}(e:(zGN h H).get? b=some o):h.get? b=some o/\H b=none:=by
 have e':h.get? b=some o:=PySem.W.of_hideAll (trk h H) e;refine⟨e',?_⟩;cases q:H b with
 | none=>rfl
 | some x =>
  have hm:b∈trk h H:=List.mem_filter.mpr ⟨gJ.mpr (fK e'),by simp[q]⟩;have z:(zGN h H).get? b=none:=PySem.W.hideAll_none (trk h H) hm;rw[z] at e;cases e
noncomputable def zOt(g h:Heap)(L:Addr):List (Addr×Obj):=(fQ h.objs.size).filterMap fun a=>if a=L\/(g.get? a).isSome=true then none else (h.get? a).map fun o=>(a,o)
noncomputable def rest(g h:Heap)(L d:Addr):List (Addr×Obj):=(zOt g h L).filter fun p=>decide (p.1≠d)
structure Mod (K:PySem.W.Frag) (mg:Str->Option Value) (base:Heap):Prop where
 kin:K.In base
 glob:base.Ns mainGlobals mg
 blt:∃ mb,base.Ns builtinsNs mb/\∀ x:Str,x≠"__name__"->mb x=bootBuiltins x
 nolimit:base.NoLimit
structure Cx where
 prog:Program
 w:World
 K:PySem.W.Frag
 mg:Str->Option Value
 base:Heap
 A:Around
 N:List Str
 s₀:Shared
 H₀:Hp
 env:Env
 outer:List Env
 stack:List Env
 ex:List Addr
 fn:Str->Bool
 calm:Bool
 pn:List (Addr×Obj)
 xe:Value->Shared->Prop
noncomputable def frs(l:List Env):List Addr:=l.filterMap (·.frame)
noncomputable abbrev Cx.fs(X:Cx):List Addr:=frs X.outer
def Vis(sc:Scope)(x:Str):Prop:=sc.names.lookup x=some .local\/sc.names.lookup x=some .cell\/sc.names.lookup x=some .free
def Loc(sc:Scope)(x:Str):Prop:=sc.names.lookup x=some .local\/sc.names.lookup x=some .cell
def Look(env:Env)(h:Heap)(m:Str->Option Value)(x:Str)(u:Value):Prop :=
 (env.kindOf x=some .local/\m x=some u)\/((env.kindOf x=some .cell\/env.kindOf x=some .free)/\∃ c,env.cells.lookup x=some c/\h.IsCell c (some u))
noncomputable def zCI:List Str:=["law"]
def TabsOk(K:14#0)(H:Hp):Prop:=∀ x∈zCI,∀ c b,PySem.W.tabIn K x=some (c,b)->∃ t,H b=some (.tbl #[.str (x++".<locals>.<lambda>") t])
structure Cx.Ok (X:Cx):Prop where
 mod:Mod X.K X.mg X.base
 kind:X.env.scope.kind=.function
 glob:X.env.globals=mainGlobals
 blt:X.env.builtins=builtinsNs
 above:X.s₀.heap.objs.size<=X.env.locals
 inj:∀ x y c,X.env.cells.lookup x=some c->X.env.cells.lookup y=some c->x=y
 has:∀ x,(X.env.kindOf x=some .cell\/X.env.kindOf x=some .free)->∃ c,X.env.cells.lookup x=some c
 cab:∀ x c,X.fn x=true->X.env.cells.lookup x=some c->X.s₀.heap.objs.size<=c
 hd:X.calm=true->X.A.handled=none
 frames:X.A.frames=some X.stack
 stk:X.stack=X.outer\/(X.stack=X.env::X.outer/\X.env.frame=some X.env.locals)
 exf:∀ b∈X.ex,b≠X.env.locals/\∀ x c,X.env.cells.lookup x=some c->c≠b
 bs:∀ b o,X.base.get? b=some o->X.s₀.heap.get? b=some o/\X.H₀ b=none
 bsz:X.base.objs.size<=X.s₀.heap.objs.size
 noex:∀ b o,X.base.get? b=some o->b∉X.ex
 exfs:∀ b∈X.ex,b∉X.fs
 funs:X.s₀.heap.FunFrames X.base X.outer
 frf:∀ b∈X.fs,X.H₀ b=none
 tb:TabsOk X.K X.H₀
structure zT (X:Cx) (pins:List (Addr×Obj)) (σ:List (Option V)) (H:Hp) (s:Shared):Prop where
 ok:X.Ok
 os:s.os=X.s₀.os
 bare:AllBare s.gens
 base:Un X.fs X.ex X.H₀ H X.s₀.heap s.heap
 loc:∃ m,s.heap.Ns X.env.locals m/\∀(i:Nat) (x:Str) (v:V),X.N[i]?=some x->σ[i]?=some (some v)->Vis X.env.scope x->∃ u,RelV v u/\Look X.env s.heap m x u
 cell:∀ x c,X.env.cells.lookup x=some c->∃ v,s.heap.IsCell c v
 free:H X.env.locals=none
 freeC:∀ x c,X.env.cells.lookup x=some c->H c=none
 pin:∀ p∈X.pn++pins,s.heap.get? p.1=some p.2/\H p.1=none/\p.1≠X.env.locals/\p.1∉X.fs/\∀ v,p.2.data≠.cell v
 hok:HOk X.prog X.w H s.heap
 len:σ.length=X.N.length
section
variable {X:Cx} {pins:List (Addr×Obj)} {σ:List (Option V)} {H H':Hp} {s:Shared} {h':Heap}
theorem Cx.Ok.nofr(ok:X.Ok){b:Addr}{o:Obj}(e:X.base.get? b=some o):b∉X.fs:=fun hb=>by
 have:=(ok.funs.mem hb).1;rw[e] at this;cases this
theorem zT.bs(I:16#0):∀ b o,X.base.get? b=some o->s.heap.get? b=some o/\H b=none:=fun b o e =>
 ⟨I.base.keep b o (I.ok.bs b o e).1 (I.ok.bs b o e).2 (I.ok.nofr e) (I.ok.noex b o e),I.base.free b o (I.ok.bs b o e).1 (I.ok.bs b o e).2 (I.ok.noex b o e)⟩
theorem zT.bk(I:16#0):∀ b o,X.base.get? b=some o->s.heap.get? b=some o:=fun b o e=>(I.bs b o e).1
theorem zT.mod(I:16#0):Mod X.K X.mg X.base:=I.ok.mod
theorem zT.tabs(I:16#0):TabsOk X.K H:=fun x hx c b e=>by
 obtain⟨t,q⟩:=I.ok.tb x hx c b e;exact⟨t,I.base.tbls b _ q⟩
theorem zT.kIn(I:16#0):X.K.In s.heap:=I.ok.mod.kin.keeps I.bk
theorem zT.nolimit(I:16#0):s.heap.NoLimit:=I.ok.mod.nolimit.keeps I.bk
theorem zT.fr(I:16#0):∃ m,Fr X.base X.env.locals s.heap m :=
 let ⟨m,hn,_⟩:=I.loc
 ⟨m,hn,I.bk,gt I.ok.bsz I.ok.above⟩
theorem zT.lt(I:16#0):X.env.locals<s.heap.objs.size:=let ⟨_,hn,_⟩:=I.loc;hn.lt
theorem zT.sz(I:16#0):X.s₀.heap.objs.size<=s.heap.objs.size:=gt I.ok.above (Nat.le_of_lt I.lt)
theorem zT.nofs(I:16#0){a:Addr}(h:s.heap.objs.size<=a):a∉X.fs:=fun hb=>by
 obtain⟨u0,o,ho,u0⟩:=I.ok.funs.mem hb;exact absurd (fN (fK ho) (gt I.sz h)) (gn _)
theorem zT.cne(I:16#0):∀ x c,X.env.cells.lookup x=some c->c≠X.env.locals:=fun x c e z=>by
 obtain⟨v,o,ho,hd⟩:=I.cell x c e;obtain⟨m,⟨o',es,ep,ho',hd',u0⟩,u0⟩:=I.loc;rw[z,ho'] at ho;cases ho;rw[hd'] at hd;cases hd
theorem zT.funs(I:16#0):s.heap.FunFrames X.base X.outer:=by
 have all:∀(l:List Env),(∀ b∈frs l,b∈X.fs)->X.s₀.heap.FunFrames X.base l->s.heap.FunFrames X.base l:=by
  intro l
  induction l with
  | nil=>intro u0 u0;trivial
  | cons env r ih =>
   intro hs hl;obtain⟨hk,⟨L,o,hf,hn,ho,hd⟩,hr⟩:=hl;have hL:L∈X.fs:=hs L (by unfold frs;rw[i8,hf];exact gg);obtain⟨sl,e⟩:=I.base.slot L o ho (I.ok.frf L hL) hL fun z=>I.ok.exfs L z hL;exact⟨hk,⟨L,_,hf,hn,e,hd⟩,ih (fun b hb=>hs b (by unfold frs;rw[i8,hf];exact g9 _ hb)) hr⟩
 exact all X.outer (fun u0 hb=>hb) I.ok.funs
theorem zT.stack(I:16#0):s.heap.FunFrames X.base X.stack:=by
 rcases I.ok.stk with e | ⟨e,hf⟩
 ·rw[e];exact I.funs
 ·rw[e]
  obtain⟨m,hn,u0⟩:=I.loc;refine .cons (by rw[I.ok.kind];decide) hf hn ?_ I.funs;exact Heap.get?_none_of_le (gt I.ok.bsz I.ok.above)
theorem zT.stkSub(I:16#0):∀ b∈frs X.stack,b∈X.env.locals::X.fs:=fun b hb=>by
 rcases I.ok.stk with e | ⟨e,hf⟩
 ·rw[e] at hb;exact g9 _ hb
 ·rw[e] at hb
  unfold frs at hb;rw[i8,hf] at hb;exact hb
theorem zT.stkFree(I:16#0):∀ b∈frs X.stack,H b=none:=fun b hb=>by
 rcases fS.mp (I.stkSub b hb) with e | hb
 ·rw[e];exact I.free
 ·obtain⟨u0,o,ho,u0⟩:=I.ok.funs.mem hb
  exact I.base.free b o ho (I.ok.frf b hb) fun z=>I.ok.exfs b z hb
theorem zT.step{g':Array GenState}{t':Nat}{d':Drawn}{ch:List Addr}(I:16#0)
  (hch:∀ b∈ch,(b∈X.ex\/X.s₀.heap.objs.size<=b)/\b≠X.env.locals/\(∀ x c,X.env.cells.lookup x=some c->c≠b)/\∀ p∈X.pn++pins,p.1≠b)
  (keep:∀ b o,b≠X.env.locals->b∉X.fs->b∉ch->s.heap.get? b=some o->H b=none->h'.get? b=some o)
  (slot:∀ b o,b≠X.env.locals->b∈X.fs->b∉ch->s.heap.get? b=some o->H b=none->∃ sl,h'.get? b=some { o with slots:=sl }) (free:∀ b o,b∉ch->s.heap.get? b=some o->H b=none->H' b=none)
  (there:∀ b o,b∉ch->s.heap.get? b=some o->∃ o',h'.get? b=some o')
  (tups:∀ b xs,H b=some (.tup xs)->H' b=some (.tup xs)) (frzs:∀ b o u,H b=some (.frz o u)->H' b=some (.frz o u)) (tbls:∀ b ps,H b=some (.tbl ps)->H' b=some (.tbl ps))
  (ns:∀ m,s.heap.Ns X.env.locals m->h'.Ns X.env.locals m) (hok:HOk X.prog X.w H' h') (hg:AllBare g') :
  zT X pins σ H' { s with heap:=h',gens:=g',drawn:=d',toks:=t' }:=by
 have neL:∀ b o,X.s₀.heap.get? b=some o->b≠X.env.locals:=fun b o e=>gc (fN (fK e) I.ok.above);have neC:∀ b o,X.s₀.heap.get? b=some o->b∉X.ex->b∉ch:=fun b o e hx hb=>by
  rcases(hch b hb).1 with z | z
  ·exact hx z
  ·exact absurd (fN (fK e) z) (gn _)
 have cellK:∀ x c,X.env.cells.lookup x=some c->∀ v,s.heap.IsCell c v->h'.IsCell c v:=fun x c e v ⟨o,ho,hd⟩=>by
  have nch:c∉ch:=fun z=>(hch c z).2.2.1 x c e rfl;by_cases hc:c∈X.fs
  ·obtain⟨sl,q⟩:=slot c o (I.cne x c e) hc nch ho (I.freeC x c e)
   exact⟨_,q,hd⟩
  ·exact⟨o,keep c o (I.cne x c e) hc nch ho (I.freeC x c e),hd⟩
 refine⟨I.ok,I.os,hg,⟨fun b o e n hb hx=>?_,fun b o e n hb hx=>?_,fun b o e n hx=>?_,fun b o e hx=>?_,fun b xs e=>tups b xs (I.base.tups b xs e),fun b o xs e=>frzs b o xs (I.base.frzs b o xs e),fun b ps e=>?_⟩,?_,fun x c e=>?_,?_,fun x c e=>?_,fun p hp=>?_,hok,I.len⟩
 ·exact keep b o (neL b o e) hb (neC b o e hx) (I.base.keep b o e n hb hx) (I.base.free b o e n hx)
 ·obtain⟨sl,e1⟩:=I.base.slot b o e n hb hx
  obtain⟨sl',e2⟩:=slot b _ (neL b o e) hb (neC b o e hx) e1 (I.base.free b o e n hx);exact⟨sl',e2⟩
 ·obtain⟨o',e1⟩:=I.base.there b o e hx
  exact free b o' (neC b o e hx) e1 (I.base.free b o e n hx)
 ·obtain⟨o',e1⟩:=I.base.there b o e hx
  exact there b o' (neC b o e hx) e1
 ·exact tbls b _ (I.base.tbls b ps e)
 ·obtain⟨m,hn,hl⟩:=I.loc
  refine⟨m,ns m hn,fun i x v e1 e2 e3=>?_⟩;obtain⟨u,r,l⟩:=hl i x v e1 e2 e3;refine⟨u,r,?_⟩;rcases l with l | ⟨k,c,e,z⟩
  ·exact .inl l
  ·exact .inr ⟨k,c,e,cellK x c e _ z⟩
 ·obtain⟨v,z⟩:=I.cell x c e
  exact⟨v,cellK x c e v z⟩
 ·obtain⟨m,⟨o,u0,u0,ho,u0⟩,u0⟩:=I.loc
  exact free _ o (fun z=>(hch _ z).2.1 rfl) ho I.free
 ·obtain⟨v,o,ho,hd⟩:=I.cell x c e
  exact free c o (fun z=>(hch c z).2.2.1 x c e rfl) ho (I.freeC x c e)
 ·obtain⟨e,n,ne,nf,d⟩:=I.pin p hp
  have nch:p.1∉ch:=fun z=>(hch p.1 z).2.2.2 p hp rfl;exact⟨keep p.1 p.2 ne nf nch e n,free p.1 p.2 nch e n,ne,nf,d⟩
theorem zT.un{t':Nat}(I:16#0)(u:Un X.fs [] H H' s.heap h')(hok:HOk X.prog X.w H' h'):zT X pins σ H' { s with heap:=h',toks:=t' }:=by
 obtain⟨m,⟨o,es,ep,ho,r⟩,u0⟩:=id I.loc;obtain⟨sl,hL⟩:=u.any ho I.free 27#0;exact I.step (g':=s.gens) (d':=s.drawn) (ch:=[]) (fun u0 z=>nomatch z) (fun b o u0 hb u0 e n=>u.keep b o e n hb 27#0) (fun b o u0 hb u0 e n=>u.slot b o e n hb 27#0) (fun b o u0 e n=>u.free b o e n 27#0) (fun b o u0 e=>u.there b o e 27#0) u.tups u.frzs u.tbls (fun m' hm=>by
  obtain⟨o',es',ep',ho',r'⟩:=hm;rw[ho] at ho';cases ho';exact⟨_,es',ep',hL,r'⟩) hok I.bare
theorem zT.call{g':Array GenState}{t':Nat}{d':Drawn}{ch:List Addr}(I:16#0)(u:Un (frs X.stack) ch H H' s.heap h')(hok:HOk X.prog X.w H' h')(hg:AllBare g')
  (hch:∀ b∈ch,(b∈X.ex\/X.s₀.heap.objs.size<=b)/\b≠X.env.locals/\(∀ x c,X.env.cells.lookup x=some c->c≠b)/\∀ p∈X.pn++pins,p.1≠b) :
  zT X pins σ H' { s with heap:=h',gens:=g',drawn:=d',toks:=t' }:=by
 obtain⟨m,⟨o,es,ep,ho,r⟩,u0⟩:=id I.loc;obtain⟨sl,hL⟩:=u.any ho I.free fun z=>(hch _ z).2.1 rfl;exact I.step (ch:=ch) hch (fun b o hL hb hc e n=>u.keep b o e n (fun z=>(fS.mp (I.stkSub b z)).elim hL hb) hc) (fun b o u0 u0 hc e n=>u.any e n hc) (fun b o hc e n=>u.free b o e n hc) (fun b o hc e=>u.there b o e hc) u.tups u.frzs u.tbls (fun m' hm=>by
  obtain⟨o',es',ep',ho',r'⟩:=hm;rw[ho] at ho';cases ho';exact⟨_,es',ep',hL,r'⟩) hok hg
theorem zT.turned{t':Nat}{it:Addr}(I:16#0)(k:∀ b o,b≠it->s.heap.get? b=some o->h'.get? b=some o)(hn:H it=none)(hL:it≠X.env.locals)
  (h1:it∈X.ex\/X.s₀.heap.objs.size<=it) (h2:∀ x c,X.env.cells.lookup x=some c->c≠it) (h3:∀ p∈X.pn++pins,p.1≠it):zT X pins σ H { s with heap:=h',toks:=t' }:=by
 have nit:∀ b u,H b=some u->b≠it:=fun b u e z=>by rw[z,hn] at e;cases e
 refine I.step (g':=s.gens) (d':=s.drawn) (ch:=[it]) (fun b hb=>?_) (fun b o u0 u0 hc e u0=>k b o (fun z=>hc (by simp[z])) e) (fun b o u0 u0 hc e u0=>⟨o.slots,k b o (fun z=>hc (by simp[z])) e⟩) (fun u0 u0 u0 u0 n=>n)
  (fun b o hc e=>⟨o,k b o (fun z=>hc (by simp[z])) e⟩) (fun u0 u0 e=>e) (fun u0 u0 u0 e=>e) (fun u0 u0 e=>e) (fun m hm=>?_) (fun b u e=>?_) I.bare
 ·have e:b=it:=by simpa using hb
  subst e;exact⟨h1,hL,h2,h3⟩
 ·obtain⟨o,es,ep,ho,r⟩:=hm
  exact⟨o,es,ep,k _ o (Ne.symm hL) ho,r⟩
 ·refine(I.hok b u e).stay (fun c v hc q=>k c v ?_ q) (fun u0 q=>q) (fun u0 u0 q=>q) fun u0 u0 u0 q=>q
  rcases hc with z | z
  ·rw[z];exact nit b u e
  ·exact nit c _ z
theorem zT.tok(I:16#0)(t:Nat):zT X pins σ H { s with toks:=t }:=I.un (h':=s.heap) (t':=t) Un.refl I.hok
theorem zT.kept{t':Nat}(I:16#0)(k:∀ b u,s.heap.get? b=some u->h'.get? b=some u):zT X pins σ H { s with heap:=h',toks:=t' }:=I.un (Un.kept k) (I.hok.kept k)
theorem zT.laid{a:Addr}{o:HO}{t':Nat}(I:16#0)(k:∀ b u,s.heap.get? b=some u->h'.get? b=some u)(hp:s.heap.objs.size<=a)(new:yy X.prog X.w (yx H a o) h' a o) :
  zT X pins σ (yx H a o) { s with heap:=h',toks:=t' }:=I.un (Un.laid k hp (I.hok.fresh hp)) (I.hok.laid k hp new)
theorem zT.write{x e:Addr}{o:HO}{t':Nat}(I:16#0)(mu:Mut (H x))(he:e=x\/H e=some (.own x))(k:∀ b u,b≠e->s.heap.get? b=some u->h'.get? b=some u)(heo:∃ u,h'.get? e=some u)
  (new:yy X.prog X.w (yx H x o) h' x o):zT X pins σ (yx H x o) { s with heap:=h',toks:=t' }:=I.un (Un.write mu he k heo) (I.hok.write mu he k heo new)
theorem zT.weak{σ':List (Option V)}(I:16#0)(hl:σ'.length=σ.length)(w:∀(i:Nat) v,σ'[i]?=some (some v)->σ[i]?=some (some v)):zT X pins σ' H s :=
 ⟨I.ok,I.os,I.bare,I.base,let ⟨m,hn,hl'⟩:=I.loc;⟨m,hn,fun i x v e1 e2 e3=>hl' i x v e1 (w i v e2) e3⟩,I.cell,I.free,I.freeC,I.pin,I.hok,hl.trans I.len⟩
theorem zT.pins_of{pins':20#0}(I:16#0)(h:∀ p∈pins',s.heap.get? p.1=some p.2/\H p.1=none/\p.1≠X.env.locals/\p.1∉X.fs/\∀ v,p.2.data≠.cell v):zT X pins' σ H s :=
 ⟨I.ok,I.os,I.bare,I.base,I.loc,I.cell,I.free,I.freeC,fun p hp=>(iy.mp hp).elim (fun z=>I.pin p (ip _ z)) (h p),I.hok,I.len⟩
theorem zFO{N:List Str}(hN:N.Nodup){i j:Nat}{x:Str}(a:N[i]?=some x)(b:N[j]?=some x):i=j:=by
 obtain⟨h1,e1⟩:=fI.mp a;obtain⟨h2,e2⟩:=fI.mp b;exact(List.getElem_inj hN).mp (e1.trans e2.symm)
theorem zGc{M:Model}{A:Around}{E:10#0}{i:Nat}{x:Str}{v:V}{u:Value}{Q:Unit->Shared->Prop}(I:16#0)(hN:X.N.Nodup)(hi:X.N[i]?=some x)(hx:Loc X.env.scope x)(r:RelV v u)
  (h:∀ s',zT X pins (σ.set i (some v)) H s'->(∃ a,gW a s.heap s'.heap/\(a=X.env.locals\/X.env.cells.lookup x=some a))->Q () s') (hf:autoParam (X.fn x=true\/X.env.scope.names.lookup x=some .local) Zq1._auto_1):wpAny M A (storeName X.env x u) Q E s:=by
 obtain⟨m,hn,hl⟩:=id I.loc;have hcls:(X.env.scope.kind==.class||(X.env.scope.kind==.module&&X.env.locals != X.env.globals))=false:=by rw[I.ok.kind];rfl
 have hiσ:i<σ.length:=by rw[I.len];exact(fI.mp hi).1
 have cne:=I.cne;have tracked:∀ {a:Addr} {h':Heap},(∃ o,s.heap.get? a=some o/\H a=none)->gW a s.heap h'->HOk X.prog X.w H h':=fun {a h'} ha hs b ob e=>by
  obtain⟨u0,u0,hfree⟩:=ha;refine(I.hok b ob e).stay (fun c w' hc q=>(hs.2 c ?_).trans q) (fun u0 q=>q) (fun u0 u0 q=>q) fun u0 u0 u0 q=>q;rintro rfl;rcases hc with rfl | hc
  ·rw[hfree] at e;cases e
  ·rw[hfree] at hc;cases hc
 rcases hx with hk | hk
 ·refine wpAny_storeName_local hk hn (fun h' hn' hs=>?_) hcls
  obtain⟨oL,u0,u0,hoL,u0⟩:=id hn;refine h _ ⟨I.ok,I.os,I.bare,⟨fun b o e n hb hx=>?_,fun b o e n hb hx=>?_,I.base.free,fun b o e hx=>?_,I.base.tups,I.base.frzs,I.base.tbls⟩,⟨_,hn',fun j y v' e1 e2 e3=>?_⟩,fun y c e=>?_,I.free,I.freeC,fun p hp=>?_,tracked ⟨oL,hoL,I.free⟩ hs,by simpa using I.len⟩ ⟨_,hs,.inl rfl⟩
  ·exact(hs.2 b (gc (fN (fK e) I.ok.above))).trans (I.base.keep b o e n hb hx)
  ·obtain⟨sl,e1⟩:=I.base.slot b o e n hb hx
   exact⟨sl,(hs.2 b (gc (fN (fK e) I.ok.above))).trans e1⟩
  ·obtain⟨o',e1⟩:=I.base.there b o e hx
   exact⟨o',(hs.2 b (gc (fN (fK e) I.ok.above))).trans e1⟩
  ·by_cases hj:j=i
   ·subst hj
    rw[hi] at e1;cases e1;rw[gu hiσ] at e2;cases e2;exact⟨u,r,.inl ⟨hk,by simp⟩⟩
   ·rw[gF (Ne.symm hj)] at e2
    obtain⟨u',r',q⟩:=hl j y v' e1 e2 e3;refine⟨u',r',?_⟩;rcases q with ⟨k,e⟩ | ⟨k,c,e,z⟩
    ·refine .inl ⟨k,?_⟩
     have:y≠x:=fun e=>hj (zFO hN e1 (e▸hi));simp[this,e]
    ·exact .inr ⟨k,c,e,z.sameBut hs (cne y c e)⟩
  ·obtain⟨w',z⟩:=I.cell y c e
   exact⟨w',z.sameBut hs (cne y c e)⟩
  ·obtain⟨e,n,ne,nf,d⟩:=I.pin p hp
   exact⟨(hs.2 p.1 ne).trans e,n,ne,nf,d⟩
 ·have hfn:X.fn x=true:=by
   rcases hf with z | z
   ·exact z
   ·rw[z] at hk;cases hk
  obtain⟨c,hc⟩:=I.ok.has x (.inl hk);obtain⟨w',z⟩:=I.cell x c hc;refine wpAny_storeName_cell I.ok.kind hk hc z (fun h' hc' hs=>?_);obtain⟨oc,hoc,hocd⟩:=id z;refine h { s with heap:=h' } ⟨I.ok,I.os,I.bare,⟨fun b o e n hb hx=>?_,fun b o e n hb hx=>?_,I.base.free,fun b o e hx=>?_,I.base.tups,I.base.frzs,I.base.tbls⟩,⟨m,hn.sameBut hs (Ne.symm (cne x c hc)),fun j y v' e1 e2 e3=>?_⟩,fun y c' e=>?_,I.free,I.freeC,fun p hp=>?_,tracked ⟨oc,hoc,I.freeC x c hc⟩ hs,by simpa using I.len⟩ ⟨c,hs,.inr hc⟩
  ·exact(hs.2 b (gc (fN (fK e) (I.ok.cab x c hfn hc)))).trans (I.base.keep b o e n hb hx)
  ·obtain⟨sl,e1⟩:=I.base.slot b o e n hb hx
   exact⟨sl,(hs.2 b (gc (fN (fK e) (I.ok.cab x c hfn hc)))).trans e1⟩
  ·obtain⟨o',e1⟩:=I.base.there b o e hx
   exact⟨o',(hs.2 b (gc (fN (fK e) (I.ok.cab x c hfn hc)))).trans e1⟩
  ·by_cases hj:j=i
   ·subst hj
    rw[hi] at e1;cases e1;rw[gu hiσ] at e2;cases e2;exact⟨u,r,.inr ⟨.inl hk,c,hc,hc'⟩⟩
   ·rw[gF (Ne.symm hj)] at e2
    obtain⟨u',r',q⟩:=hl j y v' e1 e2 e3;refine⟨u',r',?_⟩;rcases q with q | ⟨k,c',e,z'⟩
    ·exact .inl q
    ·refine .inr ⟨k,c',e,z'.sameBut hs ?_⟩
     rintro rfl;exact hj (zFO hN e1 (I.ok.inj _ _ _ e hc▸hi))
  ·by_cases hcc:c'=c
   ·subst hcc;exact⟨_,hc'⟩
   ·obtain⟨w2,z2⟩:=I.cell y c' e
    exact⟨w2,z2.sameBut hs hcc⟩
  ·obtain⟨e,n,ne,nf,d⟩:=I.pin p hp
   refine⟨(hs.2 p.1 ?_).trans e,n,ne,nf,d⟩;intro q;rw[q,hoc] at e;have q':oc=p.2:=Option.some.inj e;exact d w' (by rw[<-q'];exact hocd)
theorem zCk{M:Model}{A:Around}{E:10#0}{i:Nat}{x:Str}{v:V}{u:Value}{Q:Unit->Shared->Prop}(I:16#0)(hN:X.N.Nodup)(hi:X.N[i]?=some x)(hx:Loc X.env.scope x)(r:RelV v u)
  (h:∀ s',zT X pins (σ.set i (some v)) H s'->Q () s') (hf:autoParam (X.fn x=true\/X.env.scope.names.lookup x=some .local) Zq1._auto_1):wpAny M A (storeName X.env x u) Q E s :=
 zGc I hN hi hx r (fun s' I' u0=>h s' I') hf
theorem zT.call'{s':Shared}{ch:List Addr}(I:16#0)(ho:s'.os=s.os)(u:Un (frs X.stack) ch H H' s.heap s'.heap)(hok:HOk X.prog X.w H' s'.heap)(hg:AllBare s'.gens)
  (hch:∀ b∈ch,(b∈X.ex\/X.s₀.heap.objs.size<=b)/\b≠X.env.locals/\(∀ x c,X.env.cells.lookup x=some c->c≠b)/\∀ p∈X.pn++pins,p.1≠b):zT X pins σ H' s':=by
 obtain⟨h',g',d',t',o'⟩:=s';have e:o'=s.os:=ho;subst e;exact I.call (g':=g') (t':=t') (d':=d') u hok hg hch
end
abbrev XK:=Value->Option Addr->Hp->Prop
noncomputable abbrev St:=List (Option V)
abbrev VK:=V->Hp->Prop
abbrev TE:=St->Hp->VK->Prop
abbrev TT:=St->Hp->(Bool->Hp->Prop)->Prop
abbrev TA:=St->Hp->(List V->Hp->Prop)->Prop
structure Ends where
 nx:St->Hp->Prop
 rt:VK
 bk:St->Hp->Prop:=fun u0 u0=>False
 ct:St->Hp->Prop:=fun u0 u0=>False
abbrev TS:=Ends->St->Hp->Prop
def EP(X:Cx)(pins:20#0)(σ:St)(Q:VK)(u:Value)(s':Shared):Prop:=∃ v H',zT X pins σ H' s'/\RelV v u/\Q v H'
def TP(X:Cx)(pins:20#0)(σ:St)(Q:Bool->Hp->Prop)(b:Bool)(s':Shared):Prop:=∃ H',zT X pins σ H' s'/\Q b H'
def AP(X:Cx)(pins:20#0)(σ:St)(Q:List V->Hp->Prop)(us:List Value)(s':Shared):Prop:=∃ vs H',zT X pins σ H' s'/\zy vs us/\Q vs H'
def SP(X:Cx)(pins:20#0)(D:Ends)(f:Flow)(s':Shared):Prop :=
 match f with
 | .next=>∃ σ' H',zT X pins σ' H' s'/\D.nx σ' H'
 | .brk=>∃ σ' H',zT X pins σ' H' s'/\D.bk σ' H'
 | .cont=>∃ σ' H',zT X pins σ' H' s'/\D.ct σ' H'
 | .ret u=>∃ v σ' H',zT X pins σ' H' s'/\RelV v u/\D.rt v H'
def PE(X:Cx)(e:Expr)(t:TE):Prop :=
 ∀(pins:20#0) (s:Shared) (σ:St) (H:Hp) (Q:VK),zT X pins σ H s->t σ H Q->wpAny 13#0 X.A (eval e X.env) (EP X pins σ Q) X.xe s
def PT(X:Cx)(e:Expr)(t:TT):Prop :=
 ∀(pins:20#0) (s:Shared) (σ:St) (H:Hp) (Q:Bool->Hp->Prop),zT X pins σ H s->t σ H Q->wpAny 13#0 X.A (isTrue e X.env (eval e X.env)) (TP X pins σ Q) X.xe s
def PW(X:Cx)(e:Expr)(t:TT):Prop :=
 ∀(whole:Sem Value) (pins:20#0) (s:Shared) (σ:St) (H:Hp) (Q:Bool->Hp->Prop),zT X pins σ H s->t σ H Q->wpAny 13#0 X.A (isTrue e X.env whole) (TP X pins σ Q) X.xe s
theorem PW.pt{X:Cx}{e:Expr}{t:TT}(h:PW X e t):PT X e t:=h _
def PA(X:Cx)(es:List Expr)(t:TA):Prop :=
 ∀(pos:Pos) (pins:20#0) (s:Shared) (σ:St) (H:Hp) (Q:List V->Hp->Prop),zT X pins σ H s->t σ H Q->wpAny 13#0 X.A (spliced (backTo pos (starEach es X.env))) (AP X pins σ Q) X.xe s
def PS(X:Cx)(st:Stmt)(t:TS):Prop :=
 ∀(pins:20#0) (s:Shared) (σ:St) (H:Hp) (D:Ends),zT X pins σ H s->t D σ H->wpAny 13#0 X.A (exec st X.env) (SP X pins D) X.xe s
def PSs(X:Cx)(st:List Stmt)(t:TS):Prop :=
 ∀(pins:20#0) (s:Shared) (σ:St) (H:Hp) (D:Ends),zT X pins σ H s->t D σ H->wpAny 13#0 X.A (execs st X.env) (SP X pins D) X.xe s
theorem yV{α:Type}{t:Sem α}{Q Q':α->Shared->Prop}{M:Model}{A:Around}{E:10#0}{s:Shared}(h:wpAny M A t Q E s)(hQ:∀ a s,Q a s->Q' a s):wpAny M A t Q' E s:=fV h hQ fun u0 u0 x=>x
section
variable {X:Cx}
def zS4(i:Nat):TE:=fun σ H Q=>∃ v,σ[i]?=some (some v)/\Q v H
def tC(v:V):TE:=fun u0 H Q=>Q v H
theorem zHC{i:Nat}{x:Str}{pos:Pos}(hN:X.N[i]?=some x)(hv:Vis X.env.scope x)(hd:4#0)(hcd:autoParam ((x==("__classdict__":Str))=false) Zq2._auto_1):PE X (.Name x pos) (zS4 i):=by
 intro pins s σ H Q I h;obtain⟨v,e,h⟩:=h;obtain⟨m,hn,hl⟩:=I.loc;obtain⟨u,r,l⟩:=hl i x v hN e hv;have fin:EP X pins σ Q u s:=⟨v,H,I,r,h⟩
 rcases l with ⟨hk,hm⟩ | ⟨hk,c,hc,hcell⟩
 ·exact wpAny_Name (wpAny_loadName_local I.ok.kind hk hn hm fin) hd
 ·rcases hk with hk | hk
  ·exact wpAny_Name (wpAny_loadName_cell I.ok.kind hk hc hcell fin) hd
  ·exact wpAny_Name (wpAny_loadName_free I.ok.kind hk hc hcell fin hcd) hd
theorem zRK{i j pos}:PE X (.Constant (.int i) j pos) (tC (.int i)):=fun u0 u0 u0 H u0 I h=>wpAny_Constant_int ⟨.int i,H,I.tok _,⟨_,rfl⟩,h⟩
theorem zS5{b j pos}:PE X (.Constant (.bool b) j pos) (tC (.bl b)):=fun u0 u0 u0 H u0 I h=>Constant_bool ⟨.bl b,H,I,rfl,h⟩
theorem zMa{j pos}:PE X (.Constant .none j pos) (tC .non):=fun u0 u0 u0 H u0 I h=>Constant_none ⟨.non,H,I,rfl,h⟩
theorem zJT{x j pos}:PE X (.Constant (.str x) j pos) (tC (.str x)):=fun u0 u0 u0 H u0 I h=>Calls.Constant_str ⟨.str x,H,I.tok _,⟨_,rfl⟩,h⟩
def Gl(X:Cx)(x:Str):Prop:=X.env.kindOf x=some .globalImplicit
theorem zBk{E:10#0}{pins:20#0}{s:Shared}{σ:St}{H:Hp}{x:Str}{u:Value}{pos:Pos}{Q:10#0}(I:16#0)(hg:Gl X x)(hm:X.mg x=some u)(h:Q u s)
  (hd:4#0):wpAny 13#0 X.A (eval (.Name x pos) X.env) Q E s :=
 Calls.Name_function_global I.ok.kind hg (Calls.loadGlobal_global (by rw[I.ok.glob];exact I.mod.glob.keeps I.bk) hm h) hd
theorem zCJ{E:10#0}{pins:20#0}{s:Shared}{σ:St}{H:Hp}{x:Str}{u:Value}{pos:Pos}{Q:10#0}(I:16#0)(hg:Gl X x)(hm:X.mg x=none)(hv:bootBuiltins x=some u)(h:Q u s)
  (hn:autoParam (x≠"__name__") Zq2._auto_1) (hd:4#0):wpAny 13#0 X.A (eval (.Name x pos) X.env) Q E s:=by
 obtain⟨mb,h1,h2⟩:=I.mod.blt;exact Calls.Name_function_global I.ok.kind hg (Calls.loadGlobal_builtin (by rw[I.ok.glob];exact I.mod.glob.keeps I.bk) hm (by rw[I.ok.blt];exact h1.keeps I.bk) ((h2 x hn).trans hv) h) hd
theorem zC2{x:Str}{v:V}{u:Value}{pos:Pos}(hg:Gl X x)(hm:X.mg x=some u)(r:RelV v u)(hd:4#0):PE X (.Name x pos) (tC v) :=
 fun u0 u0 u0 H u0 I h=>zBk I hg hm ⟨v,H,I,r,h⟩ hd
theorem zKZ{x:Str}{v:V}{u:Value}{pos:Pos}(hg:Gl X x)(hm:X.mg x=none)(hv:bootBuiltins x=some u)(r:RelV v u)(hn:autoParam (x≠"__name__") Zq2._auto_1)(hd:4#0):PE X (.Name x pos) (tC v) :=
 fun u0 u0 u0 H u0 I h=>zCJ I hg hm hv ⟨v,H,I,r,h⟩ hn hd
variable {a b:Expr} {ta tb:TE} {pos:Pos}
def PC(X:Cx)(op:CmpOp)(a b:Expr)(t:TE):Prop :=
 ∀(pins:20#0) (s:Shared) (σ:St) (H:Hp) (Q:VK),zT X pins σ H s->t σ H Q ->
  wpAny 13#0 X.A (eval a X.env) (fun v s₁=>wpAny 13#0 X.A (eval b X.env) (fun u s₂=>wpAny 13#0 X.A (compareOp op v u) (EP X pins σ Q) X.xe s₂) X.xe s₁) X.xe s
theorem zMb(b:Expr){op:CmpOp}(h:op≠.In)(h2:op≠.NotIn):behindInMarks op b=false:=by
 have e1:(op==CmpOp.In)=false:=by cases op<;>first | rfl | exact absurd rfl h
 have e2:(op==CmpOp.NotIn)=false:=by cases op<;>first | rfl | exact absurd rfl h2
 cases b<;>simp[behindInMarks,e1,e2]
def tB(t:TE):TT:=fun σ H Q=>t σ H fun x H1=>∃ c,x=.bl c/\Q c H1
theorem zRL{op:CmpOp}{t:TE}(h:PC X op a b t)(h1:autoParam (behindInMarks op b=false) Zq3._auto_1):PT X (.Compare a [op] [b] pos) (tB t):=by
 intro pins s σ H Q I hw;refine wpAny_isTrue_Compare1 (yV (h pins s σ H _ I hw) fun v s1 h1=>yV h1 fun u s2 h2=>yV h2 fun c s3 ⟨x,H1,I1,r1,q1⟩=>?_) h1;obtain⟨d,rfl,q⟩:=q1;cases r1;exact gD ⟨H1,I1,q⟩
theorem zRM{e:Expr}{t:TE}(h:PE X e t)(he:autoParam (∀ whole,isTrue e X.env whole=(do let v <-whole;standAt e.pos;holding [v] (truthy v))) Zq4._auto_1):PT X e (tB t):=by
 intro pins s σ H Q I hw;refine isTrue_plain (yV (h pins s σ H _ I hw) fun v s1 ⟨x,H1,I1,r1,q1⟩=>?_) (he _);obtain⟨d,rfl,q⟩:=q1;cases r1;exact gD ⟨H1,I1,q⟩
variable {tA tB':TT} {rest:List Expr}
def zUZ(t u:TT):TT:=fun σ H Q=>t σ H fun c H1=>if c=true then u σ H1 Q else Q false H1
def tOr(t u:TT):TT:=fun σ H Q=>t σ H fun c H1=>if c=true then Q true H1 else u σ H1 Q
def zUa(t:TT):TT:=fun σ H Q=>t σ H fun c H1=>Q (!c) H1
theorem zOu(ha:PT X a tA):PW X (.BoolOp .And [a] pos) tA:=by
 intro wh pins s σ H Q I h;refine isTrue_and (yV (ha pins s σ H Q I h) fun c s1 e=>?_);cases c with
 | true=>exact isTrue_and_nil e
 | false=>exact e
theorem zRN(ha:PT X a tA):PW X (.BoolOp .Or [a] pos) tA:=by
 intro wh pins s σ H Q I h;refine isTrue_or (yV (ha pins s σ H Q I h) fun c s1 e=>?_);cases c with
 | false=>exact isTrue_or_nil e
 | true=>exact e
theorem zRO(ha:PT X a tA)(hb:PW X (.BoolOp .And (b::rest) pos) tB'):PW X (.BoolOp .And (a::b::rest) pos) (zUZ tA tB'):=by
 intro wh pins s σ H Q I h;refine isTrue_and (yV (ha pins s σ H _ I h) fun c s1 u9=>?_);obtain⟨H1,I1,q1⟩:=u9;cases c with
 | true=>exact hb wh pins s1 σ H1 Q I1 q1
 | false=>exact⟨H1,I1,q1⟩
theorem zS6(ha:PT X a tA)(hb:PW X (.BoolOp .Or (b::rest) pos) tB'):PW X (.BoolOp .Or (a::b::rest) pos) (tOr tA tB'):=by
 intro wh pins s σ H Q I h;refine isTrue_or (yV (ha pins s σ H _ I h) fun c s1 u9=>?_);obtain⟨H1,I1,q1⟩:=u9;cases c with
 | true=>exact⟨H1,I1,q1⟩
 | false=>exact hb wh pins s1 σ H1 Q I1 q1
theorem zRP(ha:PT X a tA):PT X (.UnaryOp .Not a pos) (zUa tA):=by
 intro pins s σ H Q I h;exact isTrue_not (ha pins s σ H (fun c H1=>Q (!c) H1) I h)
def zS7(ta tb:TE):TE:=fun σ H Q=>ta σ H fun x H1=>∃ c,x=.bl c/\if c=true then tb σ H1 Q else Q (.bl false) H1
def zS8(ta:TE):TE:=fun σ H Q=>ta σ H fun x H1=>∃ c,x=.bl c/\Q (.bl (!c)) H1
theorem zRQ{op}{t:TE}(h:PE X a t):PE X (.BoolOp op [a] pos) t:=fun pins s σ H Q I hw=>BoolOp_one (h pins s σ H Q I hw)
theorem zRR(ha:PE X a ta)(hb:PE X (.BoolOp .And (b::rest) pos) tb):PE X (.BoolOp .And (a::b::rest) pos) (zS7 ta tb):=by
 intro pins s σ H Q I h;refine BoolOp_and (yV (ha pins s σ H _ I h) fun v s1 u9=>?_);obtain⟨x,H1,I1,r1,q1⟩:=u9;obtain⟨c,rfl,q1⟩:=q1;cases r1;refine gD ?_;cases c with
 | true=>exact hb pins s1 σ H1 Q I1 q1
 | false=>exact⟨.bl false,H1,I1,rfl,q1⟩
theorem zRS(ha:PE X a ta):PE X (.UnaryOp .Not a pos) (zS8 ta):=by
 intro pins s σ H Q I h;refine UnaryOp_ (yV (ha pins s σ H _ I h) fun v s1 u9=>?_);obtain⟨x,H1,I1,r1,q1⟩:=u9;obtain⟨c,rfl,q1⟩:=q1;cases r1;exact not_of (gD ⟨.bl (!c),H1,I1,rfl,q1⟩)
def tIf(t:TT)(ta tb:TE):TE:=fun σ H Q=>t σ H fun c H1=>if c=true then ta σ H1 Q else tb σ H1 Q
theorem zMc{c:Expr}(hc:PT X c tA)(ha:PE X a ta)(hb:PE X b tb):PE X (.IfExp c a b pos) (tIf tA ta tb):=by
 intro pins s σ H Q I h;refine wpAny_IfExp (yV (hc pins s σ H _ I h) fun d s1 u9=>?_);obtain⟨H1,I1,q1⟩:=u9;cases d with
 | true=>exact ha pins s1 σ H1 Q I1 q1
 | false=>exact hb pins s1 σ H1 Q I1 q1
end
def SqL(K:14#0)(H:Hp)(a:Addr)(xs:List V):Prop :=
 Rd H a (.lst xs) \/
  ∃(o:Obj) (its:Array Value) (n:Nat),K.lookup a=some o/\o.cls=.type "list"/\o.dict=none/\o.data=.seq its n/\its.size<=sizeLine/\zy xs its.toList
def SqT(K:14#0)(H:Hp)(a:Addr)(xs:List V):Prop :=
 Rd H a (.tup xs) \/
  ∃(o:Obj) (its:Array Value) (n:Nat),K.lookup a=some o/\o.cls=.type "tuple"/\o.data=.seq its n/\its.size<=sizeLine/\zy xs its.toList/\o.dict=none
noncomputable def zUb:Value->Option V
 | .none=>some .non
 | .bool b=>some (.bl b)
 | .int i _=>some (.int i)
 | .str x _=>some (.str x)
 | .bytes b _=>some (.byt b)
 | .float b _=>some (.flt b)
 | .ref a=>some (.ref a)
 | .type n=>some (.ty n)
 | _=>none
theorem RelV.abs{x:V}{u:Value}(r:RelV x u):zUb u=some x:=by
 cases x with
 | non=>cases r;rfl
 | bl _=>cases r;rfl
 | int _=>obtain⟨t,rfl⟩:=r;rfl
 | str _=>obtain⟨t,rfl⟩:=r;rfl
 | byt _=>obtain⟨t,rfl⟩:=r;rfl
 | flt _=>obtain⟨t,rfl⟩:=r;rfl
 | ref _=>cases r;rfl
 | ty _=>cases r;rfl
theorem RelV.inj{x y:V}{u:Value}(r:RelV x u)(q:RelV y u):x=y:=Option.some.inj (r.abs.symm.trans q.abs)
theorem zy.inj:∀ {xs ys:List V} {us:List Value},zy xs us->zy ys us->xs=ys
 | _,_,_,.nil,.nil=>rfl
 | _,_,_,.cons r t,.cons r' t'=>by rw[r.inj r',zy.inj t t']
section
variable {X:Cx} {pins:List (Addr×Obj)} {σ:St} {H:Hp} {s:Shared} {a:Addr} {xs ys:List V}
theorem SqL.of{K:14#0}(h:H a=some (.lst xs)):SqL K H a xs:=.inl (.inl h)
theorem SqT.of{K:14#0}(h:H a=some (.tup xs)):SqT K H a xs:=.inl (.inl h)
theorem zT.list(I:16#0)(h:SqL X.K H a xs):∃ its:List Value,zy xs its/\PlainL s.heap a its.toArray/\xs.length<=sizeLine:=by
 rcases h with h | ⟨o,its,n,hk,hc,hd,hs,hz,r⟩
 ·obtain⟨z,its,n,r,e⟩:=h.ok I.hok
  exact⟨its,r,⟨_,n,e,rfl,rfl,rfl⟩,z⟩
 ·refine⟨its.toList,r,⟨o,n,I.kIn a o hk,hc,hd,by simpa using hs⟩,?_⟩
  have e:=r.length;simp only[gC] at e;omega
theorem zT.tuple(I:16#0)(h:SqT X.K H a xs):∃ its:List Value,zy xs its/\IsTup s.heap a its.toArray/\xs.length<=sizeLine:=by
 rcases h with h | ⟨o,its,n,hk,hc,hs,hz,r,u0⟩
 ·obtain⟨z,its,r,p⟩:=h.ok I.hok
  exact⟨its,r,p.isTup,z⟩
 ·refine⟨its.toList,r,⟨o,I.kIn a o hk,hc,n,by simpa using hs⟩,?_⟩
  have e:=r.length;simp only[gC] at e;omega
theorem zT.noDict(I:16#0)(h:SqT X.K H a xs):s.TypeIs (.ref a) "tuple"/\∃ ob,s.heap.get? a=some ob/\ob.dict=none:=by
 rcases h with h | ⟨o,its,n,hk,hc,hs,hz,r,hd⟩
 ·obtain⟨z,its,r,o,h1,h2,h3,h4⟩:=h.ok I.hok
  exact⟨⟨o,h1,h2⟩,o,h1,h4⟩
 ·exact⟨⟨o,I.kIn a o hk,hc⟩,o,I.kIn a o hk,hd⟩
theorem zT.list_inj(I:16#0)(h:SqL X.K H a xs)(h':SqL X.K H a ys):xs=ys:=by
 obtain⟨its,r,⟨o,n,e,u0,u0,d⟩,u0⟩:=I.list h;obtain⟨its',r',⟨o',n',e',u0,u0,d'⟩,u0⟩:=I.list h';rw[e] at e';cases e';rw[d] at d';injection d' with d1 _
 have:its=its':=by simpa using congrArg Array.toList d1
 subst this;exact r.inj r'
theorem zT.tuple_inj(I:16#0)(h:SqT X.K H a xs)(h':SqT X.K H a ys):xs=ys:=by
 obtain⟨its,r,⟨o,e,u0,n,d⟩,u0⟩:=I.tuple h;obtain⟨its',r',⟨o',e',u0,n',d'⟩,u0⟩:=I.tuple h';rw[e] at e';cases e';rw[d] at d';injection d' with d1 _
 have:its=its':=by simpa using congrArg Array.toList d1
 subst this;exact r.inj r'
end
noncomputable abbrev Cx.wish(X:Cx)(E:10#0):Cx:={ X with xe:=E }
noncomputable abbrev Cx.nox(X:Cx):Cx:=X.wish fun u0 u0=>False
theorem Cx.Ok.wish{X:Cx}(ok:X.Ok)(E:10#0):(X.wish E).Ok :=
 ⟨ok.mod,ok.kind,ok.glob,ok.blt,ok.above,ok.inj,ok.has,ok.cab,ok.hd,ok.frames,ok.stk,ok.exf,ok.bs,ok.bsz,ok.noex,ok.exfs,ok.funs,ok.frf,ok.tb⟩
theorem Cx.Ok.unwish{X:Cx}{E:10#0}(ok:(X.wish E).Ok):X.Ok :=
 ⟨ok.mod,ok.kind,ok.glob,ok.blt,ok.above,ok.inj,ok.has,ok.cab,ok.hd,ok.frames,ok.stk,ok.exf,ok.bs,ok.bsz,ok.noex,ok.exfs,ok.funs,ok.frf,ok.tb⟩
section
variable {X:Cx} {pins:List (Addr×Obj)} {σ:St} {H:Hp} {s:Shared} {E:Value->Shared->Prop}
theorem zT.wish(I:16#0)(E:10#0):zT (X.wish E) pins σ H s:=⟨I.ok.wish E,I.os,I.bare,I.base,I.loc,I.cell,I.free,I.freeC,I.pin,I.hok,I.len⟩
theorem zT.unwish(I:zT (X.wish E) pins σ H s):zT X pins σ H s:=⟨I.ok.unwish,I.os,I.bare,I.base,I.loc,I.cell,I.free,I.freeC,I.pin,I.hok,I.len⟩
theorem SP.unwish{D:Ends}{f:Flow}{s':Shared}(h:SP (X.wish E) pins D f s'):SP X pins D f s':=by
 cases f with
 | next=>obtain⟨σ',H',I,q⟩:=h;exact⟨σ',H',I.unwish,q⟩
 | brk=>obtain⟨σ',H',I,q⟩:=h;exact⟨σ',H',I.unwish,q⟩
 | cont=>obtain⟨σ',H',I,q⟩:=h;exact⟨σ',H',I.unwish,q⟩
 | ret u=>obtain⟨v,σ',H',I,r,q⟩:=h;exact⟨v,σ',H',I.unwish,r,q⟩
theorem PSs.nox{st:List Stmt}{t:TS}(h:PSs X.nox st t):PSs X st t:=fun pins s σ H D I hw =>
 fV (h pins s σ H D (I.wish _) hw) (fun u0 u0 q=>q.unwish) fun u0 u0 z=>False.elim z
end
section
variable {X:Cx} {st:Stmt} {rest:List Stmt} {t u:TS} {e:Expr} {te:TE} {pos:Pos}
def zS9:TS:=fun D σ H=>D.nx σ H
def zUc(t u:TS):TS:=fun D σ H=>t { D with nx:=u D } σ H
theorem zOv:PSs X [] zS9:=fun u0 u0 σ H u0 I h=>wpAny_execs_nil ⟨σ,H,I,h⟩
theorem zMd(h1:PS X st t)(h2:PSs X rest u):PSs X (st::rest) (zUc t u):=by
 intro pins s σ H D I h;refine gq (yV (h1 pins s σ H { D with nx:=u D } I h) fun f s1 q=>?_);cases f with
 | next =>
  obtain⟨σ',H',I',q⟩:=q;exact h2 pins s1 σ' H' D I' q
 | ret v=>exact q
 | brk=>exact q
 | cont=>exact q
theorem zOw(h1:PS X st t):PSs X [st] t:=by
 intro pins s σ H D I h;refine gq (yV (h1 pins s σ H D I h) fun f s1 q=>?_);cases f with
 | next=>exact wpAny_execs_nil q
 | ret v=>exact q
 | brk=>exact q
 | cont=>exact q
theorem zT.quiet{pins:20#0}{σ:St}{H:Hp}{s:Shared}(I:16#0):interactive X.env=false:=by simp[interactive,I.ok.kind]
def zTA(te:TE):TS:=fun D σ H=>te σ H fun u0 H1=>D.nx σ H1
theorem zOx(he:PE X e te)(hs:autoParam (swapsWith e none pos.line X.env=pure false) Zq5._auto_1):PS X (.Expr e pos) (zTA te):=by
 intro pins s σ H D I h;exact wpAny_Expr_any (yV (he pins s σ H _ I h) fun v s1 ⟨x,H1,I1,r1,q1⟩=>⟨σ,H1,I1,q1⟩) I.quiet hs
def zUd(te:TE):TS:=fun D σ H=>te σ H D.rt
theorem zRT(he:PE X e te):PS X (.Return (some e) pos) (zUd te):=by
 intro pins s σ H D I h;exact wpAny_Return_some (yV (he pins s σ H _ I h) fun v s1 ⟨x,H1,I1,r1,q1⟩=>⟨x,σ,H1,I1,r1,q1⟩)
def zUe(c:TT)(t u:TS):TS:=fun D σ H=>c σ H fun b H1=>if b=true then t D σ H1 else u D σ H1
theorem zTB{c:Expr}{a b:List Stmt}{tc:TT}(hc:PT X c tc)(ha:PSs X a t)(hb:PSs X b u):PS X (.If c a b pos) (zUe tc t u):=by
 intro pins s σ H D I h;refine wpAny_If (yV (hc pins s σ H _ I h) fun d s1 u9=>?_);obtain⟨H1,I1,q1⟩:=u9;cases d with
 | true=>exact ha pins s1 σ H1 D I1 q1
 | false=>exact hb pins s1 σ H1 D I1 q1
end
abbrev TG:=V->St->Hp->(St->Hp->Prop)->Prop
abbrev TGs:=List V->St->Hp->(St->Hp->Prop)->Prop
def PG(X:Cx)(target:Expr)(t:TG):Prop :=
 ∀(pins:20#0) (s:Shared) (σ:St) (H:Hp) (v:V) (u:Value) (Q:St->Hp->Prop),zT X pins σ H s->RelV v u->t v σ H Q ->
  wpAny 13#0 X.A (assign target X.env u) (fun u0 s'=>∃ σ' H',zT X pins σ' H' s'/\Q σ' H') X.xe s
def PGs(X:Cx)(ts:List Expr)(t:TGs):Prop :=
 ∀(pins:20#0) (s:Shared) (σ:St) (H:Hp) (vs:List V) (us:List Value) (Q:St->Hp->Prop),zT X pins σ H s->zy vs us->t vs σ H Q ->
  wpAny 13#0 X.A (assignInOrder ((assignEach ts X.env).map (·.2)) us) (fun u0 s'=>∃ σ' H',zT X pins σ' H' s'/\Q σ' H') X.xe s
section
variable {X:Cx} {pos:Pos}
def zFP(i:Nat):TG:=fun v σ H Q=>Q (σ.set i (some v)) H
theorem zCK{i:Nat}{x:Str}(hN:X.N.Nodup)(hi:X.N[i]?=some x)(hx:Loc X.env.scope x)(hf:autoParam (X.fn x=true\/X.env.scope.names.lookup x=some .local) Zq1._auto_1):PG X (.Name x pos) (zFP i):=by
 intro pins s σ H v u Q I r h;exact wpAny_assign_Name (zCk I hN hi hx r (fun s' I'=>⟨_,H,I',h⟩) hf)
def zUf:TGs:=fun vs σ H Q=>vs=[]/\Q σ H
def zTC(t:TG)(u:TGs):TGs:=fun vs σ H Q=>∃ v r,vs=v::r/\t v σ H fun σ' H'=>u r σ' H' Q
theorem zOy:PGs X [] zUf:=by
 intro pins s σ H vs us Q I r h;obtain⟨e,h⟩:=h;subst e;cases r;exact assignInOrder_nil ⟨σ,H,I,h⟩
theorem zIH{e:Expr}{es:List Expr}{t:TG}{u:TGs}(h1:PG X e t)(h2:PGs X es u)
  (hs:autoParam ((assignEach (e::es) X.env).map (·.2)=assign e X.env::(assignEach es X.env).map (·.2)) Zq5._auto_1):PGs X (e::es) (zTC t u):=by
 intro pins s σ H vs us Q I r h;obtain⟨v,vr,e1,h⟩:=h;subst e1;cases r with
 | cons r rr =>
  rw[hs];refine assignInOrder_cons (yV (h1 pins s σ H _ _ _ I r h) fun _ s1 u9=>?_);obtain⟨σ1,H1,I1,q1⟩:=u9;exact h2 pins s1 σ1 H1 _ _ Q I1 rr q1
def zUg(K:14#0)(n:Nat)(t:TGs):TG:=fun v σ H Q=>∃ a xs,v=.ref a/\SqT K H a xs/\xs.length=n/\t xs σ H Q
theorem zRU{es:List Expr}{k:Nat}{t:TGs}{n:Nat}(hc:X.calm=true)(h:PGs X es t)
  (hn:autoParam ((assignEach es X.env).length=n) Zq5._auto_1) (hst:autoParam ((assignEach es X.env).findIdx? (·.1)=none) Zq5._auto_1):PG X (.Tuple es k pos) (zUg X.K n t):=by
 intro pins s σ H v u Q I r hw;obtain⟨a,xs,e1,hq,hl,hw⟩:=hw;subst e1;cases r;obtain⟨its,rv,ht,hz⟩:=I.tuple hq;refine assign_Tuple_tuple (I.ok.hd hc) ht (by simp[hn,<-hl,rv.length]) hst fun h' hx=>?_;have I1:zT X pins σ H { s with heap:=h' }:=I.kept (t':=s.toks) fun b o e=>hx b o (gc (fK e)) e;exact h pins _ σ H xs _ Q I1 (by simpa using rv) hw
def zRV(te:TE)(g:TG):TS:=fun D σ H=>te σ H fun x H1=>g x σ H1 D.nx
theorem zRW{tg e:Expr}{te:TE}{g:TG}(he:PE X e te)(hg:PG X tg g)(hs:autoParam (swapsWithSole [tg] e pos.line X.env=pure false) Zq5._auto_1)(hw:autoParam (swappedStores [tg] e X.env=pure none) Zq5._auto_1)
  (h1:autoParam ((assignEach [tg] X.env).map (·.2)=[assign tg X.env]) Zq5._auto_1):PS X (.Assign [tg] e pos) (zRV te g):=by
 intro pins s σ H D I h;refine wpAny_Assign_stores (yV (he pins s σ H _ I h) fun v s1 ⟨x,H1,I1,r1,q1⟩=>?_) hs hw;rw[h1];exact yV (hg pins s1 σ H1 x v _ I1 r1 q1) fun u0 s2 q=>q
theorem zRX{i:Nat}{x:Str}{e:Expr}{te:TE}{pos':Pos}(hN:X.N.Nodup)(hi:X.N[i]?=some x)(hx:Loc X.env.scope x)(he:PE X e te)(hs:autoParam (swapsWith e (some (.Name x pos')) pos.line X.env=pure false) Zq5._auto_1)(hf:autoParam (X.fn x=true\/X.env.scope.names.lookup x=some .local) Zq1._auto_1) :
  PS X (.Assign [.Name x pos'] e pos) (zRV te (zFP i)):=by
 intro pins s σ H D I h;refine wpAny_Assign_Name (yV (he pins s σ H _ I h) fun v s1 ⟨y,H1,I1,r1,q1⟩=>?_) hs;exact zCk I1 hN hi hx r1 (fun s2 I2=>⟨_,H1,I2,q1⟩) hf
end
structure It where
 go:Nat->Hp->Prop
 yld:Nat->Hp->V->Hp->Prop
 stop:Nat->Hp->Prop
def zCL(X:Cx)(pins:20#0)(H:Hp)(b:Addr):Prop :=
 H b=none/\b≠X.env.locals/\b∉X.fs/\(b∈X.ex\/X.s₀.heap.objs.size<=b)/\(∀ x c,X.env.cells.lookup x=some c->c≠b)/\∀ p∈X.pn++pins,p.1≠b
theorem zT.fpOk{X:Cx}{pins:20#0}{σ:St}{H H':Hp}{s:Shared}{b:Addr}(I:16#0)(hb:s.heap.objs.size<=b)(hn:H' b=none):zCL X pins H' b:=by
 refine⟨hn,Nat.ne_of_gt (fN I.lt hb),I.nofs hb,.inr (gt I.sz hb),fun x c e z=>?_,fun p hp z=>?_⟩
 ·obtain⟨v,q⟩:=I.cell x c e
  exact absurd (fN q.lt (by rw[z];exact hb)) (gn _)
 ·exact absurd (fN (fK (I.pin p hp).1) (by rw[z];exact hb)) (gn _)
structure Turn (P:Program) (w:World) (K:PySem.W.Frag) (tg:Expr) (J:It) (fp:List Addr) (it:Addr) (tn:Nat->Heap->Prop):Prop where
 mem:it∈fp
 obj:∀ i h,tn i h->∀ b∈fp,∃ o,h.get? b=some o/\∀ v,o.data≠.cell v
 keep:∀ i h h',tn i h->(∀ b∈fp,∀ o,h.get? b=some o->h'.get? b=some o)->tn i h'
 item:∀(X:Cx),X.prog=P->X.w=w->X.K=K->X.calm=true->∀(i:Nat) (pins:20#0) (s:Shared) (σ:St) (H:Hp) (E:10#0),zT X pins σ H s->(∀ b∈fp,zCL X pins H b)->tn i s.heap->J.go i H ->
  wpAny (model P w) X.A (pyNext (.ref it)) (fun r s1=>∃ u,r=some u /\
   wpAny (model P w) X.A (letOwnedTupleGo tg (.ref it) u) (fun u0 s2=>∃ x H',zT X pins σ H' s2/\RelV x u/\J.yld i H x H'/\tn (i+1) s2.heap/\∀ b∈fp,H' b=none) E s1) E s
 done:∀(X:Cx),X.prog=P->X.w=w->X.K=K->X.calm=true->∀(i:Nat) (pins:20#0) (s:Shared) (σ:St) (H:Hp) (E:10#0),zT X pins σ H s->(∀ b∈fp,zCL X pins H b)->tn i s.heap->J.stop i H ->
  wpAny (model P w) X.A (pyNext (.ref it)) (fun r s1=>r=none/\zT X pins σ H s1) E s
 self:∀(A:Around) (i:Nat) (s:Shared) (Q:10#0) (E:10#0),tn i s.heap->Q (.ref it) s->wpAny (model P w) A (pyIter (.ref it)) Q E s
abbrev TI:=St->Hp->(It->Hp->Prop)->Prop
def PIE(X:Cx)(pins:20#0)(σ:St)(tg:Expr)(R:It->Hp->Prop)(itv:Value)(s2:Shared):Prop :=
 ∃(it:Addr) (fp:List Addr) (tn:Nat->Heap->Prop) (J:It) (H':Hp),itv=.ref it/\zT X pins σ H' s2/\Turn X.prog X.w X.K tg J fp it tn/\tn 0 s2.heap/\(∀ b∈fp,zCL X pins H' b)/\R J H'
def PI(X:Cx)(tg iter:Expr)(wi:TI):Prop :=
 ∀(pins:20#0) (s:Shared) (σ:St) (H:Hp) (R:It->Hp->Prop),zT X pins σ H s->wi σ H R ->
  wpAny 13#0 X.A (eval iter X.env) (fun v s1=>wpAny 13#0 X.A (pyIter v) (PIE X pins σ tg R) X.xe s1) X.xe s
theorem zKa{M:Model}{A:Around}{E:10#0}{s:Shared}{tg:Expr}{it:Addr}{u:Value}{o:Obj}{n:String}{vs:Array Value}{Q:Unit->Shared->Prop}(ho:s.heap.get? it=some o)(hc:o.cls=.type n)(hd:o.data=.fields vs)
    (hn:["enumerate","zip","dict_itemiterator","dict_reverseitemiterator","odict_iterator","itertools.zip_longest","itertools.pairwise"].contains n=false) (hQ:Q () s):wpAny M A (letOwnedTupleGo tg (.ref it) u) Q E s:=by
  unfold letOwnedTupleGo;cases tg<;>first
    | exact fF hQ
    | (cases u<;>first
        | exact fF hQ
        | (refine fB (wpAny_load ho ?_)
           rw[hc,hd];show wpAny M A (if (["enumerate","zip","dict_itemiterator","dict_reverseitemiterator","odict_iterator","itertools.zip_longest","itertools.pairwise"].contains n&&vs[0]?==some (rawInt _))=true then _ else _) Q E s;rw[if_neg (by intro h;rw[hn,Bool.false_and] at h;cases h)];exact fF hQ))
noncomputable def Itl(K:14#0)(a:Addr):It :=
 ⟨fun i H=>∃ xs x,SqL K H a xs/\xs[i]?=some x,fun i H x H'=>H'=H/\∀ xs,SqL K H a xs->xs[i]?=some x,fun i H=>∃ xs,SqL K H a xs/\xs.length<=i⟩
noncomputable def Itt(K:14#0)(a:Addr):It :=
 ⟨fun i H=>∃ xs x,SqT K H a xs/\xs[i]?=some x,fun i H x H'=>H'=H/\∀ xs,SqT K H a xs->xs[i]?=some x,fun i H=>∃ xs,SqT K H a xs/\xs.length<=i⟩
noncomputable def Itr(lo:Int)(n:Nat):It:=⟨fun i u0=>i<n,fun i H x H'=>H'=H/\x=.int (lo+i),fun i u0=>n<=i⟩
theorem zLV{P:Program}{w:World}{K:14#0}{tg:Expr}(a it:Addr):Turn P w K tg (Itl K a) [it] it (fun i h=>h.IsListIter it a i) where
 mem:=by simp
 obj:=fun i h st b hb=>by
  have e:b=it:=by simpa using hb
  subst e;obtain⟨o,e,c,d⟩:=st;exact⟨o,e,fun v z=>by rw[d] at z;cases z⟩
 keep:=fun i h h' st k=>st.at fun o e=>k it 27#0 o e
 item:=by
  sleep 2;obtain⟨xs,x,hq,hx⟩:=hg;obtain⟨its,rv,p,hz⟩:=I.list hq;obtain⟨u,hu,ru⟩:=rv.get hx;obtain⟨f0,f1,f2,f3,f4,f5⟩:=hf it 27#0;refine wpAny_pyNext_list_item st p.isList (x:=u) (by simpa using hu) fun h' st' sb=>?_;have I1:zT X pins σ H { s with heap:=h' }:=I.turned (t':=s.toks) (fun b o hb e=>(sb.2 b hb).trans e) f0 f1 f3 f4 f5;obtain⟨o,e,c,d⟩:=id st';exact⟨u,rfl,zKa (s:={ s with heap:=h' }) e c d 11#0 ⟨x,H,I1,ru,⟨rfl,fun ys hy=>by rw[I.list_inj hy hq];exact hx⟩,st',fun b hb=>(hf b hb).1⟩⟩
 done:=by
  sleep 2;obtain⟨xs,hq,hx⟩:=hg;obtain⟨its,rv,p,hz⟩:=I.list hq;obtain⟨f0,f1,f2,f3,f4,f5⟩:=hf it 27#0;have hl:=rv.length;exact wpAny_pyNext_list_end (I.ok.hd hc) st p.isList (by simp;omega) fun h' eb=>⟨rfl,I.turned (t':=s.toks) (fun b o hb e=>eb b o hb e) f0 f1 f3 f4 f5⟩
 self:=fun u0 u0 u0 u0 u0 st h=>wpAny_pyIter_listiter st h
theorem zJU{P:Program}{w:World}{K:14#0}{tg:Expr}(a it:Addr):Turn P w K tg (Itt K a) [it] it (fun i h=>h.IsTupleIter it a i) where
 mem:=by simp
 obj:=fun i h st b hb=>by
  have e:b=it:=by simpa using hb
  subst e;obtain⟨o,e,c,d⟩:=st;exact⟨o,e,fun v z=>by rw[d] at z;cases z⟩
 keep:=fun i h h' st k=>st.at fun o e=>k it 27#0 o e
 item:=by
  sleep 2;obtain⟨xs,x,hq,hx⟩:=hg;obtain⟨its,rv,p,hz⟩:=I.tuple hq;obtain⟨u,hu,ru⟩:=rv.get hx;obtain⟨f0,f1,f2,f3,f4,f5⟩:=hf it 27#0;refine wpAny_pyNext_tuple_item st (show s.heap.IsTuple a its.toArray from p) (x:=u) (by simpa using hu) fun h' st' sb=>?_;have I1:zT X pins σ H { s with heap:=h' }:=I.turned (t':=s.toks) (fun b o hb e=>(sb.2 b hb).trans e) f0 f1 f3 f4 f5;obtain⟨o,e,c,d⟩:=id st';exact⟨u,rfl,zKa (s:={ s with heap:=h' }) e c d 11#0 ⟨x,H,I1,ru,⟨rfl,fun ys hy=>by rw[I.tuple_inj hy hq];exact hx⟩,st',fun b hb=>(hf b hb).1⟩⟩
 done:=by
  sleep 2;obtain⟨xs,hq,hx⟩:=hg;obtain⟨its,rv,p,hz⟩:=I.tuple hq;obtain⟨f0,f1,f2,f3,f4,f5⟩:=hf it 27#0;have hl:=rv.length;exact wpAny_pyNext_tuple_end (I.ok.hd hc) st (show s.heap.IsTuple a its.toArray from p) (by simp;omega) fun h' eb=>⟨rfl,I.turned (t':=s.toks) (fun b o hb e=>eb b o hb e) f0 f1 f3 f4 f5⟩
 self:=fun u0 u0 u0 u0 u0 st h=>wpAny_pyIter_tupleiter st h
theorem zJV{P:Program}{w:World}{K:14#0}{tg:Expr}(it:Addr)(lo:Int)(n:Nat):Turn P w K tg (Itr lo n) [it] it (fun i h=>IsRangeIter h it (lo+(i:Nat)*1) ((n:Int)-(i:Nat)) 1) where
 mem:=by simp
 obj:=fun i h st b hb=>by
  have e:b=it:=by simpa using hb
  subst e;exact⟨_,st,fun v z=>by
   have z':Data.fields _=Data.cell v:=z;cases z'⟩
 keep:=fun i h h' st k=>k it 27#0 _ st
 item:=by
  sleep 2;obtain⟨f0,f1,f2,f3,f4,f5⟩:=hf it 27#0;have W:=Walks.range (prog:=X.prog) (w:=X.w) (I.ok.hd hc) it lo 1 n;refine W.item i s _ _ hg st fun v h' tk hv st' kk=>?_;obtain⟨t,rfl⟩:=hv;have I1:zT X pins σ H { s with heap:=h',toks:=tk }:=I.turned (fun b o hb e=>kk b o (by simpa using hb) e) f0 f1 f3 f4 f5;refine⟨_,rfl,zKa (s:={ s with heap:=h',toks:=tk }) (n:="range_iterator") st' rfl rfl 11#0 ⟨.int (lo+i),H,I1,⟨t,?_⟩,⟨rfl,rfl⟩,st',fun b hb=>(hf b hb).1⟩⟩;rw[Int.mul_one]
 done:=by
  sleep 2;obtain⟨f0,f1,f2,f3,f4,f5⟩:=hf it 27#0;exact wpAny_pyNext_range_end (I.ok.hd hc) st (by have:n<=i:=hg;omega) fun h' eb=>⟨rfl,I.turned (t':=s.toks) (fun b o hb e=>eb b o hb e) f0 f1 f3 f4 f5⟩
 self:=fun u0 u0 u0 u0 u0 st h=>wpAny_pyIter_rangeiter st h
section
variable {X:Cx} {tg:Expr}
theorem zII{pins:20#0}{σ:St}{H:Hp}{s:Shared}{R:It->Hp->Prop}{E:10#0}{lo hi:Int}{t u v:Tok}{tk:Nat}(I:16#0)(h1:-(2 ^ 62)<=lo)(h2:lo<2 ^ 62)(h3:-(2 ^ 62)<=hi)(h4:hi<2 ^ 62)
  (q:R (Itr lo (hi-lo).toNat) H):wpAny 13#0 X.A (pyIter (.ref s.heap.objs.size)) (PIE X pins σ tg R) E { s with heap:=s.heap.push { cls:=.type "range",data:=.fields #[.int lo t,.int hi u,.int 1 v] },toks:=tk }:=by
 refine wpAny_pyIter_range (IsRange.new ..) (small_one h1 h2 h3 h4) ?_;have I1:zT X pins σ H { s with heap:=s.heap.push { cls:=.type "range",data:=.fields #[.int lo t,.int hi u,.int 1 v] },toks:=tk }:=I.kept fun b o e=>fC _ e;refine⟨(s.heap.push { cls:=.type "range",data:=.fields #[.int lo t,.int hi u,.int 1 v] }).objs.size,[(s.heap.push { cls:=.type "range",data:=.fields #[.int lo t,.int hi u,.int 1 v] }).objs.size],_,_,H,rfl,
  I1.kept (t':=tk) fun b o e=>fC _ e,zJV _ lo (hi-lo).toNat,?_,fun b hb=>?_,q⟩
 ·have e1:lo+((0:Nat):Int)*1=lo:=by simp
  have e2:(((hi-lo).toNat:Nat):Int)-((0:Nat):Int)=Builtin.Range.rangeSize lo hi 1:=by rw[rangeSize_one];split<;>omega
  show IsRangeIter _ _ (lo+((0:Nat):Int)*1) ((((hi-lo).toNat:Nat):Int)-((0:Nat):Int)) 1;rw[e1,e2];exact fM _ rfl
 ·have e:b=(s.heap.push { cls:=.type "range",data:=.fields #[.int lo t,.int hi u,.int 1 v] }).objs.size:=by simpa using hb
  subst e;exact I1.fpOk (fP _) (I1.hok.fresh (fP _))
def zTD(ta:TA):TI:=fun σ H R=>ta σ H fun vs H1=>∃ j:Int,vs=[.int j]/\-(2 ^ 62)<=j/\j<2 ^ 62/\R (Itr 0 j.toNat) H1
def zTE(ta:TA):TI:=fun σ H R=>ta σ H fun vs H1=>∃ i j:Int,vs=[.int i,.int j]/\(-(2 ^ 62)<=i/\i<2 ^ 62/\-(2 ^ 62)<=j/\j<2 ^ 62)/\R (Itr i (j-i).toNat) H1
theorem zLW{a:Expr}{ta:TA}{p pos:Pos}(hg:Gl X "range")(hm:X.mg "range"=none)(ha:PA X [a] ta)(hs:autoParam (starEach [a] X.env=[(false,eval a X.env)]) Zq5._auto_1):PI X tg (.Call (.Name "range" p) [a] [] pos) (zTD ta):=by
 intro pins s σ H R I h;refine Call_ (zCJ I hg hm boot_range (PyProof.Rows.callWith_type1 (yV (ha pos pins s σ H _ I h) fun us s1 ⟨vs,H1,I1,r1,q1⟩=>?_) hs rfl));obtain⟨j,e,q1,q2,q⟩:=q1;subst e;cases r1 with
 | cons r rr =>
  cases rr;obtain⟨t,rfl⟩:=r;exact call_range_1 (zII I1 17#0 17#0 q1 q2 (by simpa using q))
theorem zLX{a b:Expr}{ta:TA}{p pos:Pos}(hg:Gl X "range")(hm:X.mg "range"=none)(ha:PA X [a,b] ta)(hs:autoParam (starEach [a,b] X.env=[(false,eval a X.env),(false,eval b X.env)]) Zq5._auto_1)(hs2:autoParam (starEach [b] X.env=[(false,eval b X.env)]) Zq5._auto_1) :
  PI X tg (.Call (.Name "range" p) [a,b] [] pos) (zTE ta):=by
 intro pins s σ H R I h;refine Call_ (zCJ I hg hm boot_range (PyProof.Rows.callWith_type1 (yV (ha pos pins s σ H _ I h) fun us s1 ⟨vs,H1,I1,r1,q1⟩=>?_) (by rw[hs,hs2]) (by rw[hs2];rfl)));obtain⟨i,j,e,⟨q1,q2,q3,q4⟩,q⟩:=q1;subst e;cases r1 with
 | cons r rr =>
  cases rr with
  | cons r' rr =>
   cases rr;obtain⟨t,rfl⟩:=r;obtain⟨t',rfl⟩:=r';exact call_range_2 (zII I1 q1 q2 q3 q4 q)
def zUh(wi:TI)(g:TG)(tb:TS):TS:=fun D σ H=>wi σ H fun J H1=>∃ W:Nat->Nat->St->Hp->Prop,(∃ m,W 0 m σ H1)/\∀ i m σ H,W i m σ H ->
 (J.stop i H/\D.nx σ H)\/(J.go i H/\∃ N:St->Hp->Prop,(∀ σ' H',N σ' H'->∃ m',m'<m/\W (i+1) m' σ' H')/\∀ x H',J.yld i H x H'->g x σ H' fun σ2 H2=>tb { D with nx:=N,ct:=N,bk:=D.nx } σ2 H2)
noncomputable def zEH(fp:List Addr)(h:Heap):List (Addr×Obj):=fp.filterMap fun b=>(h.get? b).map fun o=>(b,o)
theorem zAs{fp:List Addr}{h:Heap}{b:Addr}{o:Obj}(hb:b∈fp)(e:h.get? b=some o):(b,o)∈zEH fp h:=List.mem_filterMap.mpr ⟨b,hb,by rw[e];rfl⟩
theorem zLY{fp:List Addr}{h:Heap}{p:Addr×Obj}(hp:p∈zEH fp h):p.1∈fp/\h.get? p.1=some p.2:=by
 obtain⟨b,hb,e⟩:=List.mem_filterMap.mp hp;cases q:h.get? b with
 | none=>rw[q] at e;cases e
 | some o =>
  rw[q] at e;have e':(b,o)=p:=Option.some.inj e;subst e';exact⟨hb,q⟩
theorem zT.pinned{pins:20#0}{σ:St}{H:Hp}{s:Shared}{fp:List Addr}(I:16#0)(hf:∀ b∈fp,zCL X pins H b)(ho:∀ b∈fp,∃ o,s.heap.get? b=some o/\∀ v,o.data≠.cell v):zT X (pins++zEH fp s.heap) σ H s :=
 I.pins_of fun p hp=>(iy.mp hp).elim (fun z=>I.pin p (fZ _ z)) fun z=>by
  obtain⟨hb,e⟩:=zLY z;obtain⟨f0,f1,f2,u0⟩:=hf p.1 hb;obtain⟨o,e',d⟩:=ho p.1 hb;rw[e] at e';cases e';exact⟨e,f0,f1,f2,d⟩
theorem zT.unpinned{pins pl:20#0}{σ:St}{H:Hp}{s:Shared}(I:zT X (pins++pl) σ H s):zT X pins σ H s:=I.pins_of fun p hp=>I.pin p (fZ _ (ip _ hp))
theorem zRY{iter:Expr}{body:List Stmt}{wi:TI}{g:TG}{tb:TS}{pos:Pos}(hp:PassesOwn 13#0 X.A X.env X.xe)(hc:X.calm=true)(hi:PI X tg iter wi)(hg:PG X tg g)(hb:PSs X body tb)
  (hs:15#0):PS X (.For tg iter body [] pos) (zUh wi g tb):=by
 intro pins s σ H D I h;refine wpAny_For (yV (hi pins s σ H _ I h) fun v s1 h1=>yV h1 fun itv s2 h2=>?_) hs;obtain⟨it,fp,tn,J,H2,e,I2,T,st2,f2,W,⟨m0,w0⟩,turn⟩:=h2;subst e
 -- what stays true of the iterator's objects through the loop
 have stat:∀ {H':Hp},(∀ b∈fp,H' b=none)->∀ b∈fp,zCL X pins H' b:=fun hn b hb=>⟨hn b hb,(f2 b hb).2⟩
 refine codeAny_forLoop_any (fun n s'=>∃ i σ' H',zT X pins σ' H' s'/\tn i s'.heap/\(∀ b∈fp,H' b=none)/\W i n σ' H') ?_ m0 ⟨0,σ,H2,I2,st2,fun b hb=>(f2 b hb).1,w0⟩;rintro n s3 ⟨i,σ3,H3,I3,st3,fr3,w3⟩;rcases turn i n σ3 H3 w3 with ⟨stop,qn⟩ | ⟨go,N,hN,step⟩
 ·refine wpAny_passesOwn hp (yV (T.done X rfl rfl rfl hc i pins s3 σ3 H3 X.xe I3 (stat fr3) st3 stop) fun r s4 u9=>?_);obtain⟨hr,I4⟩:=u9
  subst hr;exact wpAny_execs_nil ⟨σ3,H3,I4,qn⟩
 ·refine wpAny_passesOwn hp (yV (T.item X rfl rfl rfl hc i pins s3 σ3 H3 X.xe I3 (stat fr3) st3 go) fun r s4 u9=>?_);obtain⟨u,hr,h4⟩:=u9
  subst hr;refine wpAny_passesOwn hp (yV h4 fun _ s5 u9=>?_);obtain⟨x,H5,I5,r5,y5,st5,fr5⟩:=u9;have I5':=I5.pinned (stat fr5) (T.obj _ _ st5);refine wpAny_passesOwn hp (yV (hg _ s5 σ3 H5 x u _ I5' r5 (step x H5 y5)) fun _ s6 u9=>?_);obtain⟨σ6,H6,I6,q6⟩:=u9;refine wpAny_passesOwn hp (yV (hb _ s6 σ6 H6 _ I6 q6) fun f s7 q7=>?_);have again:∀ {σ7:St} {H7:Hp},zT X (pins++zEH fp s5.heap) σ7 H7 s7->N σ7 H7->∃ m,m<n/\∃ i σ' H',zT X pins σ' H' s7/\tn i s7.heap/\(∀ b∈fp,H' b=none)/\W i m σ' H':=fun {σ7 H7} I7 n7=>by
   obtain⟨m',hm,w7⟩:=hN σ7 H7 n7;refine⟨m',hm,i+1,σ7,H7,I7.unpinned,T.keep _ _ _ st5 fun b hb o e=>(I7.pin (b,o) (fZ _ (fZ _ (zAs hb e)))).1,fun b hb=>?_,w7⟩;obtain⟨o,e,d⟩:=T.obj _ _ st5 b hb;exact(I7.pin (b,o) (fZ _ (fZ _ (zAs hb e)))).2.1
  cases f with
  | next=>obtain⟨σ7,H7,I7,n7⟩:=q7;exact again I7 n7
  | cont=>obtain⟨σ7,H7,I7,n7⟩:=q7;exact again I7 n7
  | brk=>obtain⟨σ7,H7,I7,q7⟩:=q7;exact⟨σ7,H7,I7.unpinned,q7⟩
  | ret v=>obtain⟨x7,σ7,H7,I7,r7,q7⟩:=q7;exact⟨x7,σ7,H7,I7.unpinned,r7,q7⟩
end
abbrev R2:=V->V->Hp->VK->Prop
def OpR(X:Cx)(f:Value->Value->Sem Value)(r:R2):Prop :=
 ∀(pins:20#0) (s:Shared) (σ:St) (H:Hp) (x y:V) (v u:Value) (Q:VK),zT X pins σ H s->RelV x v->RelV y u->r x y H Q ->
  wpAny 13#0 X.A (f v u) (EP X pins σ Q) X.xe s
def zAX(X:Cx)(f:Value)(r:List V->Hp->VK->Prop):Prop :=
 ∀(pins:20#0) (s:Shared) (σ:St) (H:Hp) (xs:List V) (us:List Value) (Q:VK),zT X pins σ H s->zy xs us->r xs H Q ->
  wpAny 13#0 X.A (call f us) (EP X pins σ Q) X.xe s
def tOp(r:R2)(ta tb:TE):TE:=fun σ H Q=>ta σ H fun x H1=>tb σ H1 fun y H2=>r x y H2 Q
def rI(C:Int->Int->Prop)(g:Int->Int->V):R2:=fun x y H Q=>∃ i j,x=.int i/\y=.int j/\C i j/\Q (g i j) H
def rI0(g:Int->Int->V):R2:=fun x y H Q=>∃ i j,x=.int i/\y=.int j/\Q (g i j) H
section
variable {X:Cx} {a b c:Expr} {ta tb tc:TE} {pos:Pos}
theorem zRZ(ha:PE X a ta)(hb:PE X b tb){pins:20#0}{s:Shared}{σ:St}{H:Hp}{R:V->V->Hp->Prop}(I:16#0)
  (h:ta σ H fun x H1=>tb σ H1 fun y H2=>R x y H2) {Q:10#0} {f:Value->Value->Sem Value}
  (hf:∀ v u s2 x y H2,zT X pins σ H2 s2->RelV x v->RelV y u->R x y H2->wpAny 13#0 X.A (f v u) Q X.xe s2) :
  wpAny 13#0 X.A (eval a X.env) (fun v s₁=>wpAny 13#0 X.A (eval b X.env) (fun u s₂=>wpAny 13#0 X.A (f v u) Q X.xe s₂) X.xe s₁) X.xe s:=by
 refine yV (ha pins s σ H _ I h) fun v s1 u9=>?_;obtain⟨x,H1,I1,r1,q1⟩:=u9;refine yV (hb pins s1 σ H1 _ I1 q1) fun u s2 u9=>?_;obtain⟨y,H2,I2,r2,q2⟩:=u9;exact hf v u s2 x y H2 I2 r1 r2 q2
theorem zQi{op:Operator}{r:R2}(ho:OpR X (binaryOp op) r)(ha:PE X a ta)(hb:PE X b tb):PE X (.BinOp a op b pos) (tOp r ta tb):=by
 intro pins s σ H Q I h;exact wpAny_BinOp (zRZ ha hb I h fun v u s2 x y H2 I2 rx ry q=>ho pins s2 σ H2 x y v u Q I2 rx ry q)
theorem opI{f:Value->Value->Sem Value}{C:Int->Int->Prop}{g:Int->Int->Int}
  (rule:∀(i j:Int) (t u:Tok) (s:Shared) (Q:10#0) (E:10#0),C i j->Q (.int (g i j) s.toks) { s with toks:=s.toks+1 }->wpAny 13#0 X.A (f (.int i t) (.int j u)) Q E s) :
  OpR X f (rI C fun i j=>.int (g i j)):=by
 intro pins s σ H x y v u Q I rx ry h;obtain⟨i,j,rfl,rfl,hc,q⟩:=h;obtain⟨t,rfl⟩:=rx;obtain⟨t',rfl⟩:=ry;exact rule i j t t' s _ _ hc ⟨.int (g i j),H,I.tok _,⟨_,rfl⟩,q⟩
theorem zTF{f:Value->Value->Sem Value}{g:Int->Int->Int}
  (rule:∀(i j:Int) (t u:Tok) (s:Shared) (Q:10#0) (E:10#0),Q (.int (g i j) s.toks) { s with toks:=s.toks+1 }->wpAny 13#0 X.A (f (.int i t) (.int j u)) Q E s) :
  OpR X f (rI0 fun i j=>.int (g i j)):=by
 intro pins s σ H x y v u Q I rx ry h;obtain⟨i,j,rfl,rfl,q⟩:=h;obtain⟨t,rfl⟩:=rx;obtain⟨t',rfl⟩:=ry;exact rule i j t t' s _ _ ⟨.int (g i j),H,I.tok _,⟨_,rfl⟩,q⟩
theorem zOz{f:Value->Value->Sem Value}{g:Int->Int->Bool}
  (rule:∀(i j:Int) (t u:Tok) (s:Shared) (Q:10#0) (E:10#0),Q (.bool (g i j)) s->wpAny 13#0 X.A (f (.int i t) (.int j u)) Q E s) :
  OpR X f (rI0 fun i j=>.bl (g i j)):=by
 intro pins s σ H x y v u Q I rx ry h;obtain⟨i,j,rfl,rfl,q⟩:=h;obtain⟨t,rfl⟩:=rx;obtain⟨t',rfl⟩:=ry;exact rule i j t t' s _ _ ⟨.bl (g i j),H,I,rfl,q⟩
def zHD(i j:Int):Prop:=0<j/\j<1073741824
def zGO(i j:Int):Prop:=(-(2 ^ 64)<i/\i<2 ^ 64)\/(-(2 ^ 64)<j/\j<2 ^ 64)
theorem zGO.ok{i j:Int}(h:zGO i j):IntMulOk i j:=by
 rcases h with ⟨h1,h2⟩ | ⟨h1,h2⟩
 ·exact .of_left (intBits_le_64 h1 h2)
 ·exact .of_right (intBits_le_64 h1 h2)
theorem zRa:OpR X (binaryOp .Add) (rI0 fun i j=>.int (i+j)):=zTF fun u0 u0 u0 u0 u0 u0 u0 q=>add_int q
theorem zRb:OpR X (binaryOp .Sub) (rI0 fun i j=>.int (i-j)):=zTF fun u0 u0 u0 u0 u0 u0 u0 q=>sub_int q
theorem zRc:OpR X (binaryOp .Mult) (rI zGO fun i j=>.int (i*j)):=opI fun u0 u0 u0 u0 u0 u0 u0 hc q=>mul_int q hc.ok
theorem zO0:OpR X (binaryOp .FloorDiv) (rI zHD fun i j=>.int (i / j)):=opI fun i j u0 u0 u0 u0 u0 hc q=>by
 have h1:(0:Int)<j:=hc.1;have h2:j<1073741824:=hc.2;exact floordiv_int 17#0 (by rw[Int.fdiv_eq_ediv_of_nonneg i 17#0];exact q) (.inl (PyProof.noPylong_small 17#0))
theorem zRd:OpR X (binaryOp .Mod) (rI (fun u0 j=>0<j) fun i j=>.int (i%j)):=opI fun i j u0 u0 u0 u0 u0 hc q=>by
 have h1:(0:Int)<j:=hc;exact mod_int' 17#0 (by rw[Int.fmod_eq_emod_of_nonneg i 17#0];exact q)
theorem zMe{pins:20#0}{σ:St}{H:Hp}{s:Shared}{Q:VK}{k k':Bool}(I:16#0)(q:Q (.bl k) H)(e:k=k'):EP X pins σ Q (.bool k') s:=by
 subst e;exact⟨.bl k,H,I,rfl,q⟩
theorem zMf:OpR X (compareOp .Lt) (rI0 fun i j=>.bl (decide (i<j))):=zOz fun u0 u0 u0 u0 u0 u0 u0 q=>lt_int q
theorem zFQ:OpR X (compareOp .LtE) (rI0 fun i j=>.bl (decide (i<=j))):=zOz fun u0 u0 u0 u0 u0 u0 u0 q=>le_int q
theorem zTG:OpR X (compareOp .Gt) (rI0 fun i j=>.bl (decide (j<i))):=zOz fun u0 u0 u0 u0 u0 u0 u0 q=>gt_int q
theorem zTH:OpR X (compareOp .GtE) (rI0 fun i j=>.bl (decide (j<=i))):=zOz fun u0 u0 u0 u0 u0 u0 u0 q=>ge_int q
theorem zGd:OpR X (compareOp .In) (fun x y H Q=>∃ i j,x=.str i/\y=.str j/\Q (.bl (!(Builtin.Str.occurrences j i 0 j.length 1).isEmpty)) H):=by
 intro pins s σ H x y v u Q I rx ry h;obtain⟨i,j,rfl,rfl,q⟩:=h;obtain⟨t,rfl⟩:=rx;obtain⟨t',rfl⟩:=ry;exact in_str (zMe I q rfl)
theorem zMg:OpR X (compareOp .Is) (fun x y H Q=>y=.non/\Q (.bl (decide (x=.non))) H):=by
 intro pins s σ H x y v u Q I rx ry h;obtain⟨rfl,q⟩:=h;cases ry;refine is_none_gen (zMe I q ?_);cases x<;>first
  | (cases rx;rfl)
  | (obtain⟨t,rfl⟩:=rx;rfl)
theorem OpR.or{f:Value->Value->Sem Value}{r r':R2}(h:OpR X f r)(h':OpR X f r'):OpR X f (fun x y H Q=>r x y H Q\/r' x y H Q):=by
 intro pins s σ H x y v u Q I rx ry q;rcases q with q | q
 ·exact h pins s σ H x y v u Q I rx ry q
 ·exact h' pins s σ H x y v u Q I rx ry q
theorem zCM(b:Expr){op:CmpOp}(h:autoParam (op≠.In) Zq2._auto_1)(h2:autoParam (op≠.NotIn) Zq2._auto_1):behindInMarks op b=false:=by
 have e1:(op==CmpOp.In)=false:=by cases op<;>first | rfl | exact absurd rfl h
 have e2:(op==CmpOp.NotIn)=false:=by cases op<;>first | rfl | exact absurd rfl h2
 cases b<;>simp[behindInMarks,e1,e2]
theorem zO1{op:CmpOp}{r:R2}(ho:OpR X (compareOp op) r)(ha:PE X a ta)(hb:PE X b tb)(hm:behindInMarks op b=false):PE X (.Compare a [op] [b] pos) (tOp r ta tb):=by
 intro pins s σ H Q I h;exact wpAny_Compare1 (zRZ ha hb I h fun v u s2 x y H2 I2 rx ry q=>ho pins s2 σ H2 x y v u Q I2 rx ry q) hm
def zQj(t:TE):TT:=fun σ H Q=>t σ H fun x H'=>∃ k,x=.bl k/\Q k H'
theorem zO2{op:CmpOp}{r:R2}(ho:OpR X (compareOp op) r)(ha:PE X a ta)(hb:PE X b tb)(hm:behindInMarks op b=false):PT X (.Compare a [op] [b] pos) (zQj (tOp r ta tb)):=by
 intro pins s σ H Q I h;refine wpAny_isTrue_Compare1 (yV (ha pins s σ H _ I h) fun v s1 ⟨x,H1,I1,r1,q1⟩=>yV (hb pins s1 σ H1 _ I1 q1) fun u s2 ⟨y,H2,I2,r2,q2⟩ =>
  yV (ho pins s2 σ H2 x y v u _ I2 r1 r2 q2) fun c s3 ⟨z,H3,I3,r3,k,e,q3⟩=>?_) hm
 subst e;cases r3;exact gD ⟨H3,I3,q3⟩
def zJW(r r':R2)(ta tb tc:TE):TE:=fun σ H Q=>ta σ H fun x H1=>tb σ H1 fun y H2=>r x y H2 fun z H3=>∃ k,z=.bl k /\
 (if k=true then tc σ H3 fun w' H4=>r' y w' H4 Q else Q (.bl false) H3)
theorem zMh{op op':CmpOp}{r r':R2}(ho:OpR X (compareOp op) r)(ho':OpR X (compareOp op') r')(ha:PE X a ta)(hb:PE X b tb)(hc:PE X c tc)
  (hm:autoParam (lastMarks [op,op'] [b,c]=false) Zq6._auto_1):PE X (.Compare a [op,op'] [b,c] pos) (zJW r r' ta tb tc):=by
 intro pins s σ H Q I h;refine Compare_chain (yV (ha pins s σ H _ I h) fun v s1 ⟨x,H1,I1,r1,q1⟩=>chain_link (yV (hb pins s1 σ H1 _ I1 q1) fun u s2 ⟨y,H2,I2,r2,q2⟩ =>
  yV (ho pins s2 σ H2 x y v u _ I2 r1 r2 q2) fun d s3 ⟨z,H3,I3,r3,k,e,q3⟩=>?_)) hm
 subst e;cases r3;refine gD ?_;cases k with
 | false=>exact ite_ff ⟨.bl false,H3,I3,rfl,q3⟩
 | true=>exact ite_tt (chain_last (yV (hc pins s3 σ H3 _ I3 q3) fun w' s4 ⟨z',H4,I4,r4,q4⟩=>ho' pins s4 σ H4 y z' u w' Q I4 r2 r4 q4))
theorem zMi{op op':CmpOp}{r r':R2}(ho:OpR X (compareOp op) r)(ho':OpR X (compareOp op') r')(ha:PE X a ta)(hb:PE X b tb)(hc:PE X c tc)
  (hm:autoParam (lastMarks [op,op'] [b,c]=false) Zq6._auto_1):PT X (.Compare a [op,op'] [b,c] pos) (zQj (zJW r r' ta tb tc)):=by
 intro pins s σ H Q I h;refine isTrue_chain (yV (ha pins s σ H _ I h) fun v s1 ⟨x,H1,I1,r1,q1⟩=>test_link (yV (hb pins s1 σ H1 _ I1 q1) fun u s2 ⟨y,H2,I2,r2,q2⟩ =>
  yV (ho pins s2 σ H2 x y v u _ I2 r1 r2 q2) fun d s3 ⟨z,H3,I3,r3,k,e,q3⟩=>?_)) hm
 subst e;cases r3;refine gD ?_;cases k with
 | false =>
  obtain⟨k',e',q'⟩:=q3;cases e';exact ite_ff ⟨H3,I3,q'⟩
 | true =>
  refine ite_tt (test_last (yV (hc pins s3 σ H3 _ I3 q3) fun w' s4 ⟨z',H4,I4,r4,q4⟩=>yV (ho' pins s4 σ H4 y z' u w' _ I4 r2 r4 q4) fun d' s5 u9=>?_));obtain⟨z2,H5,I5,r5,k2,e2,q5⟩:=u9;subst e2;cases r5;exact gD ⟨H5,I5,q5⟩
theorem zHE:(sizeLine:Nat)<2 ^ 63:=by rw[sizeLine_eq];decide
theorem vals1{x:V}{us:List Value}(r:zy [x] us):∃ u,us=[u]/\RelV x u:=by
 cases r with
 | cons r1 r2=>cases r2;exact⟨_,rfl,r1⟩
theorem vals2{x y:V}{us:List Value}(r:zy [x,y] us):∃ u w',us=[u,w']/\RelV x u/\RelV y w':=by
 cases r with
 | cons r1 r2 =>
  cases r2 with
  | cons r3 r4=>cases r4;exact⟨_,_,rfl,r1,r3⟩
end
structure zJX (h:Heap) (x dx C:Addr) (mA:Str->Option Value):Prop where
 obj:h.get? x=some (PySem.W.instObj C dx)
 ns:h.Ns1 dx mA
 ne:dx≠x
theorem zLZ{h:Heap}{dx:Addr}{mA:Str->Option Value}(n:h.Ns1 dx mA):∃ od,h.get? dx=some od/\∀ name,PySem.W.lookIn name od=some (mA name):=by
 obtain⟨o,es,ep,ho,hd,hk,u0,hm⟩:=n;refine⟨o,ho,fun name=>?_⟩;have e:=hm name;unfold nsFind findBy at e;rw[<-Array.find?_toList] at e;unfold PySem.W.lookIn;rw[hd];dsimp only;split
 ·rename_i y q
  rw[q] at e;exact congrArg some e
 ·rename_i q
  rw[q] at e;have a:es.toList.any (·.refKey)=false:=by
   rw[List.any_eq_false];intro y hy;obtain⟨z,t,hkey⟩:=hk y (Array.mem_toList_iff.mp hy);simp[DictEntry.refKey,hkey]
  have a':¬ es.toList.any (·.refKey)=true:=by rw[a];exact gH
  rw[if_neg a'];exact congrArg some e
theorem zJX.look{h:Heap}{x dx C:Addr}{mA:Str->Option Value}(I:zJX h x dx C mA):∃ od,PySem.W.InstAt h x (PySem.W.instObj C dx) C (some od)/\∀ name,PySem.W.lookIn name od=some (mA name) :=
 let ⟨od,ho,hl⟩:=zLZ I.ns
 ⟨od,⟨I.obj,rfl,rfl,ho⟩,hl⟩
section
variable {prog:Program} {w:World} {A:Around} {E:Value->Shared->Prop} {s:Shared} {K:PySem.W.Frag} {x dx C f:Addr} {mA:Str->Option Value} {name:Str} {v:Value}
theorem zKb{expr:Bool}{Q:10#0}(X:K.In s.heap)(I:zJX s.heap x dx C mA)(hg:PySem.W.plainGet K C name=true)(hh:PySem.W.hasDictIn K C=true)
  (ha:PySem.W.findIn K (.ref C) name=some none) (hv:mA name=some v) (hv':PySem.W.handedIn v=true) (h:Q v { s with toks:=s.toks+1 }) :
  wpAny 35#0 A (getAttr (.ref x) name expr) Q E s:=by
 obtain⟨od,J,hl⟩:=I.look;exact PySem.W.get_value X J (PySem.W.plainGet_of hg).1 (PySem.W.findObj_own hh ha rfl (by rw[hl,hv])) hv' h
theorem zMj{pl:Sem Bool}{Q:Value×List Value->Shared->Prop}(X:K.In s.heap)(I:zJX s.heap x dx C mA)(hg:PySem.W.plainGet K C name=true)
  (hf:PySem.W.findIn K (.ref C) name=some (some (.ref f))) (ht:PySem.W.isFn K (.ref f)=true) (hv:mA name=none) (h:Q (.ref f,[.ref x]) s) :
  wpAny 35#0 A (getMethod (.ref x) name pl) Q E s:=by
 obtain⟨od,J,hl⟩:=I.look;exact PySem.W.method_fn X J (PySem.W.plainGet_of hg).1 (PySem.W.plainGet_of hg).2 hf (beq_iff_eq.mp ht) (by show(PySem.W.lookIn name od).map (·.isSome)=some false;rw[hl,hv];rfl) h
theorem zO3{ns:List Str}{Q:Unit->Shared->Prop}(X:K.In s.heap)(I:zJX s.heap x dx C mA)
  (hs:PySem.W.findIn K (.ref C) "__setattr__"=some (some (.builtin "object.__setattr__"))) (hp:PySem.W.plainOver K C=true) (ht:PySem.W.takerIn K C name=some none) (hh:PySem.W.hasDictIn K C=true)
  (hw:PySem.Within mA ns) (hsz:ns.length<=sizeLine)
  (h:∀ h',zJX h' x dx C (fun y=>if y=name then some v else mA y)->gW dx s.heap h'->Q () { s with heap:=h',toks:=s.toks+2 }) :
  wpAny 35#0 A (setAttr (.ref x) name v) Q E s:=by
 obtain⟨od,J,hl⟩:=I.look;refine PySem.W.set_plain X J hs (PySem.W.osa_open (s:={ s with toks:=s.toks+1 }) (r:=none) X J hp ht fun b=>?_);obtain⟨cd,hc,hd'⟩:=PySem.W.any_some hh;have hx:s.heap.get? x=some ⟨.ref C,some dx,.plain,#[]⟩:=I.obj;refine fB (fF (fB (fB (wpAny_loadPart hx (fB (PySem.W.Looks.here (s:={ s with toks:=s.toks+1 }) (PySem.W.looks_clsIn X hc) ?_))))));rw[hd'];refine fF (a:=some dx) (fB (fF (fB ?_)));refine wpAny_nsSet1 (s:={ s with toks:=s.toks+1 }) I.ns fun h' hn2 hs2=>?_;obtain⟨oD,esD,epD,hoD,hdD,hcD⟩:=hn2.count (PySem.Within.cons name v hw);refine fB (wpAny_lookBehind hoD (by rw[hdD];exact pastItsLine_dict (gt hcD (by rw[gi];omega))) ?_);exact fF (h _ ⟨(hs2.2 _ (Ne.symm I.ne)).trans I.obj,hn2,I.ne⟩ hs2)
theorem zMk{R:Result->Shared->Prop}{vs:List Value}{kw:List (Str×Value)}(X:K.In s.heap)(hm:PySem.W.makesIn K C=true)
  (hi:PySem.W.findIn K (.ref C) "__init__"=some (some (.ref f))) (hf:PySem.W.typeIn K (.ref f)=some (.type "function"))
  (h:codeAny 35#0 (A.under (.builtin "type.__call__" ⟨.ref C::vs,kw⟩)) (.call (.ref f) ⟨.ref (s.heap.objs.size+1)::vs,kw⟩) (PySem.W.InitBack (s.heap.objs.size+1) R)
   { s with heap:=(s.heap.push PySem.W.emptyDict).push (PySem.W.instObj C s.heap.objs.size) }) :
  codeAny 35#0 A (.call (.ref C) ⟨vs,kw⟩) R s:=by
 obtain⟨hh,g,d,t,os⟩:=s;exact PySem.W.make_core (PySem.W.makes_of X hm) (PySem.W.looks_findIn X hi) (fun self=>PySem.W.bind_fn X self hf) (.inl rfl) h
end
noncomputable def zCN(f:Str)(v:V):List (Str×V)->List (Str×V)
 | []=>[(f,v)]
 | (g,x)::r=>if g=f then (g,v)::r else (g,x)::zCN f v r
theorem zEe(f g:Str)(v:V):∀ fs:List (Str×V),(zCN f v fs).lookup g=if g=f then some v else fs.lookup g
 | []=>by
  show il g [(f,v)]=_;by_cases h:g=f
  ·have hb:(g==f)=true:=beq_iff_eq.mpr h
   simp only[il,hb,if_pos h]
  ·have hb:(g==f)=false:=beq_eq_false_iff_ne.mpr h
   simp only[il,hb,if_neg h]
 | (k,x)::r=>by
  have ih:=zEe f g v r;rw[show zCN f v ((k,x)::r)=(if k=f then (k,v)::r else (k,x)::zCN f v r) from rfl];by_cases hk:k=f
  ·rw[if_pos hk]
   by_cases h:g=k
   ·have hb:(g==k)=true:=beq_iff_eq.mpr h
    simp only[il,hb,if_pos (h.trans hk)]
   ·have hb:(g==k)=false:=beq_eq_false_iff_ne.mpr h
    simp only[il,hb,if_neg (fun e:g=f=>h (e.trans hk.symm))]
  ·rw[if_neg hk]
   by_cases h:g=k
   ·have hb:(g==k)=true:=beq_iff_eq.mpr h
    simp only[il,hb,if_neg (fun e:g=f=>hk (h.symm.trans e))]
   ·have hb:(g==k)=false:=beq_eq_false_iff_ne.mpr h
    simp only[il,hb];exact ih
theorem zEI(f:Str)(v:V):∀ fs:List (Str×V),f∈(zCN f v fs).map (·.1)/\∀ g,g∈fs.map (·.1)->g∈(zCN f v fs).map (·.1)
 | []=>⟨by simp[zCN],fun g h=>by simp at h⟩
 | (k,x)::r=>by
  obtain⟨i1,i2⟩:=zEI f v r;rw[show zCN f v ((k,x)::r)=(if k=f then (k,v)::r else (k,x)::zCN f v r) from rfl];by_cases hk:k=f
  ·rw[if_pos hk]
   subst hk;exact⟨by simp,fun g h=>by simpa using h⟩
  ·rw[if_neg hk]
   refine⟨?_,fun g h=>?_⟩
   ·rw[fJ]
    exact g9 _ i1
   ·rw[fJ] at h ⊢
    rcases fS.mp h with e | e
    ·exact fS.mpr (.inl e)
    ·exact g9 _ (i2 g e)
theorem zEf(f:Str)(v:V):∀ fs:List (Str×V),(zCN f v fs).length<=fs.length+1
 | []=>by simp[zCN]
 | (k,x)::r=>by
  have ih:=zEf f v r;rw[show zCN f v ((k,x)::r)=(if k=f then (k,v)::r else (k,x)::zCN f v r) from rfl];by_cases hk:k=f
  ·rw[if_pos hk,gi,gi];omega
  ·rw[if_neg hk,gi,gi];omega
theorem zDS.some_of{v:V}{o:Option Value}(r:zDS (some v) o):∃ u,o=some u/\RelV v u:=by
 cases o with
 | none=>exact(show False from r).elim
 | some u=>exact⟨u,rfl,r⟩
theorem zDS.none_of{o:Option Value}(r:zDS none o):o=none:=by
 cases o with
 | none=>rfl
 | some u=>exact(show False from r).elim
theorem zLa{v:V}{u:Value}(r:RelV v u):PySem.W.handedIn u=true:=by
 cases v with
 | non=>cases (show u=Value.none from r);rfl
 | bl b=>cases (show u=Value.bool b from r);rfl
 | int i=>obtain⟨t,e⟩:=(show ∃ t,u=Value.int i t from r);cases e;rfl
 | str x=>obtain⟨t,e⟩:=(show ∃ t,u=Value.str x t from r);cases e;rfl
 | byt b=>obtain⟨t,e⟩:=(show ∃ t,u=Value.bytes b t from r);cases e;rfl
 | flt b=>obtain⟨t,e⟩:=(show ∃ t,u=Value.float b t from r);cases e;rfl
 | ref a=>cases (show u=Value.ref a from r);rfl
 | ty n=>cases (show u=Value.type n from r);rfl
section
variable {P:Program} {w:World} {H H':Hp} {h h':Heap} {a C dx:Addr} {fs fs':List (Str×V)}
theorem zE7(hok:HOk P w H h)(e:H a=some (.ins C dx fs)):∃ mA,zJX h a dx C mA/\(∀ f,zDS (fs.lookup f) (mA f))/\PySem.Within mA (fs.map (·.1))/\fs.length<=1000/\H dx=some (.own a):=by
 obtain⟨d,z,ne,ob,mA,n,r,q⟩:=(show yy P w H h a (.ins C dx fs) from hok a _ e)
 exact⟨mA,⟨ob,n,ne⟩,r,q,z,d⟩
end
structure Cls (K:PySem.W.Frag) (C:Addr):Prop where
 pg:PySem.W.plainGet K C Str.empty=true
 hd:PySem.W.hasDictIn K C=true
 po:PySem.W.plainOver K C=true
 sa:PySem.W.findIn K (.ref C) "__setattr__"=some (some (.builtin "object.__setattr__"))
theorem Cls.get{K:14#0}{C:Addr}(c:Cls K C)(f:Str):PySem.W.plainGet K C f=true:=c.pg
def wN(K:14#0)(C:Addr)(f:Str):Prop:=PySem.W.findIn K (.ref C) f=some none
theorem wN.taker{K:14#0}{C:Addr}{f:Str}(n:wN K C f):PySem.W.takerIn K C f=some none:=by
 unfold PySem.W.takerIn;rw[show PySem.W.findIn K (.ref C) f=some none from n];rfl
structure zCl (K:PySem.W.Frag) (C:Addr) (m:Str) (f:Addr):Prop where
 at_:PySem.W.findIn K (.ref C) m=some (some (.ref f))
 fn:PySem.W.isFn K (.ref f)=true
 kp:PySem.W.keepIn K (.ref f)=true
section
variable {X:Cx} {pins:List (Addr×Obj)} {σ:St} {H:Hp} {s:Shared} {a C dx:Addr} {fs:List (Str×V)} {f:Str} {v:V} {A:Around} {E:Value->Shared->Prop}
theorem zJY{b:Bool}{Q:10#0}(I:16#0)(e:H a=some (.ins C dx fs))(c:Cls X.K C)(n:wN X.K C f)(l:fs.lookup f=some v)
  (h:∀ u s',zT X pins σ H s'->RelV v u->Q u s'):wpAny 13#0 A (getAttr (.ref a) f b) Q E s:=by
 obtain⟨mA,O,r,u0,u0,u0⟩:=zE7 I.hok e;obtain⟨u,hu,ru⟩:=zDS.some_of (v:=v) (o:=mA f) (by rw[<-l];exact r f);exact zKb I.kIn O (c.get f) c.hd n hu (zLa ru) (h u _ (I.tok _) ru)
theorem zFR{m:Str}{g:Addr}{pl:Sem Bool}{Q:Value×List Value->Shared->Prop}(I:16#0)(e:H a=some (.ins C dx fs))(c:Cls X.K C)(k:zCl X.K C m g)(l:fs.lookup m=none)
  (h:Q (.ref g,[.ref a]) s):wpAny 13#0 A (getMethod (.ref a) m pl) Q E s:=by
 obtain⟨mA,O,r,u0,u0,u0⟩:=zE7 I.hok e;have hn:mA m=none:=zDS.none_of (by rw[<-l];exact r m);exact zMj I.kIn O (c.get m) k.at_ k.fn hn h
theorem zJZ{y:V}{u:Value}{Q:Unit->Shared->Prop}(I:16#0)(e:H a=some (.ins C dx fs))(c:Cls X.K C)(n:wN X.K C f)(hl:fs.length<1000)(ry:RelV y u)
  (h:∀ s',zT X pins σ (yx H a (.ins C dx (zCN f y fs))) s'->Q () s'):wpAny 13#0 A (setAttr (.ref a) f u) Q E s:=by
 obtain⟨mA,O,r,wi,u0,ho⟩:=zE7 I.hok e;have hz:(fs.map (·.1)).length<=sizeLine:=by rw[fE,sizeLine_eq];omega
 refine zO3 I.kIn O c.sa c.po n.taker c.hd wi hz fun h' O' sb=>h _ ?_;have hd:∃ o,h'.get? dx=some o:=let ⟨o,_,_,e',_⟩:=O'.ns;⟨o,e'⟩;refine I.write (x:=a) (e:=dx) (by rw[e];exact True.intro) (.inr ho) (fun b q hb z=>(sb.2 b hb).trans z) hd ?_;refine⟨by rw[zr O.ne];exact ho,?_,O.ne,O'.obj,_,O'.ns,fun g=>?_,fun g hg=>?_⟩
 ·have:=zEf f y fs;omega
 ·show zDS ((zCN f y fs).lookup g) (if g=f then some u else mA g)
  rw[zEe];by_cases q:g=f
  ·rw[if_pos q,if_pos q];exact ry
  ·rw[if_neg q,if_neg q];exact r g
 ·by_cases q:g=f
  ·rw[q];exact(zEI f y fs).1
  ·refine(zEI f y fs).2 g (wi g fun z=>hg ?_)
   show(if g=f then some u else mA g)=none;rw[if_neg q];exact z
theorem zT.made(I:16#0):zT X pins σ (yx (yx H s.heap.objs.size (.own (s.heap.objs.size+1))) (s.heap.objs.size+1) (.ins C s.heap.objs.size []))
  { s with heap:=(s.heap.push PySem.W.emptyDict).push (PySem.W.instObj C s.heap.objs.size) }:=by
 have e1:(s.heap.push PySem.W.emptyDict).get? s.heap.objs.size=some PySem.W.emptyDict:=fM s.heap rfl;have e2:((s.heap.push PySem.W.emptyDict).push (PySem.W.instObj C s.heap.objs.size)).get? (s.heap.objs.size+1)=some (PySem.W.instObj C s.heap.objs.size):=by
  have:=fM (s.heap.push PySem.W.emptyDict) (o:=PySem.W.instObj C s.heap.objs.size) rfl;rwa [gS] at this
 have e3:(s.heap.push PySem.W.emptyDict).Ns s.heap.objs.size (fun u0=>none):=⟨PySem.W.emptyDict,#[],_,e1,rfl,(fun e he=>absurd he 27#0),fun u0=>rfl⟩
 have I1:=I.laid (a:=s.heap.objs.size) (o:=.own (s.heap.objs.size+1)) (h':=s.heap.push PySem.W.emptyDict) (t':=s.toks) (fun b u q=>fC _ q) (fP _) ⟨_,e1⟩;refine I1.laid (a:=s.heap.objs.size+1) (o:=.ins C s.heap.objs.size []) (t':=s.toks) (fun b u q=>fC _ q) (Nat.le_of_eq (gS _ _)) ?_;have ne:s.heap.objs.size≠s.heap.objs.size+1:=gc (Nat.lt_succ_self _);refine⟨by rw[zr ne,yC],i7 _,ne,e2,fun u0=>none,(Heap.Ns1.of_empty e3).at fun o q=>fC _ q,fun u0=>True.intro,fun y hy=>absurd rfl hy⟩
theorem zO4{prog:Program}{w:World}{env:Env}{e:Expr}{f:Str}{pos:Pos}{s:Shared}{Q:10#0}(hb:attributeBase e f env (eval e env)=eval e env)
  (h:wpAny 35#0 A (eval e env) (fun o s₁=>wpAny 35#0 A (getAttr o f true) Q E s₁) E s):wpAny 35#0 A (eval (.Attribute e f pos) env) Q E s :=
 Attribute_any_ h (by rw[arm_eval_Attribute,hb])
end
def zUi(K:14#0)(ta:TE)(f:Str):TE:=fun σ H Q=>ta σ H fun x H1=>∃ a C dx fs v,x=.ref a/\H1 a=some (.ins C dx fs)/\Cls K C/\wN K C f/\fs.lookup f=some v/\Q v H1
def zUj(K:14#0)(ta tv:TE)(f:Str):TS:=fun D σ H=>tv σ H fun y H1=>ta σ H1 fun x H2=>∃ a C dx fs,x=.ref a/\H2 a=some (.ins C dx fs)/\Cls K C/\wN K C f/\fs.length<1000 /\
 D.nx σ (yx H2 a (.ins C dx (zCN f y fs)))
section
variable {X:Cx} {o e value:Expr} {f:Str} {pos pos' tpos:Pos} {ta tv:TE}
theorem zRe(he:PE X e ta)(hb:attributeBase e f X.env (eval e X.env)=eval e X.env):PE X (.Attribute e f pos) (zUi X.K ta f):=by
 intro pins s σ H Q I h;refine zO4 hb (yV (he pins s σ H _ I h) fun u s1 u9=>?_);obtain⟨x,H1,I1,rx,a,C,dx,fs,v,ex,ea,c,n,l,q⟩:=u9;subst ex;obtain rfl:u=Value.ref a:=rx;exact zJY I1 ea c n l fun u' s2 I2 ru=>⟨v,H1,I2,ru,q⟩
theorem zRf(ha:PE X o ta)(hv:PE X value tv)(hs:swapsWith value (some (.Attribute o f pos')) pos.line X.env=pure false):PS X (.Assign [.Attribute o f pos'] value pos) (zUj X.K ta tv f):=by
 intro pins s σ H D I h;refine plainObj_wpAny_Assign_Attribute (yV (hv pins s σ H _ I h) fun u s1 ⟨y,H1,I1,ry,q⟩=>yV (ha pins s1 σ H1 _ I1 q) fun ov s2 ⟨x,H2,I2,rx,a,C,dx,fs,ex,ea,c,n,l,q2⟩=>?_) hs;subst ex;obtain rfl:ov=Value.ref a:=rx;exact zJZ I2 ea c n l ry fun s3 I3=>⟨σ,_,I3,q2⟩
end
section
variable {X:Cx} {pins:List (Addr×Obj)} {σ:St} {H:Hp} {s:Shared} {A:Around} {E:Value->Shared->Prop} {Q:Value->Shared->Prop} {c:Value} {b:Bool}
set_option genInjectivity true in
inductive zEy (K:PySem.W.Frag) (H:Hp):V->Value->Prop where
 | non:zEy K H .non (.type "NoneType")
 | bl (x:Bool):zEy K H (.bl x) (.type "bool")
 | int (i:Int):zEy K H (.int i) (.type "int")
 | str (x:Str):zEy K H (.str x) (.type "str")
 | flt (x:UInt64):zEy K H (.flt x) (.type "float")
 | lst {a:Addr} {xs:List V} (e:H a=some (.lst xs)):zEy K H (.ref a) (.type "list")
 | frz {a:Addr} {o:Obj} {xs:List V} (e:H a=some (.frz o (.lst xs))):zEy K H (.ref a) (.type "list")
 | tup {a:Addr} {xs:List V} (e:H a=some (.tup xs)):zEy K H (.ref a) (.type "tuple")
 | dK {a:Addr} {kvs:List (Key×V)} (e:H a=some (.dK kvs)):zEy K H (.ref a) (.type "dict")
 | dT {a:Addr} {kvs:List (List Key×V)} (e:H a=some (.dT kvs)):zEy K H (.ref a) (.type "dict")
 | ins {a C dx:Addr} {fs:List (Str×V)} (e:H a=some (.ins C dx fs)) (cl:Cls K C) (ha:PySem.W.findIn K (.ref C) "__class__"=some (some 33#0))
   (hn:PySem.W.specialIn K 33#0 "__get__"=some (some (.builtin "getset_descriptor.__get__"))) (htk:PySem.W.takesIn K 33#0=some true)
   (hm:PySem.W.mroIn K C (.type "object")=some true):zEy K H (.ref a) (.ref C)
theorem zC3{x:V}{u t:Value}(I:16#0)(rx:RelV x u)(ty:zEy X.K H x t)(e:PySem.W.kitOne X.K t c=some b)(h:∀ tk,Q (.bool b) { s with toks:=tk }) :
  wpAny 13#0 A (call (.builtin "isinstance") [u,c]) Q E s:=by
 cases ty with
 | non=>cases (show u=Value.none from rx);exact PySem.W.kia_one PySem.W.kitx_none I.kIn True.intro e (fun z=>nomatch z) h
 | bl y=>cases (show u=Value.bool y from rx);exact PySem.W.kia_one PySem.W.kitx_bool I.kIn True.intro e (fun z=>nomatch z) h
 | int i=>obtain⟨t,q⟩:=(show ∃ t,u=Value.int i t from rx);cases q;exact PySem.W.kia_one PySem.W.kitx_int I.kIn True.intro e (fun z=>nomatch z) h
 | str y=>obtain⟨t,q⟩:=(show ∃ t,u=Value.str y t from rx);cases q;exact PySem.W.kia_one PySem.W.kitx_str I.kIn True.intro e (fun z=>nomatch z) h
 | flt y=>obtain⟨t,q⟩:=(show ∃ t,u=Value.float y t from rx);cases q;exact PySem.W.kia_one PySem.W.kitx_float I.kIn True.intro e (fun z=>nomatch z) h
 | @lst a xs ea =>
  cases (show u=Value.ref a from rx);obtain⟨u0,u0,n,u0,h1⟩:=(show yy X.prog X.w H s.heap a (.lst xs) from I.hok a _ ea)
  exact PySem.W.kia_one PySem.W.kitx_list I.kIn ⟨_,h1,rfl⟩ e (fun z=>nomatch z) h
 | @frz a ob xs ea =>
  cases (show u=Value.ref a from rx);obtain⟨u0,u0,u0,n,u0,h1⟩:=(show yy X.prog X.w H s.heap a (.frz ob (.lst xs)) from I.hok a _ ea)
  exact PySem.W.kia_one PySem.W.kitx_list I.kIn ⟨_,h1,rfl⟩ e (fun z=>nomatch z) h
 | @tup a xs ea =>
  cases (show u=Value.ref a from rx);obtain⟨u0,u0,u0,p⟩:=(show yy X.prog X.w H s.heap a (.tup xs) from I.hok a _ ea)
  obtain⟨o,h1,h2,u0⟩:=p;exact PySem.W.kia_one PySem.W.kitx_tuple I.kIn ⟨o,h1,h2⟩ e (fun z=>nomatch z) h
 | @dK a kvs ea =>
  cases (show u=Value.ref a from rx);obtain⟨u0,u0,vs,u0,p⟩:=(show yy X.prog X.w H s.heap a (.dK kvs) from I.hok a _ ea)
  obtain⟨o,es,ep,h1,h2,u0⟩:=p;exact PySem.W.kia_one PySem.W.kitx_dict I.kIn ⟨o,h1,h2.1⟩ e (fun z=>nomatch z) h
 | @dT a kvs ea =>
  cases (show u=Value.ref a from rx);obtain⟨u0,u0,xs,u0,o,es,ep,h1,h2,u0⟩:=(show yy X.prog X.w H s.heap a (.dT kvs) from I.hok a _ ea)
  exact PySem.W.kia_one PySem.W.kitx_dict I.kIn ⟨o,h1,h2.1⟩ e (fun z=>nomatch z) h
 | @ins a C dx fs ea cl ha hn htk hm =>
  cases (show u=Value.ref a from rx);obtain⟨mA,O,u0⟩:=zE7 I.hok ea;obtain⟨od,J,u0⟩:=O.look;exact PySem.W.kia_one (PySem.W.kitx_own (cl.get _) cl.hd ha hn htk hm) I.kIn J e (fun z=>nomatch z) h
end
structure yS (k:Nat) (A:Around):Prop where
 hd:A.handled=none
 dp:A.depth+3*k+5<recursionLimit
 un:A.units+16*k+200<cLine
theorem yS.mono{j k:Nat}{A:Around}(r:yS k A)(h:j<=k):yS j A:=⟨r.hd,by have:=r.dp;omega,by have:=r.un;omega⟩
theorem yS.deeper{k:Nat}{A:Around}(r:yS (k+1) A)(env:Env):yS k (A.deeper env) :=
 ⟨r.hd,by have:=r.dp;show A.depth+1+3*k+5<_;omega,by have:=r.un;show A.units+3+16*k+200<_;omega⟩
theorem zJa{A:Around}{C:Addr}{us:List Value}{kw:List (Str×Value)}:(A.under (.builtin "type.__call__" ⟨.ref C::us,kw⟩)).depth=A.depth+1:=by
 first | rfl | simp[Around.under,Code.weight,Code.isCreation,Code.isGuard,Code.isCaller,Code.frames,Code.isFrame,guardIds]
theorem zJb{A:Around}{C:Addr}{us:List Value}{kw:List (Str×Value)}:(A.under (.builtin "type.__call__" ⟨.ref C::us,kw⟩)).units=A.units+1:=by
 first | rfl | simp[Around.under,Code.cUnits,Code.frames,Code.isFrame]
theorem yS.make{k:Nat}{A:Around}(r:yS (k+1) A)(C:Addr)(us:List Value)(kw:List (Str×Value)):yS k (A.under (.builtin "type.__call__" ⟨.ref C::us,kw⟩)) :=
 ⟨r.hd,by have:=r.dp;rw[zJa];omega,by have:=r.un;rw[zJb];omega⟩
theorem yS.depth{k:Nat}{A:Around}(r:yS k A):A.depth<recursionLimit:=by have:=r.dp;omega
theorem yS.units{k:Nat}{A:Around}(r:yS k A):A.units+64<cLine:=by have:=r.un;omega
def zO5:TA:=fun u0 H Q=>Q [] H
def zMl(ta:TE)(tr:TA):TA:=fun σ H Q=>ta σ H fun x H1=>tr σ H1 fun xs H2=>Q (x::xs) H2
section
variable {X:Cx} {e:Expr} {es:List Expr} {te:TE} {t:TA} {pos:Pos}
theorem zBz:PA X [] zO5:=fun u0 u0 u0 u0 H Q I h=>Calls.spliced_nil ⟨[],H,I,.nil,h⟩
theorem zAH(ha:PE X e te)(hr:PA X es t)(hs:2#0):PA X (e::es) (zMl te t):=by
 intro pos pins s σ H Q I h;rw[hs];show wpAny _ _ (spliced ((false,eval e X.env)::backTo pos (starEach es X.env))) _ _ s;refine Calls.spliced_cons (yV (ha pins s σ H _ I h) fun u s1 u9=>?_);obtain⟨x,H1,I1,r1,q1⟩:=u9;exact yV (hr pos pins s1 σ H1 _ I1 q1) fun us s2 ⟨xs,H2,I2,r2,q2⟩=>⟨x::xs,H2,I2,.cons r1 r2,q2⟩
def zUk(t:TA):TE:=fun σ H Q=>t σ H fun xs H1=>xs.length<=sizeLine/\∀ p,H1 p=none->Q (.ref p) (yx H1 p (.tup xs))
def zUl(t:TA):TE:=fun σ H Q=>t σ H fun xs H1=>xs.length<=sizeLine/\∀ p,H1 p=none->Q (.ref p) (yx H1 p (.lst xs))
theorem zRg{x1}(h:PA X es t):PE X (.Tuple es x1 pos) (zUk t):=by
 intro pins s σ H Q I hq;refine wpAny_Tuple_spliced (yV (h pos pins s σ H _ I hq) fun us s1 ⟨xs,H1,I1,r,z,q⟩=>⟨by rw[<-r.length];exact z,?_⟩);have hf:H1 s1.heap.objs.size=none:=I1.hok.fresh (fP _);refine⟨.ref s1.heap.objs.size,yx H1 s1.heap.objs.size (.tup xs),I1.laid (t':=s1.toks) (fun b u e=>fC _ e) (fP _) ?_,rfl,q _ hf⟩;exact⟨z,us,r,⟨_,fM _ rfl,rfl,⟨_,rfl⟩,rfl⟩⟩
theorem zRh(h:PA X es t):PE X (.List es pos) (zUl t):=by
 intro pins s σ H Q I hq;refine wpAny_List_spliced (yV (h pos pins s σ H _ I hq) fun us s1 ⟨xs,H1,I1,r,z,q⟩=>⟨by rw[<-r.length];exact z,?_⟩);have hf:H1 s1.heap.objs.size=none:=I1.hok.fresh (fP _);refine⟨.ref s1.heap.objs.size,yx H1 s1.heap.objs.size (.lst xs),I1.laid (t':=s1.toks) (fun b u e=>fC _ e) (fP _) ?_,rfl,q _ hf⟩;exact⟨z,us,0,r,fM _ rfl⟩
end
abbrev Sp:=List V->Hp->VK->XK->Prop
abbrev CXT:=List Env->Hp->Shared->XK->Value->Shared->Prop
structure zFS (P:Program) (w:World) (K:PySem.W.Frag) (mg:Str->Option Value) (base:Heap) (A:Around) (outer:List Env) (s:Shared) (H:Hp):Prop where
 frames:A.frames=some outer
 mod:Mod K mg base
 bs:∀ b o,base.get? b=some o->s.heap.get? b=some o/\H b=none
 bsz:base.objs.size<=s.heap.objs.size
 funs:s.heap.FunFrames base outer
 frf:∀ b∈frs outer,H b=none
 hok:HOk P w H s.heap
 bare:AllBare s.gens
 tb:TabsOk K H
def CE(outer:List Env)(P:Program)(w:World)(H:Hp)(s:Shared)(Q:VK)(u:Value)(s':Shared):Prop :=
 ∃ v H',s'.os=s.os/\AllBare s'.gens/\Un (frs outer) [] H H' s.heap s'.heap/\HOk P w H' s'.heap/\RelV v u/\Q v H'
def CR(CX:CXT)(outer:List Env)(P:Program)(w:World)(H:Hp)(s:Shared)(Q:VK)(E:XK)(r:Result)(s':Shared):Prop :=
 match r with
 | .ok (.ret u)=>CE outer P w H s Q u s'
 | .ok _=>False
 | .error e=>CX outer H s E e s'
structure zCm (P:Program) (w:World) (K:PySem.W.Frag) (mg:Str->Option Value) (base:Heap) (CX:CXT) (k:Nat) (f:Addr) (fd:FuncData) (ps:List Str) (sp:Sp):Prop where
 len:∀ vs H Q E,sp vs H Q E->vs.length=ps.length
 run:∀(A:Around) (outer:List Env) (s:Shared) (H:Hp) (args:Args) (us:List Value) (vs:List V) (Q:VK) (E:XK),yS k A->zFS P w K mg base A outer s H->BindsTo s fd args (ps.zip us)->zy vs us->sp vs H Q E ->
  codeAny (model P w) A (.call (.ref f) args) (CR CX outer P w H s Q E) s
theorem zFS.make{P:Program}{w:World}{K:14#0}{mg:Str->Option Value}{base:Heap}{A:Around}{outer:List Env}{s:Shared}{H:Hp}(e:zFS P w K mg base A outer s H)(C:Addr)(us:List Value)(kw:List (Str×Value)) :
  zFS P w K mg base (A.under (.builtin "type.__call__" ⟨.ref C::us,kw⟩)) outer s H:=⟨by first | exact e.frames | (simpa[Around.under,Code.envs,Code.isFrame,pushEnvs] using e.frames),e.mod,e.bs,e.bsz,e.funs,e.frf,e.hok,e.bare,e.tb⟩
section
variable {X:Cx} {pins:List (Addr×Obj)} {σ:St} {H:Hp} {s s':Shared}
theorem zT.env0(I:16#0):zFS X.prog X.w X.K X.mg X.base X.A X.stack s H :=
 ⟨I.ok.frames,I.ok.mod,I.bs,gt I.ok.bsz I.sz,I.stack,I.stkFree,I.hok,I.bare,I.tabs⟩
theorem zT.after{Q:VK}{u:Value}(I:16#0)(h:CE X.stack X.prog X.w H s Q u s'):EP X pins σ Q u s':=by
 obtain⟨v,H',os,bare,un,hok,r,q⟩:=h;obtain⟨hh,g,d,t,os'⟩:=s';obtain rfl:os'=s.os:=os;exact⟨v,H',I.call (h':=hh) (g':=g) (d':=d) (t':=t) (ch:=[]) un hok bare (fun b z=>absurd z 27#0),r,q⟩
end
def zTI(sp:Sp)(dvs:List V)(E:XK)(t:TA):TE:=fun σ H Q=>t σ H fun vs H1=>sp (vs++dvs) H1 Q E
def zTJ(C:Addr)(m:Str)(sp:Sp)(dvs:List V)(E:XK)(ta:TE)(t:TA):TE:=fun σ H Q=>ta σ H fun x H1=>∃ a dx fs,x=.ref a/\H1 a=some (.ins C dx fs)/\fs.lookup m=none /\
 t σ H1 fun vs H2=>sp (x::(vs++dvs)) H2 Q E
def zTK(C:Addr)(sp:Sp)(dvs:List V)(E:XK)(t:TA):TE:=fun σ H Q=>t σ H fun vs H1=>∀ x dx,H1 x=none->H1 dx=none->dx≠x ->
 sp (.ref x::(vs++dvs)) (yx (yx H1 dx (.own x)) x (.ins C dx [])) (fun v H2=>v=.non/\Q (.ref x) H2) E
def Binds(K:14#0)(fd:FuncData)(ps:List Str)(ds:List Value):Prop :=
 ∀(s:Shared) (us:List Value),K.In s.heap->(us++ds).length=ps.length->BindsTo s fd ⟨us,[]⟩ (ps.zip (us++ds))
theorem Binds.all{K:14#0}{fd:FuncData}{ps:List Str}(h:∀ us:List Value,us.length=ps.length->bindArgs fd ⟨us,[]⟩=pure (ps.zip us)):Binds K fd ps []:=fun s us u0 hl=>by
 rw[gT] at hl ⊢;exact .of_eq (h us hl)
def zEJ(CX:CXT)(X:Cx)(E:XK):Prop:=∀(pins:20#0) (σ:St) (H:Hp) (s:Shared) (e:Value) (s':Shared),zT X pins σ H s->CX X.stack H s E e s'->X.xe e s'
section
variable {X:Cx} {CX:CXT} {k:Nat} {f C:Addr} {fd:FuncData} {ps:List Str} {sp:Sp} {dvs:List V} {ds:List Value} {E:XK} {x m:Str} {p pos apos:Pos} {e o:Expr} {es:List Expr} {ta:TE} {t:TA}
theorem zMm{pins:20#0}{σ:St}{H:Hp}{s:Shared}{Q:VK}{us:List Value}{vs:List V}(F:zCm X.prog X.w X.K X.mg X.base CX k f fd ps sp)(hr:yS k X.A)(hb:Binds X.K fd ps ds)(hd:zy dvs ds)(hx:zEJ CX X E)
  (I:16#0) (r:zy vs us) (h:sp (vs++dvs) H Q E):wpAny 13#0 X.A (call (.ref f) us) (EP X pins σ Q) X.xe s:=by
 have r2:zy (vs++dvs) (us++ds):=r.append hd;have hl:(us++ds).length=ps.length:=by rw[<-r2.length];exact F.len _ _ _ _ h
 refine iH (gG (F.run X.A X.stack s H ⟨us,[]⟩ (us++ds) (vs++dvs) Q E hr I.env0 (hb s us I.kIn hl) r2 h) fun r s' hq=>?_);cases r with
 | error e=>exact hx pins σ H s e s' I hq
 | ok fl =>
  cases fl with
  | ret u=>exact I.after hq
  | next=>exact False.elim hq
  | brk=>exact False.elim hq
  | cont=>exact False.elim hq
theorem zKc(F:zCm X.prog X.w X.K X.mg X.base CX k f fd ps sp)(hr:yS k X.A)(hg:Gl X x)(hm:X.mg x=some (.ref f))(hk:PySem.W.keepIn X.K (.ref f)=true)(hb:Binds X.K fd ps ds)(hd:zy dvs ds)(hx:zEJ CX X E)
  (ha:PA X (e::es) t) (hdb:4#0) (he:2#0) (hpl:9#0) :
  PE X (.Call (.Name x p) (e::es) [] pos) (zTI sp dvs E t):=by
 intro pins s σ H Q I h;refine gz (zBk I hg hm ?_ hdb);refine PySem.W.callWith_K (h₀:=X.base) I.ok.mod.kin hk (yV (ha pos pins s σ H _ I h) fun us s1 ⟨vs,H1,I1,r,q⟩=>⟨I1.kIn,?_⟩) he hpl;exact zMm F hr hb hd hx I1 r q
theorem zO6{pl:Sem Bool}(he:PE X o ta)(c:Cls X.K C)(hm:zCl X.K C m f)(F:zCm X.prog X.w X.K X.mg X.base CX k f fd ps sp)(hr:yS k X.A)(hb:Binds X.K fd ps ds)(hd:zy dvs ds)(hx:zEJ CX X E)(ha:PA X (e::es) t)
  (hst:2#0) (hpl:9#0)
  (ht:autoParam (eval (.Call (.Attribute o m apos) (e::es) [] pos) X.env=(do
   let ov <-eval o X.env
   standAt apos.atName
   let (f,first) <-holding [ov] (getMethod ov m pl)
   callWith pos f first (backTo pos (starEach (e::es) X.env)) (backToKw pos (keywordEach [] X.env)))) Zq5._auto_1) :
  PE X (.Call (.Attribute o m apos) (e::es) [] pos) (zTJ C m sp dvs E ta t):=by
 intro pins s σ H Q I h;refine PySem.W.methodCall_KW (pl:=pl) (yV (he pins s σ H _ I h) fun u s1 ⟨x,H1,I1,rx,a,dx,fs,ex,ea,l,q⟩=>?_) ht;subst ex;obtain rfl:u=Value.ref a:=rx;refine zFR I1 ea c hm l ?_;refine PySem.W.callWith_K (first:=[.ref a]) (h₀:=X.base) I.ok.mod.kin hm.kp (yV (ha pos pins s1 σ H1 _ I1 q) fun us s2 ⟨vs,H2,I2,r,q2⟩=>⟨I2.kIn,?_⟩) hst hpl;exact zMm (us:=.ref a::us) (vs:=.ref a::vs) F hr hb hd hx I2 (.cons rfl r) q2
structure Mk (K:PySem.W.Frag) (C f:Addr):Prop where
 makes:PySem.W.makesIn K C=true
 init:PySem.W.findIn K (.ref C) "__init__"=some (some (.ref f))
 fn:PySem.W.isFn K (.ref f)=true
 kp:PySem.W.keepIn K (.ref C)=true
theorem zMn{pins:20#0}{σ:St}{H:Hp}{s:Shared}{Q:VK}{us:List Value}{vs:List V}(M:Mk X.K C f)(F:zCm X.prog X.w X.K X.mg X.base CX k f fd ps sp)(hr:yS (k+1) X.A)(hb:Binds X.K fd ps ds)(hd:zy dvs ds)
  (hx:zEJ CX X E) (I:16#0) (r:zy vs us)
  (h:∀ x dx,H x=none->H dx=none->dx≠x->sp (.ref x::(vs++dvs)) (yx (yx H dx (.own x)) x (.ins C dx [])) (fun v H2=>v=.non/\Q (.ref x) H2) E) :
  wpAny 13#0 X.A (call (.ref C) us) (EP X pins σ Q) X.xe s:=by
 have hq:=h (s.heap.objs.size+1) s.heap.objs.size (I.hok.fresh (Nat.le_succ _)) (I.hok.fresh (fP _)) (gc (Nat.lt_succ_self _));have I2:=zT.made (C:=C) I;have r2:zy (V.ref (s.heap.objs.size+1)::(vs++dvs)) (Value.ref (s.heap.objs.size+1)::(us++ds)):=.cons rfl (r.append hd);have hl:(Value.ref (s.heap.objs.size+1)::us++ds).length=ps.length:=by
  have e:=r2.length;rw[F.len _ _ _ _ hq] at e;exact e.symm
 refine iH (zMk (f:=f) I.kIn M.makes M.init (beq_iff_eq.mp M.fn) (gG (F.run _ X.stack _ _ ⟨Value.ref (s.heap.objs.size+1)::us,[]⟩ (Value.ref (s.heap.objs.size+1)::(us++ds)) _ _ E (hr.make C us [])
  (I2.env0.make C us []) (hb _ (Value.ref (s.heap.objs.size+1)::us) I2.kIn hl) r2 hq) fun r s' hq'=>?_))
 cases r with
 | error e=>exact hx pins σ _ _ e s' I2 hq'
 | ok fl =>
  cases fl with
  | ret u =>
   obtain⟨v,H',I3,rv,ev,q3⟩:=I2.after hq';subst ev;exact⟨rv,⟨V.ref (s.heap.objs.size+1),H',I3,rfl,q3⟩⟩
  | next=>exact False.elim hq'
  | brk=>exact False.elim hq'
  | cont=>exact False.elim hq'
theorem zMo(M:Mk X.K C f)(F:zCm X.prog X.w X.K X.mg X.base CX k f fd ps sp)(hr:yS (k+1) X.A)(hg:Gl X x)(hm:X.mg x=some (.ref C))(hb:Binds X.K fd ps ds)(hd:zy dvs ds)(hx:zEJ CX X E)
  (hdb:4#0):PE X (.Call (.Name x p) [] [] pos) (zTK C sp dvs E zO5):=by
 intro pins s σ H Q I h;refine gz (zBk I hg hm ?_ hdb);exact PySem.W.callWith_K0 I.kIn M.kp (zMn (us:=[]) M F hr hb hd hx I .nil h)
end
section
variable {X:Cx} {CX:CXT} {k:Nat} {f C:Addr} {fd:FuncData} {ps ks:List Str} {sp:Sp} {E:XK} {x m:Str} {p pos apos kpos:Pos} {e o:Expr} {es:List Expr} {kws:List Keyword} {te ta:TE} {t tk:TA} {nm:Option Str}
variable {g:List Value->List Value->List Value} {gV:List V->List V->List V}
end
structure zV (N P:List Str) (sc:Scope):Prop where
 kind:sc.kind=.function
 co:sc.isCoroutine=false
 gen:sc.isGenerator=false
 nd:N.Nodup
 pre:N.take P.length=P
 par:∀ x∈P,sc.names.lookup x=some .local\/sc.names.lookup x=some .cell
 nofree:∀ y∈sc.names,y.2≠.free
theorem zGe{kindOf:Str->Option NameKind}{x:Str}:∀ {binds:List (Str×Value)} {m:Str->Option Value},(∀ v,(x,v)∉binds)->bindL kindOf binds m x=m x
 | [],_,_=>rfl
 | (n,v)::r,m,h=>by
  unfold bindL;rw[zGe fun w hw=>h w (g9 _ hw)];split
  ·have:x≠n:=by rintro rfl;exact h v gg
   simp[this]
  ·rfl
theorem zGf{kindOf:Str->Option NameKind}{x:Str}:∀ {binds:List (Str×Value)} {m:Str->Option Value},(∀ v,(x,v)∉binds)->bindC kindOf binds m x=m x
 | [],_,_=>rfl
 | (n,v)::r,m,h=>by
  unfold bindC;rw[zGf fun w hw=>h w (g9 _ hw)];split
  ·rfl
  ·have:x≠n:=by rintro rfl;exact h v gg
   simp[this]
theorem zGg{kindOf:Str->Option NameKind}{x:Str}{v:Value}:∀ {P:List Str} {vs:List Value} {i:Nat} {m:Str->Option Value},P.Nodup->P[i]?=some x->vs[i]?=some v->kindOf x=some .local ->
  bindL kindOf (P.zip vs) m x=some v
 | [],_,_,_,_,h,_,_=>by simp at h
 | _::_,[],_,_,_,_,h,_=>by simp at h
 | p::P,w::vs,0,m,nd,h1,h2,hk=>by
  simp at h1 h2;subst h1;subst h2;show bindL kindOf ((p,w)::P.zip vs) m p=_;unfold bindL;rw[zGe fun v hv=>(ik.mp nd).1 (gM hv).1,if_pos hk];simp
 | p::P,w::vs,i+1,m,nd,h1,h2,hk=>by
  show bindL kindOf ((p,w)::P.zip vs) m x=_;unfold bindL;exact zGg (i:=i) (ik.mp nd).2 (by simpa using h1) (by simpa using h2) hk
theorem zGh{kindOf:Str->Option NameKind}{x:Str}{v:Value}:∀ {P:List Str} {vs:List Value} {i:Nat} {m:Str->Option Value},P.Nodup->P[i]?=some x->vs[i]?=some v->kindOf x≠some .local ->
  bindC kindOf (P.zip vs) m x=some v
 | [],_,_,_,_,h,_,_=>by simp at h
 | _::_,[],_,_,_,_,h,_=>by simp at h
 | p::P,w::vs,0,m,nd,h1,h2,hk=>by
  simp at h1 h2;subst h1;subst h2;show bindC kindOf ((p,w)::P.zip vs) m p=_;unfold bindC;rw[zGf fun v hv=>(ik.mp nd).1 (gM hv).1,if_neg hk];simp
 | p::P,w::vs,i+1,m,nd,h1,h2,hk=>by
  show bindC kindOf ((p,w)::P.zip vs) m x=_;unfold bindC;exact zGh (i:=i) (ik.mp nd).2 (by simpa using h1) (by simpa using h2) hk
noncomputable def start(N:List Str)(vs:List V):St:=vs.map some++fX (N.length-vs.length) none
noncomputable def zBi(CX:CXT)(P:Program)(w:World)(K:14#0)(mg:Str->Option Value)(base:Heap)(N:List Str)(qual:Str)(scope:Scope)(f:Addr)(cd:Value)(A:Around)(outer:List Env)(s:Shared)(H:Hp)(E:XK):Cx where
 prog:=P
 w:=w
 K:=K
 mg:=mg
 base:=base
 A:=A.deeper (envOfC qual scope s.heap.objs.size f cd)
 N:=N
 s₀:=s
 H₀:=H
 env:=envOfC qual scope s.heap.objs.size f cd
 outer:=outer
 stack:=envOfC qual scope s.heap.objs.size f cd::outer
 ex:=[]
 calm:=true
 fn:=fun u0=>true
 pn:=[]
 xe:=fun e s'=>wpAny (model P w) (A.deeper (envOfC qual scope s.heap.objs.size f cd)) (leaving (envOfC qual scope s.heap.objs.size f cd) e) (fun u0 s''=>CX outer H s E e s'') (fun e' s''=>CX outer H s E e' s'') s'
theorem zIJ{sc:Scope}{n:Nat}{x:Str}(h:sc.names.lookup x=some .cell):∃ c,(cellsFrom n sc.names []).lookup x=some c:=by
 have q:=PySem.W.cellsFrom_some sc.names n [] (.inl h);exact hV.mp q
theorem zC4{CX:CXT}{P:Program}{w:World}{K:14#0}{mg:Str->Option Value}{base:Heap}{N ps:List Str}{qual:Str}{scope:Scope}{f:Addr}{cd:Value}{A:Around}{outer:List Env}{s s1:Shared}{H:Hp}{E:XK}{us:List Value}{vs:List V}
  (S:zV N ps scope) (hd:A.handled=none) (e0:zFS P w K mg base A outer s H) (hl:vs.length=ps.length) (r:zy vs us)
  (x:InCallC s s.heap.objs.size (bindL (envOfC qual scope s.heap.objs.size f cd).kindOf (ps.zip us) fun u0=>none) (cellsFrom (s.heap.objs.size+1) scope.names []) (bindC (envOfC qual scope s.heap.objs.size f cd).kindOf (ps.zip us) fun u0=>none) s1) :
  zT (zBi CX P w K mg base N qual scope f cd A outer s H E) [] (start N vs) H s1:=by
 have hpl:ps.length<=N.length:=by have:=congrArg List.length S.pre;rw[hJ] at this;omega
 obtain⟨h1,tk,rfl,hk⟩:=x.done;have noA:∀ b:Addr,b∉(zBi CX P w K mg base N qual scope f cd A outer s H E).ex:=fun b z=>absurd (show b∈([]:List Addr) from z) 27#0;refine⟨⟨e0.mod,S.kind,rfl,rfl,fP _,fun y z c h1 h2=>?_,fun y hy=>?_,fun y c u0 h=>?_,fun u0=>hd,Around.frames_deeper e0.frames,.inr ⟨rfl,rfl⟩,fun b z=>absurd z (noA b),e0.bs,e0.bsz,fun b u0 u0=>noA b,fun b z=>absurd z (noA b),e0.funs,e0.frf,e0.tb⟩,
  rfl,e0.bare,Un.kept hk,⟨_,x.toInCall.ns,fun i y v h1 h2 h3=>?_⟩,fun y c h=>⟨_,x.cell y c h⟩,e0.hok.fresh (fP _),fun y c h=>?_,fun p hp=>absurd (show p∈([]:List (Addr×Obj)) from hp) 27#0,e0.hok.kept hk,?_⟩
 ·exact name_of_addr x.apart (PySem.mem_of_lookup h1) (PySem.mem_of_lookup h2)
 ·have hy:scope.names.lookup y=some .cell\/scope.names.lookup y=some .free:=hy
  rcases hy with hy | hy
  ·exact zIJ hy
  ·exact absurd rfl (S.nofree _ (PySem.mem_of_lookup hy))
 ·exact Nat.le_of_lt (x.above y c (PySem.mem_of_lookup h))
 ·have hi:i<vs.length:=by
   unfold start at h2;by_cases hi:i<vs.length
   ·exact hi
   ·rw[gm (by simpa using hi)] at h2
    rw[gQ] at h2;split at h2<;>cases h2
  have ha:vs[i]?=some v:=by
   unfold start at h2;rw[gb (by simpa using hi),gh] at h2;cases e:vs[i]? with
   | none=>rw[e] at h2;cases h2
   | some a=>rw[e] at h2;cases h2;rfl
  obtain⟨u,hu,rv⟩:=r.get ha;have hp:ps[i]?=some y:=by
   rw[<-S.pre,List.getElem?_take_of_lt 17#0];exact h1
  have ndP:ps.Nodup:=by rw[<-S.pre];exact S.nd.sublist (List.take_sublist _ _)
  refine⟨u,rv,?_⟩;rcases S.par y (gp hp) with k | k
  ·exact .inl ⟨k,zGg ndP hp hu k⟩
  ·obtain⟨c,e⟩:=zIJ (n:=s.heap.objs.size+1) k
   refine .inr ⟨.inl k,c,e,?_⟩;have q:=x.cell y c e;rw[zGh ndP hp hu (by show scope.names.lookup y≠_;rw[k];decide)] at q;exact q
 ·exact e0.hok.fresh (Nat.le_of_lt (x.above y c (PySem.mem_of_lookup h)))
 ·unfold start
  show _=N.length;rw[gj,fE,im];omega
theorem zQk{CX:CXT}{P:Program}{w:World}{K:14#0}{mg:Str->Option Value}{base:Heap}{k:Nat}{f:Addr}{name qual:Str}{params:Arguments}{body:List Stmt}{scope:Scope}{dV kV doc pm cdv ct oc:Value}{an od:Option Addr}
  {osl:12#0} {N ps:List Str} {sp:Sp} (lk:K.lookup f=some ⟨oc,od,.func (PySem.W.fnOf name qual params body scope dV kV doc pm an cdv ct),osl⟩) (hcd:PySem.W.codeIn K cdv qual=true) (S:zV N ps scope)
  (len:∀ vs H Q E,sp vs H Q E->vs.length=ps.length)
  (hbody:∀(A:Around) (outer:List Env) (s:Shared) (H:Hp) (vs:List V) (Q:VK) (E:XK),yS k (A.deeper (envOfC qual scope s.heap.objs.size f cdv))->sp vs H Q E ->
   ∃ t,PSs (zBi CX P w K mg base N qual scope f cdv A outer s H E) body t/\t { nx:=fun u0 H'=>Q .non H',rt:=Q } (start N vs) H) :
  zCm P w K mg base CX (k+1) f (PySem.W.fnOf name qual params body scope dV kV doc pm an cdv ct) ps sp:=by
 refine⟨len,fun A outer s H args us vs Q E hr e0 hb r hsp=>?_⟩;have hl:=len _ _ _ _ hsp;have KX:K.In s.heap:=e0.mod.kin.keeps fun b o e=>(e0.bs b o e).1;have lim:s.heap.NoLimit:=e0.mod.nolimit.keeps fun b o e=>(e0.bs b o e).1;have hkind:∀ y∈ps.zip us,scope.names.lookup y.1=some .local\/(scope.names.lookup y.1=some .cell/\((cellsFrom (s.heap.objs.size+1) scope.names []).lookup y.1).isSome=true):=fun⟨n,v⟩ hy=>by
  rcases S.par n (gM hy).1 with q | q
  ·exact .inl q
  ·exact .inr ⟨q,PySem.W.cellsFrom_some _ _ _ (.inl q)⟩
 refine iJ hr.depth (KX _ _ lk) rfl S.co S.gen rfl (PySem.W.codeRec_of KX hcd) (hb _ _ _ _ ?_);refine io S.kind hkind fun env he s1 x=>?_;subst he;refine⟨lim.keeps x.toInCall.keep,codeAny_func ?_⟩;obtain⟨t,ht,hq⟩:=hbody A outer s H vs Q E (hr.deeper _) hsp;have I:zT (zBi CX P w K mg base N qual scope f cdv A outer s H E) [] (start N vs) H s1:=zC4 S hr.hd e0 hl r x;refine fV (ht [] s1 (start N vs) H _ I hq) (fun fl s' hs=>?_) fun e s' hs=>hs;have fin:∀ {σ':St} {H':Hp} {v:V} {u:Value},zT (zBi CX P w K mg base N qual scope f cdv A outer s H E) [] σ' H' s'->RelV v u->Q v H'->CE outer P w H s Q u s' :=
  fun {σ' H' v u} J rv q=>⟨v,H',J.os,J.bare,J.base,J.hok,rv,q⟩
 cases fl with
 | ret u =>
  obtain⟨v,σ',H',J,rv,q⟩:=hs;exact fin J rv q
 | next =>
  obtain⟨σ',H',J,q⟩:=hs;exact fin (v:=V.non) (u:=Value.none) J rfl q
 | brk =>
  obtain⟨u0,u0,u0,q⟩:=hs;exact False.elim q
 | cont =>
  obtain⟨u0,u0,u0,q⟩:=hs;exact False.elim q
section
variable {X:Cx} {x:Str} {p pos:Pos} {e:Expr} {es:List Expr} {t:TA} {id T:String} {r:List V->Hp->VK->Prop}
def tCB(r:List V->Hp->VK->Prop)(t:TA):TE:=fun σ H Q=>t σ H fun vs H1=>r vs H1 Q
theorem zB3(hc:zAX X (.builtin id) r)(hg:Gl X x)(hm:X.mg x=none)(hv:bootBuiltins x=some (.builtin id))(ha:PA X (e::es) t)(hn:autoParam (x≠"__name__") Zq2._auto_1)(hdb:4#0)
  (he:2#0) (hpl:9#0):PE X (.Call (.Name x p) (e::es) [] pos) (tCB r t):=by
 intro pins s σ H Q I h;refine gz (zCJ I hg hm hv ?_ hn hdb);exact PyProof.Rows.callWith_builtin1 (yV (ha pos pins s σ H _ I h) fun us s1 ⟨vs,H1,I1,r1,q1⟩=>hc pins s1 σ H1 vs us Q I1 r1 q1) he hpl
theorem zEK(hc:zAX X (.type T) r)(hg:Gl X x)(hm:X.mg x=none)(hv:bootBuiltins x=some (.type T))(ha:PA X (e::es) t)(hn:autoParam (x≠"__name__") Zq2._auto_1)(hdb:4#0)
  (he:2#0) (hpl:9#0):PE X (.Call (.Name x p) (e::es) [] pos) (tCB r t):=by
 intro pins s σ H Q I h;refine gz (zCJ I hg hm hv ?_ hn hdb);exact PyProof.Rows.callWith_type1 (yV (ha pos pins s σ H _ I h) fun us s1 ⟨vs,H1,I1,r1,q1⟩=>hc pins s1 σ H1 vs us Q I1 r1 q1) he hpl
end
end L2
namespace HT
open PySem PyProof.Rows
noncomputable def lexLt:List Int->List Int->Bool
 | [],[]=>false
 | [],_::_=>true
 | _::_,[]=>false
 | x::xs,y::ys=>if x=y then lexLt xs ys else decide (x<y)
theorem zJc(x y:Int)(xs ys:List Int):lexLt (x::xs) (y::ys)=if x=y then lexLt xs ys else decide (x<y):=rfl
theorem zGP:lexLt [] []=false:=rfl
theorem zFT(y:Int)(ys:List Int):lexLt [] (y::ys)=true:=rfl
theorem zFU(x:Int)(xs:List Int):lexLt (x::xs) []=false:=rfl
theorem zMp(A:Around)(s:Shared)(a:Int)(t:Tok)(c:Int)(u:Tok):∃ e,SeqAt.EqAt A s (.int a t) (.int c u) e/\(e=true↔a=c) :=
 ⟨(a==c),SeqAt.EqAt.int_int a t c u,by simp⟩
theorem zMq(A:Around)(s:Shared)(a:Int)(t:Tok)(c:Int)(u:Tok)(prog:Program)(w:World)(E:10#0)(Q:10#0)(h:Q (.bool (decide (a<c))) s) :
  wpAny 35#0 A (richCompare .Lt (.int a t) (.int c u)) Q E s :=
 (PyProof.Rows.lt_int h:wpAny 35#0 A (compareOp .Lt (.int a t) (.int c u)) Q E s)
section
open PySem.SeqAt
open PySem.MeetsSeq PySem.MeetsSeq2 PySem.MeetsSeq3
theorem zGQ(l b:Addr)(items items2:Array Value)(n n2:Nat)(dd dd2:Option Addr)(sl sl2:12#0)(ns ms:List Int)(hi:IntsAre items.toList ns)(hj:IntsAre items2.toList ms) :
  Meets (Builtin.«tuple.__lt__» ⟨[.ref l,.ref b],[]⟩)
   (fun u0 R s=>s.heap.get? l=some { cls:=.type "tuple",dict:=dd,data:=.seq items n,slots:=sl }/\s.heap.get? b=some { cls:=.type "tuple",dict:=dd2,data:=.seq items2 n2,slots:=sl2 } /\
    R (.ok (.ret (.bool (lexLt ns ms)))) s) :=
 .of_wp fun prog w A R s h=>by
  obtain⟨hp,g,d,tk,os⟩:=s;obtain⟨hl,hb,h⟩:=h;have f2:=AutoSeq1.sub_tuple_tuple;have z1:items.size=ns.length:=by rw[<-hi.length];simp
  have z2:items2.size=ms.length:=by rw[<-hj.length];simp
  wp_walk using wpAny_loadPart' hl,wpAny_loadPart' hb,wpAny_forIn_list _ (fun rest b s'=>b.1=none/\s'=⟨hp,g,d,tk,os⟩/\∃(vs ws:List Value) (ns' ms':List Int),rest=vs.zip ws /\
   IntsAre vs ns'/\IntsAre ws ms'/\ns'.length+items2.size=ms'.length+items.size/\R (.ok (.ret (.bool (lexLt ns' ms')))) ⟨hp,g,d,tk,os⟩) _
  case turn =>
   rintro⟨y,x⟩ rest b s' ⟨hb',rfl,vs,ws,ns',ms',hz,hvi,hwi,hlen,hR⟩;cases hvi with
   | nil=>rw[List.zip_nil_left] at hz;cases hz
   | cons a t hvi' =>
    cases hwi with
    | nil=>rw[List.zip_nil_right] at hz;cases hz
    | cons c u hwi' =>
     rw[gx] at hz;injection hz with hyx hrest
     injection hyx with hy hx
     subst hy hx;rw[zJc] at hR;simp only[gi] at hlen;obtain⟨e,he,hiff⟩:=zMp A.in1 ⟨hp,g,d,tk,os⟩ a t c u;refine fB (he prog w _ _ ?_);cases e with
     | true =>
      rw[if_pos (hiff.mp rfl)] at hR
      wp_walk
      exact⟨rfl,rfl,_,_,_,_,hrest,hvi',hwi',by omega,hR⟩
     | false =>
      rw[if_neg (fun q=>absurd (hiff.mpr q) gH)] at hR;have hri:=zMq A.in1 ⟨hp,g,d,tk,os⟩ a t c u prog w
      wp_walk using hri
      exact⟨_,rfl,by simpa using hR⟩
  case fin =>
   rintro⟨b1,b2⟩ s' ⟨hb',rfl,vs,ws,ns',ms',hz,hvi,hwi,hlen,hR⟩;simp only at hb';subst hb';have hv:lexLt ns' ms'=decide (items.size<items2.size):=by
    cases hvi with
    | nil =>
     cases hwi with
     | nil =>
      simp only[iC] at hlen;rw[zGP];exact(decide_eq_false 17#0).symm
     | cons c u hw =>
      simp only[iC,gi] at hlen;rw[zFT];exact(decide_eq_true 17#0).symm
    | cons a t hv =>
     cases hwi with
     | nil =>
      simp only[iC,gi] at hlen;rw[zFU];exact(decide_eq_false 17#0).symm
     | cons c u hw =>
      rw[gx] at hz;cases hz
   rw[hv] at hR
   wp_walk
   exact⟨_,rfl,by simpa[Builtin.Tuple.tupleCompareSizes] using hR⟩
  case h =>
   exact⟨rfl,rfl,items.toList,items2.toList,ns,ms,rfl,hi,hj,by omega,h⟩
end
section
variable {prog:Program} {w:World} {A:Around} {E:Value->Shared->Prop} {s:Shared}
theorem zJd{l b:Addr}{items items2:Array Value}{ns ms:List Int}{Q:10#0}(hl:IsTup s.heap l items)(hb:IsTup s.heap b items2)(hi:IntsAre items.toList ns)(hj:IntsAre items2.toList ms)
  (hu:A.units<cLine) (h:Q (.bool (lexLt ns ms)) s):wpAny 35#0 A (compareOp .Lt (.ref l) (.ref b)) Q E s:=by
 obtain⟨⟨cls,dd,data,sl⟩,ho,hc,n,hd⟩:=id hl;obtain⟨⟨cls2,dd2,data2,sl2⟩,ho2,hc2,n2,hd2⟩:=id hb;simp only at hc hd hc2 hd2;subst hc hd hc2 hd2;exact richCompare_meets_room (op:=.Lt) ⟨_,ho,rfl⟩ ⟨_,ho2,rfl⟩ PySem.F.slot_tuple_lt PySem.F.entry_tuple_lt (PySem.F.args_tuple_lt_2 _ _) (zGQ l b items items2 n n2 dd dd2 sl sl2 ns ms hi hj)
  ⟨ho,ho2,show Value.bool (lexLt ns ms)≠Value.notImplemented/\Q (.bool (lexLt ns ms)) s from⟨(fun x=>nomatch x),h⟩⟩ hu
theorem zO7{t b:Addr}{vs ws:List Value}{Q:10#0}(ht:IsTup s.heap t vs.toArray)(hb:IsTup s.heap b ws.toArray)(hv:vs≠[])
  (h1:ws=[]->Q (.ref t) s) (h2:ws≠[]->Q (.ref s.heap.objs.size) { s with heap:=s.heap.push { cls:=.type "tuple",data:=.seq (vs++ws).toArray } })
  (hsz:vs.length+ws.length<=sizeLine):wpAny 35#0 A (binaryOp .Add (.ref t) (.ref b)) Q E s:=by
 obtain⟨⟨cls,dd,data,sl⟩,ho,hc,n,hd⟩:=id ht;obtain⟨⟨cls2,dd2,data2,sl2⟩,ho2,hc2,n2,hd2⟩:=id hb;simp only at hc hd hc2 hd2;subst hc hd hc2 hd2;have e:vs.toArray++ws.toArray=(vs++ws).toArray:=by simp
 by_cases hw:ws=[]
 ·exact concat_meets ⟨_,ho,rfl⟩ ⟨_,ho2,rfl⟩ noFill_tuple_add seq_tuple_add PySem.F.slot_tuple_add PySem.F.entry_tuple_add (PySem.F.args_tuple_add_2 _ _)
   (tuple_addW1 t b vs.toArray ws.toArray n n2 dd dd2 sl sl2 (by simpa using hv) (by simp[hw])) ⟨ho,ho2,h1 hw⟩
 ·refine concat_meets ⟨_,ho,rfl⟩ ⟨_,ho2,rfl⟩ noFill_tuple_add seq_tuple_add PySem.F.slot_tuple_add PySem.F.entry_tuple_add (PySem.F.args_tuple_add_2 _ _)
   (tuple_addW2 t b vs.toArray ws.toArray n n2 dd dd2 sl sl2 (by simpa using hv) (by simpa using hw) (by rw[fY,fY];exact hsz)) ⟨ho,ho2,?_⟩
  rw[e];exact h2 hw
noncomputable def sIx(n d:Nat):Option Int->Nat
 | none=>d
 | some v=>if v<0 then (v+(n:Int)).toNat else min v.toNat n
theorem zDk(n d:Nat):sIx n d none=d:=rfl
theorem zC5(n d k:Nat):sIx n d (some (k:Int))=min k n:=by
 show(if (k:Int)<0 then ((k:Int)+(n:Int)).toNat else min (k:Int).toNat n)=min k n;rw[if_neg 17#0,Int.toNat_natCast]
theorem zRi(n d:Nat)(hd:d<=n)(o:Option Int):sIx n d o<=n:=by
 cases o with
 | none=>exact hd
 | some v =>
  show(if v<0 then (v+(n:Int)).toNat else min v.toNat n)<=n;by_cases hv:v<0
  ·rw[if_pos hv];omega
  ·rw[if_neg hv];exact Nat.min_le_right _ _
theorem zKd(v:Int)(n d:Nat):(if v<0 then max (v+(n:Int)) 0 else min v (n:Int))=((sIx n d (some v):Nat):Int):=by
 show(if v<0 then max (v+(n:Int)) 0 else min v (n:Int))=(((if v<0 then (v+(n:Int)).toNat else min v.toNat n):Nat):Int)
 by_cases hv:v<0
 ·simp only[if_pos hv];omega
 ·simp only[if_neg hv];omega
theorem zJe(lo hi:Option Int)(n:Nat):Builtin.Slice.sliceAdjust lo hi 1 (n:Int)=(((sIx n 0 lo:Nat):Int),((sIx n n hi:Nat):Int)):=by
 have h1:¬ ((1:Int)<0):=by omega
 unfold Builtin.Slice.sliceAdjust;simp only[h1,if_false];refine Prod.ext ?_ ?_
 ·cases lo with
  | none=>rfl
  | some v=>exact zKd v n 0
 ·cases hi with
  | none=>rfl
  | some v=>exact zKd v n n
theorem zJf(i j:Nat):Builtin.Slice.slicePlaces (i:Int) (j:Int) 1=j-i:=by
 unfold Builtin.Slice.slicePlaces;have h1:(1:Int)>0:=by omega
 simp only[h1,if_true,Int.ediv_one];split<;>omega
theorem zFV{v:Value}{o:Option Int}{Q:Option Int->Shared->Prop}(p:IsPart v o)(h:Q o s):wpAny 35#0 A (Builtin.Slice.slicePartIndex v) Q E s:=by
 cases p with
 | none=>exact slicePart_none h
 | int i t=>exact slicePart_int h
theorem zB4{sl:Addr}{vl vu:Value}{lo hi:Option Int}{n:Nat}{Q:Int×Int×Nat->Shared->Prop}(hs:s.heap.IsSliceOf sl vl vu .none)(pl:IsPart vl lo)(pu:IsPart vu hi)
  (h:Q (((sIx n 0 lo:Nat):Int),1,sIx n n hi-sIx n 0 lo) s):wpAny 35#0 A (Builtin.Slice.sliceApplied (.ref sl) (pure (n:Int))) Q E s:=by
 obtain⟨os,hos,hcs,hds⟩:=id hs;unfold Builtin.Slice.sliceApplied Builtin.Slice.sliceFields;refine fB (fB (gA hos hds (x:=vl) rfl (fB (gA hos hds (x:=vu) rfl (fB (gA hos hds (x:=.none) rfl (fF ?_)))))));refine fB (slicePart_none ?_);show wpAny _ _ (if ((1:Int)==0)=true then _ else _) _ _ s;rw[if_neg 11#0];refine fB (zFV pl (fB (zFV pu (fB (fF ?_)))));show wpAny _ _ (match Builtin.Slice.sliceAdjust lo hi 1 (n:Int) with | (lo,hi)=>pure (lo,(1:Int),Builtin.Slice.slicePlaces lo hi 1)) _ _ s;rw[zJe lo hi n];show wpAny _ _ (pure (((sIx n 0 lo:Nat):Int),(1:Int),Builtin.Slice.slicePlaces ((sIx n 0 lo:Nat):Int) ((sIx n n hi:Nat):Int) 1)) _ _ s;rw[zJf];exact fF h
theorem zMr(xs:Array Value)(i k:Nat):((fQ k).filterMap fun(m:Nat)=>xs[((i:Int)+(m:Int)*1).toNat]?).toArray=((xs.toList.drop i).take k).toArray:=by
 have e:(fun(m:Nat)=>xs[((i:Int)+(m:Int)*1).toNat]?)=fun m=>xs[i+m]?:=by
  funext m;have:((i:Int)+(m:Int)*1).toNat=i+m:=by omega
  rw[this]
 rw[e];have:=pick_run xs i k;rw[List.filterMap_map] at this;have e2:((fun x=>xs[x]?)∘fun x=>i+x)=fun m=>xs[i+m]?:=rfl;rw[e2] at this;rw[this]
theorem zDl{t sl:Addr}{items:Array Value}{vl vu:Value}{lo hi:Option Int}{Q:10#0}(ht:IsTup s.heap t items)(hs:s.heap.IsSliceOf sl vl vu .none)(pl:IsPart vl lo)(pu:IsPart vu hi)
  (hw:¬ (sIx items.size 0 lo=0/\sIx items.size items.size hi=items.size))
  (h:Q (.ref s.heap.objs.size) { s with heap:=s.heap.push { cls:=.type "tuple",data:=.seq ((items.toList.drop (sIx items.size 0 lo)).take (sIx items.size items.size hi-sIx items.size 0 lo)).toArray } })
  (hsz:items.size<=sizeLine):wpAny 35#0 A (getItem (.ref t) (.ref sl)) Q E s:=by
 have htake:sizeOk (.seq ((items.toList.drop (sIx items.size 0 lo)).take (sIx items.size items.size hi-sIx items.size 0 lo)).toArray):=by
  show((items.toList.drop (sIx items.size 0 lo)).take (sIx items.size items.size hi-sIx items.size 0 lo)).toArray.size<=sizeLine;rw[fY,hJ,gR,gC];omega
 have hj:sIx items.size items.size hi<=items.size:=zRi _ _ (fP _) hi;obtain⟨os,hos,hcs,hds⟩:=id hs;have hTs:s.TypeIs (.ref sl) "slice":=⟨os,hos,hcs⟩
 unfold getItem
 try with_reducible refine hU ?_
 first | refine fB (fF ?_) | skip
 refine fB (wpAny_sequenceKey ht.typeIs 11#0 ?_);refine fB (wpAny_callSpecial?_slot (name:=Str.ofString "__getitem__") ht.typeIs PyProof.Rows.slot_tuple_getitem
  (gZ PyProof.Rows.slot_tuple_getitem ht.typeIs entry_tuple_getitem ?_ (args_tuple_getitem _ _)))
 show wpAny _ _ (Builtin.Tuple.tupleItemsOf (.ref t)>>=_) _ _ s;refine fB (tupleItemsOf_ ht ?_);refine fB (wpAny_typeOf hTs ?_);rw[if_pos 11#0];refine fB (zB4 hs pl pu ?_);have hno:¬ ((((sIx items.size 0 lo:Nat):Int)==0&&(1:Int)==1&&(sIx items.size items.size hi-sIx items.size 0 lo)==items.size)=true):=by
  intro q;rw[fW,fW] at q;have q1:((sIx items.size 0 lo:Nat):Int)=0:=eq_of_beq q.1.1;have q2:sIx items.size items.size hi-sIx items.size 0 lo=items.size:=eq_of_beq q.2;exact hw ⟨by omega,by omega⟩
 show wpAny _ _ (if (((sIx items.size 0 lo:Nat):Int)==0&&(1:Int)==1&&(sIx items.size items.size hi-sIx items.size 0 lo)==items.size)=true then _ else _) _ _ s;rw[if_neg hno,zMr]
 first
  | exact fB (m:=Builtin.Tuple.tupleExact _) (gE (fF ⟨_,rfl,fF h⟩) htake)
  | exact fB (m:=Builtin.Tuple.tupleExact _) (gE (fB (fF (fF ⟨_,rfl,fF h⟩))) htake)
  | exact fB (fB (m:=Builtin.Tuple.tupleExact _) (gE (fF (fF ⟨_,rfl,fF h⟩)) htake))
  | exact fB (fB (m:=Builtin.Tuple.tupleExact _) (gE (fF ⟨_,rfl,fF h⟩) htake))
end
end HT
namespace L2
abbrev TO:=St->Hp->(Option Int->Hp->Prop)->Prop
def PO(X:Cx)(e:Option Expr)(t:TO):Prop :=
 ∀(pins:20#0) (s:Shared) (σ:St) (H:Hp) (Q:Option Int->Hp->Prop),zT X pins σ H s->t σ H Q ->
  wpAny 13#0 X.A (evalPart e X.env) (fun u s'=>∃ o H',zT X pins σ H' s'/\IsPart u o/\Q o H') X.xe s
def zO8:TO:=fun u0 H Q=>Q none H
def zTL(t:TE):TO:=fun σ H Q=>t σ H fun x H1=>∃ i,x=.int i/\Q (some i) H1
theorem intsAre_of{ns:List Int}:∀ {us:List Value},zy (ns.map V.int) us->IntsAre us ns:=by
 induction ns with
 | nil=>intro us r;rw[List.map_nil] at r;cases r;exact .nil
 | cons n ns ih =>
  intro us r;rw[fJ] at r;cases r with
  | cons r1 r2 =>
   obtain⟨t,e⟩:=r1;subst e;exact .cons n t (ih r2)
section
variable {X:Cx} {e:Expr} {te:TE} {lo hi:Option Expr} {tl th:TO} {pos p2:Pos}
theorem zO9:PO X none zO8:=by
 intro pins s σ H Q I h;rw[evalPart_none];exact fF ⟨none,H,I,.none,h⟩
theorem zPA(h:PE X e te):PO X (some e) (zTL te):=by
 intro pins s σ H Q I hw;rw[evalPart_some];refine yV (h pins s σ H _ I hw) fun u s1 u9=>?_;obtain⟨x,H1,I1,r1,q1⟩:=u9;obtain⟨i,rfl,q⟩:=q1;obtain⟨t,rfl⟩:=r1;exact⟨some i,H1,I1,.int i t,q⟩
def SlR(X:Cx)(r:V->Option Int->Option Int->Hp->VK->Prop):Prop :=
 ∀(pins:20#0) (s:Shared) (σ:St) (H:Hp) (x:V) (v vl vu:Value) (lo hi:Option Int) (sl:Addr) (Q:VK),zT X pins σ H s->RelV x v->s.heap.IsSliceOf sl vl vu .none->IsPart vl lo->IsPart vu hi->r x lo hi H Q ->
  ∃ T id,typeLookup (.type T) "__getitem__"=pure (some (.builtin id))/\s.TypeIs v T/\wpAny 13#0 X.A (getItem v (.ref sl)) (EP X pins σ Q) X.xe s
theorem SlR.or{r r':V->Option Int->Option Int->Hp->VK->Prop}(h:SlR X r)(h':SlR X r'):SlR X (fun x lo hi H Q=>r x lo hi H Q\/r' x lo hi H Q):=by
 intro pins s σ H x v vl vu lo hi sl Q I rx hs pl pu q;rcases q with q | q
 ·exact h pins s σ H x v vl vu lo hi sl Q I rx hs pl pu q
 ·exact h' pins s σ H x v vl vu lo hi sl Q I rx hs pl pu q
def tSl(r:V->Option Int->Option Int->Hp->VK->Prop)(te:TE)(tl th:TO):TE:=fun σ H Q=>te σ H fun x H1=>tl σ H1 fun l H2=>th σ H2 fun u H3=>r x l u H3 Q
theorem zFW{r:V->Option Int->Option Int->Hp->VK->Prop}(hr:SlR X r)(he:PE X e te)(hl:PO X lo tl)(hu:PO X hi th):PE X (.Subscript e (.Slice lo hi none p2) pos) (tSl r te tl th):=by
 intro pins s σ H Q I h;refine Subscript_ (yV (he pins s σ H _ I h) fun v s1 u9=>?_);obtain⟨x,H1,I1,r1,q1⟩:=u9;refine wpAny_Slice (yV (hl pins s1 σ H1 _ I1 q1) fun vl s2 ⟨l,H2,I2,pl,q2⟩=>yV (hu pins s2 σ H2 _ I2 q2) fun vu s3 u9=>?_);obtain⟨u,H3,I3,pu,q3⟩:=u9;rw[evalPart_none];refine fF ?_;have I4:zT X pins σ H3 { s3 with heap:=s3.heap.push { cls:=.type "slice",data:=.fields #[vl,vu,.none] } }:=I3.kept (t':=s3.toks) fun b ob q=>fC _ q;obtain⟨T,id,hT,ht,hg⟩:=hr pins { s3 with heap:=s3.heap.push { cls:=.type "slice",data:=.fields #[vl,vu,.none] } } σ H3 x v vl vu l u s3.heap.objs.size Q I4 r1 (Heap.IsSliceOf.new ..) pl pu q3;show wpAny 13#0 X.A (subscriptTail e (.Slice lo hi none p2) v (.ref s3.heap.objs.size)) (EP X pins σ Q) X.xe { s3 with heap:=s3.heap.push { cls:=.type "slice",data:=.fields #[vl,vu,.none] } };exact tail_any (ops:=[.ref s3.heap.objs.size,v]) ht hT hg (by with_unfolding_all rfl)
noncomputable def zIK(xs:List V)(lo hi:Option Int):List V:=(xs.drop (HT.sIx xs.length 0 lo)).take (HT.sIx xs.length xs.length hi-HT.sIx xs.length 0 lo)
theorem zEg(xs:List V)(lo hi:Option Int):(zIK xs lo hi).length<=xs.length:=by
 unfold zIK;rw[hJ,gR];omega
def zUm(K:14#0):V->Option Int->Option Int->Hp->VK->Prop:=fun x lo hi H Q=>∃ a xs,x=.ref a/\SqT K H a xs /\
 ¬ (HT.sIx xs.length 0 lo=0/\HT.sIx xs.length xs.length hi=xs.length)/\∀ p,H p=none->Q (.ref p) (yx H p (.tup (zIK xs lo hi)))
theorem zRj:SlR X (zUm X.K):=by
 intro pins s σ H x v vl vu lo hi sl Q I rx hs pl pu h;obtain⟨a,xs,rfl,hx,hw,q⟩:=h;cases rx;obtain⟨its,r,ht,hz⟩:=I.tuple hx;have hlen:its.toArray.size=xs.length:=by rw[fY];exact r.length.symm
 refine⟨"tuple",_,PyProof.Rows.slot_tuple_getitem.lookup,ht.typeIs,?_⟩;refine HT.zDl ht hs pl pu (by rw[hlen];exact hw) ?_ (by rw[hlen];exact hz);rw[hlen];refine⟨.ref s.heap.objs.size,_,I.laid (t':=s.toks) (o:=.tup (zIK xs lo hi)) (fun b ob q=>fC _ q) (fP _) ?_,rfl,q _ (I.hok.fresh (fP _))⟩;exact⟨gt (zEg xs lo hi) hz,_,(r.drop (HT.sIx xs.length 0 lo)).take (HT.sIx xs.length xs.length hi-HT.sIx xs.length 0 lo),zEx.new _ _⟩
def zTM(K:14#0):R2:=fun x y H Q=>∃ a b ns ms,x=.ref a/\y=.ref b/\SqT K H a (ns.map V.int)/\SqT K H b (ms.map V.int)/\Q (.bl (HT.lexLt ns ms)) H
theorem zRk(hu:X.A.units<cLine):OpR X (compareOp .Lt) (zTM X.K):=by
 intro pins s σ H x y v u Q I rx ry h;obtain⟨a,b,ns,ms,rfl,rfl,ha,hb,q⟩:=h;cases rx;cases ry;obtain⟨its,r1,p1,u0⟩:=I.tuple ha;obtain⟨its2,r2,p2,u0⟩:=I.tuple hb;have i1:IntsAre its.toArray.toList ns:=intsAre_of r1;have i2:IntsAre its2.toArray.toList ms:=intsAre_of r2;exact HT.zJd p1 p2 i1 i2 hu ⟨.bl (HT.lexLt ns ms),H,I,rfl,q⟩
def zQl(K:14#0):R2:=fun x y H Q=>∃ a b xs ys,x=.ref a/\y=.ref b/\SqT K H a xs/\SqT K H b ys/\xs≠[]/\xs.length+ys.length<=sizeLine /\
 (ys=[]->Q (.ref a) H)/\(ys≠[]->∀ p,H p=none->Q (.ref p) (yx H p (.tup (xs++ys))))
theorem zy.nil_iff{xs:List V}{us:List Value}(r:zy xs us):us=[]↔xs=[]:=by
 cases r with
 | nil=>simp
 | cons _ _=>simp
theorem zPB:OpR X (binaryOp .Add) (zQl X.K):=by
 intro pins s σ H x y v u Q I rx ry h;obtain⟨a,b,xs,ys,rfl,rfl,ha,hb,hx,hz,q1,q2⟩:=h;cases rx;cases ry;obtain⟨its,r1,p1,u0⟩:=I.tuple ha;obtain⟨its2,r2,p2,u0⟩:=I.tuple hb;refine HT.zO7 p1 p2 (fun z=>hx (r1.nil_iff.mp z)) (fun z=>⟨.ref a,H,I,rfl,q1 (r2.nil_iff.mp z)⟩) (fun z=>?_) (by rw[<-r1.length,<-r2.length];exact hz);refine⟨.ref s.heap.objs.size,_,I.laid (t':=s.toks) (o:=.tup (xs++ys)) (fun b ob q=>fC _ q) (fP _) ?_,rfl,q2 (fun w=>z (r2.nil_iff.mpr w)) _ (I.hok.fresh (fP _))⟩;exact⟨by rw[gj];exact hz,_,r1.append r2,zEx.new _ _⟩
end
noncomputable def ixN(n:Nat)(i:Int):Option Nat:=if 0<=i then (if i<n then some i.toNat else none) else if -(n:Int)<=i then some (i+n).toNat else none
noncomputable def atI{α:Type}(xs:List α)(i:Int):Option α:=(ixN xs.length i).bind fun j=>xs[j]?
theorem zPC{n:Nat}{i:Int}{j:Nat}(h:ixN n i=some j):seqIndex? i n=some j/\j<n/\-(n:Int)<=i/\i<n:=by
 unfold ixN at h;by_cases h0:0<=i
 ·rw[if_pos h0] at h
  by_cases h1:i<n
  ·rw[if_pos h1] at h
   have e:i.toNat=j:=Option.some.inj h;exact⟨by rw[seqIndex_of h0 h1,e],by omega,by omega,h1⟩
  ·rw[if_neg h1] at h;cases h
 ·rw[if_neg h0] at h
  by_cases h1:-(n:Int)<=i
  ·rw[if_pos h1] at h
   have e:(i+n).toNat=j:=Option.some.inj h;exact⟨by rw[seqIndex_neg 17#0 h1,e],by omega,h1,by omega⟩
  ·rw[if_neg h1] at h;cases h
theorem zKe{α:Type}{xs:List α}{i:Int}{v:α}(h:atI xs i=some v):∃ j,seqIndex? i xs.length=some j/\xs[j]?=some v/\j<xs.length/\-(xs.length:Int)<=i/\i<xs.length:=by
 unfold atI at h;cases e:ixN xs.length i with
 | none=>rw[e] at h;cases h
 | some j =>
  rw[e] at h;obtain⟨h1,h2,h3,h4⟩:=zPC e;exact⟨j,h1,h,h2,h3,h4⟩
theorem ya{α:Type}{xs:List α}{j:Nat}{v:α}(h:xs[j]?=some v):atI xs (j:Int)=some v:=by
 have hj:j<xs.length:=(fI.mp h).1;have e:ixN xs.length (j:Int)=some j:=by
  unfold ixN;rw[if_pos 17#0,if_pos 17#0];simp
 unfold atI;rw[e];exact h
def zKf(b:Expr):Prop:=∀ o i,subscripted b false o i=operate [o,i] (getItem o i)
def IxR(X:Cx)(r:R2):Prop :=
 ∀(value slice:Expr) (pins:20#0) (s:Shared) (σ:St) (H:Hp) (x y:V) (v u:Value) (Q:VK),zT X pins σ H s->RelV x v->RelV y u->r x y H Q ->
  subscripted slice false v u=operate [v,u] (getItem v u)->wpAny 13#0 X.A (subscriptTail value slice v u) (EP X pins σ Q) X.xe s
def MtR(X:Cx)(id:String)(r:V->List V->Hp->VK->Prop):Prop :=
 ∀(pins:20#0) (s:Shared) (σ:St) (H:Hp) (x:V) (xs:List V) (v:Value) (us:List Value) (Q:VK),zT X pins σ H s->RelV x v->zy xs us->r x xs H Q ->
  wpAny 13#0 X.A (call (.builtin id) (v::us)) (EP X pins σ Q) X.xe s
section
variable {X:Cx} {a b:Expr} {ta tb:TE} {pos:Pos}
theorem IxR.or{r r':R2}(h:IxR X r)(h':IxR X r'):IxR X (fun x y H Q=>r x y H Q\/r' x y H Q):=by
 intro value slice pins s σ H x y v u Q I rx ry q hs;rcases q with q | q
 ·exact h value slice pins s σ H x y v u Q I rx ry q hs
 ·exact h' value slice pins s σ H x y v u Q I rx ry q hs
theorem MtR.or{id:String}{r r':V->List V->Hp->VK->Prop}(h:MtR X id r)(h':MtR X id r'):MtR X id (fun x xs H Q=>r x xs H Q\/r' x xs H Q):=by
 intro pins s σ H x xs v us Q I rx rs q;rcases q with q | q
 ·exact h pins s σ H x xs v us Q I rx rs q
 ·exact h' pins s σ H x xs v us Q I rx rs q
theorem zTN{r:R2}(hr:IxR X r)(ha:PE X a ta)(hb:PE X b tb)(hs:zKf b):PE X (.Subscript a b pos) (tOp r ta tb):=by
 intro pins s σ H Q I h;exact Subscript_ (zRZ ha hb I h fun v u s2 x y H2 I2 rx ry q=>hr a b pins s2 σ H2 x y v u Q I2 rx ry q (hs _ _))
def zTO(K:14#0):R2:=fun x y H Q=>∃ p xs i v,x=.ref p/\y=.int i/\SqL K H p xs/\atI xs i=some v/\Q v H
def zTP(K:14#0):R2:=fun x y H Q=>∃ p xs i v,x=.ref p/\y=.int i/\SqT K H p xs/\atI xs i=some v/\Q v H
theorem zPD:IxR X (zTO X.K):=by
 intro value slice pins s σ H x y v u Q I rx ry h hs;obtain⟨p,xs,i,z,rfl,rfl,hq,he,q⟩:=h;cases rx;obtain⟨t,rfl⟩:=ry;obtain⟨its,r,pl,hz⟩:=I.list hq;obtain⟨j,h1,h2,h3,h4,h5⟩:=zKe he;obtain⟨w,ew,rw'⟩:=r.get h2;have hl:=r.length;have hn:=zHE;have fin:EP X pins σ Q w s:=⟨z,H,I,rw',q⟩
 by_cases h0:0<=i
 ·have hj:i.toNat=j:=by
   rw[seqIndex_of h0 h5] at h1;exact Option.some.inj h1
  exact item_listR pl.isList h0 17#0 (by rw[hj];simpa using ew) fin hs
 ·have hj:(i+(its.toArray.size:Int)).toNat=j:=by
   rw[seqIndex_neg 17#0 h4] at h1;rw[fY,<-hl];exact Option.some.inj h1
  exact subscriptTail_builtinR (x:=w) pl.isList.typeIs slot_list_getitem.lookup
   (wpAny_getItem_list_neg (Q:=fun r s'=>r=w/\EP X pins σ Q r s') pl.isList 17#0 (by rw[fY]<;>omega) 17#0 (by rw[hj];simpa using ew) ⟨rfl,fin⟩) hs
theorem zRl:IxR X (zTP X.K):=by
 intro value slice pins s σ H x y v u Q I rx ry h hs;obtain⟨p,xs,i,z,rfl,rfl,hq,he,q⟩:=h;cases rx;obtain⟨t,rfl⟩:=ry;obtain⟨its,r,pl,hz⟩:=I.tuple hq;obtain⟨j,h1,h2,h3,h4,h5⟩:=zKe he;obtain⟨w,ew,rw'⟩:=r.get h2;have hl:=r.length;have hn:=zHE;have fin:EP X pins σ Q w s:=⟨z,H,I,rw',q⟩
 exact subscriptTail_builtinR (x:=w) pl.typeIs slot_tuple_getitem.lookup
  (getItem_tuple (j:=j) (Q:=fun r s'=>r=w/\EP X pins σ Q r s') pl 17#0 17#0 (by rw[fY,<-hl];exact h1) (by simpa using ew) ⟨rfl,fin⟩) hs
theorem zT.lst{pins:20#0}{σ:St}{H:Hp}{s:Shared}{p:Addr}{xs:List V}(I:16#0)(h:H p=some (.lst xs)) :
  ∃(its:List Value) (n:Nat),zy xs its/\s.heap.get? p=some { cls:=.type "list",data:=.seq its.toArray n }/\xs.length<=sizeLine:=by
 obtain⟨z,its,n,r,e⟩:=I.hok p _ h;exact⟨its,n,r,e,z⟩
theorem zHF(lo hi:Option Int)(n:Nat):(sliceBounds lo hi none n).1=((HT.sIx n 0 lo:Nat):Int)/\(sliceBounds lo hi none n).2.1=((HT.sIx n n hi:Nat):Int)/\(sliceBounds lo hi none n).2.2=1:=by
 refine⟨?_,?_,rfl⟩
 ·cases lo with
  | none=>simp[sliceBounds,HT.sIx]
  | some i =>
   simp only[sliceBounds,HT.sIx,Option.getD_none,show(1:Int)>0 by decide,if_true];by_cases h:i<0
   ·simp only[h,if_true]<;>omega
   ·simp only[h,if_false]<;>omega
 ·cases hi with
  | none=>simp[sliceBounds,HT.sIx]
  | some i =>
   simp only[sliceBounds,HT.sIx,Option.getD_none,show(1:Int)>0 by decide,if_true];by_cases h:i<0
   ·simp only[h,if_true]<;>omega
   ·simp only[h,if_false]<;>omega
theorem zGR(its:List Value)(lo hi:Option Int):slicePick its.toArray lo hi none=((its.drop (HT.sIx its.length 0 lo)).take (HT.sIx its.length its.length hi-HT.sIx its.length 0 lo)).toArray:=by
 obtain⟨h1,h2,h3⟩:=zHF lo hi its.toArray.size;unfold slicePick;rw[h1,h2,h3];simp only[sliceRange_one,pick_run,fY]<;>rfl
def zUn(K:14#0):V->Option Int->Option Int->Hp->VK->Prop:=fun x lo hi H Q=>∃ a xs,x=.ref a/\SqL K H a xs/\∀ p,H p=none->Q (.ref p) (yx H p (.lst (zIK xs lo hi)))
theorem zPE:SlR X (zUn X.K):=by
 intro pins s σ H x v vl vu lo hi sl Q I rx hs pl pu h;obtain⟨a,xs,rfl,hx,q⟩:=h;cases rx;obtain⟨its,r,ht,hz⟩:=I.list hx;have hlen:=r.length;refine⟨"list",_,slot_list_getitem.lookup,ht.isList.typeIs,?_⟩;refine wpAny_getItem_list_slice ht.isList hs pl pu .none 27#0 ?_ (by rw[fY]<;>omega);rw[zGR,<-hlen];refine⟨.ref s.heap.objs.size,_,I.laid (t':=s.toks) (o:=.lst (zIK xs lo hi)) (fun b ob q=>fC _ q) (fP _) ?_,rfl,q _ (I.hok.fresh (fP _))⟩;exact⟨gt (zEg xs lo hi) hz,_,0,(r.drop (HT.sIx xs.length 0 lo)).take (HT.sIx xs.length xs.length hi-HT.sIx xs.length 0 lo),fM _ rfl⟩
noncomputable def zKg:V->Bool
 | .non=>true
 | .bl _=>true
 | .int _=>true
 | .str _=>true
 | _=>false
noncomputable def eqV:V->V->Bool
 | .non,.non=>true
 | .bl a,.bl b=>a==b
 | .bl a,.int b=>(if a then 1 else 0)==b
 | .int a,.bl b=>a==(if b then 1 else 0)
 | .int a,.int b=>a==b
 | .str a,.str b=>a==b
 | _,_=>false
theorem zMs{A:Around}{s:Shared}{y x:V}{u v:Value}(ry:RelV y u)(rx:RelV x v)(fy:zKg y=true)(fx:zKg x=true):SeqAt.EqAt A s u v (eqV y x):=by
 cases y with
 | non =>
  cases ry;cases x with
  | non=>cases rx;exact SeqAt.EqAt.same _
  | bl b=>cases rx;exact SeqAt.EqAt.none_bool b
  | int b=>obtain⟨t,rfl⟩:=rx;exact SeqAt.EqAt.none_int b t
  | str b=>obtain⟨t,rfl⟩:=rx;exact SeqAt.EqAt.none_str b t
  | _=>exact absurd (show false=true from fx) gH
 | bl a =>
  cases ry;cases x with
  | non=>cases rx;exact SeqAt.EqAt.bool_none a
  | bl b=>cases rx;exact SeqAt.EqAt.bool_bool a b
  | int b=>obtain⟨t,rfl⟩:=rx;exact SeqAt.EqAt.bool_int a b t
  | str b=>obtain⟨t,rfl⟩:=rx;exact SeqAt.EqAt.bool_str a b t
  | _=>exact absurd (show false=true from fx) gH
 | int a =>
  obtain⟨t',rfl⟩:=ry;cases x with
  | non=>cases rx;exact SeqAt.EqAt.int_none a t'
  | bl b=>cases rx;exact SeqAt.EqAt.int_bool a t' b
  | int b=>obtain⟨t,rfl⟩:=rx;exact SeqAt.EqAt.int_int a t' b t
  | str b=>obtain⟨t,rfl⟩:=rx;exact SeqAt.EqAt.int_str a t' b t
  | _=>exact absurd (show false=true from fx) gH
 | str a =>
  obtain⟨t',rfl⟩:=ry;cases x with
  | non=>cases rx;exact SeqAt.EqAt.str_none a t'
  | bl b=>cases rx;exact SeqAt.EqAt.str_bool a t' b
  | int b=>obtain⟨t,rfl⟩:=rx;exact SeqAt.EqAt.str_int a t' b t
  | str b=>obtain⟨t,rfl⟩:=rx;exact SeqAt.EqAt.str_str a t' b t
  | _=>exact absurd (show false=true from fx) gH
 | _=>exact absurd (show false=true from fy) gH
theorem zHG:zAX X (.builtin "len") (fun xs H Q=>∃ p ys,xs=[.ref p]/\(SqL X.K H p ys\/SqT X.K H p ys)/\Q (.int ys.length) H):=by
 intro pins s σ H xs us Q I r h;obtain⟨p,ys,rfl,hq,q⟩:=h;obtain⟨u,rfl,rx⟩:=vals1 r;cases rx;have hn:=zHE;rcases hq with hq | hq
 ·obtain⟨its,r',pl,hz⟩:=I.list hq
  have hlen:=r'.length;exact Calls.call_len_list pl.isList (by simp only[fY]<;>omega) ⟨.int ys.length,H,I.tok _,⟨s.toks+1,by rw[fY,hlen]⟩,q⟩
 ·obtain⟨its,r',pl,hz⟩:=I.tuple hq
  have hlen:=r'.length;exact len_tuple pl (by simp only[fY]<;>omega) ⟨.int ys.length,H,I.tok _,⟨s.toks+1,by rw[fY,hlen]⟩,q⟩
theorem zHH:zAX X (.builtin "len") (fun xs H Q=>∃ z,xs=[.str z]/\z.length<=sizeLine/\Q (.int z.length) H):=by
 intro pins s σ H xs us Q I r h;obtain⟨z,rfl,hz,q⟩:=h;obtain⟨u,rfl,t,rfl⟩:=vals1 r;have hn:=zHE;exact len_str 17#0 ⟨.int z.length,H,I.tok _,⟨_,rfl⟩,q⟩
theorem zAX.or{f:Value}{r r':List V->Hp->VK->Prop}(h:zAX X f r)(h':zAX X f r'):zAX X f (fun xs H Q=>r xs H Q\/r' xs H Q):=by
 intro pins s σ H xs us Q I rs q;rcases q with q | q
 ·exact h pins s σ H xs us Q I rs q
 ·exact h' pins s σ H xs us Q I rs q
theorem zGS:zAX X (.type "tuple") (fun xs H Q=>∃ p ys,xs=[.ref p]/\((SqL X.K H p ys/\∀ l,H l=none->Q (.ref l) (yx H l (.tup ys)))\/(SqT X.K H p ys/\Q (.ref p) H))):=by
 intro pins s σ H xs us Q I r h;obtain⟨p,ys,rfl,h⟩:=h;obtain⟨u,rfl,rx⟩:=vals1 r;cases rx;rcases h with ⟨hq,q⟩ | ⟨hq,q⟩
 ·obtain⟨its,r',pl,hz⟩:=I.list hq
  have hlen:=r'.length;refine call_tuple_list pl.isList (fun h' kp=>?_) (by simp only[fY]<;>omega);have I1:zT X pins σ H { s with heap:=h' }:=I.kept (t':=s.toks) kp;have I2:zT X pins σ (yx H h'.objs.size (.tup ys)) { s with heap:=h'.push { cls:=.type "tuple",data:=.seq its.toArray } } :=
   I1.laid (t':=s.toks) (fun b o e=>fC _ e) (fP _) (show yy X.prog X.w _ _ _ (.tup ys) from⟨hz,its,r',zEx.new _ _⟩)
  exact⟨.ref h'.objs.size,_,I2,rfl,q _ (I1.hok.fresh (fP _))⟩
 ·obtain⟨its,r',pl,hz⟩:=I.tuple hq
  exact call_tuple_same pl ⟨.ref p,H,I,rfl,q⟩
def tyV(K:14#0)(T:String)(x:V)(H:Hp):Prop:=match x with
 | .str _=>T="str"
 | .int _=>T="int"
 | .ref p=>(T="list"/\∃ xs,SqL K H p xs)\/(T="tuple"/\∃ xs,SqT K H p xs) \/
   (T="dict"/\((∃ kvs,H p=some (.dK kvs))\/∃ kvs,H p=some (.dT kvs)))\/(T="set"/\∃ S n,H p=some (.set S n))
 | _=>False
theorem zMt{pins:20#0}{σ:St}{H:Hp}{s:Shared}{T:String}{x:V}{v:Value}(I:16#0)(r:RelV x v)(ty:tyV X.K T x H) :
  s.TypeIs v T/\∀ a,v=.ref a->∃ ob,s.heap.get? a=some ob/\ob.dict=none:=by
 cases x with
 | str z =>
  obtain⟨t,rfl⟩:=r;cases (show T="str" from ty);exact⟨typeIs_str s z t,fun u0 e=>nomatch e⟩
 | int i =>
  obtain⟨t,rfl⟩:=r;cases (show T="int" from ty);exact⟨typeIs_int s i t,fun u0 e=>nomatch e⟩
 | ref p =>
  cases r;rcases ty with ⟨rfl,xs,hq⟩ | ⟨rfl,xs,hq⟩ | ⟨rfl,hk⟩ | ⟨rfl,S,n,hk⟩
  ·obtain⟨its,u0,pl,u0⟩:=I.list hq
   refine⟨pl.isList.typeIs,fun a e=>?_⟩;cases e;obtain⟨o,n,e,c,hd,u0⟩:=pl;exact⟨o,e,hd⟩
  ·obtain⟨h1,o,h2,h3⟩:=I.noDict hq
   refine⟨h1,fun a e=>?_⟩;cases e;exact⟨o,h2,h3⟩
  ·have z:∃ o,s.heap.get? p=some o/\o.ExactDict:=by
    rcases hk with ⟨kvs,hk⟩ | ⟨kvs,hk⟩
    ·obtain⟨u0,u0,u0,u0,o,u0,u0,e,ex,u0⟩:=I.hok p _ hk
     exact⟨o,e,ex⟩
    ·obtain⟨u0,u0,u0,u0,o,u0,u0,e,ex,u0⟩:=I.hok p _ hk
     exact⟨o,e,ex⟩
   obtain⟨o,e,ex⟩:=z;refine⟨⟨o,e,ex.1⟩,fun a e2=>?_⟩;cases e2;exact⟨o,e,ex.2.1⟩
  ·obtain⟨o,u0,u0,u0,e,ex,u0⟩:=I.hok p _ hk
   refine⟨⟨o,e,ex.1⟩,fun a e2=>?_⟩;cases e2;exact⟨o,e,ex.2.1⟩
 | _=>exact False.elim ty
def tBM(K:14#0)(T:String)(r:V->List V->Hp->VK->Prop)(to:TE)(t:TA):TE:=fun σ H Q=>to σ H fun x H1=>tyV K T x H1/\t σ H1 fun xs H2=>r x xs H2 Q
variable {o e:Expr} {es:List Expr} {to:TE} {t:TA} {name:Str} {apos cpos:Pos} {T id:String} {r:V->List V->Hp->VK->Prop}
theorem zIL(pa:PlainAttrs T)(slot:Slot T name id)(hty:typeOf (.builtin id)=pure (.type "method_descriptor"))(hm:MtR X id r)(ho:PE X o to)(ha:PA X (e::es) t)
  (hbase:autoParam (attributeBase o name X.env (eval o X.env)=eval o X.env) Zq5._auto_1)
  (hfew:autoParam (((backTo cpos (starEach (e::es) X.env)).all (fun x=>!x.1)&&(backToKw cpos (keywordEach [] X.env)).all (fun x=>x.1.isSome)
   && decide ((e::es).length+([]:List Keyword).length+(if ([]:List Keyword).isEmpty then 0 else 1)<30))=true) Zq5._auto_1)
  (hline:autoParam ((apos.endLine==cpos.line)=true) Zq5._auto_1) (hs:2#0) (hplain:autoParam ((backTo cpos (starEach es X.env)).any (·.1)=false) Zq5._auto_1) :
  PE X (.Call (.Attribute o name apos) (e::es) [] cpos) (tBM X.K T r to t):=by
 intro pins s σ H Q I h;refine wpAny_Call_method_late hbase hfew hline rfl (yV (ho pins s σ H _ I h) fun v s1 u9=>?_);obtain⟨x,H1,I1,r1,ty,q1⟩:=u9;obtain⟨h1,h2⟩:=zMt I1 r1 ty;refine⟨T,id,pa,slot,hty,h1,h2,?_⟩;have hA:=ha cpos pins s1 σ H1 _ I1 q1;rw[hs] at hA ⊢;refine Calls.callWith_builtin (by show(false||(backTo cpos (starEach es X.env)).any (·.1))=false;rw[hplain]<;>rfl) (Calls.evalArgs_plain ?_);exact yV hA fun us s2 ⟨vs,H2,I2,r2,q2⟩=>hm pins s2 σ H2 x vs v us Q I2 r1 r2 q2
end
def MtM(X:Cx)(id:String)(r:V->List V->Hp->VK->Prop):Prop :=
 ∀(pins:20#0) (s:Shared) (σ:St) (H:Hp) (x:V) (xs:List V) (v:Value) (us:List Value) (Q:VK),zT X pins σ H s->RelV x v->zy xs us->r x xs H Q ->
  wpAny 13#0 X.A (call (.builtin id) (v::us)) (EP X pins σ Q) X.xe s
theorem zy.one:∀ {x:V} {us:List Value},zy [x] us->∃ u,us=[u]/\RelV x u
 | _,_,.cons r .nil=>⟨_,rfl,r⟩
theorem zy.zero:∀ {us:List Value},zy [] us->us=[]
 | _,.nil=>rfl
section
variable {X:Cx} {pins:List (Addr×Obj)} {σ:St} {H:Hp} {s:Shared} {l b:Addr} {xs ys zs:List V}
theorem zT.lset{its its':List Value}{n:Nat}{f:Array Value->Array Value}{t':Nat}(I:16#0)(hH:H l=some (.lst xs))
  (e:s.heap.get? l=some { cls:=.type "list",data:=.seq its.toArray n }) (hf:f its.toArray=its'.toArray) (hv:zy ys its') (hz:ys.length<=sizeLine) :
  zT X pins σ (yx H l (.lst ys)) { s with heap:=s.heap.update l (Obj.mapSeq f),toks:=t' }:=by
 have q:=PySem.IsL.update e f;rw[hf] at q;refine I.write (x:=l) (e:=l) (by rw[hH];exact trivial) (.inl rfl) (fun b' u hb hu=>(Heap.get?_update_other s.heap (Obj.mapSeq f) (Ne.symm hb)).trans hu) ⟨_,q⟩ ?_;exact⟨hz,its',_,hv,q⟩
theorem zT.lnew{its:List Value}{t':Nat}(I:16#0)(hv:zy ys its)(hz:ys.length<=sizeLine) :
  zT X pins σ (yx H s.heap.objs.size (.lst ys)) { s with heap:=s.heap.push { cls:=.type "list",data:=.seq its.toArray },toks:=t' } :=
 I.laid (fun u0 u0 q=>fC _ q) (fP _) ⟨hz,its,0,hv,fM _ rfl⟩
theorem zT.fresh(I:16#0):H s.heap.objs.size=none:=I.hok.fresh (fP _)
theorem zT.lstM(I:16#0)(hH:H l=some (.lst xs)):xs.length<=sizeLine/\∃(its:List Value) (n:Nat),zy xs its/\xs.length=its.length/\s.heap.get? l=some { cls:=.type "list",data:=.seq its.toArray n }:=by
 obtain⟨z,its,n,r,e⟩:=I.hok l _ hH;exact⟨z,its,n,r,r.length,e⟩
theorem zMu{n:Nat}(h:n<=sizeLine):Builtin.List.listTooLong n=false:=by
 unfold Builtin.List.listTooLong;exact decide_eq_false 17#0
end
section
variable {X:Cx}
def zPF:V->List V->Hp->VK->Prop:=fun x vs H Q=>∃ l xs y,x=.ref l/\vs=[y]/\H l=some (.lst xs)/\xs.length<sizeLine/\Q .non (yx H l (.lst (xs++[y])))
theorem zEL:MtM X "list.append" zPF:=by
 intro pins s σ H x vs v us Q I rx rv h;obtain⟨l,xs,y,rfl,rfl,hH,hz,q⟩:=h;cases rx;obtain⟨u,rfl,ru⟩:=rv.one;obtain⟨z,its,n,r,hl,e⟩:=I.lstM hH;refine call_meets F.slot_list_append ⟨_,e,rfl⟩ F.entry_list_append (F.args_list_append_2 _ _) (PySem.list_append l its.toArray n u (by rw[fY];omega)) ⟨e,?_⟩;refine⟨.non,_,I.lset (its':=its++[u]) hH e 27#0 (r.append (.cons ru .nil)) ?_,rfl,q⟩;rw[gj,List.length_singleton];omega
def zPG:V->List V->Hp->VK->Prop:=fun x vs H Q=>∃ l b xs zs,x=.ref l/\vs=[.ref b]/\H l=some (.lst xs)/\H b=some (.lst zs)/\xs.length+zs.length<=sizeLine/\Q .non (yx H l (.lst (xs++zs)))
theorem zLb:MtM X "list.extend" zPG:=by
 intro pins s σ H x vs v us Q I rx rv h;obtain⟨l,b,xs,zs,rfl,rfl,hH,hB,hz,q⟩:=h;cases rx;obtain⟨u,rfl,ru⟩:=rv.one;cases ru;obtain⟨z,its,n,r,hl,e⟩:=I.lstM hH;obtain⟨z2,its2,n2,r2,hl2,e2⟩:=I.lstM hB;have hsz:its.toArray.size+its2.toArray.size<=sizeLine:=by rw[fY,fY];omega
 have hlong:¬ (!its.toArray.isEmpty&&Builtin.List.listTooLong (its.toArray.size+its2.toArray.size))=true:=by
  rw[zMu hsz,Bool.and_false];exact gH
 refine call_meets F.slot_list_extend ⟨_,e,rfl⟩ F.entry_list_extend (F.args_list_extend_2 _ _)
  (AutoSeq1.list_extend_list_list_0 l its.toArray n b its2.toArray n2 hlong (by rw[fY];omega) 17#0) ⟨e,e2,?_⟩
 refine⟨.non,_,I.lset (its':=its++its2) hH e 27#0 (r.append r2) ?_,rfl,q⟩;rw[gj];omega
def zUo:R2:=fun x y H Q=>∃ l b xs zs,x=.ref l/\y=.ref b/\H l=some (.lst xs)/\H b=some (.lst zs)/\xs.length+zs.length<=sizeLine/\∀ p,H p=none->Q (.ref p) (yx H p (.lst (xs++zs)))
theorem zRm:OpR X (binaryOp .Add) zUo:=by
 intro pins s σ H x y v u Q I rx ry h;obtain⟨l,b,xs,zs,rfl,rfl,hH,hB,hz,q⟩:=h;cases rx;cases ry;obtain⟨z,its,n,r,hl,e⟩:=I.lstM hH;obtain⟨z2,its2,n2,r2,hl2,e2⟩:=I.lstM hB;refine PySem.P.add_list e e2 ?_ (by rw[fY,fY];omega);have ea:its.toArray++its2.toArray=(its++its2).toArray:=by simp
 rw[ea];exact⟨.ref _,_,I.lnew (t':=s.toks) (r.append r2) (by rw[gj];omega),rfl,q _ I.fresh⟩
end
section
variable {prog:Program} {w:World} {A:Around} {E:Value->Shared->Prop} {s:Shared}
end
section
variable {X:Cx}
end
end L2
namespace Att
open PySem PySem.W PySem.Calls PyProof.Rows
theorem zEz{P:Params}{h:Heap}:∀(ns:List Int) (vs:List Value),WellAll P h vs (ns.map WData.int)->IntsAre vs ns:=by
 intro ns
 induction ns with
 | nil =>
  intro vs w;rw[List.map_nil] at w;cases w;exact .nil
 | cons n ns ih =>
  intro vs w;rw[fJ] at w;cases w with
  | cons a b =>
   cases a;exact .cons _ _ (ih _ b)
theorem zLc{l:OpenLaw}{n:Nat}(hn:l.most=some n){P:Params}{h:Heap}{args:List WData}{vals:List Value}
  (hpre:l.row.toRowW.claim.pre args=true) (hwl:WellAll P h vals args) :
  ∃ a vs ns,vals=[Value.ref a]/\args=[WData.list (ns.map WData.int)]/\h.get? a=some { cls:=.type "list",data:=.seq vs.toArray }/\IntsAre vs ns/\ns.length<=n:=by
 have hsh:WShape.hasAll [] args [.list .int]=true:=(pre_splitW hpre).1;have hc:l.pre.holds [] { args:=args }=true:=(pre_splitW hpre).2;obtain⟨d,r,rfl,h1,h2⟩:=hasAllW_cons hsh;obtain rfl:=hasAllW_nil h2;obtain⟨xs,rfl,h3⟩:=hasW_list h1;obtain⟨ns,rfl⟩:=items_int h3;have hlen:ns.length<=n:=by
  unfold OpenLaw.pre at hc;have h4:(WTm.not (.lt (.lit (.int (n:Int))) (.len (.arg 0)))).holds [] { args:=[.list (ns.map .int)] }=true:=by
   have h4:=(holds_andW hc).1;rw[hn] at h4;exact h4
  have h5:=condW_of h4 (w_not (w_lt w_lit (w_len_list (w_arg rfl))));rw[fE] at h5;refine Nat.le_of_not_lt fun q=>?_;have q':(n:Int)<((ns.length:Nat):Int):=by omega
  first
   | (rw[decide_eq_true q'] at h5;exact absurd h5 11#0)
   | (simp at h5;omega)
 cases hwl with
 | cons w1 w2 =>
  cases w2;cases w1 with
  | list ho hall=>exact⟨_,_,ns,rfl,rfl,ho,zEz ns _ hall,hlen⟩
theorem zLd(l:OpenLaw)(args:List WData):l.row.toRowW.claim.post args (.bool true) args=true :=
 postW_of (r:=l.row.toRowW) (X:=(true==true))
  (show WShape.has [] (.bool true) .bool=true by first | rfl | decide | simp[WShape.has,WShape.arms,WShape.armsAll])
  (show(WTm.eq .res (.lit (.bool true))).value [] { args:=args,res:=some (.bool true),after:=args }=some (.bool (true==true)) from w_eq_bool (w_res rfl) w_lit) rfl
theorem zIM{l:OpenLaw}{n:Nat}{q:Program}{loose:List Str}{XP:(Str->Option Value)->Heap->Prop}{YP:World->Heap->Prop}{d:DefRec}
  (hn:l.most=some n) (hdf:d.params.defaults=[])
  (call:∀(w:World) (s₀ s₁:Shared) (mg mb:Str->Option Value) (fa:Addr) (o:Obj) (pm cd doc:Value) (a:Addr) (vs:List Value) (ns:List Int),
   Ground q loose [] XP w s₀ mg mb s₁.heap->YP w s₁.heap ->
   s₁.heap.get? fa=some o->o.data=.func (docDef d.name d.params d.body d.scope pm cd doc)->s₁.heap.CodeRec cd d.name->mg d.name=some (.ref fa) ->
   s₁.heap.get? a=some { cls:=.type "list",data:=.seq vs.toArray }->IntsAre vs ns->ns.length<=n->s₁.gens=#[] ->
   codeAny (model l.prog w) callerA (.call (.ref fa) ⟨[.ref a],[]⟩) (fun r s'=>r=.ok (.ret (.bool true))/\OldK s₁.heap s'.heap/\s'.os=s₁.os/\AllBare s'.gens) s₁) :
  WalkO q loose XP YP l.row.toRowW d [] (fun f vs=>PySem.call f vs):=by
 intro w s₀ s₁ mg mb G Y fa o pm cd doc dV kV ho hd hcd hD hmg hg args vals as hpre hlay hrd hwl hlo;obtain rfl:dV=.none:=Dflts.none hD hdf;obtain rfl:kV=.none:=Dflts.noKw hD;obtain⟨a,vs,ns,rfl,rfl,hobj,hints,hlen⟩:=zLc hn hpre hwl;refine enter_call (gG (call w s₀ s₁ mg mb fa o pm cd doc a vs ns G Y ho (fd_plain hd) hcd hmg hobj hints hlen hg) fun r s' hq=>?_);obtain⟨rfl,h2,h3,h4⟩:=hq;exact⟨.inl ⟨.bool true,.bool true,[],rfl,fun u0=>rfl,.bool true,zLd l _,fun u0=>⟨List.Pairwise.nil,fun u0 hm=>(nomatch hm)⟩⟩,h2,h3,h4⟩
section
variable {prog:Program} {w:World} {A:Around} {E:Value->Shared->Prop} {s:Shared} {K:Frag}
end
end Att
namespace L2
theorem zGi:∀ {vs:List Value} {ns:List Int},IntsAre vs ns->zy (ns.map V.int) vs
 | _,_,.nil=>.nil
 | _,_,.cons n t h=>.cons ⟨t,rfl⟩ (zGi h)
def zPH(H:Hp):Prop:=∀ b,H b=none\/(∃ o xs,H b=some (.frz o (.lst xs)))\/∃ ps,H b=some (.tbl ps)
structure TabsAt (K:PySem.W.Frag) (h:Heap) (ts:List Addr) (qn:Addr->Str):Prop where
 obj:∀ P∈ts,h.get? P=some (PySem.W.tabObj #[])
 out:∀ P∈ts,K.lookup P=none
 code:∀ P∈ts,isCodeTable h P
 name:∀ x∈zCI,∀ c b,PySem.W.tabIn K x=some (c,b)->b∈ts/\qn b=x++".<locals>.<lambda>"
abbrev CX0:CXT:=fun u0 u0 u0 u0 u0 u0=>False
abbrev E0:XK:=fun u0 u0 u0=>False
theorem zKh{X:Cx}:zEJ CX0 X E0:=fun u0 u0 u0 u0 u0 u0 u0 h=>h.elim
structure Fun (K:PySem.W.Frag) (x qual:Str) (st:Stmt) (f:Addr) (fd:FuncData):Prop where
 ex:∃(oc:Value) (od:Option Addr) (kV doc pm:Value) (an:Option Addr) (cdv ct:Value) (osl:12#0),
  fd=PySem.W.fnOf x qual (za st) (zR st) (zD st) .none kV doc pm an cdv ct/\K.lookup f=some ⟨oc,od,.func fd,osl⟩/\PySem.W.codeIn K cdv qual=true
 kp:PySem.W.keepIn K (.ref f)=true
section
variable {P:Program} {w:World} {K:PySem.W.Frag} {mg:Str->Option Value} {base:Heap}
theorem Fun.ok{x qual:Str}{st:Stmt}{f:Addr}{fd:FuncData}{N ps:List Str}{k:Nat}{sp:Sp}(F:Fun K x qual st f fd)(S:zV N ps (zD st))(len:∀ vs H Q E,sp vs H Q E->vs.length=ps.length)
  (hbody:∀(cdv:Value) (A:Around) (outer:List Env) (s:Shared) (H:Hp) (vs:List V) (Q:VK) (E:XK),yS k (A.deeper (envOfC qual (zD st) s.heap.objs.size f cdv))->sp vs H Q E ->
   ∃ t,PSs (zBi CX0 P w K mg base N qual (zD st) f cdv A outer s H E).nox (zR st) t/\t { nx:=fun u0 H'=>Q .non H',rt:=Q } (start N vs) H):zCm P w K mg base CX0 (k+1) f fd ps sp:=by
 obtain⟨oc,od,kV,doc,pm,an,cdv,ct,osl,rfl,lk,hcd⟩:=F.ex;refine zQk lk hcd S len fun A outer s H vs Q E hr hsp=>?_;obtain⟨t,h,q⟩:=hbody cdv A outer s H vs Q E hr hsp;exact⟨t,h.nox,q⟩
theorem Fun.binds{x qual:Str}{st:Stmt}{f:Addr}{fd:FuncData}{ps:List Str}(F:Fun K x qual st f fd)
  (h:∀(kV doc pm:Value) (an:Option Addr) (cdv ct:Value) (us:List Value),us.length=ps.length->bindArgs (PySem.W.fnOf x qual (za st) (zR st) (zD st) .none kV doc pm an cdv ct) ⟨us,[]⟩=pure (ps.zip us)):Binds K fd ps []:=by
 obtain⟨oc,od,kV,doc,pm,an,cdv,ct,osl,rfl,lk,hcd⟩:=F.ex;exact .all (h kV doc pm an cdv ct)
theorem zd{x qual:Str}{st:Stmt}{f:Addr}{oc:Value}{od an:Option Addr}{osl:12#0}{kV doc pm cdv ct:Value}(l:K.lookup f=some ⟨oc,od,.func (PySem.W.fnOf x qual (za st) (zR st) (zD st) .none kV doc pm an cdv ct),osl⟩)
  (c:PySem.W.codeIn K cdv qual=true) (k:PySem.W.keepIn K (.ref f)=true):Fun K x qual st f (PySem.W.fnOf x qual (za st) (zR st) (zD st) .none kV doc pm an cdv ct):=⟨⟨oc,od,kV,doc,pm,an,cdv,ct,osl,rfl,l,c⟩,k⟩
end
section
variable {X:Cx}
end
def zFX(H H':Hp):Prop:=∀ b o,H b=some o->H' b=some o
theorem zFX.refl(H:Hp):zFX H H:=fun u0 u0 h=>h
theorem zFX.free{H H':Hp}(e:zFX H H'){l:Addr}(h:H' l=Option.none):H l=Option.none:=by
 cases q:H l with
 | none=>rfl
 | some o =>
  rw[e l o q] at h;cases h
theorem zFX.seq{K:14#0}{H H':Hp}{a:Addr}{xs:List V}(e:zFX H H')(h:SqL K H a xs):SqL K H' a xs:=by
 rcases h with (h | ⟨o,h⟩) | h
 ·exact .inl (.inl (e _ _ h))
 ·exact .inl (.inr ⟨o,e _ _ h⟩)
 ·exact .inr h
noncomputable def zEM(env:Env):List (Str×NameKind)->List (Str×Addr)->List (Str×Addr)
 | [],cs=>cs
 | (n,k)::r,cs=>zEM env r (if k==.free then match env.cells.lookup n with | some a=>(n,a)::cs | none=>cs else cs)
noncomputable def zBj(sc:Scope)(env:Env):List (Str×Addr):=zEM env sc.names []
theorem zGj{env:Env}:∀ {ns:List (Str×NameKind)} {cs:List (Str×Addr)} {x:Str} {c:Addr},(∀ y a,cs.lookup y=some a->env.cells.lookup y=some a)->(zEM env ns cs).lookup x=some c->env.cells.lookup x=some c
 | [],_,_,_,h,e=>h _ _ e
 | (n,k)::r,cs,x,c,h,e=>by
  unfold zEM at e;refine zGj (ns:=r) (fun y a q=>?_) e;by_cases hk:(k==NameKind.free)=true
  ·rw[if_pos hk] at q
   cases hc:env.cells.lookup n with
   | none=>rw[hc] at q;exact h y a q
   | some d =>
    rw[hc] at q;cases hy:y==n with
    | true =>
     simp only[fU,hy] at q;have:y=n:=by simpa using hy
     rw[this,hc];exact q
    | false =>
     simp only[fU,hy] at q;exact h y a q
  ·rw[if_neg hk] at q;exact h y a q
theorem zAt{sc:Scope}{env:Env}{x:Str}{c:Addr}(e:(zBj sc env).lookup x=some c):env.cells.lookup x=some c :=
 zGj (fun u0 u0 q=>by simp at q) e
theorem zB5{env:Env}:∀ {ns:List (Str×NameKind)} {cs:List (Str×Addr)} {x:Str},(∀ y∈ns,y.2=.free->∃ c,env.cells.lookup y.1=some c)->((∃ c,cs.lookup x=some c)\/(x,NameKind.free)∈ns)->∃ c,(zEM env ns cs).lookup x=some c
 | [],cs,x,_,h=>by
  rcases h with h | h
  ·exact h
  ·cases h
 | (n,k)::r,cs,x,hh,h=>by
  unfold zEM;refine zB5 (ns:=r) (fun y hy=>hh y (g9 _ hy)) ?_;by_cases hk:k=.free
  ·subst hk
   obtain⟨c,hc⟩:=hh (n,.free) gg rfl;have hc':env.cells.lookup n=some c:=hc;simp only[beq_self_eq_true,if_true,hc'];cases hx:x==n with
   | true=>exact .inl ⟨c,by simp[fU,hx]⟩
   | false =>
    rcases h with ⟨d,h⟩ | h
    ·exact .inl ⟨d,by simp[fU,hx,h]⟩
    ·rcases fS.mp h with e | h
     ·injection e with e1 _
      subst e1;simp at hx
     ·exact .inr h
  ·have hb:(k==NameKind.free)=false:=by simpa using hk
   simp only[hb,gI,if_false];rcases h with h | h
   ·exact .inl h
   ·rcases fS.mp h with e | h
    ·injection e with _ e2
     exact absurd e2.symm hk
    ·exact .inr h
theorem zIN{env:Env}:∀ {ns:List (Str×NameKind)} {cs:List (Str×Addr)},(∀ y∈ns,y.2=.free->∃ c,env.cells.lookup y.1=some c) ->
  (forIn ns cs fun(x:Str×NameKind) (r:List (Str×Addr))=>if (x.2==NameKind.free)=true then (do let a <-cellOf env x.1;pure (ForInStep.yield ((x.1,a)::r)):Sem _) else pure (ForInStep.yield r))=(pure (zEM env ns cs):Sem _)
 | [],_,_=>rfl
 | (n,k)::r,cs,hh=>by
  rw[iE];have ih:=fun cs'=>zIN (env:=env) (ns:=r) (cs:=cs') fun y hy=>hh y (g9 _ hy);by_cases hk:k=.free
  ·subst hk
   obtain⟨c,hc⟩:=hh (n,.free) gg rfl;have hc':env.cells.lookup n=some c:=hc;have e:cellOf env n=pure c:=by unfold cellOf;rw[hc']
   simp only[beq_self_eq_true,if_true,e,pure_bind];rw[ih];have q:zEM env ((n,NameKind.free)::r) cs=zEM env r ((n,c)::cs):=by simp only[zEM,beq_self_eq_true,if_true,hc']
   rw[q]
  ·have hb:(k==NameKind.free)=false:=by simpa using hk
   simp only[hb,gI,if_false,pure_bind];rw[ih];have q:zEM env ((n,k)::r) cs=zEM env r cs:=by simp only[zEM,hb,gI,if_false]
   rw[q]
theorem wb{sc:Scope}{env:Env}(hh:∀ y∈sc.names,y.2=.free->∃ c,env.cells.lookup y.1=some c):closureFor sc env=pure (zBj sc env):=by
 have e:=zIN (env:=env) (ns:=sc.names) (cs:=[]) hh;unfold closureFor;show(forIn sc.names [] (fun(x:Str×NameKind) (r:List (Str×Addr))=>(match x with | (name,kind)=>if (kind==NameKind.free)=true then (do let a <-cellOf env name;pure (ForInStep.yield ((name,a)::r))) else pure (ForInStep.yield r):Sem (ForInStep (List (Str×Addr)))))>>=fun s=>pure s)=_;have hb:(fun(x:Str×NameKind) (r:List (Str×Addr))=>(match x with | (name,kind)=>if (kind==NameKind.free)=true then (do let a <-cellOf env name;pure (ForInStep.yield ((name,a)::r))) else pure (ForInStep.yield r):Sem (ForInStep (List (Str×Addr))))) =
   fun(x:Str×NameKind) (r:List (Str×Addr))=>if (x.2==NameKind.free)=true then (do let a <-cellOf env x.1;pure (ForInStep.yield ((x.1,a)::r)):Sem _) else pure (ForInStep.yield r):=by
  funext x r;obtain⟨n,k⟩:=x;rfl
 rw[hb,e];rfl
noncomputable def Cx.comp(X:Cx)(N':List Str)(sc:Scope)(C:Addr)(s:Shared)(H:Hp)(fp:List Addr)(pins:20#0):Cx :=
 { X with N:=N',s₀:=s,H₀:=H,env:=compEnvC sc (zBj sc X.env) C X.env,outer:=X.stack,ex:=fp,fn:=fun u0=>false,pn:=X.pn++pins,xe:=fun u0 u0=>False }
def PTs(X:Cx)(ifs:List Expr)(t:TT):Prop :=
 ∀(pins:20#0) (s:Shared) (σ:St) (H:Hp) (Q:Bool->Hp->Prop),zT X pins σ H s->t σ H Q ->
  wpAny 13#0 X.A (forIn ifs true fun c r=>if r=true then do let ok <-isTrue c X.env (eval c X.env);pure (ForInStep.yield ok) else pure (ForInStep.yield r)) (TP X pins σ Q) X.xe s
def zUp:TT:=fun u0 H Q=>Q true H
theorem zPI{X:Cx}:PTs X [] zUp:=fun u0 u0 u0 H u0 I h=>wpAny_tests_nil ⟨H,I,h⟩
theorem zPJ{X:Cx}{c:Expr}{t:TT}(h:PT X c t):PTs X [c] t:=fun pins s σ H Q I hq=>wpAny_tests_one (h pins s σ H Q I hq)
def zMv(n0:Nat)(wi:TI)(g:TG)(tc:TT)(te:TE):TE:=fun σ H Q=>wi σ H fun J H1=>∀ D,H1 D=none->∃ W:Nat->Nat->Hp->Prop,(∃ m,W 0 m (yx H1 D (.lst []))) /\
 ∀ i m H2,W i m H2->(J.stop i H2/\Q (.ref D) H2) \/
  (J.go i H2/\∀ x H3,J.yld i H2 x H3->g x (σ++fX n0 none) H3 fun σ4 H4=>σ4.take σ.length=σ/\σ4.length=σ.length+n0/\tc σ4 H4 fun b H5 =>
   if b=true then te σ4 H5 fun v H6=>∃ acc,H6 D=some (.lst acc)/\acc.length<sizeLine/\∃ m',m'<m/\W (i+1) m' (yx H6 D (.lst (acc++[v]))) else ∃ m',m'<m/\W (i+1) m' H5)
theorem PE.mono{X:Cx}{e:Expr}{t t':TE}(h:PE X e t)(hm:∀ σ H Q,t' σ H Q->t σ H Q):PE X e t':=fun pins s σ H Q I q=>h pins s σ H Q I (hm σ H Q q)
theorem PT.mono{X:Cx}{e:Expr}{t t':TT}(h:PT X e t)(hm:∀ σ H Q,t' σ H Q->t σ H Q):PT X e t':=fun pins s σ H Q I q=>h pins s σ H Q I (hm σ H Q q)
theorem PS.mono{X:Cx}{e:Stmt}{t t':TS}(h:PS X e t)(hm:∀ D σ H,t' D σ H->t D σ H):PS X e t':=fun pins s σ H D I q=>h pins s σ H D I (hm D σ H q)
section
variable {X:Cx} {tg elt iter:Expr} {ifs:List Expr} {sc:Scope} {pos:Pos} {N0 own:List Str} {wi:TI} {g:TG} {tc:TT} {te:TE}
structure zBd (X:Cx) (sc:Scope) (N0:List Str):Prop where
 kind:sc.kind=.function
 cell:∀ y∈sc.names,y.2≠.cell
 names:∀ y∈sc.names,y.2=.local->sc.names.lookup y.1=some .local
 cap:∀ y∈sc.names,y.2=.free->X.env.kindOf y.1=some .cell\/X.env.kindOf y.1=some .free
 len:N0.length=X.N.length
 vis:∀(i:Nat) (x:Str),N0[i]?=some x->Vis (relabel sc X.env) x->X.N[i]?=some x/\sc.names.lookup x=some .free
theorem zAg{env:Env}:∀ {names:List (Str×NameKind)} {x:Str},(∀ y∈names,y.2≠.cell) ->
    ((names.map fun(n,k)=>if 19#0 then (n,NameKind.cell) else (n,k)).lookup x=some .cell \/
     (names.map fun(n,k)=>if 19#0 then (n,NameKind.cell) else (n,k)).lookup x=some .free)->names.lookup x=some .free
  | [],_,_,h=>by rcases h with h | h<;>simp at h
  | (n,k)::r,x,hc,h=>by
    have ih:=@zAg env r x fun y hy=>hc y (g9 _ hy);have hk:k≠.cell:=hc (n,k) gg;have hd:∀(z:NameKind),(((n,k)::r).map fun(n,k)=>if 19#0 then (n,NameKind.cell) else (n,k)).lookup x=some z ->
        if (x==n)=true then (if 19#0=true then z=.cell else z=k) else (r.map fun(n,k)=>if 19#0 then (n,NameKind.cell) else (n,k)).lookup x=some z:=by
      intro z e;have e':il x ((if 19#0=true then (n,NameKind.cell) else (n,k))::(r.map fun(n,k)=>if 19#0 then (n,NameKind.cell) else (n,k)))=some z:=e;cases hx:x==n with
      | true =>
        rw[if_pos rfl];by_cases hq:19#0=true
        · rw[if_pos hq] at e' ⊢
          simp only[fU,hx] at e';exact(Option.some.inj e').symm
        · rw[if_neg hq] at e' ⊢
          simp only[fU,hx] at e';exact(Option.some.inj e').symm
      | false =>
        rw[if_neg 27#0];by_cases hq:19#0=true
        · rw[if_pos hq] at e';simpa only[fU,hx] using e'
        · rw[if_neg hq] at e';simpa only[fU,hx] using e'
    cases hx:x==n with
    | true =>
      simp only[fU,hx];rcases h with h | h
      · have q:=hd _ h
        rw[if_pos hx] at q;by_cases hq:19#0=true
        · have:(k==NameKind.free)=true:=by
            cases hk':k==NameKind.free with
            | true=>rfl
            | false=>simp[hk'] at hq
          have:k=.free:=by simpa using this
          rw[this]
        · rw[if_neg hq] at q;exact absurd q.symm hk
      · have q:=hd _ h
        rw[if_pos hx] at q;by_cases hq:19#0=true
        · rw[if_pos hq] at q;cases q
        · rw[if_neg hq] at q;rw[<-q]
    | false =>
      simp only[fU,hx];refine ih ?_;rcases h with h | h
      · have q:=hd _ h
        rw[if_neg (by simp[hx])] at q;exact .inl q
      · have q:=hd _ h
        rw[if_neg (by simp[hx])] at q;exact .inr q
theorem zLe{X':Cx}{σ:St}{it D:Addr}{fp:List Addr}{tn:Nat->Heap->Prop}{J:It}{Q:VK}{W:Nat->Nat->Hp->Prop}{Z:Hp->Shared->Prop}{H0:Hp}{s₅:Shared}{m0:Nat}(hc:X'.calm=true)(hx:∀ v s,X'.xe v s->False)(Tn:Turn X'.prog X'.w X'.K tg J fp it tn)
  (hg:PG X' tg g) (ht:PTs X' ifs tc) (he:PE X' elt te)
  (turn:∀ i m H2,W i m H2->(J.stop i H2/\Q (.ref D) H2) \/
    (J.go i H2/\∀ x H3,J.yld i H2 x H3->g x (σ++fX own.length none) H3 fun σ4 H4=>σ4.take σ.length=σ/\σ4.length=σ.length+own.length/\tc σ4 H4 fun b H5 =>
     if b=true then te σ4 H5 fun v H6=>∃ acc,H6 D=some (.lst acc)/\acc.length<sizeLine/\∃ m',m'<m/\W (i+1) m' (yx H6 D (.lst (acc++[v]))) else ∃ m',m'<m/\W (i+1) m' H5))
  (fpX:∀ {H:Hp},(∀ b∈fp,H b=none)->∀ b∈fp,zCL X' [] H b) (back:∀ {σ':St} {H':Hp} {s':Shared},zT X' [] σ' H' s'->Z H' s')
  (I4:zT X' [] (σ++fX own.length none) H0 s₅) (st4:tn 0 s₅.heap) (fpD:∀ b∈fp,H0 b=none) (w0:W 0 m0 H0) :
  codeAny (model X'.prog X'.w) X'.A (.compLoop 23#0 0 (.ref it) (.ref D) X'.env) (fun r s'=>∃ H',r=.ok .next/\Z H' s'/\Q (.ref D) H') s₅:=by
  refine codeAny_loop rfl (fun n s'=>∃ i H',zT X' [] (σ++fX own.length none) H' s'/\tn i s'.heap/\(∀ b∈fp,H' b=none)/\W i n H') (fun n s6=>?_) m0 ⟨0,_,I4,st4,fpD,w0⟩;rintro⟨i,H6,I6,st6,fr6,w6⟩;show wpAny _ X'.A ((compTurn 23#0 0 (.ref it) (.ref D) X'.env).onRaise (fun x=>do noteFrame x X'.env;theTreesLotGoes x)) _ _ s6;refine wpAny_noted ?_;rw[compTurn_list];have nox:∀ {α:Type} {t:Sem α} {Q:α->Shared->Prop} {E':10#0} {s:Shared},wpAny (model X'.prog X'.w) X'.A t Q X'.xe s->wpAny (model X'.prog X'.w) X'.A t Q E' s:=fun h=>fV h (fun u0 u0 q=>q) fun v s z=>(hx v s z).elim;refine fB (wpAny_standAt (fB ?_));rcases turn i n H6 w6 with ⟨stop,qn⟩ | ⟨go,step⟩
  ·refine nox (yV (Tn.done X' rfl rfl rfl hc i [] s6 _ H6 _ I6 (fpX fr6) st6 stop) fun r s7 u9=>?_);obtain⟨hr,I7⟩:=u9
   subst hr;exact fF ⟨H6,rfl,back I7,qn⟩
  ·refine nox (yV (Tn.item X' rfl rfl rfl hc i [] s6 _ H6 _ I6 (fpX fr6) st6 go) fun r s7 u9=>?_);obtain⟨u,hr,h7⟩:=u9
   subst hr;refine fB (nox (yV h7 fun _ s8 u9=>?_));obtain⟨x,H8,I8,r8,y8,st8,fr8⟩:=u9;have I8':=I8.pinned (fpX fr8) (Tn.obj _ _ st8);refine fB (nox (yV (hg _ s8 _ H8 x u _ I8' r8 (step x H8 y8)) fun _ s9 u9=>?_));obtain⟨σ9,H9,I9,q1,q2,q9⟩:=u9;have again:∀ {s':Shared} {H':Hp},zT X' ([]++zEH fp s8.heap) σ9 H' s'->(∃ m',m'<n/\W (i+1) m' H')->∃ m,m<n/\∃ i H',zT X' [] (σ++fX own.length none) H' s'/\tn i s'.heap/\(∀ b∈fp,H' b=none)/\W i m H':=by
    intro s' H' J ⟨m',hm,w'⟩;refine⟨m',hm,i+1,H',?_,Tn.keep _ _ _ st8 fun b hb o e=>(J.pin (b,o) (fZ _ (fZ _ (zAs hb e)))).1,fun b hb=>?_,w'⟩
    ·refine(J.unpinned).weak ?_ fun j v e=>?_
     ·rw[q2,gj,im]
     ·have hj:j<σ.length:=by
       by_cases hj:j<σ.length
       ·exact hj
       ·rw[gm 17#0,gQ] at e
        split at e<;>cases e
      rw[gb hj] at e;rw[<-q1,List.getElem?_take_of_lt hj] at e;exact e
    ·obtain⟨o,e,d⟩:=Tn.obj _ _ st8 b hb
     exact(J.pin (b,o) (fZ _ (fZ _ (zAs hb e)))).2.1
   refine fB (nox (yV (ht _ s9 σ9 H9 _ I9 q9) fun ok s10 u9=>?_));obtain⟨H10,I10,q10⟩:=u9;cases ok with
   | false=>exact fF ⟨rfl,again I10 q10⟩
   | true =>
    refine fB (fB (nox (yV (he _ s10 σ9 H10 _ I10 q10) fun uv s11 u9=>?_)));obtain⟨v,H11,I11,r11,acc,hD11,hz,q11⟩:=u9;refine fB (nox (yV (zEL _ s11 σ9 H11 (.ref D) [v] (.ref D) [uv] (fun u0 H12=>H12=yx H11 D (.lst (acc++[v]))) I11 rfl (.cons r11 .nil) ⟨_,acc,v,rfl,rfl,hD11,hz,rfl⟩) fun _ s12 u9=>?_));obtain⟨_,H12,I12,_,q12⟩:=u9;subst q12;exact fF (fF ⟨rfl,again I12 q11⟩)
theorem zFY{pins:20#0}{σ:St}{s₂:Shared}{itv:Value}{Q:VK}{E:10#0}(hc:X.calm=true)(T:zBd X sc N0)
  (hg:∀ C s H fp pins,PG 25#0 tg g) (ht:∀ C s H fp pins,PTs 25#0 ifs tc) (he:∀ C s H fp pins,PE 25#0 elt te)
  (h:PIE X pins σ tg (fun J H1=>∀ D,H1 D=none->∃ W:Nat->Nat->Hp->Prop,(∃ m,W 0 m (yx H1 D (.lst []))) /\
   ∀ i m H2,W i m H2->(J.stop i H2/\Q (.ref D) H2) \/
    (J.go i H2/\∀ x H3,J.yld i H2 x H3->g x (σ++fX own.length none) H3 fun σ4 H4=>σ4.take σ.length=σ/\σ4.length=σ.length+own.length/\tc σ4 H4 fun b H5 =>
     if b=true then te σ4 H5 fun v H6=>∃ acc,H6 D=some (.lst acc)/\acc.length<sizeLine/\∃ m',m'<m/\W (i+1) m' (yx H6 D (.lst (acc++[v]))) else ∃ m',m'<m/\W (i+1) m' H5)) itv s₂) :
  wpAny 13#0 X.A (newList []) (fun acc s₃=>wpAny 13#0 X.A (newFunctionEnv sc X.env.globals (zBj sc X.env) [] X.env.qual none .none (some X.env)) (fun cenv s₄ =>
   codeAny 13#0 X.A (.compStart 23#0 0 itv acc { cenv with scope:=relabel sc X.env })
    (fun r s'=>∃ D H' m,r=.ok .next/\acc=.ref D/\zT X pins σ H' s'/\zCL X pins H' cenv.locals/\s'.heap.Ns cenv.locals m/\Q (.ref D) H') s₄) E s₃) E s₂:=by
 obtain⟨it,fp,tn,J,H1,rfl,I2,Tn,st2,f2,hR⟩:=h;refine gE (wpAny_newFunctionEnv T.cell (by intro y hy;simp at hy) (fun h₁ hns₁ hsb₁=>?_) T.kind);dsimp only at hns₁ hsb₁ ⊢;generalize hH2:s₂.heap.push { cls:=.type "list",dict:=none,data:=.seq ([]:List Value).toArray }=h3 at hns₁ hsb₁ ⊢;have hC:h3.objs.size=s₂.heap.objs.size+1:=by rw[<-hH2,gS]
 -- the list
 have I3:zT X pins σ (yx H1 s₂.heap.objs.size (.lst [])) { s₂ with heap:=h3 }:=by
  rw[<-hH2];exact I2.laid (t':=s₂.toks) (fun b u e=>fC _ e) (fP _) ⟨by simp,[],0,.nil,fM _ rfl⟩
 have fD:H1 s₂.heap.objs.size=none:=I2.hok.fresh (fP _);obtain⟨W,⟨m0,w0⟩,turn⟩:=hR _ fD;have kp:∀ b o,h3.get? b=some o->h₁.get? b=some o:=fun b o e=>hsb₁.extBut b o (gc (fK e)) (fC _ e);have fp2:∀ b∈fp,b<s₂.heap.objs.size:=fun b hb=>by
  obtain⟨o,e,u0⟩:=Tn.obj _ _ st2 b hb;exact fK e
 -- the block's context
 have CK:∀ x c,(zBj sc X.env).lookup x=some c->X.env.cells.lookup x=some c:=fun x c e=>zAt e;have nofs:∀ {b:Addr},h3.objs.size<=b->b∉frs X.stack:=fun {b} hb z=>by
  rcases fS.mp (I3.stkSub b z) with e | z
  ·exact absurd (fN I3.lt (show h3.objs.size<=X.env.locals by rw[<-e];exact hb)) (gn _)
  ·exact I3.nofs (a:=b) hb z
 have fpS:∀ b∈fp,b∉frs X.stack:=fun b hb z=>by
  rcases fS.mp (I3.stkSub b z) with e | z
  ·exact(f2 b hb).2.1 e
  ·exact(f2 b hb).2.2.1 z
 have fpD:∀ b∈fp,yx H1 s₂.heap.objs.size (.lst []) b=none:=fun b hb=>by rw[zr (gc (fp2 b hb))];exact(f2 b hb).1
 have pinS:∀ p∈X.pn++pins,p.1∉frs X.stack:=fun p hp z=>by
  obtain⟨u0,u0,n1,n2,u0⟩:=I3.pin p hp;rcases fS.mp (I3.stkSub p.1 z) with e | z
  ·exact n1 e
  ·exact n2 z
 let X':=X.comp (N0++own) sc h3.objs.size { s₂ with heap:=h3 } (yx H1 s₂.heap.objs.size (.lst [])) fp pins;have cells':∀ x,(X'.env.kindOf x=some .cell\/X'.env.kindOf x=some .free)->sc.names.lookup x=some .free:=fun x hx=>zAg T.cell hx;have hfree:∀ y∈sc.names,y.2=.free->∃ c,X.env.cells.lookup y.1=some c:=fun y hy hf=>I2.ok.has _ (T.cap y hy hf);have ok':X'.Ok:=by
  refine⟨I3.ok.mod,?_,I3.ok.glob,I3.ok.blt,fP _,fun x y c e1 e2=>I3.ok.inj x y c (CK _ _ e1) (CK _ _ e2),fun x hx=>?_,fun x c z=>(by cases z),I3.ok.hd,I3.ok.frames,.inl rfl,fun b hb=>⟨?_,fun x c e=>?_⟩,I3.bs,gt I3.ok.bsz I3.sz,fun b o e hb=>?_,fpS,I3.stack,I3.stkFree,I3.tabs⟩
  ·exact T.kind
  ·have hx':=cells' x hx
   exact zB5 hfree (.inr (PySem.mem_of_lookup hx'))
  ·exact gc (fN (fp2 b hb) (by show s₂.heap.objs.size<=h3.objs.size;rw[hC];exact Nat.le_succ _))
  ·exact(f2 b hb).2.2.2.2.1 x c (CK x c e)
  ·have:=(I3.bs b o e).1
   rcases(f2 b hb).2.2.2.1 with z | z
   ·exact I3.ok.noex b o e z
   ·have:=fN (fK e) I3.ok.bsz
    exact absurd (fN this z) (gn _)
 have hlook:∀(i:Nat) (x:Str) (v:V),(N0++own)[i]?=some x->(σ++fX own.length none)[i]?=some (some v)->Vis (relabel sc X.env) x->∃ c u,RelV v u/\X'.env.cells.lookup x=some c/\(X'.env.kindOf x=some .cell\/X'.env.kindOf x=some .free)/\h3.IsCell c (some u):=by
  intro i x v e1 e2 e3;have hi:i<σ.length:=by
   by_cases hi:i<σ.length
   ·exact hi
   ·rw[gm 17#0,gQ] at e2
    split at e2<;>cases e2
  have e2':σ[i]?=some (some v):=by rw[gb hi] at e2;exact e2
  have hi0:i<N0.length:=by rw[T.len,<-I3.len];exact hi
  have e1':N0[i]?=some x:=by rw[gb hi0] at e1;exact e1
  obtain⟨n1,n2⟩:=T.vis i x e1' e3;have cp:=T.cap _ (PySem.mem_of_lookup n2) rfl;obtain⟨m,hn,hl⟩:=I3.loc;have vis:Vis X.env.scope x:=by
   rcases cp with z | z
   ·exact .inr (.inl z)
   ·exact .inr (.inr z)
  obtain⟨u,r,l⟩:=hl i x v n1 e2' vis;obtain⟨c',hc'⟩:=zB5 (env:=X.env) (ns:=sc.names) (cs:=[]) (x:=x) hfree (.inr (PySem.mem_of_lookup n2));have hc2:(zBj sc X.env).lookup x=some c':=hc';rcases l with ⟨z,u0⟩ | ⟨u0,c,e,q⟩
  ·rcases cp with z' | z'<;>(rw[z] at z';cases z')
  ·have:c=c':=by
    have:=CK _ _ hc2;rw[e] at this;exact Option.some.inj this
   subst this;refine⟨c,u,r,hc2,?_,q⟩;rcases e3 with z | z | z
   ·exfalso
    have:=lookup_relabel_local (env:=X.env) (names:=sc.names) (x:=x)
    -- a free name is not relabelled local
    have nl:∀ {names:List (Str×NameKind)},names.lookup x=some .free->(names.map fun(n,k)=>if (k==NameKind.free&&X.env.scope.kind==.function&&X.env.kindOf n==some .cell) then (n,NameKind.cell) else (n,k)).lookup x≠some .local:=by
     intro names
     induction names with
     | nil=>intro h;simp at h
     | cons p r ih =>
      obtain⟨n,k⟩:=p;intro h;show il x ((if (k==NameKind.free&&X.env.scope.kind==.function&&X.env.kindOf n==some .cell)=true then (n,NameKind.cell) else (n,k))::_)≠_;cases hx:x==n with
      | true =>
       simp only[fU,hx] at h;cases h;by_cases hq:(NameKind.free==NameKind.free&&X.env.scope.kind==.function&&X.env.kindOf n==some .cell)=true
       ·rw[if_pos hq];simp[fU,hx]
       ·rw[if_neg hq];simp[fU,hx]
      | false =>
       simp only[fU,hx] at h;by_cases hq:(k==NameKind.free&&X.env.scope.kind==.function&&X.env.kindOf n==some .cell)=true
       ·rw[if_pos hq];simp only[fU,hx];exact ih h
       ·rw[if_neg hq];simp only[fU,hx];exact ih h
    exact nl n2 z
   ·exact .inl z
   ·exact .inr z
 have σl:(σ++fX own.length none).length=(N0++own).length:=by
  rw[gj,gj,im,T.len,<-I3.len]
 have I4:zT X' [] (σ++fX own.length none) (yx H1 s₂.heap.objs.size (.lst [])) { s₂ with heap:=h₁,toks:=s₂.toks+([]:List (Str×Value)).length }:=by
  refine⟨ok',rfl,I3.bare,Un.kept kp,⟨_,hns₁,fun i x v e1 e2 e3=>?_⟩,fun x c e=>?_,I3.hok.fresh (fP _),fun x c e=>I3.freeC x c (CK x c e),fun p hp=>?_,I3.hok.kept kp,σl⟩
  ·obtain⟨c,u,r,q1,q2,q3⟩:=hlook i x v e1 e2 e3
   obtain⟨o,ho,hd⟩:=q3;exact⟨u,r,.inr ⟨q2,c,q1,o,kp c o ho,hd⟩⟩
  ·obtain⟨v,o,ho,hd⟩:=I3.cell x c (CK x c e)
   exact⟨v,o,kp c o ho,hd⟩
  ·have hp':p∈X.pn++pins:=by
    have:p∈(X.pn++pins)++[]:=hp;simpa using this
   obtain⟨e,n,ne,nf,d⟩:=I3.pin p hp';exact⟨kp _ _ e,n,gc (fK e),pinS p hp',d⟩
 have fpX:∀ {H:Hp},(∀ b∈fp,H b=none)->∀ b∈fp,zCL X' [] H b:=fun {H} hn b hb=>by
  refine⟨hn b hb,(ok'.exf b hb).1,fpS b hb,.inl hb,(ok'.exf b hb).2,fun p hp=>?_⟩;have hp':p∈X.pn++pins:=by
   have:p∈(X.pn++pins)++[]:=hp;simpa using this
  exact(f2 b hb).2.2.2.2.2 p hp'
 have st4:tn 0 h₁:=Tn.keep 0 s₂.heap h₁ st2 fun b hb o e=>kp b o (hH2▸fC _ e)
 -- back to the context around
 have back:∀ {σ':St} {H':Hp} {s':Shared},zT X' [] σ' H' s'->zT X pins σ H' s'/\zCL X pins H' h3.objs.size/\∃ m,s'.heap.Ns h3.objs.size m:=fun {σ' H' s'} J=>by
  have u:Un (frs X.stack) fp (yx H1 s₂.heap.objs.size (.lst [])) H' h3 s'.heap:=J.base;have J3:zT X pins σ H' s':=I3.call' J.os u J.hok J.bare fun b hb=>⟨(f2 b hb).2.2.2.1,(f2 b hb).2.1,(f2 b hb).2.2.2.2.1,(f2 b hb).2.2.2.2.2⟩
  obtain⟨m,hn,u0⟩:=J.loc;refine⟨J3,?_,m,hn⟩;refine⟨J.free,Nat.ne_of_gt I3.lt,I3.nofs (fP _),.inr I3.sz,fun x c e z=>?_,fun p hp z=>?_⟩
  ·obtain⟨v,q⟩:=I3.cell x c e
   exact absurd (fN q.lt (by rw[z];exact fP _)) (gn _)
  ·exact absurd (fN (fK (I3.pin p hp).1) (by rw[z];exact fP _)) (gn _)
 have loop:∀ s₅:Shared,s₅={ s₂ with heap:=h₁,toks:=s₂.toks+([]:List (Str×Value)).length } ->
   codeAny 13#0 X.A (.compLoop 23#0 0 (.ref it) (.ref s₂.heap.objs.size) X'.env)
    (fun r s'=>∃ D H' m,r=.ok .next/\Value.ref s₂.heap.objs.size=.ref D/\zT X pins σ H' s'/\zCL X pins H' h3.objs.size/\s'.heap.Ns h3.objs.size m/\Q (.ref D) H') s₅:=by
  rintro s₅ rfl;exact gG (zLe (X':=X') (Z:=fun H' s'=>zT X pins σ H' s'/\zCL X pins H' h3.objs.size/\∃ m,s'.heap.Ns h3.objs.size m) hc (fun u0 u0 z=>z) Tn (hg _ _ _ _ _) (ht _ _ _ _ _) (he _ _ _ _ _) turn fpX back I4 st4 fpD w0) fun r s' ⟨H',e,⟨b1,b2,m,b3⟩,q⟩=>⟨_,H',m,e,rfl,b1,b2,b3,q⟩
 exact codeAny_compStart_list (loop _ rfl) (Tn.self _ 0 _ _ _ st4 (loop _ rfl))
theorem zPK(hc:X.calm=true)(T:zBd X sc N0)(hi:PI X tg iter wi)
  (hg:∀ C s H fp pins,PG 25#0 tg g) (ht:∀ C s H fp pins,PTs 25#0 ifs tc) (he:∀ C s H fp pins,PE 25#0 elt te)
  (hs:15#0):PE X 23#0 (zMv own.length wi g tc te):=by
 intro pins s σ H Q I h;rw[eval_ListComp];refine iw (use:=none) rfl hs (wb fun y hy hf=>I.ok.has _ (T.cap y hy hf)) T.kind T.names ?_;refine yV (hi pins s σ H _ I h) fun xv s₁ h₁=>yV h₁ fun it s₂ h₂=>?_;refine yV (zFY (iter:=iter) (pos:=pos) (E:=X.xe) (Q:=Q) hc T hg ht he h₂) fun acc s₃ h₃=>yV h₃ fun cenv s₄ h₄=>gG h₄ fun r s' hr=>?_;obtain⟨D,H',m,rfl,rfl,J,f,hn,q⟩:=hr;refine⟨m,hn,fun h' hs'=>⟨.ref D,H',?_,rfl,q⟩⟩;exact J.turned (t':=s'.toks) (fun b o hb e=>(hs'.2 b hb).trans e) f.1 f.2.1 f.2.2.2.1 f.2.2.2.2.1 f.2.2.2.2.2
theorem zJg{i:Nat}{y:Str}{py spos:Pos}(hc:X.calm=true)(T:zBd X sc N0)(hi:PI X tg iter wi)
  (hg:∀ C s H fp pins,PG 25#0 tg g) (ht:∀ C s H fp pins,PTs 25#0 ifs tc) (he:∀ C s H fp pins,PE 25#0 elt te)
  (hN:X.N.Nodup) (hy:X.N[i]?=some y) (hl:X.env.scope.names.lookup y=some .local)
  (hsw:swapsWith 23#0 (some (.Name y py)) spos.line X.env=pure true)
  (hs:15#0):PS X (.Assign [.Name y py] 23#0 spos) (fun D σ H=>zMv own.length wi g tc te σ H fun v H1=>D.nx (σ.set i (some v)) H1):=by
 intro pins s σ H D I h;rw[exec_Assign_Name_used _ _ _ _ hsw];refine fB (wpAny_standAt (fB ?_));show wpAny _ X.A (do let _ <-comprehension 23#0 sc X.env _ (newList []) false (eval iter X.env) (some (assign (.Name y py) X.env))) _ _ s;refine fB (fV (iw (use:=some (assign (.Name y py) X.env)) (Q:=fun u0 s'=>SP X pins D .next s') rfl hs (wb fun y hy hf=>I.ok.has _ (T.cap y hy hf)) T.kind T.names
  (yV (hi pins s σ H _ I h) fun xv s₁ h₁=>yV h₁ fun it s₂ h₂=>?_)) (fun u0 s' hq=>fF (fF hq)) fun u0 u0 e=>e)
 refine yV (zFY (iter:=iter) (pos:=pos) (E:=X.xe) (Q:=fun v H1=>D.nx (σ.set i (some v)) H1) hc T hg ht he h₂) fun acc s₃ h₃=>yV h₃ fun cenv s₄ h₄=>gG h₄ fun r s' hr=>?_;obtain⟨A,H',m,rfl,rfl,J,f,hn,q⟩:=hr;show wpAny _ X.A (assign (.Name y py) X.env (.ref A)) _ _ _;refine wpAny_assign_Name (zGc J hN hy (.inl hl) (v:=.ref A) rfl (fun s'' J' ⟨a,sb,ha⟩=>?_) (.inr hl));have hCa:cenv.locals≠a:=by
  rcases ha with z | z
  ·rw[z];exact f.2.1
  ·exact fun e=>f.2.2.2.2.1 y a z e.symm
 refine⟨m,hn.sameBut sb hCa,fun h' hs'=>⟨_,H',?_,q⟩⟩;exact J'.turned (t':=s''.toks) (fun b o hb e=>(hs'.2 b hb).trans e) f.1 f.2.1 f.2.2.2.1 f.2.2.2.2.1 f.2.2.2.2.2
end
end L2
namespace L3
open L2
set_option genInjectivity true in
inductive D where
 | non | bl (b:Bool) | int (i:Int) | str (x:Str) | tup (ds:List D) | adr (a:Addr) | dic (a:Addr)
mutual
def zQ(K:14#0)(H:Hp):D->V->Prop
 | .non,v=>v=V.non
 | .bl b,v=>v=V.bl b
 | .int i,v=>v=V.int i
 | .str x,v=>v=V.str x
 | .adr a,v=>v=V.ref a
 | .dic a,v=>v=V.ref a/\∃ o x,H a=some (.frz o (.own x))/\o.cls=.type "dict"
 | .tup ds,v=>∃ a xs,v=V.ref a/\SqT K H a xs/\Dens K H ds xs
def Dens(K:14#0)(H:Hp):List D->List V->Prop
 | [],xs=>xs=[]
 | d::ds,xs=>∃ x r,xs=x::r/\zQ K H d x/\Dens K H ds r
end
set_option genInjectivity true in
inductive OB where
 | ins (C dx:Addr) (fs:List (Str×D))
 | dk (kvs:List (Str×D))
 | fz (kvs:List (Str×D))
structure Gp where
 m:Addr->Option (List D)
 ro:Addr->Option (List D)
 dc:Addr->Option OB
noncomputable def zHI(G:Gp)(a:Addr)(o:OB):Gp:={ G with dc:=fun b=>if b=a then some o else G.dc b }
theorem wO{G:Gp}{a:Addr}{o:OB}:(zHI G a o).dc a=some o:=if_pos rfl
theorem zAI{G:Gp}{a b:Addr}{o:OB}(h:b≠a):(zHI G a o).dc b=G.dc b:=if_neg h
noncomputable def zh(G:Gp)(a:Addr)(o:List D):Gp:={ G with m:=fun b=>if b=a then some o else G.m b }
theorem zU{G:Gp}{a:Addr}{o:List D}:(zh G a o).m a=some o:=if_pos rfl
theorem zA8{G:Gp}{a b:Addr}{o:List D}(h:b≠a):(zh G a o).m b=G.m b:=if_neg h
theorem zC6{G:Gp}{a:Addr}{o u:List D}:zh (zh G a o) a u=zh G a u:=by
 unfold zh;congr 1;funext b;by_cases h:b=a
 ·simp only[if_pos h]
 ·simp only[if_neg h]
theorem gne{G:Gp}{a b:Addr}{o:List D}(h:G.m a=some o)(h':G.m b=none):a≠b:=fun e=>by rw[e,h'] at h;cases h
structure Sub (G G':Gp):Prop where
 m:∀ a o,G.m a=some o->G'.m a=some o
 ro:∀ a o,G.ro a=some o->G'.ro a=some o
 dc:∀ a o,G.dc a=some o->G'.dc a=some o
theorem Sub.refl(G:Gp):Sub G G:=⟨fun u0 u0 h=>h,fun u0 u0 h=>h,fun u0 u0 h=>h⟩
theorem Sub.trans{G G1 G2:Gp}(h:Sub G G1)(h':Sub G1 G2):Sub G G2:=⟨fun a o e=>h'.m a o (h.m a o e),fun a o e=>h'.ro a o (h.ro a o e),fun a o e=>h'.dc a o (h.dc a o e)⟩
theorem Sub.new{G:Gp}{p:Addr}{o:List D}(h:G.m p=none):Sub G (zh G p o):=⟨fun a u e=>by rw[zA8 (gne e h)];exact e,fun u0 u0 e=>e,fun u0 u0 e=>e⟩
def Ls(G:Gp)(a:Addr)(ds:List D):Prop:=G.m a=some ds\/G.ro a=some ds
theorem Ls.sub{G G':Gp}{a:Addr}{ds:List D}(h:Ls G a ds)(s:Sub G G'):Ls G' a ds:=by
 rcases h with h | h
 ·exact .inl (s.m a ds h)
 ·exact .inr (s.ro a ds h)
theorem Ls.own{G:Gp}{a:Addr}{ds:List D}:Ls (zh G a ds) a ds:=.inl zU
def RoL(K:14#0)(H:Hp)(a:Addr)(xs:List V):Prop :=
 (∃ o,H a=some (.frz o (.lst xs)))\/∃(o:Obj) (its:Array Value) (n:Nat),K.lookup a=some o/\o.cls=.type "list"/\o.dict=none/\o.data=.seq its n/\its.size<=sizeLine/\zy xs its.toList
theorem RoL.sq{K:14#0}{H:Hp}{a:Addr}{xs:List V}(h:RoL K H a xs):SqL K H a xs:=by
 rcases h with h | h
 ·exact .inl (.inr h)
 ·exact .inr h
def zEh(K:14#0)(H:Hp)(a:Addr):OB->Prop
 | .ins C dx fs=>∃ xs,H a=some (.ins C dx ((fs.map (·.1)).zip xs))/\Dens K H (fs.map (·.2)) xs
 | .dk kvs=>∃ xs,H a=some (.dK ((kvs.map fun kv=>(Sum.inr kv.1:Key)).zip xs))/\Dens K H (kvs.map (·.2)) xs
 | .fz kvs=>∃ o xs,H a=some (.frz o (.dK ((kvs.map fun kv=>(Sum.inr kv.1:Key)).zip xs)))/\Dens K H (kvs.map (·.2)) xs
structure zt (K:PySem.W.Frag) (G:Gp) (H:Hp):Prop where
 m:∀ a ds,G.m a=some ds->∃ xs,H a=some (.lst xs)/\Dens K H ds xs
 ro:∀ a ds,G.ro a=some ds->∃ xs,RoL K H a xs/\Dens K H ds xs
 dc:∀ a o,G.dc a=some o->zEh K H a o
structure zo (H H':Hp):Prop where
 tups:∀ a xs,H a=some (.tup xs)->H' a=some (.tup xs)
 frzs:∀ a o u,H a=some (.frz o u)->H' a=some (.frz o u)
section
variable {K:PySem.W.Frag} {H H' H'':Hp} {G G':Gp}
theorem zo.refl(H:Hp):zo H H:=⟨fun u0 u0 h=>h,fun u0 u0 u0 h=>h⟩
theorem zo.trans(a:zo H H')(b:zo H' H''):zo H H'':=⟨fun c xs h=>b.tups c xs (a.tups c xs h),fun c o u h=>b.frzs c o u (a.frzs c o u h)⟩
theorem zo.fresh{p:Addr}{o:HO}(h:H p=none):zo H (yx H p o):=⟨fun a xs e=>by rw[zr (yt e h)];exact e,fun a o u e=>by rw[zr (yt e h)];exact e⟩
theorem zo.lst{p:Addr}{xs:List V}{o:HO}(h:H p=some (.lst xs)):zo H (yx H p o) :=
 ⟨fun a ys e=>by rw[zr (zKY e h (by intro z;cases z))];exact e,fun a o u e=>by rw[zr (zKY e h (by intro z;cases z))];exact e⟩
theorem zo.sqT(g:zo H H'){a:Addr}{xs:List V}(h:SqT K H a xs):SqT K H' a xs:=by
 rcases h with (h | ⟨o,h⟩) | h
 ·exact .inl (.inl (g.tups _ _ h))
 ·exact .inl (.inr ⟨o,g.frzs _ _ _ h⟩)
 ·exact .inr h
theorem zo.roL(g:zo H H'){a:Addr}{xs:List V}(h:RoL K H a xs):RoL K H' a xs:=by
 rcases h with ⟨o,h⟩ | h
 ·exact .inl ⟨o,g.frzs _ _ _ h⟩
 ·exact .inr h
mutual
theorem zQ.grow(g:zo H H'):∀ {d:D} {v:V},zQ K H d v->zQ K H' d v
 | .non,_,h=>by unfold zQ at h ⊢;exact h
 | .bl _,_,h=>by unfold zQ at h ⊢;exact h
 | .int _,_,h=>by unfold zQ at h ⊢;exact h
 | .str _,_,h=>by unfold zQ at h ⊢;exact h
 | .adr _,_,h=>by unfold zQ at h ⊢;exact h
 | .dic _,_,h=>by unfold zQ at h ⊢;obtain⟨e,o,x,q,c⟩:=h;exact⟨e,o,x,g.frzs _ _ _ q,c⟩
 | .tup ds,v,h=>by
  unfold zQ at h ⊢;obtain⟨a,xs,e,s,r⟩:=h;exact⟨a,xs,e,g.sqT s,Dens.grow g r⟩
theorem Dens.grow(g:zo H H'):∀ {ds:List D} {xs:List V},Dens K H ds xs->Dens K H' ds xs
 | [],_,h=>by unfold Dens at h ⊢;exact h
 | d::ds,xs,h=>by
  unfold Dens at h ⊢;obtain⟨x,r,e,h1,h2⟩:=h;exact⟨x,r,e,zQ.grow g h1,Dens.grow g h2⟩
end
theorem Dens.length:∀ {ds:List D} {xs:List V},Dens K H ds xs->ds.length=xs.length
 | [],xs,h=>by unfold Dens at h;rw[h];rfl
 | d::ds,xs,h=>by
  unfold Dens at h;obtain⟨x,r,rfl,u0,h2⟩:=h;simp[Dens.length h2]
theorem Dens.get:∀ {ds:List D} {xs:List V} {i:Nat} {d:D},Dens K H ds xs->ds[i]?=some d->∃ x,xs[i]?=some x/\zQ K H d x
 | [],_,_,_,_,e=>by simp at e
 | d::ds,xs,0,d',h,e=>by
  unfold Dens at h;obtain⟨x,r,rfl,h1,u0⟩:=h;simp at e;subst e;exact⟨x,rfl,h1⟩
 | d::ds,xs,i+1,d',h,e=>by
  unfold Dens at h;obtain⟨x,r,rfl,u0,h2⟩:=h;obtain⟨y,e1,e2⟩:=Dens.get (i:=i) (d:=d') h2 (by simpa using e);exact⟨y,by simpa using e1,e2⟩
theorem Dens.got:∀ {ds:List D} {xs:List V} {i:Nat} {x:V},Dens K H ds xs->xs[i]?=some x->∃ d,ds[i]?=some d/\zQ K H d x
 | ds,xs,i,x,h,e=>by
  have hl:=h.length;have hi:i<ds.length:=by rw[hl];exact(fI.mp e).1
  obtain⟨y,e1,e2⟩:=h.get (i:=i) (d:=ds[i]) (by simp[hi]);rw[e] at e1;cases e1;exact⟨ds[i],by simp[hi],e2⟩
theorem Dens.nil:Dens K H [] []:=by unfold Dens;rfl
theorem Dens.cons{d:D}{ds:List D}{x:V}{xs:List V}(h:zQ K H d x)(h':Dens K H ds xs):Dens K H (d::ds) (x::xs):=by unfold Dens;exact⟨x,xs,rfl,h,h'⟩
theorem Dens.append:∀ {ds es:List D} {xs ys:List V},Dens K H ds xs->Dens K H es ys->Dens K H (ds++es) (xs++ys)
 | [],_,xs,_,h,h'=>by unfold Dens at h;rw[h];exact h'
 | d::ds,_,xs,_,h,h'=>by
  unfold Dens at h;obtain⟨x,r,rfl,h1,h2⟩:=h;exact Dens.cons h1 (Dens.append h2 h')
theorem Dens.of_get:∀ {ds:List D} {xs:List V},ds.length=xs.length->(∀(i:Nat) d x,ds[i]?=some d->xs[i]?=some x->zQ K H d x)->Dens K H ds xs
 | [],[],_,_=>.nil
 | [],_::_,h,_=>by simp at h
 | _::_,[],h,_=>by simp at h
 | d::ds,x::xs,h,g=>.cons (g 0 d x rfl rfl) (Dens.of_get (by simpa using h) fun i d' x' e1 e2=>g (i+1) d' x' (by simpa using e1) (by simpa using e2))
theorem Dens.take{n:Nat}{ds:List D}{xs:List V}(h:Dens K H ds xs):Dens K H (ds.take n) (xs.take n) :=
 .of_get (by simp[h.length]) fun i d x e1 e2=>by
  rw[List.getElem?_take] at e1 e2;split at e1
  ·rename_i hi
   rw[if_pos hi] at e2;obtain⟨y,e,r⟩:=h.get e1;rw[e2] at e;cases e;exact r
  ·cases e1
theorem Dens.drop{n:Nat}{ds:List D}{xs:List V}(h:Dens K H ds xs):Dens K H (ds.drop n) (xs.drop n) :=
 .of_get (by simp[h.length]) fun i d x e1 e2=>by
  rw[List.getElem?_drop] at e1 e2;obtain⟨y,e,r⟩:=h.get e1;rw[e2] at e;cases e;exact r
theorem Dens.set{ds:List D}{xs:List V}{d:D}{x:V}(i:Nat)(h:Dens K H ds xs)(hd:zQ K H d x):Dens K H (ds.set i d) (xs.set i x) :=
 .of_get (by simp[h.length]) fun j d' x' e1 e2=>by
  by_cases hj:i=j
  ·subst hj
   have hi:i<ds.length:=by
    have:=(fI.mp e1).1;simpa using this
   rw[gu hi] at e1;rw[gu (by rw[<-h.length];exact hi)] at e2;cases e1;cases e2;exact hd
  ·rw[gF hj] at e1 e2
   obtain⟨y,e,r⟩:=h.get e1;rw[e2] at e;cases e;exact r
theorem Dens.ints(ns:List Int):Dens K H (ns.map D.int) (ns.map V.int):=by
 induction ns with
 | nil=>exact .nil
 | cons n r ih=>exact .cons 22#0 ih
theorem zEh.at{a:Addr}{o:OB}(h:zEh K H a o):∃ u,H a=some u/\∀ xs,u≠.lst xs:=by
 cases o with
 | ins C dx fs=>obtain⟨xs,e,u0⟩:=h;exact⟨_,e,fun u0 z=>by cases z⟩
 | dk kvs=>obtain⟨xs,e,u0⟩:=h;exact⟨_,e,fun u0 z=>by cases z⟩
 | fz kvs=>obtain⟨o,xs,e,u0⟩:=h;exact⟨_,e,fun u0 z=>by cases z⟩
theorem zEh.to{a:Addr}{o:OB}{H':Hp}(h:zEh K H a o)(g:zo H H')(e:H' a=H a):zEh K H' a o:=by
 cases o with
 | ins C dx fs=>obtain⟨xs,e1,e2⟩:=h;exact⟨xs,e.trans e1,e2.grow g⟩
 | dk kvs=>obtain⟨xs,e1,e2⟩:=h;exact⟨xs,e.trans e1,e2.grow g⟩
 | fz kvs=>obtain⟨o,xs,e1,e2⟩:=h;exact⟨o,xs,e.trans e1,e2.grow g⟩
theorem zt.fresh{p:Addr}{o:HO}(h:H p=none)(r:zt K G H):zt K G (yx H p o) :=
  ⟨fun a ds e=>by
    obtain⟨xs,e1,e2⟩:=r.m a ds e;exact⟨xs,by rw[zr (yt e1 h)];exact e1,e2.grow (.fresh h)⟩,
   fun a ds e=>by
    obtain⟨xs,e1,e2⟩:=r.ro a ds e;exact⟨xs,(zo.fresh h).roL e1,e2.grow (.fresh h)⟩,
   fun a ds e=>by
    have z:=r.dc a ds e;obtain⟨o,z1,u0⟩:=z.at;exact z.to (.fresh h) (zr (yt z1 h))⟩
theorem zt.free{p:Addr}(r:zt K G H)(h:H p=none):G.m p=none:=by
 cases q:G.m p with
 | none=>rfl
 | some ds=>obtain⟨xs,e1,u0⟩:=r.m p _ q;rw[h] at e1;cases e1
theorem zt.own{l:Addr}{ds:List D}{xs:List V}(r:zt K G H)(e:H l=some (.lst xs))(d:Dens K H ds xs):zt K (zh G l ds) H :=
  ⟨fun b u q=>by
    by_cases hb:b=l
    · subst hb;rw[zU] at q;cases q;exact⟨xs,e,d⟩
    · rw[zA8 hb] at q;exact r.m b u q,
   r.ro,r.dc⟩
theorem zt.new{p:Addr}{ds:List D}{xs:List V}(h:H p=none)(r:zt K G H)(d:Dens K H ds xs):zt K (zh G p ds) (yx H p (.lst xs)) :=
 (r.fresh h).own yC (d.grow (.fresh h))
theorem zt.put{p:Addr}{ds':List D}{xs xs':List V}(h:H p=some (.lst xs))(r:zt K G H)(d:Dens K H ds' xs'):zt K (zh G p ds') (yx H p (.lst xs')) :=
  ⟨fun a u e=>by
    by_cases ha:a=p
    · subst ha
      rw[zU] at e;cases e;exact⟨xs',yC,d.grow (.lst h)⟩
    · rw[zA8 ha] at e
      obtain⟨ys,e1,e2⟩:=r.m a u e;exact⟨ys,by rw[zr ha];exact e1,e2.grow (.lst h)⟩,
   fun a u e=>by
    obtain⟨ys,e1,e2⟩:=r.ro a u e;exact⟨ys,(zo.lst h).roL e1,e2.grow (.lst h)⟩,
   fun a u e=>by
    have z:=r.dc a u e;obtain⟨o,z1,z2⟩:=z.at;exact z.to (.lst h) (zr (zKY z1 h (z2 _)))⟩
theorem zt.sub(s:Sub G G')(r:zt K G' H):zt K G H:=⟨fun a u e=>r.m a u (s.m a u e),fun a u e=>r.ro a u (s.ro a u e),fun a u e=>r.dc a u (s.dc a u e)⟩
theorem zt.sq{a:Addr}{ds:List D}(r:zt K G H)(e:Ls G a ds):∃ xs,SqL K H a xs/\Dens K H ds xs:=by
 rcases e with e | e
 ·obtain⟨xs,e1,e2⟩:=r.m a _ e
  exact⟨xs,.of e1,e2⟩
 ·obtain⟨xs,e1,e2⟩:=r.ro a _ e
  exact⟨xs,e1.sq,e2⟩
end
noncomputable abbrev S2:=List (Option D)
abbrev zm:=S2->Gp->(D->Gp->Prop)->Prop
abbrev TT2:=S2->Gp->(Bool->Gp->Prop)->Prop
abbrev TA2:=S2->Gp->(List D->Gp->Prop)->Prop
structure yO where
 nx:S2->Gp->Prop
 rt:D->Gp->Prop
 bk:S2->Gp->Prop:=fun u0 u0=>False
 ct:S2->Gp->Prop:=fun u0 u0=>False
abbrev wC:=yO->S2->Gp->Prop
noncomputable def look:S2->Nat->Option D
 | [],_=>none
 | o::_,0=>o
 | _::r,i+1=>look r i
theorem zB6:∀ {σ:S2} {i:Nat} {d:D},look σ i=some d->σ[i]?=some (some d)
 | [],_,_,e=>by cases e
 | o::_,0,d,e=>by simp[look] at e;simp[e]
 | _::r,i+1,d,e=>by simpa using zB6 (σ:=r) (i:=i) (d:=d) e
structure Rel (K:PySem.W.Frag) (σ:S2) (G:Gp) (σ1:L2.St) (H:Hp):Prop where
 g:zt K G H
 len:σ.length=σ1.length
 val:∀(i:Nat) d,σ[i]?=some (some d)->∃ v,σ1[i]?=some (some v)/\zQ K H d v
theorem Rel.to{K:14#0}{σ:S2}{G G':Gp}{σ1:L2.St}{H H':Hp}(r:Rel K σ G σ1 H)(g:zo H H')(r':zt K G' H'):Rel K σ G' σ1 H' :=
 ⟨r',r.len,fun i d e=>by obtain⟨v,e1,e2⟩:=r.val i d e;exact⟨v,e1,e2.grow g⟩⟩
theorem Rel.set{K:14#0}{σ:S2}{G:Gp}{σ1:L2.St}{H:Hp}(r:Rel K σ G σ1 H)(i:Nat){d:D}{v:V}(h:zQ K H d v):Rel K (σ.set i (some d)) G (σ1.set i (some v)) H :=
 ⟨r.g,by simp[r.len],fun j d' e=>by
  by_cases hj:i=j
  ·subst hj
   have hi:i<σ.length:=by
    have:=(fI.mp e).1;simpa using this
   rw[gu hi] at e;cases e;exact⟨v,by rw[gu (by rw[<-r.len];exact hi)],h⟩
  ·rw[gF hj] at e
   obtain⟨u,e1,e2⟩:=r.val j d' e;exact⟨u,by rw[gF hj];exact e1,e2⟩⟩
def lE(K:14#0)(t:zm):TE:=fun σ1 H Q=>∃ σ G R,Rel K σ G σ1 H/\t σ G R/\∀ d G',R d G'->∀ v H',zo H H'->zt K G' H'->zQ K H' d v->Q v H'
def lT(K:14#0)(t:TT2):TT:=fun σ1 H Q=>∃ σ G R,Rel K σ G σ1 H/\t σ G R/\∀ b G',R b G'->∀ H',zo H H'->zt K G' H'->Q b H'
def lA(K:14#0)(t:TA2):TA:=fun σ1 H Q=>∃ σ G R,Rel K σ G σ1 H/\t σ G R/\∀ ds G',R ds G'->∀ vs H',zo H H'->zt K G' H'->Dens K H' ds vs->Q vs H'
structure ER (K:PySem.W.Frag) (H:Hp) (D2:yO) (E:Ends):Prop where
 nx:∀ σ G,D2.nx σ G->∀ σ1 H',zo H H'->Rel K σ G σ1 H'->E.nx σ1 H'
 bk:∀ σ G,D2.bk σ G->∀ σ1 H',zo H H'->Rel K σ G σ1 H'->E.bk σ1 H'
 ct:∀ σ G,D2.ct σ G->∀ σ1 H',zo H H'->Rel K σ G σ1 H'->E.ct σ1 H'
 rt:∀ d G,D2.rt d G->∀ v H',zo H H'->zt K G H'->zQ K H' d v->E.rt v H'
theorem ER.to{K:14#0}{H H':Hp}{D2:yO}{E:Ends}(e:ER K H D2 E)(g:zo H H'):ER K H' D2 E :=
 ⟨fun σ G h σ1 H1 g1=>e.nx σ G h σ1 H1 (g.trans g1),fun σ G h σ1 H1 g1=>e.bk σ G h σ1 H1 (g.trans g1),fun σ G h σ1 H1 g1=>e.ct σ G h σ1 H1 (g.trans g1),fun d G h v H1 g1=>e.rt d G h v H1 (g.trans g1)⟩
def lS(K:14#0)(t:wC):TS:=fun E σ1 H=>∃ σ G D2,Rel K σ G σ1 H/\t D2 σ G/\ER K H D2 E
def E2(X:Cx)(e:Expr)(t:zm):Prop:=PE X e (lE X.K t)
def T2(X:Cx)(e:Expr)(t:TT2):Prop:=PT X e (lT X.K t)
def A2(X:Cx)(es:List Expr)(t:TA2):Prop:=PA X es (lA X.K t)
def P2(X:Cx)(st:Stmt)(t:wC):Prop:=PS X st (lS X.K t)
def Ps2(X:Cx)(st:List Stmt)(t:wC):Prop:=PSs X st (lS X.K t)
section
variable {X:Cx} {a b c e o:Expr} {es:List Expr} {pos p:Pos} {ta tb tc te:zm}
def zA(i:Nat):zm:=fun σ G R=>match look σ i with | some d=>R d G | none=>False
def xC(d:D):zm:=fun u0 G R=>R d G
theorem zC(i:Nat){x:Str}(hN:autoParam (X.N[i]?=some x) Zq5._auto_1)(hv:autoParam (Vis X.env.scope x) Zq7._auto_1)(hd:4#0)
  (hcd:autoParam ((x==("__classdict__":Str))=false) Zq2._auto_1):E2 X (.Name x pos) (zA i):=by
 refine PE.mono (zHC hN hv hd hcd) ?_;rintro σ1 H Q ⟨σ,G,R,r,t,k⟩;unfold zA at t;cases q:look σ i with
 | none=>rw[q] at t;exact t.elim
 | some d =>
  rw[q] at t;obtain⟨v,e1,e2⟩:=r.val i d (zB6 q);exact⟨v,e1,k d G t v H (.refl H) r.g e2⟩
theorem zP{i j}:E2 X (.Constant (.int i) j pos) (xC (.int i)):=by
 refine PE.mono zRK ?_;rintro σ1 H Q ⟨σ,G,R,r,t,k⟩;exact k _ G t _ H (.refl H) r.g 22#0
theorem zGT{i j}:E2 X (.Constant (.bool i) j pos) (xC (.bl i)):=by
 refine PE.mono zS5 ?_;rintro σ1 H Q ⟨σ,G,R,r,t,k⟩;exact k _ G t _ H (.refl H) r.g 22#0
theorem zX{i j}:E2 X (.Constant (.str i) j pos) (xC (.str i)):=by
 refine PE.mono zJT ?_;rintro σ1 H Q ⟨σ,G,R,r,t,k⟩;exact k _ G t _ H (.refl H) r.g 22#0
theorem zDV{j}:E2 X (.Constant .none j pos) (xC .non):=by
 refine PE.mono zMa ?_;rintro σ1 H Q ⟨σ,G,R,r,t,k⟩;exact k _ G t _ H (.refl H) r.g 22#0
abbrev Q2:=D->Gp->Prop
def Fit(K:14#0)(r:R2)(f:D->D->Gp->Q2->Prop):Prop :=
 ∀ dx dy G R x y H Q,f dx dy G R->zt K G H->zQ K H dx x->zQ K H dy y->(∀ d G',R d G'->∀ v H',zo H H'->zt K G' H'->zQ K H' d v->Q v H')->r x y H Q
def zO(f:D->D->Gp->Q2->Prop)(ta tb:zm):zm:=fun σ G R=>ta σ G fun x G1=>tb σ G1 fun y G2=>f x y G2 R
theorem zKi{K:14#0}{r:R2}{f:D->D->Gp->Q2->Prop}(hf:Fit K r f){σ1:L2.St}{H:Hp}{Q:VK}(h:lE K (zO f ta tb) σ1 H Q):tOp r (lE K ta) (lE K tb) σ1 H Q:=by
 obtain⟨σ,G,R,rl,t,k⟩:=h;refine⟨σ,G,_,rl,t,fun dx G1 t1 x H1 g1 r1 d1=>?_⟩;refine⟨σ,G1,_,rl.to g1 r1,t1,fun dy G2 t2 y H2 g2 r2 d2=>?_⟩;exact hf dx dy G2 R x y H2 Q t2 r2 (d1.grow g2) d2 fun d G' q v H' g' r' d'=>k d G' q v H' ((g1.trans g2).trans g') r' d'
theorem zMw{op:Operator}{r:R2}{f:D->D->Gp->Q2->Prop}(ho:OpR X (binaryOp op) r)(hf:Fit X.K r f)(ha:E2 X a ta)(hb:E2 X b tb):E2 X (.BinOp a op b pos) (zO f ta tb) :=
 PE.mono (zQi ho ha hb) fun σ1 H Q h=>zKi hf h
theorem zKj{op:CmpOp}{r:R2}{f:D->D->Gp->Q2->Prop}(ho:OpR X (compareOp op) r)(hf:Fit X.K r f)(ha:E2 X a ta)(hb:E2 X b tb)(hm:behindInMarks op b=false):E2 X (.Compare a [op] [b] pos) (zO f ta tb) :=
 PE.mono (zO1 ho ha hb hm) fun σ1 H Q h=>zKi hf h
def xB(t:zm):TT2:=fun σ G R=>t σ G fun d G1=>match d with | .bl b=>R b G1 | _=>False
theorem zDm{op:CmpOp}{r:R2}{f:D->D->Gp->Q2->Prop}(ho:OpR X (compareOp op) r)(hf:Fit X.K r f)(ha:E2 X a ta)(hb:E2 X b tb)(hm:behindInMarks op b=false):T2 X (.Compare a [op] [b] pos) (xB (zO f ta tb)):=by
 refine PT.mono (zO2 ho ha hb hm) ?_;rintro σ1 H Q ⟨σ,G,R,rl,t,k⟩;refine zKi hf ⟨σ,G,_,rl,t,fun d G' q v H' g' r' d'=>?_⟩;cases d with
 | bl b =>
  unfold zQ at d';exact⟨b,d',k b G' q H' g' r'⟩
 | _=>exact q.elim
def fII(g:Int->Int->D):D->D->Gp->Q2->Prop:=fun x y G R=>match x,y with | .int i,.int j=>R (g i j) G | _,_=>False
noncomputable def zMx:D->Bool
 | .tup _=>false
 | .adr _=>false
 | .dic _=>false
 | _=>true
noncomputable def vOf:D->V
 | .non=>.non | .bl b=>.bl b | .int i=>.int i | .str x=>.str x | .tup _=>.non | .adr a=>.ref a | .dic a=>.ref a
theorem zKk{K:14#0}{H:Hp}{d:D}(h:zMx d=true):zQ K H d (vOf d):=by
 cases d<;>first | (cases h;done) | (unfold zQ;rfl)
theorem zAu{K:14#0}{gv:Int->Int->V}{g:Int->Int->D}(hg:∀ i j,zMx (g i j)=true/\gv i j=vOf (g i j)):Fit K (rI0 gv) (fII g):=by
 intro dx dy G R x y H Q h r d1 d2 k;unfold fII at h;cases dx with
 | int i =>
  cases dy with
  | int j =>
   unfold zQ at d1 d2;subst d1 d2;exact⟨i,j,rfl,rfl,k _ G h _ H (.refl H) r (by rw[(hg i j).2];exact zKk (hg i j).1)⟩
  | _=>exact h.elim
 | _=>exact h.elim
def zAP(C:Int->Int->Prop)(g:Int->Int->D):D->D->Gp->Q2->Prop:=fun x y G R=>match x,y with | .int i,.int j=>C i j/\R (g i j) G | _,_=>False
theorem zHJ{K:14#0}{C:Int->Int->Prop}{gv:Int->Int->V}{g:Int->Int->D}(hg:∀ i j,zMx (g i j)=true/\gv i j=vOf (g i j)):Fit K (rI C gv) (zAP C g):=by
 intro dx dy G R x y H Q h r d1 d2 k;unfold zAP at h;cases dx with
 | int i =>
  cases dy with
  | int j =>
   unfold zQ at d1 d2;subst d1 d2;exact⟨i,j,rfl,rfl,h.1,k _ G h.2 _ H (.refl H) r (by rw[(hg i j).2];exact zKk (hg i j).1)⟩
  | _=>exact h.elim
 | _=>exact h.elim
abbrev TL2:=S2->Gp->(List D->Gp->Prop)->Prop
def lL(K:14#0)(t:TL2):TE:=fun σ1 H Q=>∃ σ G R,Rel K σ G σ1 H/\t σ G R/\∀ ds G',R ds G'->∀ l xs H',zo H H'->zt K G' H'->G'.m l=none->H' l=some (.lst xs)->Dens K H' ds xs->Q (.ref l) H'
def F2(X:Cx)(e:Expr)(t:TL2):Prop:=PE X e (lL X.K t)
def zi(t:TL2):zm:=fun σ G R=>t σ G fun ds G'=>∀ l,G'.m l=none->R (.adr l) (zh G' l ds)
theorem yo{t:TL2}(h:F2 X e t):E2 X e (zi t):=by
 refine PE.mono h ?_;sleep 1;exact⟨σ,G,_,r,q,fun ds G' q' l xs H' g r' n e' d=>k _ _ (q' l n) _ H' g (r'.own e' d) 22#0⟩
def zG:TA2:=fun u0 G R=>R [] G
def zB(ta:zm)(tr:TA2):TA2:=fun σ G R=>ta σ G fun x G1=>tr σ G1 fun xs G2=>R (x::xs) G2
theorem zH:A2 X [] zG:=by
 intro pos pins s σ1 H Q I h;refine zBz pos pins s σ1 H Q I ?_;obtain⟨σ,G,R,r,q,k⟩:=h;exact k [] G q [] H (.refl H) r.g .nil
theorem zE{tr:TA2}(ha:E2 X e ta)(hr:A2 X es tr)(hs:2#0):A2 X (e::es) (zB ta tr):=by
 intro pos pins s σ1 H Q I h;refine zAH ha hr hs pos pins s σ1 H Q I ?_;obtain⟨σ,G,R,r,q,k⟩:=h;refine⟨σ,G,_,r,q,fun d G1 q1 v H1 g1 r1 d1=>?_⟩;refine⟨σ,G1,_,r.to g1 r1,q1,fun ds G2 q2 vs H2 g2 r2 d2=>?_⟩;exact k _ G2 q2 _ H2 (g1.trans g2) r2 (.cons (d1.grow g2) d2)
def zBI(t:TA2):zm:=fun σ G R=>t σ G fun ds G1=>ds.length<=sizeLine/\R (.tup ds) G1
theorem zCn{t:TA2}{x1}(h:A2 X es t):E2 X (.Tuple es x1 pos) (zBI t):=by
 refine PE.mono (zRg h) ?_;sleep 1;refine⟨σ,G,_,r,q,fun ds G1 q1 vs H1 g1 r1 d1=>⟨by rw[<-d1.length];exact q1.1,fun p hp=>?_⟩⟩;refine k _ G1 q1.2 _ _ (g1.trans (.fresh hp)) (r1.fresh hp) ?_;unfold zQ;exact⟨p,vs,rfl,.of yC,d1.grow (.fresh hp)⟩
def yl(t:TA2):TL2:=fun σ G R=>t σ G fun ds G1=>ds.length<=sizeLine/\R ds G1
theorem zB7{t:TA2}(h:A2 X es t):F2 X (.List es pos) (yl t):=by
 refine PE.mono (zRh h) ?_;sleep 1;refine⟨σ,G,_,r,q,fun ds G1 q1 vs H1 g1 r1 d1=>⟨by rw[<-d1.length];exact q1.1,fun p hp=>?_⟩⟩;exact k ds G1 q1.2 p vs _ (g1.trans (.fresh hp)) (r1.fresh hp) (r1.free hp) yC (d1.grow (.fresh hp))
abbrev wq:=List D->Gp->Q2->Prop
def lSp(K:14#0)(sp:wq):Sp:=fun vs H Q u0=>∃ ds G R,Dens K H ds vs/\zt K G H/\sp ds G R/\∀ d G',R d G'->∀ v H',zo H H'->zt K G' H'->zQ K H' d v->Q v H'
def Df(P:Program)(w:World)(K:14#0)(mg:Str->Option Value)(base:Heap)(k:Nat)(x:Str)(ps:List Str)(sp:wq):Prop :=
 ∃ f fd,zCm P w K mg base CX0 k f fd ps (lSp K sp)/\mg x=some (.ref f)/\PySem.W.keepIn K (.ref f)=true/\Binds K fd ps []
def zJ(sp:wq)(t:TA2):zm:=fun σ G R=>t σ G fun ds G1=>sp ds G1 R
theorem zc{sp:wq}{t:TA2}{k k':Nat}{x:Str}{ps:List Str}(F:Df X.prog X.w X.K X.mg X.base k x ps sp)(hr:yS k' X.A)(hk:k<=k')(hg:Gl X x)(ha:A2 X (e::es) t)
  (hdb:4#0) (he:2#0) (hpl:9#0) :
  E2 X (.Call (.Name x p) (e::es) [] pos) (zJ sp t):=by
 obtain⟨f,fd,F,hm,hkp,hb⟩:=F;refine PE.mono (zKc (dvs:=[]) F (hr.mono hk) hg hm hkp hb .nil zKh ha hdb he hpl) ?_;rintro σ1 H Q ⟨σ,G,R,r,q,kk⟩;refine⟨σ,G,_,r,q,fun ds G1 q1 vs H1 g1 r1 d1=>?_⟩;show lSp X.K _ (vs++[]) H1 Q E0;rw[gT];exact⟨ds,G1,R,d1,r1,q1,fun d G' q' v H' g'=>kk d G' q' v H' (g1.trans g')⟩
def spL(sp:List D->Gp->(List D->Gp->Prop)->Prop):wq:=fun ds G R=>sp ds G fun ls G'=>∀ l,G'.m l=none->R (.adr l) (zh G' l ls)
def yz(sp:List D->Gp->(List D->Gp->Prop)->Prop)(t:TA2):TL2:=fun σ G R=>t σ G fun ds G1=>sp ds G1 R
theorem zCO{sp:List D->Gp->(List D->Gp->Prop)->Prop}{t:TA2}{k k':Nat}{x:Str}{ps:List Str}(F:Df X.prog X.w X.K X.mg X.base k x ps (spL sp))(hmono:∀ ds G R R',(∀ ls G',R ls G'->R' ls G')->sp ds G R->sp ds G R')(hr:yS k' X.A)(hk:k<=k')(hg:Gl X x)(ha:A2 X (e::es) t)
  (hdb:4#0) (he:2#0) (hpl:9#0) :
  F2 X (.Call (.Name x p) (e::es) [] pos) (yz sp t):=by
 obtain⟨f,fd,F,hm,hkp,hb⟩:=F;refine PE.mono (zKc (dvs:=[]) F (hr.mono hk) hg hm hkp hb .nil zKh ha hdb he hpl) ?_;rintro σ1 H Q ⟨σ,G,R,r,q,kk⟩;refine⟨σ,G,_,r,q,fun ds G1 q1 vs H1 g1 r1 d1=>?_⟩;show lSp X.K _ (vs++[]) H1 Q E0;rw[gT];refine⟨ds,G1,fun d G'=>∃ l ls G0,d=.adr l/\G0.m l=none/\G'=zh G0 l ls/\R ls G0,d1,r1,hmono _ _ _ _ (fun ls G' q l n=>⟨l,ls,G',rfl,n,rfl,q⟩) q1,?_⟩;rintro d G' ⟨l,ls,G0,rfl,n,rfl,q'⟩ v H' g' r' dv;unfold zQ at dv;subst dv;obtain⟨xs,e1,e2⟩:=r'.m l ls zU;exact kk ls G0 q' l xs H' (g1.trans g') (r'.sub (.new n)) n e1 e2
section
variable {st:Stmt} {rest:List Stmt} {t u:wC}
def zZ:wC:=fun E σ G=>E.nx σ G
def zW(t u:wC):wC:=fun E σ G=>t { E with nx:=u E } σ G
theorem ze:Ps2 X [] zZ:=by
 intro pins s σ1 H E I h;refine zOv pins s σ1 H E I ?_;obtain⟨σ,G,D2,r,q,k⟩:=h;exact k.nx σ G q σ1 H (.refl H) r
theorem zL(h1:P2 X st t)(h2:Ps2 X rest u):Ps2 X (st::rest) (zW t u):=by
 intro pins s σ1 H E I h;refine zMd h1 h2 pins s σ1 H E I ?_;obtain⟨σ,G,D2,r,q,k⟩:=h;refine⟨σ,G,_,r,q,⟨fun σ' G' q' σ1' H' g' r'=>⟨σ',G',D2,r',q',k.to g'⟩,k.bk,k.ct,k.rt⟩⟩
theorem zM(h1:P2 X st t):Ps2 X [st] t:=zOw h1
def zk(te:zm):wC:=fun E σ G=>te σ G E.rt
theorem zg(he:E2 X e te):P2 X (.Return (some e) pos) (zk te):=by
 refine PS.mono (L2.zRT he) ?_;rintro E σ1 H ⟨σ,G,D2,r,q,k⟩;exact⟨σ,G,_,r,q,fun d G' q' v H' g' r' d'=>k.rt d G' q' v H' g' r' d'⟩
def zBl(te:zm):wC:=fun E σ G=>te σ G fun u0 G1=>E.nx σ G1
theorem zJh(he:E2 X e te)(hs:autoParam (swapsWith e none pos.line X.env=pure false) Zq5._auto_1):P2 X (.Expr e pos) (zBl te):=by
 refine PS.mono (L2.zOx he hs) ?_;rintro E σ1 H ⟨σ,G,D2,r,q,k⟩;exact⟨σ,G,_,r,q,fun d G' q' v H' g' r' d'=>k.nx σ G' q' σ1 H' g' (r.to g' r')⟩
def wM(c:TT2)(t u:wC):wC:=fun E σ G=>c σ G fun b G1=>if b=true then t E σ G1 else u E σ G1
theorem yb{x y:List Stmt}{tc:TT2}(hc:T2 X c tc)(ha:Ps2 X x t)(hb:Ps2 X y u):P2 X (.If c x y pos) (wM tc t u):=by
 refine PS.mono (L2.zTB hc ha hb) ?_;rintro E σ1 H ⟨σ,G,D2,r,q,k⟩;refine⟨σ,G,_,r,q,fun b G' q' H' g' r'=>?_⟩;cases b with
 | true=>exact⟨σ,G',D2,r.to g' r',q',k.to g'⟩
 | false=>exact⟨σ,G',D2,r.to g' r',q',k.to g'⟩
abbrev TG2:=D->S2->Gp->(S2->Gp->Prop)->Prop
def lG(K:14#0)(g:TG2):TG:=fun v σ1 H Q=>∃ σ G d R,Rel K σ G σ1 H/\zQ K H d v/\g d σ G R/\∀ σ' G',R σ' G'->∀ σ1' H',zo H H'->Rel K σ' G' σ1' H'->Q σ1' H'
def G2(X:Cx)(tg:Expr)(g:TG2):Prop:=PG X tg (lG X.K g)
theorem PG.mono{tg:Expr}{t t':TG}(h:PG X tg t)(hm:∀ v σ H Q,t' v σ H Q->t v σ H Q):PG X tg t':=fun pins s σ H v u Q I r q=>h pins s σ H v u Q I r (hm v σ H Q q)
def gN(i:Nat):TG2:=fun d σ G R=>R (σ.set i (some d)) G
theorem zHK(i:Nat){x:Str}(hN:X.N.Nodup)(hi:autoParam (X.N[i]?=some x) Zq5._auto_1)(hx:autoParam (Loc X.env.scope x) Zq8._auto_1)(hf:autoParam (X.fn x=true\/X.env.scope.names.lookup x=some .local) Zq1._auto_1):G2 X (.Name x pos) (gN i):=by
 refine PG.mono (zCK hN hi hx hf) ?_;rintro v σ1 H Q ⟨σ,G,d,R,r,dv,q,k⟩;exact k _ G q _ H (.refl H) (r.set i dv)
def gNN(i j:Nat):TG2:=fun d σ G R=>match d with | .tup [a,b]=>R ((σ.set i (some a)).set j (some b)) G | _=>False
theorem zTQ(i j:Nat){x y:Str}{px py:Pos}{kk:Nat}(hc:X.calm=true)(hN:X.N.Nodup)(hi:autoParam (X.N[i]?=some x) Zq5._auto_1)(hj:autoParam (X.N[j]?=some y) Zq5._auto_1)(hx:autoParam (Loc X.env.scope x) Zq8._auto_1)(hy:autoParam (Loc X.env.scope y) Zq8._auto_1)
  (hf:autoParam (X.fn x=true\/X.env.scope.names.lookup x=some .local) Zq1._auto_1) (hf':autoParam (X.fn y=true\/X.env.scope.names.lookup y=some .local) Zq1._auto_1) :
  G2 X (.Tuple [.Name x px,.Name y py] kk pos) (gNN i j):=by
 refine PG.mono (zRU (n:=2) hc (zIH (zCK hN hi hx hf) (zIH (zCK hN hj hy hf') zOy))) ?_;rintro v σ1 H Q ⟨σ,G,d,R,r,dv,q,k⟩;unfold gNN at q;split at q
 ·rename_i d1 d2
  unfold zQ at dv;obtain⟨a,xs,rfl,hs,hd⟩:=dv;unfold Dens at hd;obtain⟨x1,r1,rfl,h1,hd⟩:=hd;unfold Dens at hd;obtain⟨x2,r2,rfl,h2,hd⟩:=hd;unfold Dens at hd;subst hd;exact⟨a,[x1,x2],rfl,hs,rfl,x1,[x2],rfl,x2,[],rfl,rfl,k _ G q _ H (.refl H) ((r.set i h1).set j h2)⟩
 ·exact q.elim
def zp(te:zm)(g:TG2):wC:=fun E σ G=>te σ G fun d G1=>g d σ G1 E.nx
theorem zMy{g:TG2}{E:Ends}{σ1:L2.St}{H:Hp}{K:14#0}(h:lS K (zp te g) E σ1 H):zRV (lE K te) (lG K g) E σ1 H:=by
 obtain⟨σ,G,D2,r,q,k⟩:=h;refine⟨σ,G,_,r,q,fun d G' q' v H' g' r' d'=>⟨σ,G',d,_,r.to g' r',d',q',fun σ' G'' q'' σ1' H'' g'' r''=>k.nx σ' G'' q'' σ1' H'' (g'.trans g'') r''⟩⟩
theorem yI(i:Nat){x:Str}{pos':Pos}(hN:X.N.Nodup)(he:E2 X e te)(hi:autoParam (X.N[i]?=some x) Zq5._auto_1)(hx:autoParam (Loc X.env.scope x) Zq8._auto_1)(hs:autoParam (swapsWith e (some (.Name x pos')) pos.line X.env=pure false) Zq5._auto_1)(hf:autoParam (X.fn x=true\/X.env.scope.names.lookup x=some .local) Zq1._auto_1) :
  P2 X (.Assign [.Name x pos'] e pos) (zp te (gN i)):=by
 refine PS.mono (L2.zRX hN hi hx he hs hf) fun E σ1 H h=>?_;obtain⟨σ,G,D2,r,q,k⟩:=h;refine⟨σ,G,_,r,q,fun d G' q' v H' g' r' d'=>?_⟩;exact k.nx _ G' q' _ H' g' ((r.to g' r').set i d')
theorem zTR{tg:Expr}{g:TG2}(he:E2 X e te)(hg:G2 X tg g)(hs:autoParam (swapsWithSole [tg] e pos.line X.env=pure false) Zq5._auto_1)(hw:autoParam (swappedStores [tg] e X.env=pure none) Zq5._auto_1)
  (h1:autoParam ((assignEach [tg] X.env).map (·.2)=[assign tg X.env]) Zq5._auto_1):P2 X (.Assign [tg] e pos) (zp te g) :=
 PS.mono (L2.zRW he hg hs hw h1) fun u0 u0 u0 h=>zMy h
end
end
abbrev TI2:=S2->Gp->(List D->(Gp->Prop)->Gp->Prop)->Prop
structure Walk (K:PySem.W.Frag) (H0:Hp) (ds:List D) (gd:Gp->Prop) (J:It):Prop where
 go:∀ i G H,gd G->zt K G H->zo H0 H->i<ds.length->J.go i H
 stop:∀ G H,gd G->zt K G H->zo H0 H->J.stop ds.length H
 yld:∀ i G H x H',gd G->zt K G H->zo H0 H->i<ds.length->J.yld i H x H'->zo H H'/\zt K G H'/\∃ d,ds[i]?=some d/\zQ K H' d x
def lI(K:14#0)(wi:TI2):TI:=fun σ1 H R=>∃ σ G R2,Rel K σ G σ1 H/\wi σ G R2/\∀ ds gd G',R2 ds gd G'->∀ J H',zo H H'->zt K G' H'->Walk K H' ds gd J->ds.length<=sizeLine->R J H'
def I2(X:Cx)(tg iter:Expr)(wi:TI2):Prop:=PI X tg iter (lI X.K wi)
theorem PI.mono{X:Cx}{tg iter:Expr}{t t':TI}(h:PI X tg iter t)(hm:∀ σ H R,t' σ H R->t σ H R):PI X tg iter t':=fun pins s σ H R I q=>h pins s σ H R I (hm σ H R q)
section
variable {X:Cx} {tg:Expr} {a b c e o l iter elt:Expr} {es:List Expr} {pos p:Pos} {ta tb te:zm}
theorem zMz{l:Expr}{tl:TE}(hl:PE X l tl):PI X tg l (fun σ H R=>tl σ H fun x H1=>∃ a xs,x=.ref a/\((SqL X.K H1 a xs/\(xs.length<=sizeLine->R (Itl X.K a) H1))\/(SqT X.K H1 a xs/\(xs.length<=sizeLine->R (Itt X.K a) H1)))):=by
 intro pins s σ H R I h;refine yV (hl pins s σ H _ I h) fun v s1 u9=>?_;obtain⟨x,H1,I1,r1,q1⟩:=u9;obtain⟨a,xs,e,q⟩:=q1;subst e;cases r1;have fpk:∀ b∈[s1.heap.objs.size],zCL X pins H1 b:=fun b hb=>by
  have e:b=s1.heap.objs.size:=by simpa using hb
  subst e;exact I1.fpOk (fP _) (I1.hok.fresh (fP _))
 rcases q with ⟨hq,q⟩ | ⟨hq,q⟩
 ·obtain⟨its,rv,p,hz⟩:=I1.list hq
  refine wpAny_pyIter_list p.isList ?_;exact⟨s1.heap.objs.size,[s1.heap.objs.size],_,_,H1,rfl,I1.kept (t':=s1.toks) fun b o e=>fC _ e,zLV a _,⟨_,fM _ rfl,rfl,rfl⟩,fpk,q hz⟩
 ·obtain⟨its,rv,p,hz⟩:=I1.tuple hq
  refine wpAny_pyIter_tuple (show s1.heap.IsTuple a its.toArray from p) ?_;exact⟨s1.heap.objs.size,[s1.heap.objs.size],_,_,H1,rfl,I1.kept (t':=s1.toks) fun b o e=>fC _ e,zJU a _,⟨_,fM _ rfl,rfl,rfl⟩,fpk,q hz⟩
theorem zGk{K:14#0}{H0:Hp}{a:Addr}{ds:List D}:Walk K H0 ds (fun G=>Ls G a ds) (Itl K a) where
 go:=fun i G H g r u0 hi=>by
  obtain⟨xs,h1,h2⟩:=r.sq g;exact⟨xs,xs[i]'(by rw[<-h2.length];exact hi),h1,by simp⟩
 stop:=fun G H g r u0=>by
  obtain⟨xs,h1,h2⟩:=r.sq g;exact⟨xs,h1,Nat.le_of_eq h2.length.symm⟩
 yld:=fun i G H x H' g r u0 hi y=>by
  obtain⟨xs,h1,h2⟩:=r.sq g;obtain⟨e,y⟩:=y;subst e;obtain⟨d,e1,e2⟩:=h2.got (y xs h1);exact⟨.refl _,r,d,e1,e2⟩
theorem zM0{K:14#0}{H0:Hp}{a:Addr}{xs:List V}{ds:List D}(h:SqT K H0 a xs)(hd:Dens K H0 ds xs):Walk K H0 ds (fun u0=>True) (Itt K a) where
 go:=fun i G H u0 r g hi=>⟨xs,xs[i]'(by rw[<-hd.length];exact hi),g.sqT h,by simp⟩
 stop:=fun G H u0 r g=>⟨xs,g.sqT h,Nat.le_of_eq hd.length.symm⟩
 yld:=fun i G H x H' u0 r g hi y=>by
  obtain⟨e,y⟩:=y;subst e;obtain⟨d,e1,e2⟩:=(hd.grow g).got (y xs (g.sqT h));exact⟨.refl _,r,d,e1,e2⟩
noncomputable def zAM(lo:Int)(n:Nat):List D:=(fQ n).map fun(k:Nat)=>D.int (lo+(k:Int))
theorem zAU(lo:Int)(n:Nat):(zAM lo n).length=n:=by simp[zAM]
theorem zFZ{lo:Int}{n i:Nat}(h:i<n):(zAM lo n)[i]?=some (.int (lo+i)):=by simp[zAM,h]
theorem zFa{K:14#0}{H0:Hp}{lo:Int}{n:Nat}:Walk K H0 (zAM lo n) (fun u0=>True) (Itr lo n) where
 go:=fun i G H u0 u0 u0 hi=>by rw[zAU] at hi;exact hi
 stop:=fun G H u0 u0 u0=>by rw[zAU];exact fP _
 yld:=fun i G H x H' u0 r u0 hi y=>by
  rw[zAU] at hi;obtain⟨e,rfl⟩:=y;subst e;exact⟨.refl _,r,_,zFZ hi,by unfold zQ;rfl⟩
def iV(t:zm):TI2:=fun σ G R=>t σ G fun d G1=>match d with
 | .tup ds=>R ds (fun u0=>True) G1
 | .adr a=>∃ ds,Ls G1 a ds/\R ds (fun G=>Ls G a ds) G1
 | _=>False
theorem zIO(h:E2 X l ta):I2 X tg l (iV ta):=by
 refine PI.mono (zMz h) ?_;rintro σ1 H R ⟨σ,G,R2,r,q,k⟩;refine⟨σ,G,_,r,q,fun d G1 q1 v H1 g1 r1 d1=>?_⟩;cases d with
 | tup ds =>
  unfold zQ at d1;obtain⟨a,xs,rfl,h1,h2⟩:=d1;exact⟨a,xs,rfl,.inr ⟨h1,fun hz=>k ds _ G1 q1 _ H1 g1 r1 (zM0 h1 h2) (by rw[h2.length];exact hz)⟩⟩
 | adr a =>
  unfold zQ at d1;subst d1;obtain⟨ds,e,q1⟩:=q1;obtain⟨xs,h1,h2⟩:=r1.sq e;exact⟨a,xs,rfl,.inl ⟨h1,fun hz=>k ds _ G1 q1 _ H1 g1 r1 zGk (by rw[h2.length];exact hz)⟩⟩
 | _=>exact q1.elim
def iF(t:TL2):TI2:=fun σ G R=>t σ G fun ds G1=>∀ a,G1.m a=none->R ds (fun G=>Ls G a ds) (zh G1 a ds)
theorem zFb{t:TL2}(h:F2 X l t):I2 X tg l (iF t):=by
 refine PI.mono (zMz h) ?_;rintro σ1 H R ⟨σ,G,R2,r,q,k⟩;refine⟨σ,G,_,r,q,fun ds G1 q1 a xs H1 g1 r1 n e1 d1=>?_⟩;exact⟨a,xs,rfl,.inl ⟨.of e1,fun hz=>k ds _ _ (q1 a n) _ H1 g1 (r1.own e1 d1) zGk (by rw[d1.length];exact hz)⟩⟩
def iR1(t:TA2):TI2:=fun σ G R=>t σ G fun ds G1=>match ds with | [.int j]=>(-1000000<=j/\j<=1000000)/\R (zAM 0 j.toNat) (fun u0=>True) G1 | _=>False
def iR2(t:TA2):TI2:=fun σ G R=>t σ G fun ds G1=>match ds with | [.int i,.int j]=>((-1000000<=i/\i<=1000000)/\-1000000<=j/\j<=1000000)/\R (zAM i (j-i).toNat) (fun u0=>True) G1 | _=>False
theorem zDn{t:TA2}(hg:Gl X "range")(hm:X.mg "range"=none)(ha:A2 X [a] t)(hs:autoParam (starEach [a] X.env=[(false,eval a X.env)]) Zq5._auto_1):I2 X tg (.Call (.Name "range" p) [a] [] pos) (iR1 t):=by
 refine PI.mono (zLW hg hm ha hs) ?_;rintro σ1 H R ⟨σ,G,R2,r,q,k⟩;refine⟨σ,G,_,r,q,fun ds G1 q1 vs H1 g1 r1 d1=>?_⟩;split at q1
 ·rename_i j
  unfold Dens at d1;obtain⟨x,r',rfl,d1,d2⟩:=d1;unfold zQ at d1;unfold Dens at d2;subst d1 d2;refine⟨j,rfl,by omega,by omega,k _ _ G1 q1.2 _ H1 g1 r1 zFa ?_⟩;rw[zAU,sizeLine_eq];omega
 ·exact q1.elim
theorem zM1{t:TA2}(hg:Gl X "range")(hm:X.mg "range"=none)(ha:A2 X [a,b] t)(hs:autoParam (starEach [a,b] X.env=[(false,eval a X.env),(false,eval b X.env)]) Zq5._auto_1)(hs2:autoParam (starEach [b] X.env=[(false,eval b X.env)]) Zq5._auto_1):I2 X tg (.Call (.Name "range" p) [a,b] [] pos) (iR2 t):=by
 refine PI.mono (zLX hg hm ha hs hs2) ?_;rintro σ1 H R ⟨σ,G,R2,r,q,k⟩;refine⟨σ,G,_,r,q,fun ds G1 q1 vs H1 g1 r1 d1=>?_⟩;split at q1
 ·rename_i i j
  unfold Dens at d1;obtain⟨x,r',rfl,d1,d2⟩:=d1;unfold Dens at d2;obtain⟨y,r',rfl,d2,d3⟩:=d2;unfold zQ at d1 d2;unfold Dens at d3;subst d1 d2 d3;refine⟨i,j,rfl,⟨by omega,by omega,by omega,by omega⟩,k _ _ G1 q1.2 _ H1 g1 r1 zFa ?_⟩;rw[zAU,sizeLine_eq];omega
 ·exact q1.elim
structure zB8 (σ σ':S2):Prop where
 len:σ.length=σ'.length
 val:∀(i:Nat) d,σ[i]?=some (some d)->σ'[i]?=some (some d)
theorem zB8.refl(σ:S2):zB8 σ σ:=⟨rfl,fun u0 u0 h=>h⟩
def Fg(P:S2->Gp->Prop):S2->Gp->Prop:=fun σ G=>∃ σ' G',zB8 σ' σ/\Sub G' G/\P σ' G'
theorem Fg.of{P:S2->Gp->Prop}{σ:S2}{G:Gp}(h:P σ G):Fg P σ G:=⟨σ,G,.refl σ,.refl G,h⟩
theorem Rel.sub{K:14#0}{σ σ':S2}{G G':Gp}{σ1:L2.St}{H:Hp}(r:Rel K σ G σ1 H)(s:zB8 σ' σ)(g:Sub G' G):Rel K σ' G' σ1 H :=
 ⟨r.g.sub g,s.len.trans r.len,fun i d e=>r.val i d (s.val i d e)⟩
def zTS(wi:TI2)(g:TG2)(tb:wC):wC:=fun E σ G=>wi σ G fun ds gd G1=>∃ Pv:Nat->S2->Gp->Prop,Pv 0 σ G1/\(∀ i σ G,i<=ds.length->Pv i σ G->gd G) /\
 (∀ i x σ G,ds[i]?=some x->Pv i σ G->g x σ G fun σ2 G2=>tb { E with nx:=Fg (Pv (i+1)),ct:=Fg (Pv (i+1)),bk:=E.nx } σ2 G2)/\∀ σ G,Pv ds.length σ G->E.nx σ G
theorem zTT{wi:TI2}{g:TG2}{tb:wC}{body:List Stmt}(hp:PassesOwn 13#0 X.A X.env X.xe)(hc:X.calm=true)(hi:I2 X tg iter wi)(hg:G2 X tg g)(hb:Ps2 X body tb)
  (hs:15#0):P2 X (.For tg iter body [] pos) (zTS wi g tb):=by
 refine PS.mono (L2.zRY hp hc hi hg hb hs) ?_;rintro E σ1 H ⟨σ,G,D2,r,q,k⟩;refine⟨σ,G,_,r,q,fun ds gd G1 q1 J H1 g1 r1 W hz=>?_⟩;obtain⟨Pv,p0,pg,pt,pd⟩:=q1;refine⟨fun i m σ1' H'=>m=ds.length-i/\i<=ds.length/\zo H1 H'/\∃ σ' G',Rel X.K σ' G' σ1' H'/\Pv i σ' G',⟨ds.length,by simp,i7 _,.refl _,σ,G1,r.to g1 r1,p0⟩,?_⟩;rintro i m σ1' H' ⟨rfl,hi',g',σ',G',r',p'⟩;have gd':=pg i σ' G' hi' p';by_cases hlt:i<ds.length
 ·refine .inr ⟨W.go i G' H' gd' r'.g g' hlt,fun σ1'' H''=>zo H1 H''/\∃ σ'' G'',Rel X.K σ'' G'' σ1'' H''/\Pv (i+1) σ'' G'',fun σ1'' H'' ⟨a1,σ'',G'',a2,a3⟩=>⟨ds.length-(i+1),by omega,rfl,hlt,a1,σ'',G'',a2,a3⟩,fun x H'' y=>?_⟩
  obtain⟨gy,ry,d,e1,e2⟩:=W.yld i G' H' x H'' gd' r'.g g' hlt y
  replace g':=g'.trans gy
  refine⟨σ',G',d,_,r'.to gy ry,e2,pt i d σ' G' e1 p',fun σ2 G2 q2 σ12 H2 g2 r2=>⟨σ2,G2,_,r2,q2,?_⟩⟩;have back:∀ σ3 G3,Fg (Pv (i+1)) σ3 G3->∀ σ13 H3,zo H2 H3->Rel X.K σ3 G3 σ13 H3->zo H1 H3/\∃ σ'' G'',Rel X.K σ'' G'' σ13 H3/\Pv (i+1) σ'' G'':=by
   rintro σ3 G3 ⟨σ4,G4,a1,a2,a3⟩ σ13 H3 g3 r3;exact⟨(g'.trans g2).trans g3,σ4,G4,r3.sub a1 a2,a3⟩
  exact⟨back,fun σ3 G3 q3 σ13 H3 g3 r3=>k.nx σ3 G3 q3 σ13 H3 (((g1.trans g').trans g2).trans g3) r3,back,fun d3 G3 q3 v3 H3 g3 r3 dv=>k.rt d3 G3 q3 v3 H3 (((g1.trans g').trans g2).trans g3) r3 dv⟩
 ·have e:i=ds.length:=by omega
  subst e;exact .inl ⟨W.stop G' H' gd' r'.g g',k.nx σ' G' (pd σ' G' p') σ1' H' (g1.trans g') r'⟩
def FgG(P:Gp->Prop):Gp->Prop:=fun G=>∃ G',Sub G' G/\P G'
theorem FgG.of{P:Gp->Prop}{G:Gp}(h:P G):FgG P G:=⟨G,.refl G,h⟩
def yk(wi:TI2)(bd:D->Option (List D))(tc:TT2)(te:zm):TL2:=fun σ G R=>wi σ G fun ds gd G1=>∀ A,G1.m A=none->∃ Pv:Nat->List D->Gp->Prop,Pv 0 [] (zh G1 A [])/\(∀ i acc G,i<=ds.length->Pv i acc G->gd G/\G.m A=some acc/\acc.length<=i) /\
 (∀ i x acc G,ds[i]?=some x->Pv i acc G->match bd x with
  | some us=>tc (σ++us.map some) G fun b G3=>if b=true then te (σ++us.map some) G3 fun d G4=>G4.m A=some acc/\FgG (Pv (i+1) (acc++[d])) (zh G4 A (acc++[d])) else FgG (Pv (i+1) acc) G3
  | none=>False)/\∀ acc G,Pv ds.length acc G->∃ G',G'.m A=none/\Sub G' G/\R acc G'
def Ts2(X:Cx)(ifs:List Expr)(t:TT2):Prop:=PTs X ifs (lT X.K t)
def zAJ:TT2:=fun u0 G R=>R true G
theorem wf:Ts2 X [] zAJ:=by
 intro pins s σ1 H Q I h;refine zPI pins s σ1 H Q I ?_;obtain⟨σ,G,R,r,q,k⟩:=h;exact k true G q H (.refl H) r.g
theorem zM2{t:TT2}(h:T2 X c t):Ts2 X [c] t:=zPJ h
theorem Rel.app{K:14#0}{σ:S2}{G:Gp}{σ1:L2.St}{H:Hp}(r:Rel K σ G σ1 H){ds:List D}{vs:List V}(h:Dens K H ds vs):Rel K (σ++ds.map some) G (σ1++vs.map some) H :=
 ⟨r.g,by simp[r.len,h.length],fun i d e=>by
  by_cases hi:i<σ.length
  ·rw[gb hi] at e
   obtain⟨v,e1,e2⟩:=r.val i d e;exact⟨v,by rw[gb (by rw[<-r.len];exact hi)];exact e1,e2⟩
  ·rw[gm 17#0,gh] at e
   cases q:ds[i-σ.length]? with
   | none=>rw[q] at e;cases e
   | some d' =>
    rw[q] at e;cases e;obtain⟨v,e1,e2⟩:=h.get q;exact⟨v,by rw[gm (by rw[<-r.len];omega),gh,<-r.len,e1];rfl,e2⟩⟩
theorem zGl{K:14#0}{wi:TI2}{bd:D->Option (List D)}{tc:TT2}{te:zm}{n:Nat}{g:TG}{N:Nat}
  (hb:∀(σ1:L2.St) (H:Hp) (d:D) (v:V) (us:List D) (Q:L2.St->Hp->Prop),σ1.length=N->zQ K H d v->bd d=some us->us.length=n->(∀ vs,Dens K H us vs->Q (σ1++vs.map some) H)->g v (σ1++fX n none) H Q)
  (hn:∀ d us,bd d=some us->us.length=n)
  {σ1:L2.St} {H:Hp} {Q:VK} (hl:σ1.length=N) (h:lL K (yk wi bd tc te) σ1 H Q):zMv n (lI K wi) g (lT K tc) (lE K te) σ1 H Q:=by
 obtain⟨σ,G,R,r,q,k⟩:=h;refine⟨σ,G,_,r,q,fun ds gd G1 q1 J H1 g1 r1 W hz A hA=>?_⟩;obtain⟨Pv,p0,pg,pt,pd⟩:=q1 A (r1.free hA);refine⟨fun i m H2=>m=ds.length-i/\i<=ds.length/\zo H1 H2/\∃ as G2,zt K G2 H2/\Pv i as G2,⟨ds.length,by simp,i7 _,.fresh hA,[],zh G1 A [],r1.new hA .nil,p0⟩,?_⟩;rintro i m H2 ⟨rfl,hi',g2,as,G2,r2,p2⟩;obtain⟨gd2,al,hlen⟩:=pg i as G2 hi' p2;by_cases hlt:i<ds.length
 ·refine .inr ⟨W.go i G2 H2 gd2 r2 g2 hlt,fun x H3 y=>?_⟩
  obtain⟨gy,ry,d,e3,dv⟩:=W.yld i G2 H2 x H3 gd2 r2 g2 hlt y
  replace g2:=g2.trans gy
  replace r2:=ry
  have q3:=pt i d as G2 e3 p2;cases eb:bd d with
  | none=>rw[eb] at q3;exact q3.elim
  | some us =>
   rw[eb] at q3;dsimp only at q3;have hus:=hn d us eb;refine hb σ1 H3 d x us _ hl dv eb hus fun vs hv=>⟨?_,?_,?_⟩
   ·rw[List.take_append_of_le_length (fP _),List.take_length]
   ·rw[gj,fE,<-hv.length,hus]
   ·have rr:Rel K (σ++us.map some) G2 (σ1++vs.map some) H3:=(r.to (g1.trans g2) r2).app hv
    refine⟨σ++us.map some,G2,_,rr,q3,fun b G4 q4 H4 g4 r4=>?_⟩;cases b with
    | false =>
     obtain⟨G5,s5,p5⟩:=q4;exact⟨ds.length-(i+1),by omega,rfl,hlt,g2.trans g4,as,G5,r4.sub s5,p5⟩
    | true =>
     refine⟨σ++us.map some,G4,_,rr.to g4 r4,q4,fun d5 G5 q5 v H5 g5 r5 d5v=>?_⟩;obtain⟨a5,G6,s6,p6⟩:=q5;obtain⟨acc,e6,d6⟩:=r5.m A as a5;refine⟨acc,e6,by rw[<-d6.length];omega,ds.length-(i+1),by omega,rfl,hlt,((g2.trans g4).trans g5).trans (.lst e6),as++[d5],G6,?_,p6⟩;exact(r5.put e6 (d6.append (.cons d5v .nil))).sub s6
 ·have e:i=ds.length:=by omega
  subst e;obtain⟨G',n',s',q'⟩:=pd as G2 p2;obtain⟨acc,e6,d6⟩:=r2.m A as al;exact .inl ⟨W.stop G2 H2 gd2 r2 g2,k as G' q' A acc H2 (g1.trans g2) (r2.sub s') n' e6 d6⟩
noncomputable def bd1:D->Option (List D):=fun d=>some [d]
noncomputable def bd2:D->Option (List D):=fun d=>match d with | .tup [a,b]=>some [a,b] | _=>none
section
variable {ifs:List Expr} {sc:Scope} {N0:List Str} {wi:TI2} {tc:TT2}
theorem PE.at{t t':TE}(h:PE X e t)(hm:∀ σ H Q,σ.length=X.N.length->t' σ H Q->t σ H Q):PE X e t':=fun pins s σ H Q I q=>h pins s σ H Q I (hm σ H Q I.len q)
theorem PS.at{st:Stmt}{t t':TS}(h:PS X st t)(hm:∀ E σ H,σ.length=X.N.length->t' E σ H->t E σ H):PS X st t':=fun pins s σ H E I q=>h pins s σ H E I (hm E σ H I.len q)
theorem zM3(s t:List (Option V))(x:Option V):List.set (s++t) (List.length s) x=s++t.set 0 x:=by
 rw[List.set_append_right _ _ (fP _),Nat.sub_self]
theorem bind1{K:14#0}{N:Nat}(σ1:L2.St)(H:Hp)(d:D)(v:V)(us:List D)(Q:L2.St->Hp->Prop)(hl:σ1.length=N)(dv:zQ K H d v)(eb:bd1 d=some us)(hus:us.length=1)(h:∀ vs,Dens K H us vs->Q (σ1++vs.map some) H):zFP N v (σ1++fX 1 none) H Q:=by
 cases eb;have:=h [v] (.cons dv .nil);show Q (List.set (σ1++[none]) N (some v)) H;rw[<-hl,zM3];exact this
theorem zPL(x:Str){px:Pos}(hc:X.calm=true)(T:zBd X sc N0)(hi:I2 X (.Name x px) iter wi)
  (hnd:(N0++[x]).Nodup) (hx:(relabel sc X.env).names.lookup x=some .local)
  (ht:∀ C s H fp pins,Ts2 34#0 ifs tc) (he:∀ C s H fp pins,E2 34#0 elt te)
  (hs:15#0):F2 X 30#0 (yk wi bd1 tc te):=by
 refine PE.at (zPK (own:=[x]) (g:=zFP X.N.length) (tc:=lT X.K tc) (te:=lE X.K te) hc T hi (fun C s H fp pins=>zCK (X:=X.comp (N0++[x]) sc C s H fp pins) hnd (by
  show(N0++[x])[X.N.length]?=some x;rw[<-T.len];simp) (.inl hx) (.inr hx)) ht he hs) fun σ H Q hl h=>?_
 exact zGl (n:=1) (N:=X.N.length) bind1 (fun d us e=>by cases e;rfl) hl h
def zCo(i:Nat)(t:TL2):wC:=fun E σ G=>t σ G fun ds G'=>∀ l,G'.m l=none->E.nx (σ.set i (some (.adr l))) (zh G' l ds)
theorem zJi(i:Nat)(x:Str){y:Str}{px py spos:Pos}(hc:X.calm=true)(T:zBd X sc N0)(hi:I2 X (.Name x px) iter wi)
  (hnd:(N0++[x]).Nodup) (hx:(relabel sc X.env).names.lookup x=some .local)
  (ht:∀ C s H fp pins,Ts2 34#0 ifs tc) (he:∀ C s H fp pins,E2 34#0 elt te)
  (hN:X.N.Nodup) (hy:X.N[i]?=some y) (hl:X.env.scope.names.lookup y=some .local)
  (hsw:swapsWith 30#0 (some (.Name y py)) spos.line X.env=pure true)
  (hs:15#0):P2 X (.Assign [.Name y py] 30#0 spos) (zCo i (yk wi bd1 tc te)):=by
 refine PS.at (zJg (own:=[x]) (g:=zFP X.N.length) (tc:=lT X.K tc) (te:=lE X.K te) hc T hi (fun C s H fp pins=>zCK (X:=X.comp (N0++[x]) sc C s H fp pins) hnd (by
  show(N0++[x])[X.N.length]?=some x;rw[<-T.len];simp) (.inl hx) (.inr hx)) ht he hN hy hl hsw hs) fun E σ1 H hl h=>?_
 obtain⟨σ,G,D2,r,q,k⟩:=h;refine zGl (n:=1) (N:=X.N.length) bind1 (fun d us e=>by cases e;rfl) hl ⟨σ,G,_,r,q,fun ds G' q' l xs H' g' r' n e d=>?_⟩;exact k.nx _ _ (q' l n) _ H' g' ((r.to g' (r'.own e d)).set i 22#0)
end
end
section
variable {X:Cx} {a b c e o:Expr} {es:List Expr} {pos p:Pos} {ta tb te:zm}
def zE0(ta tb:zm):zm:=fun σ G R=>ta σ G fun x G1=>match x with | .bl c=>if c=true then tb σ G1 R else R (.bl false) G1 | _=>False
def zRn(ta:zm):zm:=fun σ G R=>ta σ G fun x G1=>match x with | .bl c=>R (.bl (!c)) G1 | _=>False
theorem zIP{op}(h:E2 X a ta):E2 X (.BoolOp op [a] pos) ta:=zRQ h
theorem zIQ{rest:List Expr}(ha:E2 X a ta)(hb:E2 X (.BoolOp .And (b::rest) pos) tb):E2 X (.BoolOp .And (a::b::rest) pos) (zE0 ta tb):=by
 refine PE.mono (zRR ha hb) ?_;sleep 1;refine⟨σ,G,_,r,q,fun d G1 q1 v H1 g1 r1 d1=>?_⟩;cases d with
 | bl c =>
  unfold zQ at d1;refine⟨c,d1,?_⟩;cases c with
  | true=>exact⟨σ,G1,R,r.to g1 r1,q1,fun d G' q' v H' g'=>k d G' q' v H' (g1.trans g')⟩
  | false=>exact k _ G1 q1 _ H1 g1 r1 22#0
 | _=>exact q1.elim
theorem zTU(ha:E2 X a ta):E2 X (.UnaryOp .Not a pos) (zRn ta):=by
 refine PE.mono (zRS ha) ?_;sleep 1;refine⟨σ,G,_,r,q,fun d G1 q1 v H1 g1 r1 d1=>?_⟩;cases d with
 | bl c =>
  unfold zQ at d1;exact⟨c,d1,k _ G1 q1 _ H1 g1 r1 22#0⟩
 | _=>exact q1.elim
theorem zAY(h:E2 X e te)(he:autoParam (∀ whole,isTrue e X.env whole=(do let v <-whole;standAt e.pos;holding [v] (truthy v))) Zq4._auto_1):T2 X e (xB te):=by
 refine PT.mono (zRM h he) ?_;sleep 1;refine⟨σ,G,_,r,q,fun d G1 q1 v H1 g1 r1 d1=>?_⟩;cases d with
 | bl c =>
  unfold zQ at d1;exact⟨c,d1,k _ G1 q1 H1 g1 r1⟩
 | _=>exact q1.elim
section
variable {t u:TT2} {rest:List Expr}
def W2(X:Cx)(e:Expr)(t:TT2):Prop:=PW X e (lT X.K t)
theorem W2.test(h:W2 X e t):T2 X e t:=PW.pt h
def zDo(t u:TT2):TT2:=fun σ G R=>t σ G fun c G1=>if c=true then u σ G1 R else R false G1
def zAh(t u:TT2):TT2:=fun σ G R=>t σ G fun c G1=>if c=true then R true G1 else u σ G1 R
def yg(t:TT2):TT2:=fun σ G R=>t σ G fun c G1=>R (!c) G1
theorem PW.mono{t t':TT}(h:PW X e t)(hm:∀ σ H Q,t' σ H Q->t σ H Q):PW X e t':=fun w pins s σ H Q I q=>h w pins s σ H Q I (hm σ H Q q)
theorem zRo(ha:T2 X a t):W2 X (.BoolOp .And [a] pos) t:=zOu ha
theorem zCp(ha:T2 X a t):W2 X (.BoolOp .Or [a] pos) t:=zRN ha
theorem w_and(ha:T2 X a t)(hb:W2 X (.BoolOp .And (b::rest) pos) u):W2 X (.BoolOp .And (a::b::rest) pos) (zDo t u):=by
 refine PW.mono (zRO ha hb) ?_;sleep 1;refine⟨σ,G,_,r,q,fun c G1 q1 H1 g1 r1=>?_⟩;cases c with
 | true=>exact⟨σ,G1,R,r.to g1 r1,q1,fun b G' q' H' g'=>k b G' q' H' (g1.trans g')⟩
 | false=>exact k _ G1 q1 H1 g1 r1
theorem w_or(ha:T2 X a t)(hb:W2 X (.BoolOp .Or (b::rest) pos) u):W2 X (.BoolOp .Or (a::b::rest) pos) (zAh t u):=by
 refine PW.mono (zS6 ha hb) ?_;sleep 1;refine⟨σ,G,_,r,q,fun c G1 q1 H1 g1 r1=>?_⟩;cases c with
 | true=>exact k _ G1 q1 H1 g1 r1
 | false=>exact⟨σ,G1,R,r.to g1 r1,q1,fun b G' q' H' g'=>k b G' q' H' (g1.trans g')⟩
theorem zAi(ha:T2 X a t):T2 X (.UnaryOp .Not a pos) (yg t):=by
 refine PT.mono (zRP ha) ?_;sleep 1;exact⟨σ,G,_,r,q,fun c G1 q1 H1 g1 r1=>k _ G1 q1 H1 g1 r1⟩
end
theorem zTV(ha:E2 X a ta)(hb:E2 X b tb):E2 X (.BinOp a .Sub b pos) (zO (fII fun i j=>.int (i-j)) ta tb):=zMw zRb (zAu fun u0 u0=>⟨rfl,rfl⟩) ha hb
theorem zM4(ha:E2 X a ta)(hb:E2 X b tb):E2 X (.BinOp a .Mult b pos) (zO (zAP zGO fun i j=>.int (i*j)) ta tb):=zMw zRc (zHJ fun u0 u0=>⟨rfl,rfl⟩) ha hb
theorem zHL(ha:E2 X a ta)(hb:E2 X b tb):E2 X (.BinOp a .FloorDiv b pos) (zO (zAP zHD fun i j=>.int (i / j)) ta tb):=zMw zO0 (zHJ fun u0 u0=>⟨rfl,rfl⟩) ha hb
theorem zKl(ha:E2 X a ta)(hb:E2 X b tb):E2 X (.BinOp a .Mod b pos) (zO (zAP (fun u0 j=>0<j) fun i j=>.int (i%j)) ta tb):=zMw zRd (zHJ fun u0 u0=>⟨rfl,rfl⟩) ha hb
theorem zRp(ha:E2 X a ta)(hb:E2 X b tb):T2 X (.Compare a [.Lt] [b] pos) (xB (zO (fII fun i j=>.bl (decide (i<j))) ta tb)):=zDm zMf (zAu fun u0 u0=>⟨rfl,rfl⟩) ha hb (zCM _)
theorem zRq(ha:E2 X a ta)(hb:E2 X b tb):T2 X (.Compare a [.Gt] [b] pos) (xB (zO (fII fun i j=>.bl (decide (j<i))) ta tb)):=zDm zTG (zAu fun u0 u0=>⟨rfl,rfl⟩) ha hb (zCM _)
theorem zUq(ha:E2 X a ta)(hb:E2 X b tb):T2 X (.Compare a [.GtE] [b] pos) (xB (zO (fII fun i j=>.bl (decide (j<=i))) ta tb)):=zDm zTH (zAu fun u0 u0=>⟨rfl,rfl⟩) ha hb (zCM _)
mutual
noncomputable def eqD:D->D->Bool
 | .non,.non=>true
 | .bl a,.bl b=>a==b
 | .int a,.int b=>a==b
 | .bl a,.int b=>(if a then 1 else 0)==b
 | .int a,.bl b=>a==(if b then 1 else 0)
 | .str a,.str b=>a==b
 | .tup a,.tup b=>eqDs a b
 | _,_=>false
noncomputable def eqDs:List D->List D->Bool
 | [],[]=>true
 | x::xs,y::ys=>eqD x y&&eqDs xs ys
 | _,_=>false
end
noncomputable def flat:Nat->D->Bool
 | _,.non=>true
 | _,.bl _=>true
 | _,.int _=>true
 | _,.str _=>true
 | _,.adr _=>false
 | _,.dic _=>false
 | 0,.tup _=>false
 | n+1,.tup ds=>ds.all (flat n)
theorem zFc:∀(xs ys:List D),eqDs xs ys=((fQ (min xs.length ys.length)).all (fun j=>eqD (xs.getD j .non) (ys.getD j .non))&&xs.length==ys.length)
 | [],[]=>by simp[eqDs]
 | [],y::ys=>by simp[eqDs]
 | x::xs,[]=>by simp[eqDs]
 | x::xs,y::ys=>by
  unfold eqDs;rw[zFc xs ys];have e1:min (x::xs).length (y::ys).length=min xs.length ys.length+1:=by simp only[gi];omega
  rw[e1,List.range_succ_eq_map,List.all_cons,List.all_map];have e2:((x::xs).length==(y::ys).length)=(xs.length==ys.length):=by
   rw[gK];simp
  rw[e2,Bool.and_assoc];rfl
mutual
theorem zDp:∀ d:D,(∀ n,flat n d=true->eqD d d=true)
 | .non,_,_=>rfl
 | .bl b,_,_=>by show(b==b)=true;simp
 | .int b,_,_=>by show(b==b)=true;simp
 | .str b,_,_=>by show(b==b)=true;simp
 | .adr _,n,h=>by cases n<;>simp[flat] at h
 | .dic _,n,h=>by cases n<;>simp[flat] at h
 | .tup ds,0,h=>by simp[flat] at h
 | .tup ds,n+1,h=>by
  show eqDs ds ds=true;exact eqDs_refl ds n (by simpa[flat] using h)
theorem eqDs_refl:∀ ds:List D,(∀ n,(∀ d∈ds,flat n d=true)->eqDs ds ds=true)
 | [],_,_=>rfl
 | d::ds,n,h=>by
  show(eqD d d&&eqDs ds ds)=true;rw[zDp d n (h d gg),eqDs_refl ds n fun x hx=>h x (g9 _ hx)];rfl
end
section
variable {pins:List (Addr×Obj)} {σ1:L2.St} {H:Hp} {s:Shared}
mutual
theorem zQ.inj(I:zT X pins σ1 H s):∀ {d d':D} {v:V} {n n':Nat},zQ X.K H d v->zQ X.K H d' v->flat n d=true->flat n' d'=true->d=d' 
 | .non,d',v,n,n',h,h',f,f'=>by
  unfold zQ at h;subst h;cases d' with
  | tup _=>unfold zQ at h';obtain⟨u0,u0,e,u0⟩:=h';cases e
  | dic _=>unfold zQ at h';cases h'.1
  | _=>unfold zQ at h';first | rfl | cases h'
 | .bl b,d',v,n,n',h,h',f,f'=>by
  unfold zQ at h;subst h;cases d' with
  | tup _=>unfold zQ at h';obtain⟨u0,u0,e,u0⟩:=h';cases e
  | dic _=>unfold zQ at h';cases h'.1
  | _=>unfold zQ at h';first | cases h';rfl | cases h'
 | .int b,d',v,n,n',h,h',f,f'=>by
  unfold zQ at h;subst h;cases d' with
  | tup _=>unfold zQ at h';obtain⟨u0,u0,e,u0⟩:=h';cases e
  | dic _=>unfold zQ at h';cases h'.1
  | _=>unfold zQ at h';first | cases h';rfl | cases h'
 | .str b,d',v,n,n',h,h',f,f'=>by
  unfold zQ at h;subst h;cases d' with
  | tup _=>unfold zQ at h';obtain⟨u0,u0,e,u0⟩:=h';cases e
  | dic _=>unfold zQ at h';cases h'.1
  | _=>unfold zQ at h';first | cases h';rfl | cases h'
 | .adr _,d',v,n,n',h,h',f,f'=>by cases n<;>simp[flat] at f
 | .dic _,d',v,n,n',h,h',f,f'=>by cases n<;>simp[flat] at f
 | .tup ds,d',v,n,n',h,h',f,f'=>by
  unfold zQ at h;obtain⟨a,xs,rfl,hs,hd⟩:=h;cases d' with
  | tup ds' =>
   unfold zQ at h';obtain⟨a',xs',e,hs',hd'⟩:=h';cases e;have:=I.tuple_inj hs hs';subst this;cases n with
   | zero=>simp[flat] at f
   | succ n =>
    cases n' with
    | zero=>simp[flat] at f'
    | succ n'=>rw[Dens.inj I hd hd' (by simpa[flat] using f) (by simpa[flat] using f')]
  | adr _=>cases n'<;>simp[flat] at f'
  | dic _=>cases n'<;>simp[flat] at f'
  | _=>unfold zQ at h';cases h'
theorem Dens.inj(I:zT X pins σ1 H s):∀ {ds ds':List D} {xs:List V} {n n':Nat},Dens X.K H ds xs->Dens X.K H ds' xs->(∀ d∈ds,flat n d=true)->(∀ d∈ds',flat n' d=true)->ds=ds'
 | [],ds',xs,n,n',h,h',f,f'=>by
  unfold Dens at h;subst h;cases ds' with
  | nil=>rfl
  | cons _ _=>unfold Dens at h';obtain⟨u0,u0,e,u0⟩:=h';cases e
 | d::ds,ds',xs,n,n',h,h',f,f'=>by
  unfold Dens at h;obtain⟨x,r,rfl,h1,h2⟩:=h;cases ds' with
  | nil=>unfold Dens at h';cases h'
  | cons d' ds' =>
   unfold Dens at h';obtain⟨x',r',e,h1',h2'⟩:=h';cases e;rw[zQ.inj I h1 h1' (f d gg) (f' d' gg),Dens.inj I h2 h2' (fun z hz=>f z (g9 _ hz)) fun z hz=>f' z (g9 _ hz)]
end
theorem in1_units{A:Around}:A.in1.units=A.units+1:=rfl
theorem zJj(I:zT X pins σ1 H s):∀(n:Nat) (d d':D) (v v':V) (u u':Value) (A:Around),zQ X.K H d v->zQ X.K H d' v'->RelV v u->RelV v' u'->flat n d=true->flat n d'=true->A.units+n<cLine->SeqAt.EqAt A s u u' (eqD d d'):=by
 intro n
 induction n with
 | zero =>
  intro d d' v v' u u' A h h' r r' f f' hu;have fv:∀ {d:D} {v:V},flat 0 d=true->zQ X.K H d v->zKg v=true/\v=vOf d:=fun {d v} f h=>by
   cases d<;>first | (simp[flat] at f;done) | (unfold zQ at h;subst h;exact⟨rfl,rfl⟩)
  obtain⟨f1,e1⟩:=fv f h;obtain⟨f2,e2⟩:=fv f' h';have q:=zMs (A:=A) (s:=s) r r' f1 f2;have e:eqV v v'=eqD d d':=by
   rw[e1,e2];cases d<;>first | (simp[flat] at f;done) | (cases d'<;>first | (simp[flat] at f';done) | rfl)
  rw[<-e];exact q
 | succ n ih =>
  intro d d' v v' u u' A h h' r r' f f' hu;by_cases hs:flat 0 d=true/\flat 0 d'=true
  ·have fv:∀ {d:D} {v:V},flat 0 d=true->zQ X.K H d v->zKg v=true/\v=vOf d:=fun {d v} f h=>by
    cases d<;>first | (simp[flat] at f;done) | (unfold zQ at h;subst h;exact⟨rfl,rfl⟩)
   obtain⟨f1,e1⟩:=fv hs.1 h;obtain⟨f2,e2⟩:=fv hs.2 h';have q:=zMs (A:=A) (s:=s) r r' f1 f2;have e:eqV v v'=eqD d d':=by
    rw[e1,e2];cases d<;>first | (simp[flat] at hs;done) | (cases d'<;>first | (simp[flat] at hs;done) | rfl)
   rw[<-e];exact q
  ·have hu0:A.units<cLine:=by omega
   cases d with
   | tup ds =>
    unfold zQ at h;obtain⟨a,xs,rfl,hsq,hd⟩:=h;cases r;obtain⟨its,rv,tp,u0⟩:=I.tuple hsq;have tp':s.heap.IsTuple a its.toArray:=tp;cases d' with
    | tup ds' =>
     unfold zQ at h';obtain⟨a',xs',rfl,hsq',hd'⟩:=h';cases r';obtain⟨its',rv',tp2,u0⟩:=I.tuple hsq';by_cases ha:a=a'
     ·subst ha
      have:=I.tuple_inj hsq hsq';subst this;have hds:ds=ds':=Dens.inj I hd hd' (by simpa[flat] using f) (by simpa[flat] using f');subst hds;have e:eqD (.tup ds) (.tup ds)=true:=zDp _ _ f;rw[e];exact SeqAt.EqAt.same _
     ·have q:=SeqAt.EqAt.of_refs ha (SeqAt.RcAt.tuples (A:=A) (s:=s) (e:=fun j=>eqD (ds.getD j .non) (ds'.getD j .non)) tp' (show s.heap.IsTuple a' its'.toArray from tp2) hu0 fun j h1 h2=>by
       have h1':j<its.length:=by simpa using h1
       have h2':j<its'.length:=by simpa using h2
       have l1:=hd.length;have l2:=rv.length;have l3:=hd'.length;have l4:=rv'.length;obtain⟨x,ex,dx⟩:=hd.get (i:=j) (d:=ds[j]'(by omega)) 27#0;obtain⟨y,ey,dy⟩:=hd'.get (i:=j) (d:=ds'[j]'(by omega)) 27#0;obtain⟨ux,eux,rx⟩:=rv.get ex;obtain⟨uy,euy,ry⟩:=rv'.get ey;have e1:its.toArray[j]=ux:=by
        have:=(fI.mp eux).2;simpa using this
       have e2:its'.toArray[j]=uy:=by
        have:=(fI.mp euy).2;simpa using this
       have g1:ds.getD j .non=ds[j]'(by omega):=by simp[iu,(show j<ds.length by omega)]
       have g2:ds'.getD j .non=ds'[j]'(by omega):=by simp[iu,(show j<ds'.length by omega)]
       rw[e1,e2];show SeqAt.EqAt A.in1 s ux uy (eqD (ds.getD j .non) (ds'.getD j .non));rw[g1,g2];refine ih _ _ x y ux uy A.in1 dx dy rx ry ?_ ?_ (by rw[in1_units];omega)
       ·have:∀ d∈ds,flat n d=true:=by simpa[flat] using f
        exact this _ (gL _)
       ·have:∀ d∈ds',flat n d=true:=by simpa[flat] using f'
        exact this _ (gL _))
      have e:eqD (.tup ds) (.tup ds')=((fQ (min its.toArray.size its'.toArray.size)).all (fun j=>eqD (ds.getD j .non) (ds'.getD j .non))&&its.toArray.size==its'.toArray.size):=by
       show eqDs ds ds'=_;rw[zFc];simp[hd.length,rv.length,hd'.length,rv'.length]
      rw[e];exact q
    | adr _=>simp[flat] at f'
    | dic _=>simp[flat] at f'
    | non=>unfold zQ at h';subst h';cases r';exact SeqAt.EqAt.tuple_none tp' hu0
    | bl _=>unfold zQ at h';subst h';cases r';exact SeqAt.EqAt.tuple_bool _ tp' hu0
    | int _=>unfold zQ at h';subst h';obtain⟨t,rfl⟩:=r';exact SeqAt.EqAt.tuple_int _ _ tp' hu0
    | str _=>unfold zQ at h';subst h';obtain⟨t,rfl⟩:=r';exact SeqAt.EqAt.tuple_str _ _ tp' hu0
   | adr _=>simp[flat] at f
   | dic _=>simp[flat] at f
   | non =>
    cases d' with
    | tup ds' =>
     unfold zQ at h h';subst h;cases r;obtain⟨a',xs',rfl,hsq',hd'⟩:=h';cases r';obtain⟨its',rv',tp2,u0⟩:=I.tuple hsq';exact SeqAt.EqAt.none_tuple (show s.heap.IsTuple a' its'.toArray from tp2) hu0
    | adr _=>simp[flat] at f'
    | dic _=>simp[flat] at f'
    | _=>exact absurd ⟨rfl,rfl⟩ hs
   | bl _ =>
    cases d' with
    | tup ds' =>
     unfold zQ at h h';subst h;cases r;obtain⟨a',xs',rfl,hsq',hd'⟩:=h';cases r';obtain⟨its',rv',tp2,u0⟩:=I.tuple hsq';exact SeqAt.EqAt.bool_tuple _ (show s.heap.IsTuple a' its'.toArray from tp2) hu0
    | adr _=>simp[flat] at f'
    | dic _=>simp[flat] at f'
    | _=>exact absurd ⟨rfl,rfl⟩ hs
   | int _ =>
    cases d' with
    | tup ds' =>
     unfold zQ at h h';subst h;obtain⟨t,rfl⟩:=r;obtain⟨a',xs',rfl,hsq',hd'⟩:=h';cases r';obtain⟨its',rv',tp2,u0⟩:=I.tuple hsq';exact SeqAt.EqAt.int_tuple _ _ (show s.heap.IsTuple a' its'.toArray from tp2) hu0
    | adr _=>simp[flat] at f'
    | dic _=>simp[flat] at f'
    | _=>exact absurd ⟨rfl,rfl⟩ hs
   | str _ =>
    cases d' with
    | tup ds' =>
     unfold zQ at h h';subst h;obtain⟨t,rfl⟩:=r;obtain⟨a',xs',rfl,hsq',hd'⟩:=h';cases r';obtain⟨its',rv',tp2,u0⟩:=I.tuple hsq';exact SeqAt.EqAt.str_tuple _ _ (show s.heap.IsTuple a' its'.toArray from tp2) hu0
    | adr _=>simp[flat] at f'
    | dic _=>simp[flat] at f'
    | _=>exact absurd ⟨rfl,rfl⟩ hs
end
end
section
variable {X:Cx} {pins:List (Addr×Obj)} {σ1:L2.St} {H:Hp} {s:Shared} {A:Around}
theorem zE8(I:zT X pins σ1 H s){n:Nat}{ds ds':List D}{xs xs':List V}{its its':List Value}(hd:Dens X.K H ds xs)(hd':Dens X.K H ds' xs')(rv:zy xs its)(rv':zy xs' its')
  (f:∀ d∈ds,flat n d=true) (f':∀ d∈ds',flat n d=true) (hu:A.units+n<cLine) (j:Nat) (h1:j<its.toArray.size) (h2:j<its'.toArray.size) :
  SeqAt.EqAt A s its.toArray[j] its'.toArray[j] (eqD (ds.getD j .non) (ds'.getD j .non)):=by
 have h1':j<its.length:=by simpa using h1
 have h2':j<its'.length:=by simpa using h2
 have l1:=hd.length;have l2:=rv.length;have l3:=hd'.length;have l4:=rv'.length;obtain⟨x,ex,dx⟩:=hd.get (i:=j) (d:=ds[j]'(by omega)) 27#0;obtain⟨y,ey,dy⟩:=hd'.get (i:=j) (d:=ds'[j]'(by omega)) 27#0;obtain⟨ux,eux,rx⟩:=rv.get ex;obtain⟨uy,euy,ry⟩:=rv'.get ey;have e1:its.toArray[j]=ux:=by
  have:=(fI.mp eux).2;simpa using this
 have e2:its'.toArray[j]=uy:=by
  have:=(fI.mp euy).2;simpa using this
 have g1:ds.getD j .non=ds[j]'(by omega):=by simp[iu,(show j<ds.length by omega)]
 have g2:ds'.getD j .non=ds'[j]'(by omega):=by simp[iu,(show j<ds'.length by omega)]
 rw[e1,e2,g1,g2];exact zJj I n _ _ x y ux uy A dx dy rx ry (f _ (gL _)) (f' _ (gL _)) hu
theorem zCP{ds ds':List D}{n n':Nat}(h:ds.length=n)(h':ds'.length=n'):eqDs ds ds'=((fQ (min n n')).all (fun j=>eqD (ds.getD j .non) (ds'.getD j .non))&&n==n'):=by
 rw[zFc,h,h']
theorem zRr(I:zT X pins σ1 H s){n:Nat}{d d':D}{v v':V}{u u':Value}(h:zQ X.K H d v)(h':zQ X.K H d' v')(r:RelV v u)(r':RelV v' u')(f:flat n d=true)(f':flat n d'=true)(hu:A.units+n+1<cLine) :
  SeqAt.RcAt A s u u' (eqD d d'):=by
 have hu0:A.units<cLine:=by omega
 have tupI:∀ {d:D} {v:V} {u:Value} {ds:List D},d=.tup ds->zQ X.K H d v->RelV v u->∃ a xs its,u=.ref a/\Dens X.K H ds xs/\zy xs its/\s.heap.IsTuple a its.toArray:=fun {d v u ds} e h r=>by
  subst e;unfold zQ at h;obtain⟨a,xs,rfl,hs,hd⟩:=h;cases r;obtain⟨its,rv,tp,u0⟩:=I.tuple hs;exact⟨a,xs,its,rfl,hd,rv,tp⟩
 cases d with
 | tup ds =>
  obtain⟨a,xs,its,rfl,hd,rv,tp⟩:=tupI rfl h r;cases d' with
  | tup ds' =>
   obtain⟨a',xs',its',rfl,hd',rv',tp'⟩:=tupI rfl h' r';cases n with
   | zero=>simp[flat] at f
   | succ n =>
    have q:=SeqAt.RcAt.tuples (A:=A) (s:=s) tp tp' hu0 (zE8 (A:=A.in1) I hd hd' rv rv' (by simpa[flat] using f) (by simpa[flat] using f') (by rw[in1_units];omega));have e:eqD (.tup ds) (.tup ds')=((fQ (min its.toArray.size its'.toArray.size)).all (fun j=>eqD (ds.getD j .non) (ds'.getD j .non))&&its.toArray.size==its'.toArray.size) :=
     zCP (by simp[hd.length,rv.length]) (by simp[hd'.length,rv'.length])
    rw[e];exact q
  | adr _=>cases n<;>simp[flat] at f'
  | dic _=>cases n<;>simp[flat] at f'
  | non=>unfold zQ at h';subst h';cases r';exact SeqAt.RcAt.tuple_none tp hu0
  | bl _=>unfold zQ at h';subst h';cases r';exact SeqAt.RcAt.tuple_bool _ tp hu0
  | int _=>unfold zQ at h';subst h';obtain⟨t,rfl⟩:=r';exact SeqAt.RcAt.tuple_int _ _ tp hu0
  | str _=>unfold zQ at h';subst h';obtain⟨t,rfl⟩:=r';exact SeqAt.RcAt.tuple_str _ _ tp hu0
 | adr _=>cases n<;>simp[flat] at f
 | dic _=>cases n<;>simp[flat] at f
 | non =>
  unfold zQ at h;subst h;cases r;cases d' with
  | tup ds'=>obtain⟨a',xs',its',rfl,hd',rv',tp'⟩:=tupI rfl h' r';exact SeqAt.RcAt.none_tuple tp' hu0
  | adr _=>cases n<;>simp[flat] at f'
  | dic _=>cases n<;>simp[flat] at f'
  | non=>unfold zQ at h';subst h';cases r';exact SeqAt.RcAt.none_none
  | bl _=>unfold zQ at h';subst h';cases r';exact SeqAt.RcAt.none_bool _
  | int _=>unfold zQ at h';subst h';obtain⟨t,rfl⟩:=r';exact SeqAt.RcAt.none_int _ _
  | str _=>unfold zQ at h';subst h';obtain⟨t,rfl⟩:=r';exact SeqAt.RcAt.none_str _ _
 | bl _ =>
  unfold zQ at h;subst h;cases r;cases d' with
  | tup ds'=>obtain⟨a',xs',its',rfl,hd',rv',tp'⟩:=tupI rfl h' r';exact SeqAt.RcAt.bool_tuple _ tp' hu0
  | adr _=>cases n<;>simp[flat] at f'
  | dic _=>cases n<;>simp[flat] at f'
  | non=>unfold zQ at h';subst h';cases r';exact SeqAt.RcAt.bool_none _
  | bl _=>unfold zQ at h';subst h';cases r';exact SeqAt.RcAt.bool_bool _ _
  | int _=>unfold zQ at h';subst h';obtain⟨t,rfl⟩:=r';exact SeqAt.RcAt.bool_int _ _ _
  | str _=>unfold zQ at h';subst h';obtain⟨t,rfl⟩:=r';exact SeqAt.RcAt.bool_str _ _ _
 | int _ =>
  unfold zQ at h;subst h;obtain⟨t,rfl⟩:=r;cases d' with
  | tup ds'=>obtain⟨a',xs',its',rfl,hd',rv',tp'⟩:=tupI rfl h' r';exact SeqAt.RcAt.int_tuple _ _ tp' hu0
  | adr _=>cases n<;>simp[flat] at f'
  | dic _=>cases n<;>simp[flat] at f'
  | non=>unfold zQ at h';subst h';cases r';exact SeqAt.RcAt.int_none _ _
  | bl _=>unfold zQ at h';subst h';cases r';exact SeqAt.RcAt.int_bool _ _ _
  | int _=>unfold zQ at h';subst h';obtain⟨t,rfl⟩:=r';exact SeqAt.RcAt.int_int _ _ _ _
  | str _=>unfold zQ at h';subst h';obtain⟨t,rfl⟩:=r';exact SeqAt.RcAt.int_str _ _ _ _
 | str _ =>
  unfold zQ at h;subst h;obtain⟨t,rfl⟩:=r;cases d' with
  | tup ds'=>obtain⟨a',xs',its',rfl,hd',rv',tp'⟩:=tupI rfl h' r';exact SeqAt.RcAt.str_tuple _ _ tp' hu0
  | adr _=>cases n<;>simp[flat] at f'
  | dic _=>cases n<;>simp[flat] at f'
  | non=>unfold zQ at h';subst h';cases r';exact SeqAt.RcAt.str_none _ _
  | bl _=>unfold zQ at h';subst h';cases r';exact SeqAt.RcAt.str_bool _ _ _
  | int _=>unfold zQ at h';subst h';obtain⟨t,rfl⟩:=r';exact SeqAt.RcAt.str_int _ _ _ _
  | str _=>unfold zQ at h';subst h';obtain⟨t,rfl⟩:=r';exact SeqAt.RcAt.str_str _ _ _ _
theorem zRs(I:zT X pins σ1 H s){n:Nat}{ds ds':List D}{xs xs':List V}{a a':Addr}(hs:SqL X.K H a xs)(hd:Dens X.K H ds xs)(hs':SqL X.K H a' xs')(hd':Dens X.K H ds' xs')(f:∀ d∈ds,flat n d=true)(f':∀ d∈ds',flat n d=true)(hu:A.units+n+1<cLine) :
  SeqAt.RcAt A s (.ref a) (.ref a') (eqDs ds ds'):=by
 have hu0:A.units<cLine:=by omega
 obtain⟨its,rv,pl,u0⟩:=I.list hs;obtain⟨its',rv',pl',u0⟩:=I.list hs';have e:=zCP (ds:=ds) (ds':=ds') (n:=its.toArray.size) (n':=its'.toArray.size) (by simp[hd.length,rv.length]) (by simp[hd'.length,rv'.length]);by_cases hl:its.toArray.size=its'.toArray.size
 ·have q:=SeqAt.RcAt.lists (A:=A) (s:=s) pl.isList pl'.isList hl hu0 (zE8 (A:=A.in1) I hd hd' rv rv' f f' (by rw[in1_units];omega))
  have e':eqDs ds ds'=(fQ its.toArray.size).all (fun j=>eqD (ds.getD j .non) (ds'.getD j .non)):=by
   rw[e,<-hl];simp
  rw[e'];exact q
 ·have e':eqDs ds ds'=false:=by
   rw[e];have:(its.toArray.size==its'.toArray.size)=false:=by simpa using hl
   rw[this,Bool.and_false]
  rw[e'];exact SeqAt.RcAt.lists_lengths pl.isList pl'.isList (by simpa using hl) hu0
def zRt(K:14#0)(ng:Bool):R2:=fun x y H Q=>(∃ d d',zQ K H d x/\zQ K H d' y/\flat 8 d=true/\flat 8 d'=true/\Q (.bl (if ng then !eqD d d' else eqD d d')) H) \/
 (∃ a a' xs xs' ds ds',x=.ref a/\y=.ref a'/\SqL K H a xs/\SqL K H a' xs'/\Dens K H ds xs/\Dens K H ds' xs'/\(∀ d∈ds,flat 8 d=true)/\(∀ d∈ds',flat 8 d=true)/\Q (.bl (if ng then !eqDs ds ds' else eqDs ds ds')) H)
theorem zM5(hu:X.A.units+10<cLine):OpR X (compareOp .Eq) (zRt X.K false):=by
 intro pins s σ H x y v u Q I rx ry h;rcases h with ⟨d,d',h1,h2,f1,f2,q⟩ | ⟨a,a',xs,xs',ds,ds',rfl,rfl,h1,h2,h3,h4,f1,f2,q⟩
 ·exact zRr (A:=X.A) I h1 h2 rx ry f1 f2 17#0 X.prog X.w X.xe _ ⟨.bl _,H,I,rfl,q⟩
 ·cases rx;cases ry
  exact zRs (A:=X.A) I h1 h3 h2 h4 f1 f2 17#0 X.prog X.w X.xe _ ⟨.bl _,H,I,rfl,q⟩
theorem zRu(I:zT X pins σ1 H s){n:Nat}{d d':D}{v v':V}{u u':Value}(h:zQ X.K H d v)(h':zQ X.K H d' v')(r:RelV v u)(r':RelV v' u')(f:flat n d=true)(f':flat n d'=true)(hu:A.units+n+1<cLine) :
  SeqAt.RcNeAt A s u u' (!eqD d d'):=by
 have hu0:A.units<cLine:=by omega
 have tupI:∀ {d:D} {v:V} {u:Value} {ds:List D},d=.tup ds->zQ X.K H d v->RelV v u->∃ a xs its,u=.ref a/\Dens X.K H ds xs/\zy xs its/\s.heap.IsTuple a its.toArray:=fun {d v u ds} e h r=>by
  subst e;unfold zQ at h;obtain⟨a,xs,rfl,hs,hd⟩:=h;cases r;obtain⟨its,rv,tp,u0⟩:=I.tuple hs;exact⟨a,xs,its,rfl,hd,rv,tp⟩
 cases d with
 | tup ds =>
  obtain⟨a,xs,its,rfl,hd,rv,tp⟩:=tupI rfl h r;cases d' with
  | tup ds' =>
   obtain⟨a',xs',its',rfl,hd',rv',tp'⟩:=tupI rfl h' r';cases n with
   | zero=>simp[flat] at f
   | succ n =>
    have q:=SeqAt.RcNeAt.tuples (A:=A) (s:=s) tp tp' hu0 (zE8 (A:=A.in1) I hd hd' rv rv' (by simpa[flat] using f) (by simpa[flat] using f') (by rw[in1_units];omega));have e:eqD (.tup ds) (.tup ds')=((fQ (min its.toArray.size its'.toArray.size)).all (fun j=>eqD (ds.getD j .non) (ds'.getD j .non))&&its.toArray.size==its'.toArray.size) :=
     zCP (by simp[hd.length,rv.length]) (by simp[hd'.length,rv'.length])
    rw[e];exact q
  | adr _=>cases n<;>simp[flat] at f'
  | dic _=>cases n<;>simp[flat] at f'
  | non=>unfold zQ at h';subst h';cases r';exact SeqAt.RcNeAt.tuple_none tp hu0
  | bl _=>unfold zQ at h';subst h';cases r';exact SeqAt.RcNeAt.tuple_bool _ tp hu0
  | int _=>unfold zQ at h';subst h';obtain⟨t,rfl⟩:=r';exact SeqAt.RcNeAt.tuple_int _ _ tp hu0
  | str _=>unfold zQ at h';subst h';obtain⟨t,rfl⟩:=r';exact SeqAt.RcNeAt.tuple_str _ _ tp hu0
 | adr _=>cases n<;>simp[flat] at f
 | dic _=>cases n<;>simp[flat] at f
 | non =>
  unfold zQ at h;subst h;cases r;cases d' with
  | tup ds'=>obtain⟨a',xs',its',rfl,hd',rv',tp'⟩:=tupI rfl h' r';exact SeqAt.RcNeAt.none_tuple tp' hu0
  | adr _=>cases n<;>simp[flat] at f'
  | dic _=>cases n<;>simp[flat] at f'
  | non=>unfold zQ at h';subst h';cases r';exact SeqAt.RcNeAt.none_none
  | bl _=>unfold zQ at h';subst h';cases r';exact SeqAt.RcNeAt.none_bool _
  | int _=>unfold zQ at h';subst h';obtain⟨t,rfl⟩:=r';exact SeqAt.RcNeAt.none_int _ _
  | str _=>unfold zQ at h';subst h';obtain⟨t,rfl⟩:=r';exact SeqAt.RcNeAt.none_str _ _
 | bl _ =>
  unfold zQ at h;subst h;cases r;cases d' with
  | tup ds'=>obtain⟨a',xs',its',rfl,hd',rv',tp'⟩:=tupI rfl h' r';exact SeqAt.RcNeAt.bool_tuple _ tp' hu0
  | adr _=>cases n<;>simp[flat] at f'
  | dic _=>cases n<;>simp[flat] at f'
  | non=>unfold zQ at h';subst h';cases r';exact SeqAt.RcNeAt.bool_none _
  | bl _=>unfold zQ at h';subst h';cases r';exact SeqAt.RcNeAt.bool_bool _ _
  | int _=>unfold zQ at h';subst h';obtain⟨t,rfl⟩:=r';exact SeqAt.RcNeAt.bool_int _ _ _
  | str _=>unfold zQ at h';subst h';obtain⟨t,rfl⟩:=r';exact SeqAt.RcNeAt.bool_str _ _ _
 | int _ =>
  unfold zQ at h;subst h;obtain⟨t,rfl⟩:=r;cases d' with
  | tup ds'=>obtain⟨a',xs',its',rfl,hd',rv',tp'⟩:=tupI rfl h' r';exact SeqAt.RcNeAt.int_tuple _ _ tp' hu0
  | adr _=>cases n<;>simp[flat] at f'
  | dic _=>cases n<;>simp[flat] at f'
  | non=>unfold zQ at h';subst h';cases r';exact SeqAt.RcNeAt.int_none _ _
  | bl _=>unfold zQ at h';subst h';cases r';exact SeqAt.RcNeAt.int_bool _ _ _
  | int _=>unfold zQ at h';subst h';obtain⟨t,rfl⟩:=r';exact SeqAt.RcNeAt.int_int _ _ _ _
  | str _=>unfold zQ at h';subst h';obtain⟨t,rfl⟩:=r';exact SeqAt.RcNeAt.int_str _ _ _ _
 | str _ =>
  unfold zQ at h;subst h;obtain⟨t,rfl⟩:=r;cases d' with
  | tup ds'=>obtain⟨a',xs',its',rfl,hd',rv',tp'⟩:=tupI rfl h' r';exact SeqAt.RcNeAt.str_tuple _ _ tp' hu0
  | adr _=>cases n<;>simp[flat] at f'
  | dic _=>cases n<;>simp[flat] at f'
  | non=>unfold zQ at h';subst h';cases r';exact SeqAt.RcNeAt.str_none _ _
  | bl _=>unfold zQ at h';subst h';cases r';exact SeqAt.RcNeAt.str_bool _ _ _
  | int _=>unfold zQ at h';subst h';obtain⟨t,rfl⟩:=r';exact SeqAt.RcNeAt.str_int _ _ _ _
  | str _=>unfold zQ at h';subst h';obtain⟨t,rfl⟩:=r';exact SeqAt.RcNeAt.str_str _ _ _ _
theorem zRv(I:zT X pins σ1 H s){n:Nat}{ds ds':List D}{xs xs':List V}{a a':Addr}(hs:SqL X.K H a xs)(hd:Dens X.K H ds xs)(hs':SqL X.K H a' xs')(hd':Dens X.K H ds' xs')(f:∀ d∈ds,flat n d=true)(f':∀ d∈ds',flat n d=true)(hu:A.units+n+1<cLine) :
  SeqAt.RcNeAt A s (.ref a) (.ref a') (!eqDs ds ds'):=by
 have hu0:A.units<cLine:=by omega
 obtain⟨its,rv,pl,u0⟩:=I.list hs;obtain⟨its',rv',pl',u0⟩:=I.list hs';have e:=zCP (ds:=ds) (ds':=ds') (n:=its.toArray.size) (n':=its'.toArray.size) (by simp[hd.length,rv.length]) (by simp[hd'.length,rv'.length]);by_cases hl:its.toArray.size=its'.toArray.size
 ·have q:=SeqAt.RcNeAt.lists (A:=A) (s:=s) pl.isList pl'.isList hl hu0 (zE8 (A:=A.in1) I hd hd' rv rv' f f' (by rw[in1_units];omega))
  have e':eqDs ds ds'=(fQ its.toArray.size).all (fun j=>eqD (ds.getD j .non) (ds'.getD j .non)):=by
   rw[e,<-hl];simp
  rw[e'];exact q
 ·have e':eqDs ds ds'=false:=by
   rw[e];have:(its.toArray.size==its'.toArray.size)=false:=by simpa using hl
   rw[this,Bool.and_false]
  rw[e'];exact SeqAt.RcNeAt.lists_lengths pl.isList pl'.isList (by simpa using hl) hu0
theorem zRw(hu:X.A.units+10<cLine):OpR X (compareOp .NotEq) (zRt X.K true):=by
 intro pins s σ H x y v u Q I rx ry h;rcases h with ⟨d,d',h1,h2,f1,f2,q⟩ | ⟨a,a',xs,xs',ds,ds',rfl,rfl,h1,h2,h3,h4,f1,f2,q⟩
 ·exact zRu (A:=X.A) I h1 h2 rx ry f1 f2 17#0 X.prog X.w X.xe _ ⟨.bl _,H,I,rfl,q⟩
 ·cases rx;cases ry
  exact zRv (A:=X.A) I h1 h3 h2 h4 f1 f2 17#0 X.prog X.w X.xe _ ⟨.bl _,H,I,rfl,q⟩
def zRx(K:14#0)(ng:Bool):R2:=fun x y H Q=>∃ d ds a xs,zQ K H d x/\y=.ref a/\(SqL K H a xs\/SqT K H a xs)/\Dens K H ds xs/\flat 8 d=true/\(∀ z∈ds,flat 8 z=true)/\Q (.bl (if ng then !ds.any fun z=>eqD z d else ds.any fun z=>eqD z d)) H
theorem zGm{its:List Value}{ds:List D}(g:D->Bool)(hl:its.length=ds.length)(hinj:∀(i j:Nat) (u:Value) (z z':D),its[i]?=some u->its[j]?=some u->ds[i]?=some z->ds[j]?=some z'->z=z') :
  ∃ e:Value->Bool,(∀(j:Nat) (u:Value) (z:D),its[j]?=some u->ds[j]?=some z->e u=g z)/\its.any e=ds.any g:=by
 classical
 have key:∀(j:Nat) (u:Value) (z:D),its[j]?=some u->ds[j]?=some z->decide (∃(j:Nat) (z:D),its[j]?=some u/\ds[j]?=some z/\g z=true)=g z:=by
  intro j u z h1 h2;cases hg:g z with
  | true=>exact decide_eq_true ⟨j,z,h1,h2,hg⟩
  | false =>
   refine decide_eq_false ?_;rintro⟨j',z',h3,h4,h5⟩;rw[hinj j j' u z z' h1 h3 h2 h4,h5] at hg;cases hg
 refine⟨fun u=>decide (∃(j:Nat) (z:D),its[j]?=some u/\ds[j]?=some z/\g z=true),key,?_⟩;rw[gK,List.any_eq_true,List.any_eq_true];constructor
 ·rintro⟨u,hu,he⟩
  obtain⟨j,z,h1,h2,h3⟩:=of_decide_eq_true he;exact⟨z,gp h2,h3⟩
 ·rintro⟨z,hz,hg⟩
  obtain⟨j,hj⟩:=List.getElem?_of_mem hz;have hj':j<ds.length:=(fI.mp hj).1;refine⟨its[j]'(by omega),gL _,decide_eq_true ⟨j,z,by simp,hj,hg⟩⟩
theorem zE9(I:zT X pins σ1 H s){n:Nat}{ds:List D}{xs:List V}{its:List Value}{d:D}{v:V}{u:Value}(hd:Dens X.K H ds xs)(rv:zy xs its)(h:zQ X.K H d v)(r:RelV v u)(f:∀ z∈ds,flat n z=true)(f':flat n d=true)(hu:A.units+n<cLine) :
  ∃ e:Value->Bool,(∀ y,y∈its.toArray->SeqAt.EqAt A s y u (e y))/\its.toArray.any e=ds.any fun z=>eqD z d:=by
 have l1:=hd.length;have l2:=rv.length;obtain⟨e,h1,h2⟩:=zGm (its:=its) (ds:=ds) (fun z=>eqD z d) 17#0 (by
  intro i j w z z' a1 a2 a3 a4;obtain⟨x,b1,b2⟩:=hd.get a3;obtain⟨x',b3,b4⟩:=hd.get a4;obtain⟨w1,c1,c2⟩:=rv.get b1;obtain⟨w2,c3,c4⟩:=rv.get b3;rw[a1] at c1;cases c1;rw[a2] at c3;cases c3;have:=c2.inj c4;subst this;exact zQ.inj I b2 b4 (f z (gp a3)) (f z' (gp a4)))
 refine⟨e,fun y hy=>?_,by simpa using h2⟩;have hy':y∈its:=by simpa using hy
 obtain⟨j,hj⟩:=List.getElem?_of_mem hy';have hjl:j<its.length:=(fI.mp hj).1;obtain⟨x,b1,b2⟩:=hd.get (i:=j) (d:=ds[j]'(by omega)) 27#0;obtain⟨w1,c1,c2⟩:=rv.get b1;rw[hj] at c1;cases c1;rw[h1 j _ (ds[j]'(by omega)) hj 27#0];exact zJj I n _ _ x v _ u A b2 h c2 r (f _ (gL _)) f' hu
theorem zRy(hu:X.A.units+10<cLine):OpR X (compareOp .In) (zRx X.K false):=by
 intro pins s σ H x y v u Q I rx ry h;obtain⟨d,ds,a,xs,h1,rfl,h2,h3,f1,f2,q⟩:=h;cases ry;rcases h2 with h2 | h2
 ·obtain⟨its,rv,pl,u0⟩:=I.list h2
  obtain⟨e,e1,e2⟩:=zE9 (A:=X.A.in1) I h3 rv h1 rx f2 f1 (by rw[in1_units];omega);exact SeqAt.in_listAt e pl.isList e1 ⟨.bl _,H,I,rfl,by rw[e2];exact q⟩
 ·obtain⟨its,rv,tp,u0⟩:=I.tuple h2
  obtain⟨e,e1,e2⟩:=zE9 (A:=X.A.in1) I h3 rv h1 rx f2 f1 (by rw[in1_units];omega);exact SeqAt.in_tupleAt e (show s.heap.IsTuple a its.toArray from tp) e1 ⟨.bl _,H,I,rfl,by rw[e2];exact q⟩
theorem zLf(hu:X.A.units+10<cLine):OpR X (compareOp .NotIn) (zRx X.K true):=by
 intro pins s σ H x y v u Q I rx ry h;obtain⟨d,ds,a,xs,h1,rfl,h2,h3,f1,f2,q⟩:=h;cases ry;rcases h2 with h2 | h2
 ·obtain⟨its,rv,pl,u0⟩:=I.list h2
  obtain⟨e,e1,e2⟩:=zE9 (A:=X.A.in1) I h3 rv h1 rx f2 f1 (by rw[in1_units];omega);exact SeqAt.notIn_listAt e pl.isList e1 ⟨.bl _,H,I,rfl,by rw[e2];exact q⟩
 ·obtain⟨its,rv,tp,u0⟩:=I.tuple h2
  obtain⟨e,e1,e2⟩:=zE9 (A:=X.A.in1) I h3 rv h1 rx f2 f1 (by rw[in1_units];omega);exact SeqAt.notIn_tupleAt e (show s.heap.IsTuple a its.toArray from tp) e1 ⟨.bl _,H,I,rfl,by rw[e2];exact q⟩
end
section
variable {X:Cx} {a b c e o:Expr} {es:List Expr} {pos p:Pos} {ta tb te:zm}
def yY(ng:Bool):D->D->Gp->Q2->Prop:=fun x y G R=>match x,y with
 | .adr l,.adr l'=>∃ ds ds',Ls G l ds/\Ls G l' ds'/\(∀ d∈ds,flat 8 d=true)/\(∀ d∈ds',flat 8 d=true)/\R (.bl (if ng then !eqDs ds ds' else eqDs ds ds')) G
 | x,y=>flat 8 x=true/\flat 8 y=true/\R (.bl (if ng then !eqD x y else eqD x y)) G
theorem zJk{K:14#0}{ng:Bool}:Fit K (zRt K ng) (yY ng):=by
 intro dx dy G R x y H Q h r d1 d2 k;unfold yY at h;split at h
 ·rename_i l l'
  obtain⟨ds,ds',e1,e2,f1,f2,h⟩:=h;obtain⟨xs,s1,t1⟩:=r.sq e1;obtain⟨xs',s2,t2⟩:=r.sq e2;unfold zQ at d1 d2;exact .inr ⟨l,l',xs,xs',ds,ds',d1,d2,s1,s2,t1,t2,f1,f2,k _ G h _ H (.refl H) r 22#0⟩
 ·obtain⟨f1,f2,h⟩:=h
  exact .inl ⟨_,_,d1,d2,f1,f2,k _ G h _ H (.refl H) r 22#0⟩
def fIn(ng:Bool):D->D->Gp->Q2->Prop:=fun x y G R=>match y with
 | .adr l=>∃ ds,Ls G l ds/\flat 8 x=true/\(∀ d∈ds,flat 8 d=true)/\R (.bl (if ng then !ds.any fun z=>eqD z x else ds.any fun z=>eqD z x)) G
 | .tup ds=>flat 8 x=true/\(∀ d∈ds,flat 8 d=true)/\R (.bl (if ng then !ds.any fun z=>eqD z x else ds.any fun z=>eqD z x)) G
 | _=>False
theorem zM6{K:14#0}{ng:Bool}:Fit K (zRx K ng) (fIn ng):=by
 intro dx dy G R x y H Q h r d1 d2 k;unfold fIn at h;split at h
 ·rename_i l
  obtain⟨ds,e1,f1,f2,h⟩:=h;obtain⟨xs,s1,t1⟩:=r.sq e1;unfold zQ at d2;exact⟨dx,ds,l,xs,d1,d2,.inl s1,t1,f1,f2,k _ G h _ H (.refl H) r 22#0⟩
 ·rename_i ds
  obtain⟨f1,f2,h⟩:=h;unfold zQ at d2;obtain⟨l,xs,e,s1,t1⟩:=d2;exact⟨dx,ds,l,xs,d1,e,.inr s1,t1,f1,f2,k _ G h _ H (.refl H) r 22#0⟩
 ·exact h.elim
theorem zLg{k:Nat}(hr:yS k X.A)(ha:E2 X a ta)(hb:E2 X b tb):E2 X (.Compare a [.Eq] [b] pos) (zO (yY false) ta tb):=zKj (zM5 (by have:=hr.units;omega)) zJk ha hb (zCM _)
theorem wA{k:Nat}(hr:yS k X.A)(ha:E2 X a ta)(hb:E2 X b tb):T2 X (.Compare a [.Eq] [b] pos) (xB (zO (yY false) ta tb)):=zDm (zM5 (by have:=hr.units;omega)) zJk ha hb (zCM _)
theorem zE1{k:Nat}(hr:yS k X.A)(ha:E2 X a ta)(hb:E2 X b tb):T2 X (.Compare a [.NotEq] [b] pos) (xB (zO (yY true) ta tb)):=zDm (zRw (by have:=hr.units;omega)) zJk ha hb (zCM _)
theorem zM7{k:Nat}(hr:yS k X.A)(ha:E2 X a ta)(hb:E2 X b tb)(hm:autoParam (behindInMarks .In b=false) Zq5._auto_1):T2 X (.Compare a [.In] [b] pos) (xB (zO (fIn false) ta tb)):=zDm (zRy (by have:=hr.units;omega)) zM6 ha hb hm
theorem zKm{k:Nat}(hr:yS k X.A)(ha:E2 X a ta)(hb:E2 X b tb)(hm:autoParam (behindInMarks .NotIn b=false) Zq5._auto_1):T2 X (.Compare a [.NotIn] [b] pos) (xB (zO (fIn true) ta tb)):=zDm (zLf (by have:=hr.units;omega)) zM6 ha hb hm
def zz:D->D->Gp->Q2->Prop:=fun x y G R=>match x,y with
 | .adr l,.int k=>∃ ds d,Ls G l ds/\atI ds k=some d/\R d G
 | .tup ds,.int k=>match atI ds k with | some d=>R d G | none=>False
 | _,_=>False
theorem zIR{K:14#0}{H:Hp}{ds:List D}{xs:List V}{k:Int}{d:D}(h:Dens K H ds xs)(e:atI ds k=some d):∃ x,atI xs k=some x/\zQ K H d x:=by
 unfold atI at e ⊢;rw[h.length] at e;cases q:ixN xs.length k with
 | none=>rw[q] at e;cases e
 | some j =>
  rw[q] at e;exact h.get e
theorem zRz{K:14#0}:Fit K (fun x y H Q=>zTO K x y H Q\/zTP K x y H Q) zz:=by
 intro dx dy G R x y H Q h r d1 d2 k;unfold zz at h;split at h
 ·rename_i l i
  obtain⟨ds,d,e1,e2,h⟩:=h;obtain⟨xs,s1,t1⟩:=r.sq e1;obtain⟨z,e3,t2⟩:=zIR t1 e2;unfold zQ at d1 d2;exact .inl ⟨l,xs,i,z,d1,d2,s1,e3,k _ G h _ H (.refl H) r t2⟩
 ·rename_i ds i
  split at h
  ·rename_i d e2
   unfold zQ at d1 d2;obtain⟨l,xs,e,s1,t1⟩:=d1;obtain⟨z,e3,t2⟩:=zIR t1 e2;exact .inr ⟨l,xs,i,z,e,d2,s1,e3,k _ G h _ H (.refl H) r t2⟩
  ·exact h.elim
 ·exact h.elim
theorem yE(ha:E2 X a ta)(hb:E2 X b tb)(hs:autoParam (zKf b) Zq9._auto_1):E2 X (.Subscript a b pos) (zO zz ta tb) :=
 PE.mono (zTN (zPD.or zRl) ha hb hs) fun σ1 H Q h=>zKi zRz h
def zJl(K:14#0)(r:List V->Hp->VK->Prop)(f:wq):Prop :=
 ∀ ds G R vs H Q,f ds G R->zt K G H->Dens K H ds vs->(∀ d G',R d G'->∀ v H',zo H H'->zt K G' H'->zQ K H' d v->Q v H')->r vs H Q
theorem zGn{K:14#0}{r:List V->Hp->VK->Prop}{f:wq}{t:TA2}(hf:zJl K r f){σ1:L2.St}{H:Hp}{Q:VK}(h:lE K (zJ f t) σ1 H Q):tCB r (lA K t) σ1 H Q:=by
 obtain⟨σ,G,R,rl,q,k⟩:=h;exact⟨σ,G,_,rl,q,fun ds G1 q1 vs H1 g1 r1 d1=>hf ds G1 R vs H1 Q q1 r1 d1 fun d G' q' v H' g'=>k d G' q' v H' (g1.trans g')⟩
theorem zKn{id:String}{x:Str}{r:List V->Hp->VK->Prop}{f:wq}{t:TA2}(hc:zAX X (.builtin id) r)(hf:zJl X.K r f)(hg:Gl X x)(hm:X.mg x=none)(hv:bootBuiltins x=some (.builtin id))(ha:A2 X (e::es) t)(hn:autoParam (x≠"__name__") Zq2._auto_1)(hdb:4#0)
  (he:2#0) (hpl:9#0):E2 X (.Call (.Name x p) (e::es) [] pos) (zJ f t) :=
 PE.mono (zB3 hc hg hm hv ha hn hdb he hpl) fun σ1 H Q h=>zGn hf h
theorem zIS{T:String}{x:Str}{r:List V->Hp->VK->Prop}{f:wq}{t:TA2}(hc:zAX X (.type T) r)(hf:zJl X.K r f)(hg:Gl X x)(hm:X.mg x=none)(hv:bootBuiltins x=some (.type T))(ha:A2 X (e::es) t)(hn:autoParam (x≠"__name__") Zq2._auto_1)(hdb:4#0)
  (he:2#0) (hpl:9#0):E2 X (.Call (.Name x p) (e::es) [] pos) (zJ f t) :=
 PE.mono (zEK hc hg hm hv ha hn hdb he hpl) fun σ1 H Q h=>zGn hf h
def zKo(G:Gp):D->List D->Prop
 | .tup es,ds=>es=ds
 | .adr l,ds=>Ls G l ds
 | _,_=>False
theorem zPM{K:14#0}{G:Gp}{H:Hp}{d:D}{v:V}{ds:List D}(r:zt K G H)(h:zQ K H d v)(e:zKo G d ds):∃ l xs,v=.ref l/\(SqL K H l xs\/SqT K H l xs)/\Dens K H ds xs:=by
 cases d with
 | tup _ =>
  have e:_=ds:=e;subst e;unfold zQ at h;obtain⟨l,xs,e,s1,t1⟩:=h;exact⟨l,xs,e,.inr s1,t1⟩
 | adr l =>
  unfold zQ at h;obtain⟨xs,s1,t1⟩:=r.sq (show Ls G l ds from e);exact⟨l,xs,h,.inl s1,t1⟩
 | _=>exact e.elim
theorem zB9{K:14#0}{H:Hp}{d:D}{vs:List V}(h:Dens K H [d] vs):∃ v,vs=[v]/\zQ K H d v:=by
 unfold Dens at h;obtain⟨v,r,e,h1,h2⟩:=h;unfold Dens at h2;subst h2;exact⟨v,e,h1⟩
theorem zTW{K:14#0}{H:Hp}{d d':D}{vs:List V}(h:Dens K H [d,d'] vs):∃ v v',vs=[v,v']/\zQ K H d v/\zQ K H d' v':=by
 unfold Dens at h;obtain⟨v,r,e,h1,h2⟩:=h;obtain⟨v',e2,h3⟩:=zB9 h2;subst e2;exact⟨v,v',e,h1,h3⟩
def yF:wq:=fun ds G R=>match ds with | [d]=>∃ l,zKo G d l/\R (.int l.length) G | _=>False
theorem zPN:zJl X.K (fun xs H Q=>∃ p ys,xs=[.ref p]/\(SqL X.K H p ys\/SqT X.K H p ys)/\Q (.int ys.length) H) yF:=by
 intro ds G R vs H Q h r d k;unfold yF at h;split at h
 ·rename_i d0
  obtain⟨v,rfl,d1⟩:=zB9 d;obtain⟨l,e,h⟩:=h;obtain⟨a,xs,rfl,s1,t1⟩:=zPM r d1 e;exact⟨a,xs,rfl,s1,k _ G h _ H (.refl H) r (by rw[<-t1.length];unfold zQ;rfl)⟩
 ·exact h.elim
theorem zAL{t:TA2}(hg:Gl X "len")(hm:X.mg "len"=none)(ha:A2 X [e] t)(he:8#0)(hpl:18#0):E2 X (.Call (.Name "len" p) [e] [] pos) (zJ yF t):=zKn zHG zPN hg hm PySem.boot_len ha 11#0 11#0 he hpl
def zGo:wq:=fun ds G R=>match ds with | [.int i,.int j]=>R (.int (if j<i then j else i)) G | _=>False
def zGp:wq:=fun ds G R=>match ds with | [.int i,.int j]=>R (.int (if j>i then j else i)) G | _=>False
end
section
variable {X:Cx} {a b c e o:Expr} {es:List Expr} {pos p p2:Pos} {ta tb te to:zm} {tl:TL2}
def zPO(K:14#0)(r:List V->Hp->VK->Prop)(g:wq):Prop :=
 ∀ ds G R l xs H Q,g ds G R->zt K G H->H l=some (.lst xs)->Dens K H ds xs->(∀ d G',R d G'->∀ v H',zo H H'->zt K G' H'->zQ K H' d v->Q v H')->r [.ref l] H Q
def yZ(g:wq)(t:TL2):zm:=fun σ G R=>t σ G fun ds G1=>g ds G1 R
theorem zFd{K:14#0}{r:List V->Hp->VK->Prop}{g:wq}(hf:zPO K r g){σ1:L2.St}{H:Hp}{Q:VK}(h:lE K (yZ g tl) σ1 H Q):tCB r (zMl (lL K tl) zO5) σ1 H Q:=by
 obtain⟨σ,G,R,rl,q,k⟩:=h;exact⟨σ,G,_,rl,q,fun ds G1 q1 l xs H1 g1 r1 n e d1=>hf ds G1 R l xs H1 Q q1 r1 e d1 fun d G' q' v H' g'=>k d G' q' v H' (g1.trans g')⟩
theorem zLh{T:String}{x:Str}{r:List V->Hp->VK->Prop}{g:wq}(hc:zAX X (.type T) r)(hf:zPO X.K r g)(hg:Gl X x)(hm:X.mg x=none)(hv:bootBuiltins x=some (.type T))(ha:F2 X e tl)(hn:autoParam (x≠"__name__") Zq2._auto_1)(hdb:4#0)
  (he:8#0) (hpl:18#0):E2 X (.Call (.Name x p) [e] [] pos) (yZ g tl) :=
 PE.mono (zEK hc hg hm hv (zAH ha zBz he) hn hdb he hpl) fun σ1 H Q h=>zFd hf h
theorem zM8{id:String}{x:Str}{r:List V->Hp->VK->Prop}{g:wq}(hc:zAX X (.builtin id) r)(hf:zPO X.K r g)(hg:Gl X x)(hm:X.mg x=none)(hv:bootBuiltins x=some (.builtin id))(ha:F2 X e tl)(hn:autoParam (x≠"__name__") Zq2._auto_1)(hdb:4#0)
  (he:8#0) (hpl:18#0):E2 X (.Call (.Name x p) [e] [] pos) (yZ g tl) :=
 PE.mono (zB3 hc hg hm hv (zAH ha zBz he) hn hdb he hpl) fun σ1 H Q h=>zFd hf h
def zAN:wq:=fun ds G R=>R (.tup ds) G
theorem zJm{K:14#0}:zPO K (fun xs H Q=>∃ p ys,xs=[.ref p]/\((SqL K H p ys/\∀ l,H l=none->Q (.ref l) (yx H l (.tup ys)))\/(SqT K H p ys/\Q (.ref p) H))) zAN:=by
 intro ds G R l xs H Q h r e d k;refine⟨l,xs,rfl,.inl ⟨.of e,fun l' n=>k _ G h _ _ (.fresh n) (r.fresh n) ?_⟩⟩;unfold zQ;exact⟨l',xs,rfl,.of yC,d.grow (.fresh n)⟩
theorem zFe(hg:Gl X "tuple")(hm:X.mg "tuple"=none)(ha:F2 X e tl)(he:8#0)(hpl:18#0) :
  E2 X (.Call (.Name "tuple" p) [e] [] pos) (yZ zAN tl):=zLh zGS zJm hg hm 3#0 ha 11#0 11#0 he hpl
theorem zEi:∀ {xs:List V} {us:List Value},xs.length=us.length->(∀(i:Nat) (x:V) (u:Value),xs[i]?=some x->us[i]?=some u->RelV x u)->zy xs us
 | [],[],_,_=>.nil
 | [],_::_,h,_=>by cases h
 | _::_,[],h,_=>by cases h
 | x::xs,u::us,h,g=>.cons (g 0 x u rfl rfl) (zEi (by simpa using h) fun i y w e1 e2=>g (i+1) y w (by simpa using e1) (by simpa using e2))
theorem Dens.ints_inv{K:14#0}{H:Hp}:∀ {ns:List Int} {xs:List V},Dens K H (ns.map D.int) xs->xs=ns.map V.int
 | [],xs,h=>by unfold Dens at h;exact h
 | n::r,xs,h=>by
  rw[fJ] at h;unfold Dens at h;obtain⟨x,y,rfl,h1,h2⟩:=h;unfold zQ at h1;rw[h1,Dens.ints_inv h2];rfl
theorem zLi{t:TA}(hg:Gl X "range")(hm:X.mg "range"=none)(ha:PA X [a] t)(hs:autoParam (starEach [a] X.env=[(false,eval a X.env)]) Zq5._auto_1) :
  PE X (.Call (.Name "range" p) [a] [] pos) (fun σ H Q=>t σ H fun vs H1=>∃ j:Int,vs=[.int j]/\∀ l,H1 l=none->Q (.ref l) (yx H1 l (.rng 0 j))):=by
 intro pins s σ H Q I h;refine Call_ (zCJ I hg hm boot_range (PyProof.Rows.callWith_type1 (yV (ha pos pins s σ H _ I h) fun us s1 ⟨vs,H1,I1,r1,q1⟩=>?_) hs rfl));obtain⟨j,e,q⟩:=q1;subst e;cases r1 with
 | cons r rr =>
  cases rr;obtain⟨t,rfl⟩:=r;refine call_range_1 ?_;have hn:H1 s1.heap.objs.size=none:=I1.hok.fresh (fP _);exact⟨.ref s1.heap.objs.size,_,I1.laid (o:=.rng 0 j) (fun b u e=>fC _ e) (fP _) ⟨_,_,_,fM _ rfl⟩,rfl,q _ hn⟩
def zPP(to:zm)(t:TA2):zm:=fun σ G R=>to σ G fun x G1=>match x with
 | .adr l=>match G1.m l with
  | some _=>t σ G1 fun ds G2=>match ds with
   | [d]=>(match G2.m l with | some xs=>xs.length<=1000000/\R .non (zh G2 l (xs++[d])) | none=>False)
   | _=>False
  | none=>False
 | _=>False
theorem zM9{t:TA2}{apos:Pos}(ho:E2 X o to)(ha:A2 X [e] t)
  (hbase:autoParam (attributeBase o "append" X.env (eval o X.env)=eval o X.env) Zq5._auto_1)
  (hfew:autoParam (((backTo pos (starEach [e] X.env)).all (fun x=>!x.1)&&(backToKw pos (keywordEach [] X.env)).all (fun x=>x.1.isSome)
   && decide 32#0)=true) Zq5._auto_1)
  (hline:autoParam ((apos.endLine==pos.line)=true) Zq5._auto_1) (hs:8#0) (hplain:18#0) :
  E2 X (.Call (.Attribute o "append" apos) [e] [] pos) (zPP to t):=by
 refine PE.mono (zIL PySem.F.plainAttrs_list PySem.F.slot_list_append PySem.F.type_list_append zEL ho ha hbase hfew hline hs hplain) ?_;rintro σ1 H Q ⟨σ,G,R,rl,q,k⟩;refine⟨σ,G,_,rl,q,fun dx G1 q1 x H1 g1 r1 d1=>?_⟩;split at q1
 ·rename_i l
  split at q1
  ·rename_i ds0 e0
   unfold zQ at d1;subst d1;obtain⟨xs0,a1,a2⟩:=r1.m l ds0 e0;refine⟨.inl ⟨rfl,xs0,.of a1⟩,σ,G1,_,rl.to g1 r1,q1,fun ds G2 q2 vs H2 g2 r2 d2=>?_⟩;split at q2
   ·rename_i d
    split at q2
    ·rename_i xs e1
     obtain⟨v,rfl,d3⟩:=zB9 d2;obtain⟨ys,b1,b2⟩:=r2.m l xs e1;have hlen:=b2.length;refine⟨l,ys,v,rfl,rfl,b1,by rw[sizeLine_eq];omega,?_⟩;exact k _ _ q2.2 _ _ ((g1.trans g2).trans (.lst b1)) (r2.put b1 (b2.append (.cons d3 .nil))) 22#0
    ·exact q2.elim
   ·exact q2.elim
  ·exact q1.elim
 ·exact q1.elim
def zPQ(to:zm)(t:TL2):zm:=fun σ G R=>to σ G fun x G1=>match x with
 | .adr l=>match G1.m l with
  | some _=>t σ G1 fun zs G2=>match G2.m l with | some xs=>xs.length+zs.length<=1000000/\R .non (zh G2 l (xs++zs)) | none=>False
  | none=>False
 | _=>False
theorem zNA{apos:Pos}(ho:E2 X o to)(ha:F2 X e tl)
  (hbase:autoParam (attributeBase o "extend" X.env (eval o X.env)=eval o X.env) Zq5._auto_1)
  (hfew:autoParam (((backTo pos (starEach [e] X.env)).all (fun x=>!x.1)&&(backToKw pos (keywordEach [] X.env)).all (fun x=>x.1.isSome)
   && decide 32#0)=true) Zq5._auto_1)
  (hline:autoParam ((apos.endLine==pos.line)=true) Zq5._auto_1) (hs:8#0) (hplain:18#0) :
  E2 X (.Call (.Attribute o "extend" apos) [e] [] pos) (zPQ to tl):=by
 refine PE.mono (zIL PySem.F.plainAttrs_list PySem.F.slot_list_extend PySem.F.type_list_extend zLb ho (zAH ha zBz hs) hbase hfew hline hs hplain) ?_;rintro σ1 H Q ⟨σ,G,R,rl,q,k⟩;refine⟨σ,G,_,rl,q,fun dx G1 q1 x H1 g1 r1 d1=>?_⟩;split at q1
 ·rename_i l
  split at q1
  ·rename_i ds0 e0
   unfold zQ at d1;subst d1;obtain⟨xs0,a1,a2⟩:=r1.m l ds0 e0;refine⟨.inl ⟨rfl,xs0,.of a1⟩,σ,G1,_,rl.to g1 r1,q1,fun zs G2 q2 l2 ys H2 g2 r2 n2 e2 d2=>?_⟩;split at q2
   ·rename_i xs e1
    obtain⟨ws,b1,b2⟩:=r2.m l xs e1;have hl1:=b2.length;have hl2:=d2.length;refine⟨l,l2,ws,ys,rfl,rfl,b1,e2,by rw[sizeLine_eq];omega,?_⟩;exact k _ _ q2.2 _ _ ((g1.trans g2).trans (.lst b1)) (r2.put b1 (b2.append d2)) 22#0
   ·exact q2.elim
  ·exact q1.elim
 ·exact q1.elim
noncomputable def zGq:D->String->Bool
 | .tup _,T=>decide (T="tuple")
 | .bl _,T=>decide (T="bool"\/T="int")
 | .int _,T=>decide (T="int")
 | .str _,T=>decide (T="str")
 | .non,_=>false
 | .adr _,_=>false
 | .dic _,T=>decide (T="dict")
noncomputable def tys:List String:=["tuple","bool","int","str","list","dict"]
theorem zIT{T:String}(hT:T∈tys):zAX X (.builtin "isinstance") (fun xs H Q=>∃ x d,xs=[x,.ty T]/\zQ X.K H d x/\((∀ l,d≠.adr l)/\Q (.bl (zGq d T)) H\/∃ l ys,d=.adr l/\SqL X.K H l ys/\Q (.bl (decide (T="list"))) H)):=by
 intro pins s σ H xs us Q I r h;obtain⟨x,d,rfl,hd,q⟩:=h;obtain⟨u,u',rfl,rx,ry⟩:=vals2 r;obtain rfl:u'=Value.type T:=ry;simp only[tys,fS,gw,or_false] at hT;rcases q with ⟨hna,q⟩ | ⟨l,ys,rfl,hs,q⟩
 ·cases d with
  | tup _ =>
   unfold zQ at hd;obtain⟨a,ys,rfl,hs,u0⟩:=hd;cases (show u=Value.ref a from rx);obtain⟨u0,u0,⟨o,h1,h2,u0⟩,u0⟩:=I.tuple hs;rcases hT with rfl | rfl | rfl | rfl | rfl | rfl<;>exact PySem.W.kia_one PySem.W.kitx_tuple I.kIn ⟨o,h1,h2⟩ (by rfl) (fun z=>nomatch z) fun tk=>⟨.bl _,H,I.tok _,rfl,q⟩
  | bl _ =>
   unfold zQ at hd;subst hd;rcases hT with rfl | rfl | rfl | rfl | rfl | rfl<;>exact zC3 I rx (.bl _) (by rfl) fun tk=>⟨.bl _,H,I.tok _,rfl,q⟩
  | int _ =>
   unfold zQ at hd;subst hd;rcases hT with rfl | rfl | rfl | rfl | rfl | rfl<;>exact zC3 I rx (.int _) (by rfl) fun tk=>⟨.bl _,H,I.tok _,rfl,q⟩
  | str _ =>
   unfold zQ at hd;subst hd;rcases hT with rfl | rfl | rfl | rfl | rfl | rfl<;>exact zC3 I rx (.str _) (by rfl) fun tk=>⟨.bl _,H,I.tok _,rfl,q⟩
  | non =>
   unfold zQ at hd;subst hd;rcases hT with rfl | rfl | rfl | rfl | rfl | rfl<;>exact zC3 I rx .non (by rfl) fun tk=>⟨.bl _,H,I.tok _,rfl,q⟩
  | dic a =>
   unfold zQ at hd;obtain⟨rfl,o,y,hs,hc⟩:=hd;cases (show u=Value.ref a from rx);have h1:=(I.hok a _ hs).1;rcases hT with rfl | rfl | rfl | rfl | rfl | rfl<;>exact PySem.W.kia_one PySem.W.kitx_dict I.kIn ⟨o,h1,hc⟩ (by rfl) (fun z=>nomatch z) fun tk=>⟨.bl _,H,I.tok _,rfl,q⟩
  | adr l=>exact absurd rfl (hna l)
 ·unfold zQ at hd
  subst hd;cases (show u=Value.ref l from rx);obtain⟨u0,u0,pl,u0⟩:=I.list hs;obtain⟨o,h1,h2,u0⟩:=pl.isList;rcases hT with rfl | rfl | rfl | rfl | rfl | rfl<;>exact PySem.W.kia_one PySem.W.kitx_list I.kIn ⟨o,h1,h2⟩ (by rfl) (fun z=>nomatch z) fun tk=>⟨.bl _,H,I.tok _,rfl,q⟩
def zCQ(T:String)(te:zm):zm:=fun σ G R=>te σ G fun d G1=>match d with
 | .adr l=>(∃ ds,Ls G1 l ds)/\R (.bl (decide (T="list"))) G1
 | d=>R (.bl (zGq d T)) G1
theorem zEj{T:String}{x:Str}(hg:Gl X "isinstance")(hm:X.mg "isinstance"=none)(hg2:Gl X x)(hm2:X.mg x=none)(hv:bootBuiltins x=some (.type T))(ha:E2 X e te)(hT:autoParam (T∈tys) Zq2._auto_1)
  (he:autoParam (starEach [e,.Name x p2] X.env=(false,eval e X.env)::starEach [.Name x p2] X.env) Zq5._auto_1) (he2:autoParam (starEach [.Name x p2] X.env=(false,eval (.Name x p2) X.env)::starEach [] X.env) Zq5._auto_1) (hpl:autoParam ((backTo pos (starEach [.Name x p2] X.env)).any (·.1)=false) Zq5._auto_1)
  (hn:autoParam (x≠"__name__") Zq2._auto_1) (hdb:4#0) :
  E2 X (.Call (.Name "isinstance" p) [e,.Name x p2] [] pos) (zCQ T te):=by
 refine PE.mono (zB3 (zIT (T:=T) hT) hg hm 3#0 (zAH ha (zAH (zKZ (v:=.ty T) hg2 hm2 hv rfl hn hdb) zBz he2) he) 11#0 11#0 he hpl) ?_;rintro σ1 H Q ⟨σ,G,R,rl,q,k⟩;refine⟨σ,G,_,rl,q,fun d G1 q1 v H1 g1 r1 d1=>?_⟩;refine⟨v,d,rfl,d1,?_⟩;cases d with
 | adr l =>
  obtain⟨⟨ds,hl⟩,q1⟩:=q1;obtain⟨xs,hs,u0⟩:=r1.sq hl;exact .inr ⟨l,xs,rfl,hs,k _ G1 q1 _ H1 g1 r1 22#0⟩
 | _=>exact .inl ⟨fun l z=>(by cases z),k _ G1 q1 _ H1 g1 r1 22#0⟩
def zLj(i:Nat)(te:zm)(f:Int->Int->Int):wC:=fun E σ G=>match look σ i with
 | some (.int a)=>te σ G fun y G1=>match y with | .int b=>E.nx (σ.set i (some (.int (f a b)))) G1 | _=>False
 | _=>False
end
section
variable {P:Program} {w:World} {K:PySem.W.Frag} {mg:Str->Option Value} {base:Heap}
def FgR(R:Q2):Q2:=fun d G=>∃ G',Sub G' G/\R d G'
theorem FgR.of{R:Q2}{d:D}{G:Gp}(h:R d G):FgR R d G:=⟨G,.refl G,h⟩
noncomputable def zK(N:List Str)(ds:List D):S2:=ds.map some++fX (N.length-ds.length) none
theorem zCA{N:List Str}{ds:List D}{vs:List V}{G:Gp}{H:Hp}(r:zt K G H)(d:Dens K H ds vs):Rel K (zK N ds) G (L2.start N vs) H :=
 ⟨r,by simp[zK,L2.start,d.length],fun i x e=>by
  unfold zK at e;unfold L2.start;by_cases hi:i<ds.length
  ·rw[gb (by simpa using hi),gh] at e
   cases q:ds[i]? with
   | none=>rw[q] at e;cases e
   | some y =>
    rw[q] at e;cases e;obtain⟨v,e1,e2⟩:=d.get q;refine⟨v,?_,e2⟩;rw[gb (by rw[fE,<-d.length];exact hi),gh,e1];rfl
  ·rw[gm (by simpa using hi),gQ] at e
   split at e<;>cases e⟩
theorem zTX{x qual:Str}{st:Stmt}{f:Addr}{fd:FuncData}{N ps:List Str}{k:Nat}{sp:wq}(F:Fun K x qual st f fd)(S:zV N ps (zD st))(hm:mg x=some (.ref f))(hb:Binds K fd ps [])(len:∀ ds G R,sp ds G R->ds.length=ps.length)
  (hbody:∀(cdv:Value) (A:Around) (outer:List Env) (s:Shared) (H:Hp) (E:XK),yS k (A.deeper (envOfC qual (zD st) s.heap.objs.size f cdv)) ->
   ∃ t,Ps2 (zBi CX0 P w K mg base N qual (zD st) f cdv A outer s H E).nox (zR st) t/\∀ ds G R,sp ds G R->t { nx:=fun u0 G'=>FgR R .non G',rt:=FgR R } (zK N ds) G):Df P w K mg base (k+1) x ps sp:=by
 refine⟨f,fd,F.ok S ?_ ?_,hm,F.kp,hb⟩
 ·rintro vs H Q E ⟨ds,G,R,d,r,h,u0⟩
  rw[<-d.length];exact len ds G R h
 ·intro cdv A outer s H vs Q E hr h
  obtain⟨ds,G,R,d,r,h,kk⟩:=h;obtain⟨t,ht,q⟩:=hbody cdv A outer s H E hr;refine⟨_,ht,zK N ds,G,_,zCA r d,q ds G R h,⟨?_,?_,?_,?_⟩⟩
  ·rintro σ G' ⟨G'',s',q'⟩ σ1 H' g' r'
   exact kk _ G'' q' _ H' g' (r'.g.sub s') 22#0
  ·intro σ G' h;exact h.elim
  ·intro σ G' h;exact h.elim
  ·rintro d' G' ⟨G'',s',q'⟩ v H' g' r' dv
   exact kk _ G'' q' _ H' g' (r'.sub s') dv
noncomputable abbrev zj(R:Q2):yO:={ nx:=fun u0 G'=>FgR R .non G',rt:=FgR R }
theorem yi{x qual:Str}{st:Stmt}{f:Addr}{fd:FuncData}{N ps:List Str}{k:Nat}{sp:wq}(t:wC)(F:Fun K x qual st f fd)(S:zV N ps (zD st))(hm:mg x=some (.ref f))(hb:Binds K fd ps [])
  (ht:24#0)
  (hs:∀ ds G R,sp ds G R->ds.length=ps.length/\t (zj R) (zK N ds) G):Df P w K mg base (k+1) x ps sp :=
 zTX F S hm hb (fun ds G R h=>(hs ds G R h).1) fun cdv A outer s H E hr=>⟨t,ht cdv A outer s H E hr,fun ds G R h=>(hs ds G R h).2⟩
theorem zNB{x qual:Str}{st:Stmt}{f:Addr}{fd:FuncData}{N ps:List Str}{k:Nat}{sp:wq}(t:wC)(F:Fun K x qual st f fd)(S:zV N ps (zD st))
  (ht:24#0)
  (hs:∀ ds G R,sp ds G R->ds.length=ps.length/\t (zj R) (zK N ds) G):zCm P w K mg base CX0 (k+1) f fd ps (lSp K sp):=by
 refine F.ok S ?_ ?_
 ·rintro vs H Q E ⟨ds,G,R,d,r,h,u0⟩
  rw[<-d.length];exact(hs ds G R h).1
 ·intro cdv A outer s H vs Q E hr h
  obtain⟨ds,G,R,d,r,h,kk⟩:=h;refine⟨_,ht cdv A outer s H E hr,zK N ds,G,_,zCA r d,(hs ds G R h).2,⟨?_,?_,?_,?_⟩⟩
  ·rintro σ G' ⟨G'',s',q'⟩ σ1 H' g' r'
   exact kk _ G'' q' _ H' g' (r'.g.sub s') 22#0
  ·intro σ G' h;exact h.elim
  ·intro σ G' h;exact h.elim
  ·rintro d' G' ⟨G'',s',q'⟩ v H' g' r' dv
   exact kk _ G'' q' _ H' g' (r'.sub s') dv
end
noncomputable def zGr(osc sc:Scope):List (Str×NameKind):=sc.names.map fun(n,k)=>if (k==NameKind.free&&osc.kind==.function&&osc.names.lookup n==some .cell) then (n,NameKind.cell) else (n,k)
noncomputable def zR0(ns:List (Str×NameKind))(x:Str):Bool:=match ns.lookup x with | some .local=>true | some .cell=>true | some .free=>true | _=>false
noncomputable def zQm(osc sc:Scope)(N N0 own:List Str):Bool :=
 decide (sc.kind=.function)&&sc.names.all (fun y=>decide (y.2≠.cell))&&sc.names.all (fun y=>decide (y.2=.local->sc.names.lookup y.1=some .local))
 && sc.names.all (fun y=>decide (y.2=.free->osc.names.lookup y.1=some .cell\/osc.names.lookup y.1=some .free))
 && decide (N0.length=N.length)&&(fQ N0.length).all (fun i=>match N0[i]? with | some x=>!zR0 (zGr osc sc) x||decide (N[i]?=some x/\sc.names.lookup x=some .free) | none=>true)
 && decide ((N0++own).Nodup)&&own.all (fun x=>decide ((zGr osc sc).lookup x=some .local))
structure zIU (X:Cx) (sc:Scope) (N0 own:List Str):Prop where
 ok:zBd X sc N0
 nd:(N0++own).Nodup
 loc:∀ x∈own,(relabel sc X.env).names.lookup x=some .local
theorem yP{X:Cx}{osc sc:Scope}{N N0 own:List Str}(h:zQm osc sc N N0 own=true)(e1:autoParam (X.env.scope=osc) Zq5._auto_1)(e2:autoParam (X.N=N) Zq5._auto_1):zIU X sc N0 own:=by
 subst e1 e2;unfold zQm at h;simp only[fW,decide_eq_true_eq,ge] at h;obtain⟨⟨⟨⟨⟨⟨⟨h1,h2⟩,h3⟩,h4⟩,h5⟩,h6⟩,h7⟩,h8⟩:=h;refine⟨⟨h1,h2,h3,h4,h5,fun i x e v=>?_⟩,h7,h8⟩;have hi:i<N0.length:=(fI.mp e).1;have q:=h6 i (gJ.mpr hi);rw[e] at q;dsimp only at q;have hv:zR0 (zGr X.env.scope sc) x=true:=by
  have v':(zGr X.env.scope sc).lookup x=some .local\/(zGr X.env.scope sc).lookup x=some .cell\/(zGr X.env.scope sc).lookup x=some .free:=v;unfold zR0;rcases v' with v' | v' | v'<;>rw[v']
 rw[hv] at q;simpa using q
section
variable {X:Cx} {elt iter:Expr} {pos:Pos} {te:zm} {ifs:List Expr} {sc:Scope} {N0:List Str} {wi:TI2} {tc:TT2}
theorem zDY(x:Str){px:Pos}(hc:X.calm=true)(T:zIU X sc N0 [x])(hi:I2 X (.Name x px) iter wi)
  (ht:∀ C s H fp pins,Ts2 34#0 ifs tc) (he:∀ C s H fp pins,E2 34#0 elt te)
  (hs:15#0):F2 X 30#0 (yk wi bd1 tc te) :=
 zPL x hc T.ok hi T.nd (T.loc x 27#0) ht he hs
theorem zHM(i:Nat)(x:Str){y:Str}{px py spos:Pos}(hc:X.calm=true)(T:zIU X sc N0 [x])(hi:I2 X (.Name x px) iter wi)
  (ht:∀ C s H fp pins,Ts2 34#0 ifs tc) (he:∀ C s H fp pins,E2 34#0 elt te)
  (hN:X.N.Nodup) (hy:autoParam (X.N[i]?=some y) Zq5._auto_1) (hl:autoParam (X.env.scope.names.lookup y=some .local) Zq5._auto_1)
  (hsw:autoParam (swapsWith 30#0 (some (.Name y py)) spos.line X.env=pure true) Zq5._auto_1)
  (hs:15#0):P2 X (.Assign [.Name y py] 30#0 spos) (zCo i (yk wi bd1 tc te)) :=
 zJi i x hc T.ok hi T.nd (T.loc x 27#0) ht he hN hy hl hsw hs
end
structure Ext (G G':Gp):Prop where
 sub:Sub G G'
 ro:G'.ro=G.ro
theorem Ext.refl(G:Gp):Ext G G:=⟨.refl G,rfl⟩
theorem Ext.trans{G G1 G2:Gp}(h:Ext G G1)(h':Ext G1 G2):Ext G G2:=⟨h.sub.trans h'.sub,h'.ro.trans h.ro⟩
theorem Ext.new{G:Gp}{l:Addr}{o:List D}(h:G.m l=none):Ext G (zh G l o):=⟨.new h,rfl⟩
theorem Ext.ls{G G':Gp}(h:Ext G G'){a:Addr}{ds:List D}(e:Ls G a ds):Ls G' a ds:=e.sub h.sub
theorem Ext.own{G G':Gp}(h:Ext G G'){A:Addr}(n:G'.m A=none):G.m A=none:=by
 cases q:G.m A with
 | none=>rfl
 | some u=>rw[h.sub.m A u q] at n;cases n
def zn(t:zm)(σ:S2)(G:Gp)(d:D):Prop:=∀ G2,Ext G G2->∀ R:D->Gp->Prop,R d G2->t σ G2 R
def PuT(t:TT2)(σ:S2)(G:Gp)(b:Bool):Prop:=∀ G2,Ext G G2->∀ R:Bool->Gp->Prop,R b G2->t σ G2 R
def PuL(t:TL2)(σ:S2)(G:Gp)(ds:List D):Prop:=∀ G2,Ext G G2->∀ R:List D->Gp->Prop,R ds G2->t σ G2 R
def PuA(t:TA2)(σ:S2)(G:Gp)(ds:List D):Prop:=∀ G2,Ext G G2->∀ R:List D->Gp->Prop,R ds G2->t σ G2 R
def PuI(t:TI2)(σ:S2)(G:Gp)(ds:List D):Prop:=∀ G2,Ext G G2->∀ R:List D->(Gp->Prop)->Gp->Prop,(∀ gd G3,Ext G2 G3->(∀ G4,Ext G3 G4->gd G4)->R ds gd G3)->t σ G2 R
section
variable {σ:S2} {G:Gp}
theorem zF{i:Nat}{d:D}(h:look σ i=some d):zn (zA i) σ G d:=fun G2 u0 R q=>by unfold zA;rw[h];exact q
theorem zv{d:D}:zn (xC d) σ G d:=fun u0 u0 u0 q=>q
theorem zS:PuA zG σ G []:=fun u0 u0 u0 q=>q
theorem zI{ta:zm}{tr:TA2}{d:D}{ds:List D}(h:zn ta σ G d)(h':PuA tr σ G ds):PuA (zB ta tr) σ G (d::ds):=fun G2 x R q=>h G2 x _ (h' G2 x _ q)
theorem zEN{t:TA2}{ds:List D}(h:PuA t σ G ds)(hl:ds.length<=100000):zn (zBI t) σ G (.tup ds):=fun G2 x R q=>h G2 x _ ⟨by rw[sizeLine_eq];omega,q⟩
theorem yu{f:D->D->Gp->Q2->Prop}{ta tb:zm}{x y d:D}(ha:zn ta σ G x)(hb:zn tb σ G y)(h:∀ G2,Ext G G2->∀ R:D->Gp->Prop,R d G2->f x y G2 R):zn (zO f ta tb) σ G d:=fun G2 e R q=>ha G2 e _ (hb G2 e _ (h G2 e R q))
theorem zNC{g:Int->Int->D}{ta tb:zm}{i j:Int}(ha:zn ta σ G (.int i))(hb:zn tb σ G (.int j)):zn (zO (fII g) ta tb) σ G (g i j):=yu ha hb fun u0 u0 u0 q=>q
theorem yK{sp:wq}{t:TA2}{ds:List D}{d:D}(ha:PuA t σ G ds)(h:∀ G2,Ext G G2->∀ R:D->Gp->Prop,R d G2->sp ds G2 R):zn (zJ sp t) σ G d:=fun G2 e R q=>ha G2 e _ (h G2 e R q)
theorem zCq{sp:List D->Gp->(List D->Gp->Prop)->Prop}{t:TA2}{ds ls:List D}(ha:PuA t σ G ds)(h:∀ G2,Ext G G2->∀ R:List D->Gp->Prop,R ls G2->sp ds G2 R):PuL (yz sp t) σ G ls:=fun G2 e R q=>ha G2 e _ (h G2 e R q)
theorem yr{t:zm}{b:Bool}(h:zn t σ G (.bl b)):PuT (xB t) σ G b:=fun G2 e R q=>h G2 e _ q
theorem zR1:PuT zAJ σ G true:=fun u0 u0 u0 q=>q
theorem zPR{t u:TT2}{b c:Bool}(h:PuT t σ G b)(h':b=true->PuT u σ G c):PuT (zDo t u) σ G (b&&c):=fun G2 e R q=>h G2 e _ (by
 cases b with
 | false=>simpa using q
 | true=>rw[if_pos rfl];exact h' rfl G2 e _ (by simpa using q))
theorem zAv{t u:TT2}{b c:Bool}(h:PuT t σ G b)(h':b=false->PuT u σ G c):PuT (zAh t u) σ G (b||c):=fun G2 e R q=>h G2 e _ (by
 cases b with
 | true=>simpa using q
 | false=>rw[if_neg 27#0];exact h' rfl G2 e _ (by simpa using q))
theorem yW{t:TT2}{b:Bool}(h:PuT t σ G b):PuT (yg t) σ G (!b):=fun G2 e R q=>h G2 e _ q
theorem zFf{tl:TL2}{ds:List D}(h:PuL tl σ G ds):zn (yZ zAN tl) σ G (.tup ds):=fun G2 e R q=>h G2 e _ q
theorem zC7{t:zm}{ds:List D}(h:zn t σ G (.tup ds)):PuI (iV t) σ G ds:=fun G2 e R q=>h G2 e _ (q _ G2 (.refl _) fun u0 u0=>trivial)
theorem zTY{t:TL2}{ds:List D}(h:PuL t σ G ds):PuI (iF t) σ G ds:=fun G2 e R q=>h G2 e _ fun a n=>q _ _ (.new n) fun G4 e4=>e4.ls .own
end
end L3
namespace HT
section
variable {prog:Program} {w:World} {A:Around} {E:Value->Shared->Prop} {s:Shared}
theorem zND{t b:Addr}{ws:List Value}{Q:10#0}(ht:IsTup s.heap t #[])(hb:IsTup s.heap b ws.toArray)(h:Q (.ref b) s):wpAny 35#0 A (binaryOp .Add (.ref t) (.ref b)) Q E s:=by
 obtain⟨⟨cls,dd,data,sl⟩,ho,hc,n,hd⟩:=id ht;obtain⟨⟨cls2,dd2,data2,sl2⟩,ho2,hc2,n2,hd2⟩:=id hb;simp only at hc hd hc2 hd2;subst hc hd hc2 hd2;exact concat_meets ⟨_,ho,rfl⟩ ⟨_,ho2,rfl⟩ noFill_tuple_add seq_tuple_add PySem.F.slot_tuple_add PySem.F.entry_tuple_add (PySem.F.args_tuple_add_2 _ _)
   (tuple_addW0 t b #[] ws.toArray n n2 dd dd2 sl sl2 rfl) ⟨ho,ho2,h⟩
theorem zGU{Q:List Value->Shared->Prop}{r:Addr}{a b c:Int}{t u v:Tok}{n:Nat}(hh:A.handled=none)(hr:IsRange s.heap r a b c t u v)(hsmall:Builtin.Range.small a b c=true)
  (hn:Builtin.Range.rangeSize a b c=n) (hlen:n<=2 ^ 24)
  (hQ:∀ h' tk acc,(∀ b o,s.heap.get? b=some o->h'.get? b=some o)->ItemsOf (fun i v=>∃ t,v=.int (a+i*c) t) acc n->Q acc.toList { s with heap:=h',toks:=tk }) :
  wpAny 35#0 A (collect (.ref r)) Q E s:=by
 unfold collect;refine fB (wpAny_runValue (codeAny_builtin PySem.F.entry_proto_collect ?_));rw[Around.under_plainId PySem.F.plain_proto_collect _];show wpAny _ A.in1 (newList []>>=fun l=>again (.builtin "list.__iadd__" ⟨[l,.ref r],[]⟩)) _ _ s;refine fB (gE ?_);refine fF ⟨plainId_quiet PySem.F.plain_list_iadd _,codeAny_builtin PySem.F.entry_list_iadd ?_⟩;rw[Around.under_plainId PySem.F.plain_list_iadd _];show wpAny _ A.in1 (Builtin.List.listExtendWith (.ref s.heap.objs.size) (.ref r) (.ref s.heap.objs.size)) _ _ _;have hS:(s.heap.push { cls:=.type "list",data:=.seq ([]:List Value).toArray }).get? s.heap.objs.size=some { cls:=.type "list",data:=.seq #[] 0 }:=fM _ rfl;refine fV (wpAny_extend_range (A:=A) (R:=fun res s'=>∃ h' tk acc c',res=.ok (.ret (.ref s.heap.objs.size))/\s'={ s with heap:=h',toks:=tk }/\(∀ b o,s.heap.get? b=some o->h'.get? b=some o)/\h'.get? s.heap.objs.size=some { cls:=.type "list",dict:=none,data:=.seq acc c',slots:=#[] }/\ItemsOf (fun i v=>∃ t,v=.int (a+i*c) t) acc n)
  (s:={ s with heap:=s.heap.push { cls:=.type "list",data:=.seq ([]:List Value).toArray } }) hh (fC _ hr) hsmall hn hlen s.heap.objs.size (.ref s.heap.objs.size) 0 hS fun h' tk acc' c' hk hS' hacc=>?_) (fun fin s' h=>?_) (fun e s' h=>?_)
 ·exact⟨h',tk,acc',c',rfl,rfl,fun b o e=>hk b o (gc (fK e)) (fC _ e),hS',hacc⟩
 ·have fin':∀ {r' s''},(∃ h' tk acc c',r'=(.ok (.ret (.ref s.heap.objs.size)):Result)/\s''={ s with heap:=h',toks:=tk }/\(∀ b o,s.heap.get? b=some o->h'.get? b=some o)/\h'.get? s.heap.objs.size=some { cls:=.type "list",dict:=none,data:=.seq acc c',slots:=#[] }/\ItemsOf (fun i v=>∃ t,v=.int (a+i*c) t) acc n) ->
    wpAny 35#0 A (match Value.ref s.heap.objs.size with
     | Value.ref a=>do
      match (<-load a).data with
       | Data.seq xs _=>pure xs.toList
       | _=>unsupported "internal:collect"
     | _=>unsupported "internal:collect") Q E s'':=by
   rintro r' s'' ⟨h',tk,acc,c',rfl,rfl,hk,hS',hacc⟩;show wpAny _ A (load s.heap.objs.size>>=_) _ _ _;refine fB (wpAny_load hS' ?_);exact fF (hQ h' tk acc hk hacc)
  cases fin with
  | done f =>
   have hf:=h;obtain⟨h',tk,acc,c',e,u0⟩:=h;cases e;exact fin' hf
  | again c'=>exact⟨h.1,gG h.2 fun r s'' hr=>by
    have hf:=hr;obtain⟨h',tk,acc,c',e,u0⟩:=hr;subst e;exact fin' hf⟩
 ·obtain⟨u0,u0,u0,u0,e,u0⟩:=h
  cases e
theorem zCi(r:Addr)(a b c:Int)(t u v:Tok)(n:Nat)(hsmall:Builtin.Range.small a b c=true)(hn:Builtin.Range.rangeSize a b c=n)(hlen:n<=2 ^ 24) :
  Meets (Builtin.«tuple.__new__» ⟨[.type "tuple",.ref r],[]⟩)
   (fun A R s=>A.handled=none/\IsRange s.heap r a b c t u v/\∀(h':Heap) tk acc,(∀ b o',s.heap.get? b=some o'->h'.get? b=some o')->ItemsOf (fun i v=>∃ t,v=.int (a+i*c) t) acc n->R (.ok (.ret (.ref h'.objs.size))) { s with heap:=h'.push { cls:=.type "tuple",data:=.seq acc },toks:=tk }) :=
 .of_wp fun prog w A R s h=>by
  obtain⟨hp,g,d,tk,os⟩:=s;obtain⟨hh,ht,h⟩:=h;have hsub:=sub_tuple_self;have hinit:=init_tuple_lookup;have hmh:=madeHere_tuple;have hT:Shared.TypeIs ⟨hp,g,d,tk,os⟩ (.ref r) "range":=⟨_,ht,rfl⟩
  wp_walk using wpAny_typeOf hT,zGU (A:=A.in1) hh ht hsmall hn hlen
  intro h' tk' acc hk hacc;show wpAny _ _ (Builtin.Tuple.tupleExact acc.toList.toArray>>=fun v=>ret v) _ _ _;unfold Builtin.Tuple.tupleExact;refine fB (gE ?_ (by show acc.toList.toArray.size<=sizeLine;simp only[Array.toArray_toList];rw[hacc.1,sizeLine_eq];omega));refine fF ⟨_,rfl,?_⟩;have e:acc.toList.toArray=acc:=by simp
  rw[e];exact h h' tk' acc hk hacc
theorem zEO{Q:10#0}{r:Addr}{a b c:Int}{t u v:Tok}{n:Nat}(hh:A.handled=none)(hr:IsRange s.heap r a b c t u v)(hsmall:Builtin.Range.small a b c=true)
  (hn:Builtin.Range.rangeSize a b c=n) (hlen:n<=2 ^ 24)
  (hQ:∀(h':Heap) tk acc,(∀ b o,s.heap.get? b=some o->h'.get? b=some o)->ItemsOf (fun i v=>∃ t,v=.int (a+i*c) t) acc n->Q (.ref h'.objs.size) { s with heap:=h'.push { cls:=.type "tuple",data:=.seq acc },toks:=tk }) :
  wpAny 35#0 A (call (.type "tuple") [.ref r]) Q E s :=
 callType_new PySem.F.called_tuple 11#0 (PySem.F.typeCall_tuple_1 _) (PySem.F.newCall_tuple_1 _) (fun obj=>PySem.F.args_object_init_2 obj _) PySem.F.entry_tuple_new
  (zCi r a b c t u v n hsmall hn hlen) ⟨hh,hr,fun h' tk acc hk hacc=>⟨⟨_,fM _ rfl,rfl⟩,hQ h' tk acc hk hacc⟩⟩
theorem zDT{t sl:Addr}{items:Array Value}{vl vu:Value}{lo hi:Option Int}{Q:10#0}(ht:IsTup s.heap t items)(hs:s.heap.IsSliceOf sl vl vu .none)(pl:IsPart vl lo)(pu:IsPart vu hi)
  (hw:sIx items.size 0 lo=0/\sIx items.size items.size hi=items.size)
  (h:Q (.ref t) s):wpAny 35#0 A (getItem (.ref t) (.ref sl)) Q E s:=by
 obtain⟨os,hos,hcs,hds⟩:=id hs;have hTs:s.TypeIs (.ref sl) "slice":=⟨os,hos,hcs⟩
 unfold getItem
 try with_reducible refine hU ?_
 first | refine fB (fF ?_) | skip
 refine fB (wpAny_sequenceKey ht.typeIs 11#0 ?_);refine fB (wpAny_callSpecial?_slot (name:=Str.ofString "__getitem__") ht.typeIs PyProof.Rows.slot_tuple_getitem
  (gZ PyProof.Rows.slot_tuple_getitem ht.typeIs entry_tuple_getitem ?_ (args_tuple_getitem _ _)))
 show wpAny _ _ (Builtin.Tuple.tupleItemsOf (.ref t)>>=_) _ _ s;refine fB (tupleItemsOf_ ht ?_);refine fB (wpAny_typeOf hTs ?_);rw[if_pos 11#0];refine fB (zB4 hs pl pu ?_);have hyes:((((sIx items.size 0 lo:Nat):Int)==0&&(1:Int)==1&&(sIx items.size items.size hi-sIx items.size 0 lo)==items.size)=true):=by
  rw[hw.1,hw.2];simp
 show wpAny _ _ (if (((sIx items.size 0 lo:Nat):Int)==0&&(1:Int)==1&&(sIx items.size items.size hi-sIx items.size 0 lo)==items.size)=true then _ else _) _ _ s;rw[if_pos hyes];unfold Builtin.Tuple.tupleIsExact;refine fB (fB (wpAny_typeOf ht.typeIs (fF ?_)));rw[if_pos (by rfl)];refine fB (wpAny_rule ?_)
 first
  | exact fF ⟨_,rfl,fF h⟩
  | exact fB (fF (fF ⟨_,rfl,fF h⟩))
end
noncomputable def zFA(items:Array Value)(x:Value):Nat->(Option PySem.Fin×Unit)->Sem (ForInStep (Option PySem.Fin×Unit)):=fun i u0=>match items[i]? with
 | some y=>do
  let b <-eqBool y x
  if b=true then do
   let r <-retInt i
   pure (ForInStep.done (some r,()))
  else pure (ForInStep.yield (none,()))
 | _=>pure (ForInStep.yield (none,()))
theorem zFg{prog:Program}{w:World}{A:Around}{E:10#0}{s:Shared}{items:Array Value}{x:Value}{e:Value->Bool}{j:Nat}(hj:j<items.size)(hit:e items[j]=true)(he:∀ y,y∈items->SeqAt.EqAt A s y x (e y)){Q:(Option PySem.Fin×Unit)->Shared->Prop}
  (hQ:Q (some (.done (.ret (.int j s.toks))),()) { s with toks:=s.toks+1 }):∀(k lo:Nat),lo<=j->j<lo+k->(∀ m (hm:m<items.size),lo<=m->m<j->e items[m]=false) ->
   wpAny 35#0 A (forIn (List.range' lo k) (none,()) (zFA items x)) Q E s
 | 0,lo,h1,h2,_=>by omega
 | k+1,lo,h1,h2,hno=>by
  rw[List.range'_succ,iE];have hlo:lo<items.size:=by omega
  unfold zFA;have ei:items[lo]?=some items[lo]:=by simp[hlo]
  rw[ei];dsimp only;refine fB (fB (he _ (Array.getElem_mem hlo) prog w _ _ ?_));by_cases hl:lo=j
  ·subst hl
   rw[hit,if_pos rfl];obtain⟨hp,g,d,tk,os⟩:=s
   wp_walk
   exact hQ
  ·rw[hno lo hlo (fP _) 17#0,if_neg 27#0]
   refine fF ?_;exact zFg hj hit he hQ k (lo+1) 17#0 17#0 fun m hm a b=>hno m hm 17#0 b
theorem zHN(l:Addr)(items:Array Value)(n:Nat)(dd:Option Addr)(sl:12#0)(x:Value)(e:Value->Bool)(j:Nat)(hj:j<items.size)(hit:e items[j]=true)(hno:∀ m (hm:m<items.size),m<j->e items[m]=false) :
  Meets (Builtin.«tuple.index» ⟨[.ref l,x],[]⟩)
   (fun A R s=>s.heap.get? l=some { cls:=.type "tuple",dict:=dd,data:=.seq items n,slots:=sl }/\(∀ y,y∈items->SeqAt.EqAt A.in1 s y x (e y))/\R (.ok (.ret (.int j s.toks))) { s with toks:=s.toks+1 }) :=
 .of_wp fun prog w A R s h=>by
  obtain⟨hp,g,d,tk,os⟩:=s;obtain⟨hl,he,h⟩:=h
  wp_walk using wpAny_loadPart' hl
  show wpAny 35#0 A.in1 (forIn ([: min items.size items.size]:Std.Legacy.Range) (none,()) (zFA items x)) _ _ _;rw[Std.Legacy.Range.forIn_eq_forIn_range'];have e1:List.range' ([: min items.size items.size]:Std.Legacy.Range).start ([: min items.size items.size]:Std.Legacy.Range).size ([: min items.size items.size]:Std.Legacy.Range).step=List.range' 0 items.size:=by
   simp[Std.Legacy.Range.size]
  rw[e1];refine zFg hj hit he ?_ _ _ (i7 _) 17#0 fun m hm u0 b=>hno m hm b;exact fF ⟨_,rfl,h⟩
theorem zHO(l:Addr)(items:Array Value)(n:Nat)(dd:Option Addr)(sl:12#0)(x:Value)(e:Value->Bool)(lo:Nat)(u:Tok)(j:Nat)(hj:j<items.size)(hit:e items[j]=true)(hlo:lo<=j)(hno:∀ m (hm:m<items.size),lo<=m->m<j->e items[m]=false) :
  Meets (Builtin.«tuple.index» ⟨[.ref l,x,.int lo u],[]⟩)
   (fun A R s=>s.heap.get? l=some { cls:=.type "tuple",dict:=dd,data:=.seq items n,slots:=sl }/\(∀ y,y∈items->SeqAt.EqAt A.in1 s y x (e y))/\R (.ok (.ret (.int j s.toks))) { s with toks:=s.toks+1 }) :=
 .of_wp fun prog w A R s h=>by
  obtain⟨hp,g,d,tk,os⟩:=s;obtain⟨hl,he,h⟩:=h;have f1:=AutoSeq1.idx_int
  wp_walk using wpAny_loadPart' hl
  have e2:(max (if ((lo:Nat):Int)<0 then (lo:Int)+(items.size:Int) else (lo:Int)) 0).toNat=lo:=by
   rw[if_neg 17#0];omega
  rw[e2];show wpAny 35#0 A.in1 (forIn ([lo: min items.size items.size]:Std.Legacy.Range) (none,()) (zFA items x)) _ _ _;rw[Std.Legacy.Range.forIn_eq_forIn_range'];have e1:List.range' ([lo: min items.size items.size]:Std.Legacy.Range).start ([lo: min items.size items.size]:Std.Legacy.Range).size ([lo: min items.size items.size]:Std.Legacy.Range).step=List.range' lo (items.size-lo):=by
   simp[Std.Legacy.Range.size]
  rw[e1];refine zFg hj hit he ?_ _ _ hlo 17#0 hno;exact fF ⟨_,rfl,h⟩
end HT
namespace L3
open L2
section
variable {X:Cx} {a b c e o:Expr} {es:List Expr} {pos p:Pos} {ta tb te:zm}
def zDZ:D->D->Gp->Q2->Prop:=fun x y G R=>match x,y with
 | .int i,.int j=>R (.int (i+j)) G
 | .tup xs,.tup ys=>xs.length+ys.length<=1000000/\R (.tup (xs++ys)) G
 | _,_=>False
theorem OpR.or{f:Value->Value->Sem Value}{r r':R2}(h:OpR X f r)(h':OpR X f r'):OpR X f (fun x y H Q=>r x y H Q\/r' x y H Q):=by
 intro pins s σ H x y v u Q I rx ry q;rcases q with q | q
 ·exact h pins s σ H x y v u Q I rx ry q
 ·exact h' pins s σ H x y v u Q I rx ry q
def zQn(K:14#0):R2:=fun x y H Q=>∃ a b ys,x=.ref a/\y=.ref b/\SqT K H a []/\SqT K H b ys/\Q (.ref b) H
theorem zPS:OpR X (binaryOp .Add) (zQn X.K):=by
 intro pins s σ H x y v u Q I rx ry h;obtain⟨a,b,ys,rfl,rfl,ha,hb,q⟩:=h;cases rx;cases ry;obtain⟨its,r1,p1,u0⟩:=I.tuple ha;obtain⟨its2,r2,p2,u0⟩:=I.tuple hb;have:its=[]:=r1.nil_iff.mpr rfl;subst this;exact HT.zND p1 p2 ⟨.ref b,H,I,rfl,q⟩
theorem zPT{K:14#0}:Fit K (fun x y H Q=>rI0 (fun i j=>.int (i+j)) x y H Q\/zQl K x y H Q\/zQn K x y H Q) zDZ:=by
 intro dx dy G R x y H Q h r d1 d2 k;unfold zDZ at h;split at h
 ·rename_i i j
  unfold zQ at d1 d2;subst d1 d2;exact .inl ⟨i,j,rfl,rfl,k _ G h _ H (.refl H) r 22#0⟩
 ·rename_i xs ys
  obtain⟨hz,h⟩:=h;unfold zQ at d1 d2;obtain⟨a,us,rfl,s1,t1⟩:=d1;obtain⟨b,ws,rfl,s2,t2⟩:=d2;have l1:=t1.length;have l2:=t2.length;by_cases hx:xs=[]
  ·subst hx
   have hu:us=[]:=iD.mp (by rw[<-l1];rfl);subst hu;exact .inr (.inr ⟨a,b,ws,rfl,rfl,s1,s2,k _ G h _ H (.refl H) r (by unfold zQ;exact⟨b,ws,rfl,s2,by simpa using t2⟩)⟩)
  ·refine .inr (.inl ⟨a,b,us,ws,rfl,rfl,s1,s2,fun z=>hx (iD.mp (by rw[l1,z];rfl)),by rw[sizeLine_eq];omega,fun z=>?_,fun u0 p hp=>?_⟩)
   ·have hy:ys=[]:=iD.mp (by rw[l2,z];rfl)
    subst hy;exact k _ G h _ H (.refl H) r (by unfold zQ;exact⟨a,us,rfl,s1,by simpa using t1⟩)
   ·exact k _ G h _ _ (.fresh hp) (r.fresh hp) (by unfold zQ;exact⟨p,us++ws,rfl,.of yC,(t1.append t2).grow (.fresh hp)⟩)
 ·exact h.elim
theorem zNE(ha:E2 X a ta)(hb:E2 X b tb):E2 X (.BinOp a .Add b pos) (zO zDZ ta tb):=zMw (zRa.or (zPB.or zPS)) zPT ha hb
def wR(ta tb:zm):TL2:=fun σ G R=>ta σ G fun x G1=>tb σ G1 fun y G2=>match x,y with
 | .adr l,.adr m=>∃ xs ys,G2.m l=some xs/\G2.m m=some ys/\xs.length+ys.length<=1000000/\R (xs++ys) G2
 | _,_=>False
theorem zGs(ha:E2 X a ta)(hb:E2 X b tb):F2 X (.BinOp a .Add b pos) (wR ta tb):=by
 refine PE.mono (zQi zRm ha hb) ?_;rintro σ1 H Q ⟨σ,G,R,rl,q,k⟩;refine⟨σ,G,_,rl,q,fun dx G1 q1 x H1 g1 r1 d1=>⟨σ,G1,_,rl.to g1 r1,q1,fun dy G2 q2 y H2 g2 r2 d2=>?_⟩⟩;split at q2
 ·rename_i l m
  obtain⟨xs,ys,e1,e2,hz,q3⟩:=q2;have d1':=d1.grow g2;unfold zQ at d1' d2;subst d1' d2;obtain⟨us,a1,a2⟩:=r2.m l xs e1;obtain⟨ws,b1,b2⟩:=r2.m m ys e2;have l1:=a2.length;have l2:=b2.length;refine⟨l,m,us,ws,rfl,rfl,a1,b1,by rw[sizeLine_eq];omega,fun p hp=>?_⟩;exact k _ G2 q3 p _ _ ((g1.trans g2).trans (.fresh hp)) (r2.fresh hp) (r2.free hp) yC ((a2.append b2).grow (.fresh hp))
 ·exact q2.elim
theorem zLk(hc:X.calm=true):zAX X (.type "tuple") (fun xs H Q=>∃ p j,xs=[.ref p]/\H p=some (.rng 0 j)/\(0<=j/\j<=1000000)/\∀ l,H l=none->Q (.ref l) (yx H l (.tup ((fQ j.toNat).map fun(k:Nat)=>V.int k)))):=by
 intro pins s σ H xs us Q I r h;obtain⟨p,j,rfl,hp,⟨h0,h1⟩,q⟩:=h;obtain⟨u,rfl,rx⟩:=vals1 r;cases rx;obtain⟨t1,t2,t3,ho⟩:∃ t u v,s.heap.get? p=some { cls:=.type "range",data:=.fields #[.int 0 t,.int j u,.int 1 v] }:=I.hok p _ hp;have hsz:Builtin.Range.rangeSize 0 j 1=((j.toNat:Nat):Int):=by rw[rangeSize_one];split<;>omega
 refine HT.zEO (I.ok.hd hc) (show IsRange s.heap p 0 j 1 t1 t2 t3 from ho) (small_one 17#0 17#0 17#0 17#0) hsz 17#0 fun h' tk acc kp hacc=>?_;have I1:zT X pins σ H { s with heap:=h',toks:=tk }:=I.kept (t':=tk) kp;have hn:H h'.objs.size=none:=I1.hok.fresh (fP _);refine⟨.ref h'.objs.size,_,I1.laid (t':=tk) (o:=.tup ((fQ j.toNat).map fun(k:Nat)=>V.int k)) (fun b ob q=>fC _ q) (fP _) ?_,rfl,q _ hn⟩;refine⟨?_,acc.toList,?_,by simpa using zEx.new _ _⟩
 ·rw[fE,iI,sizeLine_eq];omega
 ·refine zEi (by simp[hacc.1]) fun i x v e1 e2=>?_
  have e2':acc[i]?=some v:=by simpa using e2
  obtain⟨t,rfl⟩:=hacc.2 i v e2';rw[gh] at e1;cases q':(fQ j.toNat)[i]? with
  | none=>rw[q'] at e1;cases e1
  | some k =>
   rw[q'] at e1;cases e1;have hk:k=i:=by
    have:=(fI.mp q').2;simpa using this.symm
   subst hk;refine⟨t,?_⟩;congr 1;omega
def zNF(t:TA2):zm:=fun σ G R=>t σ G fun ds G1=>match ds with | [.int j]=>(0<=j/\j<=1000000)/\R (.tup (zAM 0 j.toNat)) G1 | _=>False
theorem zR2{t:TA2}{pos' p2:Pos}(hc:X.calm=true)(hg:Gl X "tuple")(hm:X.mg "tuple"=none)(hg2:Gl X "range")(hm2:X.mg "range"=none)(ha:A2 X [a] t)(hs:autoParam (starEach [a] X.env=[(false,eval a X.env)]) Zq5._auto_1)
  (he:autoParam (starEach [.Call (.Name "range" p2) [a] [] pos] X.env=(false,eval (.Call (.Name "range" p2) [a] [] pos) X.env)::starEach [] X.env) Zq5._auto_1) (hpl:autoParam ((backTo pos' (starEach [] X.env)).any (·.1)=false) Zq5._auto_1) :
  E2 X (.Call (.Name "tuple" p) [.Call (.Name "range" p2) [a] [] pos] [] pos') (zNF t):=by
 refine PE.mono (zEK (zLk hc) hg hm 3#0 (zAH (zLi hg2 hm2 ha hs) zBz he) 11#0 11#0 he hpl) ?_;rintro σ1 H Q ⟨σ,G,R,rl,q,k⟩;refine⟨σ,G,_,rl,q,fun ds G1 q1 vs H1 g1 r1 d1=>?_⟩;split at q1
 ·rename_i j
  obtain⟨v,rfl,d2⟩:=zB9 d1;unfold zQ at d2;subst d2;refine⟨j,rfl,fun l n=>⟨l,j,rfl,yC,q1.1,fun l' n'=>?_⟩⟩;have g2:zo H1 (yx H1 l (.rng 0 j)):=.fresh n;have r2:=r1.fresh (o:=.rng 0 j) n;refine k _ G1 q1.2 _ _ ((g1.trans g2).trans (.fresh n')) (r2.fresh n') ?_;have:(fQ j.toNat).map (fun(k:Nat)=>V.int k)=((fQ j.toNat).map fun(k:Nat)=>(k:Int)).map V.int:=by simp
  rw[this];have e2:zAM 0 j.toNat=((fQ j.toNat).map fun(k:Nat)=>(k:Int)).map D.int:=by simp[zAM]
  rw[e2];unfold zQ;exact⟨l',_,rfl,.of yC,Dens.ints _⟩
 ·exact q1.elim
def zUr(K:14#0):V->Option Int->Option Int->Hp->VK->Prop:=fun x lo hi H Q=>∃ a xs,x=.ref a/\SqT K H a xs/\(HT.sIx xs.length 0 lo=0/\HT.sIx xs.length xs.length hi=xs.length)/\Q (.ref a) H
theorem zPU:SlR X (zUr X.K):=by
 intro pins s σ H x v vl vu lo hi sl Q I rx hs pl pu h;obtain⟨a,xs,rfl,hx,hw,q⟩:=h;cases rx;obtain⟨its,r,ht,hz⟩:=I.tuple hx;have hlen:its.toArray.size=xs.length:=by rw[fY];exact r.length.symm
 refine⟨"tuple",_,PyProof.Rows.slot_tuple_getitem.lookup,ht.typeIs,?_⟩;exact HT.zDT ht hs pl pu (by rw[hlen];exact hw) ⟨.ref a,H,I,rfl,q⟩
abbrev TO2:=S2->Gp->(Option Int->Gp->Prop)->Prop
def lO(K:14#0)(t:TO2):TO:=fun σ1 H Q=>∃ σ G R,Rel K σ G σ1 H/\t σ G R/\∀ o G',R o G'->∀ H',zo H H'->zt K G' H'->Q o H'
def O2(X:Cx)(e:Option Expr)(t:TO2):Prop:=PO X e (lO X.K t)
def yH:TO2:=fun u0 G R=>R none G
def yU(t:zm):TO2:=fun σ G R=>t σ G fun d G1=>match d with | .int i=>R (some i) G1 | _=>False
theorem zAw:O2 X none yH:=by
 intro pins s σ1 H Q I h;refine zO9 pins s σ1 H Q I ?_;obtain⟨σ,G,R,r,q,k⟩:=h;exact k none G q H (.refl H) r.g
theorem wr(h:E2 X e te):O2 X (some e) (yU te):=by
 intro pins s σ1 H Q I q;refine zPA h pins s σ1 H Q I ?_;obtain⟨σ,G,R,r,q,k⟩:=q;refine⟨σ,G,_,r,q,fun d G1 q1 v H1 g1 r1 d1=>?_⟩;cases d with
 | int i =>
  unfold zQ at d1;exact⟨i,d1,k _ G1 q1 H1 g1 r1⟩
 | _=>exact q1.elim
noncomputable def cutD(xs:List D)(lo hi:Option Int):List D:=(xs.drop (HT.sIx xs.length 0 lo)).take (HT.sIx xs.length xs.length hi-HT.sIx xs.length 0 lo)
def zJn(t:zm)(tl th:TO2):zm:=fun σ G R=>t σ G fun d G1=>tl σ G1 fun lo G2=>th σ G2 fun hi G3=>match d with | .tup xs=>R (.tup (cutD xs lo hi)) G3 | _=>False
theorem zPV{lo hi:Option Expr}{tl th:TO2}{p2:Pos}(he:E2 X e te)(hl:O2 X lo tl)(hu:O2 X hi th):E2 X (.Subscript e (.Slice lo hi none p2) pos) (zJn te tl th):=by
 refine PE.mono (zFW (zRj.or zPU) he hl hu) ?_;sleep 1;refine⟨σ,G,_,r,q,fun d G1 q1 v H1 g1 r1 d1=>⟨σ,G1,_,r.to g1 r1,q1,fun o1 G2 q2 H2 g2 r2=>⟨σ,G2,_,r.to (g1.trans g2) r2,q2,fun o2 G3 q3 H3 g3 r3=>?_⟩⟩⟩;cases d with
 | tup xs =>
  have d1':=(d1.grow g2).grow g3;unfold zQ at d1';obtain⟨a,us,rfl,s1,t1⟩:=d1';have hl:=t1.length;by_cases hw:HT.sIx us.length 0 o1=0/\HT.sIx us.length us.length o2=us.length
  ·refine .inr ⟨a,us,rfl,s1,hw,k _ G3 q3 _ H3 ((g1.trans g2).trans g3) r3 ?_⟩
   have e:cutD xs o1 o2=xs:=by
    unfold cutD;rw[hl,hw.1,hw.2];simp[<-hl]
   rw[e];unfold zQ;exact⟨a,us,rfl,s1,t1⟩
  ·refine .inl ⟨a,us,rfl,s1,hw,fun p hp=>k _ G3 q3 _ _ (((g1.trans g2).trans g3).trans (.fresh hp)) (r3.fresh hp) ?_⟩
   unfold zQ;refine⟨p,_,rfl,.of yC,?_⟩;unfold cutD zIK;rw[hl];exact((t1.drop).take).grow (.fresh hp)
 | _=>exact q3.elim
end
section
variable {σ:S2} {G:Gp}
theorem zEP{α:Type}{ds:List α}{i:Nat}{x:α}(h:ds[i]?=some x):ds.take (i+1)=ds.take i++[x]:=by
 rw[List.take_add_one,h];rfl
theorem zFB{wi:TI2}{bd:D->Option (List D)}{tc:TT2}{te:zm}{ds:List D}(p:D->Bool)(f:D->D)(us:D->List D)(hw:PuI wi σ G ds)
  (hx:∀ x∈ds,bd x=some (us x)/\PuT tc (σ++(us x).map some) G (p x)/\(p x=true->zn te (σ++(us x).map some) G (f x))):PuL (yk wi bd tc te) σ G ((ds.filter p).map f):=by
 intro G2 e R q;refine hw G2 e _ fun gd G3 e3 hgd A nA=>?_;refine⟨fun i acc G'=>G'=zh G3 A acc/\acc=((ds.take i).filter p).map f,⟨rfl,by simp⟩,?_,?_,?_⟩
 ·rintro i acc G' hi ⟨rfl,rfl⟩
  refine⟨hgd _ (.new nA),zU,?_⟩;rw[fE];exact gt (List.length_filter_le _ _) (by rw[hJ];omega)
 ·rintro i x acc G' hi ⟨rfl,rfl⟩
  obtain⟨hb,ht,he⟩:=hx x (gp hi);rw[hb];dsimp only;have ex:Ext G (zh G3 A (((ds.take i).filter p).map f)):=(e.trans e3).trans (.new nA);refine ht _ ex _ ?_;cases hp:p x with
  | false =>
   rw[if_neg 27#0];exact .of ⟨rfl,by rw[zEP hi];simp[hp]⟩
  | true =>
   rw[if_pos rfl];refine he hp _ ex _ ⟨zU,.of ⟨zC6,by rw[zEP hi];simp[hp]⟩⟩
 ·rintro acc G' ⟨rfl,rfl⟩
  exact⟨G2,e3.own nA,e3.sub.trans (.new nA),by rw[List.take_length];exact q⟩
theorem zB0{wi:TI2}{bd:D->Option (List D)}{te:zm}{ds:List D}(f:D->D)(us:D->List D)(hw:PuI wi σ G ds)
  (hx:∀ x∈ds,bd x=some (us x)/\zn te (σ++(us x).map some) G (f x)):PuL (yk wi bd zAJ te) σ G (ds.map f):=by
 have:=zFB (tc:=zAJ) (fun u0=>true) f us hw fun x h=>⟨(hx x h).1,zR1,fun u0=>(hx x h).2⟩
 rwa [List.filter_eq_self.mpr (fun u0 u0=>rfl)] at this
theorem zEQ{t:TA2}{j:Int}(h:PuA t σ G [.int j])(hj:-1000000<=j/\j<=1000000):PuI (iR1 t) σ G (zAM 0 j.toNat):=fun G2 e R q=>h G2 e _ ⟨hj,q _ G2 (.refl _) fun u0 u0=>trivial⟩
theorem zB8.nil:zB8 [] []:=.refl _
theorem zB8.keep{o:Option D}{r r':S2}(h:zB8 r r'):zB8 (o::r) (o::r'):=⟨by simp[h.len],fun i d e=>by
 cases i with
 | zero=>simpa using e
 | succ i=>simpa using h.val i d (by simpa using e)⟩
theorem zB8.skip{o:Option D}{r r':S2}(h:zB8 r r'):zB8 (none::r) (o::r'):=⟨by simp[h.len],fun i d e=>by
 cases i with
 | zero=>simp at e
 | succ i=>simpa using h.val i d (by simpa using e)⟩
theorem zPW{σ:S2}{G:Gp}:Fg (fun σ' G'=>σ'=σ/\G'=G)=fun σ' G'=>zB8 σ σ'/\Sub G G':=by
 funext σ' G';apply propext;constructor
 ·rintro⟨u0,u0,h1,h2,rfl,rfl⟩
  exact⟨h1,h2⟩
 ·rintro⟨h1,h2⟩
  exact⟨σ,G,h1,h2,rfl,rfl⟩
def zCc(wi:TI2)(g:TG2)(tb:wC):wC:=fun E σ G=>Fg (fun σ' G'=>zTS wi g tb E σ' G') σ G
theorem zHP{X:Cx}{tg iter:Expr}{pos:Pos}{wi:TI2}{g:TG2}{tb:wC}{body:List Stmt}(hp:PassesOwn 13#0 X.A X.env X.xe)(hc:X.calm=true)(hi:I2 X tg iter wi)(hg:G2 X tg g)(hb:Ps2 X body tb)
  (hs:15#0):P2 X (.For tg iter body [] pos) (zCc wi g tb):=by
 refine PS.mono (zTT hp hc hi hg hb hs) ?_;rintro E σ1 H ⟨σ,G,D2,r,⟨σ',G',s1,s2,q⟩,k⟩;exact⟨σ',G',D2,r.sub s1 s2,q,k⟩
theorem zNG{wi:TI2}{g:TG2}{tb:wC}{E:yO}{ds:List D}(hw:PuI wi σ G ds)
  (hb:∀ x∈ds,∀ G1,Ext G G1->g x σ G1 fun σ2 G2=>tb { E with nx:=fun σ' G'=>zB8 σ σ'/\Sub G1 G',ct:=fun σ' G'=>zB8 σ σ'/\Sub G1 G',bk:=E.nx } σ2 G2) (h:∀ G1,Ext G G1->E.nx σ G1) {σ0:S2} (hf:autoParam (zB8 σ σ0) Zq10._auto_1):zCc wi g tb E σ0 G:=by
 refine⟨σ,G,hf,.refl G,?_⟩;refine hw G (.refl G) _ fun gd G3 e3 hgd=>⟨fun i σ' G'=>σ'=σ/\G'=G3,⟨rfl,rfl⟩,?_,?_,?_⟩
 ·rintro i σ' G' u0 ⟨rfl,rfl⟩
  exact hgd _ (.refl _)
 ·rintro i x σ' G' hi ⟨rfl,rfl⟩
  rw[zPW];exact hb x (gp hi) _ e3
 ·rintro σ' G' ⟨rfl,rfl⟩
  exact h _ e3
end
def zPX(ds:List D)(gd:Gp->Prop)(G1:Gp)(g:TG2)(tb:wC)(E:yO)(σ:S2):Prop:=∃ Pv:Nat->S2->Gp->Prop,Pv 0 σ G1/\(∀ i σ G,i<=ds.length->Pv i σ G->gd G) /\
 (∀ i x σ G,ds[i]?=some x->Pv i σ G->g x σ G fun σ2 G2=>tb { E with nx:=Fg (Pv (i+1)),ct:=Fg (Pv (i+1)),bk:=E.nx } σ2 G2)/\∀ σ G,Pv ds.length σ G->E.nx σ G
theorem zR3{σ:S2}{I:Gp->Prop}:Fg (fun σ' G'=>σ'=σ/\I G')=fun σ' G'=>zB8 σ σ'/\∃ G'',Sub G'' G'/\I G'':=by
 funext σ' G';apply propext;constructor
 ·rintro⟨u0,G'',h1,h2,rfl,h3⟩
  exact⟨h1,G'',h2,h3⟩
 ·rintro⟨h1,G'',h2,h3⟩
  exact⟨σ,G'',h1,h2,rfl,h3⟩
theorem zKp{ds:List D}{gd:Gp->Prop}{G1:Gp}{g:TG2}{tb:wC}{E:yO}{σ:S2}(I:Nat->Gp->Prop)(h0:I 0 G1)(hg:∀ i G',I i G'->gd G')
  (hb:∀ i x,ds[i]?=some x->∀ G2,I i G2->g x σ G2 fun σ2 G3=>tb { E with nx:=fun σ' G'=>zB8 σ σ'/\∃ G'',Sub G'' G'/\I (i+1) G'',ct:=fun σ' G'=>zB8 σ σ'/\∃ G'',Sub G'' G'/\I (i+1) G'',bk:=E.nx } σ2 G3)
  (h:∀ G2,I ds.length G2->E.nx σ G2):zPX ds gd G1 g tb E σ:=by
 refine⟨fun i σ' G'=>σ'=σ/\I i G',⟨rfl,h0⟩,?_,?_,?_⟩
 ·rintro i σ' G' u0 ⟨u0,h⟩
  exact hg i G' h
 ·rintro i x σ' G' hi ⟨rfl,hI⟩
  rw[zR3];exact hb i x hi G' hI
 ·rintro σ' G' ⟨rfl,hI⟩
  exact h G' hI
def zGt:wq:=fun ds G R=>∃(a:Addr) (ns:List Int),ds=[.adr a]/\G.ro a=some (ns.map D.int)/\ns.length<=63/\(∀ l,G.m l=none)/\∀ G',R (.bl true) G'
theorem zR4{K:14#0}{H:Hp}{a:Addr}{ns:List Int}(hl:ns.length<=63)(hO:zPH H)(hS:SqL K H a (ns.map V.int)):lSp K zGt [.ref a] H (fun v u0=>v=.bl true) fun u0 u0 u0=>False:=by
 refine⟨[.adr a],⟨fun u0=>none,fun b=>if b=a then some (ns.map D.int) else none,fun u0=>none⟩,fun d u0=>d=.bl true,.cons 22#0 .nil,⟨fun b ds e=>(by cases e),fun b ds e=>?_,fun b ds e=>(by cases e)⟩,⟨a,ns,rfl,by simp,hl,fun u0=>rfl,fun u0=>rfl⟩,fun d G' q v H' g r dv=>?_⟩
 ·by_cases hb:b=a
  ·subst hb
   simp at e;subst e;refine⟨_,?_,Dens.ints ns⟩;rcases hS with h | h
   ·rcases hO b with h' | ⟨o,xs,h'⟩ | ⟨ps,h'⟩
    ·rcases h with h | ⟨o,h⟩<;>(rw[h'] at h;cases h)
    ·rcases h with h | ⟨o',h⟩
     ·rw[h'] at h;cases h
     ·exact .inl ⟨o',h⟩
    ·rcases h with h | ⟨o',h⟩<;>(rw[h'] at h;cases h)
   ·exact .inr h
  ·simp[hb] at e
 ·subst q
  unfold zQ at dv;exact dv
theorem zQo{α:Type}(x:α)(r:List α):atI (x::r) 0=some x:=ya (j:=0) rfl
theorem zQp{α:Type}(x y:α)(r:List α):atI (x::y::r) 1=some y:=ya (j:=1) rfl
theorem zTZ{α:Type}(x y z:α)(r:List α):atI (x::y::z::r) 2=some z:=ya (j:=2) rfl
theorem zEk{x:D}{r:List D}{G:Gp}{R:Q2}:zz (.tup (x::r)) (.int 0) G R=R x G:=by simp only[zz,zQo]
theorem zEl{x y:D}{r:List D}{G:Gp}{R:Q2}:zz (.tup (x::y::r)) (.int 1) G R=R y G:=by simp only[zz,zQp]
theorem zGu{x y z:D}{r:List D}{G:Gp}{R:Q2}:zz (.tup (x::y::z::r)) (.int 2) G R=R z G:=by simp only[zz,zTZ]
theorem zC8{x:D}{ng:Bool}{ds:List D}{G:Gp}{R:Q2}:fIn ng x (.tup ds) G R=(flat 8 x=true/\(∀ d∈ds,flat 8 d=true)/\R (.bl (if ng then !ds.any fun z=>eqD z x else ds.any fun z=>eqD z x)) G):=rfl
theorem zLl:(0<=sizeLine)=True:=by rw[sizeLine_eq];simp
theorem zLm:(1<=sizeLine)=True:=by rw[sizeLine_eq];simp
theorem zLn:(2<=sizeLine)=True:=by rw[sizeLine_eq];simp
theorem zLo:(3<=sizeLine)=True:=by rw[sizeLine_eq];simp
theorem zBY(p:Prop):(True/\p)=p:=by simp
theorem zC9{p q:Prop}:(if true=true then p else q)=p:=if_pos rfl
theorem zDA{p q:Prop}:(if false=true then p else q)=q:=if_neg 27#0
section
variable {X:Cx} {pins:List (Addr×Obj)} {σ1:L2.St} {H:Hp} {s:Shared} {A:Around}
theorem zHQ(I:zT X pins σ1 H s){n:Nat}{ds:List D}{xs:List V}{its:List Value}{d:D}{v:V}{u:Value}(hd:Dens X.K H ds xs)(rv:zy xs its)(h:zQ X.K H d v)(r:RelV v u)(f:∀ z∈ds,flat n z=true)(f':flat n d=true)(hu:A.units+n<cLine) :
  ∃ e:Value->Bool,(∀ y,y∈its.toArray->SeqAt.EqAt A s y u (e y))/\its.length=ds.length/\∀(j:Nat) (w:Value) (z:D),its[j]?=some w->ds[j]?=some z->e w=eqD z d:=by
 have l1:=hd.length;have l2:=rv.length;obtain⟨e,h1,h2⟩:=zGm (its:=its) (ds:=ds) (fun z=>eqD z d) 17#0 (by
  intro i j w z z' a1 a2 a3 a4;obtain⟨x,b1,b2⟩:=hd.get a3;obtain⟨x',b3,b4⟩:=hd.get a4;obtain⟨w1,c1,c2⟩:=rv.get b1;obtain⟨w2,c3,c4⟩:=rv.get b3;rw[a1] at c1;cases c1;rw[a2] at c3;cases c3;have:=c2.inj c4;subst this;exact zQ.inj I b2 b4 (f z (gp a3)) (f z' (gp a4)))
 refine⟨e,fun y hy=>?_,by omega,h1⟩;have hy':y∈its:=by simpa using hy
 obtain⟨j,hj⟩:=List.getElem?_of_mem hy';have hjl:j<its.length:=(fI.mp hj).1;obtain⟨x,b1,b2⟩:=hd.get (i:=j) (d:=ds[j]'(by omega)) 27#0;obtain⟨w1,c1,c2⟩:=rv.get b1;rw[hj] at c1;cases c1;rw[h1 j _ (ds[j]'(by omega)) hj 27#0];exact zJj I n _ _ x v _ u A b2 h c2 r (f _ (gL _)) f' hu
end
section
variable {X:Cx} {e o:Expr} {es:List Expr} {to:zm} {t:TA2} {name:Str} {apos cpos:Pos}
def zQq(G:Gp)(d:D):Prop:=∃ ds,zKo G d ds
def xMt(sp:wq)(to:zm)(t:TA2):zm:=fun σ G R=>to σ G fun d G1=>zQq G1 d/\t σ G1 fun ds G2=>sp (d::ds) G2 R
theorem zR5{idT idL:String}{rT rL:V->List V->Hp->VK->Prop}{sp:wq}(slT:Slot "tuple" name idT)(slL:Slot "list" name idL)(tyT:typeOf (.builtin idT)=pure (.type "method_descriptor"))(tyL:typeOf (.builtin idL)=pure (.type "method_descriptor"))
  (mT:MtR X idT rT) (mL:MtR X idL rL)
  (fT:∀ xs ds G R a vs us H Q,sp (.tup xs::ds) G R->zt X.K G H->SqT X.K H a us->Dens X.K H xs us->Dens X.K H ds vs->(∀ d G',R d G'->∀ v H',zo H H'->zt X.K G' H'->zQ X.K H' d v->Q v H')->rT (.ref a) vs H Q)
  (fL:∀ l ds G R vs H Q,sp (.adr l::ds) G R->zt X.K G H->Dens X.K H ds vs->(∀ d G',R d G'->∀ v H',zo H H'->zt X.K G' H'->zQ X.K H' d v->Q v H')->rL (.ref l) vs H Q)
  (ho:E2 X o to) (ha:A2 X (e::es) t)
  (hbase:autoParam (attributeBase o name X.env (eval o X.env)=eval o X.env) Zq5._auto_1)
  (hfew:autoParam (((backTo cpos (starEach (e::es) X.env)).all (fun x=>!x.1)&&(backToKw cpos (keywordEach [] X.env)).all (fun x=>x.1.isSome)
   && decide ((e::es).length+([]:List Keyword).length+(if ([]:List Keyword).isEmpty then 0 else 1)<30))=true) Zq5._auto_1)
  (hline:autoParam ((apos.endLine==cpos.line)=true) Zq5._auto_1) (hs:2#0) (hplain:autoParam ((backTo cpos (starEach es X.env)).any (·.1)=false) Zq5._auto_1) :
  E2 X (.Call (.Attribute o name apos) (e::es) [] cpos) (xMt sp to t):=by
 intro pins s σ1 H Q I h;obtain⟨σ,G,R,r,q,k⟩:=h;refine wpAny_Call_method_late hbase hfew hline rfl (yV (ho pins s σ1 H (fun v H1=>∃ d G1,zo H H1/\zt X.K G1 H1/\zQ X.K H1 d v/\zQq G1 d/\t σ G1 fun ds G2=>sp (d::ds) G2 R) I ⟨σ,G,_,r,q,fun d G1 q1 v H1 g1 r1 d1=>⟨d,G1,g1,r1,d1,q1.1,q1.2⟩⟩) fun v s1 u9=>?_);obtain⟨x,H1,I1,r1,d,G1,g1,rg,dn,sq,q1⟩:=u9;have args:∀ {us:List Value} {QQ:List V->Hp->Prop} (hq:∀ ds G2,sp (d::ds) G2 R->∀ vs H2,zo H1 H2->zt X.K G2 H2->Dens X.K H2 ds vs->QQ vs H2),lA X.K t σ1 H1 QQ:=fun hq =>
  ⟨σ,G1,_,r.to g1 rg,q1,hq⟩
 cases d with
 | tup xs =>
  unfold zQ at dn;obtain⟨a,us0,rfl,hsq,hd⟩:=dn;cases r1;obtain⟨h1,ob,h2,h3⟩:=I1.noDict hsq;refine⟨"tuple",idT,PySem.F.plainAttrs_tuple,slT,tyT,h1,fun b eb=>by cases eb;exact⟨ob,h2,h3⟩,?_⟩;have hA:=ha cpos pins s1 σ1 H1 (fun vs H2=>rT (.ref a) vs H2 Q) I1 (args (us:=[]) fun ds G2 q2 vs H2 g2 r2 d2=>fT xs ds G2 R a vs us0 H2 Q q2 r2 (g2.sqT hsq) (hd.grow g2) d2 fun d G' q' v H' g'=>k d G' q' v H' ((g1.trans g2).trans g'));rw[hs] at hA ⊢;refine Calls.callWith_builtin (by show(false||(backTo cpos (starEach es X.env)).any (·.1))=false;rw[hplain]<;>rfl) (Calls.evalArgs_plain ?_);exact yV hA fun us s2 ⟨vs,H2,I2,r2,q2⟩=>mT pins s2 σ1 H2 (.ref a) vs _ us Q I2 rfl r2 q2
 | adr l =>
  unfold zQ at dn;subst dn;cases r1;obtain⟨ds0,hq0⟩:=sq;obtain⟨us0,hsq,hd⟩:=rg.sq (show Ls G1 l ds0 from hq0);obtain⟨h1,h2⟩:=zMt (T:="list") (x:=.ref l) I1 rfl (.inl ⟨rfl,us0,hsq⟩);refine⟨"list",idL,PySem.F.plainAttrs_list,slL,tyL,h1,h2,?_⟩;have hA:=ha cpos pins s1 σ1 H1 (fun vs H2=>rL (.ref l) vs H2 Q) I1 (args (us:=[]) fun ds G2 q2 vs H2 g2 r2 d2=>fL l ds G2 R vs H2 Q q2 r2 d2 fun d G' q' v H' g'=>k d G' q' v H' ((g1.trans g2).trans g'));rw[hs] at hA ⊢;refine Calls.callWith_builtin (by show(false||(backTo cpos (starEach es X.env)).any (·.1))=false;rw[hplain]<;>rfl) (Calls.evalArgs_plain ?_);exact yV hA fun us s2 ⟨vs,H2,I2,r2,q2⟩=>mL pins s2 σ1 H2 (.ref l) vs _ us Q I2 rfl r2 q2
 | _=>obtain⟨u0,hq⟩:=sq;exact hq.elim
def zEm(ds:List D)(d:D)(lo j:Nat):Prop:=lo<=j/\(∃ z,ds[j]?=some z/\eqD z d=true)/\∀ m z,lo<=m->m<j->ds[m]?=some z->eqD z d=false
def zQr(K:14#0)(two:Bool):V->List V->Hp->VK->Prop:=fun x vs H Q=>∃(a:Addr) (xs:List V) (ds:List D) (d:D) (v:V) (lo j:Nat),x=.ref a/\vs=(if two then [v,.int (lo:Int)] else [v])/\(two=false->lo=0)/\SqT K H a xs/\Dens K H ds xs/\zQ K H d v/\flat 8 d=true/\(∀ z∈ds,flat 8 z=true)/\zEm ds d lo j/\Q (.int (j:Int)) H
def zTa(K:14#0):V->List V->Hp->VK->Prop:=fun x vs H Q=>∃(a:Addr) (xs:List V) (ds:List D) (d:D) (v:V) (j:Nat),x=.ref a/\vs=[v]/\SqL K H a xs/\Dens K H ds xs/\zQ K H d v/\flat 8 d=true/\(∀ z∈ds,flat 8 z=true)/\zEm ds d 0 j/\Q (.int (j:Int)) H
theorem zNH(hu:X.A.units+10<cLine):MtR X "tuple.index" (zQr X.K false):=by
 intro pins s σ H x vs v us Q I rx rv h;obtain⟨a,xs,ds,d,v0,lo,j,rfl,rfl,h0,hs,hd,hv,f1,f2,⟨i1,⟨z,i2,i3⟩,i4⟩,q⟩:=h;have hlo:=h0 rfl;subst hlo;cases rx;obtain⟨u,rfl,ru⟩:=vals1 rv;obtain⟨its,r,ht,hz⟩:=I.tuple hs;obtain⟨e,e1,e2,e3⟩:=zHQ (A:=X.A.in1) I hd r hv ru f2 f1 (by rw[in1_units];omega);obtain⟨⟨cls,dd,data,sl⟩,ho,hc,n,hdt⟩:=id ht;simp only at hc hdt;subst hc hdt;have hj:j<ds.length:=(fI.mp i2).1;have hj':j<its.toArray.size:=by simpa[e2] using hj
 refine call_meets PySem.F.slot_tuple_index ⟨_,ho,rfl⟩ PySem.F.entry_tuple_index (PySem.F.args_tuple_index_2 _ _) (HT.zHN a its.toArray n dd sl u e j hj' ?_ fun m hm hmj=>?_) ⟨ho,e1,⟨.int j,H,I.tok _,⟨_,rfl⟩,q⟩⟩
 ·rw[e3 j _ z (by simp at hj' ⊢) i2];exact i3
 ·have hm':m<its.length:=by simpa using hm
  rw[e3 m _ (ds[m]'(by omega)) 27#0 27#0];exact i4 m _ (i7 _) hmj 27#0
theorem zNI(hu:X.A.units+10<cLine):MtR X "tuple.index" (zQr X.K true):=by
 intro pins s σ H x vs v us Q I rx rv h;obtain⟨a,xs,ds,d,v0,lo,j,rfl,rfl,h0,hs,hd,hv,f1,f2,⟨i1,⟨z,i2,i3⟩,i4⟩,q⟩:=h;cases rx;obtain⟨u,u2,rfl,ru,ru2⟩:=vals2 rv;obtain⟨t2,rfl⟩:=ru2;obtain⟨its,r,ht,hz⟩:=I.tuple hs;obtain⟨e,e1,e2,e3⟩:=zHQ (A:=X.A.in1) I hd r hv ru f2 f1 (by rw[in1_units];omega);obtain⟨⟨cls,dd,data,sl⟩,ho,hc,n,hdt⟩:=id ht;simp only at hc hdt;subst hc hdt;have hj:j<ds.length:=(fI.mp i2).1;have hj':j<its.toArray.size:=by simpa[e2] using hj
 refine call_meets PySem.F.slot_tuple_index ⟨_,ho,rfl⟩ PySem.F.entry_tuple_index (PySem.F.args_tuple_index_3 _ _ _) (HT.zHO a its.toArray n dd sl u e lo t2 j hj' ?_ i1 fun m hm hlm hmj=>?_) ⟨ho,e1,⟨.int j,H,I.tok _,⟨_,rfl⟩,q⟩⟩
 ·rw[e3 j _ z (by simp at hj' ⊢) i2];exact i3
 ·have hm':m<its.length:=by simpa using hm
  rw[e3 m _ (ds[m]'(by omega)) 27#0 27#0];exact i4 m _ hlm hmj 27#0
theorem zPY(hu:X.A.units+10<cLine):MtR X "list.index" (zTa X.K):=by
 intro pins s σ H x vs v us Q I rx rv h;obtain⟨a,xs,ds,d,v0,j,rfl,rfl,hs,hd,hv,f1,f2,⟨i1,⟨z,i2,i3⟩,i4⟩,q⟩:=h;cases rx;obtain⟨u,rfl,ru⟩:=vals1 rv;obtain⟨its,r,pl,hz⟩:=I.list hs;obtain⟨e,e1,e2,e3⟩:=zHQ (A:=X.A.in1) I hd r hv ru f2 f1 (by rw[in1_units];omega);obtain⟨⟨cls,dd,data,sl⟩,ho,hc,n,hdt⟩:=id pl.isList;simp only at hc hdt;subst hc hdt;have hj:j<ds.length:=(fI.mp i2).1;have hj':j<its.toArray.size:=by simpa[e2] using hj
 have hz':its.length<=sizeLine:=by rw[<-r.length];exact hz
 rw[sizeLine_eq] at hz';refine call_meets PySem.F.slot_list_index ⟨_,ho,rfl⟩ PySem.F.entry_list_index (PySem.F.args_list_index_2 _ _) (SeqAt.list_indexAt a its.toArray n dd sl u e j hj' (by simp at hj';omega) ?_ fun m hm hmj=>?_) ⟨ho,e1,⟨.int j,H,I.tok _,⟨_,rfl⟩,q⟩⟩
 ·rw[e3 j _ z (by simp at hj' ⊢) i2];exact i3
 ·have hm':m<its.length:=by simpa using hm
  rw[e3 m _ (ds[m]'(by omega)) 27#0 27#0];exact i4 m _ (i7 _) hmj 27#0
def zDB:wq:=fun ds G R=>match ds with
 | [o,d]=>∃ xs j,zKo G o xs/\flat 8 d=true/\(∀ z∈xs,flat 8 z=true)/\zEm xs d 0 j/\R (.int (j:Int)) G
 | _=>False
def zDC:wq:=fun ds G R=>match ds with
 | [.tup xs,d,.int lo]=>∃(l j:Nat),lo=(l:Int)/\flat 8 d=true/\(∀ z∈xs,flat 8 z=true)/\zEm xs d l j/\R (.int (j:Int)) G
 | _=>False
theorem zNJ{k:Nat}(hr:yS k X.A)(ho:E2 X o to)(ha:A2 X [e] t)
  (hbase:autoParam (attributeBase o "index" X.env (eval o X.env)=eval o X.env) Zq5._auto_1)
  (hfew:autoParam (((backTo cpos (starEach [e] X.env)).all (fun x=>!x.1)&&(backToKw cpos (keywordEach [] X.env)).all (fun x=>x.1.isSome)
   && decide 32#0)=true) Zq5._auto_1)
  (hline:autoParam ((apos.endLine==cpos.line)=true) Zq5._auto_1) (hs:8#0) (hplain:autoParam ((backTo cpos (starEach [] X.env)).any (·.1)=false) Zq5._auto_1) :
  E2 X (.Call (.Attribute o "index" apos) [e] [] cpos) (xMt zDB to t):=by
 refine zR5 PySem.F.slot_tuple_index PySem.F.slot_list_index PySem.F.type_tuple_index PySem.F.type_list_index (zNH (by have:=hr.units;omega)) (zPY (by have:=hr.units;omega)) ?_ ?_ ho ha hbase hfew hline hs hplain
 ·intro xs ds G R a vs us H Q q r hsq hd d2 k
  unfold zDB at q;split at q
  ·rename_i o d e
   cases e;obtain⟨xs',j,e1,f1,f2,i,q⟩:=q;cases (show xs=xs' from e1);obtain⟨v,rfl,d3⟩:=zB9 d2;exact⟨a,us,xs,d,v,0,j,rfl,rfl,fun u0=>rfl,hsq,hd,d3,f1,f2,i,k _ G q _ H (.refl H) r 22#0⟩
  ·exact q.elim
 ·intro l ds G R vs H Q q r d2 k
  unfold zDB at q;split at q
  ·rename_i o d e
   cases e;obtain⟨xs',j,e1,f1,f2,i,q⟩:=q;obtain⟨v,rfl,d3⟩:=zB9 d2;obtain⟨us,hsq,hd⟩:=r.sq (show Ls G l xs' from e1);exact⟨l,us,xs',d,v,j,rfl,rfl,hsq,hd,d3,f1,f2,i,k _ G q _ H (.refl H) r 22#0⟩
  ·exact q.elim
theorem zNK{k:Nat}{e2:Expr}(hr:yS k X.A)(ho:E2 X o to)(ha:A2 X [e,e2] t)
  (hbase:autoParam (attributeBase o "index" X.env (eval o X.env)=eval o X.env) Zq5._auto_1)
  (hfew:autoParam (((backTo cpos (starEach [e,e2] X.env)).all (fun x=>!x.1)&&(backToKw cpos (keywordEach [] X.env)).all (fun x=>x.1.isSome)
   && decide ([e,e2].length+([]:List Keyword).length+(if ([]:List Keyword).isEmpty then 0 else 1)<30))=true) Zq5._auto_1)
  (hline:autoParam ((apos.endLine==cpos.line)=true) Zq5._auto_1) (hs:autoParam (starEach [e,e2] X.env=(false,eval e X.env)::starEach [e2] X.env) Zq5._auto_1) (hplain:autoParam ((backTo cpos (starEach [e2] X.env)).any (·.1)=false) Zq5._auto_1) :
  E2 X (.Call (.Attribute o "index" apos) [e,e2] [] cpos) (xMt zDC to t):=by
 refine zR5 (rL:=fun u0 u0 u0 u0=>False) PySem.F.slot_tuple_index PySem.F.slot_list_index PySem.F.type_tuple_index PySem.F.type_list_index (zNI (by have:=hr.units;omega)) (fun u0 u0 u0 u0 u0 u0 u0 u0 u0 u0 u0 u0 z=>z.elim) ?_ ?_ ho ha hbase hfew hline hs hplain
 ·intro xs ds G R a vs us H Q q r hsq hd d2 k
  unfold zDC at q;split at q
  ·rename_i xs' d lo e
   cases e;obtain⟨l,j,rfl,f1,f2,i,q⟩:=q;obtain⟨v,v',rfl,d3,d4⟩:=zTW d2;unfold zQ at d4;subst d4;exact⟨a,us,xs,d,v,l,j,rfl,rfl,fun z=>(by cases z),hsq,hd,d3,f1,f2,i,k _ G q _ H (.refl H) r 22#0⟩
  ·exact q.elim
 ·intro l ds G R vs H Q q r d2 k
  unfold zDC at q;split at q
  ·rename_i e;cases e
  ·exact q.elim
def zTb(K:14#0):V->List V->Hp->VK->Prop:=fun x vs H Q=>∃ a xs ds d v,x=.ref a/\vs=[v]/\SqT K H a xs/\Dens K H ds xs/\zQ K H d v/\flat 8 d=true/\(∀ z∈ds,flat 8 z=true)/\Q (.int ((ds.countP fun z=>eqD z d:Nat):Int)) H
theorem zLp{its:List Value}{ds:List D}{e:Value->Bool}{g:D->Bool}:its.length=ds.length->(∀(j:Nat) (w:Value) (z:D),its[j]?=some w->ds[j]?=some z->e w=g z)->its.countP e=ds.countP g:=by
 induction its generalizing ds with
 | nil =>
  intro h u0;have:ds=[]:=iD.mp h.symm;subst this;rfl
 | cons w r ih =>
  intro h hh;cases ds with
  | nil=>simp at h
  | cons z ds =>
   rw[List.countP_cons,List.countP_cons,ih (by simpa using h) fun j w' z' h1 h2=>hh (j+1) w' z' (by simpa using h1) (by simpa using h2),hh 0 w z rfl rfl]
theorem zPZ(hu:X.A.units+10<cLine):MtR X "tuple.count" (zTb X.K):=by
 intro pins s σ H x vs v us Q I rx rv h;obtain⟨a,xs,ds,d,v0,rfl,rfl,hs,hd,hv,f1,f2,q⟩:=h;cases rx;obtain⟨u,rfl,ru⟩:=vals1 rv;obtain⟨its,r,ht,hz⟩:=I.tuple hs;obtain⟨e,e1,e2,e3⟩:=zHQ (A:=X.A.in1) I hd r hv ru f2 f1 (by rw[in1_units];omega);obtain⟨⟨cls,dd,data,sl⟩,ho,hc,n,hdt⟩:=id ht;simp only at hc hdt;subst hc hdt;refine call_meets PySem.F.slot_tuple_count ⟨_,ho,rfl⟩ PySem.F.entry_tuple_count (PySem.F.args_tuple_count_2 _ _) (SeqAt.tuple_countAt a its.toArray n dd sl u e) ⟨ho,e1,?_⟩;rw[List.toList_toArray,zLp e2 e3];exact⟨.int _,H,I.tok _,⟨_,rfl⟩,q⟩
def zAx:wq:=fun ds G R=>match ds with
 | [.tup xs,d]=>flat 8 d=true/\(∀ z∈xs,flat 8 z=true)/\R (.int ((xs.countP fun z=>eqD z d:Nat):Int)) G
 | _=>False
theorem zIV{k:Nat}(hr:yS k X.A)(ho:E2 X o to)(ha:A2 X [e] t)
  (hbase:autoParam (attributeBase o "count" X.env (eval o X.env)=eval o X.env) Zq5._auto_1)
  (hfew:autoParam (((backTo cpos (starEach [e] X.env)).all (fun x=>!x.1)&&(backToKw cpos (keywordEach [] X.env)).all (fun x=>x.1.isSome)
   && decide 32#0)=true) Zq5._auto_1)
  (hline:autoParam ((apos.endLine==cpos.line)=true) Zq5._auto_1) (hs:8#0) (hplain:autoParam ((backTo cpos (starEach [] X.env)).any (·.1)=false) Zq5._auto_1) :
  E2 X (.Call (.Attribute o "count" apos) [e] [] cpos) (xMt zAx to t):=by
 refine zR5 (rL:=fun u0 u0 u0 u0=>False) PySem.F.slot_tuple_count PySem.F.slot_list_count PySem.F.type_tuple_count PySem.F.type_list_count (zPZ (by have:=hr.units;omega)) (fun u0 u0 u0 u0 u0 u0 u0 u0 u0 u0 u0 u0 z=>z.elim) ?_ ?_ ho ha hbase hfew hline hs hplain
 ·intro xs ds G R a vs us H Q q r hsq hd d2 k
  unfold zAx at q;split at q
  ·rename_i xs' d e
   cases e;obtain⟨f1,f2,q⟩:=q;obtain⟨v,rfl,d3⟩:=zB9 d2;exact⟨a,us,xs,d,v,rfl,rfl,hsq,hd,d3,f1,f2,k _ G q _ H (.refl H) r 22#0⟩
  ·exact q.elim
 ·intro l ds G R vs H Q q r d2 k
  unfold zAx at q;split at q
  ·rename_i e;cases e
  ·exact q.elim
end
section
variable {X:Cx} {a b c d e o:Expr} {es:List Expr} {pos p:Pos} {ta tb tc td te:zm} {tl:TL2}
theorem zBm{x:Str}{n:Int}{t:Tok}(hg:Gl X x)(hm:X.mg x=some (.int n t))(hd:4#0):E2 X (.Name x pos) (xC (.int n)):=by
 refine PE.mono (zC2 (v:=.int n) hg hm ⟨t,rfl⟩ hd) ?_;sleep 1;exact k _ G q _ H (.refl H) r.g 22#0
theorem zIW{A:Around}{prog:Program}{w:World}{bs:List Bool}:TruthOf prog w A (fun i v=>(bs.map Value.bool).toArray[i]?=some v) (fun i=>bs.getD i false):=by
 intro i v s Q E h q;have hi:i<bs.length:=by
  have:=(Array.getElem?_eq_some_iff.mp h).1;simpa using this
 have:v=.bool bs[i]:=by
  have:=h;simp[hi] at this;exact this.symm
 subst this;have e:bs.getD i false=bs[i]:=by simp[iu,hi]
 have q':Q (bs.getD i false) s:=q;rw[e] at q';exact gD q'
theorem all_range(bs:List Bool):(fQ bs.length).all (fun i=>bs.getD i false)=bs.all id:=by
 rw[gK];simp only[ge,gJ,id];constructor
 ·intro h x hx
  obtain⟨i,hi⟩:=List.getElem?_of_mem hx;have hl:i<bs.length:=(fI.mp hi).1;have:=h i hl;simp[iu,hi] at this;exact this
 ·intro h i hi
  have:bs.getD i false=bs[i]:=by simp[iu,hi]
  rw[this];exact h _ (gL _)
theorem zFh:∀ {bs:List Bool} {us:List Value},zy (bs.map V.bl) us->us=bs.map Value.bool
 | [],_,h=>by cases h;rfl
 | b::r,_,h=>by
  rw[fJ] at h;cases h with
  | cons h1 h2=>rw[zFh h2,(show _=Value.bool b from h1)];rfl
theorem zLq(hc:X.calm=true):zAX X (.builtin "all") (fun xs H Q=>∃ l bs,xs=[.ref l]/\SqL X.K H l (iA V.bl bs)/\Q (.bl (bs.all id)) H):=by
 intro pins s σ H xs us Q I r h;obtain⟨l,bs,rfl,hs,q⟩:=h;obtain⟨u,rfl,rx⟩:=vals1 r;cases rx;obtain⟨its,rv,pl,u0⟩:=I.list hs;have:=zFh rv;subst this;have hl:=pl.isList;have ll:l<s.heap.objs.size:=by obtain⟨o,e,u0⟩:=hl;exact fK e
 refine call_all_walkS (wpAny_pyIter_list hl ?_);refine⟨_,_,_,_,_,_,_,fun i=>bs.getD i false,rfl,(Walks.list (A:=X.A.in1) (I.ok.hd hc) s.heap.objs.size l (gc ll) (bs.map Value.bool).toArray).toS,⟨⟨_,fM _ rfl,rfl,rfl⟩,hl.push _⟩,zIW,fun s' hm=>?_⟩;have e1:(bs.map Value.bool).toArray.size=bs.length:=by simp
 rw[e1,all_range,Moved.eq_with hm];refine⟨.bl _,H,I.kept (t':=s'.toks) fun b o e=>hm.heap b o (fun z=>?_) (fC _ e),rfl,q⟩;rw[gO] at z;have:=fK e;rw[z] at this;exact absurd this (gn _)
def zHR:wq:=fun ds G R=>∃ bs:List Bool,ds=bs.map D.bl/\R (.bl (bs.all id)) G
theorem Dens.bools_inv{K:14#0}{H:Hp}:∀ {bs:List Bool} {xs:List V},Dens K H (bs.map D.bl) xs->xs=bs.map V.bl
 | [],xs,h=>by unfold Dens at h;exact h
 | n::r,xs,h=>by
  rw[fJ] at h;unfold Dens at h;obtain⟨x,y,rfl,h1,h2⟩:=h;unfold zQ at h1;rw[h1,Dens.bools_inv h2];rfl
theorem zIX(hc:X.calm=true)(hg:Gl X "all")(hm:X.mg "all"=none)(ha:F2 X e tl)(he:8#0)(hpl:18#0) :
  E2 X (.Call (.Name "all" p) [e] [] pos) (yZ zHR tl):=zM8 (zLq hc) (by
   rintro ds G R l xs H Q ⟨bs,rfl,h⟩ r e d k;have:=d.bools_inv;subst this;exact⟨l,bs,rfl,.of e,k _ G h _ H (.refl H) r 22#0⟩) hg hm 3#0 ha 11#0 11#0 he hpl
def zBL(f g:D->D->Gp->Q2->Prop)(ta tb tc:zm):zm:=fun σ G R=>ta σ G fun x G1=>tb σ G1 fun y G2=>f x y G2 fun z G3=>match z with | .bl k=>if k=true then tc σ G3 fun w G4=>g y w G4 R else R (.bl false) G3 | _=>False
section
variable {op op' op'':CmpOp} {r r' r'':R2} {f g h:D->D->Gp->Q2->Prop}
theorem zEn{K:14#0}(hf:Fit K r f)(hg:Fit K r' g){σ1:L2.St}{H:Hp}{Q:VK}(hh:lE K (zBL f g ta tb tc) σ1 H Q):zJW r r' (lE K ta) (lE K tb) (lE K tc) σ1 H Q:=by
 obtain⟨σ,G,R,rl,t,k⟩:=hh;refine⟨σ,G,_,rl,t,fun dx G1 t1 x H1 g1 r1 d1=>?_⟩;refine⟨σ,G1,_,rl.to g1 r1,t1,fun dy G2 t2 y H2 g2 r2 d2=>?_⟩;refine hf dx dy G2 _ x y H2 _ t2 r2 (d1.grow g2) d2 fun dz G3 t3 z H3 g3 r3 d3=>?_;cases dz with
 | bl kk =>
  unfold zQ at d3;refine⟨kk,d3,?_⟩;cases kk with
  | true =>
   dsimp only at t3;rw[if_pos rfl] at t3;rw[if_pos rfl];refine⟨σ,G3,_,rl.to ((g1.trans g2).trans g3) r3,t3,fun dw G4 t4 w H4 g4 r4 d4=>?_⟩;exact hg dy dw G4 R y w H4 Q t4 r4 ((d2.grow g3).grow g4) d4 fun d G' q v H' g' r' d'=>k d G' q v H' ((((g1.trans g2).trans g3).trans g4).trans g') r' d'
  | false =>
   dsimp only at t3;rw[if_neg 27#0] at t3;rw[if_neg 27#0];exact k _ G3 t3 _ H3 ((g1.trans g2).trans g3) r3 22#0
 | _=>exact t3.elim
theorem zTc(ho:OpR X (compareOp op) r)(ho':OpR X (compareOp op') r')(hf:Fit X.K r f)(hg:Fit X.K r' g)(ha:E2 X a ta)(hb:E2 X b tb)(hc:E2 X c tc)(hm:autoParam (lastMarks [op,op'] [b,c]=false) Zq6._auto_1) :
  E2 X (.Compare a [op,op'] [b,c] pos) (zBL f g ta tb tc):=PE.mono (zMh ho ho' ha hb hc hm) fun σ1 H Q h=>zEn hf hg h
theorem zQs(ho:OpR X (compareOp op) r)(ho':OpR X (compareOp op') r')(hf:Fit X.K r f)(hg:Fit X.K r' g)(ha:E2 X a ta)(hb:E2 X b tb)(hc:E2 X c tc)(hm:autoParam (lastMarks [op,op'] [b,c]=false) Zq6._auto_1) :
  T2 X (.Compare a [op,op'] [b,c] pos) (xB (zBL f g ta tb tc)):=by
 refine PT.mono (zMi ho ho' ha hb hc hm) ?_;rintro σ1 H Q ⟨σ,G,R,rl,t,k⟩;refine zEn hf hg ⟨σ,G,_,rl,t,fun d G' q v H' g' r' d'=>?_⟩;cases d with
 | bl b =>
  unfold zQ at d';exact⟨b,d',k b G' q H' g' r'⟩
 | _=>exact q.elim
def zKq(r r' r'':R2)(ta tb tc td:TE):TE:=fun σ H Q=>ta σ H fun x H1=>tb σ H1 fun y H2=>r x y H2 fun z H3=>∃ k,z=.bl k /\
 (if k=true then tc σ H3 fun w' H4=>r' y w' H4 fun z' H5=>∃ k',z'=.bl k'/\(if k'=true then td σ H5 fun u H6=>r'' w' u H6 Q else Q (.bl false) H5) else Q (.bl false) H3)
theorem zLr{ta tb tc td:TE}(ho:OpR X (compareOp op) r)(ho':OpR X (compareOp op') r')(ho'':OpR X (compareOp op'') r'')(ha:PE X a ta)(hb:PE X b tb)(hc:PE X c tc)(hd:PE X d td)
  (hm:autoParam (lastMarks [op,op',op''] [b,c,d]=false) Zq6._auto_1):PE X (.Compare a [op,op',op''] [b,c,d] pos) (zKq r r' r'' ta tb tc td):=by
 intro pins s σ H Q I h;refine Compare_chain (yV (ha pins s σ H _ I h) fun v s1 ⟨x,H1,I1,r1,q1⟩=>chain_link (yV (hb pins s1 σ H1 _ I1 q1) fun u s2 ⟨y,H2,I2,r2,q2⟩ =>
  yV (ho pins s2 σ H2 x y v u _ I2 r1 r2 q2) fun d s3 ⟨z,H3,I3,r3,k,e,q3⟩=>?_)) hm
 subst e;cases r3;refine gD ?_;cases k with
 | false=>exact ite_ff ⟨.bl false,H3,I3,rfl,q3⟩
 | true =>
  refine ite_tt (chain_link (yV (hc pins s3 σ H3 _ I3 q3) fun u' s4 ⟨y',H4,I4,r4,q4⟩=>yV (ho' pins s4 σ H4 y y' u u' _ I4 r2 r4 q4) fun d' s5 u9=>?_));obtain⟨z',H5,I5,r5,k',e',q5⟩:=u9;subst e';cases r5;refine gD ?_;cases k' with
  | false=>exact ite_ff ⟨.bl false,H5,I5,rfl,q5⟩
  | true=>exact ite_tt (chain_last (yV (hd pins s5 σ H5 _ I5 q5) fun w' s6 ⟨z2,H6,I6,r6,q6⟩=>ho'' pins s6 σ H6 y' z2 u' w' Q I6 r4 r6 q6))
def zDq(f g h:D->D->Gp->Q2->Prop)(ta tb tc td:zm):zm:=fun σ G R=>ta σ G fun x G1=>tb σ G1 fun y G2=>f x y G2 fun z G3=>match z with
 | .bl k=>if k=true then tc σ G3 fun w G4=>g y w G4 fun z' G5=>(match z' with | .bl k'=>if k'=true then td σ G5 fun u G6=>h w u G6 R else R (.bl false) G5 | _=>False) else R (.bl false) G3
 | _=>False
theorem zIY{K:14#0}(hf:Fit K r f)(hg:Fit K r' g)(hq:Fit K r'' h){σ1:L2.St}{H:Hp}{Q:VK}(hh:lE K (zDq f g h ta tb tc td) σ1 H Q):zKq r r' r'' (lE K ta) (lE K tb) (lE K tc) (lE K td) σ1 H Q:=by
 obtain⟨σ,G,R,rl,t,k⟩:=hh;refine⟨σ,G,_,rl,t,fun dx G1 t1 x H1 g1 r1 d1=>?_⟩;refine⟨σ,G1,_,rl.to g1 r1,t1,fun dy G2 t2 y H2 g2 r2 d2=>?_⟩;refine hf dx dy G2 _ x y H2 _ t2 r2 (d1.grow g2) d2 fun dz G3 t3 z H3 g3 r3 d3=>?_;cases dz with
 | bl kk =>
  unfold zQ at d3;refine⟨kk,d3,?_⟩;cases kk with
  | true =>
   dsimp only at t3;rw[if_pos rfl] at t3;rw[if_pos rfl];refine⟨σ,G3,_,rl.to ((g1.trans g2).trans g3) r3,t3,fun dw G4 t4 w H4 g4 r4 d4=>?_⟩;refine hg dy dw G4 _ y w H4 _ t4 r4 ((d2.grow g3).grow g4) d4 fun dz' G5 t5 z' H5 g5 r5 d5=>?_;cases dz' with
   | bl k2 =>
    unfold zQ at d5;refine⟨k2,d5,?_⟩;cases k2 with
    | true =>
     dsimp only at t5;rw[if_pos rfl] at t5;rw[if_pos rfl];refine⟨σ,G5,_,rl.to ((((g1.trans g2).trans g3).trans g4).trans g5) r5,t5,fun du G6 t6 u H6 g6 r6 d6=>?_⟩;exact hq dw du G6 R w u H6 Q t6 r6 ((d4.grow g5).grow g6) d6 fun d G' q v H' g' r' d'=>k d G' q v H' ((((((g1.trans g2).trans g3).trans g4).trans g5).trans g6).trans g') r' d'
    | false =>
     dsimp only at t5;rw[if_neg 27#0] at t5;rw[if_neg 27#0];exact k _ G5 t5 _ H5 ((((g1.trans g2).trans g3).trans g4).trans g5) r5 22#0
   | _=>exact t5.elim
  | false =>
   dsimp only at t3;rw[if_neg 27#0] at t3;rw[if_neg 27#0];exact k _ G3 t3 _ H3 ((g1.trans g2).trans g3) r3 22#0
 | _=>exact t3.elim
theorem zTd(ho:OpR X (compareOp op) r)(ho':OpR X (compareOp op') r')(ho'':OpR X (compareOp op'') r'')(hf:Fit X.K r f)(hg:Fit X.K r' g)(hq:Fit X.K r'' h)(ha:E2 X a ta)(hb:E2 X b tb)(hc:E2 X c tc)(hd:E2 X d td)(hm:autoParam (lastMarks [op,op',op''] [b,c,d]=false) Zq6._auto_1) :
  E2 X (.Compare a [op,op',op''] [b,c,d] pos) (zDq f g h ta tb tc td):=PE.mono (zLr ho ho' ho'' ha hb hc hd hm) fun σ1 H Q h=>zIY hf hg hq h
end
def zPa:D->D->Gp->Q2->Prop:=fun x y G R=>∃ ns ms:List Int,x=.tup (ns.map D.int)/\y=.tup (ms.map D.int)/\R (.bl (HT.lexLt ns ms)) G
theorem zPb{K:14#0}:Fit K (zTM K) zPa:=by
 rintro dx dy G R x y H Q ⟨ns,ms,rfl,rfl,h⟩ r d1 d2 k;unfold zQ at d1 d2;obtain⟨a,us,rfl,s1,t1⟩:=d1;obtain⟨b,ws,rfl,s2,t2⟩:=d2;have e1:=t1.ints_inv;have e2:=t2.ints_inv;subst e1 e2;exact⟨a,b,ns,ms,rfl,rfl,s1,s2,k _ G h _ H (.refl H) r 22#0⟩
theorem zTe{k:Nat}(hr:yS k X.A)(ha:E2 X a ta)(hb:E2 X b tb):E2 X (.Compare a [.Lt] [b] pos) (zO zPa ta tb):=zKj (zRk (by have:=hr.units;omega)) zPb ha hb (zCM _)
end
section
variable {X:Cx} {a b c e o:Expr} {es:List Expr} {pos p:Pos} {ta tb te:zm}
def yR(t:zm)(tl th:TO2):TL2:=fun σ G R=>t σ G fun d G1=>tl σ G1 fun lo G2=>th σ G2 fun hi G3=>match d with | .adr l=>∃ ds,Ls G3 l ds/\R (cutD ds lo hi) G3 | _=>False
theorem zAj{lo hi:Option Expr}{tl th:TO2}{p2:Pos}(he:E2 X e te)(hl:O2 X lo tl)(hu:O2 X hi th):F2 X (.Subscript e (.Slice lo hi none p2) pos) (yR te tl th):=by
 refine PE.mono (zFW zPE he hl hu) ?_;sleep 1;refine⟨σ,G,_,r,q,fun d G1 q1 v H1 g1 r1 d1=>⟨σ,G1,_,r.to g1 r1,q1,fun o1 G2 q2 H2 g2 r2=>⟨σ,G2,_,r.to (g1.trans g2) r2,q2,fun o2 G3 q3 H3 g3 r3=>?_⟩⟩⟩;cases d with
 | adr l =>
  obtain⟨ds,ls,q3⟩:=q3;obtain⟨xs,s1,t1⟩:=r3.sq ls;unfold zQ at d1;subst d1;have hl:=t1.length;refine⟨l,xs,rfl,s1,fun p hp=>k _ G3 q3 p _ _ (((g1.trans g2).trans g3).trans (.fresh hp)) (r3.fresh hp) (r3.free hp) yC ?_⟩;unfold cutD zIK;rw[hl];exact((t1.drop).take).grow (.fresh hp)
 | _=>exact q3.elim
end
end L3
namespace HZ
structure Zs (prog:Program) (w:World) (i l:Addr) (xs:Array Value) where
 It:Nat->Heap->Prop
 Sq:Heap->Prop
 item:∀(A:Around) (E:10#0) (s:Shared) (k:Nat) (x:Value) (Q:10#0),It k s.heap->Sq s.heap->xs[k]?=some x->(∀ h',It (k+1) h'->gW i s.heap h'->Q x { s with heap:=h' })->wpAny 35#0 A (Builtin.SmallTypes.nextOf (.ref i)) Q E s
 fin:∀(A:Around) (E:10#0) (s:Shared) (k:Nat) (Q:10#0),A.handled=none->It k s.heap->Sq s.heap->xs[k]?=none->(∀ h' e,Heap.ExtBut i s.heap h'->(∃ o,h'.get? e=some o/\o.cls=.type "StopIteration")->E (.ref e) { s with heap:=h' })->wpAny 35#0 A (Builtin.SmallTypes.nextOf (.ref i)) Q E s
 itAt:∀ {k:Nat} {h h':Heap},It k h->(∀ o,h.get? i=some o->h'.get? i=some o)->It k h'
 sqAt:∀ {h h':Heap},Sq h->(∀ o,h.get? l=some o->h'.get? l=some o)->Sq h'
 itHas:∀ {k:Nat} {h:Heap},It k h->∃ o,h.get? i=some o/\∀ v,o.data≠.cell v
section
variable {prog:Program} {w:World} {A:Around} {E:Value->Shared->Prop} {s:Shared}
theorem zDr{nt tp:Addr}{i:Nat}{its:Array Value}{x:Value}{Q:10#0}(hit:s.heap.IsTupleIter nt tp i)(ht:s.heap.IsTuple tp its)(hx:its[i]?=some x)
  (hQ:∀ h',h'.IsTupleIter nt tp (i+1)->gW nt s.heap h'->Q x { s with heap:=h' }):wpAny 35#0 A (Builtin.SmallTypes.nextOf (.ref nt)) Q E s:=by
 obtain⟨o,ho,hc,hd⟩:=id hit;obtain⟨ol,hol,u0,nl,hdl⟩:=ht;unfold Builtin.SmallTypes.nextOf;sleep 3;refine fB (gA ho hd (x:=.int i 0) rfl (show wpAny _ _ (seqItems? (.ref tp)>>=_) _ _ s from fB (iq hol hdl ?_)));simp only[Int.toNat_natCast,hx];refine fB (wpAny_setField ho hd 27#0 (fF ⟨x,rfl,fF (hQ _ ⟨_,iK _ ho (Obj.isFreed_of_fields (Obj.data_mapFields hd _)),(Obj.cls_mapFields ..).trans hc,?_⟩ (gW.update ..))⟩));rw[Obj.data_mapFields hd];simp[rawInt]
theorem zER{nt tp:Addr}{i:Nat}{its:Array Value}{Q:10#0}(hh:A.handled=none)(hit:s.heap.IsTupleIter nt tp i)(ht:s.heap.IsTuple tp its)(hx:its[i]?=none)
  (hE:∀ h' e,Heap.ExtBut nt s.heap h'->(∃ o,h'.get? e=some o/\o.cls=.type "StopIteration")->E (.ref e) { s with heap:=h' }):wpAny 35#0 A (Builtin.SmallTypes.nextOf (.ref nt)) Q E s:=by
 obtain⟨o,ho,hc,hd⟩:=id hit;obtain⟨ol,hol,u0,nl,hdl⟩:=ht;unfold Builtin.SmallTypes.nextOf;sleep 3;refine fB (gA ho hd (x:=.int i 0) rfl (show wpAny _ _ (seqItems? (.ref tp)>>=_) _ _ s from fB (iq hol hdl ?_)));simp only[Int.toNat_natCast,hx];refine fB (wpAny_rule (fB (wpAny_setField ho hd 27#0 (show wpAny _ _ (newExc (.type "StopIteration") []>>=_) _ _ _ from fB ?_))));simp only[newExc,newTuple];refine fB (gE (fB (m:=firstArgMember _ _) (wpAny_of_eq (a:=Value.none) (by first | rfl | (simp only[firstArgMember];rfl)) (gE ?_ (by size_fits)))) (by size_fits));simp only[raiseNew];refine fB (wpAny_handled ?_)
 first | rw[show A.in1.handled=none from hh] | rw[hh]
 exact fB (fF (wpAny_throw (hE _ _ (((gW.update ..).extBut.push _).push _) ⟨_,fM _ rfl,rfl⟩)))
end
theorem IsTupleIter.at'{h h':Heap}{a t:Addr}{i:Nat}(x:h.IsTupleIter a t i)(k:∀ o,h.get? a=some o->h'.get? a=some o):h'.IsTupleIter a t i:=let ⟨o,e,r⟩:=x;⟨o,k o e,r⟩
theorem IsTuple.at'{h h':Heap}{a:Addr}{its:Array Value}(x:h.IsTuple a its)(k:∀ o,h.get? a=some o->h'.get? a=some o):h'.IsTuple a its:=let ⟨o,e,r⟩:=x;⟨o,k o e,r⟩
noncomputable def zQt(prog:Program)(w:World)(i l:Addr)(xs:Array Value):Zs prog w i l xs where
 It:=fun k h=>h.IsTupleIter i l k
 Sq:=fun h=>h.IsTuple l xs
 item:=fun A E s k x Q a b c d=>zDr a b c d
 fin:=fun A E s k Q hh a b c d=>zER hh a b c d
 itAt:=fun x k=>IsTupleIter.at' x k
 sqAt:=fun x k=>IsTuple.at' x k
 itHas:=fun⟨o,e,c,d⟩=>⟨o,e,fun v z=>by rw[d] at z;cases z⟩
noncomputable def zQu(prog:Program)(w:World)(i l:Addr)(xs:Array Value):Zs prog w i l xs where
 It:=fun k h=>h.IsListIter i l k
 Sq:=fun h=>h.IsList l xs
 item:=fun A E s k x Q a b c d=>wpAny_nextOf_list_item a b c d
 fin:=fun A E s k Q hh a b c d=>wpAny_nextOf_list_end hh a b c d
 itAt:=fun x k=>x.at k
 sqAt:=fun x k=>x.at k
 itHas:=fun⟨o,e,c,d⟩=>⟨o,e,fun v z=>by rw[d] at z;cases z⟩
structure Ap (z a b i j l m:Addr):Prop where
 az:a≠z
 bz:b≠z
 iz:i≠z
 jz:j≠z
 ab:a≠b
 ai:a≠i
 aj:a≠j
 bi:b≠i
 bj:b≠j
 ij:i≠j
 lz:l≠z
 lb:l≠b
 li:l≠i
 lj:l≠j
 mz:m≠z
 mb:m≠b
 mi:m≠i
 mj:m≠j
section
variable {prog:Program} {w:World} {A:Around} {E:Value->Shared->Prop} {s:Shared} {z a b i j l m:Addr} {xs ys:Array Value} (Z1:Zs prog w i l xs) (Z2:Zs prog w j m ys)
end
theorem wj{a b:Nat}(h:a<b\/b<a):@Ne Addr a b:=fun z=>by
 have z':(a:Nat)=b:=z;omega
theorem zR6{n a b:Nat}(h1:a<n)(h2:b<n):Ap (n+4) (n+2) (n+3) n (n+1) a b :=
 ⟨wj 17#0,wj 17#0,wj 17#0,wj 17#0,wj 17#0,wj 17#0,wj 17#0,wj 17#0,wj 17#0,wj 17#0,wj 17#0,wj 17#0,wj 17#0,wj 17#0,wj 17#0,wj 17#0,wj 17#0,wj 17#0⟩
end HZ
namespace L2
open HZ
theorem zT.turnedL{X:Cx}{pins:20#0}{σ:List (Option V)}{H:Hp}{s:Shared}{h':Heap}{t':Nat}{fp:List Addr}(I:16#0)(k:∀ b o,b∉fp->s.heap.get? b=some o->h'.get? b=some o)(hf:∀ b∈fp,zCL X pins H b):zT X pins σ H { s with heap:=h',toks:=t' }:=by
 have nit:∀ b u,H b=some u->b∉fp:=fun b u e z=>by rw[(hf b z).1] at e;cases e
 refine I.step (g':=s.gens) (d':=s.drawn) (ch:=fp) (fun b hb=>?_) (fun b o u0 u0 hc e u0=>k b o hc e) (fun b o u0 u0 hc e u0=>⟨o.slots,k b o hc e⟩) (fun u0 u0 u0 u0 n=>n)
  (fun b o hc e=>⟨o,k b o hc e⟩) (fun u0 u0 e=>e) (fun u0 u0 u0 e=>e) (fun u0 u0 e=>e) (fun m hm=>?_) (fun b u e=>?_) I.bare
 ·obtain⟨f0,f1,f2,f3,f4,f5⟩:=hf b hb
  exact⟨f3,f1,f4,f5⟩
 ·obtain⟨o,es,ep,ho,r⟩:=hm
  exact⟨o,es,ep,k _ o (fun z=>(hf _ z).2.1 rfl) ho,r⟩
 ·refine(I.hok b u e).stay (fun c v hc q=>k c v ?_ q) (fun u0 q=>q) (fun u0 u0 q=>q) fun u0 u0 u0 q=>q
  rcases hc with z | z
  ·rw[z];exact nit b u e
  ·exact nit c _ z
end L2
namespace L3
open L2
section
variable {X:Cx} {a b c e o we:Expr} {es:List Expr} {pos p:Pos} {ta tb te tw:zm}
def zDs(tc:TT2)(ta tb:zm):zm:=fun σ G R=>tc σ G fun z G1=>if z=true then ta σ G1 R else tb σ G1 R
theorem zEo{tc:TT2}(hc:T2 X c tc)(ha:E2 X a ta)(hb:E2 X b tb):E2 X (.IfExp c a b pos) (zDs tc ta tb):=by
 refine PE.mono (zMc hc ha hb) ?_;sleep 1;refine⟨σ,G,_,r,q,fun z G1 q1 H1 g1 r1=>?_⟩;cases z with
 | true=>exact⟨σ,G1,R,r.to g1 r1,q1,fun d G' q' v H' g' r' d'=>k d G' q' v H' (g1.trans g') r' d'⟩
 | false=>exact⟨σ,G1,R,r.to g1 r1,q1,fun d G' q' v H' g' r' d'=>k d G' q' v H' (g1.trans g') r' d'⟩
end
end L3
namespace L2
section
variable {X:Cx} {pos:Pos}
end
end L2
namespace L3
open L2
section
variable {X:Cx} {e o:Expr} {te to:zm} {t:TA2} {tl:TL2} {pos p apos cpos:Pos}
theorem zE2{st:Stmt}:P2 X st 26#0:=by
 rintro pins s σ H E I ⟨σ',G,D2,r,q,k⟩;exact q.elim
end
section
variable {X:Cx} {a b e:Expr} {ta tb te:zm} {t:TA2} {p pos:Pos}
theorem zIZ{v:V}{u:Value}(h:RelV v u):(u==Value.none)=decide (v=V.non):=by
 cases v with
 | non=>cases h;rfl
 | bl b=>cases h;rfl
 | int i=>obtain⟨u0,rfl⟩:=h;rfl
 | str i=>obtain⟨u0,rfl⟩:=h;rfl
 | byt i=>obtain⟨u0,rfl⟩:=h;rfl
 | flt i=>obtain⟨u0,rfl⟩:=h;rfl
 | ref i=>cases h;rfl
 | ty i=>cases h;rfl
theorem zMg:OpR X (compareOp .Is) (fun x y H Q=>y=.non/\Q (.bl (decide (x=.non))) H):=by
 intro pins s σ H x y v u Q I rx ry h;obtain⟨rfl,q⟩:=h;cases ry;refine is_none_gen ?_;rw[zIZ rx];exact⟨.bl _,H,I,rfl,q⟩
theorem zLs:OpR X (compareOp .IsNot) (fun x y H Q=>y=.non/\Q (.bl (!decide (x=.non))) H):=by
 intro pins s σ H x y v u Q I rx ry h;obtain⟨rfl,q⟩:=h;cases ry;refine isnot_none_gen ?_;rw[zIZ rx];exact⟨.bl _,H,I,rfl,q⟩
noncomputable def zNL:D->Bool
 | .non=>true
 | _=>false
theorem zPc{K:14#0}{H:Hp}{d:D}{v:V}(h:zQ K H d v):decide (v=V.non)=zNL d:=by
 cases d with
 | non=>unfold zQ at h;subst h;rfl
 | tup xs=>unfold zQ at h;obtain⟨a,us,rfl,u0⟩:=h;rfl
 | dic a=>unfold zQ at h;obtain⟨rfl,u0⟩:=h;rfl
 | _=>unfold zQ at h;subst h;rfl
def zES(ng:Bool):D->D->Gp->Q2->Prop:=fun x y G R=>match y with | .non=>R (.bl (if ng then !zNL x else zNL x)) G | _=>False
theorem zKr{K:14#0}{ng:Bool}:Fit K (fun x y H Q=>y=V.non/\Q (.bl (if ng then !decide (x=V.non) else decide (x=V.non))) H) (zES ng):=by
 intro dx dy G R x y H Q h r d1 d2 k;unfold zES at h;split at h
 ·unfold zQ at d2
  refine⟨d2,k _ G h _ H (.refl H) r ?_⟩;rw[zPc d1];unfold zQ;rfl
 ·exact h.elim
theorem zNM(ha:E2 X a ta)(hb:E2 X b tb):E2 X (.Compare a [.IsNot] [b] pos) (zO (zES true) ta tb):=zKj zLs (zKr (ng:=true)) ha hb (zCM _)
theorem zIa(ha:E2 X a ta)(hb:E2 X b tb):T2 X (.Compare a [.Is] [b] pos) (xB (zO (zES false) ta tb)):=zDm zMg (zKr (ng:=false)) ha hb (zCM _)
end
section
variable {X:Cx} {e:Expr} {p pos:Pos}
theorem zLt{i:Int}(h:i.natAbs<1000000):i.natAbs.log2<1920:=by
 by_cases h0:i.natAbs=0
 ·rw[h0];decide
 ·exact(Nat.log2_lt h0).mpr (fN h (gt (by decide:1000000<=2 ^ 20) (Nat.pow_le_pow_right 11#0 11#0)))
theorem zLu:zAX X (.type "str") (fun xs H Q=>∃ i:Int,xs=[.int i]/\i.natAbs<1000000/\Q (.str (toString i)) H):=by
 intro pins s σ H xs us Q I r h;obtain⟨i,rfl,hi,q⟩:=h;obtain⟨u,rfl,ru⟩:=vals1 r;obtain⟨t,rfl⟩:=ru;exact PySem.P.str_of_int (zLt hi) ⟨.str _,H,I.tok _,⟨_,rfl⟩,q⟩
def zBe:wq:=fun ds G R=>match ds with | [.int i]=>i.natAbs<1000000/\R (.str (toString i)) G | _=>False
theorem zNN{K:14#0}:zJl K (fun xs H Q=>∃ i:Int,xs=[.int i]/\i.natAbs<1000000/\Q (.str (toString i)) H) zBe:=by
 intro ds G R vs H Q h r d k;unfold zBe at h;split at h
 ·rename_i i
  obtain⟨v,rfl,d1⟩:=zB9 d;unfold zQ at d1;subst d1;exact⟨i,rfl,h.1,k _ G h.2 _ H (.refl H) r 22#0⟩
 ·exact h.elim
theorem zFi{t:TA2}(hg:Gl X "str")(hm:X.mg "str"=none)(ha:A2 X [e] t)(he:8#0)(hpl:18#0) :
  E2 X (.Call (.Name "str" p) [e] [] pos) (zJ zBe t):=zIS zLu zNN hg hm 3#0 ha 11#0 11#0 he hpl
end
end L3
namespace HT
section
variable {prog:Program} {w:World} {A:Around} {E:Value->Shared->Prop} {s:Shared}
end
end HT
namespace L3
open L2
section
variable {X:Cx} {a b c d e o:Expr} {es:List Expr} {pos p:Pos} {ta tb tc td te:zm} {tl:TL2}
theorem zCB{ls:List Str}{ts:List Tok}(h:ts.length=ls.length):zy (ls.map V.str) (List.zipWith Value.str ls ts):=by
 induction ls generalizing ts with
 | nil=>exact .nil
 | cons a r ih =>
  cases ts with
  | nil=>cases h
  | cons t ts=>exact .cons ⟨t,rfl⟩ (ih (by simpa using h))
theorem zET{K:14#0}{H:Hp}:∀ ls:List Str,Dens K H (ls.map D.str) (ls.map V.str)
 | []=>by unfold Dens;rfl
 | a::r=>by
  unfold Dens;exact⟨_,_,rfl,by unfold zQ;rfl,zET r⟩
theorem zHS{x:Str}{ga:Addr}{o:Obj}{n:Nat}{ls:List Str}{ts:List Tok}(hg:Gl X x)(hm:X.mg x=some (.ref ga))(hk:X.K.lookup ga=some o)(hc:o.cls=.type "tuple")(hda:o.data=.seq (List.zipWith Value.str ls ts).toArray n)(hdi:o.dict=none)(hl:ts.length=ls.length)(hsz:ls.length<=1000)(hd:4#0):E2 X (.Name x pos) (xC (.tup (ls.map D.str))):=by
 refine PE.mono (zC2 (v:=.ref ga) hg hm rfl hd) ?_;sleep 1;refine k _ G q _ H (.refl H) r.g ?_;unfold zQ;refine⟨ga,ls.map V.str,rfl,.inr ⟨o,_,n,hk,hc,hda,?_,by simpa using zCB hl,hdi⟩,zET ls⟩;simp only[fY,List.length_zipWith,hl,Nat.min_self];rw[sizeLine_eq];omega
end
section
variable {X:Cx} {a b e o:Expr} {pos p apos cpos:Pos} {ta tb te:zm} {tl:TL2} {t:TA2}
def zHT:D->D->Gp->Q2->Prop:=fun x y G R=>match x,y with | .str i,.str j=>R (.bl (!(Builtin.Str.occurrences j i 0 j.length 1).isEmpty)) G | _,_=>False
theorem zKs{K:14#0}:Fit K (fun x y H Q=>∃ i j,x=.str i/\y=.str j/\Q (.bl (!(Builtin.Str.occurrences j i 0 j.length 1).isEmpty)) H) zHT:=by
 intro dx dy G R x y H Q h r d1 d2 k;unfold zHT at h;split at h
 ·rename_i i j
  unfold zQ at d1 d2;subst d1 d2;exact⟨i,j,rfl,rfl,k _ G h _ H (.refl H) r 22#0⟩
 ·exact h.elim
theorem zTf(ha:E2 X a ta)(hb:E2 X b tb)(hm:autoParam (behindInMarks .In b=false) Zq5._auto_1):T2 X (.Compare a [.In] [b] pos) (xB (zO zHT ta tb)):=zDm zGd zKs ha hb hm
def zDa:wq:=fun ds G R=>match ds with | [.str z]=>z.length<=1000000/\R (.int z.length) G | _=>False
theorem zNO{K:14#0}:zJl K (fun xs H Q=>∃ z,xs=[.str z]/\z.length<=sizeLine/\Q (.int z.length) H) zDa:=by
 intro ds G R vs H Q h r d k;unfold zDa at h;split at h
 ·rename_i z
  obtain⟨v,rfl,d1⟩:=zB9 d;unfold zQ at d1;subst d1;exact⟨z,rfl,by rw[sizeLine_eq];omega,k _ G h.2 _ H (.refl H) r 22#0⟩
 ·exact h.elim
theorem zIb(hg:Gl X "len")(hm:X.mg "len"=none)(ha:A2 X [e] t)(he:8#0)(hpl:18#0) :
  E2 X (.Call (.Name "len" p) [e] [] pos) (zJ zDa t):=zKn zHH zNO hg hm boot_len ha 11#0 11#0 he hpl
theorem zLv:zAX X (.type "int") (fun xs H Q=>∃ n:Int,xs=[.str (Str.ofString (toString n))]/\0<=n/\n<10 ^ 10/\Q (.int n) H):=by
 intro pins s σ H xs us Q I r h;obtain⟨n,rfl,h0,h1,q⟩:=h;obtain⟨u,rfl,ru⟩:=vals1 r;obtain⟨t,rfl⟩:=ru;exact PySem.W.KIN.call_num h0 h1 ⟨.int n,H,I.tok _,⟨_,rfl⟩,q⟩
def zHU:wq:=fun ds G R=>match ds with | [.str z]=>∃ n:Nat,z=Str.ofString (toString (n:Int))/\n<1000/\R (.int n) G | _=>False
theorem zNP{K:14#0}:zJl K (fun xs H Q=>∃ n:Int,xs=[.str (Str.ofString (toString n))]/\0<=n/\n<10 ^ 10/\Q (.int n) H) zHU:=by
 intro ds G R vs H Q h r d k;unfold zHU at h;split at h
 ·rename_i z
  obtain⟨n,rfl,h1,h⟩:=h;obtain⟨v,rfl,d1⟩:=zB9 d;unfold zQ at d1;subst d1;refine⟨n,rfl,by omega,?_,k _ G h _ H (.refl H) r 22#0⟩;have:(1000:Int)<=10 ^ 10:=by decide
  omega
 ·exact h.elim
theorem zR7(hg:Gl X "int")(hm:X.mg "int"=none)(ha:A2 X [e] t)(he:8#0)(hpl:18#0) :
  E2 X (.Call (.Name "int" p) [e] [] pos) (zJ zHU t):=zIS zLv zNP hg hm 3#0 ha 11#0 11#0 he hpl
theorem zKt{x z:Str}{tk:Tok}(hg:Gl X x)(hm:X.mg x=some (.str z tk))(hd:4#0):E2 X (.Name x pos) (xC (.str z)):=by
 refine PE.mono (zC2 (v:=.str z) hg hm ⟨tk,rfl⟩ hd) ?_;sleep 1;exact k _ G q _ H (.refl H) r.g 22#0
theorem zFj:∀ {ss:List Str} {us:List Value},zy (ss.map V.str) us->∃ l:List (Str×Tok),us=strValues l/\l.map (·.1)=ss
 | [],_,h=>by cases h;exact⟨[],rfl,rfl⟩
 | a::ss,_,h=>by
  cases h with
  | cons r rr =>
   obtain⟨tk,rfl⟩:=r;obtain⟨l,rfl,e⟩:=zFj rr;exact⟨(a,tk)::l,rfl,by rw[fJ,e]⟩
theorem zKu:MtR X "str.join" (fun x xs H Q=>∃ sep l ss,x=.str sep/\xs=[.ref l]/\SqL X.K H l (ss.map V.str)/\JoinOk sep ss=true/\Q (.str (Str.join sep ss)) H):=by
 intro pins s σ H x xs v us Q I rx rs h;obtain⟨sep,l,ss,rfl,rfl,hq,hok,q⟩:=h;obtain⟨tk,rfl⟩:=rx;obtain⟨u,rfl,ru⟩:=vals1 rs;cases ru;obtain⟨its,r,pl,hz⟩:=I.list hq;obtain⟨lv,rfl,e⟩:=zFj r;refine SC.join pl.isList e hok fun t' k=>⟨.str _,H,I.tok _,⟨t',?_⟩,q⟩
 rw[show Txt.join sep ss=Str.join sep ss from StrLaws.glued_eq_join sep ss]
def Short(sep:Str)(ss:List Str):Prop:=ss.length<=1000/\(∀ y∈ss,y.length<=10000)/\sep.length<=10
theorem Short.ok{sep:Str}{ss:List Str}(h:Short sep ss):JoinOk sep ss=true:=by
 unfold JoinOk;rw[StrLaws.joinFits (B:=10000) h.2.1]
 ·rfl
 ·have h1:=h.1
  have h2:=h.2.2;have:ss.length*sep.length<=1000*10:=Nat.mul_le_mul h1 h2;omega
def zAO(sep:Str)(tl:TL2):zm:=fun σ G R=>tl σ G fun ds G1=>∃ ss:List Str,ds=ss.map D.str/\Short sep ss/\R (.str (Str.join sep ss)) G1
theorem zDb{K:14#0}{H:Hp}:∀ {ss:List Str} {xs:List V},Dens K H (ss.map D.str) xs->xs=ss.map V.str
 | [],_,h=>by unfold Dens at h;exact h
 | a::r,_,h=>by
  unfold Dens at h;obtain⟨x,t,rfl,h1,h2⟩:=h;unfold zQ at h1;rw[h1,zDb h2];rfl
theorem zA9{sep:Str}{j:Nat}{p1:Pos}(ha:F2 X e tl)
  (hbase:autoParam (attributeBase (.Constant (.str sep) j p1) "join" X.env (eval (.Constant (.str sep) j p1) X.env)=eval (.Constant (.str sep) j p1) X.env) Zq5._auto_1)
  (hfew:autoParam (((backTo cpos (starEach [e] X.env)).all (fun x=>!x.1)&&(backToKw cpos (keywordEach [] X.env)).all (fun x=>x.1.isSome)
   && decide 32#0)=true) Zq5._auto_1)
  (hline:autoParam ((apos.endLine==cpos.line)=true) Zq5._auto_1) (hs:8#0) (hplain:autoParam ((backTo cpos (starEach [] X.env)).any (·.1)=false) Zq5._auto_1) :
  E2 X (.Call (.Attribute (.Constant (.str sep) j p1) "join" apos) [e] [] cpos) (zAO sep tl):=by
 refine PE.mono (zIL F.plainAttrs_str F.slot_str_join F.type_str_join zKu zJT (zAH ha zBz hs) hbase hfew hline hs hplain) ?_;sleep 1;refine⟨rfl,σ,G,_,r,q,fun ds G1 q1 l xs H1 g1 r1 n e1 d1=>?_⟩;obtain⟨ss,rfl,hsh,q1⟩:=q1;have ex:=zDb d1;subst ex;exact⟨sep,l,ss,rfl,rfl,.inl (.of e1),hsh.ok,k _ G1 q1 _ H1 g1 r1 22#0⟩
def zJo(sep:Str)(t:TA2):zm:=fun σ G R=>t σ G fun ds G1=>∃(l:Addr) (ss:List Str),ds=[.adr l]/\Ls G1 l (ss.map D.str)/\Short sep ss/\R (.str (Str.join sep ss)) G1
theorem zPd{sep:Str}{j:Nat}{p1:Pos}(ha:A2 X [e] t)
  (hbase:autoParam (attributeBase (.Constant (.str sep) j p1) "join" X.env (eval (.Constant (.str sep) j p1) X.env)=eval (.Constant (.str sep) j p1) X.env) Zq5._auto_1)
  (hfew:autoParam (((backTo cpos (starEach [e] X.env)).all (fun x=>!x.1)&&(backToKw cpos (keywordEach [] X.env)).all (fun x=>x.1.isSome)
   && decide 32#0)=true) Zq5._auto_1)
  (hline:autoParam ((apos.endLine==cpos.line)=true) Zq5._auto_1) (hs:8#0) (hplain:autoParam ((backTo cpos (starEach [] X.env)).any (·.1)=false) Zq5._auto_1) :
  E2 X (.Call (.Attribute (.Constant (.str sep) j p1) "join" apos) [e] [] cpos) (zJo sep t):=by
 refine PE.mono (zIL F.plainAttrs_str F.slot_str_join F.type_str_join zKu zJT ha hbase hfew hline hs hplain) ?_;sleep 1;refine⟨rfl,σ,G,_,r,q,fun ds G1 q1 vs H1 g1 r1 d1=>?_⟩;obtain⟨l,ss,rfl,hl,hsh,q1⟩:=q1;obtain⟨v,rfl,d2⟩:=zB9 d1;unfold zQ at d2;subst d2;obtain⟨us,hsq,hd⟩:=r1.sq hl;have ex:=zDb hd;subst ex;exact⟨sep,l,ss,rfl,rfl,hsq,hsh.ok,k _ G1 q1 _ H1 g1 r1 22#0⟩
def zUs:V->Option Int->Option Int->Hp->VK->Prop:=fun x lo hi H Q=>∃ z,x=.str z/\z.length<=sizeLine/\Q (.str (Txt.slice z lo hi)) H
theorem part_of{v:Value}{p:Option Int}(h:IsPart v p):∃ l:Option (Int×Tok),v=partValue l/\l.map (·.1)=p:=by
 cases h with
 | none=>exact⟨none,rfl,rfl⟩
 | int=>exact⟨some (_,_),rfl,rfl⟩
theorem zR8:SlR X zUs:=by
 intro pins s σ H x v vl vu lo hi sl Q I rx hs pl pu h;obtain⟨z,rfl,hz,q⟩:=h;obtain⟨tk,rfl⟩:=rx;obtain⟨l,rfl,rfl⟩:=part_of pl;obtain⟨u,rfl,rfl⟩:=part_of pu;refine⟨"str",_,F.slot_str_getitem.lookup,typeIs_str _ _ _,wpAny_getItem_str_slice (l:=l) (u:=u) (st:=none) hs rfl ?_⟩;exact post_val_or_str ⟨gt (Txt.slice_le z _ _) hz,fun t' k=>⟨.str _,H,I.tok _,⟨t',rfl⟩,q⟩⟩
def zBn(t:zm)(tl th:TO2):zm:=fun σ G R=>t σ G fun d G1=>tl σ G1 fun lo G2=>th σ G2 fun hi G3=>match d with | .str z=>z.length<=1000000/\R (.str (Txt.slice z lo hi)) G3 | _=>False
theorem zFk{lo hi:Option Expr}{tl th:TO2}{p2:Pos}(he:E2 X e te)(hl:O2 X lo tl)(hu:O2 X hi th):E2 X (.Subscript e (.Slice lo hi none p2) pos) (zBn te tl th):=by
 refine PE.mono (zFW zR8 he hl hu) ?_;sleep 1;refine⟨σ,G,_,r,q,fun d G1 q1 v H1 g1 r1 d1=>⟨σ,G1,_,r.to g1 r1,q1,fun o1 G2 q2 H2 g2 r2=>⟨σ,G2,_,r.to (g1.trans g2) r2,q2,fun o2 G3 q3 H3 g3 r3=>?_⟩⟩⟩;cases d with
 | str z =>
  unfold zQ at d1;subst d1;exact⟨z,rfl,by rw[sizeLine_eq];omega,k _ G3 q3.2 _ H3 ((g1.trans g2).trans g3) r3 22#0⟩
 | _=>exact q3.elim
theorem zCr:∀ l:List (Str×Tok),zy ((l.map (·.1)).map V.str) (strValues l)
 | []=>.nil
 | (a,tk)::r=>.cons ⟨tk,rfl⟩ (zCr r)
theorem zNQ:MtR X "str.split" (fun x xs H Q=>∃ z sep,x=.str z/\xs=[.str sep]/\(sep.length==0)=false/\z.length<=1000000/\∀ l,H l=none->Q (.ref l) (yx H l (.lst ((Txt.split z sep).map V.str)))):=by
 intro pins s σ H x xs v us Q I rx rs h;obtain⟨z,sep,rfl,rfl,hy,hz,q⟩:=h;obtain⟨tk,rfl⟩:=rx;obtain⟨u,rfl,ru⟩:=vals1 rs;obtain⟨tu,rfl⟩:=ru;have hx:z.length<=sizeLine:=by rw[sizeLine_eq];omega
 have hl:=split_le z sep;have fin:∀(l:List (Str×Tok)) (k:Nat),l.map (·.1)=Txt.split z sep->EP X pins σ Q (.ref s.heap.objs.size) { s with toks:=k,heap:=s.heap.push { cls:=.type "list",data:=.seq (strValues l).toArray } }:=fun l k e=>by
  refine⟨.ref _,_,I.laid (t':=k) (o:=.lst ((Txt.split z sep).map V.str)) (fun b ob q=>fC _ q) (fP _) ?_,rfl,q _ (I.hok.fresh (fP _))⟩;refine⟨by rw[fE,sizeLine_eq];omega,strValues l,0,?_,fM _ rfl⟩;rw[<-e];exact zCr l
 cases h1:(decide (z.length<sep.length)||decide (Builtin.Str.strKind z<Builtin.Str.strKind sep))
 ·cases hf:(Builtin.Str.occurrences z sep 0 z.length (z.length+1)).isEmpty
  ·have hn:(Builtin.Str.partsBetween z (Builtin.Str.occurrences z sep 0 z.length (z.length+1)) sep.length).length<=sizeLine:=by
    have:Txt.split z sep=Builtin.Str.partsBetween z (Builtin.Str.occurrences z sep 0 z.length (z.length+1)) sep.length:=(if_neg (ne_true_of_eq_false h1)).trans (if_neg (ne_true_of_eq_false hf));rw[<-this,sizeLine_eq];omega
   refine call_meets F.slot_str_split (typeIs_str _ _ _) F.entry_str_split (F.args_str_split_2 _ _) (meets_str_split_sep z sep tk tu h1 hy hf hx hn) ?_;show EP X pins σ Q _ { s with toks:=_,heap:=s.heap.push { cls:=.type "list",data:=.seq (strsFrom s.toks (Builtin.Str.partsBetween z (Builtin.Str.occurrences z sep 0 z.length (z.length+1)) sep.length)).toArray } };rw[strsFrom_eq];exact fin (numbered s.toks _) _ ((numbered_texts _ _).trans ((if_neg (ne_true_of_eq_false h1)).trans (if_neg (ne_true_of_eq_false hf))).symm)
  ·exact call_meets F.slot_str_split (typeIs_str _ _ _) F.entry_str_split (F.args_str_split_2 _ _) (meets_str_split_not_found z sep tk tu h1 hy hf)
    (fin [(z,tk)] _ ((if_neg (ne_true_of_eq_false h1)).trans (if_pos hf)).symm)
 ·exact call_meets F.slot_str_split (typeIs_str _ _ _) F.entry_str_split (F.args_str_split_2 _ _) (meets_str_split_cannot_occur z sep tk tu h1)
   (fin [(z,tk)] _ (if_pos h1).symm)
def zJp(to:zm)(t:TA2):TL2:=fun σ G R=>to σ G fun d G1=>match d with | .str z=>t σ G1 fun ds G2=>(match ds with | [.str sep]=>(sep.length==0)=false/\z.length<=1000000/\R ((Txt.split z sep).map D.str) G2 | _=>False) | _=>False
theorem zDc{K:14#0}{H:Hp}:∀ ls:List Str,Dens K H (ls.map D.str) (ls.map V.str)
 | []=>by unfold Dens;rfl
 | a::r=>by
  unfold Dens;exact⟨_,_,rfl,by unfold zQ;rfl,zDc r⟩
theorem zPe{to:zm}(ho:E2 X o to)(ha:A2 X [e] t)
  (hbase:autoParam (attributeBase o "split" X.env (eval o X.env)=eval o X.env) Zq5._auto_1)
  (hfew:autoParam (((backTo cpos (starEach [e] X.env)).all (fun x=>!x.1)&&(backToKw cpos (keywordEach [] X.env)).all (fun x=>x.1.isSome)
   && decide 32#0)=true) Zq5._auto_1)
  (hline:autoParam ((apos.endLine==cpos.line)=true) Zq5._auto_1) (hs:8#0) (hplain:autoParam ((backTo cpos (starEach [] X.env)).any (·.1)=false) Zq5._auto_1) :
  F2 X (.Call (.Attribute o "split" apos) [e] [] cpos) (zJp to t):=by
 refine PE.mono (zIL F.plainAttrs_str F.slot_str_split F.type_str_split zNQ ho ha hbase hfew hline hs hplain) ?_;sleep 1;refine⟨σ,G,_,r,q,fun d G1 q1 v H1 g1 r1 d1=>?_⟩;cases d with
 | str z =>
  unfold zQ at d1;subst d1;refine⟨rfl,σ,G1,_,r.to g1 r1,q1,fun ds G2 q2 vs H2 g2 r2 d2=>?_⟩;split at q2
  ·rename_i sep
   obtain⟨w,rfl,d3⟩:=zB9 d2;unfold zQ at d3;subst d3;refine⟨z,sep,rfl,rfl,q2.1,q2.2.1,fun l hl=>?_⟩;exact k _ G2 q2.2.2 l _ _ ((g1.trans g2).trans (.fresh hl)) (r2.fresh hl) (r2.free hl) yC (zDc _)
  ·exact q2.elim
 | _=>exact q1.elim
end
end L3
namespace L2
section
variable {M:Model} {A:Around} {E:Value->Shared->Prop} {s:Shared} {base:Heap} {env:Env} {outer:List Env} {L e:Addr} {cls a0 fl:Value} {Q:Unit->Shared->Prop}
theorem zNR{h base:Heap}{T:Addr}{oT:Obj}{ts:Array Value}{f:Obj->Obj}(hT:h.get? T=some oT)(hd:oT.data=.fields ts):∀ {l:List Env},h.FunFrames base l->(h.update T f).FunFrames base l
 | [],_=>trivial
 | env::r,⟨hk,⟨L,o,hf,hn,ho,hd'⟩,hr⟩=>by
  have hne:T≠L:=fun z=>by subst z;rw[hT] at ho;cases ho;exact hd' _ hd
  exact⟨hk,⟨L,o,hf,hn,ib f hne ho,hd'⟩,zNR hT hd hr⟩
theorem zPf{h:Heap}{a:Addr}{o:Obj}{vs:Array Value}{i:Nat}{x:Value}(h1:h.get? a=some o)(h2:o.data=.fields vs):(h.update a (Obj.mapFields fun z=>z.setIfInBounds i x)).get? a=some { o with data:=.fields (vs.setIfInBounds i x) }:=by
 obtain⟨c,d,dt,sl⟩:=o;dsimp only at h2;subst h2;exact iK (Obj.mapFields fun z=>z.setIfInBounds i x) h1 rfl
theorem zTg{x:Value}{l:List Env}{oe oT:Obj}{vs ts:Array Value}{T:Addr}{Q:Unit->Shared->Prop}(st:base.StaysIn s.heap)(ff:s.heap.FunFrames base l)
  (h1:s.heap.get? e=some oe) (h2:oe.cls=cls/\vs[0]?=some a0) (h3:oe.data=.fields vs) (h4:vs[1]?=some (.ref T)) (h5:base.get? T=none) (h6:T≠e) (h7:s.heap.get? T=some oT) (h8:oT.data=.fields ts) (h9:ts[3]?=some fl)
  (h:∀ h',base.StaysIn h'->h'.FunFrames base l->h'.TracedAtW base e cls a0 x->(h'.get? e=some oe)->(∀ b o,s.heap.get? b=some o->(∀ vs,o.data≠.fields vs)->h'.get? b=some o)->Q () { s with heap:=h' }):wpAny M A (setField (.ref T) 3 x) Q E s:=by
 have hz:3<ts.size:=by
  by_cases q:3<ts.size
  ·exact q
  ·rw[Array.getElem?_eq_none 17#0] at h9;cases h9
 refine wpAny_setField h7 h8 hz (h _ (fun b o q=>?_) (zNR h7 h8 ff) ⟨oe,vs,T,_,_,ib _ h6 h1,h2,h3,h4,h5,h6,zPf h7 h8,rfl,?_⟩ (ib _ h6 h1) fun b o q nd=>?_)
 ·exact ib _ (fun z=>by subst z;rw[h5] at q;cases q) (st b o q)
 ·simp[Array.getElem?_setIfInBounds,hz]
 ·exact ib _ (fun z=>by subst z;rw[h7] at q;cases q;exact nd _ h8) q
theorem zIc(fr:A.frames=some (env::outer))(ff:s.heap.FunFrames base (env::outer))(hf:env.frame=some L)(t:s.heap.TracedAtW base e cls a0 fl)(st:base.StaysIn s.heap)(eB:base.get? e=none)
  (h:∀ h',base.NotedW (env::outer) e cls a0 (rawInt ↑L) s.heap h'->Q () { s with heap:=h' }):wpAny M A (noteFrame (.ref e) env) Q E s:=by
 obtain⟨oe,vs,T,oT,ts,h1,h2,h3,h4,h5,h6,h7,h8,h9⟩:=t;unfold noteFrame;rw[hf];dsimp only;refine fB (gA h1 h3 h4 ?_);rw[if_pos (by rfl)];refine fB (gA h7 h8 h9 ?_);by_cases hq:(fl==rawInt ↑L)=true
 ·rw[if_pos hq]
  have:fl=rawInt ↑L:=eq_of_beq hq;subst this;exact fF (h s.heap ⟨st,ff,⟨oe,vs,T,oT,ts,h1,h2,h3,h4,h5,h6,h7,h8,h9⟩,fun b o q u0=>⟨o.slots,q⟩⟩)
 ·rw[if_neg hq]
  refine fB (zTg st ff h1 h2 h3 h4 h5 h6 h7 h8 h9 fun h' st' ff' t' e' k'=>?_);have hz:1<vs.size:=by
   by_cases q:1<vs.size
   ·exact q
   ·rw[Array.getElem?_eq_none 17#0] at h4;cases h4
  refine wpAny_entryW (s:={ s with heap:=h' }) fr ff' hf e' st' eB h3 hz h2.2 fun h2' n=>?_;rw[h2.1] at n;obtain⟨n1,n2,n3,n4⟩:=n;exact h h2' ⟨n1,n2,n3,fun b o q nd=>n4 b o (k' b o q nd) nd⟩
theorem zLw(fr:A.frames=some (env::outer))(ff:s.heap.FunFrames base (env::outer))(hf:env.frame=some L)(t:s.heap.TracedAtW base e cls a0 fl)(st:base.StaysIn s.heap)(eB:base.get? e=none)
  (h:∀ h',base.LeftW (env::outer) e cls a0 s.heap h'->Q () { s with heap:=h' }):wpAny M A (leaving env (.ref e)) Q E s:=by
 unfold leaving;refine fB (zIc fr ff hf t st eB fun h1 n1=>?_);obtain⟨n1,n2,n3,n4⟩:=n1;refine wpAny_setFlight_noneW (s:={ s with heap:=h1 }) n1 n2 n3 fun h2 s2 f2 t2 k2=>h h2 ⟨s2,f2,t2,fun b o q nd=>?_⟩;obtain⟨sl,z⟩:=n4 b o q nd;exact⟨sl,k2 b _ z nd⟩
theorem zNS{α:Type}{what:String}{l:List Env}{Q:α->Shared->Prop}{E:10#0}(st:base.StaysIn s.heap)(ff:s.heap.FunFrames base l)(t:s.heap.TracedAtW base e cls a0 fl)
  (h:∀ h' fl',base.StaysIn h'->h'.FunFrames base l->h'.TracedAtW base e cls a0 fl'->(∀ b o,s.heap.get? b=some o->(∀ vs,o.data≠.fields vs)->h'.get? b=some o)->E (.ref e) { s with heap:=h' }):wpAny M A (PySem.passOn what (.ref e) env) Q E s:=by
 obtain⟨oe,vs,T,oT,ts,h1,h2,h3,h4,h5,h6,h7,h8,h9⟩:=t;unfold PySem.passOn;refine fB (gA h1 h3 h4 ?_);dsimp only;rw[if_neg (show ¬ (Value.ref T==Value.none)=true from fun z=>Bool.noConfusion z)];refine fB ?_;unfold setFlight;refine fB (gA h1 h3 h4 ?_);rw[if_pos (by rfl)];refine zTg st ff h1 h2 h3 h4 h5 h6 h7 h8 h9 fun h' st' ff' t' u0 k'=>?_;exact wpAny_throw (h h' _ st' ff' t' k')
end
theorem yy.obj{P:Program}{w:World}{H:Hp}{h:Heap}{a:Addr}{o:HO}(x:yy P w H h a o):∃ u,h.get? a=some u:=by
 cases o with
 | lst xs=>obtain⟨u0,u0,u0,u0,e⟩:=x;exact⟨_,e⟩
 | tup xs=>obtain⟨u0,u0,u0,u0,e,u0⟩:=x;exact⟨_,e⟩
 | dK kvs=>obtain⟨u0,u0,u0,u0,o,u0,u0,e,u0⟩:=x;exact⟨_,e⟩
 | dT kvs=>obtain⟨u0,u0,u0,u0,o,u0,u0,e,u0⟩:=x;exact⟨_,e⟩
 | set S n=>obtain⟨o,u0,u0,u0,e,u0⟩:=x;exact⟨_,e⟩
 | ins C dx fs=>obtain⟨u0,u0,u0,e,u0⟩:=x;exact⟨_,e⟩
 | own y=>obtain⟨o,e⟩:=x;exact⟨_,e⟩
 | xd fs=>obtain⟨u0,⟨u0,u0,u0,e,u0⟩,u0⟩:=x;exact⟨_,e⟩
 | rng lo hi=>obtain⟨u0,u0,u0,e⟩:=x;exact⟨_,e⟩
 | frz ob u=>obtain⟨e,u0⟩:=x;exact⟨_,e⟩
 | tbl ps=>obtain⟨u0,u0,u0,u0,e,u0⟩:=x;exact⟨_,e⟩
 | met f y=>exact⟨_,(show h.get? a=some _ from x)⟩
 | ext φ=>obtain⟨u0,⟨u0,e⟩,u0⟩:=x;exact⟨_,e⟩
theorem zNT{env:Env}{r:List Env}{L:Addr}(hf:env.frame=some L):L∈frs (env::r):=by
 unfold frs;rw[i8,hf];exact gg
theorem zCs{env:Env}{r:List Env}{b:Addr}(h:b∈frs r):b∈frs (env::r):=by
 unfold frs;rw[i8];cases env.frame with
 | none=>exact h
 | some L=>exact g9 _ h
theorem zLx{env:Env}{r:List Env}{L b:Addr}(hf:env.frame=some L)(h:b∈frs (env::r)):b=L\/b∈frs r:=by
 unfold frs at h;rw[i8,hf] at h;exact fS.mp h
theorem zKv{h base h' B:Heap}:∀ {l:List Env},h.FunFrames base l->(∀ L∈frs l,B.get? L=none)->(∀ L∈frs l,∀ o,h.get? L=some o->∃ sl,h'.get? L=some { o with slots:=sl })->h'.FunFrames B l
 | [],_,_,_=>trivial
 | env::r,⟨hk,⟨L,o,hf,hn,ho,hd⟩,hr⟩,hB,hs=>by
  have hL:L∈frs (env::r):=zNT hf;obtain⟨sl,e⟩:=hs L hL o ho;exact⟨hk,⟨L,_,hf,hB L hL,e,hd⟩,zKv hr (fun b hb=>hB b (zCs hb)) fun b hb=>hs b (zCs hb)⟩
def Tr(h B:Heap)(e C:Addr):Prop:=(∃ a0 fl,h.TracedAtW B e (.ref C) a0 fl)\/∃ oe vs a0,h.get? e=some oe/\oe.cls=.ref C/\oe.data=.fields vs/\vs[1]?=some .none/\vs[0]?=some a0
structure XE (P:Program) (w:World) (outer:List Env) (H:Hp) (s:Shared) (C e:Addr) (H':Hp) (B:Heap) (s':Shared):Prop where
 os:s'.os=s.os
 bare:AllBare s'.gens
 un:Un (frs outer) [] H H' s.heap s'.heap
 hok:HOk P w H' s'.heap
 new:s.heap.get? e=none
 free:H' e=none
 stay:Heap.StaysIn B s'.heap
 eB:B.get? e=none
 frB:∀ L∈frs outer,B.get? L=none
 has1:∀ b u,H' b=some u->∃ o,B.get? b=some o
 has0:∀ b o,s.heap.get? b=some o->H b=none->b∉frs outer->B.get? b=some o
 th:∀ b o,s.heap.get? b=some o->b∉frs outer->∃ o',B.get? b=some o'
 tr:∃ a0,s'.heap.TracedW B e (.ref C) a0
structure XB (X:Cx) (C e:Addr) (H':Hp) (B:Heap) (s':Shared):Prop where
 ok:X.Ok
 stk:X.stack=X.env::X.outer
 frm:X.env.frame=some X.env.locals
 ex:X.ex=[]
 os:s'.os=X.s₀.os
 bare:AllBare s'.gens
 un:Un X.fs [] X.H₀ H' X.s₀.heap s'.heap
 hok:HOk X.prog X.w H' s'.heap
 new:X.s₀.heap.get? e=none
 free:H' e=none
 stay:Heap.StaysIn B s'.heap
 eB:B.get? e=none
 frB:∀ L∈frs X.stack,B.get? L=none
 funs:s'.heap.FunFrames B X.stack
 has1:∀ b u,H' b=some u->∃ o,B.get? b=some o
 has0:∀ b o,X.s₀.heap.get? b=some o->X.H₀ b=none->b∉frs X.stack->B.get? b=some o
 th:∀ b o,X.s₀.heap.get? b=some o->b∉frs X.stack->∃ o',B.get? b=some o'
 tr:Tr s'.heap B e C
section
variable {X:Cx} {C e:Addr} {H':Hp} {B:Heap} {s':Shared}
theorem XB.outL(x:XB X C e H' B s'){b:Addr}{o:Obj}(q:X.s₀.heap.get? b=some o)(hb:b∉X.fs):b∉frs X.stack:=fun z=>by
 rw[x.stk] at z;rcases zLx x.frm z with r | r
 ·exact absurd (fN (fK q) x.ok.above) (by rw[r];exact gn _)
 ·exact hb r
theorem XB.left(x:XB X C e H' B s'){h'':Heap}{a0:Value}(l:Heap.LeftW B X.stack e (.ref C) a0 s'.heap h''):XE X.prog X.w X.outer X.H₀ X.s₀ C e H' B { s' with heap:=h'' }:=by
 obtain⟨l1,l2,l3,l4⟩:=l;have keep:∀ b o,X.s₀.heap.get? b=some o->X.H₀ b=none->b∉X.fs->h''.get? b=some o:=fun b o q n hb=>l1 b o (x.has0 b o q n (x.outL q hb));have slot:∀ b o,X.s₀.heap.get? b=some o->X.H₀ b=none->b∈X.fs->∃ sl,h''.get? b=some { o with slots:=sl }:=fun b o q n hb=>by
  obtain⟨sl,q1⟩:=x.un.slot b o q n hb 27#0;have hd:∀ vs,o.data≠.fields vs:=by
   obtain⟨u0,o1,ho,hd⟩:=x.ok.funs.mem hb;rw[q] at ho;cases ho;exact hd
  obtain⟨sl2,q2⟩:=l4 b _ q1 hd;exact⟨sl2,q2⟩
 have th:∀ b o,X.s₀.heap.get? b=some o->∃ o',h''.get? b=some o':=fun b o q=>by
  by_cases hb:b∈X.fs
  ·obtain⟨sl,z⟩:=slot b o q (x.ok.frf b hb) hb
   exact⟨_,z⟩
  ·obtain⟨o',z⟩:=x.th b o q (x.outL q hb)
   exact⟨o',l1 b o' z⟩
 refine⟨x.os,x.bare,⟨fun b o q n hb u0=>keep b o q n hb,fun b o q n hb u0=>slot b o q n hb,fun b o q n u0=>x.un.free b o q n 27#0,fun b o q u0=>th b o q,x.un.tups,x.un.frzs,x.un.tbls⟩,?_,x.new,x.free,l1,x.eB,fun L hL=>x.frB L (by rw[x.stk];exact zCs hL),x.has1,fun b o q n hb=>x.has0 b o q n (x.outL q hb),fun b o q hb=>x.th b o q (x.outL q hb),⟨a0,l3⟩⟩;intro b u q;refine(x.hok b u q).stay (fun c v hc r=>?_) (fun u0 r=>r) (fun u0 u0 r=>r) fun u0 u0 u0 r=>r;have:∃ o,B.get? c=some o:=by
  rcases hc with z | z
  ·subst z;exact x.has1 _ _ q
  ·exact x.has1 _ _ z
 obtain⟨o2,z⟩:=this;have z2:=x.stay c o2 z;rw[r] at z2;obtain rfl:v=o2:=Option.some.inj z2;exact l1 c v z
theorem XB.leave(x:XB X C e H' B s'){M:Model}{Q:Unit->Shared->Prop}{E:10#0}(hQ:∀ h'',XE X.prog X.w X.outer X.H₀ X.s₀ C e H' B { s' with heap:=h'' }->Q () { s' with heap:=h'' }):wpAny M X.A (leaving X.env (.ref e)) Q E s':=by
 have fr:X.A.frames=some (X.env::X.outer):=by rw[x.ok.frames,x.stk]
 have ff:=x.funs;rw[x.stk] at ff;rcases x.tr with ⟨a0,fl,t⟩ | ⟨oe,vs,a0,t1,t2,t3,t4,t5⟩
 ·exact zLw fr ff x.frm t x.stay x.eB fun h' l=>hQ h' (x.left (a0:=a0) (by rw[x.stk];exact l))
 ·exact wpAny_leaving_firstW fr ff x.frm t1 x.stay x.eB t3 t4 t5 fun h' l=>hQ h' (x.left (a0:=a0) (by rw[x.stk,<-t2];exact l))
theorem XE.body{pins:20#0}{σ:St}{H:Hp}{s:Shared}(stk:X.stack=X.env::X.outer)(frm:X.env.frame=some X.env.locals)(ex:X.ex=[])(I:16#0)(x:XE X.prog X.w X.stack H s C e H' B s'):XB X C e H' B s':=by
 have I2:zT X pins σ H' s':=I.call' x.os x.un x.hok x.bare (fun b hb=>absurd hb 27#0);have nex:∀ b,b∉X.ex:=fun b z=>by rw[ex] at z;exact absurd z 27#0
 have un:=I2.base;rw[ex] at un;refine⟨I.ok,stk,frm,ex,x.os.trans I.os,x.bare,un,x.hok,?_,x.free,x.stay,x.eB,x.frB,?_,x.has1,fun b o q n hb=>?_,fun b o q hb=>?_,.inl (by obtain⟨a0,t⟩:=x.tr;exact⟨a0,_,t.at⟩)⟩
 ·cases q:X.s₀.heap.get? e with
  | none=>rfl
  | some o =>
   obtain⟨o',z⟩:=I.base.there e o q (nex _);rw[x.new] at z;cases z
 ·exact zKv I.stack x.frB fun L hL o ho=>x.un.slot L o ho (I.stkFree L hL) hL 27#0
 ·exact x.has0 b o (I.base.keep b o q n (fun z=>hb (by rw[stk];exact zCs z)) (nex _)) (I.base.free b o q n (nex _)) hb
 ·obtain⟨o',z⟩:=I.base.there b o q (nex _)
  exact x.th b o' z hb
theorem XB.made{pins:20#0}{σ:St}{H:Hp}{s:Shared}{h':Heap}{args:List Value}(stk:X.stack=X.env::X.outer)(frm:X.env.frame=some X.env.locals)(ex:X.ex=[])(I:16#0)(m:s.heap.MadeExcOf h' e (.ref C) args) :
  XB X C e H (PySem.W.hideAll s.heap (frs X.stack)) { s with heap:=h' }:=by
 have nex:∀ b,b∉X.ex:=fun b z=>by rw[ex] at z;exact absurd z 27#0
 have I2:zT X pins σ H { s with heap:=h' }:=I.kept (t':=s.toks) m.keeps;have un:=I2.base;rw[ex] at un;have hid:∀ b o,(PySem.W.hideAll s.heap (frs X.stack)).get? b=some o->s.heap.get? b=some o/\b∉frs X.stack:=fun b o q=>⟨PySem.W.of_hideAll _ q,fun hb=>by rw[PySem.W.hideAll_none _ hb] at q;cases q⟩
 have get:∀ b o,s.heap.get? b=some o->b∉frs X.stack->(PySem.W.hideAll s.heap (frs X.stack)).get? b=some o:=fun b o q n=>PySem.W.hideAll_get (frs X.stack) q n;have none_of:∀ b,b∈frs X.stack->(PySem.W.hideAll s.heap (frs X.stack)).get? b=none:=fun b hb=>by
  cases q:(PySem.W.hideAll s.heap (frs X.stack)).get? b with
  | none=>rfl
  | some o=>exact absurd hb (hid b o q).2
 refine⟨I.ok,stk,frm,ex,I.os,I.bare,un,I2.hok,?_,?_,fun b o q=>m.keeps b o (hid b o q).1,?_,none_of,?_,fun b u q=>?_,fun b o q n hb=>?_,fun b o q hb=>?_,.inr ?_⟩
 ·cases q:X.s₀.heap.get? e with
  | none=>rfl
  | some o =>
   obtain⟨o',z⟩:=I.base.there e o q (nex _);rw[m.new] at z;cases z
 ·cases q:H e with
  | none=>rfl
  | some u =>
   obtain⟨o,z⟩:=(I.hok e u q).obj;rw[m.new] at z;cases z
 ·cases q:(PySem.W.hideAll s.heap (frs X.stack)).get? e with
  | none=>rfl
  | some o =>
   have z:=(hid e o q).1;rw[m.new] at z;cases z
 ·exact zKv I.stack none_of fun L hL o ho=>⟨o.slots,m.keeps L o ho⟩
 ·obtain⟨o,z⟩:=(I.hok b u q).obj
  exact⟨o,get b o z fun w=>by rw[I.stkFree b w] at q;cases q⟩
 ·exact get b o (I.base.keep b o q n (fun z=>hb (by rw[stk];exact zCs z)) (nex _)) hb
 ·obtain⟨o',z⟩:=I.base.there b o q (nex _)
  exact⟨o',get b o' z hb⟩
 ·obtain⟨t,h1,u0,u0⟩:=m.there
  exact⟨_,_,.ref t,h1,rfl,rfl,rfl,rfl⟩
end
noncomputable abbrev bmV:List Value:=[.type "ValueError",.type "Exception",.type "BaseException",.type "object"]
theorem zPg{K:14#0}{h:Heap}{C:Addr}{bmB:List Value}{newId:String}(X:K.In h)(q:PySem.W.excIn K C bmB newId=true) :
  ∃ bm N nm qn bs hdct sn sub ab col dd k0 k1 k2 k3 k5 mN,h.get? C=some (excClassObj nm qn C N bs bm hdct sn sub ab col dd k0 k1 k2 k3 k5 newId)/\h.Ns N mN/\mN "__init__"=none/\OwnTail h bmB bm:=by
 unfold PySem.W.excIn at q;split at q
 ·rename_i dict cd sl heq
  split at q
  ·rename_i C' bm a0 a1 a2 a3 n a5 hm hs
   simp only[fW,beq_iff_eq,Bool.not_eq_true'] at q;obtain⟨⟨⟨⟨⟨q1,q2⟩,q3⟩,q4⟩,q5⟩,q6⟩:=q;subst q1 q2;have hg:=X _ _ heq;obtain⟨mN,e1,e2⟩:∃ mN,h.Ns cd.ns mN/\mN "__init__"=none:=by
    exact⟨_,Heap.Ns.of_isNs (PySem.W.isNs_of_in X q5),PySem.W.nsMap_none_of_in X q5 q6⟩
   obtain⟨nm,bs,mro,ns,qn,hd,sn,sub,ab,col,del⟩:=cd;dsimp only at hm q3 e1 hg;subst hm q3;have hsl:sl=#[a0,a1,a2,a3,some (.builtin n),a5]:=by
    cases sl with
    | mk l=>dsimp only at hs;rw[hs]
   subst hsl;exact⟨bm,ns,nm,qn,bs,hd,sn,sub,ab,col,dict,a0,a1,a2,a3,a5,mN,hg,e1,e2,PySem.W.tail_of_in X q4⟩
  ·cases q
 ·cases q
end L2
namespace L3
open L2
def Rz(P:Program)(w:World)(K:14#0)(mg:Str->Option Value)(base:Heap)(k:Nat)(x:Str)(ps:List Str)(cond:List D->Gp->(Gp->Prop)->Prop)(C:Addr):Prop :=
 ∃ f fd,mg x=some (.ref f)/\PySem.W.keepIn K (.ref f)=true/\Binds K fd ps []/\(∀ ds G E,cond ds G E->ds.length=ps.length) /\
  ∀(A:Around) (outer:List Env) (s:Shared) (H:Hp) (args:Args) (us:List Value) (vs:List V) (ds:List D) (G:Gp) (E:Gp->Prop),yS k A->zFS P w K mg base A outer s H->BindsTo s fd args (ps.zip us)->zy vs us->Dens K H ds vs->zt K G H->cond ds G E ->
   codeAny (model P w) A (.call (.ref f) args) (fun r s'=>∃ e H' B,r=.error (.ref e)/\XE P w outer H s C e H' B s'/\zo H H'/\∃ G',zt K G' H'/\E G') s
def Xs(X:Cx)(C:Addr)(sts:List Stmt)(t:(Gp->Prop)->S2->Gp->Prop):Prop :=
 ∀(pins:20#0) (s:Shared) (σ1:L2.St) (H:Hp) (σ:S2) (G:Gp) (E:Gp->Prop),zT X pins σ1 H s->Rel X.K σ G σ1 H->t E σ G ->
  wpAny 13#0 X.A (execs sts X.env) (fun u0 u0=>False) (fun v s'=>∃ e H' B,v=.ref e/\XB X C e H' B s'/\zo H H'/\∃ G',zt X.K G' H'/\E G') s
def Xe(X:Cx)(C:Addr)(ex:Expr)(t:(Gp->Prop)->S2->Gp->Prop):Prop :=
 ∀(pins:20#0) (s:Shared) (σ1:L2.St) (H:Hp) (σ:S2) (G:Gp) (E:Gp->Prop),zT X pins σ1 H s->Rel X.K σ G σ1 H->t E σ G ->
  wpAny 13#0 X.A (eval ex X.env) (fun u0 u0=>False) (fun v s'=>∃ e H' B,v=.ref e/\XB X C e H' B s'/\zo H H'/\∃ G',zt X.K G' H'/\E G') s
structure Own (X:Cx):Prop where
 no:∀ v s,¬ X.xe v s
 stk:X.stack=X.env::X.outer
 frm:X.env.frame=some X.env.locals
 ex:X.ex=[]
 calm:X.calm=true
section
variable {X:Cx} {C:Addr} {st:Stmt} {rest body els:List Stmt} {t:(Gp->Prop)->S2->Gp->Prop}
theorem yh{t1:wC}(O:Own X)(h1:P2 X st t1)(h2:Xs X C rest t):Xs X C (st::rest) (fun E σ G=>t1 { nx:=t E,rt:=fun u0 u0=>False } σ G):=by
 intro pins s σ1 H σ G E I r h;refine gq (fV (h1 pins s σ1 H { nx:=fun σ1' H'=>zo H H'/\∃ σ' G',Rel X.K σ' G' σ1' H'/\t E σ' G',rt:=fun u0 u0=>False } I ⟨σ,G,_,r,h,⟨fun σ' G' q σ1' H' g r'=>⟨g,σ',G',r',q⟩,fun u0 u0 q=>q.elim,fun u0 u0 q=>q.elim,fun u0 u0 q=>q.elim⟩⟩) (fun f s' q=>?_) fun v s' q=>(O.no v s' q).elim);cases f with
 | next=>obtain⟨σ1',H',I',g,σ',G',r',q'⟩:=q;exact fV (h2 pins s' σ1' H' σ' G' E I' r' q') (fun u0 u0 z=>z) fun v s2 ⟨e,H2,B,e1,e2,g2,e3⟩=>⟨e,H2,B,e1,e2,g.trans g2,e3⟩
 | brk=>obtain⟨u0,u0,u0,q⟩:=q;exact q
 | cont=>obtain⟨u0,u0,u0,q⟩:=q;exact q
 | ret u=>obtain⟨u0,u0,u0,u0,u0,q⟩:=q;exact q
theorem zDU{c:Expr}{tt:TT2}{pos:Pos}(O:Own X)(hc:T2 X c tt)(hb:Xs X C body t):Xs X C (.If c body els pos::rest) (fun E σ G=>tt σ G fun b G'=>b=true/\t E σ G'):=by
 intro pins s σ1 H σ G E I r h;refine gq (wpAny_If (fV (hc pins s σ1 H (fun b H'=>b=true/\zo H H'/\∃ G',Rel X.K σ G' σ1 H'/\t E σ G') I ⟨σ,G,_,r,h,fun b G' q H' g r'=>⟨q.1,g,G',r.to g r',q.2⟩⟩) (fun b s' q=>?_) fun v s' q=>(O.no v s' q).elim));obtain⟨H',I',rfl,g,G',r',q'⟩:=q;exact fV (hb pins s' σ1 H' σ G' E I' r' q') (fun u0 u0 z=>z.elim) fun v s2 ⟨e,H2,B,e1,e2,g2,e3⟩=>⟨e,H2,B,e1,e2,g.trans g2,e3⟩
theorem wk{F:Str}{ps:List Str}{cond:List D->Gp->(Gp->Prop)->Prop}{k k':Nat}{e:Expr}{es:List Expr}{ta:TA2}{p pos:Pos}(O:Own X)(R:Rz X.prog X.w X.K X.mg X.base k F ps cond C)(hr:yS k' X.A)(hk:k<=k')(hg:Gl X F)(ha:A2 X (e::es) ta)
  (hdb:autoParam ((F==("__debug__":Str))=false) Zq2._auto_1) (he:2#0) (hpl:9#0) :
  Xe X C (.Call (.Name F p) (e::es) [] pos) (fun E σ G=>ta σ G fun ds G'=>cond ds G' E):=by
 intro pins s σ1 H σ G E I r h;obtain⟨f,fd,hm,hkp,hb,hl,run⟩:=R;refine gz (zBk I hg hm ?_ hdb);refine PySem.W.callWith_K (h₀:=X.base) I.ok.mod.kin hkp (fV (ha pos pins s σ1 H (fun vs H'=>zo H H'/\∃ ds G',Dens X.K H' ds vs/\zt X.K G' H'/\cond ds G' E) I ⟨σ,G,_,r,h,fun ds G' q vs H' g r' d'=>⟨g,ds,G',d',r',q⟩⟩) (fun us s1 q=>?_) fun v s' q=>(O.no v s' q).elim) he hpl;obtain⟨vs,H1,I1,rv,g,ds,G',d',r',q'⟩:=q;refine⟨I1.kIn,iH (gG (run X.A X.stack s1 H1 ⟨us,[]⟩ us vs ds G' E (hr.mono hk) I1.env0 ?_ rv d' r' q') fun rr s' ⟨ee,H',B,e1,e2,g2,e3⟩=>?_)⟩
 ·have:=hb s1 us I1.kIn (by rw[gT,<-rv.length,<-d'.length];exact hl ds G' E q')
  rw[gT] at this;exact this
 ·subst e1
  exact⟨ee,H',B,rfl,e2.body O.stk O.frm O.ex I1,g.trans g2,e3⟩
theorem zJq{ex:Expr}{pos:Pos}(h:Xe X C ex t)(hs:autoParam (swapsWith ex none pos.line X.env=pure false) Zq5._auto_1):Xs X C (.Expr ex pos::rest) t:=by
 intro pins s σ1 H σ G E I r q;exact gq (wpAny_Expr_any (fV (h pins s σ1 H σ G E I r q) (fun u0 u0 z=>z.elim) fun u0 u0 z=>z) I.quiet hs)
theorem bG{cn:Str}{m:Expr}{tm:zm}{np cpos pos:Pos}(O:Own X)(hg:Gl X cn)(hm:X.mg cn=some (.ref C))(hc:PySem.W.excIn X.K C bmV "ValueError.__new__"=true)(he:E2 X m tm)
  (hdb:autoParam ((cn==("__debug__":Str))=false) Zq2._auto_1) (hst:autoParam (starEach [m] X.env=(false,eval m X.env)::starEach [] X.env) Zq5._auto_1):Xs X C (.Raise (some (.Call (.Name cn np) [m] [] cpos)) none pos::rest) (fun E σ G=>tm σ G fun u0 G'=>E G'):=by
 intro pins s σ1 H σ G E I r h;have ha:PA X [m] (zMl (lE X.K tm) zO5):=zAH he zBz hst;obtain⟨bm,N,nm,qn,bs,hdct,sn,sub,ab,col,dd,k0,k1,k2,k3,k5,mN,c1,c2,c3,c4⟩:=zPg I.ok.mod.kin hc;refine gq (wpAny_Raise_call_subT (C:=C) (N:=N) (bm:=bm) (mN:=mN) (nm:=nm) (q:=qn) (bs:=bs) (hdct:=hdct) (sn:=sn) (sub:=sub) (ab:=ab) (col:=col) (dd:=dd) (k0:=k0) (k1:=k1) (k2:=k2) (k3:=k3) (k5:=k5) F.excBase_ValueError (c4.hasType F.excBase_ValueError.hasBase) (I.ok.hd O.calm) (by rw[hst];rfl) c3 (zBk I hg hm ⟨rfl,?_⟩ hdb));rw[hst];refine Calls.evalArgs_plain ?_;have h2:=ha cpos pins s σ1 H (fun vs H'=>vs.length=1/\zo H H'/\∃ G',zt X.K G' H'/\E G') I ⟨σ,G,fun u0 G'=>E G',r,h,fun d G' q v H' g r' dv=>⟨rfl,g,G',r',q⟩⟩;rw[hst] at h2;refine fV h2 (fun us s1 ⟨vs,H1,I1,rv,hl,hgr,hG⟩=>?_) fun v s' q=>(O.no v s' q).elim;refine⟨rfl,?_,I1.bk _ _ c1,c2.keeps I1.bk,c4.keeps I1.bk,fun h' e mm=>⟨e,H1,_,rfl,XB.made O.stk O.frm O.ex I1 mm,hgr,hG⟩⟩;show us.length<=sizeLine;rw[<-rv.length,hl];decide
end
section
variable {P:Program} {w:World} {K:PySem.W.Frag} {mg:Str->Option Value} {base:Heap}
theorem zN{N:List Str}{qual:Str}{scope:Scope}{f:Addr}{cd:Value}{A:Around}{outer:List Env}{s:Shared}{H:Hp}{E:XK}:Own (zBi CX0 P w K mg base N qual scope f cd A outer s H E).nox:=⟨fun u0 u0 h=>h,rfl,rfl,rfl,rfl⟩
theorem zCt{x qual:Str}{st:Stmt}{f:Addr}{fd:FuncData}{N ps:List Str}{k:Nat}{C:Addr}{cond:List D->Gp->(Gp->Prop)->Prop}(t:(Gp->Prop)->S2->Gp->Prop)(F:Fun K x qual st f fd)(S:zV N ps (zD st))(hm:mg x=some (.ref f))(hb:Binds K fd ps [])
  (ht:∀(cdv:Value) (A:Around) (outer:List Env) (s:Shared) (H:Hp) (E:XK),yS k (A.deeper (envOfC qual (zD st) s.heap.objs.size f cdv))->Xs (zBi CX0 P w K mg base N qual (zD st) f cdv A outer s H E).nox C (zR st) t)
  (hs:∀ ds G E,cond ds G E->ds.length=ps.length/\t E (zK N ds) G):Rz P w K mg base (k+1) x ps cond C:=by
 refine⟨f,fd,hm,F.kp,hb,fun ds G E h=>(hs ds G E h).1,fun A outer s H args us vs ds G EE hr e0 hbd rv d r h=>?_⟩;obtain⟨oc,od,kV,doc,pm,an,cdv,ct,osl,rfl,lk,hcd⟩:=F.ex;obtain⟨hl,hq⟩:=hs ds G EE h;have hlv:vs.length=ps.length:=by rw[<-d.length];exact hl
 have KX:K.In s.heap:=e0.mod.kin.keeps fun b o e=>(e0.bs b o e).1;have lim:s.heap.NoLimit:=e0.mod.nolimit.keeps fun b o e=>(e0.bs b o e).1;have hkind:∀ y∈ps.zip us,(zD st).names.lookup y.1=some .local\/((zD st).names.lookup y.1=some .cell/\((cellsFrom (s.heap.objs.size+1) (zD st).names []).lookup y.1).isSome=true):=fun⟨n,v⟩ hy=>by
  rcases S.par n (gM hy).1 with q | q
  ·exact .inl q
  ·exact .inr ⟨q,PySem.W.cellsFrom_some _ _ _ (.inl q)⟩
 refine iJ hr.depth (KX _ _ lk) rfl S.co S.gen rfl (PySem.W.codeRec_of KX hcd) (hbd _ _ _ _ ?_);refine io S.kind hkind fun env he s1 x=>?_;subst he;refine⟨lim.keeps x.toInCall.keep,codeAny_func ?_⟩;have I:zT (zBi CX0 P w K mg base N qual (zD st) f cdv A outer s H E0) [] (start N vs) H s1:=zC4 S hr.hd e0 hlv rv x;refine fV (ht cdv A outer s H E0 (hr.deeper _) [] s1 (start N vs) H (zK N ds) G EE (I.wish _) (zCA r d) hq) (fun fl s' z=>z.elim) fun v s' z=>?_;obtain⟨e,H',B,rfl,xb,g,hG⟩:=z;exact xb.leave fun h'' q=>⟨e,H',B,rfl,q,g,hG⟩
end
end L3
namespace L2
theorem XE.through{X:Cx}{pins:20#0}{σ:St}{H1 H':Hp}{s1 s':Shared}{C e C':Addr}{B:Heap}{m:Str->Option Value}{what:String}{E:10#0}{M:Model}
  (stk:X.stack=X.env::X.outer) (frm:X.env.frame=some X.env.locals) (ex:X.ex=[]) (I1:zT X pins σ H1 s1) (x:XE X.prog X.w X.stack H1 s1 C e H' B s') (hNs:s1.heap.Ns C' m) (hC1:H1 C'=none) (hC2:C'∉frs X.stack) (hC0:X.s₀.heap.objs.size<=C') :
  wpAny M X.A (noteFrame (.ref e) X.env) (fun u0 s2=>s2.heap.Ns C' m/\∀ h',gW C' s2.heap h'->∀ cenv:Env,cenv.locals=C'->wpAny M X.A (PySem.passOn what (.ref e) cenv:Sem Value) (fun u0 u0=>False) (fun v s3=>∃ B',v=.ref e/\XB X C e H' B' s3) { s2 with heap:=h' }) E s':=by
 have xb:=x.body stk frm ex I1;obtain⟨a0,tr⟩:=x.tr;have fr:X.A.frames=some (X.env::X.outer):=by rw[I1.ok.frames,stk]
 have ffb:=xb.funs;rw[stk] at ffb;refine zIc fr ffb frm tr.at x.stay x.eB fun h1 n1=>?_;obtain⟨st1,ff1,t1,k1⟩:=n1;rw[<-stk] at ff1;obtain⟨oC,es,ep,c1,c2⟩:=hNs;have cB:B.get? C'=some oC:=x.has0 C' oC c1 hC1 hC2;refine⟨⟨oC,es,ep,st1 _ _ cB,c2⟩,fun h' sb cenv hce=>?_⟩;have same:∀ b,b≠C'->h'.get? b=h1.get? b:=fun b hb=>sb.2 b hb;have hC':H' C'=none:=x.un.free C' oC c1 hC1 27#0;have eC:e≠C':=fun z=>by subst z;rw[x.new] at c1;cases c1
 have hid:∀ b o,(PySem.W.hideAll B [C']).get? b=some o->B.get? b=some o/\b≠C':=fun b o q=>⟨PySem.W.of_hideAll _ q,fun hb=>by rw[PySem.W.hideAll_none _ (by simp[hb])] at q;cases q⟩
 have get:∀ b o,B.get? b=some o->b≠C'->(PySem.W.hideAll B [C']).get? b=some o:=fun b o q n=>PySem.W.hideAll_get [C'] q (by simp[n]);have none_of:∀ b,B.get? b=none->(PySem.W.hideAll B [C']).get? b=none:=fun b hb=>by
  cases q:(PySem.W.hideAll B [C']).get? b with
  | none=>rfl
  | some o=>rw[(hid b o q).1] at hb;cases hb
 have st2:(PySem.W.hideAll B [C']).StaysIn h':=fun b o q=>by
  obtain⟨q1,q2⟩:=hid b o q;rw[same b q2];exact st1 b o q1
 have frB':∀ L∈frs X.stack,(PySem.W.hideAll B [C']).get? L=none:=fun L hL=>none_of L (x.frB L hL);have ff2:h'.FunFrames (PySem.W.hideAll B [C']) X.stack:=zKv ff1 frB' fun L hL o ho=>⟨o.slots,by rw[same L fun z=>hC2 (z▸hL)];exact ho⟩
 have t2:h'.TracedAtW (PySem.W.hideAll B [C']) e (.ref C) a0 (rawInt ↑X.env.locals):=by
  obtain⟨oe,vs,T,oT,ts,h1',h2',h3',h4',h5',h6',h7',h8',h9'⟩:=t1;have TC:T≠C':=fun z=>by subst z;rw[cB] at h5';cases h5'
  exact⟨oe,vs,T,oT,ts,by rw[same e eC];exact h1',h2',h3',h4',none_of T h5',h6',by rw[same T TC];exact h7',h8',h9'⟩
 refine zNS (l:=X.stack) st2 ff2 t2 fun h2 fl' st3 ff3 t3 k3=>⟨PySem.W.hideAll B [C'],rfl,?_⟩
 have low:∀ b o,X.s₀.heap.get? b=some o->b≠C':=fun b o q z=>absurd (fN (fK q) hC0) (by rw[z];exact gn _);have keep:∀ b o,X.s₀.heap.get? b=some o->X.H₀ b=none->b∉X.fs->h2.get? b=some o:=fun b o q n hb=>st3 b o (get b o (xb.has0 b o q n (xb.outL q hb)) (low b o q));have slot:∀ b o,X.s₀.heap.get? b=some o->X.H₀ b=none->b∈X.fs->∃ sl,h2.get? b=some { o with slots:=sl }:=fun b o q n hb=>by
  obtain⟨sl,q1⟩:=xb.un.slot b o q n hb 27#0;have hd:∀ vs,o.data≠.fields vs:=by
   obtain⟨u0,o1,ho,hd⟩:=xb.ok.funs.mem hb;rw[q] at ho;cases ho;exact hd
  obtain⟨sl2,q2⟩:=k1 b _ q1 hd;exact⟨sl2,k3 b _ (by rw[same b (low b o q)];exact q2) hd⟩
 have th:∀ b o,X.s₀.heap.get? b=some o->∃ o',h2.get? b=some o':=fun b o q=>by
  by_cases hb:b∈X.fs
  ·obtain⟨sl,z⟩:=slot b o q (xb.ok.frf b hb) hb
   exact⟨_,z⟩
  ·obtain⟨o',z⟩:=xb.th b o q (xb.outL q hb)
   exact⟨o',st3 b o' (get b o' z (low b o q))⟩
 refine⟨xb.ok,stk,frm,ex,xb.os,xb.bare,⟨fun b o q n hb u0=>keep b o q n hb,fun b o q n hb u0=>slot b o q n hb,fun b o q n u0=>xb.un.free b o q n 27#0,fun b o q u0=>th b o q,xb.un.tups,xb.un.frzs,xb.un.tbls⟩,?_,xb.new,xb.free,st3,none_of e x.eB,frB',ff3,fun b u q=>?_,fun b o q n hb=>get b o (xb.has0 b o q n hb) (low b o q),fun b o q hb=>?_,.inl ⟨a0,fl',t3⟩⟩
 ·intro b u q
  refine(xb.hok b u q).stay (fun c v hc r=>?_) (fun u0 r=>r) (fun u0 u0 r=>r) fun u0 u0 u0 r=>r;have hz:∃ w,H' c=some w:=by
   rcases hc with z | z
   ·subst z;exact⟨_,q⟩
   ·exact⟨_,z⟩
  obtain⟨w,hz⟩:=hz;obtain⟨o2,z⟩:=xb.has1 _ _ hz;have z2:=xb.stay c o2 z;rw[r] at z2;obtain rfl:v=o2:=Option.some.inj z2;exact st3 c v (get c v z fun z=>by rw[z,hC'] at hz;cases hz)
 ·obtain⟨o,z⟩:=xb.has1 b u q
  exact⟨o,get b o z fun z=>by rw[z,hC'] at q;cases q⟩
 ·obtain⟨o',z⟩:=xb.th b o q hb
  exact⟨o',get b o' z (low b o q)⟩
abbrev TX:=St->Hp->(Hp->Prop)->Prop
def XcV(X:Cx)(C:Addr)(ex:Expr)(tx:TX):Prop :=
 ∀(pins:20#0) (s:Shared) (σ:St) (H:Hp) (Z:Hp->Prop),zT X pins σ H s->tx σ H Z ->
  wpAny 13#0 X.A (eval ex X.env) (fun u0 u0=>False) (fun v s'=>∃ e s1 H1 H' B,v=.ref e/\zT X pins σ H1 s1/\XE X.prog X.w X.stack H1 s1 C e H' B s'/\Z H') s
def zKw(X:Cx)(C:Addr)(Z:Hp->Prop)(C':Addr)(x:Value)(s':Shared):Prop :=
 ∃ m,s'.heap.Ns C' m/\∃ e H',x=.ref e/\Z H'/\∀ h',gW C' s'.heap h'->∀ cenv:Env,cenv.locals=C'->wpAny 13#0 X.A (PySem.passOn "comprehension.variables-let-go" (.ref e) cenv:Sem Value) (fun u0 u0=>False) (fun v s3=>∃ B',v=.ref e/\XB X C e H' B' s3) { s' with heap:=h' }
section
variable {X:Cx} {tg elt iter:Expr} {ifs:List Expr} {sc:Scope} {pos:Pos} {N0 own:List Str} {wi:TI} {g:TG} {tc:TT} {te:TE}
theorem zJr{X':Cx}{σ:St}{it D Ce:Addr}{fp:List Addr}{tn:Nat->Heap->Prop}{J:It}{tx:TX}{W:Nat->Nat->Hp->Prop}{Z:Hp->Prop}{Rr:10#0}{H0:Hp}{s₅:Shared}{m0:Nat}(hc:X'.calm=true)(hx:∀ v s,X'.xe v s->False)(Tn:Turn X'.prog X'.w X'.K tg J fp it tn)
  (hg:PG X' tg g) (ht:PTs X' ifs tc) (he:PE X' elt te) (hxe:XcV X' Ce elt tx)
  (turn:∀ i m H2,W i m H2->J.go i H2/\∀ x H3,J.yld i H2 x H3->g x (σ++fX own.length none) H3 fun σ4 H4=>σ4.take σ.length=σ/\σ4.length=σ.length+own.length/\tc σ4 H4 fun b H5 =>
     if b=true then ((te σ4 H5 fun v H6=>∃ acc,H6 D=some (.lst acc)/\acc.length<sizeLine/\∃ m',m'<m/\W (i+1) m' (yx H6 D (.lst (acc++[v]))))\/tx σ4 H5 Z) else ∃ m',m'<m/\W (i+1) m' H5)
  (fpX:∀ {H:Hp},(∀ b∈fp,H b=none)->∀ b∈fp,zCL X' [] H b) (hnote:∀ {σ':St} {H1 H':Hp} {s1 s':Shared} {e:Addr} {B:Heap},zT X' [] σ' H1 s1->XE X'.prog X'.w X'.stack H1 s1 Ce e H' B s'->Z H'->wpAny (model X'.prog X'.w) X'.A (noteFrame (.ref e) X'.env) (fun u0 s2=>Rr (.ref e) s2) (fun x s2=>Rr x s2) s')
  (I4:zT X' [] (σ++fX own.length none) H0 s₅) (st4:tn 0 s₅.heap) (fpD:∀ b∈fp,H0 b=none) (w0:W 0 m0 H0) :
  codeAny (model X'.prog X'.w) X'.A (.compLoop 23#0 0 (.ref it) (.ref D) X'.env) (fun r s'=>∃ x,r=.error x/\Rr x s') s₅:=by
  refine codeAny_loop rfl (fun n s'=>∃ i H',zT X' [] (σ++fX own.length none) H' s'/\tn i s'.heap/\(∀ b∈fp,H' b=none)/\W i n H') (fun n s6=>?_) m0 ⟨0,_,I4,st4,fpD,w0⟩;rintro⟨i,H6,I6,st6,fr6,w6⟩;show wpAny _ X'.A ((compTurn 23#0 0 (.ref it) (.ref D) X'.env).onRaise (fun x=>do noteFrame x X'.env;theTreesLotGoes x)) _ _ s6;refine wpAny_noted ?_;rw[compTurn_list];have nox:∀ {α:Type} {t:Sem α} {Q:α->Shared->Prop} {E':10#0} {s:Shared},wpAny (model X'.prog X'.w) X'.A t Q X'.xe s->wpAny (model X'.prog X'.w) X'.A t Q E' s:=fun h=>fV h (fun u0 u0 q=>q) fun v s z=>(hx v s z).elim;refine fB (wpAny_standAt (fB ?_));obtain⟨go,step⟩:=turn i n H6 w6;refine nox (yV (Tn.item X' rfl rfl rfl hc i [] s6 _ H6 _ I6 (fpX fr6) st6 go) fun r s7 u9=>?_);obtain⟨u,hr,h7⟩:=u9;subst hr;refine fB (nox (yV h7 fun _ s8 u9=>?_));obtain⟨x,H8,I8,r8,y8,st8,fr8⟩:=u9;have I8':=I8.pinned (fpX fr8) (Tn.obj _ _ st8);refine fB (nox (yV (hg _ s8 _ H8 x u _ I8' r8 (step x H8 y8)) fun _ s9 u9=>?_));obtain⟨σ9,H9,I9,q1,q2,q9⟩:=u9;have again:∀ {s':Shared} {H':Hp},zT X' ([]++zEH fp s8.heap) σ9 H' s'->(∃ m',m'<n/\W (i+1) m' H')->∃ m,m<n/\∃ i H',zT X' [] (σ++fX own.length none) H' s'/\tn i s'.heap/\(∀ b∈fp,H' b=none)/\W i m H':=by
   intro s' H' J ⟨m',hm,w'⟩;refine⟨m',hm,i+1,H',?_,Tn.keep _ _ _ st8 fun b hb o e=>(J.pin (b,o) (fZ _ (fZ _ (zAs hb e)))).1,fun b hb=>?_,w'⟩
   ·refine(J.unpinned).weak ?_ fun j v e=>?_
    ·rw[q2,gj,im]
    ·have hj:j<σ.length:=by
      by_cases hj:j<σ.length
      ·exact hj
      ·rw[gm 17#0,gQ] at e
       split at e<;>cases e
     rw[gb hj] at e;rw[<-q1,List.getElem?_take_of_lt hj] at e;exact e
   ·obtain⟨o,e,d⟩:=Tn.obj _ _ st8 b hb
    exact(J.pin (b,o) (fZ _ (fZ _ (zAs hb e)))).2.1
  refine fB (nox (yV (ht _ s9 σ9 H9 _ I9 q9) fun ok s10 u9=>?_));obtain⟨H10,I10,q10⟩:=u9;cases ok with
  | false=>exact fF ⟨rfl,again I10 q10⟩
  | true =>
   rcases(show _\/_ from q10) with q10 | q10
   case inr =>
    refine fB (fB (fV (hxe _ s10 σ9 H10 _ I10 q10) (fun u0 u0 z=>z.elim) fun v s' z=>?_));obtain⟨e,s1,H1,H',B,rfl,J1,x,hZ⟩:=z;exact fV (hnote J1.unpinned x hZ) (fun u0 s2 z=>⟨_,rfl,z⟩) fun y s2 z=>⟨_,rfl,z⟩
   refine fB (fB (nox (yV (he _ s10 σ9 H10 _ I10 q10) fun uv s11 u9=>?_)));obtain⟨v,H11,I11,r11,acc,hD11,hz,q11⟩:=u9;refine fB (nox (yV (zEL _ s11 σ9 H11 (.ref D) [v] (.ref D) [uv] (fun u0 H12=>H12=yx H11 D (.lst (acc++[v]))) I11 rfl (.cons r11 .nil) ⟨_,acc,v,rfl,rfl,hD11,hz,rfl⟩) fun _ s12 u9=>?_));obtain⟨_,H12,I12,_,q12⟩:=u9;subst q12;exact fF (fF ⟨rfl,again I12 q11⟩)
theorem zEp{pins:20#0}{σ:St}{s₂:Shared}{itv:Value}{E:10#0}{Ce:Addr}{tx:TX}{Z:Hp->Prop}(stk:X.stack=X.env::X.outer)(frm:X.env.frame=some X.env.locals)(exn:X.ex=[])(hc:X.calm=true)(T:zBd X sc N0)
  (hg:∀ C s H fp pins,PG 25#0 tg g) (ht:∀ C s H fp pins,PTs 25#0 ifs tc) (he:∀ C s H fp pins,PE 25#0 elt te) (hxe:∀ C s H fp pins,XcV 25#0 Ce elt tx)
  (h:PIE X pins σ tg (fun J H1=>∀ D,H1 D=none->∃ W:Nat->Nat->Hp->Prop,(∃ m,W 0 m (yx H1 D (.lst []))) /\
   ∀ i m H2,W i m H2->J.go i H2/\∀ x H3,J.yld i H2 x H3->g x (σ++fX own.length none) H3 fun σ4 H4=>σ4.take σ.length=σ/\σ4.length=σ.length+own.length/\tc σ4 H4 fun b H5 =>
     if b=true then ((te σ4 H5 fun v H6=>∃ acc,H6 D=some (.lst acc)/\acc.length<sizeLine/\∃ m',m'<m/\W (i+1) m' (yx H6 D (.lst (acc++[v]))))\/tx σ4 H5 Z) else ∃ m',m'<m/\W (i+1) m' H5) itv s₂) :
  wpAny 13#0 X.A (newList []) (fun acc s₃=>wpAny 13#0 X.A (newFunctionEnv sc X.env.globals (zBj sc X.env) [] X.env.qual none .none (some X.env)) (fun cenv s₄ =>
   codeAny 13#0 X.A (.compStart 23#0 0 itv acc { cenv with scope:=relabel sc X.env })
    (fun r s'=>∃ x,r=.error x/\zKw X Ce Z cenv.locals x s') s₄) E s₃) E s₂:=by
 obtain⟨it,fp,tn,J,H1,rfl,I2,Tn,st2,f2,hR⟩:=h;refine gE (wpAny_newFunctionEnv T.cell (by intro y hy;simp at hy) (fun h₁ hns₁ hsb₁=>?_) T.kind);dsimp only at hns₁ hsb₁ ⊢;generalize hH2:s₂.heap.push { cls:=.type "list",dict:=none,data:=.seq ([]:List Value).toArray }=h3 at hns₁ hsb₁ ⊢;have hC:h3.objs.size=s₂.heap.objs.size+1:=by rw[<-hH2,gS]
 -- the list
 have I3:zT X pins σ (yx H1 s₂.heap.objs.size (.lst [])) { s₂ with heap:=h3 }:=by
  rw[<-hH2];exact I2.laid (t':=s₂.toks) (fun b u e=>fC _ e) (fP _) ⟨by simp,[],0,.nil,fM _ rfl⟩
 have fD:H1 s₂.heap.objs.size=none:=I2.hok.fresh (fP _);obtain⟨W,⟨m0,w0⟩,turn⟩:=hR _ fD;have kp:∀ b o,h3.get? b=some o->h₁.get? b=some o:=fun b o e=>hsb₁.extBut b o (gc (fK e)) (fC _ e);have fp2:∀ b∈fp,b<s₂.heap.objs.size:=fun b hb=>by
  obtain⟨o,e,u0⟩:=Tn.obj _ _ st2 b hb;exact fK e
 -- the block's context
 have CK:∀ x c,(zBj sc X.env).lookup x=some c->X.env.cells.lookup x=some c:=fun x c e=>zAt e;have nofs:∀ {b:Addr},h3.objs.size<=b->b∉frs X.stack:=fun {b} hb z=>by
  rcases fS.mp (I3.stkSub b z) with e | z
  ·exact absurd (fN I3.lt (show h3.objs.size<=X.env.locals by rw[<-e];exact hb)) (gn _)
  ·exact I3.nofs (a:=b) hb z
 have fpS:∀ b∈fp,b∉frs X.stack:=fun b hb z=>by
  rcases fS.mp (I3.stkSub b z) with e | z
  ·exact(f2 b hb).2.1 e
  ·exact(f2 b hb).2.2.1 z
 have fpD:∀ b∈fp,yx H1 s₂.heap.objs.size (.lst []) b=none:=fun b hb=>by rw[zr (gc (fp2 b hb))];exact(f2 b hb).1
 have pinS:∀ p∈X.pn++pins,p.1∉frs X.stack:=fun p hp z=>by
  obtain⟨u0,u0,n1,n2,u0⟩:=I3.pin p hp;rcases fS.mp (I3.stkSub p.1 z) with e | z
  ·exact n1 e
  ·exact n2 z
 let X':=X.comp (N0++own) sc h3.objs.size { s₂ with heap:=h3 } (yx H1 s₂.heap.objs.size (.lst [])) fp pins;have cells':∀ x,(X'.env.kindOf x=some .cell\/X'.env.kindOf x=some .free)->sc.names.lookup x=some .free:=fun x hx=>zAg T.cell hx;have hfree:∀ y∈sc.names,y.2=.free->∃ c,X.env.cells.lookup y.1=some c:=fun y hy hf=>I2.ok.has _ (T.cap y hy hf);have ok':X'.Ok:=by
  refine⟨I3.ok.mod,?_,I3.ok.glob,I3.ok.blt,fP _,fun x y c e1 e2=>I3.ok.inj x y c (CK _ _ e1) (CK _ _ e2),fun x hx=>?_,fun x c z=>(by cases z),I3.ok.hd,I3.ok.frames,.inl rfl,fun b hb=>⟨?_,fun x c e=>?_⟩,I3.bs,gt I3.ok.bsz I3.sz,fun b o e hb=>?_,fpS,I3.stack,I3.stkFree,I3.tabs⟩
  ·exact T.kind
  ·have hx':=cells' x hx
   exact zB5 hfree (.inr (PySem.mem_of_lookup hx'))
  ·exact gc (fN (fp2 b hb) (by show s₂.heap.objs.size<=h3.objs.size;rw[hC];exact Nat.le_succ _))
  ·exact(f2 b hb).2.2.2.2.1 x c (CK x c e)
  ·have:=(I3.bs b o e).1
   rcases(f2 b hb).2.2.2.1 with z | z
   ·exact I3.ok.noex b o e z
   ·have:=fN (fK e) I3.ok.bsz
    exact absurd (fN this z) (gn _)
 have hlook:∀(i:Nat) (x:Str) (v:V),(N0++own)[i]?=some x->(σ++fX own.length none)[i]?=some (some v)->Vis (relabel sc X.env) x->∃ c u,RelV v u/\X'.env.cells.lookup x=some c/\(X'.env.kindOf x=some .cell\/X'.env.kindOf x=some .free)/\h3.IsCell c (some u):=by
  intro i x v e1 e2 e3;have hi:i<σ.length:=by
   by_cases hi:i<σ.length
   ·exact hi
   ·rw[gm 17#0,gQ] at e2
    split at e2<;>cases e2
  have e2':σ[i]?=some (some v):=by rw[gb hi] at e2;exact e2
  have hi0:i<N0.length:=by rw[T.len,<-I3.len];exact hi
  have e1':N0[i]?=some x:=by rw[gb hi0] at e1;exact e1
  obtain⟨n1,n2⟩:=T.vis i x e1' e3;have cp:=T.cap _ (PySem.mem_of_lookup n2) rfl;obtain⟨m,hn,hl⟩:=I3.loc;have vis:Vis X.env.scope x:=by
   rcases cp with z | z
   ·exact .inr (.inl z)
   ·exact .inr (.inr z)
  obtain⟨u,r,l⟩:=hl i x v n1 e2' vis;obtain⟨c',hc'⟩:=zB5 (env:=X.env) (ns:=sc.names) (cs:=[]) (x:=x) hfree (.inr (PySem.mem_of_lookup n2));have hc2:(zBj sc X.env).lookup x=some c':=hc';rcases l with ⟨z,u0⟩ | ⟨u0,c,e,q⟩
  ·rcases cp with z' | z'<;>(rw[z] at z';cases z')
  ·have:c=c':=by
    have:=CK _ _ hc2;rw[e] at this;exact Option.some.inj this
   subst this;refine⟨c,u,r,hc2,?_,q⟩;rcases e3 with z | z | z
   ·exfalso
    have:=lookup_relabel_local (env:=X.env) (names:=sc.names) (x:=x)
    -- a free name is not relabelled local
    have nl:∀ {names:List (Str×NameKind)},names.lookup x=some .free->(names.map fun(n,k)=>if (k==NameKind.free&&X.env.scope.kind==.function&&X.env.kindOf n==some .cell) then (n,NameKind.cell) else (n,k)).lookup x≠some .local:=by
     intro names
     induction names with
     | nil=>intro h;simp at h
     | cons p r ih =>
      obtain⟨n,k⟩:=p;intro h;show il x ((if (k==NameKind.free&&X.env.scope.kind==.function&&X.env.kindOf n==some .cell)=true then (n,NameKind.cell) else (n,k))::_)≠_;cases hx:x==n with
      | true =>
       simp only[fU,hx] at h;cases h;by_cases hq:(NameKind.free==NameKind.free&&X.env.scope.kind==.function&&X.env.kindOf n==some .cell)=true
       ·rw[if_pos hq];simp[fU,hx]
       ·rw[if_neg hq];simp[fU,hx]
      | false =>
       simp only[fU,hx] at h;by_cases hq:(k==NameKind.free&&X.env.scope.kind==.function&&X.env.kindOf n==some .cell)=true
       ·rw[if_pos hq];simp only[fU,hx];exact ih h
       ·rw[if_neg hq];simp only[fU,hx];exact ih h
    exact nl n2 z
   ·exact .inl z
   ·exact .inr z
 have σl:(σ++fX own.length none).length=(N0++own).length:=by
  rw[gj,gj,im,T.len,<-I3.len]
 have I4:zT X' [] (σ++fX own.length none) (yx H1 s₂.heap.objs.size (.lst [])) { s₂ with heap:=h₁,toks:=s₂.toks+([]:List (Str×Value)).length }:=by
  refine⟨ok',rfl,I3.bare,Un.kept kp,⟨_,hns₁,fun i x v e1 e2 e3=>?_⟩,fun x c e=>?_,I3.hok.fresh (fP _),fun x c e=>I3.freeC x c (CK x c e),fun p hp=>?_,I3.hok.kept kp,σl⟩
  ·obtain⟨c,u,r,q1,q2,q3⟩:=hlook i x v e1 e2 e3
   obtain⟨o,ho,hd⟩:=q3;exact⟨u,r,.inr ⟨q2,c,q1,o,kp c o ho,hd⟩⟩
  ·obtain⟨v,o,ho,hd⟩:=I3.cell x c (CK x c e)
   exact⟨v,o,kp c o ho,hd⟩
  ·have hp':p∈X.pn++pins:=by
    have:p∈(X.pn++pins)++[]:=hp;simpa using this
   obtain⟨e,n,ne,nf,d⟩:=I3.pin p hp';exact⟨kp _ _ e,n,gc (fK e),pinS p hp',d⟩
 have fpX:∀ {H:Hp},(∀ b∈fp,H b=none)->∀ b∈fp,zCL X' [] H b:=fun {H} hn b hb=>by
  refine⟨hn b hb,(ok'.exf b hb).1,fpS b hb,.inl hb,(ok'.exf b hb).2,fun p hp=>?_⟩;have hp':p∈X.pn++pins:=by
   have:p∈(X.pn++pins)++[]:=hp;simpa using this
  exact(f2 b hb).2.2.2.2.2 p hp'
 have st4:tn 0 h₁:=Tn.keep 0 s₂.heap h₁ st2 fun b hb o e=>kp b o (hH2▸fC _ e)
 -- back to the context around
 have back:∀ {σ':St} {H':Hp} {s':Shared},zT X' [] σ' H' s'->zT X pins σ H' s'/\zCL X pins H' h3.objs.size/\∃ m,s'.heap.Ns h3.objs.size m:=fun {σ' H' s'} J=>by
  have u:Un (frs X.stack) fp (yx H1 s₂.heap.objs.size (.lst [])) H' h3 s'.heap:=J.base;have J3:zT X pins σ H' s':=I3.call' J.os u J.hok J.bare fun b hb=>⟨(f2 b hb).2.2.2.1,(f2 b hb).2.1,(f2 b hb).2.2.2.2.1,(f2 b hb).2.2.2.2.2⟩
  obtain⟨m,hn,u0⟩:=J.loc;refine⟨J3,?_,m,hn⟩;refine⟨J.free,Nat.ne_of_gt I3.lt,I3.nofs (fP _),.inr I3.sz,fun x c e z=>?_,fun p hp z=>?_⟩
  ·obtain⟨v,q⟩:=I3.cell x c e
   exact absurd (fN q.lt (by rw[z];exact fP _)) (gn _)
  ·exact absurd (fN (fK (I3.pin p hp).1) (by rw[z];exact fP _)) (gn _)
 have hnote:∀ {σ':St} {H1 H':Hp} {s1 s':Shared} {e:Addr} {B:Heap},zT X' [] σ' H1 s1->XE X'.prog X'.w X'.stack H1 s1 Ce e H' B s'->Z H'->wpAny (model X'.prog X'.w) X'.A (noteFrame (.ref e) X'.env) (fun u0 s2=>zKw X Ce Z h3.objs.size (.ref e) s2) (fun x s2=>zKw X Ce Z h3.objs.size x s2) s':=fun {σ' H1 H' s1 s' e B} J x hZ=>by
  obtain⟨J3,f,m,hn⟩:=back J;refine fV (show wpAny _ X.A (noteFrame (.ref e) X.env) _ _ s' from XE.through (E:=fun u0 u0=>False) (what:="comprehension.variables-let-go") stk frm exn J3 x hn f.1 (nofs (fP _)) I3.sz) (fun u0 s2 z=>?_) fun u0 u0 z=>z.elim;exact⟨m,z.1,e,H',rfl,hZ,z.2⟩
 have loop:∀ s₅:Shared,s₅={ s₂ with heap:=h₁,toks:=s₂.toks+([]:List (Str×Value)).length } ->
   codeAny 13#0 X.A (.compLoop 23#0 0 (.ref it) (.ref s₂.heap.objs.size) X'.env)
    (fun r s'=>∃ x,r=.error x/\zKw X Ce Z h3.objs.size x s') s₅:=by
  rintro s₅ rfl;exact zJr (X':=X') hc (fun u0 u0 z=>z) Tn (hg _ _ _ _ _) (ht _ _ _ _ _) (he _ _ _ _ _) (hxe _ _ _ _ _) turn fpX hnote I4 st4 fpD w0
 exact codeAny_compStart_list (loop _ rfl) (Tn.self _ 0 _ _ _ st4 (loop _ rfl))
def zJs(n0:Nat)(wi:TI)(g:TG)(tc:TT)(te:TE)(tx:TX):TX:=fun σ H Z=>wi σ H fun J H1=>∀ D,H1 D=none->∃ W:Nat->Nat->Hp->Prop,(∃ m,W 0 m (yx H1 D (.lst []))) /\
 ∀ i m H2,W i m H2->J.go i H2/\∀ x H3,J.yld i H2 x H3->g x (σ++fX n0 none) H3 fun σ4 H4=>σ4.take σ.length=σ/\σ4.length=σ.length+n0/\tc σ4 H4 fun b H5 =>
   if b=true then ((te σ4 H5 fun v H6=>∃ acc,H6 D=some (.lst acc)/\acc.length<sizeLine/\∃ m',m'<m/\W (i+1) m' (yx H6 D (.lst (acc++[v]))))\/tx σ4 H5 Z) else ∃ m',m'<m/\W (i+1) m' H5
theorem zPh{Ce:Addr}{tx:TX}(no:∀ v s,¬ X.xe v s)(stk:X.stack=X.env::X.outer)(frm:X.env.frame=some X.env.locals)(exn:X.ex=[])(hc:X.calm=true)(T:zBd X sc N0)(hi:PI X tg iter wi)
  (hg:∀ C s H fp pins,PG 25#0 tg g) (ht:∀ C s H fp pins,PTs 25#0 ifs tc) (he:∀ C s H fp pins,PE 25#0 elt te) (hxe:∀ C s H fp pins,XcV 25#0 Ce elt tx)
  {pins:20#0} {s:Shared} {σ:St} {H:Hp} {Z:Hp->Prop} (I:16#0) (h:zJs own.length wi g tc te tx σ H Z) (hs:15#0) :
  wpAny 13#0 X.A (eval 23#0 X.env) (fun u0 u0=>False) (fun v s'=>∃ e H' B,v=.ref e/\XB X Ce e H' B s'/\Z H') s:=by
 rw[eval_ListComp];refine iw (use:=none) rfl hs (wb fun y hy hf=>I.ok.has _ (T.cap y hy hf)) T.kind T.names ?_;have nox:∀ {α:Type} {t:Sem α} {Q:α->Shared->Prop} {E':10#0} {s:Shared},wpAny 13#0 X.A t Q X.xe s->wpAny 13#0 X.A t Q E' s:=fun h=>fV h (fun u0 u0 q=>q) fun v s z=>(no v s z).elim;refine nox (yV (hi pins s σ H _ I h) fun xv s₁ h₁=>nox (yV h₁ fun it s₂ h₂=>?_));refine yV (zEp (iter:=iter) (pos:=pos) stk frm exn hc T hg ht he hxe h₂) fun acc s₃ h₃=>yV h₃ fun cenv s₄ h₄=>gG h₄ fun r s' hr=>?_;obtain⟨x,rfl,m,hn,e,H',rfl,hZ,hp⟩:=hr;refine⟨m,hn,fun h' sb cenv' hc'=>fV (hp h' sb cenv' hc') (fun u0 u0 z=>z) fun v s3 ⟨B',e1,xb⟩=>⟨e,H',B',e1,xb,hZ⟩⟩
end
section
variable {κ:Type} [DecidableEq κ]
noncomputable def zDd(kvs:List (κ×V))(k:κ):Option V:=(kvs.find? fun kv=>decide (kv.1=k)).map (·.2)
noncomputable def putK(kvs:List (κ×V))(k:κ)(v:V):List (κ×V) :=
 if (kvs.any fun kv=>decide (kv.1=k))=true then kvs.map (fun kv=>if kv.1=k then (kv.1,v) else kv) else kvs++[(k,v)]
theorem zDt{p:κ×V}{r:List (κ×V)}{k:κ}(e:p.1=k):zDd (p::r) k=some p.2:=by simp[zDd,hW,e]
theorem zDu{p:κ×V}{r:List (κ×V)}{k:κ}(e:¬ p.1=k):zDd (p::r) k=zDd r k:=by simp[zDd,hW,e]
theorem zId(k:κ):∀ kvs:List (κ×V),(kvs.any fun kv=>decide (kv.1=k))=(zDd kvs k).isSome
 | []=>rfl
 | p::r=>by
  rw[List.any_cons];by_cases e:p.1=k
  ·simp only[zDt e,decide_eq_true e,Bool.true_or,Option.isSome_some]
  ·rw[zDu e,decide_eq_false e,Bool.false_or];exact zId k r
theorem zEq(kvs:List (κ×V))(k:κ)(v:V):(putK kvs k v).length<=kvs.length+1:=by
 unfold putK;split
 ·rw[fE];omega
 ·rw[gj,gi,iC];omega
theorem zDS.isSome_eq{o:Option V}{u:Option Value}(r:zDS o u):o.isSome=u.isSome:=by
 cases o with
 | none=>cases u with
  | none=>rfl
  | some _=>exact(show False from r).elim
 | some _=>cases u with
  | none=>exact(show False from r).elim
  | some _=>rfl
theorem zDS.getD{o:Option V}{u:Option Value}{d:V}{d':Value}(r:zDS o u)(rd:RelV d d'):RelV (o.getD d) (u.getD d'):=by
 cases o with
 | none=>cases u with
  | none=>exact rd
  | some _=>exact(show False from r).elim
 | some _=>cases u with
  | none=>exact(show False from r).elim
  | some _=>exact r
theorem KV.val{kvs:List (κ×V)}{vs:List (κ×Value)}(r:KV kvs vs)(k:κ):zDS (zDd kvs k) (valueAt vs k):=by
 unfold KV at r
 induction r with
 | nil=>exact True.intro
 | @cons p q ps qs h t ih =>
  obtain⟨h1,h2⟩:=h;by_cases e:p.1=k
  ·have e':q.1=k:=h1.symm.trans e
   have b:valueAt (q::qs) k=some q.2:=by simp[valueAt,hW,e']
   rw[zDt e,b];exact h2
  ·have e':¬ q.1=k:=fun z=>e (h1.trans z)
   have b:valueAt (q::qs) k=valueAt qs k:=by simp[valueAt,hW,e']
   rw[zDu e,b];exact ih
theorem KV.any{kvs:List (κ×V)}{vs:List (κ×Value)}(r:KV kvs vs)(k:κ):(kvs.any fun kv=>decide (kv.1=k))=vs.any fun kv=>decide (kv.1=k):=by
 unfold KV at r
 induction r with
 | nil=>rfl
 | cons h t ih=>rw[List.any_cons,List.any_cons,ih,h.1]
theorem KV.repl{kvs:List (κ×V)}{vs:List (κ×Value)}(r:KV kvs vs)(k:κ){y:V}{u:Value}(ry:RelV y u) :
  KV (kvs.map fun kv=>if kv.1=k then (kv.1,y) else kv) (vs.map fun kv=>if kv.1=k then (kv.1,u) else kv):=by
 unfold KV at r ⊢
 induction r with
 | nil=>exact .nil
 | @cons p q ps qs h t ih =>
  rw[fJ,fJ];refine .cons ?_ ih;obtain⟨h1,h2⟩:=h;by_cases e:p.1=k
  ·rw[if_pos e,if_pos (h1.symm.trans e)];exact⟨h1,ry⟩
  ·rw[if_neg e,if_neg (fun z=>e (h1.trans z))];exact⟨h1,h2⟩
theorem KV.put{kvs:List (κ×V)}{vs:List (κ×Value)}(r:KV kvs vs)(k:κ){y:V}{u:Value}(ry:RelV y u):KV (putK kvs k y) (stored vs k u):=by
 unfold putK stored;rw[r.any k];by_cases e:(vs.any fun kv=>decide (kv.1=k))=true
 ·rw[if_pos e,if_pos e];exact r.repl k ry
 ·rw[if_neg e,if_neg e];exact Paired.snoc r ⟨rfl,ry⟩
theorem KV.keys{kvs:List (κ×V)}{vs:List (κ×Value)}(r:KV kvs vs):kvs.map (·.1)=vs.map (·.1):=by
 unfold KV at r
 induction r with
 | nil=>rfl
 | cons h t ih=>rw[fJ,fJ,ih,h.1]
theorem KV.length{kvs:List (κ×V)}{vs:List (κ×Value)}(r:KV kvs vs):kvs.length=vs.length:=Paired.length r
end
theorem zIe{P:Program}{w:World}{k:Key}{u:Value}(r:RelV (kV k) u):(yG P w).is k u=true:=by
 cases k with
 | inl i=>obtain⟨t,e⟩:=(show ∃ t,u=Value.int i t from r);subst e;exact zIG P w i t
 | inr x=>obtain⟨t,e⟩:=(show ∃ t,u=Value.str x t from r);subst e;exact zEd P w x t
theorem zGv{P:Program}{w:World}:∀ {ks:List Key} {us:List Value},zy (ks.map kV) us->ItemsAre (yG P w) ks us
 | [],_,r=>by rw[List.map_nil] at r;cases r;exact .nil
 | k::ks,_,r=>by
  rw[fJ] at r;cases r with
  | cons h t=>exact .cons (zIe h) (zGv t)
abbrev KT(H:Hp):List (List Key×V)->List (List Key×Addr×Value)->Prop:=Paired fun p q=>p.1=q.1/\H q.2.1=some (.tup (p.1.map kV))/\RelV p.2 q.2.2
theorem KT.val{H:Hp}{kvs:List (List Key×V)}{xs:List (List Key×Addr×Value)}(r:KT H kvs xs)(k:List Key):zDS (zDd kvs k) ((atKey xs k).map (·.2)):=by
 induction r with
 | nil=>exact True.intro
 | @cons p q ps qs h t ih =>
  obtain⟨h1,u0,h2⟩:=h;by_cases e:p.1=k
  ·have e':q.1=k:=h1.symm.trans e
   have b:atKey (q::qs) k=some q.2:=by simp[atKey,hW,e']
   rw[zDt e,b];exact h2
  ·have e':¬ q.1=k:=fun z=>e (h1.trans z)
   have b:atKey (q::qs) k=atKey qs k:=by simp[atKey,hW,e']
   rw[zDu e,b];exact ih
theorem KT.repl{H:Hp}{kvs:List (List Key×V)}{xs:List (List Key×Addr×Value)}(r:KT H kvs xs)(k:List Key){y:V}{u:Value}(ry:RelV y u) :
  KT H (kvs.map fun kv=>if kv.1=k then (kv.1,y) else kv) (xs.map (putAt k u)):=by
 induction r with
 | nil=>exact .nil
 | @cons p q ps qs h t ih =>
  rw[fJ,fJ];refine .cons ?_ ih;obtain⟨h1,h2,h3⟩:=h;unfold putAt;by_cases e:p.1=k
  ·rw[if_pos e,if_pos (h1.symm.trans e)];exact⟨h1,h2,ry⟩
  ·rw[if_neg e,if_neg (fun z=>e (h1.trans z))];exact⟨h1,h2,h3⟩
theorem KT.put{H:Hp}{kvs:List (List Key×V)}{xs:List (List Key×Addr×Value)}(r:KT H kvs xs)(k:List Key){b:Addr}{y:V}{u:Value}(hb:H b=some (.tup (k.map kV)))(ry:RelV y u) :
  KT H (putK kvs k y) (storedH xs k b u):=by
 have e:(kvs.any fun kv=>decide (kv.1=k))=(atKey xs k).isSome:=by
  rw[zId,(r.val k).isSome_eq,Option.isSome_map]
 unfold putK storedH;rw[e];by_cases q:(atKey xs k).isSome=true
 ·rw[if_pos q,if_pos q];exact r.repl k ry
 ·rw[if_neg q,if_neg q];exact Paired.snoc r ⟨rfl,hb,ry⟩
theorem KT.keeps{H H':Hp}{kvs:List (List Key×V)}{xs:List (List Key×Addr×Value)}(r:KT H kvs xs)(ht:∀ b ys,H b=some (.tup ys)->H' b=some (.tup ys)):KT H' kvs xs :=
 Paired.mapP r fun u0 u0 z=>⟨z.1,ht _ _ z.2.1,z.2.2⟩
section
variable {P:Program} {w:World} {H:Hp} {h:Heap} {a:Addr}
theorem zQv{u:HO}(ok:HOk P w H h)(e:Rd H a u):yy P w H h a u:=e.ok ok
theorem zKx{kvs:List (Key×V)}(ok:HOk P w H h)(e:Rd H a (.dK kvs)):kvs.length<=sizeLine/\(a==sysModules)=false/\∃ vs,KV kvs vs/\h.DictOf (yG P w) a vs :=
 show yy P w H h a (.dK kvs) from zQv ok e
theorem zTh{kvs:List (Key×V)}(ok:HOk P w H h)(e:H a=some (.dK kvs)):kvs.length<=sizeLine/\(a==sysModules)=false/\∃ vs,KV kvs vs/\h.DictOf (yG P w) a vs:=zKx ok (.inl e)
theorem zJt{ks:List Key}(ok:HOk P w H h)(e:H a=some (.tup (ks.map kV))):(tupleKind (yG P w)).is h ks a:=by
 obtain⟨u0,its,r,o,h1,h2,⟨n,h3⟩,u0⟩:=(show yy P w H h a (.tup (ks.map kV)) from ok a _ e)
 exact⟨o,its.toArray,n,h1,h2,h3,by simpa using zGv r⟩
theorem zNU{kvs:List (List Key×V)}(ok:HOk P w H h)(e:Rd H a (.dT kvs)):kvs.length<=sizeLine/\(a==sysModules)=false /\
  ∃ xs,KT H kvs xs/\h.DictOfH (tupleKind (yG P w)) a xs:=by
 obtain⟨z,y,xs,r,o,es,ep,h1,h2,h3,h4,h5⟩:=(show yy P w H h a (.dT kvs) from zQv ok e)
 refine⟨z,y,xs,r,o,es,ep,h1,h2,h3,h4,fun x hx=>?_,h5⟩;have all:∀ {l:List (List Key×V)} {m:List (List Key×Addr×Value)},KT H l m->∀ x∈m,(tupleKind (yG P w)).is h x.1 x.2.1:=by
  intro l m q
  induction q with
  | nil=>intro x hx;exact nomatch hx
  | @cons p q ps qs hq t ih =>
   intro x hx;rcases fS.mp hx with e | hx
   ·subst e
    exact zJt ok (by rw[<-hq.1];exact hq.2.1)
   ·exact ih x hx
 exact all r x hx
theorem zTi{kvs:List (List Key×V)}(ok:HOk P w H h)(e:H a=some (.dT kvs)):kvs.length<=sizeLine/\(a==sysModules)=false /\
  ∃ xs,KT H kvs xs/\h.DictOfH (tupleKind (yG P w)) a xs:=zNU ok (.inl e)
end
def zLy(H:Hp)(a:Addr)(y:V)(r:Option V):Prop :=
 (∃ kvs k,Rd H a (.dK kvs)/\y=kV k/\r=zDd kvs k)\/∃ kvs k b,Rd H a (.dT kvs)/\y=.ref b/\H b=some (.tup (k.map kV))/\r=zDd kvs k
def zJu(H:Hp)(a:Addr)(y v:V)(H':Hp):Prop :=
 (∃ kvs k,H a=some (.dK kvs)/\y=kV k/\kvs.length<sizeLine/\H'=yx H a (.dK (putK kvs k v))) \/
 ∃ kvs k b,H a=some (.dT kvs)/\y=.ref b/\H b=some (.tup (k.map kV))/\kvs.length<sizeLine/\H'=yx H a (.dT (putK kvs k v))
theorem zLy.k{H:Hp}{a:Addr}{kvs:List (Key×V)}{k:Key}(e:H a=some (.dK kvs)):zLy H a (kV k) (zDd kvs k):=.inl ⟨kvs,k,.inl e,rfl,rfl⟩
theorem zLy.t{H:Hp}{a b:Addr}{kvs:List (List Key×V)}{k:List Key}(e:H a=some (.dT kvs))(eb:H b=some (.tup (k.map kV))):zLy H a (.ref b) (zDd kvs k):=.inr ⟨kvs,k,b,.inl e,rfl,eb,rfl⟩
theorem zJu.k{H:Hp}{a:Addr}{kvs:List (Key×V)}{k:Key}{v:V}(e:H a=some (.dK kvs))(hl:kvs.length<sizeLine):zJu H a (kV k) v (yx H a (.dK (putK kvs k v))):=.inl ⟨kvs,k,e,rfl,hl,rfl⟩
theorem zJu.t{H:Hp}{a b:Addr}{kvs:List (List Key×V)}{k:List Key}{v:V}(e:H a=some (.dT kvs))(eb:H b=some (.tup (k.map kV)))(hl:kvs.length<sizeLine) :
  zJu H a (.ref b) v (yx H a (.dT (putK kvs k v))):=.inr ⟨kvs,k,b,e,rfl,eb,hl,rfl⟩
section
variable {X:Cx} {pins:List (Addr×Obj)} {σ:St} {H:Hp} {s:Shared} {a:Addr} {y v:V} {u r:Value} {o:Option V} {A:Around} {E:Value->Shared->Prop}
theorem zT.big(I:16#0):sysModules<s.heap.objs.size:=by
 have h:mainGlobals<s.heap.objs.size:=(I.mod.glob.keeps I.bk).lt;exact Nat.lt_trans 11#0 h
theorem zKy{h':Heap}{t':Nat}{ob:HO}(I:16#0)(mu:Mut (H a))(hs:gW a s.heap h')(he:∃ q,h'.get? a=some q)(new:yy X.prog X.w (yx H a ob) h' a ob) :
  zT X pins σ (yx H a ob) { s with heap:=h',toks:=t' } :=
 I.write (x:=a) (e:=a) mu (.inl rfl) (fun b q hb z=>(hs.2 b hb).trans z) he new
theorem zR9{P:Program}{w:World}{H':Hp}{h':Heap}{kvs:List (Key×V)}{vs:List (Key×Value)}(z:kvs.length<=sizeLine)(hd:(a==sysModules)=false)(rel:KV kvs vs)(dd:h'.DictOf (yG P w) a vs) :
  yy P w H' h' a (.dK kvs):=⟨z,hd,vs,rel,dd⟩
theorem zLz{H':Hp}{Q:Unit->Shared->Prop}(hu:A.units+1<cLine)(I:16#0)(g:zJu H a y v H')(ry:RelV y u)(rv:RelV v r)(h:∀ s',zT X pins σ H' s'->Q () s') :
  wpAny 13#0 A (setItem (.ref a) u r) Q E s:=by
 rcases g with ⟨kvs,k,e,ey,l,eH⟩ | ⟨kvs,k,b,e,ey,eb,l,eH⟩
 ·subst ey eH
  obtain⟨z,hd,vs,rel,dd⟩:=zTh I.hok e;have hz:vs.length<=sizeLine:=by rw[<-rel.length];exact z
  have hl:(putK kvs k v).length<=sizeLine:=by have:=zEq kvs k v;omega
  refine wpAny_setItem_pairs (hsz:=hz) (zIe ry) dd fun h' dd' hs=>h _ ?_;have he:∃ q,h'.get? a=some q:=let ⟨q,_,_,hq,_⟩:=dd';⟨q,hq⟩;exact zKy I (by rw[e];exact True.intro) hs he (zR9 hl hd (rel.put k rv) dd')
 ·subst ey eH
  cases (show u=Value.ref b from ry);obtain⟨z,hd,xs,rel,dd⟩:=zTi I.hok e;have hz:xs.length<=sizeLine:=by rw[<-Paired.length rel];exact z
  have hl:(putK kvs k v).length<=sizeLine:=by have:=zEq kvs k v;omega
  refine wpAny_setItem_heap (hsz:=hz) (tupleKind_room_in1 hu) (zJt I.hok eb) dd fun h' dd' hs=>h _ ?_;obtain⟨q,es,ep,hq,h2,h3,h4,u0,h5⟩:=dd';refine zKy I (by rw[e];exact True.intro) hs ⟨q,hq⟩ ⟨hl,hd,_,(rel.put k eb rv).keeps fun c ys ec=>?_,q,es,ep,hq,h2,h3,h4,h5⟩;rw[zr (zKY ec e (fun z=>nomatch z))];exact ec
end
section
variable {X:Cx} {pins:List (Addr×Obj)} {σ:St} {H:Hp} {s:Shared} {a:Addr} {kvs:List (Key×V)} {k:Key} {u:Value} {A:Around} {E:Value->Shared->Prop}
end
def zTj(i:Expr):Prop:=∀ ov iv,subscripted i false ov iv=operate [ov,iv] (getItem ov iv)
theorem zPi{prog:Program}{w:World}{A:Around}{E:10#0}{s:Shared}{env:Env}{value slice:Expr}{pos:Pos}{T id:String}{Q:10#0}
  (hl:typeLookup (.type T) "__getitem__"=pure (some (.builtin id))) (hs:zTj slice)
  (h:wpAny 35#0 A (eval value env) (fun o s₁=>wpAny 35#0 A (eval slice env) (fun i s₂=>s₂.TypeIs o T/\wpAny 35#0 A (getItem o i) Q E s₂) E s₁) E s) :
  wpAny 35#0 A (eval (.Subscript value slice pos) env) Q E s:=by
 refine Subscript_ (fV h (fun o s₁ h₁=>fV h₁ (fun i s₂ h₂=>?_) fun u0 u0 x=>x) fun u0 u0 x=>x);obtain⟨hT,h₂⟩:=h₂;unfold subscriptTail;refine fB ?_;rw[getitemInPython_of_ne hT.not_modules];refine fB (wpAny_specialOf hT hl ?_);have fin:wpAny 35#0 A (subscripted slice false o i) (fun r s₃=>wpAny 35#0 A (letTemporaryGo value o r>>=fun u0=>pure r) Q E s₃) E s₂:=by
  rw[hs o i];exact wpAny_operating (fV h₂ (fun r s₃ h₃=>fB (wpAny_letTemporaryGo (fF h₃))) fun u0 u0 x=>x)
 first
  | exact fF (fB fin)
  | exact fB (fF (fB fin))
  | exact fB fin
def zTk(td ty tv:TE):TS:=fun D σ H=>tv σ H fun v H1=>td σ H1 fun x H2=>ty σ H2 fun y H3=>∃ a H4,x=.ref a/\zJu H3 a y v H4/\D.nx σ H4
section
variable {X:Cx} {o i e value:Expr} {pos pos' tpos:Pos} {td ty tv:TE}
theorem zPj(hu:X.A.units+1<cLine)(ho:PE X o td)(hi:PE X i ty)(hv:PE X value tv)(hs:swapsWith value (some (.Subscript o i pos')) pos.line X.env=pure false) :
  PS X (.Assign [.Subscript o i pos'] value pos) (zTk td ty tv):=by
 intro pins s σ H D I h;refine wpAny_Assign_Subscript (yV (hv pins s σ H _ I h) fun r s1 ⟨v,H1,I1,rv,q1⟩=>yV (ho pins s1 σ H1 _ I1 q1) fun u s2 ⟨x,H2,I2,rx,q2⟩=>yV (hi pins s2 σ H2 _ I2 q2) fun iv s3 ⟨y,H3,I3,ry,a,H4,ex,g,q3⟩=>?_) hs;subst ex;obtain rfl:u=Value.ref a:=rx;exact zLz hu I3 g ry rv fun s4 I4=>⟨σ,H4,I4,q3⟩
end
theorem zNV{P:Program}{w:World}{H:Hp}(h:Heap)(hb:sysModules<h.objs.size):yy P w H (h.push { cls:=.type "dict",data:=.dict #[] }) h.objs.size (.dK []) :=
 ⟨i7 _,beq_eq_false_iff_ne.mpr (Ne.symm (gc hb)),[],.nil,Heap.DictOf.new h⟩
def zSA:TE:=fun u0 H Q=>∀ p,H p=none->Q (.ref p) (yx H p (.dK []))
section
variable {X:Cx} {pos:Pos}
theorem zNW:PE X (.Dict [] [] pos) zSA:=fun pins s σ H Q I h =>
 wpAny_Dict_empty ⟨.ref s.heap.objs.size,_,I.laid (a:=s.heap.objs.size) (o:=.dK []) (t':=s.toks) (fun u0 u0 q=>fC _ q) (fP _) (zNV s.heap I.big),rfl,h _ (I.hok.fresh (fP _))⟩
end
structure M1 (X:Cx) (o:Expr) (m:Str) (apos:Pos) (e:Expr) (cpos:Pos):Prop where
 base:attributeBase o m X.env (eval o X.env)=eval o X.env
 few:((backTo cpos (starEach [e] X.env)).all (fun x=>!x.1)&&(backToKw cpos (keywordEach [] X.env)).all (fun x=>x.1.isSome)
  && decide (([e]:List Expr).length+([]:List Keyword).length+(if ([]:List Keyword).isEmpty then 0 else 1)<30))=true
 line:(apos.endLine==cpos.line)=true
 trees:backTo cpos (starEach [e] X.env)=[(false,eval e X.env)]
def IsD(H:Hp)(a:Addr):Prop:=(∃ kvs,Rd H a (.dK kvs))\/∃ kvs,Rd H a (.dT kvs)
theorem zSB{X:Cx}{pins:20#0}{σ:St}{H:Hp}{s:Shared}{a:Addr}(I:16#0)(d:IsD H a) :
  s.TypeIs (.ref a) "dict"/\(∀ b,Value.ref a=.ref b->∃ ob,s.heap.get? b=some ob/\ob.dict=none)/\(a==sysModules)=false:=by
 rcases d with ⟨kvs,e⟩ | ⟨kvs,e⟩
 ·obtain⟨u0,hd,vs,u0,dd⟩:=zKx I.hok e
  refine⟨dd.typeIs,fun b q=>?_,hd⟩;cases q;obtain⟨ob,u0,u0,h1,h2,u0⟩:=dd;exact⟨ob,h1,h2.2.1⟩
 ·obtain⟨u0,hd,xs,u0,dd⟩:=zNU I.hok e
  refine⟨dd.typeIs,fun b q=>?_,hd⟩;cases q;obtain⟨ob,u0,u0,h1,h2,u0⟩:=dd;exact⟨ob,h1,h2.2.1⟩
section
variable {X:Cx} {pins:List (Addr×Obj)} {σ:St} {H:Hp} {s:Shared} {a:Addr} {y d:V} {u r:Value} {o:Option V} {A:Around} {E:Value->Shared->Prop}
theorem zSC{Q:10#0}(hu:A.units+1<cLine)(I:16#0)(g:zLy H a y o)(ry:RelV y u)(h:∀ w' s',zT X pins σ H s'->RelV (o.getD .non) w'->Q w' s') :
  wpAny 13#0 A (call (.builtin "dict.get") [.ref a,u]) Q E s:=by
 rcases g with ⟨kvs,k,e,ey,l⟩ | ⟨kvs,k,b,e,ey,eb,l⟩
 ·subst ey
  obtain⟨z,hd,vs,rel,dd⟩:=zKx I.hok e;refine call_meetsIn PySem.F.slot_dict_get dd.typeIs PySem.F.entry_dict_get (PySem.F.args_dict_get_2 _ _) (meets_dict_get (yG X.prog X.w) a (zIe ry) hd) ⟨_,dd.mapOf,h _ _ (I.tok _) ?_⟩;rw[l];exact(rel.val k).getD rfl
 ·subst ey
  cases (show u=Value.ref b from ry);obtain⟨z,hd,xs,rel,dd⟩:=zNU I.hok e;refine call_meetsIn PySem.F.slot_dict_get dd.typeIs PySem.F.entry_dict_get (PySem.F.args_dict_get_2 _ _) (meetsH_dict_get (tupleKind (yG X.prog X.w)) a b hd) ⟨tupleKind_room_in1 hu,k,xs,zJt I.hok eb,dd,h _ _ (I.tok _) ?_⟩;rw[l];exact(rel.val k).getD rfl
end
def zSD(td ty:TE):TE:=fun σ H Q=>td σ H fun x H1=>∃ a,x=.ref a/\IsD H1 a/\ty σ H1 fun y H2=>∃ o,zLy H2 a y o/\Q (o.getD .non) H2
section
variable {X:Cx} {o e f:Expr} {apos cpos:Pos} {td ty tx:TE}
theorem zNX(hu:X.A.units+1<cLine)(ho:PE X o td)(he:PE X e ty)(m:M1 X o "get" apos e cpos):PE X (.Call (.Attribute o "get" apos) [e] [] cpos) (zSD td ty):=by
 intro pins s σ H Q I h;refine wpAny_Call_method m.base m.few m.line PySem.F.plainAttrs_dict PySem.F.slot_dict_get PySem.F.type_dict_get (yV (ho pins s σ H _ I h) fun u s1 u9=>?_);obtain⟨x,H1,I1,rx,a,ex,d,q1⟩:=u9;subst ex;obtain rfl:u=Value.ref a:=rx;obtain⟨t1,t2,u0⟩:=zSB I1 d;refine⟨t1,t2,?_⟩;rw[m.trees];refine Calls.callWith_builtin rfl (Calls.evalArgs_plain (Calls.spliced_cons (yV (he pins s1 σ H1 _ I1 q1) fun iv s2 ⟨y,H2,I2,ry,ov,g,q2⟩=>Calls.spliced_nil ?_)));exact zSC hu I2 g ry fun w' s3 I3 rw'=>⟨_,H2,I3,rw',q2⟩
end
end L2
namespace L3
open L2
noncomputable def putD(k:Str)(d:D):List (Str×D)->List (Str×D)
 | []=>[(k,d)]
 | (g,x)::r=>if g=k then (g,d)::r else (g,x)::putD k d r
section
variable {K:PySem.W.Frag} {H:Hp}
theorem zFC{f:Str}:∀ {fs:List (Str×D)} {xs:List V},Dens K H (fs.map (·.2)) xs->(∀ d,fs.lookup f=some d->∃ v,((fs.map (·.1)).zip xs).lookup f=some v/\zQ K H d v)/\(fs.lookup f=none->((fs.map (·.1)).zip xs).lookup f=none)
 | [],xs,h=>⟨fun d e=>(by cases e),fun u0=>rfl⟩
 | (g,x)::r,xs,h=>by
  rw[fJ] at h;unfold Dens at h;obtain⟨y,ys,rfl,h1,h2⟩:=h;have ih:=zFC (f:=f) h2;rw[fJ,gx,fU,fU];cases hg:(f==g) with
  | true =>
   refine⟨fun d e=>?_,fun e=>by cases e⟩;cases e;exact⟨y,rfl,h1⟩
  | false=>exact ih
theorem zNY{f:Str}{d:D}{v:V}(hv:zQ K H d v):∀ {fs:List (Str×D)} {xs:List V},Dens K H (fs.map (·.2)) xs->∃ ys,zCN f v ((fs.map (·.1)).zip xs)=((putD f d fs).map (·.1)).zip ys/\Dens K H ((putD f d fs).map (·.2)) ys
 | [],xs,h=>⟨[v],rfl,.cons hv .nil⟩
 | (g,x)::r,xs,h=>by
  rw[fJ] at h;unfold Dens at h;obtain⟨y,ys,rfl,h1,h2⟩:=h;rw[fJ,gx];unfold zCN putD;by_cases hg:g=f
  ·rw[if_pos hg,if_pos hg]
   exact⟨v::ys,rfl,.cons hv h2⟩
  ·rw[if_neg hg,if_neg hg]
   obtain⟨zs,e1,e2⟩:=zNY (f:=f) hv h2;exact⟨y::zs,by rw[e1];rfl,.cons h1 e2⟩
noncomputable abbrev kz(kvs:List (Str×D))(xs:List V):List (Key×V):=(kvs.map fun kv=>(Sum.inr kv.1:Key)).zip xs
theorem zKz{f:Str}:∀ {fs:List (Str×D)} {xs:List V},Dens K H (fs.map (·.2)) xs->(∀ d,fs.lookup f=some d->∃ v,zDd (kz fs xs) (Sum.inr f)=some v/\zQ K H d v)/\(fs.lookup f=none->zDd (kz fs xs) (Sum.inr f)=none)
 | [],xs,h=>⟨fun d e=>(by cases e),fun u0=>rfl⟩
 | (g,x)::r,xs,h=>by
  rw[fJ] at h;unfold Dens at h;obtain⟨y,ys,rfl,h1,h2⟩:=h;have ih:=zKz (f:=f) h2;unfold kz;rw[fJ,gx,fU];cases hg:(f==g) with
  | true =>
   have hg':(Sum.inr g:Key)=Sum.inr f:=by rw[eq_of_beq hg]
   rw[zDt (p:=((Sum.inr g:Key),y)) hg'];refine⟨fun d e=>?_,fun e=>by cases e⟩;cases e;exact⟨y,rfl,h1⟩
  | false =>
   have hg':¬ (Sum.inr g:Key)=Sum.inr f:=fun z=>by rw[Sum.inr.inj z] at hg;simp at hg
   rw[zDu (p:=((Sum.inr g:Key),y)) hg'];exact ih
theorem zSE{fs:List (Str×D)}{xs:List V}(h:Dens K H (fs.map (·.2)) xs):(kz fs xs).length=fs.length:=by
 have:=h.length;rw[fE] at this;unfold kz;rw[iB,fE,<-this,Nat.min_self]
theorem zSF{f:Str}{d:D}{v:V}(hv:zQ K H d v):∀ {fs:List (Str×D)} {xs:List V},(fs.map (·.1)).Nodup->Dens K H (fs.map (·.2)) xs->∃ ys,putK (kz fs xs) (Sum.inr f) v=kz (putD f d fs) ys/\Dens K H ((putD f d fs).map (·.2)) ys:=by
 intro fs xs nd h;by_cases hm:f∈fs.map (·.1)
 ·have:∀ {fs:List (Str×D)} {xs:List V},(fs.map (·.1)).Nodup->f∈fs.map (·.1)->Dens K H (fs.map (·.2)) xs->((kz fs xs).any fun kv=>decide (kv.1=Sum.inr f))=true/\∃ ys,(kz fs xs).map (fun kv=>if kv.1=Sum.inr f then (kv.1,v) else kv)=kz (putD f d fs) ys/\Dens K H ((putD f d fs).map (·.2)) ys:=by
   intro fs
   induction fs with
   | nil=>intro xs u0 hm;cases hm
   | cons p r ih =>
    obtain⟨g,x⟩:=p;intro xs nd hm h;rw[fJ] at h;unfold Dens at h;obtain⟨y,ys,rfl,h1,h2⟩:=h;rw[fJ,ik] at nd;by_cases hg:g=f
    ·subst hg
     refine⟨by unfold kz;simp,v::ys,?_,?_⟩
     ·unfold putD
      rw[if_pos rfl];unfold kz;rw[fJ,gx,fJ,fJ,gx];rw[if_pos rfl];refine congrArg _ ?_;have:∀ kv∈(r.map fun kv=>(Sum.inr kv.1:Key)).zip ys,(if kv.1=Sum.inr g then (kv.1,v) else kv)=kv:=fun kv hkv=>by
       rw[if_neg];intro z;have:=(gM (a:=kv.1) (b:=kv.2) hkv).1;rw[z] at this;obtain⟨q,hq,e⟩:=gf.mp this;exact nd.1 (gf.mpr ⟨q,hq,Sum.inr.inj e⟩)
      conv=>rhs;rw[<-List.map_id ((r.map fun kv=>(Sum.inr kv.1:Key)).zip ys)]
      exact gX this
     ·unfold putD
      rw[if_pos rfl];exact .cons hv h2
    ·have hm':f∈r.map (·.1):=by
      rcases fS.mp hm with z | z
      ·exact absurd z.symm hg
      ·exact z
     obtain⟨a1,zs,e1,e2⟩:=ih nd.2 hm' h2;refine⟨by unfold kz at a1 ⊢;simp only[fJ,gx,List.any_cons,a1,Bool.or_true],y::zs,?_,?_⟩
     ·unfold putD
      rw[if_neg hg];unfold kz at e1 ⊢;rw[fJ,gx,fJ,fJ,gx,e1];rw[if_neg (fun z=>hg (Sum.inr.inj z))]
     ·unfold putD
      rw[if_neg hg];exact .cons h1 e2
  obtain⟨a1,a2⟩:=this nd hm h;unfold putK;rw[if_pos a1];exact a2
 ·have hn:((kz fs xs).any fun kv=>decide (kv.1=Sum.inr f))=false:=by
   rw[List.any_eq_false];intro kv hkv;have:=(gM (a:=kv.1) (b:=kv.2) hkv).1;simp only[decide_eq_true_eq];intro z;rw[z] at this;obtain⟨q,hq,e⟩:=gf.mp this;exact hm (gf.mpr ⟨q,hq,Sum.inr.inj e⟩)
  unfold putK;rw[if_neg (by rw[hn];simp)];have:∀ {fs:List (Str×D)} {xs:List V},f∉fs.map (·.1)->Dens K H (fs.map (·.2)) xs->kz fs xs++[(Sum.inr f,v)]=kz (putD f d fs) (xs++[v])/\Dens K H ((putD f d fs).map (·.2)) (xs++[v]):=by
   intro fs
   induction fs with
   | nil =>
    intro xs u0 h;unfold Dens at h;subst h;exact⟨rfl,.cons hv .nil⟩
   | cons p r ih =>
    obtain⟨g,x⟩:=p;intro xs hm h;rw[fJ] at h;unfold Dens at h;obtain⟨y,ys,rfl,h1,h2⟩:=h;rw[fJ,fS,not_or] at hm;obtain⟨e1,e2⟩:=ih hm.2 h2;unfold putD;rw[if_neg (fun z=>hm.1 z.symm)];refine⟨?_,.cons h1 e2⟩;unfold kz at e1 ⊢;rw[fJ,gx,iM,e1];rfl
  exact⟨_,this hm h⟩
end
section
variable {K:PySem.W.Frag} {G:Gp} {H:Hp}
theorem zt.dfree{p:Addr}(r:zt K G H)(h:H p=none):G.dc p=none:=by
 cases q:G.dc p with
 | none=>rfl
 | some o =>
  obtain⟨u,e,u0⟩:=(r.dc p o q).at;rw[h] at e;cases e
theorem zt.dput{p:Addr}{o:OB}{u u':HO}(r:zt K G H)(h:H p=some u)(hl:∀ xs,u≠.lst xs)(g:zo H (yx H p u'))(ho:zEh K (yx H p u') p o):zt K (zHI G p o) (yx H p u') :=
  ⟨fun a ds e=>by
    obtain⟨xs,e1,e2⟩:=r.m a ds e;have:a≠p:=fun z=>by subst z;rw[h] at e1;cases e1;exact hl _ rfl
    exact⟨xs,by rw[zr this];exact e1,e2.grow g⟩,
   fun a ds e=>by
    obtain⟨xs,e1,e2⟩:=r.ro a ds e;exact⟨xs,g.roL e1,e2.grow g⟩,
   fun a v e=>by
    by_cases ha:a=p
    · subst ha;rw[wO] at e;cases e;exact ho
    · rw[zAI ha] at e
      exact(r.dc a v e).to g (zr ha)⟩
theorem zt.down{p:Addr}{o:OB}(r:zt K G H)(ho:zEh K H p o):zt K (zHI G p o) H :=
 ⟨r.m,r.ro,fun a v e=>by
  by_cases ha:a=p
  ·subst ha;rw[wO] at e;cases e;exact ho
  ·rw[zAI ha] at e;exact r.dc a v e⟩
theorem zo.ins{p C dx:Addr}{fs fs':List (Str×V)}(h:H p=some (.ins C dx fs)):zo H (yx H p (.ins C dx fs')) :=
 ⟨fun a xs e=>by rw[zr (fun z=>by subst z;rw[h] at e;cases e)];exact e,fun a o u e=>by rw[zr (fun z=>by subst z;rw[h] at e;cases e)];exact e⟩
theorem zo.dk{p:Addr}{fs fs':List (Key×V)}(h:H p=some (.dK fs)):zo H (yx H p (.dK fs')) :=
 ⟨fun a xs e=>by rw[zr (fun z=>by subst z;rw[h] at e;cases e)];exact e,fun a o u e=>by rw[zr (fun z=>by subst z;rw[h] at e;cases e)];exact e⟩
end
section
variable {X:Cx} {o e value:Expr} {f:Str} {pos pos' apos cpos:Pos} {to te tv tk:zm} {C:Addr}
def zCj(C:Addr)(to:zm)(f:Str):zm:=fun σ G R=>to σ G fun d G1=>match d with
 | .adr a=>∃ dx fs v,G1.dc a=some (.ins C dx fs)/\fs.lookup f=some v/\R v G1
 | _=>False
theorem zCC(c:Cls X.K C)(n:wN X.K C f)(ho:E2 X o to)(hb:autoParam (attributeBase o f X.env (eval o X.env)=eval o X.env) Zq5._auto_1):E2 X (.Attribute o f pos) (zCj C to f):=by
 refine PE.mono (zRe ho hb) ?_;sleep 1;refine⟨σ,G,_,r,q,fun d G1 q1 v H1 g1 r1 d1=>?_⟩;split at q1
 ·rename_i a
  obtain⟨dx,fs,v',e1,e2,q1⟩:=q1;unfold zQ at d1;subst d1;obtain⟨xs,h1,h2⟩:=r1.dc a _ e1;obtain⟨y,h3,h4⟩:=(zFC h2).1 _ e2;exact⟨a,C,dx,_,y,rfl,h1,c,n,h3,k _ G1 q1 _ H1 g1 r1 h4⟩
 ·exact q1.elim
def zHV(C:Addr)(tv to:zm)(f:Str):wC:=fun E σ G=>tv σ G fun d G1=>to σ G1 fun x G2=>match x with
 | .adr a=>∃ dx fs,G2.dc a=some (.ins C dx fs)/\fs.length<1000/\E.nx σ (zHI G2 a (.ins C dx (putD f d fs)))
 | _=>False
theorem zQw(c:Cls X.K C)(n:wN X.K C f)(ho:E2 X o to)(hv:E2 X value tv)(hs:autoParam (swapsWith value (some (.Attribute o f pos')) pos.line X.env=pure false) Zq5._auto_1):P2 X (.Assign [.Attribute o f pos'] value pos) (zHV C tv to f):=by
 refine PS.mono (zRf ho hv hs) ?_;rintro E σ1 H ⟨σ,G,D2,r,q,k⟩;refine⟨σ,G,_,r,q,fun d G1 q1 v H1 g1 r1 d1=>⟨σ,G1,_,r.to g1 r1,q1,fun x G2 q2 y H2 g2 r2 d2=>?_⟩⟩;split at q2
 ·rename_i a
  obtain⟨dx,fs,e1,hl,q2⟩:=q2;unfold zQ at d2;subst d2;obtain⟨xs,h1,h2⟩:=r2.dc a _ e1;have g3:zo H2 (yx H2 a (.ins C dx (zCN f v ((fs.map (·.1)).zip xs)))):=.ins h1;have dv:=d1.grow (g2.trans g3);obtain⟨ys,e3,e4⟩:=zNY (f:=f) dv (h2.grow g3);have hlen:((fs.map (·.1)).zip xs).length<1000:=by
   have:=h2.length;rw[fE] at this;rw[iB,fE,<-this,Nat.min_self];exact hl
  refine⟨a,C,dx,_,rfl,h1,c,n,hlen,?_⟩;refine k.nx _ _ q2 _ _ ((g1.trans g2).trans g3) ((r.to (g1.trans g2) r2).to g3 (r2.dput h1 (fun u0 z=>by cases z) g3 ⟨ys,?_,e4⟩));rw[yC,e3]
 ·exact q2.elim
def zJv:zm:=fun u0 G R=>∀ a,G.dc a=none->R (.adr a) (zHI G a (.dk []))
theorem zK0:E2 X (.Dict [] [] pos) zJv:=by
 refine PE.mono zNW ?_;sleep 1;intro a hn;exact k _ _ (q a (r.g.dfree hn)) _ _ (.fresh hn) ((r.g.fresh hn).down ⟨[],yC,.nil⟩) 22#0
def zGw(tv to tk:zm):wC:=fun E σ G=>tv σ G fun d G1=>to σ G1 fun x G2=>tk σ G2 fun y G3=>match x,y with
 | .adr a,.str s=>∃ kvs,G3.dc a=some (.dk kvs)/\(kvs.map (·.1)).Nodup/\kvs.length<1000/\E.nx σ (zHI G3 a (.dk (putD s d kvs)))
 | _,_=>False
theorem zFl{i:Expr}(hu:X.A.units+1<cLine)(ho:E2 X o to)(hi:E2 X i tk)(hv:E2 X value tv)(hs:autoParam (swapsWith value (some (.Subscript o i pos')) pos.line X.env=pure false) Zq5._auto_1):P2 X (.Assign [.Subscript o i pos'] value pos) (zGw tv to tk):=by
 refine PS.mono (zPj hu ho hi hv hs) ?_;rintro E σ1 H ⟨σ,G,D2,r,q,k⟩;refine⟨σ,G,_,r,q,fun d G1 q1 v H1 g1 r1 d1=>⟨σ,G1,_,r.to g1 r1,q1,fun x G2 q2 x' H2 g2 r2 d2=>⟨σ,G2,_,r.to (g1.trans g2) r2,q2,fun y G3 q3 y' H3 g3 r3 d3=>?_⟩⟩⟩;split at q3
 ·rename_i a s
  obtain⟨kvs,e1,nd,hl,q3⟩:=q3;unfold zQ at d2 d3;subst d2 d3;obtain⟨xs,h1,h2⟩:=r3.dc a _ e1;have g4:zo H3 (yx H3 a (.dK (putK (kz kvs xs) (Sum.inr s) v))):=.dk h1;have dv:=d1.grow ((g2.trans g3).trans g4);obtain⟨ys,e3,e4⟩:=zSF (f:=s) dv nd (h2.grow g4);have hlen:(kz kvs xs).length<sizeLine:=by rw[zSE h2,sizeLine_eq];omega
  refine⟨a,_,rfl,zJu.k (k:=Sum.inr s) h1 hlen,?_⟩;refine k.nx _ _ q3 _ _ (((g1.trans g2).trans g3).trans g4) ((r.to ((g1.trans g2).trans g3) r3).to g4 (r3.dput h1 (fun u0 z=>by cases z) g4 ⟨ys,?_,e4⟩));rw[yC,e3]
 ·exact q3.elim
def zNZ(G:Gp)(a:Addr)(kvs:List (Str×D)):Prop:=G.dc a=some (.dk kvs)\/G.dc a=some (.fz kvs)
theorem zNZ.rel{K:14#0}{G:Gp}{H:Hp}{a:Addr}{kvs:List (Str×D)}(h:zNZ G a kvs)(r:zt K G H):∃ xs,Rd H a (.dK (kz kvs xs))/\Dens K H (kvs.map (·.2)) xs:=by
 rcases h with h | h
 ·obtain⟨xs,e1,e2⟩:=r.dc a _ h;exact⟨xs,.inl e1,e2⟩
 ·obtain⟨o,xs,e1,e2⟩:=r.dc a _ h;exact⟨xs,.inr ⟨o,e1⟩,e2⟩
def zDv(to tk:zm):zm:=fun σ G R=>to σ G fun x G1=>match x with
 | .adr a=>(∃ kvs,zNZ G1 a kvs)/\tk σ G1 fun y G2=>(match y with | .str s=>∃ kvs,zNZ G2 a kvs/\R ((kvs.lookup s).getD .non) G2 | _=>False)
 | _=>False
theorem zHW(hu:X.A.units+1<cLine)(ho:E2 X o to)(he:E2 X e tk)
  (hb:autoParam (attributeBase o "get" X.env (eval o X.env)=eval o X.env) Zq5._auto_1)
  (hf:autoParam (((backTo cpos (starEach [e] X.env)).all (fun x=>!x.1)&&(backToKw cpos (keywordEach [] X.env)).all (fun x=>x.1.isSome)
  && decide (([e]:List Expr).length+([]:List Keyword).length+(if ([]:List Keyword).isEmpty then 0 else 1)<30))=true) Zq5._auto_1)
  (hl:autoParam ((apos.endLine==cpos.line)=true) Zq5._auto_1) (ht:autoParam (backTo cpos (starEach [e] X.env)=[(false,eval e X.env)]) Zq5._auto_1):E2 X (.Call (.Attribute o "get" apos) [e] [] cpos) (zDv to tk):=by
 refine PE.mono (zNX hu ho he ⟨hb,hf,hl,ht⟩) ?_;sleep 1;refine⟨σ,G,_,r,q,fun d G1 q1 x H1 g1 r1 d1=>?_⟩;split at q1
 ·rename_i a
  obtain⟨⟨kvs0,hk0⟩,q1⟩:=q1;unfold zQ at d1;subst d1;obtain⟨xs0,rd0,u0⟩:=hk0.rel r1;refine⟨a,rfl,.inl ⟨_,rd0⟩,σ,G1,_,r.to g1 r1,q1,fun y G2 q2 y' H2 g2 r2 d2=>?_⟩;split at q2
  ·rename_i s
   obtain⟨kvs,hk,q2⟩:=q2;unfold zQ at d2;subst d2;obtain⟨xs,rd,h2⟩:=hk.rel r2;refine⟨zDd (kz kvs xs) (Sum.inr s),.inl ⟨_,Sum.inr s,rd,rfl,rfl⟩,?_⟩;have lk:=zKz (f:=s) h2;cases hq:kvs.lookup s with
   | none =>
    rw[hq] at q2;rw[lk.2 hq];exact k _ G2 q2 _ H2 (g1.trans g2) r2 22#0
   | some d =>
    rw[hq] at q2;obtain⟨v,e1,e2⟩:=lk.1 d hq;rw[e1];exact k _ G2 q2 _ H2 (g1.trans g2) r2 e2
  ·exact q2.elim
 ·exact q1.elim
end
end L3
namespace L2
theorem zK1{a b:Int}{t u:Tok}{c:Value}:∀ {l:List Value},TriplesOk l->TriplesOk (l++[.int a t,.int b u,c])/\∀ pos x,codeAmong pos (l++[.int a t,.int b u,c])=some x->codeAmong pos l=some x\/x=c
 | [],_=>⟨trivial,fun pos x e=>by
   have e':(if (a==↑pos.line&&b==↑pos.col)=true then some c else none)=some x:=e;split at e'
   ·cases e';exact .inr rfl
   ·cases e'⟩
 | .int i _::.int j _::z::r,h=>by
  obtain⟨h1,h2⟩:=zK1 (a:=a) (b:=b) (t:=t) (u:=u) (c:=c) (l:=r) h;refine⟨h1,fun pos x e=>?_⟩;have e':(if (i==↑pos.line&&j==↑pos.col)=true then some z else codeAmong pos (r++[.int a t,.int b u,c]))=some x:=e;show(if (i==↑pos.line&&j==↑pos.col)=true then some z else codeAmong pos r)=some x\/x=c;split at e'
  ·rename_i hc;rw[if_pos hc];exact .inl e'
  ·rename_i hc;rw[if_neg hc];exact h2 pos x e'
def BMn(h:Heap)(mg:Str->Option Value):Prop:=∃ bm ob,mg "__builtins__"=some (.ref bm)/\bm≠builtinsNs/\h.get? bm=some ob/\ob.cls=.type "module"/\ob.dict=some builtinsNs/\ob.data=.plain
def zK2(H:Hp)(cv:Value)(q:Str):Prop:=∃(c:Addr) (o:Obj) (us:Array Value) (t':Tok),cv=.ref c/\H c=some (.frz o (.own 0))/\o.data=.fields us/\us[1]?=some (.str q t')
theorem zL0{X:Cx}{pins:20#0}{σ:St}{H:Hp}{s:Shared}{params:Arguments}{body:Expr}{sc:Scope}{pos:Pos}{c P:Addr}{q:Str}{tq:Tok}{Q:10#0}{E:10#0}{A:Around}
  (I:16#0) (hcap:∀ y∈sc.names,y.2=.free->X.env.kindOf y.1=some .cell\/X.env.kindOf y.1=some .free) (hdf:defaultsOf params X.env=([],[])) (hcode:X.env.code=.ref c) (hC:PySem.W.CodeHd X.base c P) (hB:BMn X.base X.mg)
  (hq:X.env.qual++"<lambda>"=q) (hP:H P=some (.tbl #[.str q tq]))
  (h:∀(g:Addr) (H':Hp) (s':Shared) (cv ctv pm:Value),zT X pins σ H' s'->zFX H H'->Un X.fs [] H H' s.heap s'.heap->s.heap.objs.size<=g->H' g=none->s'.heap.get? g=some { cls:=.type "function",data:=.func (PySem.W.kla_fn "<lambda>" q params body sc (zBj sc X.env) pm cv ctv) }->zK2 H' cv q->Q (.ref g) s') :
  wpAny 13#0 A (eval (.Lambda params body sc pos) X.env) Q E s:=by
 have hfree:∀ y∈sc.names,y.2=.free->∃ c,X.env.cells.lookup y.1=some c:=fun y hy hf=>I.ok.has _ (hcap y hy hf);obtain⟨q',t',vs,e0,e1,e2,e3⟩:=(show yy X.prog X.w H s.heap P (.tbl #[.str q tq]) from I.hok P _ hP)
 cases e0;have hns:s.heap.Ns mainGlobals X.mg:=I.mod.glob.keeps I.bk;have hCh:PySem.W.CodeHd s.heap c P:=hC.keeps I.bk;have hBh:s.heap.BuiltinsAt X.mg P:=by
  obtain⟨bm,o,b1,b2,b5,b6,b7,b8⟩:=hB;obtain⟨g1,g2⟩:=I.bs _ _ b5;refine⟨bm,o,b1,b2,fun z=>?_,fun z=>?_,g1,b6,b7,b8⟩
  ·obtain⟨o',es,ep,n1,n2,u0⟩:=hns
   rw[z,n1] at g1;cases g1;rw[n2] at b8;cases b8
  ·rw[z,hP] at g2;cases g2
 have hnP:mainGlobals≠P:=fun z=>by
  obtain⟨o,es,ep,n1,n2,u0⟩:=hns;rw[z,e1] at n1;cases n1;cases n2
 refine PySem.W.kla_eval hdf ?_;rw[hq];cases hc:codeAmong pos vs.toList with
 | some cv =>
  refine PySem.W.kla_makeFunctionHit (wb hfree) I.ok.glob hns hcode hCh e1 e2 hc hBh fun ctv h' tk kp hs=>?_;have kp2:∀ b u,s.heap.get? b=some u->(h'.push { cls:=.type "function",data:=.func (PySem.W.kla_fn "<lambda>" q params body sc (zBj sc X.env) ((X.mg "__name__").getD .none) cv ctv) }).get? b=some u:=fun b u z=>fC _ (kp b u z);exact h _ H _ cv ctv _ (I.kept (t':=tk) kp2) (.refl H) (Un.kept kp2) hs (I.hok.fresh hs) (fM _ rfl) (e3 pos cv hc)
 | none =>
  refine PySem.W.kla_makeFunction (wb hfree) I.ok.glob hns hcode hCh e1 e2 hc hnP hBh fun c' ctv h' tk eb hs1 hs2 cr eP=>?_;obtain⟨c1,oc,us,tt,z1,z2,z3,z4⟩:=cr;cases z1;have nc:H c'=none:=I.hok.fresh hs1;have hcP:c'≠P:=fun z=>by rw[z,hP] at nc;cases nc
  have hs:s.heap.objs.size<=h'.objs.size:=Nat.le_of_lt (Nat.lt_of_le_of_lt hs1 hs2);generalize hfo:PySem.W.kla_obj "<lambda>" q params body sc (zBj sc X.env) ((X.mg "__name__").getD .none) c' ctv=fo;have sm:zFX H (yx H c' (.frz oc (.own 0))):=fun b o z=>by rw[zr (yt z nc)];exact z
  have kp:∀ b u,b≠P->s.heap.get? b=some u->(h'.push fo).get? b=some u:=fun b u n z=>fC _ (eb b u n z);have nP:∀ b,H b=none->b≠P:=fun b n z=>by rw[z,hP] at n;cases n
  obtain⟨t1,t2⟩:=zK1 (a:=↑pos.line) (b:=↑pos.col) (t:=0) (u:=0) (c:=.ref c') e2;have gP:(h'.push fo).get? P=some (PySem.W.tabObj (vs++#[rawInt ↑pos.line,rawInt ↑pos.col,.ref c'])):=fC _ eP;have un:Un X.fs [] H (yx H c' (.frz oc (.own 0))) s.heap (h'.push fo):=by
   refine⟨fun b o z n u0 u0=>kp b o (nP b n) z,fun b o z n u0 u0=>⟨o.slots,kp b o (nP b n) z⟩,fun b o z n u0=>?_,fun b o z u0=>?_,fun b xs z=>sm _ _ z,fun b o u z=>sm _ _ z,fun b ps z=>sm _ _ z⟩
   ·rw[zr (gc (fN (fK z) hs1))];exact n
   ·by_cases hb:b=P
    ·exact⟨_,by rw[hb];exact gP⟩
    ·exact⟨o,kp b o hb z⟩
  have hok:HOk X.prog X.w (yx H c' (.frz oc (.own 0))) (h'.push fo):=by
   intro b u z;by_cases hb:b=c'
   ·subst hb
    rw[yC] at z;cases z;exact⟨fC _ z2,_,fC _ z2⟩
   ·rw[zr hb] at z
    by_cases hb2:b=P
    ·subst hb2
     rw[hP] at z;cases z;refine⟨q,tq,_,rfl,gP,?_,fun pos' cv e=>?_⟩
     ·rw[Array.toList_append];exact t1
     ·rw[Array.toList_append] at e
      rcases t2 pos' cv e with r | r
      ·obtain⟨c2,o2,us2,tt2,w1,w2,w3⟩:=e3 pos' cv r
       exact⟨c2,o2,us2,tt2,w1,sm _ _ w2,w3⟩
      ·exact⟨c',oc,us,tt,r,yC,z3,z4⟩
    ·refine(I.hok b u z).stay (fun d v hd r=>kp d v ?_ r) (fun u0 r=>sm _ _ r) (fun u0 u0 r=>sm _ _ r) fun u0 u0 u0 r=>sm _ _ r
     rcases hd with w | w
     ·rw[w];exact hb2
     ·intro w2;rw[w2,hP] at w;cases w
  refine h _ _ _ (.ref c') ctv ((X.mg "__name__").getD .none) (I.un (t':=tk) un hok) sm un hs ?_ ?_ ⟨c',oc,us,tt,rfl,yC,z3,z4⟩
  ·rw[zr (Nat.ne_of_gt hs2)];exact I.hok.fresh hs
  ·rw[<-hfo];exact fM _ rfl
noncomputable def zFm(sc:Scope)(cl:List (Str×Addr))(q:Str)(g:Addr)(cv:Value)(L:Addr):Env:=newEnv sc L mainGlobals cl (q++".<locals>.") (some g) cv none builtinsNs
noncomputable def zL1(X:Cx)(sc:Scope)(q:Str)(g:Addr)(cv:Value)(A:Around)(outer:List Env)(s:Shared)(H:Hp):Cx where
 prog:=X.prog
 w:=X.w
 K:=X.K
 mg:=X.mg
 base:=X.base
 A:=A.deeper (zFm sc (zBj sc X.env) q g cv s.heap.objs.size)
 N:=X.N
 s₀:=s
 H₀:=H
 env:=zFm sc (zBj sc X.env) q g cv s.heap.objs.size
 outer:=outer
 stack:=zFm sc (zBj sc X.env) q g cv s.heap.objs.size::outer
 ex:=[]
 calm:=true
 fn:=fun u0=>false
 pn:=[]
 xe:=fun u0 u0=>False
structure zK3 (env:Env) (sc:Scope):Prop where
 kind:sc.kind=.function
 co:sc.isCoroutine=false
 gen:sc.isGenerator=false
 nocell:∀ y∈sc.names,y.2≠.cell
 noloc:∀ y∈sc.names,y.2≠.local
 cap:∀ y∈sc.names,y.2=.free->env.kindOf y.1=some .cell\/env.kindOf y.1=some .free
theorem zPk{X:Cx}{pins:20#0}{σ:St}{H1 H2:Hp}{s1 s2:Shared}{sc:Scope}{q:Str}{g:Addr}{cv:Value}{A:Around}{outer:List Env}{k:Nat}{h':Heap}{tk:Nat}
  (I:zT X pins σ H1 s1) (T:zK3 X.env sc) (un:Un (frs X.stack) [] H1 H2 s1.heap s2.heap) (e0:zFS X.prog X.w X.K X.mg X.base A outer s2 H2) (hr:yS (k+1) A)
  (ns:h'.Ns s2.heap.objs.size fun u0=>none) (kp:∀ b o,s2.heap.get? b=some o->h'.get? b=some o):zT (zL1 X sc q g cv A outer s2 H2) [] σ H2 { s2 with heap:=h',toks:=tk }:=by
 have cellK:∀ x c,X.env.cells.lookup x=some c->∀ v,s1.heap.IsCell c v->h'.IsCell c v:=fun x c e v ⟨o,ho,hd⟩=>by
  obtain⟨sl,z⟩:=un.any ho (I.freeC x c e) 27#0;exact⟨_,kp _ _ z,hd⟩
 have free_of:∀ x,(sc.names.lookup x=some .local\/sc.names.lookup x=some .cell\/sc.names.lookup x=some .free)->sc.names.lookup x=some .free:=fun x hx=>by
  rcases hx with z | z | z
  ·exact absurd rfl (T.noloc _ (PySem.mem_of_lookup z))
  ·exact absurd rfl (T.nocell _ (PySem.mem_of_lookup z))
  ·exact z
 have hfree:∀ y∈sc.names,y.2=.free->∃ c,X.env.cells.lookup y.1=some c:=fun y hy hf=>I.ok.has _ (T.cap y hy hf);have has:∀ x,sc.names.lookup x=some .free->∃ c,(zBj sc X.env).lookup x=some c:=fun x hx=>zB5 (env:=X.env) (ns:=sc.names) (cs:=[]) (x:=x) hfree (.inr (PySem.mem_of_lookup hx));have noA:∀ b:Addr,b∉(zL1 X sc q g cv A outer s2 H2).ex:=fun b z=>absurd (show b∈([]:List Addr) from z) 27#0;refine⟨⟨e0.mod,T.kind,rfl,rfl,fP _,fun x y c h1 h2=>I.ok.inj x y c (zAt h1) (zAt h2),fun x hx=>?_,fun x c z=>(by cases z),fun u0=>(hr.deeper _).hd,Around.frames_deeper e0.frames,.inr ⟨rfl,rfl⟩,fun b z=>absurd z (noA b),e0.bs,e0.bsz,fun b u0 u0=>noA b,fun b z=>absurd z (noA b),e0.funs,e0.frf,e0.tb⟩,
  rfl,e0.bare,Un.kept kp,⟨_,ns,fun i x v h1 h2 h3=>?_⟩,fun x c e=>?_,e0.hok.fresh (fP _),fun x c e=>?_,fun p hp=>absurd (show p∈([]:List (Addr×Obj)) from hp) 27#0,e0.hok.kept kp,I.len⟩
 ·exact has x (free_of x (.inr hx))
 ·have hf:=free_of x h3
  obtain⟨m,hn,hl⟩:=I.loc;have cp:=T.cap _ (PySem.mem_of_lookup hf) rfl;have vis:Vis X.env.scope x:=by
   rcases cp with z | z
   ·exact .inr (.inl z)
   ·exact .inr (.inr z)
  obtain⟨u,r,l⟩:=hl i x v h1 h2 vis;refine⟨u,r,?_⟩;obtain⟨c',hc'⟩:=has x hf;have hc2:=zAt hc';rcases l with ⟨z,u0⟩ | ⟨u0,c,e,z⟩
  ·rcases cp with z' | z'<;>(rw[z] at z';cases z')
  ·rw[e] at hc2
   have ec:c=c':=Option.some.inj hc2;rw[<-ec] at hc';exact .inr ⟨.inr hf,c,hc',cellK x c e _ z⟩
 ·have e':=zAt (show(zBj sc X.env).lookup x=some c from e)
  obtain⟨v,z⟩:=I.cell x c e';exact⟨v,cellK x c e' v z⟩
 ·have e':=zAt (show(zBj sc X.env).lookup x=some c from e)
  obtain⟨v,o,ho,u0⟩:=I.cell x c e';exact un.free c o ho (I.freeC x c e') 27#0
end L2
namespace L3
open L2
theorem zHX{X:Cx}{sc:Scope}{q:Str}{g:Addr}{cv:Value}{A:Around}{outer:List Env}{s:Shared}{H:Hp}:Own (zL1 X sc q g cv A outer s H):=⟨fun u0 u0 h=>h,rfl,rfl,rfl,rfl⟩
theorem zPl{X:Cx}{pins:20#0}{σ1:L2.St}{σ:S2}{G:Gp}{E:Gp->Prop}{H1 H2:Hp}{s1 s2:Shared}{sc:Scope}{q:Str}{g C:Addr}{cv ctv pm:Value}{A:Around}{outer:List Env}{k:Nat}{params:Arguments}{body:Expr}{t:(Gp->Prop)->S2->Gp->Prop}
  (I:L2.zT X pins σ1 H1 s1) (T:zK3 X.env sc) (un:Un (frs X.stack) [] H1 H2 s1.heap s2.heap) (e0:zFS X.prog X.w X.K X.mg X.base A outer s2 H2) (hr:yS (k+1) A)
  (hbd:bindArgs (PySem.W.kla_fn "<lambda>" q params body sc (zBj sc X.env) pm cv ctv) ⟨[],[]⟩=pure [])
  (hg:s2.heap.get? g=some { cls:=.type "function",data:=.func (PySem.W.kla_fn "<lambda>" q params body sc (zBj sc X.env) pm cv ctv) }) (lc:zK2 H2 cv q)
  (hx:Xe (zL1 X sc q g cv A outer s2 H2) C body t) (r:Rel X.K σ G σ1 H2) (ht:t E σ G) :
  codeAny 13#0 A (.call (.ref g) ⟨[],[]⟩) (fun r s'=>∃ e H' B,r=.error (.ref e)/\XE X.prog X.w outer H2 s2 C e H' B s'/\zo H2 H'/\∃ G',zt X.K G' H'/\E G') s2:=by
 obtain⟨c,o,us,t',rfl,z2,z3,z4⟩:=lc;have hcr:s2.heap.CodeRec (.ref c) q:=⟨c,o,us,t',rfl,(e0.hok c _ z2).1,z3,z4⟩
 have lim:s2.heap.NoLimit:=e0.mod.nolimit.keeps fun b o e=>(e0.bs b o e).1;refine PySem.W.kla_callFunE hr.depth hg rfl T.co T.gen rfl hcr ?_;rw[hbd];refine fF (wpAny_newFunctionEnv T.nocell (fun y hy=>absurd hy 27#0) (fun h' ns sb=>?_) T.kind);have kp:∀ b o,s2.heap.get? b=some o->h'.get? b=some o:=fun b o e=>by
  rw[sb.2 b (gc (fK e))];exact fC _ e
 refine⟨lim.keeps kp,PySem.W.kla_codeExpr ?_⟩;have I2:=zPk (q:=q) (g:=g) (cv:=.ref c) (tk:=s2.toks+0) I T un e0 hr ns kp;refine fV (hx [] _ σ1 H2 σ G E I2 r ht) (fun v s' z=>z.elim) fun v s' z=>?_;obtain⟨e,H',B,rfl,xb,gr,hG⟩:=z;exact xb.leave fun h'' xe=>⟨e,H',B,rfl,xe,gr,hG⟩
end L3
namespace L2
theorem zJw{prog:Program}{w:World}{A:Around}{K:14#0}{x C:Addr}{R:Result->Shared->Prop}{tp:Value}{hh:Heap}{g:Array GenState}{dr:Drawn}{t:Nat}{os:OsState}(X:K.In hh)(L0:∀ M,PySem.W.Looks M hh (typeOf (.ref x)) (.ref C))(hm:PySem.W.mroIn K C (.type "object")=some true)
  (h:R (.ok (.ret (.ref C))) ⟨hh,g,dr,t,os⟩):codeAny 35#0 A (.call (.builtin "getset_descriptor.__get__") ⟨[.builtin "object.__class__",.ref x,tp],[]⟩) R ⟨hh,g,dr,t,os⟩:=by
 have L1:∀ M,PySem.W.Looks M hh (isSubtype (.ref C) (.type "object")) true:=fun M=>PySem.W.looks_mroIn X hm;refine codeAny_call_builtin PySem.W.KF.slot_gs.plain PySem.W.KF.entry_gs (PySem.W.KF.slot_gs.check _ _ _ _ _ _ _ _ PySem.W.KF.type_class (PySem.W.KF.args_gs _ _ _) ?_);unfold Builtin.«getset_descriptor.__get__» Builtin.Getset_descriptor.descrGet;rw[PySem.W.dga_obj];refine fB (fF ?_);show wpAny _ _ (Builtin.Getset_descriptor.descrGetter 33#0 (some (.ref x))) _ _ _;unfold Builtin.Getset_descriptor.descrGetter;dsimp only;unfold Builtin.Getset_descriptor.descrCheckInstance;have e1:Builtin.Getset_descriptor.descrNameAndClass 33#0=(pure (("__class__":Str),Value.type "object"):Sem (Str×Value)):=by
  unfold Builtin.Getset_descriptor.descrNameAndClass;dsimp only;rw[PySem.W.KF.owner_class]
 refine fB (fB (wpAny_of_eq e1 ?_));dsimp only;unfold isInstance;refine fB (fB (PySem.W.Looks.at (L0 _) (PySem.W.Looks.at (L1 _) ?_)));refine ii rfl (fF ?_);unfold again;refine fF ⟨Code.quiet_builtin _ 3#0,codeAny_builtin PySem.W.KF.entry_class ?_⟩;unfold Builtin.«object.__class__»;dsimp only;unfold shownTypeOf;refine fB (fB (PySem.W.Looks.at (L0 _) ?_));refine ii rfl (fF ?_);unfold ret;exact fF h
theorem zL2{prog:Program}{w:World}{A:Around}{E:10#0}{K:14#0}{e C:Addr}{o:Obj}{h:Heap}{g:Array GenState}{d:Drawn}{t:Nat}{os:OsState}{Q:Option Value->Shared->Prop}(X:K.In h)(hx:h.get? e=some o)(hc:o.cls=.ref C)
  (k1:PySem.W.findIn K (.ref C) "__getattribute__"=some (some (.builtin "BaseException.__getattribute__"))) (k2:PySem.W.findIn K (.ref C) "__getattr__"=some none) (k3:PySem.W.findIn K (.ref C) "__class__"=some (some 33#0))
  (k4:PySem.W.specialIn K 33#0 "__get__"=some (some (.builtin "getset_descriptor.__get__"))) (k5:PySem.W.takesIn K 33#0=some true) (k6:PySem.W.mroIn K C (.type "object")=some true) (k7:PySem.W.mroIn K C (.type "BaseException")=some true)
  (q:Q (some (.ref C)) ⟨h,g,d,t+1,os⟩):wpAny 35#0 A (getAttr? (.ref e) "__class__") Q E ⟨h,g,d,t,os⟩:=by
 have L0:∀ M,PySem.W.Looks M h (typeOf (.ref e)) (.ref C):=fun M=>hc▸PySem.W.Looks.andThen (PySem.W.Looks.ld hx) PySem.W.Looks.now;have L7:∀ M,PySem.W.Looks M h (isSubtype (.ref C) (.type "BaseException")) true:=fun M=>PySem.W.looks_mroIn X k7;unfold getAttr?;refine fB (wpAny_mkText ?_);unfold getAttrBy?;refine fB (wpAny_attempt ?_);unfold getAttrBy;refine hU (fB (PySem.W.Looks.at (L0 _) ?_));refine fB (PySem.W.Looks.at (PySem.W.looks_findIn X k1) ?_);dsimp only;refine ii rfl ?_;unfold getAttrByItsOwn;refine fB ?_;unfold hookBefore;refine wpAny_ite_true rfl (PySem.W.Looks.at (PySem.W.looks_findIn X k2) ?_);refine fB (wpAny_attempt (hU ?_));unfold callGetattribute;refine ii rfl ?_;unfold boundAndCalled;refine fB (wpAny_of_eq (F.excAttr_ValueError.ga.bind (.ref e)) ?_);dsimp only;refine iH (codeAny_call_builtin F.excAttr_ValueError.ga.plain F.entry_bexc_ga ?_);have hk:builtinKind "BaseException.__getattribute__"=some Manifest.AttrKind.slot:=by decide +kernel
 have hsp:splitId "BaseException.__getattribute__"=some ("BaseException","__getattribute__"):=by decide +kernel
 have ha:argsOk "BaseException.__getattribute__" { pos:=[Value.ref e,Value.str "__class__" t] }:=F.args_bexc_ga _ _;unfold checkBuiltinCall;rw[hk,hsp];dsimp only[iM,List.nil_append];unfold isInstance;refine fB (fB (PySem.W.Looks.at (L0 _) (PySem.W.Looks.at (L7 _) ?_)));refine ii rfl (wpAny_of_eq ha ?_);unfold Builtin.«object.__getattribute__»;refine fB ?_;unfold slotArgs;refine ii rfl (ii rfl (fF ?_));dsimp only;refine fB ?_;unfold Builtin.ObjectAttr.attrName;refine fF ?_;refine fB (PySem.W.Looks.at (L0 _) ?_);refine fB ?_;unfold Builtin.ObjectAttr.find;refine fB (PySem.W.Looks.at (PySem.W.looks_findIn X k3) ?_);refine fB ?_;unfold Builtin.ObjectAttr.getOf;refine PySem.W.Looks.at (PySem.W.looks_specialIn X k4) ?_;refine fB ?_;unfold Builtin.ObjectAttr.dataDescriptor?;refine fB (PySem.W.Looks.at (PySem.W.looks_takesIn X k5) ?_);refine wpAny_ite_true rfl (fF ?_);dsimp only;refine fB (wpAny_rule (fF ?_));dsimp only;unfold Builtin.ObjectAttr.bindTo;dsimp only;refine fB (hU (iH (zJw X L0 k6 ?_)));unfold ret;refine fF ?_;dsimp only;exact PySem.W.handed_on rfl (fF q)
structure zAk (K:PySem.W.Frag) (C:Addr):Prop where
 ex0:PySem.W.excIn K C bmV "ValueError.__new__"=true
 cl:(PySem.W.clsIn K C).isSome=true
 k1:PySem.W.findIn K (.ref C) "__getattribute__"=some (some (.builtin "BaseException.__getattribute__"))
 k2:PySem.W.findIn K (.ref C) "__getattr__"=some none
 k3:PySem.W.findIn K (.ref C) "__class__"=some (some 33#0)
 k4:PySem.W.specialIn K 33#0 "__get__"=some (some (.builtin "getset_descriptor.__get__"))
 k5:PySem.W.takesIn K 33#0=some true
 k6:PySem.W.mroIn K C (.type "object")=some true
 k7:PySem.W.mroIn K C (.type "BaseException")=some true
theorem zSG{K:14#0}{C:Addr}(h:(PySem.W.clsIn K C).isSome=true):∃ c d cd sl,K.lookup C=some ⟨c,d,.cls cd,sl⟩:=by
 unfold PySem.W.clsIn at h;split at h
 ·rename_i c d cd sl e;exact⟨c,d,cd,sl,e⟩
 ·cases h
theorem zNa{K:14#0}{e C:Addr}(k:zAk K C):PySem.W.KitX K (.ref e) (.ref C) (fun h=>∃ o,h.get? e=some o/\o.cls=.ref C):=by
 obtain⟨c0,d0,cd,sl,hl⟩:=zSG k.cl;refine⟨fun M h _ ⟨o,hx,hc⟩=>hc▸PySem.W.Looks.andThen (PySem.W.Looks.ld hx) PySem.W.Looks.now,fun M h X u0 A Q E s kp q=>?_,fun h tp dd its n s2 X ht=>?_,fun {prog w A E Q s} X ⟨o,hx,hc⟩ q=>?_⟩
 ·unfold isType
  exact fB (wpAny_loadPart (kp _ _ (X _ _ hl)) (fF q))
 ·refine Bool.eq_false_iff.mpr fun z=>?_
  have z':=Value.ref.inj (beq_iff_eq.mp z);have z2:=X _ _ hl;rw[z',ht] at z2;cases z2
 ·obtain⟨hh,g,d,t,os⟩:=s
  exact zL2 X hx hc k.k1 k.k2 k.k3 k.k4 k.k5 k.k6 k.k7 q
noncomputable abbrev zL3(X:Cx)(a:Addr)(o:Obj):Cx:={ X with pn:=(a,o)::X.pn }
section
variable {X:Cx} {pins:List (Addr×Obj)} {σ:List (Option V)} {H:Hp} {s:Shared} {a:Addr} {o:Obj}
theorem zT.pinD(I:16#0)(e:s.heap.get? a=some o)(n:H a=none)(l:a≠X.env.locals)(f:a∉X.fs)(c:∀ v,o.data≠.cell v):zT X ((a,o)::pins) σ H s :=
 ⟨I.ok,I.os,I.bare,I.base,I.loc,I.cell,I.free,I.freeC,fun p hp=>by
  rcases iy.mp hp with hp | hp
  ·exact I.pin p (ip _ hp)
  ·rcases fS.mp hp with rfl | hp
   ·exact⟨e,n,l,f,c⟩
   ·exact I.pin p (fZ _ hp),I.hok,I.len⟩
theorem Cx.Ok.pin(k:X.Ok):(zL3 X a o).Ok:=⟨k.mod,k.kind,k.glob,k.blt,k.above,k.inj,k.has,k.cab,k.hd,k.frames,k.stk,k.exf,k.bs,k.bsz,k.noex,k.exfs,k.funs,k.frf,k.tb⟩
theorem zT.into(I:zT X ((a,o)::pins) σ H s):zT (zL3 X a o) pins σ H s :=
 ⟨I.ok.pin,I.os,I.bare,I.base,I.loc,I.cell,I.free,I.freeC,fun p hp=>I.pin p (by
  rcases iy.mp hp with hp | hp
  ·rcases fS.mp hp with rfl | hp
   ·exact fZ _ gg
   ·exact ip _ hp
  ·exact fZ _ (g9 _ hp)),I.hok,I.len⟩
end
end L2
namespace L3
open L2
end L3
namespace L2
theorem XE.after{P:Program}{w:World}{outer:List Env}{H H':Hp}{s s':Shared}{C e:Addr}{B base h'':Heap}(x:XE P w outer H s C e H' B s')(ff:s.heap.FunFrames base outer)(frf:∀ b∈frs outer,H b=none)(st:Heap.StaysIn B h'')
  (sl:∀ b o,s'.heap.get? b=some o->(∀ vs,o.data≠.fields vs)->∃ sl,h''.get? b=some { o with slots:=sl }):Un (frs outer) [] H H' s.heap h''/\HOk P w H' h'':=by
 have slot:∀ b o,s.heap.get? b=some o->H b=none->b∈frs outer->∃ sl,h''.get? b=some { o with slots:=sl }:=fun b o q n hb=>by
  obtain⟨s1,q1⟩:=x.un.slot b o q n hb 27#0;have hd:∀ vs,o.data≠.fields vs:=by
   obtain⟨u0,o1,ho,hd⟩:=ff.mem hb;rw[q] at ho;cases ho;exact hd
  obtain⟨s2,q2⟩:=sl b _ q1 hd;exact⟨s2,q2⟩
 refine⟨⟨fun b o q n hb u0=>st b o (x.has0 b o q n hb),fun b o q n hb u0=>slot b o q n hb,fun b o q n u0=>x.un.free b o q n 27#0,fun b o q u0=>?_,x.un.tups,x.un.frzs,x.un.tbls⟩,fun b u q=>?_⟩
 ·by_cases hb:b∈frs outer
  ·obtain⟨s1,z⟩:=slot b o q (frf b hb) hb
   exact⟨_,z⟩
  ·obtain⟨o',z⟩:=x.th b o q hb
   exact⟨o',st b o' z⟩
 ·refine(x.hok b u q).stay (fun c v hc r=>?_) (fun u0 r=>r) (fun u0 u0 r=>r) fun u0 u0 u0 r=>r
  have:∃ o,B.get? c=some o:=by
   rcases hc with z | z
   ·subst z;exact x.has1 _ _ q
   ·exact x.has1 _ _ z
  obtain⟨o2,z⟩:=this;have z2:=x.stay c o2 z;rw[r] at z2;obtain rfl:v=o2:=Option.some.inj z2;exact st c v z
section
variable {X:Cx} {pins:List (Addr×Obj)} {σ:St} {H:Hp} {s:Shared}
theorem zHY{M:Model}{A:Around}{E:10#0}{i:Nat}{x:Str}{pos:Pos}{Q:Unit->Shared->Prop}(I:16#0)(hN:X.N.Nodup)(hi:X.N[i]?=some x)(hk:X.env.scope.names.lookup x=some .local)
  (h:∀ s',zT X pins (σ.set i none) H s'->Q () s'):wpAny M A (do bindName X.env x Value.none;unbindBehindTheSuite X.env x pos) Q E s:=by
 obtain⟨m,hn,hl⟩:=id I.loc;have hcls:(X.env.scope.kind==.class||(X.env.scope.kind==.module&&X.env.locals != X.env.globals))=false:=by rw[I.ok.kind];rfl
 have hiσ:i<σ.length:=by rw[I.len];exact(fI.mp hi).1
 have cne:=I.cne;refine wpAny_nameGoes_keeps hk hn hcls fun h' v hn' hs=>?_;obtain⟨oL,u0,u0,hoL,u0⟩:=id hn;have tracked:HOk X.prog X.w H h':=fun b ob e=>by
  refine(I.hok b ob e).stay (fun c w' hc q=>(hs.2 c ?_).trans q) (fun u0 q=>q) (fun u0 u0 q=>q) fun u0 u0 u0 q=>q;rintro rfl;rcases hc with rfl | hc
  ·rw[I.free] at e;cases e
  ·rw[I.free] at hc;cases hc
 refine h _ ⟨I.ok,I.os,I.bare,⟨fun b o e n hb hx=>?_,fun b o e n hb hx=>?_,I.base.free,fun b o e hx=>?_,I.base.tups,I.base.frzs,I.base.tbls⟩,⟨_,hn',fun j y v' e1 e2 e3=>?_⟩,fun y c e=>?_,I.free,I.freeC,fun p hp=>?_,tracked,by simpa using I.len⟩
 ·exact(hs.2 b (gc (fN (fK e) I.ok.above))).trans (I.base.keep b o e n hb hx)
 ·obtain⟨sl,e1⟩:=I.base.slot b o e n hb hx
  exact⟨sl,(hs.2 b (gc (fN (fK e) I.ok.above))).trans e1⟩
 ·obtain⟨o',e1⟩:=I.base.there b o e hx
  exact⟨o',(hs.2 b (gc (fN (fK e) I.ok.above))).trans e1⟩
 ·by_cases hj:j=i
  ·subst hj
   rw[gu hiσ] at e2;cases e2
  ·rw[gF (Ne.symm hj)] at e2
   obtain⟨u',r',q⟩:=hl j y v' e1 e2 e3;refine⟨u',r',?_⟩;rcases q with ⟨k,e⟩ | ⟨k,c,e,z⟩
   ·refine .inl ⟨k,?_⟩
    have:y≠x:=fun e=>hj (zFO hN e1 (e▸hi));simp[this,e]
   ·exact .inr ⟨k,c,e,z.sameBut hs (cne y c e)⟩
 ·obtain⟨w',z⟩:=I.cell y c e
  exact⟨w',z.sameBut hs (cne y c e)⟩
 ·obtain⟨e,n,ne,nf,d⟩:=I.pin p hp
  exact⟨(hs.2 p.1 ne).trans e,n,ne,nf,d⟩
theorem zNb{M:Model}{A:Around}{E:10#0}{i:Nat}{x:Str}{v:V}{pos:Pos}{Q:10#0}(I:16#0)(hi:X.N[i]?=some x)(hk:X.env.scope.names.lookup x=some .local)(hv:σ[i]?=some (some v))(hd:(x==("__debug__":Str))=false)
  (h:∀ u,RelV v u->Q u s):wpAny M A (eval (.Name x pos) X.env) Q E s:=by
 obtain⟨m,hn,hl⟩:=I.loc;obtain⟨u,r,l⟩:=hl i x v hi hv (.inl hk);rcases l with ⟨u0,hm⟩ | ⟨z,u0⟩
 ·exact wpAny_Name (wpAny_loadName_local I.ok.kind hk hn hm (h u r)) hd
 ·rcases z with z | z<;>(rw[show X.env.kindOf x=some .local from hk] at z;cases z)
theorem zNc{C Cc g:Addr}{cn xc en er:Str}{ic ie ir:Nat}{p1 p2 p3 p4 p5 p6 p7 hp tp:Pos}{Z:Hp->Prop}{Q:Flow->Shared->Prop}{E:10#0}(stk:X.stack=X.env::X.outer)(frm:X.env.frame=some X.env.locals)(ex:X.ex=[])
  (I:16#0) (hN:X.N.Nodup) (c1:X.N[ic]?=some cn) (c2:X.env.scope.names.lookup cn=some .local) (c3:σ[ic]?=some (some (.ref g))) (hf:PySem.W.FnAt g s.heap)
  (run:codeAny 13#0 X.A (.call (.ref g) ⟨[],[]⟩) (fun r s'=>∃ e H' B,r=.error (.ref e)/\XE X.prog X.w X.stack H s C e H' B s'/\Z H') s)
  (hg:Gl X xc) (hm:X.mg xc=some (.ref Cc)) (hx:PySem.W.exmOne X.K (.ref C) (.ref Cc)=some true)
  (e1:X.N[ie]?=some en) (e2:X.env.scope.names.lookup en=some .local) (r1:X.N[ir]?=some er) (r2:X.env.scope.names.lookup er=some .local)
  (h:∀ e oe H' s',zT (zL3 X e oe) pins (((σ.set ie (some (.ref e))).set ir (some (.ref e))).set ie none) H' s'->Z H'->oe.cls=.ref C->Q .next s')
  (d1:autoParam ((cn==("__debug__":Str))=false) Zq2._auto_1) (d2:autoParam ((xc==("__debug__":Str))=false) Zq2._auto_1) (d3:autoParam ((en==("__debug__":Str))=false) Zq2._auto_1)
  (sw1:autoParam (swapsWith (.Call (.Name cn p1) [] [] p2) none p3.line X.env=pure false) Zq5._auto_1) (sw2:autoParam (swapsWith (.Name en p6) (some (.Name er p5)) p7.line X.env=pure false) Zq5._auto_1) :
  wpAny 13#0 X.A (exec (.Try [.Expr (.Call (.Name cn p1) [] [] p2) p3] [.ExceptHandler (some (.Name xc p4)) (some en) [.Assign [.Name er p5] (.Name en p6) p7] hp] [] [] tp) X.env) Q E s:=by
 refine wpAny_Try_except (gq (wpAny_Expr_any (gz (zNb I c1 c2 c3 d1 fun u r=>?_)) I.quiet sw1));obtain rfl:u=Value.ref g:=r;refine PySem.W.callWith_F0 hf (iH (gG run fun r s' u9=>?_));obtain⟨e,H',B,z1,x,hZ⟩:=u9;subst z1;dsimp only;have xb:=x.body stk frm ex I;obtain⟨a0,tr⟩:=x.tr;have fr:X.A.frames=some (X.env::X.outer):=by rw[I.ok.frames,stk]
 have ffb:=xb.funs;rw[stk] at ffb;refine wpAny_noteFrame_onW fr ffb frm tr x.stay x.eB fun h1 n1=>?_;obtain⟨n1,n2,n3,n4⟩:=n1;refine wpAny_setFlight_noneW n1 n2 n3 fun h2 s2 f2 t2 k2=>?_;have I2:zT X pins σ H' { s' with heap:=h2 }:=by
  obtain⟨u,hk⟩:=x.after I.stack I.stkFree s2 fun b o q nd=>by
   obtain⟨sl,z⟩:=n4 b o q nd;exact⟨sl,k2 b _ z nd⟩
  exact I.call' (s':={ s' with heap:=h2 }) x.os u hk x.bare fun b hb=>absurd hb 27#0
 refine wpAny_handleBy_cons (codeAny_handlers_test ?_) (fun q=>by cases q);refine Calls.Name_function_global I.ok.kind hg (Calls.loadGlobal_global (by rw[I.ok.glob];exact I2.mod.glob.keeps I2.bk) hm ?_) d2;have hte:∃ o,h2.get? e=some o/\o.cls=.ref C:=by
  obtain⟨oe,vs,T,oT,ts,w1,⟨w2,u0⟩,u0⟩:=t2;exact⟨oe,w1,w2⟩
 obtain⟨oe2,w1,w2⟩:=hte;refine PySem.W.Looks.at (PySem.W.exm_one I2.kIn (w2▸PySem.W.Looks.andThen (PySem.W.Looks.ld w1) PySem.W.Looks.now) hx) ?_;dsimp only;rw[if_pos rfl];refine codeAny_handlers_suite_as ?_;refine wpAny_setFlight_noneW s2 f2 t2.at fun h3 s3 f3 t3 k3=>?_;have I3:zT X pins σ H' { s' with heap:=h3 }:=by
  obtain⟨u,hk⟩:=x.after I.stack I.stkFree s3 fun b o q nd=>by
   obtain⟨sl,z⟩:=n4 b o q nd;exact⟨sl,k3 b _ (k2 b _ z nd) nd⟩
  exact I.call' (s':={ s' with heap:=h3 }) x.os u hk x.bare fun b hb=>absurd hb 27#0
 obtain⟨oe,vs,T,oT,ts,v1,⟨v2,u0⟩,v3,u0⟩:=t3;have neL:e≠X.env.locals:=fun z=>by
  obtain⟨m,⟨o,es,ep,ho,u0⟩,u0⟩:=I.loc;have:=x.new;rw[z,ho] at this;cases this
 have neF:e∉X.fs:=fun z=>by
  obtain⟨u0,o,ho,u0⟩:=I.funs.mem z;rw[x.new] at ho;cases ho
 have I3p:=I3.pinD v1 x.free neL neF fun v q=>by rw[v3] at q;cases q
 have hie:ie<σ.length:=by rw[I.len];exact(fI.mp e1).1
 refine zCk I3p hN e1 (.inl e2) (show RelV (.ref e) (.ref e) from rfl) (fun s4 I4=>?_) (.inr e2);refine gq (wpAny_Assign_Name (zNb I4 e1 e2 (gu hie) d3 fun u r=>?_) sw2);obtain rfl:u=Value.ref e:=r;refine zCk I4 hN r1 (.inl r2) (show RelV (.ref e) (.ref e) from rfl) (fun s5 I5=>?_) (.inr r2);refine wpAny_execs_nil ?_;dsimp only;refine zHY I5 hN e1 e2 fun s6 I6=>?_;exact h e oe H' s6 I6.into hZ v2
end
end L2
namespace L3
open L2
theorem _root_.L2.zFX.grow{H H':Hp}(h:zFX H H'):zo H H':=⟨fun a xs e=>h a _ e,fun a o u e=>h a _ e⟩
theorem zt.same{K:14#0}{G:Gp}{H H':Hp}(r:zt K G H)(h:zFX H H'):zt K G H' :=
 ⟨fun a ds e=>by obtain⟨xs,e1,e2⟩:=r.m a ds e;exact⟨xs,h _ _ e1,e2.grow h.grow⟩,fun a ds e=>by obtain⟨xs,e1,e2⟩:=r.ro a ds e;exact⟨xs,h.grow.roL e1,e2.grow h.grow⟩,fun a o e=>by have z:=r.dc a o e;obtain⟨u,z1,u0⟩:=z.at;exact z.to h.grow ((h _ _ z1).trans z1.symm)⟩
structure zNd (st:Stmt) (N:List Str) (rest:List Stmt):Prop where
 body:∃ j1 p1 p2 p3 p4 p5 p6 p7 p8 p9 p10 p11 p12,zR st=.Assign [.Name "error" p1] (.Constant .none j1 p2) p3::.Try [.Expr (.Call (.Name "call" p4) [] [] p5) p6] [.ExceptHandler (some (.Name "ChordError" p7)) (some "e") [.Assign [.Name "error" p8] (.Name "e" p9) p10] p11] [] [] p12::rest
 n0:N[0]?=some ("call":Str)
 n1:N[1]?=some ("error":Str)
 n2:N[2]?=some ("e":Str)
 l0:(zD st).names.lookup ("call":Str)=some .local
 l1:(zD st).names.lookup ("error":Str)=some .local
 l2:(zD st).names.lookup ("e":Str)=some .local
 gl:(zD st).names.lookup ("ChordError":Str)=some .globalImplicit
structure zNe (X:Cx) (x:Str) (c P:Addr) (params:Arguments) (body:Expr) (sc:Scope):Prop where
 hsc:zK3 X.env sc
 code:X.env.code=.ref c
 hd:PySem.W.CodeHd X.base c P
 blt:BMn X.base X.mg
 qual:X.env.qual++"<lambda>"=x++".<locals>.<lambda>"
 mem:x∈zCI
 tab:PySem.W.tabIn X.K x=some (c,P)
 df:defaultsOf params X.env=([],[])
 bd:∀(q:Str) (cl:List (Str×Addr)) (pm cv ctv:Value),bindArgs (PySem.W.kla_fn "<lambda>" q params body sc cl pm cv ctv) ⟨[],[]⟩=pure []
theorem zL4{X:Cx}{st:Stmt}{f:Addr}{fd:FuncData}{N:List Str}{k:Nat}{C Cc c P:Addr}{kind:Int}{x:Str}{rest:List Stmt}{params:Arguments}{body:Expr}{sc:Scope}{t:(Gp->Prop)->S2->Gp->Prop}{trest:Addr->wC}{p lp pos:Pos}
  (F:Fun X.K "_law_refused" "_law_refused" st f fd) (S:zV N ["call"] (zD st)) (hm:X.mg "_law_refused"=some (.ref f)) (hb:Binds X.K fd ["call"] []) (hr:yS (k+2) X.A) (hgl:Gl X "_law_refused") (B:zNd st N rest)
  (hCc:X.mg "ChordError"=some (.ref Cc)) (hxm:PySem.W.exmOne X.K (.ref C) (.ref Cc)=some true)
  (hrest:∀(cdv:Value) (A:Around) (outer:List Env) (s:Shared) (H:Hp) (e:Addr) (oe:Obj),yS (k+1) (A.deeper (envOfC "_law_refused" (zD st) s.heap.objs.size f cdv))->oe.cls=.ref C->Ps2 (zL3 (zBi CX0 X.prog X.w X.K X.mg X.base N "_law_refused" (zD st) f cdv A outer s H E0).nox e oe) rest (trest e))
  (hres:∀(e:Addr) (G:Gp) (R:Q2),(∀ l,G.m l=none->R (.adr l) (zh G l [.int kind]))->trest e (zj R) ((fX N.length none).set 1 (some (.adr e))) G)
  (L:zNe X x c P params body sc) (hlam:∀(g:Addr) (cv:Value) (A:Around) (outer:List Env) (s:Shared) (H:Hp),yS k (A.deeper (zFm sc (zBj sc X.env) (x++".<locals>.<lambda>") g cv s.heap.objs.size))->Xe (zL1 X sc (x++".<locals>.<lambda>") g cv A outer s H) C body t) :
  F2 X (.Call (.Name "_law_refused" p) [.Lambda params body sc lp] [] pos) (fun σ G R=>t (fun G'=>R [.int kind] G') σ G):=by
 intro pins s σ1 H Q I hq;obtain⟨σ,G,R,r,ht,kk⟩:=hq;refine gz (zBk I hgl hm ?_);refine PySem.W.callWith_K (h₀:=X.base) I.ok.mod.kin F.kp ?_;obtain⟨tq,hP⟩:=I.tabs x L.mem c P L.tab;show wpAny _ _ (spliced ((false,eval (.Lambda params body sc lp) X.env)::backTo pos (starEach [] X.env))) _ _ s;refine Calls.spliced_cons (zL0 I L.hsc.cap L.df L.code L.hd L.blt L.qual hP fun g H1 s1 cv ctv pm I1 sm un1 hsz hg0 hgo lc=>?_);refine Calls.spliced_nil ⟨I1.kIn,iH ?_⟩;obtain⟨oc,od,kV,doc,pm2,an,cdv,ct,osl,rfl,lk,hcd⟩:=F.ex;have hg3:g∉frs X.stack:=fun z=>by
  obtain⟨u0,o,ho,u0⟩:=I.stack.mem z;exact absurd (fN (fK ho) hsz) (gn _)
 let Q1:VK:=fun v H'=>∃ l xs G',v=.ref l/\R [.int kind] G'/\zt X.K G' H'/\G'.m l=none/\H' l=some (.lst xs)/\Dens X.K H' [.int kind] xs/\zo H H';have core:codeAny 13#0 X.A (.call (.ref f) ⟨[.ref g],[]⟩) (CR CX0 X.stack X.prog X.w H1 s1 Q1 E0) s1:=by
  have e0:=I1.env0;have KX:X.K.In s1.heap:=I1.kIn;have lim:s1.heap.NoLimit:=I1.nolimit;have hkind:∀ y∈[("call":Str)].zip [Value.ref g],(zD st).names.lookup y.1=some .local\/((zD st).names.lookup y.1=some .cell/\((cellsFrom (s1.heap.objs.size+1) (zD st).names []).lookup y.1).isSome=true):=fun⟨n,v⟩ hy=>by
   rcases S.par n (gM hy).1 with q | q
   ·exact .inl q
   ·exact .inr ⟨q,PySem.W.cellsFrom_some _ _ _ (.inl q)⟩
  have hbd:=hb s1 [.ref g] KX rfl;refine iJ hr.depth (KX _ _ lk) rfl S.co S.gen rfl (PySem.W.codeRec_of KX hcd) (hbd _ _ _ _ ?_);refine io S.kind hkind fun env he s2 x2=>?_;subst he;refine⟨lim.keeps x2.toInCall.keep,codeAny_func ?_⟩;have J0:zT (zBi CX0 X.prog X.w X.K X.mg X.base N "_law_refused" (zD st) f cdv X.A X.stack s1 H1 E0).nox [] (start N [.ref g]) H1 s2:=(zC4 (vs:=[.ref g]) (us:=[.ref g]) S hr.hd e0 rfl (.cons (show RelV (.ref g) (.ref g) from rfl) .nil) x2).wish _;have hrr:yS (k+1) (X.A.deeper (envOfC "_law_refused" (zD st) s1.heap.objs.size f cdv)):=hr.deeper _;obtain⟨j1,p1,p2,p3,p4,p5,p6,p7,p8,p9,p10,p11,p12,hbody⟩:=B.body;rw[hbody];have hl3:3<=N.length:=by have:=(fI.mp B.n2).1;omega
  have st0:(start N [.ref g])[0]?=some (some (.ref g)):=rfl;refine gq (wpAny_Assign_Name (fV (zMa (X:=(zBi CX0 X.prog X.w X.K X.mg X.base N "_law_refused" (zD st) f cdv X.A X.stack s1 H1 E0).nox) [] s2 _ H1 (fun v H'=>v=.non/\H'=H1) J0 ⟨rfl,rfl⟩) (fun u s3 hz=>?_) (fun u0 u0 z=>z.elim)) rfl);obtain⟨v,H',J1,rv,rfl,hH⟩:=hz;rw[hH] at J1;refine zCk J1 S.nd B.n1 (.inl B.l1) rv (fun s4 J2=>?_) (.inr B.l1);dsimp only;refine gq (zNc (C:=C) (Cc:=Cc) (Z:=fun H'=>zo H1 H'/\∃ G',zt X.K G' H'/\R [.int kind] G') rfl rfl rfl J2 S.nd B.n0 B.l0 (by rw[gF 11#0];exact st0) ?fn ?run B.gl hCc hxm B.n2 B.l2 B.n1 B.l1 ?h)
  case fn=>exact⟨_,_,_,_,J2.base.keep g _ hgo hg0 hg3 (by intro z;exact absurd (show g∈([]:List Addr) from z) 27#0)⟩
  case run =>
   exact zPl (X:=X) (pins:=pins) (σ1:=σ1) I1 L.hsc J2.base J2.env0 hrr (L.bd _ _ _ _ _) (J2.base.keep g _ hgo hg0 hg3 (by intro z;exact absurd (show g∈([]:List Addr) from z) 27#0)) lc (hlam g cv _ _ s4 _ (hrr.deeper _)) (r.to sm.grow (r.g.same sm)) ht
  case h =>
   intro e oe H' s' Jp hZ hcl;obtain⟨gr,G',rg,hR⟩:=hZ;dsimp only;let D:Ends:={ nx:=fun u0 H''=>Q1 .non H'',rt:=Q1 }
   let R2:Q2:=fun d G''=>∃ l G0,d=.adr l/\G0.m l=none/\G''=zh G0 l [.int kind]/\R [.int kind] G0;have hG:zo H H':=sm.grow.trans gr;refine fV (hrest cdv X.A X.stack s1 H1 e oe hrr hcl [] s' _ H' D Jp ⟨_,G',zj R2,⟨rg,?_,?_⟩,hres e G' R2 fun l n=>⟨l,G',rfl,n,rfl,hR⟩,⟨?_,?_,?_,?_⟩⟩) (fun fl s'' hs=>?_) (fun u0 u0 z=>z.elim)
   ·simp[L2.start];omega
   ·intro i d e1
    by_cases hi:i=1
    ·subst hi
     rw[gu (by simp;omega)] at e1;cases e1;refine⟨.ref e,?_,by unfold zQ;rfl⟩;rw[gF 11#0,gu (by simp[L2.start];omega)]
    ·rw[gF (Ne.symm hi),gQ] at e1
     split at e1<;>cases e1
   ·rintro σ' G1 ⟨G2,s2',⟨l,G0,z,u0⟩⟩;cases z
   ·intro u0 u0 z;exact z.elim
   ·intro u0 u0 z;exact z.elim
   ·rintro d G1 ⟨G2,s2',⟨l,G0,rfl,n0,rfl,hR0⟩⟩ v H2 g2 r2 dv
    unfold zQ at dv;subst dv;obtain⟨xs,w1,w2⟩:=r2.m l _ (s2'.m _ _ zU);exact⟨l,xs,G0,rfl,hR0,r2.sub ((Sub.new n0).trans s2'),n0,w1,w2,hG.trans g2⟩
   ·cases fl with
    | ret u =>
     obtain⟨v,σ',H2,J,rv2,q⟩:=hs;exact⟨v,H2,J.os,J.bare,J.base,J.hok,rv2,q⟩
    | next =>
     obtain⟨σ',H2,J,⟨l,xs,G2,z,u0⟩⟩:=hs;cases z
    | brk=>obtain⟨u0,u0,u0,q⟩:=hs;exact q.elim
    | cont=>obtain⟨u0,u0,u0,q⟩:=hs;exact q.elim
 refine gG core fun rr s' hq'=>?_;cases rr with
 | error e=>exact hq'.elim
 | ok fl =>
  cases fl with
  | ret u =>
   obtain⟨v,H',J,rv,l,xs,G',rfl,a1,a2,a3,a4,a5,a6⟩:=I1.after hq';exact⟨.ref l,H',J,rv,kk _ G' a1 l xs H' a6 a2 a3 a4 a5⟩
  | next=>exact hq'.elim
  | brk=>exact hq'.elim
  | cont=>exact hq'.elim
def zIf(i:Nat)(e:Addr)(b:Bool):zm:=fun σ G R=>look σ i=some (.adr e)/\R (.bl b) G
section
variable {X:Cx}
theorem zIg{e C:Addr}{oe:Obj}{c:Value}{vc:V}{b:Bool}(k:zAk X.K C)(hp:(e,oe)∈X.pn)(hc:oe.cls=.ref C)(hv:∀ u,RelV vc u->u=c)(hb:PySem.W.kitOne X.K (.ref C) c=some b):zAX X (.builtin "isinstance") (fun xs H Q=>xs=[.ref e,vc]/\Q (.bl b) H):=by
 intro pins s σ H xs us Q I rv h;obtain⟨rfl,q⟩:=h;obtain⟨w1,w2,rfl,r1,r2⟩:=vals2 rv;obtain rfl:w1=Value.ref e:=r1;obtain rfl:=hv w2 r2;exact PySem.W.kia_one (zNa k) I.kIn ⟨oe,(I.pin _ (ip _ hp)).1,hc⟩ hb (fun z=>nomatch z) fun tk=>⟨.bl b,H,I.tok _,rfl,q⟩
theorem zIh(i:Nat){x cn:Str}{e C D:Addr}{oe:Obj}{b:Bool}{p p1 p2 pos:Pos}(k:zAk X.K C)(hp:(e,oe)∈X.pn)(hc:oe.cls=.ref C)(hg:Gl X "isinstance")(hm:X.mg "isinstance"=none)(hg2:Gl X cn)(hD:X.mg cn=some (.ref D))(hb:PySem.W.kitOne X.K (.ref C) (.ref D)=some b)
  (hN:autoParam (X.N[i]?=some x) Zq5._auto_1) (hv:autoParam (Vis X.env.scope x) Zq7._auto_1) (hd:4#0) (hcd:autoParam ((x==("__classdict__":Str))=false) Zq2._auto_1) (hdb:autoParam ((cn==("__debug__":Str))=false) Zq2._auto_1) :
  E2 X (.Call (.Name "isinstance" p) [.Name x p1,.Name cn p2] [] pos) (zIf i e b):=by
 refine PE.mono (zB3 (zIg (vc:=.ref D) k hp hc (fun u r=>r) hb) hg hm 3#0 (zAH (zHC hN hv hd hcd) (zAH (zC2 hg2 hD (v:=.ref D) rfl hdb) zBz rfl) rfl)) ?_;rintro σ1 H Q ⟨σ,G,R,r,⟨q1,q2⟩,kk⟩;obtain⟨v,e1,e2⟩:=r.val i _ (zB6 q1);unfold zQ at e2;subst e2;exact⟨_,e1,rfl,kk _ G q2 _ H (.refl H) r.g 22#0⟩
theorem zSH(i:Nat){x:Str}{e C:Addr}{oe:Obj}{p p1 p2 pos:Pos}(k:zAk X.K C)(hp:(e,oe)∈X.pn)(hc:oe.cls=.ref C)(hg:Gl X "isinstance")(hm:X.mg "isinstance"=none)(hg2:Gl X "ValueError")(hm2:X.mg "ValueError"=none)(hb:PySem.W.kitOne X.K (.ref C) (.type "ValueError")=some true)
  (hN:autoParam (X.N[i]?=some x) Zq5._auto_1) (hv:autoParam (Vis X.env.scope x) Zq7._auto_1) (hd:4#0) (hcd:autoParam ((x==("__classdict__":Str))=false) Zq2._auto_1) :
  E2 X (.Call (.Name "isinstance" p) [.Name x p1,.Name "ValueError" p2] [] pos) (zIf i e true):=by
 refine PE.mono (zB3 (zIg (vc:=.ty "ValueError") k hp hc (fun u r=>r) hb) hg hm 3#0 (zAH (zHC hN hv hd hcd) (zAH (zKZ (v:=.ty "ValueError") hg2 hm2 3#0 rfl) zBz rfl) rfl)) ?_;rintro σ1 H Q ⟨σ,G,R,r,⟨q1,q2⟩,kk⟩;obtain⟨v,e1,e2⟩:=r.val i _ (zB6 q1);unfold zQ at e2;subst e2;exact⟨_,e1,rfl,kk _ G q2 _ H (.refl H) r.g 22#0⟩
set_option genInjectivity true in
inductive zAy (X:Cx) (is:List Nat):List Expr->Prop
 | nil:zAy X is []
 | con {c:Str} {j:Nat} {p:Pos} {r:List Expr} (h:c.length<=100) (t:zAy X is r):zAy X is (.Constant (.str c) j p::r)
 | fld {i:Nat} {x:Str} {p p2:Pos} {r:List Expr} (hi:i∈is) (h:PE X (.Name x p) (zS4 i)) (t:zAy X is r):zAy X is (.FormattedValue (.Name x p) (-1) none p2::r)
theorem zHZ{is:List Nat}{c:Str}{j:Nat}{p:Pos}{r:List Expr}(t:zAy X is r)(h:autoParam (c.length<=100) Zq2._auto_1):zAy X is (.Constant (.str c) j p::r):=.con h t
theorem zJx(i:Nat){is:List Nat}{x:Str}{p p2:Pos}{r:List Expr}(t:zAy X is r)(hi:autoParam (i∈is) Zq2._auto_1)(hN:autoParam (X.N[i]?=some x) Zq5._auto_1)(hv:autoParam (Vis X.env.scope x) Zq7._auto_1)(hd:4#0)(hcd:autoParam ((x==("__classdict__":Str))=false) Zq2._auto_1) :
  zAy X is (.FormattedValue (.Name x p) (-1) none p2::r):=.fld hi (zHC hN hv hd hcd) t
theorem zL5:∀ n:Fin 100,(Str.ofString (toString ((n.val:Nat):Int))).length<=100:=by decide +kernel
theorem zFn{is:List Nat}{pins:20#0}{σ1:L2.St}{H:Hp}(hs:∀ i∈is,∃ n:Nat,n<100/\σ1[i]?=some (some (.int n))){Qq:Str->Shared->Prop}(hq:∀ out s',L2.zT X pins σ1 H s'->out.length<=sizeLine->Qq out s') :
  ∀ {parts:List Expr},zAy X is parts->∀(acc:Str) (s:Shared),L2.zT X pins σ1 H s->acc.length+100*parts.length<=sizeLine->Joins 13#0 X.A X.xe (evalEach parts X.env) acc Qq s
 | _,.nil,acc,s,I,hl=>hq acc s I (by simpa using hl)
 | _,.con (c:=c) (r:=r) h t,acc,s,I,hl=>by
  have hl':acc.length+100*(r.length+1)<=sizeLine:=by simpa using hl
  have e:(acc++c).length=acc.length+c.length:=Str.length_append _ _;refine wpAny_Constant_str ⟨c,_,rfl,by omega,zFn hs hq t _ _ (I.tok _) 17#0⟩
 | _,.fld (i:=i) (r:=r) hi h t,acc,s,I,hl=>by
  have hl':acc.length+100*(r.length+1)<=sizeLine:=by simpa using hl
  obtain⟨n,hn,hv⟩:=hs i hi;refine wpAny_FormattedValue_plain (yV (h pins s σ1 H (fun v H'=>v=.int n/\H'=H) I ⟨_,hv,rfl,rfl⟩) fun u s1 hz=>?_);obtain⟨v,H',I1,rv,rfl,hH⟩:=hz;rw[hH] at I1;obtain⟨tk,rfl⟩:=rv;have hlen:=zL5 ⟨n,hn⟩;dsimp only at hlen;have e:(acc++Str.ofString (toString (n:Int))).length=acc.length+(Str.ofString (toString (n:Int))).length:=Str.length_append _ _;refine wpAny_formatField_int ?_ ⟨_,_,rfl,by omega,zFn hs hq t _ _ (I1.tok _) 17#0⟩;have:((n:Int)).natAbs=n:=by simp
  rw[this];have h2:Nat.log2 n<=n:=Nat.log2_le_self n;omega
def xFs(is:List Nat):zm:=fun σ G R=>(∀ i∈is,∃ n:Nat,n<100/\look σ i=some (.int n))/\∀ x,R (.str x) G
theorem zSI(is:List Nat){v1 v2:Expr}{r:List Expr}{pos:Pos}(h:zAy X is (v1::v2::r))(hl:autoParam (100*(v1::v2::r).length<=sizeLine) Zq2._auto_1):E2 X (.JoinedStr (v1::v2::r) pos) (xFs is):=by
 intro pins s σ1 H Q I hq;obtain⟨σ,G,R,rr,⟨q1,q2⟩,kk⟩:=hq;refine wpAny_JoinedStr (zFn (fun i hi=>?_) (fun out s' I' ho=>?_) h Str.empty s I (by have:Str.empty.length=0:=rfl;omega))
 ·obtain⟨n,hn,hk⟩:=q1 i hi
  obtain⟨v,e1,e2⟩:=rr.val i _ (zB6 hk);unfold zQ at e2;subst e2;exact⟨n,hn,e1⟩
 ·exact⟨ho,.str out,H,I'.tok _,⟨_,rfl⟩,kk _ G (q2 out) _ H (.refl H) rr.g 22#0⟩
end
end L3
namespace L2
noncomputable def zSJ:Value->Bool | .str _ _=>true | _=>false
noncomputable def zNf:Value->Bool | .int _ _=>true | _=>false
noncomputable def zTl:Value->Bool | .bool _=>true | _=>false
noncomputable def zSK(P:Addr):Option Value->Bool | some (.ref a)=>a==P | _=>false
noncomputable def zDw(K:14#0)(c P:Addr):Bool:=match K.lookup c with
 | some ⟨.type "code",_,.fields vs,_⟩=>zSK P vs[11]?&&zSJ (vs.getD 18 .none)&&zNf (vs.getD 7 .none)&&zTl (vs.getD 9 .none)&&zNf (vs.getD 10 .none)&&!(c==P)
 | _=>false
theorem zGx{K:14#0}{c P:Addr}{h:Heap}(X:K.In h)(q:zDw K c P=true):PySem.W.CodeHd h c P/\isCodeTable h P:=by
 unfold zDw at q;split at q
 ·rename_i d vs sl heq
  simp only[fW,Bool.not_eq_true',beq_eq_false_iff_ne] at q;obtain⟨⟨⟨⟨⟨q1,q2⟩,q3⟩,q4⟩,q5⟩,q6⟩:=q;have h11:vs[11]?=some (.ref P):=by
   generalize vs[11]?=v at q1;cases v with
   | none=>cases q1
   | some v=>cases v<;>first | (have:=beq_iff_eq.mp (show(_==P)=true from q1);rw[this];done) | cases q1
  have hd:∀(b:Value->Bool) (v:Value),b v=true->b v=true:=fun u0 u0 z=>z;obtain⟨s,t,e18⟩:∃ s t,vs.getD 18 .none=.str s t:=by
   generalize vs.getD 18 .none=v at q2;cases v<;>first | exact⟨_,_,rfl⟩ | cases q2
  obtain⟨i,t2,e7⟩:∃ s t,vs.getD 7 .none=.int s t:=by
   generalize vs.getD 7 .none=v at q3;cases v<;>first | exact⟨_,_,rfl⟩ | cases q3
  obtain⟨b,e9⟩:∃ s,vs.getD 9 .none=.bool s:=by
   generalize vs.getD 9 .none=v at q4;cases v<;>first | exact⟨_,rfl⟩ | cases q4
  obtain⟨i2,t3,e10⟩:∃ s t,vs.getD 10 .none=.int s t:=by
   generalize vs.getD 10 .none=v at q5;cases v<;>first | exact⟨_,_,rfl⟩ | cases q5
  have g:=X _ _ heq;refine⟨⟨_,vs,s,t,i,t2,b,i2,t3,g,rfl,rfl,h11,?_,e18,e7,e9,e10,q6⟩,⟨c,_,vs,g,rfl,rfl,h11⟩⟩;rw[Array.getD_eq_getD_getElem?,h11];rfl
 ·cases q
theorem zNg{K:14#0}{x:Str}{c P f:Addr}{oc:Value}{od:Option Addr}{fd:FuncData}{sl:12#0}(h:PySem.W.tabIn K x=some (c,P))(h1:PySem.W.nsIn K mainGlobals x=some (some (.ref f)))(h2:K.lookup f=some ⟨oc,od,.func fd,sl⟩):fd.code=.ref c:=by
 unfold PySem.W.tabIn at h;rw[h1] at h;dsimp only at h;rw[h2] at h;dsimp only at h;cases hc:fd.code<;>(rw[hc] at h;dsimp only at h)<;>try cases h
 rename_i c';split at h
 ·split at h
  ·cases h;rfl
  ·cases h
 ·cases h
structure zQx (K:PySem.W.Frag) (as ts:List Addr) (qn:Addr->Str):Prop where
 out:∀ P∈ts,P∉as
 code:∀ P∈ts,∃ c,zDw K c P=true
 name:∀ x∈zCI,∀ c b,PySem.W.tabIn K x=some (c,b)->b∈ts/\qn b=x++".<locals>.<lambda>"
theorem lookup_none{K:14#0}{P:Addr}(h:P∉K.map (·.1)):K.lookup P=none:=by
 induction K with
 | nil=>rfl
 | cons p r ih =>
  rw[fJ,fS,not_or] at h;obtain⟨a,o⟩:=p;have hb:(P==a)=false:=by simpa using h.1
  rw[fU,hb];exact ih h.2
theorem zTm{K:14#0}{as ts:List Addr}{x:Str}(h:∃ c P,PySem.W.tabIn K x=some (c,P)/\zDw K c P=true/\ts=[P])(hy:∀ y∈zCI,y=x\/PySem.W.tabIn K y=none)(ho:∀ P∈ts,P∉as):∃ qn,zQx K as ts qn:=by
 obtain⟨c,P,h1,h2,rfl⟩:=h;refine⟨fun u0=>x++".<locals>.<lambda>",ho,fun P' hP=>?_,fun y hyy c' b e=>?_⟩
 ·rw[gO.mp hP];exact⟨c,h2⟩
 ·rcases hy y hyy with rfl | z
  ·rw[h1] at e;cases e;exact⟨gO.mpr rfl,rfl⟩
  ·rw[z] at e;cases e
theorem zL6{P':Program}{w:World}{K:14#0}{mg mb:Str->Option Value}{CX:CXT}{k:Nat}{fa a:Addr}{fd:FuncData}{x:Str}{sp:Sp}{s₁:Shared}{vs:List Value}{ns:List Int}{ts:List Addr}{qn:Addr->Str}
  (TB:TabsAt K s₁.heap ts qn) (KX:K.In s₁.heap) (hns:s₁.heap.Ns mainGlobals mg) (hb:s₁.heap.Ns builtinsNs mb) (hbb:∀ x:Str,x≠"__name__"->mb x=bootBuiltins x) (hlim:s₁.heap.NoLimit) (hg:s₁.gens=#[])
  (ha:s₁.heap.get? a=some { cls:=.type "list",data:=.seq vs.toArray }) (hi:IntsAre vs ns) (hl:ns.length<=sizeLine) (hr:yS k callerA)
  (hbm:BMn s₁.heap mg) (F:∀ base:Heap,K.In base->base.Ns mainGlobals mg->BMn base mg->zCm P' w K mg base CX k fa fd [x] sp) (hbind:∀(s:Shared) (u:Value),BindsTo s fd ⟨[u],[]⟩ [(x,u)])
  (hsp:∀ H:Hp,zPH H->SqL K H a (ns.map V.int)->sp [.ref a] H (fun v u0=>v=.bl true) fun u0 u0 u0=>False)
  (hCX:∀ H e s',CX [] H s₁ 26#0 e s'->False) :
  codeAny (model P' w) callerA (.call (.ref fa) ⟨[.ref a],[]⟩) (fun r s'=>r=.ok (.ret (.bool true))/\OldK s₁.heap s'.heap/\s'.os=s₁.os/\AllBare s'.gens) s₁:=by
 have rv:=zGi hi;have lenV:=hi.length
 -- from an abstract heap in which nothing but the script may be tracked
 have core:∀ H:Hp,zPH H->SqL K H a (ns.map V.int)->HOk P' w H s₁.heap->(∀ b,H b≠none->b=a\/b∈ts)->(H a≠none->K.lookup a=none)->(∀ P∈ts,H P=some (.tbl #[.str (qn P) 0])) ->
   codeAny (model P' w) callerA (.call (.ref fa) ⟨[.ref a],[]⟩) (fun r s'=>r=.ok (.ret (.bool true))/\OldK s₁.heap s'.heap/\s'.os=s₁.os/\AllBare s'.gens) s₁:=by
  intro H hO hS hok hA hK hT;have base_of:∀ {b:Addr} {o:Obj},s₁.heap.get? b=some o->H b=none->(zGN s₁.heap H).get? b=some o:=fun e n=>zMZ e n;have noA:∀ {b:Addr} {o:Obj} {es:Array DictEntry} {ep:Nat},s₁.heap.get? b=some o->o.data=.dict es ep->H b=none:=fun {b o es ep} e d=>by
   cases q:H b with
   | none=>rfl
   | some u =>
    rcases hA b (by rw[q];simp) with e' | e'
    ·subst e'
     rw[ha] at e;cases e;have d':Data.seq vs.toArray _=Data.dict es ep:=d;cases d'
    ·rw[TB.obj b e'] at e;cases e
     have d':Data.fields #[]=Data.dict es ep:=d;cases d'
  have nsK:∀ {b:Addr} {m:Str->Option Value},s₁.heap.Ns b m->(zGN s₁.heap H).Ns b m:=fun {b m} ⟨o,es,ep,e,d,r⟩=>⟨o,es,ep,base_of e (noA e d),d,r⟩
  have hKb:K.In (zGN s₁.heap H):=fun b o e=>base_of (KX b o e) (by
   cases q:H b with
   | none=>rfl
   | some u =>
    rcases hA b (by rw[q];simp) with e' | e'
    ·subst e'
     rw[hK (by rw[q];simp)] at e;cases e
    ·rw[TB.out b e'] at e;cases e)
  have hM:Mod K mg (zGN s₁.heap H):=⟨hKb,nsK hns,⟨mb,nsK hb,hbb⟩,let ⟨mc,h1,h2⟩:=hlim;⟨mc,nsK h1,h2⟩⟩
  have e0:zFS P' w K mg (zGN s₁.heap H) callerA [] s₁ H:=⟨rfl,hM,fun b o e=>zOs e,Nat.le_of_eq (zLU _ _),trivial,fun b hb=>absurd (show b∈([]:List Addr) from hb) 27#0,hok,.of_eq hg,fun x hx c b e=>by
   obtain⟨z1,z2⟩:=TB.name x hx c b e;exact⟨0,by rw[<-z2];exact hT b z1⟩⟩
  have hbm':BMn (zGN s₁.heap H) mg:=by
   obtain⟨bm,o,b1,b2,b5,b6,b7,b8⟩:=hbm;refine⟨bm,o,b1,b2,base_of b5 ?_,b6,b7,b8⟩;cases q:H bm with
   | none=>rfl
   | some u =>
    rcases hA bm (by rw[q];simp) with e' | e'
    ·subst e'
     rw[ha] at b5;cases b5;cases b8
    ·rw[TB.obj bm e'] at b5;cases b5;cases b8
  refine gG ((F _ hKb (nsK hns) hbm').run callerA [] s₁ H ⟨[.ref a],[]⟩ [.ref a] [.ref a] _ _ hr e0 (hbind s₁ (.ref a)) (.cons rfl .nil) (hsp H hO hS)) fun r s' h=>?_;cases r with
  | error e=>exact(hCX H e s' h).elim
  | ok fl =>
   cases fl with
   | next=>exact False.elim h
   | brk=>exact False.elim h
   | cont=>exact False.elim h
   | ret u =>
    obtain⟨v,H',os,bare,un,hok',r',q⟩:=h;have q':v=.bl true:=q;subst q';obtain rfl:u=Value.bool true:=r';have K1:∀ b o,b∉ts->s₁.heap.get? b=some o->s'.heap.get? b=some o:=fun b o hb e=>by
     cases q:H b with
     | none=>exact un.keep b o e q (by intro z;exact absurd (show b∈([]:List Addr) from z) 27#0) 27#0
     | some u =>
      rcases hO b with z | ⟨ob,xs,z⟩ | ⟨ps,z⟩
      ·rw[q] at z;cases z
      ·have z2:=un.frzs b ob _ z
       obtain⟨e1,u0⟩:=hok b _ z;obtain⟨e2,u0⟩:=hok' b _ z2;rw[e] at e1;cases e1;exact e2
      ·rcases hA b (by rw[q];simp) with e' | e'
       ·obtain⟨u0,u0,u0,u0,w1,u0⟩:=hok b _ z
        rw[e',ha] at w1;cases w1
       ·exact absurd e' hb
    have K2:∀ b,b∈ts->∃ vs,s'.heap.get? b=some (PySem.W.tabObj vs):=fun b hb=>by
     have z2:=un.tbls b _ (hT b hb);obtain⟨u0,u0,vs,u0,w1,u0⟩:=hok' b _ z2;exact⟨vs,w1⟩
    refine⟨rfl,⟨fun b o e=>?_,fun b o e=>?_⟩,os,bare⟩
    ·by_cases hb:b∈ts
     ·obtain⟨vs,w1⟩:=K2 b hb
      rw[TB.obj b hb] at e;cases e;exact .inr (.inl ⟨TB.code b hb,rfl,#[],vs,rfl,by simpa using w1⟩)
     ·exact .inl (K1 b o hb e)
    ·by_cases hb:b∈ts
     ·obtain⟨vs,w1⟩:=K2 b hb
      exact⟨_,w1⟩
     ·exact⟨o,K1 b o hb e⟩
 have naT:∀ P∈ts,P≠a:=fun P hP z=>by
  have e:=TB.obj P hP;rw[z,ha] at e;cases e
 have tok:∀(H:Hp),∀ P∈ts,yy P' w H s₁.heap P (.tbl #[.str (qn P) 0]):=fun H P hP=>⟨qn P,0,#[],rfl,TB.obj P hP,trivial,fun pos cv e=>by cases e⟩
 cases hk:K.lookup a with
 | some o =>
  -- the script is one of the module's own objects
  have e:=KX a o hk;rw[ha] at e;cases e;refine core (fun b=>if b∈ts then some (.tbl #[.str (qn b) 0]) else none) (fun b=>?_) (.inr ⟨_,vs.toArray,_,hk,rfl,rfl,rfl,by rw[fY,lenV];exact hl,by simpa using rv⟩) (fun b u z=>?_) (fun b z=>?_) (fun z=>?_) fun P hP=>if_pos hP
  ·by_cases hb:b∈ts
   ·exact .inr (.inr ⟨_,if_pos hb⟩)
   ·exact .inl (if_neg hb)
  ·by_cases hb:b∈ts
   ·have z':=(if_pos hb).symm.trans z
    cases z';exact tok _ b hb
   ·have z':=(if_neg hb).symm.trans z
    cases z'
  ·by_cases hb:b∈ts
   ·exact .inr hb
   ·exact absurd (if_neg hb) z
  ·by_cases hb:a∈ts
   ·exact absurd rfl (naT a hb)
   ·exact absurd (if_neg hb) z
 | none =>
  refine core (fun b=>if b=a then some (.frz { cls:=.type "list",data:=.seq vs.toArray } (.lst (ns.map V.int))) else if b∈ts then some (.tbl #[.str (qn b) 0]) else none) (fun b=>?_) (.inl (.inr ⟨{ cls:=.type "list",data:=.seq vs.toArray },if_pos rfl⟩)) (fun b u z=>?_) (fun b z=>?_) (fun u0=>hk) fun P hP=>?_
  ·by_cases hb:b=a
   ·exact .inr (.inl ⟨_,_,if_pos hb⟩)
   ·by_cases hb2:b∈ts
    ·exact .inr (.inr ⟨_,(if_neg hb).trans (if_pos hb2)⟩)
    ·exact .inl ((if_neg hb).trans (if_neg hb2))
  ·by_cases hb:b=a
   ·have z':=(if_pos hb).symm.trans z
    cases z';subst hb;exact⟨ha,by rw[fE];exact hl,vs,_,rv,ha⟩
   ·by_cases hb2:b∈ts
    ·have z':=((if_neg hb).trans (if_pos hb2)).symm.trans z
     cases z';exact tok _ b hb2
    ·have z':=((if_neg hb).trans (if_neg hb2)).symm.trans z
     cases z'
  ·by_cases hb:b=a
   ·exact .inl hb
   ·by_cases hb2:b∈ts
    ·exact .inr hb2
    ·exact absurd ((if_neg hb).trans (if_neg hb2)) z
  ·exact(if_neg (naT P hP)).trans (if_pos hP)
theorem zNh{l:PySem.W.OpenLaw}{n k:Nat}{q:Program}{loose:List Str}{XP:(Str->Option Value)->Heap->Prop}{YP:World->Heap->Prop}{d:DefRec}{K:Params->PySem.W.Frag}{CX:World->CXT}{sp:World->Sp}{x:Str}
  (hn:l.most=some n) (hn2:n<=sizeLine) (hdf:d.params.defaults=[]) (hr:yS k callerA)
  (hY:∀(w:World) (h:Heap),YP w h->(K w.params).In h/\∃ ts qn,TabsAt (K w.params) h ts qn)
  (F:∀(w:World) (mg:Str->Option Value) (fa:Addr) (h:Heap),(K w.params).In h->h.Ns mainGlobals mg->mg d.name=some (.ref fa) ->
   ∃ fd:FuncData,(∀(s:Shared) (u:Value),BindsTo s fd ⟨[u],[]⟩ [(x,u)]) /\
    ∀ base:Heap,(K w.params).In base->base.Ns mainGlobals mg->BMn base mg->zCm l.prog w (K w.params) mg base (CX w) k fa fd [x] (sp w))
  (hsp:∀(w:World) (H:Hp) (a:Addr) (ns:List Int),ns.length<=n->zPH H->SqL (K w.params) H a (ns.map V.int)->sp w [.ref a] H (fun v u0=>v=.bl true) fun u0 u0 u0=>False)
  (hCX:∀(w:World) (H:Hp) (s:Shared) (e:Value) (s':Shared),CX w [] H s 26#0 e s'->False) :
  PySem.W.WalkO q loose XP YP l.row.toRowW d [] (fun f vs=>PySem.call f vs):=by
 refine Att.zIM hn hdf fun w s₀ s₁ mg mb fa o pm cd doc a vs ns G Y ho hd hcd hmg hobj hints hlen hg=>?_;obtain⟨KX,ts,qn,TB⟩:=hY w _ Y;obtain⟨fd,hb,hF⟩:=F w mg fa _ KX G.T.g hmg;exact zL6 TB KX G.T.g G.T.b G.T.builtins G.T.nolimit hg hobj hints (gt hlen hn2) hr G.T.bmain hF hb (fun H hO hS=>hsp w H a ns hlen hO hS) fun H e s'=>hCX w H s₁ e s'
end L2
namespace L3
open L2
theorem zL7{l:PySem.W.OpenLaw}{k:Nat}{q:Program}{loose:List Str}{XP:(Str->Option Value)->Heap->Prop}{d:DefRec}{K:Params->PySem.W.Frag}{as:List Addr}{e:∀ P:Params,as=(K P).map (·.1)}{ts:List Addr}(hn:l.most=some 63)(hdf:d.params.defaults=[])(hr:yS k callerA)
  (hT:∀ w:World,∃ qn,zQx (K w.params) as ts qn)
  (F:∀(w:World) (mg:Str->Option Value) (fa:Addr) (h:Heap),(K w.params).In h->h.Ns mainGlobals mg->mg d.name=some (.ref fa) ->
   ∃ fd:FuncData,(∀(s:Shared) (u:Value),BindsTo s fd ⟨[u],[]⟩ [("script",u)])/\∀ base:Heap,(K w.params).In base->base.Ns mainGlobals mg->BMn base mg->zCm l.prog w (K w.params) mg base CX0 k fa fd ["script"] (lSp (K w.params) zGt)) :
  PySem.W.WalkO q loose XP (PySem.W.kmHook K as e ts).says l.row.toRowW d [] (fun f vs=>PySem.call f vs) :=
 L2.zNh (K:=K) (n:=63) (k:=k) (x:="script") (CX:=fun u0=>CX0) (sp:=fun w=>lSp (K w.params) zGt) hn 11#0 hdf hr (fun w h Y=>⟨PySem.W.km_in_of Y,ts,by
  obtain⟨qn,t⟩:=hT w;have KX:=PySem.W.km_in_of Y;exact⟨qn,PySem.W.km_tabs_of Y,fun P hP=>lookup_none (by rw[<-e w.params];exact t.out P hP),fun P hP=>(zGx KX (t.code P hP).choose_spec).2,t.name⟩⟩) F (fun u0 H a ns hl hO hS=>zR4 hl hO hS) fun u0 u0 u0 u0 u0 z=>z
theorem zSL{P:Program}{w:World}{K:14#0}{mg:Str->Option Value}{base:Heap}{x qual:Str}{st:Stmt}{f:Addr}{fd:FuncData}{N ps:List Str}{k:Nat}{sp:wq}(t:wC)(F:Fun K x qual st f fd)(S:zV N ps (zD st))
  (ht:∀(cdv:Value) (A:Around) (outer:List Env) (s:Shared) (H:Hp) (E:XK),fd.code=cdv->yS k (A.deeper (envOfC qual (zD st) s.heap.objs.size f cdv))->Ps2 (zBi CX0 P w K mg base N qual (zD st) f cdv A outer s H E).nox (zR st) t)
  (hs:∀ ds G R,sp ds G R->ds.length=ps.length/\t (zj R) (zK N ds) G):zCm P w K mg base CX0 (k+1) f fd ps (lSp K sp):=by
 have F0:=F.ex;obtain⟨oc,od,kV,doc,pm,an,cdv,ct,osl,rfl,lk,hcd⟩:=F0;refine zQk lk hcd S ?_ ?_
 ·rintro vs H Q E ⟨ds,G,R,d,r,h,u0⟩
  rw[<-d.length];exact(hs ds G R h).1
 ·intro A outer s H vs Q E hr h
  obtain⟨ds,G,R,d,r,h,kk⟩:=h;refine⟨_,(ht cdv A outer s H E rfl hr).nox,zK N ds,G,_,zCA r d,(hs ds G R h).2,⟨?_,?_,?_,?_⟩⟩
  ·rintro σ G' ⟨G'',s',q'⟩ σ1 H' g' r'
   exact kk _ G'' q' _ H' g' (r'.g.sub s') 22#0
  ·intro σ G' h;exact h.elim
  ·intro σ G' h;exact h.elim
  ·rintro d' G' ⟨G'',s',q'⟩ v H' g' r' dv
   exact kk _ G'' q' _ H' g' (r'.sub s') dv
noncomputable def zSM(osc sc:Scope):Bool:=decide (sc.kind=.function)&&!sc.isCoroutine&&!sc.isGenerator&&sc.names.all (fun y=>decide (y.2≠.cell))&&sc.names.all (fun y=>decide (y.2≠.local))&&sc.names.all (fun y=>decide (y.2=.free->osc.names.lookup y.1=some .cell\/osc.names.lookup y.1=some .free))
theorem zNi{env:Env}{osc sc:Scope}(h:zSM osc sc=true)(e:env.scope=osc):zK3 env sc:=by
 subst e;unfold zSM at h;simp only[fW,decide_eq_true_eq,ge,Bool.not_eq_true'] at h;obtain⟨⟨⟨⟨⟨h1,h2⟩,h3⟩,h4⟩,h5⟩,h6⟩:=h;exact⟨h1,h2,h3,h4,h5,h6⟩
theorem zNj{X:Cx}{osc:Scope}{x:Str}{c P:Addr}{params:Arguments}{body:Expr}{sc:Scope}(h:zSM osc sc=true)(code:X.env.code=.ref c)(hd:PySem.W.CodeHd X.base c P)(blt:BMn X.base X.mg)(tab:PySem.W.tabIn X.K x=some (c,P))(mem:x∈zCI)(qual:X.env.qual++"<lambda>"=x++".<locals>.<lambda>")(df:defaultsOf params X.env=([],[]))
  (bd:∀(q:Str) (cl:List (Str×Addr)) (pm cv ctv:Value),bindArgs (PySem.W.kla_fn "<lambda>" q params body sc cl pm cv ctv) ⟨[],[]⟩=pure []) (e:autoParam (X.env.scope=osc) Zq5._auto_1):zNe X x c P params body sc :=
 ⟨zNi h e,code,hd,blt,qual,mem,tab,df,bd⟩
section
variable {X:Cx} {C:Addr} {st:Stmt} {rest body els:List Stmt} {t t':(Gp->Prop)->S2->Gp->Prop}
theorem zFo{sts:List Stmt}(h:Xs X C sts t)(h':Xs X C sts t'):Xs X C sts (fun E σ G=>t E σ G\/t' E σ G):=by
 intro pins s σ1 H σ G E I r q;rcases q with q | q
 ·exact h pins s σ1 H σ G E I r q
 ·exact h' pins s σ1 H σ G E I r q
theorem zIi{ex:Expr}{x:Str}{p pos:Pos}(h:Xe X C ex t)(hs:autoParam (swapsWith ex (some (.Name x p)) pos.line X.env=pure false) Zq5._auto_1):Xs X C (.Assign [.Name x p] ex pos::rest) t:=by
 intro pins s σ1 H σ G E I r q;exact gq (wpAny_Assign_Name (fV (h pins s σ1 H σ G E I r q) (fun u0 u0 z=>z.elim) fun u0 u0 z=>z) hs)
theorem zPm{elt iter tg:Expr}{ifs:List Expr}{sc:Scope}{pos:Pos}(h:Xe X C iter t):Xe X C 23#0 t:=by
 intro pins s σ1 H σ G E I r q;rw[eval_ListComp];unfold comprehension;exact fB (fV (h pins s σ1 H σ G E I r q) (fun u0 u0 z=>z.elim) fun u0 u0 z=>z)
abbrev Cnd:=List D->Gp->(Gp->Prop)->Prop
end
def DfM(P:Program)(w:World)(K:14#0)(mg:Str->Option Value)(base:Heap)(k:Nat)(C:Addr)(m:Str)(ps:List Str)(sp:wq):Prop :=
 ∃ f fd,zCm P w K mg base CX0 k f fd ps (lSp K sp)/\zCl K C m f/\Binds K fd ps []
def wE(C:Addr)(m:Str)(sp:wq)(to:zm)(t:TA2):zm:=fun σ G R=>to σ G fun d G1=>match d with
 | .adr a=>∃ dx fs,G1.dc a=some (.ins C dx fs)/\fs.lookup m=none/\t σ G1 fun ds G2=>sp (.adr a::ds) G2 R
 | _=>False
section
variable {X:Cx} {o e:Expr} {es:List Expr} {m:Str} {pos apos:Pos} {to:zm} {ta:TA2} {C Cc:Addr} {sp:wq} {ps:List Str} {k k':Nat}
theorem zBJ{pl:Sem Bool}(c:Cls X.K C)(F:DfM X.prog X.w X.K X.mg X.base k C m ps sp)(hr:yS k' X.A)(hk:k<=k')(ho:E2 X o to)(ha:A2 X (e::es) ta)
  (hst:2#0) (hpl:9#0)
  (ht:autoParam (eval (.Call (.Attribute o m apos) (e::es) [] pos) X.env=(do
   let ov <-eval o X.env
   standAt apos.atName
   let (f,first) <-holding [ov] (getMethod ov m pl)
   callWith pos f first (backTo pos (starEach (e::es) X.env)) (backToKw pos (keywordEach [] X.env)))) Zq5._auto_1) :
  E2 X (.Call (.Attribute o m apos) (e::es) [] pos) (wE C m sp to ta):=by
 obtain⟨f,fd,F,hm,hb⟩:=F;refine PE.mono (zO6 (dvs:=[]) (pl:=pl) ho c hm F (hr.mono hk) hb .nil zKh ha hst hpl ht) ?_;rintro σ1 H Q ⟨σ,G,R,r,q,kk⟩;refine⟨σ,G,_,r,q,fun d G1 q1 v H1 g1 r1 d1=>?_⟩;split at q1
 ·rename_i a
  obtain⟨dx,fs,e1,e2,q1⟩:=q1;unfold zQ at d1;subst d1;obtain⟨xs,h1,h2⟩:=r1.dc a _ e1;refine⟨a,dx,_,rfl,h1,(zFC h2).2 e2,σ,G1,_,r.to g1 r1,q1,fun ds G2 q2 vs H2 g2 r2 d2=>?_⟩;show lSp X.K _ (V.ref a::(vs++[])) H2 Q E0;rw[gT];exact⟨.adr a::ds,G2,R,.cons 22#0 d2,r2,q2,fun d G' q' v H' g'=>kk d G' q' v H' ((g1.trans g2).trans g')⟩
 ·exact q1.elim
def DfI(P:Program)(w:World)(K:14#0)(mg:Str->Option Value)(base:Heap)(k:Nat)(C:Addr)(sp:wq):Prop :=
 ∃ f fd,zCm P w K mg base CX0 k f fd ["self"] (lSp K sp)/\Mk K C f/\Binds K fd ["self"] []
def zNk(C:Addr)(sp:wq):zm:=fun u0 G R=>∀ x dx,G.dc x=none->sp [.adr x] (zHI G x (.ins C dx [])) fun d G2=>d=.non/\R (.adr x) G2
theorem zSN{x:Str}{p:Pos}(F:DfI X.prog X.w X.K X.mg X.base k C sp)(hr:yS k' X.A)(hk:k+1<=k')(hg:Gl X x)(hm:X.mg x=some (.ref C))(hdb:4#0):E2 X (.Call (.Name x p) [] [] pos) (zNk C sp):=by
 obtain⟨f,fd,F,hM,hb⟩:=F;refine PE.mono (zMo (dvs:=[]) hM F (hr.mono hk) hg hm hb .nil zKh hdb) ?_;rintro σ1 H Q ⟨σ,G,R,r,q,kk⟩;intro y dx hy hdx hne;have hy':yx H dx (.own y) y=none:=by rw[zr hne.symm];exact hy
 have g:zo H (yx (yx H dx (.own y)) y (.ins C dx [])):=(zo.fresh hdx).trans (.fresh hy');refine⟨[.adr y],zHI G y (.ins C dx []),_,.cons 22#0 .nil,((r.g.fresh hdx).fresh hy').down ⟨[],yC,.nil⟩,q y dx (r.g.dfree hy),fun d G' q' v H' g' r' dv=>?_⟩;obtain⟨rfl,q'⟩:=q';unfold zQ at dv;exact⟨dv,kk _ G' q' _ H' (g.trans g') r' 22#0⟩
def RzM(P:Program)(w:World)(K:14#0)(mg:Str->Option Value)(base:Heap)(k:Nat)(Cc:Addr)(m:Str)(ps:List Str)(cond:Cnd)(C:Addr):Prop :=
 ∃ f fd,zCl K Cc m f/\Binds K fd ps []/\(∀ ds G E,cond ds G E->ds.length=ps.length) /\
  ∀(A:Around) (outer:List Env) (s:Shared) (H:Hp) (args:Args) (us:List Value) (vs:List V) (ds:List D) (G:Gp) (E:Gp->Prop),yS k A->zFS P w K mg base A outer s H->BindsTo s fd args (ps.zip us)->zy vs us->Dens K H ds vs->zt K G H->cond ds G E ->
   codeAny (model P w) A (.call (.ref f) args) (fun r s'=>∃ e H' B,r=.error (.ref e)/\XE P w outer H s C e H' B s'/\zo H H'/\∃ G',zt K G' H'/\E G') s
def zBA(Cc:Addr)(m:Str)(cond:Cnd)(to:zm)(t:TA2):(Gp->Prop)->S2->Gp->Prop:=fun E σ G=>to σ G fun d G1=>match d with
 | .adr a=>∃ dx fs,G1.dc a=some (.ins Cc dx fs)/\fs.lookup m=none/\t σ G1 fun ds G2=>cond (.adr a::ds) G2 E
 | _=>False
def Xc(X:Cx)(C:Addr)(ex:Expr)(t:(Gp->Prop)->S2->Gp->Prop):Prop :=
 ∀(pins:20#0) (s:Shared) (σ1:L2.St) (H:Hp) (σ:S2) (G:Gp) (E:Gp->Prop),zT X pins σ1 H s->Rel X.K σ G σ1 H->t E σ G ->
  wpAny 13#0 X.A (eval ex X.env) (fun u0 u0=>False) (fun v s'=>∃ e s1 H1 H' B,v=.ref e/\zT X pins σ1 H1 s1/\XE X.prog X.w X.stack H1 s1 C e H' B s'/\zo H H'/\∃ G',zt X.K G' H'/\E G') s
theorem Xc.xe{ex:Expr}{t:(Gp->Prop)->S2->Gp->Prop}(O:Own X)(h:Xc X C ex t):Xe X C ex t:=by
 intro pins s σ1 H σ G E I r q;refine fV (h pins s σ1 H σ G E I r q) (fun u0 u0 z=>z) fun v s' z=>?_;obtain⟨e,s1,H1,H',B,e1,I1,x,g,q⟩:=z;exact⟨e,H',B,e1,x.body O.stk O.frm O.ex I1,g,q⟩
theorem zK4{pl:Sem Bool}{cond:Cnd}(no:∀ v s,¬ X.xe v s)(c:Cls X.K Cc)(R:RzM X.prog X.w X.K X.mg X.base k Cc m ps cond C)(hr:yS k' X.A)(hk:k<=k')(ho:E2 X o to)(ha:A2 X (e::es) ta)
  (hst:2#0) (hpl:9#0)
  (ht:autoParam (eval (.Call (.Attribute o m apos) (e::es) [] pos) X.env=(do
   let ov <-eval o X.env
   standAt apos.atName
   let (f,first) <-holding [ov] (getMethod ov m pl)
   callWith pos f first (backTo pos (starEach (e::es) X.env)) (backToKw pos (keywordEach [] X.env)))) Zq5._auto_1) :
  Xc X C (.Call (.Attribute o m apos) (e::es) [] pos) (zBA Cc m cond to ta):=by
 intro pins s σ1 H σ G E I r h;obtain⟨f,fd,hm,hb,hl,run⟩:=R;refine PySem.W.methodCall_KW (pl:=pl) (fV (ho pins s σ1 H (fun v H1=>∃ a G1 dx fs,v=.ref a/\zo H H1/\Rel X.K σ G1 σ1 H1/\G1.dc a=some (.ins Cc dx fs)/\fs.lookup m=none/\ta σ G1 fun ds G2=>cond (.adr a::ds) G2 E) I ⟨σ,G,_,r,h,fun d G1 q1 v H1 g1 r1 d1=>?_⟩) (fun u s1 ⟨v,H1,I1,rv,a,G1,dx,fs,ev,g1,r1,e1,e2,q1⟩=>?_) fun v s' q=>(no v s' q).elim) ht
 ·split at q1
  ·rename_i a
   obtain⟨dx,fs,e1,e2,q1⟩:=q1;unfold zQ at d1;exact⟨a,G1,dx,fs,d1,g1,r.to g1 r1,e1,e2,q1⟩
  ·exact q1.elim
 ·subst ev
  have rv:u=.ref a:=rv;subst rv;obtain⟨xs,h1,h2⟩:=r1.g.dc a _ e1;refine zFR I1 h1 c hm ((zFC h2).2 e2) ?_;refine PySem.W.callWith_K (first:=[.ref a]) (h₀:=X.base) I.ok.mod.kin hm.kp (fV (ha pos pins s1 σ1 H1 (fun vs H'=>zo H1 H'/\∃ ds G',Dens X.K H' ds vs/\zt X.K G' H'/\cond (.adr a::ds) G' E) I1 ⟨σ,G1,_,r1,q1,fun ds G' q vs H' g r' d'=>⟨g,ds,G',d',r',q⟩⟩) (fun us s2 q=>?_) fun v s' q=>(no v s' q).elim) hst hpl;obtain⟨vs,H2,I2,rv,g,ds,G',d',r',q'⟩:=q;refine⟨I2.kIn,iH (gG (run X.A X.stack s2 H2 ⟨.ref a::us,[]⟩ (.ref a::us) (.ref a::vs) (.adr a::ds) G' E (hr.mono hk) I2.env0 ?_ (.cons rfl rv) (.cons 22#0 d') r' q') fun rr s' ⟨ee,H',B,e1,e2,g2,e3⟩=>?_)⟩
  ·have:=hb s2 (.ref a::us) I2.kIn (by
    have:=hl _ G' E q';rw[gi] at this;rw[gT,gi,<-rv.length,<-d'.length];exact this)
   rw[gT] at this;exact this
  ·subst e1
   exact⟨ee,s2,H2,H',B,rfl,I2,e2,(g1.trans g).trans g2,e3⟩
theorem zPn{F:Str}{cond:Cnd}{p:Pos}(no:∀ v s,¬ X.xe v s)(R:Rz X.prog X.w X.K X.mg X.base k F ps cond C)(hr:yS k' X.A)(hk:k<=k')(hg:Gl X F)(ha:A2 X (e::es) ta)
  (hdb:autoParam ((F==("__debug__":Str))=false) Zq2._auto_1) (he:2#0) (hpl:9#0) :
  Xc X C (.Call (.Name F p) (e::es) [] pos) (fun E σ G=>ta σ G fun ds G'=>cond ds G' E):=by
 intro pins s σ1 H σ G E I r h;obtain⟨f,fd,hm,hkp,hb,hl,run⟩:=R;refine gz (zBk I hg hm ?_ hdb);refine PySem.W.callWith_K (h₀:=X.base) I.ok.mod.kin hkp (fV (ha pos pins s σ1 H (fun vs H'=>zo H H'/\∃ ds G',Dens X.K H' ds vs/\zt X.K G' H'/\cond ds G' E) I ⟨σ,G,_,r,h,fun ds G' q vs H' g r' d'=>⟨g,ds,G',d',r',q⟩⟩) (fun us s1 q=>?_) fun v s' q=>(no v s' q).elim) he hpl;obtain⟨vs,H1,I1,rv,g,ds,G',d',r',q'⟩:=q;refine⟨I1.kIn,iH (gG (run X.A X.stack s1 H1 ⟨us,[]⟩ us vs ds G' E (hr.mono hk) I1.env0 ?_ rv d' r' q') fun rr s' ⟨ee,H',B,e1,e2,g2,e3⟩=>?_)⟩
 ·have:=hb s1 us I1.kIn (by rw[gT,<-rv.length,<-d'.length];exact hl ds G' E q')
  rw[gT] at this;exact this
 ·subst e1
  exact⟨ee,s1,H1,H',B,rfl,I1,e2,g.trans g2,e3⟩
end
abbrev TX2:=(Gp->Prop)->S2->Gp->Prop
def lX(K:14#0)(t:TX2):TX:=fun σ1 H Z=>∃ σ G E,Rel K σ G σ1 H/\t E σ G/\∀ G',E G'->∀ H',zo H H'->zt K G' H'->Z H'
theorem Xc.v{X:Cx}{C:Addr}{ex:Expr}{t:TX2}(h:Xc X C ex t):XcV X C ex (lX X.K t):=by
 intro pins s σ1 H Z I q;obtain⟨σ,G,E,r,q,k⟩:=q;refine fV (h pins s σ1 H σ G E I r q) (fun u0 u0 z=>z) fun v s' z=>?_;obtain⟨e,s1,H1,H',B,e1,I1,x,g,G',r',q'⟩:=z;exact⟨e,s1,H1,H',B,e1,I1,x,k G' q' H' g r'⟩
def zB1(wi:TI2)(bd:D->Option (List D))(tc:TT2)(te:zm)(tx:TX2):TX2:=fun E σ G=>wi σ G fun ds gd G1=>∀ A,G1.m A=none->∃ Pv:Nat->List D->Gp->Prop,Pv 0 [] (zh G1 A [])/\(∀ i acc G,Pv i acc G->i<ds.length/\gd G/\G.m A=some acc/\acc.length<=i) /\
 (∀ i x acc G,ds[i]?=some x->Pv i acc G->match bd x with
  | some us=>tc (σ++us.map some) G fun b G3=>if b=true then ((te (σ++us.map some) G3 fun d G4=>G4.m A=some acc/\FgG (Pv (i+1) (acc++[d])) (zh G4 A (acc++[d])))\/tx E (σ++us.map some) G3) else FgG (Pv (i+1) acc) G3
  | none=>False)
theorem zFp{K:14#0}{wi:TI2}{bd:D->Option (List D)}{tc:TT2}{te:zm}{tx:TX2}{n:Nat}{g:TG}{N:Nat}
  (hb:∀(σ1:L2.St) (H:Hp) (d:D) (v:V) (us:List D) (Q:L2.St->Hp->Prop),σ1.length=N->zQ K H d v->bd d=some us->us.length=n->(∀ vs,Dens K H us vs->Q (σ1++vs.map some) H)->g v (σ1++fX n none) H Q)
  (hn:∀ d us,bd d=some us->us.length=n)
  {σ1:L2.St} {H:Hp} {Z:Hp->Prop} (hl:σ1.length=N) (h:lX K (zB1 wi bd tc te tx) σ1 H Z):zJs n (lI K wi) g (lT K tc) (lE K te) (lX K tx) σ1 H Z:=by
 obtain⟨σ,G,E,r,q,k⟩:=h;refine⟨σ,G,_,r,q,fun ds gd G1 q1 J H1 g1 r1 W hz A hA=>?_⟩;obtain⟨Pv,p0,pg,pt⟩:=q1 A (r1.free hA);refine⟨fun i m H2=>m=ds.length-i/\i<=ds.length/\zo H1 H2/\∃ as G2,zt K G2 H2/\Pv i as G2,⟨ds.length,by simp,i7 _,.fresh hA,[],zh G1 A [],r1.new hA .nil,p0⟩,?_⟩;rintro i m H2 ⟨rfl,hi',g2,as,G2,r2,p2⟩;obtain⟨hlt,gd2,al,hlen⟩:=pg i as G2 p2;refine⟨W.go i G2 H2 gd2 r2 g2 hlt,fun x H3 y=>?_⟩;obtain⟨gy,ry,d,e3,dv⟩:=W.yld i G2 H2 x H3 gd2 r2 g2 hlt y
 replace g2:=g2.trans gy
 replace r2:=ry
 have q3:=pt i d as G2 e3 p2;cases eb:bd d with
 | none=>rw[eb] at q3;exact q3.elim
 | some us =>
  rw[eb] at q3;dsimp only at q3;have hus:=hn d us eb;refine hb σ1 H3 d x us _ hl dv eb hus fun vs hv=>⟨?_,?_,?_⟩
  ·rw[List.take_append_of_le_length (fP _),List.take_length]
  ·rw[gj,fE,<-hv.length,hus]
  ·have rr:Rel K (σ++us.map some) G2 (σ1++vs.map some) H3:=(r.to (g1.trans g2) r2).app hv
   refine⟨σ++us.map some,G2,_,rr,q3,fun b G4 q4 H4 g4 r4=>?_⟩;cases b with
   | false =>
    obtain⟨G5,s5,p5⟩:=q4;exact⟨ds.length-(i+1),by omega,rfl,hlt,g2.trans g4,as,G5,r4.sub s5,p5⟩
   | true =>
    rcases(show _\/_ from q4) with q4 | q4
    ·refine .inl ⟨σ++us.map some,G4,_,rr.to g4 r4,q4,fun d5 G5 q5 v H5 g5 r5 d5v=>?_⟩
     obtain⟨a5,G6,s6,p6⟩:=q5;obtain⟨acc,e6,d6⟩:=r5.m A as a5;refine⟨acc,e6,by rw[<-d6.length];omega,ds.length-(i+1),by omega,rfl,hlt,((g2.trans g4).trans g5).trans (.lst e6),as++[d5],G6,?_,p6⟩;exact(r5.put e6 (d6.append (.cons d5v .nil))).sub s6
    ·exact .inr ⟨σ++us.map some,G4,E,rr.to g4 r4,q4,fun G' q' H' g' r'=>k G' q' H' (((g1.trans g2).trans g4).trans g') r'⟩
section
variable {X:Cx} {elt iter:Expr} {ifs:List Expr} {sc:Scope} {pos:Pos} {N0:List Str} {wi:TI2} {tc:TT2} {te:zm} {tx t:TX2} {C:Addr}
theorem zNl(x:Str){px:Pos}(O:Own X)(T:zBd X sc N0)(hi:I2 X (.Name x px) iter wi)
  (hnd:(N0++[x]).Nodup) (hx:(relabel sc X.env).names.lookup x=some .local)
  (ht:∀ C s H fp pins,Ts2 34#0 ifs tc) (he:∀ C s H fp pins,E2 34#0 elt te) (hxe:∀ C' s H fp pins,Xc (X.comp (N0++[x]) sc C' s H fp pins) C elt tx)
  (hs:15#0):Xe X C 30#0 (zB1 wi bd1 tc te tx):=by
 intro pins s σ1 H σ G E I r q;refine fV (zPh (own:=[x]) (g:=zFP X.N.length) (tc:=lT X.K tc) (te:=lE X.K te) (tx:=lX X.K tx) (Ce:=C) (Z:=fun H'=>zo H H'/\∃ G',zt X.K G' H'/\E G') (pos:=pos) O.no O.stk O.frm O.ex O.calm T hi (fun C s H fp pins=>zCK (X:=X.comp (N0++[x]) sc C s H fp pins) hnd (by
  show(N0++[x])[X.N.length]?=some x;rw[<-T.len];simp) (.inl hx) (.inr hx)) ht he (fun C' s H fp pins=>(hxe C' s H fp pins).v) I (zFp (n:=1) (N:=X.N.length) bind1 (fun d us e=>by cases e;rfl) I.len ⟨σ,G,E,r,q,fun G' q' H' g' r'=>⟨g',G',r',q'⟩⟩) hs) (fun u0 u0 z=>z) fun v s' z=>?_
 obtain⟨e,H',B,e1,xb,g,q'⟩:=z;exact⟨e,H',B,e1,xb,g,q'⟩
theorem zNm{c a b:Expr}{ta tb:TX2}(O:Own X)(hc:T2 X c tc)(ha:Xe X C a ta)(hb:Xe X C b tb):Xe X C (.IfExp c a b pos) (fun E σ G=>tc σ G fun z G1=>if z=true then ta E σ G1 else tb E σ G1):=by
 intro pins s σ1 H σ G E I r h;refine wpAny_IfExp (fV (hc pins s σ1 H (fun b H'=>zo H H'/\∃ G',Rel X.K σ G' σ1 H'/\(if b=true then ta E σ G' else tb E σ G')) I ⟨σ,G,_,r,h,fun b G' q H' g r'=>⟨g,G',r.to g r',q⟩⟩) (fun z s' q=>?_) fun v s' q=>(O.no v s' q).elim);obtain⟨H',I',g,G',r',q'⟩:=q;have fin:∀ {v:Value} {s2:Shared},(∃ e H2 B,v=.ref e/\XB X C e H2 B s2/\zo H' H2/\∃ G',zt X.K G' H2/\E G')->∃ e H2 B,v=.ref e/\XB X C e H2 B s2/\zo H H2/\∃ G',zt X.K G' H2/\E G':=fun⟨e,H2,B,e1,e2,g2,e3⟩=>⟨e,H2,B,e1,e2,g.trans g2,e3⟩
 cases z with
 | true=>exact fV (ha pins s' σ1 H' σ G' E I' r' (by rw[if_pos rfl] at q';exact q')) (fun u0 u0 z=>z) fun u0 u0 z=>fin z
 | false=>exact fV (hb pins s' σ1 H' σ G' E I' r' (by rw[if_neg 27#0] at q';exact q')) (fun u0 u0 z=>z) fun u0 u0 z=>fin z
theorem zEr{ex:Expr}{rest:List Stmt}(h:Xe X C ex t):Xs X C (.Return (some ex) pos::rest) t:=by
 intro pins s σ1 H σ G E I r q;exact gq (wpAny_Return_some (fV (h pins s σ1 H σ G E I r q) (fun u0 u0 z=>z.elim) fun u0 u0 z=>z))
end
section
variable {X:Cx} {C:Addr} {e:Expr} {es:List Expr} {t u:TX2} {te:zm} {x:Str} {p pos:Pos}
def Xa(X:Cx)(C:Addr)(es:List Expr)(t:TX2):Prop :=
 ∀(pos:Pos) (pins:20#0) (s:Shared) (σ1:L2.St) (H:Hp) (σ:S2) (G:Gp) (E:Gp->Prop),zT X pins σ1 H s->Rel X.K σ G σ1 H->t E σ G ->
  wpAny 13#0 X.A (spliced (backTo pos (starEach es X.env))) (fun u0 u0=>False) (fun v s'=>∃ e H' B,v=.ref e/\XB X C e H' B s'/\zo H H'/\∃ G',zt X.K G' H'/\E G') s
theorem zDx(h:Xe X C e t)(he:2#0):Xa X C (e::es) t:=by
 intro pos pins s σ1 H σ G E I r q;rw[he];show wpAny _ _ (spliced ((false,eval e X.env)::backTo pos (starEach es X.env))) _ _ s;exact Calls.spliced_cons (fV (h pins s σ1 H σ G E I r q) (fun u0 u0 z=>z.elim) fun u0 u0 z=>z)
theorem zPo(O:Own X)(ha:E2 X e te)(h:Xa X C es t)(he:2#0):Xa X C (e::es) (fun E σ G=>te σ G fun u0 G1=>t E σ G1):=by
 intro pos pins s σ1 H σ G E I r q;rw[he];show wpAny _ _ (spliced ((false,eval e X.env)::backTo pos (starEach es X.env))) _ _ s;refine Calls.spliced_cons (fV (ha pins s σ1 H (fun u0 H'=>zo H H'/\∃ G',Rel X.K σ G' σ1 H'/\t E σ G') I ⟨σ,G,_,r,q,fun d G' q v H' g r' dv=>⟨g,G',r.to g r',q⟩⟩) (fun u s' z=>?_) fun v s' q=>(O.no v s' q).elim);obtain⟨v,H',I',rv,g,G',r',q'⟩:=z;exact fV (h pos pins s' σ1 H' σ G' E I' r' q') (fun u0 u0 z=>z.elim) fun v s2 ⟨e,H2,B,e1,e2,g2,e3⟩=>⟨e,H2,B,e1,e2,g.trans g2,e3⟩
theorem zSO{x1}(h:Xa X C es t):Xe X C (.Tuple es x1 pos) t:=by
 intro pins s σ1 H σ G E I r q;exact wpAny_Tuple_spliced (fV (h pos pins s σ1 H σ G E I r q) (fun u0 u0 z=>z.elim) fun u0 u0 z=>z)
theorem zSP{f:Addr}(hg:Gl X x)(hm:X.mg x=some (.ref f))(hk:PySem.W.keepIn X.K (.ref f)=true)(h:Xa X C (e::es) t)(hdb:4#0)
  (he:2#0) (hpl:9#0):Xe X C (.Call (.Name x p) (e::es) [] pos) t:=by
 intro pins s σ1 H σ G E I r q;refine gz (zBk I hg hm ?_ hdb);exact PySem.W.callWith_K (h₀:=X.base) I.ok.mod.kin hk (fV (h pos pins s σ1 H σ G E I r q) (fun u0 u0 z=>z.elim) fun u0 u0 z=>z) he hpl
theorem zPp{k:Nat}{ps:List Str}{sp:wq}(hg:Gl X x)(F:Df X.prog X.w X.K X.mg X.base k x ps sp)(h:Xa X C (e::es) t)(hdb:4#0)
  (he:2#0) (hpl:9#0):Xe X C (.Call (.Name x p) (e::es) [] pos) t:=by
 obtain⟨f,fd,u0,hm,hk,u0⟩:=F;exact zSP hg hm hk h hdb he hpl
theorem zSQ{id:String}(hg:Gl X x)(hm:X.mg x=none)(hv:bootBuiltins x=some (.builtin id))(h:Xa X C (e::es) t)(hn:autoParam (x≠"__name__") Zq2._auto_1)(hdb:4#0)
  (he:2#0) (hpl:9#0):Xe X C (.Call (.Name x p) (e::es) [] pos) t:=by
 intro pins s σ1 H σ G E I r q;refine gz (zCJ I hg hm hv ?_ hn hdb);exact PyProof.Rows.callWith_builtin1 (fV (h pos pins s σ1 H σ G E I r q) (fun u0 u0 z=>z.elim) fun u0 u0 z=>z) he hpl
theorem zQy{T:String}(hg:Gl X x)(hm:X.mg x=none)(hv:bootBuiltins x=some (.type T))(h:Xa X C (e::es) t)(hn:autoParam (x≠"__name__") Zq2._auto_1)(hdb:4#0)
  (he:2#0) (hpl:9#0):Xe X C (.Call (.Name x p) (e::es) [] pos) t:=by
 intro pins s σ1 H σ G E I r q;refine gz (zCJ I hg hm hv ?_ hn hdb);exact PyProof.Rows.callWith_type1 (fV (h pos pins s σ1 H σ G E I r q) (fun u0 u0 z=>z.elim) fun u0 u0 z=>z) he hpl
theorem zTn:Xe X C e 26#0:=fun u0 u0 u0 u0 u0 u0 u0 u0 u0 h=>h.elim
theorem zFq{sts:List Stmt}:Xs X C sts 26#0:=fun u0 u0 u0 u0 u0 u0 u0 u0 u0 h=>h.elim
theorem zFr{c:Expr}{tt:TT2}{body els rest:List Stmt}(O:Own X)(hc:T2 X c tt)(hb:Xs X C body t)(hel:Xs X C els u):Xs X C (.If c body els pos::rest) (fun E σ G=>tt σ G fun b G'=>if b=true then t E σ G' else u E σ G'):=by
 intro pins s σ1 H σ G E I r h;refine gq (wpAny_If (fV (hc pins s σ1 H (fun b H'=>zo H H'/\∃ G',Rel X.K σ G' σ1 H'/\(if b=true then t E σ G' else u E σ G')) I ⟨σ,G,_,r,h,fun b G' q H' g r'=>⟨g,G',r.to g r',q⟩⟩) (fun b s' q=>?_) fun v s' q=>(O.no v s' q).elim));obtain⟨H',I',g,G',r',q'⟩:=q;cases b with
 | true=>exact fV (hb pins s' σ1 H' σ G' E I' r' (by rw[if_pos rfl] at q';exact q')) (fun u0 u0 z=>z.elim) fun v s2 ⟨e,H2,B,e1,e2,g2,e3⟩=>⟨e,H2,B,e1,e2,g.trans g2,e3⟩
 | false=>exact fV (hel pins s' σ1 H' σ G' E I' r' (by rw[if_neg 27#0] at q';exact q')) (fun u0 u0 z=>z.elim) fun v s2 ⟨e,H2,B,e1,e2,g2,e3⟩=>⟨e,H2,B,e1,e2,g.trans g2,e3⟩
theorem zTo{o i value:Expr}{pos':Pos}{rest:List Stmt}(h:Xe X C value t)(hs:autoParam (swapsWith value (some (.Subscript o i pos')) pos.line X.env=pure false) Zq5._auto_1):Xs X C (.Assign [.Subscript o i pos'] value pos::rest) t:=by
 intro pins s σ1 H σ G E I r q;exact gq (wpAny_Assign_Subscript (fV (h pins s σ1 H σ G E I r q) (fun u0 u0 z=>z.elim) fun u0 u0 z=>z) hs)
end
end L3
namespace L2
section
variable {X:Cx} {tg elt iter:Expr} {ifs:List Expr} {sc:Scope} {pos:Pos} {N0 own:List Str} {wi:TI} {g:TG} {tc:TT} {te:TE}
theorem zJy{Ce:Addr}{tx:TX}{y:Str}{py spos:Pos}(no:∀ v s,¬ X.xe v s)(stk:X.stack=X.env::X.outer)(frm:X.env.frame=some X.env.locals)(exn:X.ex=[])(hc:X.calm=true)(T:zBd X sc N0)(hi:PI X tg iter wi)
  (hg:∀ C s H fp pins,PG 25#0 tg g) (ht:∀ C s H fp pins,PTs 25#0 ifs tc) (he:∀ C s H fp pins,PE 25#0 elt te) (hxe:∀ C s H fp pins,XcV 25#0 Ce elt tx)
  (hsw:swapsWith 23#0 (some (.Name y py)) spos.line X.env=pure true)
  {pins:20#0} {s:Shared} {σ:St} {H:Hp} {Z:Hp->Prop} {Q:Flow->Shared->Prop} (I:16#0) (h:zJs own.length wi g tc te tx σ H Z) (hs:15#0) :
  wpAny 13#0 X.A (exec (.Assign [.Name y py] 23#0 spos) X.env) Q (fun v s'=>∃ e H' B,v=.ref e/\XB X Ce e H' B s'/\Z H') s:=by
 rw[exec_Assign_Name_used _ _ _ _ hsw];refine fB (wpAny_standAt (fB ?_));show wpAny _ X.A (do let _ <-comprehension 23#0 sc X.env _ (newList []) false (eval iter X.env) (some (assign (.Name y py) X.env))) _ _ s;have nox:∀ {α:Type} {t:Sem α} {Q:α->Shared->Prop} {E':10#0} {s:Shared},wpAny 13#0 X.A t Q X.xe s->wpAny 13#0 X.A t Q E' s:=fun h=>fV h (fun u0 u0 q=>q) fun v s z=>(no v s z).elim;refine fB (fV (iw (use:=some (assign (.Name y py) X.env)) (Q:=fun u0 u0=>False) rfl hs (wb fun y hy hf=>I.ok.has _ (T.cap y hy hf)) T.kind T.names
  (nox (yV (hi pins s σ H _ I h) fun xv s₁ h₁=>nox (yV h₁ fun it s₂ h₂=>?_)))) (fun u0 u0 z=>z.elim) fun u0 u0 z=>z)
 refine yV (zEp (iter:=iter) (pos:=pos) stk frm exn hc T hg ht he hxe h₂) fun acc s₃ h₃=>yV h₃ fun cenv s₄ h₄=>gG h₄ fun r s' hr=>?_;obtain⟨x,rfl,m,hn,e,H',rfl,hZ,hp⟩:=hr;refine⟨m,hn,fun h' sb cenv' hc'=>fV (hp h' sb cenv' hc') (fun u0 u0 z=>z) fun v s3 ⟨B',e1,xb⟩=>⟨e,H',B',e1,xb,hZ⟩⟩
end
end L2
namespace L3
open L2
section
variable {X:Cx} {elt iter a b:Expr} {ifs:List Expr} {sc:Scope} {pos:Pos} {N0:List Str} {wi:TI2} {tc:TT2} {te:zm} {tx t:TX2} {C:Addr}
theorem zNn(x:Str){y:Str}{px py spos:Pos}{rest:List Stmt}(O:Own X)(T:zBd X sc N0)(hi:I2 X (.Name x px) iter wi)
  (hnd:(N0++[x]).Nodup) (hx:(relabel sc X.env).names.lookup x=some .local)
  (ht:∀ C s H fp pins,Ts2 34#0 ifs tc) (he:∀ C s H fp pins,E2 34#0 elt te) (hxe:∀ C' s H fp pins,Xc (X.comp (N0++[x]) sc C' s H fp pins) C elt tx)
  (hsw:autoParam (swapsWith 30#0 (some (.Name y py)) spos.line X.env=pure true) Zq5._auto_1)
  (hs:15#0):Xs X C (.Assign [.Name y py] 30#0 spos::rest) (zB1 wi bd1 tc te tx):=by
 intro pins s σ1 H σ G E I r q;refine gq (fV (zJy (own:=[x]) (g:=zFP X.N.length) (tc:=lT X.K tc) (te:=lE X.K te) (tx:=lX X.K tx) (Ce:=C) (Z:=fun H'=>zo H H'/\∃ G',zt X.K G' H'/\E G') (Q:=fun u0 u0=>False) (pos:=pos) O.no O.stk O.frm O.ex O.calm T hi (fun C s H fp pins=>zCK (X:=X.comp (N0++[x]) sc C s H fp pins) hnd (by
  show(N0++[x])[X.N.length]?=some x;rw[<-T.len];simp) (.inl hx) (.inr hx)) ht he (fun C' s H fp pins=>(hxe C' s H fp pins).v) hsw I (zFp (n:=1) (N:=X.N.length) bind1 (fun d us e=>by cases e;rfl) I.len ⟨σ,G,E,r,q,fun G' q' H' g' r'=>⟨g',G',r',q'⟩⟩) hs) (fun u0 u0 z=>z.elim) fun v s' z=>?_)
 obtain⟨e,H',B,e1,xb,g,q'⟩:=z;exact⟨e,H',B,e1,xb,g,q'⟩
theorem zPq{op:CmpOp}(h:Xe X C a t)(hm:autoParam (behindInMarks op b=false) Zq5._auto_1):Xe X C (.Compare a [op] [b] pos) t:=by
 intro pins s σ1 H σ G E I r q;exact wpAny_Compare1 (fV (h pins s σ1 H σ G E I r q) (fun u0 u0 z=>z.elim) fun u0 u0 z=>z) hm
end
end L3
namespace K
open L2 L3
noncomputable abbrev nD(n:Nat):D:=.int (n:Int)
noncomputable def prs(n:Nat):List (Nat×Nat):=(fQ n).flatMap fun i=>(fQ (n-(i+1))).map fun k=>(i,i+1+k)
noncomputable def prD(p:Nat×Nat):D:=.tup [nD p.1,nD p.2]
noncomputable def zDe(n:Nat)(q:Nat×Nat->Bool):D:=.tup [nD n,.tup (((prs n).filter q).map prD)]
theorem zDD{n:Nat}{p:Nat×Nat}:p∈prs n↔p.1<p.2/\p.2<n:=by
 obtain⟨i,j⟩:=p;unfold prs;simp only[List.mem_flatMap,gf,gJ,Prod.mk.injEq];constructor
 ·rintro⟨a,ha,k,hk,rfl,rfl⟩;omega
 ·rintro⟨h1,h2⟩;exact⟨i,by omega,j-(i+1),by omega,rfl,by omega⟩
theorem zJz{n:Nat}(h:n<=100):(prs n).length<=10000:=by
 unfold prs;rw[List.length_flatMap];have:∀ l:List Nat,(∀ x∈l,x<=100)->l.sum<=100*l.length:=by
  intro l
  induction l with
  | nil=>simp
  | cons a r ih =>
   intro h;have h1:=h a 27#0;have h2:=ih fun x hx=>h x (by simp[hx]);simp only[List.sum_cons,gi];omega
 have q:=this ((fQ n).map fun i=>((fQ (n-(i+1))).map fun k=>(i,i+1+k)).length) (by simp;omega);simp only[fE,iI] at q ⊢;omega
theorem zHa{i j:Int}:eqD (.int i) (.int j)=decide (i=j):=by show(i==j)=decide (i=j);rw[gK];simp
theorem zDf{n:Nat}{q:Nat×Nat->Bool}{G:Gp}{R:Q2}:zz (zDe n q) (.int 0) G R=R (nD n) G:=zEk
theorem zDg{n:Nat}{q:Nat×Nat->Bool}{G:Gp}{R:Q2}:zz (zDe n q) (.int 1) G R=R (.tup (((prs n).filter q).map prD)) G:=zEl
def zBF:List D->Gp->(List D->Gp->Prop)->Prop:=fun ds G R=>∃ n:Nat,ds=[nD n]/\n<=100/\R ((prs n).map prD) G
theorem zJ0:∀ ds G R R',(∀ ls G',R ls G'->R' ls G')->zBF ds G R->zBF ds G R':=by
 rintro ds G R R' h ⟨n,e,hn,q⟩;exact⟨n,e,hn,h _ _ q⟩
def wS:List D->Gp->(List D->Gp->Prop)->Prop:=fun ds G R=>∃ ps:List Nat,ds=[.tup (ps.map nD)]/\ps.length<=100/\R (((prs ps.length).map fun p=>(ps.getD p.1 0,ps.getD p.2 0)).map prD) G
theorem zGV:∀ ds G R R',(∀ ls G',R ls G'->R' ls G')->wS ds G R->wS ds G R':=by
 rintro ds G R R' h ⟨n,e,hn,q⟩;exact⟨n,e,hn,h _ _ q⟩
theorem zFD(n:Nat):zAM 0 ((n:Int)).toNat=(fQ n).map nD:=by simp[zAM,nD]
noncomputable def zDy(d:D):Nat×Nat:=match d with | .tup [.int i,.int j]=>(i.toNat,j.toNat) | _=>(0,0)
theorem zEU(p:Nat×Nat):zDy (prD p)=p:=rfl
theorem zJ1(f:Nat×Nat->Bool)(l:List (Nat×Nat)):iA (fun d=>d) (List.filter (fun d=>f (zDy d)) (l.map prD))=(l.filter f).map prD:=by
 rw[List.map_id',List.filter_map];congr 1
theorem zTp{σ:S2}{G:Gp}{n:Nat}{q:Nat×Nat->Bool}{t:zm}(h:zn t σ G (zDe n q)):zn (zO zz t (xC (.int 0))) σ G (nD n):=yu h zv fun u0 u0 u0 q=>by rw[zDf];exact q
theorem zTq{σ:S2}{G:Gp}{n:Nat}{q:Nat×Nat->Bool}{t:zm}(h:zn t σ G (zDe n q)):zn (zO zz t 21#0) σ G (.tup (((prs n).filter q).map prD)):=yu h zv fun u0 u0 u0 q=>by rw[zDg];exact q
def zFE:wC:=(zk (zi (yz wS (zB (zNF (zB (zA 0) zG)) zG))))
def zCR:wC:=(zW (zp (zi (yl zG)) (gN 1)) (zW (zCc (iR1 (zB (zJ yF (zB (zA 0) zG)) zG)) (gN 2) (zCc (iR2 (zB (zO zDZ (zA 2) 21#0) (zB (zJ yF (zB (zA 0) zG)) zG))) (gN 3) (zBl (zPP (zA 1) (zB (zBI (zB (zO zz (zA 0) (zA 2)) (zB (zO zz (zA 0) (zA 3)) zG))) zG))))) (zk (zA 1))))
noncomputable def zCd(n i:Nat):List (Nat×Nat):=(fQ i).flatMap fun i=>(fQ (n-(i+1))).map fun k=>(i,i+1+k)
theorem zGy(n:Nat):zCd n n=prs n:=rfl
theorem zJ2(n i:Nat):zCd n (i+1)=zCd n i++(fQ (n-(i+1))).map fun k=>(i,i+1+k):=by
 unfold zCd;rw[List.range_succ,List.flatMap_append];simp
theorem zL8{n i:Nat}(hi:i<=n)(h:n<=100):(zCd n i).length<=10000:=by
 have:(zCd n i).length<=(prs n).length:=by
  obtain⟨k,rfl⟩:=Nat.exists_eq_add_of_le hi;rw[<-zGy];have:∀ k,(zCd (i+k) i).length<=(zCd (i+k) (i+k)).length:=fun k=>by
   unfold zCd;rw[List.range_add,List.flatMap_append,gj];omega
  exact this k
 have:=zJz h;omega
theorem zSR{n i:Nat}{x:D}(h:((fQ n).map nD)[i]?=some x):x=nD i/\i<n:=by
 rw[gh] at h;cases q:(fQ n)[i]? with
 | none=>rw[q] at h;cases h
 | some k =>
  rw[q] at h;cases h;obtain⟨h1,h2⟩:=fI.mp q;simp at h1 h2;subst h2;exact⟨rfl,h1⟩
theorem zL9{lo:Int}{n i:Nat}{x:D}(h:(zAM lo n)[i]?=some x):x=.int (lo+i)/\i<n:=by
 have hi:i<n:=by
  have:=(fI.mp h).1;rwa [zAU] at this
 rw[zFZ hi] at h;cases h;exact⟨rfl,hi⟩
theorem zNo{wi:TI2}{g:TG2}{tb:wC}{E:yO}{σ:S2}{G:Gp}(h:wi σ G fun ds gd G1=>zPX ds gd G1 g tb E σ):zCc wi g tb E σ G:=.of h
theorem zSS{t:TA2}{g:TG2}{tb:wC}{E:yO}{σ:S2}{G:Gp}{n:Nat}(ht:PuA t σ G [nD n])(hn:n<=1000)(h:zPX ((fQ n).map nD) (fun u0=>True) G g tb E σ):zCc (iR1 t) g tb E σ G:=by
 refine zNo (ht G (.refl G) _ ⟨by omega,?_⟩);rw[zFD];exact h
theorem zST{t:TA2}{g:TG2}{tb:wC}{E:yO}{σ:S2}{G:Gp}{i j:Int}(ht:PuA t σ G [.int i,.int j])(hn:(-1000<=i/\i<=1000)/\-1000<=j/\j<=1000)(h:zPX (zAM i (j-i).toNat) (fun u0=>True) G g tb E σ):zCc (iR2 t) g tb E σ G :=
 zNo (ht G (.refl G) _ ⟨by omega,h⟩)
theorem zPr{i:Nat}{l:Addr}{d:D}{xs:List D}{σ:S2}{G:Gp}{t:TA2}{R:Q2}(ho:look σ i=some (.adr l))(h:G.m l=some xs)(ht:∀ Q:List D->Gp->Prop,Q [d] G->t σ G Q)(hz:xs.length<=1000000)(q:R .non (zh G l (xs++[d]))):zPP (zA i) t σ G R:=by
 unfold zPP zA;rw[ho];show match G.m l with | some _=>_ | none=>_
 rw[h];refine ht _ ?_;show match G.m l with | some xs=>_ | none=>_
 rw[h];exact⟨hz,q⟩
theorem zPs{i:Nat}{l:Addr}{zs xs:List D}{σ:S2}{G:Gp}{t:TL2}{R:Q2}(ho:look σ i=some (.adr l))(h:G.m l=some xs)(ht:∀ Q:List D->Gp->Prop,Q zs G->t σ G Q)(hz:xs.length+zs.length<=1000000)(q:R .non (zh G l (xs++zs))):zPQ (zA i) t σ G R:=by
 unfold zPQ zA;rw[ho];show match G.m l with | some _=>_ | none=>_
 rw[h];refine ht _ ?_;show match G.m l with | some xs=>_ | none=>_
 rw[h];exact⟨hz,q⟩
theorem zPt{ps:List Nat}{i:Nat}(h:i<ps.length):atI (ps.map nD) (i:Int)=some (nD (ps.getD i 0)):=ya (by simp[iu,h])
theorem zK5{σ:S2}{G:Gp}{t u:zm}{ps:List Nat}{i:Nat}(h:zn t σ G (.tup (ps.map nD)))(h':zn u σ G (nD i))(hi:i<ps.length):zn (zO zz t u) σ G (nD (ps.getD i 0)):=yu h h' fun u0 u0 u0 q=>by
 simp only[zz,zPt hi];exact q
theorem zK6{σ:S2}{G:Gp}{t:zm}{ps:List Nat}(h:zn t σ G (.tup (ps.map nD))):zn (zJ yF (zB t zG)) σ G (nD ps.length):=yK (zI h zS) fun u0 u0 u0 q=>⟨ps.map nD,rfl,by rw[fE];exact q⟩
theorem zJ3(ds:List D)(G:Gp)(R:Q2)(h:spL wS ds G R):ds.length=1/\zCR (zj R) (zK ["places","found","k","j"] ds) G:=by
 obtain⟨ps,rfl,hn,h⟩:=h;refine⟨rfl,?_⟩;unfold zCR;let at2:Nat×Nat->Nat×Nat:=fun p=>(ps.getD p.1 0,ps.getD p.2 0)
 generalize hN:ps.length=n at *
 ((try dsimp only [zk,zW,zp,wM,zBl,zZ,gN,gNN,zO,zBI,yl,zi,zB,zG,zJ,yz,yZ,zAN,zA,look,zK,zGo,zGp,zC8,zEk,zEl,zGu,zDf,zDg,fII,zAP,zDZ,yY,xC,xB,zAh,zDo,yg,zLj,iA,iM,List.nil_append,fG,fH,gi,iC,List.replicate_succ,List.replicate_zero,Nat.reduceSub,Nat.reduceAdd,zLl,zLm,zLn,zLo,zBY,zC9,zDA,if_true,if_false,gI]) <;> (try simp only [zk,zW,zp,wM,zBl,zZ,gN,gNN,zO,zBI,yl,zi,zB,zG,zJ,yz,yZ,zAN,zA,look,zK,zGo,zGp,zC8,zEk,zEl,zGu,zDf,zDg,fII,zAP,zDZ,yY,xC,xB,zAh,zDo,yg,zLj,iA,iM,List.nil_append,fG,fH,gi,iC,List.replicate_succ,List.replicate_zero,Nat.reduceSub,Nat.reduceAdd,zLl,zLm,zLn,zLo,zBY,zC9,zDA,if_true,if_false,gI]))
 intro l hl;refine zSS (n:=n) (zI (by rw[<-hN];exact zK6 (zF rfl)) zS) 17#0 ?_;refine zKp (fun i G'=>G'=zh G l (((zCd n i).map at2).map prD)) rfl (fun u0 u0 u0=>trivial) ?_ ?_
 ·rintro i x hx G2 rfl
  obtain⟨rfl,hi⟩:=zSR hx;simp only[gN,fH,fG];refine zST (i:=(i:Int)+1) (j:=n) (zI (yu (zF rfl) zv fun u0 u0 u0 q=>q) (zI (by rw[<-hN];exact zK6 (zF rfl)) zS)) 17#0 ?_;refine zKp (fun k G'=>G'=zh G l (((zCd n i++(fQ k).map fun k=>(i,i+1+k)).map at2).map prD)) 27#0 (fun u0 u0 u0=>trivial) ?_ ?_
  ·rintro k x hx G2 rfl
   obtain⟨rfl,hk⟩:=zL9 hx;have ek:((i:Int)+1+(k:Int))=((i+1+k:Nat):Int):=by omega
   rw[ek];simp only[gN,fH,fG,zBl];have hlen:=zL8 (n:=n) (i:=i) 17#0 hn;have pt:PuA (zB (zBI (zB (zO zz (zA 0) (zA 2)) (zB (zO zz (zA 0) (zA 3)) zG))) zG) [some (.tup (ps.map nD)),some (.adr l),some (nD i),some (nD (i+1+k))] (zh G l (((zCd n i++(fQ k).map fun k=>(i,i+1+k)).map at2).map prD)) [prD (at2 (i,i+1+k))] :=
    zI (zEN (zI (zK5 (zF rfl) (zF rfl) 17#0) (zI (zK5 (zF rfl) (zF rfl) 17#0) zS)) 27#0) zS
   refine zPr (d:=prD (at2 (i,i+1+k))) rfl zU (fun Q q=>pt _ (.refl _) Q q) (by simp;omega) ⟨?_,_,.refl _,?_⟩
   ·exact .keep (.keep (.keep (.skip .nil)))
   ·rw[zC6,List.range_succ]
    simp
  ·rintro G2 rfl
   refine⟨.keep (.keep (.skip (.skip .nil))),_,.refl _,?_⟩;rw[zAU,zJ2];have:((n:Int)-((i:Int)+1)).toNat=n-(i+1):=by omega
   rw[this]
 ·rintro G2 rfl
  rw[fE,iI,zGy];exact FgR.of (h l hl)
theorem zPu(ds:List D)(G:Gp)(R:Q2)(h:spL zBF ds G R):ds.length=1/\zFE (zj R) (zK ["many"] ds) G:=by
 obtain⟨n,rfl,hn,h⟩:=h;refine⟨rfl,?_⟩;unfold zFE;have e:(prs (fQ n).length).map (fun p=>((fQ n).getD p.1 0,(fQ n).getD p.2 0))=prs n:=by
  rw[iI]
  conv=>rhs;rw[<-List.map_id' (prs n)]
  refine gX fun p hp=>?_;obtain⟨h1,h2⟩:=zDD.mp hp;have e1:(fQ n).getD p.1 0=p.1:=by simp[iu,show p.1<n by omega]
  have e2:(fQ n).getD p.2 0=p.2:=by simp[iu,h2]
  rw[e1,e2]
 have pt:PuA (zB (zNF (zB (zA 0) zG)) zG) (zK ["many"] [nD n]) G [.tup ((fQ n).map nD)] :=
  zI (fun G2 e R q=>zI (d:=nD n) (zF rfl) zS G2 e _ ⟨by omega,by rw[zFD];exact q⟩) zS
 have:=zCq (sp:=wS) (ls:=(prs n).map prD) pt fun u0 u0 u0 q=>⟨fQ n,rfl,by simpa using hn,by rw[e];exact q⟩
 refine this G (.refl G) _ fun l hl=>?_;exact FgR.of (h l hl)
theorem zFs(l:List Nat):∀ d∈l.map nD,flat 8 d=true:=by
 intro d hd;obtain⟨k,u0,rfl⟩:=gf.mp hd;rfl
theorem zJ4{σ:S2}{G:Gp}{t u:zm}{ng:Bool}{x:D}{ds:List D}{b:Bool}(h:zn t σ G x)(h':zn u σ G (.tup ds))(f:flat 8 x=true)(fs:∀ d∈ds,flat 8 d=true)(e:(if ng then !ds.any fun z=>eqD z x else ds.any fun z=>eqD z x)=b):zn (zO (fIn ng) t u) σ G (.bl b) :=
 yu h h' fun u0 u0 u0 q=>⟨f,fs,by rw[e];exact q⟩
theorem zNp{σ:S2}{G:Gp}{t u:zm}{i j:Int}(h:zn t σ G (.int i))(h':zn u σ G (.int j)):zn (zO zDZ t u) σ G (.int (i+j)):=yu h h' fun u0 u0 u0 q=>q
def zAz(n:Nat)(r:List Nat):Prop:=r.Perm (fQ n++fQ n)
theorem zAz.len{n:Nat}{r:List Nat}(h:zAz n r):r.length=2*n:=by
 have:=h.length_eq;simp at this;omega
theorem zAz.mem{n:Nat}{r:List Nat}(h:zAz n r){x:Nat}:x∈r↔x<n:=by
 rw[h.mem_iff];simp
theorem zIj{n i:Nat}:(fQ n).count i=if i<n then 1 else 0:=by
 induction n with
 | zero=>simp
 | succ n ih =>
  rw[List.range_succ,i6,ih];by_cases h:i=n
  ·subst h;simp
  ·have:(n==i)=false:=by simpa using fun e=>h e.symm
   simp[iG,this];split<;>split<;>omega
theorem zAz.count{n:Nat}{r:List Nat}(h:zAz n r){i:Nat}(hi:i<n):r.count i=2:=by
 rw[h.count_eq,i6,zIj,if_pos hi]
noncomputable def both(r:List Nat)(p:Nat×Nat):List Nat:=r.filter fun x=>decide (x=p.1)||decide (x=p.2)
noncomputable def zCS(r:List Nat)(p:Nat×Nat):Bool:=match both r p with | a::b::c::_=>decide (a≠b)&&decide (b≠c) | _=>false
def zIk:wq:=fun ds G R=>∃(n:Nat) (r:List Nat),ds=[.tup (r.map nD)]/\zAz n r/\n<=100/\R (zDe n (zCS r)) G
theorem zKb{α:Type}{f:α->D}{l:List α}{i:Nat}{x:D}(h:(l.map f)[i]?=some x):∃ a,l[i]?=some a/\x=f a:=by
 rw[gh] at h;cases q:l[i]? with
 | none=>rw[q] at h;cases h
 | some a=>rw[q] at h;cases h;exact⟨a,rfl,rfl⟩
section
variable {σ:S2} {G:Gp}
theorem zNq{x y:D}{ng:Bool}{G:Gp}{R:Q2}(hx:flat 8 x=true)(hy:flat 8 y=true)(q:R (.bl (if ng then !eqD x y else eqD x y)) G):yY ng x y G R:=by
 cases x with
 | adr _=>simp[flat] at hx
 | _=>exact⟨hx,hy,q⟩
theorem zCe{ta tb:zm}{x y:D}{ng b:Bool}(ha:zn ta σ G x)(hb:zn tb σ G y)(hx:flat 8 x=true)(hy:flat 8 y=true)(e:(if ng then !eqD x y else eqD x y)=b):zn (zO (yY ng) ta tb) σ G (.bl b) :=
 yu ha hb fun u0 u0 u0 q=>zNq hx hy (by rw[e];exact q)
theorem zFt{T:String}{t:zm}{d:D}{b:Bool}(h:zn t σ G d)(hd:∀ l,d≠.adr l)(hi:zGq d T=b):zn (zCQ T t) σ G (.bl b):=fun G2 e R q=>h G2 e _ (by
 subst hi;cases d with
 | adr l=>exact absurd rfl (hd l)
 | _=>exact q)
theorem zNr{T:String}{t:zm}{d:D}(h:zn t σ G d)(hi:zGq d T=true):zn (zCQ T t) σ G (.bl true):=zFt h (fun l z=>by subst z;cases hi) hi
theorem zPv{T:String}{t:zm}{d:D}(h:zn t σ G d)(hi:zGq d T=true):PuT (yg (xB (zCQ T t))) σ G false:=yW (yr (zNr h hi))
theorem zQz{tc:TT2}{t u:wC}{E:yO}(h:PuT tc σ G false)(h':u E σ G):wM tc t u E σ G:=h G (.refl G) _ (by rw[if_neg 27#0];exact h')
theorem yA{tc:TT2}{t u:wC}{E:yO}(h:PuT tc σ G false)(h':u E σ G):zW (wM tc t zZ) u E σ G:=h G (.refl G) _ (by rw[if_neg 27#0];exact h')
theorem wT{te:zm}{E:yO}{d:D}(h:zn te σ G d)(h':E.rt d G):zk te E σ G:=h G (.refl G) _ h'
theorem zUt{E:yO}(h:E.nx σ G):zZ E σ G:=h
theorem wZ{te:zm}{g:TG2}{u:wC}{E:yO}(h:te σ G fun d G1=>g d σ G1 fun σ' G'=>u E σ' G'):zW (zp te g) u E σ G:=h
theorem zFu{sp:wq}{t:TA2}{ds:List D}{R:Q2}(h:PuA t σ G ds)(h':sp ds G R):zJ sp t σ G R:=h G (.refl G) _ h'
theorem zNs{ta:zm}{tr:TA2}{d:D}{R:List D->Gp->Prop}(h:zn ta σ G d)(h':tr σ G fun xs G2=>R (d::xs) G2):zB ta tr σ G R:=h G (.refl G) _ h'
theorem zNt{ta:zm}{tr:TA2}{R:List D->Gp->Prop}(h:ta σ G fun d G1=>tr σ G1 fun xs G2=>R (d::xs) G2):zB ta tr σ G R:=h
theorem zGz{tl:TL2}{ds:List D}{R:Q2}(h:PuL tl σ G ds)(h':∀ l,G.m l=none->R (.adr l) (zh G l ds)):zi tl σ G R:=h G (.refl G) _ h'
theorem wn{te:zm}{g:TG2}{u:wC}{E:yO}{d:D}(h:zn te σ G d)(h':g d σ G fun σ' G'=>u E σ' G'):zW (zp te g) u E σ G:=h G (.refl G) _ h'
end
theorem zFv{σ:S2}{G:Gp}{t:zm}{ds:List D}(h:zn t σ G (.tup ds)):zn (zJ yF (zB t zG)) σ G (nD ds.length):=yK (zI h zS) fun u0 u0 u0 q=>⟨ds,rfl,q⟩
theorem zTr{σ:S2}{G:Gp}{t:zm}{p:Nat×Nat}(h:zn t σ G (prD p)):zn (zO zz t (xC (.int 0))) σ G (nD p.1):=yu h zv fun u0 u0 u0 q=>by unfold prD;rw[zEk];exact q
theorem zTs{σ:S2}{G:Gp}{t:zm}{p:Nat×Nat}(h:zn t σ G (prD p)):zn (zO zz t 21#0) σ G (nD p.2):=yu h zv fun u0 u0 u0 q=>by unfold prD;rw[zEl];exact q
theorem zSU{r:List Nat}{i:Nat}(h:r.count i=2):∃ A B C,r=A++i::(B++i::C)/\i∉A/\i∉B/\i∉C:=by
 have h1:i∈r:=List.count_pos_iff.mp 17#0;obtain⟨A,r',rfl,hA⟩:=List.eq_append_cons_of_mem h1;have cA:A.count i=0:=List.count_eq_zero.mpr hA;rw[i6,cA,List.count_cons_self] at h;have h2:i∈r':=List.count_pos_iff.mp 17#0;obtain⟨B,C,rfl,hB⟩:=List.eq_append_cons_of_mem h2;have cB:B.count i=0:=List.count_eq_zero.mpr hB;rw[i6,cB,List.count_cons_self] at h;exact⟨A,B,C,rfl,hA,hB,List.count_eq_zero.mp 17#0⟩
theorem zFw{X:List Nat}{i j:Nat}(hX:i∉X):both X (i,j)=fX (X.count j) j:=by
 unfold both
 induction X with
 | nil=>rfl
 | cons a r ih =>
  have h1:a≠i:=fun e=>hX (by simp[e]);have h2:=ih fun m=>hX (by simp[m]);rw[List.filter_cons,iG];by_cases hj:a=j
  ·subst hj
   simp only[decide_eq_false h1,decide_true,Bool.false_or,if_true,h2,beq_self_eq_true];rw[List.replicate_succ]
  ·have:(a==j)=false:=by simpa using hj
   simp only[decide_eq_false h1,decide_eq_false hj,Bool.or_self,gI,if_false,this,Nat.add_zero];exact h2
theorem zNu{A B C:List Nat}{i j:Nat}(hij:i≠j)(hA:i∉A)(hB:i∉B)(hC:i∉C)(h:(A++i::(B++i::C)).count j=2):zCS (A++i::(B++i::C)) (i,j)=decide ((i::B).count j=1):=by
 have hji:(i==j)=false:=by simpa using hij
 rw[i6,iG,i6,iG,hji] at h;rw[iG,hji];simp only[gI,if_false,Nat.add_zero] at h ⊢;have e:both (A++i::(B++i::C)) (i,j)=fX (A.count j) j++i::(fX (B.count j) j++i::fX (C.count j) j):=by
  have b1:∀ X Y:List Nat,both (X++Y) (i,j)=both X (i,j)++both Y (i,j):=fun X Y=>List.filter_append _ _;have b2:∀ Y:List Nat,both (i::Y) (i,j)=i::both Y (i,j):=fun Y=>by unfold both;simp
  rw[b1,b2,b1,b2,zFw hA,zFw hB,zFw hC]
 unfold zCS;rw[e];generalize A.count j=x at h ⊢;generalize B.count j=y at h ⊢;generalize C.count j=z at h ⊢;have:(x=0/\y=0/\z=2)\/(x=0/\y=1/\z=1)\/(x=0/\y=2/\z=0)\/(x=1/\y=0/\z=1)\/(x=1/\y=1/\z=0)\/(x=2/\y=0/\z=0):=by omega
 have hji':j≠i:=Ne.symm hij;rcases this with ⟨rfl,rfl,rfl⟩ | ⟨rfl,rfl,rfl⟩ | ⟨rfl,rfl,rfl⟩ | ⟨rfl,rfl,rfl⟩ | ⟨rfl,rfl,rfl⟩ | ⟨rfl,rfl,rfl⟩<;>simp[List.replicate_succ,hij,hji']
theorem zBf(i j:Nat):eqD (nD i) (nD j)=decide (i=j):=by rw[zHa,gK];simp;omega
theorem zMA{A Y:List Nat}{i:Nat}(hA:i∉A):zEm ((A++i::Y).map nD) (nD i) 0 A.length:=by
 refine⟨i7 _,⟨nD i,by simp,by rw[zBf];simp⟩,fun m z u0 hm hz=>?_⟩;rw[gh,gb hm] at hz;simp[hm] at hz;subst hz;show eqD (nD A[m]) (nD i)=false;rw[zBf];exact decide_eq_false fun e=>hA (e▸gL _)
theorem zNv{A B C:List Nat}{i:Nat}(hB:i∉B):zEm ((A++i::(B++i::C)).map nD) (nD i) (A.length+1) (A.length+1+B.length):=by
 refine⟨by omega,⟨nD i,?_,by rw[zBf];simp⟩,fun m z h1 hm hz=>?_⟩
 ·rw[gh,gm 17#0]
  have:A.length+1+B.length-A.length=B.length+1:=by omega
  rw[this];simp
 ·rw[gh,gm 17#0] at hz
  obtain⟨k,hk⟩:∃ k,m-A.length=k+1:=⟨m-A.length-1,by omega⟩
  rw[hk,List.getElem?_cons_succ,gb 17#0] at hz;have hkB:k<B.length:=by omega
  simp[hkB] at hz;subst hz;show eqD (nD B[k]) (nD i)=false;rw[zBf];exact decide_eq_false fun e=>hB (e▸gL _)
theorem zMB(X:List Nat)(j:Nat):(X.map nD).countP (fun z=>eqD z (nD j))=X.count j:=by
 rw[List.countP_map,List.count_eq_countP];refine List.countP_congr fun x u0=>?_;simp only[Function.comp,zBf,decide_eq_true_eq,beq_iff_eq]
theorem zPw{l:List D}{a b:Nat}(h:a<=b)(hb:b<=l.length):L3.cutD l (some (a:Int)) (some (b:Int))=(l.drop a).take (b-a):=by
 unfold L3.cutD;rw[HT.zC5,HT.zC5,Nat.min_eq_left (show a<=l.length by omega),Nat.min_eq_left hb]
def zCD:wq:=fun ds G R=>∃(r:List Nat) (i j:Nat),ds=[.tup (r.map nD),nD i,nD j]/\r.count i=2/\r.count j=2/\i≠j/\R (.bl (zCS r (i,j))) G
def zFF:wC:=(zW (zp (xMt zDB (zA 0) (zB (zA 1) zG)) (gN 3)) (zW (zp (xMt zDC (zA 0) (zB (zA 1) (zB (zO zDZ (zA 3) 21#0) zG))) (gN 4)) (zk (zO (yY false) (xMt zAx (zJn (zA 0) (yU (zA 3)) (yU (zA 4))) (zB (zA 2) zG)) 21#0))))
theorem zK7{σ:S2}{G:Gp}{sp:wq}{to:zm}{t:TA2}{xs:List D}{ds:List D}{d:D}(h:zn to σ G (.tup xs))(ha:PuA t σ G ds)(hs:∀ G2,Ext G G2->∀ R:Q2,R d G2->sp (.tup xs::ds) G2 R):zn (xMt sp to t) σ G d:=fun G2 e R q=>h G2 e _ ⟨⟨xs,rfl⟩,ha G2 e _ (hs G2 e R q)⟩
theorem zNw{σ:S2}{G:Gp}{t u v:zm}{xs:List D}{i j:Int}(h:zn t σ G (.tup xs))(h1:zn u σ G (.int i))(h2:zn v σ G (.int j)):zn (zJn t (yU u) (yU v)) σ G (.tup (L3.cutD xs (some i) (some j))):=fun G2 e R q=>h G2 e _ (h1 G2 e _ (h2 G2 e _ q))
theorem zPx(ds:List D)(G:Gp)(R:Q2)(h:zCD ds G R):ds.length=3/\zFF (zj R) (zK ["ring","one","other","first","second"] ds) G:=by
 obtain⟨r,i,j,rfl,h2i,h2j,hij,h⟩:=h;refine⟨rfl,?_⟩;obtain⟨A,B,C,rfl,hA,hB,hC⟩:=zSU h2i;rw[zNu hij hA hB hC h2j] at h;generalize hr:A++i::(B++i::C)=r at *;have i1:zEm (r.map nD) (nD i) 0 A.length:=hr▸zMA hA;have i2:zEm (r.map nD) (nD i) (A.length+1) (A.length+1+B.length):=hr▸zNv hB;have hl:A.length+1+B.length<r.length:=by rw[<-hr];simp;omega
 have hc:L3.cutD (r.map nD) (some ((A.length:Nat):Int)) (some ((A.length+1+B.length:Nat):Int))=(i::B).map nD:=by
  rw[zPw 17#0 (by rw[fE];omega),<-hr];have:A.length+1+B.length-A.length=B.length+1:=by omega
  rw[this];simp
 unfold zFF;refine wn (d:=nD A.length) (zK7 (zF rfl) (zI (zF rfl) zS) fun u0 u0 u0 q=>⟨_,_,rfl,rfl,zFs _,i1,q⟩) ?_;show zW _ _ _ [some (.tup (r.map nD)),some (nD i),some (nD j),some (nD A.length),none] G;refine wn (d:=nD (A.length+1+B.length)) (zK7 (zF rfl) (zI (zF rfl) (zI (zNp (zF rfl) zv) zS)) fun u0 u0 u0 q=>⟨A.length+1,_,by omega,rfl,zFs _,i2,q⟩) ?_;show zk _ _ [some (.tup (r.map nD)),some (nD i),some (nD j),some (nD A.length),some (nD (A.length+1+B.length))] G;have fin:=zCe (σ:=[some (.tup (r.map nD)),some (nD i),some (nD j),some (nD A.length),some (nD (A.length+1+B.length))]) (G:=G) (ng:=false) (b:=decide ((i::B).count j=1)) (x:=nD ((i::B).count j)) (y:=.int 1)
  (zK7 (sp:=zAx) (zNw (zF (i:=0) rfl) (zF (i:=3) rfl) (zF (i:=4) rfl)) (zI (zF (i:=2) (d:=nD j) rfl) zS) fun u0 u0 u0 q=>by
   rw[hc];exact⟨rfl,zFs _,by rw[zMB];exact q⟩) zv rfl rfl (by rw[if_neg 27#0];exact zBf _ 1)
 exact fin G (.refl _) _ (.of h)
noncomputable def zA0:=zIk
def zDz:wC:=(zW (zp (zO (zAP zHD fun i j=>.int (i / j)) (zJ yF (zB (zA 0) zG)) (xC (.int 2))) (gN 1)) (zk (zBI (zB (zA 1) (zB (yZ zAN (yk (iF (yz zBF (zB (zA 1) zG))) bd1 (xB (zJ zCD (zB (zA 0) (zB 28#0 (zB (zO zz (zA 2) 21#0) zG))))) (zA 2))) zG)))))
theorem zNx(ds:List D)(G:Gp)(R:Q2)(h:zA0 ds G R):ds.length=1/\zDz (zj R) (zK ["ring","many"] ds) G:=by
 obtain⟨n,r,rfl,hr,hn,h⟩:=h;refine⟨rfl,?_⟩;unfold zDz;have e:(((r.map nD).length:Int) / 2)=(n:Int):=by rw[fE,hr.len];omega
 refine wn (d:=nD n) (yu (zFv (zF rfl)) zv fun u0 u0 u0 q=>⟨⟨by decide,by decide⟩,by dsimp only;rw[e];exact q⟩) ?_;show zk _ _ [some (.tup (r.map nD)),some (nD n)] G;have:=zFB (σ:=[some (.tup (r.map nD)),some (nD n)]) (G:=G) (bd:=bd1) (tc:=(xB (zJ zCD (zB (zA 0) (zB 28#0 (zB (zO zz (zA 2) 21#0) zG)))))) (te:=zA 2) (fun d=>zCS r (zDy d)) (fun d=>d) (fun d=>[d])
  (zTY (zCq (sp:=zBF) (zI (zF (i:=1) (d:=nD n) rfl) zS) fun u0 u0 u0 q=>⟨n,rfl,hn,q⟩)) fun x hx=>by
   obtain⟨p,hpp,rfl⟩:=gf.mp hx;obtain⟨h1,h2⟩:=zDD.mp hpp;rw[zEU];have v4:zn (zA 2) ([some (.tup (r.map nD)),some (nD n)]++iA some [prD p]) G (prD p):=zF rfl;exact⟨rfl,yr (yK (zI (zF rfl) (zI (zTr v4) (zI (zTs v4) zS))) fun u0 u0 u0 hh=>⟨r,p.1,p.2,rfl,hr.count 17#0,hr.count h2,by omega,hh⟩),fun u0=>v4⟩
 rw[zJ1 (zCS r)] at this;exact zEN (zI (zF rfl) (zI (zFf this) zS)) 27#0 G (.refl _) _ (.of h)
theorem zIl{σ:S2}{G:Gp}{t:TA2}{R:List D->Gp->Prop}(h:t σ G fun ds G1=>ds.length<=sizeLine/\R ds G1):yl t σ G R:=h
theorem zNy{σ:S2}{G:Gp}{R:List D->Gp->Prop}(h:R [] G):zG σ G R:=h
def zA1(ex:Addr)(dF eG dG e8 dH:Bool):wC:=(zW (zp (zi (yl (zB (zIf 1 ex dF) (zB (zIf 1 ex eG) (zB (zIf 1 ex dG) zG))))) (gN 3)) (zW (zp (zi (wR (zA 3) (zi (yl (zB (zIf 1 ex e8) (zB (zIf 1 ex dH) zG)))))) (gN 3)) (zW (wM (yg (xB (zIf 1 ex true))) (zk (xC .non)) zZ) (zk (zi (yk (iR1 (zB (xC (.int 5)) zG)) bd1 (xB (zO zz (zA 3) (zA 4))) (zA 4)))))))
theorem zUu{σ:S2}{G:Gp}{ta tb:zm}{R:List D->Gp->Prop}(h:ta σ G fun x G1=>tb σ G1 fun y G2=>match x,y with | D.adr l,D.adr m=>∃ xs ys,G2.m l=some xs/\G2.m m=some ys/\xs.length+ys.length<=1000000/\R (xs++ys) G2 | _,_=>False):wR ta tb σ G R:=h
theorem zSV{σ:S2}{G:Gp}{t u:zm}{l:Addr}{ds:List D}{k:Int}{d:D}(h:zn t σ G (.adr l))(h':zn u σ G (.int k))(hl:Ls G l ds)(e:atI ds k=some d):zn (zO zz t u) σ G d:=yu h h' fun G2 e2 R q=>⟨ds,d,e2.ls hl,e,q⟩
theorem zNz{G G':Gp}{l:Addr}{ds:List D}(h:Sub G G'):Sub (zh G l ds) (zh G' l ds):=⟨fun a o e=>by
 by_cases ha:a=l
 ·subst ha;rw[zU] at e ⊢;exact e
 ·rw[zA8 ha] at e ⊢;exact h.m a o e,fun a o e=>h.ro a o e,fun a o e=>h.dc a o e⟩
theorem zN0{G G':Gp}{x:Addr}(h:Sub G G')(n:G'.m x=none):G.m x=none:=by
 cases q:G.m x with
 | none=>rfl
 | some o=>rw[h.m x o q] at n;cases n
theorem zN1{tl:TL2}{i:Nat}{u:wC}{E:yO}{σ:S2}{G:Gp}{ds:List D}(h:PuL tl σ G ds)(h':∀ l,G.m l=none->u E (σ.set i (some (.adr l))) (zh G l ds)):zW (zp (zi tl) (gN i)) u E σ G:=h G (.refl G) _ h'
theorem zN2{tl:TL2}{i:Nat}{u:wC}{E:yO}{σ:S2}{G:Gp}(h:tl σ G fun ds G'=>∀ l,G'.m l=none->u E (σ.set i (some (.adr l))) (zh G' l ds)):zW (zp (zi tl) (gN i)) u E σ G:=h
theorem zTt{i:Nat}{σ:S2}{G:Gp}{R:Q2}{d:D}(h:look σ i=some d)(h':R d G):zA i σ G R:=by unfold zA;rw[h];exact h'
theorem zPy{tc:TT2}{t u v:wC}{E:yO}{σ:S2}{G:Gp}(h:wM tc t u { E with nx:=v E } σ G):zW (wM tc t u) v E σ G:=h
theorem zN3{tl:TL2}{E:yO}{σ:S2}{G:Gp}{ds:List D}(h:PuL tl σ G ds)(h':∀ l,G.m l=none->E.rt (.adr l) (zh G l ds)):zk (zi tl) E σ G:=h G (.refl G) _ h'
noncomputable def zTu(bs:List Bool):D->Bool | .int k=>bs.getD k.toNat false | _=>false
theorem zEV{b0 b1 b2 b3 b4:Bool}{e:Addr}{G:Gp}{R:Q2}{ks:List D}(hks:((zAM 0 5).filter (zTu [b0,b1,b2,b3,b4])).map id=ks)(h:∀ l,G.m l=none->R (.adr l) (zh G l ks)) :
  zA1 e b0 b1 b2 b3 b4 (zj R) ((fX 4 none).set 1 (some (.adr e))) G:=by
 unfold zA1;refine zN1 (ds:=[.bl b0,.bl b1,.bl b2]) (fun G2 e2 R2 q=>⟨rfl,rfl,rfl,(show 3<=sizeLine by decide),q⟩) fun l1 n1=>?_;show zW _ _ _ [none,some (.adr e),none,some (.adr l1)] (zh G l1 [.bl b0,.bl b1,.bl b2]);refine zN2 (zUu (zTt (d:=.adr l1) rfl ?_));refine zGz (ds:=[.bl b3,.bl b4]) (fun G2 e2 R2 q=>⟨rfl,rfl,(show 2<=sizeLine by decide),q⟩) fun l2 n2=>?_;have n12:l1≠l2:=fun z=>by rw[<-z,zU] at n2;cases n2
 refine⟨[.bl b0,.bl b1,.bl b2],[.bl b3,.bl b4],by rw[zA8 n12];exact zU,zU,(show 3+2<=1000000 by decide),fun l3 n3=>?_⟩;show zW _ _ _ [none,some (.adr e),none,some (.adr l3)] _;generalize hG3:zh (zh (zh G l1 [.bl b0,.bl b1,.bl b2]) l2 [.bl b3,.bl b4]) l3 ([.bl b0,.bl b1,.bl b2]++[.bl b3,.bl b4])=G3;have hs:Sub G G3:=by rw[<-hG3];exact((Sub.new n1).trans (.new n2)).trans (.new n3)
 have hl:Ls G3 l3 [.bl b0,.bl b1,.bl b2,.bl b3,.bl b4]:=by rw[<-hG3];exact .own
 refine zPy (zQz (yW (b:=true) (yr fun G2 e2 R2 q=>⟨rfl,q⟩)) ?_);show zk (zi (yk (iR1 (zB (xC (.int 5)) zG)) bd1 (xB (zO zz (zA 3) (zA 4))) (zA 4))) (zj R) [none,some (.adr e),none,some (.adr l3)] G3;refine zN3 (ds:=ks) ?_ fun l4 n4=>⟨zh G l4 ks,zNz hs,h l4 (zN0 hs n4)⟩
 rw[<-hks];refine zFB (zTu [b0,b1,b2,b3,b4]) id (fun x=>[x]) (zEQ (j:=5) (zI zv zS) 11#0) fun x hx=>⟨rfl,yr ?_,fun u0=>zF rfl⟩
 obtain⟨k,hk,rfl⟩:=gf.mp hx;have hk5:k<5:=gJ.mp hk;refine zSV (l:=l3) (zF rfl) (zF rfl) hl ?_
 match k,hk5 with
 | 0,_=>rfl
 | 1,_=>rfl
 | 2,_=>rfl
 | 3,_=>rfl
 | 4,_=>rfl
theorem zIm(e:Addr)(G:Gp)(R:Q2)(h:∀ l,G.m l=none->R (.adr l) (zh G l [.int 0])):zA1 e true false false false false (zj R) ((fX 4 none).set 1 (some (.adr e))) G:=zEV rfl h
end K
namespace L3
open L2
end L3
namespace K
open L2 L3
theorem zIn(e:Addr)(G:Gp)(R:Q2)(h:∀ l,G.m l=none->R (.adr l) (zh G l [.int 4])):zA1 e false false false false true (zj R) ((fX 4 none).set 1 (some (.adr e))) G:=zEV rfl h
end K
namespace L3
open L2
section
variable {P:Program} {w:World} {K:PySem.W.Frag} {mg:Str->Option Value} {base:Heap}
theorem zDh{x qual m:Str}{st:Stmt}{f Cc:Addr}{fd:FuncData}{N ps:List Str}{k:Nat}{C:Addr}{cond:List D->Gp->(Gp->Prop)->Prop}(t:(Gp->Prop)->S2->Gp->Prop)(F:Fun K x qual st f fd)(S:zV N ps (zD st))(hm:zCl K Cc m f)(hb:Binds K fd ps [])
  (ht:∀(cdv:Value) (A:Around) (outer:List Env) (s:Shared) (H:Hp) (E:XK),yS k (A.deeper (envOfC qual (zD st) s.heap.objs.size f cdv))->Xs (zBi CX0 P w K mg base N qual (zD st) f cdv A outer s H E).nox C (zR st) t)
  (hs:∀ ds G E,cond ds G E->ds.length=ps.length/\t E (zK N ds) G):RzM P w K mg base (k+1) Cc m ps cond C:=by
 refine⟨f,fd,hm,hb,fun ds G E h=>(hs ds G E h).1,fun A outer s H args us vs ds G EE hr e0 hbd rv d r h=>?_⟩;obtain⟨oc,od,kV,doc,pm,an,cdv,ct,osl,rfl,lk,hcd⟩:=F.ex;obtain⟨hl,hq⟩:=hs ds G EE h;have hlv:vs.length=ps.length:=by rw[<-d.length];exact hl
 have KX:K.In s.heap:=e0.mod.kin.keeps fun b o e=>(e0.bs b o e).1;have lim:s.heap.NoLimit:=e0.mod.nolimit.keeps fun b o e=>(e0.bs b o e).1;have hkind:∀ y∈ps.zip us,(zD st).names.lookup y.1=some .local\/((zD st).names.lookup y.1=some .cell/\((cellsFrom (s.heap.objs.size+1) (zD st).names []).lookup y.1).isSome=true):=fun⟨n,v⟩ hy=>by
  rcases S.par n (gM hy).1 with q | q
  ·exact .inl q
  ·exact .inr ⟨q,PySem.W.cellsFrom_some _ _ _ (.inl q)⟩
 refine iJ hr.depth (KX _ _ lk) rfl S.co S.gen rfl (PySem.W.codeRec_of KX hcd) (hbd _ _ _ _ ?_);refine io S.kind hkind fun env he s1 x=>?_;subst he;refine⟨lim.keeps x.toInCall.keep,codeAny_func ?_⟩;have I:zT (zBi CX0 P w K mg base N qual (zD st) f cdv A outer s H E0) [] (start N vs) H s1:=zC4 S hr.hd e0 hlv rv x;refine fV (ht cdv A outer s H E0 (hr.deeper _) [] s1 (start N vs) H (zK N ds) G EE (I.wish _) (zCA r d) hq) (fun fl s' z=>z.elim) fun v s' z=>?_;obtain⟨e,H',B,rfl,xb,g,hG⟩:=z;exact xb.leave fun h'' q=>⟨e,H',B,rfl,q,g,hG⟩
theorem zHb{x qual m:Str}{st:Stmt}{f C:Addr}{fd:FuncData}{N ps:List Str}{k:Nat}{sp:wq}(t:wC)(F:Fun K x qual st f fd)(S:zV N ps (zD st))(hm:zCl K C m f)(hb:Binds K fd ps [])
  (ht:24#0)
  (hs:∀ ds G R,sp ds G R->ds.length=ps.length/\t (zj R) (zK N ds) G):DfM P w K mg base (k+1) C m ps sp:=⟨f,fd,zNB t F S ht hs,hm,hb⟩
theorem zSW{x qual:Str}{st:Stmt}{f C:Addr}{fd:FuncData}{N:List Str}{k:Nat}{sp:wq}(t:wC)(F:Fun K x qual st f fd)(S:zV N ["self"] (zD st))(hm:Mk K C f)(hb:Binds K fd ["self"] [])
  (ht:24#0)
  (hs:∀ ds G R,sp ds G R->ds.length=1/\t (zj R) (zK N ds) G):DfI P w K mg base (k+1) C sp:=⟨f,fd,zNB t F S ht hs,hm,hb⟩
end
section
variable {X:Cx} {o e:Expr} {es:List Expr} {m:Str} {pos apos:Pos} {to:zm} {ta:TA2} {C Cc:Addr} {ps:List Str} {k k':Nat}
theorem zDE{pl:Sem Bool}{cond:Cnd}(O:Own X)(c:Cls X.K Cc)(R:RzM X.prog X.w X.K X.mg X.base k Cc m ps cond C)(hr:yS k' X.A)(hk:k<=k')(ho:E2 X o to)(ha:A2 X (e::es) ta)
  (hst:2#0) (hpl:9#0)
  (ht:autoParam (eval (.Call (.Attribute o m apos) (e::es) [] pos) X.env=(do
   let ov <-eval o X.env
   standAt apos.atName
   let (f,first) <-holding [ov] (getMethod ov m pl)
   callWith pos f first (backTo pos (starEach (e::es) X.env)) (backToKw pos (keywordEach [] X.env)))) Zq5._auto_1) :
  Xe X C (.Call (.Attribute o m apos) (e::es) [] pos) (zBA Cc m cond to ta):=Xc.xe O (zK4 O.no c R hr hk ho ha hst hpl ht)
def zBG(kind:Int)(Cc:Addr)(m:Str)(cond:Cnd)(to:zm)(ta:TA2):TL2:=fun σ G R=>zBA Cc m cond to ta (fun G'=>R [.int kind] G') σ G
theorem zJ5{st:Stmt}{f:Addr}{fd:FuncData}{N:List Str}{Ce c P:Addr}{kind:Int}{x:Str}{rest:List Stmt}{params:Arguments}{body:Expr}{sc:Scope}{cond:Cnd}{trest:Addr->wC}{p lp:Pos}
  (F:Fun X.K "_law_refused" "_law_refused" st f fd) (S:zV N ["call"] (zD st)) (hm:X.mg "_law_refused"=some (.ref f)) (hb:Binds X.K fd ["call"] []) (hr:yS (k+2) X.A) (hgl:Gl X "_law_refused") (B:zNd st N rest)
  (hCc:X.mg "ChordError"=some (.ref Ce)) (hxm:PySem.W.exmOne X.K (.ref C) (.ref Ce)=some true)
  (hrest:∀(cdv:Value) (A:Around) (outer:List Env) (s:Shared) (H:Hp) (e:Addr) (oe:Obj),yS (k+1) (A.deeper (envOfC "_law_refused" (zD st) s.heap.objs.size f cdv))->oe.cls=.ref C->Ps2 (zL3 (zBi CX0 X.prog X.w X.K X.mg X.base N "_law_refused" (zD st) f cdv A outer s H E0).nox e oe) rest (trest e))
  (hres:∀(e:Addr) (G:Gp) (R:Q2),(∀ l,G.m l=none->R (.adr l) (zh G l [.int kind]))->trest e (zj R) ((fX N.length none).set 1 (some (.adr e))) G)
  (L:zNe X x c P params body sc) (hlam:∀(g:Addr) (cv:Value) (A:Around) (outer:List Env) (s:Shared) (H:Hp),yS k (A.deeper (zFm sc (zBj sc X.env) (x++".<locals>.<lambda>") g cv s.heap.objs.size))->Xe (zL1 X sc (x++".<locals>.<lambda>") g cv A outer s H) C body (zBA Cc m cond to ta)) :
  F2 X (.Call (.Name "_law_refused" p) [.Lambda params body sc lp] [] pos) (zBG kind Cc m cond to ta) :=
 zL4 (t:=zBA Cc m cond to ta) F S hm hb hr hgl B hCc hxm hrest hres L hlam
def wu(t t':TL2):TL2:=fun σ G R=>t σ G R\/t' σ G R
theorem zIo{t t':TL2}(h:F2 X e t)(h':F2 X e t'):F2 X e (wu t t'):=by
 intro pins s σ1 H Q I hq;obtain⟨σ,G,R,r,q,kk⟩:=hq;rcases q with q | q
 ·exact h pins s σ1 H Q I ⟨σ,G,R,r,q,kk⟩
 ·exact h' pins s σ1 H Q I ⟨σ,G,R,r,q,kk⟩
end
set_option genInjectivity true in
inductive GEs (w:World) (K:PySem.W.Frag):List DictEntry->List (Str×List Str)->Prop
 | nil:GEs w K [] []
 | cons {k:Str} {t:Tok} {r:Addr} {o:Obj} {ls:List Str} {ts:List Tok} {n:Nat} {es:List DictEntry} {kvs:List (Str×List Str)} (hk:K.lookup r=some o) (hc:o.cls=.type "tuple") (hda:o.data=.seq (List.zipWith Value.str ls ts).toArray n) (hdi:o.dict=none) (hl:ts.length=ls.length) (hsz:ls.length<=1000) (h:GEs w K es kvs) :
   GEs w K (⟨hashStr w k,.str k t,.ref r⟩::es) ((k,ls)::kvs)
structure zCf (w:World) (K:PySem.W.Frag) (a:Addr) (kvs:List (Str×List Str)):Prop where
 ex:∃(o:Obj) (es:Array DictEntry) (ep:Nat),K.lookup a=some o/\o.ExactDict/\o.data=.dict es ep/\GEs w K es.toList kvs
 nd:(kvs.map (·.1)).Nodup
 sm:(a==sysModules)=false
section
variable {P:Program} {w:World} {K:PySem.W.Frag} {a:Addr} {kvs:List (Str×List Str)}
theorem GEs.pairs{es:List DictEntry}{kvs:List (Str×List Str)}(h:GEs w K es kvs):∃ vs:List (Key×Value),Pairs (yG P w) es vs/\(∀ e∈es,∃ k,(yG P w).is k e.key=true/\e.hash=(yG P w).hash k)/\vs.map (·.1)=(kvs.map (·.1)).map Sum.inr /\
  (∀ s ls,kvs.lookup s=some ls->∃ r o ts n,valueAt vs (Sum.inr s)=some (.ref r)/\K.lookup r=some o/\o.cls=.type "tuple"/\o.data=.seq (List.zipWith Value.str ls ts).toArray n/\o.dict=none/\ts.length=ls.length/\ls.length<=1000) /\
  (∀ s,kvs.lookup s=none->valueAt vs (Sum.inr s)=none):=by
 induction h with
 | nil=>exact⟨[],.nil,(fun e he=>by cases he),rfl,(fun s ls e=>by cases e),fun s u0=>rfl⟩
 | @cons k t r o ls ts n es kvs hk hc hda hdi hl hsz h ih =>
  obtain⟨vs,h1,h2,h3,h4,h5⟩:=ih;have kk:(yG P w).is (Sum.inr k) (.str k t)=true:=zEd P w k t;refine⟨(Sum.inr k,.ref r)::vs,.cons kk rfl h1,fun e he=>?_,by rw[fJ,fJ,fJ,h3],fun s ls' e=>?_,fun s e=>?_⟩
  ·rcases fS.mp he with e1 | e1
   ·subst e1;exact⟨_,kk,rfl⟩
   ·exact h2 e e1
  ·rw[fU] at e
   cases hg:(s==k) with
   | true =>
    rw[hg] at e;cases e;have:k=s:=(eq_of_beq hg).symm;subst this;exact⟨r,o,ts,n,by simp[valueAt],hk,hc,hda,hdi,hl,hsz⟩
   | false =>
    rw[hg] at e;obtain⟨r',o',ts',n',q,q'⟩:=h4 s ls' e;have ne:¬ (Sum.inr k:Key)=Sum.inr s:=fun z=>by rw[Sum.inr.inj z] at hg;simp at hg
    exact⟨r',o',ts',n',by rw[<-q];simp[valueAt,hW,ne],q'⟩
  ·rw[fU] at e
   cases hg:(s==k) with
   | true=>rw[hg] at e;cases e
   | false =>
    rw[hg] at e;have ne:¬ (Sum.inr k:Key)=Sum.inr s:=fun z=>by rw[Sum.inr.inj z] at hg;simp at hg
    rw[<-h5 s e];simp[valueAt,hW,ne]
theorem zG0:∀ {l:List Str},l.Nodup->(l.map (Sum.inr:Str->Key)).Nodup
 | [],_=>.nil
 | x::l,h=>by
  rw[ik] at h;rw[fJ,ik];refine⟨fun q=>?_,zG0 h.2⟩;obtain⟨y,hy,e⟩:=gf.mp q;rw[Sum.inr.inj e] at hy;exact h.1 hy
theorem zCf.at{h:Heap}(g:zCf w K a kvs)(kin:K.In h):∃ vs:List (Key×Value),h.DictOf (yG P w) a vs /\
  (∀ s ls,kvs.lookup s=some ls->∃ r o ts n,valueAt vs (Sum.inr s)=some (.ref r)/\K.lookup r=some o/\o.cls=.type "tuple"/\o.data=.seq (List.zipWith Value.str ls ts).toArray n/\o.dict=none/\ts.length=ls.length/\ls.length<=1000) /\
  (∀ s,kvs.lookup s=none->valueAt vs (Sum.inr s)=none):=by
 obtain⟨o,es,ep,e1,e2,e3,e4⟩:=g.ex;obtain⟨vs,h1,h2,h3,h4,h5⟩:=e4.pairs (P:=P);exact⟨vs,⟨o,es,ep,kin _ _ e1,e2,e3,fun e he=>h2 e (Array.mem_toList_iff.mpr he),h1,by rw[h3];exact zG0 g.nd⟩,h4,h5⟩
end
section
variable {X:Cx} {i:Expr} {x:Str} {p pos:Pos} {ga:Addr} {kvs:List (Str×List Str)} {tk:zm}
def wo(kvs:List (Str×List Str))(tk:zm):zm:=fun σ G R=>tk σ G fun y G1=>match y with
 | .str s=>∃ ls,kvs.lookup s=some ls/\R (.tup (ls.map D.str)) G1
 | _=>False
theorem zCT(hg:Gl X x)(hm:X.mg x=some (.ref ga))(g:zCf X.w X.K ga kvs)(hi:E2 X i tk)(hs:autoParam (zTj i) Zq9._auto_1)(hd:4#0):E2 X (.Subscript (.Name x p) i pos) (wo kvs tk):=by
 intro pins s σ1 H Q I hq;obtain⟨σ,G,R,r,q,k⟩:=hq;refine zPi PySem.F.slot_dict_getitem.lookup hs (yV (zC2 (X:=X) (pos:=p) (v:=.ref ga) hg hm rfl hd pins s σ1 H (fun v H'=>v=.ref ga/\H'=H) I ⟨rfl,rfl⟩) fun u s1 u9=>?_);obtain⟨v,H1,I1,rv,e1,e2⟩:=u9;subst e1 e2;have rv:u=.ref ga:=rv;subst rv;refine yV (hi pins s1 σ1 H1 (fun v H2=>∃ s ls,v=.str s/\kvs.lookup s=some ls/\∃ G1,zt X.K G1 H2/\zo H1 H2/\R (.tup (ls.map D.str)) G1) I1 ⟨σ,G,_,r,q,fun d G1 q1 v H2 g1 r1 d1=>?_⟩) fun iv s2 ⟨y,H2,I2,ry,sx,ls,ey,lk,G1,r1,g1,q1⟩=>?_
 ·split at q1
  ·rename_i sx
   obtain⟨ls,lk,q1⟩:=q1;unfold zQ at d1;exact⟨sx,ls,d1,lk,G1,r1,g1,q1⟩
  ·exact q1.elim
 ·subst ey
  obtain⟨vs,dd,h4,u0⟩:=g.at (P:=X.prog) I2.kIn;obtain⟨r',o,ts,n,hv,hk,hc,hda,hdi,hl,hsz⟩:=h4 sx ls lk;have ki:(yG X.prog X.w).is (Sum.inr sx) iv=true:=zIe (k:=Sum.inr sx) ry;refine⟨dd.typeIs,wpAny_getItem_of ki dd.mapOf hv ⟨.ref r',H2,I2.tok _,rfl,k _ G1 q1 _ H2 g1 r1 ?_⟩⟩;unfold zQ;refine⟨r',ls.map V.str,rfl,.inr ⟨o,_,n,hk,hc,hda,?_,by simpa using L3.zCB hl,hdi⟩,zET ls⟩;simp only[fY,List.length_zipWith,hl,Nat.min_self];rw[sizeLine_eq];omega
def zDi(kvs:List (Str×List Str))(tk:zm):TT2:=fun σ G R=>tk σ G fun y G1=>match y with
 | .str s=>R (!(kvs.lookup s).isSome) G1
 | _=>False
def zSX(kvs:List (Str×List Str))(ty:TE):TE:=fun σ H Q=>ty σ H fun y H1=>∃ s,y=.str s/\Q (.bl (!(kvs.lookup s).isSome)) H1
theorem zN4{ty:TE}(hg:Gl X x)(hm:X.mg x=some (.ref ga))(g:zCf X.w X.K ga kvs)(hi:PE X i ty)(hd:4#0):PC X .NotIn i (.Name x p) (zSX kvs ty):=by
 intro pins s σ H Q I h;refine yV (hi pins s σ H _ I h) fun iv s1 u9=>?_;obtain⟨y,H1,I1,ry,sx,ey,q1⟩:=u9;subst ey;refine yV (zC2 (X:=X) (pos:=p) (v:=.ref ga) hg hm rfl hd pins s1 σ H1 (fun v H'=>v=.ref ga/\H'=H1) I1 ⟨rfl,rfl⟩) fun u s2 u9=>?_;obtain⟨v,H2,I2,rv,e1,e2⟩:=u9;subst e1 e2;have rv:u=.ref ga:=rv;subst rv;obtain⟨vs,dd,h4,h5⟩:=g.at (P:=X.prog) I2.kIn;have ki:(yG X.prog X.w).is (Sum.inr sx) iv=true:=zIe (k:=Sum.inr sx) ry;refine wpAny_notIn_of ki g.sm dd.mapOf ?_;have:(valueAt vs (Sum.inr sx)).isSome=(kvs.lookup sx).isSome:=by
  cases e:kvs.lookup sx with
  | none=>rw[h5 sx e];rfl
  | some ls=>obtain⟨r,u0,u0,u0,hv,u0⟩:=h4 sx ls e;rw[hv];rfl
 rw[this];exact⟨.bl _,H2,I2.tok _,rfl,q1⟩
theorem zHc(hg:Gl X x)(hm:X.mg x=some (.ref ga))(g:zCf X.w X.K ga kvs)(hi:E2 X i tk)(hmk:autoParam (behindInMarks .NotIn (.Name x p)=false) Zq5._auto_1)(hd:4#0):T2 X (.Compare i [.NotIn] [.Name x p] pos) (zDi kvs tk):=by
 refine PT.mono (zRL (zN4 hg hm g hi hd) hmk) ?_;sleep 1;refine⟨σ,G,_,r,q,fun d G1 q1 y H1 g1 r1 d1=>?_⟩;split at q1
 ·rename_i sx
  unfold zQ at d1;exact⟨sx,d1,_,rfl,k _ G1 q1 H1 g1 r1⟩
 ·exact q1.elim
end
end L3
namespace L2
theorem zCB:∀ {vs:List Value} {ss:List Str},StrsAre vs ss->zy (ss.map V.str) vs
 | _,_,.nil=>.nil
 | _,_,.cons n t h=>.cons ⟨t,rfl⟩ (zCB h)
section
variable {X:Cx}
noncomputable def sgs(x:Str):List Str:=x.cps.toList.map fun c=>⟨#[c]⟩
end
end L2
namespace L3
open L2
section
variable {X:Cx} {o e e2:Expr} {p pos cpos apos:Pos} {to:zm} {t:TA2} {tl:TL2}
end
end L3
namespace HK
open L2
section
variable {prog:Program} {w:World} {A:Around} {E:Value->Shared->Prop} {s:Shared}
theorem zMC{a:Addr}{o:Obj}{Q:Bool->Shared->Prop}(ho:s.heap.get? a=some o)(hc:o.cls=.type "dict")(h:Q false s):wpAny 35#0 A (Builtin.List.listLengthHint (.ref a)) Q E s:=by
 unfold Builtin.List.listLengthHint;refine fB (wpAny_specialOf ⟨o,ho,hc⟩ PySem.F.slot_dict_len.lookup ?_);generalize hid:("dict.__len__":String)=id0
 wp_delta
 rw[show splitId id0=some ("dict","__len__") from by subst hid;decide +kernel];subst hid;refine fB (wpAny_isInstance (T:="dict") (b:=true) ⟨o,ho,hc⟩ (by rw[isSubtype_type];kernel_rfl) ?_);refine wpAny_ite_split (fun hab=>absurd hab 11#0) (fun u0=>?_);refine wpAny_ite_split (fun u0=>?_) (fun hab=>absurd 3#0 hab);exact fB (wpAny_typeOf (T:="dict") ⟨o,ho,hc⟩ (fF h))
abbrev Pk(prog:Program)(w:World)(kvs:List (Key×Value))(i:Nat)(v:Value):Prop:=∃ k x,kvs[i]?=some (k,x)/\(yG prog w).is k v=true
theorem zIp{R:Result->Shared->Prop}{a:Addr}{kvs:List (Key×Value)}{ep:Nat}(hh:A.handled=none)(hd:(a==sysModules)=false)(hS:s.heap.DictAt (yG prog w) a kvs ep)(hlen:kvs.length<=1000)(L:Addr)(res:Value)(c0:Nat)(hL:s.heap.get? L=some { cls:=.type "list",data:=.seq #[] c0 })
  (hR:∀ h' tk acc c,(∀ b o,b≠L->s.heap.get? b=some o->h'.get? b=some o)->h'.get? L=some { cls:=.type "list",dict:=none,data:=.seq acc c,slots:=#[] }->ItemsOf (Pk prog w kvs) acc kvs.length->R (.ok (.ret res)) { s with heap:=h',toks:=tk }) :
  wpAny 35#0 A.in1 (Builtin.List.listExtendWith (.ref L) (.ref a) res)
   (fun fin s'=>match fin with | .done f=>R (.ok f) s' | .again c'=>c'.quiet=true/\codeAny 35#0 A c' R s') (fun e s'=>R (.error e) s') s:=by
 obtain⟨o,es,ho,hex,hrest⟩:=id hS;have La:L≠a:=fun e=>by rw[e,ho] at hL;cases hL;have:=hex.1;simp at this
 have lL:L<s.heap.objs.size:=fK hL;have la:a<s.heap.objs.size:=fK ho;unfold Builtin.List.listExtendWith;refine fB (wpAny_typeOf (T:="dict") ⟨o,ho,hex.1⟩ ?_);have h1:Builtin.List.listSameRef (.ref L) (.ref a)=false:=by simp[Builtin.List.listSameRef,La]
 have h2:(Value.type "dict"==Value.type "list")=false:=by decide
 have h3:(Value.type "dict"==Value.type "tuple")=false:=by decide
 simp only[h1,h2,h3,Bool.or_false,gI,if_false];refine fB (wpAny_pyIter_dict hd hS ?_);have hSf:L∉[s.heap.objs.size,a]:=fun q=>by
  simp only[fS,gw,or_false] at q;rcases q with e | e
  ·exact absurd lL (by rw[e];exact gn _)
  ·exact La e
 have W:=Walks.dictKeys (prog:=prog) (w:=w) (knd:=yG prog w) (A:=A.in1) (by simpa using hh) s.heap.objs.size a (gc la) kvs ep;refine fB (hU (zMC (s:={ s with heap:=s.heap.push { cls:=.type "dict_keyiterator",data:=.fields #[.ref a,.int 0 0,.int kvs.length 0,.int ep 0] } }) (fC _ ho) hex.1 ?_));have hL1:(s.heap.push { cls:=.type "dict_keyiterator",data:=.fields #[.ref a,.int 0 0,.int kvs.length 0,.int ep 0] }).get? L=_:=fC _ hL;refine wpAny_ite_split (fun u0=>?_) (fun q=>absurd 3#0 q);refine fB (wpAny_rule (fB ?_));show wpAny _ _ (updateSeq L (·.push .none)>>=fun u0=>updateSeq L (·.pop)) _ _ _;refine fB (wpAny_updateSeq hL1 rfl ?_);have hL2:=iK (Obj.mapSeq (·.push Value.none)) hL1 rfl;refine wpAny_updateSeq (hz:=by seq_fits) hL2 rfl ?_;have hL3:=iK (Obj.mapSeq (·.pop)) hL2 rfl;refine fF ⟨plainId_quiet PySem.F.plain_extend_loop _,?_⟩;have st0:(s.heap.push { cls:=.type "dict_keyiterator",data:=.fields #[.ref a,.int 0 0,.int kvs.length 0,.int ep 0] }).IsKeyIter s.heap.objs.size a 0 kvs.length ep/\(s.heap.push { cls:=.type "dict_keyiterator",data:=.fields #[.ref a,.int 0 0,.int kvs.length 0,.int ep 0] }).DictAt (yG prog w) a kvs ep:=⟨⟨_,fM _ rfl,rfl,rfl⟩,hS.push _⟩
 have kp:∀ b ob,s.heap.get? b=some ob->(s.heap.push { cls:=.type "dict_keyiterator",data:=.fields #[.ref a,.int 0 0,.int kvs.length 0,.int ep 0] }).get? b=some ob:=fun b ob e=>fC _ e;generalize hg:s.heap.push { cls:=.type "dict_keyiterator",data:=.fields #[.ref a,.int 0 0,.int kvs.length 0,.int ep 0] }=g at *;have old:∀ b ob,b≠L->g.get? b=some ob->((g.update L (Obj.mapSeq (·.push Value.none))).update L (Obj.mapSeq (·.pop))).get? b=some ob:=fun b ob hb e=>by
  rw[Heap.get?_update_ne _ _ _ _ hb,Heap.get?_update_ne _ _ _ _ hb];exact e
 refine codeAny_extend_loopS W.toS (by rw[sizeLine_eq];omega) L hSf res kvs.length 0 _ #[] _ rfl (i7 _) ?_ hL3 (ItemsOf.nil _) fun s' acc c hm hL' hacc=>?_
 ·exact W.frame 0 _ _ st0 fun b hb ob e=>old b ob (fun z=>hSf (by rw[<-z];exact hb)) e
 ·rw[Moved.eq_with hm]
  refine hR s'.heap s'.toks acc c (fun b ob hb e=>hm.heap b ob (fun hmem=>?_) (old b ob hb (kp b ob e))) hL' hacc;rcases fS.mp hmem with e' | hmem
  ·exact hb e'
  ·exact absurd (fK e) (by rw[gO.mp hmem];exact gn _)
theorem zHd{a:Addr}{kvs:List (Key×Value)}{ep:Nat}{Q:List Value->Shared->Prop}(hh:A.handled=none)(hd:(a==sysModules)=false)(hS:s.heap.DictAt (yG prog w) a kvs ep)(hlen:kvs.length<=1000)
  (hQ:∀ h' tk (acc:Array Value),(∀ b o,s.heap.get? b=some o->h'.get? b=some o)->s.heap.objs.size<=h'.objs.size->ItemsOf (Pk prog w kvs) acc kvs.length->Q acc.toList { s with heap:=h',toks:=tk }):wpAny 35#0 A (collect (.ref a)) Q E s:=by
 unfold collect;refine fB (wpAny_runValue (codeAny_builtin PySem.F.entry_proto_collect ?_));rw[Around.under_plainId PySem.F.plain_proto_collect _];show wpAny _ A.in1 (newList []>>=fun l=>again (.builtin "list.__iadd__" ⟨[l,.ref a],[]⟩)) _ _ s;refine fB (gE (fF ⟨plainId_quiet PySem.F.plain_list_iadd _,codeAny_builtin PySem.F.entry_list_iadd ?_⟩));rw[Around.under_plainId PySem.F.plain_list_iadd _];show wpAny _ A.in1 (Builtin.List.listExtendWith (.ref s.heap.objs.size) (.ref a) (.ref s.heap.objs.size)) _ _ _;have hL:(s.heap.push { cls:=.type "list",data:=.seq ([]:List Value).toArray }).get? s.heap.objs.size=some { cls:=.type "list",data:=.seq #[] 0 }:=fM _ rfl;let Pst:Result->Shared->Prop:=fun res s'=>∃(h':Heap) (tk:Nat) (acc:Array Value) (c:Nat),res=.ok (.ret (.ref s.heap.objs.size))/\s'={ s with heap:=h',toks:=tk }/\(∀ b o,s.heap.get? b=some o->h'.get? b=some o)/\h'.get? s.heap.objs.size=some { cls:=.type "list",dict:=none,data:=.seq acc c,slots:=#[] }/\ItemsOf (Pk prog w kvs) acc kvs.length;refine fV (zIp (A:=A) (R:=Pst) (s:={ s with heap:=s.heap.push { cls:=.type "list",data:=.seq ([]:List Value).toArray } }) hh hd (hS.push _) hlen s.heap.objs.size (.ref s.heap.objs.size) 0 hL fun h' tk acc c kp q1 q2=>?_) (fun fin s' h=>?_) (fun e s' h=>?_)
 ·exact⟨h',tk,acc,c,rfl,rfl,fun b o e=>kp b o (gc (fK e)) (fC _ e),q1,q2⟩
 ·have fin':∀ {r' s''},Pst r' s''->wpAny 35#0 A (match Value.ref s.heap.objs.size with
     | Value.ref a=>do
      match (<-load a).data with
       | Data.seq xs _=>pure xs.toList
       | _=>unsupported "internal:collect"
     | _=>unsupported "internal:collect") Q E s'':=by
   rintro r' s'' ⟨h',tk,acc,c,rfl,rfl,kp,q1,q2⟩;show wpAny _ A (load s.heap.objs.size>>=_) _ _ _;exact fB (wpAny_load q1 (fF (hQ h' tk _ kp (Nat.le_of_lt (fK q1)) q2)))
  cases fin with
  | done f =>
   have hf:=h;obtain⟨h',tk,acc,c,e,u0⟩:=h;cases e;exact fin' hf
  | again c'=>exact⟨h.1,gG h.2 fun r s'' hr=>by
    have hf:=hr;obtain⟨h',tk,acc,c,e,u0⟩:=hr;subst e;exact fin' hf⟩
 ·obtain⟨u0,u0,u0,u0,e,u0⟩:=h
  cases e
theorem zPz{kvs:List (Key×Value)}{ss:List Str}{acc:Array Value}(hk:kvs.map (·.1)=ss.map Sum.inr)(h:ItemsOf (Pk prog w kvs) acc kvs.length):StrsAre acc.toList ss:=by
 have hl:ss.length=kvs.length:=by have:=congrArg List.length hk;simpa using this.symm
 have:∀(ss:List Str) (us:List Value),us.length=ss.length->(∀(j:Nat) v,us[j]?=some v->∃ x u,ss[j]?=some x/\v=Value.str x u)->StrsAre us ss:=by
  intro ss
  induction ss with
  | nil=>intro us hl u0;cases us with | nil=>exact .nil | cons a b=>simp at hl
  | cons c cs ih =>
   intro us hl h;cases us with
   | nil=>simp at hl
   | cons a b =>
    obtain⟨x,u,e1,e2⟩:=h 0 a rfl;simp at e1;subst e1 e2;refine .cons _ u (ih b (by simpa using hl) fun j v hv=>?_);have:=h (j+1) v (by simpa using hv);simpa using this
 refine this ss acc.toList (by rw[gC,h.1,hl]) fun j v hv=>?_;obtain⟨k,x,e1,e2⟩:=h.2 j v (by rw[<-Array.getElem?_toList];exact hv);have e3:(kvs.map (·.1))[j]?=some k:=by rw[gh,e1];rfl
 rw[hk,gh] at e3;cases e4:ss[j]? with
 | none=>rw[e4] at e3;cases e3
 | some y =>
  rw[e4] at e3;have e5:(Sum.inr y:Key)=k:=by simpa using e3
  subst e5;rcases yn (show zFN (Sum.inr y) v=true from e2) with ⟨i,t,z,u0⟩ | ⟨x',t,z,rfl⟩
  ·cases z
  ·cases z;exact⟨_,t,rfl,rfl⟩
theorem zIq{a:Addr}{kvs:List (Key×Value)}{ss:List Str}{ep:Nat}{Q:10#0}(hh:A.handled=none)(hd:(a==sysModules)=false)(hS:s.heap.DictAt (yG prog w) a kvs ep)(hk:kvs.map (·.1)=ss.map Sum.inr)(h64:ss.length<64)
  (h:∀ h' tk l (out:Array Value) (ss':List Str) e,(∀ b o,s.heap.get? b=some o->h'.get? b=some o)->s.heap.objs.size<=l->h'.get? l=some (seqObj "list" out e)->StrsAre out.toList ss'->ss'.Perm ss->sortedS ss'=true->Q (.ref l) { s with heap:=h',toks:=tk }) :
  wpAny 35#0 A (call (.builtin "sorted") [.ref a]) Q E s:=by
 have hl:ss.length=kvs.length:=by have:=congrArg List.length hk;simpa using this.symm
 refine Calls.call_function_entry kind_sorted plain_sorted entry_sorted (args_sorted1 _) ?_;unfold Builtin.«sorted»;refine fB (m:=checkCount "sorted" 1 1 _) (fF (fB (zHd (by simpa using hh) hd hS 17#0 fun g tk acc kp lg it=>fB (wpAny_newList ?_ (by have:=it.1;rw[sizeLine_eq];simp;omega)))));have hI:StrsAre acc.toList ss:=zPz hk it;have lv:acc.toList.length<64:=by rw[gC,it.1];omega
 generalize acc.toList=vs at *;have hoL:(g.push (seqObj "list" vs.toArray 0)).get? g.objs.size=some (seqObj "list" vs.toArray 0):=fM _ rfl;show wpAny _ _ _ _ _ { s with heap:=g.push (seqObj "list" vs.toArray 0),toks:=tk };refine fB (hU (gZ slot_list_sort ⟨_,hoL,rfl⟩ entry_list_sort (list_sort_treeK strKind_oneLt (s:={ s with heap:=g.push (seqObj "list" vs.toArray 0),toks:=tk }) hoL hI.keysOf (fun v₁ v₂ rest e=>keyKind_strs (by rw[<-e];exact hI)) lv fun st' hp hs=>⟨_,rfl,fF ⟨_,rfl,?_⟩⟩) (args_list_sort _)));obtain⟨ss',a1,a2,a3⟩:=sorted_out_str hI hp hs;revert a1;generalize Array.map (fun x:Keyed=>x.2) (arrOf st')=out;intro a1;have at1:((g.push (seqObj "list" vs.toArray 0)).update g.objs.size (Obj.mapSeq fun u0=>#[])).get? g.objs.size=some (seqObj "list" #[] _):=get?_update_seq hoL (fun u0=>#[]);have at2:((((g.push (seqObj "list" vs.toArray 0)).update g.objs.size (Obj.mapSeq fun u0=>#[])).push (seqObj "tuple" vs.toArray 0)).push (seqObj "list" #[] 0)).get? g.objs.size=some (seqObj "list" #[] _):=fC _ (fC _ at1);refine h _ tk g.objs.size out ss' _ (fun b o e=>?_) lg (get?_update_seq at2 (fun u0=>out)) a1 a2 a3;have hb:b≠g.objs.size:=gc (fK (kp b o e));unfold sortedHeap;rw[Heap.get?_update_ne _ _ _ _ hb];exact fC _ (fC _ (by rw[Heap.get?_update_ne _ _ _ _ hb];exact fC _ (kp b o e)))
end
end HK
namespace L2
open HK
section
variable {X:Cx}
theorem zP0:∀ {kvs:List (Key×V)} {vs:List (Key×Value)},KV kvs vs->vs.map (·.1)=kvs.map (·.1):=by
 intro kvs vs h
 induction h with
 | nil=>rfl
 | @cons p q ps qs h t ih=>rw[fJ,fJ,ih,h.1]
theorem zHe(hc:X.calm=true):zAX X (.builtin "sorted") (fun xs H Q=>∃(p:Addr) (kvs:List (Key×V)) (ss:List Str),xs=[.ref p]/\Rd H p (.dK kvs)/\kvs.map (·.1)=ss.map Sum.inr/\ss.length<64 /\
  ∀(l:Addr) (ss':List Str),H l=none->ss'.Perm ss->sortedS ss'=true->Q (.ref l) (yx H l (.lst (ss'.map V.str)))):=by
 intro pins s σ H xs us Q I r h;obtain⟨p,kvs,ss,rfl,hq,hk,hz,q⟩:=h;obtain⟨u,rfl,rx⟩:=vals1 r;cases rx;obtain⟨z,hd,vs,rel,dd⟩:=zKx I.hok hq;obtain⟨o,es,ep,e1,e2,e3,e4,e5,e6⟩:=id dd;refine zIq (I.ok.hd hc) hd ⟨o,es,e1,e2,e3,e4,e5,e6⟩ (by rw[zP0 rel];exact hk) hz fun h' tk l out ss' e kp hl ho i1 i2 i3=>?_;have hn:H l=none:=I.hok.fresh hl;refine⟨.ref l,_,I.laid (t':=tk) (o:=.lst (ss'.map V.str)) kp hl ?_,rfl,q _ ss' hn i2 i3⟩;have hp:=i2.length_eq;refine⟨?_,out.toList,e,zCB i1,?_⟩
 ·rw[fE,hp,sizeLine_eq];omega
 ·exact ho
end
end L2
namespace L3
open L2
section
variable {X:Cx} {e:Expr} {p pos:Pos} {t:TA2}
theorem zK8{K:14#0}{H:Hp}:∀ {fs:List (Str×D)} {xs:List V},Dens K H (fs.map (·.2)) xs->(kz fs xs).map (·.1)=(fs.map (·.1)).map Sum.inr
 | [],xs,h=>by unfold kz;rfl
 | (g,x)::r,xs,h=>by
  rw[fJ] at h;unfold Dens at h;obtain⟨y,ys,rfl,h1,h2⟩:=h;have ih:=zK8 h2;unfold kz at ih ⊢;rw[fJ,gx,fJ,fJ,fJ,ih]
def zFx(t:TA2):TL2:=fun σ G R=>t σ G fun ds G1=>∃(a:Addr) (kvs:List (Str×D)),ds=[.adr a]/\zNZ G1 a kvs/\kvs.length<64/\∀ ss':List Str,ss'.Perm (kvs.map (·.1))->sortedS ss'=true->R (ss'.map D.str) G1
theorem zFG(hc:X.calm=true)(hg:Gl X "sorted")(hm:X.mg "sorted"=none)(ha:A2 X [e] t)(he:8#0)(hpl:18#0) :
  F2 X (.Call (.Name "sorted" p) [e] [] pos) (zFx t):=by
 refine PE.mono (zB3 (zHe hc) hg hm boot_sorted ha 11#0 11#0 he hpl) ?_;rintro σ1 H Q ⟨σ,G,R,rl,q,k⟩;refine⟨σ,G,_,rl,q,fun ds G1 q1 vs H1 g1 r1 d1=>?_⟩;obtain⟨a,kvs,rfl,e1,hl,q1⟩:=q1;obtain⟨v,rfl,d2⟩:=zB9 d1;unfold zQ at d2;subst d2;obtain⟨xs,rd,h2⟩:=e1.rel r1;refine⟨a,kz kvs xs,kvs.map (·.1),rfl,rd,zK8 h2,by rw[fE];exact hl,fun l' ss' n' p1 p2=>?_⟩;exact k _ G1 (q1 ss' p1 p2) l' _ _ (g1.trans (.fresh n')) (r1.fresh n') (r1.free n') yC (zDc ss')
end
end L3
namespace L2
noncomputable def Its(x:Str):It:=⟨fun i u0=>i<x.cps.size,fun i H v H'=>H'=H/\∃ c,x.cps[i]?=some c/\v=.str ⟨#[c]⟩,fun i u0=>x.cps.size<=i⟩
theorem zIr{P:Program}{w:World}{K:14#0}{tg:Expr}{ty:String}(x:Str)(t:Tok)(it:Addr)(hty:ty="str_ascii_iterator"\/ty="str_iterator"):Turn P w K tg (Its x) [it] it (fun i h=>h.IsStrIter it ty x t i) where
 mem:=by simp
 obj:=fun i h st b hb=>by
  have e:b=it:=by simpa using hb
  subst e;obtain⟨o,e,c,d⟩:=st;exact⟨o,e,fun v z=>by rw[d] at z;cases z⟩
 keep:=fun i h h' st k=>let ⟨o,ho,r⟩:=st;⟨o,k it 27#0 o ho,r⟩
 item:=by
  sleep 2;obtain⟨f0,f1,f2,f3,f4,f5⟩:=hf it 27#0;have hi:x.cps[i]?=some (x.cps[i]'hg):=Array.getElem?_eq_getElem hg;have fin:∀ h',h'.IsStrIter it ty x t (i+1)->gW it s.heap h'->∃ u,some (Value.str ⟨#[x.cps[i]'hg]⟩ s.toks)=some u /\
   wpAny 13#0 X.A (letOwnedTupleGo tg (.ref it) u) (fun u0 s2=>∃ x' H',zT X pins σ H' s2/\RelV x' u/\(Its x).yld i H x' H'/\s2.heap.IsStrIter it ty x t (i+1)/\∀ b∈[it],H' b=none) E { s with heap:=h',toks:=s.toks+1 }:=by
   intro h' st' sb;have I1:zT X pins σ H { s with heap:=h',toks:=s.toks+1 }:=I.turned (fun b o hb e=>(sb.2 b hb).trans e) f0 f1 f3 f4 f5;obtain⟨o,e,c,d⟩:=id st';refine⟨_,rfl,zKa (s:={ s with heap:=h',toks:=s.toks+1 }) e c d (by rcases hty with rfl | rfl<;>decide) ⟨.str ⟨#[x.cps[i]'hg]⟩,H,I1,⟨_,rfl⟩,⟨rfl,_,hi,rfl⟩,st',fun b hb=>(hf b hb).1⟩⟩
  rcases hty with rfl | rfl
  ·exact wpAny_pyNext_ascii_item st hi fin
  ·exact wpAny_pyNext_wide_item st hi fin
 done:=by
  sleep 2;obtain⟨f0,f1,f2,f3,f4,f5⟩:=hf it 27#0;have hi:x.cps[i]?=none:=by
   have:x.cps.size<=i:=hg;simpa using this
  rcases hty with rfl | rfl
  ·exact wpAny_pyNext_ascii_end (I.ok.hd hc) st hi fun h' eb=>⟨rfl,I.turned (t':=s.toks) (fun b o hb e=>eb b o hb e) f0 f1 f3 f4 f5⟩
  ·exact wpAny_pyNext_wide_end (I.ok.hd hc) st hi fun h' eb=>⟨rfl,I.turned (t':=s.toks) (fun b o hb e=>eb b o hb e) f0 f1 f3 f4 f5⟩
 self:=fun u0 u0 u0 u0 u0 st h=>by
  rcases hty with rfl | rfl
  ·exact wpAny_pyIter_striter_ascii st h
  ·exact wpAny_pyIter_striter_wide st h
def zUv(tl:TE):TI:=fun σ H R=>tl σ H fun v H1=>∃ x,v=.str x/\R (Its x) H1
theorem zSY{X:Cx}{tg l:Expr}{tl:TE}(hl:PE X l tl):PI X tg l (zUv tl):=by
 intro pins s σ H R I h;refine yV (hl pins s σ H _ I h) fun v s1 u9=>?_;obtain⟨y,H1,I1,r1,q1⟩:=u9;obtain⟨x,e,q⟩:=q1;subst e;obtain⟨t,rfl⟩:=r1;have fr:zCL X pins H1 s1.heap.objs.size:=I1.fpOk (fP _) (I1.hok.fresh (fP _));cases ha:x.cps.all (·<128)
 ·exact wpAny_pyIter_wide ha ⟨s1.heap.objs.size,[s1.heap.objs.size],_,_,H1,rfl,I1.kept (t':=s1.toks) fun b o e=>fC _ e,zIr x t _ (.inr rfl),⟨_,fM _ rfl,rfl,rfl⟩,fun b hb=>by rw[gO] at hb;subst hb;exact fr,q⟩
 ·exact wpAny_pyIter_ascii ha ⟨s1.heap.objs.size,[s1.heap.objs.size],_,_,H1,rfl,I1.kept (t':=s1.toks) fun b o e=>fC _ e,zIr x t _ (.inl rfl),⟨_,fM _ rfl,rfl,rfl⟩,fun b hb=>by rw[gO] at hb;subst hb;exact fr,q⟩
end L2
namespace L3
open L2
theorem zN5{K:14#0}{H0:Hp}{x:Str}:Walk K H0 ((sgs x).map D.str) (fun u0=>True) (Its x) where
 go:=fun i G H u0 u0 u0 hi=>by rw[fE,sgs,fE,gC] at hi;exact hi
 stop:=fun G H u0 u0 u0=>by rw[fE,sgs,fE,gC];exact fP _
 yld:=fun i G H v H' u0 r u0 hi y=>by
  obtain⟨e,c,hc,rfl⟩:=y;subst e;refine⟨.refl _,r,D.str ⟨#[c]⟩,?_,by unfold zQ;rfl⟩;simp[sgs,hc]
def iS(t:zm):TI2:=fun σ G R=>t σ G fun d G1=>match d with
 | .str x=>x.length<=1000000/\R ((sgs x).map D.str) (fun u0=>True) G1
 | _=>False
theorem zTv{X:Cx}{tg l:Expr}{ta:zm}(h:E2 X l ta):I2 X tg l (iS ta):=by
 refine PI.mono (zSY h) ?_;rintro σ1 H R ⟨σ,G,R2,r,q,k⟩;refine⟨σ,G,_,r,q,fun d G1 q1 v H1 g1 r1 d1=>?_⟩;cases d with
 | str x =>
  unfold zQ at d1;subst d1;obtain⟨hz,q1⟩:=q1;have hz':x.cps.size<=1000000:=hz;exact⟨x,rfl,k _ _ G1 q1 _ H1 g1 r1 zN5 (by rw[fE,sgs,fE,gC,sizeLine_eq];omega)⟩
 | _=>exact q1.elim
section
variable {X:Cx}
theorem zDF{is:List Nat}{pins:20#0}{σ1:L2.St}{H:Hp}(hs:∀ i∈is,∃ y:Str,y.length<=100/\σ1[i]?=some (some (.str y))){Qq:Str->Shared->Prop}(hq:∀ out s',L2.zT X pins σ1 H s'->out.length<=sizeLine->Qq out s') :
  ∀ {parts:List Expr},zAy X is parts->∀(acc:Str) (s:Shared),L2.zT X pins σ1 H s->acc.length+100*parts.length<=sizeLine->Joins 13#0 X.A X.xe (evalEach parts X.env) acc Qq s
 | _,.nil,acc,s,I,hl=>hq acc s I (by simpa using hl)
 | _,.con (c:=c) (r:=r) h t,acc,s,I,hl=>by
  have hl':acc.length+100*(r.length+1)<=sizeLine:=by simpa using hl
  have e:(acc++c).length=acc.length+c.length:=Str.length_append _ _;refine wpAny_Constant_str ⟨c,_,rfl,by omega,zDF hs hq t _ _ (I.tok _) 17#0⟩
 | _,.fld (i:=i) (r:=r) hi h t,acc,s,I,hl=>by
  have hl':acc.length+100*(r.length+1)<=sizeLine:=by simpa using hl
  obtain⟨y,hn,hv⟩:=hs i hi;refine wpAny_FormattedValue_plain (yV (h pins s σ1 H (fun v H'=>v=.str y/\H'=H) I ⟨_,hv,rfl,rfl⟩) fun u s1 hz=>?_);obtain⟨v,H',I1,rv,rfl,hH⟩:=hz;rw[hH] at I1;obtain⟨tk,rfl⟩:=rv;have e:(acc++y).length=acc.length+y.length:=Str.length_append _ _;exact wpAny_formatField_str ⟨_,_,rfl,by omega,zDF hs hq t _ _ I1 17#0⟩ ⟨_,_,rfl,by omega,zDF hs hq t _ _ (I1.tok _) 17#0⟩ 17#0
def zP1(is:List Nat):zm:=fun σ G R=>(∀ i∈is,∃ y:Str,y.length<=100/\look σ i=some (.str y))/\∀ x,R (.str x) G
theorem zP2(is:List Nat){v1 v2:Expr}{r:List Expr}{pos:Pos}(h:zAy X is (v1::v2::r))(hl:autoParam (100*(v1::v2::r).length<=sizeLine) Zq2._auto_1):E2 X (.JoinedStr (v1::v2::r) pos) (zP1 is):=by
 intro pins s σ1 H Q I hq;obtain⟨σ,G,R,rr,⟨q1,q2⟩,kk⟩:=hq;refine wpAny_JoinedStr (zDF (fun i hi=>?_) (fun out s' I' ho=>?_) h Str.empty s I (by have:Str.empty.length=0:=rfl;omega))
 ·obtain⟨y,hn,hk⟩:=q1 i hi
  obtain⟨v,e1,e2⟩:=rr.val i _ (zB6 hk);unfold zQ at e2;subst e2;exact⟨y,hn,e1⟩
 ·exact⟨ho,.str out,H,I'.tok _,⟨_,rfl⟩,kk _ G (q2 out) _ H (.refl H) rr.g 22#0⟩
end
end L3
namespace HZ
theorem zP3{M:Model}{A:Around}{E:10#0}{s:Shared}{a:Addr}{Q:Option Obj->Shared->Prop}(h:Q (s.heap.get? a) s):wpAny M A (loadIfAlive a) Q E s:=by
 intro Γ p hΓ;unfold loadIfAlive;simp only[Sem.wp];exact h
def zFy(h:Heap)(z a b:Addr):Prop:=∃(r:Value) (f:Bool),(r=.none\/∃ T:Int,r=rawInt T)/\h.get? z=some { cls:=.type "zip",data:=.fields #[r,.bool f,.bool false,.ref a,.ref b] }
section
variable {prog:Program} {w:World} {A:Around} {E:Value->Shared->Prop} {s:Shared} {z a b i j l m:Addr} {xs ys:Array Value} (Z1:Zs prog w i l xs) (Z2:Zs prog w j m ys)
theorem zIs{Q:Bool->Shared->Prop}(hz:zFy s.heap z a b)(hT:Q true s)(hF:∀ h',zFy h' z a b->gW z s.heap h'->Q false { s with heap:=h' }):wpAny 35#0 A (Builtin.SmallTypes.ownedTupleIsFree (.ref z)) Q E s:=by
 obtain⟨r,f,hr,hz⟩:=hz;unfold Builtin.SmallTypes.ownedTupleIsFree;refine fB (gA hz rfl (x:=r) rfl ?_);rcases hr with rfl | ⟨T,rfl⟩
 ·exact fF hT
 ·show wpAny _ _ (loadIfAlive T.toNat>>=_) _ _ s
  refine fB (zP3 ?_);dsimp only;by_cases hq:(s.heap.get? T.toNat).isNone=true
  ·rw[if_pos hq];exact fF hT
  ·rw[if_neg hq]
   refine fB (gA hz rfl (x:=.bool f) rfl ?_);by_cases hf:(Value.bool f != Value.bool true)=true
   ·rw[if_pos hf]
    refine fB (ig hz 27#0 fun h' z' sb=>fF (hF h' ⟨rawInt T,true,.inr ⟨T,rfl⟩,z'⟩ sb))
   ·rw[if_neg hf]
    exact fF (hF s.heap ⟨rawInt T,f,.inr ⟨T,rfl⟩,hz⟩ ⟨rfl,fun u0 u0=>rfl⟩)
theorem zP4{k1 k2:Nat}{x y u v:Value}{Q:10#0}(D:Ap z a b i j l m)(hz:zFy s.heap z a b)(hTI:IsPair s.heap a (.ref i) (.ref j))(hTO:IsPair s.heap b u v)
  (h1:Z1.It k1 s.heap) (h2:Z2.It k2 s.heap) (hl1:Z1.Sq s.heap) (hl2:Z2.Sq s.heap) (hx:xs[k1]?=some x) (hy:ys[k2]?=some y)
  (hQ:∀ h',zFy h' z a b->(∃ u v,IsPair h' b u v)->Z1.It (k1+1) h'->Z2.It (k2+1) h'->IsPair h' s.heap.objs.size x y->h'.objs.size=s.heap.objs.size+1 ->
   (∀ c o,c≠z->c≠b->c≠i->c≠j->s.heap.get? c=some o->h'.get? c=some o)->Q (.ref s.heap.objs.size) { s with heap:=h' }) :
  wpAny 35#0 A (Builtin.«zip.__next__» ⟨[.ref z],[]⟩) (fun fin s'=>∃ v,fin=.done (.ret v)/\Q v s') E s:=by
 obtain⟨r,f,hr,hz0⟩:=id hz;show wpAny _ _ (field (.ref z) 2>>=_) _ _ s;refine fB (gA hz0 rfl (x:=.bool false) rfl (show wpAny _ _ (field (.ref z) 3>>=_) _ _ s from fB (gA hz0 rfl (x:=.ref a) rfl (fB (iq hTI rfl ?_)))));show wpAny _ _ (Builtin.SmallTypes.ownedTupleIsFree (.ref z)>>=_) _ _ s;refine fB (zIs hz ?_ fun g0 zf s0=>?_)
 ·simp only[if_true]
  refine fB (wpAny_rule (fB (gA hz0 rfl (x:=.ref b) rfl (fB (ig hz0 27#0 fun g1 hz1 s1=>?_)))))
  replace hz1:g1.get? z=some { cls:=.type "zip",data:=.fields #[.ellipsis,.bool f,.bool false,.ref a,.ref b] }:=hz1
  refine fB ?_;simp only[List.zipIdx_cons,List.zipIdx_nil,iE,List.forIn_nil];refine fB (fB (wpAny_onRaise (show wpAny _ _ (Builtin.SmallTypes.nextOf (.ref i)>>=_) _ _ _ from fB (Z1.item _ _ _ _ _ _ (Z1.itAt h1 fun o e=>s1.extBut _ _ D.iz e) (Z1.sqAt hl1 fun o e=>s1.extBut _ _ D.lz e) hx fun g2 i2 s2=>fF ?_))));have t2:IsPair g2 b u v:=s2.extBut _ _ D.bi (s1.extBut _ _ D.bz hTO);refine fB (iq t2 rfl (fB (wpAny_updateSeq_pair t2 fun g3 t3 s3=>?_)))
  replace t3:IsPair g3 b x v:=t3
  refine fB (wpAny_letGo (fF (fB (fB (wpAny_onRaise (show wpAny _ _ (Builtin.SmallTypes.nextOf (.ref j)>>=_) _ _ _ from fB (Z2.item _ _ _ _ _ _ (Z2.itAt h2 fun o e=>s3.extBut _ _ D.bj.symm (s2.extBut _ _ D.ij.symm (s1.extBut _ _ D.jz e))) (Z2.sqAt hl2 fun o e=>s3.extBut _ _ D.mb (s2.extBut _ _ D.mi (s1.extBut _ _ D.mz e))) hy fun g4 j4 s4=>fF ?_)))))));have t4:IsPair g4 b x v:=s4.extBut _ _ D.bj t3;refine fB (iq t4 rfl (fB (wpAny_updateSeq_pair t4 fun g5 t5 s5=>?_)))
  replace t5:IsPair g5 b x y:=t5
  refine fB (wpAny_letGo (fF (fF (fB (iq t5 rfl (fB (wpAny_newTuple ?_)))))));have hsz:g5.objs.size=s.heap.objs.size:=by rw[s5.1,s4.1,s3.1,s2.1,s1.1]
  have z5:g5.get? z=some { cls:=.type "zip",data:=.fields #[.ellipsis,.bool f,.bool false,.ref a,.ref b] }:=s5.extBut _ _ D.bz.symm (s4.extBut _ _ D.jz.symm (s3.extBut _ _ D.bz.symm (s2.extBut _ _ D.iz.symm hz1)));have k5:∀ c o,c≠z->c≠b->c≠i->c≠j->s.heap.get? c=some o->g5.get? c=some o:=fun c o c1 c2 c3 c4 e=>s5.extBut _ _ c2 (s4.extBut _ _ c4 (s3.extBut _ _ c2 (s2.extBut _ _ c3 (s1.extBut _ _ c1 e))));have i5:Z1.It (k1+1) g5:=Z1.itAt i2 fun o e=>s5.extBut _ _ D.bi.symm (s4.extBut _ _ D.ij (s3.extBut _ _ D.bi.symm e));have j5:Z2.It (k2+1) g5:=Z2.itAt j4 fun o e=>s5.extBut _ _ D.bj.symm e;have zl:z<g5.objs.size:=fK z5;show wpAny _ _ (Builtin.SmallTypes.ownedTupleHandOut (.ref z) (.ref g5.objs.size)>>=_) _ _ _;refine fB ?_;unfold Builtin.SmallTypes.ownedTupleHandOut;have z6:(g5.push { cls:=.type "tuple",data:=.seq #[x,y] }).get? z=some { cls:=.type "zip",data:=.fields #[.ellipsis,.bool f,.bool false,.ref a,.ref b] }:=fC _ z5;refine fB (ig z6 27#0 fun g7 z7 s7=>?_)
  replace z7:g7.get? z=some { cls:=.type "zip",data:=.fields #[rawInt g5.objs.size,.bool f,.bool false,.ref a,.ref b] }:=z7
  refine ig z7 27#0 fun g8 z8 s8=>?_
  replace z8:zFy g8 z a b:=⟨rawInt g5.objs.size,false,.inr ⟨_,rfl⟩,z8⟩
  have up:∀ c o,c≠z->g5.get? c=some o->g8.get? c=some o:=fun c o c1 e=>s8.extBut _ _ c1 (s7.extBut _ _ c1 (fC _ e));have p8:IsPair g8 g5.objs.size x y:=s8.extBut _ _ (Nat.ne_of_gt zl) (s7.extBut _ _ (Nat.ne_of_gt zl) (fM _ rfl));have n8:g8.objs.size=g5.objs.size+1:=by rw[s8.1,s7.1,gS]
  rw[hsz] at p8 n8;refine fF ⟨_,rfl,?_⟩;show Q (.ref g5.objs.size) _;rw[hsz];exact hQ g8 z8 ⟨x,y,up _ _ D.bz t5⟩ (Z1.itAt i5 fun o e=>up _ o D.iz e) (Z2.itAt j5 fun o e=>up _ o D.jz e) p8 n8 fun c o c1 c2 c3 c4 e=>up c o c1 (k5 c o c1 c2 c3 c4 e)
 ·simp only[gI,if_false]
  refine fB ?_;simp only[<-Array.forIn_toList,iE,List.forIn_nil];refine fB (fB (hU (show wpAny _ _ (Builtin.SmallTypes.nextOf (.ref i)>>=_) _ _ _ from fB (Z1.item _ _ _ _ _ _ (Z1.itAt h1 fun o e=>s0.extBut _ _ D.iz e) (Z1.sqAt hl1 fun o e=>s0.extBut _ _ D.lz e) hx fun g2 i2 s2=>fF ?_))));refine fF (fB (fB (hU (show wpAny _ _ (Builtin.SmallTypes.nextOf (.ref j)>>=_) _ _ _ from fB (Z2.item _ _ _ _ _ _ (Z2.itAt h2 fun o e=>s2.extBut _ _ D.ij.symm (s0.extBut _ _ D.jz e)) (Z2.sqAt hl2 fun o e=>s2.extBut _ _ D.mi (s0.extBut _ _ D.mz e)) hy fun g4 j4 s4=>fF ?_)))));refine fF (fF (fB (wpAny_newTuple (hsz:=(by show 2<=sizeLine;decide)) (fF ⟨_,rfl,?_⟩))));have hsz:g4.objs.size=s.heap.objs.size:=by rw[s4.1,s2.1,s0.1]
  have up:∀ c o,g4.get? c=some o->(g4.push { cls:=.type "tuple",data:=.seq #[x,y] }).get? c=some o:=fun c o e=>fC _ e;have k4:∀ c o,c≠z->c≠i->c≠j->s.heap.get? c=some o->g4.get? c=some o:=fun c o c1 c3 c4 e=>s4.extBut _ _ c4 (s2.extBut _ _ c3 (s0.extBut _ _ c1 e));have z4:zFy (g4.push { cls:=.type "tuple",data:=.seq #[x,y] }) z a b:=by
   obtain⟨r',f',hr',e'⟩:=zf;exact⟨r',f',hr',up _ _ (s4.extBut _ _ D.jz.symm (s2.extBut _ _ D.iz.symm e'))⟩
  have p4:IsPair (g4.push { cls:=.type "tuple",data:=.seq #[x,y] }) g4.objs.size x y:=fM _ rfl;show Q (.ref g4.objs.size) _;have res:=hQ (g4.push { cls:=.type "tuple",data:=.seq #[x,y] }) z4 ⟨u,v,up _ _ (k4 _ _ D.bz D.bi D.bj hTO)⟩ (Z1.itAt i2 fun o e=>up _ _ (s4.extBut _ _ D.ij e)) (Z2.itAt j4 fun o e=>up _ _ e) (hsz▸p4) (by rw[gS,hsz]) fun c o c1 u0 c3 c4 e=>up _ _ (k4 c o c1 c3 c4 e);rw[<-hsz] at res;exact res
theorem zSZ{k1 k2:Nat}{u v:Value}{Q:Fin->Shared->Prop}(hh:A.handled=none)(D:Ap z a b i j l m)(hz:zFy s.heap z a b)(hTI:IsPair s.heap a (.ref i) (.ref j))(hTO:IsPair s.heap b u v)
  (h1:Z1.It k1 s.heap) (h2:Z2.It k2 s.heap) (hl1:Z1.Sq s.heap) (hl2:Z2.Sq s.heap) (hend:xs[k1]?=none)
  (hE:∀ h' e,(∀ c o,c≠z->c≠b->c≠i->c≠j->s.heap.get? c=some o->h'.get? c=some o)->(∃ o,h'.get? e=some o/\o.cls=.type "StopIteration")->E (.ref e) { s with heap:=h' }) :
  wpAny 35#0 A (Builtin.«zip.__next__» ⟨[.ref z],[]⟩) Q E s:=by
 obtain⟨r,f,hr,hz0⟩:=id hz;show wpAny _ _ (field (.ref z) 2>>=_) _ _ s;refine fB (gA hz0 rfl (x:=.bool false) rfl (show wpAny _ _ (field (.ref z) 3>>=_) _ _ s from fB (gA hz0 rfl (x:=.ref a) rfl (fB (iq hTI rfl ?_)))));show wpAny _ _ (Builtin.SmallTypes.ownedTupleIsFree (.ref z)>>=_) _ _ s;refine fB (zIs hz ?_ fun g0 zf s0=>?_)
 ·simp only[if_true]
  refine fB (wpAny_rule (fB (gA hz0 rfl (x:=.ref b) rfl (fB (ig hz0 27#0 fun g1 hz1 s1=>?_)))))
  replace hz1:g1.get? z=some { cls:=.type "zip",data:=.fields #[.ellipsis,.bool f,.bool false,.ref a,.ref b] }:=hz1
  refine fB ?_;simp only[List.zipIdx_cons,List.zipIdx_nil,iE,List.forIn_nil];refine fB (fB (wpAny_onRaise ?_));show wpAny _ _ (Builtin.SmallTypes.nextOf (.ref i)>>=_) _ _ _;have w1:Z1.It k1 g1:=Z1.itAt h1 fun o e=>s1.extBut _ _ D.iz e;have w2:Z1.Sq g1:=Z1.sqAt hl1 fun o e=>s1.extBut _ _ D.lz e;refine fB (Z1.fin _ _ _ _ _ hh w1 w2 hend fun g2 e s2 he=>?_);obtain⟨oe,hoe,hce⟩:=he;have z2:g2.get? z=some { cls:=.type "zip",data:=.fields #[.ellipsis,.bool f,.bool false,.ref a,.ref b] }:=s2 _ _ D.iz.symm hz1;have hez:e≠z:=fun q=>by subst q;rw[z2] at hoe;cases hoe;simp at hce
  refine ig z2 27#0 fun g3 u0 s3=>hE g3 e (fun c o c1 u0 c3 u0 q=>s3.extBut _ _ c1 (s2 _ _ c3 (s1.extBut _ _ c1 q))) ⟨oe,s3.extBut _ _ hez hoe,hce⟩
 ·simp only[gI,if_false]
  refine fB ?_;simp only[<-Array.forIn_toList,iE,List.forIn_nil];refine fB (fB (hU ?_));show wpAny _ _ (Builtin.SmallTypes.nextOf (.ref i)>>=_) _ _ _;have w1:Z1.It k1 g0:=Z1.itAt h1 fun o e=>s0.extBut _ _ D.iz e;have w2:Z1.Sq g0:=Z1.sqAt hl1 fun o e=>s0.extBut _ _ D.lz e;exact fB (Z1.fin _ _ _ _ _ hh w1 w2 hend fun g2 e s2 he=>hE g2 e (fun c o c1 u0 c3 u0 q=>s2 _ _ c3 (s0.extBut _ _ c1 q)) he)
theorem zP5{k1 k2:Nat}{x y u v:Value}{Q:Option Value->Shared->Prop}(D:Ap z a b i j l m)(hz:zFy s.heap z a b)(hTI:IsPair s.heap a (.ref i) (.ref j))(hTO:IsPair s.heap b u v)
  (h1:Z1.It k1 s.heap) (h2:Z2.It k2 s.heap) (hl1:Z1.Sq s.heap) (hl2:Z2.Sq s.heap) (hx:xs[k1]?=some x) (hy:ys[k2]?=some y)
  (hQ:∀ h',zFy h' z a b->(∃ u v,IsPair h' b u v)->Z1.It (k1+1) h'->Z2.It (k2+1) h'->IsPair h' s.heap.objs.size x y->h'.objs.size=s.heap.objs.size+1 ->
   (∀ c o,c≠z->c≠b->c≠i->c≠j->s.heap.get? c=some o->h'.get? c=some o)->Q (some (.ref s.heap.objs.size)) { s with heap:=h' }) :
  wpAny 35#0 A (pyNext (.ref z)) Q E s:=by
 have hT:s.TypeIs (.ref z) "zip":=by obtain⟨r,f,u0,e⟩:=hz;exact⟨_,e,rfl⟩
 unfold pyNext;exact fB (wpAny_attempt (wpAny_callSpecial?_slot (name:=Str.ofString "__next__") hT F.slot_zip_next (gZ F.slot_zip_next hT F.entry_zip_next (zP4 Z1 Z2 D hz hTI hTO h1 h2 hl1 hl2 hx hy fun h' a1 a2 a3 a4 a5 a6 a7=>fF (hQ h' a1 a2 a3 a4 a5 a6 a7)) (F.args_zip_next_1 _))))
theorem zSa{k1 k2:Nat}{u v:Value}{Q:Option Value->Shared->Prop}(hh:A.handled=none)(D:Ap z a b i j l m)(hz:zFy s.heap z a b)(hTI:IsPair s.heap a (.ref i) (.ref j))(hTO:IsPair s.heap b u v)
  (h1:Z1.It k1 s.heap) (h2:Z2.It k2 s.heap) (hl1:Z1.Sq s.heap) (hl2:Z2.Sq s.heap) (hend:xs[k1]?=none)
  (hQ:∀ h',(∀ c o,c≠z->c≠b->c≠i->c≠j->s.heap.get? c=some o->h'.get? c=some o)->Q none { s with heap:=h' }):wpAny 35#0 A (pyNext (.ref z)) Q E s:=by
 have hT:s.TypeIs (.ref z) "zip":=by obtain⟨r,f,u0,e⟩:=hz;exact⟨_,e,rfl⟩
 unfold pyNext;refine fB (wpAny_attempt (wpAny_callSpecial?_slot (name:=Str.ofString "__next__") hT F.slot_zip_next (gZ F.slot_zip_next hT F.entry_zip_next (zSZ Z1 Z2 hh D hz hTI hTO h1 h2 hl1 hl2 hend fun h' e hk he=>?_) (F.args_zip_next_1 _))));obtain⟨o,ho,hc⟩:=he;exact fB (wpAny_isInstance (T:="StopIteration") (b:=true) ⟨o,ho,hc⟩ isSubtype_stop (fF (hQ _ hk)))
end
theorem zIt{prog:Program}{w:World}{A:Around}{E:10#0}{s:Shared}{z a b:Addr}{r:Value}{f:Bool}{Q:10#0}(hz:s.heap.get? z=some { cls:=.type "zip",data:=.fields #[r,.bool f,.bool false,.ref a,.ref b] })(h:Q (.ref z) s):wpAny 35#0 A (pyIter (.ref z)) Q E s:=by
 have hT:s.TypeIs (.ref z) "zip":=⟨_,hz,rfl⟩
 refine wpAny_pyIter_slot hT F.slot_zip_iter (gZ F.slot_zip_iter hT F.entry_zip_iter ?_ (F.args_zip_iter_1 _));show wpAny _ _ (ret (.ref z)) _ _ s;exact fF ⟨_,rfl,"zip",_,hT,F.slot_zip_next.lookup,h⟩
noncomputable abbrev zv1(h:Heap)(p:Addr):Heap:=h.push { cls:=.type "tuple_iterator",data:=.fields #[.ref p,.int 0 0] }
noncomputable abbrev zv2(h:Heap)(p q:Addr):Heap:=(zv1 h p).push { cls:=.type "list_iterator",data:=.fields #[.ref q,.int 0 0] }
noncomputable abbrev zv3(h:Heap)(p q:Addr):Heap:=(zv2 h p q).push { cls:=.type "tuple",data:=.seq #[.ref h.objs.size,.ref (zv1 h p).objs.size] }
noncomputable abbrev zv4(h:Heap)(p q:Addr):Heap:=(zv3 h p q).push { cls:=.type "tuple",data:=.seq #[.none,.none] }
noncomputable abbrev zv5(h:Heap)(p q:Addr):Heap:=(zv4 h p q).push { cls:=.type "zip",data:=.fields #[.none,.bool false,.bool false,.ref (zv2 h p q).objs.size,.ref (zv3 h p q).objs.size] }
theorem zJ6(p q:Addr)(xs ys:Array Value) :
  Meets (Builtin.«zip.__new__» ⟨[.type "zip",.ref p,.ref q],[]⟩) (fun u0 R s=>s.heap.IsTuple p xs/\s.heap.IsList q ys/\R (.ok (.ret (.ref (zv4 s.heap p q).objs.size))) { s with heap:=zv5 s.heap p q }) :=
 .of_wp fun prog w A R s h=>by
  obtain⟨hp,g,d,tk,os⟩:=s;obtain⟨hl1,hl2,h⟩:=h;have hsub:=sub_zip;have w1:Heap.IsTuple (Shared.heap ⟨hp,g,d,tk,os⟩) p xs:=hl1;have w2:Heap.IsList (Shared.heap ⟨hp.push { cls:=.type "tuple_iterator",data:=.fields #[.ref p,.int 0 0] },g,d,tk,os⟩) q ys:=Heap.IsList.at hl2 fun o e=>fC _ e
  wp_walk using wpAny_pyIter_tuple w1,wpAny_pyIter_list w2
  exact⟨_,rfl,h⟩
theorem zMD{prog:Program}{w:World}{A:Around}{E:10#0}{s:Shared}{p q:Addr}{xs ys:Array Value}{Q:10#0}(hl1:s.heap.IsTuple p xs)(hl2:s.heap.IsList q ys)
  (h:∀ h',IsZip h' (s.heap.objs.size+4) (s.heap.objs.size+2) (s.heap.objs.size+3) .none->IsPair h' (s.heap.objs.size+2) (.ref s.heap.objs.size) (.ref (s.heap.objs.size+1)) ->
   IsPair h' (s.heap.objs.size+3) .none .none->h'.IsTupleIter s.heap.objs.size p 0->h'.IsListIter (s.heap.objs.size+1) q 0->h'.objs.size=s.heap.objs.size+5 ->
   (∀ c o,s.heap.get? c=some o->h'.get? c=some o)->Q (.ref (s.heap.objs.size+4)) { s with heap:=h' }) :
  wpAny 35#0 A (call (.type "zip") [.ref p,.ref q]) Q E s:=by
 refine callType_new F.called_zip 11#0 (F.typeCall_zip_2 _ _) (F.newCall_zip_2 _ _) (fun obj=>F.args_object_init_3 obj _ _) F.entry_zip_new (zJ6 p q xs ys) ⟨hl1,hl2,?_⟩;have z1:(zv1 s.heap p).objs.size=s.heap.objs.size+1:=gS ..;have z2:(zv2 s.heap p q).objs.size=s.heap.objs.size+2:=by rw[gS,z1]
 have z3:(zv3 s.heap p q).objs.size=s.heap.objs.size+3:=by rw[gS,z2]
 have z4:(zv4 s.heap p q).objs.size=s.heap.objs.size+4:=by rw[gS,z3]
 have z5:(zv5 s.heap p q).objs.size=s.heap.objs.size+5:=by rw[gS,z4]
 have g5:(zv5 s.heap p q).get? (zv4 s.heap p q).objs.size=some _:=fM _ rfl;have g4:(zv5 s.heap p q).get? (zv3 s.heap p q).objs.size=some _:=fC _ (fM _ rfl);have g3:(zv5 s.heap p q).get? (zv2 s.heap p q).objs.size=some _:=fC _ (fC _ (fM _ rfl));have g2:(zv5 s.heap p q).get? (zv1 s.heap p).objs.size=some _:=fC _ (fC _ (fC _ (fM _ rfl)));have g1:(zv5 s.heap p q).get? s.heap.objs.size=some _:=fC _ (fC _ (fC _ (fC _ (fM _ rfl))));show _/\_;rw[z2,z3,z4] at g5;rw[z1,z2] at g3;rw[z3] at g4;rw[z1] at g2;rw[z4];exact⟨⟨_,g5,rfl⟩,h _ g5 g3 g4 ⟨_,g1,rfl,rfl⟩ ⟨_,g2,rfl,rfl⟩ z5 fun c o x=>fC _ (fC _ (fC _ (fC _ (fC _ x))))⟩
end HZ
namespace L2
open HZ
noncomputable def Itm(K:14#0)(a b:Addr):It :=
  ⟨fun i H=>∃ xs ys x y,SqT K H a xs/\SqL K H b ys/\xs[i]?=some x/\ys[i]?=some y,
   fun i H v H'=>∃ t,v=.ref t/\H t=none/\∃ x y,(∀ xs,SqT K H a xs->xs[i]?=some x)/\(∀ ys,SqL K H b ys->ys[i]?=some y)/\H'=yx H t (.tup [x,y]),
   fun i H=>∃ xs ys,SqT K H a xs/\SqL K H b ys/\xs.length<=i⟩
theorem zME{P:Program}{w:World}{K:14#0}{x0:Str}{pt:Pos}{z a b i1 i2 l m:Addr}(D:Ap z a b i1 i2 l m) :
  Turn P w K (.Name x0 pt) (Itm K l m) [z,a,b,i1,i2] z (fun i h=>zFy h z a b/\IsPair h a (.ref i1) (.ref i2)/\(∃ u v,IsPair h b u v)/\h.IsTupleIter i1 l i/\h.IsListIter i2 m i) where
 mem:=by simp
 obj:=fun i h st c hc=>by
  obtain⟨h1,h2,⟨u,v,h3⟩,h4,h5⟩:=st;simp only[fS,gw,or_false] at hc;rcases hc with rfl | rfl | rfl | rfl | rfl
  ·obtain⟨r,f,u0,e⟩:=h1;exact⟨_,e,fun v q=>by cases q⟩
  ·exact⟨_,h2,fun v q=>by cases q⟩
  ·exact⟨_,h3,fun v q=>by cases q⟩
  ·obtain⟨o,e,c,d⟩:=h4;exact⟨o,e,fun v q=>by rw[d] at q;cases q⟩
  ·obtain⟨o,e,c,d⟩:=h5;exact⟨o,e,fun v q=>by rw[d] at q;cases q⟩
 keep:=fun i h h' st k=>by
  obtain⟨h1,h2,⟨u,v,h3⟩,h4,h5⟩:=st;obtain⟨r,f,hr,e⟩:=h1;exact⟨⟨r,f,hr,k z 27#0 _ e⟩,k a 27#0 _ h2,⟨u,v,k b 27#0 _ h3⟩,IsTupleIter.at' h4 fun o e=>k i1 27#0 o e,h5.at fun o e=>k i2 27#0 o e⟩
 item:=by
  sleep 2;obtain⟨xs,ys,x,y,q1,q2,hx,hy⟩:=hg;obtain⟨its1,rv1,p1,hz1⟩:=I.tuple q1;obtain⟨its2,rv2,p2,hz2⟩:=I.list q2;obtain⟨u1,hu1,ru1⟩:=rv1.get hx;obtain⟨u2,hu2,ru2⟩:=rv2.get hy;obtain⟨h1,h2,⟨u,v,h3⟩,h4,h5⟩:=st;have fl:∀ c∈[z,a,b,i1,i2],c<s.heap.objs.size:=fun c hc=>by
   simp only[fS,gw,or_false] at hc;rcases hc with rfl | rfl | rfl | rfl | rfl
   ·obtain⟨r,f,u0,e⟩:=h1;exact fK e
   ·exact fK h2
   ·exact fK h3
   ·obtain⟨o,e,u0⟩:=h4;exact fK e
   ·obtain⟨o,e,u0⟩:=h5;exact fK e
  have hfr:H s.heap.objs.size=none:=I.hok.fresh (fP _);refine zP5 (zQt X.prog X.w i1 l its1.toArray) (zQu X.prog X.w i2 m its2.toArray) D h1 h2 h3 h4 h5 (show s.heap.IsTuple l its1.toArray from p1) (show s.heap.IsList m its2.toArray from p2.isList) (x:=u1) (y:=u2) (by simpa using hu1) (by simpa using hu2) fun h' a1 a2 a3 a4 a5 a6 a7=>?_;refine⟨_,rfl,(show wpAny _ _ (pure ()) _ _ _ from fF ?_)⟩;have nT:∀ c∈[z,a,b,i1,i2],c≠s.heap.objs.size:=fun c hc e=>absurd (fl c hc) (by rw[e];exact gn _);have I1:zT X pins σ (yx H s.heap.objs.size (.tup [x,y])) { s with heap:=s.heap.push { cls:=.type "tuple",data:=.seq #[u1,u2] },toks:=s.toks } :=
   I.laid (t':=s.toks) (fun b u e=>fC _ e) (fP _) ⟨by show 2<=sizeLine;decide,[u1,u2],.cons ru1 (.cons ru2 .nil),zEx.new _ _⟩
  have hf':∀ c∈[z,a,b,i1,i2],zCL X pins (yx H s.heap.objs.size (.tup [x,y])) c:=fun c hc=>by
   obtain⟨f0,f1⟩:=hf c hc;exact⟨by rw[zr (nT c hc)];exact f0,f1⟩
  have I2:zT X pins σ (yx H s.heap.objs.size (.tup [x,y])) { s with heap:=h' }:=by
   refine I1.turnedL (t':=s.toks) (h':=h') (fun c o hc e=>?_) hf';have cz:c≠z:=fun q=>hc (by simp[q]);by_cases hT:c=s.heap.objs.size
   ·subst hT
    have e':(s.heap.push { cls:=.type "tuple",data:=.seq #[u1,u2] }).get? s.heap.objs.size=some o:=e;rw[fM _ rfl] at e';cases e';exact a5
   ·have e':(s.heap.push { cls:=.type "tuple",data:=.seq #[u1,u2] }).get? c=some o:=e
    have:s.heap.get? c=some o:=by rw[Heap.get?_push_ne _ _ _ hT] at e';exact e'
    exact a7 c o cz (fun q=>hc (by simp[q])) (fun q=>hc (by simp[q])) (fun q=>hc (by simp[q])) this
  refine⟨.ref s.heap.objs.size,_,I2,rfl,⟨s.heap.objs.size,rfl,hfr,x,y,fun zs hzs=>by rw[I.tuple_inj hzs q1];exact hx,fun zs hzs=>by rw[I.list_inj hzs q2];exact hy,rfl⟩,?_,fun c hc=>(hf' c hc).1⟩;exact⟨a1,a7 _ _ D.az D.ab D.ai D.aj h2,a2,a3,a4⟩
 done:=by
  sleep 2;obtain⟨xs,ys,q1,q2,hx⟩:=hg;obtain⟨its1,rv1,p1,hz1⟩:=I.tuple q1;obtain⟨its2,rv2,p2,hz2⟩:=I.list q2;obtain⟨h1,h2,⟨u,v,h3⟩,h4,h5⟩:=st;have l1:=rv1.length;have l2:=rv2.length;refine zSa (zQt X.prog X.w i1 l its1.toArray) (zQu X.prog X.w i2 m its2.toArray) (I.ok.hd hc) D h1 h2 h3 h4 h5 (show s.heap.IsTuple l its1.toArray from p1) (show s.heap.IsList m its2.toArray from p2.isList) (by simp;omega) fun h' hk=>⟨rfl,I.turnedL (t':=s.toks) (fun c o hc e=>hk c o (fun q=>hc (by simp[q])) (fun q=>hc (by simp[q])) (fun q=>hc (by simp[q])) (fun q=>hc (by simp[q])) e) hf⟩
 self:=fun u0 u0 u0 u0 u0 st h=>by obtain⟨r,f,u0,e⟩:=st.1;exact zIt e h
def zUw(K:14#0)(ta:TA):TI:=fun σ H R=>ta σ H fun vs H1=>∃ a b xs ys,vs=[.ref a,.ref b]/\SqT K H1 a xs/\SqL K H1 b ys/\(xs.length<=sizeLine->R (Itm K a b) H1)
theorem zP6{X:Cx}{a b:Expr}{ta:TA}{p pos pt:Pos}{x0:Str}(hg:Gl X "zip")(hm:X.mg "zip"=none)(ha:PA X [a,b] ta)(hs:autoParam (starEach [a,b] X.env=[(false,eval a X.env),(false,eval b X.env)]) Zq5._auto_1)(hs2:autoParam (starEach [b] X.env=[(false,eval b X.env)]) Zq5._auto_1) :
  PI X (.Name x0 pt) (.Call (.Name "zip" p) [a,b] [] pos) (zUw X.K ta):=by
 intro pins s σ H R I h;refine Call_ (zCJ I hg hm boot_zip (PyProof.Rows.callWith_type1 (yV (ha pos pins s σ H _ I h) fun us s1 ⟨vs,H1,I1,r1,q1⟩=>?_) (by rw[hs,hs2]) (by rw[hs2];rfl)));obtain⟨a1,b1,xs,ys,e,q1,q2,q⟩:=q1;subst e;cases r1 with
 | cons r rr =>
  cases rr with
  | cons r' rr =>
   cases rr;cases r;cases r';obtain⟨its1,rv1,p1,hz1⟩:=I1.tuple q1;obtain⟨its2,rv2,p2,hz2⟩:=I1.list q2;have lt1:=p1.lt;have lt2:b1<s1.heap.objs.size:=by obtain⟨o,e,u0⟩:=p2.isList;exact fK e
   refine zMD (show s1.heap.IsTuple a1 its1.toArray from p1) (show s1.heap.IsList b1 its2.toArray from p2.isList) fun h' z1 z2 z3 z4 z5 z6 z7=>?_;refine wpAny_pyIter_zip z1 ⟨_,[s1.heap.objs.size+4,s1.heap.objs.size+2,s1.heap.objs.size+3,s1.heap.objs.size,s1.heap.objs.size+1],_,_,H1,rfl,I1.kept (t':=s1.toks) z7,zME (z:=s1.heap.objs.size+4) (a:=s1.heap.objs.size+2) (b:=s1.heap.objs.size+3) (i1:=s1.heap.objs.size) (i2:=s1.heap.objs.size+1) (l:=a1) (m:=b1) ?_,⟨⟨.none,false,.inl rfl,z1⟩,z2,⟨_,_,z3⟩,z4,z5⟩,fun c hc=>?_,q hz1⟩
   ·exact zR6 lt1 lt2
   ·have:s1.heap.objs.size<=c:=by
     simp only[fS,gw,or_false] at hc;rcases hc with e | e | e | e | e<;>(rw[e];first | exact Nat.le_add_right _ _ | exact fP _)
    exact I1.fpOk this (I1.hok.fresh this)
end L2
namespace L3
open L2
theorem zMF{K:14#0}{H0:Hp}{a b:Addr}{xs:List V}{ds es:List D}(h:SqT K H0 a xs)(hd:Dens K H0 ds xs)(hle:ds.length<=es.length) :
  Walk K H0 ((ds.zip es).map fun p=>D.tup [p.1,p.2]) (fun G=>Ls G b es) (Itm K a b) where
 go:=fun i G H q r g hi=>by
  obtain⟨ys,h3,h4⟩:=r.sq q;have hl:i<xs.length/\i<ys.length:=by rw[fE,iB] at hi;rw[<-hd.length,<-h4.length];omega
  exact⟨xs,ys,xs[i]'hl.1,ys[i]'hl.2,g.sqT h,h3,by simp,by simp⟩
 stop:=fun G H q r g=>by
  obtain⟨ys,h3,h4⟩:=r.sq q;exact⟨xs,ys,g.sqT h,h3,by rw[<-hd.length,fE,iB];omega⟩
 yld:=fun i G H x H' q r g hi y=>by
  obtain⟨ys,h3,h4⟩:=r.sq q;obtain⟨t,rfl,hn,u,v,y1,y2,rfl⟩:=y;obtain⟨d1,e1,e2⟩:=(hd.grow g).got (y1 xs (g.sqT h));obtain⟨d2,e3,e4⟩:=h4.got (y2 ys h3);have gr:zo H (yx H t (.tup [u,v])):=.fresh hn;refine⟨gr,r.fresh hn,D.tup [d1,d2],by simp[List.getElem?_zip_eq_some,e1,e3],?_⟩;unfold zQ;exact⟨t,[u,v],rfl,.inl (.of yC),.cons (e2.grow gr) (.cons (e4.grow gr) .nil)⟩
def iZM(t:TA2):TI2:=fun σ G R=>t σ G fun ds G1=>match ds with | [.tup xs,.adr l]=>∃ ys,Ls G1 l ys/\xs.length<=ys.length/\R ((xs.zip ys).map fun p=>D.tup [p.1,p.2]) (fun G=>Ls G l ys) G1 | _=>False
theorem zEW{X:Cx}{a b:Expr}{t:TA2}{p pos pt:Pos}{x0:Str}(hg:Gl X "zip")(hm:X.mg "zip"=none)(ha:A2 X [a,b] t)(hs:autoParam (starEach [a,b] X.env=[(false,eval a X.env),(false,eval b X.env)]) Zq5._auto_1)(hs2:autoParam (starEach [b] X.env=[(false,eval b X.env)]) Zq5._auto_1) :
  I2 X (.Name x0 pt) (.Call (.Name "zip" p) [a,b] [] pos) (iZM t):=by
 refine PI.mono (zP6 hg hm ha hs hs2) ?_;rintro σ1 H R ⟨σ,G,R2,r,q,k⟩;refine⟨σ,G,_,r,q,fun ds G1 q1 vs H1 g1 r1 d1=>?_⟩;split at q1
 ·rename_i xs l
  obtain⟨ys,ls,hle,q1⟩:=q1;unfold Dens at d1;obtain⟨x,r',rfl,d1,d2⟩:=d1;unfold Dens at d2;obtain⟨y,r',rfl,d2,d3⟩:=d2;unfold zQ at d1 d2;unfold Dens at d3;subst d3 d2;obtain⟨a1,us,rfl,h1,h2⟩:=d1;obtain⟨vs,h3,h4⟩:=r1.sq ls;refine⟨a1,l,us,vs,rfl,h1,h3,fun hz=>k _ _ G1 q1 _ H1 g1 r1 (zMF h1 h2 hle) ?_⟩;rw[fE,iB,h2.length];omega
 ·exact q1.elim
theorem u1{k:Nat}{A:Around}(r:yS k A):A.units+1<cLine:=by have:=r.units;omega
section
variable {X:Cx} {elt iter e:Expr} {ifs:List Expr} {sc:Scope} {pos:Pos} {N0:List Str} {wi:TI2} {tc:TT2} {te:zm} {tx t:TX2} {C:Addr}
theorem zHf:E2 X e 26#0:=by
 rintro pins s σ1 H Q I ⟨σ,G,R,r,q,k⟩;exact q.elim
theorem zTw{a b:Expr}{ta tb:zm}(ha:E2 X a ta)(hb:E2 X b tb)(hm:autoParam (behindInMarks .In b=false) Zq5._auto_1):E2 X (.Compare a [.In] [b] pos) (zO zHT ta tb):=zKj zGd zKs ha hb hm
theorem zTx(x:Str){px:Pos}(O:Own X)(T:zIU X sc N0 [x])(hi:I2 X (.Name x px) iter wi)
  (ht:∀ C s H fp pins,Ts2 34#0 ifs tc) (he:∀ C s H fp pins,E2 34#0 elt te) (hxe:∀ C' s H fp pins,Xc (X.comp (N0++[x]) sc C' s H fp pins) C elt tx)
  (hs:15#0):Xe X C 30#0 (zB1 wi bd1 tc te tx):=zNl x O T.ok hi T.nd (T.loc x 27#0) ht he hxe hs
theorem zTy(x:Str){y:Str}{px py spos:Pos}{rest:List Stmt}(O:Own X)(T:zIU X sc N0 [x])(hi:I2 X (.Name x px) iter wi)
  (ht:∀ C s H fp pins,Ts2 34#0 ifs tc) (he:∀ C s H fp pins,E2 34#0 elt te) (hxe:∀ C' s H fp pins,Xc (X.comp (N0++[x]) sc C' s H fp pins) C elt tx)
  (hsw:autoParam (swapsWith 30#0 (some (.Name y py)) spos.line X.env=pure true) Zq5._auto_1)
  (hs:15#0):Xs X C (.Assign [.Name y py] 30#0 spos::rest) (zB1 wi bd1 tc te tx):=zNn x O T.ok hi T.nd (T.loc x 27#0) ht he hxe hsw hs
end
noncomputable def c0:Expr->Option D
 | .Constant (.str x) _ _=>some (.str x)
 | .Constant (.int i) _ _=>some (.int i)
 | .Constant (.bool b) _ _=>some (.bl b)
 | .Constant .none _ _=>some .non
 | _=>none
noncomputable def c0s:List Expr->Option (List D)
 | []=>some []
 | e::es=>match c0 e,c0s es with
  | some d,some ds=>some (d::ds)
  | _,_=>none
noncomputable def c1:Expr->Option D
 | .Tuple es _ _=>match c0s es with
  | some ds=>if ds.length<=1000 then some (.tup ds) else none
  | none=>none
 | e=>c0 e
noncomputable def c1s:List Expr->Option (List D)
 | []=>some []
 | e::es=>match c1 e,c1s es with
  | some d,some ds=>some (d::ds)
  | _,_=>none
def xCs(ds:List D):TA2:=fun u0 G R=>R ds G
section
variable {X:Cx} {e:Expr} {es:List Expr} {d:D} {ds:List D}
theorem zTz(h:c0 e=some d):E2 X e (xC d):=by
 unfold c0 at h;split at h<;>first | (cases h;exact zX) | (cases h;exact zP) | (cases h;exact zGT) | (cases h;exact zDV) | cases h
theorem zK9(h:c0 e=some d){env:Env}:starEach (e::es) env=(false,eval e env)::starEach es env:=by
 unfold c0 at h;split at h<;>first | rfl | cases h
theorem zQ0:∀ {es:List Expr} {ds:List D},c0s es=some ds->A2 X es (xCs ds)
 | [],ds,h=>by cases h;exact zH
 | e::es,ds,h=>by
  unfold c0s at h;split at h
  ·rename_i d ds' h1 h2
   cases h;exact zE (zTz h1) (zQ0 h2) (zK9 h1)
  ·cases h
theorem zP7(h:c1 e=some d):E2 X e (xC d)/\∀(es:List Expr) (env:Env),starEach (e::es) env=(false,eval e env)::starEach es env:=by
 unfold c1 at h;split at h
 ·rename_i es x p
  split at h
  ·rename_i ds h1
   by_cases hl:ds.length<=1000
   ·rw[if_pos hl] at h
    cases h;refine⟨?_,fun u0 u0=>rfl⟩;rintro pins s σ1 H Q I ⟨σ,G,R,r,q,k⟩;exact zCn (zQ0 h1) pins s σ1 H Q I ⟨σ,G,R,r,⟨by rw[sizeLine_eq];omega,q⟩,k⟩
   ·rw[if_neg hl] at h;cases h
  ·cases h
 ·exact⟨zTz h,fun es env=>zK9 h⟩
theorem zMG:∀ {es:List Expr} {ds:List D},c1s es=some ds->A2 X es (xCs ds)
 | [],ds,h=>by cases h;exact zH
 | e::es,ds,h=>by
  unfold c1s at h;split at h
  ·rename_i d ds' h1 h2
   cases h;exact zE (zP7 h1).1 (zMG h2) ((zP7 (X:=X) h1).2 _ _)
  ·cases h
end
noncomputable def zT0(x:Str):Stmt->Option (List D)
 | .Assign [.Name y _] (.List es _) _=>if y=x then c1s es else none
 | _=>none
noncomputable def zT1(x:Str):Stmt->Option (List D)
 | .Assign [.Name y _] (.BinOp (.Name z _) .Add (.List es _) _) _=>if y=x/\z=x then c1s es else none
 | _=>none
section
variable {X:Cx} {st:Stmt} {ds:List D} {x:Str}
theorem zN6(i:Nat)(hN:X.N.Nodup)(hi:X.N[i]?=some x)(hx:Loc X.env.scope x)(hf:X.fn x=true\/X.env.scope.names.lookup x=some .local)(h:zT0 x st=some ds):P2 X st (zp (zi (yl (xCs ds))) (gN i)):=by
 unfold zT0 at h;split at h
 ·rename_i y p es p1 p2
  split at h
  ·rename_i e
   subst e;exact yI i hN (yo (zB7 (zMG h))) hi hx rfl hf
  ·cases h
 ·cases h
theorem zBg(i:Nat)(hN:X.N.Nodup)(hi:X.N[i]?=some x)(hx:Loc X.env.scope x)(hf:X.fn x=true\/X.env.scope.names.lookup x=some .local)(hv:Vis X.env.scope x)(hd:(x==("__debug__":Str))=false)(hcd:(x==("__classdict__":Str))=false)(h:zT1 x st=some ds):P2 X st (zp (zi (wR (zA i) (zi (yl (xCs ds))))) (gN i)):=by
 unfold zT1 at h;split at h
 ·rename_i y p z p0 es p1 p2 p3
  split at h
  ·rename_i e
   obtain⟨rfl,rfl⟩:=e;exact yI i hN (yo (zGs (zC i hi hv hd hcd) (yo (zB7 (zMG h))))) hi hx rfl hf
  ·cases h
 ·cases h
end
def zSb(ds:List D)(te:zm)(ds':List D):TA2:=fun σ G R=>te σ G fun d G1=>R (ds++d::ds') G1
noncomputable def inC:Expr->Option (List D)
 | .List es _=>c1s es
 | _=>none
noncomputable def zT2(x:Str)(n:Nat):Stmt->Option (List D×List D×List D)
 | .Assign [.Name y _] (.BinOp (.Name z _) .Add (.List es _) _) _=>if y=x/\z=x then (match c1s (es.take n),es.drop n with | some ds,e::r=>(match inC e,c1s r with | some ms,some ds'=>some (ds,ms,ds') | _,_=>none) | _,_=>none) else none
 | _=>none
section
variable {X:Cx} {st:Stmt} {x:Str}
theorem zQ1{e:Expr}{te:zm}{post:List Expr}{ds':List D}(he:E2 X e te)(hs:∀ es env,starEach (e::es) env=(false,eval e env)::starEach es env)(hp:c1s post=some ds'):∀ {pre:List Expr} {ds:List D},c1s pre=some ds->A2 X (pre++e::post) (zSb ds te ds')
 | [],ds,h=>by cases h;exact zE he (zMG hp) (hs _ _)
 | e0::pre,ds,h=>by
  unfold c1s at h;split at h
  ·rename_i d ds0 h1 h2
   cases h;exact zE (zP7 h1).1 (zQ1 he hs hp h2) ((zP7 (X:=X) h1).2 _ _)
  ·cases h
theorem zQ2{e:Expr}{ms:List D}(h:inC e=some ms):E2 X e (zi (yl (xCs ms)))/\∀(es:List Expr) (env:Env),starEach (e::es) env=(false,eval e env)::starEach es env:=by
 unfold inC at h;split at h
 ·exact⟨yo (zB7 (zMG h)),fun u0 u0=>rfl⟩
 ·cases h
theorem zSc(i n:Nat){ds ms ds':List D}(hN:X.N.Nodup)(hi:X.N[i]?=some x)(hx:Loc X.env.scope x)(hf:X.fn x=true\/X.env.scope.names.lookup x=some .local)(hv:Vis X.env.scope x)(hd:(x==("__debug__":Str))=false)(hcd:(x==("__classdict__":Str))=false)(h:zT2 x n st=some (ds,ms,ds')):P2 X st (zp (zi (wR (zA i) (zi (yl (zSb ds (zi (yl (xCs ms))) ds'))))) (gN i)):=by
 unfold zT2 at h;split at h
 ·rename_i y p z p0 es p1 p2 p3
  split at h
  ·rename_i e
   obtain⟨rfl,rfl⟩:=e;split at h
   ·rename_i d1 e1 r h1 h2
    split at h
    ·rename_i m1 d2 h3 h4
     cases h;have hes:es=es.take n++e1::r:=by rw[<-h2,List.take_append_drop]
     refine yI i hN (yo (zGs (zC i hi hv hd hcd) (yo (zB7 ?_)))) hi hx rfl hf;rw[hes];exact zQ1 (zQ2 h3).1 (zQ2 (X:=X) h3).2 h4 h1
    ·cases h
   ·cases h
  ·cases h
 ·cases h
end
end L3
namespace K
open L2 L3
noncomputable def yv:D->Bool
 | .int _=>true
 | _=>false
def zw:wq:=fun ds G R=>∃ d,ds=[d]/\(((∀ l,d≠.adr l)/\R (.bl (yv d)) G)\/∃ l es,d=.adr l/\Ls G l es/\R (.bl false) G)
def zBo:wC:=(zk (zE0 (zCQ "int" (zA 0)) (zRn (zCQ "bool" (zA 0)))))
theorem zIu(ds:List D)(G:Gp)(R:Q2)(h:zw ds G R):ds.length=1/\zBo (zj R) (zK ["thing"] ds) G:=by
 obtain⟨d,rfl,h⟩:=h;refine⟨rfl,?_⟩;unfold zBo zk zE0 zRn zCQ zA;rcases h with ⟨hd,h⟩ | ⟨l,es,rfl,hl,h⟩
 ·cases d with
  | adr l=>exact absurd rfl (hd l)
  | _=>exact .of h
 ·refine⟨⟨es,hl⟩,?_⟩
  exact .of h
theorem zEX{σ:S2}{G:Gp}{f g:Int->Int->Bool}{ta tb tc:zm}{i j k:Int}(ha:zn ta σ G (.int i))(hb:zn tb σ G (.int j))(hc:zn tc σ G (.int k)):zn (zBL (fII fun i j=>.bl (f i j)) (fII fun i j=>.bl (g i j)) ta tb tc) σ G (.bl (f i j&&g j k)):=fun G2 e R q=>ha G2 e _ (hb G2 e _ (by
 show if f i j=true then _ else _;cases hf:f i j with
 | true=>rw[if_pos rfl];rw[hf] at q;exact hc G2 e _ q
 | false=>rw[if_neg 27#0];rw[hf] at q;exact q))
theorem zMH{σ:S2}{G:Gp}{f g h:Int->Int->Bool}{ta tb tc td:zm}{i j k l:Int}(ha:zn ta σ G (.int i))(hb:zn tb σ G (.int j))(hc:zn tc σ G (.int k))(hd:zn td σ G (.int l)):zn (zDq (fII fun i j=>.bl (f i j)) (fII fun i j=>.bl (g i j)) (fII fun i j=>.bl (h i j)) ta tb tc td) σ G (.bl (f i j&&(g j k&&h k l))):=fun G2 e R q=>ha G2 e _ (hb G2 e _ (by
 show if f i j=true then _ else _;cases hf:f i j with
 | true =>
  rw[if_pos rfl];rw[hf] at q;refine hc G2 e _ ?_;show if g j k=true then _ else _;cases hg:g j k with
  | true=>rw[if_pos rfl];rw[hg] at q;exact hd G2 e _ q
  | false=>rw[if_neg 27#0];rw[hg] at q;exact q
 | false=>rw[if_neg 27#0];rw[hf] at q;exact q))
theorem zT3{σ:S2}{G:Gp}{ta tb:zm}{i j:Int}(ha:zn ta σ G (.int i))(hb:zn tb σ G (.int j)):zn (zO (yY true) ta tb) σ G (.bl (decide (i≠j))):=zCe ha hb rfl rfl (by rw[if_pos rfl,zHa,gK];simp)
theorem zFz{σ:S2}{G:Gp}{tl:TL2}{bs:List Bool}(h:PuL tl σ G (bs.map D.bl)):zn (yZ zHR tl) σ G (.bl (bs.all id)):=fun G2 e R q=>h G2 e _ ⟨bs,rfl,q⟩
theorem zSd{σ:S2}{G:Gp}{t u:zm}{l:List (Nat×Nat)}{i:Int}{k:Nat}(h:zn t σ G (.tup (l.map prD)))(h':zn u σ G (.int i))(hi:i=(k:Int))(hk:k<l.length):zn (zO zz t u) σ G (prD l[k]):=yu h h' fun u0 u0 u0 q=>by
 have e:atI (l.map prD) i=some (prD l[k]):=by rw[hi];exact ya (by simp[hk])
 simp only[zz,e];exact q
theorem zJ7{σ:S2}{G:Gp}{ta tb:zm}{b:Bool}(ha:zn ta σ G (.bl true))(hb:zn tb σ G (.bl b)):zn (zE0 ta tb) σ G (.bl b):=fun G2 e R q=>ha G2 e _ (by
 show if true=true then _ else _;rw[if_pos rfl];exact hb G2 e _ q)
theorem zAl{σ:S2}{G:Gp}{t u:zm}{l:Addr}{ds:List D}{k:Int}{d:D}(h:zn t σ G (.adr l))(h':zn u σ G (.int k))(hl:Ls G l ds)(e:atI ds k=some d):zn (zO zz t u) σ G d:=yu h h' fun G2 e2 R q=>⟨ds,d,e2.ls hl,e,q⟩
theorem zP8{σ:S2}{G:Gp}{ta tb:zm}{a b:Bool}(ha:zn ta σ G (.bl a))(hb:a=true->zn tb σ G (.bl b)):zn (zE0 ta tb) σ G (.bl (a&&b)):=by
 cases a with
 | true=>exact zJ7 ha (hb rfl)
 | false=>exact fun G2 e R q=>ha G2 e _ (by show if false=true then _ else _;rw[if_neg 27#0];exact q)
theorem zD0{σ:S2}{G:Gp}{tc:TT2}{u:wC}{E:yO}{b:Bool}{te:zm}(h:PuT tc σ G b)(hy:b=true->zk te E σ G)(hn:b=false->u E σ G):zW (wM tc (zk te) zZ) u E σ G:=by
 cases b with
 | false=>exact yA h (hn rfl)
 | true=>exact h G (.refl G) _ (by rw[if_pos rfl];exact hy rfl)
theorem zSe{σ:S2}{G:Gp}{f:D->D->Gp->Q2->Prop}{ta tb:zm}{R:Q2}(h:ta σ G fun x G1=>tb σ G1 fun y G2=>f x y G2 R):zO f ta tb σ G R:=h
theorem zP9{σ:S2}{G:Gp}{t:zm}{l:Addr}{es:List D}(h:zn t σ G (.adr l))(hl:Ls G l es):zn (zCQ "tuple" t) σ G (.bl false):=fun G2 e R q=>h G2 e _ ⟨⟨es,e.ls hl⟩,q⟩
theorem zQA{α:Type}{xs:List α}(f:α->Bool):(xs.map fun d=>D.bl (f d))=(xs.map f).map D.bl:=by rw[gk];rfl
def Lk(G:Gp)(d:D):Prop:=∀ a,d=.adr a->∃ es,Ls G a es
def Wg(G:Gp):Nat->D->Prop
 | 0,d=>Lk G d
 | n+1,d=>Lk G d/\∀ xs,d=.tup xs->∀ x∈xs,Wg G n x
theorem Wg.lk{G:Gp}{n:Nat}{d:D}(h:Wg G n d):Lk G d:=by
 cases n with
 | zero=>exact h
 | succ n=>exact h.1
theorem Wg.at{G:Gp}{n:Nat}{xs:List D}(h:Wg G (n+1) (.tup xs)){x:D}(hx:x∈xs):Wg G n x:=h.2 xs rfl x hx
theorem Lk.ext{G G':Gp}{d:D}(h:Lk G d)(e:Ext G G'):Lk G' d:=fun a ha=>by
 obtain⟨es,q⟩:=h a ha;exact⟨es,e.ls q⟩
theorem Wg.ext{G G':Gp}:∀ {n:Nat} {d:D},Wg G n d->Ext G G'->Wg G' n d
 | 0,d,h,e=>Lk.ext h e
 | n+1,d,h,e=>⟨h.1.ext e,fun xs hx x hm=>(h.2 xs hx x hm).ext e⟩
theorem Lk.not{G:Gp}{d:D}(h:∀ a,d≠.adr a):Lk G d:=fun a ha=>absurd ha (h a)
theorem Wg.of{G:Gp}{n:Nat}{d:D}(h:∀ a,d≠.adr a)(h':∀ xs,d≠.tup xs):Wg G n d:=by
 cases n with
 | zero=>exact .not h
 | succ n=>exact⟨.not h,fun xs hx=>absurd hx (h' xs)⟩
theorem Wg.tup{G:Gp}{n:Nat}{xs:List D}(h:∀ x∈xs,Wg G n x):Wg G (n+1) (.tup xs):=⟨.not fun a z=>(by cases z),fun ys e x hx=>by cases e;exact h x hx⟩
noncomputable def zQB:D->Bool
 | .tup _=>true
 | _=>false
theorem zHg{σ:S2}{G:Gp}{t:zm}{d:D}(h:zn t σ G d)(hl:Lk G d):zn (zCQ "tuple" t) σ G (.bl (zQB d)):=by
 cases d with
 | adr a =>
  obtain⟨es,q⟩:=hl a rfl;exact zP9 h q
 | tup xs=>exact zNr h rfl
 | _=>exact zFt h (fun l z=>by cases z) rfl
theorem zHh{σ:S2}{G:Gp}{t:zm}{d:D}(h:zn t σ G d)(hl:Lk G d):zn (zJ zw (zB t zG)) σ G (.bl (yv d)):=by
 cases d with
 | adr a =>
  obtain⟨es,q⟩:=hl a rfl;exact yK (zI h zS) fun u0 e u0 q'=>⟨_,rfl,.inr ⟨a,es,rfl,e.ls q,q'⟩⟩
 | _=>exact yK (zI h zS) fun u0 e u0 q'=>⟨_,rfl,.inl ⟨fun l z=>(by cases z),q'⟩⟩
noncomputable def chB(n:Nat):D->D->Bool
 | .int a,.int b=>decide (0<=a)&&(decide (a<b)&&decide (b<(n:Int)))
 | _,_=>false
noncomputable def zF0(n:Nat):D->Bool
 | .tup [x,y]=>chB n x y
 | _=>false
theorem zQC{n:Nat}{x y:D}(h:chB n x y=true):∃ p:Nat×Nat,D.tup [x,y]=prD p/\p∈prs n:=by
 cases x with
 | int a =>
  cases y with
  | int b =>
   simp only[chB,fW,decide_eq_true_eq] at h;refine⟨(a.toNat,b.toNat),?_,zDD.mpr ⟨by dsimp only;omega,by dsimp only;omega⟩⟩;unfold prD nD;rw[gY 17#0,gY 17#0]
  | _=>cases h
 | _=>cases h
theorem zQD{n:Nat}{d:D}(h:zF0 n d=true):∃ p:Nat×Nat,d=prD p/\p∈prs n:=by
 unfold zF0 at h;split at h
 ·exact zQC h
 ·cases h
theorem zQE{n:Nat}{p:Nat×Nat}(h:p∈prs n):zF0 n (prD p)=true:=by
 obtain⟨h1,h2⟩:=zDD.mp h;show(decide ((0:Int)<=(p.1:Int))&&(decide ((p.1:Int)<(p.2:Int))&&decide ((p.2:Int)<(n:Int))))=true;rw[decide_eq_true 17#0,decide_eq_true 17#0,decide_eq_true 17#0];rfl
theorem zJ8{σ:S2}{G:Gp}{t:zm}{x:D}{r:List D}(h:zn t σ G (.tup (x::r))):zn (zO zz t (xC (.int 0))) σ G x:=yu h zv fun u0 u0 u0 q=>by simp only[zz,zQo];exact q
theorem zJ9{σ:S2}{G:Gp}{t:zm}{x y:D}{r:List D}(h:zn t σ G (.tup (x::y::r))):zn (zO zz t 21#0) σ G y:=yu h zv fun u0 u0 u0 q=>by simp only[zz,zQp];exact q
theorem zT4{σ:S2}{G:Gp}{ta tb tc:zm}{x y:D}{n:Nat}(ha:zn ta σ G x)(hb:zn tb σ G y)(hc:zn tc σ G (nD n))(hx:yv x=true)(hy:yv y=true):zn (zDq (fII fun i j=>.bl (decide (i<=j))) (fII fun i j=>.bl (decide (i<j))) (fII fun i j=>.bl (decide (i<j))) (xC (.int 0)) ta tb tc) σ G (.bl (chB n x y)):=by
 cases x with
 | int a =>
  cases y with
  | int b=>exact zMH (f:=fun i j=>decide (i<=j)) (g:=fun i j=>decide (i<j)) (h:=fun i j=>decide (i<j)) (zv (d:=.int 0)) ha hb hc
  | _=>cases hy
 | _=>cases hx
noncomputable def zEs:D->Bool
 | .tup [_,_]=>true
 | _=>false
theorem zIv{σ:S2}{G:Gp}{t:zm}{d:D}(h:zn t σ G d)(hl:Lk G d):PuT (zAh (yg (xB (zCQ "tuple" t))) (xB (zO (yY true) (zJ yF (zB t zG)) (xC (.int 2))))) σ G (!zEs d):=by
 cases d with
 | tup xs =>
  have:=zAv (yW (yr (zHg h hl))) fun u0=>yr (zCe (ng:=true) (x:=nD xs.length) (y:=.int 2) (b:=!decide (xs.length=2)) (zFv h) zv rfl rfl (by rw[if_pos rfl];congr 1;exact zBf _ 2));have e:(!zQB (.tup xs)||!decide (xs.length=2))=!zEs (.tup xs):=by
   match xs with
   | []=>rfl
   | [_]=>rfl
   | [_,_]=>rfl
   | _::_::_::r=>simp[zQB,zEs]
  rw[<-e];exact this
 | _=>exact zAv (c:=true) (yW (yr (zHg h hl))) fun z=>by cases z
theorem zLA{d:D}(h:zEs d=true):∃ x y,d=.tup [x,y]:=by
 unfold zEs at h;split at h
 ·exact⟨_,_,rfl⟩
 ·cases h
theorem zSf{n:Nat}{d:D}(h:zEs d=false):zF0 n d=false:=by
 unfold zF0;split
 ·cases h
 ·rfl
theorem zT5{n:Nat}{x y:D}(h:(yv x&&yv y)=false):chB n x y=false:=by
 unfold chB;split
 ·cases h
 ·rfl
def wv:wq:=fun ds G R=>∃(n:Nat) (d:D),ds=[nD n,d]/\Wg G 1 d/\R (.bl (zF0 n d)) G
def zDG:wC:=(zW (wM (zAh (yg (xB (zCQ "tuple" (zA 1)))) (xB (zO (yY true) (zJ yF (zB (zA 1) zG)) (xC (.int 2))))) (zk (xC (.bl false))) zZ) (zW (wM (zAh (yg (xB (zJ zw (zB (zO zz (zA 1) (xC (.int 0))) zG)))) (yg (xB (zJ zw (zB (zO zz (zA 1) 21#0) zG))))) (zk (xC (.bl false))) zZ) (zk (zDq (fII fun i j=>.bl (decide (i<=j))) (fII fun i j=>.bl (decide (i<j))) (fII fun i j=>.bl (decide (i<j))) (xC (.int 0)) (zO zz (zA 1) (xC (.int 0))) (zO zz (zA 1) 21#0) (zA 0)))))
theorem zMI(ds:List D)(G:Gp)(R:Q2)(h:wv ds G R):ds.length=2/\zDG (zj R) (zK ["many","thing"] ds) G:=by
 obtain⟨n,d,rfl,hw,h⟩:=h;refine⟨rfl,?_⟩;unfold zDG;rw[show zK ["many","thing"] [nD n,d]=[some (nD n),some d] from rfl];refine zD0 (zIv (d:=d) (zF rfl) hw.lk) (fun hb=>?_) fun hb=>?_
 ·rw[zSf (by simpa using hb)] at h
  exact wT zv (.of h)
 obtain⟨x,y,rfl⟩:=zLA (show zEs d=true by simpa using hb);have v:zn (zA 1) [some (nD n),some (.tup [x,y])] G (.tup [x,y]):=zF rfl;have wx:Lk G x:=(hw.at (x:=x) 27#0).lk;have wy:Lk G y:=(hw.at (x:=y) 27#0).lk;have t:PuT (zAh (yg (xB (zJ zw (zB (zO zz (zA 1) (xC (.int 0))) zG)))) (yg (xB (zJ zw (zB (zO zz (zA 1) 21#0) zG))))) [some (nD n),some (.tup [x,y])] G (!yv x||!yv y):=zAv (yW (yr (zHh (zJ8 v) wx))) fun u0=>yW (yr (zHh (zJ9 v) wy));refine zD0 t (fun hb=>?_) fun hb=>?_
 ·have:zF0 n (.tup [x,y])=false:=zT5 (by cases hx:yv x<;>cases hy:yv y<;>simp_all)
  rw[this] at h;exact wT zv (.of h)
 ·have hxy:yv x=true/\yv y=true:=by cases hx:yv x<;>cases hy:yv y<;>simp_all
  exact wT (zT4 (zJ8 v) (zJ9 v) (zF rfl) hxy.1 hxy.2) (.of h)
noncomputable def prJ(p:Nat×Nat):List Int:=[(p.1:Int),(p.2:Int)]
noncomputable def zN7(l:List (Nat×Nat)):Bool:=(fQ (l.length-1)).all fun k=>HT.lexLt (prJ (l.getD k (0,0))) (prJ (l.getD (k+1) (0,0)))
theorem zQ3(p:Nat×Nat):prD p=.tup ((prJ p).map D.int):=rfl
def zAQ:wq:=fun ds G R=>∃ l:List (Nat×Nat),ds=[.tup (l.map prD)]/\l.length<=1000/\R (.bl (zN7 l)) G
def zBM:wC:=(zk (yZ zHR (yk (iR1 (zB (zO (fII fun i j=>.int (i-j)) (zJ yF (zB (zA 0) zG)) 21#0) zG)) bd1 zAJ (zO zPa (zO zz (zA 0) (zA 1)) (zO zz (zA 0) (zO zDZ (zA 1) 21#0))))))
theorem zHi(ds:List D)(G:Gp)(R:Q2)(h:zAQ ds G R):ds.length=1/\zBM (zj R) (zK ["things"] ds) G:=by
 obtain⟨l,rfl,hl,h⟩:=h;refine⟨rfl,?_⟩;unfold zBM;have rg:PuI (iR1 (zB (zO (fII fun i j=>.int (i-j)) (zJ yF (zB (zA 0) zG)) 21#0) zG)) (zK ["things"] [.tup (l.map prD)]) G ((fQ (l.length-1)).map nD):=by
  have:=zEQ (zI (zNC (g:=fun i j=>.int (i-j)) (zFv (ds:=l.map prD) (zF (σ:=zK ["things"] [.tup (l.map prD)]) (G:=G) (i:=0) rfl)) (zv (d:=.int 1))) zS) (by rw[fE];omega);rw[show(((l.map prD).length:Int)-1).toNat=((l.length-1:Nat):Int).toNat by rw[fE];omega,zFD] at this;exact this
 have gd:∀ k,k<l.length->(l.getD k (0,0))=l[k]!:=fun k hk=>by simp[iu,hk]
 have m:=zB0 (bd:=bd1) (te:=(zO zPa (zO zz (zA 0) (zA 1)) (zO zz (zA 0) (zO zDZ (zA 1) 21#0)))) (fun d=>match d with | .int v=>.bl (HT.lexLt (prJ (l.getD v.toNat (0,0))) (prJ (l.getD (v.toNat+1) (0,0)))) | _=>.non) (fun d=>[d]) rg fun x hx=>by
  obtain⟨k,hk,rfl⟩:=gf.mp hx;have hk':=gJ.mp hk;refine⟨rfl,?_⟩;have ix:∀ {t:zm} {i:Nat},zn t (zK ["things"] [.tup (l.map prD)]++[nD k].map some) G (nD i)->i<l.length->zn (zO zz (zA 0) t) (zK ["things"] [.tup (l.map prD)]++[nD k].map some) G (prD (l.getD i (0,0))):=fun {t i} ht hi=>by
   have:=zSd (l:=l) (k:=i) (zF (σ:=zK ["things"] [.tup (l.map prD)]++[nD k].map some) (G:=G) (i:=0) rfl) ht rfl hi;rw[show l.getD i (0,0)=l[i] by simp[iu,hi]];exact this
  have ad:zn (zO zDZ (zA 1) 21#0) (zK ["things"] [.tup (l.map prD)]++[nD k].map some) G (nD (k+1)):=by
   have:=zNp (σ:=zK ["things"] [.tup (l.map prD)]++[nD k].map some) (G:=G) (i:=(k:Int)) (j:=1) (zF (i:=1) rfl) zv;rwa [show(k:Int)+1=((k+1:Nat):Int) by omega] at this
  exact yu (ix (zF (i:=1) rfl) 17#0) (ix ad 17#0) fun u0 u0 u0 q=>⟨_,_,zQ3 _,zQ3 _,q⟩
 have e:iA (fun d=>match d with | .int v=>D.bl (HT.lexLt (prJ (l.getD v.toNat (0,0))) (prJ (l.getD (v.toNat+1) (0,0)))) | _=>.non) ((fQ (l.length-1)).map nD)=((fQ (l.length-1)).map fun k=>HT.lexLt (prJ (l.getD k (0,0))) (prJ (l.getD (k+1) (0,0)))).map D.bl:=by
  rw[gk,gk];rfl
 rw[e] at m;have a:=zFz m;rw[List.all_map] at a;exact wT a (.of h)
def IsW(d:D)(n:Nat)(l:List (Nat×Nat)):Prop:=d=.tup [nD n,.tup (l.map prD)]/\1<=n/\n<=9/\(∀ p∈l,p∈prs n)/\l.length<=60
def sm2(d:D):Prop:=∀ m xs,d=.tup [m,.tup xs]->xs.length<=60
theorem zLB{n:Nat}:∀ {xs:List D},xs.all (zF0 n)=true->∃ l:List (Nat×Nat),xs=l.map prD/\∀ p∈l,p∈prs n
 | [],_=>⟨[],rfl,fun p hp=>by cases hp⟩
 | d::xs,h=>by
  rw[List.all_cons,fW] at h;obtain⟨l,rfl,hl⟩:=zLB h.2;obtain⟨p,rfl,hp⟩:=zQD h.1;exact⟨p::l,rfl,fun q hq=>by rcases fS.mp hq with rfl | hq;exact hp;exact hl q hq⟩
theorem zN8{n:Nat}{l:List (Nat×Nat)}(h:∀ p∈l,p∈prs n):(l.map prD).all (zF0 n)=true:=by
 rw[List.all_map,ge];intro p hp;exact zQE (h p hp)
def ww:wq:=fun ds G R=>∃ d,ds=[d]/\Wg G 3 d/\sm2 d/\((∃ n l,IsW d n l/\R (.bl (zN7 l)) G)\/((∀ n l,¬ IsW d n l)/\R (.bl false) G))
def zDH:wC:=(zW (wM (zAh (yg (xB (zCQ "tuple" (zA 0)))) (xB (zO (yY true) (zJ yF (zB (zA 0) zG)) (xC (.int 2))))) (zk (xC (.bl false))) zZ) (zW (zp (zO zz (zA 0) (xC (.int 0))) (gN 1)) (zW (zp (zO zz (zA 0) 21#0) (gN 2)) (zW (wM (zAh (yg (xB (zJ zw (zB (zA 1) zG)))) (yg (xB (zBL (fII fun i j=>.bl (decide (i<=j))) (fII fun i j=>.bl (decide (i<=j))) 21#0 (zA 1) (xC (.int 9)))))) (zk (xC (.bl false))) zZ) (zW (wM (yg (xB (zCQ "tuple" (zA 2)))) (zk (xC (.bl false))) zZ) (zk (zE0 (yZ zHR (yk (iV (zA 2)) bd1 zAJ (zJ wv (zB (zA 1) (zB (zA 3) zG))))) (zJ zAQ (zB (zA 2) zG)))))))))
noncomputable def zN9:D->Bool
 | .int x=>decide (1<=x)&&decide (x<=9)
 | _=>false
theorem zQF{d:D}(h:zN9 d=true):∃ n:Nat,d=nD n/\1<=n/\n<=9:=by
 cases d with
 | int x =>
  simp only[zN9,fW,decide_eq_true_eq] at h;refine⟨x.toNat,?_,by omega,by omega⟩;show D.int x=D.int _;congr 1;omega
 | _=>cases h
theorem zQG{n:Nat}(h1:1<=n)(h9:n<=9):zN9 (nD n)=true:=by
 show(decide ((1:Int)<=(n:Int))&&decide ((n:Int)<=9))=true;rw[decide_eq_true 17#0,decide_eq_true 17#0];rfl
theorem zOA{m n:Nat}(h:nD m=nD n):m=n:=by
 have:(m:Int)=n:=D.int.inj h;omega
theorem zSg{σ:S2}{G:Gp}{t:zm}{m:D}{sp:wq}(hsp:sp=zw)(v1:zn t σ G m)(wm:Lk G m):PuT (zAh (yg (xB (zJ sp (zB t zG)))) (yg (xB (zBL (fII fun i j=>.bl (decide (i<=j))) (fII fun i j=>.bl (decide (i<=j))) 21#0 t (xC (.int 9)))))) σ G (!zN9 m):=by
 subst hsp;have nb:=zHh v1 wm;cases m with
 | int x =>
  have ch:=zEX (f:=fun i j=>decide (i<=j)) (g:=fun i j=>decide (i<=j)) (zv (d:=.int 1)) v1 (zv (d:=.int 9));exact zAv (b:=false) (yW (b:=true) (yr nb)) fun u0=>yW (yr ch)
 | _=>exact zAv (b:=true) (c:=true) (yW (b:=false) (yr nb)) fun z=>by cases z
theorem zMJ(ds:List D)(G:Gp)(R:Q2)(h:ww ds G R):ds.length=1/\zDH (zj R) (zK ["thing","many","ties"] ds) G:=by
 obtain⟨d,rfl,hw,hsm,h⟩:=h;refine⟨rfl,?_⟩;have no:(∀ n l,¬ IsW d n l)->R (.bl false) G:=fun hn=>by
  rcases h with ⟨n,l,hl,u0⟩ | ⟨u0,h⟩
  ·exact absurd hl (hn n l)
  ·exact h
 unfold zDH;rw[show zK ["thing","many","ties"] [d]=[some d,none,none] from rfl];refine zD0 (zIv (d:=d) (zF rfl) hw.lk) (fun hb=>?_) fun hb=>?_
 ·exact wT zv (.of (no fun n l hl=>by rw[hl.1] at hb;cases hb))
 obtain⟨m,t,rfl⟩:=zLA (show zEs d=true by simpa using hb);have wm:Lk G m:=(hw.at (x:=m) 27#0).lk;have wt:Wg G 2 t:=hw.at 27#0;refine wn (zJ8 (zF rfl)) ?_;simp only[gN,fH,fG];refine wn (zJ9 (zF rfl)) ?_;simp only[gN,fH,fG];refine zD0 (zSg rfl (zF rfl) wm) (fun hb=>?_) fun hb=>?_
 ·refine wT zv (.of (no fun n l hl=>?_))
  have e:=hl.1;simp only[D.tup.injEq,List.cons.injEq,and_true] at e;rw[e.1,zQG hl.2.1 hl.2.2.1] at hb;cases hb
 obtain⟨n,rfl,h1,h9⟩:=zQF (show zN9 m=true by simpa using hb);have tt:PuT (yg (xB (zCQ "tuple" (zA 2)))) [some (.tup [nD n,t]),some (nD n),some t] G (!zQB t):=yW (yr (zHg (zF rfl) wt.lk));refine zD0 tt (fun hb=>?_) fun hb=>?_
 ·refine wT zv (.of (no fun n l hl=>?_))
  have e:=hl.1;simp only[D.tup.injEq,List.cons.injEq,and_true] at e;rw[e.2] at hb;cases hb
 cases t with
 | tup xs =>
  have hlen:=hsm _ xs rfl;have m:=zB0 (σ:=[some (.tup [nD n,.tup xs]),some (nD n),some (.tup xs)]) (G:=G) (bd:=bd1) (te:=zJ wv (zB (zA 1) (zB (zA 3) zG))) (fun d=>.bl (zF0 n d)) (fun d=>[d]) (zC7 (zF (i:=2) (d:=.tup xs) rfl)) fun x hx=>⟨rfl,yK (zI (zF (d:=nD n) rfl) (zI (zF (d:=x) rfl) zS)) fun u0 e u0 q=>⟨n,x,rfl,(wt.at hx).ext e,q⟩⟩
  rw[zQA] at m;have a:=zFz m;rw[List.all_map] at a;cases ha:xs.all (zF0 n) with
  | true =>
   obtain⟨l,rfl,hl⟩:=zLB ha;have a':zn (yZ zHR (yk (iV (zA 2)) bd1 zAJ (zJ wv (zB (zA 1) (zB (zA 3) zG))))) [some (.tup [nD n,.tup (l.map prD)]),some (nD n),some (.tup (l.map prD))] G (.bl true):=by rw[<-ha];exact a
   rw[fE] at hlen;refine wT (zJ7 a' (yK (zI (zF rfl) zS) fun u0 u0 u0 q=>⟨l,rfl,by omega,q⟩)) (.of ?_);rcases h with ⟨n',l',hw',h⟩ | ⟨hn,u0⟩
   ·have e:=hw'.1
    simp only[D.tup.injEq,List.cons.injEq,and_true] at e;have el:l=l':=by
     have:(l.map prD).map zDy=(l'.map prD).map zDy:=by rw[e.2]
     rw[gk,gk] at this;have ei:zDy∘prD=id:=funext fun p=>by simp only[Function.comp,zEU,id]
     rw[ei,List.map_id,List.map_id] at this;exact this
    rw[el];exact h
   ·exact absurd ⟨rfl,h1,h9,hl,hlen⟩ (hn n l)
  | false =>
   have a':zn (yZ zHR (yk (iV (zA 2)) bd1 zAJ (zJ wv (zB (zA 1) (zB (zA 3) zG))))) [some (.tup [nD n,.tup xs]),some (nD n),some (.tup xs)] G (.bl false):=by rw[<-ha];exact a
   refine wT (zP8 (b:=false) a' fun z=>by cases z) (.of (no fun n' l hl=>?_));have e:=hl.1;simp only[D.tup.injEq,List.cons.injEq,and_true] at e;have:=zOA e.1;subst this;rw[e.2,zN8 hl.2.2.2.1] at ha;cases ha
 | _=>cases hb
noncomputable def inR(n:Nat)(x:Int):Bool:=decide (0<=x)&&decide (x<(n:Int))
theorem zLC(x:Int):∀ n:Nat,((fQ n).map fun(i:Nat)=>if x=(i:Int) then 1 else 0).sum=if inR n x then 1 else 0
 | 0=>by rw[if_neg (by simp only[inR,fW,decide_eq_true_eq];omega)];rfl
 | n+1=>by
  rw[List.range_succ,List.map_append,List.sum_append,zLC x n];simp only[fJ,List.map_nil,List.sum_cons,List.sum_nil,inR,fW,decide_eq_true_eq];by_cases h:x=(n:Int)
  ·subst h
   rw[if_neg 17#0,if_pos rfl,if_pos 17#0];rfl
  ·rw[if_neg h]
   by_cases h2:0<=x/\x<(n:Int)
   ·rw[if_pos h2,if_pos 17#0];rfl
   ·rw[if_neg h2,if_neg 17#0];rfl
theorem zLD(f g:Nat->Nat):∀ l:List Nat,(l.map fun i=>f i+g i).sum=(l.map f).sum+(l.map g).sum
 | []=>rfl
 | a::r=>by
  simp only[fJ,List.sum_cons];rw[zLD f g r];omega
theorem zG1(n:Nat):∀ ns:List Int,((fQ n).map fun(i:Nat)=>ns.count (i:Int)).sum=ns.countP (inR n)
 | []=>by
  simp only[List.count_nil,List.countP_nil];exact List.sum_eq_zero_iff_forall_eq_nat.mpr fun x hx=>by obtain⟨u0,u0,rfl⟩:=gf.mp hx;rfl
 | x::r=>by
  have e:((fQ n).map fun(i:Nat)=>(x::r).count (i:Int))=(fQ n).map fun(i:Nat)=>r.count (i:Int)+if x=(i:Int) then 1 else 0:=by
   refine gX fun i u0=>?_;rw[iG];by_cases h:x=(i:Int)<;>simp[h]
  rw[e,zLD,zG1 n r,zLC,List.countP_cons]
theorem zF1:∀(l:List Nat) (f:Nat->Nat),(∀ i∈l,f i<=2)->(l.map f).sum=2*l.length->∀ i∈l,f i=2
 | [],_,_,_,i,h=>by cases h
 | a::r,f,h,hs,i,hi=>by
  simp only[fJ,List.sum_cons,gi] at hs;have ha:=h a 27#0;have hr:(r.map f).sum<=2*r.length:=by
   clear hs hi;have:∀ l:List Nat,(∀ i∈l,f i<=2)->(l.map f).sum<=2*l.length:=fun l=>by
    induction l with
    | nil=>intro u0;simp
    | cons b t ih =>
     intro h;have h1:=h b 27#0;have h2:=ih fun i hi=>h i (by simp[hi]);simp only[fJ,List.sum_cons,gi];omega
   exact this r fun i hi=>h i (by simp[hi])
  rcases fS.mp hi with rfl | hi
  ·omega
  ·exact zF1 r f (fun i hi=>h i (by simp[hi])) 17#0 i hi
theorem zMK{n:Nat}{ns:List Int}(hl:ns.length=2*n):(∀ i,i<n->ns.count (i:Int)=2)↔(∀ x∈ns,inR n x=true)/\∀ x∈ns,ns.count x=2:=by
 have hs:=zG1 n ns;constructor
 ·intro h
  have e:((fQ n).map fun(i:Nat)=>ns.count (i:Int))=(fQ n).map fun u0=>2:=gX fun i hi=>h i (gJ.mp hi);rw[e] at hs;have e2:((fQ n).map fun u0=>2).sum=2*n:=by
   have:∀ m:Nat,((fQ m).map fun u0=>2).sum=2*m:=fun m=>by
    induction m with
    | zero=>rfl
    | succ m ih=>rw[List.range_succ,List.map_append,List.sum_append,ih];simp;omega
   exact this n
  rw[e2,<-hl] at hs;have all:=List.countP_eq_length.mp hs.symm;refine⟨all,fun x hx=>?_⟩;have hx2:=all x hx;simp only[inR,fW,decide_eq_true_eq] at hx2;have:=h x.toNat 17#0;rwa [gY hx2.1] at this
 ·rintro⟨h1,h2⟩ i hi
  have e:ns.countP (inR n)=ns.length:=List.countP_eq_length.mpr h1;rw[e,hl] at hs;refine zF1 (fQ n) (fun(i:Nat)=>ns.count (i:Int)) (fun i u0=>?_) (by rw[iI];exact hs) i (gJ.mpr hi);by_cases hm:(i:Int)∈ns
  ·rw[h2 _ hm];omega
  ·rw[iL hm];omega
noncomputable def cnt(xs:List D)(x:D):Nat:=xs.countP fun z=>eqD z x
noncomputable def zCg(xs:List D):Bool:=(decide (2<=xs.length)&&decide (xs.length<=18))&&(xs.all yv&&(decide (xs.length=2*(xs.length / 2))&&(fQ (xs.length / 2)).all fun i=>decide (cnt xs (nD i)=2)))
theorem zQH{xs:List D}(h:xs.all yv=true):∃ ns:List Int,xs=ns.map D.int:=by
 induction xs with
 | nil=>exact⟨[],rfl⟩
 | cons d r ih =>
  rw[List.all_cons,fW] at h;obtain⟨ns,rfl⟩:=ih h.2;cases d with
  | int i=>exact⟨i::ns,rfl⟩
  | _=>cases h.1
theorem zT6{d:D}(h:flat 8 d=true):∀ l,d≠.adr l:=fun l e=>by subst e;cases h
theorem zQI{σ:S2}{G:Gp}{ta tb:zm}{a b:Bool}(ha:zn ta σ G (.bl a))(hb:a=true->zn tb σ G (.bl b)):zn (zE0 ta tb) σ G (.bl (a&&b)):=by
 cases a with
 | true=>exact zJ7 ha (hb rfl)
 | false=>exact fun G2 e R q=>ha G2 e _ (by show if false=true then _ else _;rw[if_neg 27#0];exact q)
theorem zHj{σ:S2}{G:Gp}{tc:TT2}{u:wC}{E:yO}{b:Bool}{d:D}(h:PuT tc σ G b)(hy:b=true->E.rt d G)(hn:b=false->u E σ G):zW (wM tc (zk (xC d)) zZ) u E σ G:=by
 cases b with
 | false=>exact yA h (hn rfl)
 | true=>exact h G (.refl G) _ (by rw[if_pos rfl];exact hy rfl)
def wz:wq:=fun ds G R=>∃ d,ds=[d]/\((∃ xs,d=.tup xs/\(∀ x∈xs,flat 8 x=true)/\xs.length<=1000/\R (.bl (zCg xs)) G)\/((∀ xs,d≠.tup xs)/\(∀ l,d≠.adr l)/\R (.bl false) G)\/∃ l es,d=.adr l/\Ls G l es/\R (.bl false) G)
def zDI:wC:=(zW (wM (zAh (yg (xB (zCQ "tuple" (zA 0)))) (yg (xB (zBL (fII fun i j=>.bl (decide (i<=j))) (fII fun i j=>.bl (decide (i<=j))) (xC (.int 2)) (zJ yF (zB (zA 0) zG)) (zO (zAP zGO fun i j=>.int (i*j)) (xC (.int 2)) (xC (.int 9))))))) (zk (xC (.bl false))) zZ) (zW (wM (yg (xB (yZ zHR (yk (iV (zA 0)) bd1 zAJ (zJ zw (zB (zA 2) zG)))))) (zk (xC (.bl false))) zZ) (zW (zp (zO (zAP zHD fun i j=>.int (i / j)) (zJ yF (zB (zA 0) zG)) (xC (.int 2))) (gN 1)) (zk (zE0 (zO (yY false) (zJ yF (zB (zA 0) zG)) (zO (zAP zGO fun i j=>.int (i*j)) (xC (.int 2)) (zA 1))) (yZ zHR (yk (iR1 (zB (zA 1) zG)) bd1 zAJ (zO (yY false) (xMt zAx (zA 0) (zB (zA 2) zG)) (xC (.int 2))))))))))
theorem zSh{σ:S2}{G:Gp}{t:zm}{l:Addr}{es:List D}(h:zn t σ G (.adr l))(hl:Ls G l es):zn (zCQ "tuple" t) σ G (.bl false):=fun G2 e R q=>h G2 e _ ⟨⟨es,e.ls hl⟩,q⟩
theorem zSi{d:D}(h:∀ xs,d≠.tup xs):zGq d "tuple"=false:=by
 cases d with
 | tup xs=>exact absurd rfl (h xs)
 | _=>rfl
theorem zOB{xs:List D}(f:D->Bool):(xs.map fun d=>D.bl (f d))=(xs.map f).map D.bl:=by rw[gk];rfl
theorem zML(ds:List D)(G:Gp)(R:Q2)(h:wz ds G R):ds.length=1/\zDI (zj R) (zK ["thing","many"] ds) G:=by
 obtain⟨d,rfl,h⟩:=h;refine⟨rfl,?_⟩;unfold zDI;rcases h with ⟨xs,rfl,fx,hl,h⟩ | ⟨h1,h2,h⟩ | ⟨l,es,rfl,hl,h⟩
 ·have vl:∀ {σ:S2} {G:Gp},look σ 0=some (.tup xs)->zn (zJ yF (zB (zA 0) zG)) σ G (nD xs.length):=fun {σ G} hh=>zFv (zF hh)
  have c18:zn (zO (zAP zGO fun i j=>.int (i*j)) (xC (.int 2)) (xC (.int 9))) (zK ["thing","many"] [.tup xs]) G (.int 18):=yu (x:=.int 2) (y:=.int 9) zv zv fun u0 u0 u0 q=>⟨by unfold zGO;omega,q⟩
  have ch:=zEX (σ:=zK ["thing","many"] [.tup xs]) (G:=G) (f:=fun i j=>decide (i<=j)) (g:=fun i j=>decide (i<=j)) (zv (d:=.int 2)) (vl rfl) c18;have e1:(decide ((2:Int)<=(xs.length:Int))&&decide ((xs.length:Int)<=18))=(decide (2<=xs.length)&&decide (xs.length<=18)):=by
   rw[gK];simp;omega
  rw[e1] at ch;refine zHj (zAv (zPv (T:="tuple") (d:=.tup xs) (zF rfl) rfl) fun u0=>yW (yr ch)) (fun hb=>?_) fun hb=>?_
  ·have:zCg xs=false:=by
    unfold zCg;cases q:(decide (2<=xs.length)&&decide (xs.length<=18)) with
    | true=>rw[q] at hb;cases hb
    | false=>rfl
   rw[this] at h;exact FgR.of h
  have hb1:(decide (2<=xs.length)&&decide (xs.length<=18))=true:=by simpa using hb
  have a1:=zB0 (σ:=zK ["thing","many"] [.tup xs]) (G:=G) (bd:=bd1) (te:=zJ zw (zB (zA 2) zG)) (fun d=>.bl (yv d)) (fun d=>[d]) (zC7 (zF (i:=0) (d:=.tup xs) rfl)) fun x hx=>⟨rfl,yK (zI (zF (d:=x) rfl) zS) fun u0 u0 u0 q=>⟨x,rfl,.inl ⟨zT6 (fx x hx),q⟩⟩⟩
  rw[zOB] at a1;have a2:=zFz a1;have e2:(xs.map yv).all id=xs.all yv:=by rw[List.all_map];rfl
  rw[e2] at a2;refine zHj (yW (yr a2)) (fun hb=>?_) fun hb=>?_
  ·have:zCg xs=false:=by unfold zCg;rw[show xs.all yv=false by simpa using hb];simp
   rw[this] at h;exact FgR.of h
  have hb2:xs.all yv=true:=by simpa using hb
  have e3:((xs.length:Int) / 2)=((xs.length / 2:Nat):Int):=by omega
  refine wn (d:=nD (xs.length / 2)) (yu (vl rfl) zv fun u0 u0 u0 q=>⟨⟨by decide,by decide⟩,by dsimp only;rw[e3];exact q⟩) ?_;show zk _ _ [some (.tup xs),some (nD (xs.length / 2))] G;have hw:PuI (iR1 (zB (zA 1) zG)) [some (.tup xs),some (nD (xs.length / 2))] G ((fQ (xs.length / 2)).map nD):=by
   rw[<-zFD];exact zEQ (zI (zF rfl) zS) 17#0
  have tw:zn (zO (zAP zGO fun i j=>.int (i*j)) (xC (.int 2)) (zA 1)) [some (.tup xs),some (nD (xs.length / 2))] G (nD (2*(xs.length / 2))):=by
   refine yu (x:=.int 2) (y:=nD (xs.length / 2)) zv (zF rfl) fun u0 u0 u0 q=>⟨by unfold zGO;omega,?_⟩
   have e2:(2:Int)*((xs.length / 2:Nat):Int)=((2*(xs.length / 2):Nat):Int):=by omega
   dsimp only;rw[e2];exact q
  have a3:=zB0 (σ:=[some (.tup xs),some (nD (xs.length / 2))]) (G:=G) (bd:=bd1) (te:=(zO (yY false) (xMt zAx (zA 0) (zB (zA 2) zG)) (xC (.int 2)))) (fun d=>.bl (decide (cnt xs d=2))) (fun d=>[d]) hw fun x hx=>by
   obtain⟨i,hi,rfl⟩:=gf.mp hx;refine⟨rfl,zCe (x:=nD (cnt xs (nD i))) (y:=.int 2) (zK7 (xs:=xs) (zF rfl) (zI (zF (d:=nD i) rfl) zS) fun u0 u0 u0 q=>⟨rfl,fx,q⟩) zv rfl rfl (by rw[if_neg 27#0];exact zBf _ 2)⟩
  rw[zOB] at a3;have a4:=zFz a3;have e4:(((fQ (xs.length / 2)).map nD).map fun d=>decide (cnt xs d=2)).all id=(fQ (xs.length / 2)).all fun i=>decide (cnt xs (nD i)=2):=by rw[gk,List.all_map];rfl
  rw[e4] at a4;have fin:=zQI (zCe (x:=nD xs.length) (y:=nD (2*(xs.length / 2))) (ng:=false) (b:=decide (xs.length=2*(xs.length / 2))) (vl (σ:=[some (.tup xs),some (nD (xs.length / 2))]) (G:=G) rfl) tw rfl rfl (by rw[if_neg 27#0];exact zBf _ _)) (fun u0=>a4);refine wT fin (FgR.of ?_);unfold zCg at h;rw[hb1,hb2] at h;exact h
 ·exact zHj (zAv (c:=true) (yW (yr (zFt (T:="tuple") (d:=d) (zF rfl) h2 (zSi h1)))) fun z=>by cases z) (fun u0=>FgR.of h) fun z=>by cases z
 ·exact zHj (zAv (c:=true) (yW (yr (zSh (l:=l) (zF rfl) hl))) fun z=>by cases z) (fun u0=>FgR.of h) fun z=>by cases z
noncomputable def dig(k:Nat):Str:=Str.ofString (toString (k:Int))
noncomputable def zAR(p:Nat×Nat):Str:=Str.join "-" [dig p.1,dig p.2]
noncomputable def zSj(n:Nat)(l:List (Nat×Nat)):Str:=Str.join " " (dig n::":"::l.map zAR)
noncomputable def zOC(r:List Nat):Str:=Str.join " " (r.map dig)
theorem zEY:∀ k,k<10->(dig k).length=1/\32∉(dig k).cps.toList:=by decide +kernel
theorem zMM:∀ a,a<10->∀ b,b<10->(zAR (a,b)).length=3/\32∉(zAR (a,b)).cps.toList:=by decide +kernel
theorem zSk:∀ k,k<10->(!(Builtin.Str.occurrences ("0123456789":Str) (dig k) 0 ("0123456789":Str).length 1).isEmpty)=true:=by decide +kernel
theorem zQJ:∀ a,a<10->∀ b,b<10->Txt.slice (zAR (a,b)) none (some 1)=dig a/\Txt.slice (zAR (a,b)) (some 2) none=dig b/\Txt.slice (zAR (a,b)) (some 1) (some 2)=("-":Str):=by decide +kernel
theorem zOD{σ:S2}{G:Gp}{t:zm}{k:Nat}(h:zn t σ G (nD k))(hk:k<1000):zn (zJ zBe (zB t zG)) σ G (.str (dig k)):=yK (zI h zS) fun u0 u0 u0 q=>⟨by omega,q⟩
theorem zKA{r:List Nat}{sep:Str}(hr:∀ x∈r,x<10)(hl:r.length<=900)(hs:sep.length<=10):Short sep (r.map dig):=⟨by rw[fE];omega,fun y hy=>by
 obtain⟨k,hk,rfl⟩:=gf.mp hy;rw[(zEY k (hr k hk)).1];omega,hs⟩
theorem zLE{σ:S2}{G:Gp}{t:zm}{r:List Nat}{sep:Str}{i:Nat}(h:zn t σ G (.tup (r.map nD)))(hi:∀ d:D,look (σ++[d].map some) i=some d)(hr:∀ x∈r,x<10)(hl:r.length<=900)(hs:sep.length<=10):zn (zAO sep (yk (iV t) bd1 zAJ (zJ zBe (zB (zA i) zG)))) σ G (.str (Str.join sep (r.map dig))):=by
 have m:=zB0 (σ:=σ) (G:=G) (bd:=bd1) (te:=(zJ zBe (zB (zA i) zG))) (fun d=>match d with | .int v=>.str (dig v.toNat) | _=>.non) (fun d=>[d]) (zC7 h) fun x hx=>by
  obtain⟨k,hk,rfl⟩:=gf.mp hx;exact⟨rfl,zOD (zF (hi _)) (by have:=hr k hk;omega)⟩
 have e:iA (fun d=>match d with | .int v=>D.str (dig v.toNat) | _=>.non) (r.map nD)=(r.map dig).map D.str:=by rw[gk,gk];rfl
 rw[e] at m;exact fun G2 e R q=>m G2 e _ ⟨r.map dig,rfl,zKA hr hl hs,q⟩
def zAZ:wq:=fun ds G R=>∃ p:Nat×Nat,ds=[prD p]/\p.1<10/\p.2<10/\R (.str (zAR p)) G
def zCU:wC:=(zk (zAO "-" (yk (iV (zA 0)) bd1 zAJ (zJ zBe (zB (zA 1) zG)))))
theorem zKB(ds:List D)(G:Gp)(R:Q2)(h:zAZ ds G R):ds.length=1/\zCU (zj R) (zK ["tie"] ds) G:=by
 obtain⟨p,rfl,h1,h2,h⟩:=h;refine⟨rfl,?_⟩;unfold zCU;rw[show zK ["tie"] [prD p]=[some (.tup ([p.1,p.2].map nD))] from rfl];exact wT (d:=.str (zAR p)) (zLE (r:=[p.1,p.2]) (sep:="-") (zF rfl) (fun d=>rfl) (fun x hx=>by
  simp only[fS,gw,or_false] at hx;rcases hx with rfl | rfl<;>assumption) 27#0 3#0) (.of h)
def yc:wq:=fun ds G R=>∃ r:List Nat,ds=[.tup (r.map nD)]/\(∀ x∈r,x<10)/\r.length<=100/\R (.str (zOC r)) G
def zBp:wC:=(zk (zAO " " (yk (iV (zA 0)) bd1 zAJ (zJ zBe (zB (zA 1) zG)))))
theorem zIw(ds:List D)(G:Gp)(R:Q2)(h:yc ds G R):ds.length=1/\zBp (zj R) (zK ["ring"] ds) G:=by
 obtain⟨r,rfl,h1,h2,h⟩:=h;refine⟨rfl,?_⟩;unfold zBp;exact wT (d:=.str (zOC r)) (zLE (r:=r) (sep:=" ") (zF rfl) (fun d=>rfl) h1 17#0 3#0) (.of h)
theorem zIx{n:Nat}{q:Nat×Nat->Bool}(h:n<=9):((prs n).filter q).length<=60:=by
 have a:=List.length_filter_le q (prs n);have b:∀ n,n<10->(prs n).length<=60:=by decide +kernel
 have:=b n 17#0;omega
theorem zLF{n:Nat}{q:Nat×Nat->Bool}(h:n<=9){p:Nat×Nat}(hp:p∈(prs n).filter q):p.1<10/\p.2<10:=by
 have:=zDD.mp (List.mem_filter.mp hp).1;omega
theorem zOE{p:Nat×Nat}(h:p.1<10/\p.2<10):(zAR p).length=3:=(zMM p.1 h.1 p.2 h.2).1
theorem zMN{n:Nat}{q:Nat×Nat->Bool}(h:n<=9):Short " " (dig n::":"::((prs n).filter q).map zAR):=⟨by have:=zIx (q:=q) h;simp;omega,fun y hy=>by
 rcases fS.mp hy with rfl | hy
 ·rw[(zEY n 17#0).1];omega
 ·rcases fS.mp hy with rfl | hy
  ·have:(":":Str).length=1:=by decide +kernel
   omega
  ·obtain⟨p,hp,rfl⟩:=gf.mp hy
   rw[zOE (zLF h hp)];omega,by decide +kernel⟩
theorem zKC{σ:S2}{G:Gp}{te:zm}{u:wC}{E:yO}(h:te σ G fun u0 G1=>u E σ G1):zW (zBl te) u E σ G:=h
def wU:wq:=fun ds G R=>∃(n:Nat) (q:Nat×Nat->Bool),ds=[zDe n q]/\n<=9/\R (.str (zSj n ((prs n).filter q))) G
def zCV:wC:=(zW (zp (zi (yl (zB (zJ zBe (zB (zO zz (zA 0) (xC (.int 0))) zG)) (zB (xC (.str ":")) zG)))) (gN 1)) (zW (zBl (zPQ (zA 1) (yk (iV (zO zz (zA 0) 21#0)) bd1 zAJ (zJ zAZ (zB (zA 2) zG))))) (zk (zJo " " (zB (zA 1) zG)))))
theorem zKD(ds:List D)(G:Gp)(R:Q2)(h:wU ds G R):ds.length=1/\zCV (zj R) (zK ["web","words"] ds) G:=by
 obtain⟨n,q,rfl,h9,h⟩:=h;refine⟨rfl,?_⟩;unfold zCV;rw[show zK ["web","words"] [zDe n q]=[some (zDe n q),none] from rfl];refine wZ (zGz (ds:=[.str (dig n),.str ":"]) (fun G2 e R q'=>zIl (zI (zOD (zTp (q:=q) (zF rfl)) 17#0) (zI zv zS) G2 e _ ⟨by rw[sizeLine_eq];simp,q'⟩)) fun l hl=>?_);simp only[gN,fH,fG];have m:=zB0 (σ:=[some (zDe n q),some (.adr l)]) (G:=zh G l [.str (dig n),.str ":"]) (bd:=bd1) (te:=(zJ zAZ (zB (zA 2) zG))) (fun d=>match d with | .tup [.int a,.int b]=>.str (zAR (a.toNat,b.toNat)) | _=>.non) (fun d=>[d]) (zC7 (zTq (n:=n) (q:=q) (zF (i:=0) rfl))) fun x hx=>by
  obtain⟨p,hp,rfl⟩:=gf.mp hx;have:=zLF h9 hp;exact⟨rfl,yK (zI (zF rfl) zS) fun u0 u0 u0 q'=>⟨p,rfl,this.1,this.2,q'⟩⟩
 have e:iA (fun d=>match d with | .tup [.int a,.int b]=>D.str (zAR (a.toNat,b.toNat)) | _=>.non) (((prs n).filter q).map prD)=(((prs n).filter q).map zAR).map D.str:=by rw[gk,gk];rfl
 rw[e] at m;have tl:=zIx (q:=q) h9;refine zKC (zPs (i:=1) rfl zU (fun Q q'=>m _ (.refl _) Q q') (by simp;omega) ?_);rw[zC6];have e2:[D.str (dig n),.str ":"]++(((prs n).filter q).map zAR).map D.str=(dig n::":"::((prs n).filter q).map zAR).map D.str:=rfl;rw[e2];have pj:zn (zJo " " (zB (zA 1) zG)) [some (zDe n q),some (.adr l)] (zh G l ((dig n::":"::((prs n).filter q).map zAR).map D.str)) (.str (zSj n ((prs n).filter q))):=fun G2 e R q'=>zI (zF (i:=1) (d:=.adr l) rfl) zS G2 e _ ⟨l,_,rfl,e.ls (.inl zU),zMN h9,q'⟩;exact wT pj ⟨G,.new hl,h⟩
theorem zT7(a b:Str):(a++b).length=a.length+b.length:=by
 show(a.cps++b.cps).size=a.cps.size+b.cps.size;simp
def Ll(l:Addr)(G:Gp)(d:D):Prop:=∀ a,d=.adr a->a≠l/\∃ es,G.m a=some es
def Wl(l:Addr)(G:Gp):Nat->D->Prop
 | 0,d=>Ll l G d
 | n+1,d=>Ll l G d/\∀ xs,d=.tup xs->∀ x∈xs,Wl l G n x
theorem Wl.wg{l:Addr}{G:Gp}:∀ {n:Nat} {d:D},Wl l G n d->Wg G n d
 | 0,d,h=>fun a ha=>by obtain⟨u0,es,q⟩:=h a ha;exact⟨es,.inl q⟩
 | n+1,d,h=>⟨fun a ha=>by obtain⟨u0,es,q⟩:=h.1 a ha;exact⟨es,.inl q⟩,fun xs e x hx=>Wl.wg (h.2 xs e x hx)⟩
theorem Wl.flat{l:Addr}{G:Gp}:∀ {n k:Nat} {d:D},flat k d=true->Wl l G n d
 | 0,k,d,h=>fun a ha=>by subst ha;cases k<;>cases h
 | n+1,k,d,h=>by
  refine⟨fun a ha=>?_,fun xs e x hx=>?_⟩
  ·subst ha
   cases k<;>cases h
  ·subst e
   cases k with
   | zero=>cases h
   | succ k =>
    have:xs.all (L3.flat k)=true:=h;exact Wl.flat (ge.mp this x hx)
theorem zQK{x y:D}(h:∀ ys,y=.tup ys->ys.length<=60):sm2 (.tup [x,y]):=fun m ys e=>by cases e;exact h ys rfl
theorem zT8(w:Str)(k:Nat):(Txt.slice w none (some (k:Int))).cps.toList=w.cps.toList.take k:=by
 by_cases h:k<=w.length
 ·have:=eq_of_beq (slice_closes_toL (x:=w) (j:=(k:Int)) 17#0 17#0)
  rw[this];show List.take _ (List.drop 0 _)=_;rw[List.drop_zero,show((k:Int)-0).toNat=k by omega]
 ·have h':w.length<=k:=by omega
  rw[slice_to_beyond (x:=w) (j:=(k:Int)) 17#0];have:=eq_of_beq (slice_closes_toL (x:=w) (j:=(w.length:Int)) 17#0 17#0);rw[this];show List.take _ (List.drop 0 _)=_;have hl:w.cps.toList.length=w.length:=gC;rw[List.drop_zero,ia (by rw[hl];omega),ia (by rw[hl];omega)]
theorem zQL(w:Str)(k:Nat):(Txt.slice w (some (k:Int)) none).cps.toList=w.cps.toList.drop k:=by
 have hl:w.cps.toList.length=w.length:=gC;by_cases h:k<=w.length
 ·rw[slice_from_eq (x:=w) (i:=(k:Int)) (b:=(w.length:Int)) 17#0 17#0 rfl]
  show List.take _ (List.drop _ _)=_;exact ia (by rw[gR,hl];omega)
 ·rw[slice_beyond (x:=w) (i:=(k:Int)) 17#0]
  show[]=_;rw[List.drop_eq_nil_of_le 17#0]
theorem zSl(w:Str):(Txt.slice w (some 1) (some 2)).cps.toList=(w.cps.toList.drop 1).take 1:=by
 obtain⟨⟨l⟩⟩:=w
 match l with
 | []=>rfl
 | [c]=>rfl
 | a::b::r =>
  have:=eq_of_beq (slice_closesL (x:=⟨⟨a::b::r⟩⟩) (i:=1) (j:=2) 17#0 17#0 (by show(2:Int)<=(((a::b::r).toArray.size:Nat):Int);simp;omega));rw[this];rfl
theorem zQ4(a b:Str):(a++b).cps.toList=a.cps.toList++b.cps.toList:=by
 show(a.cps++b.cps).toList=_;simp
theorem zQ5{a b:Str}(h:a.cps.toList=b.cps.toList):a=b:=Str.ext' (Array.toList_inj.mp h)
theorem zT9:∀ k,k<10->(dig k).cps.toList=[48+k]:=by decide +kernel
theorem zSm:("0123456789":Str).cps.toList=(fQ 10).map (48+·):=by decide +kernel
noncomputable def zDW(w:Str):Option Nat:=(fQ 10).find? fun k=>decide (dig k=w)
noncomputable def wB(w:Str):D:=match zDW w with | some k=>nD k | none=>.non
theorem zCW{w:Str}{k:Nat}(h:zDW w=some k):k<10/\w=dig k:=by
 have h1:=List.mem_of_find?_eq_some h;have h2:=List.find?_some h;simp at h1 h2;exact⟨h1,h2.symm⟩
theorem zEZ{k:Nat}(h:k<10):zDW (dig k)=some k:=by
 have:∀ k,k<10->zDW (dig k)=some k:=by decide +kernel
 exact this k h
noncomputable def zIy(w:Str):Nat:=(zDW w).getD 0
theorem zCE{k:Nat}(h:k<10):wB (dig k)=nD k:=by unfold wB;rw[zEZ h]
theorem zHk{w:Str}{k:Nat}(h:wB w=nD k):k<10/\w=dig k:=by
 unfold wB at h;cases q:zDW w with
 | none=>rw[q] at h;cases h
 | some j =>
  rw[q] at h;have:=zOA h;subst this;exact zCW q
theorem zSn(w:Str):(decide (w.length=1)&&!(Builtin.Str.occurrences ("0123456789":Str) w 0 ("0123456789":Str).length 1).isEmpty)=(zDW w).isSome:=by
 rw[gK];constructor
 ·intro h
  rw[fW,decide_eq_true_eq] at h;obtain⟨h1,h2⟩:=h;obtain⟨⟨l⟩⟩:=w
  match l,h1 with
  | [c],_ =>
   have e:(⟨⟨[c]⟩⟩:Str)=⟨#[c]⟩:=rfl;rw[e] at h2 ⊢;rw[StrLaws.found_one,decide_eq_true_eq,zSm] at h2;obtain⟨k,hk,rfl⟩:=gf.mp h2;have hk':=gJ.mp hk;have:(⟨#[48+k]⟩:Str)=dig k:=zQ5 (by rw[zT9 k hk']);rw[this,zEZ hk'];rfl
 ·intro h
  obtain⟨k,hk⟩:=hV.mp h;obtain⟨hk',rfl⟩:=zCW hk;rw[(zEY k hk').1,zSk k hk'];rfl
theorem zMO(w:Str):flat 8 (wB w)=true:=by unfold wB;split<;>rfl
noncomputable def zAm(w:Str):D:=if Txt.slice w (some 1) (some 2)=("-":Str) then .tup [wB (Txt.slice w none (some 1)),wB (Txt.slice w (some 2) none)] else .non
theorem zG2{p:Nat×Nat}(h1:p.1<10)(h2:p.2<10):zAm (zAR p)=prD p:=by
 obtain⟨e1,e2,e3⟩:=zQJ p.1 h1 p.2 h2;unfold zAm;rw[show zAR p=zAR (p.1,p.2) from rfl,e1,e2,e3,if_pos rfl,zCE h1,zCE h2];rfl
theorem zOF{w:Str}{p:Nat×Nat}(h:zAm w=prD p):w=zAR p:=by
 unfold zAm at h;split at h
 ·rename_i e
  unfold prD at h;simp only[D.tup.injEq,List.cons.injEq,and_true] at h;obtain⟨h1,e1⟩:=zHk h.1;obtain⟨h2,e2⟩:=zHk h.2;have a1:(Txt.slice w none (some 1)).cps.toList=(dig p.1).cps.toList:=by rw[e1]
  have a2:(Txt.slice w (some 2) none).cps.toList=(dig p.2).cps.toList:=by rw[e2]
  have a3:(Txt.slice w (some 1) (some 2)).cps.toList=("-":Str).cps.toList:=by rw[e]
  rw[show(1:Int)=((1:Nat):Int) from rfl,zT8] at a1;rw[show(2:Int)=((2:Nat):Int) from rfl,zQL] at a2;rw[zSl] at a3;apply zQ5;have t:(zAR p).cps.toList=(dig p.1).cps.toList++(("-":Str).cps.toList++(dig p.2).cps.toList):=by
   have e:zAR p=dig p.1++("-":Str)++dig p.2:=rfl;rw[e,zQ4,zQ4,List.append_assoc]
  rw[t,<-a1,<-a2,<-a3];generalize w.cps.toList=l
  match l with
  | []=>rfl
  | [a]=>rfl
  | a::b::r=>simp
 ·unfold prD at h;cases h
def Wt(ws:List Str)(n:Nat)(l:List (Nat×Nat)):Prop:=ws=dig n::":"::l.map zAR/\1<=n/\n<=9/\(∀ p∈l,p∈prs n)/\zN7 l=true
noncomputable def zD1(w0:Str)(rest:List Str):D:=.tup [wB w0,.tup (rest.map zAm)]
theorem zSo{n:Nat}(h9:n<=9){p:Nat×Nat}(hp:p∈prs n):p.1<10/\p.2<10:=by
 have:=zDD.mp hp;omega
theorem zG3:∀ {rest:List Str} {l:List (Nat×Nat)},rest.map zAm=l.map prD->rest=l.map zAR
 | [],[],_=>rfl
 | [],_::_,h=>by cases h
 | _::_,[],h=>by cases h
 | w::r,p::l,h=>by
  simp only[fJ,List.cons.injEq] at h;rw[fJ,zOF h.1,zG3 h.2]
theorem zD2{w0:Str}{rest:List Str}{n:Nat}{l:List (Nat×Nat)}(hl:rest.length<=60):(IsW (zD1 w0 rest) n l/\zN7 l=true)↔Wt (w0::":"::rest) n l:=by
 constructor
 ·rintro⟨⟨h,h1,h9,hp,hz⟩,hr⟩
  unfold zD1 at h;simp only[D.tup.injEq,List.cons.injEq,and_true] at h;exact⟨by rw[(zHk h.1).2,zG3 h.2],h1,h9,hp,hr⟩
 ·rintro⟨h,h1,h9,hp,hr⟩
  simp only[List.cons.injEq,true_and] at h;obtain⟨rfl,rfl⟩:=h;rw[fE] at hl;refine⟨⟨?_,h1,h9,hp,hl⟩,hr⟩;unfold zD1;have e:iA (zAm∘zAR) l=iA prD l:=gX fun p q=>by
   have:=zSo h9 (hp p q);exact(Function.comp_apply (f:=zAm) (g:=zAR) (x:=p)).trans (zG2 this.1 this.2)
  rw[zCE 17#0,gk,e]
theorem zKE(w0:Str)(rest:List Str):flat 8 (zD1 w0 rest)=true:=by
 unfold zD1;show[_,_].all (flat 7)=true;have h1:flat 7 (wB w0)=true:=by unfold wB;split<;>rfl
 have h2:flat 7 (.tup (rest.map zAm))=true:=by
  show(rest.map zAm).all (flat 6)=true;rw[ge];intro x hx;obtain⟨w,u0,rfl⟩:=gf.mp hx;unfold zAm;split
  ·show[_,_].all (flat 5)=true
   have:∀ w,flat 5 (wB w)=true:=fun w=>by unfold wB;split<;>rfl
   simp[this]
  ·rfl
 simp[h1,h2]
def Rt(ws:List Str)(n:Nat)(r:List Nat):Prop:=ws=r.map dig/\zAz n r/\1<=n/\n<=9
theorem zG4:∀ {ws:List Str} {ns:List Int},ws.map wB=ns.map D.int->∃ r:List Nat,ws=r.map dig/\ns=r.map fun(k:Nat)=>(k:Int)
 | [],[],_=>⟨[],rfl,rfl⟩
 | [],_::_,h=>by cases h
 | _::_,[],h=>by cases h
 | w::ws,i::ns,h=>by
  simp only[fJ,List.cons.injEq] at h;obtain⟨r,rfl,rfl⟩:=zG4 h.2;unfold wB at h;cases q:zDW w with
  | none=>rw[q] at h;cases h.1
  | some k =>
   rw[q] at h;obtain⟨hk,rfl⟩:=zCW q;refine⟨k::r,rfl,?_⟩;have:=h.1;unfold nD at this;rw[fJ,<-D.int.inj this]
theorem zLG(r:List Nat)(i:Nat):cnt (r.map nD) (nD i)=r.count i:=by
 unfold cnt;rw[List.countP_map,List.count_eq_countP];refine List.countP_congr fun z u0=>?_;simp[zBf]
theorem zHl{r:List Nat}{n:Nat}:zAz n r↔r.length=2*n/\∀ i,i<n->r.count i=2:=by
 constructor
 ·intro h
  exact⟨h.len,fun i hi=>h.count hi⟩
 ·rintro⟨hl,hc⟩
  have hl':(r.map fun(k:Nat)=>(k:Int)).length=2*n:=by rw[fE];exact hl
  have cc:∀(r:List Nat) (i:Nat),(r.map fun(k:Nat)=>(k:Int)).count (i:Int)=r.count i:=fun r i=>by
   rw[List.count_eq_countP,List.countP_map,List.count_eq_countP];refine List.countP_congr fun z u0=>?_;simp only[Function.comp,beq_iff_eq];omega
  have t:=(zMK hl').mp fun i hi=>by rw[cc];exact hc i hi
  unfold zAz;rw[List.perm_iff_count];intro a;rw[i6];by_cases ha:a<n
  ·rw[hc a ha]
   have:(fQ n).count a=1:=by
    have h1:=List.nodup_iff_count.mp (List.nodup_range (n:=n)) a;have h2:=List.count_pos_iff.mpr (gJ.mpr ha);omega
   omega
  ·have n1:a∉fQ n:=fun z=>ha (gJ.mp z)
   rw[iL n1];refine iL fun z=>?_;have:=t.1 (a:Int) (gf.mpr ⟨a,z,rfl⟩);simp only[inR,fW,decide_eq_true_eq] at this;omega
theorem zOG(r:List Nat):(r.map nD).all yv=true:=by
 rw[ge];intro x hx;obtain⟨k,u0,rfl⟩:=gf.mp hx;rfl
theorem zKF{r:List Nat}{n:Nat}(h:zAz n r)(h9:n<=9){x:Nat}(hx:x∈r):x<10:=by
 have:=h.mem.mp hx;omega
theorem zF2{r:List Nat}(h:∀ x∈r,x<10):(r.map dig).map wB=r.map nD:=by
 rw[gk];exact gX fun x hx=>zCE (h x hx)
theorem zDJ(ws:List Str):zCg (ws.map wB)=true↔∃ n r,Rt ws n r:=by
 unfold zCg;simp only[fW,decide_eq_true_eq,fE,ge (p:=yv)];constructor
 ·rintro⟨⟨h1,h2⟩,h3,h4,h5⟩
  obtain⟨ns,e⟩:=zQH (ge.mpr h3);obtain⟨r,rfl,rfl⟩:=zG4 e;rw[e] at h5;have e2:(r.map fun(k:Nat)=>(k:Int)).map D.int=r.map nD:=by rw[gk];rfl
  rw[e2] at h5;rw[fE] at h1 h2 h4 h5;refine⟨r.length / 2,r,rfl,zHl.mpr ⟨h4,fun i hi=>?_⟩,by omega,by omega⟩;have:=ge.mp h5 i (gJ.mpr hi);rw[decide_eq_true_eq,zLG] at this;exact this
 ·rintro⟨n,r,rfl,hr,h1,h9⟩
  have hl:=hr.len;rw[zF2 fun x hx=>zKF hr h9 hx,fE];refine⟨⟨by omega,by omega⟩,fun x hx=>ge.mp (zOG r) x hx,by omega,?_⟩;rw[ge];intro i hi;rw[decide_eq_true_eq,zLG];exact(zHl.mp hr).2 i (by have:=gJ.mp hi;omega)
theorem zFH{σ:S2}{G:Gp}{tc:TT2}{ta tb:zm}{x:D}{b:Bool}(h:PuT tc σ G b)(ha:b=true->zn ta σ G x)(hb:b=false->zn tb σ G x):zn (zDs tc ta tb) σ G x:=fun G2 e R q=>h G2 e _ (by
 cases b with
 | true=>rw[if_pos rfl];exact ha rfl G2 e _ q
 | false=>rw[if_neg 27#0];exact hb rfl G2 e _ q)
def Odd(G:Gp)(d:D):Prop:=(∀ t,d≠.str t)/\Lk G d
theorem zQM{σ:S2}{G:Gp}{t:zm}{d:D}(h:zn t σ G d)(ho:Odd G d):zn (zCQ "str" t) σ G (.bl false):=by
 cases d with
 | str x=>exact absurd rfl (ho.1 x)
 | adr l=>obtain⟨es,q⟩:=ho.2 l rfl;exact fun G2 e R q'=>h G2 e _ ⟨⟨es,e.ls q⟩,q'⟩
 | _=>exact zFt h (fun l z=>by cases z) rfl
noncomputable abbrev zx(t:Str):List Str:=Txt.split t " "
theorem zOH(t:Str):zx t≠[]:=fun z=>by
 have h:1<=(zx t).length:=split_pos t " ";rw[z] at h;simp at h
def zb:List D->Gp->(List D->Gp->Prop)->Prop:=fun ds G R=>∃ t:Str,ds=[.str t]/\t.length<=1000000/\R ((zx t).map D.str) G
theorem wJ:∀ ds G R R',(∀ ls G',R ls G'->R' ls G')->zb ds G R->zb ds G R':=by
 rintro ds G R R' h ⟨t,e,hw,q⟩;exact⟨t,e,hw,h _ _ q⟩
def zCX:wC:=(zW (wM (yg (xB (zCQ "str" (zA 0)))) 26#0 zZ) (zk (zi (zJp (zA 0) (zB (xC (.str " ")) zG)))))
theorem zOI{σ:S2}{G:Gp}{t:zm}{x:Str}(h:zn t σ G (.str x))(hl:x.length<=1000000):PuL (zJp t (zB (xC (.str " ")) zG)) σ G ((zx x).map D.str):=fun G2 e R q=>h G2 e _ (zNs (d:=.str " ") zv (zNy ⟨by decide +kernel,hl,q⟩))
theorem zKG(ds:List D)(G:Gp)(R:Q2)(h:spL zb ds G R):ds.length=1/\zCX (zj R) (zK ["text"] ds) G:=by
 obtain⟨t,rfl,hw,h⟩:=h;refine⟨rfl,?_⟩;unfold zCX;refine yA (yW (b:=true) (yr (zFt (T:="str") (d:=.str t) (zF rfl) (fun l z=>by cases z) rfl))) ?_;exact(show zk _ _ _ _ from zGz (zOI (zF (i:=0) (d:=.str t) rfl) hw) fun l hl=>.of (h l hl))
def yd:Cnd:=fun ds G E=>∃ d,ds=[d]/\Odd G d/\E G
def zBq:(Gp->Prop)->S2->Gp->Prop:=(fun E σ G=>(yg (xB (zCQ "str" (zA 0)))) σ G fun b G2=>b=true/\(fun E σ G=>(xC (.str "no text")) σ G fun u0 G2=>E G2) E σ G2)
theorem zIz(ds:List D)(G:Gp)(E:Gp->Prop)(h:yd ds G E):ds.length=1/\zBq E (zK ["text"] ds) G:=by
 obtain⟨d,rfl,ho,h⟩:=h;refine⟨rfl,?_⟩;unfold zBq;exact yW (b:=false) (yr (zQM (zF (i:=0) (d:=d) rfl) ho)) G (.refl G) _ ⟨rfl,h⟩
def zq:wq:=fun ds G R=>∃ w:Str,ds=[.str w]/\w.length<=1000000/\R (wB w) G
def zD3:wC:=(zk (zDs (zDo (xB (zO (yY false) (zJ zDa (zB (zA 0) zG)) 21#0)) (xB (zO zHT (zA 0) (xC (.str "0123456789"))))) (zJ zHU (zB (zA 0) zG)) (xC .non)))
theorem zOJ(ds:List D)(G:Gp)(R:Q2)(h:zq ds G R):ds.length=1/\zD3 (zj R) (zK ["word"] ds) G:=by
 obtain⟨w,rfl,hl,h⟩:=h;refine⟨rfl,?_⟩;unfold zD3;rw[show zK ["word"] [.str w]=[some (.str w)] from rfl];have c1:PuT (xB (zO (yY false) (zJ zDa (zB (zA 0) zG)) 21#0)) [some (.str w)] G (decide (w.length=1)):=by
  refine yr (zCe (x:=nD w.length) (y:=nD 1) (yK (zI (zF (d:=.str w) rfl) zS) fun u0 u0 R' q=>⟨hl,q⟩) zv rfl rfl ?_);rw[if_neg 27#0,zBf]
 have c2:PuT (xB (zO zHT (zA 0) (xC (.str "0123456789")))) [some (.str w)] G (!(Builtin.Str.occurrences ("0123456789":Str) w 0 ("0123456789":Str).length 1).isEmpty):=yr (yu (x:=.str w) (y:=.str "0123456789") (zF rfl) zv fun G2 u0 R' q=>q);have c3:=zPR c1 fun u0=>c2;rw[zSn] at c3;refine wT (zFH c3 (fun hb=>?_) fun hb=>?_) (.of h)
 ·obtain⟨k,hk⟩:=hV.mp hb
  obtain⟨h10,rfl⟩:=zCW hk;rw[zCE h10];exact yK (d:=nD k) (zI (zF (d:=.str (dig k)) rfl) zS) fun u0 u0 u0 q=>⟨k,rfl,by omega,q⟩
 ·have:wB w=.non:=by
   unfold wB;cases q:zDW w with
   | none=>rfl
   | some k=>rw[q] at hb;cases hb
  rw[this];exact zv
def wF:wq:=fun ds G R=>∃ w:Str,ds=[.str w]/\w.length<=1000000/\R (zAm w) G
def zCY:wC:=(zk (zDs (xB (zO (yY false) (zBn (zA 0) (yU 21#0) (yU (xC (.int 2)))) (xC (.str "-")))) (zBI (zB (zJ zq (zB (zBn (zA 0) yH (yU 21#0)) zG)) (zB (zJ zq (zB (zBn (zA 0) (yU (xC (.int 2))) yH) zG)) zG))) (xC .non)))
theorem zKH(ds:List D)(G:Gp)(R:Q2)(h:wF ds G R):ds.length=1/\zCY (zj R) (zK ["word"] ds) G:=by
 obtain⟨w,rfl,hl,h⟩:=h;refine⟨rfl,?_⟩;unfold zCY;rw[show zK ["word"] [.str w]=[some (.str w)] from rfl];have s1:zn (zBn (zA 0) yH (yU 21#0)) [some (.str w)] G (.str (Txt.slice w none (some 1))):=fun G2 e R q=>zF (i:=0) (d:=.str w) rfl G2 e _ ⟨hl,q⟩;have s2:zn (zBn (zA 0) (yU (xC (.int 2))) yH) [some (.str w)] G (.str (Txt.slice w (some 2) none)):=fun G2 e R q=>zF (i:=0) (d:=.str w) rfl G2 e _ ⟨hl,q⟩;have s3:zn (zBn (zA 0) (yU 21#0) (yU (xC (.int 2)))) [some (.str w)] G (.str (Txt.slice w (some 1) (some 2))):=fun G2 e R q=>zF (i:=0) (d:=.str w) rfl G2 e _ ⟨hl,q⟩;have c:PuT (xB (zO (yY false) (zBn (zA 0) (yU 21#0) (yU (xC (.int 2)))) (xC (.str "-")))) [some (.str w)] G (decide (Txt.slice w (some 1) (some 2)=("-":Str))):=yr (zCe (y:=.str "-") s3 zv rfl rfl (by rw[if_neg 27#0];show(_==_)=_;rw[gK];simp));have fl:∀ {t:zm} {x:Str},zn t [some (.str w)] G (.str x)->x.length<=1000000->zn (zJ zq (zB t zG)) [some (.str w)] G (wB x):=fun hx hz=>yK (zI hx zS) fun u0 u0 u0 q=>⟨_,rfl,hz,q⟩
 have le:=fun a b=>Txt.slice_le w a b;refine wT (d:=zAm w) (zFH c (fun hb=>?_) fun hb=>?_) (.of h)
 ·unfold zAm
  rw[if_pos (by simpa using hb)];exact zEN (zI (fl s1 (gt (le _ _) hl)) (zI (fl s2 (gt (le _ _) hl)) zS)) 27#0
 ·unfold zAm
  rw[if_neg (by simpa using hb)];exact zv
theorem zHm{t w:Str}(h:w∈zx t):w.length<=t.length:=by
 have e:=StrLaws.join_split t " ";have:∀(l:List Str),w∈l->w.length<=(Str.join " " l).length:=by
  intro l
  induction l with
  | nil=>intro z;cases z
  | cons a r ih =>
   intro z;cases r with
   | nil =>
    rcases fS.mp z with rfl | z
    ·exact fP _
    ·cases z
   | cons b r =>
    show _<=(a++" "++Str.join " " (b::r)).length;rw[zT7,zT7];rcases fS.mp z with rfl | z
    ·omega
    ·have:=ih z;omega
 have:=this _ h;rw[e] at this;exact this
theorem zOK{σ:S2}{G:Gp}{tl:TL2}{ds:List D}(h:PuL tl σ G ds):PuI (iF tl) σ G ds:=fun G2 e R q=>h G2 e _ fun a ha=>q _ _ (.new ha) fun G4 e4=>e4.ls (.inl zU)
theorem zOL{ws:List Str}(h:¬ ws.length<2):∃ a b r,ws=a::b::r:=by
 match ws,h with
 | a::b::r,_=>exact⟨a,b,r,rfl⟩
 | [a],h=>simp at h
 | [],h=>simp at h
def zAA:wq:=fun ds G R=>∃(t:Str) (n:Nat) (l:List (Nat×Nat)),ds=[.str t]/\t.length<=1000000/\l.length<=60/\Wt (zx t) n l/\R (.tup [nD n,.tup (l.map prD)]) G
def zCZ:wC:=(zW (zp (zi (yz zb (zB (zA 0) zG))) (gN 1)) (zW (wM (zAh (xB (zO (fII fun i j=>.bl (decide (i<j))) (zJ yF (zB (zA 1) zG)) (xC (.int 2)))) (xB (zO (yY true) (zO zz (zA 1) 21#0) (xC (.str ":"))))) 26#0 zZ) (zW (zp (zBI (zB (zJ zq (zB (zO zz (zA 1) (xC (.int 0))) zG)) (zB (yZ zAN (yk (iF (yR (zA 1) (yU (xC (.int 2))) yH)) bd1 zAJ (zJ wF (zB (zA 3) zG)))) zG))) (gN 2)) (zW (wM (yg (xB (zJ ww (zB (zA 2) zG)))) 26#0 zZ) (zk (zA 2))))))
section
variable {σ:S2} {G1:Gp} {l:Addr} {ws:List Str} (hv:look σ 1=some (.adr l)) (ls:Ls G1 l (ws.map D.str))
include hv ls
theorem zQ6:PuT (xB (zO (fII fun i j=>.bl (decide (i<j))) (zJ yF (zB (zA 1) zG)) (xC (.int 2)))) σ G1 (decide (ws.length<2)):=by
 have plen:zn (zJ yF (zB (zA 1) zG)) σ G1 (nD ws.length):=yK (zI (zF (i:=1) (d:=.adr l) hv) zS) fun u0 e u0 q'=>⟨_,e.ls ls,by rw[fE];exact q'⟩
 have:=yr (zNC (g:=fun i j=>.bl (decide (i<j))) plen (zv (d:=.int 2)));rwa [show decide ((ws.length:Int)<2)=decide (ws.length<2) by rw[gK];simp;omega] at this
theorem zUA{a b:Str}{r:List Str}(e:ws=a::b::r):PuT (xB (zO (yY true) (zO zz (zA 1) 21#0) (xC (.str ":")))) σ G1 (decide (b≠":")):=by
 subst e;exact yr (zCe (x:=.str b) (y:=.str ":") (zAl (k:=1) (zF (d:=.adr l) hv) zv ls (ya (j:=1) rfl)) zv rfl rfl (by rw[if_pos rfl];show(!(b==":"))=_;rw[gK];simp))
theorem zKI:PuT (zAh (xB (zO (fII fun i j=>.bl (decide (i<j))) (zJ yF (zB (zA 1) zG)) (xC (.int 2)))) (xB (zO (yY true) (zO zz (zA 1) 21#0) (xC (.str ":"))))) σ G1 (!(decide (2<=ws.length)&&decide (ws[1]?=some (":":Str)))):=by
 by_cases h2:ws.length<2
 ·have:=zQ6 hv ls
  rw[decide_eq_true h2] at this;rw[decide_eq_false (show ¬ 2<=ws.length by omega)];exact zAv (b:=true) (c:=true) this fun z=>by cases z
 ·obtain⟨a,b,r,e⟩:=zOL h2
  have h1:=zQ6 hv ls;rw[decide_eq_false h2] at h1;rw[decide_eq_true (show 2<=ws.length by omega),Bool.true_and];have:=zAv (b:=false) h1 fun u0=>zUA hv ls e;subst e;rw[show(!decide ((a::b::r)[1]?=some (":":Str)))=decide (b≠":") by simp];exact this
theorem zQ7{a b:Str}{r:List Str}(e:ws=a::b::r)(hw:∀ w∈ws,w.length<=1000000)(h3:σ.length=3):zn (zBI (zB (zJ zq (zB (zO zz (zA 1) (xC (.int 0))) zG)) (zB (yZ zAN (yk (iF (yR (zA 1) (yU (xC (.int 2))) yH)) bd1 zAJ (zJ wF (zB (zA 3) zG)))) zG))) σ G1 (zD1 a r):=by
 subst e;have sl:PuL (yR (zA 1) (yU (xC (.int 2))) yH) σ G1 (r.map D.str):=fun G2 e R q'=>zF (i:=1) (d:=.adr l) hv G2 e _ ⟨_,e.ls ls,by
  have:L3.cutD ((a::b::r).map D.str) (some 2) none=r.map D.str:=by
   unfold L3.cutD;rw[HT.zDk,show(2:Int)=((2:Nat):Int) from rfl,HT.zC5];simp only[fJ,gi,fE];rw[show min 2 (r.length+1+1)=2 by omega];show List.take (r.length+1+1-2) (r.map D.str)=r.map D.str;exact ia (by rw[fE];omega)
  rw[this];exact q'⟩
 have hk:∀ d:D,look (σ++[d].map some) 3=some d:=fun d=>by
  match σ,h3 with
  | [_,_,_],_=>rfl
 have m:=zB0 (σ:=σ) (G:=G1) (bd:=bd1) (te:=(zJ wF (zB (zA 3) zG))) (fun d=>match d with | .str w=>zAm w | _=>.non) (fun d=>[d]) (zOK sl) fun x hx=>by
  obtain⟨w,hp,rfl⟩:=gf.mp hx;exact⟨rfl,yK (zI (zF (hk _)) zS) fun u0 u0 u0 q'=>⟨w,rfl,hw w (g9 _ (g9 _ hp)),q'⟩⟩
 have e:iA (fun d=>match d with | .str w=>zAm w | _=>.non) (r.map D.str)=r.map zAm:=by rw[gk];rfl
 rw[e] at m;have f0:zn (zJ zq (zB (zO zz (zA 1) (xC (.int 0))) zG)) σ G1 (wB a):=yK (zI (zAl (k:=0) (zF (d:=.adr l) hv) zv ls (ya (j:=0) rfl)) zS) fun u0 u0 u0 q'=>⟨a,rfl,hw a 27#0,q'⟩
 exact zEN (zI f0 (zI (zFf m) zS)) 27#0
end
theorem zQN{G:Gp}{n k:Nat}{d:D}(h:flat k d=true):Wg G n d:=Wl.wg (l:=0) (Wl.flat h)
theorem zI0{σ:S2}{G:Gp}{t:zm}{a:Str}{r:List Str}{b:Bool}(h:zn t σ G (zD1 a r))(hl:r.length<=60)(hb:b=true↔∃ n l,Wt (a::":"::r) n l):zn (zJ ww (zB t zG)) σ G (.bl b):=by
 refine yK (zI h zS) fun u0 e u0 q'=>⟨_,rfl,zQN (zKE a r),zQK fun ys e=>by cases e;rw[fE];exact hl,?_⟩
 by_cases hx:∃ n l,IsW (zD1 a r) n l
 ·obtain⟨n,l,hw⟩:=hx
  refine .inl ⟨n,l,hw,?_⟩;have:zN7 l=b:=by
   rw[gK,hb];constructor
   ·exact fun z=>⟨n,l,(zD2 hl).mp ⟨hw,z⟩⟩
   ·rintro⟨n',l',z⟩
    obtain⟨hw',z'⟩:=(zD2 hl).mpr z;have e:=hw.1.symm.trans hw'.1;simp only[D.tup.injEq,List.cons.injEq,and_true] at e;have:(l.map prD).map zDy=(l'.map prD).map zDy:=by rw[e.2]
    rw[gk,gk] at this;have ei:zDy∘prD=id:=funext fun p=>by simp only[Function.comp,zEU,id]
    rw[ei,List.map_id,List.map_id] at this;rw[this];exact z'
  rw[this];exact q'
 ·refine .inr ⟨fun n l z=>hx ⟨n,l,z⟩,?_⟩
  have:b=false:=by
   cases hb':b with
   | false=>rfl
   | true =>
    obtain⟨n,l,z⟩:=hb.mp hb';exact absurd ⟨n,l,((zD2 hl).mpr z).1⟩ hx
  rw[this] at q';exact q'
theorem zKJ(ds:List D)(G:Gp)(R:Q2)(h:zAA ds G R):ds.length=1/\zCZ (zj R) (zK ["text","words","web"] ds) G:=by
 obtain⟨t,n,l,rfl,hl,h60,hw,h⟩:=h;refine⟨rfl,?_⟩;unfold zCZ;rw[show zK ["text","words","web"] [.str t]=[some (.str t),none,none] from rfl];have w:PuL (yz zb (zB (zA 0) zG)) [some (.str t),none,none] G ((zx t).map D.str):=zCq (zI (zF (d:=.str t) rfl) zS) fun u0 u0 u0 q'=>⟨t,rfl,hl,q'⟩
 refine wZ (zGz w fun a ha=>?_);simp only[gN,fH,fG];have ls:Ls (zh G a ((zx t).map D.str)) a ((zx t).map D.str):=.inl zU;have sb:L3.Sub G (zh G a ((zx t).map D.str)):=.new ha;generalize zh G a ((zx t).map D.str)=G1 at ls sb;have wl:∀ w∈zx t,w.length<=1000000:=fun w hw=>gt (zHm hw) hl;generalize zx t=ws at hw ls wl;have hw0:=hw;obtain⟨rfl,h1,h9,hp,hr⟩:=hw;refine yA (by have:=zKI (σ:=[some (.str t),some (.adr a),none]) (l:=a) rfl ls;simpa using this) ?_;refine wn (zQ7 (σ:=[some (.str t),some (.adr a),none]) (l:=a) rfl ls rfl wl rfl) ?_;simp only[gN,fH,fG];have h60':(l.map zAR).length<=60:=by rw[fE];exact h60
 refine yA (yW (b:=true) (yr (zI0 (a:=dig n) (r:=l.map zAR) (zF rfl) h60' ⟨fun u0=>⟨n,l,hw0⟩,fun u0=>rfl⟩))) ?_;have:=((zD2 h60').mpr hw0).1.1;rw[this];exact wT (zF rfl) ⟨G,sb,h⟩
def CW(G:Gp)(d:D):Prop:=Odd G d\/∃ t:Str,d=.str t/\t.length<=1000000/\(zx t).length<=60/\∀ n l,¬ Wt (zx t) n l
def wc:Cnd:=fun ds G E=>∃ d,ds=[d]/\CW G d/\∀ G',L3.Sub G G'->E G'
def zBr:(Gp->Prop)->S2->Gp->Prop:=(fun E σ G=>(fun E σ G=>(zB (zA 0) zG) σ G fun ds G2=>yd ds G2 E) E σ G\/(fun E σ G=>(fun E σ G=>(zp (zi (yz zb (zB (zA 0) zG))) (gN 1)) { nx:=(fun E σ G=>(zAh (xB (zO (fII fun i j=>.bl (decide (i<j))) (zJ yF (zB (zA 1) zG)) (xC (.int 2)))) (xB (zO (yY true) (zO zz (zA 1) 21#0) (xC (.str ":"))))) σ G fun b G2=>b=true/\(fun E σ G=>(xC (.str "writes no web")) σ G fun u0 G2=>E G2) E σ G2) E,rt:=fun u0 u0=>False } σ G) E σ G\/(fun E σ G=>(zp (zi (yz zb (zB (zA 0) zG))) (gN 1)) { nx:=(fun E σ G=>(wM (zAh (xB (zO (fII fun i j=>.bl (decide (i<j))) (zJ yF (zB (zA 1) zG)) (xC (.int 2)))) (xB (zO (yY true) (zO zz (zA 1) 21#0) (xC (.str ":"))))) 26#0 zZ) { nx:=(fun E σ G=>(zp (zBI (zB (zJ zq (zB (zO zz (zA 1) (xC (.int 0))) zG)) (zB (yZ zAN (yk (iF (yR (zA 1) (yU (xC (.int 2))) yH)) bd1 zAJ (zJ wF (zB (zA 3) zG)))) zG))) (gN 2)) { nx:=(fun E σ G=>(yg (xB (zJ ww (zB (zA 2) zG)))) σ G fun b G2=>b=true/\(fun E σ G=>(xC (.str "writes no web")) σ G fun u0 G2=>E G2) E σ G2) E,rt:=fun u0 u0=>False } σ G) E,rt:=fun u0 u0=>False } σ G) E,rt:=fun u0 u0=>False } σ G) E σ G) E σ G)
theorem zI1(ds:List D)(G:Gp)(E:Gp->Prop)(h:wc ds G E):ds.length=1/\zBr E (zK ["text","words","web"] ds) G:=by
 obtain⟨d,rfl,hc,h⟩:=h;refine⟨rfl,?_⟩;unfold zBr;rcases hc with ho | ⟨t,rfl,hl,h60,hn⟩
 ·exact .inl (zI (zF (i:=0) (d:=d) rfl) zS G (.refl G) _ ⟨d,rfl,ho,h G (.refl G)⟩)
 ·refine .inr ?_
  rw[show zK ["text","words","web"] [.str t]=[some (.str t),none,none] from rfl];have w:PuL (yz zb (zB (zA 0) zG)) [some (.str t),none,none] G ((zx t).map D.str):=zCq (zI (zF (d:=.str t) rfl) zS) fun u0 u0 u0 q'=>⟨t,rfl,hl,q'⟩
  have wl:∀ w∈zx t,w.length<=1000000:=fun w hw=>gt (zHm hw) hl;generalize zx t=ws at hn w wl h60;by_cases hb:(decide (2<=ws.length)&&decide (ws[1]?=some (":":Str)))=true
  ·refine .inr ?_
   rw[fW,decide_eq_true_eq,decide_eq_true_eq] at hb;obtain⟨a,b,r,e⟩:=zOL (show ¬ ws.length<2 by omega);have eb:b=":":=by have:=hb.2;rw[e] at this;simpa using this
   subst eb;have hr:r.length<=60:=by rw[e] at h60;simp at h60;omega
   refine zGz w fun p hp=>?_;have ls:Ls (zh G p (ws.map D.str)) p (ws.map D.str):=.inl zU;have sb:L3.Sub G (zh G p (ws.map D.str)):=.new hp;generalize zh G p (ws.map D.str)=G1 at ls sb;simp only[gN,fH,fG];refine zQz (by have:=zKI (σ:=[some (.str t),some (.adr p),none]) (l:=p) rfl ls;rw[decide_eq_true (show 2<=ws.length by omega),decide_eq_true hb.2] at this;exact this) ?_;simp only[zZ,zp];refine zQ7 (σ:=[some (.str t),some (.adr p),none]) (l:=p) rfl ls e wl rfl G1 (.refl G1) _ ?_;simp only[gN,fH,fG];refine yW (b:=false) (yr (zI0 (σ:=[some (.str t),some (.adr p),some (zD1 a r)]) (a:=a) (r:=r) (b:=false) (zF (i:=2) rfl) hr ⟨fun z=>(by cases z),fun⟨n,l,z⟩=>absurd (e▸z) (hn n l)⟩)) G1 (.refl G1) _ ⟨rfl,h _ sb⟩
  ·refine .inl (zGz w fun p hp=>?_)
   have ls:Ls (zh G p (ws.map D.str)) p (ws.map D.str):=.inl zU;have:=zKI (σ:=[some (.str t),some (.adr p),none]) (l:=p) rfl ls;have hb':(decide (2<=ws.length)&&decide (ws[1]?=some (":":Str)))=false:=by simpa using hb
   rw[hb'] at this;exact this _ (.refl _) _ ⟨rfl,h _ (.new hp)⟩
def wX:wq:=fun ds G R=>∃(t:Str) (n:Nat) (r:List Nat),ds=[.str t]/\t.length<=1000000/\Rt (zx t) n r/\R (.tup (r.map nD)) G
def zBs:wC:=(zW (zp (yZ zAN (yk (iF (yz zb (zB (zA 0) zG))) bd1 zAJ (zJ zq (zB (zA 2) zG)))) (gN 1)) (zW (wM (yg (xB (zJ wz (zB (zA 1) zG)))) 26#0 zZ) (zk (zA 1))))
theorem zI2{G:Gp}{t:Str}(hl:t.length<=1000000):zn (yZ zAN (yk (iF (yz zb (zB (zA 0) zG))) bd1 zAJ (zJ zq (zB (zA 2) zG)))) [some (.str t),none] G (.tup ((zx t).map wB)):=by
 have w:PuL (yz zb (zB (zA 0) zG)) [some (.str t),none] G ((zx t).map D.str):=zCq (zI (zF (d:=.str t) rfl) zS) fun u0 u0 u0 q=>⟨t,rfl,hl,q⟩
 have m:=zB0 (σ:=[some (.str t),none]) (G:=G) (bd:=bd1) (te:=(zJ zq (zB (zA 2) zG))) (fun d=>match d with | .str w=>wB w | _=>.non) (fun d=>[d]) (zOK w) fun x hx=>by
  obtain⟨w,hp,rfl⟩:=gf.mp hx;exact⟨rfl,yK (zI (zF rfl) zS) fun u0 u0 u0 q'=>⟨w,rfl,gt (zHm hp) hl,q'⟩⟩
 have e:iA (fun d=>match d with | .str w=>wB w | _=>.non) ((zx t).map D.str)=(zx t).map wB:=by rw[gk];rfl
 rw[e] at m;exact zFf m
theorem zG5{σ:S2}{G:Gp}{t:zm}{ws:List Str}(h:zn t σ G (.tup (ws.map wB)))(hl:ws.length<=1000):zn (zJ wz (zB t zG)) σ G (.bl (zCg (ws.map wB))):=yK (zI h zS) fun u0 u0 u0 q=>⟨_,rfl,.inl ⟨_,rfl,fun x hx=>by obtain⟨w,u0,rfl⟩:=gf.mp hx;exact zMO w,by rw[fE];exact hl,q⟩⟩
theorem zI3(ds:List D)(G:Gp)(R:Q2)(h:wX ds G R):ds.length=1/\zBs (zj R) (zK ["text","ring"] ds) G:=by
 obtain⟨t,n,r,rfl,hl,hr,h⟩:=h;refine⟨rfl,?_⟩;unfold zBs;rw[show zK ["text","ring"] [.str t]=[some (.str t),none] from rfl];refine wn (zI2 hl) ?_;simp only[gN,fH,fG];have hB:=(zDJ (zx t)).mpr ⟨n,r,hr⟩;have hlen:(zx t).length<=1000:=by
  have:=hr.2.1.len;have:=hr.2.2.2;rw[hr.1,fE];omega
 refine yA (yW (b:=true) (yr (by have:=zG5 (σ:=[some (.str t),some (.tup ((zx t).map wB))]) (G:=G) (t:=zA 1) (ws:=zx t) (zF rfl) hlen;rw[hB] at this;exact this))) ?_;have e:(zx t).map wB=r.map nD:=by rw[hr.1];exact zF2 fun x hx=>zKF hr.2.1 hr.2.2.2 hx
 rw[e];exact wT (zF rfl) (.of h)
def CR(G:Gp)(d:D):Prop:=Odd G d\/∃ t:Str,d=.str t/\t.length<=1000000/\(zx t).length<=60/\∀ n r,¬ Rt (zx t) n r
def wP:Cnd:=fun ds G E=>∃ d,ds=[d]/\CR G d/\∀ G',L3.Sub G G'->E G'
def zBN:(Gp->Prop)->S2->Gp->Prop:=(fun E σ G=>(fun E σ G=>(zB (zA 0) zG) σ G fun ds G2=>yd ds G2 E) E σ G\/(fun E σ G=>(zp (yZ zAN (yk (iF (yz zb (zB (zA 0) zG))) bd1 zAJ (zJ zq (zB (zA 2) zG)))) (gN 1)) { nx:=(fun E σ G=>(yg (xB (zJ wz (zB (zA 1) zG)))) σ G fun b G2=>b=true/\(fun E σ G=>(xC (.str "writes no ring")) σ G fun u0 G2=>E G2) E σ G2) E,rt:=fun u0 u0=>False } σ G) E σ G)
theorem zHn(ds:List D)(G:Gp)(E:Gp->Prop)(h:wP ds G E):ds.length=1/\zBN E (zK ["text","ring"] ds) G:=by
 obtain⟨d,rfl,hc,h⟩:=h;refine⟨rfl,?_⟩;unfold zBN;rcases hc with ho | ⟨t,rfl,hl,h60,hn⟩
 ·exact .inl (zI (zF (i:=0) (d:=d) rfl) zS G (.refl G) _ ⟨d,rfl,ho,h G (.refl G)⟩)
 ·refine .inr ?_
  rw[show zK ["text","ring"] [.str t]=[some (.str t),none] from rfl];refine zI2 hl G (.refl G) _ ?_;have hB:zCg ((zx t).map wB)=false:=by
   cases q:zCg ((zx t).map wB) with
   | false=>rfl
   | true=>obtain⟨n,r,z⟩:=(zDJ (zx t)).mp q;exact absurd z (hn n r)
  have p:=zG5 (σ:=[some (.str t),some (.tup ((zx t).map wB))]) (G:=G) (t:=zA 1) (ws:=zx t) (zF rfl) 17#0;rw[hB] at p;have p2:=yW (yr p);exact p2 G (.refl G) (fun b G2=>b=true/\E G2) ⟨rfl,h G (.refl G)⟩
def ym:wq:=fun ds G R=>∃ b:Bool,ds=[.bl b]/\R (.str (if b=true then "yes" else "no")) G
def zBt:wC:=(zk (zDs (xB (zA 0)) (xC (.str "yes")) (xC (.str "no"))))
theorem zI4(ds:List D)(G:Gp)(R:Q2)(h:ym ds G R):ds.length=1/\zBt (zj R) (zK ["truth"] ds) G:=by
 obtain⟨b,rfl,h⟩:=h;refine⟨rfl,?_⟩;unfold zBt;refine wT (zFH (b:=b) (yr (zF (i:=0) (d:=.bl b) rfl)) (fun hb=>?_) fun hb=>?_) (.of h)
 ·rw[if_pos hb];exact zv
 ·rw[if_neg (by rw[hb];simp)];exact zv
def zAB:Cnd:=fun ds G E=>∃(n k:Nat) (d:D),ds=[.tup [nD n,d],nD k]/\n<=k/\E G
def zBO:TX2:=(fun E σ G=>(xB (zO (fII fun i j=>.bl (decide (j<=i))) (zA 1) (zO zz (zA 0) (xC (.int 0))))) σ G fun b G2=>b=true/\(fun E σ G=>(xC (.str "no place of that web")) σ G fun u0 G2=>E G2) E σ G2)
theorem zHo(ds:List D)(G:Gp)(E:Gp->Prop)(h:zAB ds G E):ds.length=2/\zBO E (zK ["web","place"] ds) G:=by
 obtain⟨n,k,d,rfl,hk,h⟩:=h;refine⟨rfl,?_⟩;unfold zBO;exact⟨by simp;omega,h⟩
def yQ:Cnd:=fun ds G E=>∃ a b:Nat,ds=[nD a,nD b]/\b<a/\b<100/\E G
def zAn:TX2:=(fun E σ G=>(xB (zO (fII fun i j=>.bl (decide (j<i))) (zA 0) (zA 1))) σ G fun b G2=>b=true/\(fun E σ G=>(xFs [1]) σ G fun u0 G2=>E G2) E σ G2)
theorem zKK{σ:S2}{G:Gp}{t u:zm}{a b:Nat}{c:Bool}(h:zn t σ G (nD a))(h':zn u σ G (nD b))(e:decide (b<a)=c):zn (zO (fII fun i j=>.bl (decide (j<i))) t u) σ G (.bl c):=by
 have:=zNC (g:=fun i j=>.bl (decide (j<i))) h h';have e2:decide ((b:Int)<(a:Int))=c:=by rw[<-e];simp
 rw[e2] at this;exact this
theorem zF3(ds:List D)(G:Gp)(E:Gp->Prop)(h:yQ ds G E):ds.length=2/\zAn E (zK ["many","most"] ds) G:=by
 obtain⟨a,b,rfl,hab,hb,h⟩:=h;refine⟨rfl,?_⟩;unfold zAn;refine(yr (zKK (σ:=[some (nD a),some (nD b)]) (G:=G) (a:=a) (b:=b) (c:=true) (zF (i:=0) rfl) (zF (i:=1) rfl) (by simp;omega))) G (.refl G) _ ⟨rfl,fun k hk=>?_,fun x=>h⟩;rw[gO.mp hk];exact⟨b,hb,rfl⟩
def zEa(m:Nat):Cnd:=fun ds G E=>∃(n:Nat) (d:D),ds=[.tup [nD n,d]]/\m<n/\E G
def zAo:Cnd:=zEa 7
def zBH:Cnd:=zEa 7
def zAC:Cnd:=zEa 5
def zCa:TX2:=(fun E σ G=>(zB (zO zz (zA 0) (xC (.int 0))) (zB (xC (.int 7)) zG)) σ G fun ds G2=>yQ ds G2 E)
def zEb:TX2:=zCa
def zCb:TX2:=(fun E σ G=>(zB (zO zz (zA 0) (xC (.int 0))) (zB (xC (.int 5)) zG)) σ G fun ds G2=>yQ ds G2 E)
theorem zKL(ds:List D)(G:Gp)(E:Gp->Prop)(h:zAo ds G E):ds.length=1/\zCa E (zK ["web","order"] ds) G:=by
 obtain⟨n,d,rfl,hn,h⟩:=h;exact⟨rfl,⟨n,7,rfl,hn,by omega,h⟩⟩
theorem zMP(ds:List D)(G:Gp)(E:Gp->Prop)(h:zBH ds G E):ds.length=1/\zEb E (zK ["web","lists","edge","turned","places"] ds) G:=by
 obtain⟨n,d,rfl,hn,h⟩:=h;exact⟨rfl,⟨n,7,rfl,hn,by omega,h⟩⟩
theorem zHp(ds:List D)(G:Gp)(E:Gp->Prop)(h:zAC ds G E):ds.length=1/\zCb E (zK ["web","rings","place"] ds) G:=by
 obtain⟨n,d,rfl,hn,h⟩:=h;exact⟨rfl,⟨n,5,rfl,hn,by omega,h⟩⟩
def wK:wq:=fun ds G R=>∃(w:Str) (k:Nat),ds=[.str w]/\w.length<=1000000/\wB w=nD k/\k<=8/\R (nD k) G
def wD:Cnd:=fun ds G E=>∃ w:Str,ds=[.str w]/\w.length<=1000000/\(wB w=.non\/∃ k:Nat,wB w=nD k/\8<k)/\E G
def zBP:wC:=(zW (zp (zJ zq (zB (zA 0) zG)) (gN 1)) (zW (wM (zAh (xB (zO (zES false) (zA 1) (xC .non))) (xB (zO (fII fun i j=>.bl (decide (j<i))) (zA 1) (xC (.int 8))))) 26#0 zZ) (zk (zA 1))))
def zBB:TX2:=(fun E σ G=>(zp (zJ zq (zB (zA 0) zG)) (gN 1)) { nx:=(fun E σ G=>(zAh (xB (zO (zES false) (zA 1) (xC .non))) (xB (zO (fII fun i j=>.bl (decide (j<i))) (zA 1) (xC (.int 8))))) σ G fun b G2=>b=true/\(fun E σ G=>(xC (.str "no place")) σ G fun u0 G2=>E G2) E σ G2) E,rt:=fun u0 u0=>False } σ G)
theorem zHq{σ:S2}{G:Gp}{t:zm}(h:zn t σ G .non):zn (zO (zES false) t (xC .non)) σ G (.bl true):=yu h zv fun G2 e R q=>q
theorem zLH{σ:S2}{G:Gp}{t:zm}{i:Int}(h:zn t σ G (.int i)):zn (zO (zES false) t (xC .non)) σ G (.bl false):=yu h zv fun G2 e R q=>q
theorem zKM{σ:S2}{G:Gp}{w:Str}{d:D}{i:Nat}(hv:look σ i=some (.str w))(hl:w.length<=1000000)(hk:wB w=d):zn (zJ zq (zB (zA i) zG)) σ G d:=yK (zI (zF (d:=.str w) hv) zS) fun u0 u0 u0 q=>⟨w,rfl,hl,by rw[hk];exact q⟩
theorem zHr(ds:List D)(G:Gp)(R:Q2)(h:wK ds G R):ds.length=1/\zBP (zj R) (zK ["word","place"] ds) G:=by
 obtain⟨w,k,rfl,hl,hk,h8,h⟩:=h;refine⟨rfl,?_⟩;unfold zBP;refine wn (d:=nD k) (zKM (w:=w) rfl hl hk) ?_;show zW _ _ _ [some (.str w),some (nD k)] G;refine yA (zAv (b:=false) (c:=false) (yr (zLH (i:=k) (zF (i:=1) rfl))) fun u0=>yr (zKK (a:=k) (b:=8) (zF (i:=1) rfl) zv (by simp;omega))) ?_;exact wT (zF (i:=1) (d:=nD k) rfl) (.of h)
theorem zGW(ds:List D)(G:Gp)(E:Gp->Prop)(h:wD ds G E):ds.length=1/\zBB E (zK ["word","place"] ds) G:=by
 obtain⟨w,rfl,hl,hk,h⟩:=h;refine⟨rfl,?_⟩;unfold zBB;rcases hk with hk | ⟨k,hk,h8⟩
 ·refine zKM (w:=w) (σ:=[some (.str w),none]) rfl hl hk G (.refl G) _ ?_
  exact(zAv (b:=true) (c:=true) (u:=xB (zO (fII fun i j=>.bl (decide (j<i))) (zA 1) (xC (.int 8)))) (yr (zHq (zF (σ:=[some (.str w),some .non]) (i:=1) rfl))) fun z=>by cases z) G (.refl G) (fun b G2=>b=true/\E G2) ⟨rfl,h⟩
 ·refine zKM (w:=w) (σ:=[some (.str w),none]) rfl hl hk G (.refl G) _ ?_
  exact(zAv (b:=false) (c:=true) (yr (zLH (i:=k) (zF (σ:=[some (.str w),some (nD k)]) (i:=1) rfl))) fun u0=>yr (zKK (a:=k) (b:=8) (zF (i:=1) rfl) zv (by simp;omega))) G (.refl G) (fun b G2=>b=true/\E G2) ⟨rfl,h⟩
noncomputable def zSp(s:Str):Bool:=!(Builtin.Str.occurrences ("abcdefghijklmnopqrstuvwxyz":Str) s 0 ("abcdefghijklmnopqrstuvwxyz":Str).length 1).isEmpty
noncomputable def zUB(w:Str):Bool:=decide ((1:Int)<=(w.length:Nat))&&decide (((w.length:Nat):Int)<=8)
noncomputable def zG6(w:Str):Bool:=zUB w&&((sgs w).map zSp).all id
def zAD:wq:=fun ds G R=>∃ w:Str,ds=[.str w]/\w.length<=1000000/\R (.bl (zG6 w)) G
def zDK:wC:=(zk (zE0 (zBL (fII fun i j=>.bl (decide (i<=j))) (fII fun i j=>.bl (decide (i<=j))) 21#0 (zJ zDa (zB (zA 0) zG)) (xC (.int 8))) (yZ zHR (yk (iS (zA 0)) bd1 zAJ (zO zHT (zA 1) (xC (.str "abcdefghijklmnopqrstuvwxyz")))))))
theorem zUC{σ:S2}{G:Gp}{t:zm}{x:Str}(h:zn t σ G (.str x))(hl:x.length<=1000000):PuI (iS t) σ G ((sgs x).map D.str):=fun G2 e R q=>h G2 e _ ⟨hl,q _ _ (.refl _) fun u0 u0=>trivial⟩
theorem zOM{σ:S2}{G:Gp}{ta tb:zm}{a b:Bool}(ha:zn ta σ G (.bl a))(hb:a=true->zn tb σ G (.bl b)):zn (zE0 ta tb) σ G (.bl (a&&b)):=fun G2 e R q=>ha G2 e _ (by
 show if a=true then _ else _;cases a with
 | true=>rw[if_pos rfl];exact hb rfl G2 e _ q
 | false=>rw[if_neg 27#0];exact q)
theorem zMQ(ds:List D)(G:Gp)(R:Q2)(h:zAD ds G R):ds.length=1/\zDK (zj R) (zK ["word"] ds) G:=by
 obtain⟨w,rfl,hl,h⟩:=h;refine⟨rfl,?_⟩;unfold zDK;rw[show zK ["word"] [.str w]=[some (.str w)] from rfl];have c1:zn (zBL (fII fun i j=>.bl (decide (i<=j))) (fII fun i j=>.bl (decide (i<=j))) 21#0 (zJ zDa (zB (zA 0) zG)) (xC (.int 8))) [some (.str w)] G (.bl (zUB w)) :=
  zEX (f:=fun i j=>decide (i<=j)) (g:=fun i j=>decide (i<=j)) (i:=1) (j:=(w.length:Nat)) (k:=8) zv (yK (zI (zF (d:=.str w) rfl) zS) fun u0 u0 R' q=>⟨hl,q⟩) zv
 have c2:PuL (yk (iS (zA 0)) bd1 zAJ (zO zHT (zA 1) (xC (.str "abcdefghijklmnopqrstuvwxyz")))) [some (.str w)] G (((sgs w).map zSp).map D.bl):=by
  have:=zFB (σ:=[some (.str w)]) (G:=G) (bd:=bd1) (tc:=zAJ) (te:=zO zHT (zA 1) (xC (.str "abcdefghijklmnopqrstuvwxyz"))) (fun u0=>true) (fun d=>match d with | .str s=>.bl (zSp s) | d=>d) (fun d=>[d]) (zUC (zF (i:=0) (d:=.str w) rfl) hl) (fun x hx=>⟨rfl,fun G2 e R' q=>q,fun u0=>by
   obtain⟨s,hs,rfl⟩:=gf.mp hx;exact yu (x:=.str s) (y:=.str "abcdefghijklmnopqrstuvwxyz") (zF (i:=1) rfl) zv fun G2 u0 R' q=>q⟩)
  rw[show((sgs w).map D.str).filter (fun u0=>true)=(sgs w).map D.str from List.filter_eq_self.mpr fun u0 u0=>rfl,gk] at this;rw[gk];exact this
 exact wT (zOM c1 fun u0=>zFz c2) (.of h)
set_option genInjectivity true in
inductive WR:Str->Str->D->Prop
 | web {w:Str} {n:Nat} {l:List (Nat×Nat)} (h:l.length<=60) (h':Wt (zx w) n l):WR "web text" w (.tup [nD n,.tup (l.map prD)])
 | ring {w:Str} {n:Nat} {r:List Nat} (h:Rt (zx w) n r):WR "ring text" w (.tup (r.map nD))
 | place {w:Str} {k:Nat} (h:wB w=nD k) (h8:k<=8):WR "place" w (nD k)
 | name {k w:Str} (h1:(k=="web text")=false) (h2:(k=="ring text")=false) (h3:(k=="place")=false) (h:zG6 w=true):WR k w (.str w)
def yT:wq:=fun ds G R=>∃(k w:Str) (d:D),ds=[.str k,.str w]/\w.length<=1000000/\WR k w d/\R d G
def zBu:wC:=(zW (wM (xB (zO (yY false) (zA 0) (xC (.str "web text")))) (zk (zJ zAA (zB (zA 1) zG))) zZ) (zW (wM (xB (zO (yY false) (zA 0) (xC (.str "ring text")))) (zk (zJ wX (zB (zA 1) zG))) zZ) (zW (wM (xB (zO (yY false) (zA 0) (xC (.str "place")))) (zk (zJ wK (zB (zA 1) zG))) zZ) (zW (wM (yg (xB (zJ zAD (zB (zA 1) zG)))) 26#0 zZ) (zk (zA 1))))))
theorem zDL{σ:S2}{G:Gp}{tc:TT2}{t u v:wC}{E:yO}(h:PuT tc σ G true)(h':t { E with nx:=v E } σ G):zW (wM tc t u) v E σ G:=h G (.refl G) _ (by rw[if_pos rfl];exact h')
theorem yj{σ:S2}{G:Gp}{i:Nat}{k c:Str}(h:look σ i=some (.str k)):PuT (xB (zO (yY false) (zA i) (xC (.str c)))) σ G (k==c):=yr (zCe (x:=.str k) (y:=.str c) (zF (d:=.str k) h) zv rfl rfl (by rw[if_neg 27#0];rfl))
theorem zI5(ds:List D)(G:Gp)(R:Q2)(h:yT ds G R):ds.length=2/\zBu (zj R) (zK ["kind","word"] ds) G:=by
 obtain⟨k,w,d,rfl,hl,hd,h⟩:=h;refine⟨rfl,?_⟩;unfold zBu;rw[show zK ["kind","word"] [.str k,.str w]=[some (.str k),some (.str w)] from rfl];cases hd with
 | web h1 h2=>exact zDL (yj (k:="web text") rfl) ⟨w,_,_,rfl,hl,h1,h2,.of h⟩
 | ring h1=>exact yA (yj (k:="ring text") (c:="web text") rfl) (zDL (yj (k:="ring text") rfl) ⟨w,_,_,rfl,hl,h1,.of h⟩)
 | place h1 h8=>exact yA (yj (k:="place") (c:="web text") rfl) (yA (yj (k:="place") (c:="ring text") rfl) (zDL (yj (k:="place") rfl) ⟨w,_,rfl,hl,h1,h8,.of h⟩))
 | name e1 e2 e3 h1 =>
  have p1:=yj (σ:=[some (.str k),some (.str w)]) (G:=G) (i:=0) (k:=k) (c:="web text") rfl;have p2:=yj (σ:=[some (.str k),some (.str w)]) (G:=G) (i:=0) (k:=k) (c:="ring text") rfl;have p3:=yj (σ:=[some (.str k),some (.str w)]) (G:=G) (i:=0) (k:=k) (c:="place") rfl;rw[e1] at p1;rw[e2] at p2;rw[e3] at p3;refine yA p1 (yA p2 (yA p3 (yA (yW (b:=true) (yr (yK (d:=.bl true) (zI (zF (i:=1) (d:=.str w) rfl) zS) fun u0 u0 u0 q=>⟨w,rfl,hl,by rw[h1];exact q⟩))) (wT (zF (i:=1) (d:=.str w) rfl) (.of h)))))
def ye:Cnd:=fun ds G E=>∃ k w:Str,ds=[.str k,.str w]/\w.length<=1000000/\((k="web text"/\wc [.str w] G E)\/(k="ring text"/\wP [.str w] G E)\/(k="place"/\wD [.str w] G E)\/((k=="web text")=false/\(k=="ring text")=false/\(k=="place")=false/\zG6 w=false/\E G))
def zBQ:TX2:=(fun E σ G=>(fun E σ G=>(xB (zO (yY false) (zA 0) (xC (.str "web text")))) σ G fun b G2=>b=true/\(fun E σ G=>(zB (zA 1) zG) σ G fun ds G2=>wc ds G2 E) E σ G2) E σ G\/(fun E σ G=>(wM (xB (zO (yY false) (zA 0) (xC (.str "web text")))) (zk (zJ zAA (zB (zA 1) zG))) zZ) { nx:=(fun E σ G=>(fun E σ G=>(xB (zO (yY false) (zA 0) (xC (.str "ring text")))) σ G fun b G2=>b=true/\(fun E σ G=>(zB (zA 1) zG) σ G fun ds G2=>wP ds G2 E) E σ G2) E σ G\/(fun E σ G=>(wM (xB (zO (yY false) (zA 0) (xC (.str "ring text")))) (zk (zJ wX (zB (zA 1) zG))) zZ) { nx:=(fun E σ G=>(fun E σ G=>(xB (zO (yY false) (zA 0) (xC (.str "place")))) σ G fun b G2=>b=true/\(fun E σ G=>(zB (zA 1) zG) σ G fun ds G2=>wD ds G2 E) E σ G2) E σ G\/(fun E σ G=>(wM (xB (zO (yY false) (zA 0) (xC (.str "place")))) (zk (zJ wK (zB (zA 1) zG))) zZ) { nx:=(fun E σ G=>(yg (xB (zJ zAD (zB (zA 1) zG)))) σ G fun b G2=>b=true/\(fun E σ G=>(xC (.str "no name")) σ G fun u0 G2=>E G2) E σ G2) E,rt:=fun u0 u0=>False } σ G) E σ G) E,rt:=fun u0 u0=>False } σ G) E σ G) E,rt:=fun u0 u0=>False } σ G) E σ G)
theorem zCu{σ:S2}{G:Gp}{tc:TT2}{t:wC}{E:yO}(h:PuT tc σ G false)(h':E.nx σ G):wM tc t zZ E σ G:=h G (.refl G) _ (by rw[if_neg 27#0];exact h')
theorem zHs(ds:List D)(G:Gp)(E:Gp->Prop)(h:ye ds G E):ds.length=2/\zBQ E (zK ["kind","word"] ds) G:=by
 obtain⟨k,w,rfl,hl,h⟩:=h;refine⟨rfl,?_⟩;unfold zBQ;rw[show zK ["kind","word"] [.str k,.str w]=[some (.str k),some (.str w)] from rfl];have p1:=yj (σ:=[some (.str k),some (.str w)]) (G:=G) (i:=0) (k:=k) (c:="web text") rfl;have p2:=yj (σ:=[some (.str k),some (.str w)]) (G:=G) (i:=0) (k:=k) (c:="ring text") rfl;have p3:=yj (σ:=[some (.str k),some (.str w)]) (G:=G) (i:=0) (k:=k) (c:="place") rfl;rcases h with ⟨rfl,h⟩ | ⟨rfl,h⟩ | ⟨rfl,h⟩ | ⟨e1,e2,e3,hn,h⟩
 ·exact .inl (p1 G (.refl G) _ ⟨rfl,h⟩)
 ·exact .inr (zCu p1 (.inl (p2 G (.refl G) _ ⟨rfl,h⟩)))
 ·exact .inr (zCu p1 (.inr (zCu p2 (.inl (p3 G (.refl G) _ ⟨rfl,h⟩)))))
 ·rw[e1] at p1
  rw[e2] at p2;rw[e3] at p3;refine .inr (zCu p1 (.inr (zCu p2 (.inr (zCu p3 ?_)))));exact(yW (b:=false) (yr (yK (sp:=zAD) (d:=.bl false) (zI (zF (σ:=[some (.str k),some (.str w)]) (i:=1) (d:=.str w) rfl) zS) fun u0 u0 u0 q=>⟨w,rfl,hl,by rw[hn];exact q⟩))) G (.refl G) (fun b G2=>b=true/\E G2) ⟨rfl,h⟩
theorem zKN(n:Nat)(q:Nat×Nat->Bool):flat 8 (zDe n q)=true:=by
 unfold zDe;show([nD n,.tup (((prs n).filter q).map prD)]:List D).all (flat 7)=true;simp only[List.all_cons,List.all_nil,Bool.and_true,fW];refine⟨rfl,?_⟩;show(((prs n).filter q).map prD).all (flat 6)=true;rw[ge];intro x hx;obtain⟨p,u0,rfl⟩:=gf.mp hx;rfl
def zAp:wq:=fun ds G R=>∃(n:Nat) (r:List Nat) (v:D),ds=[.tup (r.map nD),v]/\zAz n r/\n<=100/\flat 8 v=true/\R (.bl (eqD (zDe n (zCS r)) v)) G
def zFI:wC:=(zk (zO (yY false) (zJ zA0 (zB (zA 0) zG)) (zA 1)))
theorem zQO(ds:List D)(G:Gp)(R:Q2)(h:zAp ds G R):ds.length=2/\zFI (zj R) (zK ["ring","web"] ds) G:=by
 obtain⟨n,r,v,rfl,hr,hn,fv,h⟩:=h;refine⟨rfl,?_⟩;unfold zFI;exact wT (zCe (x:=zDe n (zCS r)) (y:=v) (yK (zI (zF rfl) zS) fun u0 u0 u0 q=>⟨n,r,rfl,hr,hn,q⟩) (zF rfl) (zKN _ _) fv rfl) (.of h)
structure yM (C a:Addr) (ws rs:List (Str×D)) (G:Gp):Prop where
 ex:∃ dx p q,G.dc a=some (.ins C dx [("webs",.adr p),("rings",.adr q)])/\G.dc p=some (.dk ws)/\G.dc q=some (.dk rs)/\p≠q
def zAK(C:Addr):wq:=fun ds G R=>∃(a dx:Addr),ds=[.adr a]/\G.dc a=some (.ins C dx [])/\∀ G':Gp,G'.m=G.m->G'.ro=G.ro->yM C a [] [] G'->R .non G'
def zCv(aa:Addr):wC:=(zW (zHV aa zJv (zA 0) "webs") (zHV aa zJv (zA 0) "rings"))
theorem zI6(C:Addr)(ds:List D)(G:Gp)(R:Q2)(h:zAK C ds G R):ds.length=1/\zCv C (zj R) (zK ["self"] ds) G:=by
 obtain⟨a,dx,rfl,ha,h⟩:=h;refine⟨rfl,fun p hp=>?_⟩;have pa:a≠p:=fun z=>by subst z;rw[ha] at hp;cases hp
 refine⟨dx,[],by rw[zAI pa];exact ha,by simp,fun q hq=>?_⟩;have qa:a≠q:=fun z=>by subst z;rw[wO] at hq;cases hq
 rw[zAI qa.symm] at hq;have qp:q≠p:=fun z=>by subst z;rw[wO] at hq;cases hq
 refine⟨dx,[("webs",.adr p)],by rw[zAI qa,wO];rfl,by simp,?_⟩;refine FgR.of (h _ rfl rfl ⟨dx,p,q,wO,?_,?_,qp.symm⟩)
 ·rw[zAI pa.symm,zAI qp.symm,zAI pa.symm,wO]
 ·rw[zAI qa.symm,wO]
set_option genInjectivity true in
inductive LK (ws rs:List (Str×D)):Str->D->D->Prop
 | oth {k:Str} {d:D} (h:(k=="web")=false) (h':(k=="ring")=false):LK ws rs k d d
 | web {s:Str} {xs:List D} (h:ws.lookup s=some (.tup xs)):LK ws rs "web" (.str s) (.tup xs)
 | ring {s:Str} {xs:List D} (h:rs.lookup s=some (.tup xs)):LK ws rs "ring" (.str s) (.tup xs)
def yD(C:Addr):wq:=fun ds G R=>∃(a:Addr) (ws rs:List (Str×D)) (k:Str) (d d':D),ds=[.adr a,.str k,d]/\yM C a ws rs G/\LK ws rs k d d'/\R d' G
def zBv(aa:Addr):wC:=(zW (wM (xB (zO (fIn true) (zA 1) (zBI (zB (xC (.str "web")) (zB (xC (.str "ring")) zG))))) (zk (zA 2)) zZ) (zW (zp (zDs (xB (zO (yY false) (zA 1) (xC (.str "web")))) (zDv (zCj aa (zA 0) "webs") (zA 2)) (zDv (zCj aa (zA 0) "rings") (zA 2))) (gN 3)) (zW (wM (xB (zO (zES false) (zA 3) (xC .non))) 26#0 zZ) (zk (zA 3)))))
theorem zF4{σ:S2}{G:Gp}{i:Nat}{k:Str}(h:look σ i=some (.str k)):PuT (xB (zO (fIn true) (zA i) (zBI (zB (xC (.str "web")) (zB (xC (.str "ring")) zG))))) σ G (!(("web"==k)||("ring"==k))) :=
 yr (zJ4 (x:=.str k) (ds:=[.str "web",.str "ring"]) (zF h) (zEN (zI zv (zI zv zS)) 27#0) rfl (fun d hd=>by simp only[fS,gw,or_false] at hd;rcases hd with rfl | rfl<;>rfl) (by rw[if_pos rfl];simp only[List.any_cons,List.any_nil,Bool.or_false];rfl))
theorem zLI{σ:S2}{G:Gp}{t:zm}{xs:List D}(h:zn t σ G (.tup xs)):zn (zO (zES false) t (xC .non)) σ G (.bl false):=yu h zv fun G2 e R q=>q
theorem zI7(C:Addr)(ds:List D)(G:Gp)(R:Q2)(h:yD C ds G R):ds.length=3/\zBv C (zj R) (zK ["self","kind","thing","found"] ds) G:=by
 obtain⟨a,ws,rs,k,d,d',rfl,⟨dx,p,q,e1,e2,e3,u0⟩,hk,h⟩:=h;refine⟨rfl,?_⟩;unfold zBv;rw[show zK ["self","kind","thing","found"] [.adr a,.str k,d]=[some (.adr a),some (.str k),some d,none] from rfl];have p0:=zF4 (σ:=[some (.adr a),some (.str k),some d,none]) (G:=G) (i:=1) (k:=k) rfl;cases hk with
 | oth h1 h2 =>
  have f1:("web"==k)=false:=beq_eq_false_iff_ne.mpr fun z=>(beq_eq_false_iff_ne.mp h1) z.symm;have f2:("ring"==k)=false:=beq_eq_false_iff_ne.mpr fun z=>(beq_eq_false_iff_ne.mp h2) z.symm;rw[f1,f2] at p0;exact zDL p0 (wT (zF (i:=2) (d:=d) rfl) (.of h))
 | @web s xs hl =>
  refine yA p0 ?_;refine wZ ?_;refine(yj (σ:=[some (.adr a),some (.str "web"),some (.str s),none]) (G:=G) (i:=1) (k:="web") (c:="web") rfl) G (.refl G) _ ?_;refine⟨dx,_,.adr p,e1,rfl,⟨ws,.inl e2⟩,ws,.inl e2,?_⟩;rw[hl];show zW _ _ _ [some (.adr a),some (.str "web"),some (.str s),some (.tup xs)] G;exact yA (yr (zLI (zF (i:=3) rfl))) (wT (zF (i:=3) (d:=.tup xs) rfl) (.of h))
 | @ring s xs hl =>
  refine yA p0 ?_;refine wZ ?_;refine(yj (σ:=[some (.adr a),some (.str "ring"),some (.str s),none]) (G:=G) (i:=1) (k:="ring") (c:="web") rfl) G (.refl G) _ ?_;refine⟨dx,_,.adr q,e1,rfl,⟨rs,.inl e3⟩,rs,.inl e3,?_⟩;rw[hl];show zW _ _ _ [some (.adr a),some (.str "ring"),some (.str s),some (.tup xs)] G;exact yA (yr (zLI (zF (i:=3) rfl))) (wT (zF (i:=3) (d:=.tup xs) rfl) (.of h))
def KpW(C a:Addr)(k:Str)(s:Str)(d:D)(ws rs:List (Str×D))(G:Gp):Prop:=(k="web"/\yM C a (putD s d ws) rs G)\/(k="ring"/\yM C a ws (putD s d rs) G)
def zD4(C:Addr):wq:=fun ds G R=>∃(a l:Addr) (ws rs:List (Str×D)) (k s:Str) (d:D),ds=[.adr a,.str k,.adr l]/\(k="web"\/k="ring")/\yM C a ws rs G/\Ls G l [.str s,d]/\((ws.map (·.1)).Nodup/\ws.length<1000)/\((rs.map (·.1)).Nodup/\rs.length<1000)/\∀ G':Gp,G'.m=G.m->G'.ro=G.ro->KpW C a k s d ws rs G'->R (.str "ok") G'
def zHt(aa:Addr):wC:=(zW (wM (xB (zO (yY false) (zA 1) (xC (.str "web")))) (zGw (zO zz (zA 2) 21#0) (zCj aa (zA 0) "webs") 28#0) (wM (xB (zO (yY false) (zA 1) (xC (.str "ring")))) (zGw (zO zz (zA 2) 21#0) (zCj aa (zA 0) "rings") 28#0) (wM (xB (zO (yY false) (zA 1) (xC (.str "of")))) (zGw (zJ zA0 (zB 28#0 zG)) (zCj aa (zA 0) "webs") (zO zz (zA 2) 21#0)) (wM (xB (zO (yY false) (zA 1) (xC (.str "turn")))) (zGw 26#0 (zCj aa (zA 0) "webs") (zO zz (zA 2) (xC (.int 2)))) (zW (zp 26#0 (gN 3)) (zW (wM (xB (zO (zES false) (zA 3) (xC .non))) (zk (xC (.str "none"))) zZ) (zGw (zA 3) (zCj aa (zA 0) "rings") (zO zz (zA 2) 21#0)))))))) (zk (xC (.str "ok"))))
theorem zQP{σ:S2}{G:Gp}{tc:TT2}{t u v:wC}{E:yO}(h:PuT tc σ G false)(h':u { E with nx:=v E } σ G):zW (wM tc t u) v E σ G:=h G (.refl G) _ (by rw[if_neg 27#0];exact h')
theorem ifY{σ:S2}{G:Gp}{tc:TT2}{t u:wC}{E:yO}(h:PuT tc σ G true)(h':t E σ G):wM tc t u E σ G:=h G (.refl G) _ (by rw[if_pos rfl];exact h')
theorem zSq(C:Addr)(ds:List D)(G:Gp)(R:Q2)(h:zD4 C ds G R):ds.length=3/\zHt C (zj R) (zK ["self","head","given","ring"] ds) G:=by
 obtain⟨a,l,ws,rs,k,s,d,rfl,hk,⟨dx,p,q,e1,e2,e3,e4⟩,ls,nw,nr,h⟩:=h;refine⟨rfl,?_⟩;unfold zHt;rw[show zK ["self","head","given","ring"] [.adr a,.str k,.adr l]=[some (.adr a),some (.str k),some (.adr l),none] from rfl];have ap:a≠p:=fun z=>by subst z;rw[e1] at e2;cases e2
 have aq:a≠q:=fun z=>by subst z;rw[e1] at e3;cases e3
 have i1:zn (zO zz (zA 2) 21#0) [some (.adr a),some (.str k),some (.adr l),none] G d:=zAl (k:=1) (zF (d:=.adr l) rfl) zv ls (ya (j:=1) rfl);have i0:zn 28#0 [some (.adr a),some (.str k),some (.adr l),none] G (.str s):=zAl (k:=0) (zF (d:=.adr l) rfl) zv ls (ya (j:=0) rfl);rcases hk with rfl | rfl
 ·refine zDL (yj (k:="web") rfl) ?_
  refine i1 G (.refl G) _ ⟨dx,_,.adr p,e1,rfl,i0 G (.refl G) _ ⟨ws,e2,nw.1,nw.2,FgR.of (h _ rfl rfl (.inl ⟨rfl,⟨dx,p,q,?_,wO,?_,e4⟩⟩))⟩⟩
  ·rw[zAI ap];exact e1
  ·rw[zAI e4.symm];exact e3
 ·refine zQP (yj (k:="ring") (c:="web") rfl) (ifY (yj (k:="ring") rfl) ?_)
  refine i1 G (.refl G) _ ⟨dx,_,.adr q,e1,rfl,i0 G (.refl G) _ ⟨rs,e3,nr.1,nr.2,FgR.of (h _ rfl rfl (.inr ⟨rfl,⟨dx,p,q,?_,?_,wO,e4⟩⟩))⟩⟩
  ·rw[zAI aq];exact e1
  ·rw[zAI e4];exact e2
def zAE(C:Addr):Cnd:=fun ds G E=>∃(a:Addr) (ws rs:List (Str×D)) (k s:Str),ds=[.adr a,.str k,.str s]/\s.length<=100/\yM C a ws rs G/\((k="web"/\ws.lookup s=none)\/(k="ring"/\rs.lookup s=none))/\E G
def zBR(aa:Addr):TX2:=(fun E σ G=>(wM (xB (zO (fIn true) (zA 1) (zBI (zB (xC (.str "web")) (zB (xC (.str "ring")) zG))))) (zk (zA 2)) zZ) { nx:=(fun E σ G=>(zp (zDs (xB (zO (yY false) (zA 1) (xC (.str "web")))) (zDv (zCj aa (zA 0) "webs") (zA 2)) (zDv (zCj aa (zA 0) "rings") (zA 2))) (gN 3)) { nx:=(fun E σ G=>(xB (zO (zES false) (zA 3) (xC .non))) σ G fun b G2=>b=true/\(fun E σ G=>(zP1 [1,2]) σ G fun u0 G2=>E G2) E σ G2) E,rt:=fun u0 u0=>False } σ G) E,rt:=fun u0 u0=>False } σ G)
theorem zD5{σ:S2}{G:Gp}{te:zm}{g:TG2}{E:yO}(h:te σ G fun d G1=>g d σ G1 E.nx):zp te g E σ G:=h
theorem zHu(C:Addr)(ds:List D)(G:Gp)(E:Gp->Prop)(h:zAE C ds G E):ds.length=3/\zBR C E (zK ["self","kind","thing","found"] ds) G:=by
 obtain⟨a,ws,rs,k,s,rfl,hs,⟨dx,p,q,e1,e2,e3,u0⟩,hk,h⟩:=h;refine⟨rfl,?_⟩;unfold zBR;rw[show zK ["self","kind","thing","found"] [.adr a,.str k,.str s]=[some (.adr a),some (.str k),some (.str s),none] from rfl];rcases hk with ⟨rfl,hl⟩ | ⟨rfl,hl⟩
 ·refine zCu (zF4 (k:="web") rfl) ?_
  dsimp only;refine zD5 (te:=zDs (xB (zO (yY false) (zA 1) (xC (.str "web")))) (zDv (zCj C (zA 0) "webs") (zA 2)) (zDv (zCj C (zA 0) "rings") (zA 2))) (g:=gN 3) ?_;refine(yj (σ:=[some (.adr a),some (.str "web"),some (.str s),none]) (G:=G) (i:=1) (k:="web") (c:="web") rfl) G (.refl G) _ ?_;refine⟨dx,_,.adr p,e1,rfl,⟨ws,.inl e2⟩,ws,.inl e2,?_⟩;rw[hl];refine(yr (zHq (zF (σ:=[some (.adr a),some (.str "web"),some (.str s),some .non]) (G:=G) (i:=3) rfl))) G (.refl G) (fun b G2=>b=true/\(zP1 [1,2]) [some (.adr a),some (.str "web"),some (.str s),some .non] G2 fun u0 G2=>E G2) ⟨rfl,fun i hi=>?_,fun u0=>h⟩;simp only[fS,gw,or_false] at hi;rcases hi with rfl | rfl
  ·exact⟨"web",by decide,rfl⟩
  ·exact⟨s,hs,rfl⟩
 ·refine zCu (zF4 (k:="ring") rfl) ?_
  dsimp only;refine zD5 (te:=zDs (xB (zO (yY false) (zA 1) (xC (.str "web")))) (zDv (zCj C (zA 0) "webs") (zA 2)) (zDv (zCj C (zA 0) "rings") (zA 2))) (g:=gN 3) ?_;refine(yj (σ:=[some (.adr a),some (.str "ring"),some (.str s),none]) (G:=G) (i:=1) (k:="ring") (c:="web") rfl) G (.refl G) _ ?_;refine⟨dx,_,.adr q,e1,rfl,⟨rs,.inl e3⟩,rs,.inl e3,?_⟩;rw[hl];refine(yr (zHq (zF (σ:=[some (.adr a),some (.str "ring"),some (.str s),some .non]) (G:=G) (i:=3) rfl))) G (.refl G) (fun b G2=>b=true/\(zP1 [1,2]) [some (.adr a),some (.str "ring"),some (.str s),some .non] G2 fun u0 G2=>E G2) ⟨rfl,fun i hi=>?_,fun u0=>h⟩;simp only[fS,gw,or_false] at hi;rcases hi with rfl | rfl
  ·exact⟨"ring",by decide,rfl⟩
  ·exact⟨s,hs,rfl⟩
noncomputable def zHv(w:Str):Nat×Nat:=(zIy (Txt.slice w none (some 1)),zIy (Txt.slice w (some 2) none))
theorem zHw{w:Str}{k:Nat}(h:wB w=nD k):zIy w=k:=by
 obtain⟨hk,rfl⟩:=zHk h;unfold zIy;rw[zEZ hk];rfl
theorem zMR{p:Nat×Nat}(h1:p.1<10)(h2:p.2<10):zHv (zAR p)=p:=by
 have h:=zG2 h1 h2;unfold zAm at h;split at h
 ·unfold prD at h
  simp only[D.tup.injEq,List.cons.injEq,and_true] at h;unfold zHv;rw[zHw h.1,zHw h.2]
 ·cases h
noncomputable abbrev wtN(ws:List Str):Nat:=zIy (ws.headD "")
noncomputable abbrev wtL(ws:List Str):List (Nat×Nat):=(ws.drop 2).map zHv
noncomputable instance {ws:List Str} {n:Nat} {l:List (Nat×Nat)}:Decidable (Wt ws n l):=by unfold Wt;infer_instance
noncomputable def wtB(ws:List Str):Bool:=decide (Wt ws (wtN ws) (wtL ws))
theorem zQQ{ws:List Str}{n:Nat}{l:List (Nat×Nat)}(h:Wt ws n l):wtB ws=true:=by
 have h0:=h;obtain⟨rfl,h1,h9,hp,hr⟩:=h;have e1:wtN (dig n::":"::l.map zAR)=n:=zHw (zCE 17#0);have e2:wtL (dig n::":"::l.map zAR)=l:=by
  show((l.map zAR).map zHv)=l;rw[gk]
  conv=>rhs;rw[<-List.map_id l]
  exact gX fun p q=>zMR (zSo h9 (hp p q)).1 (zSo h9 (hp p q)).2
 unfold wtB;rw[e1,e2];exact decide_eq_true h0
noncomputable def rdW(k w:Str):Option D :=
 if (k=="web text")=true then (if wtB (zx w)=true then some (.tup [nD (wtN (zx w)),.tup ((wtL (zx w)).map prD)]) else none)
 else if (k=="ring text")=true then (if zCg ((zx w).map wB)=true then some (.tup ((zx w).map wB)) else none)
 else if (k=="place")=true then (match zDW w with | some j=>if j<=8 then some (nD j) else none | none=>none)
 else if zG6 w=true then some (.str w) else none
theorem zUD{k w:Str}{d:D}(h:rdW k w=some d)(h60:(zx w).length<=60):WR k w d:=by
 unfold rdW at h;split at h
 ·rename_i e
  rw[eq_of_beq e];split at h
  ·rename_i hw
   cases h;have hw:=of_decide_eq_true hw;exact .web (by have:=congrArg List.length hw.1;simp only[gi,fE] at this ⊢;omega) hw
  ·cases h
 ·rename_i e1
  split at h
  ·rename_i e
   rw[eq_of_beq e];split at h
   ·rename_i hw
    cases h;obtain⟨n,r,hr⟩:=(zDJ _).mp hw;have:(zx w).map wB=r.map nD:=by rw[hr.1];exact zF2 fun x hx=>zKF hr.2.1 hr.2.2.2 hx
    rw[this];exact .ring hr
   ·cases h
  ·rename_i e2
   split at h
   ·rename_i e
    rw[eq_of_beq e];split at h
    ·rename_i j hj
     split at h
     ·rename_i h8
      cases h;exact .place (by unfold wB;rw[hj]) h8
     ·cases h
    ·cases h
   ·rename_i e3
    split at h
    ·rename_i hn
     cases h;exact .name (by simpa using e1) (by simpa using e2) (by simpa using e3) hn
    ·cases h
theorem zUE{k w:Str}{G:Gp}{E:Gp->Prop}(h:rdW k w=none)(hl:w.length<=1000000)(h60:(zx w).length<=60)(hE:∀ G',L3.Sub G G'->E G'):ye [.str k,.str w] G E:=by
 refine⟨k,w,rfl,hl,?_⟩;unfold rdW at h;split at h
 ·rename_i e
  split at h
  ·cases h
  ·rename_i hw
   exact .inl ⟨eq_of_beq e,_,rfl,.inr ⟨w,rfl,hl,h60,fun n l q=>hw (zQQ q)⟩,hE⟩
 ·rename_i e1
  split at h
  ·rename_i e
   split at h
   ·cases h
   ·rename_i hw
    exact .inr (.inl ⟨eq_of_beq e,_,rfl,.inr ⟨w,rfl,hl,h60,fun n r q=>hw ((zDJ _).mpr ⟨n,r,q⟩)⟩,hE⟩)
  ·rename_i e2
   split at h
   ·rename_i e
    refine .inr (.inr (.inl ⟨eq_of_beq e,w,rfl,hl,?_,hE G (.refl G)⟩));split at h
    ·rename_i j hj
     split at h
     ·cases h
     ·rename_i h8
      exact .inr ⟨j,by unfold wB;rw[hj],by omega⟩
    ·rename_i hj
     exact .inl (by unfold wB;rw[hj])
   ·rename_i e3
    split at h
    ·cases h
    ·rename_i hn
     exact .inr (.inr (.inr ⟨by simpa using e1,by simpa using e2,by simpa using e3,by simpa using hn,hE G (.refl G)⟩))
noncomputable abbrev zY:List (Str×List Str):=[("web",["new","web text"]),("ring",["new","ring text"]),("webs",[]),("rings",[]),("show web",["web"]),("show ring",["ring"]),("of",["ring","new"]),("found",["web","new"]),("tells",["ring","web"]),("all",["web"]),("turn",["web","place","new"]),("least",["ring"]),("splits",["web"]),("bar",["web"])]
noncomputable def yL(ws:List Str):Nat:=if (ws.headD ""=="show")=true then 2 else 1
noncomputable def yX(ws:List Str):Str:=Str.join " " (ws.take (yL ws))
noncomputable def wa(ws:List Str):List Str:=if ("web"==yX ws||"ring"==yX ws)=true then (ws.drop (yL ws)).take 1++[Str.join " " ((ws.drop (yL ws)).drop 1)] else ws.drop (yL ws)
noncomputable def lnB(t:Str):Bool:=decide (t.length<=1000)&&decide ((zx t).length<=60)&&(wa (zx t)).all fun w=>decide (w.length<=100)&&decide ((zx w).length<=60)
noncomputable def rdB(ks ws:List Str):Bool:=(ks.zip ws).all fun p=>(rdW p.1 p.2).isSome
noncomputable def rdA(ks ws:List Str):List D:=(ks.zip ws).map fun p=>(rdW p.1 p.2).getD .non
theorem zEc{α:Type}{p:α->Bool}:∀ {l:List α},l.all p=false->∃(i:Nat) (x:α),l[i]?=some x/\p x=false/\∀(j:Nat) (y:α),j<i->l[j]?=some y->p y=true
 | [],h=>by cases h
 | a::l,h=>by
  cases ha:p a with
  | false=>exact⟨0,a,rfl,ha,fun j y hj=>by omega⟩
  | true =>
   rw[List.all_cons,ha,Bool.true_and] at h;obtain⟨i,x,h1,h2,h3⟩:=zEc h;refine⟨i+1,x,by simpa using h1,h2,fun j y hj e=>?_⟩;cases j with
   | zero=>simp at e;rw[<-e];exact ha
   | succ j=>exact h3 j y 17#0 (by simpa using e)
theorem zQ8{σ:S2}{G:Gp}{t:TA2}{xs ys:List D}{l:Addr}(h:PuA t σ G [.tup xs,.adr l])(hl:Ls G l ys)(hle:xs.length<=ys.length):PuI (iZM t) σ G ((xs.zip ys).map fun p=>D.tup [p.1,p.2]):=fun G2 e R q=>h G2 e _ ⟨ys,e.ls hl,hle,q _ G2 (.refl _) fun G4 e4=>e4.ls (e.ls hl)⟩
theorem zLJ{wi:TI2}{te:zm}{tx:TX2}{ds:List D}{σ:S2}{G:Gp}{E:Gp->Prop}(f:D->D)(hw:PuI wi σ G ds)(i0:Nat)(x0:D)(h0:ds[i0]?=some x0)
  (hn:∀ i x,i<i0->ds[i]?=some x->zn te (σ++[some x]) G (f x)) (hx:∀ G2,Ext G G2->tx E (σ++[some x0]) G2):zB1 wi bd1 zAJ te tx E σ G:=by
 refine hw G (.refl G) _ fun gd G3 e3 hgd A nA=>?_;have hi0:i0<ds.length:=(fI.mp h0).1;refine⟨fun i acc G'=>i<=i0/\G'=zh G3 A acc/\acc=(ds.take i).map f,⟨i7 _,rfl,by simp⟩,?_,?_⟩
 ·rintro i acc G' ⟨hi,rfl,rfl⟩
  refine⟨by omega,hgd _ (.new nA),zU,?_⟩;rw[fE,hJ];omega
 ·rintro i x acc G' hi ⟨hle,rfl,rfl⟩
  have ex:Ext G (zh G3 A ((ds.take i).map f)):=e3.trans (.new nA);rw[show bd1 x=some [x] from rfl];dsimp only;unfold zAJ;dsimp only;rw[if_pos rfl];by_cases hz:i=i0
  ·subst hz
   rw[h0] at hi;cases hi;exact .inr (hx _ ex)
  ·refine .inl (hn i x 17#0 hi _ ex _ ⟨zU,.of ⟨by omega,zC6,by rw[zEP hi];simp⟩⟩)
section
variable {σ:S2} {G:Gp} {l:Addr} {ws:List Str}
theorem zI8(h1:look σ 1=some (.adr l))(ls:Ls G l (ws.map D.str))(hn:ws≠[]):zn (zDs (xB (zO (yY false) (zO zz (zA 1) (xC (.int 0))) (xC (.str "show")))) (xC (.int 2)) 21#0) σ G (nD (yL ws)):=by
 obtain⟨a,r,rfl⟩:=List.exists_cons_of_ne_nil hn;have i0:zn (zO zz (zA 1) (xC (.int 0))) σ G (.str a):=zAl (k:=0) (zF (d:=.adr l) h1) zv ls (ya (j:=0) rfl);have t0:PuT (xB (zO (yY false) (zO zz (zA 1) (xC (.int 0))) (xC (.str "show")))) σ G (a=="show"):=yr (zCe (x:=.str a) (y:=.str "show") i0 zv rfl rfl (by rw[if_neg 27#0];rfl));unfold yL;refine zFH t0 (fun hb=>?_) fun hb=>?_
 ·rw[show(a::r).headD ""=a from rfl,if_pos hb];exact zv
 ·rw[show(a::r).headD ""=a from rfl,if_neg (by rw[hb];simp)];exact zv
theorem zON(l:List Str)(k:Nat):L3.cutD (l.map D.str) none (some (k:Int))=(l.take k).map D.str:=by
 unfold L3.cutD;rw[HT.zDk,HT.zC5,fE,List.drop_zero,<-List.map_take];congr 1;rw[Nat.sub_zero,List.take_eq_take_iff];omega
theorem zOO(l:List Str)(k:Nat):L3.cutD (l.map D.str) (some (k:Int)) none=(l.drop k).map D.str:=by
 unfold L3.cutD;rw[HT.zDk,HT.zC5,fE,<-List.map_drop,<-List.map_take];congr 1;by_cases hk:k<=l.length
 ·rw[Nat.min_eq_left hk]
  exact ia (by rw[gR];omega)
 ·rw[Nat.min_eq_right 17#0,List.drop_of_length_le (by omega:l.length<=k)]
  simp
theorem zQ9{t u:zm}{k:Nat}(h:zn t σ G (.adr l))(ls:Ls G l (ws.map D.str))(hk:zn u σ G (nD k)):PuL (yR t yH (yU u)) σ G ((ws.take k).map D.str):=fun G2 e R q=>h G2 e _ (hk G2 e _ ⟨_,e.ls ls,by rw[zON];exact q⟩)
theorem zOP{t u:zm}{k:Nat}(h:zn t σ G (.adr l))(ls:Ls G l (ws.map D.str))(hk:zn u σ G (nD k)):PuL (yR t (yU u) yH) σ G ((ws.drop k).map D.str):=fun G2 e R q=>h G2 e _ (hk G2 e _ ⟨_,e.ls ls,by rw[zOO];exact q⟩)
theorem zRA{tl:TL2}(h:PuL tl σ G (ws.map D.str))(hs:Short " " ws):zn (zAO " " tl) σ G (.str (Str.join " " ws)):=fun G2 e R q=>h G2 e _ ⟨ws,rfl,hs,q⟩
theorem zHx{t:zm}{s:Str}{ks:List Str}{kvs:List (Str×List Str)}(h:zn t σ G (.str s))(hk:kvs.lookup s=some ks):zn (wo kvs t) σ G (.tup (ks.map D.str)):=fun G2 e R q=>h G2 e _ ⟨ks,hk,q⟩
theorem zI9{t:zm}{s:Str}{kvs:List (Str×List Str)}(h:zn t σ G (.str s)):PuT (zDi kvs t) σ G (!(kvs.lookup s).isSome):=fun G2 e R q=>h G2 e _ q
theorem zUF{i:Nat}{k:Str}(h:look σ i=some (.str k)):PuT (xB (zO (fIn false) (zA i) (zBI (zB (xC (.str "web")) (zB (xC (.str "ring")) zG))))) σ G (("web"==k)||("ring"==k)) :=
 yr (zJ4 (x:=.str k) (ds:=[.str "web",.str "ring"]) (zF h) (zEN (zI zv (zI zv zS)) 27#0) rfl (fun d hd=>by simp only[fS,gw,or_false] at hd;rcases hd with rfl | rfl<;>rfl) (by rw[if_neg 27#0];simp only[List.any_cons,List.any_nil,Bool.or_false];rfl))
end
def yN:wq:=fun ds G R=>∃(t:Str) (ks:List Str),ds=[.str t]/\lnB t=true/\zY.lookup (yX (zx t))=some ks/\(wa (zx t)).length=ks.length/\rdB ks (wa (zx t))=true/\∀ l G',Ext G G'->Ls G' l (rdA ks (wa (zx t)))->R (.tup [.str (yX (zx t)),.adr l]) G'
set_option genInjectivity true in
inductive LX (t:Str):Prop
 | head (h:zY.lookup (yX (zx t))=none):LX t
 | count (ks:List Str) (h:zY.lookup (yX (zx t))=some ks) (h':(wa (zx t)).length≠ks.length):LX t
 | word (ks:List Str) (h:zY.lookup (yX (zx t))=some ks) (h':(wa (zx t)).length=ks.length) (h2:rdB ks (wa (zx t))=false):LX t
def wQ:Cnd:=fun ds G E=>(∃ d,ds=[d]/\Odd G d/\∀ G',L3.Sub G G'->E G')\/(∃ t:Str,ds=[.str t]/\lnB t=true/\LX t/\∀ G',L3.Sub G G'->E G')
def zBw:wC:=(zW (zp (zi (yz zb (zB (zA 0) zG))) (gN 1)) (zW (zp (zDs (xB (zO (yY false) (zO zz (zA 1) (xC (.int 0))) (xC (.str "show")))) (xC (.int 2)) 21#0) (gN 2)) (zW (zp (zAO " " (yR (zA 1) yH (yU (zA 2)))) (gN 3)) (zW (wM (zDi zY (zA 3)) 26#0 zZ) (zW (zp (zi (yR (zA 1) (yU (zA 2)) yH)) (gN 4)) (zW (wM (xB (zO (fIn false) (zA 3) (zBI (zB (xC (.str "web")) (zB (xC (.str "ring")) zG))))) (zp (zi (wR (zi (yR (zA 4) yH (yU 21#0))) (zi (yl (zB (zAO " " (yR (zA 4) (yU 21#0) yH)) zG))))) (gN 4)) zZ) (zW (wM (xB (zO (yY true) (zJ yF (zB (zA 4) zG)) (zJ yF (zB (wo zY (zA 3)) zG)))) 26#0 zZ) (zk (zBI (zB (zA 3) (zB (zi (yk (iZM (zB (wo zY (zA 3)) (zB (zA 4) zG))) bd1 zAJ (zJ yT 6#0))) zG)))))))))))
def zBS:TX2:=(fun E σ G=>(fun E σ G=>(zB (zA 0) zG) σ G fun ds G2=>yd ds G2 E) E σ G\/(fun E σ G=>(zp (zi (yz zb (zB (zA 0) zG))) (gN 1)) { nx:=(fun E σ G=>(zp (zDs (xB (zO (yY false) (zO zz (zA 1) (xC (.int 0))) (xC (.str "show")))) (xC (.int 2)) 21#0) (gN 2)) { nx:=(fun E σ G=>(zp (zAO " " (yR (zA 1) yH (yU (zA 2)))) (gN 3)) { nx:=(fun E σ G=>(fun E σ G=>(zDi zY (zA 3)) σ G fun b G2=>b=true/\(fun E σ G=>(xC (.str "no such line")) σ G fun u0 G2=>E G2) E σ G2) E σ G\/(fun E σ G=>(wM (zDi zY (zA 3)) 26#0 zZ) { nx:=(fun E σ G=>(zp (zi (yR (zA 1) (yU (zA 2)) yH)) (gN 4)) { nx:=(fun E σ G=>(wM (xB (zO (fIn false) (zA 3) (zBI (zB (xC (.str "web")) (zB (xC (.str "ring")) zG))))) (zp (zi (wR (zi (yR (zA 4) yH (yU 21#0))) (zi (yl (zB (zAO " " (yR (zA 4) (yU 21#0) yH)) zG))))) (gN 4)) zZ) { nx:=5#0 E,rt:=fun u0 u0=>False } σ G) E,rt:=fun u0 u0=>False } σ G) E,rt:=fun u0 u0=>False } σ G) E σ G) E,rt:=fun u0 u0=>False } σ G) E,rt:=fun u0 u0=>False } σ G) E,rt:=fun u0 u0=>False } σ G) E σ G)
theorem zD6{σ:S2}{G:Gp}{t:TL2}{R:Q2}(h:t σ G fun ds G'=>∀ l,G'.m l=none->R (.adr l) (zh G' l ds)):zi t σ G R:=h
theorem zG7{σ:S2}{G:Gp}{t:TL2}{ds:List D}{R:Q2}(h:PuL t σ G ds)(k:∀ l,G.m l=none->R (.adr l) (zh G l ds)):zi t σ G R:=h G (.refl G) _ k
theorem zLK{σ:S2}{G:Gp}{ta tb:zm}{R:List D->Gp->Prop}(h:ta σ G fun x G1=>tb σ G1 fun y G2=>match x,y with | .adr l,.adr m=>∃ xs ys,G2.m l=some xs/\G2.m m=some ys/\xs.length+ys.length<=1000000/\R (xs++ys) G2 | _,_=>False):wR ta tb σ G R:=h
theorem zHy{σ:S2}{G:Gp}{t:zm}{d:D}(h:zn t σ G d):PuL (yl (zB t zG)) σ G [d]:=fun G2 e R q=>h G2 e _ ⟨by rw[sizeLine_eq];simp,q⟩
theorem zG8{σ:S2}{G:Gp}{te:zm}{E:yO}(h:te σ G E.rt):zk te E σ G:=h
theorem zUG{σ:S2}{G:Gp}{t:TA2}{R:Q2}(h:t σ G fun ds G1=>ds.length<=sizeLine/\R (.tup ds) G1):zBI t σ G R:=h
theorem zJA{σ:S2}{G:Gp}{te:zm}{i:Nat}{d:D}{E:yO}(h:zn te σ G d)(h':E.nx (σ.set i (some d)) G):zp te (gN i) E σ G:=h G (.refl G) _ h'
section
variable {G:Gp} {t:Str} {l1 l4:Addr} {a:Nat} {hd:Str} {r ws:List Str}
theorem zJB{R:Q2}(hl:t.length<=1000000)(h:∀ l,G.m l=none->R (.adr l) (zh G l ((zx t).map D.str))):zi (yz zb (zB (zA 0) zG)) [some (.str t),none,none,none,none] G R:=⟨t,rfl,hl,fun l hl=>h l hl⟩
theorem zRB{E:yO}(ls:Ls G l4 (r.map D.str))(hs:Short " " (r.drop 1))(hlen:r.length<=100)(h:∀ G' l',Ext G G'->Ls G' l' ((if ("web"==hd||"ring"==hd)=true then r.take 1++[Str.join " " (r.drop 1)] else r).map D.str)->E.nx [some (.str t),some (.adr l1),some (nD a),some (.str hd),some (.adr l')] G') :
  wM (xB (zO (fIn false) (zA 3) (zBI (zB (xC (.str "web")) (zB (xC (.str "ring")) zG))))) (zp (zi (wR (zi (yR (zA 4) yH (yU 21#0))) (zi (yl (zB (zAO " " (yR (zA 4) (yU 21#0) yH)) zG))))) (gN 4)) zZ E [some (.str t),some (.adr l1),some (nD a),some (.str hd),some (.adr l4)] G:=by
 refine zUF (k:=hd) rfl G (.refl G) _ ?_;cases hb:("web"==hd||"ring"==hd) with
 | false =>
  rw[if_neg 27#0];exact h G l4 (.refl G) (by rw[hb,if_neg 27#0];exact ls)
 | true =>
  rw[if_pos rfl];refine zD5 (zD6 (zLK (zG7 (zQ9 (k:=1) (zF (i:=4) (d:=.adr l4) rfl) ls zv) fun m1 hm1=>?_)));have e1:Ext G (zh G m1 ((r.take 1).map D.str)):=.new hm1;refine zG7 (zHy (zRA (zOP (k:=1) (zF (i:=4) (d:=.adr l4) rfl) (e1.ls ls) zv) hs)) fun m2 hm2=>?_;have n12:m1≠m2:=fun z=>by rw[<-z,zU] at hm2;cases hm2
  have e2:=e1.trans (.new (o:=[.str (Str.join " " (r.drop 1))]) hm2);refine⟨_,_,by rw[zA8 n12];exact zU,zU,by simp only[fE,hJ,List.length_singleton];omega,fun m3 hm3=>?_⟩;refine h _ m3 (e2.trans (.new hm3)) ?_;rw[hb,if_pos rfl,List.map_append];exact .own
theorem zF5{ks:List Str}(hf:zY.lookup hd=some ks)(ls:Ls G l4 (r.map D.str)):PuT (xB (zO (yY true) (zJ yF (zB (zA 4) zG)) (zJ yF (zB (wo zY (zA 3)) zG)))) [some (.str t),some (.adr l1),some (nD a),some (.str hd),some (.adr l4)] G (decide (r.length≠ks.length)):=by
 have p1:zn (zJ yF (zB (zA 4) zG)) [some (.str t),some (.adr l1),some (nD a),some (.str hd),some (.adr l4)] G (.int ((r.map D.str).length:Nat)):=yK (zI (zF (i:=4) (d:=.adr l4) rfl) zS) fun u0 e u0 q=>⟨_,e.ls ls,q⟩
 have p2:zn (zJ yF (zB (wo zY (zA 3)) zG)) [some (.str t),some (.adr l1),some (nD a),some (.str hd),some (.adr l4)] G (.int ((ks.map D.str).length:Nat)):=zFv (zHx (zF (i:=3) (d:=.str hd) rfl) hf);have:=zT3 p1 p2;rw[fE,fE] at this;have e:decide (((r.length:Nat):Int)≠((ks.length:Nat):Int))=decide (r.length≠ks.length):=decide_eq_decide.mpr 17#0;rw[e] at this;exact yr this
theorem zOQ{ks:List Str}(hf:zY.lookup hd=some ks)(ls:Ls G l4 (r.map D.str))(hl:r.length=ks.length):PuI (iZM (zB (wo zY (zA 3)) (zB (zA 4) zG))) [some (.str t),some (.adr l1),some (nD a),some (.str hd),some (.adr l4)] G ((ks.zip r).map fun p=>D.tup [.str p.1,.str p.2]):=by
 have:=zQ8 (t:=zB (wo zY (zA 3)) (zB (zA 4) zG)) (σ:=[some (.str t),some (.adr l1),some (nD a),some (.str hd),some (.adr l4)]) (G:=G) (xs:=ks.map D.str) (ys:=r.map D.str) (l:=l4) (zI (zHx (zF (i:=3) (d:=.str hd) rfl) hf) (zI (zF (i:=4) (d:=.adr l4) rfl) zS)) ls (by rw[fE,fE];omega);rw[List.zip_map,gk] at this;exact this
end
noncomputable def rdF:D->D:=fun d=>match d with | .tup [.str k,.str w]=>(rdW k w).getD .non | d=>d
theorem zCw{σ:S2}{G:Gp}{t:zm}{x:D}{r:List D}(h:zn t σ G (.tup (x::r))):zn (zO zz t (xC (.int 0))) σ G x:=yu h zv fun u0 u0 u0 q=>by
 have e:atI (x::r) 0=some x:=ya (j:=0) rfl;unfold zz;dsimp only;rw[e];exact q
theorem zF6{σ:S2}{G:Gp}{t:zm}{x y:D}{r:List D}(h:zn t σ G (.tup (x::y::r))):zn (zO zz t 21#0) σ G y:=yu h zv fun u0 u0 u0 q=>by
 have e:atI (x::y::r) 1=some y:=ya (j:=1) rfl;unfold zz;dsimp only;rw[e];exact q
theorem zLL{σ:S2}{G:Gp}{k w:Str}(h5:look (σ++[some (.tup [.str k,.str w])]) 5=some (.tup [.str k,.str w]))(hr:(rdW k w).isSome=true)(hl:w.length<=100)(h60:(zx w).length<=60):zn (zJ yT 6#0) (σ++[some (.tup [.str k,.str w])]) G (rdF (.tup [.str k,.str w])) :=
 yK (zI (zCw (zF h5)) (zI (zF6 (zF h5)) zS)) fun u0 u0 u0 q=>by
  obtain⟨d,hd⟩:=hV.mp hr;refine⟨k,w,d,rfl,by omega,zUD hd h60,?_⟩;have:rdF (.tup [.str k,.str w])=d:=by show(rdW k w).getD .non=d;rw[hd];rfl
  rw[<-this];exact q
theorem zF7{t:Str}(h:lnB t=true):t.length<=1000/\(zx t).length<=60/\∀ w∈wa (zx t),w.length<=100/\(zx w).length<=60:=by
 unfold lnB at h;simp only[fW,decide_eq_true_eq,ge] at h;exact⟨h.1.1,h.1.2,h.2⟩
theorem zF8{t:Str}{ws:List Str}(h:t.length<=1000)(h60:(zx t).length<=60)(hw:∀ w∈ws,w∈zx t)(hl:ws.length<=(zx t).length):Short " " ws:=⟨by omega,fun y hy=>by have:=zHm (hw y hy);omega,by decide +kernel⟩
theorem zLM{t:Str}{G:Gp}{l:Addr}(h:t.length<=1000)(h60:(zx t).length<=60)(ls:Ls G l ((zx t).map D.str)):zn (zAO " " (yR (zA 1) yH (yU (zA 2)))) [some (.str t),some (.adr l),some (nD (yL (zx t))),none,none] G (.str (yX (zx t))) :=
 zRA (zQ9 (zF (i:=1) (d:=.adr l) rfl) ls (zF (i:=2) rfl)) (zF8 h h60 (fun w hw=>List.mem_of_mem_take hw) (by rw[hJ];omega))
theorem zJC(ds:List D)(G:Gp)(R:Q2)(h:yN ds G R):ds.length=1/\zBw (zj R) (zK ["line","words","ahead","head","rest"] ds) G:=by
 obtain⟨t,ks,rfl,hb,hf,hc,hr,h⟩:=h;refine⟨rfl,?_⟩;obtain⟨hl,h60,hw⟩:=zF7 hb;unfold zBw;rw[show zK ["line","words","ahead","head","rest"] [.str t]=[some (.str t),none,none,none,none] from rfl];refine wZ (zJB 17#0 fun l hl1=>?_);have e1:Ext G (zh G l ((zx t).map D.str)):=.new hl1;have ls:Ls (zh G l ((zx t).map D.str)) l ((zx t).map D.str):=.own;generalize zh G l ((zx t).map D.str)=G1 at e1 ls;show zW _ _ _ [some (.str t),some (.adr l),none,none,none] G1;refine wn (zI8 (l:=l) rfl ls (zOH t)) ?_;show zW _ _ _ [some (.str t),some (.adr l),some (nD (yL (zx t))),none,none] G1;refine wn (zLM hl h60 ls) ?_;show zW _ _ _ [some (.str t),some (.adr l),some (nD (yL (zx t))),some (.str (yX (zx t))),none] G1;refine yA (by have:=zI9 (σ:=[some (.str t),some (.adr l),some (nD (yL (zx t))),some (.str (yX (zx t))),none]) (G:=G1) (kvs:=zY) (zF (i:=3) (d:=.str (yX (zx t))) rfl);rw[hf] at this;exact this) ?_;refine wZ (zOP (zF (i:=1) (d:=.adr l) rfl) ls (zF (i:=2) rfl) G1 (.refl _) _ fun l4 hl4=>?_);have e2:Ext G (zh G1 l4 (((zx t).drop (yL (zx t))).map D.str)):=e1.trans (.new hl4);have ls4:Ls (zh G1 l4 (((zx t).drop (yL (zx t))).map D.str)) l4 (((zx t).drop (yL (zx t))).map D.str):=.own;generalize zh G1 l4 (((zx t).drop (yL (zx t))).map D.str)=G2 at e2 ls4;show zW _ _ _ [some (.str t),some (.adr l),some (nD (yL (zx t))),some (.str (yX (zx t))),some (.adr l4)] G2;refine zRB ls4 (zF8 hl h60 (fun w hw=>List.mem_of_mem_drop (List.mem_of_mem_drop hw)) (by rw[gR,gR];omega)) (by rw[gR];omega) fun G3 l5 e3 ls5=>?_;have ls6:Ls G3 l5 ((wa (zx t)).map D.str):=ls5;dsimp only;refine yA (by have:=zF5 (t:=t) (l1:=l) (a:=yL (zx t)) hf ls6;rw[show decide ((wa (zx t)).length≠ks.length)=false by simp[hc]] at this;exact this) ?_;have m:=zB0 (te:=zJ yT 6#0) (bd:=bd1) rdF (fun d=>[d]) (zOQ (t:=t) (l1:=l) (a:=yL (zx t)) hf ls6 hc) fun x hx=>by
  obtain⟨p,hp,rfl⟩:=gf.mp hx;have hq:=hw p.2 (gM hp).2;exact⟨rfl,zLL (σ:=[some (.str t),some (.adr l),some (nD (yL (zx t))),some (.str (yX (zx t))),some (.adr l5)]) rfl (ge.mp hr p hp) hq.1 hq.2⟩
 rw[gk] at m;have e4:iA (rdF∘fun p=>D.tup [.str p.1,.str p.2]) (ks.zip (wa (zx t)))=rdA ks (wa (zx t)):=rfl;rw[e4] at m;refine zG8 (zUG (zNs (d:=.str (yX (zx t))) (zF (i:=3) rfl) (zNt (zG7 m fun l6 hl6=>zNy ⟨by rw[sizeLine_eq];simp,.of (h l6 _ ((e2.trans e3).trans (.new hl6)) .own)⟩))))
theorem zHz(ds:List D)(G:Gp)(E:Gp->Prop)(h:wQ ds G E):ds.length=1/\zBS E (zK ["line","words","ahead","head","rest"] ds) G:=by
 rcases h with ⟨d,rfl,ho,h⟩ | ⟨t,rfl,hb,hx,h⟩
 ·exact⟨rfl,.inl ⟨d,rfl,ho,h G (.refl G)⟩⟩
 refine⟨rfl,?_⟩;obtain⟨hl,h60,hw⟩:=zF7 hb;unfold zBS;rw[show zK ["line","words","ahead","head","rest"] [.str t]=[some (.str t),none,none,none,none] from rfl];refine .inr ?_;refine zD5 (zJB 17#0 fun l hl1=>?_);have e1:Ext G (zh G l ((zx t).map D.str)):=.new hl1;have ls:Ls (zh G l ((zx t).map D.str)) l ((zx t).map D.str):=.own;generalize zh G l ((zx t).map D.str)=G1 at e1 ls;simp only[gN,fH,fG];refine zJA (zI8 (l:=l) rfl ls (zOH t)) ?_;simp only[fH,fG];refine zJA (zLM hl h60 ls) ?_;simp only[fH,fG];have pn:=zI9 (σ:=[some (.str t),some (.adr l),some (nD (yL (zx t))),some (.str (yX (zx t))),none]) (G:=G1) (kvs:=zY) (zF (i:=3) (d:=.str (yX (zx t))) rfl);have go:∀ ks,zY.lookup (yX (zx t))=some ks->(∀(l5:Addr) (G3:Gp),Ext G G3->Ls G3 l5 ((wa (zx t)).map D.str)->5#0 E [some (.str t),some (.adr l),some (nD (yL (zx t))),some (.str (yX (zx t))),some (.adr l5)] G3)->(fun E σ G=>(fun E σ G=>(zDi zY (zA 3)) σ G fun b G2=>b=true/\(fun E σ G=>(xC (.str "no such line")) σ G fun u0 G2=>E G2) E σ G2) E σ G\/(fun E σ G=>(wM (zDi zY (zA 3)) 26#0 zZ) { nx:=(fun E σ G=>(zp (zi (yR (zA 1) (yU (zA 2)) yH)) (gN 4)) { nx:=(fun E σ G=>(wM (xB (zO (fIn false) (zA 3) (zBI (zB (xC (.str "web")) (zB (xC (.str "ring")) zG))))) (zp (zi (wR (zi (yR (zA 4) yH (yU 21#0))) (zi (yl (zB (zAO " " (yR (zA 4) (yU 21#0) yH)) zG))))) (gN 4)) zZ) { nx:=5#0 E,rt:=fun u0 u0=>False } σ G) E,rt:=fun u0 u0=>False } σ G) E,rt:=fun u0 u0=>False } σ G) E σ G) E [some (.str t),some (.adr l),some (nD (yL (zx t))),some (.str (yX (zx t))),none] G1:=fun ks hf k=>by
  rw[hf] at pn;refine .inr (zCu pn ?_);dsimp only;refine zD5 (zG7 (zOP (σ:=[some (.str t),some (.adr l),some (nD (yL (zx t))),some (.str (yX (zx t))),none]) (zF (i:=1) (d:=.adr l) rfl) ls (zF (i:=2) rfl)) fun l4 hl4=>?_);have e2:Ext G (zh G1 l4 (((zx t).drop (yL (zx t))).map D.str)):=e1.trans (.new hl4);have ls4:Ls (zh G1 l4 (((zx t).drop (yL (zx t))).map D.str)) l4 (((zx t).drop (yL (zx t))).map D.str):=.own;generalize zh G1 l4 (((zx t).drop (yL (zx t))).map D.str)=G2 at e2 ls4;refine zRB (t:=t) (l1:=l) (a:=yL (zx t)) (hd:=yX (zx t)) ls4 (zF8 hl h60 (fun w hw=>List.mem_of_mem_drop (List.mem_of_mem_drop hw)) (by rw[gR,gR];omega)) (by rw[gR];omega) fun G3 l5 e3 ls5=>?_;exact k l5 G3 (e2.trans e3) ls5
 cases hx with
 | head hf =>
  rw[hf] at pn;exact .inl (pn G1 (.refl _) _ ⟨rfl,h G1 e1.sub⟩)
 | count ks hf hc =>
  refine go ks hf fun l5 G3 e3 ls5=>.inl ?_;have:=zF5 (t:=t) (l1:=l) (a:=yL (zx t)) hf ls5;rw[show decide ((wa (zx t)).length≠ks.length)=true by simp[hc]] at this;exact this G3 (.refl _) _ ⟨rfl,h G3 e3.sub⟩
 | word ks hf hc hr =>
  refine go ks hf fun l5 G3 e3 ls5=>.inr ?_;have pc:=zF5 (t:=t) (l1:=l) (a:=yL (zx t)) hf ls5;rw[show decide ((wa (zx t)).length≠ks.length)=false by simp[hc]] at pc;refine zCu pc ?_;dsimp only;obtain⟨i,p,h1,h2,h3⟩:=zEc hr;refine(zF (σ:=[some (.str t),some (.adr l),some (nD (yL (zx t))),some (.str (yX (zx t))),some (.adr l5)]) (i:=3) (d:=.str (yX (zx t))) rfl) G3 (.refl _) _ ?_;refine zLJ rdF (zOQ (t:=t) (l1:=l) (a:=yL (zx t)) hf ls5 hc) i (.tup [.str p.1,.str p.2]) (by rw[gh,h1];rfl) (fun j x hj hx=>?_) fun G4 e4=>?_
  ·rw[gh] at hx
   obtain⟨q,hq,rfl⟩:=i9.mp hx;have hw':=hw q.2 (gM (gp hq)).2;exact zLL (σ:=[some (.str t),some (.adr l),some (nD (yL (zx t))),some (.str (yX (zx t))),some (.adr l5)]) rfl (h3 j q hj hq) hw'.1 hw'.2
  ·have hw':=hw p.2 (gM (gp h1)).2
   have h5:∀ G',PuA 6#0 ([some (.str t),some (.adr l),some (nD (yL (zx t))),some (.str (yX (zx t))),some (.adr l5)]++[some (.tup [.str p.1,.str p.2])]) G' [.str p.1,.str p.2]:=fun G'=>zI (zCw (zF (i:=5) (d:=.tup [.str p.1,.str p.2]) rfl)) (zI (zF6 (zF (i:=5) (d:=.tup [.str p.1,.str p.2]) rfl)) zS);exact h5 G4 G4 (.refl _) _ (zUE (by simpa using h2) 17#0 hw'.2 fun G' s'=>h G' (e3.sub.trans (e4.sub.trans s')))
def wG(C:Addr):Cnd:=fun ds G E=>∃(a l:Addr) (n k:Nat) (d x:D),ds=[.adr a,.str "turn",.adr l]/\Ls G l [.tup [nD n,d],nD k,x]/\n<=k/\E G
def wH(C:Addr):Cnd:=fun ds G E=>∃(a l:Addr) (n:Nat) (d x:D),ds=[.adr a,.str "found",.adr l]/\Ls G l [.tup [nD n,d],x]/\7<n/\E G
def zAS(aa:Addr):TX2:=(fun E σ G=>(xB (zO (yY false) (zA 1) (xC (.str "web")))) σ G fun b G2=>if b=true then 26#0 E σ G2 else (fun E σ G=>(xB (zO (yY false) (zA 1) (xC (.str "ring")))) σ G fun b G2=>if b=true then 26#0 E σ G2 else (fun E σ G=>(xB (zO (yY false) (zA 1) (xC (.str "of")))) σ G fun b G2=>if b=true then 26#0 E σ G2 else (fun E σ G=>(xB (zO (yY false) (zA 1) (xC (.str "turn")))) σ G fun b G2=>b=true/\(fun E σ G=>(zB 28#0 (zB (zO zz (zA 2) 21#0) zG)) σ G fun ds G2=>zAB ds G2 E) E σ G2) E σ G2) E σ G2) E σ G2)
def zAT(aa:Addr):TX2:=(fun E σ G=>(xB (zO (yY false) (zA 1) (xC (.str "web")))) σ G fun b G2=>if b=true then 26#0 E σ G2 else (fun E σ G=>(xB (zO (yY false) (zA 1) (xC (.str "ring")))) σ G fun b G2=>if b=true then 26#0 E σ G2 else (fun E σ G=>(xB (zO (yY false) (zA 1) (xC (.str "of")))) σ G fun b G2=>if b=true then 26#0 E σ G2 else (fun E σ G=>(xB (zO (yY false) (zA 1) (xC (.str "turn")))) σ G fun b G2=>if b=true then 26#0 E σ G2 else (fun E σ G=>(zB 28#0 zG) σ G fun ds G2=>zAo ds G2 E) E σ G2) E σ G2) E σ G2) E σ G2)
theorem ifN{σ:S2}{G:Gp}{i:Nat}{k c:Str}{T U:Gp->Prop}(h:look σ i=some (.str k))(e:(k==c)=false)(h':U G):xB (zO (yY false) (zA i) (xC (.str c))) σ G fun b G2=>if b=true then T G2 else U G2:=by
 have:=yj (σ:=σ) (G:=G) (i:=i) (k:=k) (c:=c) h;rw[e] at this;exact this G (.refl G) _ (by rw[if_neg 27#0];exact h')
theorem zE3(C:Addr)(ds:List D)(G:Gp)(E:Gp->Prop)(h:wG C ds G E):ds.length=3/\zAS C E (zK ["self","head","given","ring"] ds) G:=by
 obtain⟨a,l,n,k,d,x,rfl,ls,hk,h⟩:=h;refine⟨rfl,?_⟩;unfold zAS;rw[show zK ["self","head","given","ring"] [.adr a,.str "turn",.adr l]=[some (.adr a),some (.str "turn"),some (.adr l),none] from rfl];refine ifN (k:="turn") rfl 3#0 (ifN (k:="turn") rfl 3#0 (ifN (k:="turn") rfl 3#0 ?_));refine yj (σ:=[some (.adr a),some (.str "turn"),some (.adr l),none]) (k:="turn") (c:="turn") rfl G (.refl G) _ ⟨by decide +kernel,?_⟩;have p:PuA (zB 28#0 (zB (zO zz (zA 2) 21#0) zG)) [some (.adr a),some (.str "turn"),some (.adr l),none] G [.tup [nD n,d],nD k]:=zI (zAl (k:=0) (zF (d:=.adr l) rfl) zv ls (ya (j:=0) rfl)) (zI (zAl (k:=1) (zF (d:=.adr l) rfl) zv ls (ya (j:=1) rfl)) zS);exact p G (.refl G) _ ⟨n,k,d,rfl,hk,h⟩
theorem zE4(C:Addr)(ds:List D)(G:Gp)(E:Gp->Prop)(h:wH C ds G E):ds.length=3/\zAT C E (zK ["self","head","given","ring"] ds) G:=by
 obtain⟨a,l,n,d,x,rfl,ls,hk,h⟩:=h;refine⟨rfl,?_⟩;unfold zAT;rw[show zK ["self","head","given","ring"] [.adr a,.str "found",.adr l]=[some (.adr a),some (.str "found"),some (.adr l),none] from rfl];refine ifN (k:="found") rfl 3#0 (ifN (k:="found") rfl 3#0 (ifN (k:="found") rfl 3#0 (ifN (k:="found") rfl 3#0 ?_)));have p:PuA (zB 28#0 zG) [some (.adr a),some (.str "found"),some (.adr l),none] G [.tup [nD n,d]]:=zI (zAl (k:=0) (zF (d:=.adr l) rfl) zv ls (ya (j:=0) rfl)) zS;exact p G (.refl G) _ ⟨n,d,rfl,hk,h⟩
set_option genInjectivity true in
inductive TL (ws rs:List (Str×D)):Str->List D->Str->Prop
 | webs {s:Str} (h:ws.length<64) (h':∀ ss':List Str,ss'.Perm (ws.map (·.1))->sortedS ss'=true->Short " " ss'/\Str.join " " ss'=s):TL ws rs "webs" [] s
 | rings {s:Str} (h:rs.length<64) (h':∀ ss':List Str,ss'.Perm (rs.map (·.1))->sortedS ss'=true->Short " " ss'/\Str.join " " ss'=s):TL ws rs "rings" [] s
 | showW {d:D} {s:Str} (h:∀(G:Gp) (R:Q2),R (.str s) G->wU [d] G R):TL ws rs "show web" [d] s
 | showR {d:D} {s:Str} (h:∀(G:Gp) (R:Q2),R (.str s) G->yc [d] G R):TL ws rs "show ring" [d] s
 | tells {d e:D} {b:Bool} (h:∀(G:Gp) (R:Q2),R (.bl b) G->zAp [d,e] G R):TL ws rs "tells" [d,e] (if b=true then "yes" else "no")
def zD7(C:Addr):wq:=fun ds G R=>∃(a l:Addr) (ws rs:List (Str×D)) (k s:Str) (ys:List D),ds=[.adr a,.str k,.adr l]/\yM C a ws rs G/\Ls G l ys/\TL ws rs k ys s/\R (.str s) G
def zH0(aa:Addr):wC:=(zW (wM (xB (zO (yY false) (zA 1) (xC (.str "webs")))) (zk (zAO " " (zFx (zB (zCj aa (zA 0) "webs") zG)))) zZ) (zW (wM (xB (zO (yY false) (zA 1) (xC (.str "rings")))) (zk (zAO " " (zFx (zB (zCj aa (zA 0) "rings") zG)))) zZ) (zW (wM (xB (zO (yY false) (zA 1) (xC (.str "show web")))) (zk (zJ wU (zB 28#0 zG))) zZ) (zW (wM (xB (zO (yY false) (zA 1) (xC (.str "show ring")))) (zk (zJ yc (zB 28#0 zG))) zZ) (zW (wM (xB (zO (yY false) (zA 1) (xC (.str "tells")))) (zk (zJ ym (zB (zJ zAp (zB 28#0 (zB (zO zz (zA 2) 21#0) zG))) zG))) zZ) (zW (wM (xB (zO (yY false) (zA 1) (xC (.str "all")))) (zk (zJ zBe (zB (zJ yF (zB 26#0 zG)) zG))) zZ) (zW (wM (xB (zO (yY false) (zA 1) (xC (.str "least")))) (zk (zJ yc (zB 26#0 zG))) zZ) (zW (wM (xB (zO (yY false) (zA 1) (xC (.str "splits")))) (zk 26#0) zZ) (zk (zJ ym (zB (zO (zES true) 26#0 (xC .non)) zG)))))))))))
theorem sqN{σ:S2}{G:Gp}{i:Nat}{k c:Str}{t u:wC}{E:yO}(h:look σ i=some (.str k))(e:(k==c)=false)(h':u E σ G):zW (wM (xB (zO (yY false) (zA i) (xC (.str c)))) t zZ) u E σ G:=by
 have:=yj (σ:=σ) (G:=G) (i:=i) (k:=k) (c:=c) h;rw[e] at this;exact yA this h'
theorem sqY{σ:S2}{G:Gp}{i:Nat}{k:Str}{t u v:wC}{E:yO}(h:look σ i=some (.str k))(h':t { E with nx:=u E } σ G):zW (wM (xB (zO (yY false) (zA i) (xC (.str k)))) t v) u E σ G:=by
 have:=yj (σ:=σ) (G:=G) (i:=i) (k:=k) (c:=k) h;rw[show(k==k)=true by simp] at this;exact zDL this h'
theorem zSr(C:Addr)(ds:List D)(G:Gp)(R:Q2)(h:zD7 C ds G R):ds.length=3/\zH0 C (zj R) (zK ["self","head","given"] ds) G:=by
 obtain⟨a,l,ws,rs,k,s,ys,rfl,⟨dx,p,q,e1,e2,e3,u0⟩,ls,ht,h⟩:=h;refine⟨rfl,?_⟩;unfold zH0;rw[show zK ["self","head","given"] [.adr a,.str k,.adr l]=[some (.adr a),some (.str k),some (.adr l)] from rfl];cases ht with
 | webs hl h' =>
  refine sqY (k:="webs") rfl ?_;refine⟨dx,_,.adr p,e1,rfl,p,ws,rfl,.inl e2,hl,fun ss' hp hs=>⟨ss',rfl,(h' ss' hp hs).1,?_⟩⟩;rw[(h' ss' hp hs).2];exact .of h
 | rings hl h' =>
  refine sqN (k:="rings") rfl 3#0 (sqY (k:="rings") rfl ?_);refine⟨dx,_,.adr q,e1,rfl,q,rs,rfl,.inl e3,hl,fun ss' hp hs=>⟨ss',rfl,(h' ss' hp hs).1,?_⟩⟩;rw[(h' ss' hp hs).2];exact .of h
 | @showW d s h' =>
  refine sqN (k:="show web") rfl 3#0 (sqN (k:="show web") rfl 3#0 (sqY (k:="show web") rfl ?_));have p0:PuA (zB 28#0 zG) [some (.adr a),some (.str "show web"),some (.adr l)] G [d]:=zI (zAl (k:=0) (zF (d:=.adr l) rfl) zv ls (ya (j:=0) rfl)) zS;exact zG8 (zFu p0 (h' G (FgR R) (FgR.of h)))
 | @showR d s h' =>
  refine sqN (k:="show ring") rfl 3#0 (sqN (k:="show ring") rfl 3#0 (sqN (k:="show ring") rfl 3#0 (sqY (k:="show ring") rfl ?_)));have p0:PuA (zB 28#0 zG) [some (.adr a),some (.str "show ring"),some (.adr l)] G [d]:=zI (zAl (k:=0) (zF (d:=.adr l) rfl) zv ls (ya (j:=0) rfl)) zS;exact zG8 (zFu p0 (h' G (FgR R) (FgR.of h)))
 | @tells d e b h' =>
  refine sqN (k:="tells") rfl 3#0 (sqN (k:="tells") rfl 3#0 (sqN (k:="tells") rfl 3#0 (sqN (k:="tells") rfl 3#0 (sqY (k:="tells") rfl ?_))));have p0:PuA (zB 28#0 (zB (zO zz (zA 2) 21#0) zG)) [some (.adr a),some (.str "tells"),some (.adr l)] G [d,e]:=zI (zAl (k:=0) (zF (d:=.adr l) rfl) zv ls (ya (j:=0) rfl)) (zI (zAl (k:=1) (zF (d:=.adr l) rfl) zv ls (ya (j:=1) rfl)) zS);exact zG8 (show zB (zJ zAp _) zG _ _ (fun ds G1=>ym ds G1 (FgR R)) from zNt (zFu p0 (h' G _ (zNy ⟨b,rfl,FgR.of h⟩))))
def zCF(C:Addr):Cnd:=fun ds G E=>∃(a l:Addr) (k:Str) (n:Nat) (d:D),ds=[.adr a,.str k,.adr l]/\Ls G l [.tup [nD n,d]]/\((k="all"/\5<n)\/(k="bar"/\7<n))/\E G
def zFJ(aa:Addr):TX2:=(fun E σ G=>(wM (xB (zO (yY false) (zA 1) (xC (.str "webs")))) (zk (zAO " " (zFx (zB (zCj aa (zA 0) "webs") zG)))) zZ) { nx:=(fun E σ G=>(wM (xB (zO (yY false) (zA 1) (xC (.str "rings")))) (zk (zAO " " (zFx (zB (zCj aa (zA 0) "rings") zG)))) zZ) { nx:=(fun E σ G=>(wM (xB (zO (yY false) (zA 1) (xC (.str "show web")))) (zk (zJ wU (zB 28#0 zG))) zZ) { nx:=(fun E σ G=>(wM (xB (zO (yY false) (zA 1) (xC (.str "show ring")))) (zk (zJ yc (zB 28#0 zG))) zZ) { nx:=(fun E σ G=>(wM (xB (zO (yY false) (zA 1) (xC (.str "tells")))) (zk (zJ ym (zB (zJ zAp (zB 28#0 (zB (zO zz (zA 2) 21#0) zG))) zG))) zZ) { nx:=(fun E σ G=>(fun E σ G=>(xB (zO (yY false) (zA 1) (xC (.str "all")))) σ G fun b G2=>b=true/\(fun E σ G=>(zB 28#0 zG) σ G fun ds G2=>zAC ds G2 E) E σ G2) E σ G\/(fun E σ G=>(wM (xB (zO (yY false) (zA 1) (xC (.str "all")))) (zk (zJ zBe (zB (zJ yF (zB 26#0 zG)) zG))) zZ) { nx:=(fun E σ G=>(wM (xB (zO (yY false) (zA 1) (xC (.str "least")))) (zk (zJ yc (zB 26#0 zG))) zZ) { nx:=(fun E σ G=>(wM (xB (zO (yY false) (zA 1) (xC (.str "splits")))) (zk 26#0) zZ) { nx:=(fun E σ G=>(zB 28#0 zG) σ G fun ds G2=>zBH ds G2 E) E,rt:=fun u0 u0=>False } σ G) E,rt:=fun u0 u0=>False } σ G) E,rt:=fun u0 u0=>False } σ G) E σ G) E,rt:=fun u0 u0=>False } σ G) E,rt:=fun u0 u0=>False } σ G) E,rt:=fun u0 u0=>False } σ G) E,rt:=fun u0 u0=>False } σ G) E,rt:=fun u0 u0=>False } σ G)
theorem nN{σ:S2}{G:Gp}{i:Nat}{k c:Str}{t:wC}{E:yO}(h:look σ i=some (.str k))(e:(k==c)=false)(h':E.nx σ G):wM (xB (zO (yY false) (zA i) (xC (.str c)))) t zZ E σ G:=by
 have:=yj (σ:=σ) (G:=G) (i:=i) (k:=k) (c:=c) h;rw[e] at this;exact zCu this h'
theorem zQR(C:Addr)(ds:List D)(G:Gp)(E:Gp->Prop)(h:zCF C ds G E):ds.length=3/\zFJ C E (zK ["self","head","given"] ds) G:=by
 obtain⟨a,l,k,n,d,rfl,ls,hk,h⟩:=h;refine⟨rfl,?_⟩;unfold zFJ;rw[show zK ["self","head","given"] [.adr a,.str k,.adr l]=[some (.adr a),some (.str k),some (.adr l)] from rfl];have p0:PuA (zB 28#0 zG) [some (.adr a),some (.str k),some (.adr l)] G [.tup [nD n,d]]:=zI (zAl (k:=0) (zF (d:=.adr l) rfl) zv ls (ya (j:=0) rfl)) zS;rcases hk with ⟨rfl,hn⟩ | ⟨rfl,hn⟩
 ·refine nN (k:="all") rfl 3#0 ?_
  dsimp only;refine nN (k:="all") rfl 3#0 ?_;dsimp only;refine nN (k:="all") rfl 3#0 ?_;dsimp only;refine nN (k:="all") rfl 3#0 ?_;dsimp only;refine nN (k:="all") rfl 3#0 ?_;dsimp only;refine .inl (yj (σ:=[some (.adr a),some (.str "all"),some (.adr l)]) (k:="all") (c:="all") rfl G (.refl G) _ ⟨by decide +kernel,?_⟩);exact p0 G (.refl G) _ ⟨n,d,rfl,hn,h⟩
 ·refine nN (k:="bar") rfl 3#0 ?_
  dsimp only;refine nN (k:="bar") rfl 3#0 ?_;dsimp only;refine nN (k:="bar") rfl 3#0 ?_;dsimp only;refine nN (k:="bar") rfl 3#0 ?_;dsimp only;refine nN (k:="bar") rfl 3#0 ?_;dsimp only;refine .inr ?_;refine nN (k:="bar") rfl 3#0 ?_;dsimp only;refine nN (k:="bar") rfl 3#0 ?_;dsimp only;refine nN (k:="bar") rfl 3#0 ?_;dsimp only;exact p0 G (.refl G) _ ⟨n,d,rfl,hn,h⟩
theorem yM.ext{C a:Addr}{ws rs:List (Str×D)}{G G':Gp}(h:yM C a ws rs G)(e:L3.Sub G G'):yM C a ws rs G':=by
 obtain⟨dx,p,q,e1,e2,e3,e4⟩:=h;exact⟨dx,p,q,e.dc _ _ e1,e.dc _ _ e2,e.dc _ _ e3,e4⟩
def zCx(ws:List (Str×D)):Prop:=∀ s d,ws.lookup s=some d->∃ xs,d=.tup xs
noncomputable def lkD(ws:List (Str×D)):D->Option D:=fun d=>match d with | .str s=>ws.lookup s | _=>none
noncomputable def lkW(ws rs:List (Str×D))(k:Str)(d:D):Option D:=if (k=="web")=true then lkD ws d else if (k=="ring")=true then lkD rs d else some d
noncomputable def lkB(ws rs:List (Str×D))(ks:List Str)(xs:List D):Bool:=(ks.zip xs).all fun p=>(lkW ws rs p.1 p.2).isSome
noncomputable def lkA(ws rs:List (Str×D))(ks:List Str)(xs:List D):List D:=(ks.zip xs).map fun p=>(lkW ws rs p.1 p.2).getD .non
noncomputable def lkF(ws rs:List (Str×D)):D->D:=fun d=>match d with | .tup [.str k,x]=>(lkW ws rs k x).getD .non | d=>d
theorem zUH{ws rs:List (Str×D)}{k:Str}{x d:D}(hw:zCx ws)(hr:zCx rs)(h:lkW ws rs k x=some d):LK ws rs k x d:=by
 unfold lkW at h;split at h
 ·rename_i e
  rw[eq_of_beq e];unfold lkD at h;split at h
  ·obtain⟨xs,rfl⟩:=hw _ _ h
   exact .web h
  ·cases h
 ·rename_i e1
  split at h
  ·rename_i e
   rw[eq_of_beq e];unfold lkD at h;split at h
   ·obtain⟨xs,rfl⟩:=hr _ _ h
    exact .ring h
   ·cases h
  ·rename_i e2
   cases h;exact .oth (by simpa using e1) (by simpa using e2)
structure Ln (t h:Str) (ks:List Str) (xs:List D):Prop where
 ok:lnB t=true
 hd:yX (zx t)=h
 form:zY.lookup h=some ks
 len:(wa (zx t)).length=ks.length
 rd:rdB ks (wa (zx t))=true
 vals:rdA ks (wa (zx t))=xs
theorem Ln.xl{t h:Str}{ks:List Str}{xs:List D}(l:Ln t h ks xs):xs.length=ks.length:=by
 rw[<-l.vals];unfold rdA;rw[fE,iB,l.len];omega
theorem Ln.name{t h:Str}{ks:List Str}{xs:List D}(l:Ln t h ks xs){i:Nat}{k:Str}{d:D}(hi:(ks.zip xs)[i]?=some (k,d))(hk:k="web"\/k="ring"):∃ s:Str,d=.str s/\s.length<=100:=by
 have hi2:=hi;rw[List.getElem?_zip_eq_some] at hi2;obtain⟨h1,h2⟩:=hi2;rw[<-l.vals] at h2;unfold rdA at h2;rw[gh] at h2;obtain⟨⟨k',w⟩,hq,hd⟩:=i9.mp h2;have hs:=ge.mp l.rd (k',w) (gp hq);rw[List.getElem?_zip_eq_some] at hq;have hkk:k'=k:=by have:=hq.1;simp only at this h1;rw[h1] at this;exact(Option.some.inj this).symm
 subst hkk;have hw:=(zF7 l.ok).2.2 w (gp hq.2);have hr:rdW k' w=if zG6 w=true then some (.str w) else none:=by
  rcases hk with rfl | rfl<;>rfl
 simp only at hd hs;rw[hr] at hd hs;cases hn:zG6 w with
 | true=>rw[hn,if_pos rfl] at hd;exact⟨w,hd.symm,hw.1⟩
 | false=>rw[hn] at hs;cases hs
noncomputable def kpB(k:Str):Bool:=[("web":Str),("ring":Str),("of":Str),("found":Str),("turn":Str)].any (·==k)
section
variable {C a:Addr} {ws rs:List (Str×D)} {t h:Str} {ks:List Str} {xs:List D} {l:Addr} {G:Gp}
noncomputable abbrev sS(a:Addr)(t h:Str)(l:Addr)(o:Option D):S2:=[some (.adr a),some (.str t),some (.tup [.str h,.adr l]),some (.str h),o]
theorem zOR{o:Option D}:PuT (xB (zO (fIn false) (zA 3) (xC (.tup ([("web":Str),("ring":Str),("of":Str),("found":Str),("turn":Str)].map D.str))))) (sS a t h l o) G (kpB h) :=
 yr (zJ4 (x:=.str h) (ds:=[("web":Str),("ring":Str),("of":Str),("found":Str),("turn":Str)].map D.str) (zF rfl) zv rfl (fun d hd=>by obtain⟨s,u0,rfl⟩:=gf.mp hd;rfl) (by rw[if_neg 27#0];rfl))
theorem zFK{R:Q2}(L:Ln t h ks xs)(k:∀ l G',Ext G G'->Ls G' l xs->R (.tup [.str h,.adr l]) G'):zJ yN (zB (zA 1) zG) [some (.adr a),some (.str t),none,none,none] G R:=by
 obtain⟨hb,hh,hf,hc,hr,hv⟩:=L;subst hh hv;exact⟨t,ks,rfl,hb,hf,hc,hr,k⟩
theorem zOS(L:Ln t h ks xs)(ls:Ls G l xs):PuI (iZM (zB (wo zY (zA 3)) (zB (zO zz (zA 2) 21#0) zG))) (sS a t h l none) G ((ks.zip xs).map fun p=>D.tup [.str p.1,p.2]):=by
 have:=zQ8 (t:=zB (wo zY (zA 3)) (zB (zO zz (zA 2) 21#0) zG)) (σ:=sS a t h l none) (G:=G) (xs:=ks.map D.str) (ys:=xs) (l:=l) (zI (zHx (zF (i:=3) (d:=.str h) rfl) L.form) (zI (zF6 (x:=.str h) (y:=.adr l) (zF (i:=2) rfl)) zS)) ls (by rw[fE,L.xl];omega);rw[List.zip_map_left,gk] at this;exact this
theorem zOT{k:Str}{x:D}(hd:yM C a ws rs G)(hw:zCx ws)(hr:zCx rs)(hs:(lkW ws rs k x).isSome=true):zn (wE C "looked_up" (yD C) (zA 0) 6#0) (sS a t h l none++[some (.tup [.str k,x])]) G (lkF ws rs (.tup [.str k,x])):=fun G2 e R q=>by
 have hd2:=hd.ext e.sub;obtain⟨dx,p,p2,e1,u0⟩:=hd2;refine⟨dx,_,e1,rfl,?_⟩;have pa:PuA 6#0 (sS a t h l none++[some (.tup [.str k,x])]) G2 [.str k,x]:=zI (zCw (zF (i:=5) (d:=.tup [.str k,x]) rfl)) (zI (zF6 (zF (i:=5) (d:=.tup [.str k,x]) rfl)) zS);obtain⟨d,hd⟩:=hV.mp hs;refine pa G2 (.refl _) _ ⟨a,ws,rs,k,x,d,rfl,yM.ext ‹yM C a ws rs G› e.sub,zUH hw hr hd,?_⟩;have:lkF ws rs (.tup [.str k,x])=d:=by show(lkW ws rs k x).getD .non=d;rw[hd];rfl
 rw[<-this];exact q
theorem zF9(L:Ln t h ks xs)(ls:Ls G l xs)(hd:yM C a ws rs G)(hw:zCx ws)(hr:zCx rs)(hb:lkB ws rs ks xs=true):PuL (yk (iZM (zB (wo zY (zA 3)) (zB (zO zz (zA 2) 21#0) zG))) bd1 zAJ (wE C "looked_up" (yD C) (zA 0) 6#0)) (sS a t h l none) G (lkA ws rs ks xs):=by
 have m:=zB0 (te:=wE C "looked_up" (yD C) (zA 0) 6#0) (bd:=bd1) (lkF ws rs) (fun d=>[d]) (zOS (a:=a) L ls) fun x hx=>by
  obtain⟨p,hp,rfl⟩:=gf.mp hx;exact⟨rfl,zOT hd hw hr (ge.mp hb p hp)⟩
 rw[gk] at m;exact m
end
theorem zOU{σ:S2}{G:Gp}{i:Nat}{t:TL2}{ds:List D}{E:yO}(h:PuL t σ G ds)(k:∀ l,G.m l=none->E.nx (σ.set i (some (.adr l))) (zh G l ds)):zCo i t E σ G:=h G (.refl G) _ k
theorem zOV{σ:S2}{G:Gp}{i:Nat}{t:TL2}{u:wC}{ds:List D}{E:yO}(h:PuL t σ G ds)(k:∀ l,G.m l=none->u E (σ.set i (some (.adr l))) (zh G l ds)):zW (zCo i t) u E σ G:=h G (.refl G) _ k
theorem zUI{σ:S2}{G:Gp}{tc:TT2}{ta tb:zm}{R:Q2}(h:tc σ G fun z G1=>if z=true then ta σ G1 R else tb σ G1 R):zDs tc ta tb σ G R:=h
def zJD(ws:List (Str×D)):Prop:=(ws.map (·.1)).Nodup/\ws.length<1000
set_option genInjectivity true in
inductive SY (C a:Addr) (ws rs:List (Str×D)) (h:Str) (ys:List D) (G:Gp) (R:Q2):Prop
 | keep (s:Str) (d:D) (hk:h="web"\/h="ring") (e:ys=[.str s,d]) (nw:zJD ws) (nr:zJD rs) (k:∀ G':Gp,(∀ b o,G.m b=some o->G'.m b=some o)->G'.ro=G.ro->KpW C a h s d ws rs G'->R (.str "ok") G')
 | tell (s:Str) (hk:kpB h=false) (ht:TL ws rs h ys s) (k:∀ G':Gp,Ext G G'->R (.str s) G')
def yw(C:Addr):wq:=fun ds G R=>∃(a:Addr) (ws rs:List (Str×D)) (t h:Str) (ks:List Str) (xs:List D),ds=[.adr a,.str t]/\Ln t h ks xs/\yM C a ws rs G/\zCx ws/\zCx rs/\lkB ws rs ks xs=true/\SY C a ws rs h (lkA ws rs ks xs) G R
def zLN(aa:Addr):wC:=(zW (zp (zJ yN (zB (zA 1) zG)) (gN 2)) (zW (zp 28#0 (gN 3)) (zW (zCo 4 (yk (iZM (zB (wo zY (zA 3)) (zB (zO zz (zA 2) 21#0) zG))) bd1 zAJ (wE aa "looked_up" (yD aa) (zA 0) 6#0))) (zk (zDs (xB (zO (fIn false) (zA 3) (xC (.tup ([("web":Str),("ring":Str),("of":Str),("found":Str),("turn":Str)].map D.str))))) (wE aa "keep" (zD4 aa) (zA 0) (zB (zA 3) (zB (zA 4) zG))) (wE aa "tell" (zD7 aa) (zA 0) (zB (zA 3) (zB (zA 4) zG))))))))
theorem zBC{p q:Addr}{m:Str}(h1:(m=="webs")=false)(h2:(m=="rings")=false):([("webs",D.adr p),("rings",D.adr q)]:List (Str×D)).lookup m=none:=by
 rw[fU,h1,fU,h2];rfl
theorem zUJ(C:Addr)(ds:List D)(G:Gp)(R:Q2)(h:yw C ds G R):ds.length=2/\zLN C (zj R) (zK ["self","line","asked","head","given"] ds) G:=by
 obtain⟨a,ws,rs,t,h,ks,xs,rfl,L,hd,hw,hr,hb,hs⟩:=h;refine⟨rfl,?_⟩;unfold zLN;rw[show zK ["self","line","asked","head","given"] [.adr a,.str t]=[some (.adr a),some (.str t),none,none,none] from rfl];refine wZ (zFK L fun l G1 e1 ls=>?_);show zW _ _ _ [some (.adr a),some (.str t),some (.tup [.str h,.adr l]),none,none] G1;refine wn (zCw (x:=.str h) (zF (i:=2) rfl)) ?_;show zW _ _ _ (sS a t h l none) G1;have hd1:=hd.ext e1.sub;refine zOV (zF9 L ls hd1 hw hr hb) fun l4 hl4=>?_;rw[show(sS a t h l none).set 4 (some (.adr l4))=sS a t h l (some (.adr l4)) from rfl];have e2:Ext G (zh G1 l4 (lkA ws rs ks xs)):=e1.trans (.new hl4);have ls4:Ls (zh G1 l4 (lkA ws rs ks xs)) l4 (lkA ws rs ks xs):=.own;generalize zh G1 l4 (lkA ws rs ks xs)=G2 at e2 ls4;have hd2:=hd.ext e2.sub;have pa:PuA (zB (zA 3) (zB (zA 4) zG)) (sS a t h l (some (.adr l4))) G2 [.str h,.adr l4]:=zI (zF (i:=3) (d:=.str h) rfl) (zI (zF (i:=4) (d:=.adr l4) rfl) zS);have hd3:=hd2;obtain⟨dx,p,q,e5,u0⟩:=hd3;refine zG8 (zUI (zOR G2 (.refl _) _ ?_));cases hs with
 | keep s d hk e nw nr k =>
  have:kpB h=true:=by rcases hk with rfl | rfl<;>decide +kernel
  rw[if_pos this];refine⟨dx,_,e5,zBC 3#0 3#0,pa G2 (.refl _) _ ?_⟩;refine⟨a,l4,ws,rs,h,s,d,rfl,hk,hd2,by rw[<-e];exact ls4,nw,nr,fun G' m r kp=>.of (k G' (fun b o ho=>?_) (by rw[r];exact e2.ro) kp)⟩;rw[m];exact e2.sub.m b o ho
 | tell s hk ht k =>
  rw[if_neg (by rw[hk];simp)];refine⟨dx,_,e5,zBC 3#0 3#0,pa G2 (.refl _) _ ?_⟩;exact⟨a,l4,ws,rs,h,s,_,rfl,hd2,ls4,ht,.of (k G2 e2)⟩
def SBase(C a:Addr)(ws rs:List (Str×D))(t h:Str)(ks:List Str)(xs:List D)(G:Gp):Prop:=Ln t h ks xs/\yM C a ws rs G/\zCx ws/\zCx rs
def zu(C:Addr):Cnd:=fun ds G E=>∃(a:Addr) (d:D),ds=[.adr a,d]/\(wQ [d] G E\/∃(ws rs:List (Str×D)) (t:Str) (ks:List Str) (xs:List D) (n k:Nat) (w x:D),d=.str t/\SBase C a ws rs t "turn" ks xs G/\lkB ws rs ks xs=true/\lkA ws rs ks xs=[.tup [nD n,w],nD k,x]/\n<=k/\∀ G',L3.Sub G G'->E G')
def yJ(C:Addr):Cnd:=fun ds G E=>∃(a:Addr) (ws rs:List (Str×D)) (t h:Str) (ks:List Str) (xs:List D),ds=[.adr a,.str t]/\SBase C a ws rs t h ks xs G/\lkB ws rs ks xs=false/\∀ G',L3.Sub G G'->E G'
set_option genInjectivity true in
inductive TM:Str->List D->Prop
 | found {n:Nat} {w x:D} (h:7<n):TM "found" [.tup [nD n,w],x]
 | all {n:Nat} {w:D} (h:5<n):TM "all" [.tup [nD n,w]]
 | bar {n:Nat} {w:D} (h:7<n):TM "bar" [.tup [nD n,w]]
def yB(C:Addr):Cnd:=fun ds G E=>∃(a:Addr) (ws rs:List (Str×D)) (t h:Str) (ks:List Str) (xs:List D),ds=[.adr a,.str t]/\SBase C a ws rs t h ks xs G/\lkB ws rs ks xs=true/\TM h (lkA ws rs ks xs)/\∀ G',L3.Sub G G'->E G'
def zAq(aa:Addr):TX2:=(fun E σ G=>(fun E σ G=>(zB (zA 1) zG) σ G fun ds G2=>wQ ds G2 E) E σ G\/(fun E σ G=>(zp (zJ yN (zB (zA 1) zG)) (gN 2)) { nx:=(fun E σ G=>(zp 28#0 (gN 3)) { nx:=(fun E σ G=>(zCo 4 (yk (iZM (zB (wo zY (zA 3)) (zB (zO zz (zA 2) 21#0) zG))) bd1 zAJ (wE aa "looked_up" (yD aa) (zA 0) 6#0))) { nx:=(fun E σ G=>(xB (zO (fIn false) (zA 3) (xC (.tup ([("web":Str),("ring":Str),("of":Str),("found":Str),("turn":Str)].map D.str))))) σ G fun z G1=>if z=true then (zBA aa "keep" (wG aa) (zA 0) (zB (zA 3) (zB (zA 4) zG))) E σ G1 else 26#0 E σ G1) E,rt:=fun u0 u0=>False } σ G) E,rt:=fun u0 u0=>False } σ G) E,rt:=fun u0 u0=>False } σ G) E σ G)
def zBD(aa:Addr):TX2:=(fun E σ G=>(zp (zJ yN (zB (zA 1) zG)) (gN 2)) { nx:=(fun E σ G=>(zp 28#0 (gN 3)) { nx:=(zB1 (iZM (zB (wo zY (zA 3)) (zB (zO zz (zA 2) 21#0) zG))) bd1 zAJ (wE aa "looked_up" (yD aa) (zA 0) 6#0) (zBA aa "looked_up" (zAE aa) (zA 0) 6#0)) E,rt:=fun u0 u0=>False } σ G) E,rt:=fun u0 u0=>False } σ G)
def zAr(aa:Addr):TX2:=(fun E σ G=>(zp (zJ yN (zB (zA 1) zG)) (gN 2)) { nx:=(fun E σ G=>(zp 28#0 (gN 3)) { nx:=(fun E σ G=>(zCo 4 (yk (iZM (zB (wo zY (zA 3)) (zB (zO zz (zA 2) 21#0) zG))) bd1 zAJ (wE aa "looked_up" (yD aa) (zA 0) 6#0))) { nx:=(fun E σ G=>(xB (zO (fIn false) (zA 3) (xC (.tup ([("web":Str),("ring":Str),("of":Str),("found":Str),("turn":Str)].map D.str))))) σ G fun z G1=>if z=true then (zBA aa "keep" (wH aa) (zA 0) (zB (zA 3) (zB (zA 4) zG))) E σ G1 else (zBA aa "tell" (zCF aa) (zA 0) (zB (zA 3) (zB (zA 4) zG))) E σ G1) E,rt:=fun u0 u0=>False } σ G) E,rt:=fun u0 u0=>False } σ G) E,rt:=fun u0 u0=>False } σ G)
theorem zGA(C:Addr)(ds:List D)(G:Gp)(E:Gp->Prop)(h:zu C ds G E):ds.length=2/\zAq C E (zK ["self","line","asked","head","given"] ds) G:=by
 obtain⟨a,d,rfl,h | ⟨ws,rs,t,ks,xs,n,k,w,x,rfl,⟨L,hd,hw,hr⟩,hb,hy,hn,h⟩⟩:=h
 ·exact⟨rfl,.inl h⟩
 refine⟨rfl,?_⟩;unfold zAq;rw[show zK ["self","line","asked","head","given"] [.adr a,.str t]=[some (.adr a),some (.str t),none,none,none] from rfl];refine .inr (zD5 (zFK L fun l G1 e1 ls=>?_));simp only[gN,fH,fG];refine zJA (zCw (x:=.str "turn") (zF (i:=2) rfl)) ?_;simp only[fH,fG];refine zOU (zF9 (a:=a) (C:=C) L ls (hd.ext e1.sub) hw hr hb) fun l4 hl4=>?_;dsimp only[List.set];have e2:Ext G (zh G1 l4 (lkA ws rs ks xs)):=e1.trans (.new hl4);have ls4:Ls (zh G1 l4 (lkA ws rs ks xs)) l4 (lkA ws rs ks xs):=.own;generalize zh G1 l4 (lkA ws rs ks xs)=G2 at e2 ls4;have pa:PuA (zB (zA 3) (zB (zA 4) zG)) (sS a t "turn" l (some (.adr l4))) G2 [.str "turn",.adr l4]:=zI (zF (i:=3) (d:=.str "turn") rfl) (zI (zF (i:=4) (d:=.adr l4) rfl) zS);obtain⟨dx,p,q,e5,u0⟩:=hd.ext e2.sub;refine zOR (a:=a) (t:=t) (h:="turn") (l:=l) (o:=some (.adr l4)) G2 (.refl _) _ ?_;rw[if_pos 3#0];exact⟨dx,_,e5,zBC 3#0 3#0,pa G2 (.refl _) _ ⟨a,l4,n,k,w,x,rfl,by rw[<-hy];exact ls4,hn,h G2 e2.sub⟩⟩
theorem zGB(C:Addr)(ds:List D)(G:Gp)(E:Gp->Prop)(h:yB C ds G E):ds.length=2/\zAr C E (zK ["self","line","asked","head","given"] ds) G:=by
 obtain⟨a,ws,rs,t,h,ks,xs,rfl,⟨L,hd,hw,hr⟩,hb,hy,hE⟩:=h;refine⟨rfl,?_⟩;unfold zAr;rw[show zK ["self","line","asked","head","given"] [.adr a,.str t]=[some (.adr a),some (.str t),none,none,none] from rfl];refine zD5 (zFK L fun l G1 e1 ls=>?_);simp only[gN,fH,fG];refine zJA (zCw (x:=.str h) (zF (i:=2) rfl)) ?_;simp only[fH,fG];refine zOU (zF9 (a:=a) (C:=C) L ls (hd.ext e1.sub) hw hr hb) fun l4 hl4=>?_;dsimp only[List.set];have e2:Ext G (zh G1 l4 (lkA ws rs ks xs)):=e1.trans (.new hl4);have ls4:Ls (zh G1 l4 (lkA ws rs ks xs)) l4 (lkA ws rs ks xs):=.own;generalize zh G1 l4 (lkA ws rs ks xs)=G2 at e2 ls4;have pa:PuA (zB (zA 3) (zB (zA 4) zG)) (sS a t h l (some (.adr l4))) G2 [.str h,.adr l4]:=zI (zF (i:=3) (d:=.str h) rfl) (zI (zF (i:=4) (d:=.adr l4) rfl) zS);obtain⟨dx,p,q,e5,u0⟩:=hd.ext e2.sub;refine zOR (a:=a) (t:=t) (h:=h) (l:=l) (o:=some (.adr l4)) G2 (.refl _) _ ?_;generalize lkA ws rs ks xs=ys at hy ls4;cases hy with
 | found hn =>
  rw[if_pos 3#0];exact⟨dx,_,e5,zBC 3#0 3#0,pa G2 (.refl _) _ ⟨a,l4,_,_,_,rfl,ls4,hn,hE G2 e2.sub⟩⟩
 | all hn =>
  rw[if_neg 3#0];exact⟨dx,_,e5,zBC 3#0 3#0,pa G2 (.refl _) _ ⟨a,l4,_,_,_,rfl,ls4,.inl ⟨rfl,hn⟩,hE G2 e2.sub⟩⟩
 | bar hn =>
  rw[if_neg 3#0];exact⟨dx,_,e5,zBC 3#0 3#0,pa G2 (.refl _) _ ⟨a,l4,_,_,_,rfl,ls4,.inr ⟨rfl,hn⟩,hE G2 e2.sub⟩⟩
theorem zGX(C:Addr)(ds:List D)(G:Gp)(E:Gp->Prop)(h:yJ C ds G E):ds.length=2/\zBD C E (zK ["self","line","asked","head","given"] ds) G:=by
 obtain⟨a,ws,rs,t,h,ks,xs,rfl,⟨L,hd,hw,hr⟩,hb,hE⟩:=h;refine⟨rfl,?_⟩;unfold zBD;rw[show zK ["self","line","asked","head","given"] [.adr a,.str t]=[some (.adr a),some (.str t),none,none,none] from rfl];refine zD5 (zFK L fun l G1 e1 ls=>?_);simp only[gN,fH,fG];refine zJA (zCw (x:=.str h) (zF (i:=2) rfl)) ?_;simp only[fH,fG];have hd1:=hd.ext e1.sub;obtain⟨i,⟨k,d⟩,h1,h2,h3⟩:=zEc hb;have hk:k="web"\/k="ring":=by
  simp only at h2;unfold lkW at h2;split at h2
  ·rename_i e;exact .inl (eq_of_beq e)
  ·split at h2
   ·rename_i e;exact .inr (eq_of_beq e)
   ·cases h2
 obtain⟨s,rfl,hs⟩:=L.name h1 hk;refine zLJ (σ:=sS a t h l none) (lkF ws rs) (zOS (a:=a) L ls) i (.tup [.str k,.str s]) (by rw[gh,h1];rfl) (fun j x hj hx=>?_) fun G4 e4=>?_
 ·rw[gh] at hx
  obtain⟨q,hq,rfl⟩:=i9.mp hx;exact zOT hd1 hw hr (h3 j q hj hq)
 ·have pa:PuA 6#0 (sS a t h l none++[some (.tup [.str k,.str s])]) G4 [.str k,.str s]:=zI (zCw (zF (i:=5) (d:=.tup [.str k,.str s]) rfl)) (zI (zF6 (zF (i:=5) (d:=.tup [.str k,.str s]) rfl)) zS)
  have hd4:=hd1.ext e4.sub;have hd5:=hd4;obtain⟨dx,p,q,e5,u0⟩:=hd5;refine⟨dx,_,e5,zBC 3#0 3#0,pa G4 (.refl _) _ ⟨a,ws,rs,k,s,rfl,hs,hd4,?_,hE G4 (e1.sub.trans e4.sub)⟩⟩;rcases hk with rfl | rfl
  ·have:(ws.lookup s).isSome=false:=h2
   exact .inl ⟨rfl,by simpa using this⟩
  ·have:(rs.lookup s).isSome=false:=h2
   exact .inr ⟨rfl,by simpa using this⟩
noncomputable abbrev wv3:D:=.tup [nD 3,.tup ([(0,1),(1,2)].map prD)]
noncomputable abbrev wv7:D:=.tup [nD 7,.tup ([(0,1)].map prD)]
noncomputable abbrev wv8:D:=.tup [nD 8,.tup []]
noncomputable abbrev rv3:D:=.tup ([0,1,0,2,1,2].map nD)
noncomputable def W1:List (Str×D):=[(("w":Str),wv3)]
noncomputable def W2:List (Str×D):=[(("w":Str),wv3),(("seven":Str),wv7)]
noncomputable def W0:List (Str×D):=[(("w":Str),wv3),(("seven":Str),wv7),(("eight":Str),wv8)]
noncomputable def R0:List (Str×D):=[(("r":Str),rv3)]
theorem put2:putD "seven" wv7 W1=W2:=by unfold W1 putD;rw[if_neg 3#0];rfl
theorem put3:putD "eight" wv8 W2=W0:=by unfold W2 putD;rw[if_neg 3#0];unfold putD;rw[if_neg 3#0];rfl
theorem zFL{ws:List (Str×D)}(h:∀ p∈ws,∃ xs,p.2=.tup xs):zCx ws:=fun s d e=>by
 induction ws with
 | nil=>cases e
 | cons p r ih =>
  rw[fU] at e;cases hb:s==p.1 with
  | true=>rw[hb] at e;cases e;exact h p 27#0
  | false=>rw[hb] at e;exact ih (fun q hq=>h q (g9 _ hq)) e
theorem zD8:zCx W0:=zFL fun p hp=>by
 unfold W0 at hp;simp only[fS,gw,or_false] at hp;rcases hp with rfl | rfl | rfl<;>exact⟨_,rfl⟩
theorem zD9:zCx R0:=zFL fun p hp=>by
 unfold R0 at hp;rw[gO.mp hp];exact⟨_,rfl⟩
noncomputable def fmB(t:Str):Option (List Str):=match zY.lookup (yX (zx t)) with | none=>none | some ks=>if (wa (zx t)).length=ks.length then (if rdB ks (wa (zx t))=true then some ks else none) else none
theorem zJE{t:Str}{ks:List Str}(hb:lnB t=true)(h:fmB t=some ks):Ln t (yX (zx t)) ks (rdA ks (wa (zx t))):=by
 unfold fmB at h;split at h
 ·cases h
 ·rename_i ks' hf
  split at h
  ·rename_i hl
   split at h
   ·rename_i hr
    cases h;exact⟨hb,rfl,hf,hl,hr,rfl⟩
   ·cases h
  ·cases h
theorem zUK{t:Str}(h:fmB t=none):LX t:=by
 unfold fmB at h;split at h
 ·rename_i hf
  exact .head hf
 ·rename_i ks' hf
  split at h
  ·rename_i hl
   split at h
   ·cases h
   ·rename_i hr
    exact .word _ hf hl (by simpa using hr)
  ·rename_i hl
   exact .count _ hf hl
noncomputable def zSs(t:Str)(ks:List Str):List D:=lkA W0 R0 ks (rdA ks (wa (zx t)))
noncomputable def zQS(t:Str)(ks:List Str):Bool:=lkB W0 R0 ks (rdA ks (wa (zx t)))
noncomputable def tnB(ys:List D):Bool:=match ys with | [.tup [.int n,_],.int k,_]=>decide (0<=n)&&decide (n<=k) | _=>false
noncomputable def zLO(t:Str):Bool:=lnB t&&match fmB t with | none=>true | some ks=>(yX (zx t)=="turn")&&(zQS t ks&&tnB (zSs t ks))
noncomputable def zOW(t:Str):Bool:=lnB t&&match fmB t with | none=>false | some ks=>!zQS t ks
noncomputable def tmB(h:Str)(ys:List D):Bool:=match ys with
 | [.tup [.int n,_],_]=>(h=="found")&&decide (7<n)
 | [.tup [.int n,_]]=>((h=="all")&&decide (5<n))||((h=="bar")&&decide (7<n))
 | _=>false
noncomputable def zOX(t:Str):Bool:=lnB t&&match fmB t with | none=>false | some ks=>zQS t ks&&tmB (yX (zx t)) (zSs t ks)
theorem zUL{ys:List D}(h:tnB ys=true):∃(n k:Nat) (w x:D),ys=[.tup [nD n,w],nD k,x]/\n<=k:=by
 unfold tnB at h;split at h
 ·rename_i n w k x
  simp only[fW,decide_eq_true_eq] at h;refine⟨n.toNat,k.toNat,w,x,?_,by omega⟩;show[D.tup [.int n,w],.int k,x]=[.tup [.int (n.toNat:Int),w],.int (k.toNat:Int),x]
  rw[gY h.1,gY 17#0]
 ·cases h
theorem zUM{h:Str}{ys:List D}(hb:tmB h ys=true):TM h ys:=by
 unfold tmB at hb;split at hb
 ·rename_i n w x
  simp only[fW,decide_eq_true_eq] at hb;rw[eq_of_beq hb.1,show D.int n=nD n.toNat by show D.int n=.int (n.toNat:Int);rw[gY 17#0]];exact .found 17#0
 ·rename_i n w
  rw[show D.int n=nD n.toNat by
   show D.int n=.int (n.toNat:Int);rw[gY (by simp only[Bool.or_eq_true,fW,decide_eq_true_eq] at hb;omega)]]
  simp only[Bool.or_eq_true,fW,decide_eq_true_eq] at hb;rcases hb with hb | hb
  ·rw[eq_of_beq hb.1];exact .all 17#0
  ·rw[eq_of_beq hb.1];exact .bar 17#0
 ·cases hb
section
variable {C a:Addr} {t:Str} {G:Gp} {E:Gp->Prop}
theorem zOY(h:zLO t=true)(hd:yM C a W0 R0 G)(hE:∀ G',L3.Sub G G'->E G'):zu C [.adr a,.str t] G E:=by
 unfold zLO at h;rw[fW] at h;refine⟨a,.str t,rfl,?_⟩;cases hf:fmB t with
 | none=>exact .inl (.inr ⟨t,rfl,h.1,zUK hf,hE⟩)
 | some ks =>
  have h2:=h.2;rw[hf] at h2;simp only[fW] at h2;obtain⟨n,k,w,x,hy,hn⟩:=zUL h2.2.2;have L:=zJE h.1 hf;rw[eq_of_beq h2.1] at L;exact .inr ⟨W0,R0,t,ks,_,n,k,w,x,rfl,⟨L,hd,zD8,zD9⟩,h2.2.1,hy,hn,hE⟩
theorem zOZ{d:D}(h:Odd G d)(hE:∀ G',L3.Sub G G'->E G'):zu C [.adr a,d] G E:=⟨a,d,rfl,.inl (.inl ⟨d,rfl,h,hE⟩)⟩
theorem zQT(h:zOW t=true)(hd:yM C a W0 R0 G)(hE:∀ G',L3.Sub G G'->E G'):yJ C [.adr a,.str t] G E:=by
 unfold zOW at h;rw[fW] at h;cases hf:fmB t with
 | none=>rw[hf] at h;cases h.2
 | some ks =>
  have h2:=h.2;rw[hf] at h2;simp only[Bool.not_eq_true'] at h2;exact⟨a,W0,R0,t,_,ks,_,rfl,⟨zJE h.1 hf,hd,zD8,zD9⟩,h2,hE⟩
theorem zQU(h:zOX t=true)(hd:yM C a W0 R0 G)(hE:∀ G',L3.Sub G G'->E G'):yB C [.adr a,.str t] G E:=by
 unfold zOX at h;rw[fW] at h;cases hf:fmB t with
 | none=>rw[hf] at h;cases h.2
 | some ks =>
  have h2:=h.2;rw[hf] at h2;simp only[fW] at h2;exact⟨a,W0,R0,t,_,ks,_,rfl,⟨zJE h.1 hf,hd,zD8,zD9⟩,h2.1,zUM h2.2,hE⟩
end
noncomputable def bd0:List D:=[.str "",.str " ",.str "webs ",.str " webs",.str "webs a",.str "rings 1",.str "show",.str "show web",.str "show webs w",.str "show web W",.str "show r"]
noncomputable def bd1:List D:=[.str "show web w x",.str "web",.str "web w",.str "web W 1 :",.str "web w 1",.str "web w 1: ",.str "web w 0 :",.str "web w 10 :"]
noncomputable def bd2:List D:=[.str "web w 3 : 0-3",.str "web w 3 : 1-0",.str "web w 3 : 0-2 0-1",.str "web w 3 : 0-1 ",.str "web longnames 1 :"]
noncomputable def bd3:List D:=[.str "ring",.str "ring r",.str "ring r 0",.str "ring r 0 0 0",.str "ring R 0 0",.str "ring r 0 1 0 2",.str "ring r 0  0"]
noncomputable def bd4:List D:=[.str "ring r a a",.str "of",.str "of r",.str "of r W",.str "of r w x",.str "found w",.str "found w 1",.str "found W r"]
noncomputable def bd5:List D:=[.str "tells r",.str "tells r w w"]
noncomputable def bd6:List D:=[.str "tells 1 w",.str "all",.str "all w w",.str "all 1",.str "turn w 0",.str "turn w 9 a",.str "turn w a a",.str "turn w 00 a"]
noncomputable def bd7:List D:=[.str "turn w -1 a",.str "turn w 0 A",.str "turn zz 9 a",.str "least",.str "least R",.str "splits",.str "splits w w"]
noncomputable def bdZ:List D:=[.str "turn w 8 a",.str "drop w"]
noncomputable def du0:List D:=[.tup [.str "show web r",.int 3],.tup [.str "show ring w",.int 3],.tup [.str "of w a",.int 3],.tup [.str "of zz a",.int 3],.tup [.str "found r a",.int 3],.tup [.str "found zz w",.int 3]]
noncomputable def du1:List D:=[.tup [.str "tells w w",.int 3],.tup [.str "tells r r",.int 3],.tup [.str "tells zz w",.int 3],.tup [.str "all zz",.int 3],.tup [.str "turn r 0 a",.int 3]]
noncomputable def du2:List D:=[.tup [.str "turn zz 8 a",.int 3],.tup [.str "least w",.int 3],.tup [.str "splits r",.int 3],.tup [.str "bar zz",.int 3],.tup [.str "all seven",.int 0]]
noncomputable def du3:List D:=[.tup [.str "all eight",.int 0],.tup [.str "found eight a",.int 0],.tup [.str "bar eight",.int 0]]
noncomputable abbrev mx(lo:Addr):List D:=[.str "bar",.str "bar W",.str "bar w 1",.str "Bar w",.non,.int 7,.tup [.str "webs"],.adr lo,.bl true,.str "turn w 3 a"]
def zSt(G:Gp)(d:D):Prop:=(∃ t:Str,d=.str t/\zLO t=true)\/Odd G d
noncomputable def zJF:D->Bool:=fun d=>match d with | .str t=>zLO t | _=>false
noncomputable def zLP:D->Bool:=fun d=>match d with | .tup [.str t,.int c]=>(decide (c=3)&&zOW t)||(decide (c=0)&&zOX t) | _=>false
theorem zDj{G:Gp}{d:D}(h:zJF d=true):zSt G d:=by
 unfold zJF at h;split at h
 ·exact .inl ⟨_,rfl,h⟩
 ·cases h
theorem zSu{d:D}(h:zLP d=true):∃(t:Str) (c:Int),d=.tup [.str t,.int c]/\((c=3/\zOW t=true)\/(c=0/\zOX t=true)):=by
 unfold zLP at h;split at h
 ·rename_i t c
  simp only[Bool.or_eq_true,fW,decide_eq_true_eq] at h;exact⟨t,c,rfl,h⟩
 ·cases h
theorem zLQ:((((((((bd0++bd1)++bd2)++bd3)++bd4)++bd5)++bd6)++bd7)).length=56:=by decide +kernel
theorem zQV:((((((((bd0++bd1)++bd2)++bd3)++bd4)++bd5)++bd6)++bd7)).all zJF=true:=by decide +kernel
theorem zQW:bdZ.all zJF=true:=by decide +kernel
theorem zSv:([.str "bar",.str "bar W",.str "bar w 1",.str "Bar w",.str "turn w 3 a"]:List D).all zJF=true:=by decide +kernel
theorem zQX:((((du0++du1)++du2)++du3)).all zLP=true:=by decide +kernel
theorem zSw{T:List D}(h:T≠[])(k:Int):∃ d,d∈T/\atI T (k%(T.length:Int))=some d:=by
 have hl:0<T.length:=List.length_pos_iff.mpr h;have h1:0<=k%(T.length:Int):=Int.emod_nonneg _ 17#0;have h2:k%(T.length:Int)<T.length:=Int.emod_lt_of_pos _ 17#0;obtain⟨j,hj⟩:=Int.eq_ofNat_of_zero_le h1;rw[hj] at h2 ⊢;have h3:j<T.length:=by omega
 exact⟨T[j],gL h3,ya (by simp[h3])⟩
theorem zCy{σ:S2}{G:Gp}{l:Addr}{xs cs:List D}{u:wC}{E:yO}(h1:look σ 1=some (.adr l))(hx:G.m l=some xs)(hl:xs.length+cs.length<=1000)(k:∀ l' G',Ext G G'->G'.m l'=some (xs++cs)->u E (σ.set 1 (some (.adr l'))) G'):zW (zp (zi (wR (zA 1) (zi (yl (xCs cs))))) (gN 1)) u E σ G:=by
 refine wZ (zD6 (zLK (zF (d:=.adr l) h1 G (.refl G) _ ?_)));refine zD6 (zIl ⟨by rw[sizeLine_eq];omega,fun m hm=>⟨xs,cs,?_,zU,by omega,fun l' hl'=>k l' _ ((Ext.new hm).trans (.new hl')) zU⟩⟩);rw[zA8 (fun z=>by rw[z,hm] at hx;cases hx)];exact hx
theorem zRC{σ:S2}{G:Gp}{cs:List D}{u:wC}{E:yO}(hl:cs.length<=1000)(k:∀ l' G',Ext G G'->G'.m l'=some cs->u E (σ.set 1 (some (.adr l'))) G'):zW (zp (zi (yl (xCs cs))) (gN 1)) u E σ G:=wZ (zD6 (zIl ⟨by rw[sizeLine_eq];omega,fun l' hl'=>k l' _ (.new hl') zU⟩))
theorem zLR{G0 G:Gp}{l:Addr}{T:List D}{k:Int}{R:Q2}(h:G.m l=some T)(hn:T≠[])(sb:Ext G0 G)(q:∀ d∈T,R d G):zk (zO zz (zA 1) (zO (zAP (fun u0 j=>0<j) fun i j=>.int (i%j)) (zA 0) (zJ yF (zB (zA 1) zG)))) (zj R) [some (.int k),some (.adr l)] G:=by
 obtain⟨d,hd,ha⟩:=zSw hn k;have pl:zn (zJ yF (zB (zA 1) zG)) [some (.int k),some (.adr l)] G (.int (T.length:Nat)):=yK (zI (zF (i:=1) (d:=.adr l) rfl) zS) fun u0 e u0 q=>⟨_,e.ls (.inl h),q⟩
 have hp:(0:Int)<(T.length:Nat):=by have:=List.length_pos_iff.mpr hn;omega
 have pm:zn (zO (zAP (fun u0 j=>0<j) fun i j=>.int (i%j)) (zA 0) (zJ yF (zB (zA 1) zG))) [some (.int k),some (.adr l)] G (.int (k%(T.length:Nat))):=yu (zF (i:=0) (d:=.int k) rfl) pl fun u0 u0 u0 q=>⟨hp,q⟩
 exact wT (zAl (zF (i:=1) (d:=.adr l) rfl) pm (.inl h) ha) (.of (q d hd))
def zA2:wq:=fun ds G R=>∃ k:Int,ds=[.int k]/\∀ d G',Ext G G'->zSt G' d->R d G'
def zA3:wq:=fun ds G R=>∃ k:Int,ds=[.int k]/\∀ d G',Ext G G'->zLP d=true->R d G'
def zDM:wC:=(zW (zp (zi (yl (xCs bd0))) (gN 1)) (zW (zp (zi (wR (zA 1) (zi (yl (xCs bd1))))) (gN 1)) (zW (zp (zi (wR (zA 1) (zi (yl (xCs bd2))))) (gN 1)) (zW (zp (zi (wR (zA 1) (zi (yl (xCs bd3))))) (gN 1)) (zW (zp (zi (wR (zA 1) (zi (yl (xCs bd4))))) (gN 1)) (zW (zp (zi (wR (zA 1) (zi (yl (xCs bd5))))) (gN 1)) (zW (zp (zi (wR (zA 1) (zi (yl (xCs bd6))))) (gN 1)) (zW (zp (zi (wR (zA 1) (zi (yl (xCs bd7))))) (gN 1)) (zW (zp (zi (wR (zA 1) (zi (yl (zSb [.str "bar",.str "bar W",.str "bar w 1",.str "Bar w",.non,.int 7,.tup [.str "webs"]] (zi (yl (xCs [.str "webs"]))) [.bl true,.str "turn w 3 a"]))))) (gN 1)) (zW (zp (zi (wR (zA 1) (zi (yl (xCs bdZ))))) (gN 1)) (zk (zO zz (zA 1) (zO (zAP (fun u0 j=>0<j) fun i j=>.int (i%j)) (zA 0) (zJ yF (zB (zA 1) zG)))))))))))))))
def zDN:wC:=(zW (zp (zi (yl (xCs du0))) (gN 1)) (zW (zp (zi (wR (zA 1) (zi (yl (xCs du1))))) (gN 1)) (zW (zp (zi (wR (zA 1) (zi (yl (xCs du2))))) (gN 1)) (zW (zp (zi (wR (zA 1) (zi (yl (xCs du3))))) (gN 1)) (zk (zO zz (zA 1) (zO (zAP (fun u0 j=>0<j) fun i j=>.int (i%j)) (zA 0) (zJ yF (zB (zA 1) zG)))))))))
theorem zMS(ds:List D)(G:Gp)(R:Q2)(h:zA3 ds G R):ds.length=1/\zDN (zj R) (zK ["k","some"] ds) G:=by
 obtain⟨k,rfl,h⟩:=h;refine⟨rfl,?_⟩;unfold zDN;rw[show zK ["k","some"] [.int k]=[some (.int k),none] from rfl];refine zRC (cs:=du0) 3#0 fun l0 G0 e0 h0=>?_;simp only[fH,fG];refine zCy (l:=l0) (cs:=du1) rfl h0 3#0 fun l1 G1 e1 h1=>?_;simp only[fH,fG];refine zCy (l:=l1) (cs:=du2) rfl h1 3#0 fun l2 G2 e2 h2=>?_;simp only[fH,fG];refine zCy (l:=l2) (cs:=du3) rfl h2 3#0 fun l3 G3 e3 h3=>?_;simp only[fH,fG];have sb:=e0.trans (e1.trans (e2.trans (e3)));exact zLR h3 (fun z=>by have:=congrArg List.length z;revert this;decide +kernel) sb fun d hd=>h d _ sb (ge.mp zQX d hd)
theorem zMT(ds:List D)(G:Gp)(R:Q2)(h:zA2 ds G R):ds.length=1/\zDM (zj R) (zK ["k","some"] ds) G:=by
 obtain⟨k,rfl,h⟩:=h;refine⟨rfl,?_⟩;unfold zDM;rw[show zK ["k","some"] [.int k]=[some (.int k),none] from rfl];refine zRC (cs:=bd0) 3#0 fun l0 G0 e0 h0=>?_;simp only[fH,fG];refine zCy (l:=l0) (cs:=bd1) rfl h0 3#0 fun l1 G1 e1 h1=>?_;simp only[fH,fG];refine zCy (l:=l1) (cs:=bd2) rfl h1 3#0 fun l2 G2 e2 h2=>?_;simp only[fH,fG];refine zCy (l:=l2) (cs:=bd3) rfl h2 3#0 fun l3 G3 e3 h3=>?_;simp only[fH,fG];refine zCy (l:=l3) (cs:=bd4) rfl h3 3#0 fun l4 G4 e4 h4=>?_;simp only[fH,fG];refine zCy (l:=l4) (cs:=bd5) rfl h4 3#0 fun l5 G5 e5 h5=>?_;simp only[fH,fG];refine zCy (l:=l5) (cs:=bd6) rfl h5 3#0 fun l6 G6 e6 h6=>?_;simp only[fH,fG];refine zCy (l:=l6) (cs:=bd7) rfl h6 3#0 fun l7 G7 e7 h7=>?_;simp only[fH,fG];have sb:=e0.trans (e1.trans (e2.trans (e3.trans (e4.trans (e5.trans (e6.trans (e7)))))));refine wZ (zD6 (zLK (zF (i:=1) (d:=.adr l7) rfl G7 (.refl _) _ ?_)));refine zD6 (zIl (show zi (yl (xCs [.str "webs"])) _ _ _ from zD6 (zIl ⟨by rw[sizeLine_eq];simp,fun lo hlo=>⟨by rw[sizeLine_eq];simp,fun m hm=>?_⟩⟩)));have no:lo≠m:=fun z=>by rw[<-z,zU] at hm;cases hm
 have eo:Ext G7 (zh G7 lo [.str "webs"]):=.new hlo;have hx:=eo.sub.m _ _ h7;refine⟨_,_,by rw[zA8 (fun z=>by rw[z,hm] at hx;cases hx)];exact hx,zU,(show((((((((bd0++bd1)++bd2)++bd3)++bd4)++bd5)++bd6)++bd7)).length+10<=1000000 by rw[zLQ];omega),fun l' hl'=>?_⟩;simp only[gN,fH,fG,iM,List.nil_append];have sb2:=sb.trans (eo.trans ((Ext.new (o:=mx lo) hm).trans (.new (o:=(((((((bd0++bd1)++bd2)++bd3)++bd4)++bd5)++bd6)++bd7)++mx lo) hl')));have so:=(Ext.new (o:=mx lo) hm).trans (.new (o:=(((((((bd0++bd1)++bd2)++bd3)++bd4)++bd5)++bd6)++bd7)++mx lo) hl');have lso:Ls (zh G7 lo [.str "webs"]) lo [.str "webs"]:=.own;have ls2:=so.ls lso;have hz:(zh (zh (zh G7 lo [.str "webs"]) m (mx lo)) l' ((((((((bd0++bd1)++bd2)++bd3)++bd4)++bd5)++bd6)++bd7)++mx lo)).m l'=some ((((((((bd0++bd1)++bd2)++bd3)++bd4)++bd5)++bd6)++bd7)++mx lo):=zU;generalize zh (zh (zh G7 lo [.str "webs"]) m (mx lo)) l' ((((((((bd0++bd1)++bd2)++bd3)++bd4)++bd5)++bd6)++bd7)++mx lo)=G8 at sb2 ls2 hz;refine zCy (l:=l') (cs:=bdZ) rfl hz (by rw[gj,zLQ];show 56+10+2<=1000;omega) fun l9 G9 e9 h9=>?_;simp only[fH,fG];have sb3:=sb2.trans e9;refine zLR h9 (fun z=>by have:=congrArg List.length (List.append_eq_nil_iff.mp z).2;revert this;decide +kernel) sb3 fun d hd=>h d _ sb3 ?_;rcases iy.mp hd with hd | hd
 ·rcases iy.mp hd with hd | hd
  ·exact zDj (ge.mp zQV d hd)
  ·have mk:=ge.mp zSv
   simp only[fS,gw,or_false] at hd;rcases hd with rfl | rfl | rfl | rfl | rfl | rfl | rfl | rfl | rfl | rfl
   ·exact zDj (mk _ 27#0)
   ·exact zDj (mk _ 27#0)
   ·exact zDj (mk _ 27#0)
   ·exact zDj (mk _ 27#0)
   ·exact .inr ⟨fun t z=>D.noConfusion z,fun l z=>D.noConfusion z⟩
   ·exact .inr ⟨fun t z=>D.noConfusion z,fun l z=>D.noConfusion z⟩
   ·exact .inr ⟨fun t z=>D.noConfusion z,fun l z=>D.noConfusion z⟩
   ·exact .inr ⟨fun t z=>D.noConfusion z,fun l z=>⟨[.str "webs"],by cases z;exact e9.ls ls2⟩⟩
   ·exact .inr ⟨fun t z=>D.noConfusion z,fun l z=>D.noConfusion z⟩
   ·exact zDj (mk _ 27#0)
 ·exact zDj (ge.mp zQW d hd)
theorem zUx{ss':List Str}(hp:ss'.Perm (W0.map (·.1)))(hs:sortedS ss'=true):ss'=[("eight":Str),("seven":Str),("w":Str)]:=by
 have hl:=hp.length_eq;have hn:ss'.Nodup:=hp.nodup_iff.mpr 3#0;have hm:∀ x∈ss',x="w"\/x="seven"\/x="eight":=fun x hx=>by
  have:=hp.mem_iff.mp hx;simpa[W0] using this
 match ss',hl with
 | [a,b,c],_ =>
  rcases hm a (by simp) with rfl | rfl | rfl<;>rcases hm b (by simp) with rfl | rfl | rfl<;>rcases hm c (by simp) with rfl | rfl | rfl<;>first | rfl | exact absurd hn 3#0 | exact absurd hs 3#0
theorem zQY:TL W0 R0 "webs" [] "eight seven w":=.webs 3#0 fun ss' hp hs=>by
 rw[zUx hp hs];exact⟨⟨by decide +kernel,by decide +kernel,by decide +kernel⟩,by decide +kernel⟩
theorem zOa:TL W0 R0 "rings" [] "r":=.rings 3#0 fun ss' hp hs=>by
 have:ss'=[("r":Str)]:=List.perm_singleton.mp hp;rw[this];exact⟨⟨by decide +kernel,by decide +kernel,by decide +kernel⟩,by decide +kernel⟩
theorem zOb:TL W0 R0 "show web" [wv3] "3 : 0-1 1-2":=.showW fun G R h=>by
 refine⟨3,fun p=>p=(0,1)||p=(1,2),?_,by omega,?_⟩
 ·kernel_rfl
 ·rw[show zSj 3 ((prs 3).filter fun p=>p=(0,1)||p=(1,2))="3 : 0-1 1-2" by decide +kernel]
  exact h
theorem rg3:zAz 3 [0,1,0,2,1,2]:=zHl.mpr ⟨rfl,by decide +kernel⟩
theorem zOc:TL W0 R0 "show ring" [rv3] "0 1 0 2 1 2":=.showR fun G R h=>by
 refine⟨[0,1,0,2,1,2],rfl,by decide +kernel,by decide +kernel,?_⟩;rw[show zOC [0,1,0,2,1,2]="0 1 0 2 1 2" by decide +kernel];exact h
theorem zOd:TL W0 R0 "tells" [rv3,wv3] "yes":=.tells (b:=true) fun G R h=>by
 refine⟨3,[0,1,0,2,1,2],wv3,rfl,rg3,by omega,by decide +kernel,?_⟩;rw[show eqD (zDe 3 (zCS [0,1,0,2,1,2])) wv3=true by decide +kernel];exact h
structure zJG (t s:Str):Prop where
 ex:∃(h:Str) (ks:List Str) (ys:List D),lnB t=true/\fmB t=some ks/\yX (zx t)=h/\zSs t ks=ys/\zQS t ks=true/\kpB h=false/\TL W0 R0 h ys s
theorem zQZ:zJG "webs" "eight seven w":=⟨_,[],_,by decide +kernel,by decide +kernel,rfl,rfl,by decide +kernel,by decide +kernel,by rw[show yX (zx "webs")="webs" by decide +kernel];exact zQY⟩
theorem zOe:zJG "rings" "r":=⟨_,[],_,by decide +kernel,by decide +kernel,rfl,rfl,by decide +kernel,by decide +kernel,by rw[show yX (zx "rings")="rings" by decide +kernel];exact zOa⟩
theorem zOf:zJG "show web w" "3 : 0-1 1-2":=⟨_,["web"],[wv3],by decide +kernel,by decide +kernel,rfl,by kernel_rfl,by decide +kernel,by decide +kernel,by rw[show yX (zx "show web w")="show web" by decide +kernel];exact zOb⟩
theorem zOg:zJG "tells r w" "yes":=⟨_,["ring","web"],[rv3,wv3],by decide +kernel,by decide +kernel,rfl,by kernel_rfl,by decide +kernel,by decide +kernel,by rw[show yX (zx "tells r w")="tells" by decide +kernel];exact zOd⟩
theorem zOh:zJG "show ring r" "0 1 0 2 1 2":=⟨_,["ring"],[rv3],by decide +kernel,by decide +kernel,rfl,by kernel_rfl,by decide +kernel,by decide +kernel,by rw[show yX (zx "show ring r")="show ring" by decide +kernel];exact zOc⟩
section
variable {C a:Addr} {σ:S2} {G:Gp} {t s:Str}
theorem zJH{R:Q2}(h1:look σ 1=some (.adr a))(hd:yM C a W0 R0 G)(T:zJG t s)(k:∀ G',Ext G G'->R (.str s) G'):wE C "say" (yw C) (zA 1) (zB (xC (.str t)) zG) σ G R:=by
 obtain⟨h,ks,ys,hb,hf,rfl,rfl,hl,hk,ht⟩:=T;refine zF (d:=.adr a) h1 G (.refl G) _ ?_;have hd2:=hd;obtain⟨dx,p,q,e1,u0⟩:=hd2;exact⟨dx,_,e1,zBC 3#0 3#0,a,W0,R0,t,_,ks,_,rfl,zJE hb hf,hd,zD8,zD9,hl,.tell s hk ht k⟩
theorem zKO{R:Bool->Gp->Prop}(h1:look σ 1=some (.adr a))(hd:yM C a W0 R0 G)(T:zJG t s)(k:∀ G',Ext G G'->R false G'):xB (zO (yY true) (wE C "say" (yw C) (zA 1) (zB (xC (.str t)) zG)) (xC (.str s))) σ G R:=by
 refine(show zO (yY true) _ _ σ G _ from zSe (zJH h1 hd T fun G' e=>?_));refine⟨rfl,rfl,?_⟩;rw[if_pos rfl,zDp (.str s) 8 rfl];exact k G' e
theorem zOi{R:Q2}(h1:look σ 1=some (.adr a))(hd:yM C a W0 R0 G)(T:zJG t s)(k:∀ G',Ext G G'->R (.bl true) G'):zO (yY false) (wE C "say" (yw C) (zA 1) (zB (xC (.str t)) zG)) (xC (.str s)) σ G R:=by
 refine zSe (zJH h1 hd T fun G' e=>?_);refine⟨rfl,rfl,?_⟩;rw[if_neg 27#0,zDp (.str s) 8 rfl];exact k G' e
structure KpT (t h s:Str) (d:D) (ws rs:List (Str×D)):Prop where
 ex:∃ ks:List Str,lnB t=true/\fmB t=some ks/\yX (zx t)=h/\(h="web"\/h="ring")/\lkB ws rs ks (rdA ks (wa (zx t)))=true/\lkA ws rs ks (rdA ks (wa (zx t)))=[.str s,d]
theorem zOj{h:Str}{d:D}{ws rs:List (Str×D)}{R:Q2}(h1:look σ 1=some (.adr a))(h2:look σ 2=some (.str t))(hd:yM C a ws rs G)(hw:zCx ws)(hr:zCx rs)(nw:zJD ws)(nr:zJD rs)(T:KpT t h s d ws rs)(k:∀ G':Gp,(∀ b o,G.m b=some o->G'.m b=some o)->G'.ro=G.ro->KpW C a h s d ws rs G'->R (.str "ok") G'):wE C "say" (yw C) (zA 1) (zB (zA 2) zG) σ G R:=by
 obtain⟨ks,hb,hf,rfl,hh,hl,hy⟩:=T;refine zF (d:=.adr a) h1 G (.refl G) _ ?_;have hd2:=hd;obtain⟨dx,p,q,e1,u0⟩:=hd2;refine⟨dx,_,e1,zBC 3#0 3#0,?_⟩;refine zI (zF (d:=.str t) h2) zS G (.refl G) _ ?_;exact⟨a,ws,rs,t,_,ks,_,rfl,zJE hb hf,hd,hw,hr,hl,.keep s d hh hy nw nr k⟩
end
theorem kt1:KpT "web w 3 : 0-1 1-2" "web" "w" wv3 [] []:=⟨["new","web text"],by decide +kernel,by decide +kernel,by decide +kernel,.inl rfl,by decide +kernel,by kernel_rfl⟩
theorem kt2:KpT "web seven 7 : 0-1" "web" "seven" wv7 W1 []:=⟨["new","web text"],by decide +kernel,by decide +kernel,by decide +kernel,.inl rfl,by decide +kernel,by kernel_rfl⟩
theorem kt3:KpT "web eight 8 :" "web" "eight" wv8 W2 []:=⟨["new","web text"],by decide +kernel,by decide +kernel,by decide +kernel,.inl rfl,by decide +kernel,by kernel_rfl⟩
theorem kt4:KpT "ring r 0 1 0 2 1 2" "ring" "r" rv3 W0 []:=⟨["new","ring text"],by decide +kernel,by decide +kernel,by decide +kernel,.inr rfl,by decide +kernel,by kernel_rfl⟩
noncomputable def Wi:Nat->List (Str×D) | 0=>[] | 1=>W1 | 2=>W2 | _=>W0
noncomputable def Ri:Nat->List (Str×D) | 0=>[] | 1=>[] | 2=>[] | 3=>[] | _=>R0
theorem zQa(i:Nat):zCx (Wi i):=by
 have h0:=zD8;unfold Wi;split
 ·exact fun s d e=>by cases e
 ·exact zFL fun p hp=>by unfold W1 at hp;rw[gO.mp hp];exact⟨_,rfl⟩
 ·exact zFL fun p hp=>by
   unfold W2 at hp;simp only[fS,gw,or_false] at hp;rcases hp with rfl | rfl<;>exact⟨_,rfl⟩
 ·exact h0
theorem zQb(i:Nat):zCx (Ri i):=by
 unfold Ri;split
 ·exact fun s d e=>by cases e
 ·exact fun s d e=>by cases e
 ·exact fun s d e=>by cases e
 ·exact fun s d e=>by cases e
 ·exact zD9
theorem zQc(i:Nat):zJD (Wi i):=by
 unfold Wi zJD;split<;>exact⟨by decide +kernel,by decide +kernel⟩
theorem zQd(i:Nat):zJD (Ri i):=by
 unfold Ri zJD;split<;>exact⟨by decide +kernel,by decide +kernel⟩
noncomputable abbrev lns:List D:=[.str "web w 3 : 0-1 1-2",.str "web seven 7 : 0-1",.str "web eight 8 :",.str "ring r 0 1 0 2 1 2"]
theorem zMU{C a s:Addr}{zs:List D}{G:Gp}{E:yO}(hd:yM C a [] [] G)(hs:G.ro s=some zs)(k:∀(o:Option D) (G':Gp),yM C a W0 R0 G'->G'.ro s=some zs->E.nx [some (.adr s),some (.adr a),o,none,none,none] G'):zCc (iF (yl (xCs lns))) (gN 2) (zBl (wE C "say" (yw C) (zA 1) (zB (zA 2) zG))) E [some (.adr s),some (.adr a),none,none,none,none] G:=by
 refine .of ?_;refine(show iF (yl (xCs lns)) _ G _ from⟨by rw[sizeLine_eq];decide,fun b hb=>?_⟩);refine⟨fun i σ' G'=>(∃ x,σ'=[some (.adr s),some (.adr a),x,none,none,none])/\G'.ro s=some zs/\G'.m b=some lns/\yM C a (Wi i) (Ri i) G',⟨⟨none,rfl⟩,hs,zU,hd.ext (.new hb)⟩,fun i σ' G' u0 p=>.inl p.2.2.1,?_,?_⟩
 ·rintro i x σ' G' hi ⟨⟨y,rfl⟩,hs',hb',hd'⟩
  have st:∀(t h z:Str) (d:D),x=.str t->KpT t h z d (Wi i) (Ri i)->(∀ G2,KpW C a h z d (Wi i) (Ri i) G2->yM C a (Wi (i+1)) (Ri (i+1)) G2)->gN 2 x [some (.adr s),some (.adr a),y,none,none,none] G' fun σ2 G2=>zBl (wE C "say" (yw C) (zA 1) (zB (zA 2) zG)) { E with nx:=Fg (fun σ' G'=>(∃ x,σ'=[some (.adr s),some (.adr a),x,none,none,none])/\G'.ro s=some zs/\G'.m b=some lns/\yM C a (Wi (i+1)) (Ri (i+1)) G'),ct:=Fg (fun σ' G'=>(∃ x,σ'=[some (.adr s),some (.adr a),x,none,none,none])/\G'.ro s=some zs/\G'.m b=some lns/\yM C a (Wi (i+1)) (Ri (i+1)) G'),bk:=E.nx } σ2 G2:=by
   rintro t h z d rfl T hk;refine(show wE C "say" (yw C) (zA 1) (zB (zA 2) zG) [some (.adr s),some (.adr a),some (.str t),none,none,none] G' _ from zOj (t:=t) rfl rfl hd' (zQa i) (zQb i) (zQc i) (zQd i) T fun G2 hm hr kp=>?_);exact .of ⟨⟨_,rfl⟩,by rw[hr];exact hs',hm _ _ hb',hk G2 kp⟩
  match i,hi with
  | 0,hi=>cases hi;exact st _ _ _ _ rfl kt1 fun G2 kp=>kp.elim (fun h=>h.2) fun h=>absurd h.1 3#0
  | 1,hi=>cases hi;exact st _ _ _ _ rfl kt2 fun G2 kp=>kp.elim (fun h=>by have h2:=h.2;rw[show putD "seven" wv7 (Wi 1)=Wi 2 from put2] at h2;exact h2) fun h=>absurd h.1 3#0
  | 2,hi=>cases hi;exact st _ _ _ _ rfl kt3 fun G2 kp=>kp.elim (fun h=>by have h2:=h.2;rw[show putD "eight" wv8 (Wi 2)=Wi 3 from put3] at h2;exact h2) fun h=>absurd h.1 3#0
  | 3,hi=>cases hi;exact st _ _ _ _ rfl kt4 fun G2 kp=>kp.elim (fun h=>absurd h.1 3#0) fun h=>h.2
  | n+4,hi=>cases hi
 ·rintro σ' G' ⟨⟨x,rfl⟩,hs',u0,hd'⟩
  exact k x G' hd' hs'
theorem zOk{σ:S2}{G:Gp}{s:Addr}{ns:List Int}(h0:look σ 0=some (.adr s))(hs:Ls G s (ns.map D.int)):∃ ms:List Int,PuI (iF (wR (zi (yR (zA 0) yH (yU (xC (.int 30))))) (zi (yl (zB (xC (.int 7)) zG))))) σ G (ms.map D.int):=by
 have hc:L3.cutD (ns.map D.int) none (some 30)=(ns.take 30).map D.int:=by
  unfold L3.cutD;rw[HT.zDk,show(30:Int)=((30:Nat):Int) from rfl,HT.zC5,fE,List.drop_zero,<-List.map_take];congr 1;rw[Nat.sub_zero,List.take_eq_take_iff];omega
 have sl:PuL (yR (zA 0) yH (yU (xC (.int 30)))) σ G ((ns.take 30).map D.int):=fun G2 e R q=>zF (d:=.adr s) h0 G2 e _ ⟨_,e.ls hs,by rw[hc];exact q⟩;refine⟨ns.take 30++[7],fun G2 e R q=>?_⟩;refine(show wR _ _ σ G2 _ from zLK (zD6 (sl G2 e _ ?_)));intro m1 h1;refine zG7 (zHy (d:=.int 7) zv) fun m2 h2=>?_;have n12:m1≠m2:=fun z=>by rw[<-z,zU] at h2;cases h2
 refine⟨_,_,by rw[zA8 n12];exact zU,zU,by simp only[fE,hJ,List.length_singleton];omega,fun m3 h3=>?_⟩;rw[<-show(ns.take 30++[7]).map D.int=(ns.take 30).map D.int++[.int 7] by rw[List.map_append];rfl];exact q _ _ (((Ext.new h1).trans (.new h2)).trans (.new h3)) fun G4 e4=>e4.ls .own
def zEA(aa:Addr):wC:=(zW (zp (zNk aa (zAK aa)) (gN 1)) (zW (zCc (iF (yl (xCs [.str "web w 3 : 0-1 1-2",.str "web seven 7 : 0-1",.str "web eight 8 :",.str "ring r 0 1 0 2 1 2"]))) (gN 2) (zBl (wE aa "say" (yw aa) (zA 1) (zB (zA 2) zG)))) (zW (zCc (iF (wR (zi (yR (zA 0) yH (yU (xC (.int 30))))) (zi (yl (zB (xC (.int 7)) zG))))) (gN 3) (zW (zp (zO (zAP (fun u0 j=>0<j) fun i j=>.int (i%j)) (zA 3) (xC (.int 2147483647))) (gN 4)) (zW (zp (zJ zA2 (zB (zO (zAP zHD fun i j=>.int (i / j)) (zA 4) (xC (.int 2))) zG)) (gN 2)) (zW (zp (xC (.int 4)) (gN 5)) (zW (wM (xB (zO (yY false) (zO (zAP (fun u0 j=>0<j) fun i j=>.int (i%j)) (zA 4) (xC (.int 2))) (xC (.int 0)))) (zp (zJ zA3 (zB (zO (zAP zHD fun i j=>.int (i / j)) (zA 4) (xC (.int 2))) zG)) (gNN 2 5)) zZ) (zW (wM (xB (zO (yY true) (zi (wu (zBG 4 aa "say" (zu aa) (zA 1) (zB (zA 2) zG)) (wu (zBG 3 aa "say" (yJ aa) (zA 1) (zB (zA 2) zG)) (zBG 0 aa "say" (yB aa) (zA 1) (zB (zA 2) zG))))) (zi (yl (zB (zA 5) zG))))) (zk (xC (.bl false))) zZ) (wM (zAh (xB (zO (yY true) (wE aa "say" (yw aa) (zA 1) (zB (xC (.str "webs")) zG)) (xC (.str "eight seven w")))) (zAh (xB (zO (yY true) (wE aa "say" (yw aa) (zA 1) (zB (xC (.str "rings")) zG)) (xC (.str "r")))) (xB (zO (yY true) (wE aa "say" (yw aa) (zA 1) (zB (xC (.str "show web w")) zG)) (xC (.str "3 : 0-1 1-2")))))) (zk (xC (.bl false))) zZ))))))) (zk (zE0 (zO (yY false) (wE aa "say" (yw aa) (zA 1) (zB (xC (.str "tells r w")) zG)) (xC (.str "yes"))) (zO (yY false) (wE aa "say" (yw aa) (zA 1) (zB (xC (.str "show ring r")) zG)) (xC (.str "0 1 0 2 1 2"))))))))
def LD(G:Gp)(d:D)(c:Int):Prop:=(c=4/\zSt G d)\/∃ t:Str,d=.str t/\((c=3/\zOW t=true)\/(c=0/\zOX t=true))
theorem zQe{C a:Addr}{σ:S2}{G:Gp}{d:D}{c:Int}{R:List D->Gp->Prop}(h1:look σ 1=some (.adr a))(h2:look σ 2=some d)(hd:yM C a W0 R0 G)(hl:LD G d c)(k:∀ G',L3.Sub G G'->R [.int c] G') :
  wu (zBG 4 C "say" (zu C) (zA 1) (zB (zA 2) zG)) (wu (zBG 3 C "say" (yJ C) (zA 1) (zB (zA 2) zG)) (zBG 0 C "say" (yB C) (zA 1) (zB (zA 2) zG))) σ G R:=by
 have go:∀ cond:Cnd,cond [.adr a,d] G (fun G'=>R [.int c] G')->zBG c C "say" cond (zA 1) (zB (zA 2) zG) σ G R:=fun cond h=>by
  refine(show zBA C "say" cond _ _ _ σ G from zF (d:=.adr a) h1 G (.refl G) _ ?_);have hd2:=hd;obtain⟨dx,p,q,e1,u0⟩:=hd2;refine⟨dx,_,e1,zBC 3#0 3#0,?_⟩;exact zI (zF (d:=d) h2) zS G (.refl G) _ h
 rcases hl with ⟨rfl,hb | hb⟩ | ⟨t,rfl,⟨rfl,hn⟩ | ⟨rfl,hn⟩⟩
 ·obtain⟨t,rfl,hb⟩:=hb
  exact .inl (go _ (zOY hb hd k))
 ·exact .inl (go _ (zOZ hb k))
 ·exact .inr (.inl (go _ (zQT hn hd k)))
 ·exact .inr (.inr (go _ (zQU hn hd k)))
theorem zSx{C a:Addr}{σ:S2}{G:Gp}{d:D}{c:Int}{R:Bool->Gp->Prop}(h1:look σ 1=some (.adr a))(h2:look σ 2=some d)(h5:look σ 5=some (.int c))(hd:yM C a W0 R0 G)(hl:LD G d c)(k:∀ G',L3.Sub G G'->R false G') :
  xB (zO (yY true) (zi (wu (zBG 4 C "say" (zu C) (zA 1) (zB (zA 2) zG)) (wu (zBG 3 C "say" (yJ C) (zA 1) (zB (zA 2) zG)) (zBG 0 C "say" (yB C) (zA 1) (zB (zA 2) zG))))) (zi (yl (zB (zA 5) zG)))) σ G R:=by
 refine(show zO (yY true) (zi _) (zi _) σ G _ from zSe (zD6 (zQe h1 h2 hd hl fun G3 e3 l1 n1=>?_)));refine zG7 (zHy (d:=.int c) (zF h5)) fun l2 n2=>?_;have n12:l1≠l2:=fun z=>by rw[<-z,zU] at n2;cases n2
 refine⟨[.int c],[.int c],.inl (by rw[zA8 n12];exact zU),.inl zU,by simp[flat],by simp[flat],?_⟩;rw[if_pos rfl,show eqDs [.int c] [.int c]=true by simp[eqDs,eqD]];exact k _ (e3.trans ((L3.Sub.new n1).trans (.new n2)))
theorem zSy{σ:S2}{G:Gp}{tc:TT2}{t u:wC}{E:yO}(h:tc σ G fun b G1=>if b=true then t E σ G1 else u E σ G1):wM tc t u E σ G:=h
theorem zRD{σ:S2}{G:Gp}{t u:TT2}{R:Bool->Gp->Prop}(h:t σ G fun c G1=>if c=true then R true G1 else u σ G1 R):zAh t u σ G R:=h
theorem zUN{σ:S2}{G:Gp}{ta tb:zm}{R:Q2}(h:ta σ G fun x G1=>match x with | .bl c=>if c=true then tb σ G1 R else R (.bl false) G1 | _=>False):zE0 ta tb σ G R:=h
theorem zRE{σ:S2}{G:Gp}{t u:wC}{E:yO}(h:t { E with nx:=u E } σ G):zW t u E σ G:=h
theorem zMV{C a s:Addr}{n:Int}{G:Gp}{E:yO}(hd:yM C a W0 R0 G)(k:∀ σ' G',zB8 [some (.adr s),some (.adr a),none,none,none,none] σ'->L3.Sub G G'->E.nx σ' G'):((zW (zp (zO (zAP (fun u0 j=>0<j) fun i j=>.int (i%j)) (zA 3) (xC (.int 2147483647))) (gN 4)) (zW (zp (zJ zA2 (zB (zO (zAP zHD fun i j=>.int (i / j)) (zA 4) (xC (.int 2))) zG)) (gN 2)) (zW (zp (xC (.int 4)) (gN 5)) (zW (wM (xB (zO (yY false) (zO (zAP (fun u0 j=>0<j) fun i j=>.int (i%j)) (zA 4) (xC (.int 2))) (xC (.int 0)))) (zp (zJ zA3 (zB (zO (zAP zHD fun i j=>.int (i / j)) (zA 4) (xC (.int 2))) zG)) (gNN 2 5)) zZ) 29#0))))) E [some (.adr s),some (.adr a),none,some (.int n),none,none] G:=by
 have pn:zn (zO (zAP (fun u0 j=>0<j) fun i j=>.int (i%j)) (zA 3) (xC (.int 2147483647))) [some (.adr s),some (.adr a),none,some (.int n),none,none] G (.int (n%2147483647)):=yu (zF (i:=3) (d:=.int n) rfl) zv fun u0 u0 u0 q=>⟨by omega,q⟩
 refine wn pn ?_;simp only[gN,fH,fG];generalize n%2147483647=m;have ph:∀(o o':Option D) (G1:Gp),PuA (zB (zO (zAP zHD fun i j=>.int (i / j)) (zA 4) (xC (.int 2))) zG) [some (.adr s),some (.adr a),o,some (.int n),some (.int m),o'] G1 [.int (m / 2)]:=fun o o' G1=>zI (yu (zF (i:=4) (d:=.int m) rfl) zv fun u0 u0 u0 q=>⟨⟨by omega,by omega⟩,q⟩) zS;refine wZ (zFu (ph none none G) ⟨m / 2,rfl,fun d G1 e1 hb=>?_⟩);simp only[gN,fH,fG];refine wn (zv (d:=.int 4)) ?_;simp only[gN,fH,fG];have pm:PuT (xB (zO (yY false) (zO (zAP (fun u0 j=>0<j) fun i j=>.int (i%j)) (zA 4) (xC (.int 2))) (xC (.int 0)))) [some (.adr s),some (.adr a),some d,some (.int n),some (.int m),some (.int 4)] G1 (decide (m%2=0)):=yr (zCe (x:=.int (m%2)) (y:=.int 0) (yu (zF (i:=4) (d:=.int m) rfl) zv fun u0 u0 u0 q=>⟨by omega,q⟩) zv rfl rfl (by rw[if_neg 27#0,zHa]));have go:∀(d:D) (c:Int) (G2:Gp),L3.Sub G G2->LD G2 d c->29#0 E [some (.adr s),some (.adr a),some d,some (.int n),some (.int m),some (.int c)] G2:=fun d c G2 e2 hl=>by
  have hd2:=hd.ext e2;refine zRE (zSy (zSx rfl rfl rfl hd2 hl fun G4 e4=>?_));rw[if_neg 27#0];have hd4:=hd2.ext e4;have s4:=e2.trans e4;refine zUt ?_;dsimp only;refine zSy (zRD (zKO rfl hd4 zQZ fun G5 e5=>?_));rw[if_neg 27#0];refine zRD (zKO rfl (hd4.ext e5.sub) zOe fun G6 e6=>?_);rw[if_neg 27#0];refine zKO rfl ((hd4.ext e5.sub).ext e6.sub) zOf fun G7 e7=>?_;rw[if_neg 27#0];exact k _ _ (.keep (.keep (.skip (.skip (.skip (.skip .nil)))))) (s4.trans (e5.sub.trans (e6.sub.trans e7.sub)))
 refine zRE (zSy (pm G1 (.refl _) _ ?_));by_cases hm:m%2=0
 ·rw[if_pos (by simp[hm])]
  refine zD5 (zFu (ph _ _ G1) ⟨m / 2,rfl,fun x G2 e2 hx=>?_⟩);obtain⟨t,c,rfl,hc⟩:=zSu hx;exact go (.str t) c G2 (e1.sub.trans e2.sub) (.inr ⟨t,rfl,hc⟩)
 ·rw[if_neg (by simp[hm])]
  exact go d 4 G1 e1.sub (.inl ⟨rfl,hb⟩)
theorem zUO(C:Addr)(ds:List D)(G:Gp)(R:Q2)(h:zGt ds G R):ds.length=1/\zEA C (zj R) (zK ["script","desk","line","cell","number","due"] ds) G:=by
 obtain⟨s,ns,rfl,hs,u0,u0,h⟩:=h;refine⟨rfl,?_⟩;unfold zEA;rw[show zK ["script","desk","line","cell","number","due"] [.adr s]=[some (.adr s),none,none,none,none,none] from rfl];refine wZ (show zNk C (zAK C) _ G _ from fun a dx ha=>⟨a,dx,rfl,wO,fun G1 hm hr hd=>⟨rfl,?_⟩⟩);simp only[gN,fH,fG];have hs1:G1.ro s=some (ns.map D.int):=by rw[hr];exact hs
 refine(show zCc _ _ _ _ _ G1 from zMU hd hs1 fun o G2 hd2 hs2=>?_);dsimp only;obtain⟨ms,hms⟩:=zOk (σ:=[some (.adr s),some (.adr a),none,none,none,none]) (G:=G2) rfl (.inr hs2);refine(show zCc _ _ _ _ _ G2 from zNG hms (fun x hx G3 e3=>?_) (fun G3 e3=>?_) (.keep (.keep (.skip (.skip (.skip (.skip .nil)))))))
 ·obtain⟨n,u0,rfl⟩:=gf.mp hx
  exact zMV (hd2.ext e3.sub) fun σ' G' h1 h2=>⟨h1,h2⟩
 ·have hd3:=hd2.ext e3.sub
  refine zG8 (zUN (zOi (σ:=[some (.adr s),some (.adr a),none,none,none,none]) (a:=a) rfl hd3 zOg fun G4 e4=>?_));dsimp only;rw[if_pos rfl];exact zOi (a:=a) rfl (hd3.ext e4.sub) zOh fun G5 e5=>⟨_,.refl _,h _⟩
noncomputable abbrev zAa:Stmt:=top 9
theorem zEB:zV ["thing"] ["thing"] (zD zAa):=1#0
noncomputable abbrev wY:Stmt:=top 11
theorem zDX:zV ["things"] ["things"] (zD wY):=1#0
noncomputable abbrev zDO:Stmt:=top 12
theorem zJI:zV ["many"] ["many"] (zD zDO):=1#0
noncomputable abbrev zA4:Stmt:=top 13
theorem zEt:zV ["places","found","k","j"] ["places"] (zD zA4):=1#0
noncomputable abbrev wd:Stmt:=top 14
theorem zCz:zV ["many","most"] ["many","most"] (zD wd):=1#0
noncomputable abbrev zAb:Stmt:=top 16
theorem zGC:zV ["thing","many"] ["thing"] (zD zAb):=1#0
noncomputable abbrev zDP:Stmt:=top 17
theorem zJJ:zV ["ring","one","other","first","second"] ["ring","one","other"] (zD zDP):=1#0
noncomputable abbrev zBh:Stmt:=top 18
theorem zG9:zV ["ring","many"] ["ring"] (zD zBh):=1#0
noncomputable abbrev zA5:Stmt:=top 23
theorem zGD:zV ["thing","many","ties"] ["thing"] (zD zA5):=1#0
noncomputable abbrev zBZ:Stmt:=top 24
theorem zGE:zV ["many","thing"] ["many","thing"] (zD zBZ):=1#0
noncomputable abbrev zDQ:Stmt:=top 29
theorem zJK:zV ["ring","web"] ["ring","web"] (zD zDQ):=1#0
noncomputable abbrev zBa:Stmt:=top 30
theorem zGF:zV ["web","order"] ["web"] (zD zBa):=1#0
noncomputable abbrev zCG:Stmt:=top 43
theorem zHA:zV ["web","lists","edge","turned","places"] ["web"] (zD zCG):=1#0
noncomputable abbrev zAV:Stmt:=top 49
theorem zEu:zV ["web","words"] ["web"] (zD zAV):=1#0
noncomputable abbrev zAW:Stmt:=top 50
theorem zEv:zV ["tie"] ["tie"] (zD zAW):=1#0
noncomputable abbrev zAF:Stmt:=top 51
theorem zEC:zV ["ring"] ["ring"] (zD zAF):=1#0
noncomputable abbrev wL:Stmt:=top 52
theorem zBx:zV ["text","words","web"] ["text"] (zD wL):=1#0
noncomputable abbrev zA6:Stmt:=top 53
theorem zEw:zV ["word"] ["word"] (zD zA6):=1#0
noncomputable abbrev yp:Stmt:=top 54
theorem zBT:zV ["text","ring"] ["text"] (zD yp):=1#0
noncomputable abbrev zAG:Stmt:=top 55
theorem zBy:zV ["text"] ["text"] (zD zAG):=1#0
noncomputable abbrev zCH:Stmt:=top 56
theorem zHB:zV ["word"] ["word"] (zD zCH):=1#0
noncomputable abbrev zAc:Stmt:=top 65
theorem zED:zV ["web","rings","place"] ["web"] (zD zAc):=1#0
noncomputable abbrev yq:Stmt:=top 73
theorem zBU:zV ["line","words","ahead","head","rest"] ["line"] (zD yq):=1#0
noncomputable abbrev wV:Stmt:=top 74
theorem zBV:zV ["kind","word"] ["kind","word"] (zD wV):=1#0
noncomputable abbrev wI:Stmt:=top 75
theorem zBE:zV ["word","place"] ["word"] (zD wI):=1#0
noncomputable abbrev zA7:Stmt:=top 76
theorem zGG:zV ["word"] ["word"] (zD zA7):=1#0
noncomputable abbrev zAd:Stmt:=top 77
theorem zEE:zV ["web","place"] ["web","place"] (zD zAd):=1#0
noncomputable abbrev zAe:Stmt:=top 78
theorem zEF:zV ["truth"] ["truth"] (zD zAe):=1#0
noncomputable abbrev zAf:Stmt:=zGM 80 0
theorem zEG:zV ["self"] ["self"] (zD zAf):=1#0
noncomputable abbrev zBK:Stmt:=zGM 80 1
theorem zC0:zV ["self","line","asked","head","given"] ["self","line"] (zD zBK):=1#0
noncomputable abbrev wW:Stmt:=zGM 80 2
theorem zBW:zV ["self","kind","thing","found"] ["self","kind","thing"] (zD wW):=1#0
noncomputable abbrev zB2:Stmt:=zGM 80 3
theorem zDR:zV ["self","head","given","ring"] ["self","head","given"] (zD zB2):=1#0
noncomputable abbrev zC1:Stmt:=zGM 80 4
theorem zFM:zV ["self","head","given"] ["self","head","given"] (zD zC1):=1#0
noncomputable abbrev zBb:Stmt:=top 86
theorem zGH:zV ["k","some"] ["k"] (zD zBb):=1#0
noncomputable abbrev zBc:Stmt:=top 87
theorem zGI:zV ["k","some"] ["k"] (zD zBc):=1#0
noncomputable abbrev yf:Stmt:=top 85
theorem zBX:zV ["call","error","e","kinds"] ["call"] (zD yf):=1#0
noncomputable abbrev zCh:Stmt:=top 88
theorem zOl:zV ["script","desk","line","cell","number","due"] ["script"] (zD zCh):=1#0
theorem zKP(e:Addr)(G:Gp)(R:Q2)(h:∀ l,G.m l=none->R (.adr l) (zh G l [.int 3])):zA1 e false false false true false (zj R) ((fX 4 none).set 1 (some (.adr e))) G:=zEV rfl h
section
variable {P:Program} {w:World} {K:PySem.W.Frag} {mg:Str->Option Value} {base:Heap}
theorem zOm:zNd yf ["call","error","e","kinds"] ((zR yf).drop 2):=⟨⟨_,_,_,_,_,_,_,_,_,_,_,_,_,rfl⟩,rfl,rfl,rfl,by decide +kernel,by decide +kernel,by decide +kernel,by decide +kernel⟩
theorem zH1{C0 ae bC aP ag ac f e:Addr}{cdv:Value}{A:Around}{outer:List Env}{s:Shared}{H:Hp}{oe:Obj}{dF eG dG e8 dH:Bool}(af:mg "isinstance"=none)(bf:mg "ValueError"=none)(aL:mg "range"=none)(ao:mg "TooMany"=some (.ref ae))(cD:mg "NoTie"=some (.ref bC))(bJ:mg "NoSplit"=some (.ref aP))(bo:mg "NoName"=some (.ref ag))(ah:mg "BadNote"=some (.ref ac))(xk:zAk K C0)(hcl:oe.cls=.ref C0)(fb:PySem.W.kitOne K (.ref C0) (.ref ae)=some dF)(fw:PySem.W.kitOne K (.ref C0) (.ref bC)=some eG)(fc:PySem.W.kitOne K (.ref C0) (.ref aP)=some dG)(fg:PySem.W.kitOne K (.ref C0) (.ref ag)=some e8)(fe:PySem.W.kitOne K (.ref C0) (.ref ac)=some dH)(qV:PySem.W.kitOne K (.ref C0) (.type "ValueError")=some true):Ps2 (zL3 (zBi CX0 P w K mg base ["call","error","e","kinds"] "_law_refused" (zD yf) f cdv A outer s H E0).nox e oe) ((zR yf).drop 2) (zA1 e dF eG dG e8 dH):=by
 have nd:=(zBX).nd;unfold zA1;exact(zL (yI 3 nd (yo (zB7 (zE (zIh 1 xk gg hcl rfl af rfl ao fb) (zE (zIh 1 xk gg hcl rfl af rfl cD fw) (zE (zIh 1 xk gg hcl rfl af rfl bJ fc) zH)))))) (zL (yI 3 nd (yo (zGs (zC 3) (yo (zB7 (zE (zIh 1 xk gg hcl rfl af rfl bo fg) (zE (zIh 1 xk gg hcl rfl af rfl ah fe) zH))))))) (zL (yb (zAi (zAY (zSH 1 xk gg hcl rfl af rfl bf qV))) (zM (zg zDV)) ze) (zM (zg (yo (zDY "k" rfl (yP (osc:=zD yf) (N:=["call","error","e","kinds"]) (N0:=["!00","!01","!02","kinds"]) (own:=["k"]) 3#0) (zDn rfl aL (zE zP zH)) (fun u0 u0 u0 u0 u0=>(zM2 (zAY (yE (zC 3) (zC 4))))) (fun u0 u0 u0 u0 u0=>(zC 4)))))))))
theorem zH2{f:Addr}{fd:FuncData}(F:Fun K "is_number" "is_number" zAa f fd)(hm:mg "is_number"=some (.ref f))(af:mg "isinstance"=none)(eL:mg "int"=none)(eT:mg "bool"=none):Df P w K mg base 1 "is_number" ["thing"] zw:=by
 have nd:=(zEB).nd;refine yi (zBo) F zEB hm (F.binds (ps:=["thing"]) fun u0 u0 u0 u0 u0 u0 us hl=>us1 us hl fun u0=>rfl) 7#0 (zIu);unfold zBo;exact(zM (zg (zIQ (zEj (T:="int") rfl af rfl eL 3#0 (zC 0)) (zIP (zTU (zEj (T:="bool") rfl af rfl eT 3#0 (zC 0)))))))
theorem zGY{f:Addr}{fd:FuncData}(F:Fun K "is_rising" "is_rising" wY f fd)(hm:mg "is_rising"=some (.ref f))(cu:mg "all"=none)(aL:mg "range"=none)(am:mg "len"=none):Df P w K mg base 1 "is_rising" ["things"] zAQ:=by
 have nd:=(zDX).nd;refine yi (zBM) F zDX hm (F.binds (ps:=["things"]) fun u0 u0 u0 u0 u0 u0 us hl=>us1 us hl fun u0=>rfl) 7#0 (zHi);unfold zBM;exact(zM (zg (zIX rfl rfl cu (zDY "k" rfl (yP (osc:=zD wY) (N:=["things"]) (N0:=["things"]) (own:=["k"]) 3#0) (zDn rfl aL (zE (zTV (zAL rfl am (zE (zC 0) zH)) zP) zH)) (fun u0 u0 u0 u0 u0=>wf) (fun u0 u0 u0 u0 u0=>(zTe hr (yE (zC 0) (zC 1)) (yE (zC 0) (zNE (zC 1) zP))))))))
theorem zJL{f:Addr}{fd:FuncData}(F:Fun K "pairs_of" "pairs_of" zA4 f fd)(hm:mg "pairs_of"=some (.ref f))(aL:mg "range"=none)(am:mg "len"=none):Df P w K mg base 1 "pairs_of" ["places"] (spL wS):=by
 have nd:=(zEt).nd;refine yi (zCR) F zEt hm (F.binds (ps:=["places"]) fun u0 u0 u0 u0 u0 u0 us hl=>us1 us hl fun u0=>rfl) 7#0 (zJ3);unfold zCR;exact(zL (yI 1 nd (yo (zB7 zH))) (zL (zHP PassesOwn.never rfl (zDn rfl aL (zE (zAL rfl am (zE (zC 0) zH)) zH)) (zHK 2 nd) (zM (zHP PassesOwn.never rfl (zM1 rfl aL (zE (zNE (zC 2) zP) (zE (zAL rfl am (zE (zC 0) zH)) zH))) (zHK 3 nd) (zM (zJh (zM9 (zC 1) (zE (zCn (zE (yE (zC 0) (zC 2)) (zE (yE (zC 0) (zC 3)) zH))) zH))))))) (zM (zg (zC 1)))))
theorem zGJ{ae:Addr}{f:Addr}{fd:FuncData}(F:Fun K "refuse_more" "refuse_more" wd f fd)(hm:mg "refuse_more"=some (.ref f)) (ao:mg "TooMany"=some (.ref ae))(ax:zAk K ae):Rz P w K mg base 1 "refuse_more" ["many","most"] yQ ae:=by
 have nd:=(zCz).nd;refine zCt (zAn) F zCz hm (F.binds (ps:=["many","most"]) fun u0 u0 u0 u0 u0 u0 us hl=>us2 us hl fun u0 u0=>rfl) 7#0 (zF3);unfold zAn;exact(zDU zN (zRq (zC 0) (zC 1)) (bG zN rfl ao ax.ex0 (zSI [1] (zHZ (zJx 1 (zHZ .nil))))))
theorem zOn{f:Addr}{fd:FuncData}(F:Fun K "cross" "cross" zDP f fd)(hm:mg "cross"=some (.ref f)) :Df P w K mg base 1 "cross" ["ring","one","other"] zCD:=by
 have nd:=(zJJ).nd;refine yi (zFF) F zJJ hm (F.binds (ps:=["ring","one","other"]) fun u0 u0 u0 u0 u0 u0 us hl=>us3 us hl fun u0 u0 u0=>rfl) 7#0 (zPx);unfold zFF;exact(zL (yI 3 nd (zNJ hr (zC 0) (zE (zC 1) zH))) (zL (yI 4 nd (zNK hr (zC 0) (zE (zC 1) (zE (zNE (zC 3) zP) zH)))) (zM (zg (zLg hr (zIV hr (zPV (zC 0) (wr (zC 3)) (wr (zC 4))) (zE (zC 2) zH)) zP)))))
theorem zJM{f:Addr}{fd:FuncData}(F:Fun K "tie_text" "tie_text" zAW f fd)(hm:mg "tie_text"=some (.ref f))(bA:mg "str"=none):Df P w K mg base 1 "tie_text" ["tie"] zAZ:=by
 have nd:=(zEv).nd;refine yi (zCU) F zEv hm (F.binds (ps:=["tie"]) fun u0 u0 u0 u0 u0 u0 us hl=>us1 us hl fun u0=>rfl) 7#0 (zKB);unfold zCU;exact(zM (zg (zA9 (zDY "place" rfl (yP (osc:=zD zAW) (N:=["tie"]) (N0:=["!00"]) (own:=["place"]) 3#0) (zIO (zC 0)) (fun u0 u0 u0 u0 u0=>wf) (fun u0 u0 u0 u0 u0=>(zFi rfl bA (zE (zC 1) zH)))))))
theorem zH3{f:Addr}{fd:FuncData}(F:Fun K "ring_text" "ring_text" zAF f fd)(hm:mg "ring_text"=some (.ref f))(bA:mg "str"=none):Df P w K mg base 1 "ring_text" ["ring"] yc:=by
 have nd:=(zEC).nd;refine yi (zBp) F zEC hm (F.binds (ps:=["ring"]) fun u0 u0 u0 u0 u0 u0 us hl=>us1 us hl fun u0=>rfl) 7#0 (zIw);unfold zBp;exact(zM (zg (zA9 (zDY "place" rfl (yP (osc:=zD zAF) (N:=["ring"]) (N0:=["!00"]) (own:=["place"]) 3#0) (zIO (zC 0)) (fun u0 u0 u0 u0 u0=>wf) (fun u0 u0 u0 u0 u0=>(zFi rfl bA (zE (zC 1) zH)))))))
theorem zJN{f:Addr}{fd:FuncData}(F:Fun K "words_of" "words_of" zAG f fd)(hm:mg "words_of"=some (.ref f))(af:mg "isinstance"=none)(bA:mg "str"=none):Df P w K mg base 1 "words_of" ["text"] (spL zb):=by
 have nd:=(zBy).nd;refine yi (zCX) F zBy hm (F.binds (ps:=["text"]) fun u0 u0 u0 u0 u0 u0 us hl=>us1 us hl fun u0=>rfl) 7#0 (zKG);unfold zCX;exact(zL (yb (zAi (zAY (zEj (T:="str") rfl af rfl bA 3#0 (zC 0)))) (zM zE2) ze) (zM (zg (yo (zPe (zC 0) (zE zX zH))))))
theorem zJO{ac:Addr}{f:Addr}{fd:FuncData}(F:Fun K "words_of" "words_of" zAG f fd)(hm:mg "words_of"=some (.ref f))(af:mg "isinstance"=none)(bA:mg "str"=none)(ah:mg "BadNote"=some (.ref ac))(ak:zAk K ac):Rz P w K mg base 1 "words_of" ["text"] yd ac:=by
 have nd:=(zBy).nd;refine zCt (zBq) F zBy hm (F.binds (ps:=["text"]) fun u0 u0 u0 u0 u0 u0 us hl=>us1 us hl fun u0=>rfl) 7#0 (zIz);unfold zBq;exact(zDU zN (zAi (zAY (zEj (T:="str") rfl af rfl bA 3#0 (zC 0)))) (bG zN rfl ah ak.ex0 zX))
theorem zMW{f:Addr}{fd:FuncData}(F:Fun K "figure" "figure" zCH f fd)(hm:mg "figure"=some (.ref f))(am:mg "len"=none)(eL:mg "int"=none){dJ:Tok}(ed:mg "FIGURES"=some (.str "0123456789" dJ)):Df P w K mg base 1 "figure" ["word"] zq:=by
 have nd:=(zHB).nd;refine yi (zD3) F zHB hm (F.binds (ps:=["word"]) fun u0 u0 u0 u0 u0 u0 us hl=>us1 us hl fun u0=>rfl) 7#0 (zOJ);unfold zD3;exact(zM (zg (zEo (W2.test (w_and (wA hr (zIb rfl am (zE (zC 0) zH)) zP) (zRo (zTf (zC 0) (zKt rfl ed))))) (zR7 rfl eL (zE (zC 0) zH)) zDV)))
theorem zKQ{f:Addr}{fd:FuncData}(F:Fun K "is_name" "is_name" zA7 f fd)(hm:mg "is_name"=some (.ref f))(am:mg "len"=none)(cu:mg "all"=none){bP:Tok}(bV:mg "LONGEST_NAME"=some (.int 8 bP)){dL:Tok}(ef:mg "LETTERS"=some (.str "abcdefghijklmnopqrstuvwxyz" dL)):Df P w K mg base 1 "is_name" ["word"] zAD:=by
 have nd:=(zGG).nd;refine yi (zDK) F zGG hm (F.binds (ps:=["word"]) fun u0 u0 u0 u0 u0 u0 us hl=>us1 us hl fun u0=>rfl) 7#0 (zMQ);unfold zDK;exact(zM (zg (zIQ (zTc zFQ zFQ (zAu fun u0 u0=>⟨rfl,rfl⟩) (zAu fun u0 u0=>⟨rfl,rfl⟩) zP (zIb rfl am (zE (zC 0) zH)) (zBm rfl bV)) (zIP (zIX rfl rfl cu (zDY "letter" rfl (yP (osc:=zD zA7) (N:=["word"]) (N0:=["!00"]) (own:=["letter"]) 3#0) (zTv (zC 0)) (fun u0 u0 u0 u0 u0=>wf) (fun u0 u0 u0 u0 u0=>(zTw (zC 1) (zKt rfl ef)))))))))
theorem zH4{ac:Addr}{f:Addr}{fd:FuncData}(F:Fun K "turned_at" "turned_at" zAd f fd)(hm:mg "turned_at"=some (.ref f)) (ah:mg "BadNote"=some (.ref ac))(ak:zAk K ac):Rz P w K mg base 1 "turned_at" ["web","place"] zAB ac:=by
 have nd:=(zEE).nd;refine zCt (zBO) F zEE hm (F.binds (ps:=["web","place"]) fun u0 u0 u0 u0 u0 u0 us hl=>us2 us hl fun u0 u0=>rfl) 7#0 (zHo);unfold zBO;exact(zDU zN (zUq (zC 1) (yE (zC 0) zP)) (bG zN rfl ah ak.ex0 zX))
theorem zH5{f:Addr}{fd:FuncData}(F:Fun K "yes_or_no" "yes_or_no" zAe f fd)(hm:mg "yes_or_no"=some (.ref f)) :Df P w K mg base 1 "yes_or_no" ["truth"] ym:=by
 have nd:=(zEF).nd;refine yi (zBt) F zEF hm (F.binds (ps:=["truth"]) fun u0 u0 u0 u0 u0 u0 us hl=>us1 us hl fun u0=>rfl) 7#0 (zI4);unfold zBt;exact(zM (zg (zEo (zAY (zC 0)) zX zX)))
theorem zH6{aa:Addr}{f:Addr}{fd:FuncData}(F:Fun K "__init__" "Desk.__init__" zAf f fd)(hm:Mk K aa f)(c_Desk:Cls K aa)(aO:wN K aa "webs")(aJ:wN K aa "rings"):DfI P w K mg base 1 aa (zAK aa):=by
 have nd:=(zEG).nd;refine zSW (zCv aa) F zEG hm (F.binds (ps:=["self"]) fun u0 u0 u0 u0 u0 u0 us hl=>us1 us hl fun u0=>rfl) 7#0 (zI6 aa);unfold zCv;exact(zL (zQw c_Desk aO (zC 0) zK0) (zM (zQw c_Desk aJ (zC 0) zK0)))
theorem zH7{aa:Addr}{f:Addr}{fd:FuncData}(F:Fun K "looked_up" "Desk.looked_up" wW f fd)(hm:zCl K aa "looked_up" f)(c_Desk:Cls K aa)(aO:wN K aa "webs")(aJ:wN K aa "rings"):DfM P w K mg base 1 aa "looked_up" ["self","kind","thing"] (yD aa):=by
 have nd:=(zBW).nd;refine zHb (zBv aa) F zBW hm (F.binds (ps:=["self","kind","thing"]) fun u0 u0 u0 u0 u0 u0 us hl=>us3 us hl fun u0 u0 u0=>rfl) 7#0 (zI7 aa);unfold zBv;exact(zL (yb (zKm hr (zC 1) (zCn (zE zX (zE zX zH)))) (zM (zg (zC 2))) ze) (zL (yI 3 nd (zEo (wA hr (zC 1) zX) (zHW (u1 hr) (zCC c_Desk aO (zC 0)) (zC 2)) (zHW (u1 hr) (zCC c_Desk aJ (zC 0)) (zC 2)))) (zL (yb (zIa (zC 3) zDV) (zM zE2) ze) (zM (zg (zC 3))))))
theorem zH8{aa:Addr}{ag:Addr}{f:Addr}{fd:FuncData}(F:Fun K "looked_up" "Desk.looked_up" wW f fd)(hm:zCl K aa "looked_up" f)(c_Desk:Cls K aa)(aO:wN K aa "webs")(aJ:wN K aa "rings")(bo:mg "NoName"=some (.ref ag))(bN:zAk K ag):RzM P w K mg base 1 aa "looked_up" ["self","kind","thing"] (zAE aa) ag:=by
 have nd:=(zBW).nd;refine zDh (zBR aa) F zBW hm (F.binds (ps:=["self","kind","thing"]) fun u0 u0 u0 u0 u0 u0 us hl=>us3 us hl fun u0 u0 u0=>rfl) 7#0 (zHu aa);unfold zBR;exact(yh zN (yb (zKm hr (zC 1) (zCn (zE zX (zE zX zH)))) (zM (zg (zC 2))) ze) (yh zN (yI 3 nd (zEo (wA hr (zC 1) zX) (zHW (u1 hr) (zCC c_Desk aO (zC 0)) (zC 2)) (zHW (u1 hr) (zCC c_Desk aJ (zC 0)) (zC 2)))) (zDU zN (zIa (zC 3) zDV) (bG zN rfl bo bN.ex0 (zP2 [1,2] (zHZ (zJx 1 (zHZ (zJx 2 .nil)))))))))
theorem zKR{f:Addr}{fd:FuncData}(F:Fun K "_law_bad" "_law_bad" zBb f fd)(hm:mg "_law_bad"=some (.ref f))(am:mg "len"=none):Df P w K mg base 1 "_law_bad" ["k"] zA2:=by
 have nd:=(zGH).nd;refine yi (zDM) F zGH hm (F.binds (ps:=["k"]) fun u0 u0 u0 u0 u0 u0 us hl=>us1 us hl fun u0=>rfl) 7#0 (zMT);unfold zDM;refine @zL _ _ _ _ _ ?_ ?_
 ·refine @zN6 _ _ _ "some" 1 nd ?_ ?_ ?_ ?_
  ·rfl
  ·first | exact Or.inl rfl | exact Or.inr rfl
  ·first | exact Or.inl rfl | exact Or.inr rfl
  ·kernel_rfl
 refine @zL _ _ _ _ _ ?_ ?_
 ·refine @zBg _ _ _ "some" 1 nd ?_ ?_ ?_ ?_ ?_ ?_ ?_
  ·rfl
  ·first | exact Or.inl rfl | exact Or.inr rfl
  ·first | exact Or.inl rfl | exact Or.inr rfl
  ·first | exact Or.inl rfl | exact Or.inr (Or.inl rfl) | exact Or.inr (Or.inr rfl)
  ·decide
  ·decide
  ·kernel_rfl
 refine @zL _ _ _ _ _ ?_ ?_
 ·refine @zBg _ _ _ "some" 1 nd ?_ ?_ ?_ ?_ ?_ ?_ ?_
  ·rfl
  ·first | exact Or.inl rfl | exact Or.inr rfl
  ·first | exact Or.inl rfl | exact Or.inr rfl
  ·first | exact Or.inl rfl | exact Or.inr (Or.inl rfl) | exact Or.inr (Or.inr rfl)
  ·decide
  ·decide
  ·kernel_rfl
 refine @zL _ _ _ _ _ ?_ ?_
 ·refine @zBg _ _ _ "some" 1 nd ?_ ?_ ?_ ?_ ?_ ?_ ?_
  ·rfl
  ·first | exact Or.inl rfl | exact Or.inr rfl
  ·first | exact Or.inl rfl | exact Or.inr rfl
  ·first | exact Or.inl rfl | exact Or.inr (Or.inl rfl) | exact Or.inr (Or.inr rfl)
  ·decide
  ·decide
  ·kernel_rfl
 refine @zL _ _ _ _ _ ?_ ?_
 ·refine @zBg _ _ _ "some" 1 nd ?_ ?_ ?_ ?_ ?_ ?_ ?_
  ·rfl
  ·first | exact Or.inl rfl | exact Or.inr rfl
  ·first | exact Or.inl rfl | exact Or.inr rfl
  ·first | exact Or.inl rfl | exact Or.inr (Or.inl rfl) | exact Or.inr (Or.inr rfl)
  ·decide
  ·decide
  ·kernel_rfl
 refine @zL _ _ _ _ _ ?_ ?_
 ·refine @zBg _ _ _ "some" 1 nd ?_ ?_ ?_ ?_ ?_ ?_ ?_
  ·rfl
  ·first | exact Or.inl rfl | exact Or.inr rfl
  ·first | exact Or.inl rfl | exact Or.inr rfl
  ·first | exact Or.inl rfl | exact Or.inr (Or.inl rfl) | exact Or.inr (Or.inr rfl)
  ·decide
  ·decide
  ·kernel_rfl
 refine @zL _ _ _ _ _ ?_ ?_
 ·refine @zBg _ _ _ "some" 1 nd ?_ ?_ ?_ ?_ ?_ ?_ ?_
  ·rfl
  ·first | exact Or.inl rfl | exact Or.inr rfl
  ·first | exact Or.inl rfl | exact Or.inr rfl
  ·first | exact Or.inl rfl | exact Or.inr (Or.inl rfl) | exact Or.inr (Or.inr rfl)
  ·decide
  ·decide
  ·kernel_rfl
 refine @zL _ _ _ _ _ ?_ ?_
 ·refine @zBg _ _ _ "some" 1 nd ?_ ?_ ?_ ?_ ?_ ?_ ?_
  ·rfl
  ·first | exact Or.inl rfl | exact Or.inr rfl
  ·first | exact Or.inl rfl | exact Or.inr rfl
  ·first | exact Or.inl rfl | exact Or.inr (Or.inl rfl) | exact Or.inr (Or.inr rfl)
  ·decide
  ·decide
  ·kernel_rfl
 refine @zL _ _ _ _ _ ?_ ?_
 ·refine @zSc _ _ "some" 1 7 _ _ _ nd ?_ ?_ ?_ ?_ ?_ ?_ ?_
  ·rfl
  ·first | exact Or.inl rfl | exact Or.inr rfl
  ·first | exact Or.inl rfl | exact Or.inr rfl
  ·first | exact Or.inl rfl | exact Or.inr (Or.inl rfl) | exact Or.inr (Or.inr rfl)
  ·decide
  ·decide
  ·kernel_rfl
 refine @zL _ _ _ _ _ ?_ ?_
 ·refine @zBg _ _ _ "some" 1 nd ?_ ?_ ?_ ?_ ?_ ?_ ?_
  ·rfl
  ·first | exact Or.inl rfl | exact Or.inr rfl
  ·first | exact Or.inl rfl | exact Or.inr rfl
  ·first | exact Or.inl rfl | exact Or.inr (Or.inl rfl) | exact Or.inr (Or.inr rfl)
  ·decide
  ·decide
  ·kernel_rfl
 exact(zM (zg (yE (zC 1) (zKl (zC 0) (zAL rfl am (zE (zC 1) zH))))))
theorem zKS{f:Addr}{fd:FuncData}(F:Fun K "_law_due" "_law_due" zBc f fd)(hm:mg "_law_due"=some (.ref f))(am:mg "len"=none):Df P w K mg base 1 "_law_due" ["k"] zA3:=by
 have nd:=(zGI).nd;refine yi (zDN) F zGI hm (F.binds (ps:=["k"]) fun u0 u0 u0 u0 u0 u0 us hl=>us1 us hl fun u0=>rfl) 7#0 (zMS);unfold zDN;refine @zL _ _ _ _ _ ?_ ?_
 ·refine @zN6 _ _ _ "some" 1 nd ?_ ?_ ?_ ?_
  ·rfl
  ·first | exact Or.inl rfl | exact Or.inr rfl
  ·first | exact Or.inl rfl | exact Or.inr rfl
  ·kernel_rfl
 refine @zL _ _ _ _ _ ?_ ?_
 ·refine @zBg _ _ _ "some" 1 nd ?_ ?_ ?_ ?_ ?_ ?_ ?_
  ·rfl
  ·first | exact Or.inl rfl | exact Or.inr rfl
  ·first | exact Or.inl rfl | exact Or.inr rfl
  ·first | exact Or.inl rfl | exact Or.inr (Or.inl rfl) | exact Or.inr (Or.inr rfl)
  ·decide
  ·decide
  ·kernel_rfl
 refine @zL _ _ _ _ _ ?_ ?_
 ·refine @zBg _ _ _ "some" 1 nd ?_ ?_ ?_ ?_ ?_ ?_ ?_
  ·rfl
  ·first | exact Or.inl rfl | exact Or.inr rfl
  ·first | exact Or.inl rfl | exact Or.inr rfl
  ·first | exact Or.inl rfl | exact Or.inr (Or.inl rfl) | exact Or.inr (Or.inr rfl)
  ·decide
  ·decide
  ·kernel_rfl
 refine @zL _ _ _ _ _ ?_ ?_
 ·refine @zBg _ _ _ "some" 1 nd ?_ ?_ ?_ ?_ ?_ ?_ ?_
  ·rfl
  ·first | exact Or.inl rfl | exact Or.inr rfl
  ·first | exact Or.inl rfl | exact Or.inr rfl
  ·first | exact Or.inl rfl | exact Or.inr (Or.inl rfl) | exact Or.inr (Or.inr rfl)
  ·decide
  ·decide
  ·kernel_rfl
 exact(zM (zg (yE (zC 1) (zKl (zC 0) (zAL rfl am (zE (zC 1) zH))))))
theorem zOo{f:Addr}{fd:FuncData}(F:Fun K "pairs" "pairs" zDO f fd)(hm:mg "pairs"=some (.ref f))(au:mg "tuple"=none)(aL:mg "range"=none)(dM:Df P w K mg base 1 "pairs_of" ["places"] (spL wS)):Df P w K mg base 2 "pairs" ["many"] (spL zBF):=by
 have nd:=(zJI).nd;refine yi (zFE) F zJI hm (F.binds (ps:=["many"]) fun u0 u0 u0 u0 u0 u0 us hl=>us1 us hl fun u0=>rfl) 7#0 (zPu);unfold zFE;exact(zM (zg (yo (zCO dM zGV hr 11#0 rfl (zE (zR2 rfl rfl au rfl aL (zE (zC 0) zH)) zH)))))
theorem zKT{f:Addr}{fd:FuncData}(F:Fun K "is_ring" "is_ring" zAb f fd)(hm:mg "is_ring"=some (.ref f))(af:mg "isinstance"=none)(au:mg "tuple"=none)(am:mg "len"=none)(cu:mg "all"=none)(aL:mg "range"=none){bu:Tok}(bt:mg "MOST_PLACES"=some (.int 9 bu))(aN:Df P w K mg base 1 "is_number" ["thing"] zw):Df P w K mg base 2 "is_ring" ["thing"] wz:=by
 have nd:=(zGC).nd;refine yi (zDI) F zGC hm (F.binds (ps:=["thing"]) fun u0 u0 u0 u0 u0 u0 us hl=>us1 us hl fun u0=>rfl) 7#0 (zML);unfold zDI;exact(zL (yb (W2.test (w_or (zAi (zAY (zEj (T:="tuple") rfl af rfl au 3#0 (zC 0)))) (zCp (zAi (zQs zFQ zFQ (zAu fun u0 u0=>⟨rfl,rfl⟩) (zAu fun u0 u0=>⟨rfl,rfl⟩) zP (zAL rfl am (zE (zC 0) zH)) (zM4 zP (zBm rfl bt))))))) (zM (zg zGT)) ze) (zL (yb (zAi (zAY (zIX rfl rfl cu (zDY "place" rfl (yP (osc:=zD zAb) (N:=["thing","many"]) (N0:=["!00","!01"]) (own:=["place"]) 3#0) (zIO (zC 0)) (fun u0 u0 u0 u0 u0=>wf) (fun u0 u0 u0 u0 u0=>(zc aN hr 11#0 rfl (zE (zC 2) zH))))))) (zM (zg zGT)) ze) (zL (yI 1 nd (zHL (zAL rfl am (zE (zC 0) zH)) zP)) (zM (zg (zIQ (zLg hr (zAL rfl am (zE (zC 0) zH)) (zM4 zP (zC 1))) (zIP (zIX rfl rfl cu (zDY "place" rfl (yP (osc:=zD zAb) (N:=["thing","many"]) (N0:=["thing","!01"]) (own:=["place"]) 3#0) (zDn rfl aL (zE (zC 1) zH)) (fun u0 u0 u0 u0 u0=>wf) (fun u0 u0 u0 u0 u0=>(zLg hr (zIV hr (zC 0) (zE (zC 2) zH)) zP)))))))))))
theorem zKU{f:Addr}{fd:FuncData}(F:Fun K "is_tie" "is_tie" zBZ f fd)(hm:mg "is_tie"=some (.ref f))(af:mg "isinstance"=none)(au:mg "tuple"=none)(am:mg "len"=none)(aN:Df P w K mg base 1 "is_number" ["thing"] zw):Df P w K mg base 2 "is_tie" ["many","thing"] wv:=by
 have nd:=(zGE).nd;refine yi (zDG) F zGE hm (F.binds (ps:=["many","thing"]) fun u0 u0 u0 u0 u0 u0 us hl=>us2 us hl fun u0 u0=>rfl) 7#0 (zMI);unfold zDG;exact(zL (yb (W2.test (w_or (zAi (zAY (zEj (T:="tuple") rfl af rfl au 3#0 (zC 1)))) (zCp (zE1 hr (zAL rfl am (zE (zC 1) zH)) zP)))) (zM (zg zGT)) ze) (zL (yb (W2.test (w_or (zAi (zAY (zc aN hr 11#0 rfl (zE (yE (zC 1) zP) zH)))) (zCp (zAi (zAY (zc aN hr 11#0 rfl (zE (yE (zC 1) zP) zH))))))) (zM (zg zGT)) ze) (zM (zg (zTd zFQ zMf zMf (zAu fun u0 u0=>⟨rfl,rfl⟩) (zAu fun u0 u0=>⟨rfl,rfl⟩) (zAu fun u0 u0=>⟨rfl,rfl⟩) zP (yE (zC 1) zP) (yE (zC 1) zP) (zC 0))))))
theorem zKV{ae:Addr}{f:Addr}{fd:FuncData}(F:Fun K "ring_of" "ring_of" zBa f fd)(hm:mg "ring_of"=some (.ref f)){cg:Tok}(cF:mg "MOST_FOUND"=some (.int 7 cg))(aK:Rz P w K mg base 1 "refuse_more" ["many","most"] yQ ae)(ao:mg "TooMany"=some (.ref ae))(ax:zAk K ae):Rz P w K mg base 2 "ring_of" ["web"] zAo ae:=by
 have nd:=(zGF).nd;refine zCt (zCa) F zGF hm (F.binds (ps:=["web"]) fun u0 u0 u0 u0 u0 u0 us hl=>us1 us hl fun u0=>rfl) 7#0 (zKL);unfold zCa;exact(zJq (wk zN aK hr 11#0 rfl (zE (yE (zC 0) zP) (zE (zBm rfl cF) zH))))
theorem zMX{ae:Addr}{f:Addr}{fd:FuncData}(F:Fun K "bar_of" "bar_of" zCG f fd)(hm:mg "bar_of"=some (.ref f)){bW:Tok}(ci:mg "MOST_BARRED"=some (.int 7 bW))(aK:Rz P w K mg base 1 "refuse_more" ["many","most"] yQ ae)(ao:mg "TooMany"=some (.ref ae))(ax:zAk K ae):Rz P w K mg base 2 "bar_of" ["web"] zBH ae:=by
 have nd:=(zHA).nd;refine zCt (zEb) F zHA hm (F.binds (ps:=["web"]) fun u0 u0 u0 u0 u0 u0 us hl=>us1 us hl fun u0=>rfl) 7#0 (zMP);unfold zEb;exact(zJq (wk zN aK hr 11#0 rfl (zE (yE (zC 0) zP) (zE (zBm rfl ci) zH))))
theorem zJP{f:Addr}{fd:FuncData}(F:Fun K "web_text" "web_text" zAV f fd)(hm:mg "web_text"=some (.ref f))(bA:mg "str"=none)(dN:Df P w K mg base 1 "tie_text" ["tie"] zAZ):Df P w K mg base 2 "web_text" ["web"] wU:=by
 have nd:=(zEu).nd;refine yi (zCV) F zEu hm (F.binds (ps:=["web"]) fun u0 u0 u0 u0 u0 u0 us hl=>us1 us hl fun u0=>rfl) 7#0 (zKD);unfold zCV;exact(zL (yI 1 nd (yo (zB7 (zE (zFi rfl bA (zE (yE (zC 0) zP) zH)) (zE zX zH))))) (zL (zJh (zNA (zC 1) (zDY "tie" rfl (yP (osc:=zD zAV) (N:=["web","words"]) (N0:=["!00","!01"]) (own:=["tie"]) 3#0) (zIO (yE (zC 0) zP)) (fun u0 u0 u0 u0 u0=>wf) (fun u0 u0 u0 u0 u0=>(zc dN hr 11#0 rfl (zE (zC 2) zH)))))) (zM (zg (zPd (zE (zC 1) zH))))))
theorem zJQ{f:Addr}{fd:FuncData}(F:Fun K "tie_read" "tie_read" zA6 f fd)(hm:mg "tie_read"=some (.ref f))(av:Df P w K mg base 1 "figure" ["word"] zq):Df P w K mg base 2 "tie_read" ["word"] wF:=by
 have nd:=(zEw).nd;refine yi (zCY) F zEw hm (F.binds (ps:=["word"]) fun u0 u0 u0 u0 u0 u0 us hl=>us1 us hl fun u0=>rfl) 7#0 (zKH);unfold zCY;exact(zM (zg (zEo (wA hr (zFk (zC 0) (wr zP) (wr zP)) zX) (zCn (zE (zc av hr 11#0 rfl (zE (zFk (zC 0) zAw (wr zP)) zH)) (zE (zc av hr 11#0 rfl (zE (zFk (zC 0) (wr zP) zAw) zH)) zH))) zDV)))
theorem zH9{ae:Addr}{f:Addr}{fd:FuncData}(F:Fun K "all_rings" "all_rings" zAc f fd)(hm:mg "all_rings"=some (.ref f)){cG:Tok}(cQ:mg "MOST_TOLD"=some (.int 5 cG))(aK:Rz P w K mg base 1 "refuse_more" ["many","most"] yQ ae)(ao:mg "TooMany"=some (.ref ae))(ax:zAk K ae):Rz P w K mg base 2 "all_rings" ["web"] zAC ae:=by
 have nd:=(zED).nd;refine zCt (zCb) F zED hm (F.binds (ps:=["web"]) fun u0 u0 u0 u0 u0 u0 us hl=>us1 us hl fun u0=>rfl) 7#0 (zHp);unfold zCb;exact(zJq (wk zN aK hr 11#0 rfl (zE (yE (zC 0) zP) (zE (zBm rfl cQ) zH))))
theorem zGZ{f:Addr}{fd:FuncData}(F:Fun K "place_read" "place_read" wI f fd)(hm:mg "place_read"=some (.ref f)){bB:Tok}(bw:mg "LAST_PLACE"=some (.int 8 bB))(av:Df P w K mg base 1 "figure" ["word"] zq):Df P w K mg base 2 "place_read" ["word"] wK:=by
 have nd:=(zBE).nd;refine yi (zBP) F zBE hm (F.binds (ps:=["word"]) fun u0 u0 u0 u0 u0 u0 us hl=>us1 us hl fun u0=>rfl) 7#0 (zHr);unfold zBP;exact(zL (yI 1 nd (zc av hr 11#0 rfl (zE (zC 0) zH))) (zL (yb (W2.test (w_or (zIa (zC 1) zDV) (zCp (zRq (zC 1) (zBm rfl bw))))) (zM zE2) ze) (zM (zg (zC 1)))))
theorem zGa{ac:Addr}{f:Addr}{fd:FuncData}(F:Fun K "place_read" "place_read" wI f fd)(hm:mg "place_read"=some (.ref f)){bB:Tok}(bw:mg "LAST_PLACE"=some (.int 8 bB))(av:Df P w K mg base 1 "figure" ["word"] zq)(ah:mg "BadNote"=some (.ref ac))(ak:zAk K ac):Rz P w K mg base 2 "place_read" ["word"] wD ac:=by
 have nd:=(zBE).nd;refine zCt (zBB) F zBE hm (F.binds (ps:=["word"]) fun u0 u0 u0 u0 u0 u0 us hl=>us1 us hl fun u0=>rfl) 7#0 (zGW);unfold zBB;exact(yh zN (yI 1 nd (zc av hr 11#0 rfl (zE (zC 0) zH))) (zDU zN (W2.test (w_or (zIa (zC 1) zDV) (zCp (zRq (zC 1) (zBm rfl bw))))) (bG zN rfl ah ak.ex0 zX)))
theorem zMY{f:Addr}{fd:FuncData}(F:Fun K "web_of" "web_of" zBh f fd)(hm:mg "web_of"=some (.ref f))(am:mg "len"=none)(au:mg "tuple"=none)(eM:Df P w K mg base 2 "pairs" ["many"] (spL zBF))(eN:Df P w K mg base 1 "cross" ["ring","one","other"] zCD):Df P w K mg base 3 "web_of" ["ring"] zA0:=by
 have nd:=(zG9).nd;refine yi (zDz) F zG9 hm (F.binds (ps:=["ring"]) fun u0 u0 u0 u0 u0 u0 us hl=>us1 us hl fun u0=>rfl) 7#0 (zNx);unfold zDz;exact(zL (yI 1 nd (zHL (zAL rfl am (zE (zC 0) zH)) zP)) (zM (zg (zCn (zE (zC 1) (zE (zFe rfl au (zDY "pair" rfl (yP (osc:=zD zBh) (N:=["ring","many"]) (N0:=["ring","!01"]) (own:=["pair"]) 3#0) (zFb (zCO eM zJ0 hr 11#0 rfl (zE (zC 1) zH))) (fun u0 u0 u0 u0 u0=>(zM2 (zAY (zc eN hr 11#0 rfl (zE (zC 0) (zE (yE (zC 2) zP) (zE (yE (zC 2) zP) zH))))))) (fun u0 u0 u0 u0 u0=>(zC 2)))) zH))))))
theorem zKW{f:Addr}{fd:FuncData}(F:Fun K "is_web" "is_web" zA5 f fd)(hm:mg "is_web"=some (.ref f))(af:mg "isinstance"=none)(au:mg "tuple"=none)(am:mg "len"=none)(cu:mg "all"=none){bu:Tok}(bt:mg "MOST_PLACES"=some (.int 9 bu))(aN:Df P w K mg base 1 "is_number" ["thing"] zw)(eg:Df P w K mg base 2 "is_tie" ["many","thing"] wv)(cH:Df P w K mg base 1 "is_rising" ["things"] zAQ):Df P w K mg base 3 "is_web" ["thing"] ww:=by
 have nd:=(zGD).nd;refine yi (zDH) F zGD hm (F.binds (ps:=["thing"]) fun u0 u0 u0 u0 u0 u0 us hl=>us1 us hl fun u0=>rfl) 7#0 (zMJ);unfold zDH;exact(zL (yb (W2.test (w_or (zAi (zAY (zEj (T:="tuple") rfl af rfl au 3#0 (zC 0)))) (zCp (zE1 hr (zAL rfl am (zE (zC 0) zH)) zP)))) (zM (zg zGT)) ze) (zL (yI 1 nd (yE (zC 0) zP)) (zL (yI 2 nd (yE (zC 0) zP)) (zL (yb (W2.test (w_or (zAi (zAY (zc aN hr 11#0 rfl (zE (zC 1) zH)))) (zCp (zAi (zQs zFQ zFQ (zAu fun u0 u0=>⟨rfl,rfl⟩) (zAu fun u0 u0=>⟨rfl,rfl⟩) zP (zC 1) (zBm rfl bt)))))) (zM (zg zGT)) ze) (zL (yb (zAi (zAY (zEj (T:="tuple") rfl af rfl au 3#0 (zC 2)))) (zM (zg zGT)) ze) (zM (zg (zIQ (zIX rfl rfl cu (zDY "tie" rfl (yP (osc:=zD zA5) (N:=["thing","many","ties"]) (N0:=["!00","many","!02"]) (own:=["tie"]) 3#0) (zIO (zC 2)) (fun u0 u0 u0 u0 u0=>wf) (fun u0 u0 u0 u0 u0=>(zc eg hr 11#0 rfl (zE (zC 1) (zE (zC 3) zH)))))) (zIP (zc cH hr 11#0 rfl (zE (zC 2) zH)))))))))))
theorem zIA{f:Addr}{fd:FuncData}(F:Fun K "ring_read" "ring_read" yp f fd)(hm:mg "ring_read"=some (.ref f))(au:mg "tuple"=none)(ar:Df P w K mg base 1 "words_of" ["text"] (spL zb))(av:Df P w K mg base 1 "figure" ["word"] zq)(bQ:Df P w K mg base 2 "is_ring" ["thing"] wz):Df P w K mg base 3 "ring_read" ["text"] wX:=by
 have nd:=(zBT).nd;refine yi (zBs) F zBT hm (F.binds (ps:=["text"]) fun u0 u0 u0 u0 u0 u0 us hl=>us1 us hl fun u0=>rfl) 7#0 (zI3);unfold zBs;exact(zL (yI 1 nd (zFe rfl au (zDY "word" rfl (yP (osc:=zD yp) (N:=["text","ring"]) (N0:=["!00","!01"]) (own:=["word"]) 3#0) (zFb (zCO ar wJ hr 11#0 rfl (zE (zC 0) zH))) (fun u0 u0 u0 u0 u0=>wf) (fun u0 u0 u0 u0 u0=>(zc av hr 11#0 rfl (zE (zC 2) zH)))))) (zL (yb (zAi (zAY (zc bQ hr 11#0 rfl (zE (zC 1) zH)))) (zM zE2) ze) (zM (zg (zC 1)))))
theorem zIB{ac:Addr}{f:Addr}{fd:FuncData}(F:Fun K "ring_read" "ring_read" yp f fd)(hm:mg "ring_read"=some (.ref f))(au:mg "tuple"=none)(bQ:Df P w K mg base 2 "is_ring" ["thing"] wz)(ar:Df P w K mg base 1 "words_of" ["text"] (spL zb))(av:Df P w K mg base 1 "figure" ["word"] zq)(bg:Rz P w K mg base 1 "words_of" ["text"] yd ac)(ah:mg "BadNote"=some (.ref ac))(ak:zAk K ac):Rz P w K mg base 3 "ring_read" ["text"] wP ac:=by
 have nd:=(zBT).nd;refine zCt (zBN) F zBT hm (F.binds (ps:=["text"]) fun u0 u0 u0 u0 u0 u0 us hl=>us1 us hl fun u0=>rfl) 7#0 (zHn);unfold zBN;exact(zFo (zIi (zQy rfl au rfl (zDx (zPm (wk zN bg hr 11#0 rfl (zE (zC 0) zH)))))) (yh zN (yI 1 nd (zFe rfl au (zDY "word" rfl (yP (osc:=zD yp) (N:=["text","ring"]) (N0:=["!00","!01"]) (own:=["word"]) 3#0) (zFb (zCO ar wJ hr 11#0 rfl (zE (zC 0) zH))) (fun u0 u0 u0 u0 u0=>wf) (fun u0 u0 u0 u0 u0=>(zc av hr 11#0 rfl (zE (zC 2) zH)))))) (zDU zN (zAi (zAY (zc bQ hr 11#0 rfl (zE (zC 1) zH)))) (bG zN rfl ah ak.ex0 zX))))
theorem zOp{f:Addr}{fd:FuncData}(F:Fun K "tells" "tells" zDQ f fd)(hm:mg "tells"=some (.ref f))(cw:Df P w K mg base 3 "web_of" ["ring"] zA0):Df P w K mg base 4 "tells" ["ring","web"] zAp:=by
 have nd:=(zJK).nd;refine yi (zFI) F zJK hm (F.binds (ps:=["ring","web"]) fun u0 u0 u0 u0 u0 u0 us hl=>us2 us hl fun u0 u0=>rfl) 7#0 (zQO);unfold zFI;exact(zM (zg (zLg hr (zc cw hr 11#0 rfl (zE (zC 0) zH)) (zC 1))))
theorem zJR{f:Addr}{fd:FuncData}(F:Fun K "web_read" "web_read" wL f fd)(hm:mg "web_read"=some (.ref f))(am:mg "len"=none)(au:mg "tuple"=none)(ar:Df P w K mg base 1 "words_of" ["text"] (spL zb))(av:Df P w K mg base 1 "figure" ["word"] zq)(bK:Df P w K mg base 2 "tie_read" ["word"] wF)(bS:Df P w K mg base 3 "is_web" ["thing"] ww):Df P w K mg base 4 "web_read" ["text"] zAA:=by
 have nd:=(zBx).nd;refine yi (zCZ) F zBx hm (F.binds (ps:=["text"]) fun u0 u0 u0 u0 u0 u0 us hl=>us1 us hl fun u0=>rfl) 7#0 (zKJ);unfold zCZ;exact(zL (yI 1 nd (yo (zCO ar wJ hr 11#0 rfl (zE (zC 0) zH)))) (zL (yb (W2.test (w_or (zRp (zAL rfl am (zE (zC 1) zH)) zP) (zCp (zE1 hr (yE (zC 1) zP) zX)))) (zM zE2) ze) (zL (yI 2 nd (zCn (zE (zc av hr 11#0 rfl (zE (yE (zC 1) zP) zH)) (zE (zFe rfl au (zDY "word" rfl (yP (osc:=zD wL) (N:=["text","words","web"]) (N0:=["!00","!01","!02"]) (own:=["word"]) 3#0) (zFb (zAj (zC 1) (wr zP) zAw)) (fun u0 u0 u0 u0 u0=>wf) (fun u0 u0 u0 u0 u0=>(zc bK hr 11#0 rfl (zE (zC 3) zH))))) zH)))) (zL (yb (zAi (zAY (zc bS hr 11#0 rfl (zE (zC 2) zH)))) (zM zE2) ze) (zM (zg (zC 2)))))))
theorem zJS{ac:Addr}{f:Addr}{fd:FuncData}(F:Fun K "web_read" "web_read" wL f fd)(hm:mg "web_read"=some (.ref f))(am:mg "len"=none)(au:mg "tuple"=none)(bS:Df P w K mg base 3 "is_web" ["thing"] ww)(av:Df P w K mg base 1 "figure" ["word"] zq)(bK:Df P w K mg base 2 "tie_read" ["word"] wF)(ar:Df P w K mg base 1 "words_of" ["text"] (spL zb))(bg:Rz P w K mg base 1 "words_of" ["text"] yd ac)(ah:mg "BadNote"=some (.ref ac))(ak:zAk K ac):Rz P w K mg base 4 "web_read" ["text"] wc ac:=by
 have nd:=(zBx).nd;refine zCt (zBr) F zBx hm (F.binds (ps:=["text"]) fun u0 u0 u0 u0 u0 u0 us hl=>us1 us hl fun u0=>rfl) 7#0 (zI1);unfold zBr;exact(zFo (zIi (wk zN bg hr 11#0 rfl (zE (zC 0) zH))) (zFo (yh zN (yI 1 nd (yo (zCO ar wJ hr 11#0 rfl (zE (zC 0) zH)))) (zDU zN (W2.test (w_or (zRp (zAL rfl am (zE (zC 1) zH)) zP) (zCp (zE1 hr (yE (zC 1) zP) zX)))) (bG zN rfl ah ak.ex0 zX))) (yh zN (yI 1 nd (yo (zCO ar wJ hr 11#0 rfl (zE (zC 0) zH)))) (yh zN (yb (W2.test (w_or (zRp (zAL rfl am (zE (zC 1) zH)) zP) (zCp (zE1 hr (yE (zC 1) zP) zX)))) (zM zE2) ze) (yh zN (yI 2 nd (zCn (zE (zc av hr 11#0 rfl (zE (yE (zC 1) zP) zH)) (zE (zFe rfl au (zDY "word" rfl (yP (osc:=zD wL) (N:=["text","words","web"]) (N0:=["!00","!01","!02"]) (own:=["word"]) 3#0) (zFb (zAj (zC 1) (wr zP) zAw)) (fun u0 u0 u0 u0 u0=>wf) (fun u0 u0 u0 u0 u0=>(zc bK hr 11#0 rfl (zE (zC 3) zH))))) zH)))) (zDU zN (zAi (zAY (zc bS hr 11#0 rfl (zE (zC 2) zH)))) (bG zN rfl ah ak.ex0 zX)))))))
theorem zQf{aa:Addr}{f:Addr}{fd:FuncData}(F:Fun K "keep" "Desk.keep" zB2 f fd)(hm:zCl K aa "keep" f)(c_Desk:Cls K aa)(aO:wN K aa "webs")(aJ:wN K aa "rings")(cw:Df P w K mg base 3 "web_of" ["ring"] zA0):DfM P w K mg base 4 aa "keep" ["self","head","given"] (zD4 aa):=by
 have nd:=(zDR).nd;refine zHb (zHt aa) F zDR hm (F.binds (ps:=["self","head","given"]) fun u0 u0 u0 u0 u0 u0 us hl=>us3 us hl fun u0 u0 u0=>rfl) 7#0 (zSq aa);unfold zHt;exact(zL (yb (wA hr (zC 1) zX) (zM (zFl (u1 hr) (zCC c_Desk aO (zC 0)) (yE (zC 2) zP) (yE (zC 2) zP))) (zM (yb (wA hr (zC 1) zX) (zM (zFl (u1 hr) (zCC c_Desk aJ (zC 0)) (yE (zC 2) zP) (yE (zC 2) zP))) (zM (yb (wA hr (zC 1) zX) (zM (zFl (u1 hr) (zCC c_Desk aO (zC 0)) (yE (zC 2) zP) (zc cw hr 11#0 rfl (zE (yE (zC 2) zP) zH)))) (zM (yb (wA hr (zC 1) zX) (zM (zFl (u1 hr) (zCC c_Desk aO (zC 0)) (yE (zC 2) zP) zHf)) (zL (yI 3 nd zHf) (zL (yb (zIa (zC 3) zDV) (zM (zg zX)) ze) (zM (zFl (u1 hr) (zCC c_Desk aJ (zC 0)) (yE (zC 2) zP) (zC 3)))))))))))) (zM (zg zX)))
theorem zE5{aa:Addr}{ac:Addr}{f:Addr}{fd:FuncData}(F:Fun K "keep" "Desk.keep" zB2 f fd)(hm:zCl K aa "keep" f)(cR:Rz P w K mg base 1 "turned_at" ["web","place"] zAB ac)(ah:mg "BadNote"=some (.ref ac))(ak:zAk K ac):RzM P w K mg base 4 aa "keep" ["self","head","given"] (wG aa) ac:=by
 have nd:=(zDR).nd;refine zDh (zAS aa) F zDR hm (F.binds (ps:=["self","head","given"]) fun u0 u0 u0 u0 u0 u0 us hl=>us3 us hl fun u0 u0 u0=>rfl) 7#0 (zE3 aa);unfold zAS;exact(zFr zN (wA hr (zC 1) zX) zFq (zFr zN (wA hr (zC 1) zX) zFq (zFr zN (wA hr (zC 1) zX) zFq (zDU zN (wA hr (zC 1) zX) (zTo (wk zN cR hr 11#0 rfl (zE (yE (zC 2) zP) (zE (yE (zC 2) zP) zH))))))))
theorem zE6{aa:Addr}{ae:Addr}{f:Addr}{fd:FuncData}(F:Fun K "keep" "Desk.keep" zB2 f fd)(hm:zCl K aa "keep" f)(eh:Rz P w K mg base 2 "ring_of" ["web"] zAo ae)(ao:mg "TooMany"=some (.ref ae))(ax:zAk K ae):RzM P w K mg base 4 aa "keep" ["self","head","given"] (wH aa) ae:=by
 have nd:=(zDR).nd;refine zDh (zAT aa) F zDR hm (F.binds (ps:=["self","head","given"]) fun u0 u0 u0 u0 u0 u0 us hl=>us3 us hl fun u0 u0 u0=>rfl) 7#0 (zE4 aa);unfold zAT;exact(zFr zN (wA hr (zC 1) zX) zFq (zFr zN (wA hr (zC 1) zX) zFq (zFr zN (wA hr (zC 1) zX) zFq (zFr zN (wA hr (zC 1) zX) zFq (zIi (wk zN eh hr 11#0 rfl (zE (yE (zC 2) zP) zH)))))))
theorem zIC{f:Addr}{fd:FuncData}(F:Fun K "word_read" "word_read" wV f fd)(hm:mg "word_read"=some (.ref f))(bL:Df P w K mg base 4 "web_read" ["text"] zAA)(bD:Df P w K mg base 3 "ring_read" ["text"] wX)(bx:Df P w K mg base 2 "place_read" ["word"] wK)(bU:Df P w K mg base 1 "is_name" ["word"] zAD):Df P w K mg base 5 "word_read" ["kind","word"] yT:=by
 have nd:=(zBV).nd;refine yi (zBu) F zBV hm (F.binds (ps:=["kind","word"]) fun u0 u0 u0 u0 u0 u0 us hl=>us2 us hl fun u0 u0=>rfl) 7#0 (zI5);unfold zBu;exact(zL (yb (wA hr (zC 0) zX) (zM (zg (zc bL hr 11#0 rfl (zE (zC 1) zH)))) ze) (zL (yb (wA hr (zC 0) zX) (zM (zg (zc bD hr 11#0 rfl (zE (zC 1) zH)))) ze) (zL (yb (wA hr (zC 0) zX) (zM (zg (zc bx hr 11#0 rfl (zE (zC 1) zH)))) ze) (zL (yb (zAi (zAY (zc bU hr 11#0 rfl (zE (zC 1) zH)))) (zM zE2) ze) (zM (zg (zC 1)))))))
theorem zID{ac:Addr}{f:Addr}{fd:FuncData}(F:Fun K "word_read" "word_read" wV f fd)(hm:mg "word_read"=some (.ref f))(bU:Df P w K mg base 1 "is_name" ["word"] zAD)(bx:Df P w K mg base 2 "place_read" ["word"] wK)(bD:Df P w K mg base 3 "ring_read" ["text"] wX)(bL:Df P w K mg base 4 "web_read" ["text"] zAA)(dO:Rz P w K mg base 4 "web_read" ["text"] wc ac)(cS:Rz P w K mg base 3 "ring_read" ["text"] wP ac)(cI:Rz P w K mg base 2 "place_read" ["word"] wD ac)(ah:mg "BadNote"=some (.ref ac))(ak:zAk K ac):Rz P w K mg base 5 "word_read" ["kind","word"] ye ac:=by
 have nd:=(zBV).nd;refine zCt (zBQ) F zBV hm (F.binds (ps:=["kind","word"]) fun u0 u0 u0 u0 u0 u0 us hl=>us2 us hl fun u0 u0=>rfl) 7#0 (zHs);unfold zBQ;exact(zFo (zDU zN (wA hr (zC 0) zX) (zEr (wk zN dO hr 11#0 rfl (zE (zC 1) zH)))) (yh zN (yb (wA hr (zC 0) zX) (zM (zg (zc bL hr 11#0 rfl (zE (zC 1) zH)))) ze) (zFo (zDU zN (wA hr (zC 0) zX) (zEr (wk zN cS hr 11#0 rfl (zE (zC 1) zH)))) (yh zN (yb (wA hr (zC 0) zX) (zM (zg (zc bD hr 11#0 rfl (zE (zC 1) zH)))) ze) (zFo (zDU zN (wA hr (zC 0) zX) (zEr (wk zN cI hr 11#0 rfl (zE (zC 1) zH)))) (yh zN (yb (wA hr (zC 0) zX) (zM (zg (zc bx hr 11#0 rfl (zE (zC 1) zH)))) ze) (zDU zN (zAi (zAY (zc bU hr 11#0 rfl (zE (zC 1) zH)))) (bG zN rfl ah ak.ex0 zX))))))))
theorem zQg{aa:Addr}{f:Addr}{fd:FuncData}(F:Fun K "tell" "Desk.tell" zC1 f fd)(hm:zCl K aa "tell" f)(bO:mg "sorted"=none)(bA:mg "str"=none)(am:mg "len"=none)(c_Desk:Cls K aa)(aO:wN K aa "webs")(aJ:wN K aa "rings")(bM:Df P w K mg base 2 "web_text" ["web"] wU)(bb:Df P w K mg base 1 "ring_text" ["ring"] yc)(dI:Df P w K mg base 4 "tells" ["ring","web"] zAp)(bc:Df P w K mg base 1 "yes_or_no" ["truth"] ym):DfM P w K mg base 5 aa "tell" ["self","head","given"] (zD7 aa):=by
 have nd:=(zFM).nd;refine zHb (zH0 aa) F zFM hm (F.binds (ps:=["self","head","given"]) fun u0 u0 u0 u0 u0 u0 us hl=>us3 us hl fun u0 u0 u0=>rfl) 7#0 (zSr aa);unfold zH0;exact(zL (yb (wA hr (zC 1) zX) (zM (zg (zA9 (zFG rfl rfl bO (zE (zCC c_Desk aO (zC 0)) zH))))) ze) (zL (yb (wA hr (zC 1) zX) (zM (zg (zA9 (zFG rfl rfl bO (zE (zCC c_Desk aJ (zC 0)) zH))))) ze) (zL (yb (wA hr (zC 1) zX) (zM (zg (zc bM hr 11#0 rfl (zE (yE (zC 2) zP) zH)))) ze) (zL (yb (wA hr (zC 1) zX) (zM (zg (zc bb hr 11#0 rfl (zE (yE (zC 2) zP) zH)))) ze) (zL (yb (wA hr (zC 1) zX) (zM (zg (zc bc hr 11#0 rfl (zE (zc dI hr 11#0 rfl (zE (yE (zC 2) zP) (zE (yE (zC 2) zP) zH))) zH)))) ze) (zL (yb (wA hr (zC 1) zX) (zM (zg (zFi rfl bA (zE (zAL rfl am (zE zHf zH)) zH)))) ze) (zL (yb (wA hr (zC 1) zX) (zM (zg (zc bb hr 11#0 rfl (zE zHf zH)))) ze) (zL (yb (wA hr (zC 1) zX) (zM (zg zHf)) ze) (zM (zg (zc bc hr 11#0 rfl (zE (zNM zHf zDV) zH))))))))))))
theorem zQh{aa:Addr}{ae:Addr}{f:Addr}{fd:FuncData}(F:Fun K "tell" "Desk.tell" zC1 f fd)(hm:zCl K aa "tell" f)(am:mg "len"=none)(bA:mg "str"=none)(bO:mg "sorted"=none)(c_Desk:Cls K aa)(aO:wN K aa "webs")(aJ:wN K aa "rings")(bc:Df P w K mg base 1 "yes_or_no" ["truth"] ym)(bb:Df P w K mg base 1 "ring_text" ["ring"] yc)(dI:Df P w K mg base 4 "tells" ["ring","web"] zAp)(bM:Df P w K mg base 2 "web_text" ["web"] wU)(cT:Rz P w K mg base 2 "all_rings" ["web"] zAC ae)(eI:Rz P w K mg base 2 "bar_of" ["web"] zBH ae)(ao:mg "TooMany"=some (.ref ae))(ax:zAk K ae):RzM P w K mg base 5 aa "tell" ["self","head","given"] (zCF aa) ae:=by
 have nd:=(zFM).nd;refine zDh (zFJ aa) F zFM hm (F.binds (ps:=["self","head","given"]) fun u0 u0 u0 u0 u0 u0 us hl=>us3 us hl fun u0 u0 u0=>rfl) 7#0 (zQR aa);unfold zFJ;exact(yh zN (yb (wA hr (zC 1) zX) (zM (zg (zA9 (zFG rfl rfl bO (zE (zCC c_Desk aO (zC 0)) zH))))) ze) (yh zN (yb (wA hr (zC 1) zX) (zM (zg (zA9 (zFG rfl rfl bO (zE (zCC c_Desk aJ (zC 0)) zH))))) ze) (yh zN (yb (wA hr (zC 1) zX) (zM (zg (zc bM hr 11#0 rfl (zE (yE (zC 2) zP) zH)))) ze) (yh zN (yb (wA hr (zC 1) zX) (zM (zg (zc bb hr 11#0 rfl (zE (yE (zC 2) zP) zH)))) ze) (yh zN (yb (wA hr (zC 1) zX) (zM (zg (zc bc hr 11#0 rfl (zE (zc dI hr 11#0 rfl (zE (yE (zC 2) zP) (zE (yE (zC 2) zP) zH))) zH)))) ze) (zFo (zDU zN (wA hr (zC 1) zX) (zEr (zQy rfl bA rfl (zDx (zSQ rfl am rfl (zDx (wk zN cT hr 11#0 rfl (zE (yE (zC 2) zP) zH)))))))) (yh zN (yb (wA hr (zC 1) zX) (zM (zg (zFi rfl bA (zE (zAL rfl am (zE zHf zH)) zH)))) ze) (yh zN (yb (wA hr (zC 1) zX) (zM (zg (zc bb hr 11#0 rfl (zE zHf zH)))) ze) (yh zN (yb (wA hr (zC 1) zX) (zM (zg zHf)) ze) (zEr (zPp rfl bc (zDx (zPq (wk zN eI hr 11#0 rfl (zE (yE (zC 2) zP) zH)))))))))))))))
theorem zIE{f:Addr}{fd:FuncData}(F:Fun K "line_read" "line_read" yq f fd)(hm:mg "line_read"=some (.ref f))(am:mg "len"=none)(bI:mg "zip"=none){aw:Addr}(ay:mg "FORMS"=some (.ref aw))(gd_FORMS:zCf w K aw zY)(ar:Df P w K mg base 1 "words_of" ["text"] (spL zb))(bF:Df P w K mg base 5 "word_read" ["kind","word"] yT):Df P w K mg base 6 "line_read" ["line"] yN:=by
 have nd:=(zBU).nd;refine yi (zBw) F zBU hm (F.binds (ps:=["line"]) fun u0 u0 u0 u0 u0 u0 us hl=>us1 us hl fun u0=>rfl) 7#0 (zJC);unfold zBw;exact(zL (yI 1 nd (yo (zCO ar wJ hr 11#0 rfl (zE (zC 0) zH)))) (zL (yI 2 nd (zEo (wA hr (yE (zC 1) zP) zX) zP zP)) (zL (yI 3 nd (zA9 (zAj (zC 1) zAw (wr (zC 2))))) (zL (yb (zHc rfl ay gd_FORMS (zC 3)) (zM zE2) ze) (zL (yI 4 nd (yo (zAj (zC 1) (wr (zC 2)) zAw))) (zL (yb (zM7 hr (zC 3) (zCn (zE zX (zE zX zH)))) (zM (yI 4 nd (yo (zGs (yo (zAj (zC 4) zAw (wr zP))) (yo (zB7 (zE (zA9 (zAj (zC 4) (wr zP) zAw)) zH))))))) ze) (zL (yb (zE1 hr (zAL rfl am (zE (zC 4) zH)) (zAL rfl am (zE (zCT rfl ay gd_FORMS (zC 3)) zH))) (zM zE2) ze) (zM (zg (zCn (zE (zC 3) (zE (yo (zDY "pair" rfl (yP (osc:=zD yq) (N:=["line","words","ahead","head","rest"]) (N0:=["!00","!01","!02","!03","!04"]) (own:=["pair"]) 3#0) (zEW rfl bI (zE (zCT rfl ay gd_FORMS (zC 3)) (zE (zC 4) zH))) (fun u0 u0 u0 u0 u0=>wf) (fun u0 u0 u0 u0 u0=>(zc bF hr 11#0 rfl (zE (yE (zC 5) zP) (zE (yE (zC 5) zP) zH)))))) zH))))))))))))
theorem zIF{ac:Addr}{f:Addr}{fd:FuncData}(F:Fun K "line_read" "line_read" yq f fd)(hm:mg "line_read"=some (.ref f))(am:mg "len"=none)(bI:mg "zip"=none){aw:Addr}(ay:mg "FORMS"=some (.ref aw))(gd_FORMS:zCf w K aw zY)(bF:Df P w K mg base 5 "word_read" ["kind","word"] yT)(ar:Df P w K mg base 1 "words_of" ["text"] (spL zb))(bg:Rz P w K mg base 1 "words_of" ["text"] yd ac)(cU:Rz P w K mg base 5 "word_read" ["kind","word"] ye ac)(ah:mg "BadNote"=some (.ref ac))(ak:zAk K ac):Rz P w K mg base 6 "line_read" ["line"] wQ ac:=by
 have nd:=(zBU).nd;refine zCt (zBS) F zBU hm (F.binds (ps:=["line"]) fun u0 u0 u0 u0 u0 u0 us hl=>us1 us hl fun u0=>rfl) 7#0 (zHz);unfold zBS;exact(zFo (zIi (wk zN bg hr 11#0 rfl (zE (zC 0) zH))) (yh zN (yI 1 nd (yo (zCO ar wJ hr 11#0 rfl (zE (zC 0) zH)))) (yh zN (yI 2 nd (zEo (wA hr (yE (zC 1) zP) zX) zP zP)) (yh zN (yI 3 nd (zA9 (zAj (zC 1) zAw (wr (zC 2))))) (zFo (zDU zN (zHc rfl ay gd_FORMS (zC 3)) (bG zN rfl ah ak.ex0 zX)) (yh zN (yb (zHc rfl ay gd_FORMS (zC 3)) (zM zE2) ze) (yh zN (yI 4 nd (yo (zAj (zC 1) (wr (zC 2)) zAw))) (yh zN (yb (zM7 hr (zC 3) (zCn (zE zX (zE zX zH)))) (zM (yI 4 nd (yo (zGs (yo (zAj (zC 4) zAw (wr zP))) (yo (zB7 (zE (zA9 (zAj (zC 4) (wr zP) zAw)) zH))))))) ze) (zFo (zDU zN (zE1 hr (zAL rfl am (zE (zC 4) zH)) (zAL rfl am (zE (zCT rfl ay gd_FORMS (zC 3)) zH))) (bG zN rfl ah ak.ex0 zX)) (yh zN (yb (zE1 hr (zAL rfl am (zE (zC 4) zH)) (zAL rfl am (zE (zCT rfl ay gd_FORMS (zC 3)) zH))) (zM zE2) ze) (zEr (zSO (zPo zN (zC 3) (zDx (zTx "pair" zN (yP (osc:=zD yq) (N:=["line","words","ahead","head","rest"]) (N0:=["!00","!01","!02","!03","!04"]) (own:=["pair"]) 3#0) (zEW rfl bI (zE (zCT rfl ay gd_FORMS (zC 3)) (zE (zC 4) zH))) (fun u0 u0 u0 u0 u0=>wf) (fun u0 u0 u0 u0 u0=>(zc bF hr 11#0 rfl (zE (yE (zC 5) zP) (zE (yE (zC 5) zP) zH)))) (fun u0 u0 u0 u0 u0=>zPn (fun u0 u0 h=>h) cU hr 11#0 rfl (zE (yE (zC 5) zP) (zE (yE (zC 5) zP) zH))))))))))))))))))
theorem zSz{aa:Addr}{f:Addr}{fd:FuncData}(F:Fun K "say" "Desk.say" zBK f fd)(hm:zCl K aa "say" f)(bI:mg "zip"=none){aB aC aD aE aF:Tok}{aA:Addr}{bh:Nat}{bn:12#0}(aW:mg "KEEPING"=some (.ref aA))(aI:31#0){aw:Addr}(ay:mg "FORMS"=some (.ref aw))(gd_FORMS:zCf w K aw zY)(c_Desk:Cls K aa)(aG:Df P w K mg base 6 "line_read" ["line"] yN)(aH:DfM P w K mg base 1 aa "looked_up" ["self","kind","thing"] (yD aa))(eU:DfM P w K mg base 4 aa "keep" ["self","head","given"] (zD4 aa))(eV:DfM P w K mg base 5 aa "tell" ["self","head","given"] (zD7 aa)):DfM P w K mg base 7 aa "say" ["self","line"] (yw aa):=by
 have nd:=(zC0).nd;refine zHb (zLN aa) F zC0 hm (F.binds (ps:=["self","line"]) fun u0 u0 u0 u0 u0 u0 us hl=>us2 us hl fun u0 u0=>rfl) 7#0 (zUJ aa);unfold zLN;exact(zL (yI 2 nd (zc aG hr 11#0 rfl (zE (zC 1) zH))) (zL (yI 3 nd (yE (zC 2) zP)) (zL (zHM 4 "pair" rfl (yP (osc:=zD zBK) (N:=["self","line","asked","head","given"]) (N0:=["self","!01","!02","!03","!04"]) (own:=["pair"]) 3#0) (zEW rfl bI (zE (zCT rfl ay gd_FORMS (zC 3)) (zE (yE (zC 2) zP) zH))) (fun u0 u0 u0 u0 u0=>wf) (fun u0 u0 u0 u0 u0=>(zBJ c_Desk aH hr 11#0 (zC 0) (zE (yE (zC 5) zP) (zE (yE (zC 5) zP) zH)))) nd) (zM (zg (zEo (zM7 hr (zC 3) (zHS (ls:=["web","ring","of","found","turn"]) (ts:=[aB,aC,aD,aE,aF]) rfl aW aI rfl rfl rfl rfl 11#0)) (zBJ c_Desk eU hr 11#0 (zC 0) (zE (zC 3) (zE (zC 4) zH))) (zBJ c_Desk eV hr 11#0 (zC 0) (zE (zC 3) (zE (zC 4) zH)))))))))
theorem zGK{aa:Addr}{ac:Addr}{f:Addr}{fd:FuncData}(F:Fun K "say" "Desk.say" zBK f fd)(hm:zCl K aa "say" f)(bI:mg "zip"=none){aB aC aD aE aF:Tok}{aA:Addr}{bh:Nat}{bn:12#0}(aW:mg "KEEPING"=some (.ref aA))(aI:31#0){aw:Addr}(ay:mg "FORMS"=some (.ref aw))(gd_FORMS:zCf w K aw zY)(c_Desk:Cls K aa)(aH:DfM P w K mg base 1 aa "looked_up" ["self","kind","thing"] (yD aa))(aG:Df P w K mg base 6 "line_read" ["line"] yN)(cV:Rz P w K mg base 6 "line_read" ["line"] wQ ac)(bX:RzM P w K mg base 4 aa "keep" ["self","head","given"] (wG aa) ac)(ah:mg "BadNote"=some (.ref ac))(ak:zAk K ac):RzM P w K mg base 7 aa "say" ["self","line"] (zu aa) ac:=by
 have nd:=(zC0).nd;refine zDh (zAq aa) F zC0 hm (F.binds (ps:=["self","line"]) fun u0 u0 u0 u0 u0 u0 us hl=>us2 us hl fun u0 u0=>rfl) 7#0 (zGA aa);unfold zAq;exact(zFo (zIi (wk zN cV hr 11#0 rfl (zE (zC 1) zH))) (yh zN (yI 2 nd (zc aG hr 11#0 rfl (zE (zC 1) zH))) (yh zN (yI 3 nd (yE (zC 2) zP)) (yh zN (zHM 4 "pair" rfl (yP (osc:=zD zBK) (N:=["self","line","asked","head","given"]) (N0:=["self","!01","!02","!03","!04"]) (own:=["pair"]) 3#0) (zEW rfl bI (zE (zCT rfl ay gd_FORMS (zC 3)) (zE (yE (zC 2) zP) zH))) (fun u0 u0 u0 u0 u0=>wf) (fun u0 u0 u0 u0 u0=>(zBJ c_Desk aH hr 11#0 (zC 0) (zE (yE (zC 5) zP) (zE (yE (zC 5) zP) zH)))) nd) (zEr (zNm zN (zM7 hr (zC 3) (zHS (ls:=["web","ring","of","found","turn"]) (ts:=[aB,aC,aD,aE,aF]) rfl aW aI rfl rfl rfl rfl 11#0)) (zDE zN c_Desk bX hr 11#0 (zC 0) (zE (zC 3) (zE (zC 4) zH))) zTn))))))
theorem zGb{aa:Addr}{ag:Addr}{f:Addr}{fd:FuncData}(F:Fun K "say" "Desk.say" zBK f fd)(hm:zCl K aa "say" f)(bI:mg "zip"=none){aB aC aD aE aF:Tok}{aA:Addr}{bh:Nat}{bn:12#0}(aW:mg "KEEPING"=some (.ref aA))(aI:31#0){aw:Addr}(ay:mg "FORMS"=some (.ref aw))(gd_FORMS:zCf w K aw zY)(c_Desk:Cls K aa)(aH:DfM P w K mg base 1 aa "looked_up" ["self","kind","thing"] (yD aa))(aG:Df P w K mg base 6 "line_read" ["line"] yN)(cW:RzM P w K mg base 1 aa "looked_up" ["self","kind","thing"] (zAE aa) ag)(bo:mg "NoName"=some (.ref ag))(bN:zAk K ag):RzM P w K mg base 7 aa "say" ["self","line"] (yJ aa) ag:=by
 have nd:=(zC0).nd;refine zDh (zBD aa) F zC0 hm (F.binds (ps:=["self","line"]) fun u0 u0 u0 u0 u0 u0 us hl=>us2 us hl fun u0 u0=>rfl) 7#0 (zGX aa);unfold zBD;exact(yh zN (yI 2 nd (zc aG hr 11#0 rfl (zE (zC 1) zH))) (yh zN (yI 3 nd (yE (zC 2) zP)) (zTy "pair" zN (yP (osc:=zD zBK) (N:=["self","line","asked","head","given"]) (N0:=["self","!01","!02","!03","!04"]) (own:=["pair"]) 3#0) (zEW rfl bI (zE (zCT rfl ay gd_FORMS (zC 3)) (zE (yE (zC 2) zP) zH))) (fun u0 u0 u0 u0 u0=>wf) (fun u0 u0 u0 u0 u0=>(zBJ c_Desk aH hr 11#0 (zC 0) (zE (yE (zC 5) zP) (zE (yE (zC 5) zP) zH)))) (fun u0 u0 u0 u0 u0=>zK4 (fun u0 u0 h=>h) c_Desk cW hr 11#0 (zC 0) (zE (yE (zC 5) zP) (zE (yE (zC 5) zP) zH))))))
theorem zGL{aa:Addr}{ae:Addr}{f:Addr}{fd:FuncData}(F:Fun K "say" "Desk.say" zBK f fd)(hm:zCl K aa "say" f)(bI:mg "zip"=none){aB aC aD aE aF:Tok}{aA:Addr}{bh:Nat}{bn:12#0}(aW:mg "KEEPING"=some (.ref aA))(aI:31#0){aw:Addr}(ay:mg "FORMS"=some (.ref aw))(gd_FORMS:zCf w K aw zY)(c_Desk:Cls K aa)(aH:DfM P w K mg base 1 aa "looked_up" ["self","kind","thing"] (yD aa))(aG:Df P w K mg base 6 "line_read" ["line"] yN)(bY:RzM P w K mg base 4 aa "keep" ["self","head","given"] (wH aa) ae)(eW:RzM P w K mg base 5 aa "tell" ["self","head","given"] (zCF aa) ae)(ao:mg "TooMany"=some (.ref ae))(ax:zAk K ae):RzM P w K mg base 7 aa "say" ["self","line"] (yB aa) ae:=by
 have nd:=(zC0).nd;refine zDh (zAr aa) F zC0 hm (F.binds (ps:=["self","line"]) fun u0 u0 u0 u0 u0 u0 us hl=>us2 us hl fun u0 u0=>rfl) 7#0 (zGB aa);unfold zAr;exact(yh zN (yI 2 nd (zc aG hr 11#0 rfl (zE (zC 1) zH))) (yh zN (yI 3 nd (yE (zC 2) zP)) (yh zN (zHM 4 "pair" rfl (yP (osc:=zD zBK) (N:=["self","line","asked","head","given"]) (N0:=["self","!01","!02","!03","!04"]) (own:=["pair"]) 3#0) (zEW rfl bI (zE (zCT rfl ay gd_FORMS (zC 3)) (zE (yE (zC 2) zP) zH))) (fun u0 u0 u0 u0 u0=>wf) (fun u0 u0 u0 u0 u0=>(zBJ c_Desk aH hr 11#0 (zC 0) (zE (yE (zC 5) zP) (zE (yE (zC 5) zP) zH)))) nd) (zEr (zNm zN (zM7 hr (zC 3) (zHS (ls:=["web","ring","of","found","turn"]) (ts:=[aB,aC,aD,aE,aF]) rfl aW aI rfl rfl rfl rfl 11#0)) (zDE zN c_Desk bY hr 11#0 (zC 0) (zE (zC 3) (zE (zC 4) zH))) (zDE zN c_Desk eW hr 11#0 (zC 0) (zE (zC 3) (zE (zC 4) zH))))))))
theorem zS0{aa f:Addr}{fd:FuncData}(F:Fun K "law" "law" zCh f fd)(af:mg "isinstance"=none)(bf:mg "ValueError"=none)(aL:mg "range"=none)(c_Desk:Cls K aa)(eX:mg "Desk"=some (.ref aa))(cX:DfI P w K mg base 1 aa (zAK aa))(eF:DfM P w K mg base 7 aa "say" ["self","line"] (yw aa))(ej:Df P w K mg base 1 "_law_bad" ["k"] zA2)(em:Df P w K mg base 1 "_law_due" ["k"] zA3){aM ae bC aP ag ac:Addr}(bH:mg "ChordError"=some (.ref aM))(ao:mg "TooMany"=some (.ref ae))(cD:mg "NoTie"=some (.ref bC))(bJ:mg "NoSplit"=some (.ref aP))(bo:mg "NoName"=some (.ref ag))(ah:mg "BadNote"=some (.ref ac)){fR:Addr}{fdR:FuncData}(FR:Fun K "_law_refused" "_law_refused" yf fR fdR)(mR:mg "_law_refused"=some (.ref fR))(bR:Binds K fdR ["call"] []){tc tP:Addr}(hco:fd.code=.ref tc)(hCH:PySem.W.CodeHd base tc tP)(hBA:BMn base mg)(hTB:PySem.W.tabIn K "law"=some (tc,tP))(ak:zAk K ac)(bZ:PySem.W.exmOne K (.ref ac) (.ref aM)=some true)(aQ:PySem.W.kitOne K (.ref ac) (.ref ae)=some false)(bp:PySem.W.kitOne K (.ref ac) (.ref bC)=some false)(aR:PySem.W.kitOne K (.ref ac) (.ref aP)=some false)(aX:PySem.W.kitOne K (.ref ac) (.ref ag)=some false)(aS:PySem.W.kitOne K (.ref ac) (.ref ac)=some true)(ca:PySem.W.kitOne K (.ref ac) (.type "ValueError")=some true)(cj:RzM P w K mg base 7 aa "say" ["self","line"] (zu aa) ac)(bN:zAk K ag)(cx:PySem.W.exmOne K (.ref ag) (.ref aM)=some true)(aY:PySem.W.kitOne K (.ref ag) (.ref ae)=some false)(bv:PySem.W.kitOne K (.ref ag) (.ref bC)=some false)(aZ:PySem.W.kitOne K (.ref ag) (.ref aP)=some false)(bq:PySem.W.kitOne K (.ref ag) (.ref ag)=some true)(b9:PySem.W.kitOne K (.ref ag) (.ref ac)=some false)(cy:PySem.W.kitOne K (.ref ag) (.type "ValueError")=some true)(cJ:RzM P w K mg base 7 aa "say" ["self","line"] (yJ aa) ag)(ax:zAk K ae)(cb:PySem.W.exmOne K (.ref ae) (.ref aM)=some true)(aT:PySem.W.kitOne K (.ref ae) (.ref ae)=some true)(br:PySem.W.kitOne K (.ref ae) (.ref bC)=some false)(aU:PySem.W.kitOne K (.ref ae) (.ref aP)=some false)(ba:PySem.W.kitOne K (.ref ae) (.ref ag)=some false)(aV:PySem.W.kitOne K (.ref ae) (.ref ac)=some false)(ce:PySem.W.kitOne K (.ref ae) (.type "ValueError")=some true)(ck:RzM P w K mg base 7 aa "say" ["self","line"] (yB aa) ae) :zCm P w K mg base CX0 10 f fd ["script"] (lSp K zGt):=by
 have nd:=zOl.nd;refine zSL (zEA aa) F zOl (fun cdv A outer s H E hcd hr=>?_) (zUO aa);unfold zEA;exact(zL (yI 1 nd (zSN cX hr 11#0 rfl eX)) (zL (zHP PassesOwn.never rfl (zFb (zB7 (zMG (by kernel_rfl)))) (zHK 2 nd) (zM (zJh (zBJ c_Desk eF hr 11#0 (zC 1) (zE (zC 2) zH))))) (zL (zHP PassesOwn.never rfl (zFb (zGs (yo (zAj (zC 0) zAw (wr zP))) (yo (zB7 (zE zP zH))))) (zHK 3 nd) (zL (yI 4 nd (zKl (zC 3) zP)) (zL (yI 2 nd (zc ej hr 11#0 rfl (zE (zHL (zC 4) zP) zH))) (zL (yI 5 nd zP) (zL (yb (wA hr (zKl (zC 4) zP) zP) (zM (zTR (zc em hr 11#0 rfl (zE (zHL (zC 4) zP) zH)) (zTQ 2 5 rfl nd))) ze) (zL (yb (zE1 hr (yo (zIo (zJ5 (k:=7) FR zBX mR bR (hr.mono 11#0) rfl zOm bH bZ (fun cdv A outer s H e oe u0 hcl=>zH1 af bf aL ao cD bJ bo ah ak hcl aQ bp aR aX aS ca) zIn (zNj (osc:=zD zCh) 3#0 (hcd.symm.trans hco) hCH hBA hTB 11#0 rfl rfl (fun u0 u0 u0 u0 u0=>rfl)) (fun g cv A outer s H hr2=>zDE zHX c_Desk cj hr2 11#0 (zC 1) (zE (zC 2) zH))) (zIo (zJ5 (k:=7) FR zBX mR bR (hr.mono 11#0) rfl zOm bH cx (fun cdv A outer s H e oe u0 hcl=>zH1 af bf aL ao cD bJ bo ah bN hcl aY bv aZ bq b9 cy) zKP (zNj (osc:=zD zCh) 3#0 (hcd.symm.trans hco) hCH hBA hTB 11#0 rfl rfl (fun u0 u0 u0 u0 u0=>rfl)) (fun g cv A outer s H hr2=>zDE zHX c_Desk cJ hr2 11#0 (zC 1) (zE (zC 2) zH))) (zJ5 (k:=7) FR zBX mR bR (hr.mono 11#0) rfl zOm bH cb (fun cdv A outer s H e oe u0 hcl=>zH1 af bf aL ao cD bJ bo ah ax hcl aT br aU ba aV ce) zIm (zNj (osc:=zD zCh) 3#0 (hcd.symm.trans hco) hCH hBA hTB 11#0 rfl rfl (fun u0 u0 u0 u0 u0=>rfl)) (fun g cv A outer s H hr2=>zDE zHX c_Desk ck hr2 11#0 (zC 1) (zE (zC 2) zH)))))) (yo (zB7 (zE (zC 5) zH)))) (zM (zg zGT)) ze) (zM (yb (W2.test (w_or (zE1 hr (zBJ c_Desk eF hr 11#0 (zC 1) (zE zX zH)) zX) (w_or (zE1 hr (zBJ c_Desk eF hr 11#0 (zC 1) (zE zX zH)) zX) (zCp (zE1 hr (zBJ c_Desk eF hr 11#0 (zC 1) (zE zX zH)) zX))))) (zM (zg zGT)) ze)))))))) (zM (zg (zIQ (zLg hr (zBJ c_Desk eF hr 11#0 (zC 1) (zE zX zH)) zX) (zIP (zLg hr (zBJ c_Desk eF hr 11#0 (zC 1) (zE zX zH)) zX))))))))
end
theorem zS1{l:PySem.W.OpenLaw}{w:World}{K:14#0}{h:Heap}{mg:Str->Option Value}{fa:Addr}(X:K.In h)(G:h.Ns mainGlobals mg)(hfa:mg "law"=some (.ref fa))
  {aa:Addr} {f0:Addr} {od0 an0:Option Addr} {sl0:12#0} {oc0 kV0 dc0 pm0 cd0 ct0:Value} {f1:Addr} {od1 an1:Option Addr} {sl1:12#0} {oc1 kV1 dc1 pm1 cd1 ct1:Value} {f2:Addr} {od2 an2:Option Addr} {sl2:12#0} {oc2 kV2 dc2 pm2 cd2 ct2:Value} {f3:Addr} {od3 an3:Option Addr} {sl3:12#0} {oc3 kV3 dc3 pm3 cd3 ct3:Value} {f4:Addr} {od4 an4:Option Addr} {sl4:12#0} {oc4 kV4 dc4 pm4 cd4 ct4:Value} {f5:Addr} {od5 an5:Option Addr} {sl5:12#0} {oc5 kV5 dc5 pm5 cd5 ct5:Value} {f6:Addr} {od6 an6:Option Addr} {sl6:12#0} {oc6 kV6 dc6 pm6 cd6 ct6:Value} {f7:Addr} {od7 an7:Option Addr} {sl7:12#0} {oc7 kV7 dc7 pm7 cd7 ct7:Value} {f8:Addr} {od8 an8:Option Addr} {sl8:12#0} {oc8 kV8 dc8 pm8 cd8 ct8:Value} {f9:Addr} {od9 an9:Option Addr} {sl9:12#0} {oc9 kV9 dc9 pm9 cd9 ct9:Value} {f10:Addr} {od10 an10:Option Addr} {sl10:12#0} {oc10 kV10 dc10 pm10 cd10 ct10:Value} {f11:Addr} {od11 an11:Option Addr} {sl11:12#0} {oc11 kV11 dc11 pm11 cd11 ct11:Value} {f12:Addr} {od12 an12:Option Addr} {sl12:12#0} {oc12 kV12 dc12 pm12 cd12 ct12:Value} {f13:Addr} {od13 an13:Option Addr} {sl13:12#0} {oc13 kV13 dc13 pm13 cd13 ct13:Value} {f14:Addr} {od14 an14:Option Addr} {sl14:12#0} {oc14 kV14 dc14 pm14 cd14 ct14:Value} {f15:Addr} {od15 an15:Option Addr} {sl15:12#0} {oc15 kV15 dc15 pm15 cd15 ct15:Value} {f16:Addr} {od16 an16:Option Addr} {sl16:12#0} {oc16 kV16 dc16 pm16 cd16 ct16:Value} {f17:Addr} {od17 an17:Option Addr} {sl17:12#0} {oc17 kV17 dc17 pm17 cd17 ct17:Value} {f18:Addr} {od18 an18:Option Addr} {sl18:12#0} {oc18 kV18 dc18 pm18 cd18 ct18:Value} {f19:Addr} {od19 an19:Option Addr} {sl19:12#0} {oc19 kV19 dc19 pm19 cd19 ct19:Value} {f20:Addr} {od20 an20:Option Addr} {sl20:12#0} {oc20 kV20 dc20 pm20 cd20 ct20:Value} {f21:Addr} {od21 an21:Option Addr} {sl21:12#0} {oc21 kV21 dc21 pm21 cd21 ct21:Value} {f22:Addr} {od22 an22:Option Addr} {sl22:12#0} {oc22 kV22 dc22 pm22 cd22 ct22:Value} {f23:Addr} {od23 an23:Option Addr} {sl23:12#0} {oc23 kV23 dc23 pm23 cd23 ct23:Value} {f24:Addr} {od24 an24:Option Addr} {sl24:12#0} {oc24 kV24 dc24 pm24 cd24 ct24:Value} {f25:Addr} {od25 an25:Option Addr} {sl25:12#0} {oc25 kV25 dc25 pm25 cd25 ct25:Value} {f26:Addr} {od26 an26:Option Addr} {sl26:12#0} {oc26 kV26 dc26 pm26 cd26 ct26:Value} {f27:Addr} {od27 an27:Option Addr} {sl27:12#0} {oc27 kV27 dc27 pm27 cd27 ct27:Value} {f28:Addr} {od28 an28:Option Addr} {sl28:12#0} {oc28 kV28 dc28 pm28 cd28 ct28:Value} {f29:Addr} {od29 an29:Option Addr} {sl29:12#0} {oc29 kV29 dc29 pm29 cd29 ct29:Value} {f30:Addr} {od30 an30:Option Addr} {sl30:12#0} {oc30 kV30 dc30 pm30 cd30 ct30:Value} {f31:Addr} {od31 an31:Option Addr} {sl31:12#0} {oc31 kV31 dc31 pm31 cd31 ct31:Value} {f32:Addr} {od32 an32:Option Addr} {sl32:12#0} {oc32 kV32 dc32 pm32 cd32 ct32:Value} {f33:Addr} {od33 an33:Option Addr} {sl33:12#0} {oc33 kV33 dc33 pm33 cd33 ct33:Value} {f34:Addr} {od34 an34:Option Addr} {sl34:12#0} {oc34 kV34 dc34 pm34 cd34 ct34:Value} {f35:Addr} {od35 an35:Option Addr} {sl35:12#0} {oc35 kV35 dc35 pm35 cd35 ct35:Value} {f36:Addr} {od36 an36:Option Addr} {sl36:12#0} {oc36 kV36 dc36 pm36 cd36 ct36:Value} {bu:Tok} {bB:Tok} {bP:Tok} {cg:Tok} {bW:Tok} {cG:Tok} {dJ:Tok} {dL:Tok} {aB aC aD aE aF:Tok} {aA:Addr} {bh:Nat} {bn:12#0} {aw:Addr} {ep_FORMS:Nat} {kt_FORMS0 kt_FORMS1 kt_FORMS2 kt_FORMS3 kt_FORMS4 kt_FORMS5 kt_FORMS6 kt_FORMS7 kt_FORMS8 kt_FORMS9 kt_FORMS10 kt_FORMS11 kt_FORMS12 kt_FORMS13:Tok} {kr_FORMS0 kr_FORMS1 kr_FORMS2 kr_FORMS3 kr_FORMS4 kr_FORMS5 kr_FORMS6 kr_FORMS7 kr_FORMS8 kr_FORMS9 kr_FORMS10 kr_FORMS11 kr_FORMS12 kr_FORMS13:Addr} {kv_FORMS13_0:Tok} {kn_FORMS13:Nat} {ks_FORMS13:12#0} {kv_FORMS12_0:Tok} {kn_FORMS12:Nat} {ks_FORMS12:12#0} {kv_FORMS11_0:Tok} {kn_FORMS11:Nat} {ks_FORMS11:12#0} {kv_FORMS10_0 kv_FORMS10_1 kv_FORMS10_2:Tok} {kn_FORMS10:Nat} {ks_FORMS10:12#0} {kv_FORMS9_0:Tok} {kn_FORMS9:Nat} {ks_FORMS9:12#0} {kv_FORMS8_0 kv_FORMS8_1:Tok} {kn_FORMS8:Nat} {ks_FORMS8:12#0} {kv_FORMS7_0 kv_FORMS7_1:Tok} {kn_FORMS7:Nat} {ks_FORMS7:12#0} {kv_FORMS6_0 kv_FORMS6_1:Tok} {kn_FORMS6:Nat} {ks_FORMS6:12#0} {kv_FORMS5_0:Tok} {kn_FORMS5:Nat} {ks_FORMS5:12#0} {kv_FORMS4_0:Tok} {kn_FORMS4:Nat} {ks_FORMS4:12#0} {kn_FORMS3:Nat} {ks_FORMS3:12#0} {kn_FORMS2:Nat} {ks_FORMS2:12#0} {kv_FORMS1_0 kv_FORMS1_1:Tok} {kn_FORMS1:Nat} {ks_FORMS1:12#0} {kv_FORMS0_0 kv_FORMS0_1:Tok} {kn_FORMS0:Nat} {ks_FORMS0:12#0} {aM ae bC aP ag ac:Addr} {fh fi:Addr}
  (eY:PySem.W.nsIn K mainGlobals "Desk"=some (some (.ref aa)))
  (cD0:PySem.W.plainGet K aa Str.empty=true)
  (cD1:PySem.W.hasDictIn K aa=true)
  (cD2:PySem.W.plainOver K aa=true)
  (cD3:PySem.W.findIn K (.ref aa) "__setattr__"=some (some (.builtin "object.__setattr__")))
  (aO:PySem.W.findIn K (.ref aa) "webs"=some none)
  (aJ:PySem.W.findIn K (.ref aa) "rings"=some none)
  (mkD0:PySem.W.makesIn K aa=true)
  (mkD1:PySem.W.keepIn K (.ref aa)=true)
  (a0:PySem.W.nsIn K mainGlobals "is_number"=some (some (.ref f0)))
  (l0:K.lookup f0=some ⟨oc0,od0,.func (PySem.W.fnOf "is_number" "is_number" (za zAa) (zR zAa) (zD zAa) .none kV0 dc0 pm0 an0 cd0 ct0),sl0⟩)
  (c0:PySem.W.codeIn K cd0 "is_number"=true)
  (k0:PySem.W.keepIn K (.ref f0)=true)
  (a1:PySem.W.nsIn K mainGlobals "is_rising"=some (some (.ref f1)))
  (l1:K.lookup f1=some ⟨oc1,od1,.func (PySem.W.fnOf "is_rising" "is_rising" (za wY) (zR wY) (zD wY) .none kV1 dc1 pm1 an1 cd1 ct1),sl1⟩)
  (c1:PySem.W.codeIn K cd1 "is_rising"=true)
  (k1:PySem.W.keepIn K (.ref f1)=true)
  (a2:PySem.W.nsIn K mainGlobals "pairs"=some (some (.ref f2)))
  (l2:K.lookup f2=some ⟨oc2,od2,.func (PySem.W.fnOf "pairs" "pairs" (za zDO) (zR zDO) (zD zDO) .none kV2 dc2 pm2 an2 cd2 ct2),sl2⟩)
  (c2:PySem.W.codeIn K cd2 "pairs"=true)
  (k2:PySem.W.keepIn K (.ref f2)=true)
  (a3:PySem.W.nsIn K mainGlobals "pairs_of"=some (some (.ref f3)))
  (l3:K.lookup f3=some ⟨oc3,od3,.func (PySem.W.fnOf "pairs_of" "pairs_of" (za zA4) (zR zA4) (zD zA4) .none kV3 dc3 pm3 an3 cd3 ct3),sl3⟩)
  (c3:PySem.W.codeIn K cd3 "pairs_of"=true)
  (k3:PySem.W.keepIn K (.ref f3)=true)
  (a4:PySem.W.nsIn K mainGlobals "refuse_more"=some (some (.ref f4)))
  (l4:K.lookup f4=some ⟨oc4,od4,.func (PySem.W.fnOf "refuse_more" "refuse_more" (za wd) (zR wd) (zD wd) .none kV4 dc4 pm4 an4 cd4 ct4),sl4⟩)
  (c4:PySem.W.codeIn K cd4 "refuse_more"=true)
  (k4:PySem.W.keepIn K (.ref f4)=true)
  (a5:PySem.W.nsIn K mainGlobals "is_ring"=some (some (.ref f5)))
  (l5:K.lookup f5=some ⟨oc5,od5,.func (PySem.W.fnOf "is_ring" "is_ring" (za zAb) (zR zAb) (zD zAb) .none kV5 dc5 pm5 an5 cd5 ct5),sl5⟩)
  (c5:PySem.W.codeIn K cd5 "is_ring"=true)
  (k5:PySem.W.keepIn K (.ref f5)=true)
  (a6:PySem.W.nsIn K mainGlobals "cross"=some (some (.ref f6)))
  (l6:K.lookup f6=some ⟨oc6,od6,.func (PySem.W.fnOf "cross" "cross" (za zDP) (zR zDP) (zD zDP) .none kV6 dc6 pm6 an6 cd6 ct6),sl6⟩)
  (c6:PySem.W.codeIn K cd6 "cross"=true)
  (k6:PySem.W.keepIn K (.ref f6)=true)
  (a7:PySem.W.nsIn K mainGlobals "web_of"=some (some (.ref f7)))
  (l7:K.lookup f7=some ⟨oc7,od7,.func (PySem.W.fnOf "web_of" "web_of" (za zBh) (zR zBh) (zD zBh) .none kV7 dc7 pm7 an7 cd7 ct7),sl7⟩)
  (c7:PySem.W.codeIn K cd7 "web_of"=true)
  (k7:PySem.W.keepIn K (.ref f7)=true)
  (a8:PySem.W.nsIn K mainGlobals "is_web"=some (some (.ref f8)))
  (l8:K.lookup f8=some ⟨oc8,od8,.func (PySem.W.fnOf "is_web" "is_web" (za zA5) (zR zA5) (zD zA5) .none kV8 dc8 pm8 an8 cd8 ct8),sl8⟩)
  (c8:PySem.W.codeIn K cd8 "is_web"=true)
  (k8:PySem.W.keepIn K (.ref f8)=true)
  (a9:PySem.W.nsIn K mainGlobals "is_tie"=some (some (.ref f9)))
  (l9:K.lookup f9=some ⟨oc9,od9,.func (PySem.W.fnOf "is_tie" "is_tie" (za zBZ) (zR zBZ) (zD zBZ) .none kV9 dc9 pm9 an9 cd9 ct9),sl9⟩)
  (c9:PySem.W.codeIn K cd9 "is_tie"=true)
  (k9:PySem.W.keepIn K (.ref f9)=true)
  (a10:PySem.W.nsIn K mainGlobals "tells"=some (some (.ref f10)))
  (l10:K.lookup f10=some ⟨oc10,od10,.func (PySem.W.fnOf "tells" "tells" (za zDQ) (zR zDQ) (zD zDQ) .none kV10 dc10 pm10 an10 cd10 ct10),sl10⟩)
  (c10:PySem.W.codeIn K cd10 "tells"=true)
  (k10:PySem.W.keepIn K (.ref f10)=true)
  (a11:PySem.W.nsIn K mainGlobals "ring_of"=some (some (.ref f11)))
  (l11:K.lookup f11=some ⟨oc11,od11,.func (PySem.W.fnOf "ring_of" "ring_of" (za zBa) (zR zBa) (zD zBa) .none kV11 dc11 pm11 an11 cd11 ct11),sl11⟩)
  (c11:PySem.W.codeIn K cd11 "ring_of"=true)
  (k11:PySem.W.keepIn K (.ref f11)=true)
  (a12:PySem.W.nsIn K mainGlobals "bar_of"=some (some (.ref f12)))
  (l12:K.lookup f12=some ⟨oc12,od12,.func (PySem.W.fnOf "bar_of" "bar_of" (za zCG) (zR zCG) (zD zCG) .none kV12 dc12 pm12 an12 cd12 ct12),sl12⟩)
  (c12:PySem.W.codeIn K cd12 "bar_of"=true)
  (k12:PySem.W.keepIn K (.ref f12)=true)
  (a13:PySem.W.nsIn K mainGlobals "web_text"=some (some (.ref f13)))
  (l13:K.lookup f13=some ⟨oc13,od13,.func (PySem.W.fnOf "web_text" "web_text" (za zAV) (zR zAV) (zD zAV) .none kV13 dc13 pm13 an13 cd13 ct13),sl13⟩)
  (c13:PySem.W.codeIn K cd13 "web_text"=true)
  (k13:PySem.W.keepIn K (.ref f13)=true)
  (a14:PySem.W.nsIn K mainGlobals "tie_text"=some (some (.ref f14)))
  (l14:K.lookup f14=some ⟨oc14,od14,.func (PySem.W.fnOf "tie_text" "tie_text" (za zAW) (zR zAW) (zD zAW) .none kV14 dc14 pm14 an14 cd14 ct14),sl14⟩)
  (c14:PySem.W.codeIn K cd14 "tie_text"=true)
  (k14:PySem.W.keepIn K (.ref f14)=true)
  (a15:PySem.W.nsIn K mainGlobals "ring_text"=some (some (.ref f15)))
  (l15:K.lookup f15=some ⟨oc15,od15,.func (PySem.W.fnOf "ring_text" "ring_text" (za zAF) (zR zAF) (zD zAF) .none kV15 dc15 pm15 an15 cd15 ct15),sl15⟩)
  (c15:PySem.W.codeIn K cd15 "ring_text"=true)
  (k15:PySem.W.keepIn K (.ref f15)=true)
  (a16:PySem.W.nsIn K mainGlobals "web_read"=some (some (.ref f16)))
  (l16:K.lookup f16=some ⟨oc16,od16,.func (PySem.W.fnOf "web_read" "web_read" (za wL) (zR wL) (zD wL) .none kV16 dc16 pm16 an16 cd16 ct16),sl16⟩)
  (c16:PySem.W.codeIn K cd16 "web_read"=true)
  (k16:PySem.W.keepIn K (.ref f16)=true)
  (a17:PySem.W.nsIn K mainGlobals "tie_read"=some (some (.ref f17)))
  (l17:K.lookup f17=some ⟨oc17,od17,.func (PySem.W.fnOf "tie_read" "tie_read" (za zA6) (zR zA6) (zD zA6) .none kV17 dc17 pm17 an17 cd17 ct17),sl17⟩)
  (c17:PySem.W.codeIn K cd17 "tie_read"=true)
  (k17:PySem.W.keepIn K (.ref f17)=true)
  (a18:PySem.W.nsIn K mainGlobals "ring_read"=some (some (.ref f18)))
  (l18:K.lookup f18=some ⟨oc18,od18,.func (PySem.W.fnOf "ring_read" "ring_read" (za yp) (zR yp) (zD yp) .none kV18 dc18 pm18 an18 cd18 ct18),sl18⟩)
  (c18:PySem.W.codeIn K cd18 "ring_read"=true)
  (k18:PySem.W.keepIn K (.ref f18)=true)
  (a19:PySem.W.nsIn K mainGlobals "words_of"=some (some (.ref f19)))
  (l19:K.lookup f19=some ⟨oc19,od19,.func (PySem.W.fnOf "words_of" "words_of" (za zAG) (zR zAG) (zD zAG) .none kV19 dc19 pm19 an19 cd19 ct19),sl19⟩)
  (c19:PySem.W.codeIn K cd19 "words_of"=true)
  (k19:PySem.W.keepIn K (.ref f19)=true)
  (a20:PySem.W.nsIn K mainGlobals "figure"=some (some (.ref f20)))
  (l20:K.lookup f20=some ⟨oc20,od20,.func (PySem.W.fnOf "figure" "figure" (za zCH) (zR zCH) (zD zCH) .none kV20 dc20 pm20 an20 cd20 ct20),sl20⟩)
  (c20:PySem.W.codeIn K cd20 "figure"=true)
  (k20:PySem.W.keepIn K (.ref f20)=true)
  (a21:PySem.W.nsIn K mainGlobals "all_rings"=some (some (.ref f21)))
  (l21:K.lookup f21=some ⟨oc21,od21,.func (PySem.W.fnOf "all_rings" "all_rings" (za zAc) (zR zAc) (zD zAc) .none kV21 dc21 pm21 an21 cd21 ct21),sl21⟩)
  (c21:PySem.W.codeIn K cd21 "all_rings"=true)
  (k21:PySem.W.keepIn K (.ref f21)=true)
  (a22:PySem.W.nsIn K mainGlobals "line_read"=some (some (.ref f22)))
  (l22:K.lookup f22=some ⟨oc22,od22,.func (PySem.W.fnOf "line_read" "line_read" (za yq) (zR yq) (zD yq) .none kV22 dc22 pm22 an22 cd22 ct22),sl22⟩)
  (c22:PySem.W.codeIn K cd22 "line_read"=true)
  (k22:PySem.W.keepIn K (.ref f22)=true)
  (a23:PySem.W.nsIn K mainGlobals "word_read"=some (some (.ref f23)))
  (l23:K.lookup f23=some ⟨oc23,od23,.func (PySem.W.fnOf "word_read" "word_read" (za wV) (zR wV) (zD wV) .none kV23 dc23 pm23 an23 cd23 ct23),sl23⟩)
  (c23:PySem.W.codeIn K cd23 "word_read"=true)
  (k23:PySem.W.keepIn K (.ref f23)=true)
  (a24:PySem.W.nsIn K mainGlobals "place_read"=some (some (.ref f24)))
  (l24:K.lookup f24=some ⟨oc24,od24,.func (PySem.W.fnOf "place_read" "place_read" (za wI) (zR wI) (zD wI) .none kV24 dc24 pm24 an24 cd24 ct24),sl24⟩)
  (c24:PySem.W.codeIn K cd24 "place_read"=true)
  (k24:PySem.W.keepIn K (.ref f24)=true)
  (a25:PySem.W.nsIn K mainGlobals "is_name"=some (some (.ref f25)))
  (l25:K.lookup f25=some ⟨oc25,od25,.func (PySem.W.fnOf "is_name" "is_name" (za zA7) (zR zA7) (zD zA7) .none kV25 dc25 pm25 an25 cd25 ct25),sl25⟩)
  (c25:PySem.W.codeIn K cd25 "is_name"=true)
  (k25:PySem.W.keepIn K (.ref f25)=true)
  (a26:PySem.W.nsIn K mainGlobals "turned_at"=some (some (.ref f26)))
  (l26:K.lookup f26=some ⟨oc26,od26,.func (PySem.W.fnOf "turned_at" "turned_at" (za zAd) (zR zAd) (zD zAd) .none kV26 dc26 pm26 an26 cd26 ct26),sl26⟩)
  (c26:PySem.W.codeIn K cd26 "turned_at"=true)
  (k26:PySem.W.keepIn K (.ref f26)=true)
  (a27:PySem.W.nsIn K mainGlobals "yes_or_no"=some (some (.ref f27)))
  (l27:K.lookup f27=some ⟨oc27,od27,.func (PySem.W.fnOf "yes_or_no" "yes_or_no" (za zAe) (zR zAe) (zD zAe) .none kV27 dc27 pm27 an27 cd27 ct27),sl27⟩)
  (c27:PySem.W.codeIn K cd27 "yes_or_no"=true)
  (k27:PySem.W.keepIn K (.ref f27)=true)
  (a28:PySem.W.findIn K (.ref aa) "__init__"=some (some (.ref f28)))
  (i28:PySem.W.isFn K (.ref f28)=true)
  (l28:K.lookup f28=some ⟨oc28,od28,.func (PySem.W.fnOf "__init__" "Desk.__init__" (za zAf) (zR zAf) (zD zAf) .none kV28 dc28 pm28 an28 cd28 ct28),sl28⟩)
  (c28:PySem.W.codeIn K cd28 "Desk.__init__"=true)
  (k28:PySem.W.keepIn K (.ref f28)=true)
  (a29:PySem.W.findIn K (.ref aa) "say"=some (some (.ref f29)))
  (i29:PySem.W.isFn K (.ref f29)=true)
  (l29:K.lookup f29=some ⟨oc29,od29,.func (PySem.W.fnOf "say" "Desk.say" (za zBK) (zR zBK) (zD zBK) .none kV29 dc29 pm29 an29 cd29 ct29),sl29⟩)
  (c29:PySem.W.codeIn K cd29 "Desk.say"=true)
  (k29:PySem.W.keepIn K (.ref f29)=true)
  (a30:PySem.W.findIn K (.ref aa) "looked_up"=some (some (.ref f30)))
  (i30:PySem.W.isFn K (.ref f30)=true)
  (l30:K.lookup f30=some ⟨oc30,od30,.func (PySem.W.fnOf "looked_up" "Desk.looked_up" (za wW) (zR wW) (zD wW) .none kV30 dc30 pm30 an30 cd30 ct30),sl30⟩)
  (c30:PySem.W.codeIn K cd30 "Desk.looked_up"=true)
  (k30:PySem.W.keepIn K (.ref f30)=true)
  (a31:PySem.W.findIn K (.ref aa) "keep"=some (some (.ref f31)))
  (i31:PySem.W.isFn K (.ref f31)=true)
  (l31:K.lookup f31=some ⟨oc31,od31,.func (PySem.W.fnOf "keep" "Desk.keep" (za zB2) (zR zB2) (zD zB2) .none kV31 dc31 pm31 an31 cd31 ct31),sl31⟩)
  (c31:PySem.W.codeIn K cd31 "Desk.keep"=true)
  (k31:PySem.W.keepIn K (.ref f31)=true)
  (a32:PySem.W.findIn K (.ref aa) "tell"=some (some (.ref f32)))
  (i32:PySem.W.isFn K (.ref f32)=true)
  (l32:K.lookup f32=some ⟨oc32,od32,.func (PySem.W.fnOf "tell" "Desk.tell" (za zC1) (zR zC1) (zD zC1) .none kV32 dc32 pm32 an32 cd32 ct32),sl32⟩)
  (c32:PySem.W.codeIn K cd32 "Desk.tell"=true)
  (k32:PySem.W.keepIn K (.ref f32)=true)
  (a33:PySem.W.nsIn K mainGlobals "_law_bad"=some (some (.ref f33)))
  (l33:K.lookup f33=some ⟨oc33,od33,.func (PySem.W.fnOf "_law_bad" "_law_bad" (za zBb) (zR zBb) (zD zBb) .none kV33 dc33 pm33 an33 cd33 ct33),sl33⟩)
  (c33:PySem.W.codeIn K cd33 "_law_bad"=true)
  (k33:PySem.W.keepIn K (.ref f33)=true)
  (a34:PySem.W.nsIn K mainGlobals "_law_due"=some (some (.ref f34)))
  (l34:K.lookup f34=some ⟨oc34,od34,.func (PySem.W.fnOf "_law_due" "_law_due" (za zBc) (zR zBc) (zD zBc) .none kV34 dc34 pm34 an34 cd34 ct34),sl34⟩)
  (c34:PySem.W.codeIn K cd34 "_law_due"=true)
  (k34:PySem.W.keepIn K (.ref f34)=true)
  (a35:PySem.W.nsIn K mainGlobals "_law_refused"=some (some (.ref f35)))
  (l35:K.lookup f35=some ⟨oc35,od35,.func (PySem.W.fnOf "_law_refused" "_law_refused" (za yf) (zR yf) (zD yf) .none kV35 dc35 pm35 an35 cd35 ct35),sl35⟩)
  (c35:PySem.W.codeIn K cd35 "_law_refused"=true)
  (k35:PySem.W.keepIn K (.ref f35)=true)
  (a36:PySem.W.nsIn K mainGlobals "law"=some (some (.ref f36)))
  (l36:K.lookup f36=some ⟨oc36,od36,.func (PySem.W.fnOf "law" "law" (za zCh) (zR zCh) (zD zCh) .none kV36 dc36 pm36 an36 cd36 ct36),sl36⟩)
  (c36:PySem.W.codeIn K cd36 "law"=true)
  (k36:PySem.W.keepIn K (.ref f36)=true)
  (cm:PySem.W.nsIn K mainGlobals "MOST_PLACES"=some (some (.int 9 bu)))
  (cK:PySem.W.nsIn K mainGlobals "LAST_PLACE"=some (some (.int 8 bB)))
  (cf:PySem.W.nsIn K mainGlobals "LONGEST_NAME"=some (some (.int 8 bP)))
  (cL:PySem.W.nsIn K mainGlobals "MOST_FOUND"=some (some (.int 7 cg)))
  (cq:PySem.W.nsIn K mainGlobals "MOST_BARRED"=some (some (.int 7 bW)))
  (cY:PySem.W.nsIn K mainGlobals "MOST_TOLD"=some (some (.int 5 cG)))
  (et:PySem.W.nsIn K mainGlobals "FIGURES"=some (some (.str "0123456789" dJ)))
  (eu:PySem.W.nsIn K mainGlobals "LETTERS"=some (some (.str "abcdefghijklmnopqrstuvwxyz" dL)))
  (ez:PySem.W.nsIn K mainGlobals "KEEPING"=some (some (.ref aA)))
  (aI:31#0)
  (eO:PySem.W.nsIn K mainGlobals "FORMS"=some (some (.ref aw)))
  (gq_FORMS:K.lookup aw=some ⟨.type "dict",none,.dict #[⟨hashStr w "web",.str "web" kt_FORMS0,.ref kr_FORMS0⟩,⟨hashStr w "ring",.str "ring" kt_FORMS1,.ref kr_FORMS1⟩,⟨hashStr w "webs",.str "webs" kt_FORMS2,.ref kr_FORMS2⟩,⟨hashStr w "rings",.str "rings" kt_FORMS3,.ref kr_FORMS3⟩,⟨hashStr w "show web",.str "show web" kt_FORMS4,.ref kr_FORMS4⟩,⟨hashStr w "show ring",.str "show ring" kt_FORMS5,.ref kr_FORMS5⟩,⟨hashStr w "of",.str "of" kt_FORMS6,.ref kr_FORMS6⟩,⟨hashStr w "found",.str "found" kt_FORMS7,.ref kr_FORMS7⟩,⟨hashStr w "tells",.str "tells" kt_FORMS8,.ref kr_FORMS8⟩,⟨hashStr w "all",.str "all" kt_FORMS9,.ref kr_FORMS9⟩,⟨hashStr w "turn",.str "turn" kt_FORMS10,.ref kr_FORMS10⟩,⟨hashStr w "least",.str "least" kt_FORMS11,.ref kr_FORMS11⟩,⟨hashStr w "splits",.str "splits" kt_FORMS12,.ref kr_FORMS12⟩,⟨hashStr w "bar",.str "bar" kt_FORMS13,.ref kr_FORMS13⟩] ep_FORMS,#[]⟩)
  (gm_FORMS:(aw==sysModules)=false)
  (gv_FORMS13:K.lookup kr_FORMS13=some ⟨.type "tuple",none,.seq #[.str "web" kv_FORMS13_0] kn_FORMS13,ks_FORMS13⟩)
  (gv_FORMS12:K.lookup kr_FORMS12=some ⟨.type "tuple",none,.seq #[.str "web" kv_FORMS12_0] kn_FORMS12,ks_FORMS12⟩)
  (gv_FORMS11:K.lookup kr_FORMS11=some ⟨.type "tuple",none,.seq #[.str "ring" kv_FORMS11_0] kn_FORMS11,ks_FORMS11⟩)
  (gv_FORMS10:K.lookup kr_FORMS10=some ⟨.type "tuple",none,.seq #[.str "web" kv_FORMS10_0,.str "place" kv_FORMS10_1,.str "new" kv_FORMS10_2] kn_FORMS10,ks_FORMS10⟩)
  (gv_FORMS9:K.lookup kr_FORMS9=some ⟨.type "tuple",none,.seq #[.str "web" kv_FORMS9_0] kn_FORMS9,ks_FORMS9⟩)
  (gv_FORMS8:K.lookup kr_FORMS8=some ⟨.type "tuple",none,.seq #[.str "ring" kv_FORMS8_0,.str "web" kv_FORMS8_1] kn_FORMS8,ks_FORMS8⟩)
  (gv_FORMS7:K.lookup kr_FORMS7=some ⟨.type "tuple",none,.seq #[.str "web" kv_FORMS7_0,.str "new" kv_FORMS7_1] kn_FORMS7,ks_FORMS7⟩)
  (gv_FORMS6:K.lookup kr_FORMS6=some ⟨.type "tuple",none,.seq #[.str "ring" kv_FORMS6_0,.str "new" kv_FORMS6_1] kn_FORMS6,ks_FORMS6⟩)
  (gv_FORMS5:K.lookup kr_FORMS5=some ⟨.type "tuple",none,.seq #[.str "ring" kv_FORMS5_0] kn_FORMS5,ks_FORMS5⟩)
  (gv_FORMS4:K.lookup kr_FORMS4=some ⟨.type "tuple",none,.seq #[.str "web" kv_FORMS4_0] kn_FORMS4,ks_FORMS4⟩)
  (gv_FORMS3:K.lookup kr_FORMS3=some ⟨.type "tuple",none,.seq #[] kn_FORMS3,ks_FORMS3⟩)
  (gv_FORMS2:K.lookup kr_FORMS2=some ⟨.type "tuple",none,.seq #[] kn_FORMS2,ks_FORMS2⟩)
  (gv_FORMS1:K.lookup kr_FORMS1=some ⟨.type "tuple",none,.seq #[.str "new" kv_FORMS1_0,.str "ring text" kv_FORMS1_1] kn_FORMS1,ks_FORMS1⟩)
  (gv_FORMS0:K.lookup kr_FORMS0=some ⟨.type "tuple",none,.seq #[.str "new" kv_FORMS0_0,.str "web text" kv_FORMS0_1] kn_FORMS0,ks_FORMS0⟩)
  (cM:PySem.W.nsIn K mainGlobals "isinstance"=some none)
  (fj:PySem.W.nsIn K mainGlobals "int"=some none)
  (eZ:PySem.W.nsIn K mainGlobals "bool"=some none)
  (fk:PySem.W.nsIn K mainGlobals "all"=some none)
  (eQ:PySem.W.nsIn K mainGlobals "range"=some none)
  (fm:PySem.W.nsIn K mainGlobals "len"=some none)
  (eR:PySem.W.nsIn K mainGlobals "tuple"=some none)
  (fq:PySem.W.nsIn K mainGlobals "str"=some none)
  (ft:PySem.W.nsIn K mainGlobals "zip"=some none)
  (eJ:PySem.W.nsIn K mainGlobals "sorted"=some none)
  (cN:PySem.W.nsIn K mainGlobals "ValueError"=some none)
  (cP:PySem.W.nsIn K mainGlobals "ChordError"=some (some (.ref aM)))
  (eA:PySem.W.nsIn K mainGlobals "TooMany"=some (some (.ref ae)))
  (eS:PySem.W.nsIn K mainGlobals "NoTie"=some (some (.ref bC)))
  (eD:PySem.W.nsIn K mainGlobals "NoSplit"=some (some (.ref aP)))
  (eK:PySem.W.nsIn K mainGlobals "NoName"=some (some (.ref ag)))
  (eE:PySem.W.nsIn K mainGlobals "BadNote"=some (some (.ref ac)))
  (cZ:PySem.W.excIn K ae bmV "ValueError.__new__"=true)
  (d7:(PySem.W.clsIn K ae).isSome=true)
  (d8:PySem.W.findIn K (.ref ae) "__getattribute__"=some (some (.builtin "BaseException.__getattribute__")))
  (d9:PySem.W.findIn K (.ref ae) "__getattr__"=some none)
  (da:PySem.W.findIn K (.ref ae) "__class__"=some (some 33#0))
  (db:PySem.W.specialIn K 33#0 "__get__"=some (some (.builtin "getset_descriptor.__get__")))
  (de:PySem.W.takesIn K 33#0=some true)
  (dg:PySem.W.mroIn K ae (.type "object")=some true)
  (dh:PySem.W.mroIn K ae (.type "BaseException")=some true)
  (cb:PySem.W.exmOne K (.ref ae) (.ref aM)=some true)
  (aT:PySem.W.kitOne K (.ref ae) (.ref ae)=some true)
  (br:PySem.W.kitOne K (.ref ae) (.ref bC)=some false)
  (aU:PySem.W.kitOne K (.ref ae) (.ref aP)=some false)
  (ba:PySem.W.kitOne K (.ref ae) (.ref ag)=some false)
  (aV:PySem.W.kitOne K (.ref ae) (.ref ac)=some false)
  (ce:PySem.W.kitOne K (.ref ae) (.type "ValueError")=some true)
  (dP:PySem.W.excIn K ag bmV "ValueError.__new__"=true)
  (dQ:(PySem.W.clsIn K ag).isSome=true)
  (dR:PySem.W.findIn K (.ref ag) "__getattribute__"=some (some (.builtin "BaseException.__getattribute__")))
  (dS:PySem.W.findIn K (.ref ag) "__getattr__"=some none)
  (dU:PySem.W.findIn K (.ref ag) "__class__"=some (some 33#0))
  (dW:PySem.W.specialIn K 33#0 "__get__"=some (some (.builtin "getset_descriptor.__get__")))
  (dX:PySem.W.takesIn K 33#0=some true)
  (dY:PySem.W.mroIn K ag (.type "object")=some true)
  (dZ:PySem.W.mroIn K ag (.type "BaseException")=some true)
  (cx:PySem.W.exmOne K (.ref ag) (.ref aM)=some true)
  (aY:PySem.W.kitOne K (.ref ag) (.ref ae)=some false)
  (bv:PySem.W.kitOne K (.ref ag) (.ref bC)=some false)
  (aZ:PySem.W.kitOne K (.ref ag) (.ref aP)=some false)
  (bq:PySem.W.kitOne K (.ref ag) (.ref ag)=some true)
  (b9:PySem.W.kitOne K (.ref ag) (.ref ac)=some false)
  (cy:PySem.W.kitOne K (.ref ag) (.type "ValueError")=some true)
  (di:PySem.W.excIn K ac bmV "ValueError.__new__"=true)
  (dj:(PySem.W.clsIn K ac).isSome=true)
  (dl:PySem.W.findIn K (.ref ac) "__getattribute__"=some (some (.builtin "BaseException.__getattribute__")))
  (dm:PySem.W.findIn K (.ref ac) "__getattr__"=some none)
  (dq:PySem.W.findIn K (.ref ac) "__class__"=some (some 33#0))
  (dA:PySem.W.specialIn K 33#0 "__get__"=some (some (.builtin "getset_descriptor.__get__")))
  (dB:PySem.W.takesIn K 33#0=some true)
  (dC:PySem.W.mroIn K ac (.type "object")=some true)
  (dD:PySem.W.mroIn K ac (.type "BaseException")=some true)
  (bZ:PySem.W.exmOne K (.ref ac) (.ref aM)=some true)
  (aQ:PySem.W.kitOne K (.ref ac) (.ref ae)=some false)
  (bp:PySem.W.kitOne K (.ref ac) (.ref bC)=some false)
  (aR:PySem.W.kitOne K (.ref ac) (.ref aP)=some false)
  (aX:PySem.W.kitOne K (.ref ac) (.ref ag)=some false)
  (aS:PySem.W.kitOne K (.ref ac) (.ref ac)=some true)
  (ca:PySem.W.kitOne K (.ref ac) (.type "ValueError")=some true)
  (zEA:PySem.W.tabIn K "law"=some (fh,fi))
  (fu:zDw K fh fi=true) :
  ∃ fd:FuncData,(∀(s:Shared) (v:Value),BindsTo s fd ⟨[v],[]⟩ [("script",v)])/\∀ base:Heap,K.In base->base.Ns mainGlobals mg->BMn base mg->zCm l.prog w K mg base CX0 10 fa fd ["script"] (lSp K zGt):=by
 have e:=hfa.symm.trans (PySem.W.mg_of X G a36);cases e;have bt:=PySem.W.mg_of X G cm;have bw:=PySem.W.mg_of X G cK;have bV:=PySem.W.mg_of X G cf;have cF:=PySem.W.mg_of X G cL;have ci:=PySem.W.mg_of X G cq;have cQ:=PySem.W.mg_of X G cY;have aW:=PySem.W.mg_of X G ez;have ed:=PySem.W.mg_of X G et;have ef:=PySem.W.mg_of X G eu;have ay:=PySem.W.mg_of X G eO;have gd_FORMS:zCf w K aw zY:=⟨⟨_,_,_,gq_FORMS,⟨rfl,rfl,rfl⟩,rfl,(.cons (ts:=[kv_FORMS0_0,kv_FORMS0_1]) gv_FORMS0 rfl rfl rfl rfl 11#0 (.cons (ts:=[kv_FORMS1_0,kv_FORMS1_1]) gv_FORMS1 rfl rfl rfl rfl 11#0 (.cons (ts:=[]) gv_FORMS2 rfl rfl rfl rfl 11#0 (.cons (ts:=[]) gv_FORMS3 rfl rfl rfl rfl 11#0 (.cons (ts:=[kv_FORMS4_0]) gv_FORMS4 rfl rfl rfl rfl 11#0 (.cons (ts:=[kv_FORMS5_0]) gv_FORMS5 rfl rfl rfl rfl 11#0 (.cons (ts:=[kv_FORMS6_0,kv_FORMS6_1]) gv_FORMS6 rfl rfl rfl rfl 11#0 (.cons (ts:=[kv_FORMS7_0,kv_FORMS7_1]) gv_FORMS7 rfl rfl rfl rfl 11#0 (.cons (ts:=[kv_FORMS8_0,kv_FORMS8_1]) gv_FORMS8 rfl rfl rfl rfl 11#0 (.cons (ts:=[kv_FORMS9_0]) gv_FORMS9 rfl rfl rfl rfl 11#0 (.cons (ts:=[kv_FORMS10_0,kv_FORMS10_1,kv_FORMS10_2]) gv_FORMS10 rfl rfl rfl rfl 11#0 (.cons (ts:=[kv_FORMS11_0]) gv_FORMS11 rfl rfl rfl rfl 11#0 (.cons (ts:=[kv_FORMS12_0]) gv_FORMS12 rfl rfl rfl rfl 11#0 (.cons (ts:=[kv_FORMS13_0]) gv_FORMS13 rfl rfl rfl rfl 11#0 .nil))))))))))))))⟩,by decide +kernel,gm_FORMS⟩
 have af:=PySem.W.mg_none_of X G cM;have eL:=PySem.W.mg_none_of X G fj;have eT:=PySem.W.mg_none_of X G eZ;have cu:=PySem.W.mg_none_of X G fk;have aL:=PySem.W.mg_none_of X G eQ;have am:=PySem.W.mg_none_of X G fm;have au:=PySem.W.mg_none_of X G eR;have bA:=PySem.W.mg_none_of X G fq;have bI:=PySem.W.mg_none_of X G ft;have bO:=PySem.W.mg_none_of X G eJ;have bf:=PySem.W.mg_none_of X G cN;have eX:=PySem.W.mg_of X G eY;have c_Desk:Cls K aa:=⟨cD0,cD1,cD2,cD3⟩
 refine⟨PySem.W.fnOf "law" "law" (za zCh) (zR zCh) (zD zCh) .none kV36 dc36 pm36 an36 cd36 ct36,fun s v=>.of_eq rfl,fun base kb u0 hBA=>?_⟩;have bH:=PySem.W.mg_of X G cP;have ao:=PySem.W.mg_of X G eA;have cD:=PySem.W.mg_of X G eS;have bJ:=PySem.W.mg_of X G eD;have bo:=PySem.W.mg_of X G eK;have ah:=PySem.W.mg_of X G eE;have ax:zAk K ae:=⟨cZ,d7,d8,d9,da,db,de,dg,dh⟩
 have bN:zAk K ag:=⟨dP,dQ,dR,dS,dU,dW,dX,dY,dZ⟩
 have ak:zAk K ac:=⟨di,dj,dl,dm,dq,dA,dB,dC,dD⟩
 have FR:=zd (st:=yf) l35 c35 k35;have mR:=PySem.W.mg_of X G a35;have bR:=FR.binds (ps:=["call"]) fun u0 u0 u0 u0 u0 u0 us hl=>us1 us hl fun u0=>rfl;have aN:Df l.prog w K mg base 1 "is_number" ["thing"] zw:=zH2 (zd (st:=zAa) l0 c0 k0) (PySem.W.mg_of X G a0) af eL eT;have cH:Df l.prog w K mg base 1 "is_rising" ["things"] zAQ:=zGY (zd (st:=wY) l1 c1 k1) (PySem.W.mg_of X G a1) cu aL am;have dM:Df l.prog w K mg base 1 "pairs_of" ["places"] (spL wS):=zJL (zd (st:=zA4) l3 c3 k3) (PySem.W.mg_of X G a3) aL am;have aK:Rz l.prog w K mg base 1 "refuse_more" ["many","most"] yQ ae:=zGJ (zd (st:=wd) l4 c4 k4) (PySem.W.mg_of X G a4)  ao ax;have eN:Df l.prog w K mg base 1 "cross" ["ring","one","other"] zCD:=zOn (zd (st:=zDP) l6 c6 k6) (PySem.W.mg_of X G a6) ;have dN:Df l.prog w K mg base 1 "tie_text" ["tie"] zAZ:=zJM (zd (st:=zAW) l14 c14 k14) (PySem.W.mg_of X G a14) bA;have bb:Df l.prog w K mg base 1 "ring_text" ["ring"] yc:=zH3 (zd (st:=zAF) l15 c15 k15) (PySem.W.mg_of X G a15) bA;have ar:Df l.prog w K mg base 1 "words_of" ["text"] (spL zb):=zJN (zd (st:=zAG) l19 c19 k19) (PySem.W.mg_of X G a19) af bA;have bg:Rz l.prog w K mg base 1 "words_of" ["text"] yd ac:=zJO (zd (st:=zAG) l19 c19 k19) (PySem.W.mg_of X G a19) af bA ah ak;have av:Df l.prog w K mg base 1 "figure" ["word"] zq:=zMW (zd (st:=zCH) l20 c20 k20) (PySem.W.mg_of X G a20) am eL ed;have bU:Df l.prog w K mg base 1 "is_name" ["word"] zAD:=zKQ (zd (st:=zA7) l25 c25 k25) (PySem.W.mg_of X G a25) am cu bV ef;have cR:Rz l.prog w K mg base 1 "turned_at" ["web","place"] zAB ac:=zH4 (zd (st:=zAd) l26 c26 k26) (PySem.W.mg_of X G a26)  ah ak;have bc:Df l.prog w K mg base 1 "yes_or_no" ["truth"] ym:=zH5 (zd (st:=zAe) l27 c27 k27) (PySem.W.mg_of X G a27) ;have cX:DfI l.prog w K mg base 1 aa (zAK aa):=zH6 (zd (st:=zAf) l28 c28 k28) ⟨mkD0,a28,i28,mkD1⟩ c_Desk aO aJ;have aH:DfM l.prog w K mg base 1 aa "looked_up" ["self","kind","thing"] (yD aa):=zH7 (zd (st:=wW) l30 c30 k30) ⟨a30,i30,k30⟩ c_Desk aO aJ;have cW:RzM l.prog w K mg base 1 aa "looked_up" ["self","kind","thing"] (zAE aa) ag:=zH8 (zd (st:=wW) l30 c30 k30) ⟨a30,i30,k30⟩ c_Desk aO aJ bo bN;have ej:Df l.prog w K mg base 1 "_law_bad" ["k"] zA2:=zKR (zd (st:=zBb) l33 c33 k33) (PySem.W.mg_of X G a33) am;have em:Df l.prog w K mg base 1 "_law_due" ["k"] zA3:=zKS (zd (st:=zBc) l34 c34 k34) (PySem.W.mg_of X G a34) am;have eM:Df l.prog w K mg base 2 "pairs" ["many"] (spL zBF):=zOo (zd (st:=zDO) l2 c2 k2) (PySem.W.mg_of X G a2) au aL dM;have bQ:Df l.prog w K mg base 2 "is_ring" ["thing"] wz:=zKT (zd (st:=zAb) l5 c5 k5) (PySem.W.mg_of X G a5) af au am cu aL bt aN;have eg:Df l.prog w K mg base 2 "is_tie" ["many","thing"] wv:=zKU (zd (st:=zBZ) l9 c9 k9) (PySem.W.mg_of X G a9) af au am aN;have eh:Rz l.prog w K mg base 2 "ring_of" ["web"] zAo ae:=zKV (zd (st:=zBa) l11 c11 k11) (PySem.W.mg_of X G a11) cF aK ao ax;have eI:Rz l.prog w K mg base 2 "bar_of" ["web"] zBH ae:=zMX (zd (st:=zCG) l12 c12 k12) (PySem.W.mg_of X G a12) ci aK ao ax;have bM:Df l.prog w K mg base 2 "web_text" ["web"] wU:=zJP (zd (st:=zAV) l13 c13 k13) (PySem.W.mg_of X G a13) bA dN;have bK:Df l.prog w K mg base 2 "tie_read" ["word"] wF:=zJQ (zd (st:=zA6) l17 c17 k17) (PySem.W.mg_of X G a17) av;have cT:Rz l.prog w K mg base 2 "all_rings" ["web"] zAC ae:=zH9 (zd (st:=zAc) l21 c21 k21) (PySem.W.mg_of X G a21) cQ aK ao ax;have bx:Df l.prog w K mg base 2 "place_read" ["word"] wK:=zGZ (zd (st:=wI) l24 c24 k24) (PySem.W.mg_of X G a24) bw av;have cI:Rz l.prog w K mg base 2 "place_read" ["word"] wD ac:=zGa (zd (st:=wI) l24 c24 k24) (PySem.W.mg_of X G a24) bw av ah ak;have cw:Df l.prog w K mg base 3 "web_of" ["ring"] zA0:=zMY (zd (st:=zBh) l7 c7 k7) (PySem.W.mg_of X G a7) am au eM eN;have bS:Df l.prog w K mg base 3 "is_web" ["thing"] ww:=zKW (zd (st:=zA5) l8 c8 k8) (PySem.W.mg_of X G a8) af au am cu bt aN eg cH;have bD:Df l.prog w K mg base 3 "ring_read" ["text"] wX:=zIA (zd (st:=yp) l18 c18 k18) (PySem.W.mg_of X G a18) au ar av bQ;have cS:Rz l.prog w K mg base 3 "ring_read" ["text"] wP ac:=zIB (zd (st:=yp) l18 c18 k18) (PySem.W.mg_of X G a18) au bQ ar av bg ah ak;have dI:Df l.prog w K mg base 4 "tells" ["ring","web"] zAp:=zOp (zd (st:=zDQ) l10 c10 k10) (PySem.W.mg_of X G a10) cw;have bL:Df l.prog w K mg base 4 "web_read" ["text"] zAA:=zJR (zd (st:=wL) l16 c16 k16) (PySem.W.mg_of X G a16) am au ar av bK bS;have dO:Rz l.prog w K mg base 4 "web_read" ["text"] wc ac:=zJS (zd (st:=wL) l16 c16 k16) (PySem.W.mg_of X G a16) am au bS av bK ar bg ah ak;have eU:DfM l.prog w K mg base 4 aa "keep" ["self","head","given"] (zD4 aa):=zQf (zd (st:=zB2) l31 c31 k31) ⟨a31,i31,k31⟩ c_Desk aO aJ cw;have bX:RzM l.prog w K mg base 4 aa "keep" ["self","head","given"] (wG aa) ac:=zE5 (zd (st:=zB2) l31 c31 k31) ⟨a31,i31,k31⟩ cR ah ak;have bY:RzM l.prog w K mg base 4 aa "keep" ["self","head","given"] (wH aa) ae:=zE6 (zd (st:=zB2) l31 c31 k31) ⟨a31,i31,k31⟩ eh ao ax;have bF:Df l.prog w K mg base 5 "word_read" ["kind","word"] yT:=zIC (zd (st:=wV) l23 c23 k23) (PySem.W.mg_of X G a23) bL bD bx bU;have cU:Rz l.prog w K mg base 5 "word_read" ["kind","word"] ye ac:=zID (zd (st:=wV) l23 c23 k23) (PySem.W.mg_of X G a23) bU bx bD bL dO cS cI ah ak;have eV:DfM l.prog w K mg base 5 aa "tell" ["self","head","given"] (zD7 aa):=zQg (zd (st:=zC1) l32 c32 k32) ⟨a32,i32,k32⟩ bO bA am c_Desk aO aJ bM bb dI bc;have eW:RzM l.prog w K mg base 5 aa "tell" ["self","head","given"] (zCF aa) ae:=zQh (zd (st:=zC1) l32 c32 k32) ⟨a32,i32,k32⟩ am bA bO c_Desk aO aJ bc bb dI bM cT eI ao ax;have aG:Df l.prog w K mg base 6 "line_read" ["line"] yN:=zIE (zd (st:=yq) l22 c22 k22) (PySem.W.mg_of X G a22) am bI ay gd_FORMS ar bF;have cV:Rz l.prog w K mg base 6 "line_read" ["line"] wQ ac:=zIF (zd (st:=yq) l22 c22 k22) (PySem.W.mg_of X G a22) am bI ay gd_FORMS bF ar bg cU ah ak;have eF:DfM l.prog w K mg base 7 aa "say" ["self","line"] (yw aa):=zSz (zd (st:=zBK) l29 c29 k29) ⟨a29,i29,k29⟩ bI aW aI ay gd_FORMS c_Desk aG aH eU eV;have cj:RzM l.prog w K mg base 7 aa "say" ["self","line"] (zu aa) ac:=zGK (zd (st:=zBK) l29 c29 k29) ⟨a29,i29,k29⟩ bI aW aI ay gd_FORMS c_Desk aH aG cV bX ah ak;have cJ:RzM l.prog w K mg base 7 aa "say" ["self","line"] (yJ aa) ag:=zGb (zd (st:=zBK) l29 c29 k29) ⟨a29,i29,k29⟩ bI aW aI ay gd_FORMS c_Desk aH aG cW bo bN;have ck:RzM l.prog w K mg base 7 aa "say" ["self","line"] (yB aa) ae:=zGL (zd (st:=zBK) l29 c29 k29) ⟨a29,i29,k29⟩ bI aW aI ay gd_FORMS c_Desk aH aG bY eW ao ax;exact zS0 (zd (st:=zCh) l36 c36 k36) af bf aL c_Desk eX cX eF ej em bH ao cD bJ bo ah FR mR bR (zNg zEA a36 l36) (zGx kb fu).1 hBA zEA ak bZ aQ bp aR aX aS ca cj bN cx aY bv aZ bq b9 cy cJ ax cb aT br aU ba aV ce ck 
end K
open PySem PySem.W PyProof.Rows
set_option maxRecDepth 100000 in
set_option maxHeartbeats 0 in
theorem PySem.Challenge.cw_chordwebs_k94_desk_refuses_holds : PySem.Challenge.rw_chordwebs_k94_desk_refuses.Holds := by
 w_on;o_law
 refine holds_open (q:=K.kq) (d:=?d) (kwd:=?kw) (XP:=XL K.kq []) (YP:=(kmHook K.kf K.ka K.ke [513]).says) K.hl ?h1 ?h2 ?h3 XL.keeps ?h4 ?h5 ?h6 ?h7 ?h8 ?h9 ?h10 ?h11 ?hw ?hc
 (case h1=>exact(kmHook K.kf K.ka K.ke [513]).of)
 (case h2=>exact(kmHook K.kf K.ka K.ke [513]).keeps)
 (case h3=>intro s e;exact xl_of s (Bool.and_eq_true_iff.mp e).1)
 (case h4=>rfl)
 (case h5=>rfl)
 (case h6=>rfl)
 (case h7=>intro s e;exact recFacts_of (Bool.and_eq_true_iff.mp e).2)
 (case h8=>rfl)
 (case h9=>assumption)
 (case h10=>decide +kernel)
 (case h11=>exact⟨rfl,rfl,rfl,rfl,rfl,by decide +kernel⟩)
 (case hw=>w_witness2)
 k_fill
 refine L3.zL7 (l:=PySem.Challenge.rw_chordwebs_k94_desk_refuses) (k:=10) rfl rfl ⟨rfl,by decide,by decide⟩ ?T ?F
 case T =>
  intro w;refine' L2.zTm (x:="law") ⟨_,_,?e1,?e2,?e3⟩ ?hy ?ho
  (case e1=>rfl)
  (case e2=>rfl)
  (case e3=>rfl)
  (case hy=>intro y hy;unfold L2.zCI at hy;simp only[fS,gw,or_false] at hy;first | (subst hy;first | exact Or.inl rfl | exact Or.inr (Or.inl rfl) | exact Or.inr rfl | exact Or.inr (Or.inr rfl)) | (rcases hy with rfl | rfl<;>first | exact Or.inl rfl | exact Or.inr (Or.inl rfl) | exact Or.inr rfl | exact Or.inr (Or.inr rfl)))
  (case ho=>decide)
 case F =>
  intro w mg fa h KX G hmg;refine' K.zS1 KX G hmg ?eY ?cD0 ?cD1 ?cD2 ?cD3 ?aO ?aJ ?mkD0 ?mkD1 ?a0 ?l0 ?c0 ?k0 ?a1 ?l1 ?c1 ?k1 ?a2 ?l2 ?c2 ?k2 ?a3 ?l3 ?c3 ?k3 ?a4 ?l4 ?c4 ?k4 ?a5 ?l5 ?c5 ?k5 ?a6 ?l6 ?c6 ?k6 ?a7 ?l7 ?c7 ?k7 ?a8 ?l8 ?c8 ?k8 ?a9 ?l9 ?c9 ?k9 ?a10 ?l10 ?c10 ?k10 ?a11 ?l11 ?c11 ?k11 ?a12 ?l12 ?c12 ?k12 ?a13 ?l13 ?c13 ?k13 ?a14 ?l14 ?c14 ?k14 ?a15 ?l15 ?c15 ?k15 ?a16 ?l16 ?c16 ?k16 ?a17 ?l17 ?c17 ?k17 ?a18 ?l18 ?c18 ?k18 ?a19 ?l19 ?c19 ?k19 ?a20 ?l20 ?c20 ?k20 ?a21 ?l21 ?c21 ?k21 ?a22 ?l22 ?c22 ?k22 ?a23 ?l23 ?c23 ?k23 ?a24 ?l24 ?c24 ?k24 ?a25 ?l25 ?c25 ?k25 ?a26 ?l26 ?c26 ?k26 ?a27 ?l27 ?c27 ?k27 ?a28 ?i28 ?l28 ?c28 ?k28 ?a29 ?i29 ?l29 ?c29 ?k29 ?a30 ?i30 ?l30 ?c30 ?k30 ?a31 ?i31 ?l31 ?c31 ?k31 ?a32 ?i32 ?l32 ?c32 ?k32 ?a33 ?l33 ?c33 ?k33 ?a34 ?l34 ?c34 ?k34 ?a35 ?l35 ?c35 ?k35 ?a36 ?l36 ?c36 ?k36 ?cm ?cK ?cf ?cL ?cq ?cY ?et ?eu ?ez ?aI ?eO ?gq_FORMS ?gm_FORMS ?gv_FORMS13 ?gv_FORMS12 ?gv_FORMS11 ?gv_FORMS10 ?gv_FORMS9 ?gv_FORMS8 ?gv_FORMS7 ?gv_FORMS6 ?gv_FORMS5 ?gv_FORMS4 ?gv_FORMS3 ?gv_FORMS2 ?gv_FORMS1 ?gv_FORMS0 ?cM ?fj ?eZ ?fk ?eQ ?fm ?eR ?fq ?ft ?eJ ?cN ?cP ?eA ?eS ?eD ?eK ?eE ?cZ ?d7 ?d8 ?d9 ?da ?db ?de ?dg ?dh ?cb ?aT ?br ?aU ?ba ?aV ?ce ?dP ?dQ ?dR ?dS ?dU ?dW ?dX ?dY ?dZ ?cx ?aY ?bv ?aZ ?bq ?b9 ?cy ?di ?dj ?dl ?dm ?dq ?dA ?dB ?dC ?dD ?bZ ?aQ ?bp ?aR ?aX ?aS ?ca ?zEA ?fu
  (case eY=>k_is)
  (case cD0=>first | kernel_rfl | k_is)
  (case cD1=>first | kernel_rfl | k_is)
  (case cD2=>first | kernel_rfl | k_is)
  (case cD3=>first | kernel_rfl | k_is)
  (case aO=>first | kernel_rfl | k_is)
  (case aJ=>first | kernel_rfl | k_is)
  (case mkD0=>first | kernel_rfl | k_is)
  (case mkD1=>first | kernel_rfl | k_is)
  (case a0=>k_is)
  (case l0=>k_is)
  (case c0=>k_is)
  (case k0=>k_is)
  (case a1=>k_is)
  (case l1=>k_is)
  (case c1=>k_is)
  (case k1=>k_is)
  (case a2=>k_is)
  (case l2=>k_is)
  (case c2=>k_is)
  (case k2=>k_is)
  (case a3=>k_is)
  (case l3=>k_is)
  (case c3=>k_is)
  (case k3=>k_is)
  (case a4=>k_is)
  (case l4=>k_is)
  (case c4=>k_is)
  (case k4=>k_is)
  (case a5=>k_is)
  (case l5=>k_is)
  (case c5=>k_is)
  (case k5=>k_is)
  (case a6=>k_is)
  (case l6=>k_is)
  (case c6=>k_is)
  (case k6=>k_is)
  (case a7=>k_is)
  (case l7=>k_is)
  (case c7=>k_is)
  (case k7=>k_is)
  (case a8=>k_is)
  (case l8=>k_is)
  (case c8=>k_is)
  (case k8=>k_is)
  (case a9=>k_is)
  (case l9=>k_is)
  (case c9=>k_is)
  (case k9=>k_is)
  (case a10=>k_is)
  (case l10=>k_is)
  (case c10=>k_is)
  (case k10=>k_is)
  (case a11=>k_is)
  (case l11=>k_is)
  (case c11=>k_is)
  (case k11=>k_is)
  (case a12=>k_is)
  (case l12=>k_is)
  (case c12=>k_is)
  (case k12=>k_is)
  (case a13=>k_is)
  (case l13=>k_is)
  (case c13=>k_is)
  (case k13=>k_is)
  (case a14=>k_is)
  (case l14=>k_is)
  (case c14=>k_is)
  (case k14=>k_is)
  (case a15=>k_is)
  (case l15=>k_is)
  (case c15=>k_is)
  (case k15=>k_is)
  (case a16=>k_is)
  (case l16=>k_is)
  (case c16=>k_is)
  (case k16=>k_is)
  (case a17=>k_is)
  (case l17=>k_is)
  (case c17=>k_is)
  (case k17=>k_is)
  (case a18=>k_is)
  (case l18=>k_is)
  (case c18=>k_is)
  (case k18=>k_is)
  (case a19=>k_is)
  (case l19=>k_is)
  (case c19=>k_is)
  (case k19=>k_is)
  (case a20=>k_is)
  (case l20=>k_is)
  (case c20=>k_is)
  (case k20=>k_is)
  (case a21=>k_is)
  (case l21=>k_is)
  (case c21=>k_is)
  (case k21=>k_is)
  (case a22=>k_is)
  (case l22=>k_is)
  (case c22=>k_is)
  (case k22=>k_is)
  (case a23=>k_is)
  (case l23=>k_is)
  (case c23=>k_is)
  (case k23=>k_is)
  (case a24=>k_is)
  (case l24=>k_is)
  (case c24=>k_is)
  (case k24=>k_is)
  (case a25=>k_is)
  (case l25=>k_is)
  (case c25=>k_is)
  (case k25=>k_is)
  (case a26=>k_is)
  (case l26=>k_is)
  (case c26=>k_is)
  (case k26=>k_is)
  (case a27=>k_is)
  (case l27=>k_is)
  (case c27=>k_is)
  (case k27=>k_is)
  (case a28=>first | rfl | k_is)
  (case i28=>first | kernel_rfl | k_is)
  (case l28=>k_is)
  (case c28=>k_is)
  (case k28=>k_is)
  (case a29=>first | rfl | k_is)
  (case i29=>first | kernel_rfl | k_is)
  (case l29=>k_is)
  (case c29=>k_is)
  (case k29=>k_is)
  (case a30=>first | rfl | k_is)
  (case i30=>first | kernel_rfl | k_is)
  (case l30=>k_is)
  (case c30=>k_is)
  (case k30=>k_is)
  (case a31=>first | rfl | k_is)
  (case i31=>first | kernel_rfl | k_is)
  (case l31=>k_is)
  (case c31=>k_is)
  (case k31=>k_is)
  (case a32=>first | rfl | k_is)
  (case i32=>first | kernel_rfl | k_is)
  (case l32=>k_is)
  (case c32=>k_is)
  (case k32=>k_is)
  (case a33=>k_is)
  (case l33=>k_is)
  (case c33=>k_is)
  (case k33=>k_is)
  (case a34=>k_is)
  (case l34=>k_is)
  (case c34=>k_is)
  (case k34=>k_is)
  (case a35=>k_is)
  (case l35=>k_is)
  (case c35=>k_is)
  (case k35=>k_is)
  (case a36=>k_is)
  (case l36=>k_is)
  (case c36=>k_is)
  (case k36=>k_is)
  (case cm=>k_is)
  (case cK=>k_is)
  (case cf=>k_is)
  (case cL=>k_is)
  (case cq=>k_is)
  (case cY=>k_is)
  (case et=>k_is)
  (case eu=>k_is)
  (case ez=>k_is)
  (case aI=>k_is)
  (case eO=>k_is)
  (case gq_FORMS=>first | k_is | kernel_rfl)
  (case gm_FORMS=>first | rfl | kernel_rfl)
  (case gv_FORMS13=>k_is)
  (case gv_FORMS12=>k_is)
  (case gv_FORMS11=>k_is)
  (case gv_FORMS10=>k_is)
  (case gv_FORMS9=>k_is)
  (case gv_FORMS8=>k_is)
  (case gv_FORMS7=>k_is)
  (case gv_FORMS6=>k_is)
  (case gv_FORMS5=>k_is)
  (case gv_FORMS4=>k_is)
  (case gv_FORMS3=>k_is)
  (case gv_FORMS2=>k_is)
  (case gv_FORMS1=>k_is)
  (case gv_FORMS0=>k_is)
  (case cM=>k_is)
  (case fj=>k_is)
  (case eZ=>k_is)
  (case fk=>k_is)
  (case eQ=>k_is)
  (case fm=>k_is)
  (case eR=>k_is)
  (case fq=>k_is)
  (case ft=>k_is)
  (case eJ=>k_is)
  (case cN=>k_is)
  (case cP=>k_is)
  (case eA=>k_is)
  (case eS=>k_is)
  (case eD=>k_is)
  (case eK=>k_is)
  (case eE=>k_is)
  (case cZ=>first | kernel_rfl | k_is)
  (case d7=>first | kernel_rfl | k_is)
  (case d8=>first | kernel_rfl | k_is)
  (case d9=>first | kernel_rfl | k_is)
  (case da=>first | kernel_rfl | k_is)
  (case db=>first | kernel_rfl | k_is)
  (case de=>first | kernel_rfl | k_is)
  (case dg=>first | kernel_rfl | k_is)
  (case dh=>first | kernel_rfl | k_is)
  (case cb=>first | kernel_rfl | k_is)
  (case aT=>first | kernel_rfl | k_is)
  (case br=>first | kernel_rfl | k_is)
  (case aU=>first | kernel_rfl | k_is)
  (case ba=>first | kernel_rfl | k_is)
  (case aV=>first | kernel_rfl | k_is)
  (case ce=>first | kernel_rfl | k_is)
  (case dP=>first | kernel_rfl | k_is)
  (case dQ=>first | kernel_rfl | k_is)
  (case dR=>first | kernel_rfl | k_is)
  (case dS=>first | kernel_rfl | k_is)
  (case dU=>first | kernel_rfl | k_is)
  (case dW=>first | kernel_rfl | k_is)
  (case dX=>first | kernel_rfl | k_is)
  (case dY=>first | kernel_rfl | k_is)
  (case dZ=>first | kernel_rfl | k_is)
  (case cx=>first | kernel_rfl | k_is)
  (case aY=>first | kernel_rfl | k_is)
  (case bv=>first | kernel_rfl | k_is)
  (case aZ=>first | kernel_rfl | k_is)
  (case bq=>first | kernel_rfl | k_is)
  (case b9=>first | kernel_rfl | k_is)
  (case cy=>first | kernel_rfl | k_is)
  (case di=>first | kernel_rfl | k_is)
  (case dj=>first | kernel_rfl | k_is)
  (case dl=>first | kernel_rfl | k_is)
  (case dm=>first | kernel_rfl | k_is)
  (case dq=>first | kernel_rfl | k_is)
  (case dA=>first | kernel_rfl | k_is)
  (case dB=>first | kernel_rfl | k_is)
  (case dC=>first | kernel_rfl | k_is)
  (case dD=>first | kernel_rfl | k_is)
  (case bZ=>first | kernel_rfl | k_is)
  (case aQ=>first | kernel_rfl | k_is)
  (case bp=>first | kernel_rfl | k_is)
  (case aR=>first | kernel_rfl | k_is)
  (case aX=>first | kernel_rfl | k_is)
  (case aS=>first | kernel_rfl | k_is)
  (case ca=>first | kernel_rfl | k_is)
  (case zEA=>rfl)
  (case fu=>rfl)
#print axioms PySem.Challenge.cw_chordwebs_k94_desk_refuses_holds
