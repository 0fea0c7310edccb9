import PyProof.Rows.All
import Wide.All
import OpenK.AllK
import Wide.FinOn
import Lean
import PyProof.EqAt
import PyProof.EqKinds
import PyProof.TupleCall
import PyProof.NeKinds
import KE.KRevIter
import PyProof.Rows.Range3
import PyProof.ZipIter
import PyProof.Rows.SortRunsK
import PyProof.Rows.SortShell
import PyProof.Rows.IntRules
import PyProof.Dict
import PyProof.Conv_int_bool
import PyProof.Rows.DictRows
import PyProof.DictTable
import PyProof.SetKind
import PyProof.Rows.SetFrom
import PyProof.Rows.SortPure
import PyProof.FactsAll.set_1
import PyProof.SetRoads
import PyProof.Walks
import PyProof.CollectWalk
import PyProof.ListRange
import PyProof.TupleKey
import PyProof.IsRules
import PyProof.WalksMore
import PyProof.EnumStmt
import PyProof.Rows.EnumRows
import PyProof.SeqI3
import PyProof.Rows.RuleN_abs
import PySem.Challenge.RW_chordwebs_k45_whole_splits
set_option Elab.async false
set_option linter.all false
set_option maxRecDepth 100000
set_option bootstrap.genMatcherCode false
set_option genSizeOf false
set_option compiler.extract_closed false
set_option genInjectivity false
local macro_rules | `(tactic| omega) => `(tactic| lia)
set_option hygiene false
local macro_rules
| `(1#0)=>`(⟨rfl,rfl,rfl,by decide +kernel,rfl,by decide +kernel,by decide +kernel⟩)
| `(2#0)=>`((by omega))
| `(3#0)=>`((autoParam (starEach [e] X.env=(false,eval e X.env)::starEach [] X.env) Zq4._auto_1))
| `(4#0)=>`((Nat×Nat->Bool))
| `(5#0)=>`((F.binds fun u0 u0 u0 u0 u0 u0 us hl=>us2 us hl fun u0 u0=>rfl))
| `(6#0)=>`((autoParam ((backTo pos (starEach [] X.env)).any (·.1)=false) Zq4._auto_1))
| `(7#0)=>`((fun cdv A outer s H E hr=>?_))
| `(8#0)=>`((by decide))
| `(9#0)=>`((autoParam ((x==("__debug__":Str))=false) Zq2._auto_1))
| `(10#0)=>`((by decide +kernel))
| `(11#0)=>`((Value->Shared->Prop))
| `(12#0)=>`((xC (.int 1)))
| `(13#0)=>`((autoParam (starEach (e::es) X.env=(false,eval e X.env)::starEach es X.env) Zq4._auto_1))
| `(14#0)=>`((List Nat))
| `(15#0)=>`((xC (.int 0)))
| `(16#0)=>`((model prog w))
| `(17#0)=>`((autoParam (∀ x,foldedSetIterable iter X.env x=pure x) Zq3._auto_1))
| `(18#0)=>`((PySem.W.Frag))
| `(19#0)=>`((k==NameKind.free&&env.scope.kind==.function&&env.kindOf n==some .cell))
| `(20#0)=>`((yb fun i j=>.int (i-j)))
| `(21#0)=>`((zb X pins σ H s))
| `(22#0)=>`((model X.prog X.w))
| `(23#0)=>`((((s.heap.push 52#0).update s.heap.objs.size 57#0).push 39#0))
| `(24#0)=>`((by simp))
| `(25#0)=>`((yb fun i j=>.bl (decide (i<j))))
| `(26#0)=>`((F.binds fun u0 u0 u0 u0 u0 u0 us hl=>us1 us hl fun u0=>rfl))
| `(27#0)=>`((List (Addr×Obj)))
| `(28#0)=>`((List (List Int)))
| `(29#0)=>`((.ListComp elt [⟨tg,iter,ifs,0⟩] sc pos))
| `(30#0)=>`((zA (zB 1) zG))
| `(31#0)=>`((List Value))
| `(32#0)=>`((∀ b o,s.heap.get? b=some o->h'.get? b=some o))
| `(33#0)=>`(((yL n1 q1).map yC++((yL n2 q2).map fun p=>37#0).map yC))
| `(34#0)=>`((autoParam (X.fn x=true\/X.env.scope.names.lookup x=some .local) Zq1._auto_1))
| `(35#0)=>`((by unfold zX;rfl))
| `(36#0)=>`((.ref s.heap.objs.size))
| `(37#0)=>`((p.1+(n1-1),p.2+(n1-1)))
| `(38#0)=>`((autoParam ((backTo pos (starEach es X.env)).any (·.1)=false) Zq4._auto_1))
| `(39#0)=>`((seqObj "list" vs.toArray 0))
| `(40#0)=>`((Array (Int×Value)))
local macro_rules
| `(41#0)=>`((zF (zE rfl) 51#0))
| `(42#0)=>`((F.binds fun u0 u0 u0 u0 u0 u0 us hl=>us3 us hl fun u0 u0 u0=>rfl))
| `(43#0)=>`((k==NameKind.free&&X.env.scope.kind==.function&&X.env.kindOf n==some .cell))
| `(44#0)=>`((zI zu (zA (zB 0) zG)))
| `(45#0)=>`((.tup ((rgN i A B C).map nD)))
| `(46#0)=>`((.ListComp elt [⟨.Name x px,iter,ifs,0⟩] sc pos))
| `(47#0)=>`((zD (zC 1) zH))
| `(48#0)=>`(([e].length+([]:List Keyword).length+(if ([]:List Keyword).isEmpty then 0 else 1)<30))
| `(49#0)=>`((if eE t.dummies j then cD t.dummies (cu t.dummies j) else t.dummies))
| `(50#0)=>`((((wZ items.size 0 lo:Nat):Int)==0&&(1:Int)==1&&(wZ items.size items.size hi-wZ items.size 0 lo)==items.size))
| `(51#0)=>`((zF (zE rfl) zL))
| `(52#0)=>`((seqObj "list" #[] 0))
| `(53#0)=>`((codeAny_call_builtin (R:=wants (fun r z2=>r=.none/\∃ h' tk kys,z2={ s with heap:=h',toks:=tk }/\ST prog w P h' s.heap.objs.size kys/\kys.length<=its.size/\(∀ x,x∈kys↔∃ m,m<its.size/\val m=x)/\Kp s.heap h') E) F.called_set.init.plain F.entry_set_init (check_set_init_1 hT ?_)))
| `(54#0)=>`((yZ zEh fun i j=>.int (i / j)))
| `(55#0)=>`((∀ b∈ch,(b∈X.ex\/X.s₀.heap.objs.size<=b)/\b≠X.env.locals/\(∀ x c,X.env.cells.lookup x=some c->c≠b)/\∀ p∈X.pn++pins,p.1≠b))
| `(56#0)=>`((fun a b=>ltI b a=false))
| `(57#0)=>`((Obj.mapSeq (·++vs.toArray)))
| `(58#0)=>`((autoParam (x≠"__name__") Zq2._auto_1))
| `(59#0)=>`(((bY (min its.toArray.size its'.toArray.size)).all (fun j=>wx (ds.getD j .non) (ds'.getD j .non))&&its.toArray.size==its'.toArray.size))
| `(60#0)=>`((yP n ps))
| `(61#0)=>`((zBC fun u0 u0=>⟨rfl,rfl⟩))
| `(62#0)=>`(⟨σ,G,_,r,q,fun d G1 q1 v H1 g1 r1 d1=>?_⟩)
| `(63#0)=>`((X.comp (N0++own) sc C s H fp pins))
| `(64#0)=>`(((os.take k).filter (yA q p)))
| `(65#0)=>`((fun u0 u0 u0 u0 u0=>zAS))
| `(66#0)=>`((autoParam (starEach [a] X.env=[(false,eval a X.env)]) Zq4._auto_1))
| `(67#0)=>`((fun(x:Str×NameKind) (r:List (Str×Addr))=>(match x with | (name,kind)=>if (kind==NameKind.free)=true then (do let a <-cellOf env name;pure (ForInStep.yield ((name,a)::r))) else pure (ForInStep.yield r):Sem (ForInStep (List (Str×Addr))))))
| `(68#0)=>`((hT prog w ns))
| `(69#0)=>`((.keep (.keep (.keep (.keep (.skip .nil))))))
| `(70#0)=>`((yZ zDd fun i j=>.int (i*2 ^ j.toNat)))
| `(71#0)=>`((yv rfl aa (zD (zC 0) zH)))
| `(72#0)=>`((by rw[in1_units];omega))
| `(73#0)=>`((zA (zB 2) zG))
| `(74#0)=>`((wY H1 s₂.heap.objs.size (.lst [])))
| `(75#0)=>`((if (if c<(ns.length:Int) then c else ns.length)>1 then (if c<(ns.length:Int) then c else (ns.length:Int)) else 1))
| `(76#0)=>`((xC (.int 2)))
| `(77#0)=>`((zo (zC 0) zN))
| `(78#0)=>`((Str->Option Value))
| `(79#0)=>`((X.calm=true))
| `(80#0)=>`((fun d=>match d with | .tup [.int a,.int b]=>p (a.toNat,b.toNat) | _=>false))
local macro_rules
| `(81#0)=>`((X.comp (N0++[x]) sc C s H fp pins))
| `(82#0)=>`((yZ (fun u0 j=>0<j) fun i j=>.int (i%j)))
| `(83#0)=>`((fun d=>match d with | .tup [.int a,.int b]=>f (a.toNat,b.toNat) | _=>.non))
| `(84#0)=>`((σ++cw own.length none))
| `(85#0)=>`((autoParam ((x==("__classdict__":Str))=false) Zq2._auto_1))
| `(86#0)=>`((zHQ (X':=X') (Z:=fun H' s'=>zb X pins σ H' s'/\zCY X pins H' h3.objs.size/\∃ m,s'.heap.Ns h3.objs.size m) hc (fun u0 u0 z=>z) Tn (hg _ _ _ _ _) (ht _ _ _ _ _) (he _ _ _ _ _) turn fpX back I4 st4 fpD w0))
| `(87#0)=>`((∀(cdv:Value) (A:Around) (outer:List Env) (s:Shared) (H:Hp) (E:XK),wL k (A.deeper (envOfC qual (zJ st) s.heap.objs.size f cdv))->Ps2 (zIC CX0 P w K mg base N qual (zJ st) f cdv A outer s H E).nox (wo st) t))
| `(88#0)=>`((by have:=hr.units;omega))
| `(89#0)=>`((.Call (.Name "set" p2) [.Name x p3] [] pos2))
| `(90#0)=>`((.tup [.tup (B.map nD),.tup ((C++A).map nD)]))
| `(91#0)=>`((yb fun i j=>.bl (decide (i<=j))))
| `(92#0)=>`((autoParam ((apos.endLine==cpos.line)=true) Zq4._auto_1))
| `(93#0)=>`((by rw[<-hσ];rfl))
| `(94#0)=>`((fun A R s=>s.heap.get? l=some { cls:=.type "tuple",dict:=dd,data:=.seq items n,slots:=sl }/\(∀ y,y∈items->SeqAt.EqAt A.in1 s y x (e y))/\R (.ok (.ret (.int j s.toks))) { s with toks:=s.toks+1 }))
| `(95#0)=>`((∀ ls G',R ls G'->R' ls G'))
| `(96#0)=>`((List Int))
| `(97#0)=>`((xB (zI wB (zA (zB 0) (zA (zB 1) 99#0)))))
| `(98#0)=>`((List D->Gp->Prop))
| `(99#0)=>`((zA (zB 3) zG))
| `(100#0)=>`((.tup (r.map nD)))
| `(101#0)=>`((mg "tuple"=none))
| `(102#0)=>`((Df P w K mg base 1 "_law_take" ["state","many"] zy))
| `(103#0)=>`((fun r s'=>r=.ok (.ret (.bool true))/\OldK s₁.heap s'.heap/\s'.os=s₁.os/\AllBare s'.gens))
| `(104#0)=>`((.Call (.Name x p) (e::es) [] pos))
| `(105#0)=>`((fun d=>match d with | .int b=>yC (a,b.toNat+(n1-1)) | _=>.non))
| `(106#0)=>`((if ng then !ds.any fun z=>wx z x else ds.any fun z=>wx z x))
| `(107#0)=>`((X.compC z (N0++own) sc C s H fp pins))
| `(108#0)=>`((autoParam (X.N[i]?=some x) Zq4._auto_1))
| `(109#0)=>`((TK prog w P s.heap ns b))
| `(110#0)=>`((mg "range"=none))
| `(111#0)=>`((fun d=>match d with | .int v=>nD (2 ^ v.toNat) | _=>.non))
| `(112#0)=>`((fun r s'=>∃ D H' m,r=.ok .next/\Value.ref s₂.heap.objs.size=.ref D/\zb X pins σ H' s'/\zCY X pins H' h3.objs.size/\s'.heap.Ns h3.objs.size m/\Q (.ref D) H'))
| `(113#0)=>`((.keep (.keep (.skip (.skip (.skip .nil))))))
| `(114#0)=>`((fun d=>match d with | .int v=>yA q i v.toNat | _=>false))
| `(115#0)=>`((.Call (.Name "set" p1) [e] [] pos1))
| `(116#0)=>`((zO (i+j) (glQ i (za w1) j (za w2))))
| `(117#0)=>`(⟨σ,G,_,r,q,fun d G1 q1 v H1 g1 r1 d1=>⟨σ,G1,_,r.to g1 r1,q1,fun o1 G2 q2 H2 g2 r2=>⟨σ,G2,_,r.to (g1.trans g2) r2,q2,fun o2 G3 q3 H3 g3 r3=>?_⟩⟩⟩)
| `(118#0)=>`(((yL n1 q1).map yC))
| `(119#0)=>`((List D->Gp->Prop))
| `(120#0)=>`((X'.env.kindOf x=some .cell\/X'.env.kindOf x=some .free))
local macro_rules
| `(121#0)=>`((s.heap.objs.size+1))
| `(122#0)=>`(((bY n).map nD))
| `(123#0)=>`((Array Value))
| `(124#0)=>`((List V->Hp->VK->Prop))
| `(125#0)=>`((zA (zB 3) (zA (zB 4) zG)))
| `(126#0)=>`((autoParam (starEach [.Call (.Name "range" p2) [a] [] pos] X.env=(false,eval (.Call (.Name "range" p2) [a] [] pos) X.env)::starEach [] X.env) Zq4._auto_1))
| `(127#0)=>`(⟨by omega,by omega⟩)
| `(128#0)=>`((zS (zS G ls ((os.take k).map nD)) lc (((os.take k).filter (yA q p)).map nD)))
| `(129#0)=>`((zD (zC 2) zH))
| `(130#0)=>`((fin es2 t2 _ _ (s1.trans (da.update ..)) (zBc (o:={ o with data:=.set es' (ep+1) (t.put j).1 }) g1 rfl) T2 p2 (pl2.trans pl) (ld2.trans ld) ?_ ?_))
| `(131#0)=>`((.refl G))
| `(132#0)=>`((List (Nat×Nat)))
| `(133#0)=>`(⟨rfl,I.turned (t':=s.toks) (fun b o hb e=>eb b o hb e) f0 f1 f3 f4 f5⟩)
| `(134#0)=>`((HT.wZ xs.length xs.length hi-HT.wZ xs.length 0 lo))
| `(135#0)=>`((yZ zG3 fun i j=>.int (i*j)))
| `(136#0)=>`((ha pins s σ H _ I h))
| `(137#0)=>`((.refl H))
| `(138#0)=>`((yb fun i j=>.int (Builtin.bitXor i j)))
| `(139#0)=>`((mg "len"=none))
| `(140#0)=>`((yb fun i j=>.bl (decide (j<i))))
| `(141#0)=>`((.tup ((rgN j A' B' C').map nD)))
| `(142#0)=>`((Df P w K mg base 1 "tied" ["web","one","other"] wB))
| `(143#0)=>`((PySem.W.fnOf x qual (zBT st) (wo st) (zJ st) .none kV doc pm an cdv ct))
| `(144#0)=>`((fun d=>[d]))
| `(145#0)=>`((ST prog w P s.heap a kys))
| `(146#0)=>`((Bool->Shared->Prop))
| `(147#0)=>`((fun r s'=>∃ D H' m,r=.ok .next/\acc=.ref D/\zb X pins σ H' s'/\zCY X pins H' cenv.locals/\s'.heap.Ns cenv.locals m/\Q (.ref D) H'))
| `(148#0)=>`((zm (xC (.bl false))))
| `(149#0)=>`((∀ d G',R d G'->∀ v H',yK H H'->yW K G' H'->zX K H' d v->Q v H'))
| `(150#0)=>`((fun u0 u0 u0=>trivial))
| `(151#0)=>`((by rw[sizeLine_eq];omega))
| `(152#0)=>`((zU (zF (zE (d:=zO n q) rfl) (zF (zE (d:=nD i) rfl) (zF (zE (d:=nD k) rfl) zL))) fun u0 u0 u0 q'=>⟨n,q,i,k,rfl,hi,ho k hk,q'⟩))
| `(153#0)=>`((zO n2 q2))
| `(154#0)=>`((fun xs H Q=>∃ p ys,xs=[.ref p]/\((SqL K H p ys/\∀ l,H l=none->Q (.ref l) (wY H l (.tup ys)))\/(SqT K H p ys/\Q (.ref p) H))))
| `(155#0)=>`((E2 X a ta))
local macro_rules
| `(tactic|sleep 1)=>`(tactic|(((try dsimp only [zm,zV,zn,xIf,yo,yI,gN,gNN,zP,yH,zAg,yG,zA,zG,zI,yE,zd,zv,zB,look,zQ,zAD,zBr,zB7,zD2,zD3,zF8,zCC,zCf,yb,yZ,zt,fEq,xC,xB,zB5,zDu,zAj,zKm,zAi,cj,c7,c9,bR,bS,bV,c6,bU,bW,Nat.reduceSub,Nat.reduceAdd,zKo,zKp,zKq,zKr,zAT,zB8,zB9,if_true,if_false,bT]) <;> (try simp only [zm,zV,zn,xIf,yo,yI,gN,gNN,zP,yH,zAg,yG,zA,zG,zI,yE,zd,zv,zB,look,zQ,zAD,zBr,zB7,zD2,zD3,zF8,zCC,zCf,yb,yZ,zt,fEq,xC,xB,zB5,zDu,zAj,zKm,zAi,cj,c7,c9,bR,bS,bV,c6,bU,bW,Nat.reduceSub,Nat.reduceAdd,zKo,zKp,zKq,zKr,zAT,zB8,zB9,if_true,if_false,bT]))))
| `(tactic|sleep 2)=>`(tactic|(((try dsimp only [zm,zV,zn,xIf,yo,yI,gN,gNN,zP,yH,zAg,yG,zA,zG,zI,yE,zd,zv,zB,look,zQ,zAD,zBr,zB7,zD2,zD3,zF8,zCC,zCf,yb,yZ,zt,fEq,xC,xB,zB5,zDu,zAj,zKm,cj,c7,c9,bR,bS,bV,c6,bU,bW,Nat.reduceSub,Nat.reduceAdd,zKo,zKp,zKq,zKr,zAT,zB8,zB9,if_true,if_false,bT]) <;> (try simp only [zm,zV,zn,xIf,yo,yI,gN,gNN,zP,yH,zAg,yG,zA,zG,zI,yE,zd,zv,zB,look,zQ,zAD,zBr,zB7,zD2,zD3,zF8,zCC,zCf,yb,yZ,zt,fEq,xC,xB,zB5,zDu,zAj,zKm,cj,c7,c9,bR,bS,bV,c6,bU,bW,Nat.reduceSub,Nat.reduceAdd,zKo,zKp,zKq,zKr,zAT,zB8,zB9,if_true,if_false,bT]))))
| `(tactic|sleep 3)=>`(tactic|(obtain⟨f,fd,F,hm⟩:=F))
| `(tactic|sleep 4)=>`(tactic|(refine dJ PySem.F.entry_max_loop ?_;rw[Around.under_plainId PySem.F.plain_max_loop _];show wpAny _ A.in1 (seqItems? (.ref S)>>=_) _ _ s;refine bQ (wpAny_seqItems hS rfl ?_);show wpAny _ A.in1 (tryCatch (pyNext (.ref I)) _>>=_) _ _ s))
| `(tactic|sleep 5)=>`(tactic|(simp only[gN,bS,bR]))
| `(tactic|sleep 6)=>`(tactic|(obtain⟨its,r,ht,hz⟩:=I.tuple hs;obtain⟨e,e1,e2,e3⟩:=zIL (A:=X.A.in1) I hd r hv ru f2 f1 72#0;obtain⟨⟨cls,dd,data,sl⟩,ho,hc,n,hdt⟩:=id ht;simp only at hc hdt;subst hc hdt))
| `(tactic|sleep 7)=>`(tactic|(rw[h9.mem_iff] at q;obtain⟨e,he,hk⟩:=ca.mp q;obtain⟨c,e1,e2⟩:=h5.mem e he;obtain⟨i,hi,e3⟩:=eh he;rw[hk] at e2;exact hno i e c ns (by rw[<-e3];simpa using hi) (by rw[e1]) e2 rfl))
| `(tactic|sleep 8)=>`(tactic|(dsimp only;rw[if_neg (by simp[byScan,Value.scannable])];obtain⟨N,n1,n2,n3⟩:=h4.stop 68#0;refine bQ ?_;unfold setSearch;refine zTn (Q:=_) hA h1 h3 h4 h5 hb (by have:=h4.room;omega) n2 n3 (adding:=true) (fun i c e1 e2=>?_) (fun hno d hd=>?_) (N-0) 0 100000 none none rfl (du _) ?_ (fun j q=>by cases q) rfl (fun m hm=>absurd hm (fo _))))
| `(tactic|sleep 9)=>`(tactic|(intro pins s σ H xs us Q I r h))
| `(tactic|sleep 10)=>`(tactic|(intro pins s σ H x y v u Q I rx ry h))
| `(tactic|sleep 11)=>`(tactic|(obtain⟨a',xs',rfl,hsq',hd'⟩:=h';cases r';obtain⟨its',rv',tp2,u0⟩:=I.tuple hsq'))
| `(tactic|sleep 12)=>`(tactic|(rw[hs] at hA ⊢;refine Calls.callWith_builtin (by show(false||(backTo cpos (starEach es X.env)).any (·.1))=false;rw[hplain]<;>rfl) (Calls.evalArgs_plain ?_)))
| `(tactic|sleep 13)=>`(tactic|(rintro σ1 H Q ⟨σ,G,R,r,q,k⟩))
| `(tactic|sleep 14)=>`(tactic|(refine bQ (wpAny_attempt (wpAny_callSpecial?_slot (name:=Str.ofString "__next__") hT zBI (eJ zBI hT zHl ?_ (zJf _))));unfold Builtin.«set_iterator.__next__»;refine bQ (m:=slotArgs "__next__" 0 _) (c5 ?_);refine bQ (wpAny_fieldsOf hit rfl ?_);simp only[rawInt];refine bQ (wpAny_setEntries_of ho hd hf ?_)))
| `(tactic|sleep 15)=>`(tactic|(rintro σ1 H Q ⟨σ,G,R,rl,q,k⟩))
| `(tactic|sleep 16)=>`(tactic|(intro X hP hw hK hc i pins s σ H E I hf st hg;subst hP hw hK))
| `(tactic|sleep 17)=>`(tactic|(obtain⟨its,rv,pl,u0⟩:=I.list hs;obtain⟨its',rv',pl',u0⟩:=I.list hs';have e:=zB6 (ds:=ds) (ds':=ds') (n:=its.toArray.size) (n':=its'.toArray.size) (by simp[hd.length,rv.length]) (by simp[hd'.length,rv'.length]);by_cases hl:its.toArray.size=its'.toArray.size))
| `(tactic|sleep 18)=>`(tactic|(intro pins s σ H Q I h))
| `(tactic|sleep 19)=>`(tactic|(obtain⟨f,fd,F,hm,hkp,hb⟩:=F;refine PE.mono (zLg (dvs:=[]) F (hr.mono hk) hg hm hkp hb .nil zSG ha hdb he hpl) ?_;rintro σ1 H Q ⟨σ,G,R,r,q,kk⟩;refine⟨σ,G,_,r,q,fun ds G1 q1 vs H1 g1 r1 d1=>?_⟩;show lSp X.K _ (vs++[]) H1 Q E0;rw[eG]))
| `(tactic|sleep 20)=>`(tactic|(refine⟨σ,G,_,rl,q,fun ds G1 q1 vs H1 g1 r1 d1=>?_⟩;split at q1))
| `(tactic|sleep 21)=>`(tactic|(refine bQ (cY h1 h3 (fits_of h4) ?_);dsimp only))
| `(tactic|sleep 22)=>`(tactic|((repeat (any_goals (first | assumption | wp_step)))))
| `(tactic|sleep 23)=>`(tactic|(simpa using this))
| `(tactic|sleep 24)=>`(tactic|(obtain⟨A,H',m,rfl,rfl,J,f,hn,q⟩:=hr;show wpAny _ X.A (assign (.Name y py) X.env (.ref A)) _ _ _;refine wpAny_assign_Name (zEg J hN hy (.inl hl) (v:=.ref A) rfl (fun s'' J' ⟨a,sb,ha⟩=>?_) (.inr hl))))
| `(tactic|sleep 25)=>`(tactic|(obtain⟨⟨cls2,dd2,data2,sl2⟩,ho2,hc2,n2,hd2⟩:=id hb;simp only at hc hd hc2 hd2;subst hc hd hc2 hd2))
| `(tactic|sleep 26)=>`(tactic|(obtain⟨v,rfl,d2⟩:=zBD d1;unfold zX at d2;subst d2;refine⟨j,rfl,fun l n=>⟨l,j,rfl,zz,q1.1,fun l' n'=>?_⟩⟩;have g2:yK H1 (wY H1 l (.rng 0 j)):=.fresh n;have r2:=r1.fresh (o:=.rng 0 j) n))
| `(tactic|sleep 27)=>`(tactic|(intro pins s σ H x vs v us Q I rx rv h))
| `(tactic|sleep 28)=>`(tactic|(cases (show u=Value.ref a from rx)))
| `(tactic|sleep 29)=>`(tactic|(obtain⟨u,r,l⟩:=hl i x v n1 e2' vis;obtain⟨c',hc'⟩:=zCa (env:=X.env) (ns:=sc.names) (cs:=[]) (x:=x) hfree (.inr (PySem.mem_of_lookup n2));have hc2:(zEk sc X.env).lookup x=some c':=hc'))
| `(tactic|sleep 30)=>`(tactic|(have v':(zAl X.env.scope sc).lookup x=some .local\/(zAl X.env.scope sc).lookup x=some .cell\/(zAl X.env.scope sc).lookup x=some .free:=v;unfold zMy;rcases v' with v' | v' | v'<;>rw[v']))
| `(tactic|sleep 31)=>`(tactic|(have g1:=zBc (es':=es') (t':=(t.put j).1) h1 h3;have s1:da a s.heap (s.heap.update a (Obj.putSet es' (t.put j).1)):=da.update ..;by_cases hrl:(!d.isSome&&(t.put j).1.tooFull)=true))
| `(tactic|sleep 32)=>`(tactic|(have pl:(t.put j).1.plain=true:=h6;have ld:(t.put j).1.led=HI.wz w:=h7;have mk:(t.put j).1.mask=t.mask:=rfl;generalize hes':cZ es (t.put j).2 (hT prog w ns,.ref b)=es' at T'))
| `(tactic|sleep 33)=>`(tactic|(refine⟨m,hn.sameBut sb hCa,fun h' hs'=>⟨_,H',?_,q⟩⟩;exact J'.turned (t':=s''.toks) (fun b o hb e=>(hs'.2 b hb).trans e) f.1 f.2.1 f.2.2.2.1 f.2.2.2.2.1 f.2.2.2.2.2))
| `(tactic|sleep 34)=>`(tactic|(intro dx dy G R x y H Q h r d1 d2 k))
| `(tactic|sleep 35)=>`(tactic|(unfold zX at d1;subst d1;obtain⟨xs0,a1,a2⟩:=r1.m l ds0 e0;refine⟨.inl ⟨rfl,xs0,.of a1⟩,σ,G1,_,rl.to g1 r1,q1,fun ds G2 q2 vs H2 g2 r2 d2=>?_⟩;split at q2))
| `(tactic|sleep 36)=>`(tactic|(refine bQ ?_;rw[<-Array.forIn_toList];refine wpAny_forIn_list _ (fun rest r s'=>r.1=none/\s'=s/\∀ v∈rest,∃ k t,v=Value.int k t) _ ?_ ?_ _ _ ⟨rfl,rfl,zJm hi⟩))
| `(tactic|sleep 37)=>`(tactic|(rw[Around.under_plain (weight_type_call_type "set" [.ref l] []) rfl];have h1:=F.called_set.notType;have h2:=F.called_set.canCreate;have hct:=F.typeCall_set_1 (.ref l)))
| `(tactic|sleep 38)=>`(tactic|(unfold zX at h;subst h))
| `(tactic|sleep 39)=>`(tactic|(rw[sb.2 c (fun q=>by subst q;rw[h1] at e1;cases e1;rw[h3] at e2;cases e2)];exact e1))
| `(tactic|sleep 40)=>`(tactic|(unfold Dens at h;obtain⟨x,r,rfl,h1,h2⟩:=h))
local macro_rules
| `(tactic|sleep 41)=>`(tactic|(obtain⟨σ,G,D2,r,q,k⟩:=h;refine zCw (n:=1) (N:=X.N.length) bind1 (fun d us e=>by cases e;rfl) hl ⟨σ,G,_,r,q,fun ds G' q' l xs H' g' r' n e d=>?_⟩))
| `(tactic|sleep 42)=>`(tactic|(intro h' tk' kys' kp st len mem;show wpAny _ _ _ _ _ _;refine c5 ?_;show wpAny _ _ (ret Value.none) _ _ _;exact c5 ⟨rfl,h',tk',kys',rfl,st,len,mem,kp⟩))
open PySem renaming wpAny_bind → bQ, wpAny_pure → c5, wpAny_setState_of → cY, wpAny_newObj_type → dk, wpAny_holding → dt, codeAny_builtin → dJ, codeAny_mono → er, wpAny_truthy_bool → eC, wpAny_call_entry → eJ, wpAny_ite_split → eV, wpAny_typeOf → f7, wpAny_Call_Name_kw → fi, wpAny_passesOwn → fm, wpAny_storeSet_of → fr
open List renaming set_cons_zero → bR, set_cons_succ → bS, replicate_succ → bU, length_cons → bV, replicate_zero → bW, range → bY, length_map → bZ, length_nil → c6, cons_append → c7, mem_range → c8, nil_append → c9, mem_map → ca, mem_filter → cb, getElem?_eq_some_iff → cc, mem_singleton → cf, length_append → cg, map → cj, size_toArray → cn, mem_cons_of_mem → cq, mem_append → cr, replicate → cw, length_range → cz, mem_cons_self → cF, mem_cons → cI, count_append → cJ, mem_of_getElem? → cK, map_map → cL, lookup_cons → cM, map_append → cN, getElem?_map → cP, length_take → cQ, mem_append_right → cS, getElem?_append_left → cT, map_cons → cU, count_eq_zero → cX, getD → d7, count_cons → d9, getElem?_append_right → de, mem_append_left → dh, nodup_append → dq, getElem_mem → dA, length_filter_le → dB, nodup_range → dF, take_append_drop → dH, map_congr_left → dI, pairwise_map → dM, append_assoc → dN, length_drop → dU, filter_append → dW, pairwise_lt_range → dX, pairwise_iff_getElem → dY, nodup_cons → dZ, filter_map → e7, take_length → e9, all_eq_true → ec, getElem_of_mem → eh, getElem?_eq_getElem → ej, filterMap_cons_some → el, Pairwise → en, filter_cons → eu, perm_ext_iff_of_nodup → eA, append_nil → eG, mem_of_mem_take → eK, Perm → eM, length_eq_zero_iff → eN, flatten_cons → eO, filter_congr → eP, getElem?_set_self → eQ, pairwise_append → eU, reverse_cons → eX, range_succ → eY, filterMap_cons_none → eZ, sum_cons → f8, pairwise_singleton → f9, getElem?_replicate → fb, filter → fc, not_mem_nil → ff, take_of_length_le → fh, pairwise_cons → fk, map_id' → fq, Nodup → fu, getElem?_set_ne → fA, getElem?_of_mem → fB
open Bool renaming false_eq_true → bT, eq_iff_iff → cG, and_eq_true → cW, false_ne_true → dR, and_false → fg
open PySem.Heap renaming get?_push_of_some → bX, lt_size → ci, get?_push_size → ck, SameBut → da, get?_update_other → dQ, size_push → e8, get?_update_self → eH, get?_update_ne → fe, get?_none_of_le → fC
open Nat renaming le_refl → ce, lt_of_lt_of_le → cE, ne_of_lt → cH, lt_irrefl → cR, min_eq_left → d8, le_trans → di, zero_le → du, pow_le_pow_right → dC, lt_or_ge → dO, max_eq_right → dS, le_succ → ef, pow_succ → et, testBit_xor → eF, xor_assoc → eR, le_of_lt → eS, eq_or_lt_of_le → fj, not_lt_zero → fo, lt_succ_of_lt → ft, mod_two_eq_zero_or_one → fw, min_eq_right → fF
open PySem.SetTable renaming below → cu, eraseAt → cD, sizeAbove → cV, insertAt → cZ, bits → db, runEnd → dg, insertAt_perm → dP, leap → em, probe → eD, has → eE, fresh → eT, layClean → eW, turns → fE
open Array renaming length_toList → cC, mem_toList_iff → dD, getElem?_eq_some_iff → eB, getD → f6
open PyProof.Rows renaming wpS_bind → dL, wpS_pure → eI
open PySem PySem.Spec PyProof.Rows
theorem Zq1(h:True:=by first | exact .inl rfl | exact .inr rfl | assumption):True:=h
theorem Zq2(h:True:=by decide):True:=h
theorem Zq3(h:True:=by intro u0;rfl):True:=h
theorem Zq4(h:True:=by rfl):True:=h
theorem Zq5(h:True:=by with_unfolding_all rfl):True:=h
theorem Zq6(h:True:=by first | exact Or.inl rfl | exact Or.inr (Or.inl rfl) | exact Or.inr (Or.inr rfl)):True:=h
theorem Zq7(h:True:=by first | exact Or.inl rfl | exact Or.inr rfl):True:=h
theorem Zq8(h:True:=by intro u0 u0;rfl):True:=h
theorem Zq9(h:True:=by size_fits):True:=h
theorem Zq10(h:True:=by exact .refl _):True:=h
namespace K
open PySem
@[elab_as_elim] theorem us1{m:List Value->Prop}(us:31#0)(hl:us.length=1)(h:∀ a,m [a]):m us:=by
 rcases us with _|⟨a,_|⟨e,r⟩⟩
 ·cases hl
 ·exact h a
 ·cases hl
@[elab_as_elim] theorem us2{m:List Value->Prop}(us:31#0)(hl:us.length=2)(h:∀ a b,m [a,b]):m us:=by
 rcases us with _|⟨a,_|⟨b,_|⟨e,r⟩⟩⟩
 ·cases hl
 ·cases hl
 ·exact h a b
 ·cases hl
@[elab_as_elim] theorem us3{m:List Value->Prop}(us:31#0)(hl:us.length=3)(h:∀ a b c,m [a,b,c]):m us:=by
 rcases us with _|⟨a,_|⟨b,_|⟨c,_|⟨e,r⟩⟩⟩⟩
 ·cases hl
 ·cases hl
 ·cases hl
 ·exact h a b c
 ·cases hl
end K
namespace L2
noncomputable abbrev Key:=Sum Int Str
noncomputable def zSC:Key->Value->Bool
 | .inl k,v=>Value.isInt k v
 | .inr x,v=>Value.isStrOf x v
noncomputable def zU6(w:World):Key->Int
 | .inl k=>hashInt k
 | .inr x=>hashStr w x
theorem yd:∀ {k:Key} {v:Value},zSC k v=true->(∃ i t,k=Sum.inl i/\v=Value.int i t)\/(∃ x t,k=Sum.inr x/\v=Value.str x t)
 | .inl i,v,h=>by
  obtain⟨t,e⟩:=Value.isInt_shape (k:=i) (v:=v) h;exact .inl ⟨i,t,rfl,e⟩
 | .inr x,v,h=>by
  obtain⟨t,e⟩:=Value.isStrOf_shape (x:=x) (v:=v) h;exact .inr ⟨x,t,rfl,e⟩
theorem zSf(a b:Int):decide ((Sum.inl a:Key)=Sum.inl b)=(a==b):=by
 by_cases e:a=b
 ·subst e;simp
 ·have h:¬ (Sum.inl a:Key)=Sum.inl b:=fun q=>e (Sum.inl.inj q)
  rw[decide_eq_false h];exact(beq_eq_false_iff_ne.mpr e).symm
theorem zSg(a b:Str):decide ((Sum.inr a:Key)=Sum.inr b)=decide (a=b):=by
 by_cases e:a=b
 ·subst e;simp
 ·have h:¬ (Sum.inr a:Key)=Sum.inr b:=fun q=>e (Sum.inr.inj q)
  rw[decide_eq_false h,decide_eq_false e]
theorem zSh(a:Int)(b:Str):decide ((Sum.inl a:Key)=Sum.inr b)=false:=decide_eq_false (fun q=>nomatch q)
theorem zSi(a:Str)(b:Int):decide ((Sum.inr a:Key)=Sum.inl b)=false:=decide_eq_false (fun q=>nomatch q)
noncomputable def zLb(prog:Program)(w:World):PySem.KeyKind prog w Key where
 is:=zSC
 hash:=zU6 w
 inj:=fun v a b ha hb=>by
  rcases yd ha with ⟨i,t,rfl,rfl⟩ | ⟨x,t,rfl,rfl⟩
  ·rcases yd hb with ⟨j,u,rfl,e⟩ | ⟨y,u,rfl,e⟩
   ·injection e with e1 _;rw[e1]
   ·exact nomatch e
  ·rcases yd hb with ⟨j,u,rfl,e⟩ | ⟨y,u,rfl,e⟩
   ·exact nomatch e
   ·injection e with e1 _;rw[e1]
 byValue:=fun k v h=>by
  rcases yd h with ⟨i,t,rfl,rfl⟩ | ⟨x,t,rfl,rfl⟩<;>rfl
 pyHash:=fun hv h=>by
  rcases yd hv with ⟨i,t,rfl,rfl⟩ | ⟨x,t,rfl,rfl⟩
  ·exact wpAny_pyHash_int h
  ·exact wpAny_pyHash_str h
 eqBool:=fun hu hv h=>by
  rcases yd hu with ⟨i,t,rfl,rfl⟩ | ⟨x,t,rfl,rfl⟩
  ·rcases yd hv with ⟨j,u,rfl,rfl⟩ | ⟨y,u,rfl,rfl⟩
   ·rw[zSf] at h;exact wpAny_eqBool_int h
   ·rw[zSh] at h;exact SeqAt.EqAt.int_str i t y u _ _ _ _ h
  ·rcases yd hv with ⟨j,u,rfl,rfl⟩ | ⟨y,u,rfl,rfl⟩
   ·rw[zSi] at h;exact SeqAt.EqAt.str_int x t j u _ _ _ _ h
   ·rw[zSg] at h;exact wpAny_eqBool_str h
 «strs»:=fun k x t v h=>by
  rcases yd h with ⟨i,u,rfl,e⟩ | ⟨y,u,rfl,e⟩
  ·exact nomatch e
  ·injection e with e1 _
   subst e1;cases v<;>rfl
set_option genInjectivity true in
inductive V where
 | non | bl (b:Bool) | int (i:Int) | str (x:Str) | byt (b:Array UInt8) | flt (b:UInt64) | ref (a:Addr) | ty (n:String)
 deriving DecidableEq
noncomputable def RelV:V->Value->Prop
 | .non,u=>u=Value.none
 | .bl b,u=>u=Value.bool b
 | .int i,u=>∃ t,u=Value.int i t
 | .str x,u=>∃ t,u=Value.str x t
 | .byt b,u=>∃ t,u=Value.bytes b t
 | .flt b,u=>∃ t,u=Value.float b t
 | .ref a,u=>u=Value.ref a
 | .ty n,u=>u=Value.type n
noncomputable abbrev zf:List V->List Value->Prop:=Paired RelV
theorem zf.length{xs:List V}{us:31#0}(r:zf xs us):xs.length=us.length:=Paired.length r
theorem zf.get:∀ {xs:List V} {us:31#0} {i:Nat} {x:V},zf xs us->xs[i]?=some x->∃ u,us[i]?=some u/\RelV x u
 | _,_,_,_,.nil,e=>by simp at e
 | _,_,0,_,.cons r _,e=>by simp at e;subst e;exact⟨_,rfl,r⟩
 | _,_,i+1,x,.cons _ t,e=>by
  obtain⟨u,h1,h2⟩:=zf.get (i:=i) (x:=x) t (by simpa using e);exact⟨u,by simpa using h1,h2⟩
theorem zf.set{x:V}{u:Value}(r:RelV x u):∀ {xs:List V} {us:31#0} (i:Nat),zf xs us->zf (xs.set i x) (us.set i u)
 | _,_,_,.nil=>.nil
 | _,_,0,.cons _ t=>.cons r t
 | _,_,i+1,.cons q t=>.cons q (zf.set r i t)
theorem zf.append:∀ {xs ys:List V} {us ws:31#0},zf xs us->zf ys ws->zf (xs++ys) (us++ws)
 | _,_,_,_,.nil,s=>s
 | _,_,_,_,.cons r t,s=>.cons r (zf.append t s)
theorem zf.take:∀ {xs:List V} {us:31#0} (n:Nat),zf xs us->zf (xs.take n) (us.take n)
 | _,_,0,_=>.nil
 | _,_,_+1,.nil=>.nil
 | _,_,n+1,.cons r t=>.cons r (zf.take n t)
theorem zf.drop:∀ {xs:List V} {us:31#0} (n:Nat),zf xs us->zf (xs.drop n) (us.drop n)
 | _,_,0,r=>r
 | _,_,_+1,.nil=>.nil
 | _,_,n+1,.cons _ t=>zf.drop n t
noncomputable def zSj:Option V->Option Value->Prop
 | some v,some u=>RelV v u
 | none,none=>True
 | _,_=>False
noncomputable def KV{κ:Type}:List (κ×V)->List (κ×Value)->Prop:=Paired fun(p:κ×V) (q:κ×Value)=>p.1=q.1/\RelV p.2 q.2
noncomputable def kV:Key->V
 | .inl i=>.int i
 | .inr x=>.str x
set_option genInjectivity true in
inductive HO where
 /-- a list -/
 | lst (xs:List V)
 /-- a tuple (never changes) -/
 | tup (xs:List V)
 /-- a dict whose keys are ints and texts;one whose keys are tuples of ints and texts (the empty one is both) -/
 | dK (kvs:List (Key×V)) | dT (kvs:List (List Key×V))
 /-- a set of ints: its members,its size -/
 | set (S:Int->Bool) (n:Nat)
 /-- an instance of the class at C,its dict at dx,its attributes -/
 | ins (C dx:Addr) (fs:List (Str×V))
 /-- the dict of the instance at x -/
 | own (x:Addr)
 /-- the dict of an exception -/
 | xd (fs:List (Str×V))
 /-- a bound method,f of x -/
 | met (f x:Addr)
 /-- a range object lo,lo+1,.. below hi -/
 | rng (lo hi:Int)
 /-- a thing that is known to the object (the script;a dict while a loop walks it): read,never written while it is so -/
 | frz (o:Obj) (u:HO)
 /-- a code object's table -/
 | tbl (ps:123#0)
 /-- any other thing,by what is true of its one object (a def of one's own: SetO a S n:=HO.ext fun h=>..) -/
 | ext (φ:Heap->Prop)
noncomputable abbrev Hp:=Addr->Option HO
noncomputable def wY(H:Hp)(a:Addr)(o:HO):Hp:=fun b=>if b=a then some o else H b
theorem zz{H:Hp}{a:Addr}{o:HO}:wY H a o a=some o:=by unfold wY;rw[if_pos rfl]
theorem yV{H:Hp}{a b:Addr}{o:HO}(h:b≠a):wY H a o b=H b:=by unfold wY;rw[if_neg h]
theorem zSD{H:Hp}{a b:Addr}{o u:HO}(h:H a=some o)(h':H b=some u)(d:o≠u):a≠b:=by
 intro e;subst e;rw[h] at h';exact d (Option.some.inj h')
theorem yy{H:Hp}{a b:Addr}{o:HO}(h:H a=some o)(h':H b=none):a≠b:=by
 intro e;subst e;rw[h] at h';cases h'
noncomputable def zFo(h:Heap)(a:Addr)(items:123#0):Prop:=∃ o,h.get? a=some o/\o.cls=.type "tuple"/\(∃ n,o.data=.seq items n)/\o.dict=none
theorem zFo.isTup{h:Heap}{a:Addr}{items:123#0}(x:zFo h a items):IsTup h a items:=let ⟨o,h1,h2,h3,_⟩:=x;⟨o,h1,h2,h3⟩
theorem zFo.lt{h:Heap}{a:Addr}{items:123#0}(x:zFo h a items):a<h.objs.size:=x.isTup.lt
theorem zFo.new(h:Heap)(items:123#0):zFo (h.push { cls:=.type "tuple",data:=.seq items }) h.objs.size items:=⟨_,ck _ rfl,rfl,⟨_,rfl⟩,rfl⟩
section
variable (P:Program) (w:World)
noncomputable def wf(H:Hp)(h:Heap)(a:Addr):HO->Prop
 | .lst xs=>xs.length<=sizeLine/\∃(its:31#0) (n:Nat),zf xs its/\h.get? a=some { cls:=.type "list",data:=.seq its.toArray n }
 | .tup xs=>xs.length<=sizeLine/\∃ its:List Value,zf xs its/\zFo h a its.toArray
 | .dK kvs=>kvs.length<=sizeLine/\(a==sysModules)=false/\∃ vs,KV kvs vs/\h.DictOf (zLb P w) a vs
 | .dT kvs=>kvs.length<=sizeLine/\(a==sysModules)=false/\∃ xs:List (List Key×Addr×Value),
   Paired (fun(p:List Key×V) (q:List Key×Addr×Value)=>p.1=q.1/\H q.2.1=some (.tup (p.1.map kV))/\RelV p.2 q.2.2) kvs xs /\
   ∃ o es ep,h.get? a=some o/\o.ExactDict/\o.data=.dict es ep/\es.toList=xs.map (entryOfKey (tupleKind (zLb P w)))/\(xs.map (·.1)).Nodup
 | .set S n=>h.SetOf (intKind P w) a S n
 | .ins C dx fs=>H dx=some (.own a)/\fs.length<=1000/\dx≠a/\h.get? a=some (PySem.W.instObj C dx) /\
   ∃ mA,h.Ns1 dx mA/\(∀ f,zSj (fs.lookup f) (mA f))/\PySem.Within mA (fs.map (·.1))
 | .own _=>∃ o,h.get? a=some o
 | .xd fs=>∃ mA,h.Ns1 a mA/\∀ f,zSj (fs.lookup f) (mA f)
 | .rng lo hi=>∃ t u v,h.get? a=some { cls:=.type "range",data:=.fields #[.int lo t,.int hi u,.int 1 v] }
 | .frz o u=>h.get? a=some o/\wf H h a u
 | .tbl ps=>∃(q:Str) (t:Tok) (vs:123#0),ps=#[.str q t]/\h.get? a=some (PySem.W.tabObj vs)/\TriplesOk vs.toList/\∀(pos:Pos) (cv:Value),codeAmong pos vs.toList=some cv ->
   ∃(c:Addr) (o:Obj) (us:123#0) (t':Tok),cv=.ref c/\H c=some (.frz o (.own 0))/\o.data=.fields us/\us[1]?=some (.str q t')
 | .met f x=>h.get? a=some (PySem.W.methodObj (.ref f) (.ref x))
 | .ext φ=>φ h/\(∃ o,h.get? a=some o)/\∀ h1 h2:Heap,φ h1->(∀ o,h1.get? a=some o->h2.get? a=some o)->φ h2
noncomputable def HOk(H:Hp)(h:Heap):Prop:=∀ a o,H a=some o->wf P w H h a o
end
section
variable {P:Program} {w:World} {H H':Hp} {h h':Heap} {a:Addr} {o:HO}
theorem wf.lt(x:wf P w H h a o):a<h.objs.size:=by
 cases o with
 | lst xs=>obtain⟨u0,u0,u0,u0,e⟩:=x;exact ci e
 | tup xs=>obtain⟨u0,u0,u0,p⟩:=x;exact p.lt
 | dK kvs=>obtain⟨u0,u0,u0,u0,o,u0,u0,e,u0⟩:=x;exact ci e
 | dT kvs=>obtain⟨u0,u0,u0,u0,o,u0,u0,e,u0⟩:=x;exact ci e
 | set S n=>obtain⟨o,u0,u0,u0,e,u0⟩:=x;exact ci e
 | ins C dx fs=>obtain⟨u0,u0,u0,e,u0⟩:=x;exact ci e
 | own y=>obtain⟨u0,e⟩:=x;exact ci e
 | xd fs=>obtain⟨u0,⟨u0,u0,u0,e,u0⟩,u0⟩:=x;exact ci e
 | rng lo hi=>obtain⟨u0,u0,u0,e⟩:=x;exact ci e
 | frz ob u=>obtain⟨e,u0⟩:=x;exact ci e
 | tbl ps=>obtain⟨u0,u0,u0,u0,e,u0⟩:=x;exact ci e
 | met f y=>exact ci (show h.get? a=some _ from x)
 | ext φ=>obtain⟨u0,⟨u0,e⟩,u0⟩:=x;exact ci e
theorem Paired.mapP{α β:Type}{F G:α->β->Prop}:∀ {l₁:List α} {l₂:List β},Paired F l₁ l₂->(∀ a b,F a b->G a b)->Paired G l₁ l₂
 | _,_,.nil,_=>.nil
 | _,_,.cons r t,f=>.cons (f _ _ r) (Paired.mapP t f)
theorem wf.stay(x:wf P w H h a o)(k:∀ b u,(b=a\/H b=some (.own a))->h.get? b=some u->h'.get? b=some u)
  (ho:∀ b,H b=some (.own a)->H' b=some (.own a)) (ht:∀ b xs,H b=some (.tup xs)->H' b=some (.tup xs)) (hz:∀ b o u,H b=some (.frz o u)->H' b=some (.frz o u)):wf P w H' h' a o:=by
 induction o with
 | lst xs=>obtain⟨z,its,n,r,e⟩:=x;exact⟨z,its,n,r,k _ _ (.inl rfl) e⟩
 | tup xs=>obtain⟨z,its,r,ob,e,c⟩:=x;exact⟨z,its,r,ob,k _ _ (.inl rfl) e,c⟩
 | dK kvs=>obtain⟨z,y,vs,r,ob,es,ep,e,c⟩:=x;exact⟨z,y,vs,r,ob,es,ep,k _ _ (.inl rfl) e,c⟩
 | dT kvs =>
  obtain⟨z,y,xs,r,ob,es,ep,e,c⟩:=x;exact⟨z,y,xs,Paired.mapP r fun p q z=>⟨z.1,ht _ _ z.2.1,z.2.2⟩,ob,es,ep,k _ _ (.inl rfl) e,c⟩
 | set S n=>obtain⟨ob,es,ep,t,e,c⟩:=x;exact⟨ob,es,ep,t,k _ _ (.inl rfl) e,c⟩
 | ins C dx fs =>
  obtain⟨d,z,ne,e,mA,⟨od,es,ep,e2,c⟩,r⟩:=x;exact⟨ho _ d,z,ne,k _ _ (.inl rfl) e,mA,⟨od,es,ep,k _ _ (.inr d) e2,c⟩,r⟩
 | own y=>obtain⟨ob,e⟩:=x;exact⟨ob,k _ _ (.inl rfl) e⟩
 | xd fs=>obtain⟨mA,⟨od,es,ep,e,c⟩,r⟩:=x;exact⟨mA,⟨od,es,ep,k _ _ (.inl rfl) e,c⟩,r⟩
 | rng lo hi=>obtain⟨t,u,v,e⟩:=x;exact⟨t,u,v,k _ _ (.inl rfl) e⟩
 | frz ob u ih=>obtain⟨e,q⟩:=x;exact⟨k _ _ (.inl rfl) e,ih q⟩
 | tbl ps =>
  obtain⟨q,t,vs,e0,e,e1,e2⟩:=x;refine⟨q,t,vs,e0,k _ _ (.inl rfl) e,e1,fun pos cv z=>?_⟩;obtain⟨c,oc,us,t',z1,z2,z3⟩:=e2 pos cv z;exact⟨c,oc,us,t',z1,hz _ _ _ z2,z3⟩
 | met f y =>
  have e:h.get? a=some (PySem.W.methodObj (.ref f) (.ref y)):=x;show h'.get? a=some (PySem.W.methodObj (.ref f) (.ref y));exact k a _ (.inl rfl) e
 | ext φ=>obtain⟨p,⟨o,e⟩,st⟩:=x;exact⟨st _ _ p fun o q=>k _ _ (.inl rfl) q,⟨o,k _ _ (.inl rfl) e⟩,st⟩
theorem HOk.lt(x:HOk P w H h)(e:H a=some o):a<h.objs.size:=(x a o e).lt
theorem HOk.fresh(x:HOk P w H h)(e:h.objs.size<=a):H a=none:=by
 cases q:H a with
 | none=>rfl
 | some u=>exact absurd (cE (x.lt q) e) (cR _)
theorem HOk.kept(x:HOk P w H h)(k:∀ b u,h.get? b=some u->h'.get? b=some u):HOk P w H h':=fun a o e =>
 (x a o e).stay (fun b u u0 q=>k b u q) (fun u0 q=>q) (fun u0 u0 q=>q) fun u0 u0 u0 q=>q
theorem HOk.laid(x:HOk P w H h)(k:∀ b u,h.get? b=some u->h'.get? b=some u)(hp:h.objs.size<=a)(new:wf P w (wY H a o) h' a o):HOk P w (wY H a o) h':=fun b u e=>by
 have hn:=x.fresh hp;by_cases hb:b=a
 ·subst hb;rw[zz] at e;cases e;exact new
 ·rw[yV hb] at e
  exact(x b u e).stay (fun c v u0 q=>k c v q) (fun c q=>by rw[yV (yy q hn)];exact q) (fun c xs q=>by rw[yV (yy q hn)];exact q) fun c oo u q=>by rw[yV (yy q hn)];exact q
end
noncomputable def Rd(H:Hp)(a:Addr)(u:HO):Prop:=H a=some u\/∃ o,H a=some (.frz o u)
theorem Rd.of{H:Hp}{a:Addr}{u:HO}(h:H a=some u):Rd H a u:=.inl h
theorem Rd.ok{P:Program}{w:World}{H:Hp}{h:Heap}{a:Addr}{u:HO}(r:Rd H a u)(x:HOk P w H h):wf P w H h a u:=by
 rcases r with r | ⟨o,r⟩
 ·exact x a u r
 ·obtain⟨u0,q⟩:=x a _ r
  exact q
noncomputable def Mut:Option HO->Prop
 | some (.lst _)=>True
 | some (.dK _)=>True
 | some (.dT _)=>True
 | some (.set _ _)=>True
 | some (.ins _ _ _)=>True
 | some (.ext _)=>True
 | _=>False
section
variable {P:Program} {w:World} {H:Hp} {h h':Heap} {x e:Addr} {o':HO}
theorem HOk.write(ok:HOk P w H h)(mu:Mut (H x))(he:e=x\/H e=some (.own x))(k:∀ b u,b≠e->h.get? b=some u->h'.get? b=some u)(heo:∃ u,h'.get? e=some u)
  (new:wf P w (wY H x o') h' x o'):HOk P w (wY H x o') h':=fun b u q=>by
 have nown:∀ c y,H c=some (.own y)->c≠x:=fun c y r z=>by subst z;rw[r] at mu;exact mu
 have ntup:∀ c xs,H c=some (.tup xs)->c≠x:=fun c xs r z=>by subst z;rw[r] at mu;exact mu
 have nfrz:∀ c oo u,H c=some (.frz oo u)->c≠x:=fun c oo u r z=>by subst z;rw[r] at mu;exact mu
 by_cases hb:b=x
 ·subst hb;rw[zz] at q;cases q;exact new
 ·rw[yV hb] at q
  by_cases hbe:b=e
  ·have q':H b=some (.own x):=by
    rcases he with z | z
    ·exact absurd (hbe.trans z) hb
    ·rw[hbe];exact z
   rw[q] at q';cases q';obtain⟨v,hv⟩:=heo;exact⟨v,by rw[hbe];exact hv⟩
  ·refine(ok b u q).stay (fun c v hc r=>k c v ?_ r) (fun c r=>by rw[yV (nown c b r)];exact r) (fun c xs r=>by rw[yV (ntup c xs r)];exact r) fun c oo u r=>by rw[yV (nfrz c oo u r)];exact r
   rcases hc with rfl | hc
   ·exact hbe
   ·rintro rfl
    rcases he with z | z
    ·exact nown c b hc z
    ·rw[hc] at z;cases z;exact hb rfl
end
structure Un (fs ex:List Addr) (H H':Hp) (h h':Heap):Prop where
 keep:∀ b o,h.get? b=some o->H b=none->b∉fs->b∉ex->h'.get? b=some o
 slot:∀ b o,h.get? b=some o->H b=none->b∈fs->b∉ex->∃ sl,h'.get? b=some { o with slots:=sl }
 free:∀ b o,h.get? b=some o->H b=none->b∉ex->H' b=none
 there:∀ b o,h.get? b=some o->b∉ex->∃ o',h'.get? b=some o'
 tups:∀ b xs,H b=some (.tup xs)->H' b=some (.tup xs)
 frzs:∀ b o u,H b=some (.frz o u)->H' b=some (.frz o u)
 tbls:∀ b ps,H b=some (.tbl ps)->H' b=some (.tbl ps)
section
variable {fs fs' ex ex':List Addr} {H H1 H2:Hp} {h h1 h2 h':Heap} {a x e:Addr} {o:HO}
theorem Un.any(u:Un fs ex H H1 h h1){b:Addr}{ob:Obj}(q:h.get? b=some ob)(n:H b=none)(hx:b∉ex):∃ sl,h1.get? b=some { ob with slots:=sl }:=by
 by_cases hb:b∈fs
 ·exact u.slot b ob q n hb hx
 ·exact⟨ob.slots,u.keep b ob q n hb hx⟩
theorem Un.trans(a:Un fs ex H H1 h h1)(b:Un fs ex H1 H2 h1 h2):Un fs ex H H2 h h2 where
 keep:=fun c ob q n hc hx=>b.keep c ob (a.keep c ob q n hc hx) (a.free c ob q n hx) hc hx
 slot:=fun c ob q n hc hx=>by
  obtain⟨sl,e1⟩:=a.slot c ob q n hc hx;obtain⟨sl',e2⟩:=b.slot c _ e1 (a.free c ob q n hx) hc hx;exact⟨sl',e2⟩
 free:=fun c ob q n hx=>by
  obtain⟨o',e1⟩:=a.there c ob q hx;exact b.free c o' e1 (a.free c ob q n hx) hx
 there:=fun c ob q hx=>by
  obtain⟨o',e1⟩:=a.there c ob q hx;exact b.there c o' e1 hx
 tups:=fun c xs q=>b.tups c xs (a.tups c xs q)
 frzs:=fun c ob xs q=>b.frzs c ob xs (a.frzs c ob xs q)
 tbls:=fun c ps q=>b.tbls c ps (a.tbls c ps q)
theorem Un.kept(k:∀ b u,h.get? b=some u->h'.get? b=some u):Un fs ex H H h h' :=
 ⟨fun b ob q u0 u0 u0=>k b ob q,fun b ob q u0 u0 u0=>⟨ob.slots,k b ob q⟩,fun u0 u0 u0 n u0=>n,fun b ob q u0=>⟨ob,k b ob q⟩,fun u0 u0 q=>q,fun u0 u0 u0 q=>q,fun u0 u0 q=>q⟩
theorem Un.refl:Un fs ex H H h h:=Un.kept fun u0 u0 q=>q
theorem Un.laid(k:∀ b u,h.get? b=some u->h'.get? b=some u)(hp:h.objs.size<=a)(hn:H a=none):Un fs ex H (wY H a o) h h' where
 keep:=fun b u q u0 u0 u0=>k b u q
 slot:=fun b u q u0 u0 u0=>⟨u.slots,k b u q⟩
 free:=fun b u q n u0=>by rw[yV (cH (cE (ci q) hp))];exact n
 there:=fun b u q u0=>⟨u,k b u q⟩
 tups:=fun b xs q=>by rw[yV (yy q hn)];exact q
 frzs:=fun b u xs q=>by rw[yV (yy q hn)];exact q
 tbls:=fun b ps q=>by rw[yV (yy q hn)];exact q
theorem Un.write(mu:Mut (H x))(he:e=x\/H e=some (.own x))(k:∀ b u,b≠e->h.get? b=some u->h'.get? b=some u)(heo:∃ u,h'.get? e=some u):Un fs ex H (wY H x o) h h':=by
 have hx:∀ b,H b=none->b≠x:=fun b n z=>by subst z;rw[n] at mu;exact mu
 have hb:∀ b,H b=none->b≠e:=fun b n z=>by
  subst z;rcases he with r | r
  ·exact hx b n r
  ·rw[n] at r;cases r
 have hm:∀ b u,H b=some u->¬ Mut (some u)->b≠x:=fun b u q nm z=>by subst z;rw[q] at mu;exact nm mu
 refine⟨fun b u q n u0 u0=>k b u (hb b n) q,fun b u q n u0 u0=>⟨u.slots,k b u (hb b n) q⟩,fun b u q n u0=>by rw[yV (hx b n)];exact n,fun b u q u0=>?_,
  fun b xs q=>by rw[yV (hm b _ q fun z=>z)];exact q,fun b u xs q=>by rw[yV (hm b _ q fun z=>z)];exact q,fun b ps q=>by rw[yV (hm b _ q fun z=>z)];exact q⟩
 by_cases hbe:b=e
 ·subst hbe;exact heo
 ·exact⟨u,k b u hbe q⟩
end
noncomputable def trk(h:Heap)(H:Hp):List Addr:=(bY h.objs.size).filter fun a=>(H a).isSome
noncomputable def zIA(h:Heap)(H:Hp):Heap:=PySem.W.hideAll h (trk h H)
theorem zMh(h:Heap)(H:Hp):(zIA h H).objs.size=h.objs.size:=PySem.W.hideAll_size _ _
theorem zN4{h:Heap}{H:Hp}{b:Addr}{o:Obj}(e:h.get? b=some o)(n:H b=none):(zIA h H).get? b=some o :=
 PySem.W.hideAll_get _ e fun hm=>by
  have q:(H b).isSome=true:=(cb.mp hm).2;rw[n] at q;simp at q
theorem zQZ{h:Heap}{H:Hp}{b:Addr}{o:Obj}(e:(zIA h H).get? b=some o):h.get? b=some o/\H b=none:=by
 have e':h.get? b=some o:=PySem.W.of_hideAll (trk h H) e;refine⟨e',?_⟩;cases q:H b with
 | none=>rfl
 | some x =>
  have hm:b∈trk h H:=cb.mpr ⟨c8.mpr (ci e'),by simp[q]⟩;have z:(zIA h H).get? b=none:=PySem.W.hideAll_none (trk h H) hm;rw[z] at e;cases e
noncomputable def zQa(g h:Heap)(L:Addr):List (Addr×Obj):=(bY h.objs.size).filterMap fun a=>if a=L\/(g.get? a).isSome=true then none else (h.get? a).map fun o=>(a,o)
noncomputable def rest(g h:Heap)(L d:Addr):List (Addr×Obj):=(zQa g h L).filter fun p=>decide (p.1≠d)
structure Mod (K:PySem.W.Frag) (mg:Str->Option Value) (base:Heap):Prop where
 kin:K.In base
 glob:base.Ns mainGlobals mg
 blt:∃ mb,base.Ns builtinsNs mb/\∀ x:Str,x≠"__name__"->mb x=bootBuiltins x
 nolimit:base.NoLimit
structure Cx where
 prog:Program
 w:World
 K:PySem.W.Frag
 mg:Str->Option Value
 base:Heap
 A:Around
 N:List Str
 s₀:Shared
 H₀:Hp
 env:Env
 outer:List Env
 stack:List Env
 ex:List Addr
 fn:Str->Bool
 calm:Bool
 pn:List (Addr×Obj)
 xe:Value->Shared->Prop
noncomputable def frs(l:List Env):List Addr:=l.filterMap (·.frame)
noncomputable abbrev Cx.fs(X:Cx):List Addr:=frs X.outer
noncomputable def Vis(sc:Scope)(x:Str):Prop:=sc.names.lookup x=some .local\/sc.names.lookup x=some .cell\/sc.names.lookup x=some .free
noncomputable def Loc(sc:Scope)(x:Str):Prop:=sc.names.lookup x=some .local\/sc.names.lookup x=some .cell
noncomputable def Look(env:Env)(h:Heap)(m:78#0)(x:Str)(u:Value):Prop :=
 (env.kindOf x=some .local/\m x=some u)\/((env.kindOf x=some .cell\/env.kindOf x=some .free)/\∃ c,env.cells.lookup x=some c/\h.IsCell c (some u))
noncomputable def zLc:List Str:=[]
noncomputable def TabsOk(K:18#0)(H:Hp):Prop:=∀ x∈zLc,∀ c b,PySem.W.tabIn K x=some (c,b)->∃ t,H b=some (.tbl #[.str (x++".<locals>.<lambda>") t])
structure Cx.Ok (X:Cx):Prop where
 mod:Mod X.K X.mg X.base
 kind:X.env.scope.kind=.function
 glob:X.env.globals=mainGlobals
 blt:X.env.builtins=builtinsNs
 above:X.s₀.heap.objs.size<=X.env.locals
 inj:∀ x y c,X.env.cells.lookup x=some c->X.env.cells.lookup y=some c->x=y
 has:∀ x,(X.env.kindOf x=some .cell\/X.env.kindOf x=some .free)->∃ c,X.env.cells.lookup x=some c
 cab:∀ x c,X.fn x=true->X.env.cells.lookup x=some c->X.s₀.heap.objs.size<=c
 hd:X.calm=true->X.A.handled=none
 frames:X.A.frames=some X.stack
 stk:X.stack=X.outer\/(X.stack=X.env::X.outer/\X.env.frame=some X.env.locals)
 exf:∀ b∈X.ex,b≠X.env.locals/\∀ x c,X.env.cells.lookup x=some c->c≠b
 bs:∀ b o,X.base.get? b=some o->X.s₀.heap.get? b=some o/\X.H₀ b=none
 bsz:X.base.objs.size<=X.s₀.heap.objs.size
 noex:∀ b o,X.base.get? b=some o->b∉X.ex
 exfs:∀ b∈X.ex,b∉X.fs
 funs:X.s₀.heap.FunFrames X.base X.outer
 frf:∀ b∈X.fs,X.H₀ b=none
 tb:TabsOk X.K X.H₀
structure zb (X:Cx) (pins:List (Addr×Obj)) (σ:List (Option V)) (H:Hp) (s:Shared):Prop where
 ok:X.Ok
 os:s.os=X.s₀.os
 bare:AllBare s.gens
 base:Un X.fs X.ex X.H₀ H X.s₀.heap s.heap
 loc:∃ m,s.heap.Ns X.env.locals m/\∀(i:Nat) (x:Str) (v:V),X.N[i]?=some x->σ[i]?=some (some v)->Vis X.env.scope x->∃ u,RelV v u/\Look X.env s.heap m x u
 cell:∀ x c,X.env.cells.lookup x=some c->∃ v,s.heap.IsCell c v
 free:H X.env.locals=none
 freeC:∀ x c,X.env.cells.lookup x=some c->H c=none
 pin:∀ p∈X.pn++pins,s.heap.get? p.1=some p.2/\H p.1=none/\p.1≠X.env.locals/\p.1∉X.fs/\∀ v,p.2.data≠.cell v
 hok:HOk X.prog X.w H s.heap
 len:σ.length=X.N.length
section
variable {X:Cx} {pins:List (Addr×Obj)} {σ:List (Option V)} {H H':Hp} {s:Shared} {h':Heap}
theorem Cx.Ok.nofr(ok:X.Ok){b:Addr}{o:Obj}(e:X.base.get? b=some o):b∉X.fs:=fun hb=>by
 have:=(ok.funs.mem hb).1;rw[e] at this;cases this
theorem zb.bs(I:21#0):∀ b o,X.base.get? b=some o->s.heap.get? b=some o/\H b=none:=fun b o e =>
 ⟨I.base.keep b o (I.ok.bs b o e).1 (I.ok.bs b o e).2 (I.ok.nofr e) (I.ok.noex b o e),I.base.free b o (I.ok.bs b o e).1 (I.ok.bs b o e).2 (I.ok.noex b o e)⟩
theorem zb.bk(I:21#0):∀ b o,X.base.get? b=some o->s.heap.get? b=some o:=fun b o e=>(I.bs b o e).1
theorem zb.mod(I:21#0):Mod X.K X.mg X.base:=I.ok.mod
theorem zb.tabs(I:21#0):TabsOk X.K H:=fun x hx c b e=>by
 obtain⟨t,q⟩:=I.ok.tb x hx c b e;exact⟨t,I.base.tbls b _ q⟩
theorem zb.kIn(I:21#0):X.K.In s.heap:=I.ok.mod.kin.keeps I.bk
theorem zb.nolimit(I:21#0):s.heap.NoLimit:=I.ok.mod.nolimit.keeps I.bk
theorem zb.lt(I:21#0):X.env.locals<s.heap.objs.size:=let ⟨_,hn,_⟩:=I.loc;hn.lt
theorem zb.sz(I:21#0):X.s₀.heap.objs.size<=s.heap.objs.size:=di I.ok.above (eS I.lt)
theorem zb.nofs(I:21#0){a:Addr}(h:s.heap.objs.size<=a):a∉X.fs:=fun hb=>by
 obtain⟨u0,o,ho,u0⟩:=I.ok.funs.mem hb;exact absurd (cE (ci ho) (di I.sz h)) (cR _)
theorem zb.cne(I:21#0):∀ x c,X.env.cells.lookup x=some c->c≠X.env.locals:=fun x c e z=>by
 obtain⟨v,o,ho,hd⟩:=I.cell x c e;obtain⟨m,⟨o',es,ep,ho',hd',u0⟩,u0⟩:=I.loc;rw[z,ho'] at ho;cases ho;rw[hd'] at hd;cases hd
theorem zb.funs(I:21#0):s.heap.FunFrames X.base X.outer:=by
 have all:∀(l:List Env),(∀ b∈frs l,b∈X.fs)->X.s₀.heap.FunFrames X.base l->s.heap.FunFrames X.base l:=by
  intro l
  induction l with
  | nil=>intro u0 u0;trivial
  | cons env r ih =>
   intro hs hl;obtain⟨hk,⟨L,o,hf,hn,ho,hd⟩,hr⟩:=hl;have hL:L∈X.fs:=hs L (by unfold frs;rw[List.filterMap_cons,hf];exact cF);obtain⟨sl,e⟩:=I.base.slot L o ho (I.ok.frf L hL) hL fun z=>I.ok.exfs L z hL;exact⟨hk,⟨L,_,hf,hn,e,hd⟩,ih (fun b hb=>hs b (by unfold frs;rw[List.filterMap_cons,hf];exact cq _ hb)) hr⟩
 exact all X.outer (fun u0 hb=>hb) I.ok.funs
theorem zb.stack(I:21#0):s.heap.FunFrames X.base X.stack:=by
 rcases I.ok.stk with e | ⟨e,hf⟩
 ·rw[e];exact I.funs
 ·rw[e]
  obtain⟨m,hn,u0⟩:=I.loc;refine .cons (by rw[I.ok.kind];decide) hf hn ?_ I.funs;exact fC (di I.ok.bsz I.ok.above)
theorem zb.stkSub(I:21#0):∀ b∈frs X.stack,b∈X.env.locals::X.fs:=fun b hb=>by
 rcases I.ok.stk with e | ⟨e,hf⟩
 ·rw[e] at hb;exact cq _ hb
 ·rw[e] at hb
  unfold frs at hb;rw[List.filterMap_cons,hf] at hb;exact hb
theorem zb.stkFree(I:21#0):∀ b∈frs X.stack,H b=none:=fun b hb=>by
 rcases cI.mp (I.stkSub b hb) with e | hb
 ·rw[e];exact I.free
 ·obtain⟨u0,o,ho,u0⟩:=I.ok.funs.mem hb
  exact I.base.free b o ho (I.ok.frf b hb) fun z=>I.ok.exfs b z hb
theorem zb.step{g':Array GenState}{t':Nat}{d':Drawn}{ch:List Addr}(I:21#0)
  (hch:55#0)
  (keep:∀ b o,b≠X.env.locals->b∉X.fs->b∉ch->s.heap.get? b=some o->H b=none->h'.get? b=some o)
  (slot:∀ b o,b≠X.env.locals->b∈X.fs->b∉ch->s.heap.get? b=some o->H b=none->∃ sl,h'.get? b=some { o with slots:=sl }) (free:∀ b o,b∉ch->s.heap.get? b=some o->H b=none->H' b=none)
  (there:∀ b o,b∉ch->s.heap.get? b=some o->∃ o',h'.get? b=some o')
  (tups:∀ b xs,H b=some (.tup xs)->H' b=some (.tup xs)) (frzs:∀ b o u,H b=some (.frz o u)->H' b=some (.frz o u)) (tbls:∀ b ps,H b=some (.tbl ps)->H' b=some (.tbl ps))
  (ns:∀ m,s.heap.Ns X.env.locals m->h'.Ns X.env.locals m) (hok:HOk X.prog X.w H' h') (hg:AllBare g') :
  zb X pins σ H' { s with heap:=h',gens:=g',drawn:=d',toks:=t' }:=by
 have neL:∀ b o,X.s₀.heap.get? b=some o->b≠X.env.locals:=fun b o e=>cH (cE (ci e) I.ok.above);have neC:∀ b o,X.s₀.heap.get? b=some o->b∉X.ex->b∉ch:=fun b o e hx hb=>by
  rcases(hch b hb).1 with z | z
  ·exact hx z
  ·exact absurd (cE (ci e) z) (cR _)
 have cellK:∀ x c,X.env.cells.lookup x=some c->∀ v,s.heap.IsCell c v->h'.IsCell c v:=fun x c e v ⟨o,ho,hd⟩=>by
  have nch:c∉ch:=fun z=>(hch c z).2.2.1 x c e rfl;by_cases hc:c∈X.fs
  ·obtain⟨sl,q⟩:=slot c o (I.cne x c e) hc nch ho (I.freeC x c e)
   exact⟨_,q,hd⟩
  ·exact⟨o,keep c o (I.cne x c e) hc nch ho (I.freeC x c e),hd⟩
 refine⟨I.ok,I.os,hg,⟨fun b o e n hb hx=>?_,fun b o e n hb hx=>?_,fun b o e n hx=>?_,fun b o e hx=>?_,fun b xs e=>tups b xs (I.base.tups b xs e),fun b o xs e=>frzs b o xs (I.base.frzs b o xs e),fun b ps e=>?_⟩,?_,fun x c e=>?_,?_,fun x c e=>?_,fun p hp=>?_,hok,I.len⟩
 ·exact keep b o (neL b o e) hb (neC b o e hx) (I.base.keep b o e n hb hx) (I.base.free b o e n hx)
 ·obtain⟨sl,e1⟩:=I.base.slot b o e n hb hx
  obtain⟨sl',e2⟩:=slot b _ (neL b o e) hb (neC b o e hx) e1 (I.base.free b o e n hx);exact⟨sl',e2⟩
 ·obtain⟨o',e1⟩:=I.base.there b o e hx
  exact free b o' (neC b o e hx) e1 (I.base.free b o e n hx)
 ·obtain⟨o',e1⟩:=I.base.there b o e hx
  exact there b o' (neC b o e hx) e1
 ·exact tbls b _ (I.base.tbls b ps e)
 ·obtain⟨m,hn,hl⟩:=I.loc
  refine⟨m,ns m hn,fun i x v e1 e2 e3=>?_⟩;obtain⟨u,r,l⟩:=hl i x v e1 e2 e3;refine⟨u,r,?_⟩;rcases l with l | ⟨k,c,e,z⟩
  ·exact .inl l
  ·exact .inr ⟨k,c,e,cellK x c e _ z⟩
 ·obtain⟨v,z⟩:=I.cell x c e
  exact⟨v,cellK x c e v z⟩
 ·obtain⟨m,⟨o,u0,u0,ho,u0⟩,u0⟩:=I.loc
  exact free _ o (fun z=>(hch _ z).2.1 rfl) ho I.free
 ·obtain⟨v,o,ho,hd⟩:=I.cell x c e
  exact free c o (fun z=>(hch c z).2.2.1 x c e rfl) ho (I.freeC x c e)
 ·obtain⟨e,n,ne,nf,d⟩:=I.pin p hp
  have nch:p.1∉ch:=fun z=>(hch p.1 z).2.2.2 p hp rfl;exact⟨keep p.1 p.2 ne nf nch e n,free p.1 p.2 nch e n,ne,nf,d⟩
theorem zb.un{t':Nat}(I:21#0)(u:Un X.fs [] H H' s.heap h')(hok:HOk X.prog X.w H' h'):zb X pins σ H' { s with heap:=h',toks:=t' }:=by
 obtain⟨m,⟨o,es,ep,ho,r⟩,u0⟩:=id I.loc;obtain⟨sl,hL⟩:=u.any ho I.free 24#0;exact I.step (g':=s.gens) (d':=s.drawn) (ch:=[]) (fun u0 z=>nomatch z) (fun b o u0 hb u0 e n=>u.keep b o e n hb 24#0) (fun b o u0 hb u0 e n=>u.slot b o e n hb 24#0) (fun b o u0 e n=>u.free b o e n 24#0) (fun b o u0 e=>u.there b o e 24#0) u.tups u.frzs u.tbls (fun m' hm=>by
  obtain⟨o',es',ep',ho',r'⟩:=hm;rw[ho] at ho';cases ho';exact⟨_,es',ep',hL,r'⟩) hok I.bare
theorem zb.call{g':Array GenState}{t':Nat}{d':Drawn}{ch:List Addr}(I:21#0)(u:Un (frs X.stack) ch H H' s.heap h')(hok:HOk X.prog X.w H' h')(hg:AllBare g')
  (hch:55#0) :
  zb X pins σ H' { s with heap:=h',gens:=g',drawn:=d',toks:=t' }:=by
 obtain⟨m,⟨o,es,ep,ho,r⟩,u0⟩:=id I.loc;obtain⟨sl,hL⟩:=u.any ho I.free fun z=>(hch _ z).2.1 rfl;exact I.step (ch:=ch) hch (fun b o hL hb hc e n=>u.keep b o e n (fun z=>(cI.mp (I.stkSub b z)).elim hL hb) hc) (fun b o u0 u0 hc e n=>u.any e n hc) (fun b o hc e n=>u.free b o e n hc) (fun b o hc e=>u.there b o e hc) u.tups u.frzs u.tbls (fun m' hm=>by
  obtain⟨o',es',ep',ho',r'⟩:=hm;rw[ho] at ho';cases ho';exact⟨_,es',ep',hL,r'⟩) hok hg
theorem zb.turned{t':Nat}{it:Addr}(I:21#0)(k:∀ b o,b≠it->s.heap.get? b=some o->h'.get? b=some o)(hn:H it=none)(hL:it≠X.env.locals)
  (h1:it∈X.ex\/X.s₀.heap.objs.size<=it) (h2:∀ x c,X.env.cells.lookup x=some c->c≠it) (h3:∀ p∈X.pn++pins,p.1≠it):zb X pins σ H { s with heap:=h',toks:=t' }:=by
 have nit:∀ b u,H b=some u->b≠it:=fun b u e z=>by rw[z,hn] at e;cases e
 refine I.step (g':=s.gens) (d':=s.drawn) (ch:=[it]) (fun b hb=>?_) (fun b o u0 u0 hc e u0=>k b o (fun z=>hc (by simp[z])) e) (fun b o u0 u0 hc e u0=>⟨o.slots,k b o (fun z=>hc (by simp[z])) e⟩) (fun u0 u0 u0 u0 n=>n)
  (fun b o hc e=>⟨o,k b o (fun z=>hc (by simp[z])) e⟩) (fun u0 u0 e=>e) (fun u0 u0 u0 e=>e) (fun u0 u0 e=>e) (fun m hm=>?_) (fun b u e=>?_) I.bare
 ·have e:b=it:=by simpa using hb
  subst e;exact⟨h1,hL,h2,h3⟩
 ·obtain⟨o,es,ep,ho,r⟩:=hm
  exact⟨o,es,ep,k _ o (Ne.symm hL) ho,r⟩
 ·refine(I.hok b u e).stay (fun c v hc q=>k c v ?_ q) (fun u0 q=>q) (fun u0 u0 q=>q) fun u0 u0 u0 q=>q
  rcases hc with z | z
  ·rw[z];exact nit b u e
  ·exact nit c _ z
theorem zb.tok(I:21#0)(t:Nat):zb X pins σ H { s with toks:=t }:=I.un (h':=s.heap) (t':=t) Un.refl I.hok
theorem zb.kept{t':Nat}(I:21#0)(k:∀ b u,s.heap.get? b=some u->h'.get? b=some u):zb X pins σ H { s with heap:=h',toks:=t' }:=I.un (Un.kept k) (I.hok.kept k)
theorem zb.laid{a:Addr}{o:HO}{t':Nat}(I:21#0)(k:∀ b u,s.heap.get? b=some u->h'.get? b=some u)(hp:s.heap.objs.size<=a)(new:wf X.prog X.w (wY H a o) h' a o) :
  zb X pins σ (wY H a o) { s with heap:=h',toks:=t' }:=I.un (Un.laid k hp (I.hok.fresh hp)) (I.hok.laid k hp new)
theorem zb.write{x e:Addr}{o:HO}{t':Nat}(I:21#0)(mu:Mut (H x))(he:e=x\/H e=some (.own x))(k:∀ b u,b≠e->s.heap.get? b=some u->h'.get? b=some u)(heo:∃ u,h'.get? e=some u)
  (new:wf X.prog X.w (wY H x o) h' x o):zb X pins σ (wY H x o) { s with heap:=h',toks:=t' }:=I.un (Un.write mu he k heo) (I.hok.write mu he k heo new)
theorem zb.weak{σ':List (Option V)}(I:21#0)(hl:σ'.length=σ.length)(w:∀(i:Nat) v,σ'[i]?=some (some v)->σ[i]?=some (some v)):zb X pins σ' H s :=
 ⟨I.ok,I.os,I.bare,I.base,let ⟨m,hn,hl'⟩:=I.loc;⟨m,hn,fun i x v e1 e2 e3=>hl' i x v e1 (w i v e2) e3⟩,I.cell,I.free,I.freeC,I.pin,I.hok,hl.trans I.len⟩
theorem zb.pins_of{pins':27#0}(I:21#0)(h:∀ p∈pins',s.heap.get? p.1=some p.2/\H p.1=none/\p.1≠X.env.locals/\p.1∉X.fs/\∀ v,p.2.data≠.cell v):zb X pins' σ H s :=
 ⟨I.ok,I.os,I.bare,I.base,I.loc,I.cell,I.free,I.freeC,fun p hp=>(cr.mp hp).elim (fun z=>I.pin p (dh _ z)) (h p),I.hok,I.len⟩
theorem zI5{N:List Str}(hN:N.Nodup){i j:Nat}{x:Str}(a:N[i]?=some x)(b:N[j]?=some x):i=j:=by
 obtain⟨h1,e1⟩:=cc.mp a;obtain⟨h2,e2⟩:=cc.mp b;exact(List.getElem_inj hN).mp (e1.trans e2.symm)
theorem zEg{M:Model}{A:Around}{E:11#0}{i:Nat}{x:Str}{v:V}{u:Value}{Q:Unit->Shared->Prop}(I:21#0)(hN:X.N.Nodup)(hi:X.N[i]?=some x)(hx:Loc X.env.scope x)(r:RelV v u)
  (h:∀ s',zb X pins (σ.set i (some v)) H s'->(∃ a,da a s.heap s'.heap/\(a=X.env.locals\/X.env.cells.lookup x=some a))->Q () s') (hf:34#0):wpAny M A (storeName X.env x u) Q E s:=by
 obtain⟨m,hn,hl⟩:=id I.loc;have hcls:(X.env.scope.kind==.class||(X.env.scope.kind==.module&&X.env.locals != X.env.globals))=false:=by rw[I.ok.kind];rfl
 have hiσ:i<σ.length:=by rw[I.len];exact(cc.mp hi).1
 have cne:=I.cne;have tracked:∀ {a:Addr} {h':Heap},(∃ o,s.heap.get? a=some o/\H a=none)->da a s.heap h'->HOk X.prog X.w H h':=fun {a h'} ha hs b ob e=>by
  obtain⟨u0,u0,hfree⟩:=ha;refine(I.hok b ob e).stay (fun c w' hc q=>(hs.2 c ?_).trans q) (fun u0 q=>q) (fun u0 u0 q=>q) fun u0 u0 u0 q=>q;rintro rfl;rcases hc with rfl | hc
  ·rw[hfree] at e;cases e
  ·rw[hfree] at hc;cases hc
 rcases hx with hk | hk
 ·refine wpAny_storeName_local hk hn (fun h' hn' hs=>?_) hcls
  obtain⟨oL,u0,u0,hoL,u0⟩:=id hn;refine h _ ⟨I.ok,I.os,I.bare,⟨fun b o e n hb hx=>?_,fun b o e n hb hx=>?_,I.base.free,fun b o e hx=>?_,I.base.tups,I.base.frzs,I.base.tbls⟩,⟨_,hn',fun j y v' e1 e2 e3=>?_⟩,fun y c e=>?_,I.free,I.freeC,fun p hp=>?_,tracked ⟨oL,hoL,I.free⟩ hs,by simpa using I.len⟩ ⟨_,hs,.inl rfl⟩
  ·exact(hs.2 b (cH (cE (ci e) I.ok.above))).trans (I.base.keep b o e n hb hx)
  ·obtain⟨sl,e1⟩:=I.base.slot b o e n hb hx
   exact⟨sl,(hs.2 b (cH (cE (ci e) I.ok.above))).trans e1⟩
  ·obtain⟨o',e1⟩:=I.base.there b o e hx
   exact⟨o',(hs.2 b (cH (cE (ci e) I.ok.above))).trans e1⟩
  ·by_cases hj:j=i
   ·subst hj
    rw[hi] at e1;cases e1;rw[eQ hiσ] at e2;cases e2;exact⟨u,r,.inl ⟨hk,by simp⟩⟩
   ·rw[fA (Ne.symm hj)] at e2
    obtain⟨u',r',q⟩:=hl j y v' e1 e2 e3;refine⟨u',r',?_⟩;rcases q with ⟨k,e⟩ | ⟨k,c,e,z⟩
    ·refine .inl ⟨k,?_⟩
     have:y≠x:=fun e=>hj (zI5 hN e1 (e▸hi));simp[this,e]
    ·exact .inr ⟨k,c,e,z.sameBut hs (cne y c e)⟩
  ·obtain⟨w',z⟩:=I.cell y c e
   exact⟨w',z.sameBut hs (cne y c e)⟩
  ·obtain⟨e,n,ne,nf,d⟩:=I.pin p hp
   exact⟨(hs.2 p.1 ne).trans e,n,ne,nf,d⟩
 ·have hfn:X.fn x=true:=by
   rcases hf with z | z
   ·exact z
   ·rw[z] at hk;cases hk
  obtain⟨c,hc⟩:=I.ok.has x (.inl hk);obtain⟨w',z⟩:=I.cell x c hc;refine wpAny_storeName_cell I.ok.kind hk hc z (fun h' hc' hs=>?_);obtain⟨oc,hoc,hocd⟩:=id z;refine h { s with heap:=h' } ⟨I.ok,I.os,I.bare,⟨fun b o e n hb hx=>?_,fun b o e n hb hx=>?_,I.base.free,fun b o e hx=>?_,I.base.tups,I.base.frzs,I.base.tbls⟩,⟨m,hn.sameBut hs (Ne.symm (cne x c hc)),fun j y v' e1 e2 e3=>?_⟩,fun y c' e=>?_,I.free,I.freeC,fun p hp=>?_,tracked ⟨oc,hoc,I.freeC x c hc⟩ hs,by simpa using I.len⟩ ⟨c,hs,.inr hc⟩
  ·exact(hs.2 b (cH (cE (ci e) (I.ok.cab x c hfn hc)))).trans (I.base.keep b o e n hb hx)
  ·obtain⟨sl,e1⟩:=I.base.slot b o e n hb hx
   exact⟨sl,(hs.2 b (cH (cE (ci e) (I.ok.cab x c hfn hc)))).trans e1⟩
  ·obtain⟨o',e1⟩:=I.base.there b o e hx
   exact⟨o',(hs.2 b (cH (cE (ci e) (I.ok.cab x c hfn hc)))).trans e1⟩
  ·by_cases hj:j=i
   ·subst hj
    rw[hi] at e1;cases e1;rw[eQ hiσ] at e2;cases e2;exact⟨u,r,.inr ⟨.inl hk,c,hc,hc'⟩⟩
   ·rw[fA (Ne.symm hj)] at e2
    obtain⟨u',r',q⟩:=hl j y v' e1 e2 e3;refine⟨u',r',?_⟩;rcases q with q | ⟨k,c',e,z'⟩
    ·exact .inl q
    ·refine .inr ⟨k,c',e,z'.sameBut hs ?_⟩
     rintro rfl;exact hj (zI5 hN e1 (I.ok.inj _ _ _ e hc▸hi))
  ·by_cases hcc:c'=c
   ·subst hcc;exact⟨_,hc'⟩
   ·obtain⟨w2,z2⟩:=I.cell y c' e
    exact⟨w2,z2.sameBut hs hcc⟩
  ·obtain⟨e,n,ne,nf,d⟩:=I.pin p hp
   refine⟨(hs.2 p.1 ?_).trans e,n,ne,nf,d⟩;intro q;rw[q,hoc] at e;have q':oc=p.2:=Option.some.inj e;exact d w' (by rw[<-q'];exact hocd)
theorem zDq{M:Model}{A:Around}{E:11#0}{i:Nat}{x:Str}{v:V}{u:Value}{Q:Unit->Shared->Prop}(I:21#0)(hN:X.N.Nodup)(hi:X.N[i]?=some x)(hx:Loc X.env.scope x)(r:RelV v u)
  (h:∀ s',zb X pins (σ.set i (some v)) H s'->Q () s') (hf:34#0):wpAny M A (storeName X.env x u) Q E s :=
 zEg I hN hi hx r (fun s' I' u0=>h s' I') hf
theorem zb.call'{s':Shared}{ch:List Addr}(I:21#0)(ho:s'.os=s.os)(u:Un (frs X.stack) ch H H' s.heap s'.heap)(hok:HOk X.prog X.w H' s'.heap)(hg:AllBare s'.gens)
  (hch:55#0):zb X pins σ H' s':=by
 obtain⟨h',g',d',t',o'⟩:=s';have e:o'=s.os:=ho;subst e;exact I.call (g':=g') (t':=t') (d':=d') u hok hg hch
end
noncomputable abbrev XK:=Value->Option Addr->Hp->Prop
noncomputable abbrev St:=List (Option V)
noncomputable abbrev VK:=V->Hp->Prop
noncomputable abbrev TE:=St->Hp->VK->Prop
noncomputable abbrev TT:=St->Hp->(Bool->Hp->Prop)->Prop
noncomputable abbrev TA:=St->Hp->(List V->Hp->Prop)->Prop
structure Ends where
 nx:St->Hp->Prop
 rt:VK
 bk:St->Hp->Prop:=fun u0 u0=>False
 ct:St->Hp->Prop:=fun u0 u0=>False
noncomputable abbrev TS:=Ends->St->Hp->Prop
noncomputable def EP(X:Cx)(pins:27#0)(σ:St)(Q:VK)(u:Value)(s':Shared):Prop:=∃ v H',zb X pins σ H' s'/\RelV v u/\Q v H'
noncomputable def TP(X:Cx)(pins:27#0)(σ:St)(Q:Bool->Hp->Prop)(b:Bool)(s':Shared):Prop:=∃ H',zb X pins σ H' s'/\Q b H'
noncomputable def AP(X:Cx)(pins:27#0)(σ:St)(Q:List V->Hp->Prop)(us:31#0)(s':Shared):Prop:=∃ vs H',zb X pins σ H' s'/\zf vs us/\Q vs H'
noncomputable def SP(X:Cx)(pins:27#0)(D:Ends)(f:Flow)(s':Shared):Prop :=
 match f with
 | .next=>∃ σ' H',zb X pins σ' H' s'/\D.nx σ' H'
 | .brk=>∃ σ' H',zb X pins σ' H' s'/\D.bk σ' H'
 | .cont=>∃ σ' H',zb X pins σ' H' s'/\D.ct σ' H'
 | .ret u=>∃ v σ' H',zb X pins σ' H' s'/\RelV v u/\D.rt v H'
noncomputable def PE(X:Cx)(e:Expr)(t:TE):Prop :=
 ∀(pins:27#0) (s:Shared) (σ:St) (H:Hp) (Q:VK),zb X pins σ H s->t σ H Q->wpAny 22#0 X.A (eval e X.env) (EP X pins σ Q) X.xe s
noncomputable def PT(X:Cx)(e:Expr)(t:TT):Prop :=
 ∀(pins:27#0) (s:Shared) (σ:St) (H:Hp) (Q:Bool->Hp->Prop),zb X pins σ H s->t σ H Q->wpAny 22#0 X.A (isTrue e X.env (eval e X.env)) (TP X pins σ Q) X.xe s
noncomputable def PW(X:Cx)(e:Expr)(t:TT):Prop :=
 ∀(whole:Sem Value) (pins:27#0) (s:Shared) (σ:St) (H:Hp) (Q:Bool->Hp->Prop),zb X pins σ H s->t σ H Q->wpAny 22#0 X.A (isTrue e X.env whole) (TP X pins σ Q) X.xe s
theorem PW.pt{X:Cx}{e:Expr}{t:TT}(h:PW X e t):PT X e t:=h _
noncomputable def PA(X:Cx)(es:List Expr)(t:TA):Prop :=
 ∀(pos:Pos) (pins:27#0) (s:Shared) (σ:St) (H:Hp) (Q:List V->Hp->Prop),zb X pins σ H s->t σ H Q->wpAny 22#0 X.A (spliced (backTo pos (starEach es X.env))) (AP X pins σ Q) X.xe s
noncomputable def PS(X:Cx)(st:Stmt)(t:TS):Prop :=
 ∀(pins:27#0) (s:Shared) (σ:St) (H:Hp) (D:Ends),zb X pins σ H s->t D σ H->wpAny 22#0 X.A (exec st X.env) (SP X pins D) X.xe s
noncomputable def PSs(X:Cx)(st:List Stmt)(t:TS):Prop :=
 ∀(pins:27#0) (s:Shared) (σ:St) (H:Hp) (D:Ends),zb X pins σ H s->t D σ H->wpAny 22#0 X.A (execs st X.env) (SP X pins D) X.xe s
theorem yz{α:Type}{t:Sem α}{Q Q':α->Shared->Prop}{M:Model}{A:Around}{E:11#0}{s:Shared}(h:wpAny M A t Q E s)(hQ:∀ a s,Q a s->Q' a s):wpAny M A t Q' E s:=wpAny_mono h hQ fun u0 u0 x=>x
section
variable {X:Cx}
noncomputable def zUF(i:Nat):TE:=fun σ H Q=>∃ v,σ[i]?=some (some v)/\Q v H
noncomputable def tC(v:V):TE:=fun u0 H Q=>Q v H
theorem zN5{i:Nat}{x:Str}{pos:Pos}(hN:X.N[i]?=some x)(hv:Vis X.env.scope x)(hd:9#0)(hcd:85#0):PE X (.Name x pos) (zUF i):=by
 sleep 18;obtain⟨v,e,h⟩:=h;obtain⟨m,hn,hl⟩:=I.loc;obtain⟨u,r,l⟩:=hl i x v hN e hv;have fin:EP X pins σ Q u s:=⟨v,H,I,r,h⟩
 rcases l with ⟨hk,hm⟩ | ⟨hk,c,hc,hcell⟩
 ·exact wpAny_Name (wpAny_loadName_local I.ok.kind hk hn hm fin) hd
 ·rcases hk with hk | hk
  ·exact wpAny_Name (wpAny_loadName_cell I.ok.kind hk hc hcell fin) hd
  ·exact wpAny_Name (wpAny_loadName_free I.ok.kind hk hc hcell fin hcd) hd
theorem zSk{i j pos}:PE X (.Constant (.int i) j pos) (tC (.int i)):=fun u0 u0 u0 H u0 I h=>wpAny_Constant_int ⟨.int i,H,I.tok _,⟨_,rfl⟩,h⟩
theorem zUG{b j pos}:PE X (.Constant (.bool b) j pos) (tC (.bl b)):=fun u0 u0 u0 H u0 I h=>Constant_bool ⟨.bl b,H,I,rfl,h⟩
theorem zSl{j pos}:PE X (.Constant .none j pos) (tC .non):=fun u0 u0 u0 H u0 I h=>Constant_none ⟨.non,H,I,rfl,h⟩
noncomputable def Gl(X:Cx)(x:Str):Prop:=X.env.kindOf x=some .globalImplicit
theorem zLd{E:11#0}{pins:27#0}{s:Shared}{σ:St}{H:Hp}{x:Str}{u:Value}{pos:Pos}{Q:11#0}(I:21#0)(hg:Gl X x)(hm:X.mg x=some u)(h:Q u s)
  (hd:9#0):wpAny 22#0 X.A (eval (.Name x pos) X.env) Q E s :=
 Calls.Name_function_global I.ok.kind hg (Calls.loadGlobal_global (by rw[I.ok.glob];exact I.mod.glob.keeps I.bk) hm h) hd
theorem zB2{E:11#0}{pins:27#0}{s:Shared}{σ:St}{H:Hp}{x:Str}{u:Value}{pos:Pos}{Q:11#0}(I:21#0)(hg:Gl X x)(hm:X.mg x=none)(hv:bootBuiltins x=some u)(h:Q u s)
  (hn:58#0) (hd:9#0):wpAny 22#0 X.A (eval (.Name x pos) X.env) Q E s:=by
 obtain⟨mb,h1,h2⟩:=I.mod.blt;exact Calls.Name_function_global I.ok.kind hg (Calls.loadGlobal_builtin (by rw[I.ok.glob];exact I.mod.glob.keeps I.bk) hm (by rw[I.ok.blt];exact h1.keeps I.bk) ((h2 x hn).trans hv) h) hd
theorem zQb{x:Str}{v:V}{u:Value}{pos:Pos}(hg:Gl X x)(hm:X.mg x=some u)(r:RelV v u)(hd:9#0):PE X (.Name x pos) (tC v) :=
 fun u0 u0 u0 H u0 I h=>zLd I hg hm ⟨v,H,I,r,h⟩ hd
theorem zQc{x:Str}{v:V}{u:Value}{pos:Pos}(hg:Gl X x)(hm:X.mg x=none)(hv:bootBuiltins x=some u)(r:RelV v u)(hn:58#0)(hd:9#0):PE X (.Name x pos) (tC v) :=
 fun u0 u0 u0 H u0 I h=>zB2 I hg hm hv ⟨v,H,I,r,h⟩ hn hd
variable {a b:Expr} {ta tb:TE} {pos:Pos}
noncomputable def tB(t:TE):TT:=fun σ H Q=>t σ H fun x H1=>∃ c,x=.bl c/\Q c H1
theorem zSm{e:Expr}{t:TE}(h:PE X e t)(he:autoParam (∀ whole,isTrue e X.env whole=(do let v <-whole;standAt e.pos;holding [v] (truthy v))) Zq3._auto_1):PT X e (tB t):=by
 intro pins s σ H Q I hw;refine isTrue_plain (yz (h pins s σ H _ I hw) fun v s1 ⟨x,H1,I1,r1,q1⟩=>?_) (he _);obtain⟨d,rfl,q⟩:=q1;cases r1;exact eC ⟨H1,I1,q⟩
variable {tA tB':TT} {rest:List Expr}
noncomputable def zU7(t u:TT):TT:=fun σ H Q=>t σ H fun c H1=>if c=true then u σ H1 Q else Q false H1
noncomputable def tOr(t u:TT):TT:=fun σ H Q=>t σ H fun c H1=>if c=true then Q true H1 else u σ H1 Q
noncomputable def zU8(t:TT):TT:=fun σ H Q=>t σ H fun c H1=>Q (!c) H1
theorem zQd(ha:PT X a tA):PW X (.BoolOp .And [a] pos) tA:=by
 intro wh pins s σ H Q I h;refine isTrue_and (yz (ha pins s σ H Q I h) fun c s1 e=>?_);cases c with
 | true=>exact isTrue_and_nil e
 | false=>exact e
theorem zSn(ha:PT X a tA):PW X (.BoolOp .Or [a] pos) tA:=by
 intro wh pins s σ H Q I h;refine isTrue_or (yz (ha pins s σ H Q I h) fun c s1 e=>?_);cases c with
 | false=>exact isTrue_or_nil e
 | true=>exact e
theorem zSo(ha:PT X a tA)(hb:PW X (.BoolOp .And (b::rest) pos) tB'):PW X (.BoolOp .And (a::b::rest) pos) (zU7 tA tB'):=by
 intro wh pins s σ H Q I h;refine isTrue_and (yz 136#0 fun c s1 u9=>?_);obtain⟨H1,I1,q1⟩:=u9;cases c with
 | true=>exact hb wh pins s1 σ H1 Q I1 q1
 | false=>exact⟨H1,I1,q1⟩
theorem zUH(ha:PT X a tA)(hb:PW X (.BoolOp .Or (b::rest) pos) tB'):PW X (.BoolOp .Or (a::b::rest) pos) (tOr tA tB'):=by
 intro wh pins s σ H Q I h;refine isTrue_or (yz 136#0 fun c s1 u9=>?_);obtain⟨H1,I1,q1⟩:=u9;cases c with
 | true=>exact⟨H1,I1,q1⟩
 | false=>exact hb wh pins s1 σ H1 Q I1 q1
theorem zSp(ha:PT X a tA):PT X (.UnaryOp .Not a pos) (zU8 tA):=by
 sleep 18;exact isTrue_not (ha pins s σ H (fun c H1=>Q (!c) H1) I h)
noncomputable def zUI(ta tb:TE):TE:=fun σ H Q=>ta σ H fun x H1=>∃ c,x=.bl c/\if c=true then tb σ H1 Q else Q (.bl false) H1
noncomputable def zU9(ta tb:TE):TE:=fun σ H Q=>ta σ H fun x H1=>∃ c,x=.bl c/\if c=true then Q (.bl true) H1 else tb σ H1 Q
noncomputable def zUJ(ta:TE):TE:=fun σ H Q=>ta σ H fun x H1=>∃ c,x=.bl c/\Q (.bl (!c)) H1
theorem zSq{op}{t:TE}(h:PE X a t):PE X (.BoolOp op [a] pos) t:=fun pins s σ H Q I hw=>BoolOp_one (h pins s σ H Q I hw)
theorem zSr(ha:PE X a ta)(hb:PE X (.BoolOp .And (b::rest) pos) tb):PE X (.BoolOp .And (a::b::rest) pos) (zUI ta tb):=by
 sleep 18;refine BoolOp_and (yz 136#0 fun v s1 u9=>?_);obtain⟨x,H1,I1,r1,q1⟩:=u9;obtain⟨c,rfl,q1⟩:=q1;cases r1;refine eC ?_;cases c with
 | true=>exact hb pins s1 σ H1 Q I1 q1
 | false=>exact⟨.bl false,H1,I1,rfl,q1⟩
theorem zUK(ha:PE X a ta)(hb:PE X (.BoolOp .Or (b::rest) pos) tb):PE X (.BoolOp .Or (a::b::rest) pos) (zU9 ta tb):=by
 sleep 18;refine BoolOp_or (yz 136#0 fun v s1 u9=>?_);obtain⟨x,H1,I1,r1,q1⟩:=u9;obtain⟨c,rfl,q1⟩:=q1;cases r1;refine eC ?_;cases c with
 | false=>exact hb pins s1 σ H1 Q I1 q1
 | true=>exact⟨.bl true,H1,I1,rfl,q1⟩
theorem zSs(ha:PE X a ta):PE X (.UnaryOp .Not a pos) (zUJ ta):=by
 sleep 18;refine UnaryOp_ (yz 136#0 fun v s1 u9=>?_);obtain⟨x,H1,I1,r1,q1⟩:=u9;obtain⟨c,rfl,q1⟩:=q1;cases r1;exact not_of (eC ⟨.bl (!c),H1,I1,rfl,q1⟩)
end
noncomputable def SqL(K:18#0)(H:Hp)(a:Addr)(xs:List V):Prop :=
 Rd H a (.lst xs) \/
  ∃(o:Obj) (its:123#0) (n:Nat),K.lookup a=some o/\o.cls=.type "list"/\o.dict=none/\o.data=.seq its n/\its.size<=sizeLine/\zf xs its.toList
noncomputable def SqT(K:18#0)(H:Hp)(a:Addr)(xs:List V):Prop :=
 Rd H a (.tup xs) \/
  ∃(o:Obj) (its:123#0) (n:Nat),K.lookup a=some o/\o.cls=.type "tuple"/\o.data=.seq its n/\its.size<=sizeLine/\zf xs its.toList/\o.dict=none
noncomputable def zVA:Value->Option V
 | .none=>some .non
 | .bool b=>some (.bl b)
 | .int i _=>some (.int i)
 | .str x _=>some (.str x)
 | .bytes b _=>some (.byt b)
 | .float b _=>some (.flt b)
 | .ref a=>some (.ref a)
 | .type n=>some (.ty n)
 | _=>none
theorem RelV.abs{x:V}{u:Value}(r:RelV x u):zVA u=some x:=by
 cases x with
 | non=>cases r;rfl
 | bl _=>cases r;rfl
 | int _=>obtain⟨t,rfl⟩:=r;rfl
 | str _=>obtain⟨t,rfl⟩:=r;rfl
 | byt _=>obtain⟨t,rfl⟩:=r;rfl
 | flt _=>obtain⟨t,rfl⟩:=r;rfl
 | ref _=>cases r;rfl
 | ty _=>cases r;rfl
theorem RelV.inj{x y:V}{u:Value}(r:RelV x u)(q:RelV y u):x=y:=Option.some.inj (r.abs.symm.trans q.abs)
theorem zf.inj:∀ {xs ys:List V} {us:31#0},zf xs us->zf ys us->xs=ys
 | _,_,_,.nil,.nil=>rfl
 | _,_,_,.cons r t,.cons r' t'=>by rw[r.inj r',zf.inj t t']
section
variable {X:Cx} {pins:List (Addr×Obj)} {σ:St} {H:Hp} {s:Shared} {a:Addr} {xs ys:List V}
theorem SqL.of{K:18#0}(h:H a=some (.lst xs)):SqL K H a xs:=.inl (.inl h)
theorem SqT.of{K:18#0}(h:H a=some (.tup xs)):SqT K H a xs:=.inl (.inl h)
theorem zb.list(I:21#0)(h:SqL X.K H a xs):∃ its:List Value,zf xs its/\PlainL s.heap a its.toArray/\xs.length<=sizeLine:=by
 rcases h with h | ⟨o,its,n,hk,hc,hd,hs,hz,r⟩
 ·obtain⟨z,its,n,r,e⟩:=h.ok I.hok
  exact⟨its,r,⟨_,n,e,rfl,rfl,rfl⟩,z⟩
 ·refine⟨its.toList,r,⟨o,n,I.kIn a o hk,hc,hd,by simpa using hs⟩,?_⟩
  have e:=r.length;simp only[cC] at e;omega
theorem zb.tuple(I:21#0)(h:SqT X.K H a xs):∃ its:List Value,zf xs its/\IsTup s.heap a its.toArray/\xs.length<=sizeLine:=by
 rcases h with h | ⟨o,its,n,hk,hc,hs,hz,r,u0⟩
 ·obtain⟨z,its,r,p⟩:=h.ok I.hok
  exact⟨its,r,p.isTup,z⟩
 ·refine⟨its.toList,r,⟨o,I.kIn a o hk,hc,n,by simpa using hs⟩,?_⟩
  have e:=r.length;simp only[cC] at e;omega
theorem zb.noDict(I:21#0)(h:SqT X.K H a xs):s.TypeIs (.ref a) "tuple"/\∃ ob,s.heap.get? a=some ob/\ob.dict=none:=by
 rcases h with h | ⟨o,its,n,hk,hc,hs,hz,r,hd⟩
 ·obtain⟨z,its,r,o,h1,h2,h3,h4⟩:=h.ok I.hok
  exact⟨⟨o,h1,h2⟩,o,h1,h4⟩
 ·exact⟨⟨o,I.kIn a o hk,hc⟩,o,I.kIn a o hk,hd⟩
theorem zb.list_inj(I:21#0)(h:SqL X.K H a xs)(h':SqL X.K H a ys):xs=ys:=by
 obtain⟨its,r,⟨o,n,e,u0,u0,d⟩,u0⟩:=I.list h;obtain⟨its',r',⟨o',n',e',u0,u0,d'⟩,u0⟩:=I.list h';rw[e] at e';cases e';rw[d] at d';injection d' with d1 _
 have:its=its':=by simpa using congrArg Array.toList d1
 subst this;exact r.inj r'
theorem zb.tuple_inj(I:21#0)(h:SqT X.K H a xs)(h':SqT X.K H a ys):xs=ys:=by
 obtain⟨its,r,⟨o,e,u0,n,d⟩,u0⟩:=I.tuple h;obtain⟨its',r',⟨o',e',u0,n',d'⟩,u0⟩:=I.tuple h';rw[e] at e';cases e';rw[d] at d';injection d' with d1 _
 have:its=its':=by simpa using congrArg Array.toList d1
 subst this;exact r.inj r'
end
noncomputable abbrev Cx.wish(X:Cx)(E:11#0):Cx:={ X with xe:=E }
noncomputable abbrev Cx.nox(X:Cx):Cx:=X.wish fun u0 u0=>False
theorem Cx.Ok.wish{X:Cx}(ok:X.Ok)(E:11#0):(X.wish E).Ok :=
 ⟨ok.mod,ok.kind,ok.glob,ok.blt,ok.above,ok.inj,ok.has,ok.cab,ok.hd,ok.frames,ok.stk,ok.exf,ok.bs,ok.bsz,ok.noex,ok.exfs,ok.funs,ok.frf,ok.tb⟩
theorem Cx.Ok.unwish{X:Cx}{E:11#0}(ok:(X.wish E).Ok):X.Ok :=
 ⟨ok.mod,ok.kind,ok.glob,ok.blt,ok.above,ok.inj,ok.has,ok.cab,ok.hd,ok.frames,ok.stk,ok.exf,ok.bs,ok.bsz,ok.noex,ok.exfs,ok.funs,ok.frf,ok.tb⟩
section
variable {X:Cx} {pins:List (Addr×Obj)} {σ:St} {H:Hp} {s:Shared} {E:Value->Shared->Prop}
theorem zb.wish(I:21#0)(E:11#0):zb (X.wish E) pins σ H s:=⟨I.ok.wish E,I.os,I.bare,I.base,I.loc,I.cell,I.free,I.freeC,I.pin,I.hok,I.len⟩
theorem zb.unwish(I:zb (X.wish E) pins σ H s):zb X pins σ H s:=⟨I.ok.unwish,I.os,I.bare,I.base,I.loc,I.cell,I.free,I.freeC,I.pin,I.hok,I.len⟩
theorem SP.unwish{D:Ends}{f:Flow}{s':Shared}(h:SP (X.wish E) pins D f s'):SP X pins D f s':=by
 cases f with
 | next=>obtain⟨σ',H',I,q⟩:=h;exact⟨σ',H',I.unwish,q⟩
 | brk=>obtain⟨σ',H',I,q⟩:=h;exact⟨σ',H',I.unwish,q⟩
 | cont=>obtain⟨σ',H',I,q⟩:=h;exact⟨σ',H',I.unwish,q⟩
 | ret u=>obtain⟨v,σ',H',I,r,q⟩:=h;exact⟨v,σ',H',I.unwish,r,q⟩
theorem PSs.nox{st:List Stmt}{t:TS}(h:PSs X.nox st t):PSs X st t:=fun pins s σ H D I hw =>
 wpAny_mono (h pins s σ H D (I.wish _) hw) (fun u0 u0 q=>q.unwish) fun u0 u0 z=>False.elim z
end
section
variable {X:Cx} {st:Stmt} {rest:List Stmt} {t u:TS} {e:Expr} {te:TE} {pos:Pos}
noncomputable def zUL:TS:=fun D σ H=>D.nx σ H
noncomputable def zVB(t u:TS):TS:=fun D σ H=>t { D with nx:=u D } σ H
theorem zQe:PSs X [] zUL:=fun u0 u0 σ H u0 I h=>wpAny_execs_nil ⟨σ,H,I,h⟩
theorem zN6(h1:PS X st t)(h2:PSs X rest u):PSs X (st::rest) (zVB t u):=by
 intro pins s σ H D I h;refine wpAny_execs_cons (yz (h1 pins s σ H { D with nx:=u D } I h) fun f s1 q=>?_);cases f with
 | next =>
  obtain⟨σ',H',I',q⟩:=q;exact h2 pins s1 σ' H' D I' q
 | ret v=>exact q
 | brk=>exact q
 | cont=>exact q
theorem zQf(h1:PS X st t):PSs X [st] t:=by
 intro pins s σ H D I h;refine wpAny_execs_cons (yz (h1 pins s σ H D I h) fun f s1 q=>?_);cases f with
 | next=>exact wpAny_execs_nil q
 | ret v=>exact q
 | brk=>exact q
 | cont=>exact q
theorem zb.quiet{pins:27#0}{σ:St}{H:Hp}{s:Shared}(I:21#0):interactive X.env=false:=by simp[interactive,I.ok.kind]
noncomputable def zUM(te:TE):TS:=fun D σ H=>te σ H fun u0 H1=>D.nx σ H1
theorem zQg(he:PE X e te)(hs:autoParam (swapsWith e none pos.line X.env=pure false) Zq4._auto_1):PS X (.Expr e pos) (zUM te):=by
 intro pins s σ H D I h;exact wpAny_Expr_any (yz (he pins s σ H _ I h) fun v s1 ⟨x,H1,I1,r1,q1⟩=>⟨σ,H1,I1,q1⟩) I.quiet hs
noncomputable def zVC(te:TE):TS:=fun D σ H=>te σ H D.rt
theorem zSt(he:PE X e te):PS X (.Return (some e) pos) (zVC te):=by
 intro pins s σ H D I h;exact wpAny_Return_some (yz (he pins s σ H _ I h) fun v s1 ⟨x,H1,I1,r1,q1⟩=>⟨x,σ,H1,I1,r1,q1⟩)
noncomputable def zVD(c:TT)(t u:TS):TS:=fun D σ H=>c σ H fun b H1=>if b=true then t D σ H1 else u D σ H1
theorem zUN{c:Expr}{a b:List Stmt}{tc:TT}(hc:PT X c tc)(ha:PSs X a t)(hb:PSs X b u):PS X (.If c a b pos) (zVD tc t u):=by
 intro pins s σ H D I h;refine wpAny_If (yz (hc pins s σ H _ I h) fun d s1 u9=>?_);obtain⟨H1,I1,q1⟩:=u9;cases d with
 | true=>exact ha pins s1 σ H1 D I1 q1
 | false=>exact hb pins s1 σ H1 D I1 q1
end
noncomputable abbrev TG:=V->St->Hp->(St->Hp->Prop)->Prop
noncomputable abbrev TGs:=List V->St->Hp->(St->Hp->Prop)->Prop
noncomputable def PG(X:Cx)(target:Expr)(t:TG):Prop :=
 ∀(pins:27#0) (s:Shared) (σ:St) (H:Hp) (v:V) (u:Value) (Q:St->Hp->Prop),zb X pins σ H s->RelV v u->t v σ H Q ->
  wpAny 22#0 X.A (assign target X.env u) (fun u0 s'=>∃ σ' H',zb X pins σ' H' s'/\Q σ' H') X.xe s
noncomputable def PGs(X:Cx)(ts:List Expr)(t:TGs):Prop :=
 ∀(pins:27#0) (s:Shared) (σ:St) (H:Hp) (vs:List V) (us:31#0) (Q:St->Hp->Prop),zb X pins σ H s->zf vs us->t vs σ H Q ->
  wpAny 22#0 X.A (assignInOrder ((assignEach ts X.env).map (·.2)) us) (fun u0 s'=>∃ σ' H',zb X pins σ' H' s'/\Q σ' H') X.xe s
noncomputable abbrev zSu:=V->V->V->Hp->(Hp->Prop)->Prop
noncomputable def zUO(X:Cx)(t:zSu):Prop :=
 ∀(pins:27#0) (s:Shared) (σ:St) (H:Hp) (o i v:V) (ov iv u:Value) (Q:Hp->Prop),zb X pins σ H s->RelV o ov->RelV i iv->RelV v u->t o i v H Q ->
  wpAny 22#0 X.A (setItem ov iv u) (fun u0 s'=>∃ H',zb X pins σ H' s'/\Q H') X.xe s
section
variable {X:Cx} {pos:Pos}
noncomputable def zDO(i:Nat):TG:=fun v σ H Q=>Q (σ.set i (some v)) H
theorem zBQ{i:Nat}{x:Str}(hN:X.N.Nodup)(hi:X.N[i]?=some x)(hx:Loc X.env.scope x)(hf:34#0):PG X (.Name x pos) (zDO i):=by
 intro pins s σ H v u Q I r h;exact wpAny_assign_Name (zDq I hN hi hx r (fun s' I'=>⟨_,H,I',h⟩) hf)
noncomputable def zSv:TGs:=fun vs σ H Q=>vs=[]/\Q σ H
noncomputable def zI6(t:TG)(u:TGs):TGs:=fun vs σ H Q=>∃ v r,vs=v::r/\t v σ H fun σ' H'=>u r σ' H' Q
theorem zLe:PGs X [] zSv:=by
 intro pins s σ H vs us Q I r h;obtain⟨e,h⟩:=h;subst e;cases r;exact assignInOrder_nil ⟨σ,H,I,h⟩
theorem zDr{e:Expr}{es:List Expr}{t:TG}{u:TGs}(h1:PG X e t)(h2:PGs X es u)
  (hs:autoParam ((assignEach (e::es) X.env).map (·.2)=assign e X.env::(assignEach es X.env).map (·.2)) Zq4._auto_1):PGs X (e::es) (zI6 t u):=by
 intro pins s σ H vs us Q I r h;obtain⟨v,vr,e1,h⟩:=h;subst e1;cases r with
 | cons r rr =>
  rw[hs];refine assignInOrder_cons (yz (h1 pins s σ H _ _ _ I r h) fun _ s1 u9=>?_);obtain⟨σ1,H1,I1,q1⟩:=u9;exact h2 pins s1 σ1 H1 _ _ Q I1 rr q1
noncomputable def zSw(K:18#0)(n:Nat)(t:TGs):TG:=fun v σ H Q=>∃ a xs,v=.ref a/\SqT K H a xs/\xs.length=n/\t xs σ H Q
theorem zN7{es:List Expr}{k:Nat}{t:TGs}{n:Nat}(hc:79#0)(h:PGs X es t)
  (hn:autoParam ((assignEach es X.env).length=n) Zq4._auto_1) (hst:autoParam ((assignEach es X.env).findIdx? (·.1)=none) Zq4._auto_1):PG X (.Tuple es k pos) (zSw X.K n t):=by
 intro pins s σ H v u Q I r hw;obtain⟨a,xs,e1,hq,hl,hw⟩:=hw;subst e1;cases r;obtain⟨its,rv,ht,hz⟩:=I.tuple hq;refine assign_Tuple_tuple (I.ok.hd hc) ht (by simp[hn,<-hl,rv.length]) hst fun h' hx=>?_;have I1:zb X pins σ H { s with heap:=h' }:=I.kept (t':=s.toks) fun b o e=>hx b o (cH (ci e)) e;exact h pins _ σ H xs _ Q I1 (by simpa using rv) hw
noncomputable def zVE(to ti:TE)(t:zSu):TG:=fun v σ H Q=>to σ H fun o H1=>ti σ H1 fun i H2=>t o i v H2 fun H3=>Q σ H3
theorem zSx{o i:Expr}{to ti:TE}{t:zSu}(ho:PE X o to)(hi:PE X i ti)(hs:zUO X t)
  (ha:autoParam (∀ v,assign (.Subscript o i pos) X.env v=(do
   let ov <-holding [v] (eval o X.env);let iv <-holding [v,ov] (eval i X.env)
   standAt pos
   holding [v,ov,iv] (setItem ov iv v)
   release [v,ov,iv] [])) Zq3._auto_1):PG X (.Subscript o i pos) (zVE to ti t):=by
 intro pins s σ H v u Q I r h;rw[ha];refine bQ (dt (yz (ho pins s σ H _ I h) fun ov s1 u9=>?_));obtain⟨x,H1,I1,r1,q1⟩:=u9;refine bQ (dt (yz (hi pins s1 σ H1 _ I1 q1) fun iv s2 u9=>?_));obtain⟨y,H2,I2,r2,q2⟩:=u9;refine bQ (wpAny_standAt (bQ (dt (yz (hs pins s2 σ H2 x y v ov iv u _ I2 r1 r2 r q2) fun _ s3 u9=>?_))));obtain⟨H3,I3,q3⟩:=u9;exact wpAny_release ⟨σ,H3,I3,q3⟩
noncomputable def zSy(te:TE)(g:TG):TS:=fun D σ H=>te σ H fun x H1=>g x σ H1 D.nx
theorem zSz{tg e:Expr}{te:TE}{g:TG}(he:PE X e te)(hg:PG X tg g)(hs:autoParam (swapsWithSole [tg] e pos.line X.env=pure false) Zq4._auto_1)(hw:autoParam (swappedStores [tg] e X.env=pure none) Zq4._auto_1)
  (h1:autoParam ((assignEach [tg] X.env).map (·.2)=[assign tg X.env]) Zq4._auto_1):PS X (.Assign [tg] e pos) (zSy te g):=by
 intro pins s σ H D I h;refine wpAny_Assign_stores (yz (he pins s σ H _ I h) fun v s1 ⟨x,H1,I1,r1,q1⟩=>?_) hs hw;rw[h1];exact yz (hg pins s1 σ H1 x v _ I1 r1 q1) fun u0 s2 q=>q
theorem zS0{i:Nat}{x:Str}{e:Expr}{te:TE}{pos':Pos}(hN:X.N.Nodup)(hi:X.N[i]?=some x)(hx:Loc X.env.scope x)(he:PE X e te)(hs:autoParam (swapsWith e (some (.Name x pos')) pos.line X.env=pure false) Zq4._auto_1)(hf:34#0) :
  PS X (.Assign [.Name x pos'] e pos) (zSy te (zDO i)):=by
 intro pins s σ H D I h;refine wpAny_Assign_Name (yz (he pins s σ H _ I h) fun v s1 ⟨y,H1,I1,r1,q1⟩=>?_) hs;exact zDq I1 hN hi hx r1 (fun s2 I2=>⟨_,H1,I2,q1⟩) hf
noncomputable def zVF(i j:Nat)(ta:TA):TS:=fun D σ H=>ta σ H fun vs H1=>∃ v w,vs=[v,w]/\D.nx ((σ.set i (some v)).set j (some w)) H1
theorem zS1{i j:Nat}{x y:Str}{a b:Expr}{ta:TA}{px py pt:Pos}{kt k2 pt2}(hc:79#0)(hN:X.N.Nodup)(hi:X.N[i]?=some x)(hj:X.N[j]?=some y)(hij:i≠j)
  (hx:X.env.scope.names.lookup x=some .local) (hy:X.env.scope.names.lookup y=some .local) (ha:PA X [a,b] ta)
  (hw:swappedStores [.Tuple [.Name x px,.Name y py] kt pt] (.Tuple [a,b] k2 pt2) X.env=pure (some [x,y]))
  (hs:autoParam (swapsWithSole [.Tuple [.Name x px,.Name y py] kt pt] (.Tuple [a,b] k2 pt2) pos.line X.env=pure false) Zq4._auto_1) :
  PS X (.Assign [.Tuple [.Name x px,.Name y py] kt pt] (.Tuple [a,b] k2 pt2) pos) (zVF i j ta):=by
 intro pins s σ H D I h;rw[exec_Assign_arm];refine bQ (wpAny_standAt ?_);rw[hs];refine bQ (c5 ?_);rw[if_neg 8#0];refine bQ (Tuple_ (yz (ha _ pins s σ H _ I h) fun us s1 u9=>?_));obtain⟨vs,H1,I1,r1,q1⟩:=u9;obtain⟨v,w,e1,q1⟩:=q1;subst e1;obtain⟨u1,u2,rfl,rv,rw'⟩:∃ u1 u2,us=[u1,u2]/\RelV v u1/\RelV w u2:=by
  cases r1 with
  | cons p q =>
   cases q with
   | cons p' q' =>
    cases q';exact⟨_,_,rfl,p,p'⟩
 refine dk ?_ (by show 2<=sizeLine;decide);have I2:zb X pins σ H1 { s1 with heap:=s1.heap.push { cls:=.type "tuple",data:=.seq [u1,u2].toArray } }:=I1.kept (t':=s1.toks) fun b o e=>bX _ e;rw[hw];refine bQ (c5 ?_);show wpAny 22#0 X.A (do rule "assign.swapped-stores";let items <-unpackItems (.ref s1.heap.objs.size) 2 none;assignInOrder [fun v=>bindName X.env y v,fun v=>bindName X.env x v] items.reverse;pure Flow.next) _ _ _;refine bQ (wpAny_rule (bQ (unpackItems_tuple (items:=#[u1,u2]) (I.ok.hd hc) (IsTup.new s1.heap _) fun h' hx'=>?_)));have I3:=I2.kept (h':=h') (t':=s1.toks) fun b o e=>hx' b o (cH (ci e)) e;show wpAny _ _ (assignInOrder [fun v=>bindName X.env y v,fun v=>bindName X.env x v] [u2,u1]>>=fun u0=>pure Flow.next) _ _ _;refine bQ (assignInOrder_cons (wpAny_bindName (zDq I3 hN hj (.inl hy) rw' (fun s2 I4=>?_) (.inr hy))));refine assignInOrder_cons (wpAny_bindName (zDq I4 hN hi (.inl hx) rv (fun s3 I5=>assignInOrder_nil (c5 ?_)) (.inr hx)));rw[List.set_comm _ _ (Ne.symm hij)] at I5;exact⟨_,H1,I5,q1⟩
noncomputable def zS2(c:TT)(tb:TS):TS:=fun D σ H=>∃ W:Nat->St->Hp->Prop,(∃ m,W m σ H)/\∀ m σ H,W m σ H ->
 c σ H fun b H1=>if b=true then ∃ N:St->Hp->Prop,(∀ σ' H',N σ' H'->∃ m',m'<m/\W m' σ' H')/\tb { D with nx:=N,ct:=N,bk:=D.nx } σ H1 else D.nx σ H1
theorem zN8{c:Expr}{body:List Stmt}{tc:TT}{tb:TS}(hp:PassesOwn 22#0 X.A X.env X.xe)(hc:PT X c tc)(hb:PSs X body tb):PS X (.While c body [] pos) (zS2 tc tb):=by
 intro pins s σ H D I h;obtain⟨W,⟨m0,w0⟩,turn⟩:=h;refine wpAny_While (codeAny_whileLoop (fun n s'=>∃ σ' H',zb X pins σ' H' s'/\W n σ' H') ?_ m0 ⟨σ,H,I,w0⟩);rintro n s1 ⟨σ1,H1,I1,w1⟩;refine fm hp (yz (hc pins s1 σ1 H1 _ I1 (turn n σ1 H1 w1)) fun b s2 u9=>?_);obtain⟨H2,I2,q2⟩:=u9;cases b with
 | true =>
  obtain⟨N,hN,q2⟩:=q2;rw[if_pos rfl];refine fm hp (yz (hb pins s2 σ1 H2 _ I2 q2) fun f s3 q3=>?_);cases f with
  | next =>
   obtain⟨σ3,H3,I3,n3⟩:=q3;obtain⟨m',hm,w3⟩:=hN σ3 H3 n3;exact⟨m',hm,σ3,H3,I3,w3⟩
  | cont =>
   obtain⟨σ3,H3,I3,n3⟩:=q3;obtain⟨m',hm,w3⟩:=hN σ3 H3 n3;exact⟨m',hm,σ3,H3,I3,w3⟩
  | brk=>exact q3
  | ret v=>exact q3
 | false =>
  rw[if_neg dR];exact wpAny_execs_nil ⟨σ1,H2,I2,q2⟩
end
structure It where
 go:Nat->Hp->Prop
 yld:Nat->Hp->V->Hp->Prop
 stop:Nat->Hp->Prop
noncomputable def zCY(X:Cx)(pins:27#0)(H:Hp)(b:Addr):Prop :=
 H b=none/\b≠X.env.locals/\b∉X.fs/\(b∈X.ex\/X.s₀.heap.objs.size<=b)/\(∀ x c,X.env.cells.lookup x=some c->c≠b)/\∀ p∈X.pn++pins,p.1≠b
theorem zb.fpOk{X:Cx}{pins:27#0}{σ:St}{H H':Hp}{s:Shared}{b:Addr}(I:21#0)(hb:s.heap.objs.size<=b)(hn:H' b=none):zCY X pins H' b:=by
 refine⟨hn,Nat.ne_of_gt (cE I.lt hb),I.nofs hb,.inr (di I.sz hb),fun x c e z=>?_,fun p hp z=>?_⟩
 ·obtain⟨v,q⟩:=I.cell x c e
  exact absurd (cE q.lt (by rw[z];exact hb)) (cR _)
 ·exact absurd (cE (ci (I.pin p hp).1) (by rw[z];exact hb)) (cR _)
structure Turn (P:Program) (w:World) (K:PySem.W.Frag) (tg:Expr) (J:It) (fp:List Addr) (it:Addr) (tn:Nat->Heap->Prop):Prop where
 mem:it∈fp
 obj:∀ i h,tn i h->∀ b∈fp,∃ o,h.get? b=some o/\∀ v,o.data≠.cell v
 keep:∀ i h h',tn i h->(∀ b∈fp,∀ o,h.get? b=some o->h'.get? b=some o)->tn i h'
 item:∀(X:Cx),X.prog=P->X.w=w->X.K=K->X.calm=true->∀(i:Nat) (pins:27#0) (s:Shared) (σ:St) (H:Hp) (E:11#0),zb X pins σ H s->(∀ b∈fp,zCY X pins H b)->tn i s.heap->J.go i H ->
  wpAny (model P w) X.A (pyNext (.ref it)) (fun r s1=>∃ u,r=some u /\
   wpAny (model P w) X.A (letOwnedTupleGo tg (.ref it) u) (fun u0 s2=>∃ x H',zb X pins σ H' s2/\RelV x u/\J.yld i H x H'/\tn (i+1) s2.heap/\∀ b∈fp,H' b=none) E s1) E s
 done:∀(X:Cx),X.prog=P->X.w=w->X.K=K->X.calm=true->∀(i:Nat) (pins:27#0) (s:Shared) (σ:St) (H:Hp) (E:11#0),zb X pins σ H s->(∀ b∈fp,zCY X pins H b)->tn i s.heap->J.stop i H ->
  wpAny (model P w) X.A (pyNext (.ref it)) (fun r s1=>r=none/\zb X pins σ H s1) E s
 self:∀(A:Around) (i:Nat) (s:Shared) (Q:11#0) (E:11#0),tn i s.heap->Q (.ref it) s->wpAny (model P w) A (pyIter (.ref it)) Q E s
noncomputable abbrev TI:=St->Hp->(It->Hp->Prop)->Prop
noncomputable def PIE(X:Cx)(pins:27#0)(σ:St)(tg:Expr)(R:It->Hp->Prop)(itv:Value)(s2:Shared):Prop :=
 ∃(it:Addr) (fp:List Addr) (tn:Nat->Heap->Prop) (J:It) (H':Hp),itv=.ref it/\zb X pins σ H' s2/\Turn X.prog X.w X.K tg J fp it tn/\tn 0 s2.heap/\(∀ b∈fp,zCY X pins H' b)/\R J H'
noncomputable def PI(X:Cx)(tg iter:Expr)(wi:TI):Prop :=
 ∀(pins:27#0) (s:Shared) (σ:St) (H:Hp) (R:It->Hp->Prop),zb X pins σ H s->wi σ H R ->
  wpAny 22#0 X.A (eval iter X.env) (fun v s1=>wpAny 22#0 X.A (pyIter v) (PIE X pins σ tg R) X.xe s1) X.xe s
theorem zN9{M:Model}{A:Around}{E:11#0}{s:Shared}{tg:Expr}{it:Addr}{u:Value}{o:Obj}{n:String}{vs:123#0}{Q:Unit->Shared->Prop}(ho:s.heap.get? it=some o)(hc:o.cls=.type n)(hd:o.data=.fields vs)
    (hn:["enumerate","zip","dict_itemiterator","dict_reverseitemiterator","odict_iterator","itertools.zip_longest","itertools.pairwise"].contains n=false) (hQ:Q () s):wpAny M A (letOwnedTupleGo tg (.ref it) u) Q E s:=by
  unfold letOwnedTupleGo;cases tg<;>first
    | exact c5 hQ
    | (cases u<;>first
        | exact c5 hQ
        | (refine bQ (wpAny_load ho ?_)
           rw[hc,hd];show wpAny M A (if (["enumerate","zip","dict_itemiterator","dict_reverseitemiterator","odict_iterator","itertools.zip_longest","itertools.pairwise"].contains n&&vs[0]?==some (rawInt _))=true then _ else _) Q E s;rw[if_neg (by intro h;rw[hn,Bool.false_and] at h;cases h)];exact c5 hQ))
noncomputable def Itl(K:18#0)(a:Addr):It :=
 ⟨fun i H=>∃ xs x,SqL K H a xs/\xs[i]?=some x,fun i H x H'=>H'=H/\∀ xs,SqL K H a xs->xs[i]?=some x,fun i H=>∃ xs,SqL K H a xs/\xs.length<=i⟩
noncomputable def Itt(K:18#0)(a:Addr):It :=
 ⟨fun i H=>∃ xs x,SqT K H a xs/\xs[i]?=some x,fun i H x H'=>H'=H/\∀ xs,SqT K H a xs->xs[i]?=some x,fun i H=>∃ xs,SqT K H a xs/\xs.length<=i⟩
noncomputable def Itr(lo:Int)(n:Nat):It:=⟨fun i u0=>i<n,fun i H x H'=>H'=H/\x=.int (lo+i),fun i u0=>n<=i⟩
theorem zMi{P:Program}{w:World}{K:18#0}{tg:Expr}(a it:Addr):Turn P w K tg (Itl K a) [it] it (fun i h=>h.IsListIter it a i) where
 mem:=by simp
 obj:=fun i h st b hb=>by
  have e:b=it:=by simpa using hb
  subst e;obtain⟨o,e,c,d⟩:=st;exact⟨o,e,fun v z=>by rw[d] at z;cases z⟩
 keep:=fun i h h' st k=>st.at fun o e=>k it 24#0 o e
 item:=by
  sleep 16;obtain⟨xs,x,hq,hx⟩:=hg;obtain⟨its,rv,p,hz⟩:=I.list hq;obtain⟨u,hu,ru⟩:=rv.get hx;obtain⟨f0,f1,f2,f3,f4,f5⟩:=hf it 24#0;refine wpAny_pyNext_list_item st p.isList (x:=u) (by simpa using hu) fun h' st' sb=>?_;have I1:zb X pins σ H { s with heap:=h' }:=I.turned (t':=s.toks) (fun b o hb e=>(sb.2 b hb).trans e) f0 f1 f3 f4 f5;obtain⟨o,e,c,d⟩:=id st';exact⟨u,rfl,zN9 (s:={ s with heap:=h' }) e c d 8#0 ⟨x,H,I1,ru,⟨rfl,fun ys hy=>by rw[I.list_inj hy hq];exact hx⟩,st',fun b hb=>(hf b hb).1⟩⟩
 done:=by
  sleep 16;obtain⟨xs,hq,hx⟩:=hg;obtain⟨its,rv,p,hz⟩:=I.list hq;obtain⟨f0,f1,f2,f3,f4,f5⟩:=hf it 24#0;have hl:=rv.length;exact wpAny_pyNext_list_end (I.ok.hd hc) st p.isList (by simp;omega) fun h' eb=>133#0
 self:=fun u0 u0 u0 u0 u0 st h=>wpAny_pyIter_listiter st h
theorem zKW{P:Program}{w:World}{K:18#0}{tg:Expr}(a it:Addr):Turn P w K tg (Itt K a) [it] it (fun i h=>h.IsTupleIter it a i) where
 mem:=by simp
 obj:=fun i h st b hb=>by
  have e:b=it:=by simpa using hb
  subst e;obtain⟨o,e,c,d⟩:=st;exact⟨o,e,fun v z=>by rw[d] at z;cases z⟩
 keep:=fun i h h' st k=>st.at fun o e=>k it 24#0 o e
 item:=by
  sleep 16;obtain⟨xs,x,hq,hx⟩:=hg;obtain⟨its,rv,p,hz⟩:=I.tuple hq;obtain⟨u,hu,ru⟩:=rv.get hx;obtain⟨f0,f1,f2,f3,f4,f5⟩:=hf it 24#0;refine wpAny_pyNext_tuple_item st (show s.heap.IsTuple a its.toArray from p) (x:=u) (by simpa using hu) fun h' st' sb=>?_;have I1:zb X pins σ H { s with heap:=h' }:=I.turned (t':=s.toks) (fun b o hb e=>(sb.2 b hb).trans e) f0 f1 f3 f4 f5;obtain⟨o,e,c,d⟩:=id st';exact⟨u,rfl,zN9 (s:={ s with heap:=h' }) e c d 8#0 ⟨x,H,I1,ru,⟨rfl,fun ys hy=>by rw[I.tuple_inj hy hq];exact hx⟩,st',fun b hb=>(hf b hb).1⟩⟩
 done:=by
  sleep 16;obtain⟨xs,hq,hx⟩:=hg;obtain⟨its,rv,p,hz⟩:=I.tuple hq;obtain⟨f0,f1,f2,f3,f4,f5⟩:=hf it 24#0;have hl:=rv.length;exact wpAny_pyNext_tuple_end (I.ok.hd hc) st (show s.heap.IsTuple a its.toArray from p) (by simp;omega) fun h' eb=>133#0
 self:=fun u0 u0 u0 u0 u0 st h=>wpAny_pyIter_tupleiter st h
theorem zKX{P:Program}{w:World}{K:18#0}{tg:Expr}(it:Addr)(lo:Int)(n:Nat):Turn P w K tg (Itr lo n) [it] it (fun i h=>IsRangeIter h it (lo+(i:Nat)*1) ((n:Int)-(i:Nat)) 1) where
 mem:=by simp
 obj:=fun i h st b hb=>by
  have e:b=it:=by simpa using hb
  subst e;exact⟨_,st,fun v z=>by
   have z':Data.fields _=Data.cell v:=z;cases z'⟩
 keep:=fun i h h' st k=>k it 24#0 _ st
 item:=by
  sleep 16;obtain⟨f0,f1,f2,f3,f4,f5⟩:=hf it 24#0;have W:=Walks.range (prog:=X.prog) (w:=X.w) (I.ok.hd hc) it lo 1 n;refine W.item i s _ _ hg st fun v h' tk hv st' kk=>?_;obtain⟨t,rfl⟩:=hv;have I1:zb X pins σ H { s with heap:=h',toks:=tk }:=I.turned (fun b o hb e=>kk b o (by simpa using hb) e) f0 f1 f3 f4 f5;refine⟨_,rfl,zN9 (s:={ s with heap:=h',toks:=tk }) (n:="range_iterator") st' rfl rfl 8#0 ⟨.int (lo+i),H,I1,⟨t,?_⟩,⟨rfl,rfl⟩,st',fun b hb=>(hf b hb).1⟩⟩;rw[Int.mul_one]
 done:=by
  sleep 16;obtain⟨f0,f1,f2,f3,f4,f5⟩:=hf it 24#0;exact wpAny_pyNext_range_end (I.ok.hd hc) st (by have:n<=i:=hg;omega) fun h' eb=>133#0
 self:=fun u0 u0 u0 u0 u0 st h=>wpAny_pyIter_rangeiter st h
section
variable {X:Cx} {tg:Expr}
theorem zI7{pins:27#0}{σ:St}{H:Hp}{s:Shared}{R:It->Hp->Prop}{E:11#0}{lo hi:Int}{t u v:Tok}{tk:Nat}(I:21#0)(h1:-(2 ^ 62)<=lo)(h2:lo<2 ^ 62)(h3:-(2 ^ 62)<=hi)(h4:hi<2 ^ 62)
  (q:R (Itr lo (hi-lo).toNat) H):wpAny 22#0 X.A (pyIter 36#0) (PIE X pins σ tg R) E { s with heap:=s.heap.push { cls:=.type "range",data:=.fields #[.int lo t,.int hi u,.int 1 v] },toks:=tk }:=by
 refine wpAny_pyIter_range (IsRange.new ..) (small_one h1 h2 h3 h4) ?_;have I1:zb X pins σ H { s with heap:=s.heap.push { cls:=.type "range",data:=.fields #[.int lo t,.int hi u,.int 1 v] },toks:=tk }:=I.kept fun b o e=>bX _ e;refine⟨(s.heap.push { cls:=.type "range",data:=.fields #[.int lo t,.int hi u,.int 1 v] }).objs.size,[(s.heap.push { cls:=.type "range",data:=.fields #[.int lo t,.int hi u,.int 1 v] }).objs.size],_,_,H,rfl,
  I1.kept (t':=tk) fun b o e=>bX _ e,zKX _ lo (hi-lo).toNat,?_,fun b hb=>?_,q⟩
 ·have e1:lo+((0:Nat):Int)*1=lo:=by simp
  have e2:(((hi-lo).toNat:Nat):Int)-((0:Nat):Int)=Builtin.Range.rangeSize lo hi 1:=by rw[rangeSize_one];split<;>omega
  show IsRangeIter _ _ (lo+((0:Nat):Int)*1) ((((hi-lo).toNat:Nat):Int)-((0:Nat):Int)) 1;rw[e1,e2];exact ck _ rfl
 ·have e:b=(s.heap.push { cls:=.type "range",data:=.fields #[.int lo t,.int hi u,.int 1 v] }).objs.size:=by simpa using hb
  subst e;exact I1.fpOk (ce _) (I1.hok.fresh (ce _))
noncomputable def zUP(ta:TA):TI:=fun σ H R=>ta σ H fun vs H1=>∃ j:Int,vs=[.int j]/\-(2 ^ 62)<=j/\j<2 ^ 62/\R (Itr 0 j.toNat) H1
noncomputable def zUQ(ta:TA):TI:=fun σ H R=>ta σ H fun vs H1=>∃ i j:Int,vs=[.int i,.int j]/\(-(2 ^ 62)<=i/\i<2 ^ 62/\-(2 ^ 62)<=j/\j<2 ^ 62)/\R (Itr i (j-i).toNat) H1
theorem zMj{a:Expr}{ta:TA}{p pos:Pos}(hg:Gl X "range")(hm:X.mg "range"=none)(ha:PA X [a] ta)(hs:66#0):PI X tg (.Call (.Name "range" p) [a] [] pos) (zUP ta):=by
 intro pins s σ H R I h;refine Call_ (zB2 I hg hm boot_range (PyProof.Rows.callWith_type1 (yz (ha pos pins s σ H _ I h) fun us s1 ⟨vs,H1,I1,r1,q1⟩=>?_) hs rfl));obtain⟨j,e,q1,q2,q⟩:=q1;subst e;cases r1 with
 | cons r rr =>
  cases rr;obtain⟨t,rfl⟩:=r;exact call_range_1 (zI7 I1 2#0 2#0 q1 q2 (by simpa using q))
theorem zMk{a b:Expr}{ta:TA}{p pos:Pos}(hg:Gl X "range")(hm:X.mg "range"=none)(ha:PA X [a,b] ta)(hs:autoParam (starEach [a,b] X.env=[(false,eval a X.env),(false,eval b X.env)]) Zq4._auto_1)(hs2:autoParam (starEach [b] X.env=[(false,eval b X.env)]) Zq4._auto_1) :
  PI X tg (.Call (.Name "range" p) [a,b] [] pos) (zUQ ta):=by
 intro pins s σ H R I h;refine Call_ (zB2 I hg hm boot_range (PyProof.Rows.callWith_type1 (yz (ha pos pins s σ H _ I h) fun us s1 ⟨vs,H1,I1,r1,q1⟩=>?_) (by rw[hs,hs2]) (by rw[hs2];rfl)));obtain⟨i,j,e,⟨q1,q2,q3,q4⟩,q⟩:=q1;subst e;cases r1 with
 | cons r rr =>
  cases rr with
  | cons r' rr =>
   cases rr;obtain⟨t,rfl⟩:=r;obtain⟨t',rfl⟩:=r';exact call_range_2 (zI7 I1 q1 q2 q3 q4 q)
noncomputable def zVG(wi:TI)(g:TG)(tb:TS):TS:=fun D σ H=>wi σ H fun J H1=>∃ W:Nat->Nat->St->Hp->Prop,(∃ m,W 0 m σ H1)/\∀ i m σ H,W i m σ H ->
 (J.stop i H/\D.nx σ H)\/(J.go i H/\∃ N:St->Hp->Prop,(∀ σ' H',N σ' H'->∃ m',m'<m/\W (i+1) m' σ' H')/\∀ x H',J.yld i H x H'->g x σ H' fun σ2 H2=>tb { D with nx:=N,ct:=N,bk:=D.nx } σ2 H2)
noncomputable def zFp(fp:List Addr)(h:Heap):List (Addr×Obj):=fp.filterMap fun b=>(h.get? b).map fun o=>(b,o)
theorem zB3{fp:List Addr}{h:Heap}{b:Addr}{o:Obj}(hb:b∈fp)(e:h.get? b=some o):(b,o)∈zFp fp h:=List.mem_filterMap.mpr ⟨b,hb,by rw[e];rfl⟩
theorem zMl{fp:List Addr}{h:Heap}{p:Addr×Obj}(hp:p∈zFp fp h):p.1∈fp/\h.get? p.1=some p.2:=by
 obtain⟨b,hb,e⟩:=List.mem_filterMap.mp hp;cases q:h.get? b with
 | none=>rw[q] at e;cases e
 | some o =>
  rw[q] at e;have e':(b,o)=p:=Option.some.inj e;subst e';exact⟨hb,q⟩
theorem zb.pinned{pins:27#0}{σ:St}{H:Hp}{s:Shared}{fp:List Addr}(I:21#0)(hf:∀ b∈fp,zCY X pins H b)(ho:∀ b∈fp,∃ o,s.heap.get? b=some o/\∀ v,o.data≠.cell v):zb X (pins++zFp fp s.heap) σ H s :=
 I.pins_of fun p hp=>(cr.mp hp).elim (fun z=>I.pin p (cS _ z)) fun z=>by
  obtain⟨hb,e⟩:=zMl z;obtain⟨f0,f1,f2,u0⟩:=hf p.1 hb;obtain⟨o,e',d⟩:=ho p.1 hb;rw[e] at e';cases e';exact⟨e,f0,f1,f2,d⟩
theorem zb.unpinned{pins pl:27#0}{σ:St}{H:Hp}{s:Shared}(I:zb X (pins++pl) σ H s):zb X pins σ H s:=I.pins_of fun p hp=>I.pin p (cS _ (dh _ hp))
theorem zS3{iter:Expr}{body:List Stmt}{wi:TI}{g:TG}{tb:TS}{pos:Pos}(hp:PassesOwn 22#0 X.A X.env X.xe)(hc:79#0)(hi:PI X tg iter wi)(hg:PG X tg g)(hb:PSs X body tb)
  (hs:17#0):PS X (.For tg iter body [] pos) (zVG wi g tb):=by
 intro pins s σ H D I h;refine wpAny_For (yz (hi pins s σ H _ I h) fun v s1 h1=>yz h1 fun itv s2 h2=>?_) hs;obtain⟨it,fp,tn,J,H2,e,I2,T,st2,f2,W,⟨m0,w0⟩,turn⟩:=h2;subst e
 -- what stays true of the iterator's objects through the loop
 have stat:∀ {H':Hp},(∀ b∈fp,H' b=none)->∀ b∈fp,zCY X pins H' b:=fun hn b hb=>⟨hn b hb,(f2 b hb).2⟩
 refine codeAny_forLoop_any (fun n s'=>∃ i σ' H',zb X pins σ' H' s'/\tn i s'.heap/\(∀ b∈fp,H' b=none)/\W i n σ' H') ?_ m0 ⟨0,σ,H2,I2,st2,fun b hb=>(f2 b hb).1,w0⟩;rintro n s3 ⟨i,σ3,H3,I3,st3,fr3,w3⟩;rcases turn i n σ3 H3 w3 with ⟨stop,qn⟩ | ⟨go,N,hN,step⟩
 ·refine fm hp (yz (T.done X rfl rfl rfl hc i pins s3 σ3 H3 X.xe I3 (stat fr3) st3 stop) fun r s4 u9=>?_);obtain⟨hr,I4⟩:=u9
  subst hr;exact wpAny_execs_nil ⟨σ3,H3,I4,qn⟩
 ·refine fm hp (yz (T.item X rfl rfl rfl hc i pins s3 σ3 H3 X.xe I3 (stat fr3) st3 go) fun r s4 u9=>?_);obtain⟨u,hr,h4⟩:=u9
  subst hr;refine fm hp (yz h4 fun _ s5 u9=>?_);obtain⟨x,H5,I5,r5,y5,st5,fr5⟩:=u9;have I5':=I5.pinned (stat fr5) (T.obj _ _ st5);refine fm hp (yz (hg _ s5 σ3 H5 x u _ I5' r5 (step x H5 y5)) fun _ s6 u9=>?_);obtain⟨σ6,H6,I6,q6⟩:=u9;refine fm hp (yz (hb _ s6 σ6 H6 _ I6 q6) fun f s7 q7=>?_);have again:∀ {σ7:St} {H7:Hp},zb X (pins++zFp fp s5.heap) σ7 H7 s7->N σ7 H7->∃ m,m<n/\∃ i σ' H',zb X pins σ' H' s7/\tn i s7.heap/\(∀ b∈fp,H' b=none)/\W i m σ' H':=fun {σ7 H7} I7 n7=>by
   obtain⟨m',hm,w7⟩:=hN σ7 H7 n7;refine⟨m',hm,i+1,σ7,H7,I7.unpinned,T.keep _ _ _ st5 fun b hb o e=>(I7.pin (b,o) (cS _ (cS _ (zB3 hb e)))).1,fun b hb=>?_,w7⟩;obtain⟨o,e,d⟩:=T.obj _ _ st5 b hb;exact(I7.pin (b,o) (cS _ (cS _ (zB3 hb e)))).2.1
  cases f with
  | next=>obtain⟨σ7,H7,I7,n7⟩:=q7;exact again I7 n7
  | cont=>obtain⟨σ7,H7,I7,n7⟩:=q7;exact again I7 n7
  | brk=>obtain⟨σ7,H7,I7,q7⟩:=q7;exact⟨σ7,H7,I7.unpinned,q7⟩
  | ret v=>obtain⟨x7,σ7,H7,I7,r7,q7⟩:=q7;exact⟨x7,σ7,H7,I7.unpinned,r7,q7⟩
end
noncomputable abbrev R2:=V->V->Hp->VK->Prop
noncomputable def OpR(X:Cx)(f:Value->Value->Sem Value)(r:R2):Prop :=
 ∀(pins:27#0) (s:Shared) (σ:St) (H:Hp) (x y:V) (v u:Value) (Q:VK),zb X pins σ H s->RelV x v->RelV y u->r x y H Q ->
  wpAny 22#0 X.A (f v u) (EP X pins σ Q) X.xe s
noncomputable def wD(X:Cx)(f:Value)(r:124#0):Prop :=
 ∀(pins:27#0) (s:Shared) (σ:St) (H:Hp) (xs:List V) (us:31#0) (Q:VK),zb X pins σ H s->zf xs us->r xs H Q ->
  wpAny 22#0 X.A (call f us) (EP X pins σ Q) X.xe s
noncomputable def tOp(r:R2)(ta tb:TE):TE:=fun σ H Q=>ta σ H fun x H1=>tb σ H1 fun y H2=>r x y H2 Q
noncomputable def rI(C:Int->Int->Prop)(g:Int->Int->V):R2:=fun x y H Q=>∃ i j,x=.int i/\y=.int j/\C i j/\Q (g i j) H
noncomputable def rI0(g:Int->Int->V):R2:=fun x y H Q=>∃ i j,x=.int i/\y=.int j/\Q (g i j) H
section
variable {X:Cx} {a b c:Expr} {ta tb tc:TE} {pos:Pos}
theorem zS4(ha:PE X a ta)(hb:PE X b tb){pins:27#0}{s:Shared}{σ:St}{H:Hp}{R:V->V->Hp->Prop}(I:21#0)
  (h:ta σ H fun x H1=>tb σ H1 fun y H2=>R x y H2) {Q:11#0} {f:Value->Value->Sem Value}
  (hf:∀ v u s2 x y H2,zb X pins σ H2 s2->RelV x v->RelV y u->R x y H2->wpAny 22#0 X.A (f v u) Q X.xe s2) :
  wpAny 22#0 X.A (eval a X.env) (fun v s₁=>wpAny 22#0 X.A (eval b X.env) (fun u s₂=>wpAny 22#0 X.A (f v u) Q X.xe s₂) X.xe s₁) X.xe s:=by
 refine yz 136#0 fun v s1 u9=>?_;obtain⟨x,H1,I1,r1,q1⟩:=u9;refine yz (hb pins s1 σ H1 _ I1 q1) fun u s2 u9=>?_;obtain⟨y,H2,I2,r2,q2⟩:=u9;exact hf v u s2 x y H2 I2 r1 r2 q2
theorem zOA{op:Operator}{r:R2}(ho:OpR X (binaryOp op) r)(ha:PE X a ta)(hb:PE X b tb):PE X (.BinOp a op b pos) (tOp r ta tb):=by
 sleep 18;exact wpAny_BinOp (zS4 ha hb I h fun v u s2 x y H2 I2 rx ry q=>ho pins s2 σ H2 x y v u Q I2 rx ry q)
theorem opI{f:Value->Value->Sem Value}{C:Int->Int->Prop}{g:Int->Int->Int}
  (rule:∀(i j:Int) (t u:Tok) (s:Shared) (Q:11#0) (E:11#0),C i j->Q (.int (g i j) s.toks) { s with toks:=s.toks+1 }->wpAny 22#0 X.A (f (.int i t) (.int j u)) Q E s) :
  OpR X f (rI C fun i j=>.int (g i j)):=by
 sleep 10;obtain⟨i,j,rfl,rfl,hc,q⟩:=h;obtain⟨t,rfl⟩:=rx;obtain⟨t',rfl⟩:=ry;exact rule i j t t' s _ _ hc ⟨.int (g i j),H,I.tok _,⟨_,rfl⟩,q⟩
theorem zS5{f:Value->Value->Sem Value}{g:Int->Int->Int}
  (rule:∀(i j:Int) (t u:Tok) (s:Shared) (Q:11#0) (E:11#0),Q (.int (g i j) s.toks) { s with toks:=s.toks+1 }->wpAny 22#0 X.A (f (.int i t) (.int j u)) Q E s) :
  OpR X f (rI0 fun i j=>.int (g i j)):=by
 sleep 10;obtain⟨i,j,rfl,rfl,q⟩:=h;obtain⟨t,rfl⟩:=rx;obtain⟨t',rfl⟩:=ry;exact rule i j t t' s _ _ ⟨.int (g i j),H,I.tok _,⟨_,rfl⟩,q⟩
theorem zQh{f:Value->Value->Sem Value}{g:Int->Int->Bool}
  (rule:∀(i j:Int) (t u:Tok) (s:Shared) (Q:11#0) (E:11#0),Q (.bool (g i j)) s->wpAny 22#0 X.A (f (.int i t) (.int j u)) Q E s) :
  OpR X f (rI0 fun i j=>.bl (g i j)):=by
 sleep 10;obtain⟨i,j,rfl,rfl,q⟩:=h;obtain⟨t,rfl⟩:=rx;obtain⟨t',rfl⟩:=ry;exact rule i j t t' s _ _ ⟨.bl (g i j),H,I,rfl,q⟩
noncomputable def zEh(i j:Int):Prop:=0<j/\j<1073741824
noncomputable def zDd(i j:Int):Prop:=0<=j/\j<=1000000/\i.natAbs<2 ^ 64
noncomputable def zG3(i j:Int):Prop:=(-(2 ^ 64)<i/\i<2 ^ 64)\/(-(2 ^ 64)<j/\j<2 ^ 64)
theorem zG3.ok{i j:Int}(h:zG3 i j):IntMulOk i j:=by
 rcases h with ⟨h1,h2⟩ | ⟨h1,h2⟩
 ·exact .of_left (intBits_le_64 h1 h2)
 ·exact .of_right (intBits_le_64 h1 h2)
theorem zS6:OpR X (binaryOp .Add) (rI0 fun i j=>.int (i+j)):=zS5 fun u0 u0 u0 u0 u0 u0 u0 q=>add_int q
theorem zS7:OpR X (binaryOp .Sub) (rI0 fun i j=>.int (i-j)):=zS5 fun u0 u0 u0 u0 u0 u0 u0 q=>sub_int q
theorem zS8:OpR X (binaryOp .Mult) (rI zG3 fun i j=>.int (i*j)):=opI fun u0 u0 u0 u0 u0 u0 u0 hc q=>mul_int q hc.ok
theorem zQi:OpR X (binaryOp .FloorDiv) (rI zEh fun i j=>.int (i / j)):=opI fun i j u0 u0 u0 u0 u0 hc q=>by
 have h1:(0:Int)<j:=hc.1;have h2:j<1073741824:=hc.2;exact floordiv_int 2#0 (by rw[Int.fdiv_eq_ediv_of_nonneg i 2#0];exact q) (.inl (PyProof.noPylong_small 2#0))
theorem zS9:OpR X (binaryOp .Mod) (rI (fun u0 j=>0<j) fun i j=>.int (i%j)):=opI fun i j u0 u0 u0 u0 u0 hc q=>by
 have h1:(0:Int)<j:=hc;exact mod_int' 2#0 (by rw[Int.fmod_eq_emod_of_nonneg i 2#0];exact q)
theorem zTA:OpR X (binaryOp .Pow) (rI zDd fun i j=>.int (i ^ j.toNat)):=opI fun u0 u0 u0 u0 u0 u0 u0 hc q=>pow_int_small hc.1 hc.2.1 hc.2.2 q
theorem zTB:OpR X (binaryOp .LShift) (rI zDd fun i j=>.int (i*2 ^ j.toNat)):=opI fun u0 u0 u0 u0 u0 u0 u0 hc q=>lshift_int_small hc.1 hc.2.1 hc.2.2 q
theorem zTC:OpR X (binaryOp .BitXor) (rI0 fun i j=>.int (Builtin.bitXor i j)):=zS5 fun u0 u0 u0 u0 u0 u0 u0 q=>xor_int q
theorem zOB:OpR X (compareOp .Lt) (rI0 fun i j=>.bl (decide (i<j))):=zQh fun u0 u0 u0 u0 u0 u0 u0 q=>lt_int q
theorem zLf:OpR X (compareOp .LtE) (rI0 fun i j=>.bl (decide (i<=j))):=zQh fun u0 u0 u0 u0 u0 u0 u0 q=>le_int q
theorem zUR:OpR X (compareOp .Gt) (rI0 fun i j=>.bl (decide (j<i))):=zQh fun u0 u0 u0 u0 u0 u0 u0 q=>gt_int q
theorem zUS:OpR X (compareOp .GtE) (rI0 fun i j=>.bl (decide (j<=i))):=zQh fun u0 u0 u0 u0 u0 u0 u0 q=>ge_int q
theorem OpR.or{f:Value->Value->Sem Value}{r r':R2}(h:OpR X f r)(h':OpR X f r'):OpR X f (fun x y H Q=>r x y H Q\/r' x y H Q):=by
 intro pins s σ H x y v u Q I rx ry q;rcases q with q | q
 ·exact h pins s σ H x y v u Q I rx ry q
 ·exact h' pins s σ H x y v u Q I rx ry q
theorem zBh(b:Expr){op:CmpOp}(h:autoParam (op≠.In) Zq2._auto_1)(h2:autoParam (op≠.NotIn) Zq2._auto_1):behindInMarks op b=false:=by
 have e1:(op==CmpOp.In)=false:=by cases op<;>first | rfl | exact absurd rfl h
 have e2:(op==CmpOp.NotIn)=false:=by cases op<;>first | rfl | exact absurd rfl h2
 cases b<;>simp[behindInMarks,e1,e2]
theorem zQj{op:CmpOp}{r:R2}(ho:OpR X (compareOp op) r)(ha:PE X a ta)(hb:PE X b tb)(hm:behindInMarks op b=false):PE X (.Compare a [op] [b] pos) (tOp r ta tb):=by
 sleep 18;exact wpAny_Compare1 (zS4 ha hb I h fun v u s2 x y H2 I2 rx ry q=>ho pins s2 σ H2 x y v u Q I2 rx ry q) hm
noncomputable def zUT(t:TE):TT:=fun σ H Q=>t σ H fun x H'=>∃ k,x=.bl k/\Q k H'
theorem zQk{op:CmpOp}{r:R2}(ho:OpR X (compareOp op) r)(ha:PE X a ta)(hb:PE X b tb)(hm:behindInMarks op b=false):PT X (.Compare a [op] [b] pos) (zUT (tOp r ta tb)):=by
 intro pins s σ H Q I h;refine wpAny_isTrue_Compare1 (yz 136#0 fun v s1 ⟨x,H1,I1,r1,q1⟩=>yz (hb pins s1 σ H1 _ I1 q1) fun u s2 ⟨y,H2,I2,r2,q2⟩ =>
  yz (ho pins s2 σ H2 x y v u _ I2 r1 r2 q2) fun c s3 ⟨z,H3,I3,r3,k,e,q3⟩=>?_) hm
 subst e;cases r3;exact eC ⟨H3,I3,q3⟩
noncomputable def zOC(r r':R2)(ta tb tc:TE):TE:=fun σ H Q=>ta σ H fun x H1=>tb σ H1 fun y H2=>r x y H2 fun z H3=>∃ k,z=.bl k /\
 (if k=true then tc σ H3 fun w' H4=>r' y w' H4 Q else Q (.bl false) H3)
theorem zOD{op op':CmpOp}{r r':R2}(ho:OpR X (compareOp op) r)(ho':OpR X (compareOp op') r')(ha:PE X a ta)(hb:PE X b tb)(hc:PE X c tc)
  (hm:autoParam (lastMarks [op,op'] [b,c]=false) Zq5._auto_1):PE X (.Compare a [op,op'] [b,c] pos) (zOC r r' ta tb tc):=by
 intro pins s σ H Q I h;refine Compare_chain (yz 136#0 fun v s1 ⟨x,H1,I1,r1,q1⟩=>chain_link (yz (hb pins s1 σ H1 _ I1 q1) fun u s2 ⟨y,H2,I2,r2,q2⟩ =>
  yz (ho pins s2 σ H2 x y v u _ I2 r1 r2 q2) fun d s3 ⟨z,H3,I3,r3,k,e,q3⟩=>?_)) hm
 subst e;cases r3;refine eC ?_;cases k with
 | false=>exact ite_ff ⟨.bl false,H3,I3,rfl,q3⟩
 | true=>exact ite_tt (chain_last (yz (hc pins s3 σ H3 _ I3 q3) fun w' s4 ⟨z',H4,I4,r4,q4⟩=>ho' pins s4 σ H4 y z' u w' Q I4 r2 r4 q4))
theorem zIB:(sizeLine:Nat)<2 ^ 63:=by rw[sizeLine_eq];decide
theorem vals1{x:V}{us:31#0}(r:zf [x] us):∃ u,us=[u]/\RelV x u:=by
 cases r with
 | cons r1 r2=>cases r2;exact⟨_,rfl,r1⟩
theorem vals2{x y:V}{us:31#0}(r:zf [x,y] us):∃ u w',us=[u,w']/\RelV x u/\RelV y w':=by
 cases r with
 | cons r1 r2 =>
  cases r2 with
  | cons r3 r4=>cases r4;exact⟨_,_,rfl,r1,r3⟩
theorem zMm(hc:79#0):wD X (.builtin "max") (fun xs H Q=>∃ i j,xs=[.int i,.int j]/\Q (.int (if j>i then j else i)) H):=by
 sleep 9;obtain⟨i,j,rfl,q⟩:=h;obtain⟨u,w',rfl,⟨t,rfl⟩,⟨t',rfl⟩⟩:=vals2 r;refine max_two_ints (I.ok.hd hc) fun h' tk k=>⟨_,H,I.kept k,?_,q⟩
 by_cases hj:j>i
 ·rw[if_pos hj,if_pos hj];exact⟨_,rfl⟩
 ·rw[if_neg hj,if_neg hj];exact⟨_,rfl⟩
theorem zMn(hc:79#0):wD X (.builtin "min") (fun xs H Q=>∃ i j,xs=[.int i,.int j]/\Q (.int (if j<i then j else i)) H):=by
 sleep 9;obtain⟨i,j,rfl,q⟩:=h;obtain⟨u,w',rfl,⟨t,rfl⟩,⟨t',rfl⟩⟩:=vals2 r;refine min_two_ints (I.ok.hd hc) fun h' tk k=>⟨_,H,I.kept k,?_,q⟩
 by_cases hj:j<i
 ·rw[if_pos hj,if_pos hj];exact⟨_,rfl⟩
 ·rw[if_neg hj,if_neg hj];exact⟨_,rfl⟩
end
structure zQl (h:Heap) (x dx C:Addr) (mA:Str->Option Value):Prop where
 obj:h.get? x=some (PySem.W.instObj C dx)
 ns:h.Ns1 dx mA
 ne:dx≠x
theorem zMo{h:Heap}{dx:Addr}{mA:78#0}(n:h.Ns1 dx mA):∃ od,h.get? dx=some od/\∀ name,PySem.W.lookIn name od=some (mA name):=by
 obtain⟨o,es,ep,ho,hd,hk,u0,hm⟩:=n;refine⟨o,ho,fun name=>?_⟩;have e:=hm name;unfold nsFind findBy at e;rw[<-Array.find?_toList] at e;unfold PySem.W.lookIn;rw[hd];dsimp only;split
 ·rename_i y q
  rw[q] at e;exact congrArg some e
 ·rename_i q
  rw[q] at e;have a:es.toList.any (·.refKey)=false:=by
   rw[List.any_eq_false];intro y hy;obtain⟨z,t,hkey⟩:=hk y (dD.mp hy);simp[DictEntry.refKey,hkey]
  have a':¬ es.toList.any (·.refKey)=true:=by rw[a];exact dR
  rw[if_neg a'];exact congrArg some e
theorem zQl.look{h:Heap}{x dx C:Addr}{mA:78#0}(I:zQl h x dx C mA):∃ od,PySem.W.InstAt h x (PySem.W.instObj C dx) C (some od)/\∀ name,PySem.W.lookIn name od=some (mA name) :=
 let ⟨od,ho,hl⟩:=zMo I.ns
 ⟨od,⟨I.obj,rfl,rfl,ho⟩,hl⟩
section
variable {prog:Program} {w:World} {A:Around} {E:Value->Shared->Prop} {s:Shared} {K:PySem.W.Frag} {x dx C f:Addr} {mA:Str->Option Value} {name:Str} {v:Value}
theorem zBR{expr:Bool}{Q:11#0}(X:K.In s.heap)(I:zQl s.heap x dx C mA)(hg:PySem.W.plainGet K C name=true)(hh:PySem.W.hasDictIn K C=true)
  (ha:PySem.W.findIn K (.ref C) name=some none) (hv:mA name=some v) (hv':PySem.W.handedIn v=true) (h:Q v { s with toks:=s.toks+1 }) :
  wpAny 16#0 A (getAttr (.ref x) name expr) Q E s:=by
 obtain⟨od,J,hl⟩:=I.look;exact PySem.W.get_value X J (PySem.W.plainGet_of hg).1 (PySem.W.findObj_own hh ha rfl (by rw[hl,hv])) hv' h
end
section
variable {P:Program} {w:World} {H H':Hp} {h h':Heap} {a C dx:Addr} {fs fs':List (Str×V)}
theorem zQm(hok:HOk P w H h)(e:H a=some (.ins C dx fs)):∃ mA,zQl h a dx C mA/\(∀ f,zSj (fs.lookup f) (mA f))/\PySem.Within mA (fs.map (·.1))/\fs.length<=1000/\H dx=some (.own a):=by
 obtain⟨d,z,ne,ob,mA,n,r,q⟩:=(show wf P w H h a (.ins C dx fs) from hok a _ e)
 exact⟨mA,⟨ob,n,ne⟩,r,q,z,d⟩
end
structure Cls (K:PySem.W.Frag) (C:Addr):Prop where
 pg:PySem.W.plainGet K C Str.empty=true
 hd:PySem.W.hasDictIn K C=true
 po:PySem.W.plainOver K C=true
 sa:PySem.W.findIn K (.ref C) "__setattr__"=some (some (.builtin "object.__setattr__"))
theorem Cls.get{K:18#0}{C:Addr}(c:Cls K C)(f:Str):PySem.W.plainGet K C f=true:=c.pg
section
variable {X:Cx} {pins:List (Addr×Obj)} {σ:St} {H:Hp} {s:Shared} {a C dx:Addr} {fs:List (Str×V)} {f:Str} {v:V} {A:Around} {E:Value->Shared->Prop}
end
section
variable {X:Cx} {o e value:Expr} {f:Str} {pos pos' tpos:Pos} {ta tv:TE}
end
section
variable {X:Cx} {pins:List (Addr×Obj)} {σ:St} {H:Hp} {s:Shared} {A:Around} {E:Value->Shared->Prop} {Q:Value->Shared->Prop} {c:Value} {b:Bool}
set_option genInjectivity true in
inductive zFH (K:PySem.W.Frag) (H:Hp):V->Value->Prop where
 | non:zFH K H .non (.type "NoneType")
 | bl (x:Bool):zFH K H (.bl x) (.type "bool")
 | int (i:Int):zFH K H (.int i) (.type "int")
 | str (x:Str):zFH K H (.str x) (.type "str")
 | flt (x:UInt64):zFH K H (.flt x) (.type "float")
 | lst {a:Addr} {xs:List V} (e:H a=some (.lst xs)):zFH K H (.ref a) (.type "list")
 | frz {a:Addr} {o:Obj} {xs:List V} (e:H a=some (.frz o (.lst xs))):zFH K H (.ref a) (.type "list")
 | tup {a:Addr} {xs:List V} (e:H a=some (.tup xs)):zFH K H (.ref a) (.type "tuple")
 | dK {a:Addr} {kvs:List (Key×V)} (e:H a=some (.dK kvs)):zFH K H (.ref a) (.type "dict")
 | dT {a:Addr} {kvs:List (List Key×V)} (e:H a=some (.dT kvs)):zFH K H (.ref a) (.type "dict")
 | ins {a C dx:Addr} {fs:List (Str×V)} (e:H a=some (.ins C dx fs)) (cl:Cls K C) (ha:PySem.W.findIn K (.ref C) "__class__"=some (some (.builtin "object.__class__")))
   (hn:PySem.W.specialIn K (.builtin "object.__class__") "__get__"=some (some (.builtin "getset_descriptor.__get__"))) (htk:PySem.W.takesIn K (.builtin "object.__class__")=some true)
   (hm:PySem.W.mroIn K C (.type "object")=some true):zFH K H (.ref a) (.ref C)
theorem zCu{x:V}{u t:Value}(I:21#0)(rx:RelV x u)(ty:zFH X.K H x t)(e:PySem.W.kitOne X.K t c=some b)(h:∀ tk,Q (.bool b) { s with toks:=tk }) :
  wpAny 22#0 A (call (.builtin "isinstance") [u,c]) Q E s:=by
 cases ty with
 | non=>cases (show u=Value.none from rx);exact PySem.W.kia_one PySem.W.kitx_none I.kIn True.intro e (fun z=>nomatch z) h
 | bl y=>cases (show u=Value.bool y from rx);exact PySem.W.kia_one PySem.W.kitx_bool I.kIn True.intro e (fun z=>nomatch z) h
 | int i=>obtain⟨t,q⟩:=(show ∃ t,u=Value.int i t from rx);cases q;exact PySem.W.kia_one PySem.W.kitx_int I.kIn True.intro e (fun z=>nomatch z) h
 | str y=>obtain⟨t,q⟩:=(show ∃ t,u=Value.str y t from rx);cases q;exact PySem.W.kia_one PySem.W.kitx_str I.kIn True.intro e (fun z=>nomatch z) h
 | flt y=>obtain⟨t,q⟩:=(show ∃ t,u=Value.float y t from rx);cases q;exact PySem.W.kia_one PySem.W.kitx_float I.kIn True.intro e (fun z=>nomatch z) h
 | @lst a xs ea =>
  sleep 28;obtain⟨u0,u0,n,u0,h1⟩:=(show wf X.prog X.w H s.heap a (.lst xs) from I.hok a _ ea)
  exact PySem.W.kia_one PySem.W.kitx_list I.kIn ⟨_,h1,rfl⟩ e (fun z=>nomatch z) h
 | @frz a ob xs ea =>
  sleep 28;obtain⟨u0,u0,u0,n,u0,h1⟩:=(show wf X.prog X.w H s.heap a (.frz ob (.lst xs)) from I.hok a _ ea)
  exact PySem.W.kia_one PySem.W.kitx_list I.kIn ⟨_,h1,rfl⟩ e (fun z=>nomatch z) h
 | @tup a xs ea =>
  sleep 28;obtain⟨u0,u0,u0,p⟩:=(show wf X.prog X.w H s.heap a (.tup xs) from I.hok a _ ea)
  obtain⟨o,h1,h2,u0⟩:=p;exact PySem.W.kia_one PySem.W.kitx_tuple I.kIn ⟨o,h1,h2⟩ e (fun z=>nomatch z) h
 | @dK a kvs ea =>
  sleep 28;obtain⟨u0,u0,vs,u0,p⟩:=(show wf X.prog X.w H s.heap a (.dK kvs) from I.hok a _ ea)
  obtain⟨o,es,ep,h1,h2,u0⟩:=p;exact PySem.W.kia_one PySem.W.kitx_dict I.kIn ⟨o,h1,h2.1⟩ e (fun z=>nomatch z) h
 | @dT a kvs ea =>
  sleep 28;obtain⟨u0,u0,xs,u0,o,es,ep,h1,h2,u0⟩:=(show wf X.prog X.w H s.heap a (.dT kvs) from I.hok a _ ea)
  exact PySem.W.kia_one PySem.W.kitx_dict I.kIn ⟨o,h1,h2.1⟩ e (fun z=>nomatch z) h
 | @ins a C dx fs ea cl ha hn htk hm =>
  sleep 28;obtain⟨mA,O,u0⟩:=zQm I.hok ea;obtain⟨od,J,u0⟩:=O.look;exact PySem.W.kia_one (PySem.W.kitx_own (cl.get _) cl.hd ha hn htk hm) I.kIn J e (fun z=>nomatch z) h
end
structure wL (k:Nat) (A:Around):Prop where
 hd:A.handled=none
 dp:A.depth+3*k+5<recursionLimit
 un:A.units+16*k+200<cLine
theorem wL.mono{j k:Nat}{A:Around}(r:wL k A)(h:j<=k):wL j A:=⟨r.hd,by have:=r.dp;omega,by have:=r.un;omega⟩
theorem wL.deeper{k:Nat}{A:Around}(r:wL (k+1) A)(env:Env):wL k (A.deeper env) :=
 ⟨r.hd,by have:=r.dp;show A.depth+1+3*k+5<_;omega,by have:=r.un;show A.units+3+16*k+200<_;omega⟩
theorem wL.depth{k:Nat}{A:Around}(r:wL k A):A.depth<recursionLimit:=by have:=r.dp;omega
theorem wL.units{k:Nat}{A:Around}(r:wL k A):A.units+64<cLine:=by have:=r.un;omega
noncomputable def zUU:TA:=fun u0 H Q=>Q [] H
noncomputable def zSE(ta:TE)(tr:TA):TA:=fun σ H Q=>ta σ H fun x H1=>tr σ H1 fun xs H2=>Q (x::xs) H2
section
variable {X:Cx} {e:Expr} {es:List Expr} {te:TE} {t:TA} {pos:Pos}
theorem zB4:PA X [] zUU:=fun u0 u0 u0 u0 H Q I h=>Calls.spliced_nil ⟨[],H,I,.nil,h⟩
theorem zAb(ha:PE X e te)(hr:PA X es t)(hs:13#0):PA X (e::es) (zSE te t):=by
 intro pos pins s σ H Q I h;rw[hs];show wpAny _ _ (spliced ((false,eval e X.env)::backTo pos (starEach es X.env))) _ _ s;refine Calls.spliced_cons (yz 136#0 fun u s1 u9=>?_);obtain⟨x,H1,I1,r1,q1⟩:=u9;exact yz (hr pos pins s1 σ H1 _ I1 q1) fun us s2 ⟨xs,H2,I2,r2,q2⟩=>⟨x::xs,H2,I2,.cons r1 r2,q2⟩
noncomputable def zVH(t:TA):TE:=fun σ H Q=>t σ H fun xs H1=>xs.length<=sizeLine/\∀ p,H1 p=none->Q (.ref p) (wY H1 p (.tup xs))
noncomputable def zVI(t:TA):TE:=fun σ H Q=>t σ H fun xs H1=>xs.length<=sizeLine/\∀ p,H1 p=none->Q (.ref p) (wY H1 p (.lst xs))
theorem zTD{x1}(h:PA X es t):PE X (.Tuple es x1 pos) (zVH t):=by
 intro pins s σ H Q I hq;refine wpAny_Tuple_spliced (yz (h pos pins s σ H _ I hq) fun us s1 ⟨xs,H1,I1,r,z,q⟩=>⟨by rw[<-r.length];exact z,?_⟩);have hf:H1 s1.heap.objs.size=none:=I1.hok.fresh (ce _);refine⟨.ref s1.heap.objs.size,wY H1 s1.heap.objs.size (.tup xs),I1.laid (t':=s1.toks) (fun b u e=>bX _ e) (ce _) ?_,rfl,q _ hf⟩;exact⟨z,us,r,⟨_,ck _ rfl,rfl,⟨_,rfl⟩,rfl⟩⟩
theorem zTE(h:PA X es t):PE X (.List es pos) (zVI t):=by
 intro pins s σ H Q I hq;refine wpAny_List_spliced (yz (h pos pins s σ H _ I hq) fun us s1 ⟨xs,H1,I1,r,z,q⟩=>⟨by rw[<-r.length];exact z,?_⟩);have hf:H1 s1.heap.objs.size=none:=I1.hok.fresh (ce _);refine⟨.ref s1.heap.objs.size,wY H1 s1.heap.objs.size (.lst xs),I1.laid (t':=s1.toks) (fun b u e=>bX _ e) (ce _) ?_,rfl,q _ hf⟩;exact⟨z,us,0,r,ck _ rfl⟩
end
noncomputable abbrev Sp:=List V->Hp->VK->XK->Prop
noncomputable abbrev CXT:=List Env->Hp->Shared->XK->Value->Shared->Prop
structure zQn (P:Program) (w:World) (K:PySem.W.Frag) (mg:Str->Option Value) (base:Heap) (A:Around) (outer:List Env) (s:Shared) (H:Hp):Prop where
 frames:A.frames=some outer
 mod:Mod K mg base
 bs:∀ b o,base.get? b=some o->s.heap.get? b=some o/\H b=none
 bsz:base.objs.size<=s.heap.objs.size
 funs:s.heap.FunFrames base outer
 frf:∀ b∈frs outer,H b=none
 hok:HOk P w H s.heap
 bare:AllBare s.gens
 tb:TabsOk K H
noncomputable def CE(outer:List Env)(P:Program)(w:World)(H:Hp)(s:Shared)(Q:VK)(u:Value)(s':Shared):Prop :=
 ∃ v H',s'.os=s.os/\AllBare s'.gens/\Un (frs outer) [] H H' s.heap s'.heap/\HOk P w H' s'.heap/\RelV v u/\Q v H'
noncomputable def CR(CX:CXT)(outer:List Env)(P:Program)(w:World)(H:Hp)(s:Shared)(Q:VK)(E:XK)(r:Result)(s':Shared):Prop :=
 match r with
 | .ok (.ret u)=>CE outer P w H s Q u s'
 | .ok _=>False
 | .error e=>CX outer H s E e s'
structure zFq (P:Program) (w:World) (K:PySem.W.Frag) (mg:Str->Option Value) (base:Heap) (CX:CXT) (k:Nat) (f:Addr) (fd:FuncData) (ps:List Str) (sp:Sp):Prop where
 len:∀ vs H Q E,sp vs H Q E->vs.length=ps.length
 run:∀(A:Around) (outer:List Env) (s:Shared) (H:Hp) (args:Args) (us:31#0) (vs:List V) (Q:VK) (E:XK),wL k A->zQn P w K mg base A outer s H->BindsTo s fd args (ps.zip us)->zf vs us->sp vs H Q E ->
  codeAny (model P w) A (.call (.ref f) args) (CR CX outer P w H s Q E) s
section
variable {X:Cx} {pins:List (Addr×Obj)} {σ:St} {H:Hp} {s s':Shared}
theorem zb.env0(I:21#0):zQn X.prog X.w X.K X.mg X.base X.A X.stack s H :=
 ⟨I.ok.frames,I.ok.mod,I.bs,di I.ok.bsz I.sz,I.stack,I.stkFree,I.hok,I.bare,I.tabs⟩
theorem zb.after{Q:VK}{u:Value}(I:21#0)(h:CE X.stack X.prog X.w H s Q u s'):EP X pins σ Q u s':=by
 obtain⟨v,H',os,bare,un,hok,r,q⟩:=h;obtain⟨hh,g,d,t,os'⟩:=s';obtain rfl:os'=s.os:=os;exact⟨v,H',I.call (h':=hh) (g':=g) (d':=d) (t':=t) (ch:=[]) un hok bare (fun b z=>absurd z 24#0),r,q⟩
end
noncomputable def zUV(sp:Sp)(dvs:List V)(E:XK)(t:TA):TE:=fun σ H Q=>t σ H fun vs H1=>sp (vs++dvs) H1 Q E
noncomputable def Binds(K:18#0)(fd:FuncData)(ps:List Str)(ds:31#0):Prop :=
 ∀(s:Shared) (us:31#0),K.In s.heap->(us++ds).length=ps.length->BindsTo s fd ⟨us,[]⟩ (ps.zip (us++ds))
theorem Binds.all{K:18#0}{fd:FuncData}{ps:List Str}(h:∀ us:List Value,us.length=ps.length->bindArgs fd ⟨us,[]⟩=pure (ps.zip us)):Binds K fd ps []:=fun s us u0 hl=>by
 rw[eG] at hl ⊢;exact .of_eq (h us hl)
noncomputable def zKY(CX:CXT)(X:Cx)(E:XK):Prop:=∀(pins:27#0) (σ:St) (H:Hp) (s:Shared) (e:Value) (s':Shared),zb X pins σ H s->CX X.stack H s E e s'->X.xe e s'
section
variable {X:Cx} {CX:CXT} {k:Nat} {f C:Addr} {fd:FuncData} {ps:List Str} {sp:Sp} {dvs:List V} {ds:List Value} {E:XK} {x m:Str} {p pos apos:Pos} {e o:Expr} {es:List Expr} {ta:TE} {t:TA}
theorem zTF{pins:27#0}{σ:St}{H:Hp}{s:Shared}{Q:VK}{us:31#0}{vs:List V}(F:zFq X.prog X.w X.K X.mg X.base CX k f fd ps sp)(hr:wL k X.A)(hb:Binds X.K fd ps ds)(hd:zf dvs ds)(hx:zKY CX X E)
  (I:21#0) (r:zf vs us) (h:sp (vs++dvs) H Q E):wpAny 22#0 X.A (call (.ref f) us) (EP X pins σ Q) X.xe s:=by
 have r2:zf (vs++dvs) (us++ds):=r.append hd;have hl:(us++ds).length=ps.length:=by rw[<-r2.length];exact F.len _ _ _ _ h
 refine wpAny_call (er (F.run X.A X.stack s H ⟨us,[]⟩ (us++ds) (vs++dvs) Q E hr I.env0 (hb s us I.kIn hl) r2 h) fun r s' hq=>?_);cases r with
 | error e=>exact hx pins σ H s e s' I hq
 | ok fl =>
  cases fl with
  | ret u=>exact I.after hq
  | next=>exact False.elim hq
  | brk=>exact False.elim hq
  | cont=>exact False.elim hq
theorem zLg(F:zFq X.prog X.w X.K X.mg X.base CX k f fd ps sp)(hr:wL k X.A)(hg:Gl X x)(hm:X.mg x=some (.ref f))(hk:PySem.W.keepIn X.K (.ref f)=true)(hb:Binds X.K fd ps ds)(hd:zf dvs ds)(hx:zKY CX X E)
  (ha:PA X (e::es) t) (hdb:9#0) (he:13#0) (hpl:38#0) :
  PE X 104#0 (zUV sp dvs E t):=by
 sleep 18;refine fi (zLd I hg hm ?_ hdb);refine PySem.W.callWith_K (h₀:=X.base) I.ok.mod.kin hk (yz (ha pos pins s σ H _ I h) fun us s1 ⟨vs,H1,I1,r,q⟩=>⟨I1.kIn,?_⟩) he hpl;exact zTF F hr hb hd hx I1 r q
end
section
variable {X:Cx} {CX:CXT} {k:Nat} {f C:Addr} {fd:FuncData} {ps ks:List Str} {sp:Sp} {E:XK} {x m:Str} {p pos apos kpos:Pos} {e o:Expr} {es:List Expr} {kws:List Keyword} {te ta:TE} {t tk:TA} {nm:Option Str}
variable {g:List Value->List Value->List Value} {gV:List V->List V->List V}
end
structure zY (N P:List Str) (sc:Scope):Prop where
 kind:sc.kind=.function
 co:sc.isCoroutine=false
 gen:sc.isGenerator=false
 nd:N.Nodup
 pre:N.take P.length=P
 par:∀ x∈P,sc.names.lookup x=some .local\/sc.names.lookup x=some .cell
 nofree:∀ y∈sc.names,y.2≠.free
theorem zHI{kindOf:Str->Option NameKind}{x:Str}:∀ {binds:List (Str×Value)} {m:78#0},(∀ v,(x,v)∉binds)->bindL kindOf binds m x=m x
 | [],_,_=>rfl
 | (n,v)::r,m,h=>by
  unfold bindL;rw[zHI fun w hw=>h w (cq _ hw)];split
  ·have:x≠n:=by rintro rfl;exact h v cF
   simp[this]
  ·rfl
theorem zHJ{kindOf:Str->Option NameKind}{x:Str}:∀ {binds:List (Str×Value)} {m:78#0},(∀ v,(x,v)∉binds)->bindC kindOf binds m x=m x
 | [],_,_=>rfl
 | (n,v)::r,m,h=>by
  unfold bindC;rw[zHJ fun w hw=>h w (cq _ hw)];split
  ·rfl
  ·have:x≠n:=by rintro rfl;exact h v cF
   simp[this]
theorem zHK{kindOf:Str->Option NameKind}{x:Str}{v:Value}:∀ {P:List Str} {vs:31#0} {i:Nat} {m:78#0},P.Nodup->P[i]?=some x->vs[i]?=some v->kindOf x=some .local ->
  bindL kindOf (P.zip vs) m x=some v
 | [],_,_,_,_,h,_,_=>by simp at h
 | _::_,[],_,_,_,_,h,_=>by simp at h
 | p::P,w::vs,0,m,nd,h1,h2,hk=>by
  simp at h1 h2;subst h1;subst h2;show bindL kindOf ((p,w)::P.zip vs) m p=_;unfold bindL;rw[zHI fun v hv=>(dZ.mp nd).1 (List.of_mem_zip hv).1,if_pos hk];simp
 | p::P,w::vs,i+1,m,nd,h1,h2,hk=>by
  show bindL kindOf ((p,w)::P.zip vs) m x=_;unfold bindL;exact zHK (i:=i) (dZ.mp nd).2 (by simpa using h1) (by simpa using h2) hk
theorem zHL{kindOf:Str->Option NameKind}{x:Str}{v:Value}:∀ {P:List Str} {vs:31#0} {i:Nat} {m:78#0},P.Nodup->P[i]?=some x->vs[i]?=some v->kindOf x≠some .local ->
  bindC kindOf (P.zip vs) m x=some v
 | [],_,_,_,_,h,_,_=>by simp at h
 | _::_,[],_,_,_,_,h,_=>by simp at h
 | p::P,w::vs,0,m,nd,h1,h2,hk=>by
  simp at h1 h2;subst h1;subst h2;show bindC kindOf ((p,w)::P.zip vs) m p=_;unfold bindC;rw[zHJ fun v hv=>(dZ.mp nd).1 (List.of_mem_zip hv).1,if_neg hk];simp
 | p::P,w::vs,i+1,m,nd,h1,h2,hk=>by
  show bindC kindOf ((p,w)::P.zip vs) m x=_;unfold bindC;exact zHL (i:=i) (dZ.mp nd).2 (by simpa using h1) (by simpa using h2) hk
noncomputable def start(N:List Str)(vs:List V):St:=vs.map some++cw (N.length-vs.length) none
noncomputable def zIC(CX:CXT)(P:Program)(w:World)(K:18#0)(mg:78#0)(base:Heap)(N:List Str)(qual:Str)(scope:Scope)(f:Addr)(cd:Value)(A:Around)(outer:List Env)(s:Shared)(H:Hp)(E:XK):Cx where
 prog:=P
 w:=w
 K:=K
 mg:=mg
 base:=base
 A:=A.deeper (envOfC qual scope s.heap.objs.size f cd)
 N:=N
 s₀:=s
 H₀:=H
 env:=envOfC qual scope s.heap.objs.size f cd
 outer:=outer
 stack:=envOfC qual scope s.heap.objs.size f cd::outer
 ex:=[]
 calm:=true
 fn:=fun u0=>true
 pn:=[]
 xe:=fun e s'=>wpAny (model P w) (A.deeper (envOfC qual scope s.heap.objs.size f cd)) (leaving (envOfC qual scope s.heap.objs.size f cd) e) (fun u0 s''=>CX outer H s E e s'') (fun e' s''=>CX outer H s E e' s'') s'
theorem zI8{sc:Scope}{n:Nat}{x:Str}(h:sc.names.lookup x=some .cell):∃ c,(cellsFrom n sc.names []).lookup x=some c:=by
 have q:=PySem.W.cellsFrom_some sc.names n [] (.inl h);exact Option.isSome_iff_exists.mp q
theorem zMp{CX:CXT}{P:Program}{w:World}{K:18#0}{mg:78#0}{base:Heap}{N ps:List Str}{qual:Str}{scope:Scope}{f:Addr}{cd:Value}{A:Around}{outer:List Env}{s s1:Shared}{H:Hp}{E:XK}{us:31#0}{vs:List V}
  (S:zY N ps scope) (hd:A.handled=none) (e0:zQn P w K mg base A outer s H) (hl:vs.length=ps.length) (r:zf vs us)
  (x:InCallC s s.heap.objs.size (bindL (envOfC qual scope s.heap.objs.size f cd).kindOf (ps.zip us) fun u0=>none) (cellsFrom 121#0 scope.names []) (bindC (envOfC qual scope s.heap.objs.size f cd).kindOf (ps.zip us) fun u0=>none) s1) :
  zb (zIC CX P w K mg base N qual scope f cd A outer s H E) [] (start N vs) H s1:=by
 have hpl:ps.length<=N.length:=by have:=congrArg List.length S.pre;rw[cQ] at this;omega
 obtain⟨h1,tk,rfl,hk⟩:=x.done;have noA:∀ b:Addr,b∉(zIC CX P w K mg base N qual scope f cd A outer s H E).ex:=fun b z=>absurd (show b∈([]:List Addr) from z) 24#0;refine⟨⟨e0.mod,S.kind,rfl,rfl,ce _,fun y z c h1 h2=>?_,fun y hy=>?_,fun y c u0 h=>?_,fun u0=>hd,Around.frames_deeper e0.frames,.inr ⟨rfl,rfl⟩,fun b z=>absurd z (noA b),e0.bs,e0.bsz,fun b u0 u0=>noA b,fun b z=>absurd z (noA b),e0.funs,e0.frf,e0.tb⟩,
  rfl,e0.bare,Un.kept hk,⟨_,x.toInCall.ns,fun i y v h1 h2 h3=>?_⟩,fun y c h=>⟨_,x.cell y c h⟩,e0.hok.fresh (ce _),fun y c h=>?_,fun p hp=>absurd (show p∈([]:List (Addr×Obj)) from hp) 24#0,e0.hok.kept hk,?_⟩
 ·exact name_of_addr x.apart (PySem.mem_of_lookup h1) (PySem.mem_of_lookup h2)
 ·have hy:scope.names.lookup y=some .cell\/scope.names.lookup y=some .free:=hy
  rcases hy with hy | hy
  ·exact zI8 hy
  ·exact absurd rfl (S.nofree _ (PySem.mem_of_lookup hy))
 ·exact eS (x.above y c (PySem.mem_of_lookup h))
 ·have hi:i<vs.length:=by
   unfold start at h2;by_cases hi:i<vs.length
   ·exact hi
   ·rw[de (by simpa using hi)] at h2
    rw[fb] at h2;split at h2<;>cases h2
  have ha:vs[i]?=some v:=by
   unfold start at h2;rw[cT (by simpa using hi),cP] at h2;cases e:vs[i]? with
   | none=>rw[e] at h2;cases h2
   | some a=>rw[e] at h2;cases h2;rfl
  obtain⟨u,hu,rv⟩:=r.get ha;have hp:ps[i]?=some y:=by
   rw[<-S.pre,List.getElem?_take_of_lt 2#0];exact h1
  have ndP:ps.Nodup:=by rw[<-S.pre];exact S.nd.sublist (List.take_sublist _ _)
  refine⟨u,rv,?_⟩;rcases S.par y (cK hp) with k | k
  ·exact .inl ⟨k,zHK ndP hp hu k⟩
  ·obtain⟨c,e⟩:=zI8 (n:=s.heap.objs.size+1) k
   refine .inr ⟨.inl k,c,e,?_⟩;have q:=x.cell y c e;rw[zHL ndP hp hu (by show scope.names.lookup y≠_;rw[k];decide)] at q;exact q
 ·exact e0.hok.fresh (eS (x.above y c (PySem.mem_of_lookup h)))
 ·unfold start
  show _=N.length;rw[cg,bZ,List.length_replicate];omega
theorem zUW{CX:CXT}{P:Program}{w:World}{K:18#0}{mg:78#0}{base:Heap}{k:Nat}{f:Addr}{name qual:Str}{params:Arguments}{body:List Stmt}{scope:Scope}{dV kV doc pm cdv ct oc:Value}{an od:Option Addr}
  {osl:Array (Option Value)} {N ps:List Str} {sp:Sp} (lk:K.lookup f=some ⟨oc,od,.func (PySem.W.fnOf name qual params body scope dV kV doc pm an cdv ct),osl⟩) (hcd:PySem.W.codeIn K cdv qual=true) (S:zY N ps scope)
  (len:∀ vs H Q E,sp vs H Q E->vs.length=ps.length)
  (hbody:∀(A:Around) (outer:List Env) (s:Shared) (H:Hp) (vs:List V) (Q:VK) (E:XK),wL k (A.deeper (envOfC qual scope s.heap.objs.size f cdv))->sp vs H Q E ->
   ∃ t,PSs (zIC CX P w K mg base N qual scope f cdv A outer s H E) body t/\t { nx:=fun u0 H'=>Q .non H',rt:=Q } (start N vs) H) :
  zFq P w K mg base CX (k+1) f (PySem.W.fnOf name qual params body scope dV kV doc pm an cdv ct) ps sp:=by
 refine⟨len,fun A outer s H args us vs Q E hr e0 hb r hsp=>?_⟩;have hl:=len _ _ _ _ hsp;have KX:K.In s.heap:=e0.mod.kin.keeps fun b o e=>(e0.bs b o e).1;have lim:s.heap.NoLimit:=e0.mod.nolimit.keeps fun b o e=>(e0.bs b o e).1;have hkind:∀ y∈ps.zip us,scope.names.lookup y.1=some .local\/(scope.names.lookup y.1=some .cell/\((cellsFrom 121#0 scope.names []).lookup y.1).isSome=true):=fun⟨n,v⟩ hy=>by
  rcases S.par n (List.of_mem_zip hy).1 with q | q
  ·exact .inl q
  ·exact .inr ⟨q,PySem.W.cellsFrom_some _ _ _ (.inl q)⟩
 refine codeAny_call_function hr.depth (KX _ _ lk) rfl S.co S.gen rfl (PySem.W.codeRec_of KX hcd) (hb _ _ _ _ ?_);refine wpAny_newFunctionEnv_cells S.kind hkind fun env he s1 x=>?_;subst he;refine⟨lim.keeps x.toInCall.keep,codeAny_func ?_⟩;obtain⟨t,ht,hq⟩:=hbody A outer s H vs Q E (hr.deeper _) hsp;have I:zb (zIC CX P w K mg base N qual scope f cdv A outer s H E) [] (start N vs) H s1:=zMp S hr.hd e0 hl r x;refine wpAny_mono (ht [] s1 (start N vs) H _ I hq) (fun fl s' hs=>?_) fun e s' hs=>hs;have fin:∀ {σ':St} {H':Hp} {v:V} {u:Value},zb (zIC CX P w K mg base N qual scope f cdv A outer s H E) [] σ' H' s'->RelV v u->Q v H'->CE outer P w H s Q u s' :=
  fun {σ' H' v u} J rv q=>⟨v,H',J.os,J.bare,J.base,J.hok,rv,q⟩
 cases fl with
 | ret u =>
  obtain⟨v,σ',H',J,rv,q⟩:=hs;exact fin J rv q
 | next =>
  obtain⟨σ',H',J,q⟩:=hs;exact fin (v:=V.non) (u:=Value.none) J rfl q
 | brk =>
  obtain⟨u0,u0,u0,q⟩:=hs;exact False.elim q
 | cont =>
  obtain⟨u0,u0,u0,q⟩:=hs;exact False.elim q
section
variable {X:Cx} {x:Str} {p pos:Pos} {e:Expr} {es:List Expr} {t:TA} {id T:String} {r:List V->Hp->VK->Prop}
noncomputable def tCB(r:124#0)(t:TA):TE:=fun σ H Q=>t σ H fun vs H1=>r vs H1 Q
theorem zBn(hc:wD X (.builtin id) r)(hg:Gl X x)(hm:X.mg x=none)(hv:bootBuiltins x=some (.builtin id))(ha:PA X (e::es) t)(hn:58#0)(hdb:9#0)
  (he:13#0) (hpl:38#0):PE X 104#0 (tCB r t):=by
 sleep 18;refine fi (zB2 I hg hm hv ?_ hn hdb);exact PyProof.Rows.callWith_builtin1 (yz (ha pos pins s σ H _ I h) fun us s1 ⟨vs,H1,I1,r1,q1⟩=>hc pins s1 σ H1 vs us Q I1 r1 q1) he hpl
theorem zBo(hc:wD X (.type T) r)(hg:Gl X x)(hm:X.mg x=none)(hv:bootBuiltins x=some (.type T))(ha:PA X (e::es) t)(hn:58#0)(hdb:9#0)
  (he:13#0) (hpl:38#0):PE X 104#0 (tCB r t):=by
 sleep 18;refine fi (zB2 I hg hm hv ?_ hn hdb);exact PyProof.Rows.callWith_type1 (yz (ha pos pins s σ H _ I h) fun us s1 ⟨vs,H1,I1,r1,q1⟩=>hc pins s1 σ H1 vs us Q I1 r1 q1) he hpl
end
end L2
namespace HT
open PySem PyProof.Rows
noncomputable def lexLt:List Int->List Int->Bool
 | [],[]=>false
 | [],_::_=>true
 | _::_,[]=>false
 | x::xs,y::ys=>if x=y then lexLt xs ys else decide (x<y)
theorem zKZ(x y:Int)(xs ys:96#0):lexLt (x::xs) (y::ys)=if x=y then lexLt xs ys else decide (x<y):=rfl
theorem zG4:lexLt [] []=false:=rfl
theorem zFr(y:Int)(ys:96#0):lexLt [] (y::ys)=true:=rfl
theorem zFs(x:Int)(xs:96#0):lexLt (x::xs) []=false:=rfl
theorem zOE(A:Around)(s:Shared)(a:Int)(t:Tok)(c:Int)(u:Tok):∃ e,SeqAt.EqAt A s (.int a t) (.int c u) e/\(e=true↔a=c) :=
 ⟨(a==c),SeqAt.EqAt.int_int a t c u,by simp⟩
section
open PySem.SeqAt
open PySem.MeetsSeq PySem.MeetsSeq2 PySem.MeetsSeq3
end
section
variable {prog:Program} {w:World} {A:Around} {E:Value->Shared->Prop} {s:Shared}
theorem zQo{t b:Addr}{vs ws:31#0}{Q:11#0}(ht:IsTup s.heap t vs.toArray)(hb:IsTup s.heap b ws.toArray)(hv:vs≠[])
  (h1:ws=[]->Q (.ref t) s) (h2:ws≠[]->Q 36#0 { s with heap:=s.heap.push { cls:=.type "tuple",data:=.seq (vs++ws).toArray } })
  (hsz:vs.length+ws.length<=sizeLine):wpAny 16#0 A (binaryOp .Add (.ref t) (.ref b)) Q E s:=by
 obtain⟨⟨cls,dd,data,sl⟩,ho,hc,n,hd⟩:=id ht;sleep 25;have e:vs.toArray++ws.toArray=(vs++ws).toArray:=by simp
 by_cases hw:ws=[]
 ·exact concat_meets ⟨_,ho,rfl⟩ ⟨_,ho2,rfl⟩ noFill_tuple_add seq_tuple_add PySem.F.slot_tuple_add PySem.F.entry_tuple_add (PySem.F.args_tuple_add_2 _ _)
   (tuple_addW1 t b vs.toArray ws.toArray n n2 dd dd2 sl sl2 (by simpa using hv) (by simp[hw])) ⟨ho,ho2,h1 hw⟩
 ·refine concat_meets ⟨_,ho,rfl⟩ ⟨_,ho2,rfl⟩ noFill_tuple_add seq_tuple_add PySem.F.slot_tuple_add PySem.F.entry_tuple_add (PySem.F.args_tuple_add_2 _ _)
   (tuple_addW2 t b vs.toArray ws.toArray n n2 dd dd2 sl sl2 (by simpa using hv) (by simpa using hw) (by rw[cn,cn];exact hsz)) ⟨ho,ho2,?_⟩
  rw[e];exact h2 hw
noncomputable def wZ(n d:Nat):Option Int->Nat
 | none=>d
 | some v=>if v<0 then (v+(n:Int)).toNat else min v.toNat n
theorem zI9(n d:Nat):wZ n d none=d:=rfl
theorem zCv(n d k:Nat):wZ n d (some (k:Int))=min k n:=by
 show(if (k:Int)<0 then ((k:Int)+(n:Int)).toNat else min (k:Int).toNat n)=min k n;rw[if_neg 2#0,Int.toNat_natCast]
theorem zTG(n d:Nat)(hd:d<=n)(o:Option Int):wZ n d o<=n:=by
 cases o with
 | none=>exact hd
 | some v =>
  show(if v<0 then (v+(n:Int)).toNat else min v.toNat n)<=n;by_cases hv:v<0
  ·rw[if_pos hv];omega
  ·rw[if_neg hv];exact Nat.min_le_right _ _
theorem zLh(v:Int)(n d:Nat):(if v<0 then max (v+(n:Int)) 0 else min v (n:Int))=((wZ n d (some v):Nat):Int):=by
 show(if v<0 then max (v+(n:Int)) 0 else min v (n:Int))=(((if v<0 then (v+(n:Int)).toNat else min v.toNat n):Nat):Int)
 by_cases hv:v<0
 ·simp only[if_pos hv];omega
 ·simp only[if_neg hv];omega
theorem zKa(lo hi:Option Int)(n:Nat):Builtin.Slice.sliceAdjust lo hi 1 (n:Int)=(((wZ n 0 lo:Nat):Int),((wZ n n hi:Nat):Int)):=by
 have h1:¬ ((1:Int)<0):=by omega
 unfold Builtin.Slice.sliceAdjust;simp only[h1,if_false];refine Prod.ext ?_ ?_
 ·cases lo with
  | none=>rfl
  | some v=>exact zLh v n 0
 ·cases hi with
  | none=>rfl
  | some v=>exact zLh v n n
theorem zKb(i j:Nat):Builtin.Slice.slicePlaces (i:Int) (j:Int) 1=j-i:=by
 unfold Builtin.Slice.slicePlaces;have h1:(1:Int)>0:=by omega
 simp only[h1,if_true,Int.ediv_one];split<;>omega
theorem zFt{v:Value}{o:Option Int}{Q:Option Int->Shared->Prop}(p:IsPart v o)(h:Q o s):wpAny 16#0 A (Builtin.Slice.slicePartIndex v) Q E s:=by
 cases p with
 | none=>exact slicePart_none h
 | int i t=>exact slicePart_int h
theorem zBp{sl:Addr}{vl vu:Value}{lo hi:Option Int}{n:Nat}{Q:Int×Int×Nat->Shared->Prop}(hs:s.heap.IsSliceOf sl vl vu .none)(pl:IsPart vl lo)(pu:IsPart vu hi)
  (h:Q (((wZ n 0 lo:Nat):Int),1,wZ n n hi-wZ n 0 lo) s):wpAny 16#0 A (Builtin.Slice.sliceApplied (.ref sl) (pure (n:Int))) Q E s:=by
 obtain⟨os,hos,hcs,hds⟩:=id hs;unfold Builtin.Slice.sliceApplied Builtin.Slice.sliceFields;refine bQ (bQ (wpAny_field hos hds (x:=vl) rfl (bQ (wpAny_field hos hds (x:=vu) rfl (bQ (wpAny_field hos hds (x:=.none) rfl (c5 ?_)))))));refine bQ (slicePart_none ?_);show wpAny _ _ (if ((1:Int)==0)=true then _ else _) _ _ s;rw[if_neg 8#0];refine bQ (zFt pl (bQ (zFt pu (bQ (c5 ?_)))));show wpAny _ _ (match Builtin.Slice.sliceAdjust lo hi 1 (n:Int) with | (lo,hi)=>pure (lo,(1:Int),Builtin.Slice.slicePlaces lo hi 1)) _ _ s;rw[zKa lo hi n];show wpAny _ _ (pure (((wZ n 0 lo:Nat):Int),(1:Int),Builtin.Slice.slicePlaces ((wZ n 0 lo:Nat):Int) ((wZ n n hi:Nat):Int) 1)) _ _ s;rw[zKb];exact c5 h
theorem zOF(xs:123#0)(i k:Nat):((bY k).filterMap fun(m:Nat)=>xs[((i:Int)+(m:Int)*1).toNat]?).toArray=((xs.toList.drop i).take k).toArray:=by
 have e:(fun(m:Nat)=>xs[((i:Int)+(m:Int)*1).toNat]?)=fun m=>xs[i+m]?:=by
  funext m;have:((i:Int)+(m:Int)*1).toNat=i+m:=by omega
  rw[this]
 rw[e];have:=pick_run xs i k;rw[List.filterMap_map] at this;have e2:((fun x=>xs[x]?)∘fun x=>i+x)=fun m=>xs[i+m]?:=rfl;rw[e2] at this;rw[this]
theorem zDs{t sl:Addr}{items:123#0}{vl vu:Value}{lo hi:Option Int}{Q:11#0}(ht:IsTup s.heap t items)(hs:s.heap.IsSliceOf sl vl vu .none)(pl:IsPart vl lo)(pu:IsPart vu hi)
  (hw:¬ (wZ items.size 0 lo=0/\wZ items.size items.size hi=items.size))
  (h:Q 36#0 { s with heap:=s.heap.push { cls:=.type "tuple",data:=.seq ((items.toList.drop (wZ items.size 0 lo)).take (wZ items.size items.size hi-wZ items.size 0 lo)).toArray } })
  (hsz:items.size<=sizeLine):wpAny 16#0 A (getItem (.ref t) (.ref sl)) Q E s:=by
 have htake:sizeOk (.seq ((items.toList.drop (wZ items.size 0 lo)).take (wZ items.size items.size hi-wZ items.size 0 lo)).toArray):=by
  show((items.toList.drop (wZ items.size 0 lo)).take (wZ items.size items.size hi-wZ items.size 0 lo)).toArray.size<=sizeLine;rw[cn,cQ,dU,cC];omega
 have hj:wZ items.size items.size hi<=items.size:=zTG _ _ (ce _) hi;obtain⟨os,hos,hcs,hds⟩:=id hs;have hTs:s.TypeIs (.ref sl) "slice":=⟨os,hos,hcs⟩
 unfold getItem
 try with_reducible refine dt ?_
 first | refine bQ (c5 ?_) | skip
 refine bQ (wpAny_sequenceKey ht.typeIs 8#0 ?_);refine bQ (wpAny_callSpecial?_slot (name:=Str.ofString "__getitem__") ht.typeIs PyProof.Rows.slot_tuple_getitem
  (eJ PyProof.Rows.slot_tuple_getitem ht.typeIs entry_tuple_getitem ?_ (args_tuple_getitem _ _)))
 show wpAny _ _ (Builtin.Tuple.tupleItemsOf (.ref t)>>=_) _ _ s;refine bQ (tupleItemsOf_ ht ?_);refine bQ (f7 hTs ?_);rw[if_pos 8#0];refine bQ (zBp hs pl pu ?_);have hno:¬ (50#0=true):=by
  intro q;rw[cW,cW] at q;have q1:((wZ items.size 0 lo:Nat):Int)=0:=eq_of_beq q.1.1;have q2:wZ items.size items.size hi-wZ items.size 0 lo=items.size:=eq_of_beq q.2;exact hw 127#0
 show wpAny _ _ (if 50#0=true then _ else _) _ _ s;rw[if_neg hno,zOF]
 first
  | exact bQ (m:=Builtin.Tuple.tupleExact _) (dk (c5 ⟨_,rfl,c5 h⟩) htake)
  | exact bQ (m:=Builtin.Tuple.tupleExact _) (dk (bQ (c5 (c5 ⟨_,rfl,c5 h⟩))) htake)
  | exact bQ (bQ (m:=Builtin.Tuple.tupleExact _) (dk (c5 (c5 ⟨_,rfl,c5 h⟩)) htake))
  | exact bQ (bQ (m:=Builtin.Tuple.tupleExact _) (dk (c5 ⟨_,rfl,c5 h⟩) htake))
end
end HT
namespace L2
noncomputable abbrev TO:=St->Hp->(Option Int->Hp->Prop)->Prop
noncomputable def PO(X:Cx)(e:Option Expr)(t:TO):Prop :=
 ∀(pins:27#0) (s:Shared) (σ:St) (H:Hp) (Q:Option Int->Hp->Prop),zb X pins σ H s->t σ H Q ->
  wpAny 22#0 X.A (evalPart e X.env) (fun u s'=>∃ o H',zb X pins σ H' s'/\IsPart u o/\Q o H') X.xe s
noncomputable def zQp:TO:=fun u0 H Q=>Q none H
noncomputable def zUX(t:TE):TO:=fun σ H Q=>t σ H fun x H1=>∃ i,x=.int i/\Q (some i) H1
theorem intsAre_of{ns:96#0}:∀ {us:31#0},zf (ns.map V.int) us->IntsAre us ns:=by
 induction ns with
 | nil=>intro us r;rw[List.map_nil] at r;cases r;exact .nil
 | cons n ns ih =>
  intro us r;rw[cU] at r;cases r with
  | cons r1 r2 =>
   obtain⟨t,e⟩:=r1;subst e;exact .cons n t (ih r2)
section
variable {X:Cx} {e:Expr} {te:TE} {lo hi:Option Expr} {tl th:TO} {pos p2:Pos}
theorem zQq:PO X none zQp:=by
 sleep 18;rw[evalPart_none];exact c5 ⟨none,H,I,.none,h⟩
theorem zQr(h:PE X e te):PO X (some e) (zUX te):=by
 intro pins s σ H Q I hw;rw[evalPart_some];refine yz (h pins s σ H _ I hw) fun u s1 u9=>?_;obtain⟨x,H1,I1,r1,q1⟩:=u9;obtain⟨i,rfl,q⟩:=q1;obtain⟨t,rfl⟩:=r1;exact⟨some i,H1,I1,.int i t,q⟩
noncomputable def SlR(X:Cx)(r:V->Option Int->Option Int->Hp->VK->Prop):Prop :=
 ∀(pins:27#0) (s:Shared) (σ:St) (H:Hp) (x:V) (v vl vu:Value) (lo hi:Option Int) (sl:Addr) (Q:VK),zb X pins σ H s->RelV x v->s.heap.IsSliceOf sl vl vu .none->IsPart vl lo->IsPart vu hi->r x lo hi H Q ->
  ∃ T id,typeLookup (.type T) "__getitem__"=pure (some (.builtin id))/\s.TypeIs v T/\wpAny 22#0 X.A (getItem v (.ref sl)) (EP X pins σ Q) X.xe s
theorem SlR.or{r r':V->Option Int->Option Int->Hp->VK->Prop}(h:SlR X r)(h':SlR X r'):SlR X (fun x lo hi H Q=>r x lo hi H Q\/r' x lo hi H Q):=by
 intro pins s σ H x v vl vu lo hi sl Q I rx hs pl pu q;rcases q with q | q
 ·exact h pins s σ H x v vl vu lo hi sl Q I rx hs pl pu q
 ·exact h' pins s σ H x v vl vu lo hi sl Q I rx hs pl pu q
noncomputable def tSl(r:V->Option Int->Option Int->Hp->VK->Prop)(te:TE)(tl th:TO):TE:=fun σ H Q=>te σ H fun x H1=>tl σ H1 fun l H2=>th σ H2 fun u H3=>r x l u H3 Q
theorem zJA{r:V->Option Int->Option Int->Hp->VK->Prop}(hr:SlR X r)(he:PE X e te)(hl:PO X lo tl)(hu:PO X hi th):PE X (.Subscript e (.Slice lo hi none p2) pos) (tSl r te tl th):=by
 sleep 18;refine Subscript_ (yz (he pins s σ H _ I h) fun v s1 u9=>?_);obtain⟨x,H1,I1,r1,q1⟩:=u9;refine wpAny_Slice (yz (hl pins s1 σ H1 _ I1 q1) fun vl s2 ⟨l,H2,I2,pl,q2⟩=>yz (hu pins s2 σ H2 _ I2 q2) fun vu s3 u9=>?_);obtain⟨u,H3,I3,pu,q3⟩:=u9;rw[evalPart_none];refine c5 ?_;have I4:zb X pins σ H3 { s3 with heap:=s3.heap.push { cls:=.type "slice",data:=.fields #[vl,vu,.none] } }:=I3.kept (t':=s3.toks) fun b ob q=>bX _ q;obtain⟨T,id,hT,ht,hg⟩:=hr pins { s3 with heap:=s3.heap.push { cls:=.type "slice",data:=.fields #[vl,vu,.none] } } σ H3 x v vl vu l u s3.heap.objs.size Q I4 r1 (Heap.IsSliceOf.new ..) pl pu q3;show wpAny 22#0 X.A (subscriptTail e (.Slice lo hi none p2) v (.ref s3.heap.objs.size)) (EP X pins σ Q) X.xe { s3 with heap:=s3.heap.push { cls:=.type "slice",data:=.fields #[vl,vu,.none] } };exact tail_any (ops:=[.ref s3.heap.objs.size,v]) ht hT hg (by with_unfolding_all rfl)
noncomputable def zJB(xs:List V)(lo hi:Option Int):List V:=(xs.drop (HT.wZ xs.length 0 lo)).take 134#0
theorem zE4(xs:List V)(lo hi:Option Int):(zJB xs lo hi).length<=xs.length:=by
 unfold zJB;rw[cQ,dU];omega
noncomputable def zVJ(K:18#0):V->Option Int->Option Int->Hp->VK->Prop:=fun x lo hi H Q=>∃ a xs,x=.ref a/\SqT K H a xs /\
 ¬ (HT.wZ xs.length 0 lo=0/\HT.wZ xs.length xs.length hi=xs.length)/\∀ p,H p=none->Q (.ref p) (wY H p (.tup (zJB xs lo hi)))
theorem zTH:SlR X (zVJ X.K):=by
 intro pins s σ H x v vl vu lo hi sl Q I rx hs pl pu h;obtain⟨a,xs,rfl,hx,hw,q⟩:=h;cases rx;obtain⟨its,r,ht,hz⟩:=I.tuple hx;have hlen:its.toArray.size=xs.length:=by rw[cn];exact r.length.symm
 refine⟨"tuple",_,PyProof.Rows.slot_tuple_getitem.lookup,ht.typeIs,?_⟩;refine HT.zDs ht hs pl pu (by rw[hlen];exact hw) ?_ (by rw[hlen];exact hz);rw[hlen];refine⟨.ref s.heap.objs.size,_,I.laid (t':=s.toks) (o:=.tup (zJB xs lo hi)) (fun b ob q=>bX _ q) (ce _) ?_,rfl,q _ (I.hok.fresh (ce _))⟩;exact⟨di (zE4 xs lo hi) hz,_,(r.drop (HT.wZ xs.length 0 lo)).take 134#0,zFo.new _ _⟩
noncomputable def zSF(K:18#0):R2:=fun x y H Q=>∃ a b xs ys,x=.ref a/\y=.ref b/\SqT K H a xs/\SqT K H b ys/\xs≠[]/\xs.length+ys.length<=sizeLine /\
 (ys=[]->Q (.ref a) H)/\(ys≠[]->∀ p,H p=none->Q (.ref p) (wY H p (.tup (xs++ys))))
theorem zf.nil_iff{xs:List V}{us:31#0}(r:zf xs us):us=[]↔xs=[]:=by
 cases r with
 | nil=>simp
 | cons _ _=>simp
theorem zQs:OpR X (binaryOp .Add) (zSF X.K):=by
 sleep 10;obtain⟨a,b,xs,ys,rfl,rfl,ha,hb,hx,hz,q1,q2⟩:=h;cases rx;cases ry;obtain⟨its,r1,p1,u0⟩:=I.tuple ha;obtain⟨its2,r2,p2,u0⟩:=I.tuple hb;refine HT.zQo p1 p2 (fun z=>hx (r1.nil_iff.mp z)) (fun z=>⟨.ref a,H,I,rfl,q1 (r2.nil_iff.mp z)⟩) (fun z=>?_) (by rw[<-r1.length,<-r2.length];exact hz);refine⟨.ref s.heap.objs.size,_,I.laid (t':=s.toks) (o:=.tup (xs++ys)) (fun b ob q=>bX _ q) (ce _) ?_,rfl,q2 (fun w=>z (r2.nil_iff.mpr w)) _ (I.hok.fresh (ce _))⟩;exact⟨by rw[cg];exact hz,_,r1.append r2,zFo.new _ _⟩
end
noncomputable def ixN(n:Nat)(i:Int):Option Nat:=if 0<=i then (if i<n then some i.toNat else none) else if -(n:Int)<=i then some (i+n).toNat else none
noncomputable def atI{α:Type}(xs:List α)(i:Int):Option α:=(ixN xs.length i).bind fun j=>xs[j]?
theorem zLi{n:Nat}{i:Int}{j:Nat}(h:ixN n i=some j):seqIndex? i n=some j/\j<n/\-(n:Int)<=i/\i<n:=by
 unfold ixN at h;by_cases h0:0<=i
 ·rw[if_pos h0] at h
  by_cases h1:i<n
  ·rw[if_pos h1] at h
   have e:i.toNat=j:=Option.some.inj h;exact⟨by rw[seqIndex_of h0 h1,e],by omega,by omega,h1⟩
  ·rw[if_neg h1] at h;cases h
 ·rw[if_neg h0] at h
  by_cases h1:-(n:Int)<=i
  ·rw[if_pos h1] at h
   have e:(i+n).toNat=j:=Option.some.inj h;exact⟨by rw[seqIndex_neg 2#0 h1,e],by omega,h1,by omega⟩
  ·rw[if_neg h1] at h;cases h
theorem zLj{α:Type}{xs:List α}{i:Int}{v:α}(h:atI xs i=some v):∃ j,seqIndex? i xs.length=some j/\xs[j]?=some v/\j<xs.length/\-(xs.length:Int)<=i/\i<xs.length:=by
 unfold atI at h;cases e:ixN xs.length i with
 | none=>rw[e] at h;cases h
 | some j =>
  rw[e] at h;obtain⟨h1,h2,h3,h4⟩:=zLi e;exact⟨j,h1,h,h2,h3,h4⟩
theorem zBS{α:Type}{xs:List α}{j:Nat}{v:α}(h:xs[j]?=some v):atI xs (j:Int)=some v:=by
 have hj:j<xs.length:=(cc.mp h).1;have e:ixN xs.length (j:Int)=some j:=by
  unfold ixN;rw[if_pos 2#0,if_pos 2#0];simp
 unfold atI;rw[e];exact h
noncomputable def zLk(b:Expr):Prop:=∀ o i,subscripted b false o i=operate [o,i] (getItem o i)
noncomputable def IxR(X:Cx)(r:R2):Prop :=
 ∀(value slice:Expr) (pins:27#0) (s:Shared) (σ:St) (H:Hp) (x y:V) (v u:Value) (Q:VK),zb X pins σ H s->RelV x v->RelV y u->r x y H Q ->
  subscripted slice false v u=operate [v,u] (getItem v u)->wpAny 22#0 X.A (subscriptTail value slice v u) (EP X pins σ Q) X.xe s
noncomputable def MtR(X:Cx)(id:String)(r:V->List V->Hp->VK->Prop):Prop :=
 ∀(pins:27#0) (s:Shared) (σ:St) (H:Hp) (x:V) (xs:List V) (v:Value) (us:31#0) (Q:VK),zb X pins σ H s->RelV x v->zf xs us->r x xs H Q ->
  wpAny 22#0 X.A (call (.builtin id) (v::us)) (EP X pins σ Q) X.xe s
section
variable {X:Cx} {a b:Expr} {ta tb:TE} {pos:Pos}
theorem IxR.or{r r':R2}(h:IxR X r)(h':IxR X r'):IxR X (fun x y H Q=>r x y H Q\/r' x y H Q):=by
 intro value slice pins s σ H x y v u Q I rx ry q hs;rcases q with q | q
 ·exact h value slice pins s σ H x y v u Q I rx ry q hs
 ·exact h' value slice pins s σ H x y v u Q I rx ry q hs
theorem MtR.or{id:String}{r r':V->List V->Hp->VK->Prop}(h:MtR X id r)(h':MtR X id r'):MtR X id (fun x xs H Q=>r x xs H Q\/r' x xs H Q):=by
 intro pins s σ H x xs v us Q I rx rs q;rcases q with q | q
 ·exact h pins s σ H x xs v us Q I rx rs q
 ·exact h' pins s σ H x xs v us Q I rx rs q
theorem zUY{r:R2}(hr:IxR X r)(ha:PE X a ta)(hb:PE X b tb)(hs:zLk b):PE X (.Subscript a b pos) (tOp r ta tb):=by
 sleep 18;exact Subscript_ (zS4 ha hb I h fun v u s2 x y H2 I2 rx ry q=>hr a b pins s2 σ H2 x y v u Q I2 rx ry q (hs _ _))
noncomputable def zUZ(K:18#0):R2:=fun x y H Q=>∃ p xs i v,x=.ref p/\y=.int i/\SqL K H p xs/\atI xs i=some v/\Q v H
noncomputable def zUa(K:18#0):R2:=fun x y H Q=>∃ p xs i v,x=.ref p/\y=.int i/\SqT K H p xs/\atI xs i=some v/\Q v H
theorem zQt:IxR X (zUZ X.K):=by
 intro value slice pins s σ H x y v u Q I rx ry h hs;obtain⟨p,xs,i,z,rfl,rfl,hq,he,q⟩:=h;cases rx;obtain⟨t,rfl⟩:=ry;obtain⟨its,r,pl,hz⟩:=I.list hq;obtain⟨j,h1,h2,h3,h4,h5⟩:=zLj he;obtain⟨w,ew,rw'⟩:=r.get h2;have hl:=r.length;have hn:=zIB;have fin:EP X pins σ Q w s:=⟨z,H,I,rw',q⟩
 by_cases h0:0<=i
 ·have hj:i.toNat=j:=by
   rw[seqIndex_of h0 h5] at h1;exact Option.some.inj h1
  exact item_listR pl.isList h0 2#0 (by rw[hj];simpa using ew) fin hs
 ·have hj:(i+(its.toArray.size:Int)).toNat=j:=by
   rw[seqIndex_neg 2#0 h4] at h1;rw[cn,<-hl];exact Option.some.inj h1
  exact subscriptTail_builtinR (x:=w) pl.isList.typeIs slot_list_getitem.lookup
   (wpAny_getItem_list_neg (Q:=fun r s'=>r=w/\EP X pins σ Q r s') pl.isList 2#0 (by rw[cn]<;>omega) 2#0 (by rw[hj];simpa using ew) ⟨rfl,fin⟩) hs
theorem zTI:IxR X (zUa X.K):=by
 intro value slice pins s σ H x y v u Q I rx ry h hs;obtain⟨p,xs,i,z,rfl,rfl,hq,he,q⟩:=h;cases rx;obtain⟨t,rfl⟩:=ry;obtain⟨its,r,pl,hz⟩:=I.tuple hq;obtain⟨j,h1,h2,h3,h4,h5⟩:=zLj he;obtain⟨w,ew,rw'⟩:=r.get h2;have hl:=r.length;have hn:=zIB;have fin:EP X pins σ Q w s:=⟨z,H,I,rw',q⟩
 exact subscriptTail_builtinR (x:=w) pl.typeIs slot_tuple_getitem.lookup
  (getItem_tuple (j:=j) (Q:=fun r s'=>r=w/\EP X pins σ Q r s') pl 2#0 2#0 (by rw[cn,<-hl];exact h1) (by simpa using ew) ⟨rfl,fin⟩) hs
theorem zKc(its:31#0)(n j:Nat)(u:Value):Obj.mapSeq (·.setIfInBounds j u) { cls:=.type "list",data:=.seq its.toArray n }={ cls:=.type "list",data:=.seq (its.set j u).toArray n }:=by
 simp[Obj.mapSeq]
theorem zb.lst{pins:27#0}{σ:St}{H:Hp}{s:Shared}{p:Addr}{xs:List V}(I:21#0)(h:H p=some (.lst xs)) :
  ∃(its:31#0) (n:Nat),zf xs its/\s.heap.get? p=some { cls:=.type "list",data:=.seq its.toArray n }/\xs.length<=sizeLine:=by
 obtain⟨z,its,n,r,e⟩:=I.hok p _ h;exact⟨its,n,r,e,z⟩
theorem zb.lstUpd{pins:27#0}{σ:St}{H:Hp}{s:Shared}{p:Addr}{xs ys:List V}{its its':31#0}{n n':Nat}{f:Obj->Obj}(I:21#0)(h:H p=some (.lst xs))
  (ho:s.heap.get? p=some { cls:=.type "list",data:=.seq its.toArray n }) (hf:f { cls:=.type "list",data:=.seq its.toArray n }={ cls:=.type "list",data:=.seq its'.toArray n' }) (r:zf ys its') (hz:ys.length<=sizeLine) (t:Nat) :
  zb X pins σ (wY H p (.lst ys)) { s with heap:=s.heap.update p f,toks:=t }:=by
 have e:(s.heap.update p f).get? p=some { cls:=.type "list",data:=.seq its'.toArray n' }:=by
  rw[eH f ho (by rw[hf]<;>rfl),hf]
 refine I.write (x:=p) (e:=p) (by rw[h];trivial) (.inl rfl) (fun b u hb q=>(dQ _ _ (Ne.symm hb)).trans q) ⟨_,e⟩ ?_;exact⟨hz,its',n',r,e⟩
noncomputable def zUb:V->V->V->Hp->(Hp->Prop)->Prop:=fun o i v H Q=>∃ p xs k j,o=.ref p/\i=.int k/\H p=some (.lst xs)/\ixN xs.length k=some j/\Q (wY H p (.lst (xs.set j v)))
theorem set_list:zUO X zUb:=by
 intro pins s σ H o i v ov iv u Q I ro ri rv h;obtain⟨p,xs,k,j,rfl,rfl,hp,hj,q⟩:=h;cases ro;obtain⟨t,rfl⟩:=ri;obtain⟨its,n,r,ho,hz⟩:=I.lst hp;obtain⟨h1,h2,h3,h4⟩:=zLi hj;have hl:=r.length;have hn:=zIB;have I':zb X pins σ (wY H p (.lst (xs.set j v))) { s with heap:=s.heap.update p (Obj.mapSeq (·.setIfInBounds j u)) } :=
  I.lstUpd hp ho (zKc its n j u) (r.set rv j) (by rw[List.length_set];exact hz) s.toks
 by_cases h0:0<=k
 ·have hk:k.toNat=j:=by
   rw[seqIndex_of h0 h4] at h1;exact Option.some.inj h1
  exact PySem.W.ki_setAt ho h0 2#0 (by rw[cn,<-hl];exact h4) (by rw[hk];exact⟨_,I',q⟩)
 ·have hk:(k+(its.toArray.size:Int)).toNat=j:=by
   rw[seqIndex_neg 2#0 h3] at h1;rw[cn,<-hl];exact Option.some.inj h1
  exact PySem.W.ki_setBack ho 2#0 (by rw[cn,<-hl];exact h3) 2#0 (by rw[hk];exact⟨_,I',q⟩)
theorem zID(lo hi:Option Int)(n:Nat):(sliceBounds lo hi none n).1=((HT.wZ n 0 lo:Nat):Int)/\(sliceBounds lo hi none n).2.1=((HT.wZ n n hi:Nat):Int)/\(sliceBounds lo hi none n).2.2=1:=by
 refine⟨?_,?_,rfl⟩
 ·cases lo with
  | none=>simp[sliceBounds,HT.wZ]
  | some i =>
   simp only[sliceBounds,HT.wZ,Option.getD_none,show(1:Int)>0 by decide,if_true];by_cases h:i<0
   ·simp only[h,if_true]<;>omega
   ·simp only[h,if_false]<;>omega
 ·cases hi with
  | none=>simp[sliceBounds,HT.wZ]
  | some i =>
   simp only[sliceBounds,HT.wZ,Option.getD_none,show(1:Int)>0 by decide,if_true];by_cases h:i<0
   ·simp only[h,if_true]<;>omega
   ·simp only[h,if_false]<;>omega
theorem zG5(its:31#0)(lo hi:Option Int):slicePick its.toArray lo hi none=((its.drop (HT.wZ its.length 0 lo)).take (HT.wZ its.length its.length hi-HT.wZ its.length 0 lo)).toArray:=by
 obtain⟨h1,h2,h3⟩:=zID lo hi its.toArray.size;unfold slicePick;rw[h1,h2,h3];simp only[sliceRange_one,pick_run,cn]<;>rfl
noncomputable def zVK(K:18#0):V->Option Int->Option Int->Hp->VK->Prop:=fun x lo hi H Q=>∃ a xs,x=.ref a/\SqL K H a xs/\∀ p,H p=none->Q (.ref p) (wY H p (.lst (zJB xs lo hi)))
theorem zQu:SlR X (zVK X.K):=by
 intro pins s σ H x v vl vu lo hi sl Q I rx hs pl pu h;obtain⟨a,xs,rfl,hx,q⟩:=h;cases rx;obtain⟨its,r,ht,hz⟩:=I.list hx;have hlen:=r.length;refine⟨"list",_,slot_list_getitem.lookup,ht.isList.typeIs,?_⟩;refine wpAny_getItem_list_slice ht.isList hs pl pu .none 24#0 ?_ (by rw[cn]<;>omega);rw[zG5,<-hlen];refine⟨.ref s.heap.objs.size,_,I.laid (t':=s.toks) (o:=.lst (zJB xs lo hi)) (fun b ob q=>bX _ q) (ce _) ?_,rfl,q _ (I.hok.fresh (ce _))⟩;exact⟨di (zE4 xs lo hi) hz,_,0,(r.drop (HT.wZ xs.length 0 lo)).take 134#0,ck _ rfl⟩
noncomputable def zLl:V->Bool
 | .non=>true
 | .bl _=>true
 | .int _=>true
 | .str _=>true
 | _=>false
noncomputable def eqV:V->V->Bool
 | .non,.non=>true
 | .bl a,.bl b=>a==b
 | .bl a,.int b=>(if a then 1 else 0)==b
 | .int a,.bl b=>a==(if b then 1 else 0)
 | .int a,.int b=>a==b
 | .str a,.str b=>a==b
 | _,_=>false
theorem zOG{A:Around}{s:Shared}{y x:V}{u v:Value}(ry:RelV y u)(rx:RelV x v)(fy:zLl y=true)(fx:zLl x=true):SeqAt.EqAt A s u v (eqV y x):=by
 cases y with
 | non =>
  cases ry;cases x with
  | non=>cases rx;exact SeqAt.EqAt.same _
  | bl b=>cases rx;exact SeqAt.EqAt.none_bool b
  | int b=>obtain⟨t,rfl⟩:=rx;exact SeqAt.EqAt.none_int b t
  | str b=>obtain⟨t,rfl⟩:=rx;exact SeqAt.EqAt.none_str b t
  | _=>exact absurd (show false=true from fx) dR
 | bl a =>
  cases ry;cases x with
  | non=>cases rx;exact SeqAt.EqAt.bool_none a
  | bl b=>cases rx;exact SeqAt.EqAt.bool_bool a b
  | int b=>obtain⟨t,rfl⟩:=rx;exact SeqAt.EqAt.bool_int a b t
  | str b=>obtain⟨t,rfl⟩:=rx;exact SeqAt.EqAt.bool_str a b t
  | _=>exact absurd (show false=true from fx) dR
 | int a =>
  obtain⟨t',rfl⟩:=ry;cases x with
  | non=>cases rx;exact SeqAt.EqAt.int_none a t'
  | bl b=>cases rx;exact SeqAt.EqAt.int_bool a t' b
  | int b=>obtain⟨t,rfl⟩:=rx;exact SeqAt.EqAt.int_int a t' b t
  | str b=>obtain⟨t,rfl⟩:=rx;exact SeqAt.EqAt.int_str a t' b t
  | _=>exact absurd (show false=true from fx) dR
 | str a =>
  obtain⟨t',rfl⟩:=ry;cases x with
  | non=>cases rx;exact SeqAt.EqAt.str_none a t'
  | bl b=>cases rx;exact SeqAt.EqAt.str_bool a t' b
  | int b=>obtain⟨t,rfl⟩:=rx;exact SeqAt.EqAt.str_int a t' b t
  | str b=>obtain⟨t,rfl⟩:=rx;exact SeqAt.EqAt.str_str a t' b t
  | _=>exact absurd (show false=true from fx) dR
 | _=>exact absurd (show false=true from fy) dR
theorem zIE:wD X (.builtin "len") (fun xs H Q=>∃ p ys,xs=[.ref p]/\(SqL X.K H p ys\/SqT X.K H p ys)/\Q (.int ys.length) H):=by
 sleep 9;obtain⟨p,ys,rfl,hq,q⟩:=h;obtain⟨u,rfl,rx⟩:=vals1 r;cases rx;have hn:=zIB;rcases hq with hq | hq
 ·obtain⟨its,r',pl,hz⟩:=I.list hq
  have hlen:=r'.length;exact Calls.call_len_list pl.isList (by simp only[cn]<;>omega) ⟨.int ys.length,H,I.tok _,⟨s.toks+1,by rw[cn,hlen]⟩,q⟩
 ·obtain⟨its,r',pl,hz⟩:=I.tuple hq
  have hlen:=r'.length;exact len_tuple pl (by simp only[cn]<;>omega) ⟨.int ys.length,H,I.tok _,⟨s.toks+1,by rw[cn,hlen]⟩,q⟩
theorem wD.or{f:Value}{r r':124#0}(h:wD X f r)(h':wD X f r'):wD X f (fun xs H Q=>r xs H Q\/r' xs H Q):=by
 intro pins s σ H xs us Q I rs q;rcases q with q | q
 ·exact h pins s σ H xs us Q I rs q
 ·exact h' pins s σ H xs us Q I rs q
theorem zIF:wD X (.type "list") (fun xs H Q=>∃ p ys,xs=[.ref p]/\(SqL X.K H p ys\/SqT X.K H p ys)/\∀ l,H l=none->Q (.ref l) (wY H l (.lst ys))):=by
 sleep 9;obtain⟨p,ys,rfl,hq,q⟩:=h;obtain⟨u,rfl,rx⟩:=vals1 r;cases rx;have fin:∀(its:31#0),zf ys its->ys.length<=sizeLine->∀(h':Heap) (c':Nat),(∀ b o',s.heap.get? b=some o'->h'.get? b=some o') ->
   h'.get? s.heap.objs.size=some { cls:=.type "list",dict:=none,data:=.seq its.toArray c',slots:=#[] }->EP X pins σ Q 36#0 { s with heap:=h' }:=fun its r' hz h' c' kp e =>
  ⟨.ref s.heap.objs.size,_,I.laid (t':=s.toks) kp (ce _) (show wf X.prog X.w _ h' _ (.lst ys) from⟨hz,its,c',r',e⟩),rfl,q _ (I.hok.fresh (ce _))⟩
 rcases hq with hq | hq
 ·obtain⟨its,r',pl,hz⟩:=I.list hq
  have hlen:=r'.length;obtain⟨o,ho,hc,n,hd⟩:=pl.isList;exact call_list_seq p (.inl rfl) ho hc hd (fun h' c' kp e=>fin its r' hz h' c' kp e) (by simp only[cn]<;>omega)
 ·obtain⟨its,r',pl,hz⟩:=I.tuple hq
  have hlen:=r'.length;obtain⟨o,ho,hc,n,hd⟩:=pl;exact call_list_seq p (.inr rfl) ho hc hd (fun h' c' kp e=>fin its r' hz h' c' kp e) (by simp only[cn]<;>omega)
theorem zDP:wD X (.type "tuple") (fun xs H Q=>∃ p ys,xs=[.ref p]/\((SqL X.K H p ys/\∀ l,H l=none->Q (.ref l) (wY H l (.tup ys)))\/(SqT X.K H p ys/\Q (.ref p) H))):=by
 sleep 9;obtain⟨p,ys,rfl,h⟩:=h;obtain⟨u,rfl,rx⟩:=vals1 r;cases rx;rcases h with ⟨hq,q⟩ | ⟨hq,q⟩
 ·obtain⟨its,r',pl,hz⟩:=I.list hq
  have hlen:=r'.length;refine call_tuple_list pl.isList (fun h' kp=>?_) (by simp only[cn]<;>omega);have I1:zb X pins σ H { s with heap:=h' }:=I.kept (t':=s.toks) kp;have I2:zb X pins σ (wY H h'.objs.size (.tup ys)) { s with heap:=h'.push { cls:=.type "tuple",data:=.seq its.toArray } } :=
   I1.laid (t':=s.toks) (fun b o e=>bX _ e) (ce _) (show wf X.prog X.w _ _ _ (.tup ys) from⟨hz,its,r',zFo.new _ _⟩)
  exact⟨.ref h'.objs.size,_,I2,rfl,q _ (I1.hok.fresh (ce _))⟩
 ·obtain⟨its,r',pl,hz⟩:=I.tuple hq
  exact call_tuple_same pl ⟨.ref p,H,I,rfl,q⟩
noncomputable def tyV(K:18#0)(T:String)(x:V)(H:Hp):Prop:=match x with
 | .str _=>T="str"
 | .int _=>T="int"
 | .ref p=>(T="list"/\∃ xs,SqL K H p xs)\/(T="tuple"/\∃ xs,SqT K H p xs) \/
   (T="dict"/\((∃ kvs,H p=some (.dK kvs))\/∃ kvs,H p=some (.dT kvs)))\/(T="set"/\∃ S n,H p=some (.set S n))
 | _=>False
theorem zOH{pins:27#0}{σ:St}{H:Hp}{s:Shared}{T:String}{x:V}{v:Value}(I:21#0)(r:RelV x v)(ty:tyV X.K T x H) :
  s.TypeIs v T/\∀ a,v=.ref a->∃ ob,s.heap.get? a=some ob/\ob.dict=none:=by
 cases x with
 | str z =>
  obtain⟨t,rfl⟩:=r;cases (show T="str" from ty);exact⟨typeIs_str s z t,fun u0 e=>nomatch e⟩
 | int i =>
  obtain⟨t,rfl⟩:=r;cases (show T="int" from ty);exact⟨typeIs_int s i t,fun u0 e=>nomatch e⟩
 | ref p =>
  cases r;rcases ty with ⟨rfl,xs,hq⟩ | ⟨rfl,xs,hq⟩ | ⟨rfl,hk⟩ | ⟨rfl,S,n,hk⟩
  ·obtain⟨its,u0,pl,u0⟩:=I.list hq
   refine⟨pl.isList.typeIs,fun a e=>?_⟩;cases e;obtain⟨o,n,e,c,hd,u0⟩:=pl;exact⟨o,e,hd⟩
  ·obtain⟨h1,o,h2,h3⟩:=I.noDict hq
   refine⟨h1,fun a e=>?_⟩;cases e;exact⟨o,h2,h3⟩
  ·have z:∃ o,s.heap.get? p=some o/\o.ExactDict:=by
    rcases hk with ⟨kvs,hk⟩ | ⟨kvs,hk⟩
    ·obtain⟨u0,u0,u0,u0,o,u0,u0,e,ex,u0⟩:=I.hok p _ hk
     exact⟨o,e,ex⟩
    ·obtain⟨u0,u0,u0,u0,o,u0,u0,e,ex,u0⟩:=I.hok p _ hk
     exact⟨o,e,ex⟩
   obtain⟨o,e,ex⟩:=z;refine⟨⟨o,e,ex.1⟩,fun a e2=>?_⟩;cases e2;exact⟨o,e,ex.2.1⟩
  ·obtain⟨o,u0,u0,u0,e,ex,u0⟩:=I.hok p _ hk
   refine⟨⟨o,e,ex.1⟩,fun a e2=>?_⟩;cases e2;exact⟨o,e,ex.2.1⟩
 | _=>exact False.elim ty
noncomputable def tBM(K:18#0)(T:String)(r:V->List V->Hp->VK->Prop)(to:TE)(t:TA):TE:=fun σ H Q=>to σ H fun x H1=>tyV K T x H1/\t σ H1 fun xs H2=>r x xs H2 Q
variable {o e:Expr} {es:List Expr} {to:TE} {t:TA} {name:Str} {apos cpos:Pos} {T id:String} {r:V->List V->Hp->VK->Prop}
theorem zOI(pa:PlainAttrs T)(slot:Slot T name id)(hty:typeOf (.builtin id)=pure (.type "method_descriptor"))(hm:MtR X id r)(ho:PE X o to)(ha:PA X (e::es) t)
  (hbase:autoParam (attributeBase o name X.env (eval o X.env)=eval o X.env) Zq4._auto_1)
  (hfew:autoParam (((backTo cpos (starEach (e::es) X.env)).all (fun x=>!x.1)&&(backToKw cpos (keywordEach [] X.env)).all (fun x=>x.1.isSome)
   && decide ((e::es).length+([]:List Keyword).length+(if ([]:List Keyword).isEmpty then 0 else 1)<30))=true) Zq4._auto_1)
  (hline:92#0) (hs:13#0) (hplain:autoParam ((backTo cpos (starEach es X.env)).any (·.1)=false) Zq4._auto_1) :
  PE X (.Call (.Attribute o name apos) (e::es) [] cpos) (tBM X.K T r to t):=by
 sleep 18;refine wpAny_Call_method_late hbase hfew hline rfl (yz (ho pins s σ H _ I h) fun v s1 u9=>?_);obtain⟨x,H1,I1,r1,ty,q1⟩:=u9;obtain⟨h1,h2⟩:=zOH I1 r1 ty;refine⟨T,id,pa,slot,hty,h1,h2,?_⟩;have hA:=ha cpos pins s1 σ H1 _ I1 q1;sleep 12;exact yz hA fun us s2 ⟨vs,H2,I2,r2,q2⟩=>hm pins s2 σ H2 x vs v us Q I2 r1 r2 q2
end
noncomputable def MtM(X:Cx)(id:String)(r:V->List V->Hp->VK->Prop):Prop :=
 ∀(pins:27#0) (s:Shared) (σ:St) (H:Hp) (x:V) (xs:List V) (v:Value) (us:31#0) (Q:VK),zb X pins σ H s->RelV x v->zf xs us->r x xs H Q ->
  wpAny 22#0 X.A (call (.builtin id) (v::us)) (EP X pins σ Q) X.xe s
theorem zf.one:∀ {x:V} {us:31#0},zf [x] us->∃ u,us=[u]/\RelV x u
 | _,_,.cons r .nil=>⟨_,rfl,r⟩
theorem zf.zero:∀ {us:31#0},zf [] us->us=[]
 | _,.nil=>rfl
theorem zf.eraseIdx:∀ {xs:List V} {us:31#0} (i:Nat),zf xs us->zf (xs.eraseIdx i) (us.eraseIdx i)
 | _,_,_,.nil=>.nil
 | _,_,0,.cons _ t=>t
 | _,_,i+1,.cons r t=>.cons r (zf.eraseIdx i t)
theorem zf.reverse{xs:List V}{us:31#0}(h:zf xs us):zf xs.reverse us.reverse:=by
 induction h with
 | nil=>exact .nil
 | cons r t ih=>rw[eX,eX];exact zf.append ih (.cons r .nil)
theorem zf.rep{xs:List V}{us:31#0}(h:zf xs us):∀ k:Nat,zf (cw k xs).flatten (cw k us).flatten
 | 0=>.nil
 | k+1=>by
  rw[bU,bU,eO,eO];exact zf.append h (zf.rep h k)
theorem zHM{α:Type}:∀(l:List α) (i:Nat),(l.eraseIdx i).length<=l.length
 | [],_=>ce _
 | _::_,0=>ef _
 | _::r,i+1=>Nat.succ_le_succ (zHM r i)
theorem foldl_rep(its:31#0):∀(k:Nat) (acc:31#0),
  List.foldl (fun x1 x2=>x1++x2) acc.toArray (cw k its.toArray)=(acc++(cw k its).flatten).toArray
 | 0,acc=>by simp
 | k+1,acc=>by
  have e:acc.toArray++its.toArray=(acc++its).toArray:=by simp
  have e2:(acc++its)++(cw k its).flatten=acc++(cw (k+1) its).flatten:=by
   rw[bU,eO,dN]
  rw[<-e2,<-foldl_rep its k (acc++its),<-e,bU,List.foldl_cons]
section
variable {X:Cx} {pins:List (Addr×Obj)} {σ:St} {H:Hp} {s:Shared} {l b:Addr} {xs ys zs:List V}
theorem zb.lset{its its':31#0}{n:Nat}{f:Array Value->Array Value}{t':Nat}(I:21#0)(hH:H l=some (.lst xs))
  (e:s.heap.get? l=some { cls:=.type "list",data:=.seq its.toArray n }) (hf:f its.toArray=its'.toArray) (hv:zf ys its') (hz:ys.length<=sizeLine) :
  zb X pins σ (wY H l (.lst ys)) { s with heap:=s.heap.update l (Obj.mapSeq f),toks:=t' }:=by
 have q:=PySem.IsL.update e f;rw[hf] at q;refine I.write (x:=l) (e:=l) (by rw[hH];exact trivial) (.inl rfl) (fun b' u hb hu=>(dQ s.heap (Obj.mapSeq f) (Ne.symm hb)).trans hu) ⟨_,q⟩ ?_;exact⟨hz,its',_,hv,q⟩
theorem zb.lnew{its:31#0}{t':Nat}(I:21#0)(hv:zf ys its)(hz:ys.length<=sizeLine) :
  zb X pins σ (wY H s.heap.objs.size (.lst ys)) { s with heap:=s.heap.push { cls:=.type "list",data:=.seq its.toArray },toks:=t' } :=
 I.laid (fun u0 u0 q=>bX _ q) (ce _) ⟨hz,its,0,hv,ck _ rfl⟩
theorem zb.fresh(I:21#0):H s.heap.objs.size=none:=I.hok.fresh (ce _)
theorem zb.lstM(I:21#0)(hH:H l=some (.lst xs)):xs.length<=sizeLine/\∃(its:31#0) (n:Nat),zf xs its/\xs.length=its.length/\s.heap.get? l=some { cls:=.type "list",data:=.seq its.toArray n }:=by
 obtain⟨z,its,n,r,e⟩:=I.hok l _ hH;exact⟨z,its,n,r,r.length,e⟩
theorem zJC{n:Nat}(h:n<=sizeLine):Builtin.List.listTooLong n=false:=by
 unfold Builtin.List.listTooLong;exact decide_eq_false 2#0
end
section
variable {X:Cx}
noncomputable def zQv:V->List V->Hp->VK->Prop:=fun x vs H Q=>∃ l xs y,x=.ref l/\vs=[y]/\H l=some (.lst xs)/\xs.length<sizeLine/\Q .non (wY H l (.lst (xs++[y])))
theorem zHN:MtM X "list.append" zQv:=by
 sleep 27;obtain⟨l,xs,y,rfl,rfl,hH,hz,q⟩:=h;cases rx;obtain⟨u,rfl,ru⟩:=rv.one;obtain⟨z,its,n,r,hl,e⟩:=I.lstM hH;refine call_meets F.slot_list_append ⟨_,e,rfl⟩ F.entry_list_append (F.args_list_append_2 _ _) (PySem.list_append l its.toArray n u (by rw[cn];omega)) ⟨e,?_⟩;refine⟨.non,_,I.lset (its':=its++[u]) hH e 24#0 (r.append (.cons ru .nil)) ?_,rfl,q⟩;rw[cg,List.length_singleton];omega
noncomputable def zQw:V->List V->Hp->VK->Prop:=fun x vs H Q=>∃ l b xs zs,x=.ref l/\vs=[.ref b]/\H l=some (.lst xs)/\H b=some (.lst zs)/\xs.length+zs.length<=sizeLine/\Q .non (wY H l (.lst (xs++zs)))
theorem zMq:MtM X "list.extend" zQw:=by
 sleep 27;obtain⟨l,b,xs,zs,rfl,rfl,hH,hB,hz,q⟩:=h;cases rx;obtain⟨u,rfl,ru⟩:=rv.one;cases ru;obtain⟨z,its,n,r,hl,e⟩:=I.lstM hH;obtain⟨z2,its2,n2,r2,hl2,e2⟩:=I.lstM hB;have hsz:its.toArray.size+its2.toArray.size<=sizeLine:=by rw[cn,cn];omega
 have hlong:¬ (!its.toArray.isEmpty&&Builtin.List.listTooLong (its.toArray.size+its2.toArray.size))=true:=by
  rw[zJC hsz,fg];exact dR
 refine call_meets F.slot_list_extend ⟨_,e,rfl⟩ F.entry_list_extend (F.args_list_extend_2 _ _)
  (AutoSeq1.list_extend_list_list_0 l its.toArray n b its2.toArray n2 hlong (by rw[cn];omega) 2#0) ⟨e,e2,?_⟩
 refine⟨.non,_,I.lset (its':=its++its2) hH e 24#0 (r.append r2) ?_,rfl,q⟩;rw[cg];omega
noncomputable def zTJ:V->List V->Hp->VK->Prop:=fun x vs H Q=>∃ l xs i k y,x=.ref l/\vs=[.int i]/\H l=some (.lst xs)/\-(2 ^ 63)<=i/\i<2 ^ 63/\seqIndex? i xs.length=some k/\xs[k]?=some y/\Q y (wY H l (.lst (xs.eraseIdx k)))
theorem zOJ:MtM X "list.pop" zTJ:=by
 sleep 27;obtain⟨l,xs,i,k,y,rfl,rfl,hH,h1,h2,hk,hy,q⟩:=h;cases rx;obtain⟨u,rfl,ru⟩:=rv.one;obtain⟨t,rfl⟩:=ru;obtain⟨z,its,n,r,hl,e⟩:=I.lstM hH;obtain⟨w,hw,rw'⟩:=r.get hy;refine call_meets F.slot_list_pop ⟨_,e,rfl⟩ F.entry_list_pop (F.args_list_pop_2 _ _)
  (MeetsSeq.list_pop_at l its.toArray n i t k w (fitsIndex_both h1 h2) (by rw[cn,<-hl];exact hk) (by rw[<-Array.getElem?_toList];exact hw) (by rw[cn];omega)) ⟨e,?_⟩
 refine⟨y,_,I.lset (its':=its.eraseIdx k) hH e ?_ (r.eraseIdx k) ?_,rw',q⟩
 ·show its.toArray.eraseIdxIfInBounds k=(its.eraseIdx k).toArray
  rw[List.eraseIdxIfInBounds_toArray]
 ·have:=zHM xs k
  omega
noncomputable def zVL:R2:=fun x y H Q=>∃ l b xs zs,x=.ref l/\y=.ref b/\H l=some (.lst xs)/\H b=some (.lst zs)/\xs.length+zs.length<=sizeLine/\∀ p,H p=none->Q (.ref p) (wY H p (.lst (xs++zs)))
theorem zTK:OpR X (binaryOp .Add) zVL:=by
 sleep 10;obtain⟨l,b,xs,zs,rfl,rfl,hH,hB,hz,q⟩:=h;cases rx;cases ry;obtain⟨z,its,n,r,hl,e⟩:=I.lstM hH;obtain⟨z2,its2,n2,r2,hl2,e2⟩:=I.lstM hB;refine PySem.P.add_list e e2 ?_ (by rw[cn,cn];omega);have ea:its.toArray++its2.toArray=(its++its2).toArray:=by simp
 rw[ea];exact⟨.ref _,_,I.lnew (t':=s.toks) (r.append r2) (by rw[cg];omega),rfl,q _ I.fresh⟩
noncomputable def zVM:R2:=fun x y H Q=>∃ l k xs,x=.ref l/\y=.int k/\H l=some (.lst xs)/\-(2 ^ 63)<=k/\k<2 ^ 63/\xs.length*k.toNat<=sizeLine /\
 ∀ p,H p=none->Q (.ref p) (wY H p (.lst (cw k.toNat xs).flatten))
theorem len_rep{α:Type}(xs:List α)(k:Nat):(cw k xs).flatten.length=k*xs.length:=by
 induction k with
 | zero=>simp
 | succ k ih=>rw[bU,eO,cg,ih,Nat.succ_mul,Nat.add_comm]
theorem zTL:OpR X (binaryOp .Mult) zVM:=by
 sleep 10;obtain⟨l,k,xs,rfl,rfl,hH,h1,h2,hz,q⟩:=h;cases rx;obtain⟨t,rfl⟩:=ry;obtain⟨z,its,n,r,hl,e⟩:=I.lstM hH;have hlen:its.toArray.size*k.toNat<=sizeLine:=by rw[cn,<-hl];exact hz
 have hcap:¬ its.toArray.size*k.toNat>(2 ^ 63-1) / 8:=by
  have:(sizeLine:Nat)<=(2 ^ 63-1) / 8:=by decide
  omega
 have hfit:¬ (!Builtin.List.listFitsIndex k)=true:=by
  rw[fitsIndex_both h1 h2];exact dR
 have hlong:¬ Builtin.List.listTooLong (its.toArray.size*k.toNat)=true:=by
  rw[zJC hlen];exact dR
 have hnew:List.foldl (fun x1 x2=>x1++x2) #[] (cw (if its.toArray.isEmpty=true then 0 else k.toNat) its.toArray)=(cw k.toNat its).flatten.toArray:=by
  have f0:∀ m:Nat,List.foldl (fun x1 x2=>x1++x2) #[] (cw m its.toArray)=(cw m its).flatten.toArray:=fun m=>by
   have:=foldl_rep its m [];rw[c9] at this;exact this
  rw[f0];cases its with
  | nil=>simp
  | cons a r'=>rw[if_neg 24#0]
 refine wpAny_binaryOp_repeat_ref (T:="list") (U:="int") 8#0 ⟨_,e,rfl⟩ (fun s'=>typeIs_int s' k t) noFill_list_mul F.fills_int_mul F.slot_int_rmul repeat_list F.slot_int_index.lookup
  (call_meets F.slot_int_rmul (typeIs_int s k t) F.entry_int_rmul (F.args_int_rmul_2 _ _) (int___rmul___int_list k t l its.toArray n)
   ⟨e,rfl,⟨_,e,rfl⟩,call_meets F.slot_list_mul ⟨_,e,rfl⟩ F.entry_list_mul (F.args_list_mul_2 _ _) (AutoListH.list___mul___list_int_3 l its.toArray n k t hfit hcap hlong) ⟨e,?_⟩⟩)
 rw[hnew];exact⟨.ref _,_,I.lnew (t':=s.toks) (r.rep k.toNat) (by rw[len_rep,Nat.mul_comm];exact hz),rfl,q _ I.fresh⟩
end
section
variable {prog:Program} {w:World} {A:Around} {E:Value->Shared->Prop} {s:Shared}
end
section
variable {X:Cx}
end
end L2
namespace Att
open PySem PySem.W PySem.Calls PyProof.Rows
theorem zFI{P:Params}{h:Heap}:∀(ns:96#0) (vs:31#0),WellAll P h vs (ns.map WData.int)->IntsAre vs ns:=by
 intro ns
 induction ns with
 | nil =>
  intro vs w;rw[List.map_nil] at w;cases w;exact .nil
 | cons n ns ih =>
  intro vs w;rw[cU] at w;cases w with
  | cons a b =>
   cases a;exact .cons _ _ (ih _ b)
theorem zMr{l:OpenLaw}{n:Nat}(hn:l.most=some n){P:Params}{h:Heap}{args:List WData}{vals:31#0}
  (hpre:l.row.toRowW.claim.pre args=true) (hwl:WellAll P h vals args) :
  ∃ a vs ns,vals=[Value.ref a]/\args=[WData.list (ns.map WData.int)]/\h.get? a=some { cls:=.type "list",data:=.seq vs.toArray }/\IntsAre vs ns/\ns.length<=n:=by
 have hsh:WShape.hasAll [] args [.list .int]=true:=(pre_splitW hpre).1;have hc:l.pre.holds [] { args:=args }=true:=(pre_splitW hpre).2;obtain⟨d,r,rfl,h1,h2⟩:=hasAllW_cons hsh;obtain rfl:=hasAllW_nil h2;obtain⟨xs,rfl,h3⟩:=hasW_list h1;obtain⟨ns,rfl⟩:=items_int h3;have hlen:ns.length<=n:=by
  unfold OpenLaw.pre at hc;have h4:(WTm.not (.lt (.lit (.int (n:Int))) (.len (.arg 0)))).holds [] { args:=[.list (ns.map .int)] }=true:=by
   have h4:=(holds_andW hc).1;rw[hn] at h4;exact h4
  have h5:=condW_of h4 (w_not (w_lt w_lit (w_len_list (w_arg rfl))));rw[bZ] at h5;refine Nat.le_of_not_lt fun q=>?_;have q':(n:Int)<((ns.length:Nat):Int):=by omega
  first
   | (rw[decide_eq_true q'] at h5;exact absurd h5 8#0)
   | (simp at h5;omega)
 cases hwl with
 | cons w1 w2 =>
  cases w2;cases w1 with
  | list ho hall=>exact⟨_,_,ns,rfl,rfl,ho,zFI ns _ hall,hlen⟩
theorem zMs(l:OpenLaw)(args:List WData):l.row.toRowW.claim.post args (.bool true) args=true :=
 postW_of (r:=l.row.toRowW) (X:=(true==true))
  (show WShape.has [] (.bool true) .bool=true by first | rfl | decide | simp[WShape.has,WShape.arms,WShape.armsAll])
  (show(WTm.eq .res (.lit (.bool true))).value [] { args:=args,res:=some (.bool true),after:=args }=some (.bool (true==true)) from w_eq_bool (w_res rfl) w_lit) rfl
theorem zJD{l:OpenLaw}{n:Nat}{q:Program}{loose:List Str}{XP:(Str->Option Value)->Heap->Prop}{YP:World->Heap->Prop}{d:DefRec}
  (hn:l.most=some n) (hdf:d.params.defaults=[])
  (call:∀(w:World) (s₀ s₁:Shared) (mg mb:78#0) (fa:Addr) (o:Obj) (pm cd doc:Value) (a:Addr) (vs:31#0) (ns:96#0),
   Ground q loose [] XP w s₀ mg mb s₁.heap->YP w s₁.heap ->
   s₁.heap.get? fa=some o->o.data=.func (docDef d.name d.params d.body d.scope pm cd doc)->s₁.heap.CodeRec cd d.name->mg d.name=some (.ref fa) ->
   s₁.heap.get? a=some { cls:=.type "list",data:=.seq vs.toArray }->IntsAre vs ns->ns.length<=n->s₁.gens=#[] ->
   codeAny (model l.prog w) callerA (.call (.ref fa) ⟨[.ref a],[]⟩) 103#0 s₁) :
  WalkO q loose XP YP l.row.toRowW d [] (fun f vs=>PySem.call f vs):=by
 intro w s₀ s₁ mg mb G Y fa o pm cd doc dV kV ho hd hcd hD hmg hg args vals as hpre hlay hrd hwl hlo;obtain rfl:dV=.none:=Dflts.none hD hdf;obtain rfl:kV=.none:=Dflts.noKw hD;obtain⟨a,vs,ns,rfl,rfl,hobj,hints,hlen⟩:=zMr hn hpre hwl;refine enter_call (er (call w s₀ s₁ mg mb fa o pm cd doc a vs ns G Y ho (fd_plain hd) hcd hmg hobj hints hlen hg) fun r s' hq=>?_);obtain⟨rfl,h2,h3,h4⟩:=hq;exact⟨.inl ⟨.bool true,.bool true,[],rfl,fun u0=>rfl,.bool true,zMs l _,fun u0=>⟨en.nil,fun u0 hm=>(nomatch hm)⟩⟩,h2,h3,h4⟩
section
variable {prog:Program} {w:World} {A:Around} {E:Value->Shared->Prop} {s:Shared} {K:Frag}
end
end Att
namespace L2
theorem zEi:∀ {vs:31#0} {ns:96#0},IntsAre vs ns->zf (ns.map V.int) vs
 | _,_,.nil=>.nil
 | _,_,.cons n t h=>.cons ⟨t,rfl⟩ (zEi h)
noncomputable def zQx(H:Hp):Prop:=∀ b,H b=none\/(∃ o xs,H b=some (.frz o (.lst xs)))\/∃ ps,H b=some (.tbl ps)
structure TabsAt (K:PySem.W.Frag) (h:Heap) (ts:List Addr) (qn:Addr->Str):Prop where
 obj:∀ P∈ts,h.get? P=some (PySem.W.tabObj #[])
 out:∀ P∈ts,K.lookup P=none
 code:∀ P∈ts,isCodeTable h P
 name:∀ x∈zLc,∀ c b,PySem.W.tabIn K x=some (c,b)->b∈ts/\qn b=x++".<locals>.<lambda>"
theorem zOK{P':Program}{w:World}{K:18#0}{mg mb:78#0}{CX:CXT}{k:Nat}{fa a:Addr}{fd:FuncData}{x:Str}{sp:Sp}{s₁:Shared}{vs:31#0}{ns:96#0}{ts:List Addr}{qn:Addr->Str}
  (TB:TabsAt K s₁.heap ts qn) (KX:K.In s₁.heap) (hns:s₁.heap.Ns mainGlobals mg) (hb:s₁.heap.Ns builtinsNs mb) (hbb:∀ x:Str,x≠"__name__"->mb x=bootBuiltins x) (hlim:s₁.heap.NoLimit) (hg:s₁.gens=#[])
  (ha:s₁.heap.get? a=some { cls:=.type "list",data:=.seq vs.toArray }) (hi:IntsAre vs ns) (hl:ns.length<=sizeLine) (hr:wL k callerA)
  (F:∀ base:Heap,K.In base->base.Ns mainGlobals mg->zFq P' w K mg base CX k fa fd [x] sp) (hbind:∀(s:Shared) (u:Value),BindsTo s fd ⟨[u],[]⟩ [(x,u)])
  (hsp:∀ H:Hp,zQx H->SqL K H a (ns.map V.int)->sp [.ref a] H (fun v u0=>v=.bl true) fun u0 u0 u0=>False)
  (hCX:∀ H e s',CX [] H s₁ (fun u0 u0 u0=>False) e s'->False) :
  codeAny (model P' w) callerA (.call (.ref fa) ⟨[.ref a],[]⟩) 103#0 s₁:=by
 have rv:=zEi hi;have lenV:=hi.length
 -- from an abstract heap in which nothing but the script may be tracked
 have core:∀ H:Hp,zQx H->SqL K H a (ns.map V.int)->HOk P' w H s₁.heap->(∀ b,H b≠none->b=a\/b∈ts)->(H a≠none->K.lookup a=none)->(∀ P∈ts,H P=some (.tbl #[.str (qn P) 0])) ->
   codeAny (model P' w) callerA (.call (.ref fa) ⟨[.ref a],[]⟩) 103#0 s₁:=by
  intro H hO hS hok hA hK hT;have base_of:∀ {b:Addr} {o:Obj},s₁.heap.get? b=some o->H b=none->(zIA s₁.heap H).get? b=some o:=fun e n=>zN4 e n;have noA:∀ {b:Addr} {o:Obj} {es:Array DictEntry} {ep:Nat},s₁.heap.get? b=some o->o.data=.dict es ep->H b=none:=fun {b o es ep} e d=>by
   cases q:H b with
   | none=>rfl
   | some u =>
    rcases hA b (by rw[q];simp) with e' | e'
    ·subst e'
     rw[ha] at e;cases e;have d':Data.seq vs.toArray _=Data.dict es ep:=d;cases d'
    ·rw[TB.obj b e'] at e;cases e
     have d':Data.fields #[]=Data.dict es ep:=d;cases d'
  have nsK:∀ {b:Addr} {m:78#0},s₁.heap.Ns b m->(zIA s₁.heap H).Ns b m:=fun {b m} ⟨o,es,ep,e,d,r⟩=>⟨o,es,ep,base_of e (noA e d),d,r⟩
  have hKb:K.In (zIA s₁.heap H):=fun b o e=>base_of (KX b o e) (by
   cases q:H b with
   | none=>rfl
   | some u =>
    rcases hA b (by rw[q];simp) with e' | e'
    ·subst e'
     rw[hK (by rw[q];simp)] at e;cases e
    ·rw[TB.out b e'] at e;cases e)
  have hM:Mod K mg (zIA s₁.heap H):=⟨hKb,nsK hns,⟨mb,nsK hb,hbb⟩,let ⟨mc,h1,h2⟩:=hlim;⟨mc,nsK h1,h2⟩⟩
  have e0:zQn P' w K mg (zIA s₁.heap H) callerA [] s₁ H:=⟨rfl,hM,fun b o e=>zQZ e,Nat.le_of_eq (zMh _ _),trivial,fun b hb=>absurd (show b∈([]:List Addr) from hb) 24#0,hok,.of_eq hg,fun x hx c b e=>by
   obtain⟨z1,z2⟩:=TB.name x hx c b e;exact⟨0,by rw[<-z2];exact hT b z1⟩⟩
  refine er ((F _ hKb (nsK hns)).run callerA [] s₁ H ⟨[.ref a],[]⟩ [.ref a] [.ref a] _ _ hr e0 (hbind s₁ (.ref a)) (.cons rfl .nil) (hsp H hO hS)) fun r s' h=>?_;cases r with
  | error e=>exact(hCX H e s' h).elim
  | ok fl =>
   cases fl with
   | next=>exact False.elim h
   | brk=>exact False.elim h
   | cont=>exact False.elim h
   | ret u =>
    obtain⟨v,H',os,bare,un,hok',r',q⟩:=h;have q':v=.bl true:=q;subst q';obtain rfl:u=Value.bool true:=r';have K1:∀ b o,b∉ts->s₁.heap.get? b=some o->s'.heap.get? b=some o:=fun b o hb e=>by
     cases q:H b with
     | none=>exact un.keep b o e q (by intro z;exact absurd (show b∈([]:List Addr) from z) 24#0) 24#0
     | some u =>
      rcases hO b with z | ⟨ob,xs,z⟩ | ⟨ps,z⟩
      ·rw[q] at z;cases z
      ·have z2:=un.frzs b ob _ z
       obtain⟨e1,u0⟩:=hok b _ z;obtain⟨e2,u0⟩:=hok' b _ z2;rw[e] at e1;cases e1;exact e2
      ·rcases hA b (by rw[q];simp) with e' | e'
       ·obtain⟨u0,u0,u0,u0,w1,u0⟩:=hok b _ z
        rw[e',ha] at w1;cases w1
       ·exact absurd e' hb
    have K2:∀ b,b∈ts->∃ vs,s'.heap.get? b=some (PySem.W.tabObj vs):=fun b hb=>by
     have z2:=un.tbls b _ (hT b hb);obtain⟨u0,u0,vs,u0,w1,u0⟩:=hok' b _ z2;exact⟨vs,w1⟩
    refine⟨rfl,⟨fun b o e=>?_,fun b o e=>?_⟩,os,bare⟩
    ·by_cases hb:b∈ts
     ·obtain⟨vs,w1⟩:=K2 b hb
      rw[TB.obj b hb] at e;cases e;exact .inr (.inl ⟨TB.code b hb,rfl,#[],vs,rfl,by simpa using w1⟩)
     ·exact .inl (K1 b o hb e)
    ·by_cases hb:b∈ts
     ·obtain⟨vs,w1⟩:=K2 b hb
      exact⟨_,w1⟩
     ·exact⟨o,K1 b o hb e⟩
 have naT:∀ P∈ts,P≠a:=fun P hP z=>by
  have e:=TB.obj P hP;rw[z,ha] at e;cases e
 have tok:∀(H:Hp),∀ P∈ts,wf P' w H s₁.heap P (.tbl #[.str (qn P) 0]):=fun H P hP=>⟨qn P,0,#[],rfl,TB.obj P hP,trivial,fun pos cv e=>by cases e⟩
 cases hk:K.lookup a with
 | some o =>
  -- the script is one of the module's own objects
  have e:=KX a o hk;rw[ha] at e;cases e;refine core (fun b=>if b∈ts then some (.tbl #[.str (qn b) 0]) else none) (fun b=>?_) (.inr ⟨_,vs.toArray,_,hk,rfl,rfl,rfl,by rw[cn,lenV];exact hl,by simpa using rv⟩) (fun b u z=>?_) (fun b z=>?_) (fun z=>?_) fun P hP=>if_pos hP
  ·by_cases hb:b∈ts
   ·exact .inr (.inr ⟨_,if_pos hb⟩)
   ·exact .inl (if_neg hb)
  ·by_cases hb:b∈ts
   ·have z':=(if_pos hb).symm.trans z
    cases z';exact tok _ b hb
   ·have z':=(if_neg hb).symm.trans z
    cases z'
  ·by_cases hb:b∈ts
   ·exact .inr hb
   ·exact absurd (if_neg hb) z
  ·by_cases hb:a∈ts
   ·exact absurd rfl (naT a hb)
   ·exact absurd (if_neg hb) z
 | none =>
  refine core (fun b=>if b=a then some (.frz { cls:=.type "list",data:=.seq vs.toArray } (.lst (ns.map V.int))) else if b∈ts then some (.tbl #[.str (qn b) 0]) else none) (fun b=>?_) (.inl (.inr ⟨{ cls:=.type "list",data:=.seq vs.toArray },if_pos rfl⟩)) (fun b u z=>?_) (fun b z=>?_) (fun u0=>hk) fun P hP=>?_
  ·by_cases hb:b=a
   ·exact .inr (.inl ⟨_,_,if_pos hb⟩)
   ·by_cases hb2:b∈ts
    ·exact .inr (.inr ⟨_,(if_neg hb).trans (if_pos hb2)⟩)
    ·exact .inl ((if_neg hb).trans (if_neg hb2))
  ·by_cases hb:b=a
   ·have z':=(if_pos hb).symm.trans z
    cases z';subst hb;exact⟨ha,by rw[bZ];exact hl,vs,_,rv,ha⟩
   ·by_cases hb2:b∈ts
    ·have z':=((if_neg hb).trans (if_pos hb2)).symm.trans z
     cases z';exact tok _ b hb2
    ·have z':=((if_neg hb).trans (if_neg hb2)).symm.trans z
     cases z'
  ·by_cases hb:b=a
   ·exact .inl hb
   ·by_cases hb2:b∈ts
    ·exact .inr hb2
    ·exact absurd ((if_neg hb).trans (if_neg hb2)) z
  ·exact(if_neg (naT P hP)).trans (if_pos hP)
theorem zQy{l:PySem.W.OpenLaw}{n k:Nat}{q:Program}{loose:List Str}{XP:(Str->Option Value)->Heap->Prop}{YP:World->Heap->Prop}{d:DefRec}{K:Params->PySem.W.Frag}{CX:World->CXT}{sp:World->Sp}{x:Str}
  (hn:l.most=some n) (hn2:n<=sizeLine) (hdf:d.params.defaults=[]) (hr:wL k callerA)
  (hY:∀(w:World) (h:Heap),YP w h->(K w.params).In h/\∃ ts qn,TabsAt (K w.params) h ts qn)
  (F:∀(w:World) (mg:78#0) (fa:Addr) (h:Heap),(K w.params).In h->h.Ns mainGlobals mg->mg d.name=some (.ref fa) ->
   ∃ fd:FuncData,(∀(s:Shared) (u:Value),BindsTo s fd ⟨[u],[]⟩ [(x,u)]) /\
    ∀ base:Heap,(K w.params).In base->base.Ns mainGlobals mg->zFq l.prog w (K w.params) mg base (CX w) k fa fd [x] (sp w))
  (hsp:∀(w:World) (H:Hp) (a:Addr) (ns:96#0),ns.length<=n->zQx H->SqL (K w.params) H a (ns.map V.int)->sp w [.ref a] H (fun v u0=>v=.bl true) fun u0 u0 u0=>False)
  (hCX:∀(w:World) (H:Hp) (s:Shared) (e:Value) (s':Shared),CX w [] H s (fun u0 u0 u0=>False) e s'->False) :
  PySem.W.WalkO q loose XP YP l.row.toRowW d [] (fun f vs=>PySem.call f vs):=by
 refine Att.zJD hn hdf fun w s₀ s₁ mg mb fa o pm cd doc a vs ns G Y ho hd hcd hmg hobj hints hlen hg=>?_;obtain⟨KX,ts,qn,TB⟩:=hY w _ Y;obtain⟨fd,hb,hF⟩:=F w mg fa _ KX G.T.g hmg;exact zOK TB KX G.T.g G.T.b G.T.builtins G.T.nolimit hg hobj hints (di hlen hn2) hr hF hb (fun H hO hS=>hsp w H a ns hlen hO hS) fun H e s'=>hCX w H s₁ e s'
noncomputable def zBT(s:Stmt):Arguments:=match s with
 | .FunctionDef _ a _ _ _ _ _ _ _ _=>a
 | _=>{ posonlyargs:=[],args:=[],vararg:=none,kwonlyargs:=[],kw_defaults:=[],kwarg:=none,defaults:=[] }
noncomputable def wo(s:Stmt):List Stmt:=match s with
 | .FunctionDef _ _ b _ _ _ _ _ _ _=>b
 | _=>[]
noncomputable def zJ(s:Stmt):Scope:=match s with
 | .FunctionDef _ _ _ _ _ _ sc _ _ _=>sc
 | _=>{ kind:=.function,names:=[],isGenerator:=false,isCoroutine:=false }
noncomputable abbrev CX0:CXT:=fun u0 u0 u0 u0 u0 u0=>False
noncomputable abbrev E0:XK:=fun u0 u0 u0=>False
theorem zSG{X:Cx}:zKY CX0 X E0:=fun u0 u0 u0 u0 u0 u0 u0 h=>h.elim
structure Fun (K:PySem.W.Frag) (x qual:Str) (st:Stmt) (f:Addr) (fd:FuncData):Prop where
 ex:∃(oc:Value) (od:Option Addr) (kV doc pm:Value) (an:Option Addr) (cdv ct:Value) (osl:Array (Option Value)),
  fd=PySem.W.fnOf x qual (zBT st) (wo st) (zJ st) .none kV doc pm an cdv ct/\K.lookup f=some ⟨oc,od,.func fd,osl⟩/\PySem.W.codeIn K cdv qual=true
 kp:PySem.W.keepIn K (.ref f)=true
section
variable {P:Program} {w:World} {K:PySem.W.Frag} {mg:Str->Option Value} {base:Heap}
theorem Fun.ok{x qual:Str}{st:Stmt}{f:Addr}{fd:FuncData}{N ps:List Str}{k:Nat}{sp:Sp}(F:Fun K x qual st f fd)(S:zY N ps (zJ st))(len:∀ vs H Q E,sp vs H Q E->vs.length=ps.length)
  (hbody:∀(cdv:Value) (A:Around) (outer:List Env) (s:Shared) (H:Hp) (vs:List V) (Q:VK) (E:XK),wL k (A.deeper (envOfC qual (zJ st) s.heap.objs.size f cdv))->sp vs H Q E ->
   ∃ t,PSs (zIC CX0 P w K mg base N qual (zJ st) f cdv A outer s H E).nox (wo st) t/\t { nx:=fun u0 H'=>Q .non H',rt:=Q } (start N vs) H):zFq P w K mg base CX0 (k+1) f fd ps sp:=by
 obtain⟨oc,od,kV,doc,pm,an,cdv,ct,osl,rfl,lk,hcd⟩:=F.ex;refine zUW lk hcd S len fun A outer s H vs Q E hr hsp=>?_;obtain⟨t,h,q⟩:=hbody cdv A outer s H vs Q E hr hsp;exact⟨t,h.nox,q⟩
theorem Fun.binds{x qual:Str}{st:Stmt}{f:Addr}{fd:FuncData}{ps:List Str}(F:Fun K x qual st f fd)
  (h:∀(kV doc pm:Value) (an:Option Addr) (cdv ct:Value) (us:31#0),us.length=ps.length->bindArgs 143#0 ⟨us,[]⟩=pure (ps.zip us)):Binds K fd ps []:=by
 obtain⟨oc,od,kV,doc,pm,an,cdv,ct,osl,rfl,lk,hcd⟩:=F.ex;exact .all (h kV doc pm an cdv ct)
theorem zOL{x qual:Str}{st:Stmt}{f:Addr}{oc:Value}{od an:Option Addr}{osl:Array (Option Value)}{kV doc pm cdv ct:Value}(l:K.lookup f=some ⟨oc,od,.func 143#0,osl⟩)
  (c:PySem.W.codeIn K cdv qual=true) (k:PySem.W.keepIn K (.ref f)=true):Fun K x qual st f 143#0:=⟨⟨oc,od,kV,doc,pm,an,cdv,ct,osl,rfl,l,c⟩,k⟩
end
section
variable {X:Cx}
theorem pv(i:Nat){x:Str}{pos:Pos}(hN:108#0)(hv:autoParam (Vis X.env.scope x) Zq6._auto_1)(hd:9#0)
  (hcd:85#0):PE X (.Name x pos) (zUF i):=zN5 hN hv hd hcd
end
end L2
set_option maxHeartbeats 4000000
namespace K
open PySem PySem.W PyProof.Rows L2
noncomputable def top(i:Nat):Stmt:=PySem.Challenge.pw_chordwebs_k45_whole_splits.main.body.getD i (.Pass ⟨0,0,0,0⟩)
noncomputable def kq:Program:={ PySem.Challenge.pw_chordwebs_k45_whole_splits with main:={ PySem.Challenge.pw_chordwebs_k45_whole_splits.main with body:=[top 1,top 2,top 3,top 5,top 6,top 7,top 8,top 9,top 10,top 11,top 13,top 14,top 15,top 17,top 18,top 19,top 20,top 22,top 23,top 24,top 25,top 26,top 27,top 28,top 29,top 30,top 31,top 33,top 34,top 35,top 36,top 37,top 38,top 40,top 42,top 43,top 44,top 45,top 46,top 47,top 48,top 49,top 50,top 51,top 52,top 53,top 54,top 55] } }
noncomputable def cO(n:Str)(t u l m g a:Nat)(b:Bool):Obj:=⟨.type "code",none,.fields #[.str n t,.str n (t+1),.str "/claim/cut.py" (t+2),.int l 0,.int m 0,.int 0 0,.int 0 0,.int g 0,.ref a,.bool true,.int 181 0,.ref (a+1),.none,if b then .ref (a+2) else .none,if b then .ref (a+3) else .none,.ref (if b then a+4 else a+2),.int u 0,.int l 0,.str "/claim/cut.py" (u+1)],#[]⟩
noncomputable def fO(n:Str)(i c:Nat)(m:Str)(t:Nat):Obj:=⟨.type "function",none,.func (fnOf n n (zBT (top i)) (wo (top i)) (zJ (top i)) .none .none .none (.str m t) none (.ref c) .none),#[]⟩
noncomputable def dE(P:Params)(n:Str)(t:Nat)(v:Value):DictEntry:=⟨PyData.keyHash P n,.str n t,v⟩
noncomputable def kf(P:Params):Frag:=(nat_lit 3,⟨.type "dict",none,.dict #[dE P "__name__" 165 (.str "law_chordwebs_k45_whole_splits" 483),dE P "__doc__" 166 .none,dE P "__package__" 167 .none,dE P "__loader__" 168 (.builtin "__main__.__loader__#opaque"),dE P "__spec__" 169 .none,dE P "__annotations__" 170 (.ref 6),dE P "__builtins__" 171 (.ref 4),dE P "__file__" 173 (.str "/claim/cut.py" 172),dE P "__cached__" 174 .none,dE P "ChordError" 206 (.ref 24),dE P "TooMany" 222 (.ref 37),dE P "NoSplit" 238 (.ref 49),dE P "MOST_PLACES" 242 (.int 9 241),dE P "is_number" 249 (.ref 58),dE P "are_places" 255 (.ref 63),dE P "is_rising" 261 (.ref 68),dE P "pairs" 268 (.ref 75),dE P "pairs_of" 278 (.ref 82),dE P "refuse_more" 286 (.ref 89),dE P "cross" 299 (.ref 96),dE P "web_of" 305 (.ref 101),dE P "turned_round" 313 (.ref 108),dE P "tied" 324 (.ref 115),dE P "around" 330 (.ref 120),dE P "kept" 336 (.ref 125),dE P "named" 344 (.ref 132),dE P "other_side" 352 (.ref 137),dE P "cut_rank" 365 (.ref 144),dE P "row_of" 371 (.ref 149),dE P "is_split" 379 (.ref 156),dE P "splits" 385 (.ref 161),dE P "parted" 394 (.ref 168),dE P "part_of" 406 (.ref 175),dE P "put_together" 412 (.ref 180),dE P "ring_together" 418 (.ref 185),dE P "beside_last" 428 (.ref 192),dE P "MOST_FOUND" 432 (.int 7 431),dE P "ring_of" 440 (.ref 199),dE P "near_order" 446 (.ref 204),dE P "tied_among" 452 (.ref 209),dE P "grown" 465 (.ref 216),dE P "with_chord" 471 (.ref 221),dE P "web_turned" 482 (.ref 228),dE P "_law_cell_at" 492 (.ref 235),dE P "_law_state" 501 (.ref 242),dE P "_law_take" 511 (.ref 249),dE P "_law_pairs" 517 (.ref 254),dE P "_law_web" 523 (.ref 259),dE P "_law_ring" 529 (.ref 264),dE P "_law_web_of" 535 (.ref 269),dE P "_law_side" 541 (.ref 274),dE P "_law_glued" 547 (.ref 279),dE P "_law_loose" 553 (.ref 284),dE P "_law_ranks" 559 (.ref 289),dE P "_law_parts" 565 (.ref 294),dE P "_law_rings" 576 (.ref 301),dE P "law" 592 (.ref 308)] 57,#[]⟩)::(nat_lit 57,cO "is_number" 243 247 10 1 3 52 true)::(nat_lit 58,fO "is_number" 6 57 "chordwebs.basics" 239)::(nat_lit 62,cO "are_places" 250 253 12 2 3 59 false)::(nat_lit 63,fO "are_places" 7 62 "chordwebs.basics" 239)::(nat_lit 67,cO "is_rising" 256 259 14 1 3 64 false)::(nat_lit 68,fO "is_rising" 8 67 "chordwebs.basics" 239)::(nat_lit 74,cO "pairs" 262 266 16 1 3 69 true)::(nat_lit 75,fO "pairs" 9 74 "chordwebs.basics" 239)::(nat_lit 81,cO "pairs_of" 269 276 18 1 3 76 true)::(nat_lit 82,fO "pairs_of" 10 81 "chordwebs.basics" 239)::(nat_lit 88,cO "refuse_more" 279 284 24 2 3 83 true)::(nat_lit 89,fO "refuse_more" 11 88 "chordwebs.basics" 239)::(nat_lit 95,cO "cross" 289 297 28 3 3 90 true)::(nat_lit 96,fO "cross" 13 95 "chordwebs.rings" 287)::(nat_lit 100,cO "web_of" 300 303 32 1 3 97 false)::(nat_lit 101,fO "web_of" 14 100 "chordwebs.rings" 287)::(nat_lit 107,cO "turned_round" 306 311 35 2 3 102 true)::(nat_lit 108,fO "turned_round" 15 107 "chordwebs.rings" 287)::(nat_lit 114,cO "tied" 316 322 38 3 3 109 true)::(nat_lit 115,fO "tied" 17 114 "chordwebs.webs" 314)::(nat_lit 119,cO "around" 325 328 40 2 3 116 false)::(nat_lit 120,fO "around" 18 119 "chordwebs.webs" 314)::(nat_lit 124,cO "kept" 331 334 42 2 3 121 false)::(nat_lit 125,fO "kept" 19 124 "chordwebs.webs" 314)::(nat_lit 131,cO "named" 337 342 46 2 3 126 true)::(nat_lit 132,fO "named" 20 131 "chordwebs.webs" 314)::(nat_lit 136,cO "other_side" 347 350 49 2 3 133 false)::(nat_lit 137,fO "other_side" 22 136 "chordwebs.splits" 345)::(nat_lit 143,cO "cut_rank" 353 363 51 2 3 138 true)::(nat_lit 144,fO "cut_rank" 23 143 "chordwebs.splits" 345)::(nat_lit 148,cO "row_of" 366 369 61 3 3 145 false)::(nat_lit 149,fO "row_of" 24 148 "chordwebs.splits" 345)::(nat_lit 155,cO "is_split" 372 377 63 2 3 150 true)::(nat_lit 156,fO "is_split" 25 155 "chordwebs.splits" 345)::(nat_lit 160,cO "splits" 380 383 67 1 3 157 false)::(nat_lit 161,fO "splits" 26 160 "chordwebs.splits" 345)::(nat_lit 167,cO "parted" 386 392 72 2 3 162 true)::(nat_lit 168,fO "parted" 27 167 "chordwebs.splits" 345)::(nat_lit 174,cO "part_of" 395 404 77 3 3 169 true)::(nat_lit 175,fO "part_of" 28 174 "chordwebs.splits" 345)::(nat_lit 179,cO "put_together" 407 410 84 2 3 176 false)::(nat_lit 180,fO "put_together" 29 179 "chordwebs.splits" 345)::(nat_lit 184,cO "ring_together" 413 416 93 2 3 181 false)::(nat_lit 185,fO "ring_together" 30 184 "chordwebs.splits" 345)::(nat_lit 191,cO "beside_last" 419 426 99 1 3 186 true)::(nat_lit 192,fO "beside_last" 31 191 "chordwebs.splits" 345)::(nat_lit 198,cO "ring_of" 433 438 106 1 3 193 true)::(nat_lit 199,fO "ring_of" 34 198 "chordwebs.found" 429)::(nat_lit 203,cO "near_order" 441 444 110 1 3 200 false)::(nat_lit 204,fO "near_order" 35 203 "chordwebs.found" 429)::(nat_lit 208,cO "tied_among" 447 450 116 3 3 205 false)::(nat_lit 209,fO "tied_among" 36 208 "chordwebs.found" 429)::(nat_lit 215,cO "grown" 453 463 118 4 3 210 true)::(nat_lit 216,fO "grown" 37 215 "chordwebs.found" 429)::(nat_lit 220,cO "with_chord" 466 469 127 3 3 217 false)::(nat_lit 221,fO "with_chord" 38 220 "chordwebs.found" 429)::(nat_lit 227,cO "web_turned" 474 480 139 2 3 222 true)::(nat_lit 228,fO "web_turned" 40 227 "chordwebs.turns" 472)::(nat_lit 234,cO "_law_cell_at" 485 490 143 2 3 229 true)::(nat_lit 235,fO "_law_cell_at" 42 234 "law_chordwebs_k45_whole_splits" 483)::(nat_lit 241,cO "_law_state" 493 499 147 2 3 236 true)::(nat_lit 242,fO "_law_state" 43 241 "law_chordwebs_k45_whole_splits" 483)::(nat_lit 248,cO "_law_take" 502 509 152 2 3 243 true)::(nat_lit 249,fO "_law_take" 44 248 "law_chordwebs_k45_whole_splits" 483)::(nat_lit 253,cO "_law_pairs" 512 515 161 1 3 250 false)::(nat_lit 254,fO "_law_pairs" 45 253 "law_chordwebs_k45_whole_splits" 483)::(nat_lit 258,cO "_law_web" 518 521 166 2 3 255 false)::(nat_lit 259,fO "_law_web" 46 258 "law_chordwebs_k45_whole_splits" 483)::(nat_lit 263,cO "_law_ring" 524 527 176 2 3 260 false)::(nat_lit 264,fO "_law_ring" 47 263 "law_chordwebs_k45_whole_splits" 483)::(nat_lit 268,cO "_law_web_of" 530 533 179 1 3 265 false)::(nat_lit 269,fO "_law_web_of" 48 268 "law_chordwebs_k45_whole_splits" 483)::(nat_lit 273,cO "_law_side" 536 539 187 2 3 270 false)::(nat_lit 274,fO "_law_side" 49 273 "law_chordwebs_k45_whole_splits" 483)::(nat_lit 278,cO "_law_glued" 542 545 189 2 3 275 false)::(nat_lit 279,fO "_law_glued" 50 278 "law_chordwebs_k45_whole_splits" 483)::(nat_lit 283,cO "_law_loose" 548 551 197 2 3 280 false)::(nat_lit 284,fO "_law_loose" 51 283 "law_chordwebs_k45_whole_splits" 483)::(nat_lit 288,cO "_law_ranks" 554 557 205 3 3 285 false)::(nat_lit 289,fO "_law_ranks" 52 288 "law_chordwebs_k45_whole_splits" 483)::(nat_lit 293,cO "_law_parts" 560 563 213 2 3 290 false)::(nat_lit 294,fO "_law_parts" 53 293 "law_chordwebs_k45_whole_splits" 483)::(nat_lit 300,cO "_law_rings" 566 574 222 2 3 295 true)::(nat_lit 301,fO "_law_rings" 54 300 "law_chordwebs_k45_whole_splits" 483)::(nat_lit 307,cO "law" 577 590 229 1 3 302 true)::(nat_lit 308,fO "law" 55 307 "law_chordwebs_k45_whole_splits" 483)::[]
noncomputable def ka:List Addr:=3::57::58::62::63::67::68::74::75::81::82::88::89::95::96::100::101::107::108::114::115::119::120::124::125::131::132::136::137::143::144::148::149::155::156::160::161::167::168::174::175::179::180::184::185::191::192::198::199::203::204::208::209::215::216::220::221::227::228::234::235::241::242::248::249::253::254::258::259::263::264::268::269::273::274::278::279::283::284::288::289::293::294::300::301::307::308::[]
theorem ke(P:Params):ka=(kf P).map (·.1):=by kernel_rfl
set_option maxHeartbeats 0 in
theorem hl:LeftO PySem.Challenge.rw_chordwebs_k45_whole_splits.row.prog kq [] (fun s=>xlAt kq [] s&&recOk (RowW.records PySem.Challenge.rw_chordwebs_k45_whole_splits.row.toRowW) s) (Hook.obs (kHook kf ka ke)) (Hook.val (kHook kf ka ke)) 4006:=fun w=>by kernel_rfl
end K
namespace K
end K
namespace L2
noncomputable def zEj(env:Env):List (Str×NameKind)->List (Str×Addr)->List (Str×Addr)
 | [],cs=>cs
 | (n,k)::r,cs=>zEj env r (if k==.free then match env.cells.lookup n with | some a=>(n,a)::cs | none=>cs else cs)
noncomputable def zEk(sc:Scope)(env:Env):List (Str×Addr):=zEj env sc.names []
theorem zHO{env:Env}:∀ {ns:List (Str×NameKind)} {cs:List (Str×Addr)} {x:Str} {c:Addr},(∀ y a,cs.lookup y=some a->env.cells.lookup y=some a)->(zEj env ns cs).lookup x=some c->env.cells.lookup x=some c
 | [],_,_,_,h,e=>h _ _ e
 | (n,k)::r,cs,x,c,h,e=>by
  unfold zEj at e;refine zHO (ns:=r) (fun y a q=>?_) e;by_cases hk:(k==NameKind.free)=true
  ·rw[if_pos hk] at q
   cases hc:env.cells.lookup n with
   | none=>rw[hc] at q;exact h y a q
   | some d =>
    rw[hc] at q;cases hy:y==n with
    | true =>
     simp only[cM,hy] at q;have:y=n:=by simpa using hy
     rw[this,hc];exact q
    | false =>
     simp only[cM,hy] at q;exact h y a q
  ·rw[if_neg hk] at q;exact h y a q
theorem zHP{sc:Scope}{env:Env}{x:Str}{c:Addr}(e:(zEk sc env).lookup x=some c):env.cells.lookup x=some c :=
 zHO (fun u0 u0 q=>by simp at q) e
theorem zCa{env:Env}:∀ {ns:List (Str×NameKind)} {cs:List (Str×Addr)} {x:Str},(∀ y∈ns,y.2=.free->∃ c,env.cells.lookup y.1=some c)->((∃ c,cs.lookup x=some c)\/(x,NameKind.free)∈ns)->∃ c,(zEj env ns cs).lookup x=some c
 | [],cs,x,_,h=>by
  rcases h with h | h
  ·exact h
  ·cases h
 | (n,k)::r,cs,x,hh,h=>by
  unfold zEj;refine zCa (ns:=r) (fun y hy=>hh y (cq _ hy)) ?_;by_cases hk:k=.free
  ·subst hk
   obtain⟨c,hc⟩:=hh (n,.free) cF rfl;have hc':env.cells.lookup n=some c:=hc;simp only[beq_self_eq_true,if_true,hc'];cases hx:x==n with
   | true=>exact .inl ⟨c,by simp[cM,hx]⟩
   | false =>
    rcases h with ⟨d,h⟩ | h
    ·exact .inl ⟨d,by simp[cM,hx,h]⟩
    ·rcases cI.mp h with e | h
     ·injection e with e1 _
      subst e1;simp at hx
     ·exact .inr h
  ·have hb:(k==NameKind.free)=false:=by simpa using hk
   simp only[hb,bT,if_false];rcases h with h | h
   ·exact .inl h
   ·rcases cI.mp h with e | h
    ·injection e with _ e2
     exact absurd e2.symm hk
    ·exact .inr h
theorem zJE{env:Env}:∀ {ns:List (Str×NameKind)} {cs:List (Str×Addr)},(∀ y∈ns,y.2=.free->∃ c,env.cells.lookup y.1=some c) ->
  (forIn ns cs fun(x:Str×NameKind) (r:List (Str×Addr))=>if (x.2==NameKind.free)=true then (do let a <-cellOf env x.1;pure (ForInStep.yield ((x.1,a)::r)):Sem _) else pure (ForInStep.yield r))=(pure (zEj env ns cs):Sem _)
 | [],_,_=>rfl
 | (n,k)::r,cs,hh=>by
  rw[List.forIn_cons];have ih:=fun cs'=>zJE (env:=env) (ns:=r) (cs:=cs') fun y hy=>hh y (cq _ hy);by_cases hk:k=.free
  ·subst hk
   obtain⟨c,hc⟩:=hh (n,.free) cF rfl;have hc':env.cells.lookup n=some c:=hc;have e:cellOf env n=pure c:=by unfold cellOf;rw[hc']
   simp only[beq_self_eq_true,if_true,e,pure_bind];rw[ih];have q:zEj env ((n,NameKind.free)::r) cs=zEj env r ((n,c)::cs):=by simp only[zEj,beq_self_eq_true,if_true,hc']
   rw[q]
  ·have hb:(k==NameKind.free)=false:=by simpa using hk
   simp only[hb,bT,if_false,pure_bind];rw[ih];have q:zEj env ((n,k)::r) cs=zEj env r cs:=by simp only[zEj,hb,bT,if_false]
   rw[q]
theorem zBi{sc:Scope}{env:Env}(hh:∀ y∈sc.names,y.2=.free->∃ c,env.cells.lookup y.1=some c):closureFor sc env=pure (zEk sc env):=by
 have e:=zJE (env:=env) (ns:=sc.names) (cs:=[]) hh;unfold closureFor;show(forIn sc.names [] 67#0>>=fun s=>pure s)=_;have hb:67#0 =
   fun(x:Str×NameKind) (r:List (Str×Addr))=>if (x.2==NameKind.free)=true then (do let a <-cellOf env x.1;pure (ForInStep.yield ((x.1,a)::r)):Sem _) else pure (ForInStep.yield r):=by
  funext x r;obtain⟨n,k⟩:=x;rfl
 rw[hb,e];rfl
noncomputable def Cx.comp(X:Cx)(N':List Str)(sc:Scope)(C:Addr)(s:Shared)(H:Hp)(fp:List Addr)(pins:27#0):Cx :=
 { X with N:=N',s₀:=s,H₀:=H,env:=compEnvC sc (zEk sc X.env) C X.env,outer:=X.stack,ex:=fp,fn:=fun u0=>false,pn:=X.pn++pins,xe:=fun u0 u0=>False }
noncomputable def PTs(X:Cx)(ifs:List Expr)(t:TT):Prop :=
 ∀(pins:27#0) (s:Shared) (σ:St) (H:Hp) (Q:Bool->Hp->Prop),zb X pins σ H s->t σ H Q ->
  wpAny 22#0 X.A (forIn ifs true fun c r=>if r=true then do let ok <-isTrue c X.env (eval c X.env);pure (ForInStep.yield ok) else pure (ForInStep.yield r)) (TP X pins σ Q) X.xe s
noncomputable def zVN:TT:=fun u0 H Q=>Q true H
theorem zQz{X:Cx}:PTs X [] zVN:=fun u0 u0 u0 H u0 I h=>wpAny_tests_nil ⟨H,I,h⟩
theorem zQ0{X:Cx}{c:Expr}{t:TT}(h:PT X c t):PTs X [c] t:=fun pins s σ H Q I hq=>wpAny_tests_one (h pins s σ H Q I hq)
noncomputable def zLm(n0:Nat)(wi:TI)(g:TG)(tc:TT)(te:TE):TE:=fun σ H Q=>wi σ H fun J H1=>∀ D,H1 D=none->∃ W:Nat->Nat->Hp->Prop,(∃ m,W 0 m (wY H1 D (.lst []))) /\
 ∀ i m H2,W i m H2->(J.stop i H2/\Q (.ref D) H2) \/
  (J.go i H2/\∀ x H3,J.yld i H2 x H3->g x (σ++cw n0 none) H3 fun σ4 H4=>σ4.take σ.length=σ/\σ4.length=σ.length+n0/\tc σ4 H4 fun b H5 =>
   if b=true then te σ4 H5 fun v H6=>∃ acc,H6 D=some (.lst acc)/\acc.length<sizeLine/\∃ m',m'<m/\W (i+1) m' (wY H6 D (.lst (acc++[v]))) else ∃ m',m'<m/\W (i+1) m' H5)
theorem PE.mono{X:Cx}{e:Expr}{t t':TE}(h:PE X e t)(hm:∀ σ H Q,t' σ H Q->t σ H Q):PE X e t':=fun pins s σ H Q I q=>h pins s σ H Q I (hm σ H Q q)
theorem PT.mono{X:Cx}{e:Expr}{t t':TT}(h:PT X e t)(hm:∀ σ H Q,t' σ H Q->t σ H Q):PT X e t':=fun pins s σ H Q I q=>h pins s σ H Q I (hm σ H Q q)
theorem PS.mono{X:Cx}{e:Stmt}{t t':TS}(h:PS X e t)(hm:∀ D σ H,t' D σ H->t D σ H):PS X e t':=fun pins s σ H D I q=>h pins s σ H D I (hm D σ H q)
section
variable {X:Cx} {tg elt iter:Expr} {ifs:List Expr} {sc:Scope} {pos:Pos} {N0 own:List Str} {wi:TI} {g:TG} {tc:TT} {te:TE}
structure zDe (X:Cx) (sc:Scope) (N0:List Str):Prop where
 kind:sc.kind=.function
 cell:∀ y∈sc.names,y.2≠.cell
 names:∀ y∈sc.names,y.2=.local->sc.names.lookup y.1=some .local
 cap:∀ y∈sc.names,y.2=.free->X.env.kindOf y.1=some .cell\/X.env.kindOf y.1=some .free
 len:N0.length=X.N.length
 vis:∀(i:Nat) (x:Str),N0[i]?=some x->Vis (relabel sc X.env) x->X.N[i]?=some x/\sc.names.lookup x=some .free
theorem zBU{env:Env}:∀ {names:List (Str×NameKind)} {x:Str},(∀ y∈names,y.2≠.cell) ->
    ((names.map fun(n,k)=>if 19#0 then (n,NameKind.cell) else (n,k)).lookup x=some .cell \/
     (names.map fun(n,k)=>if 19#0 then (n,NameKind.cell) else (n,k)).lookup x=some .free)->names.lookup x=some .free
  | [],_,_,h=>by rcases h with h | h<;>simp at h
  | (n,k)::r,x,hc,h=>by
    have ih:=@zBU env r x fun y hy=>hc y (cq _ hy);have hk:k≠.cell:=hc (n,k) cF;have hd:∀(z:NameKind),(((n,k)::r).map fun(n,k)=>if 19#0 then (n,NameKind.cell) else (n,k)).lookup x=some z ->
        if (x==n)=true then (if 19#0=true then z=.cell else z=k) else (r.map fun(n,k)=>if 19#0 then (n,NameKind.cell) else (n,k)).lookup x=some z:=by
      intro z e;have e':List.lookup x ((if 19#0=true then (n,NameKind.cell) else (n,k))::(r.map fun(n,k)=>if 19#0 then (n,NameKind.cell) else (n,k)))=some z:=e;cases hx:x==n with
      | true =>
        rw[if_pos rfl];by_cases hq:19#0=true
        · rw[if_pos hq] at e' ⊢
          simp only[cM,hx] at e';exact(Option.some.inj e').symm
        · rw[if_neg hq] at e' ⊢
          simp only[cM,hx] at e';exact(Option.some.inj e').symm
      | false =>
        rw[if_neg 24#0];by_cases hq:19#0=true
        · rw[if_pos hq] at e';simpa only[cM,hx] using e'
        · rw[if_neg hq] at e';simpa only[cM,hx] using e'
    cases hx:x==n with
    | true =>
      simp only[cM,hx];rcases h with h | h
      · have q:=hd _ h
        rw[if_pos hx] at q;by_cases hq:19#0=true
        · have:(k==NameKind.free)=true:=by
            cases hk':k==NameKind.free with
            | true=>rfl
            | false=>simp[hk'] at hq
          have:k=.free:=by simpa using this
          rw[this]
        · rw[if_neg hq] at q;exact absurd q.symm hk
      · have q:=hd _ h
        rw[if_pos hx] at q;by_cases hq:19#0=true
        · rw[if_pos hq] at q;cases q
        · rw[if_neg hq] at q;rw[<-q]
    | false =>
      simp only[cM,hx];refine ih ?_;rcases h with h | h
      · have q:=hd _ h
        rw[if_neg (by simp[hx])] at q;exact .inl q
      · have q:=hd _ h
        rw[if_neg (by simp[hx])] at q;exact .inr q
theorem zHQ{X':Cx}{σ:St}{it D:Addr}{fp:List Addr}{tn:Nat->Heap->Prop}{J:It}{Q:VK}{W:Nat->Nat->Hp->Prop}{Z:Hp->Shared->Prop}{H0:Hp}{s₅:Shared}{m0:Nat}(hc:X'.calm=true)(hx:∀ v s,X'.xe v s->False)(Tn:Turn X'.prog X'.w X'.K tg J fp it tn)
  (hg:PG X' tg g) (ht:PTs X' ifs tc) (he:PE X' elt te)
  (turn:∀ i m H2,W i m H2->(J.stop i H2/\Q (.ref D) H2) \/
    (J.go i H2/\∀ x H3,J.yld i H2 x H3->g x 84#0 H3 fun σ4 H4=>σ4.take σ.length=σ/\σ4.length=σ.length+own.length/\tc σ4 H4 fun b H5 =>
     if b=true then te σ4 H5 fun v H6=>∃ acc,H6 D=some (.lst acc)/\acc.length<sizeLine/\∃ m',m'<m/\W (i+1) m' (wY H6 D (.lst (acc++[v]))) else ∃ m',m'<m/\W (i+1) m' H5))
  (fpX:∀ {H:Hp},(∀ b∈fp,H b=none)->∀ b∈fp,zCY X' [] H b) (back:∀ {σ':St} {H':Hp} {s':Shared},zb X' [] σ' H' s'->Z H' s')
  (I4:zb X' [] 84#0 H0 s₅) (st4:tn 0 s₅.heap) (fpD:∀ b∈fp,H0 b=none) (w0:W 0 m0 H0) :
  codeAny (model X'.prog X'.w) X'.A (.compLoop 29#0 0 (.ref it) (.ref D) X'.env) (fun r s'=>∃ H',r=.ok .next/\Z H' s'/\Q (.ref D) H') s₅:=by
  refine codeAny_loop rfl (fun n s'=>∃ i H',zb X' [] 84#0 H' s'/\tn i s'.heap/\(∀ b∈fp,H' b=none)/\W i n H') (fun n s6=>?_) m0 ⟨0,_,I4,st4,fpD,w0⟩;rintro⟨i,H6,I6,st6,fr6,w6⟩;show wpAny _ X'.A ((compTurn 29#0 0 (.ref it) (.ref D) X'.env).onRaise (fun x=>do noteFrame x X'.env;theTreesLotGoes x)) _ _ s6;refine wpAny_noted ?_;rw[compTurn_list];have nox:∀ {α:Type} {t:Sem α} {Q:α->Shared->Prop} {E':11#0} {s:Shared},wpAny (model X'.prog X'.w) X'.A t Q X'.xe s->wpAny (model X'.prog X'.w) X'.A t Q E' s:=fun h=>wpAny_mono h (fun u0 u0 q=>q) fun v s z=>(hx v s z).elim;refine bQ (wpAny_standAt (bQ ?_));rcases turn i n H6 w6 with ⟨stop,qn⟩ | ⟨go,step⟩
  ·refine nox (yz (Tn.done X' rfl rfl rfl hc i [] s6 _ H6 _ I6 (fpX fr6) st6 stop) fun r s7 u9=>?_);obtain⟨hr,I7⟩:=u9
   subst hr;exact c5 ⟨H6,rfl,back I7,qn⟩
  ·refine nox (yz (Tn.item X' rfl rfl rfl hc i [] s6 _ H6 _ I6 (fpX fr6) st6 go) fun r s7 u9=>?_);obtain⟨u,hr,h7⟩:=u9
   subst hr;refine bQ (nox (yz h7 fun _ s8 u9=>?_));obtain⟨x,H8,I8,r8,y8,st8,fr8⟩:=u9;have I8':=I8.pinned (fpX fr8) (Tn.obj _ _ st8);refine bQ (nox (yz (hg _ s8 _ H8 x u _ I8' r8 (step x H8 y8)) fun _ s9 u9=>?_));obtain⟨σ9,H9,I9,q1,q2,q9⟩:=u9;have again:∀ {s':Shared} {H':Hp},zb X' ([]++zFp fp s8.heap) σ9 H' s'->(∃ m',m'<n/\W (i+1) m' H')->∃ m,m<n/\∃ i H',zb X' [] 84#0 H' s'/\tn i s'.heap/\(∀ b∈fp,H' b=none)/\W i m H':=by
    intro s' H' J ⟨m',hm,w'⟩;refine⟨m',hm,i+1,H',?_,Tn.keep _ _ _ st8 fun b hb o e=>(J.pin (b,o) (cS _ (cS _ (zB3 hb e)))).1,fun b hb=>?_,w'⟩
    ·refine(J.unpinned).weak ?_ fun j v e=>?_
     ·rw[q2,cg,List.length_replicate]
     ·have hj:j<σ.length:=by
       by_cases hj:j<σ.length
       ·exact hj
       ·rw[de 2#0,fb] at e
        split at e<;>cases e
      rw[cT hj] at e;rw[<-q1,List.getElem?_take_of_lt hj] at e;exact e
    ·obtain⟨o,e,d⟩:=Tn.obj _ _ st8 b hb
     exact(J.pin (b,o) (cS _ (cS _ (zB3 hb e)))).2.1
   refine bQ (nox (yz (ht _ s9 σ9 H9 _ I9 q9) fun ok s10 u9=>?_));obtain⟨H10,I10,q10⟩:=u9;cases ok with
   | false=>exact c5 ⟨rfl,again I10 q10⟩
   | true =>
    refine bQ (bQ (nox (yz (he _ s10 σ9 H10 _ I10 q10) fun uv s11 u9=>?_)));obtain⟨v,H11,I11,r11,acc,hD11,hz,q11⟩:=u9;refine bQ (nox (yz (zHN _ s11 σ9 H11 (.ref D) [v] (.ref D) [uv] (fun u0 H12=>H12=wY H11 D (.lst (acc++[v]))) I11 rfl (.cons r11 .nil) ⟨_,acc,v,rfl,rfl,hD11,hz,rfl⟩) fun _ s12 u9=>?_));obtain⟨_,H12,I12,_,q12⟩:=u9;subst q12;exact c5 (c5 ⟨rfl,again I12 q11⟩)
theorem zFu{pins:27#0}{σ:St}{s₂:Shared}{itv:Value}{Q:VK}{E:11#0}(hc:79#0)(T:zDe X sc N0)
  (hg:∀ C s H fp pins,PG 63#0 tg g) (ht:∀ C s H fp pins,PTs 63#0 ifs tc) (he:∀ C s H fp pins,PE 63#0 elt te)
  (h:PIE X pins σ tg (fun J H1=>∀ D,H1 D=none->∃ W:Nat->Nat->Hp->Prop,(∃ m,W 0 m (wY H1 D (.lst []))) /\
   ∀ i m H2,W i m H2->(J.stop i H2/\Q (.ref D) H2) \/
    (J.go i H2/\∀ x H3,J.yld i H2 x H3->g x 84#0 H3 fun σ4 H4=>σ4.take σ.length=σ/\σ4.length=σ.length+own.length/\tc σ4 H4 fun b H5 =>
     if b=true then te σ4 H5 fun v H6=>∃ acc,H6 D=some (.lst acc)/\acc.length<sizeLine/\∃ m',m'<m/\W (i+1) m' (wY H6 D (.lst (acc++[v]))) else ∃ m',m'<m/\W (i+1) m' H5)) itv s₂) :
  wpAny 22#0 X.A (newList []) (fun acc s₃=>wpAny 22#0 X.A (newFunctionEnv sc X.env.globals (zEk sc X.env) [] X.env.qual none .none (some X.env)) (fun cenv s₄ =>
   codeAny 22#0 X.A (.compStart 29#0 0 itv acc { cenv with scope:=relabel sc X.env })
    147#0 s₄) E s₃) E s₂:=by
 obtain⟨it,fp,tn,J,H1,rfl,I2,Tn,st2,f2,hR⟩:=h;refine dk (wpAny_newFunctionEnv T.cell (by intro y hy;simp at hy) (fun h₁ hns₁ hsb₁=>?_) T.kind);dsimp only at hns₁ hsb₁ ⊢;generalize hH2:s₂.heap.push { cls:=.type "list",dict:=none,data:=.seq ([]:List Value).toArray }=h3 at hns₁ hsb₁ ⊢;have hC:h3.objs.size=s₂.heap.objs.size+1:=by rw[<-hH2,e8]
 -- the list
 have I3:zb X pins σ 74#0 { s₂ with heap:=h3 }:=by
  rw[<-hH2];exact I2.laid (t':=s₂.toks) (fun b u e=>bX _ e) (ce _) ⟨by simp,[],0,.nil,ck _ rfl⟩
 have fD:H1 s₂.heap.objs.size=none:=I2.hok.fresh (ce _);obtain⟨W,⟨m0,w0⟩,turn⟩:=hR _ fD;have kp:∀ b o,h3.get? b=some o->h₁.get? b=some o:=fun b o e=>hsb₁.extBut b o (cH (ci e)) (bX _ e);have fp2:∀ b∈fp,b<s₂.heap.objs.size:=fun b hb=>by
  obtain⟨o,e,u0⟩:=Tn.obj _ _ st2 b hb;exact ci e
 -- the block's context
 have CK:∀ x c,(zEk sc X.env).lookup x=some c->X.env.cells.lookup x=some c:=fun x c e=>zHP e;have nofs:∀ {b:Addr},h3.objs.size<=b->b∉frs X.stack:=fun {b} hb z=>by
  rcases cI.mp (I3.stkSub b z) with e | z
  ·exact absurd (cE I3.lt (show h3.objs.size<=X.env.locals by rw[<-e];exact hb)) (cR _)
  ·exact I3.nofs (a:=b) hb z
 have fpS:∀ b∈fp,b∉frs X.stack:=fun b hb z=>by
  rcases cI.mp (I3.stkSub b z) with e | z
  ·exact(f2 b hb).2.1 e
  ·exact(f2 b hb).2.2.1 z
 have fpD:∀ b∈fp,wY H1 s₂.heap.objs.size (.lst []) b=none:=fun b hb=>by rw[yV (cH (fp2 b hb))];exact(f2 b hb).1
 have pinS:∀ p∈X.pn++pins,p.1∉frs X.stack:=fun p hp z=>by
  obtain⟨u0,u0,n1,n2,u0⟩:=I3.pin p hp;rcases cI.mp (I3.stkSub p.1 z) with e | z
  ·exact n1 e
  ·exact n2 z
 let X':=X.comp (N0++own) sc h3.objs.size { s₂ with heap:=h3 } 74#0 fp pins;have cells':∀ x,120#0->sc.names.lookup x=some .free:=fun x hx=>zBU T.cell hx;have hfree:∀ y∈sc.names,y.2=.free->∃ c,X.env.cells.lookup y.1=some c:=fun y hy hf=>I2.ok.has _ (T.cap y hy hf);have ok':X'.Ok:=by
  refine⟨I3.ok.mod,?_,I3.ok.glob,I3.ok.blt,ce _,fun x y c e1 e2=>I3.ok.inj x y c (CK _ _ e1) (CK _ _ e2),fun x hx=>?_,fun x c z=>(by cases z),I3.ok.hd,I3.ok.frames,.inl rfl,fun b hb=>⟨?_,fun x c e=>?_⟩,I3.bs,di I3.ok.bsz I3.sz,fun b o e hb=>?_,fpS,I3.stack,I3.stkFree,I3.tabs⟩
  ·exact T.kind
  ·have hx':=cells' x hx
   exact zCa hfree (.inr (PySem.mem_of_lookup hx'))
  ·exact cH (cE (fp2 b hb) (by show s₂.heap.objs.size<=h3.objs.size;rw[hC];exact ef _))
  ·exact(f2 b hb).2.2.2.2.1 x c (CK x c e)
  ·have:=(I3.bs b o e).1
   rcases(f2 b hb).2.2.2.1 with z | z
   ·exact I3.ok.noex b o e z
   ·have:=cE (ci e) I3.ok.bsz
    exact absurd (cE this z) (cR _)
 have hlook:∀(i:Nat) (x:Str) (v:V),(N0++own)[i]?=some x->(σ++cw own.length none)[i]?=some (some v)->Vis (relabel sc X.env) x->∃ c u,RelV v u/\X'.env.cells.lookup x=some c/\120#0/\h3.IsCell c (some u):=by
  intro i x v e1 e2 e3;have hi:i<σ.length:=by
   by_cases hi:i<σ.length
   ·exact hi
   ·rw[de 2#0,fb] at e2
    split at e2<;>cases e2
  have e2':σ[i]?=some (some v):=by rw[cT hi] at e2;exact e2
  have hi0:i<N0.length:=by rw[T.len,<-I3.len];exact hi
  have e1':N0[i]?=some x:=by rw[cT hi0] at e1;exact e1
  obtain⟨n1,n2⟩:=T.vis i x e1' e3;have cp:=T.cap _ (PySem.mem_of_lookup n2) rfl;obtain⟨m,hn,hl⟩:=I3.loc;have vis:Vis X.env.scope x:=by
   rcases cp with z | z
   ·exact .inr (.inl z)
   ·exact .inr (.inr z)
  sleep 29;rcases l with ⟨z,u0⟩ | ⟨u0,c,e,q⟩
  ·rcases cp with z' | z'<;>(rw[z] at z';cases z')
  ·have:c=c':=by
    have:=CK _ _ hc2;rw[e] at this;exact Option.some.inj this
   subst this;refine⟨c,u,r,hc2,?_,q⟩;rcases e3 with z | z | z
   ·exfalso
    have:=lookup_relabel_local (env:=X.env) (names:=sc.names) (x:=x)
    -- a free name is not relabelled local
    have nl:∀ {names:List (Str×NameKind)},names.lookup x=some .free->(names.map fun(n,k)=>if 43#0 then (n,NameKind.cell) else (n,k)).lookup x≠some .local:=by
     intro names
     induction names with
     | nil=>intro h;simp at h
     | cons p r ih =>
      obtain⟨n,k⟩:=p;intro h;show List.lookup x ((if 43#0=true then (n,NameKind.cell) else (n,k))::_)≠_;cases hx:x==n with
      | true =>
       simp only[cM,hx] at h;cases h;by_cases hq:(NameKind.free==NameKind.free&&X.env.scope.kind==.function&&X.env.kindOf n==some .cell)=true
       ·rw[if_pos hq];simp[cM,hx]
       ·rw[if_neg hq];simp[cM,hx]
      | false =>
       simp only[cM,hx] at h;by_cases hq:43#0=true
       ·rw[if_pos hq];simp only[cM,hx];exact ih h
       ·rw[if_neg hq];simp only[cM,hx];exact ih h
    exact nl n2 z
   ·exact .inl z
   ·exact .inr z
 have σl:(σ++cw own.length none).length=(N0++own).length:=by
  rw[cg,cg,List.length_replicate,T.len,<-I3.len]
 have I4:zb X' [] 84#0 74#0 { s₂ with heap:=h₁,toks:=s₂.toks+([]:List (Str×Value)).length }:=by
  refine⟨ok',rfl,I3.bare,Un.kept kp,⟨_,hns₁,fun i x v e1 e2 e3=>?_⟩,fun x c e=>?_,I3.hok.fresh (ce _),fun x c e=>I3.freeC x c (CK x c e),fun p hp=>?_,I3.hok.kept kp,σl⟩
  ·obtain⟨c,u,r,q1,q2,q3⟩:=hlook i x v e1 e2 e3
   obtain⟨o,ho,hd⟩:=q3;exact⟨u,r,.inr ⟨q2,c,q1,o,kp c o ho,hd⟩⟩
  ·obtain⟨v,o,ho,hd⟩:=I3.cell x c (CK x c e)
   exact⟨v,o,kp c o ho,hd⟩
  ·have hp':p∈X.pn++pins:=by
    have:p∈(X.pn++pins)++[]:=hp;sleep 23
   obtain⟨e,n,ne,nf,d⟩:=I3.pin p hp';exact⟨kp _ _ e,n,cH (ci e),pinS p hp',d⟩
 have fpX:∀ {H:Hp},(∀ b∈fp,H b=none)->∀ b∈fp,zCY X' [] H b:=fun {H} hn b hb=>by
  refine⟨hn b hb,(ok'.exf b hb).1,fpS b hb,.inl hb,(ok'.exf b hb).2,fun p hp=>?_⟩;have hp':p∈X.pn++pins:=by
   have:p∈(X.pn++pins)++[]:=hp;sleep 23
  exact(f2 b hb).2.2.2.2.2 p hp'
 have st4:tn 0 h₁:=Tn.keep 0 s₂.heap h₁ st2 fun b hb o e=>kp b o (hH2▸bX _ e)
 -- back to the context around
 have back:∀ {σ':St} {H':Hp} {s':Shared},zb X' [] σ' H' s'->zb X pins σ H' s'/\zCY X pins H' h3.objs.size/\∃ m,s'.heap.Ns h3.objs.size m:=fun {σ' H' s'} J=>by
  have u:Un (frs X.stack) fp 74#0 H' h3 s'.heap:=J.base;have J3:zb X pins σ H' s':=I3.call' J.os u J.hok J.bare fun b hb=>⟨(f2 b hb).2.2.2.1,(f2 b hb).2.1,(f2 b hb).2.2.2.2.1,(f2 b hb).2.2.2.2.2⟩
  obtain⟨m,hn,u0⟩:=J.loc;refine⟨J3,?_,m,hn⟩;refine⟨J.free,Nat.ne_of_gt I3.lt,I3.nofs (ce _),.inr I3.sz,fun x c e z=>?_,fun p hp z=>?_⟩
  ·obtain⟨v,q⟩:=I3.cell x c e
   exact absurd (cE q.lt (by rw[z];exact ce _)) (cR _)
  ·exact absurd (cE (ci (I3.pin p hp).1) (by rw[z];exact ce _)) (cR _)
 have loop:∀ s₅:Shared,s₅={ s₂ with heap:=h₁,toks:=s₂.toks+([]:List (Str×Value)).length } ->
   codeAny 22#0 X.A (.compLoop 29#0 0 (.ref it) (.ref s₂.heap.objs.size) X'.env)
    112#0 s₅:=by
  rintro s₅ rfl;exact er 86#0 fun r s' ⟨H',e,⟨b1,b2,m,b3⟩,q⟩=>⟨_,H',m,e,rfl,b1,b2,b3,q⟩
 exact codeAny_compStart_list (loop _ rfl) (Tn.self _ 0 _ _ _ st4 (loop _ rfl))
theorem zLn(hc:79#0)(T:zDe X sc N0)(hi:PI X tg iter wi)
  (hg:∀ C s H fp pins,PG 63#0 tg g) (ht:∀ C s H fp pins,PTs 63#0 ifs tc) (he:∀ C s H fp pins,PE 63#0 elt te)
  (hs:17#0):PE X 29#0 (zLm own.length wi g tc te):=by
 sleep 18;rw[eval_ListComp];refine wpAny_comprehension_free (use:=none) rfl hs (zBi fun y hy hf=>I.ok.has _ (T.cap y hy hf)) T.kind T.names ?_;refine yz (hi pins s σ H _ I h) fun xv s₁ h₁=>yz h₁ fun it s₂ h₂=>?_;refine yz (zFu (iter:=iter) (pos:=pos) (E:=X.xe) (Q:=Q) hc T hg ht he h₂) fun acc s₃ h₃=>yz h₃ fun cenv s₄ h₄=>er h₄ fun r s' hr=>?_;obtain⟨D,H',m,rfl,rfl,J,f,hn,q⟩:=hr;refine⟨m,hn,fun h' hs'=>⟨.ref D,H',?_,rfl,q⟩⟩;exact J.turned (t':=s'.toks) (fun b o hb e=>(hs'.2 b hb).trans e) f.1 f.2.1 f.2.2.2.1 f.2.2.2.2.1 f.2.2.2.2.2
theorem zKd{i:Nat}{y:Str}{py spos:Pos}(hc:79#0)(T:zDe X sc N0)(hi:PI X tg iter wi)
  (hg:∀ C s H fp pins,PG 63#0 tg g) (ht:∀ C s H fp pins,PTs 63#0 ifs tc) (he:∀ C s H fp pins,PE 63#0 elt te)
  (hN:X.N.Nodup) (hy:X.N[i]?=some y) (hl:X.env.scope.names.lookup y=some .local)
  (hsw:swapsWith 29#0 (some (.Name y py)) spos.line X.env=pure true)
  (hs:17#0):PS X (.Assign [.Name y py] 29#0 spos) (fun D σ H=>zLm own.length wi g tc te σ H fun v H1=>D.nx (σ.set i (some v)) H1):=by
 intro pins s σ H D I h;rw[exec_Assign_Name_used _ _ _ _ hsw];refine bQ (wpAny_standAt (bQ ?_));show wpAny _ X.A (do let _ <-comprehension 29#0 sc X.env _ (newList []) false (eval iter X.env) (some (assign (.Name y py) X.env))) _ _ s;refine bQ (wpAny_mono (wpAny_comprehension_free (use:=some (assign (.Name y py) X.env)) (Q:=fun u0 s'=>SP X pins D .next s') rfl hs (zBi fun y hy hf=>I.ok.has _ (T.cap y hy hf)) T.kind T.names
  (yz (hi pins s σ H _ I h) fun xv s₁ h₁=>yz h₁ fun it s₂ h₂=>?_)) (fun u0 s' hq=>c5 (c5 hq)) fun u0 u0 e=>e)
 refine yz (zFu (iter:=iter) (pos:=pos) (E:=X.xe) (Q:=fun v H1=>D.nx (σ.set i (some v)) H1) hc T hg ht he h₂) fun acc s₃ h₃=>yz h₃ fun cenv s₄ h₄=>er h₄ fun r s' hr=>?_;sleep 24;have hCa:cenv.locals≠a:=by
  rcases ha with z | z
  ·rw[z];exact f.2.1
  ·exact fun e=>f.2.2.2.2.1 y a z e.symm
 sleep 33
end
end L2
namespace L3
open L2
set_option genInjectivity true in
inductive D where
 | non | bl (b:Bool) | int (i:Int) | str (x:Str) | tup (ds:List D) | adr (a:Addr) | dic (a:Addr)
mutual
noncomputable def zX(K:18#0)(H:Hp):D->V->Prop
 | .non,v=>v=V.non
 | .bl b,v=>v=V.bl b
 | .int i,v=>v=V.int i
 | .str x,v=>v=V.str x
 | .adr a,v=>v=V.ref a
 | .dic a,v=>v=V.ref a/\∃ o x,H a=some (.frz o (.own x))/\o.cls=.type "dict"
 | .tup ds,v=>∃ a xs,v=V.ref a/\SqT K H a xs/\Dens K H ds xs
noncomputable def Dens(K:18#0)(H:Hp):List D->List V->Prop
 | [],xs=>xs=[]
 | d::ds,xs=>∃ x r,xs=x::r/\zX K H d x/\Dens K H ds r
end
structure Gp where
 m:Addr->Option (List D)
 ro:Addr->Option (List D)
noncomputable def zS(G:Gp)(a:Addr)(o:List D):Gp:={ G with m:=fun b=>if b=a then some o else G.m b }
theorem zK{G:Gp}{a:Addr}{o:List D}:(zS G a o).m a=some o:=if_pos rfl
theorem zW{G:Gp}{a b:Addr}{o:List D}(h:b≠a):(zS G a o).m b=G.m b:=if_neg h
theorem zBq{G:Gp}{a:Addr}{o u:List D}:zS (zS G a o) a u=zS G a u:=by
 unfold zS;congr 1;funext b;by_cases h:b=a
 ·simp only[if_pos h]
 ·simp only[if_neg h]
theorem gne{G:Gp}{a b:Addr}{o:List D}(h:G.m a=some o)(h':G.m b=none):a≠b:=fun e=>by rw[e,h'] at h;cases h
structure Sub (G G':Gp):Prop where
 m:∀ a o,G.m a=some o->G'.m a=some o
 ro:∀ a o,G.ro a=some o->G'.ro a=some o
theorem Sub.refl(G:Gp):Sub G G:=⟨fun u0 u0 h=>h,fun u0 u0 h=>h⟩
theorem Sub.trans{G G1 G2:Gp}(h:Sub G G1)(h':Sub G1 G2):Sub G G2:=⟨fun a o e=>h'.m a o (h.m a o e),fun a o e=>h'.ro a o (h.ro a o e)⟩
theorem Sub.new{G:Gp}{p:Addr}{o:List D}(h:G.m p=none):Sub G (zS G p o):=⟨fun a u e=>by rw[zW (gne e h)];exact e,fun u0 u0 e=>e⟩
noncomputable def Ls(G:Gp)(a:Addr)(ds:List D):Prop:=G.m a=some ds\/G.ro a=some ds
theorem Ls.sub{G G':Gp}{a:Addr}{ds:List D}(h:Ls G a ds)(s:Sub G G'):Ls G' a ds:=by
 rcases h with h | h
 ·exact .inl (s.m a ds h)
 ·exact .inr (s.ro a ds h)
theorem Ls.own{G:Gp}{a:Addr}{ds:List D}:Ls (zS G a ds) a ds:=.inl zK
noncomputable def RoL(K:18#0)(H:Hp)(a:Addr)(xs:List V):Prop :=
 (∃ o,H a=some (.frz o (.lst xs)))\/∃(o:Obj) (its:123#0) (n:Nat),K.lookup a=some o/\o.cls=.type "list"/\o.dict=none/\o.data=.seq its n/\its.size<=sizeLine/\zf xs its.toList
theorem RoL.sq{K:18#0}{H:Hp}{a:Addr}{xs:List V}(h:RoL K H a xs):SqL K H a xs:=by
 rcases h with h | h
 ·exact .inl (.inr h)
 ·exact .inr h
structure yW (K:PySem.W.Frag) (G:Gp) (H:Hp):Prop where
 m:∀ a ds,G.m a=some ds->∃ xs,H a=some (.lst xs)/\Dens K H ds xs
 ro:∀ a ds,G.ro a=some ds->∃ xs,RoL K H a xs/\Dens K H ds xs
structure yK (H H':Hp):Prop where
 tups:∀ a xs,H a=some (.tup xs)->H' a=some (.tup xs)
 frzs:∀ a o u,H a=some (.frz o u)->H' a=some (.frz o u)
section
variable {K:PySem.W.Frag} {H H' H'':Hp} {G G':Gp}
theorem yK.refl(H:Hp):yK H H:=⟨fun u0 u0 h=>h,fun u0 u0 u0 h=>h⟩
theorem yK.trans(a:yK H H')(b:yK H' H''):yK H H'':=⟨fun c xs h=>b.tups c xs (a.tups c xs h),fun c o u h=>b.frzs c o u (a.frzs c o u h)⟩
theorem yK.fresh{p:Addr}{o:HO}(h:H p=none):yK H (wY H p o):=⟨fun a xs e=>by rw[yV (yy e h)];exact e,fun a o u e=>by rw[yV (yy e h)];exact e⟩
theorem yK.lst{p:Addr}{xs:List V}{o:HO}(h:H p=some (.lst xs)):yK H (wY H p o) :=
 ⟨fun a ys e=>by rw[yV (zSD e h (by intro z;cases z))];exact e,fun a o u e=>by rw[yV (zSD e h (by intro z;cases z))];exact e⟩
theorem yK.sqT(g:yK H H'){a:Addr}{xs:List V}(h:SqT K H a xs):SqT K H' a xs:=by
 rcases h with (h | ⟨o,h⟩) | h
 ·exact .inl (.inl (g.tups _ _ h))
 ·exact .inl (.inr ⟨o,g.frzs _ _ _ h⟩)
 ·exact .inr h
theorem yK.roL(g:yK H H'){a:Addr}{xs:List V}(h:RoL K H a xs):RoL K H' a xs:=by
 rcases h with ⟨o,h⟩ | h
 ·exact .inl ⟨o,g.frzs _ _ _ h⟩
 ·exact .inr h
mutual
theorem zX.grow(g:yK H H'):∀ {d:D} {v:V},zX K H d v->zX K H' d v
 | .non,_,h=>by unfold zX at h ⊢;exact h
 | .bl _,_,h=>by unfold zX at h ⊢;exact h
 | .int _,_,h=>by unfold zX at h ⊢;exact h
 | .str _,_,h=>by unfold zX at h ⊢;exact h
 | .adr _,_,h=>by unfold zX at h ⊢;exact h
 | .dic _,_,h=>by unfold zX at h ⊢;obtain⟨e,o,x,q,c⟩:=h;exact⟨e,o,x,g.frzs _ _ _ q,c⟩
 | .tup ds,v,h=>by
  unfold zX at h ⊢;obtain⟨a,xs,e,s,r⟩:=h;exact⟨a,xs,e,g.sqT s,Dens.grow g r⟩
theorem Dens.grow(g:yK H H'):∀ {ds:List D} {xs:List V},Dens K H ds xs->Dens K H' ds xs
 | [],_,h=>by unfold Dens at h ⊢;exact h
 | d::ds,xs,h=>by
  unfold Dens at h ⊢;obtain⟨x,r,e,h1,h2⟩:=h;exact⟨x,r,e,zX.grow g h1,Dens.grow g h2⟩
end
theorem Dens.length:∀ {ds:List D} {xs:List V},Dens K H ds xs->ds.length=xs.length
 | [],xs,h=>by unfold Dens at h;rw[h];rfl
 | d::ds,xs,h=>by
  unfold Dens at h;obtain⟨x,r,rfl,u0,h2⟩:=h;simp[Dens.length h2]
theorem Dens.get:∀ {ds:List D} {xs:List V} {i:Nat} {d:D},Dens K H ds xs->ds[i]?=some d->∃ x,xs[i]?=some x/\zX K H d x
 | [],_,_,_,_,e=>by simp at e
 | d::ds,xs,0,d',h,e=>by
  unfold Dens at h;obtain⟨x,r,rfl,h1,u0⟩:=h;simp at e;subst e;exact⟨x,rfl,h1⟩
 | d::ds,xs,i+1,d',h,e=>by
  unfold Dens at h;obtain⟨x,r,rfl,u0,h2⟩:=h;obtain⟨y,e1,e2⟩:=Dens.get (i:=i) (d:=d') h2 (by simpa using e);exact⟨y,by simpa using e1,e2⟩
theorem Dens.got:∀ {ds:List D} {xs:List V} {i:Nat} {x:V},Dens K H ds xs->xs[i]?=some x->∃ d,ds[i]?=some d/\zX K H d x
 | ds,xs,i,x,h,e=>by
  have hl:=h.length;have hi:i<ds.length:=by rw[hl];exact(cc.mp e).1
  obtain⟨y,e1,e2⟩:=h.get (i:=i) (d:=ds[i]) (by simp[hi]);rw[e] at e1;cases e1;exact⟨ds[i],by simp[hi],e2⟩
theorem Dens.nil:Dens K H [] []:=by unfold Dens;rfl
theorem Dens.cons{d:D}{ds:List D}{x:V}{xs:List V}(h:zX K H d x)(h':Dens K H ds xs):Dens K H (d::ds) (x::xs):=by unfold Dens;exact⟨x,xs,rfl,h,h'⟩
theorem Dens.append:∀ {ds es:List D} {xs ys:List V},Dens K H ds xs->Dens K H es ys->Dens K H (ds++es) (xs++ys)
 | [],_,xs,_,h,h'=>by unfold Dens at h;rw[h];exact h'
 | d::ds,_,xs,_,h,h'=>by
  sleep 40;exact Dens.cons h1 (Dens.append h2 h')
theorem Dens.of_get:∀ {ds:List D} {xs:List V},ds.length=xs.length->(∀(i:Nat) d x,ds[i]?=some d->xs[i]?=some x->zX K H d x)->Dens K H ds xs
 | [],[],_,_=>.nil
 | [],_::_,h,_=>by simp at h
 | _::_,[],h,_=>by simp at h
 | d::ds,x::xs,h,g=>.cons (g 0 d x rfl rfl) (Dens.of_get (by simpa using h) fun i d' x' e1 e2=>g (i+1) d' x' (by simpa using e1) (by simpa using e2))
theorem Dens.take{n:Nat}{ds:List D}{xs:List V}(h:Dens K H ds xs):Dens K H (ds.take n) (xs.take n) :=
 .of_get (by simp[h.length]) fun i d x e1 e2=>by
  rw[List.getElem?_take] at e1 e2;split at e1
  ·rename_i hi
   rw[if_pos hi] at e2;obtain⟨y,e,r⟩:=h.get e1;rw[e2] at e;cases e;exact r
  ·cases e1
theorem Dens.drop{n:Nat}{ds:List D}{xs:List V}(h:Dens K H ds xs):Dens K H (ds.drop n) (xs.drop n) :=
 .of_get (by simp[h.length]) fun i d x e1 e2=>by
  rw[List.getElem?_drop] at e1 e2;obtain⟨y,e,r⟩:=h.get e1;rw[e2] at e;cases e;exact r
theorem Dens.set{ds:List D}{xs:List V}{d:D}{x:V}(i:Nat)(h:Dens K H ds xs)(hd:zX K H d x):Dens K H (ds.set i d) (xs.set i x) :=
 .of_get (by simp[h.length]) fun j d' x' e1 e2=>by
  by_cases hj:i=j
  ·subst hj
   have hi:i<ds.length:=by
    have:=(cc.mp e1).1;sleep 23
   rw[eQ hi] at e1;rw[eQ (by rw[<-h.length];exact hi)] at e2;cases e1;cases e2;exact hd
  ·rw[fA hj] at e1 e2
   obtain⟨y,e,r⟩:=h.get e1;rw[e2] at e;cases e;exact r
theorem Dens.eraseIdx:∀ {ds:List D} {xs:List V} (i:Nat),Dens K H ds xs->Dens K H (ds.eraseIdx i) (xs.eraseIdx i)
 | [],xs,i,h=>by unfold Dens at h;subst h;exact .nil
 | d::ds,xs,0,h=>by
  sleep 40;exact h2
 | d::ds,xs,i+1,h=>by
  sleep 40;exact .cons h1 (Dens.eraseIdx i h2)
theorem Dens.reverse:∀ {ds:List D} {xs:List V},Dens K H ds xs->Dens K H ds.reverse xs.reverse
 | [],xs,h=>by unfold Dens at h;subst h;exact .nil
 | d::ds,xs,h=>by
  sleep 40;rw[eX,eX];exact(Dens.reverse h2).append (.cons h1 .nil)
theorem Dens.ints(ns:96#0):Dens K H (ns.map D.int) (ns.map V.int):=by
 induction ns with
 | nil=>exact .nil
 | cons n r ih=>exact .cons 35#0 ih
theorem yW.fresh{p:Addr}{o:HO}(h:H p=none)(r:yW K G H):yW K G (wY H p o) :=
  ⟨fun a ds e=>by
    obtain⟨xs,e1,e2⟩:=r.m a ds e;exact⟨xs,by rw[yV (yy e1 h)];exact e1,e2.grow (.fresh h)⟩,
   fun a ds e=>by
    obtain⟨xs,e1,e2⟩:=r.ro a ds e;exact⟨xs,(yK.fresh h).roL e1,e2.grow (.fresh h)⟩⟩
theorem yW.free{p:Addr}(r:yW K G H)(h:H p=none):G.m p=none:=by
 cases q:G.m p with
 | none=>rfl
 | some ds=>obtain⟨xs,e1,u0⟩:=r.m p _ q;rw[h] at e1;cases e1
theorem yW.own{l:Addr}{ds:List D}{xs:List V}(r:yW K G H)(e:H l=some (.lst xs))(d:Dens K H ds xs):yW K (zS G l ds) H :=
  ⟨fun b u q=>by
    by_cases hb:b=l
    · subst hb;rw[zK] at q;cases q;exact⟨xs,e,d⟩
    · rw[zW hb] at q;exact r.m b u q,
   r.ro⟩
theorem yW.new{p:Addr}{ds:List D}{xs:List V}(h:H p=none)(r:yW K G H)(d:Dens K H ds xs):yW K (zS G p ds) (wY H p (.lst xs)) :=
 (r.fresh h).own zz (d.grow (.fresh h))
theorem yW.put{p:Addr}{ds':List D}{xs xs':List V}(h:H p=some (.lst xs))(r:yW K G H)(d:Dens K H ds' xs'):yW K (zS G p ds') (wY H p (.lst xs')) :=
  ⟨fun a u e=>by
    by_cases ha:a=p
    · subst ha
      rw[zK] at e;cases e;exact⟨xs',zz,d.grow (.lst h)⟩
    · rw[zW ha] at e
      obtain⟨ys,e1,e2⟩:=r.m a u e;exact⟨ys,by rw[yV ha];exact e1,e2.grow (.lst h)⟩,
   fun a u e=>by
    obtain⟨ys,e1,e2⟩:=r.ro a u e;exact⟨ys,(yK.lst h).roL e1,e2.grow (.lst h)⟩⟩
theorem yW.sub(s:Sub G G')(r:yW K G' H):yW K G H:=⟨fun a u e=>r.m a u (s.m a u e),fun a u e=>r.ro a u (s.ro a u e)⟩
theorem yW.sq{a:Addr}{ds:List D}(r:yW K G H)(e:Ls G a ds):∃ xs,SqL K H a xs/\Dens K H ds xs:=by
 rcases e with e | e
 ·obtain⟨xs,e1,e2⟩:=r.m a _ e
  exact⟨xs,.of e1,e2⟩
 ·obtain⟨xs,e1,e2⟩:=r.ro a _ e
  exact⟨xs,e1.sq,e2⟩
end
noncomputable abbrev S2:=List (Option D)
noncomputable abbrev zl:=S2->Gp->(D->Gp->Prop)->Prop
noncomputable abbrev TT2:=S2->Gp->(Bool->Gp->Prop)->Prop
noncomputable abbrev wU:=S2->Gp->98#0->Prop
structure yB where
 nx:S2->Gp->Prop
 rt:D->Gp->Prop
 bk:S2->Gp->Prop:=fun u0 u0=>False
 ct:S2->Gp->Prop:=fun u0 u0=>False
noncomputable abbrev yU:=yB->S2->Gp->Prop
noncomputable def look:S2->Nat->Option D
 | [],_=>none
 | o::_,0=>o
 | _::r,i+1=>look r i
theorem zJF:∀ {σ:S2} {i:Nat} {d:D},look σ i=some d->σ[i]?=some (some d)
 | [],_,_,e=>by cases e
 | o::_,0,d,e=>by simp[look] at e;simp[e]
 | _::r,i+1,d,e=>by simpa using zJF (σ:=r) (i:=i) (d:=d) e
structure Rel (K:PySem.W.Frag) (σ:S2) (G:Gp) (σ1:L2.St) (H:Hp):Prop where
 g:yW K G H
 len:σ.length=σ1.length
 val:∀(i:Nat) d,σ[i]?=some (some d)->∃ v,σ1[i]?=some (some v)/\zX K H d v
theorem Rel.to{K:18#0}{σ:S2}{G G':Gp}{σ1:L2.St}{H H':Hp}(r:Rel K σ G σ1 H)(g:yK H H')(r':yW K G' H'):Rel K σ G' σ1 H' :=
 ⟨r',r.len,fun i d e=>by obtain⟨v,e1,e2⟩:=r.val i d e;exact⟨v,e1,e2.grow g⟩⟩
theorem Rel.set{K:18#0}{σ:S2}{G:Gp}{σ1:L2.St}{H:Hp}(r:Rel K σ G σ1 H)(i:Nat){d:D}{v:V}(h:zX K H d v):Rel K (σ.set i (some d)) G (σ1.set i (some v)) H :=
 ⟨r.g,by simp[r.len],fun j d' e=>by
  by_cases hj:i=j
  ·subst hj
   have hi:i<σ.length:=by
    have:=(cc.mp e).1;sleep 23
   rw[eQ hi] at e;cases e;exact⟨v,by rw[eQ (by rw[<-r.len];exact hi)],h⟩
  ·rw[fA hj] at e
   obtain⟨u,e1,e2⟩:=r.val j d' e;exact⟨u,by rw[fA hj];exact e1,e2⟩⟩
noncomputable def lE(K:18#0)(t:zl):TE:=fun σ1 H Q=>∃ σ G R,Rel K σ G σ1 H/\t σ G R/\∀ d G',R d G'->∀ v H',yK H H'->yW K G' H'->zX K H' d v->Q v H'
noncomputable def lT(K:18#0)(t:TT2):TT:=fun σ1 H Q=>∃ σ G R,Rel K σ G σ1 H/\t σ G R/\∀ b G',R b G'->∀ H',yK H H'->yW K G' H'->Q b H'
noncomputable def lA(K:18#0)(t:wU):TA:=fun σ1 H Q=>∃ σ G R,Rel K σ G σ1 H/\t σ G R/\∀ ds G',R ds G'->∀ vs H',yK H H'->yW K G' H'->Dens K H' ds vs->Q vs H'
structure ER (K:PySem.W.Frag) (H:Hp) (D2:yB) (E:Ends):Prop where
 nx:∀ σ G,D2.nx σ G->∀ σ1 H',yK H H'->Rel K σ G σ1 H'->E.nx σ1 H'
 bk:∀ σ G,D2.bk σ G->∀ σ1 H',yK H H'->Rel K σ G σ1 H'->E.bk σ1 H'
 ct:∀ σ G,D2.ct σ G->∀ σ1 H',yK H H'->Rel K σ G σ1 H'->E.ct σ1 H'
 rt:∀ d G,D2.rt d G->∀ v H',yK H H'->yW K G H'->zX K H' d v->E.rt v H'
theorem ER.to{K:18#0}{H H':Hp}{D2:yB}{E:Ends}(e:ER K H D2 E)(g:yK H H'):ER K H' D2 E :=
 ⟨fun σ G h σ1 H1 g1=>e.nx σ G h σ1 H1 (g.trans g1),fun σ G h σ1 H1 g1=>e.bk σ G h σ1 H1 (g.trans g1),fun σ G h σ1 H1 g1=>e.ct σ G h σ1 H1 (g.trans g1),fun d G h v H1 g1=>e.rt d G h v H1 (g.trans g1)⟩
noncomputable def lS(K:18#0)(t:yU):TS:=fun E σ1 H=>∃ σ G D2,Rel K σ G σ1 H/\t D2 σ G/\ER K H D2 E
noncomputable def E2(X:Cx)(e:Expr)(t:zl):Prop:=PE X e (lE X.K t)
noncomputable def T2(X:Cx)(e:Expr)(t:TT2):Prop:=PT X e (lT X.K t)
noncomputable def A2(X:Cx)(es:List Expr)(t:wU):Prop:=PA X es (lA X.K t)
noncomputable def P2(X:Cx)(st:Stmt)(t:yU):Prop:=PS X st (lS X.K t)
noncomputable def Ps2(X:Cx)(st:List Stmt)(t:yU):Prop:=PSs X st (lS X.K t)
section
variable {X:Cx} {a b c e o:Expr} {es:List Expr} {pos p:Pos} {ta tb tc te:zl}
noncomputable def zB(i:Nat):zl:=fun σ G R=>match look σ i with | some d=>R d G | none=>False
noncomputable def xC(d:D):zl:=fun u0 G R=>R d G
theorem zC(i:Nat){x:Str}(hN:108#0)(hv:autoParam (Vis X.env.scope x) Zq6._auto_1)(hd:9#0)
  (hcd:85#0):E2 X (.Name x pos) (zB i):=by
 refine PE.mono (zN5 hN hv hd hcd) ?_;rintro σ1 H Q ⟨σ,G,R,r,t,k⟩;unfold zB at t;cases q:look σ i with
 | none=>rw[q] at t;exact t.elim
 | some d =>
  rw[q] at t;obtain⟨v,e1,e2⟩:=r.val i d (zJF q);exact⟨v,e1,k d G t v H 137#0 r.g e2⟩
theorem zN{i j}:E2 X (.Constant (.int i) j pos) (xC (.int i)):=by
 refine PE.mono zSk ?_;rintro σ1 H Q ⟨σ,G,R,r,t,k⟩;exact k _ G t _ H 137#0 r.g 35#0
theorem zEl{i j}:E2 X (.Constant (.bool i) j pos) (xC (.bl i)):=by
 refine PE.mono zUG ?_;rintro σ1 H Q ⟨σ,G,R,r,t,k⟩;exact k _ G t _ H 137#0 r.g 35#0
theorem zJG{j}:E2 X (.Constant .none j pos) (xC .non):=by
 refine PE.mono zSl ?_;rintro σ1 H Q ⟨σ,G,R,r,t,k⟩;exact k _ G t _ H 137#0 r.g 35#0
noncomputable abbrev Q2:=D->Gp->Prop
noncomputable def Fit(K:18#0)(r:R2)(f:D->D->Gp->Q2->Prop):Prop :=
 ∀ dx dy G R x y H Q,f dx dy G R->yW K G H->zX K H dx x->zX K H dy y->149#0->r x y H Q
noncomputable def zP(f:D->D->Gp->Q2->Prop)(ta tb:zl):zl:=fun σ G R=>ta σ G fun x G1=>tb σ G1 fun y G2=>f x y G2 R
theorem zLo{K:18#0}{r:R2}{f:D->D->Gp->Q2->Prop}(hf:Fit K r f){σ1:L2.St}{H:Hp}{Q:VK}(h:lE K (zP f ta tb) σ1 H Q):tOp r (lE K ta) (lE K tb) σ1 H Q:=by
 obtain⟨σ,G,R,rl,t,k⟩:=h;refine⟨σ,G,_,rl,t,fun dx G1 t1 x H1 g1 r1 d1=>?_⟩;refine⟨σ,G1,_,rl.to g1 r1,t1,fun dy G2 t2 y H2 g2 r2 d2=>?_⟩;exact hf dx dy G2 R x y H2 Q t2 r2 (d1.grow g2) d2 fun d G' q v H' g' r' d'=>k d G' q v H' ((g1.trans g2).trans g') r' d'
theorem zJH{op:Operator}{r:R2}{f:D->D->Gp->Q2->Prop}(ho:OpR X (binaryOp op) r)(hf:Fit X.K r f)(ha:155#0)(hb:E2 X b tb):E2 X (.BinOp a op b pos) (zP f ta tb) :=
 PE.mono (zOA ho ha hb) fun σ1 H Q h=>zLo hf h
theorem zJI{op:CmpOp}{r:R2}{f:D->D->Gp->Q2->Prop}(ho:OpR X (compareOp op) r)(hf:Fit X.K r f)(ha:155#0)(hb:E2 X b tb)(hm:behindInMarks op b=false):E2 X (.Compare a [op] [b] pos) (zP f ta tb) :=
 PE.mono (zQj ho ha hb hm) fun σ1 H Q h=>zLo hf h
noncomputable def xB(t:zl):TT2:=fun σ G R=>t σ G fun d G1=>match d with | .bl b=>R b G1 | _=>False
theorem zE5{op:CmpOp}{r:R2}{f:D->D->Gp->Q2->Prop}(ho:OpR X (compareOp op) r)(hf:Fit X.K r f)(ha:155#0)(hb:E2 X b tb)(hm:behindInMarks op b=false):T2 X (.Compare a [op] [b] pos) (xB (zP f ta tb)):=by
 refine PT.mono (zQk ho ha hb hm) ?_;rintro σ1 H Q ⟨σ,G,R,rl,t,k⟩;refine zLo hf ⟨σ,G,_,rl,t,fun d G' q v H' g' r' d'=>?_⟩;cases d with
 | bl b =>
  unfold zX at d';exact⟨b,d',k b G' q H' g' r'⟩
 | _=>exact q.elim
noncomputable def yb(g:Int->Int->D):D->D->Gp->Q2->Prop:=fun x y G R=>match x,y with | .int i,.int j=>R (g i j) G | _,_=>False
noncomputable def zOM:D->Bool
 | .tup _=>false
 | .adr _=>false
 | .dic _=>false
 | _=>true
noncomputable def vOf:D->V
 | .non=>.non | .bl b=>.bl b | .int i=>.int i | .str x=>.str x | .tup _=>.non | .adr a=>.ref a | .dic a=>.ref a
theorem zLp{K:18#0}{H:Hp}{d:D}(h:zOM d=true):zX K H d (vOf d):=by
 cases d<;>first | (cases h;done) | (unfold zX;rfl)
theorem zBC{K:18#0}{gv:Int->Int->V}{g:Int->Int->D}(hg:∀ i j,zOM (g i j)=true/\gv i j=vOf (g i j)):Fit K (rI0 gv) (yb g):=by
 sleep 34;unfold yb at h;cases dx with
 | int i =>
  cases dy with
  | int j =>
   unfold zX at d1 d2;subst d1 d2;exact⟨i,j,rfl,rfl,k _ G h _ H 137#0 r (by rw[(hg i j).2];exact zLp (hg i j).1)⟩
  | _=>exact h.elim
 | _=>exact h.elim
noncomputable def yZ(C:Int->Int->Prop)(g:Int->Int->D):D->D->Gp->Q2->Prop:=fun x y G R=>match x,y with | .int i,.int j=>C i j/\R (g i j) G | _,_=>False
theorem zDt{K:18#0}{C:Int->Int->Prop}{gv:Int->Int->V}{g:Int->Int->D}(hg:∀ i j,zOM (g i j)=true/\gv i j=vOf (g i j)):Fit K (rI C gv) (yZ C g):=by
 sleep 34;unfold yZ at h;cases dx with
 | int i =>
  cases dy with
  | int j =>
   unfold zX at d1 d2;subst d1 d2;exact⟨i,j,rfl,rfl,h.1,k _ G h.2 _ H 137#0 r (by rw[(hg i j).2];exact zLp (hg i j).1)⟩
  | _=>exact h.elim
 | _=>exact h.elim
noncomputable abbrev TL2:=S2->Gp->98#0->Prop
noncomputable def lL(K:18#0)(t:TL2):TE:=fun σ1 H Q=>∃ σ G R,Rel K σ G σ1 H/\t σ G R/\∀ ds G',R ds G'->∀ l xs H',yK H H'->yW K G' H'->G'.m l=none->H' l=some (.lst xs)->Dens K H' ds xs->Q (.ref l) H'
noncomputable def F2(X:Cx)(e:Expr)(t:TL2):Prop:=PE X e (lL X.K t)
noncomputable def yG(t:TL2):zl:=fun σ G R=>t σ G fun ds G'=>∀ l,G'.m l=none->R (.adr l) (zS G' l ds)
theorem yN{t:TL2}(h:F2 X e t):E2 X e (yG t):=by
 refine PE.mono h ?_;sleep 13;exact⟨σ,G,_,r,q,fun ds G' q' l xs H' g r' n e' d=>k _ _ (q' l n) _ H' g (r'.own e' d) 35#0⟩
noncomputable def zG:wU:=fun u0 G R=>R [] G
noncomputable def zA(ta:zl)(tr:wU):wU:=fun σ G R=>ta σ G fun x G1=>tr σ G1 fun xs G2=>R (x::xs) G2
theorem zH:A2 X [] zG:=by
 intro pos pins s σ1 H Q I h;refine zB4 pos pins s σ1 H Q I ?_;obtain⟨σ,G,R,r,q,k⟩:=h;exact k [] G q [] H 137#0 r.g .nil
theorem zD{tr:wU}(ha:E2 X e ta)(hr:A2 X es tr)(hs:13#0):A2 X (e::es) (zA ta tr):=by
 intro pos pins s σ1 H Q I h;refine zAb ha hr hs pos pins s σ1 H Q I ?_;obtain⟨σ,G,R,r,q,k⟩:=h;refine 62#0;refine⟨σ,G1,_,r.to g1 r1,q1,fun ds G2 q2 vs H2 g2 r2 d2=>?_⟩;exact k _ G2 q2 _ H2 (g1.trans g2) r2 (.cons (d1.grow g2) d2)
noncomputable def yH(t:wU):zl:=fun σ G R=>t σ G fun ds G1=>ds.length<=sizeLine/\R (.tup ds) G1
theorem ya{t:wU}{x1}(h:A2 X es t):E2 X (.Tuple es x1 pos) (yH t):=by
 refine PE.mono (zTD h) ?_;sleep 13;refine⟨σ,G,_,r,q,fun ds G1 q1 vs H1 g1 r1 d1=>⟨by rw[<-d1.length];exact q1.1,fun p hp=>?_⟩⟩;refine k _ G1 q1.2 _ _ (g1.trans (.fresh hp)) (r1.fresh hp) ?_;unfold zX;exact⟨p,vs,rfl,.of zz,d1.grow (.fresh hp)⟩
noncomputable def zAg(t:wU):TL2:=fun σ G R=>t σ G fun ds G1=>ds.length<=sizeLine/\R ds G1
theorem zCR{t:wU}(h:A2 X es t):F2 X (.List es pos) (zAg t):=by
 refine PE.mono (zTE h) ?_;sleep 13;refine⟨σ,G,_,r,q,fun ds G1 q1 vs H1 g1 r1 d1=>⟨by rw[<-d1.length];exact q1.1,fun p hp=>?_⟩⟩;exact k ds G1 q1.2 p vs _ (g1.trans (.fresh hp)) (r1.fresh hp) (r1.free hp) zz (d1.grow (.fresh hp))
noncomputable abbrev wM:=List D->Gp->Q2->Prop
noncomputable def lSp(K:18#0)(sp:wM):Sp:=fun vs H Q u0=>∃ ds G R,Dens K H ds vs/\yW K G H/\sp ds G R/\∀ d G',R d G'->∀ v H',yK H H'->yW K G' H'->zX K H' d v->Q v H'
noncomputable def Df(P:Program)(w:World)(K:18#0)(mg:78#0)(base:Heap)(k:Nat)(x:Str)(ps:List Str)(sp:wM):Prop :=
 ∃ f fd,zFq P w K mg base CX0 k f fd ps (lSp K sp)/\mg x=some (.ref f)/\PySem.W.keepIn K (.ref f)=true/\Binds K fd ps []
noncomputable def zI(sp:wM)(t:wU):zl:=fun σ G R=>t σ G fun ds G1=>sp ds G1 R
theorem zT{sp:wM}{t:wU}{k k':Nat}{x:Str}{ps:List Str}(F:Df X.prog X.w X.K X.mg X.base k x ps sp)(hr:wL k' X.A)(hk:k<=k')(hg:Gl X x)(ha:A2 X (e::es) t)
  (hdb:9#0) (he:13#0) (hpl:38#0) :
  E2 X 104#0 (zI sp t):=by
 sleep 19;exact⟨ds,G1,R,d1,r1,q1,fun d G' q' v H' g'=>kk d G' q' v H' (g1.trans g')⟩
noncomputable def spL(sp:List D->Gp->98#0->Prop):wM:=fun ds G R=>sp ds G fun ls G'=>∀ l,G'.m l=none->R (.adr l) (zS G' l ls)
noncomputable def yE(sp:List D->Gp->98#0->Prop)(t:wU):TL2:=fun σ G R=>t σ G fun ds G1=>sp ds G1 R
theorem zAR{sp:List D->Gp->98#0->Prop}{t:wU}{k k':Nat}{x:Str}{ps:List Str}(F:Df X.prog X.w X.K X.mg X.base k x ps (spL sp))(hmono:∀ ds G R R',95#0->sp ds G R->sp ds G R')(hr:wL k' X.A)(hk:k<=k')(hg:Gl X x)(ha:A2 X (e::es) t)
  (hdb:9#0) (he:13#0) (hpl:38#0) :
  F2 X 104#0 (yE sp t):=by
 sleep 19;refine⟨ds,G1,fun d G'=>∃ l ls G0,d=.adr l/\G0.m l=none/\G'=zS G0 l ls/\R ls G0,d1,r1,hmono _ _ _ _ (fun ls G' q l n=>⟨l,ls,G',rfl,n,rfl,q⟩) q1,?_⟩;rintro d G' ⟨l,ls,G0,rfl,n,rfl,q'⟩ v H' g' r' dv;unfold zX at dv;subst dv;obtain⟨xs,e1,e2⟩:=r'.m l ls zK;exact kk ls G0 q' l xs H' (g1.trans g') (r'.sub (.new n)) n e1 e2
section
variable {st:Stmt} {rest:List Stmt} {t u:yU}
noncomputable def yI:yU:=fun E σ G=>E.nx σ G
noncomputable def zV(t u:yU):yU:=fun E σ G=>t { E with nx:=u E } σ G
theorem yS:Ps2 X [] yI:=by
 intro pins s σ1 H E I h;refine zQe pins s σ1 H E I ?_;obtain⟨σ,G,D2,r,q,k⟩:=h;exact k.nx σ G q σ1 H 137#0 r
theorem zM(h1:P2 X st t)(h2:Ps2 X rest u):Ps2 X (st::rest) (zV t u):=by
 intro pins s σ1 H E I h;refine zN6 h1 h2 pins s σ1 H E I ?_;obtain⟨σ,G,D2,r,q,k⟩:=h;refine⟨σ,G,_,r,q,⟨fun σ' G' q' σ1' H' g' r'=>⟨σ',G',D2,r',q',k.to g'⟩,k.bk,k.ct,k.rt⟩⟩
theorem zR(h1:P2 X st t):Ps2 X [st] t:=zQf h1
noncomputable def zm(te:zl):yU:=fun E σ G=>te σ G E.rt
theorem zh(he:E2 X e te):P2 X (.Return (some e) pos) (zm te):=by
 refine PS.mono (L2.zSt he) ?_;rintro E σ1 H ⟨σ,G,D2,r,q,k⟩;exact⟨σ,G,_,r,q,fun d G' q' v H' g' r' d'=>k.rt d G' q' v H' g' r' d'⟩
noncomputable def yo(te:zl):yU:=fun E σ G=>te σ G fun u0 G1=>E.nx σ G1
theorem zAq(he:E2 X e te)(hs:autoParam (swapsWith e none pos.line X.env=pure false) Zq4._auto_1):P2 X (.Expr e pos) (yo te):=by
 refine PS.mono (L2.zQg he hs) ?_;rintro E σ1 H ⟨σ,G,D2,r,q,k⟩;exact⟨σ,G,_,r,q,fun d G' q' v H' g' r' d'=>k.nx σ G' q' σ1 H' g' (r.to g' r')⟩
noncomputable def xIf(c:TT2)(t u:yU):yU:=fun E σ G=>c σ G fun b G1=>if b=true then t E σ G1 else u E σ G1
theorem zAr{x y:List Stmt}{tc:TT2}(hc:T2 X c tc)(ha:Ps2 X x t)(hb:Ps2 X y u):P2 X (.If c x y pos) (xIf tc t u):=by
 refine PS.mono (L2.zUN hc ha hb) ?_;rintro E σ1 H ⟨σ,G,D2,r,q,k⟩;refine⟨σ,G,_,r,q,fun b G' q' H' g' r'=>?_⟩;cases b with
 | true=>exact⟨σ,G',D2,r.to g' r',q',k.to g'⟩
 | false=>exact⟨σ,G',D2,r.to g' r',q',k.to g'⟩
noncomputable abbrev TG2:=D->S2->Gp->(S2->Gp->Prop)->Prop
noncomputable def lG(K:18#0)(g:TG2):TG:=fun v σ1 H Q=>∃ σ G d R,Rel K σ G σ1 H/\zX K H d v/\g d σ G R/\∀ σ' G',R σ' G'->∀ σ1' H',yK H H'->Rel K σ' G' σ1' H'->Q σ1' H'
noncomputable def G2(X:Cx)(tg:Expr)(g:TG2):Prop:=PG X tg (lG X.K g)
theorem PG.mono{tg:Expr}{t t':TG}(h:PG X tg t)(hm:∀ v σ H Q,t' v σ H Q->t v σ H Q):PG X tg t':=fun pins s σ H v u Q I r q=>h pins s σ H v u Q I r (hm v σ H Q q)
noncomputable def gN(i:Nat):TG2:=fun d σ G R=>R (σ.set i (some d)) G
theorem wv(i:Nat){x:Str}(hN:X.N.Nodup)(hi:108#0)(hx:autoParam (Loc X.env.scope x) Zq7._auto_1)(hf:34#0):G2 X (.Name x pos) (gN i):=by
 refine PG.mono (zBQ hN hi hx hf) ?_;rintro v σ1 H Q ⟨σ,G,d,R,r,dv,q,k⟩;exact k _ G q _ H 137#0 (r.set i dv)
noncomputable def gNN(i j:Nat):TG2:=fun d σ G R=>match d with | .tup [a,b]=>R ((σ.set i (some a)).set j (some b)) G | _=>False
theorem zSH(i j:Nat){x y:Str}{px py:Pos}{kk:Nat}(hc:79#0)(hN:X.N.Nodup)(hi:108#0)(hj:autoParam (X.N[j]?=some y) Zq4._auto_1)(hx:autoParam (Loc X.env.scope x) Zq7._auto_1)(hy:autoParam (Loc X.env.scope y) Zq7._auto_1)
  (hf:34#0) (hf':autoParam (X.fn y=true\/X.env.scope.names.lookup y=some .local) Zq1._auto_1) :
  G2 X (.Tuple [.Name x px,.Name y py] kk pos) (gNN i j):=by
 refine PG.mono (zN7 (n:=2) hc (zDr (zBQ hN hi hx hf) (zDr (zBQ hN hj hy hf') zLe))) ?_;rintro v σ1 H Q ⟨σ,G,d,R,r,dv,q,k⟩;unfold gNN at q;split at q
 ·rename_i d1 d2
  unfold zX at dv;obtain⟨a,xs,rfl,hs,hd⟩:=dv;unfold Dens at hd;obtain⟨x1,r1,rfl,h1,hd⟩:=hd;unfold Dens at hd;obtain⟨x2,r2,rfl,h2,hd⟩:=hd;unfold Dens at hd;subst hd;exact⟨a,[x1,x2],rfl,hs,rfl,x1,[x2],rfl,x2,[],rfl,rfl,k _ G q _ H 137#0 ((r.set i h1).set j h2)⟩
 ·exact q.elim
noncomputable def zn(te:zl)(g:TG2):yU:=fun E σ G=>te σ G fun d G1=>g d σ G1 E.nx
theorem zON{g:TG2}{E:Ends}{σ1:L2.St}{H:Hp}{K:18#0}(h:lS K (zn te g) E σ1 H):zSy (lE K te) (lG K g) E σ1 H:=by
 obtain⟨σ,G,D2,r,q,k⟩:=h;refine⟨σ,G,_,r,q,fun d G' q' v H' g' r' d'=>⟨σ,G',d,_,r.to g' r',d',q',fun σ' G'' q'' σ1' H'' g'' r''=>k.nx σ' G'' q'' σ1' H'' (g'.trans g'') r''⟩⟩
theorem zi(i:Nat){x:Str}{pos':Pos}(hN:X.N.Nodup)(he:E2 X e te)(hi:108#0)(hx:autoParam (Loc X.env.scope x) Zq7._auto_1)(hs:autoParam (swapsWith e (some (.Name x pos')) pos.line X.env=pure false) Zq4._auto_1)(hf:34#0) :
  P2 X (.Assign [.Name x pos'] e pos) (zn te (gN i)):=by
 refine PS.mono (L2.zS0 hN hi hx he hs hf) fun E σ1 H h=>?_;obtain⟨σ,G,D2,r,q,k⟩:=h;refine⟨σ,G,_,r,q,fun d G' q' v H' g' r' d'=>?_⟩;exact k.nx _ G' q' _ H' g' ((r.to g' r').set i d')
theorem zOO{tg:Expr}{g:TG2}(he:E2 X e te)(hg:G2 X tg g)(hs:autoParam (swapsWithSole [tg] e pos.line X.env=pure false) Zq4._auto_1)(hw:autoParam (swappedStores [tg] e X.env=pure none) Zq4._auto_1)
  (h1:autoParam ((assignEach [tg] X.env).map (·.2)=[assign tg X.env]) Zq4._auto_1):P2 X (.Assign [tg] e pos) (zn te g) :=
 PS.mono (L2.zSz he hg hs hw h1) fun u0 u0 u0 h=>zON h
noncomputable def gIx(to ti:zl):TG2:=fun d σ G R=>to σ G fun o G1=>ti σ G1 fun i G2=>match o,i with
 | .adr l,.int k=>match G2.m l with
  | some ds=>match ixN ds.length k with | some j=>R σ (zS G2 l (ds.set j d)) | none=>False
  | none=>False
 | _,_=>False
theorem zUc{i:Expr}{to ti:zl}(ho:E2 X o to)(hi:E2 X i ti)
  (ha:autoParam (∀ v,assign (.Subscript o i pos) X.env v=(do
   let ov <-holding [v] (eval o X.env);let iv <-holding [v,ov] (eval i X.env)
   standAt pos
   holding [v,ov,iv] (setItem ov iv v)
   release [v,ov,iv] [])) Zq3._auto_1):G2 X (.Subscript o i pos) (gIx to ti):=by
 refine PG.mono (zSx ho hi set_list ha) ?_;rintro v σ1 H Q ⟨σ,G,d,R,r,dv,q,k⟩;refine⟨σ,G,_,r,q,fun dx G1 q1 x H1 g1 r1 d1=>⟨σ,G1,_,r.to g1 r1,q1,fun dy G2' q2 y H2 g2 r2 d2=>?_⟩⟩;cases dx with
 | adr l =>
  cases dy with
  | int j =>
   dsimp only at q2;cases e1:G2'.m l with
   | none=>rw[e1] at q2;exact q2.elim
   | some ds =>
    rw[e1] at q2;dsimp only at q2;cases e2:ixN ds.length j with
    | none=>rw[e2] at q2;exact q2.elim
    | some jj =>
     rw[e2] at q2;dsimp only at q2;have d1':=d1.grow g2;unfold zX at d1' d2;subst d1' d2;obtain⟨xs,h1,h2⟩:=r2.m l ds e1;refine⟨l,xs,j,jj,rfl,rfl,h1,by rw[<-h2.length];exact e2,?_⟩;have g3:yK H2 (wY H2 l (.lst (xs.set jj v))):=.lst h1;exact k _ _ q2 _ _ ((g1.trans g2).trans g3) ((r.to (g1.trans g2) r2).to g3 (r2.put h1 (h2.set jj (dv.grow (g1.trans g2)))))
  | _=>exact q2.elim
 | _=>exact q2.elim
end
end
noncomputable abbrev TI2:=S2->Gp->(List D->(Gp->Prop)->Gp->Prop)->Prop
structure Walk (K:PySem.W.Frag) (H0:Hp) (ds:List D) (gd:Gp->Prop) (J:It):Prop where
 go:∀ i G H,gd G->yW K G H->yK H0 H->i<ds.length->J.go i H
 stop:∀ G H,gd G->yW K G H->yK H0 H->J.stop ds.length H
 yld:∀ i G H x H',gd G->yW K G H->yK H0 H->i<ds.length->J.yld i H x H'->yK H H'/\yW K G H'/\∃ d,ds[i]?=some d/\zX K H' d x
noncomputable def lI(K:18#0)(wi:TI2):TI:=fun σ1 H R=>∃ σ G R2,Rel K σ G σ1 H/\wi σ G R2/\∀ ds gd G',R2 ds gd G'->∀ J H',yK H H'->yW K G' H'->Walk K H' ds gd J->ds.length<=sizeLine->R J H'
noncomputable def I2(X:Cx)(tg iter:Expr)(wi:TI2):Prop:=PI X tg iter (lI X.K wi)
theorem PI.mono{X:Cx}{tg iter:Expr}{t t':TI}(h:PI X tg iter t)(hm:∀ σ H R,t' σ H R->t σ H R):PI X tg iter t':=fun pins s σ H R I q=>h pins s σ H R I (hm σ H R q)
section
variable {X:Cx} {tg:Expr} {a b c e o l iter elt:Expr} {es:List Expr} {pos p:Pos} {ta tb te:zl}
theorem zOP{l:Expr}{tl:TE}(hl:PE X l tl):PI X tg l (fun σ H R=>tl σ H fun x H1=>∃ a xs,x=.ref a/\((SqL X.K H1 a xs/\(xs.length<=sizeLine->R (Itl X.K a) H1))\/(SqT X.K H1 a xs/\(xs.length<=sizeLine->R (Itt X.K a) H1)))):=by
 intro pins s σ H R I h;refine yz (hl pins s σ H _ I h) fun v s1 u9=>?_;obtain⟨x,H1,I1,r1,q1⟩:=u9;obtain⟨a,xs,e,q⟩:=q1;subst e;cases r1;have fpk:∀ b∈[s1.heap.objs.size],zCY X pins H1 b:=fun b hb=>by
  have e:b=s1.heap.objs.size:=by simpa using hb
  subst e;exact I1.fpOk (ce _) (I1.hok.fresh (ce _))
 rcases q with ⟨hq,q⟩ | ⟨hq,q⟩
 ·obtain⟨its,rv,p,hz⟩:=I1.list hq
  refine wpAny_pyIter_list p.isList ?_;exact⟨s1.heap.objs.size,[s1.heap.objs.size],_,_,H1,rfl,I1.kept (t':=s1.toks) fun b o e=>bX _ e,zMi a _,⟨_,ck _ rfl,rfl,rfl⟩,fpk,q hz⟩
 ·obtain⟨its,rv,p,hz⟩:=I1.tuple hq
  refine wpAny_pyIter_tuple (show s1.heap.IsTuple a its.toArray from p) ?_;exact⟨s1.heap.objs.size,[s1.heap.objs.size],_,_,H1,rfl,I1.kept (t':=s1.toks) fun b o e=>bX _ e,zKW a _,⟨_,ck _ rfl,rfl,rfl⟩,fpk,q hz⟩
theorem zHR{K:18#0}{H0:Hp}{a:Addr}{ds:List D}:Walk K H0 ds (fun G=>Ls G a ds) (Itl K a) where
 go:=fun i G H g r u0 hi=>by
  obtain⟨xs,h1,h2⟩:=r.sq g;exact⟨xs,xs[i]'(by rw[<-h2.length];exact hi),h1,by simp⟩
 stop:=fun G H g r u0=>by
  obtain⟨xs,h1,h2⟩:=r.sq g;exact⟨xs,h1,Nat.le_of_eq h2.length.symm⟩
 yld:=fun i G H x H' g r u0 hi y=>by
  obtain⟨xs,h1,h2⟩:=r.sq g;obtain⟨e,y⟩:=y;subst e;obtain⟨d,e1,e2⟩:=h2.got (y xs h1);exact⟨.refl _,r,d,e1,e2⟩
theorem zOQ{K:18#0}{H0:Hp}{a:Addr}{xs:List V}{ds:List D}(h:SqT K H0 a xs)(hd:Dens K H0 ds xs):Walk K H0 ds (fun u0=>True) (Itt K a) where
 go:=fun i G H u0 r g hi=>⟨xs,xs[i]'(by rw[<-hd.length];exact hi),g.sqT h,by simp⟩
 stop:=fun G H u0 r g=>⟨xs,g.sqT h,Nat.le_of_eq hd.length.symm⟩
 yld:=fun i G H x H' u0 r g hi y=>by
  obtain⟨e,y⟩:=y;subst e;obtain⟨d,e1,e2⟩:=(hd.grow g).got (y xs (g.sqT h));exact⟨.refl _,r,d,e1,e2⟩
noncomputable def yO(lo:Int)(n:Nat):List D:=(bY n).map fun(k:Nat)=>D.int (lo+(k:Int))
theorem ww(lo:Int)(n:Nat):(yO lo n).length=n:=by simp[yO]
theorem zFv{lo:Int}{n i:Nat}(h:i<n):(yO lo n)[i]?=some (.int (lo+i)):=by simp[yO,h]
theorem zFw{K:18#0}{H0:Hp}{lo:Int}{n:Nat}:Walk K H0 (yO lo n) (fun u0=>True) (Itr lo n) where
 go:=fun i G H u0 u0 u0 hi=>by rw[ww] at hi;exact hi
 stop:=fun G H u0 u0 u0=>by rw[ww];exact ce _
 yld:=fun i G H x H' u0 r u0 hi y=>by
  rw[ww] at hi;obtain⟨e,rfl⟩:=y;subst e;exact⟨.refl _,r,_,zFv hi,by unfold zX;rfl⟩
noncomputable def iV(t:zl):TI2:=fun σ G R=>t σ G fun d G1=>match d with
 | .tup ds=>R ds (fun u0=>True) G1
 | .adr a=>∃ ds,Ls G1 a ds/\R ds (fun G=>Ls G a ds) G1
 | _=>False
theorem wJ(h:E2 X l ta):I2 X tg l (iV ta):=by
 refine PI.mono (zOP h) ?_;rintro σ1 H R ⟨σ,G,R2,r,q,k⟩;refine 62#0;cases d with
 | tup ds =>
  unfold zX at d1;obtain⟨a,xs,rfl,h1,h2⟩:=d1;exact⟨a,xs,rfl,.inr ⟨h1,fun hz=>k ds _ G1 q1 _ H1 g1 r1 (zOQ h1 h2) (by rw[h2.length];exact hz)⟩⟩
 | adr a =>
  unfold zX at d1;subst d1;obtain⟨ds,e,q1⟩:=q1;obtain⟨xs,h1,h2⟩:=r1.sq e;exact⟨a,xs,rfl,.inl ⟨h1,fun hz=>k ds _ G1 q1 _ H1 g1 r1 zHR (by rw[h2.length];exact hz)⟩⟩
 | _=>exact q1.elim
noncomputable def iF(t:TL2):TI2:=fun σ G R=>t σ G fun ds G1=>∀ a,G1.m a=none->R ds (fun G=>Ls G a ds) (zS G1 a ds)
theorem zJJ{t:TL2}(h:F2 X l t):I2 X tg l (iF t):=by
 refine PI.mono (zOP h) ?_;rintro σ1 H R ⟨σ,G,R2,r,q,k⟩;refine⟨σ,G,_,r,q,fun ds G1 q1 a xs H1 g1 r1 n e1 d1=>?_⟩;exact⟨a,xs,rfl,.inl ⟨.of e1,fun hz=>k ds _ _ (q1 a n) _ H1 g1 (r1.own e1 d1) zHR (by rw[d1.length];exact hz)⟩⟩
noncomputable def iR1(t:wU):TI2:=fun σ G R=>t σ G fun ds G1=>match ds with | [.int j]=>(-1000000<=j/\j<=1000000)/\R (yO 0 j.toNat) (fun u0=>True) G1 | _=>False
noncomputable def iR2(t:wU):TI2:=fun σ G R=>t σ G fun ds G1=>match ds with | [.int i,.int j]=>((-1000000<=i/\i<=1000000)/\-1000000<=j/\j<=1000000)/\R (yO i (j-i).toNat) (fun u0=>True) G1 | _=>False
theorem ye{t:wU}(hg:Gl X "range")(hm:X.mg "range"=none)(ha:A2 X [a] t)(hs:66#0):I2 X tg (.Call (.Name "range" p) [a] [] pos) (iR1 t):=by
 refine PI.mono (zMj hg hm ha hs) ?_;rintro σ1 H R ⟨σ,G,R2,r,q,k⟩;refine⟨σ,G,_,r,q,fun ds G1 q1 vs H1 g1 r1 d1=>?_⟩;split at q1
 ·rename_i j
  unfold Dens at d1;obtain⟨x,r',rfl,d1,d2⟩:=d1;unfold zX at d1;unfold Dens at d2;subst d1 d2;refine⟨j,rfl,by omega,by omega,k _ _ G1 q1.2 _ H1 g1 r1 zFw ?_⟩;rw[ww,sizeLine_eq];omega
 ·exact q1.elim
theorem zCb{t:wU}(hg:Gl X "range")(hm:X.mg "range"=none)(ha:A2 X [a,b] t)(hs:autoParam (starEach [a,b] X.env=[(false,eval a X.env),(false,eval b X.env)]) Zq4._auto_1)(hs2:autoParam (starEach [b] X.env=[(false,eval b X.env)]) Zq4._auto_1):I2 X tg (.Call (.Name "range" p) [a,b] [] pos) (iR2 t):=by
 refine PI.mono (zMk hg hm ha hs hs2) ?_;rintro σ1 H R ⟨σ,G,R2,r,q,k⟩;refine⟨σ,G,_,r,q,fun ds G1 q1 vs H1 g1 r1 d1=>?_⟩;split at q1
 ·rename_i i j
  unfold Dens at d1;obtain⟨x,r',rfl,d1,d2⟩:=d1;unfold Dens at d2;obtain⟨y,r',rfl,d2,d3⟩:=d2;unfold zX at d1 d2;unfold Dens at d3;subst d1 d2 d3;refine⟨i,j,rfl,⟨by omega,by omega,by omega,by omega⟩,k _ _ G1 q1.2 _ H1 g1 r1 zFw ?_⟩;rw[ww,sizeLine_eq];omega
 ·exact q1.elim
structure zAh (σ σ':S2):Prop where
 len:σ.length=σ'.length
 val:∀(i:Nat) d,σ[i]?=some (some d)->σ'[i]?=some (some d)
theorem zAh.refl(σ:S2):zAh σ σ:=⟨rfl,fun u0 u0 h=>h⟩
noncomputable def Fg(P:S2->Gp->Prop):S2->Gp->Prop:=fun σ G=>∃ σ' G',zAh σ' σ/\Sub G' G/\P σ' G'
theorem Fg.of{P:S2->Gp->Prop}{σ:S2}{G:Gp}(h:P σ G):Fg P σ G:=⟨σ,G,.refl σ,.refl G,h⟩
theorem Rel.sub{K:18#0}{σ σ':S2}{G G':Gp}{σ1:L2.St}{H:Hp}(r:Rel K σ G σ1 H)(s:zAh σ' σ)(g:Sub G' G):Rel K σ' G' σ1 H :=
 ⟨r.g.sub g,s.len.trans r.len,fun i d e=>r.val i d (s.val i d e)⟩
noncomputable def zUd(wi:TI2)(g:TG2)(tb:yU):yU:=fun E σ G=>wi σ G fun ds gd G1=>∃ Pv:Nat->S2->Gp->Prop,Pv 0 σ G1/\(∀ i σ G,i<=ds.length->Pv i σ G->gd G) /\
 (∀ i x σ G,ds[i]?=some x->Pv i σ G->g x σ G fun σ2 G2=>tb { E with nx:=Fg (Pv (i+1)),ct:=Fg (Pv (i+1)),bk:=E.nx } σ2 G2)/\∀ σ G,Pv ds.length σ G->E.nx σ G
theorem zUe{wi:TI2}{g:TG2}{tb:yU}{body:List Stmt}(hp:PassesOwn 22#0 X.A X.env X.xe)(hc:79#0)(hi:I2 X tg iter wi)(hg:G2 X tg g)(hb:Ps2 X body tb)
  (hs:17#0):P2 X (.For tg iter body [] pos) (zUd wi g tb):=by
 refine PS.mono (L2.zS3 hp hc hi hg hb hs) ?_;rintro E σ1 H ⟨σ,G,D2,r,q,k⟩;refine⟨σ,G,_,r,q,fun ds gd G1 q1 J H1 g1 r1 W hz=>?_⟩;obtain⟨Pv,p0,pg,pt,pd⟩:=q1;refine⟨fun i m σ1' H'=>m=ds.length-i/\i<=ds.length/\yK H1 H'/\∃ σ' G',Rel X.K σ' G' σ1' H'/\Pv i σ' G',⟨ds.length,by simp,du _,.refl _,σ,G1,r.to g1 r1,p0⟩,?_⟩;rintro i m σ1' H' ⟨rfl,hi',g',σ',G',r',p'⟩;have gd':=pg i σ' G' hi' p';by_cases hlt:i<ds.length
 ·refine .inr ⟨W.go i G' H' gd' r'.g g' hlt,fun σ1'' H''=>yK H1 H''/\∃ σ'' G'',Rel X.K σ'' G'' σ1'' H''/\Pv (i+1) σ'' G'',fun σ1'' H'' ⟨a1,σ'',G'',a2,a3⟩=>⟨ds.length-(i+1),by omega,rfl,hlt,a1,σ'',G'',a2,a3⟩,fun x H'' y=>?_⟩
  obtain⟨gy,ry,d,e1,e2⟩:=W.yld i G' H' x H'' gd' r'.g g' hlt y
  replace g':=g'.trans gy
  refine⟨σ',G',d,_,r'.to gy ry,e2,pt i d σ' G' e1 p',fun σ2 G2 q2 σ12 H2 g2 r2=>⟨σ2,G2,_,r2,q2,?_⟩⟩;have back:∀ σ3 G3,Fg (Pv (i+1)) σ3 G3->∀ σ13 H3,yK H2 H3->Rel X.K σ3 G3 σ13 H3->yK H1 H3/\∃ σ'' G'',Rel X.K σ'' G'' σ13 H3/\Pv (i+1) σ'' G'':=by
   rintro σ3 G3 ⟨σ4,G4,a1,a2,a3⟩ σ13 H3 g3 r3;exact⟨(g'.trans g2).trans g3,σ4,G4,r3.sub a1 a2,a3⟩
  exact⟨back,fun σ3 G3 q3 σ13 H3 g3 r3=>k.nx σ3 G3 q3 σ13 H3 (((g1.trans g').trans g2).trans g3) r3,back,fun d3 G3 q3 v3 H3 g3 r3 dv=>k.rt d3 G3 q3 v3 H3 (((g1.trans g').trans g2).trans g3) r3 dv⟩
 ·have e:i=ds.length:=by omega
  subst e;exact .inl ⟨W.stop G' H' gd' r'.g g',k.nx σ' G' (pd σ' G' p') σ1' H' (g1.trans g') r'⟩
noncomputable def FgG(P:Gp->Prop):Gp->Prop:=fun G=>∃ G',Sub G' G/\P G'
theorem FgG.of{P:Gp->Prop}{G:Gp}(h:P G):FgG P G:=⟨G,.refl G,h⟩
noncomputable def zg(wi:TI2)(bd:D->Option (List D))(tc:TT2)(te:zl):TL2:=fun σ G R=>wi σ G fun ds gd G1=>∀ A,G1.m A=none->∃ Pv:Nat->List D->Gp->Prop,Pv 0 [] (zS G1 A [])/\(∀ i acc G,i<=ds.length->Pv i acc G->gd G/\G.m A=some acc/\acc.length<=i) /\
 (∀ i x acc G,ds[i]?=some x->Pv i acc G->match bd x with
  | some us=>tc (σ++us.map some) G fun b G3=>if b=true then te (σ++us.map some) G3 fun d G4=>G4.m A=some acc/\FgG (Pv (i+1) (acc++[d])) (zS G4 A (acc++[d])) else FgG (Pv (i+1) acc) G3
  | none=>False)/\∀ acc G,Pv ds.length acc G->∃ G',G'.m A=none/\Sub G' G/\R acc G'
noncomputable def Ts2(X:Cx)(ifs:List Expr)(t:TT2):Prop:=PTs X ifs (lT X.K t)
noncomputable def zAA:TT2:=fun u0 G R=>R true G
theorem zAS:Ts2 X [] zAA:=by
 intro pins s σ1 H Q I h;refine zQz pins s σ1 H Q I ?_;obtain⟨σ,G,R,r,q,k⟩:=h;exact k true G q H 137#0 r.g
theorem wA{t:TT2}(h:T2 X c t):Ts2 X [c] t:=zQ0 h
theorem Rel.app{K:18#0}{σ:S2}{G:Gp}{σ1:L2.St}{H:Hp}(r:Rel K σ G σ1 H){ds:List D}{vs:List V}(h:Dens K H ds vs):Rel K (σ++ds.map some) G (σ1++vs.map some) H :=
 ⟨r.g,by simp[r.len,h.length],fun i d e=>by
  by_cases hi:i<σ.length
  ·rw[cT hi] at e
   obtain⟨v,e1,e2⟩:=r.val i d e;exact⟨v,by rw[cT (by rw[<-r.len];exact hi)];exact e1,e2⟩
  ·rw[de 2#0,cP] at e
   cases q:ds[i-σ.length]? with
   | none=>rw[q] at e;cases e
   | some d' =>
    rw[q] at e;cases e;obtain⟨v,e1,e2⟩:=h.get q;exact⟨v,by rw[de (by rw[<-r.len];omega),cP,<-r.len,e1];rfl,e2⟩⟩
theorem zCw{K:18#0}{wi:TI2}{bd:D->Option (List D)}{tc:TT2}{te:zl}{n:Nat}{g:TG}{N:Nat}
  (hb:∀(σ1:L2.St) (H:Hp) (d:D) (v:V) (us:List D) (Q:L2.St->Hp->Prop),σ1.length=N->zX K H d v->bd d=some us->us.length=n->(∀ vs,Dens K H us vs->Q (σ1++vs.map some) H)->g v (σ1++cw n none) H Q)
  (hn:∀ d us,bd d=some us->us.length=n)
  {σ1:L2.St} {H:Hp} {Q:VK} (hl:σ1.length=N) (h:lL K (zg wi bd tc te) σ1 H Q):zLm n (lI K wi) g (lT K tc) (lE K te) σ1 H Q:=by
 obtain⟨σ,G,R,r,q,k⟩:=h;refine⟨σ,G,_,r,q,fun ds gd G1 q1 J H1 g1 r1 W hz A hA=>?_⟩;obtain⟨Pv,p0,pg,pt,pd⟩:=q1 A (r1.free hA);refine⟨fun i m H2=>m=ds.length-i/\i<=ds.length/\yK H1 H2/\∃ as G2,yW K G2 H2/\Pv i as G2,⟨ds.length,by simp,du _,.fresh hA,[],zS G1 A [],r1.new hA .nil,p0⟩,?_⟩;rintro i m H2 ⟨rfl,hi',g2,as,G2,r2,p2⟩;obtain⟨gd2,al,hlen⟩:=pg i as G2 hi' p2;by_cases hlt:i<ds.length
 ·refine .inr ⟨W.go i G2 H2 gd2 r2 g2 hlt,fun x H3 y=>?_⟩
  obtain⟨gy,ry,d,e3,dv⟩:=W.yld i G2 H2 x H3 gd2 r2 g2 hlt y
  replace g2:=g2.trans gy
  replace r2:=ry
  have q3:=pt i d as G2 e3 p2;cases eb:bd d with
  | none=>rw[eb] at q3;exact q3.elim
  | some us =>
   rw[eb] at q3;dsimp only at q3;have hus:=hn d us eb;refine hb σ1 H3 d x us _ hl dv eb hus fun vs hv=>⟨?_,?_,?_⟩
   ·rw[List.take_append_of_le_length (ce _),e9]
   ·rw[cg,bZ,<-hv.length,hus]
   ·have rr:Rel K (σ++us.map some) G2 (σ1++vs.map some) H3:=(r.to (g1.trans g2) r2).app hv
    refine⟨σ++us.map some,G2,_,rr,q3,fun b G4 q4 H4 g4 r4=>?_⟩;cases b with
    | false =>
     obtain⟨G5,s5,p5⟩:=q4;exact⟨ds.length-(i+1),by omega,rfl,hlt,g2.trans g4,as,G5,r4.sub s5,p5⟩
    | true =>
     refine⟨σ++us.map some,G4,_,rr.to g4 r4,q4,fun d5 G5 q5 v H5 g5 r5 d5v=>?_⟩;obtain⟨a5,G6,s6,p6⟩:=q5;obtain⟨acc,e6,d6⟩:=r5.m A as a5;refine⟨acc,e6,by rw[<-d6.length];omega,ds.length-(i+1),by omega,rfl,hlt,((g2.trans g4).trans g5).trans (.lst e6),as++[d5],G6,?_,p6⟩;exact(r5.put e6 (d6.append (.cons d5v .nil))).sub s6
 ·have e:i=ds.length:=by omega
  subst e;obtain⟨G',n',s',q'⟩:=pd as G2 p2;obtain⟨acc,e6,d6⟩:=r2.m A as al;exact .inl ⟨W.stop G2 H2 gd2 r2 g2,k as G' q' A acc H2 (g1.trans g2) (r2.sub s') n' e6 d6⟩
noncomputable def wb:D->Option (List D):=fun d=>some [d]
noncomputable def bd2:D->Option (List D):=fun d=>match d with | .tup [a,b]=>some [a,b] | _=>none
section
variable {ifs:List Expr} {sc:Scope} {N0:List Str} {wi:TI2} {tc:TT2}
theorem PE.at{t t':TE}(h:PE X e t)(hm:∀ σ H Q,σ.length=X.N.length->t' σ H Q->t σ H Q):PE X e t':=fun pins s σ H Q I q=>h pins s σ H Q I (hm σ H Q I.len q)
theorem PS.at{st:Stmt}{t t':TS}(h:PS X st t)(hm:∀ E σ H,σ.length=X.N.length->t' E σ H->t E σ H):PS X st t':=fun pins s σ H E I q=>h pins s σ H E I (hm E σ H I.len q)
theorem zJK(s t:List (Option V))(x:Option V):List.set (s++t) (List.length s) x=s++t.set 0 x:=by
 rw[List.set_append_right _ _ (ce _),Nat.sub_self]
theorem zOR(s t:List (Option V))(x:Option V):List.set (s++t) (List.length s+1) x=s++t.set 1 x:=by
 rw[List.set_append_right _ _ (show s.length<=s.length+1 by omega),Nat.add_sub_cancel_left]
theorem bind1{K:18#0}{N:Nat}(σ1:L2.St)(H:Hp)(d:D)(v:V)(us:List D)(Q:L2.St->Hp->Prop)(hl:σ1.length=N)(dv:zX K H d v)(eb:wb d=some us)(hus:us.length=1)(h:∀ vs,Dens K H us vs->Q (σ1++vs.map some) H):zDO N v (σ1++cw 1 none) H Q:=by
 cases eb;have:=h [v] (.cons dv .nil);show Q (List.set (σ1++[none]) N (some v)) H;rw[<-hl,zJK];exact this
theorem zUf{K:18#0}{N:Nat}(σ1:L2.St)(H:Hp)(d:D)(v:V)(us:List D)(Q:L2.St->Hp->Prop)(hl:σ1.length=N)(dv:zX K H d v)(eb:bd2 d=some us)(hus:us.length=2)(h:∀ vs,Dens K H us vs->Q (σ1++vs.map some) H):zSw K 2 (zI6 (zDO N) (zI6 (zDO (N+1)) zSv)) v (σ1++cw 2 none) H Q:=by
 unfold bd2 at eb;split at eb
 ·rename_i d1 d2
  cases eb;unfold zX at dv;obtain⟨a,xs,rfl,hs,hd⟩:=dv;have hd0:=hd;unfold Dens at hd;obtain⟨x1,r1,rfl,h1,hd⟩:=hd;unfold Dens at hd;obtain⟨x2,r2,rfl,h2,hd⟩:=hd;unfold Dens at hd;subst hd;refine⟨a,[x1,x2],rfl,hs,rfl,x1,[x2],rfl,x2,[],rfl,rfl,?_⟩;have:=h [x1,x2] hd0;rw[<-hl];have e1:List.set (σ1++cw 2 none) (List.length σ1) (some x1)=σ1++[some x1,none]:=zJK σ1 _ _;rw[e1,zOR];exact this
 ·cases eb
theorem zQ1(x:Str){px:Pos}(hc:79#0)(T:zDe X sc N0)(hi:I2 X (.Name x px) iter wi)
  (hnd:(N0++[x]).Nodup) (hx:(relabel sc X.env).names.lookup x=some .local)
  (ht:∀ C s H fp pins,Ts2 81#0 ifs tc) (he:∀ C s H fp pins,E2 81#0 elt te)
  (hs:17#0):F2 X 46#0 (zg wi wb tc te):=by
 refine PE.at (zLn (own:=[x]) (g:=zDO X.N.length) (tc:=lT X.K tc) (te:=lE X.K te) hc T hi (fun C s H fp pins=>zBQ (X:=X.comp (N0++[x]) sc C s H fp pins) hnd (by
  show(N0++[x])[X.N.length]?=some x;rw[<-T.len];simp) (.inl hx) (.inr hx)) ht he hs) fun σ H Q hl h=>?_
 exact zCw (n:=1) (N:=X.N.length) bind1 (fun d us e=>by cases e;rfl) hl h
theorem zQ2(x y:Str){px py pt:Pos}{kk:Nat}(hc:79#0)(T:zDe X sc N0)(hi:I2 X (.Tuple [.Name x px,.Name y py] kk pt) iter wi)
  (hnd:(N0++[x,y]).Nodup) (hx:(relabel sc X.env).names.lookup x=some .local) (hy:(relabel sc X.env).names.lookup y=some .local)
  (ht:∀ C s H fp pins,Ts2 (X.comp (N0++[x,y]) sc C s H fp pins) ifs tc) (he:∀ C s H fp pins,E2 (X.comp (N0++[x,y]) sc C s H fp pins) elt te)
  (hs:17#0):F2 X (.ListComp elt [⟨.Tuple [.Name x px,.Name y py] kk pt,iter,ifs,0⟩] sc pos) (zg wi bd2 tc te):=by
 refine PE.at (zLn (own:=[x,y]) (g:=zSw X.K 2 (zI6 (zDO X.N.length) (zI6 (zDO (X.N.length+1)) zSv))) (tc:=lT X.K tc) (te:=lE X.K te) hc T hi (fun C s H fp pins=>?_) ht he hs) fun σ H Q hl h=>?_
 ·have e1:(X.comp (N0++[x,y]) sc C s H fp pins).N[X.N.length]?=some x:=by
   show(N0++[x,y])[X.N.length]?=some x;rw[<-T.len];simp
  have e2:(X.comp (N0++[x,y]) sc C s H fp pins).N[X.N.length+1]?=some y:=by
   show(N0++[x,y])[X.N.length+1]?=some y;rw[<-T.len];simp
  exact zN7 (X:=X.comp (N0++[x,y]) sc C s H fp pins) (n:=2) hc (zDr (zBQ hnd e1 (.inl hx) (.inr hx)) (zDr (zBQ hnd e2 (.inl hy) (.inr hy)) zLe))
 ·refine zCw (n:=2) (N:=X.N.length) zUf (fun d us e=>?_) hl h
  unfold bd2 at e;split at e<;>first | (cases e;rfl) | (cases e;done)
noncomputable def zAi(i:Nat)(t:TL2):yU:=fun E σ G=>t σ G fun ds G'=>∀ l,G'.m l=none->E.nx (σ.set i (some (.adr l))) (zS G' l ds)
theorem zKe(i:Nat)(x:Str){y:Str}{px py spos:Pos}(hc:79#0)(T:zDe X sc N0)(hi:I2 X (.Name x px) iter wi)
  (hnd:(N0++[x]).Nodup) (hx:(relabel sc X.env).names.lookup x=some .local)
  (ht:∀ C s H fp pins,Ts2 81#0 ifs tc) (he:∀ C s H fp pins,E2 81#0 elt te)
  (hN:X.N.Nodup) (hy:X.N[i]?=some y) (hl:X.env.scope.names.lookup y=some .local)
  (hsw:swapsWith 46#0 (some (.Name y py)) spos.line X.env=pure true)
  (hs:17#0):P2 X (.Assign [.Name y py] 46#0 spos) (zAi i (zg wi wb tc te)):=by
 refine PS.at (zKd (own:=[x]) (g:=zDO X.N.length) (tc:=lT X.K tc) (te:=lE X.K te) hc T hi (fun C s H fp pins=>zBQ (X:=X.comp (N0++[x]) sc C s H fp pins) hnd (by
  show(N0++[x])[X.N.length]?=some x;rw[<-T.len];simp) (.inl hx) (.inr hx)) ht he hN hy hl hsw hs) fun E σ1 H hl h=>?_
 sleep 41;exact k.nx _ _ (q' l n) _ H' g' ((r.to g' (r'.own e d)).set i 35#0)
end
end
section
variable {X:Cx} {a b c e o:Expr} {es:List Expr} {pos p:Pos} {ta tb te:zl}
noncomputable def zFJ(ta tb:zl):zl:=fun σ G R=>ta σ G fun x G1=>match x with | .bl c=>if c=true then tb σ G1 R else R (.bl false) G1 | _=>False
noncomputable def xOr(ta tb:zl):zl:=fun σ G R=>ta σ G fun x G1=>match x with | .bl c=>if c=true then R (.bl true) G1 else tb σ G1 R | _=>False
noncomputable def zTM(ta:zl):zl:=fun σ G R=>ta σ G fun x G1=>match x with | .bl c=>R (.bl (!c)) G1 | _=>False
theorem zFx{op}(h:155#0):E2 X (.BoolOp op [a] pos) ta:=zSq h
theorem zJL{rest:List Expr}(ha:155#0)(hb:E2 X (.BoolOp .And (b::rest) pos) tb):E2 X (.BoolOp .And (a::b::rest) pos) (zFJ ta tb):=by
 refine PE.mono (zSr ha hb) ?_;sleep 13;refine 62#0;cases d with
 | bl c =>
  unfold zX at d1;refine⟨c,d1,?_⟩;cases c with
  | true=>exact⟨σ,G1,R,r.to g1 r1,q1,fun d G' q' v H' g'=>k d G' q' v H' (g1.trans g')⟩
  | false=>exact k _ G1 q1 _ H1 g1 r1 35#0
 | _=>exact q1.elim
theorem zUg{rest:List Expr}(ha:155#0)(hb:E2 X (.BoolOp .Or (b::rest) pos) tb):E2 X (.BoolOp .Or (a::b::rest) pos) (xOr ta tb):=by
 refine PE.mono (zUK ha hb) ?_;sleep 13;refine 62#0;cases d with
 | bl c =>
  unfold zX at d1;refine⟨c,d1,?_⟩;cases c with
  | true=>exact k _ G1 q1 _ H1 g1 r1 35#0
  | false=>exact⟨σ,G1,R,r.to g1 r1,q1,fun d G' q' v H' g'=>k d G' q' v H' (g1.trans g')⟩
 | _=>exact q1.elim
theorem zUh(ha:155#0):E2 X (.UnaryOp .Not a pos) (zTM ta):=by
 refine PE.mono (zSs ha) ?_;sleep 13;refine 62#0;cases d with
 | bl c =>
  unfold zX at d1;exact⟨c,d1,k _ G1 q1 _ H1 g1 r1 35#0⟩
 | _=>exact q1.elim
theorem zBV(h:E2 X e te)(he:autoParam (∀ whole,isTrue e X.env whole=(do let v <-whole;standAt e.pos;holding [v] (truthy v))) Zq3._auto_1):T2 X e (xB te):=by
 refine PT.mono (zSm h he) ?_;sleep 13;refine 62#0;cases d with
 | bl c =>
  unfold zX at d1;exact⟨c,d1,k _ G1 q1 H1 g1 r1⟩
 | _=>exact q1.elim
section
variable {t u:TT2} {rest:List Expr}
noncomputable def W2(X:Cx)(e:Expr)(t:TT2):Prop:=PW X e (lT X.K t)
theorem W2.test(h:W2 X e t):T2 X e t:=PW.pt h
noncomputable def zDu(t u:TT2):TT2:=fun σ G R=>t σ G fun c G1=>if c=true then u σ G1 R else R false G1
noncomputable def zB5(t u:TT2):TT2:=fun σ G R=>t σ G fun c G1=>if c=true then R true G1 else u σ G1 R
noncomputable def zAj(t:TT2):TT2:=fun σ G R=>t σ G fun c G1=>R (!c) G1
theorem PW.mono{t t':TT}(h:PW X e t)(hm:∀ σ H Q,t' σ H Q->t σ H Q):PW X e t':=fun w pins s σ H Q I q=>h w pins s σ H Q I (hm σ H Q q)
theorem zTN(ha:T2 X a t):W2 X (.BoolOp .And [a] pos) t:=zQd ha
theorem zJM(ha:T2 X a t):W2 X (.BoolOp .Or [a] pos) t:=zSn ha
theorem w_and(ha:T2 X a t)(hb:W2 X (.BoolOp .And (b::rest) pos) u):W2 X (.BoolOp .And (a::b::rest) pos) (zDu t u):=by
 refine PW.mono (zSo ha hb) ?_;sleep 13;refine⟨σ,G,_,r,q,fun c G1 q1 H1 g1 r1=>?_⟩;cases c with
 | true=>exact⟨σ,G1,R,r.to g1 r1,q1,fun b G' q' H' g'=>k b G' q' H' (g1.trans g')⟩
 | false=>exact k _ G1 q1 H1 g1 r1
theorem w_or(ha:T2 X a t)(hb:W2 X (.BoolOp .Or (b::rest) pos) u):W2 X (.BoolOp .Or (a::b::rest) pos) (zB5 t u):=by
 refine PW.mono (zUH ha hb) ?_;sleep 13;refine⟨σ,G,_,r,q,fun c G1 q1 H1 g1 r1=>?_⟩;cases c with
 | true=>exact k _ G1 q1 H1 g1 r1
 | false=>exact⟨σ,G1,R,r.to g1 r1,q1,fun b G' q' H' g'=>k b G' q' H' (g1.trans g')⟩
theorem zFy(ha:T2 X a t):T2 X (.UnaryOp .Not a pos) (zAj t):=by
 refine PT.mono (zSp ha) ?_;sleep 13;exact⟨σ,G,_,r,q,fun c G1 q1 H1 g1 r1=>k _ G1 q1 H1 g1 r1⟩
end
theorem zAk(ha:155#0)(hb:E2 X b tb):E2 X (.BinOp a .Sub b pos) (zP 20#0 ta tb):=zJH zS7 61#0 ha hb
theorem zEm(ha:155#0)(hb:E2 X b tb):E2 X (.BinOp a .Mult b pos) (zP 135#0 ta tb):=zJH zS8 (zDt fun u0 u0=>⟨rfl,rfl⟩) ha hb
theorem zDf(ha:155#0)(hb:E2 X b tb):E2 X (.BinOp a .FloorDiv b pos) (zP 54#0 ta tb):=zJH zQi (zDt fun u0 u0=>⟨rfl,rfl⟩) ha hb
theorem zHS(ha:155#0)(hb:E2 X b tb):E2 X (.BinOp a .Mod b pos) (zP 82#0 ta tb):=zJH zS9 (zDt fun u0 u0=>⟨rfl,rfl⟩) ha hb
theorem zSI(ha:155#0)(hb:E2 X b tb):E2 X (.BinOp a .Pow b pos) (zP (yZ zDd fun i j=>.int (i ^ j.toNat)) ta tb):=zJH zTA (zDt fun u0 u0=>⟨rfl,rfl⟩) ha hb
theorem zTO(ha:155#0)(hb:E2 X b tb):E2 X (.Compare a [.Lt] [b] pos) (zP 25#0 ta tb):=zJI zOB 61#0 ha hb (zBh _)
theorem zVO(ha:155#0)(hb:E2 X b tb):E2 X (.Compare a [.LtE] [b] pos) (zP 91#0 ta tb):=zJI zLf 61#0 ha hb (zBh _)
theorem zKf(ha:155#0)(hb:E2 X b tb):T2 X (.Compare a [.Lt] [b] pos) (xB (zP 25#0 ta tb)):=zE5 zOB 61#0 ha hb (zBh _)
theorem zQ3(ha:155#0)(hb:E2 X b tb):T2 X (.Compare a [.Gt] [b] pos) (xB (zP 140#0 ta tb)):=zE5 zUR 61#0 ha hb (zBh _)
theorem zVP(ha:155#0)(hb:E2 X b tb):T2 X (.Compare a [.GtE] [b] pos) (xB (zP (yb fun i j=>.bl (decide (j<=i))) ta tb)):=zE5 zUS 61#0 ha hb (zBh _)
mutual
noncomputable def wx:D->D->Bool
 | .non,.non=>true
 | .bl a,.bl b=>a==b
 | .int a,.int b=>a==b
 | .bl a,.int b=>(if a then 1 else 0)==b
 | .int a,.bl b=>a==(if b then 1 else 0)
 | .str a,.str b=>a==b
 | .tup a,.tup b=>eqDs a b
 | _,_=>false
noncomputable def eqDs:List D->List D->Bool
 | [],[]=>true
 | x::xs,y::ys=>wx x y&&eqDs xs ys
 | _,_=>false
end
noncomputable def flat:Nat->D->Bool
 | _,.non=>true
 | _,.bl _=>true
 | _,.int _=>true
 | _,.str _=>true
 | _,.adr _=>false
 | _,.dic _=>false
 | 0,.tup _=>false
 | n+1,.tup ds=>ds.all (flat n)
theorem zFz:∀(xs ys:List D),eqDs xs ys=((bY (min xs.length ys.length)).all (fun j=>wx (xs.getD j .non) (ys.getD j .non))&&xs.length==ys.length)
 | [],[]=>by simp[eqDs]
 | [],y::ys=>by simp[eqDs]
 | x::xs,[]=>by simp[eqDs]
 | x::xs,y::ys=>by
  unfold eqDs;rw[zFz xs ys];have e1:min (x::xs).length (y::ys).length=min xs.length ys.length+1:=by simp only[bV];omega
  rw[e1,List.range_succ_eq_map,List.all_cons,List.all_map];have e2:((x::xs).length==(y::ys).length)=(xs.length==ys.length):=by
   rw[cG];simp
  rw[e2,Bool.and_assoc];rfl
mutual
theorem zDv:∀ d:D,(∀ n,flat n d=true->wx d d=true)
 | .non,_,_=>rfl
 | .bl b,_,_=>by show(b==b)=true;simp
 | .int b,_,_=>by show(b==b)=true;simp
 | .str b,_,_=>by show(b==b)=true;simp
 | .adr _,n,h=>by cases n<;>simp[flat] at h
 | .dic _,n,h=>by cases n<;>simp[flat] at h
 | .tup ds,0,h=>by simp[flat] at h
 | .tup ds,n+1,h=>by
  show eqDs ds ds=true;exact eqDs_refl ds n (by simpa[flat] using h)
theorem eqDs_refl:∀ ds:List D,(∀ n,(∀ d∈ds,flat n d=true)->eqDs ds ds=true)
 | [],_,_=>rfl
 | d::ds,n,h=>by
  show(wx d d&&eqDs ds ds)=true;rw[zDv d n (h d cF),eqDs_refl ds n fun x hx=>h x (cq _ hx)];rfl
end
section
variable {pins:List (Addr×Obj)} {σ1:L2.St} {H:Hp} {s:Shared}
mutual
theorem zX.inj(I:zb X pins σ1 H s):∀ {d d':D} {v:V} {n n':Nat},zX X.K H d v->zX X.K H d' v->flat n d=true->flat n' d'=true->d=d' 
 | .non,d',v,n,n',h,h',f,f'=>by
  sleep 38;cases d' with
  | tup _=>unfold zX at h';obtain⟨u0,u0,e,u0⟩:=h';cases e
  | dic _=>unfold zX at h';cases h'.1
  | _=>unfold zX at h';first | rfl | cases h'
 | .bl b,d',v,n,n',h,h',f,f'=>by
  sleep 38;cases d' with
  | tup _=>unfold zX at h';obtain⟨u0,u0,e,u0⟩:=h';cases e
  | dic _=>unfold zX at h';cases h'.1
  | _=>unfold zX at h';first | cases h';rfl | cases h'
 | .int b,d',v,n,n',h,h',f,f'=>by
  sleep 38;cases d' with
  | tup _=>unfold zX at h';obtain⟨u0,u0,e,u0⟩:=h';cases e
  | dic _=>unfold zX at h';cases h'.1
  | _=>unfold zX at h';first | cases h';rfl | cases h'
 | .str b,d',v,n,n',h,h',f,f'=>by
  sleep 38;cases d' with
  | tup _=>unfold zX at h';obtain⟨u0,u0,e,u0⟩:=h';cases e
  | dic _=>unfold zX at h';cases h'.1
  | _=>unfold zX at h';first | cases h';rfl | cases h'
 | .adr _,d',v,n,n',h,h',f,f'=>by cases n<;>simp[flat] at f
 | .dic _,d',v,n,n',h,h',f,f'=>by cases n<;>simp[flat] at f
 | .tup ds,d',v,n,n',h,h',f,f'=>by
  unfold zX at h;obtain⟨a,xs,rfl,hs,hd⟩:=h;cases d' with
  | tup ds' =>
   unfold zX at h';obtain⟨a',xs',e,hs',hd'⟩:=h';cases e;have:=I.tuple_inj hs hs';subst this;cases n with
   | zero=>simp[flat] at f
   | succ n =>
    cases n' with
    | zero=>simp[flat] at f'
    | succ n'=>rw[Dens.inj I hd hd' (by simpa[flat] using f) (by simpa[flat] using f')]
  | adr _=>cases n'<;>simp[flat] at f'
  | dic _=>cases n'<;>simp[flat] at f'
  | _=>unfold zX at h';cases h'
theorem Dens.inj(I:zb X pins σ1 H s):∀ {ds ds':List D} {xs:List V} {n n':Nat},Dens X.K H ds xs->Dens X.K H ds' xs->(∀ d∈ds,flat n d=true)->(∀ d∈ds',flat n' d=true)->ds=ds'
 | [],ds',xs,n,n',h,h',f,f'=>by
  unfold Dens at h;subst h;cases ds' with
  | nil=>rfl
  | cons _ _=>unfold Dens at h';obtain⟨u0,u0,e,u0⟩:=h';cases e
 | d::ds,ds',xs,n,n',h,h',f,f'=>by
  sleep 40;cases ds' with
  | nil=>unfold Dens at h';cases h'
  | cons d' ds' =>
   unfold Dens at h';obtain⟨x',r',e,h1',h2'⟩:=h';cases e;rw[zX.inj I h1 h1' (f d cF) (f' d' cF),Dens.inj I h2 h2' (fun z hz=>f z (cq _ hz)) fun z hz=>f' z (cq _ hz)]
end
theorem in1_units{A:Around}:A.in1.units=A.units+1:=rfl
theorem zKg(I:zb X pins σ1 H s):∀(n:Nat) (d d':D) (v v':V) (u u':Value) (A:Around),zX X.K H d v->zX X.K H d' v'->RelV v u->RelV v' u'->flat n d=true->flat n d'=true->A.units+n<cLine->SeqAt.EqAt A s u u' (wx d d'):=by
 intro n
 induction n with
 | zero =>
  intro d d' v v' u u' A h h' r r' f f' hu;have fv:∀ {d:D} {v:V},flat 0 d=true->zX X.K H d v->zLl v=true/\v=vOf d:=fun {d v} f h=>by
   cases d<;>first | (simp[flat] at f;done) | (unfold zX at h;subst h;exact⟨rfl,rfl⟩)
  obtain⟨f1,e1⟩:=fv f h;obtain⟨f2,e2⟩:=fv f' h';have q:=zOG (A:=A) (s:=s) r r' f1 f2;have e:eqV v v'=wx d d':=by
   rw[e1,e2];cases d<;>first | (simp[flat] at f;done) | (cases d'<;>first | (simp[flat] at f';done) | rfl)
  rw[<-e];exact q
 | succ n ih =>
  intro d d' v v' u u' A h h' r r' f f' hu;by_cases hs:flat 0 d=true/\flat 0 d'=true
  ·have fv:∀ {d:D} {v:V},flat 0 d=true->zX X.K H d v->zLl v=true/\v=vOf d:=fun {d v} f h=>by
    cases d<;>first | (simp[flat] at f;done) | (unfold zX at h;subst h;exact⟨rfl,rfl⟩)
   obtain⟨f1,e1⟩:=fv hs.1 h;obtain⟨f2,e2⟩:=fv hs.2 h';have q:=zOG (A:=A) (s:=s) r r' f1 f2;have e:eqV v v'=wx d d':=by
    rw[e1,e2];cases d<;>first | (simp[flat] at hs;done) | (cases d'<;>first | (simp[flat] at hs;done) | rfl)
   rw[<-e];exact q
  ·have hu0:A.units<cLine:=by omega
   cases d with
   | tup ds =>
    unfold zX at h;obtain⟨a,xs,rfl,hsq,hd⟩:=h;cases r;obtain⟨its,rv,tp,u0⟩:=I.tuple hsq;have tp':s.heap.IsTuple a its.toArray:=tp;cases d' with
    | tup ds' =>
     unfold zX at h';sleep 11;by_cases ha:a=a'
     ·subst ha
      have:=I.tuple_inj hsq hsq';subst this;have hds:ds=ds':=Dens.inj I hd hd' (by simpa[flat] using f) (by simpa[flat] using f');subst hds;have e:wx (.tup ds) (.tup ds)=true:=zDv _ _ f;rw[e];exact SeqAt.EqAt.same _
     ·have q:=SeqAt.EqAt.of_refs ha (SeqAt.RcAt.tuples (A:=A) (s:=s) (e:=fun j=>wx (ds.getD j .non) (ds'.getD j .non)) tp' (show s.heap.IsTuple a' its'.toArray from tp2) hu0 fun j h1 h2=>by
       have h1':j<its.length:=by simpa using h1
       have h2':j<its'.length:=by simpa using h2
       have l1:=hd.length;have l2:=rv.length;have l3:=hd'.length;have l4:=rv'.length;obtain⟨x,ex,dx⟩:=hd.get (i:=j) (d:=ds[j]'(by omega)) 24#0;obtain⟨y,ey,dy⟩:=hd'.get (i:=j) (d:=ds'[j]'(by omega)) 24#0;obtain⟨ux,eux,rx⟩:=rv.get ex;obtain⟨uy,euy,ry⟩:=rv'.get ey;have e1:its.toArray[j]=ux:=by
        have:=(cc.mp eux).2;sleep 23
       have e2:its'.toArray[j]=uy:=by
        have:=(cc.mp euy).2;sleep 23
       have g1:ds.getD j .non=ds[j]'(by omega):=by simp[d7,(show j<ds.length by omega)]
       have g2:ds'.getD j .non=ds'[j]'(by omega):=by simp[d7,(show j<ds'.length by omega)]
       rw[e1,e2];show SeqAt.EqAt A.in1 s ux uy (wx (ds.getD j .non) (ds'.getD j .non));rw[g1,g2];refine ih _ _ x y ux uy A.in1 dx dy rx ry ?_ ?_ 72#0
       ·have:∀ d∈ds,flat n d=true:=by simpa[flat] using f
        exact this _ (dA _)
       ·have:∀ d∈ds',flat n d=true:=by simpa[flat] using f'
        exact this _ (dA _))
      have e:wx (.tup ds) (.tup ds')=59#0:=by
       show eqDs ds ds'=_;rw[zFz];simp[hd.length,rv.length,hd'.length,rv'.length]
      rw[e];exact q
    | adr _=>simp[flat] at f'
    | dic _=>simp[flat] at f'
    | non=>unfold zX at h';subst h';cases r';exact SeqAt.EqAt.tuple_none tp' hu0
    | bl _=>unfold zX at h';subst h';cases r';exact SeqAt.EqAt.tuple_bool _ tp' hu0
    | int _=>unfold zX at h';subst h';obtain⟨t,rfl⟩:=r';exact SeqAt.EqAt.tuple_int _ _ tp' hu0
    | str _=>unfold zX at h';subst h';obtain⟨t,rfl⟩:=r';exact SeqAt.EqAt.tuple_str _ _ tp' hu0
   | adr _=>simp[flat] at f
   | dic _=>simp[flat] at f
   | non =>
    cases d' with
    | tup ds' =>
     unfold zX at h h';subst h;cases r;sleep 11;exact SeqAt.EqAt.none_tuple (show s.heap.IsTuple a' its'.toArray from tp2) hu0
    | adr _=>simp[flat] at f'
    | dic _=>simp[flat] at f'
    | _=>exact absurd ⟨rfl,rfl⟩ hs
   | bl _ =>
    cases d' with
    | tup ds' =>
     unfold zX at h h';subst h;cases r;sleep 11;exact SeqAt.EqAt.bool_tuple _ (show s.heap.IsTuple a' its'.toArray from tp2) hu0
    | adr _=>simp[flat] at f'
    | dic _=>simp[flat] at f'
    | _=>exact absurd ⟨rfl,rfl⟩ hs
   | int _ =>
    cases d' with
    | tup ds' =>
     unfold zX at h h';subst h;obtain⟨t,rfl⟩:=r;sleep 11;exact SeqAt.EqAt.int_tuple _ _ (show s.heap.IsTuple a' its'.toArray from tp2) hu0
    | adr _=>simp[flat] at f'
    | dic _=>simp[flat] at f'
    | _=>exact absurd ⟨rfl,rfl⟩ hs
   | str _ =>
    cases d' with
    | tup ds' =>
     unfold zX at h h';subst h;obtain⟨t,rfl⟩:=r;sleep 11;exact SeqAt.EqAt.str_tuple _ _ (show s.heap.IsTuple a' its'.toArray from tp2) hu0
    | adr _=>simp[flat] at f'
    | dic _=>simp[flat] at f'
    | _=>exact absurd ⟨rfl,rfl⟩ hs
end
end
section
variable {X:Cx} {pins:List (Addr×Obj)} {σ1:L2.St} {H:Hp} {s:Shared} {A:Around}
theorem zFS(I:zb X pins σ1 H s){n:Nat}{ds ds':List D}{xs xs':List V}{its its':31#0}(hd:Dens X.K H ds xs)(hd':Dens X.K H ds' xs')(rv:zf xs its)(rv':zf xs' its')
  (f:∀ d∈ds,flat n d=true) (f':∀ d∈ds',flat n d=true) (hu:A.units+n<cLine) (j:Nat) (h1:j<its.toArray.size) (h2:j<its'.toArray.size) :
  SeqAt.EqAt A s its.toArray[j] its'.toArray[j] (wx (ds.getD j .non) (ds'.getD j .non)):=by
 have h1':j<its.length:=by simpa using h1
 have h2':j<its'.length:=by simpa using h2
 have l1:=hd.length;have l2:=rv.length;have l3:=hd'.length;have l4:=rv'.length;obtain⟨x,ex,dx⟩:=hd.get (i:=j) (d:=ds[j]'(by omega)) 24#0;obtain⟨y,ey,dy⟩:=hd'.get (i:=j) (d:=ds'[j]'(by omega)) 24#0;obtain⟨ux,eux,rx⟩:=rv.get ex;obtain⟨uy,euy,ry⟩:=rv'.get ey;have e1:its.toArray[j]=ux:=by
  have:=(cc.mp eux).2;sleep 23
 have e2:its'.toArray[j]=uy:=by
  have:=(cc.mp euy).2;sleep 23
 have g1:ds.getD j .non=ds[j]'(by omega):=by simp[d7,(show j<ds.length by omega)]
 have g2:ds'.getD j .non=ds'[j]'(by omega):=by simp[d7,(show j<ds'.length by omega)]
 rw[e1,e2,g1,g2];exact zKg I n _ _ x y ux uy A dx dy rx ry (f _ (dA _)) (f' _ (dA _)) hu
theorem zB6{ds ds':List D}{n n':Nat}(h:ds.length=n)(h':ds'.length=n'):eqDs ds ds'=((bY (min n n')).all (fun j=>wx (ds.getD j .non) (ds'.getD j .non))&&n==n'):=by
 rw[zFz,h,h']
theorem zTP(I:zb X pins σ1 H s){n:Nat}{d d':D}{v v':V}{u u':Value}(h:zX X.K H d v)(h':zX X.K H d' v')(r:RelV v u)(r':RelV v' u')(f:flat n d=true)(f':flat n d'=true)(hu:A.units+n+1<cLine) :
  SeqAt.RcAt A s u u' (wx d d'):=by
 have hu0:A.units<cLine:=by omega
 have tupI:∀ {d:D} {v:V} {u:Value} {ds:List D},d=.tup ds->zX X.K H d v->RelV v u->∃ a xs its,u=.ref a/\Dens X.K H ds xs/\zf xs its/\s.heap.IsTuple a its.toArray:=fun {d v u ds} e h r=>by
  subst e;unfold zX at h;obtain⟨a,xs,rfl,hs,hd⟩:=h;cases r;obtain⟨its,rv,tp,u0⟩:=I.tuple hs;exact⟨a,xs,its,rfl,hd,rv,tp⟩
 cases d with
 | tup ds =>
  obtain⟨a,xs,its,rfl,hd,rv,tp⟩:=tupI rfl h r;cases d' with
  | tup ds' =>
   obtain⟨a',xs',its',rfl,hd',rv',tp'⟩:=tupI rfl h' r';cases n with
   | zero=>simp[flat] at f
   | succ n =>
    have q:=SeqAt.RcAt.tuples (A:=A) (s:=s) tp tp' hu0 (zFS (A:=A.in1) I hd hd' rv rv' (by simpa[flat] using f) (by simpa[flat] using f') 72#0);have e:wx (.tup ds) (.tup ds')=59#0 :=
     zB6 (by simp[hd.length,rv.length]) (by simp[hd'.length,rv'.length])
    rw[e];exact q
  | adr _=>cases n<;>simp[flat] at f'
  | dic _=>cases n<;>simp[flat] at f'
  | non=>unfold zX at h';subst h';cases r';exact SeqAt.RcAt.tuple_none tp hu0
  | bl _=>unfold zX at h';subst h';cases r';exact SeqAt.RcAt.tuple_bool _ tp hu0
  | int _=>unfold zX at h';subst h';obtain⟨t,rfl⟩:=r';exact SeqAt.RcAt.tuple_int _ _ tp hu0
  | str _=>unfold zX at h';subst h';obtain⟨t,rfl⟩:=r';exact SeqAt.RcAt.tuple_str _ _ tp hu0
 | adr _=>cases n<;>simp[flat] at f
 | dic _=>cases n<;>simp[flat] at f
 | non =>
  sleep 38;cases r;cases d' with
  | tup ds'=>obtain⟨a',xs',its',rfl,hd',rv',tp'⟩:=tupI rfl h' r';exact SeqAt.RcAt.none_tuple tp' hu0
  | adr _=>cases n<;>simp[flat] at f'
  | dic _=>cases n<;>simp[flat] at f'
  | non=>unfold zX at h';subst h';cases r';exact SeqAt.RcAt.none_none
  | bl _=>unfold zX at h';subst h';cases r';exact SeqAt.RcAt.none_bool _
  | int _=>unfold zX at h';subst h';obtain⟨t,rfl⟩:=r';exact SeqAt.RcAt.none_int _ _
  | str _=>unfold zX at h';subst h';obtain⟨t,rfl⟩:=r';exact SeqAt.RcAt.none_str _ _
 | bl _ =>
  sleep 38;cases r;cases d' with
  | tup ds'=>obtain⟨a',xs',its',rfl,hd',rv',tp'⟩:=tupI rfl h' r';exact SeqAt.RcAt.bool_tuple _ tp' hu0
  | adr _=>cases n<;>simp[flat] at f'
  | dic _=>cases n<;>simp[flat] at f'
  | non=>unfold zX at h';subst h';cases r';exact SeqAt.RcAt.bool_none _
  | bl _=>unfold zX at h';subst h';cases r';exact SeqAt.RcAt.bool_bool _ _
  | int _=>unfold zX at h';subst h';obtain⟨t,rfl⟩:=r';exact SeqAt.RcAt.bool_int _ _ _
  | str _=>unfold zX at h';subst h';obtain⟨t,rfl⟩:=r';exact SeqAt.RcAt.bool_str _ _ _
 | int _ =>
  sleep 38;obtain⟨t,rfl⟩:=r;cases d' with
  | tup ds'=>obtain⟨a',xs',its',rfl,hd',rv',tp'⟩:=tupI rfl h' r';exact SeqAt.RcAt.int_tuple _ _ tp' hu0
  | adr _=>cases n<;>simp[flat] at f'
  | dic _=>cases n<;>simp[flat] at f'
  | non=>unfold zX at h';subst h';cases r';exact SeqAt.RcAt.int_none _ _
  | bl _=>unfold zX at h';subst h';cases r';exact SeqAt.RcAt.int_bool _ _ _
  | int _=>unfold zX at h';subst h';obtain⟨t,rfl⟩:=r';exact SeqAt.RcAt.int_int _ _ _ _
  | str _=>unfold zX at h';subst h';obtain⟨t,rfl⟩:=r';exact SeqAt.RcAt.int_str _ _ _ _
 | str _ =>
  sleep 38;obtain⟨t,rfl⟩:=r;cases d' with
  | tup ds'=>obtain⟨a',xs',its',rfl,hd',rv',tp'⟩:=tupI rfl h' r';exact SeqAt.RcAt.str_tuple _ _ tp' hu0
  | adr _=>cases n<;>simp[flat] at f'
  | dic _=>cases n<;>simp[flat] at f'
  | non=>unfold zX at h';subst h';cases r';exact SeqAt.RcAt.str_none _ _
  | bl _=>unfold zX at h';subst h';cases r';exact SeqAt.RcAt.str_bool _ _ _
  | int _=>unfold zX at h';subst h';obtain⟨t,rfl⟩:=r';exact SeqAt.RcAt.str_int _ _ _ _
  | str _=>unfold zX at h';subst h';obtain⟨t,rfl⟩:=r';exact SeqAt.RcAt.str_str _ _ _ _
theorem zTQ(I:zb X pins σ1 H s){n:Nat}{ds ds':List D}{xs xs':List V}{a a':Addr}(hs:SqL X.K H a xs)(hd:Dens X.K H ds xs)(hs':SqL X.K H a' xs')(hd':Dens X.K H ds' xs')(f:∀ d∈ds,flat n d=true)(f':∀ d∈ds',flat n d=true)(hu:A.units+n+1<cLine) :
  SeqAt.RcAt A s (.ref a) (.ref a') (eqDs ds ds'):=by
 have hu0:A.units<cLine:=by omega
 sleep 17
 ·have q:=SeqAt.RcAt.lists (A:=A) (s:=s) pl.isList pl'.isList hl hu0 (zFS (A:=A.in1) I hd hd' rv rv' f f' 72#0)
  have e':eqDs ds ds'=(bY its.toArray.size).all (fun j=>wx (ds.getD j .non) (ds'.getD j .non)):=by
   rw[e,<-hl];simp
  rw[e'];exact q
 ·have e':eqDs ds ds'=false:=by
   rw[e];have:(its.toArray.size==its'.toArray.size)=false:=by simpa using hl
   rw[this,fg]
  rw[e'];exact SeqAt.RcAt.lists_lengths pl.isList pl'.isList (by simpa using hl) hu0
noncomputable def zTR(K:18#0)(ng:Bool):R2:=fun x y H Q=>(∃ d d',zX K H d x/\zX K H d' y/\flat 8 d=true/\flat 8 d'=true/\Q (.bl (if ng then !wx d d' else wx d d')) H) \/
 (∃ a a' xs xs' ds ds',x=.ref a/\y=.ref a'/\SqL K H a xs/\SqL K H a' xs'/\Dens K H ds xs/\Dens K H ds' xs'/\(∀ d∈ds,flat 8 d=true)/\(∀ d∈ds',flat 8 d=true)/\Q (.bl (if ng then !eqDs ds ds' else eqDs ds ds')) H)
theorem zOS(hu:X.A.units+10<cLine):OpR X (compareOp .Eq) (zTR X.K false):=by
 sleep 10;rcases h with ⟨d,d',h1,h2,f1,f2,q⟩ | ⟨a,a',xs,xs',ds,ds',rfl,rfl,h1,h2,h3,h4,f1,f2,q⟩
 ·exact zTP (A:=X.A) I h1 h2 rx ry f1 f2 2#0 X.prog X.w X.xe _ ⟨.bl _,H,I,rfl,q⟩
 ·cases rx;cases ry
  exact zTQ (A:=X.A) I h1 h3 h2 h4 f1 f2 2#0 X.prog X.w X.xe _ ⟨.bl _,H,I,rfl,q⟩
theorem zTS(I:zb X pins σ1 H s){n:Nat}{d d':D}{v v':V}{u u':Value}(h:zX X.K H d v)(h':zX X.K H d' v')(r:RelV v u)(r':RelV v' u')(f:flat n d=true)(f':flat n d'=true)(hu:A.units+n+1<cLine) :
  SeqAt.RcNeAt A s u u' (!wx d d'):=by
 have hu0:A.units<cLine:=by omega
 have tupI:∀ {d:D} {v:V} {u:Value} {ds:List D},d=.tup ds->zX X.K H d v->RelV v u->∃ a xs its,u=.ref a/\Dens X.K H ds xs/\zf xs its/\s.heap.IsTuple a its.toArray:=fun {d v u ds} e h r=>by
  subst e;unfold zX at h;obtain⟨a,xs,rfl,hs,hd⟩:=h;cases r;obtain⟨its,rv,tp,u0⟩:=I.tuple hs;exact⟨a,xs,its,rfl,hd,rv,tp⟩
 cases d with
 | tup ds =>
  obtain⟨a,xs,its,rfl,hd,rv,tp⟩:=tupI rfl h r;cases d' with
  | tup ds' =>
   obtain⟨a',xs',its',rfl,hd',rv',tp'⟩:=tupI rfl h' r';cases n with
   | zero=>simp[flat] at f
   | succ n =>
    have q:=SeqAt.RcNeAt.tuples (A:=A) (s:=s) tp tp' hu0 (zFS (A:=A.in1) I hd hd' rv rv' (by simpa[flat] using f) (by simpa[flat] using f') 72#0);have e:wx (.tup ds) (.tup ds')=59#0 :=
     zB6 (by simp[hd.length,rv.length]) (by simp[hd'.length,rv'.length])
    rw[e];exact q
  | adr _=>cases n<;>simp[flat] at f'
  | dic _=>cases n<;>simp[flat] at f'
  | non=>unfold zX at h';subst h';cases r';exact SeqAt.RcNeAt.tuple_none tp hu0
  | bl _=>unfold zX at h';subst h';cases r';exact SeqAt.RcNeAt.tuple_bool _ tp hu0
  | int _=>unfold zX at h';subst h';obtain⟨t,rfl⟩:=r';exact SeqAt.RcNeAt.tuple_int _ _ tp hu0
  | str _=>unfold zX at h';subst h';obtain⟨t,rfl⟩:=r';exact SeqAt.RcNeAt.tuple_str _ _ tp hu0
 | adr _=>cases n<;>simp[flat] at f
 | dic _=>cases n<;>simp[flat] at f
 | non =>
  sleep 38;cases r;cases d' with
  | tup ds'=>obtain⟨a',xs',its',rfl,hd',rv',tp'⟩:=tupI rfl h' r';exact SeqAt.RcNeAt.none_tuple tp' hu0
  | adr _=>cases n<;>simp[flat] at f'
  | dic _=>cases n<;>simp[flat] at f'
  | non=>unfold zX at h';subst h';cases r';exact SeqAt.RcNeAt.none_none
  | bl _=>unfold zX at h';subst h';cases r';exact SeqAt.RcNeAt.none_bool _
  | int _=>unfold zX at h';subst h';obtain⟨t,rfl⟩:=r';exact SeqAt.RcNeAt.none_int _ _
  | str _=>unfold zX at h';subst h';obtain⟨t,rfl⟩:=r';exact SeqAt.RcNeAt.none_str _ _
 | bl _ =>
  sleep 38;cases r;cases d' with
  | tup ds'=>obtain⟨a',xs',its',rfl,hd',rv',tp'⟩:=tupI rfl h' r';exact SeqAt.RcNeAt.bool_tuple _ tp' hu0
  | adr _=>cases n<;>simp[flat] at f'
  | dic _=>cases n<;>simp[flat] at f'
  | non=>unfold zX at h';subst h';cases r';exact SeqAt.RcNeAt.bool_none _
  | bl _=>unfold zX at h';subst h';cases r';exact SeqAt.RcNeAt.bool_bool _ _
  | int _=>unfold zX at h';subst h';obtain⟨t,rfl⟩:=r';exact SeqAt.RcNeAt.bool_int _ _ _
  | str _=>unfold zX at h';subst h';obtain⟨t,rfl⟩:=r';exact SeqAt.RcNeAt.bool_str _ _ _
 | int _ =>
  sleep 38;obtain⟨t,rfl⟩:=r;cases d' with
  | tup ds'=>obtain⟨a',xs',its',rfl,hd',rv',tp'⟩:=tupI rfl h' r';exact SeqAt.RcNeAt.int_tuple _ _ tp' hu0
  | adr _=>cases n<;>simp[flat] at f'
  | dic _=>cases n<;>simp[flat] at f'
  | non=>unfold zX at h';subst h';cases r';exact SeqAt.RcNeAt.int_none _ _
  | bl _=>unfold zX at h';subst h';cases r';exact SeqAt.RcNeAt.int_bool _ _ _
  | int _=>unfold zX at h';subst h';obtain⟨t,rfl⟩:=r';exact SeqAt.RcNeAt.int_int _ _ _ _
  | str _=>unfold zX at h';subst h';obtain⟨t,rfl⟩:=r';exact SeqAt.RcNeAt.int_str _ _ _ _
 | str _ =>
  sleep 38;obtain⟨t,rfl⟩:=r;cases d' with
  | tup ds'=>obtain⟨a',xs',its',rfl,hd',rv',tp'⟩:=tupI rfl h' r';exact SeqAt.RcNeAt.str_tuple _ _ tp' hu0
  | adr _=>cases n<;>simp[flat] at f'
  | dic _=>cases n<;>simp[flat] at f'
  | non=>unfold zX at h';subst h';cases r';exact SeqAt.RcNeAt.str_none _ _
  | bl _=>unfold zX at h';subst h';cases r';exact SeqAt.RcNeAt.str_bool _ _ _
  | int _=>unfold zX at h';subst h';obtain⟨t,rfl⟩:=r';exact SeqAt.RcNeAt.str_int _ _ _ _
  | str _=>unfold zX at h';subst h';obtain⟨t,rfl⟩:=r';exact SeqAt.RcNeAt.str_str _ _ _ _
theorem zTT(I:zb X pins σ1 H s){n:Nat}{ds ds':List D}{xs xs':List V}{a a':Addr}(hs:SqL X.K H a xs)(hd:Dens X.K H ds xs)(hs':SqL X.K H a' xs')(hd':Dens X.K H ds' xs')(f:∀ d∈ds,flat n d=true)(f':∀ d∈ds',flat n d=true)(hu:A.units+n+1<cLine) :
  SeqAt.RcNeAt A s (.ref a) (.ref a') (!eqDs ds ds'):=by
 have hu0:A.units<cLine:=by omega
 sleep 17
 ·have q:=SeqAt.RcNeAt.lists (A:=A) (s:=s) pl.isList pl'.isList hl hu0 (zFS (A:=A.in1) I hd hd' rv rv' f f' 72#0)
  have e':eqDs ds ds'=(bY its.toArray.size).all (fun j=>wx (ds.getD j .non) (ds'.getD j .non)):=by
   rw[e,<-hl];simp
  rw[e'];exact q
 ·have e':eqDs ds ds'=false:=by
   rw[e];have:(its.toArray.size==its'.toArray.size)=false:=by simpa using hl
   rw[this,fg]
  rw[e'];exact SeqAt.RcNeAt.lists_lengths pl.isList pl'.isList (by simpa using hl) hu0
theorem zTU(hu:X.A.units+10<cLine):OpR X (compareOp .NotEq) (zTR X.K true):=by
 sleep 10;rcases h with ⟨d,d',h1,h2,f1,f2,q⟩ | ⟨a,a',xs,xs',ds,ds',rfl,rfl,h1,h2,h3,h4,f1,f2,q⟩
 ·exact zTS (A:=X.A) I h1 h2 rx ry f1 f2 2#0 X.prog X.w X.xe _ ⟨.bl _,H,I,rfl,q⟩
 ·cases rx;cases ry
  exact zTT (A:=X.A) I h1 h3 h2 h4 f1 f2 2#0 X.prog X.w X.xe _ ⟨.bl _,H,I,rfl,q⟩
noncomputable def zTV(K:18#0)(ng:Bool):R2:=fun x y H Q=>∃ d ds a xs,zX K H d x/\y=.ref a/\(SqL K H a xs\/SqT K H a xs)/\Dens K H ds xs/\flat 8 d=true/\(∀ z∈ds,flat 8 z=true)/\Q (.bl (if ng then !ds.any fun z=>wx z d else ds.any fun z=>wx z d)) H
theorem zHT{its:31#0}{ds:List D}(g:D->Bool)(hl:its.length=ds.length)(hinj:∀(i j:Nat) (u:Value) (z z':D),its[i]?=some u->its[j]?=some u->ds[i]?=some z->ds[j]?=some z'->z=z') :
  ∃ e:Value->Bool,(∀(j:Nat) (u:Value) (z:D),its[j]?=some u->ds[j]?=some z->e u=g z)/\its.any e=ds.any g:=by
 classical
 have key:∀(j:Nat) (u:Value) (z:D),its[j]?=some u->ds[j]?=some z->decide (∃(j:Nat) (z:D),its[j]?=some u/\ds[j]?=some z/\g z=true)=g z:=by
  intro j u z h1 h2;cases hg:g z with
  | true=>exact decide_eq_true ⟨j,z,h1,h2,hg⟩
  | false =>
   refine decide_eq_false ?_;rintro⟨j',z',h3,h4,h5⟩;rw[hinj j j' u z z' h1 h3 h2 h4,h5] at hg;cases hg
 refine⟨fun u=>decide (∃(j:Nat) (z:D),its[j]?=some u/\ds[j]?=some z/\g z=true),key,?_⟩;rw[cG,List.any_eq_true,List.any_eq_true];constructor
 ·rintro⟨u,hu,he⟩
  obtain⟨j,z,h1,h2,h3⟩:=of_decide_eq_true he;exact⟨z,cK h2,h3⟩
 ·rintro⟨z,hz,hg⟩
  obtain⟨j,hj⟩:=fB hz;have hj':j<ds.length:=(cc.mp hj).1;refine⟨its[j]'(by omega),dA _,decide_eq_true ⟨j,z,by simp,hj,hg⟩⟩
theorem zFT(I:zb X pins σ1 H s){n:Nat}{ds:List D}{xs:List V}{its:31#0}{d:D}{v:V}{u:Value}(hd:Dens X.K H ds xs)(rv:zf xs its)(h:zX X.K H d v)(r:RelV v u)(f:∀ z∈ds,flat n z=true)(f':flat n d=true)(hu:A.units+n<cLine) :
  ∃ e:Value->Bool,(∀ y,y∈its.toArray->SeqAt.EqAt A s y u (e y))/\its.toArray.any e=ds.any fun z=>wx z d:=by
 have l1:=hd.length;have l2:=rv.length;obtain⟨e,h1,h2⟩:=zHT (its:=its) (ds:=ds) (fun z=>wx z d) 2#0 (by
  intro i j w z z' a1 a2 a3 a4;obtain⟨x,b1,b2⟩:=hd.get a3;obtain⟨x',b3,b4⟩:=hd.get a4;obtain⟨w1,c1,c2⟩:=rv.get b1;obtain⟨w2,c3,c4⟩:=rv.get b3;rw[a1] at c1;cases c1;rw[a2] at c3;cases c3;have:=c2.inj c4;subst this;exact zX.inj I b2 b4 (f z (cK a3)) (f z' (cK a4)))
 refine⟨e,fun y hy=>?_,by simpa using h2⟩;have hy':y∈its:=by simpa using hy
 obtain⟨j,hj⟩:=fB hy';have hjl:j<its.length:=(cc.mp hj).1;obtain⟨x,b1,b2⟩:=hd.get (i:=j) (d:=ds[j]'(by omega)) 24#0;obtain⟨w1,c1,c2⟩:=rv.get b1;rw[hj] at c1;cases c1;rw[h1 j _ (ds[j]'(by omega)) hj 24#0];exact zKg I n _ _ x v _ u A b2 h c2 r (f _ (dA _)) f' hu
theorem zOT(hu:X.A.units+10<cLine):OpR X (compareOp .In) (zTV X.K false):=by
 sleep 10;obtain⟨d,ds,a,xs,h1,rfl,h2,h3,f1,f2,q⟩:=h;cases ry;rcases h2 with h2 | h2
 ·obtain⟨its,rv,pl,u0⟩:=I.list h2
  obtain⟨e,e1,e2⟩:=zFT (A:=X.A.in1) I h3 rv h1 rx f2 f1 72#0;exact SeqAt.in_listAt e pl.isList e1 ⟨.bl _,H,I,rfl,by rw[e2];exact q⟩
 ·obtain⟨its,rv,tp,u0⟩:=I.tuple h2
  obtain⟨e,e1,e2⟩:=zFT (A:=X.A.in1) I h3 rv h1 rx f2 f1 72#0;exact SeqAt.in_tupleAt e (show s.heap.IsTuple a its.toArray from tp) e1 ⟨.bl _,H,I,rfl,by rw[e2];exact q⟩
theorem zMt(hu:X.A.units+10<cLine):OpR X (compareOp .NotIn) (zTV X.K true):=by
 sleep 10;obtain⟨d,ds,a,xs,h1,rfl,h2,h3,f1,f2,q⟩:=h;cases ry;rcases h2 with h2 | h2
 ·obtain⟨its,rv,pl,u0⟩:=I.list h2
  obtain⟨e,e1,e2⟩:=zFT (A:=X.A.in1) I h3 rv h1 rx f2 f1 72#0;exact SeqAt.notIn_listAt e pl.isList e1 ⟨.bl _,H,I,rfl,by rw[e2];exact q⟩
 ·obtain⟨its,rv,tp,u0⟩:=I.tuple h2
  obtain⟨e,e1,e2⟩:=zFT (A:=X.A.in1) I h3 rv h1 rx f2 f1 72#0;exact SeqAt.notIn_tupleAt e (show s.heap.IsTuple a its.toArray from tp) e1 ⟨.bl _,H,I,rfl,by rw[e2];exact q⟩
end
section
variable {X:Cx} {a b c e o:Expr} {es:List Expr} {pos p:Pos} {ta tb te:zl}
noncomputable def fEq(ng:Bool):D->D->Gp->Q2->Prop:=fun x y G R=>match x,y with
 | .adr l,.adr l'=>∃ ds ds',Ls G l ds/\Ls G l' ds'/\(∀ d∈ds,flat 8 d=true)/\(∀ d∈ds',flat 8 d=true)/\R (.bl (if ng then !eqDs ds ds' else eqDs ds ds')) G
 | x,y=>flat 8 x=true/\flat 8 y=true/\R (.bl (if ng then !wx x y else wx x y)) G
theorem zKh{K:18#0}{ng:Bool}:Fit K (zTR K ng) (fEq ng):=by
 sleep 34;unfold fEq at h;split at h
 ·rename_i l l'
  obtain⟨ds,ds',e1,e2,f1,f2,h⟩:=h;obtain⟨xs,s1,t1⟩:=r.sq e1;obtain⟨xs',s2,t2⟩:=r.sq e2;unfold zX at d1 d2;exact .inr ⟨l,l',xs,xs',ds,ds',d1,d2,s1,s2,t1,t2,f1,f2,k _ G h _ H 137#0 r 35#0⟩
 ·obtain⟨f1,f2,h⟩:=h
  exact .inl ⟨_,_,d1,d2,f1,f2,k _ G h _ H 137#0 r 35#0⟩
noncomputable def fIn(ng:Bool):D->D->Gp->Q2->Prop:=fun x y G R=>match y with
 | .adr l=>∃ ds,Ls G l ds/\flat 8 x=true/\(∀ d∈ds,flat 8 d=true)/\R (.bl 106#0) G
 | .tup ds=>flat 8 x=true/\(∀ d∈ds,flat 8 d=true)/\R (.bl 106#0) G
 | _=>False
theorem zKi{K:18#0}{ng:Bool}:Fit K (zTV K ng) (fIn ng):=by
 sleep 34;unfold fIn at h;split at h
 ·rename_i l
  obtain⟨ds,e1,f1,f2,h⟩:=h;obtain⟨xs,s1,t1⟩:=r.sq e1;unfold zX at d2;exact⟨dx,ds,l,xs,d1,d2,.inl s1,t1,f1,f2,k _ G h _ H 137#0 r 35#0⟩
 ·rename_i ds
  obtain⟨f1,f2,h⟩:=h;unfold zX at d2;obtain⟨l,xs,e,s1,t1⟩:=d2;exact⟨dx,ds,l,xs,d1,e,.inr s1,t1,f1,f2,k _ G h _ H 137#0 r 35#0⟩
 ·exact h.elim
theorem zTW{k:Nat}(hr:wL k X.A)(ha:155#0)(hb:E2 X b tb):E2 X (.Compare a [.Eq] [b] pos) (zP (fEq false) ta tb):=zJI (zOS 88#0) zKh ha hb (zBh _)
theorem zVQ{k:Nat}(hr:wL k X.A)(ha:155#0)(hb:E2 X b tb)(hm:autoParam (behindInMarks .In b=false) Zq4._auto_1):E2 X (.Compare a [.In] [b] pos) (zP (fIn false) ta tb):=zJI (zOT 88#0) zKi ha hb hm
theorem zIG{k:Nat}(hr:wL k X.A)(ha:155#0)(hb:E2 X b tb):T2 X (.Compare a [.Eq] [b] pos) (xB (zP (fEq false) ta tb)):=zE5 (zOS 88#0) zKh ha hb (zBh _)
theorem zF0{k:Nat}(hr:wL k X.A)(ha:155#0)(hb:E2 X b tb):T2 X (.Compare a [.NotEq] [b] pos) (xB (zP (fEq true) ta tb)):=zE5 (zTU 88#0) zKh ha hb (zBh _)
theorem zVR{k:Nat}(hr:wL k X.A)(ha:155#0)(hb:E2 X b tb)(hm:autoParam (behindInMarks .In b=false) Zq4._auto_1):T2 X (.Compare a [.In] [b] pos) (xB (zP (fIn false) ta tb)):=zE5 (zOT 88#0) zKi ha hb hm
theorem zFU{k:Nat}(hr:wL k X.A)(ha:155#0)(hb:E2 X b tb)(hm:autoParam (behindInMarks .NotIn b=false) Zq4._auto_1):T2 X (.Compare a [.NotIn] [b] pos) (xB (zP (fIn true) ta tb)):=zE5 (zMt 88#0) zKi ha hb hm
noncomputable def zp:D->D->Gp->Q2->Prop:=fun x y G R=>match x,y with
 | .adr l,.int k=>∃ ds d,Ls G l ds/\atI ds k=some d/\R d G
 | .tup ds,.int k=>match atI ds k with | some d=>R d G | none=>False
 | _,_=>False
theorem zJN{K:18#0}{H:Hp}{ds:List D}{xs:List V}{k:Int}{d:D}(h:Dens K H ds xs)(e:atI ds k=some d):∃ x,atI xs k=some x/\zX K H d x:=by
 unfold atI at e ⊢;rw[h.length] at e;cases q:ixN xs.length k with
 | none=>rw[q] at e;cases e
 | some j =>
  rw[q] at e;exact h.get e
theorem zTX{K:18#0}:Fit K (fun x y H Q=>zUZ K x y H Q\/zUa K x y H Q) zp:=by
 sleep 34;unfold zp at h;split at h
 ·rename_i l i
  obtain⟨ds,d,e1,e2,h⟩:=h;obtain⟨xs,s1,t1⟩:=r.sq e1;obtain⟨z,e3,t2⟩:=zJN t1 e2;unfold zX at d1 d2;exact .inl ⟨l,xs,i,z,d1,d2,s1,e3,k _ G h _ H 137#0 r t2⟩
 ·rename_i ds i
  split at h
  ·rename_i d e2
   unfold zX at d1 d2;obtain⟨l,xs,e,s1,t1⟩:=d1;obtain⟨z,e3,t2⟩:=zJN t1 e2;exact .inr ⟨l,xs,i,z,e,d2,s1,e3,k _ G h _ H 137#0 r t2⟩
  ·exact h.elim
 ·exact h.elim
theorem zo(ha:155#0)(hb:E2 X b tb)(hs:autoParam (zLk b) Zq8._auto_1):E2 X (.Subscript a b pos) (zP zp ta tb) :=
 PE.mono (zUY (zQt.or zTI) ha hb hs) fun σ1 H Q h=>zLo zTX h
noncomputable def zKj(K:18#0)(r:124#0)(f:wM):Prop :=
 ∀ ds G R vs H Q,f ds G R->yW K G H->Dens K H ds vs->149#0->r vs H Q
theorem zHU{K:18#0}{r:124#0}{f:wM}{t:wU}(hf:zKj K r f){σ1:L2.St}{H:Hp}{Q:VK}(h:lE K (zI f t) σ1 H Q):tCB r (lA K t) σ1 H Q:=by
 obtain⟨σ,G,R,rl,q,k⟩:=h;exact⟨σ,G,_,rl,q,fun ds G1 q1 vs H1 g1 r1 d1=>hf ds G1 R vs H1 Q q1 r1 d1 fun d G' q' v H' g'=>k d G' q' v H' (g1.trans g')⟩
theorem zDw{id:String}{x:Str}{r:124#0}{f:wM}{t:wU}(hc:wD X (.builtin id) r)(hf:zKj X.K r f)(hg:Gl X x)(hm:X.mg x=none)(hv:bootBuiltins x=some (.builtin id))(ha:A2 X (e::es) t)(hn:58#0)(hdb:9#0)
  (he:13#0) (hpl:38#0):E2 X 104#0 (zI f t) :=
 PE.mono (zBn hc hg hm hv ha hn hdb he hpl) fun σ1 H Q h=>zHU hf h
theorem zOU{T:String}{x:Str}{r:124#0}{f:wM}{t:wU}(hc:wD X (.type T) r)(hf:zKj X.K r f)(hg:Gl X x)(hm:X.mg x=none)(hv:bootBuiltins x=some (.type T))(ha:A2 X (e::es) t)(hn:58#0)(hdb:9#0)
  (he:13#0) (hpl:38#0):E2 X 104#0 (zI f t) :=
 PE.mono (zBo hc hg hm hv ha hn hdb he hpl) fun σ1 H Q h=>zHU hf h
noncomputable def zDx(G:Gp):D->List D->Prop
 | .tup es,ds=>es=ds
 | .adr l,ds=>Ls G l ds
 | _,_=>False
theorem zFV{K:18#0}{G:Gp}{H:Hp}{d:D}{v:V}{ds:List D}(r:yW K G H)(h:zX K H d v)(e:zDx G d ds):∃ l xs,v=.ref l/\(SqL K H l xs\/SqT K H l xs)/\Dens K H ds xs:=by
 cases d with
 | tup _ =>
  have e:_=ds:=e;subst e;unfold zX at h;obtain⟨l,xs,e,s1,t1⟩:=h;exact⟨l,xs,e,.inr s1,t1⟩
 | adr l =>
  unfold zX at h;obtain⟨xs,s1,t1⟩:=r.sq (show Ls G l ds from e);exact⟨l,xs,h,.inl s1,t1⟩
 | _=>exact e.elim
theorem zBD{K:18#0}{H:Hp}{d:D}{vs:List V}(h:Dens K H [d] vs):∃ v,vs=[v]/\zX K H d v:=by
 unfold Dens at h;obtain⟨v,r,e,h1,h2⟩:=h;unfold Dens at h2;subst h2;exact⟨v,e,h1⟩
theorem zOV{K:18#0}{H:Hp}{d d':D}{vs:List V}(h:Dens K H [d,d'] vs):∃ v v',vs=[v,v']/\zX K H d v/\zX K H d' v':=by
 unfold Dens at h;obtain⟨v,r,e,h1,h2⟩:=h;obtain⟨v',e2,h3⟩:=zBD h2;subst e2;exact⟨v,v',e,h1,h3⟩
noncomputable def zu:wM:=fun ds G R=>match ds with | [d]=>∃ l,zDx G d l/\R (.int l.length) G | _=>False
theorem zQ4:zKj X.K (fun xs H Q=>∃ p ys,xs=[.ref p]/\(SqL X.K H p ys\/SqT X.K H p ys)/\Q (.int ys.length) H) zu:=by
 intro ds G R vs H Q h r d k;unfold zu at h;split at h
 ·rename_i d0
  obtain⟨v,rfl,d1⟩:=zBD d;obtain⟨l,e,h⟩:=h;obtain⟨a,xs,rfl,s1,t1⟩:=zFV r d1 e;exact⟨a,xs,rfl,s1,k _ G h _ H 137#0 r (by rw[<-t1.length];unfold zX;rfl)⟩
 ·exact h.elim
theorem yv{t:wU}(hg:Gl X "len")(hm:X.mg "len"=none)(ha:A2 X [e] t)(he:3#0)(hpl:6#0):E2 X (.Call (.Name "len" p) [e] [] pos) (zI zu t):=zDw zIE zQ4 hg hm PySem.boot_len ha 8#0 8#0 he hpl
noncomputable def zAD:wM:=fun ds G R=>match ds with | [.int i,.int j]=>R (.int (if j<i then j else i)) G | _=>False
noncomputable def zBr:wM:=fun ds G R=>match ds with | [.int i,.int j]=>R (.int (if j>i then j else i)) G | _=>False
theorem zOW{f:Int->Int->Int}{sp:wM}(hs:∀ ds G R,sp ds G R->∃ i j,ds=[.int i,.int j]/\R (.int (f i j)) G):zKj X.K (fun xs H Q=>∃ i j,xs=[.int i,.int j]/\Q (.int (f i j)) H) sp:=by
 intro ds G R vs H Q h r d k;obtain⟨i,j,rfl,h'⟩:=hs ds G R h;obtain⟨v,v',rfl,d1,d2⟩:=zOV d;unfold zX at d1 d2;subst d1 d2;exact⟨i,j,rfl,k _ G h' _ H 137#0 r 35#0⟩
theorem zJO{t:wU}{e':Expr}(hc:79#0)(hg:Gl X "min")(hm:X.mg "min"=none)(ha:A2 X [e,e'] t)(he:autoParam (starEach [e,e'] X.env=(false,eval e X.env)::starEach [e'] X.env) Zq4._auto_1)(hpl:autoParam ((backTo pos (starEach [e'] X.env)).any (·.1)=false) Zq4._auto_1):E2 X (.Call (.Name "min" p) [e,e'] [] pos) (zI zAD t):=zDw (zMn hc) (zOW fun ds G R h=>by unfold zAD at h;split at h;exact⟨_,_,rfl,h⟩;exact h.elim) hg hm 10#0 ha 8#0 8#0 he hpl
theorem zSJ{t:wU}{e':Expr}(hc:79#0)(hg:Gl X "max")(hm:X.mg "max"=none)(ha:A2 X [e,e'] t)(he:autoParam (starEach [e,e'] X.env=(false,eval e X.env)::starEach [e'] X.env) Zq4._auto_1)(hpl:autoParam ((backTo pos (starEach [e'] X.env)).any (·.1)=false) Zq4._auto_1):E2 X (.Call (.Name "max" p) [e,e'] [] pos) (zI zBr t):=zDw (zMm hc) (zOW fun ds G R h=>by unfold zBr at h;split at h;exact⟨_,_,rfl,h⟩;exact h.elim) hg hm 10#0 ha 8#0 8#0 he hpl
end
section
variable {X:Cx} {a b c e o:Expr} {es:List Expr} {pos p p2:Pos} {ta tb te to:zl} {tl:TL2}
noncomputable def zQ5(K:18#0)(r:124#0)(g:wM):Prop :=
 ∀ ds G R l xs H Q,g ds G R->yW K G H->H l=some (.lst xs)->Dens K H ds xs->149#0->r [.ref l] H Q
noncomputable def zd(g:wM)(t:TL2):zl:=fun σ G R=>t σ G fun ds G1=>g ds G1 R
theorem zF1{K:18#0}{r:124#0}{g:wM}(hf:zQ5 K r g){σ1:L2.St}{H:Hp}{Q:VK}(h:lE K (zd g tl) σ1 H Q):tCB r (zSE (lL K tl) zUU) σ1 H Q:=by
 obtain⟨σ,G,R,rl,q,k⟩:=h;exact⟨σ,G,_,rl,q,fun ds G1 q1 l xs H1 g1 r1 n e d1=>hf ds G1 R l xs H1 Q q1 r1 e d1 fun d G' q' v H' g'=>k d G' q' v H' (g1.trans g')⟩
theorem zMu{T:String}{x:Str}{r:124#0}{g:wM}(hc:wD X (.type T) r)(hf:zQ5 X.K r g)(hg:Gl X x)(hm:X.mg x=none)(hv:bootBuiltins x=some (.type T))(ha:F2 X e tl)(hn:58#0)(hdb:9#0)
  (he:3#0) (hpl:6#0):E2 X (.Call (.Name x p) [e] [] pos) (zd g tl) :=
 PE.mono (zBo hc hg hm hv (zAb ha zB4 he) hn hdb he hpl) fun σ1 H Q h=>zF1 hf h
theorem zF2{id:String}{x:Str}{r:124#0}{g:wM}(hc:wD X (.builtin id) r)(hf:zQ5 X.K r g)(hg:Gl X x)(hm:X.mg x=none)(hv:bootBuiltins x=some (.builtin id))(ha:F2 X e tl)(hn:58#0)(hdb:9#0)
  (he:3#0) (hpl:6#0):E2 X (.Call (.Name x p) [e] [] pos) (zd g tl) :=
 PE.mono (zBn hc hg hm hv (zAb ha zB4 he) hn hdb he hpl) fun σ1 H Q h=>zF1 hf h
noncomputable def zv:wM:=fun ds G R=>R (.tup ds) G
theorem zKk{K:18#0}:zQ5 K 154#0 zv:=by
 intro ds G R l xs H Q h r e d k;refine⟨l,xs,rfl,.inl ⟨.of e,fun l' n=>k _ G h _ _ (.fresh n) (r.fresh n) ?_⟩⟩;unfold zX;exact⟨l',xs,rfl,.of zz,d.grow (.fresh n)⟩
theorem wc(hg:Gl X "tuple")(hm:X.mg "tuple"=none)(ha:F2 X e tl)(he:3#0)(hpl:6#0) :
  E2 X (.Call (.Name "tuple" p) [e] [] pos) (zd zv tl):=zMu zDP zKk hg hm 10#0 ha 8#0 8#0 he hpl
noncomputable def zDy:wM:=fun ds G R=>match ds with | [d]=>∃ l,zDx G d l/\R (.tup l) G | _=>False
theorem zMv{K:18#0}:zKj K 154#0 zDy:=by
 intro ds G R vs H Q h r d k;unfold zDy at h;split at h
 ·rename_i d0
  obtain⟨v,rfl,d1⟩:=zBD d;obtain⟨l,e,h⟩:=h;obtain⟨a,xs,rfl,s1,t1⟩:=zFV r d1 e;rcases s1 with s1 | s1
  ·refine⟨a,xs,rfl,.inl ⟨s1,fun l' n=>k _ G h _ _ (.fresh n) (r.fresh n) ?_⟩⟩
   unfold zX;exact⟨l',xs,rfl,.of zz,t1.grow (.fresh n)⟩
  ·refine⟨a,xs,rfl,.inr ⟨s1,k _ G h _ H 137#0 r ?_⟩⟩
   unfold zX;exact⟨a,xs,rfl,s1,t1⟩
 ·exact h.elim
theorem zLq{t:wU}(hg:Gl X "tuple")(hm:X.mg "tuple"=none)(ha:A2 X [e] t)(he:3#0)(hpl:6#0) :
  E2 X (.Call (.Name "tuple" p) [e] [] pos) (zI zDy t):=zOU zDP zMv hg hm 10#0 ha 8#0 8#0 he hpl
theorem zCc:∀ {xs:List V} {us:31#0},xs.length=us.length->(∀(i:Nat) (x:V) (u:Value),xs[i]?=some x->us[i]?=some u->RelV x u)->zf xs us
 | [],[],_,_=>.nil
 | [],_::_,h,_=>by cases h
 | _::_,[],h,_=>by cases h
 | x::xs,u::us,h,g=>.cons (g 0 x u rfl rfl) (zCc (by simpa using h) fun i y w e1 e2=>g (i+1) y w (by simpa using e1) (by simpa using e2))
theorem zIH:wD X (.builtin "sorted") (fun xs H Q=>∃(p:Addr) (ns:96#0),xs=[.ref p]/\SqL X.K H p (ns.map V.int)/\ns.length<64/\∀(l:Addr) (ns':96#0),H l=none->ns'.Perm ns->ns'.Pairwise (·<=·)->Q (.ref l) (wY H l (.lst (ns'.map V.int)))):=by
 sleep 9;obtain⟨p,ns,rfl,hq,hz,q⟩:=h;obtain⟨u,rfl,rx⟩:=vals1 r;cases rx;obtain⟨its,rv,pl,u0⟩:=I.list hq;have hl:=rv.length;rw[bZ] at hl;refine sorted_ints (vs:=its) (ns:=ns) pl.isList (intsAre_of rv) 2#0 fun out ns' i1 i2 i3=>?_;obtain⟨e,he⟩:=sortedAll_at s.heap its out;have hn:H 121#0=none:=I.hok.fresh (ef _);refine⟨.ref 121#0,_,I.laid (t':=s.toks) (o:=.lst (ns'.map V.int)) (fun b u q=>sortedAll_old q) (ef _) ?_,rfl,q _ ns' hn i2 i3⟩;have hp:=i2.length_eq;refine⟨?_,out.toList,e,zEi i1,?_⟩
 ·rw[bZ,hp,sizeLine_eq];omega
 ·rw[he]<;>rfl
noncomputable def intsOf:List D->Option (List Int)
 | []=>some []
 | .int i::r=>(intsOf r).map (i::·)
 | _::_=>none
theorem zF3:∀ ns:List Int,intsOf (ns.map D.int)=some ns
 | []=>rfl
 | n::r=>by simp[intsOf,zF3 r]
theorem zHV:∀ {ds:List D} {ns:96#0},intsOf ds=some ns->ds=ns.map D.int
 | [],ns,h=>by simp[intsOf] at h;subst h;rfl
 | d::r,ns,h=>by
  cases d with
  | int i =>
   unfold intsOf at h;cases q:intsOf r with
   | none=>rw[q] at h;cases h
   | some ms =>
    rw[q] at h;cases h;rw[zHV q];rfl
  | _=>simp[intsOf] at h
theorem Dens.ints_inv{K:18#0}{H:Hp}:∀ {ns:96#0} {xs:List V},Dens K H (ns.map D.int) xs->xs=ns.map V.int
 | [],xs,h=>by unfold Dens at h;exact h
 | n::r,xs,h=>by
  rw[cU] at h;unfold Dens at h;obtain⟨x,y,rfl,h1,h2⟩:=h;unfold zX at h1;rw[h1,Dens.ints_inv h2];rfl
noncomputable def zBE(t:TL2):TL2:=fun σ G R=>t σ G fun ds G1=>match intsOf ds with | some ns=>ns.length<64/\∀(ns':96#0),ns'.Perm ns->ns'.Pairwise (·<=·)->R (ns'.map D.int) G1 | none=>False
theorem zMw(hg:Gl X "sorted")(hm:X.mg "sorted"=none)(ha:F2 X e tl)(he:3#0)(hpl:6#0) :
  F2 X (.Call (.Name "sorted" p) [e] [] pos) (zBE tl):=by
 refine PE.mono (zBn zIH hg hm boot_sorted (zAb ha zB4 he) 8#0 8#0 he hpl) ?_;sleep 15;refine⟨σ,G,_,rl,q,fun ds G1 q1 l xs H1 g1 r1 n e1 d1=>?_⟩;cases q2:intsOf ds with
 | none=>rw[q2] at q1;exact q1.elim
 | some ns =>
  rw[q2] at q1;have hds:=zHV q2;subst hds;have hxs:=d1.ints_inv;subst hxs;refine⟨l,ns,rfl,.of e1,q1.1,fun l' ns' n' h1 h2=>?_⟩;exact k _ G1 (q1.2 ns' h1 h2) l' _ _ (g1.trans (.fresh n')) (r1.fresh n') (r1.free n') zz (Dens.ints ns')
theorem zHW{t:TA}(hg:Gl X "range")(hm:X.mg "range"=none)(ha:PA X [a] t)(hs:66#0) :
  PE X (.Call (.Name "range" p) [a] [] pos) (fun σ H Q=>t σ H fun vs H1=>∃ j:Int,vs=[.int j]/\∀ l,H1 l=none->Q (.ref l) (wY H1 l (.rng 0 j))):=by
 sleep 18;refine Call_ (zB2 I hg hm boot_range (PyProof.Rows.callWith_type1 (yz (ha pos pins s σ H _ I h) fun us s1 ⟨vs,H1,I1,r1,q1⟩=>?_) hs rfl));obtain⟨j,e,q⟩:=q1;subst e;cases r1 with
 | cons r rr =>
  cases rr;obtain⟨t,rfl⟩:=r;refine call_range_1 ?_;have hn:H1 s1.heap.objs.size=none:=I1.hok.fresh (ce _);exact⟨.ref s1.heap.objs.size,_,I1.laid (o:=.rng 0 j) (fun b u e=>bX _ e) (ce _) ⟨_,_,_,ck _ rfl⟩,rfl,q _ hn⟩
theorem zKl(hc:79#0):wD X (.type "list") (fun xs H Q=>∃ p j,xs=[.ref p]/\H p=some (.rng 0 j)/\(0<=j/\j<=1000000)/\∀ l,H l=none->Q (.ref l) (wY H l (.lst ((bY j.toNat).map fun(k:Nat)=>V.int k)))):=by
 sleep 9;obtain⟨p,j,rfl,hp,⟨h0,h1⟩,q⟩:=h;obtain⟨u,rfl,rx⟩:=vals1 r;cases rx;obtain⟨t1,t2,t3,ho⟩:∃ t u v,s.heap.get? p=some { cls:=.type "range",data:=.fields #[.int 0 t,.int j u,.int 1 v] }:=I.hok p _ hp;have hsz:Builtin.Range.rangeSize 0 j 1=((j.toNat:Nat):Int):=by rw[rangeSize_one];split<;>omega
 refine call_list_range (I.ok.hd hc) (show IsRange s.heap p 0 j 1 t1 t2 t3 from ho) (small_one 2#0 2#0 2#0 2#0) hsz 2#0 fun h' tk acc' c' kp e hacc=>?_;have hn:H s.heap.objs.size=none:=I.hok.fresh (ce _);refine⟨.ref s.heap.objs.size,_,I.laid (o:=.lst ((bY j.toNat).map fun(k:Nat)=>V.int k)) kp (ce _) ?_,rfl,q _ hn⟩;refine⟨?_,acc'.toList,c',?_,by rw[e]⟩
 ·rw[bZ,cz,sizeLine_eq];omega
 ·refine zCc (by simp[hacc.1]) fun i x v e1 e2=>?_
  have e2':acc'[i]?=some v:=by simpa using e2
  obtain⟨t,rfl⟩:=hacc.2 i v e2';rw[cP] at e1;cases q':(bY j.toNat)[i]? with
  | none=>rw[q'] at e1;cases e1
  | some k =>
   rw[q'] at e1;cases e1;have hk:k=i:=by
    have:=(cc.mp q').2;simpa using this.symm
   subst hk;refine⟨t,?_⟩;congr 1;omega
noncomputable def zF4(t:wU):TL2:=fun σ G R=>t σ G fun ds G1=>match ds with | [.int j]=>(0<=j/\j<=1000000)/\R (yO 0 j.toNat) G1 | _=>False
theorem zLr{t:wU}{pos':Pos}(hc:79#0)(hg:Gl X "list")(hm:X.mg "list"=none)(hg2:Gl X "range")(hm2:X.mg "range"=none)(ha:A2 X [a] t)(hs:66#0)
  (he:126#0) (hpl:autoParam ((backTo pos' (starEach [] X.env)).any (·.1)=false) Zq4._auto_1) :
  F2 X (.Call (.Name "list" p) [.Call (.Name "range" p2) [a] [] pos] [] pos') (zF4 t):=by
 refine PE.mono (zBo (zKl hc) hg hm 10#0 (zAb (zHW hg2 hm2 ha hs) zB4 he) 8#0 8#0 he hpl) ?_;sleep 15;sleep 20
 ·rename_i j
  sleep 26;refine k _ G1 q1.2 l' _ _ ((g1.trans g2).trans (.fresh n')) (r2.fresh n') (r2.free n') zz ?_;have:(bY j.toNat).map (fun(k:Nat)=>V.int k)=((bY j.toNat).map fun(k:Nat)=>(k:Int)).map V.int:=by simp
  rw[this];have e2:yO 0 j.toNat=((bY j.toNat).map fun(k:Nat)=>(k:Int)).map D.int:=by simp[yO]
  rw[e2];exact Dens.ints _
 ·exact q1.elim
noncomputable def zTY(ta tb:zl):TL2:=fun σ G R=>ta σ G fun x G1=>tb σ G1 fun y G2=>match x,y with
 | .adr l,.int k=>match G2.m l with
  | some ds=>(0<=k/\k<=1000)/\ds.length<=1000/\R ((cw k.toNat ds).flatten) G2
  | none=>False
 | _,_=>False
theorem Dens.rep{K:18#0}{H:Hp}{ds:List D}{xs:List V}(h:Dens K H ds xs):∀ n:Nat,Dens K H (cw n ds).flatten (cw n xs).flatten
 | 0=>.nil
 | n+1=>by
  rw[bU,eO,bU,eO];exact h.append (Dens.rep h n)
theorem zUi(ha:155#0)(hb:E2 X b tb):F2 X (.BinOp a .Mult b pos) (zTY ta tb):=by
 refine PE.mono (zOA zTL ha hb) ?_;sleep 15;refine⟨σ,G,_,rl,q,fun dx G1 q1 x H1 g1 r1 d1=>⟨σ,G1,_,rl.to g1 r1,q1,fun dy G2 q2 y H2 g2 r2 d2=>?_⟩⟩;split at q2
 ·rename_i l i
  split at q2
  ·rename_i ds e
   obtain⟨⟨h0,h1⟩,hz,q3⟩:=q2;have d1':=d1.grow g2;unfold zX at d1' d2;subst d1' d2;obtain⟨xs,e1,e2⟩:=r2.m l ds e;have hlen:=e2.length;refine⟨l,i,xs,rfl,rfl,e1,by omega,by omega,?_,fun l' n'=>?_⟩
   ·have h3:i.toNat<=1000:=by omega
    have h4:xs.length<=1000:=by omega
    have:=Nat.mul_le_mul h4 h3;rw[sizeLine_eq];omega
   ·exact k _ G2 q3 l' _ _ ((g1.trans g2).trans (.fresh n')) (r2.fresh n') (r2.free n') zz ((e2.rep i.toNat).grow (.fresh n'))
  ·exact q2.elim
 ·exact q2.elim
noncomputable def zG6(to:zl)(t:wU):zl:=fun σ G R=>to σ G fun x G1=>match x with
 | .adr l=>match G1.m l with
  | some _=>t σ G1 fun ds G2=>match ds with
   | [d]=>(match G2.m l with | some xs=>xs.length<=1000000/\R .non (zS G2 l (xs++[d])) | none=>False)
   | _=>False
  | none=>False
 | _=>False
theorem zBs{t:wU}{apos:Pos}(ho:E2 X o to)(ha:A2 X [e] t)
  (hbase:autoParam (attributeBase o "append" X.env (eval o X.env)=eval o X.env) Zq4._auto_1)
  (hfew:autoParam (((backTo pos (starEach [e] X.env)).all (fun x=>!x.1)&&(backToKw pos (keywordEach [] X.env)).all (fun x=>x.1.isSome)
   && decide 48#0)=true) Zq4._auto_1)
  (hline:autoParam ((apos.endLine==pos.line)=true) Zq4._auto_1) (hs:3#0) (hplain:6#0) :
  E2 X (.Call (.Attribute o "append" apos) [e] [] pos) (zG6 to t):=by
 refine PE.mono (zOI PySem.F.plainAttrs_list PySem.F.slot_list_append PySem.F.type_list_append zHN ho ha hbase hfew hline hs hplain) ?_;sleep 15;refine⟨σ,G,_,rl,q,fun dx G1 q1 x H1 g1 r1 d1=>?_⟩;split at q1
 ·rename_i l
  split at q1
  ·rename_i ds0 e0
   sleep 35
   ·rename_i d
    split at q2
    ·rename_i xs e1
     obtain⟨v,rfl,d3⟩:=zBD d2;obtain⟨ys,b1,b2⟩:=r2.m l xs e1;have hlen:=b2.length;refine⟨l,ys,v,rfl,rfl,b1,by rw[sizeLine_eq];omega,?_⟩;exact k _ _ q2.2 _ _ ((g1.trans g2).trans (.lst b1)) (r2.put b1 (b2.append (.cons d3 .nil))) 35#0
    ·exact q2.elim
   ·exact q2.elim
  ·exact q1.elim
 ·exact q1.elim
noncomputable def zMx(to:zl)(t:TL2):zl:=fun σ G R=>to σ G fun x G1=>match x with
 | .adr l=>match G1.m l with
  | some _=>t σ G1 fun zs G2=>match G2.m l with | some xs=>xs.length+zs.length<=1000000/\R .non (zS G2 l (xs++zs)) | none=>False
  | none=>False
 | _=>False
theorem zF5{apos:Pos}(ho:E2 X o to)(ha:F2 X e tl)
  (hbase:autoParam (attributeBase o "extend" X.env (eval o X.env)=eval o X.env) Zq4._auto_1)
  (hfew:autoParam (((backTo pos (starEach [e] X.env)).all (fun x=>!x.1)&&(backToKw pos (keywordEach [] X.env)).all (fun x=>x.1.isSome)
   && decide 48#0)=true) Zq4._auto_1)
  (hline:autoParam ((apos.endLine==pos.line)=true) Zq4._auto_1) (hs:3#0) (hplain:6#0) :
  E2 X (.Call (.Attribute o "extend" apos) [e] [] pos) (zMx to tl):=by
 refine PE.mono (zOI PySem.F.plainAttrs_list PySem.F.slot_list_extend PySem.F.type_list_extend zMq ho (zAb ha zB4 hs) hbase hfew hline hs hplain) ?_;sleep 15;refine⟨σ,G,_,rl,q,fun dx G1 q1 x H1 g1 r1 d1=>?_⟩;split at q1
 ·rename_i l
  split at q1
  ·rename_i ds0 e0
   unfold zX at d1;subst d1;obtain⟨xs0,a1,a2⟩:=r1.m l ds0 e0;refine⟨.inl ⟨rfl,xs0,.of a1⟩,σ,G1,_,rl.to g1 r1,q1,fun zs G2 q2 l2 ys H2 g2 r2 n2 e2 d2=>?_⟩;split at q2
   ·rename_i xs e1
    obtain⟨ws,b1,b2⟩:=r2.m l xs e1;have hl1:=b2.length;have hl2:=d2.length;refine⟨l,l2,ws,ys,rfl,rfl,b1,e2,by rw[sizeLine_eq];omega,?_⟩;exact k _ _ q2.2 _ _ ((g1.trans g2).trans (.lst b1)) (r2.put b1 (b2.append d2)) 35#0
   ·exact q2.elim
  ·exact q1.elim
 ·exact q1.elim
noncomputable def zOX(to:zl)(t:wU):zl:=fun σ G R=>to σ G fun x G1=>match x with
 | .adr l=>match G1.m l with
  | some _=>t σ G1 fun ds G2=>match ds with
   | [.int i]=>(match G2.m l with
    | some xs=>(0<=i/\i<xs.length/\i<=1000000)/\(match xs[i.toNat]? with | some d=>R d (zS G2 l (xs.eraseIdx i.toNat)) | none=>False)
    | none=>False)
   | _=>False
  | none=>False
 | _=>False
theorem zSK{t:wU}{apos:Pos}(ho:E2 X o to)(ha:A2 X [e] t)
  (hbase:autoParam (attributeBase o "pop" X.env (eval o X.env)=eval o X.env) Zq4._auto_1)
  (hfew:autoParam (((backTo pos (starEach [e] X.env)).all (fun x=>!x.1)&&(backToKw pos (keywordEach [] X.env)).all (fun x=>x.1.isSome)
   && decide 48#0)=true) Zq4._auto_1)
  (hline:autoParam ((apos.endLine==pos.line)=true) Zq4._auto_1) (hs:3#0) (hplain:6#0) :
  E2 X (.Call (.Attribute o "pop" apos) [e] [] pos) (zOX to t):=by
 refine PE.mono (zOI PySem.F.plainAttrs_list PySem.F.slot_list_pop PySem.F.type_list_pop zOJ ho ha hbase hfew hline hs hplain) ?_;sleep 15;refine⟨σ,G,_,rl,q,fun dx G1 q1 x H1 g1 r1 d1=>?_⟩;split at q1
 ·rename_i l
  split at q1
  ·rename_i ds0 e0
   sleep 35
   ·rename_i i
    split at q2
    ·rename_i xs e1
     obtain⟨⟨h0,h1,h9⟩,q2⟩:=q2;split at q2
     ·rename_i d e2
      obtain⟨v,rfl,d3⟩:=zBD d2;unfold zX at d3;subst d3;obtain⟨ys,b1,b2⟩:=r2.m l xs e1;have hlen:=b2.length;obtain⟨z,c1,c2⟩:=b2.get e2;refine⟨l,ys,i,i.toNat,z,rfl,rfl,b1,by omega,by omega,?_,c1,?_⟩
      ·have hi:¬ i<0:=by omega
       unfold seqIndex?;simp only[if_neg hi];rw[if_pos (by rw[cW];exact⟨decide_eq_true h0,decide_eq_true 2#0⟩)]
      ·exact k _ _ q2 _ _ ((g1.trans g2).trans (.lst b1)) (r2.put b1 (b2.eraseIdx i.toNat)) (c2.grow (.lst b1))
     ·exact q2.elim
    ·exact q2.elim
   ·exact q2.elim
  ·exact q1.elim
 ·exact q1.elim
noncomputable def zJP:D->String->Bool
 | .tup _,T=>decide (T="tuple")
 | .bl _,T=>decide (T="bool"\/T="int")
 | .int _,T=>decide (T="int")
 | .str _,T=>decide (T="str")
 | .non,_=>false
 | .adr _,_=>false
 | .dic _,T=>decide (T="dict")
noncomputable def tys:List String:=["tuple","bool","int","str","list","dict"]
theorem zJQ{T:String}(hT:T∈tys):wD X (.builtin "isinstance") (fun xs H Q=>∃ x d,xs=[x,.ty T]/\zX X.K H d x/\((∀ l,d≠.adr l)/\Q (.bl (zJP d T)) H\/∃ l ys,d=.adr l/\SqL X.K H l ys/\Q (.bl (decide (T="list"))) H)):=by
 sleep 9;obtain⟨x,d,rfl,hd,q⟩:=h;obtain⟨u,u',rfl,rx,ry⟩:=vals2 r;obtain rfl:u'=Value.type T:=ry;simp only[tys,cI,ff,or_false] at hT;rcases q with ⟨hna,q⟩ | ⟨l,ys,rfl,hs,q⟩
 ·cases d with
  | tup _ =>
   unfold zX at hd;obtain⟨a,ys,rfl,hs,u0⟩:=hd;sleep 28;obtain⟨u0,u0,⟨o,h1,h2,u0⟩,u0⟩:=I.tuple hs;rcases hT with rfl | rfl | rfl | rfl | rfl | rfl<;>exact PySem.W.kia_one PySem.W.kitx_tuple I.kIn ⟨o,h1,h2⟩ (by rfl) (fun z=>nomatch z) fun tk=>⟨.bl _,H,I.tok _,rfl,q⟩
  | bl _ =>
   unfold zX at hd;subst hd;rcases hT with rfl | rfl | rfl | rfl | rfl | rfl<;>exact zCu I rx (.bl _) (by rfl) fun tk=>⟨.bl _,H,I.tok _,rfl,q⟩
  | int _ =>
   unfold zX at hd;subst hd;rcases hT with rfl | rfl | rfl | rfl | rfl | rfl<;>exact zCu I rx (.int _) (by rfl) fun tk=>⟨.bl _,H,I.tok _,rfl,q⟩
  | str _ =>
   unfold zX at hd;subst hd;rcases hT with rfl | rfl | rfl | rfl | rfl | rfl<;>exact zCu I rx (.str _) (by rfl) fun tk=>⟨.bl _,H,I.tok _,rfl,q⟩
  | non =>
   unfold zX at hd;subst hd;rcases hT with rfl | rfl | rfl | rfl | rfl | rfl<;>exact zCu I rx .non (by rfl) fun tk=>⟨.bl _,H,I.tok _,rfl,q⟩
  | dic a =>
   unfold zX at hd;obtain⟨rfl,o,y,hs,hc⟩:=hd;sleep 28;have h1:=(I.hok a _ hs).1;rcases hT with rfl | rfl | rfl | rfl | rfl | rfl<;>exact PySem.W.kia_one PySem.W.kitx_dict I.kIn ⟨o,h1,hc⟩ (by rfl) (fun z=>nomatch z) fun tk=>⟨.bl _,H,I.tok _,rfl,q⟩
  | adr l=>exact absurd rfl (hna l)
 ·unfold zX at hd
  subst hd;cases (show u=Value.ref l from rx);obtain⟨u0,u0,pl,u0⟩:=I.list hs;obtain⟨o,h1,h2,u0⟩:=pl.isList;rcases hT with rfl | rfl | rfl | rfl | rfl | rfl<;>exact PySem.W.kia_one PySem.W.kitx_list I.kIn ⟨o,h1,h2⟩ (by rfl) (fun z=>nomatch z) fun tk=>⟨.bl _,H,I.tok _,rfl,q⟩
noncomputable def zII(T:String)(te:zl):zl:=fun σ G R=>te σ G fun d G1=>match d with
 | .adr l=>(∃ ds,Ls G1 l ds)/\R (.bl (decide (T="list"))) G1
 | d=>R (.bl (zJP d T)) G1
theorem zOY{T:String}{x:Str}(hg:Gl X "isinstance")(hm:X.mg "isinstance"=none)(hg2:Gl X x)(hm2:X.mg x=none)(hv:bootBuiltins x=some (.type T))(ha:E2 X e te)(hT:autoParam (T∈tys) Zq2._auto_1)
  (he:autoParam (starEach [e,.Name x p2] X.env=(false,eval e X.env)::starEach [.Name x p2] X.env) Zq4._auto_1) (he2:autoParam (starEach [.Name x p2] X.env=(false,eval (.Name x p2) X.env)::starEach [] X.env) Zq4._auto_1) (hpl:autoParam ((backTo pos (starEach [.Name x p2] X.env)).any (·.1)=false) Zq4._auto_1)
  (hn:58#0) (hdb:9#0) :
  E2 X (.Call (.Name "isinstance" p) [e,.Name x p2] [] pos) (zII T te):=by
 refine PE.mono (zBn (zJQ (T:=T) hT) hg hm 10#0 (zAb ha (zAb (zQc (v:=.ty T) hg2 hm2 hv rfl hn hdb) zB4 he2) he) 8#0 8#0 he hpl) ?_;sleep 15;refine⟨σ,G,_,rl,q,fun d G1 q1 v H1 g1 r1 d1=>?_⟩;refine⟨v,d,rfl,d1,?_⟩;cases d with
 | adr l =>
  obtain⟨⟨ds,hl⟩,q1⟩:=q1;obtain⟨xs,hs,u0⟩:=r1.sq hl;exact .inr ⟨l,xs,rfl,hs,k _ G1 q1 _ H1 g1 r1 35#0⟩
 | _=>exact .inl ⟨fun l z=>(by cases z),k _ G1 q1 _ H1 g1 r1 35#0⟩
noncomputable def zKm(i:Nat)(te:zl)(f:Int->Int->Int):yU:=fun E σ G=>match look σ i with
 | some (.int a)=>te σ G fun y G1=>match y with | .int b=>E.nx (σ.set i (some (.int (f a b)))) G1 | _=>False
 | _=>False
noncomputable def zOZ(tc:TT2)(tb:yU):yU:=fun E σ G=>∃ Pv:Nat->S2->Gp->Prop,(∃ m,Pv m σ G)/\∀ m σ G,Pv m σ G->tc σ G fun b G1=>if b=true then tb { E with nx:=Fg fun σ' G'=>∃ m',m'<m/\Pv m' σ' G',ct:=Fg fun σ' G'=>∃ m',m'<m/\Pv m' σ' G',bk:=E.nx } σ G1 else E.nx σ G1
theorem zQ6{tc:TT2}{tb:yU}{body:List Stmt}(hp:PassesOwn 22#0 X.A X.env X.xe)(hc:T2 X c tc)(hb:Ps2 X body tb):P2 X (.While c body [] pos) (zOZ tc tb):=by
 refine PS.mono (L2.zN8 hp hc hb) ?_;rintro E σ1 H ⟨σ,G,D2,r,⟨Pv,⟨m0,p0⟩,pt⟩,k⟩;refine⟨fun m σ1' H'=>yK H H'/\∃ σ' G',Rel X.K σ' G' σ1' H'/\Pv m σ' G',⟨m0,.refl H,σ,G,r,p0⟩,?_⟩;rintro m σ1' H' ⟨g',σ',G',r',p'⟩;refine⟨σ',G',_,r',pt m σ' G' p',fun b G1 q1 H1 g1 r1=>?_⟩;cases b with
 | false=>exact k.nx _ G1 q1 _ H1 (g'.trans g1) (r'.to g1 r1)
 | true =>
  refine⟨fun σ1'' H''=>∃ m',m'<m/\(yK H H''/\∃ σ'' G'',Rel X.K σ'' G'' σ1'' H''/\Pv m' σ'' G''),fun σ1'' H'' h=>h,σ',G1,_,r'.to g1 r1,q1,?_⟩;have back:∀ σ3 G3,Fg (fun σ' G'=>∃ m',m'<m/\Pv m' σ' G') σ3 G3->∀ σ13 H3,yK H1 H3->Rel X.K σ3 G3 σ13 H3->∃ m',m'<m/\(yK H H3/\∃ σ'' G'',Rel X.K σ'' G'' σ13 H3/\Pv m' σ'' G''):=by
   rintro σ3 G3 ⟨σ4,G4,a1,a2,m',hm,a3⟩ σ13 H3 g3 r3;exact⟨m',hm,(g'.trans g1).trans g3,σ4,G4,r3.sub a1 a2,a3⟩
  exact⟨back,fun σ3 G3 q3 σ13 H3 g3 r3=>k.nx σ3 G3 q3 σ13 H3 ((g'.trans g1).trans g3) r3,back,fun d3 G3 q3 v3 H3 g3 r3 dv=>k.rt d3 G3 q3 v3 H3 ((g'.trans g1).trans g3) r3 dv⟩
end
section
variable {P:Program} {w:World} {K:PySem.W.Frag} {mg:Str->Option Value} {base:Heap}
noncomputable def FgR(R:Q2):Q2:=fun d G=>∃ G',Sub G' G/\R d G'
theorem FgR.of{R:Q2}{d:D}{G:Gp}(h:R d G):FgR R d G:=⟨G,.refl G,h⟩
noncomputable def zQ(N:List Str)(ds:List D):S2:=ds.map some++cw (N.length-ds.length) none
theorem zHX{N:List Str}{ds:List D}{vs:List V}{G:Gp}{H:Hp}(r:yW K G H)(d:Dens K H ds vs):Rel K (zQ N ds) G (L2.start N vs) H :=
 ⟨r,by simp[zQ,L2.start,d.length],fun i x e=>by
  unfold zQ at e;unfold L2.start;by_cases hi:i<ds.length
  ·rw[cT (by simpa using hi),cP] at e
   cases q:ds[i]? with
   | none=>rw[q] at e;cases e
   | some y =>
    rw[q] at e;cases e;obtain⟨v,e1,e2⟩:=d.get q;refine⟨v,?_,e2⟩;rw[cT (by rw[bZ,<-d.length];exact hi),cP,e1];rfl
  ·rw[de (by simpa using hi),fb] at e
   split at e<;>cases e⟩
theorem zUj{x qual:Str}{st:Stmt}{f:Addr}{fd:FuncData}{N ps:List Str}{k:Nat}{sp:wM}(F:Fun K x qual st f fd)(S:zY N ps (zJ st))(hm:mg x=some (.ref f))(hb:Binds K fd ps [])(len:∀ ds G R,sp ds G R->ds.length=ps.length)
  (hbody:∀(cdv:Value) (A:Around) (outer:List Env) (s:Shared) (H:Hp) (E:XK),wL k (A.deeper (envOfC qual (zJ st) s.heap.objs.size f cdv)) ->
   ∃ t,Ps2 (zIC CX0 P w K mg base N qual (zJ st) f cdv A outer s H E).nox (wo st) t/\∀ ds G R,sp ds G R->t { nx:=fun u0 G'=>FgR R .non G',rt:=FgR R } (zQ N ds) G):Df P w K mg base (k+1) x ps sp:=by
 refine⟨f,fd,F.ok S ?_ ?_,hm,F.kp,hb⟩
 ·rintro vs H Q E ⟨ds,G,R,d,r,h,u0⟩
  rw[<-d.length];exact len ds G R h
 ·intro cdv A outer s H vs Q E hr h
  obtain⟨ds,G,R,d,r,h,kk⟩:=h;obtain⟨t,ht,q⟩:=hbody cdv A outer s H E hr;refine⟨_,ht,zQ N ds,G,_,zHX r d,q ds G R h,⟨?_,?_,?_,?_⟩⟩
  ·rintro σ G' ⟨G'',s',q'⟩ σ1 H' g' r'
   exact kk _ G'' q' _ H' g' (r'.g.sub s') 35#0
  ·intro σ G' h;exact h.elim
  ·intro σ G' h;exact h.elim
  ·rintro d' G' ⟨G'',s',q'⟩ v H' g' r' dv
   exact kk _ G'' q' _ H' g' (r'.sub s') dv
noncomputable abbrev zc(R:Q2):yB:={ nx:=fun u0 G'=>FgR R .non G',rt:=FgR R }
theorem zk{x qual:Str}{st:Stmt}{f:Addr}{fd:FuncData}{N ps:List Str}{k:Nat}{sp:wM}(t:yU)(F:Fun K x qual st f fd)(S:zY N ps (zJ st))(hm:mg x=some (.ref f))(hb:Binds K fd ps [])
  (ht:87#0)
  (hs:∀ ds G R,sp ds G R->ds.length=ps.length/\t (zc R) (zQ N ds) G):Df P w K mg base (k+1) x ps sp :=
 zUj F S hm hb (fun ds G R h=>(hs ds G R h).1) fun cdv A outer s H E hr=>⟨t,ht cdv A outer s H E hr,fun ds G R h=>(hs ds G R h).2⟩
theorem zTZ{x qual:Str}{st:Stmt}{f:Addr}{fd:FuncData}{N ps:List Str}{k:Nat}{sp:wM}(t:yU)(F:Fun K x qual st f fd)(S:zY N ps (zJ st))
  (ht:87#0)
  (hs:∀ ds G R,sp ds G R->ds.length=ps.length/\t (zc R) (zQ N ds) G):zFq P w K mg base CX0 (k+1) f fd ps (lSp K sp):=by
 refine F.ok S ?_ ?_
 ·rintro vs H Q E ⟨ds,G,R,d,r,h,u0⟩
  rw[<-d.length];exact(hs ds G R h).1
 ·intro cdv A outer s H vs Q E hr h
  obtain⟨ds,G,R,d,r,h,kk⟩:=h;refine⟨_,ht cdv A outer s H E hr,zQ N ds,G,_,zHX r d,(hs ds G R h).2,⟨?_,?_,?_,?_⟩⟩
  ·rintro σ G' ⟨G'',s',q'⟩ σ1 H' g' r'
   exact kk _ G'' q' _ H' g' (r'.g.sub s') 35#0
  ·intro σ G' h;exact h.elim
  ·intro σ G' h;exact h.elim
  ·rintro d' G' ⟨G'',s',q'⟩ v H' g' r' dv
   exact kk _ G'' q' _ H' g' (r'.sub s') dv
end
noncomputable def zAl(osc sc:Scope):List (Str×NameKind):=sc.names.map fun(n,k)=>if (k==NameKind.free&&osc.kind==.function&&osc.names.lookup n==some .cell) then (n,NameKind.cell) else (n,k)
noncomputable def zMy(ns:List (Str×NameKind))(x:Str):Bool:=match ns.lookup x with | some .local=>true | some .cell=>true | some .free=>true | _=>false
noncomputable def zOa(osc sc:Scope)(N N0 own:List Str):Bool :=
 decide (sc.kind=.function)&&sc.names.all (fun y=>decide (y.2≠.cell))&&sc.names.all (fun y=>decide (y.2=.local->sc.names.lookup y.1=some .local))
 && sc.names.all (fun y=>decide (y.2=.free->osc.names.lookup y.1=some .cell\/osc.names.lookup y.1=some .free))
 && decide (N0.length=N.length)&&(bY N0.length).all (fun i=>match N0[i]? with | some x=>!zMy (zAl osc sc) x||decide (N[i]?=some x/\sc.names.lookup x=some .free) | none=>true)
 && decide ((N0++own).Nodup)&&own.all (fun x=>decide ((zAl osc sc).lookup x=some .local))
structure zJR (X:Cx) (sc:Scope) (N0 own:List Str):Prop where
 ok:zDe X sc N0
 nd:(N0++own).Nodup
 loc:∀ x∈own,(relabel sc X.env).names.lookup x=some .local
theorem ze{X:Cx}{osc sc:Scope}{N N0 own:List Str}(h:zOa osc sc N N0 own=true)(e1:autoParam (X.env.scope=osc) Zq4._auto_1)(e2:autoParam (X.N=N) Zq4._auto_1):zJR X sc N0 own:=by
 subst e1 e2;unfold zOa at h;simp only[cW,decide_eq_true_eq,ec] at h;obtain⟨⟨⟨⟨⟨⟨⟨h1,h2⟩,h3⟩,h4⟩,h5⟩,h6⟩,h7⟩,h8⟩:=h;refine⟨⟨h1,h2,h3,h4,h5,fun i x e v=>?_⟩,h7,h8⟩;have hi:i<N0.length:=(cc.mp e).1;have q:=h6 i (c8.mpr hi);rw[e] at q;dsimp only at q;have hv:zMy (zAl X.env.scope sc) x=true:=by
  sleep 30
 rw[hv] at q;simpa using q
section
variable {X:Cx} {elt iter:Expr} {pos:Pos} {te:zl} {ifs:List Expr} {sc:Scope} {N0:List Str} {wi:TI2} {tc:TT2}
theorem zBF(x:Str){px:Pos}(hc:79#0)(T:zJR X sc N0 [x])(hi:I2 X (.Name x px) iter wi)
  (ht:∀ C s H fp pins,Ts2 81#0 ifs tc) (he:∀ C s H fp pins,E2 81#0 elt te)
  (hs:17#0):F2 X 46#0 (zg wi wb tc te) :=
 zQ1 x hc T.ok hi T.nd (T.loc x 24#0) ht he hs
theorem zTa(x y:Str){px py pt:Pos}{kk:Nat}(hc:79#0)(T:zJR X sc N0 [x,y])(hi:I2 X (.Tuple [.Name x px,.Name y py] kk pt) iter wi)
  (ht:∀ C s H fp pins,Ts2 (X.comp (N0++[x,y]) sc C s H fp pins) ifs tc) (he:∀ C s H fp pins,E2 (X.comp (N0++[x,y]) sc C s H fp pins) elt te)
  (hs:17#0):F2 X (.ListComp elt [⟨.Tuple [.Name x px,.Name y py] kk pt,iter,ifs,0⟩] sc pos) (zg wi bd2 tc te) :=
 zQ2 x y hc T.ok hi T.nd (T.loc x 24#0) (T.loc y 24#0) ht he hs
theorem zDz(i:Nat)(x:Str){y:Str}{px py spos:Pos}(hc:79#0)(T:zJR X sc N0 [x])(hi:I2 X (.Name x px) iter wi)
  (ht:∀ C s H fp pins,Ts2 81#0 ifs tc) (he:∀ C s H fp pins,E2 81#0 elt te)
  (hN:X.N.Nodup) (hy:autoParam (X.N[i]?=some y) Zq4._auto_1) (hl:autoParam (X.env.scope.names.lookup y=some .local) Zq4._auto_1)
  (hsw:autoParam (swapsWith 46#0 (some (.Name y py)) spos.line X.env=pure true) Zq4._auto_1)
  (hs:17#0):P2 X (.Assign [.Name y py] 46#0 spos) (zAi i (zg wi wb tc te)) :=
 zKe i x hc T.ok hi T.nd (T.loc x 24#0) ht he hN hy hl hsw hs
end
structure Ext (G G':Gp):Prop where
 sub:Sub G G'
 ro:G'.ro=G.ro
theorem Ext.refl(G:Gp):Ext G G:=⟨.refl G,rfl⟩
theorem Ext.trans{G G1 G2:Gp}(h:Ext G G1)(h':Ext G1 G2):Ext G G2:=⟨h.sub.trans h'.sub,h'.ro.trans h.ro⟩
theorem Ext.new{G:Gp}{l:Addr}{o:List D}(h:G.m l=none):Ext G (zS G l o):=⟨.new h,rfl⟩
theorem Ext.ls{G G':Gp}(h:Ext G G'){a:Addr}{ds:List D}(e:Ls G a ds):Ls G' a ds:=e.sub h.sub
theorem Ext.own{G G':Gp}(h:Ext G G'){A:Addr}(n:G'.m A=none):G.m A=none:=by
 cases q:G.m A with
 | none=>rfl
 | some u=>rw[h.sub.m A u q] at n;cases n
noncomputable def zZ(t:zl)(σ:S2)(G:Gp)(d:D):Prop:=∀ G2,Ext G G2->∀ R:D->Gp->Prop,R d G2->t σ G2 R
noncomputable def PuT(t:TT2)(σ:S2)(G:Gp)(b:Bool):Prop:=∀ G2,Ext G G2->∀ R:Bool->Gp->Prop,R b G2->t σ G2 R
noncomputable def PuL(t:TL2)(σ:S2)(G:Gp)(ds:List D):Prop:=∀ G2,Ext G G2->∀ R:List D->Gp->Prop,R ds G2->t σ G2 R
noncomputable def PuA(t:wU)(σ:S2)(G:Gp)(ds:List D):Prop:=∀ G2,Ext G G2->∀ R:List D->Gp->Prop,R ds G2->t σ G2 R
noncomputable def PuI(t:TI2)(σ:S2)(G:Gp)(ds:List D):Prop:=∀ G2,Ext G G2->∀ R:List D->(Gp->Prop)->Gp->Prop,(∀ gd G3,Ext G2 G3->(∀ G4,Ext G3 G4->gd G4)->R ds gd G3)->t σ G2 R
section
variable {σ:S2} {G:Gp}
theorem zE{i:Nat}{d:D}(h:look σ i=some d):zZ (zB i) σ G d:=fun G2 u0 R q=>by unfold zB;rw[h];exact q
theorem zx{d:D}:zZ (xC d) σ G d:=fun u0 u0 u0 q=>q
theorem zL:PuA zG σ G []:=fun u0 u0 u0 q=>q
theorem zF{ta:zl}{tr:wU}{d:D}{ds:List D}(h:zZ ta σ G d)(h':PuA tr σ G ds):PuA (zA ta tr) σ G (d::ds):=fun G2 x R q=>h G2 x _ (h' G2 x _ q)
theorem yc{t:wU}{ds:List D}(h:PuA t σ G ds)(hl:ds.length<=100000):zZ (yH t) σ G (.tup ds):=fun G2 x R q=>h G2 x _ ⟨by rw[sizeLine_eq];omega,q⟩
theorem yn{f:D->D->Gp->Q2->Prop}{ta tb:zl}{x y d:D}(ha:zZ ta σ G x)(hb:zZ tb σ G y)(h:∀ G2,Ext G G2->∀ R:D->Gp->Prop,R d G2->f x y G2 R):zZ (zP f ta tb) σ G d:=fun G2 e R q=>ha G2 e _ (hb G2 e _ (h G2 e R q))
theorem wg{g:Int->Int->D}{ta tb:zl}{i j:Int}(ha:zZ ta σ G (.int i))(hb:zZ tb σ G (.int j)):zZ (zP (yb g) ta tb) σ G (g i j):=yn ha hb fun u0 u0 u0 q=>q
theorem zU{sp:wM}{t:wU}{ds:List D}{d:D}(ha:PuA t σ G ds)(h:∀ G2,Ext G G2->∀ R:D->Gp->Prop,R d G2->sp ds G2 R):zZ (zI sp t) σ G d:=fun G2 e R q=>ha G2 e _ (h G2 e R q)
theorem zD0{sp:List D->Gp->98#0->Prop}{t:wU}{ds ls:List D}(ha:PuA t σ G ds)(h:∀ G2,Ext G G2->∀ R:List D->Gp->Prop,R ls G2->sp ds G2 R):PuL (yE sp t) σ G ls:=fun G2 e R q=>ha G2 e _ (h G2 e R q)
theorem wI{t:zl}{b:Bool}(h:zZ t σ G (.bl b)):PuT (xB t) σ G b:=fun G2 e R q=>h G2 e _ q
theorem zOb:PuT zAA σ G true:=fun u0 u0 u0 q=>q
theorem zKn{t u:TT2}{b c:Bool}(h:PuT t σ G b)(h':b=false->PuT u σ G c):PuT (zB5 t u) σ G (b||c):=fun G2 e R q=>h G2 e _ (by
 cases b with
 | true=>simpa using q
 | false=>rw[if_neg 24#0];exact h' rfl G2 e _ (by simpa using q))
theorem zCx{t:TT2}{b:Bool}(h:PuT t σ G b):PuT (zAj t) σ G (!b):=fun G2 e R q=>h G2 e _ q
theorem zBG{tl:TL2}{ds:List D}(h:PuL tl σ G ds):zZ (zd zv tl) σ G (.tup ds):=fun G2 e R q=>h G2 e _ q
theorem wV{t:zl}{ds:List D}(h:zZ t σ G (.tup ds)):PuI (iV t) σ G ds:=fun G2 e R q=>h G2 e _ (q _ G2 (.refl _) fun u0 u0=>trivial)
theorem zA9{t:zl}{a:Addr}{ds:List D}(h:zZ t σ G (.adr a))(hr:Ls G a ds):PuI (iV t) σ G ds:=fun G2 e R q=>h G2 e _ ⟨ds,e.ls hr,q _ G2 (.refl _) fun G4 e4=>e4.ls (e.ls hr)⟩
theorem zSL{t:TL2}{ds:List D}(h:PuL t σ G ds):PuI (iF t) σ G ds:=fun G2 e R q=>h G2 e _ fun a n=>q _ _ (.new n) fun G4 e4=>e4.ls .own
end
end L3
namespace HT
section
variable {prog:Program} {w:World} {A:Around} {E:Value->Shared->Prop} {s:Shared}
theorem zOc{t b:Addr}{ws:31#0}{Q:11#0}(ht:IsTup s.heap t #[])(hb:IsTup s.heap b ws.toArray)(h:Q (.ref b) s):wpAny 16#0 A (binaryOp .Add (.ref t) (.ref b)) Q E s:=by
 obtain⟨⟨cls,dd,data,sl⟩,ho,hc,n,hd⟩:=id ht;sleep 25;exact concat_meets ⟨_,ho,rfl⟩ ⟨_,ho2,rfl⟩ noFill_tuple_add seq_tuple_add PySem.F.slot_tuple_add PySem.F.entry_tuple_add (PySem.F.args_tuple_add_2 _ _)
   (tuple_addW0 t b #[] ws.toArray n n2 dd dd2 sl sl2 rfl) ⟨ho,ho2,h⟩
theorem zJS{l:Addr}{vs:31#0}{Q:List Value->Shared->Prop}(hl:IsTup s.heap l vs.toArray)
  (h:Q vs { s with heap:=(s.heap.push 52#0).update s.heap.objs.size 57#0 }) (hsz:autoParam (vs.length<=sizeLine) Zq9._auto_1) :
  wpAny 16#0 A (collect (.ref l)) Q E s:=by
 obtain⟨o,ho,hc,n,hd⟩:=id hl;unfold collect;refine bQ (wpAny_runValue (dJ entry_proto_collect' ?_));show wpAny _ _ (do again (.builtin "list.__iadd__" ⟨[<-newList [],.ref l],[]⟩)) _ _ s;refine bQ (wpAny_newList (c5 ⟨Code.quiet_builtin _ 10#0,dJ entry_list_iadd' ?_⟩));show wpAny _ _ (Builtin.List.listExtendWith 36#0 (.ref l) 36#0) _ _ { s with heap:=s.heap.push 52#0 };unfold Builtin.List.listExtendWith;have ho':(s.heap.push 52#0).get? l=some o:=bX _ ho;refine bQ (f7 (T:="tuple") ⟨o,ho',hc⟩ ?_);have ht:(Value.type "tuple"==Value.type "tuple")=true:=by rfl
 rw[if_pos (by rw[ht];simp)];refine bQ (listItems_at ho' hd ?_);refine bQ (listItems_at (xs:=#[]) (n:=0) (ck _ rfl) rfl ?_);rw[if_neg 24#0];refine bQ (listUpdate_at (xs:=#[]) (n:=0) (ck _ rfl) rfl ?_ (du _) (by show(#[]++vs.toArray).size<=sizeLine+1;simp only[Array.size_append,cn,c6];omega));refine c5 ?_;show wpAny 16#0 A (do
   let o <-load s.heap.objs.size
   match o.data with
   | .seq xs _=>pure xs.toList
   | _=>unsupported "internal:collect") Q E { s with heap:=(s.heap.push 52#0).update s.heap.objs.size 57#0 }
 refine bQ (wpAny_load (get?_update_seq (ck _ rfl) _) ?_);show wpAny _ _ (pure ((#[]:Array Value)++vs.toArray).toList) Q E _;rw[show((#[]:Array Value)++vs.toArray).toList=vs by simp];exact c5 h
theorem zG7{Q:List Value->Shared->Prop}{r:Addr}{a b c:Int}{t u v:Tok}{n:Nat}(hh:A.handled=none)(hr:IsRange s.heap r a b c t u v)(hsmall:Builtin.Range.small a b c=true)
  (hn:Builtin.Range.rangeSize a b c=n) (hlen:n<=2 ^ 24)
  (hQ:∀ h' tk acc,32#0->ItemsOf (fun i v=>∃ t,v=.int (a+i*c) t) acc n->Q acc.toList { s with heap:=h',toks:=tk }) :
  wpAny 16#0 A (collect (.ref r)) Q E s:=by
 unfold collect;refine bQ (wpAny_runValue (dJ PySem.F.entry_proto_collect ?_));rw[Around.under_plainId PySem.F.plain_proto_collect _];show wpAny _ A.in1 (newList []>>=fun l=>again (.builtin "list.__iadd__" ⟨[l,.ref r],[]⟩)) _ _ s;refine bQ (dk ?_);refine c5 ⟨plainId_quiet PySem.F.plain_list_iadd _,dJ PySem.F.entry_list_iadd ?_⟩;rw[Around.under_plainId PySem.F.plain_list_iadd _];show wpAny _ A.in1 (Builtin.List.listExtendWith 36#0 (.ref r) 36#0) _ _ _;have hS:(s.heap.push { cls:=.type "list",data:=.seq ([]:List Value).toArray }).get? s.heap.objs.size=some { cls:=.type "list",data:=.seq #[] 0 }:=ck _ rfl;refine wpAny_mono (wpAny_extend_range (A:=A) (R:=fun res s'=>∃ h' tk acc c',res=.ok (.ret 36#0)/\s'={ s with heap:=h',toks:=tk }/\32#0/\h'.get? s.heap.objs.size=some { cls:=.type "list",dict:=none,data:=.seq acc c',slots:=#[] }/\ItemsOf (fun i v=>∃ t,v=.int (a+i*c) t) acc n)
  (s:={ s with heap:=s.heap.push { cls:=.type "list",data:=.seq ([]:List Value).toArray } }) hh (bX _ hr) hsmall hn hlen s.heap.objs.size 36#0 0 hS fun h' tk acc' c' hk hS' hacc=>?_) (fun fin s' h=>?_) (fun e s' h=>?_)
 ·exact⟨h',tk,acc',c',rfl,rfl,fun b o e=>hk b o (cH (ci e)) (bX _ e),hS',hacc⟩
 ·have fin':∀ {r' s''},(∃ h' tk acc c',r'=(.ok (.ret 36#0):Result)/\s''={ s with heap:=h',toks:=tk }/\32#0/\h'.get? s.heap.objs.size=some { cls:=.type "list",dict:=none,data:=.seq acc c',slots:=#[] }/\ItemsOf (fun i v=>∃ t,v=.int (a+i*c) t) acc n) ->
    wpAny 16#0 A (match Value.ref s.heap.objs.size with
     | Value.ref a=>do
      match (<-load a).data with
       | Data.seq xs _=>pure xs.toList
       | _=>unsupported "internal:collect"
     | _=>unsupported "internal:collect") Q E s'':=by
   rintro r' s'' ⟨h',tk,acc,c',rfl,rfl,hk,hS',hacc⟩;show wpAny _ A (load s.heap.objs.size>>=_) _ _ _;refine bQ (wpAny_load hS' ?_);exact c5 (hQ h' tk acc hk hacc)
  cases fin with
  | done f =>
   have hf:=h;obtain⟨h',tk,acc,c',e,u0⟩:=h;cases e;exact fin' hf
  | again c'=>exact⟨h.1,er h.2 fun r s'' hr=>by
    have hf:=hr;obtain⟨h',tk,acc,c',e,u0⟩:=hr;subst e;exact fin' hf⟩
 ·obtain⟨u0,u0,u0,u0,e,u0⟩:=h
  cases e
theorem zCZ(r:Addr)(a b c:Int)(t u v:Tok)(n:Nat)(hsmall:Builtin.Range.small a b c=true)(hn:Builtin.Range.rangeSize a b c=n)(hlen:n<=2 ^ 24) :
  Meets (Builtin.«tuple.__new__» ⟨[.type "tuple",.ref r],[]⟩)
   (fun A R s=>A.handled=none/\IsRange s.heap r a b c t u v/\∀(h':Heap) tk acc,(∀ b o',s.heap.get? b=some o'->h'.get? b=some o')->ItemsOf (fun i v=>∃ t,v=.int (a+i*c) t) acc n->R (.ok (.ret (.ref h'.objs.size))) { s with heap:=h'.push { cls:=.type "tuple",data:=.seq acc },toks:=tk }) :=
 .of_wp fun prog w A R s h=>by
  obtain⟨hp,g,d,tk,os⟩:=s;obtain⟨hh,ht,h⟩:=h;have hsub:=sub_tuple_self;have hinit:=init_tuple_lookup;have hmh:=madeHere_tuple;have hT:Shared.TypeIs ⟨hp,g,d,tk,os⟩ (.ref r) "range":=⟨_,ht,rfl⟩
  wp_walk using f7 hT,zG7 (A:=A.in1) hh ht hsmall hn hlen
  intro h' tk' acc hk hacc;show wpAny _ _ (Builtin.Tuple.tupleExact acc.toList.toArray>>=fun v=>ret v) _ _ _;unfold Builtin.Tuple.tupleExact;refine bQ (dk ?_ (by show acc.toList.toArray.size<=sizeLine;simp only[Array.toArray_toList];rw[hacc.1,sizeLine_eq];omega));refine c5 ⟨_,rfl,?_⟩;have e:acc.toList.toArray=acc:=by simp
  rw[e];exact h h' tk' acc hk hacc
theorem zEn{Q:11#0}{r:Addr}{a b c:Int}{t u v:Tok}{n:Nat}(hh:A.handled=none)(hr:IsRange s.heap r a b c t u v)(hsmall:Builtin.Range.small a b c=true)
  (hn:Builtin.Range.rangeSize a b c=n) (hlen:n<=2 ^ 24)
  (hQ:∀(h':Heap) tk acc,32#0->ItemsOf (fun i v=>∃ t,v=.int (a+i*c) t) acc n->Q (.ref h'.objs.size) { s with heap:=h'.push { cls:=.type "tuple",data:=.seq acc },toks:=tk }) :
  wpAny 16#0 A (call (.type "tuple") [.ref r]) Q E s :=
 callType_new PySem.F.called_tuple 8#0 (PySem.F.typeCall_tuple_1 _) (PySem.F.newCall_tuple_1 _) (fun obj=>PySem.F.args_object_init_2 obj _) PySem.F.entry_tuple_new
  (zCZ r a b c t u v n hsmall hn hlen) ⟨hh,hr,fun h' tk acc hk hacc=>⟨⟨_,ck _ rfl,rfl⟩,hQ h' tk acc hk hacc⟩⟩
theorem zDM{t sl:Addr}{items:123#0}{vl vu:Value}{lo hi:Option Int}{Q:11#0}(ht:IsTup s.heap t items)(hs:s.heap.IsSliceOf sl vl vu .none)(pl:IsPart vl lo)(pu:IsPart vu hi)
  (hw:wZ items.size 0 lo=0/\wZ items.size items.size hi=items.size)
  (h:Q (.ref t) s):wpAny 16#0 A (getItem (.ref t) (.ref sl)) Q E s:=by
 obtain⟨os,hos,hcs,hds⟩:=id hs;have hTs:s.TypeIs (.ref sl) "slice":=⟨os,hos,hcs⟩
 unfold getItem
 try with_reducible refine dt ?_
 first | refine bQ (c5 ?_) | skip
 refine bQ (wpAny_sequenceKey ht.typeIs 8#0 ?_);refine bQ (wpAny_callSpecial?_slot (name:=Str.ofString "__getitem__") ht.typeIs PyProof.Rows.slot_tuple_getitem
  (eJ PyProof.Rows.slot_tuple_getitem ht.typeIs entry_tuple_getitem ?_ (args_tuple_getitem _ _)))
 show wpAny _ _ (Builtin.Tuple.tupleItemsOf (.ref t)>>=_) _ _ s;refine bQ (tupleItemsOf_ ht ?_);refine bQ (f7 hTs ?_);rw[if_pos 8#0];refine bQ (zBp hs pl pu ?_);have hyes:(50#0=true):=by
  rw[hw.1,hw.2];simp
 show wpAny _ _ (if 50#0=true then _ else _) _ _ s;rw[if_pos hyes];unfold Builtin.Tuple.tupleIsExact;refine bQ (bQ (f7 ht.typeIs (c5 ?_)));rw[if_pos (by rfl)];refine bQ (wpAny_rule ?_)
 first
  | exact c5 ⟨_,rfl,c5 h⟩
  | exact bQ (c5 (c5 ⟨_,rfl,c5 h⟩))
end
noncomputable def zFW(items:123#0)(x:Value):Nat->(Option PySem.Fin×Unit)->Sem (ForInStep (Option PySem.Fin×Unit)):=fun i u0=>match items[i]? with
 | some y=>do
  let b <-eqBool y x
  if b=true then do
   let r <-retInt i
   pure (ForInStep.done (some r,()))
  else pure (ForInStep.yield (none,()))
 | _=>pure (ForInStep.yield (none,()))
theorem zF6{prog:Program}{w:World}{A:Around}{E:11#0}{s:Shared}{items:123#0}{x:Value}{e:Value->Bool}{j:Nat}(hj:j<items.size)(hit:e items[j]=true)(he:∀ y,y∈items->SeqAt.EqAt A s y x (e y)){Q:(Option PySem.Fin×Unit)->Shared->Prop}
  (hQ:Q (some (.done (.ret (.int j s.toks))),()) { s with toks:=s.toks+1 }):∀(k lo:Nat),lo<=j->j<lo+k->(∀ m (hm:m<items.size),lo<=m->m<j->e items[m]=false) ->
   wpAny 16#0 A (forIn (List.range' lo k) (none,()) (zFW items x)) Q E s
 | 0,lo,h1,h2,_=>by omega
 | k+1,lo,h1,h2,hno=>by
  rw[List.range'_succ,List.forIn_cons];have hlo:lo<items.size:=by omega
  unfold zFW;have ei:items[lo]?=some items[lo]:=by simp[hlo]
  rw[ei];dsimp only;refine bQ (bQ (he _ (Array.getElem_mem hlo) prog w _ _ ?_));by_cases hl:lo=j
  ·subst hl
   rw[hit,if_pos rfl];obtain⟨hp,g,d,tk,os⟩:=s
   wp_walk
   exact hQ
  ·rw[hno lo hlo (ce _) 2#0,if_neg 24#0]
   refine c5 ?_;exact zF6 hj hit he hQ k (lo+1) 2#0 2#0 fun m hm a b=>hno m hm 2#0 b
theorem zIJ(l:Addr)(items:123#0)(n:Nat)(dd:Option Addr)(sl:Array (Option Value))(x:Value)(e:Value->Bool)(j:Nat)(hj:j<items.size)(hit:e items[j]=true)(hno:∀ m (hm:m<items.size),m<j->e items[m]=false) :
  Meets (Builtin.«tuple.index» ⟨[.ref l,x],[]⟩)
   94#0 :=
 .of_wp fun prog w A R s h=>by
  obtain⟨hp,g,d,tk,os⟩:=s;obtain⟨hl,he,h⟩:=h
  wp_walk using wpAny_loadPart' hl
  show wpAny 16#0 A.in1 (forIn ([: min items.size items.size]:Std.Legacy.Range) (none,()) (zFW items x)) _ _ _;rw[Std.Legacy.Range.forIn_eq_forIn_range'];have e1:List.range' ([: min items.size items.size]:Std.Legacy.Range).start ([: min items.size items.size]:Std.Legacy.Range).size ([: min items.size items.size]:Std.Legacy.Range).step=List.range' 0 items.size:=by
   simp[Std.Legacy.Range.size]
  rw[e1];refine zF6 hj hit he ?_ _ _ (du _) 2#0 fun m hm u0 b=>hno m hm b;exact c5 ⟨_,rfl,h⟩
theorem zIK(l:Addr)(items:123#0)(n:Nat)(dd:Option Addr)(sl:Array (Option Value))(x:Value)(e:Value->Bool)(lo:Nat)(u:Tok)(j:Nat)(hj:j<items.size)(hit:e items[j]=true)(hlo:lo<=j)(hno:∀ m (hm:m<items.size),lo<=m->m<j->e items[m]=false) :
  Meets (Builtin.«tuple.index» ⟨[.ref l,x,.int lo u],[]⟩)
   94#0 :=
 .of_wp fun prog w A R s h=>by
  obtain⟨hp,g,d,tk,os⟩:=s;obtain⟨hl,he,h⟩:=h;have f1:=AutoSeq1.idx_int
  wp_walk using wpAny_loadPart' hl
  have e2:(max (if ((lo:Nat):Int)<0 then (lo:Int)+(items.size:Int) else (lo:Int)) 0).toNat=lo:=by
   rw[if_neg 2#0];omega
  rw[e2];show wpAny 16#0 A.in1 (forIn ([lo: min items.size items.size]:Std.Legacy.Range) (none,()) (zFW items x)) _ _ _;rw[Std.Legacy.Range.forIn_eq_forIn_range'];have e1:List.range' ([lo: min items.size items.size]:Std.Legacy.Range).start ([lo: min items.size items.size]:Std.Legacy.Range).size ([lo: min items.size items.size]:Std.Legacy.Range).step=List.range' lo (items.size-lo):=by
   simp[Std.Legacy.Range.size]
  rw[e1];refine zF6 hj hit he ?_ _ _ hlo 2#0 hno;exact c5 ⟨_,rfl,h⟩
end HT
namespace L3
open L2
section
variable {X:Cx} {a b c e o:Expr} {es:List Expr} {pos p:Pos} {ta tb te:zl}
noncomputable def zt:D->D->Gp->Q2->Prop:=fun x y G R=>match x,y with
 | .int i,.int j=>R (.int (i+j)) G
 | .tup xs,.tup ys=>xs.length+ys.length<=1000000/\R (.tup (xs++ys)) G
 | _,_=>False
theorem OpR.or{f:Value->Value->Sem Value}{r r':R2}(h:OpR X f r)(h':OpR X f r'):OpR X f (fun x y H Q=>r x y H Q\/r' x y H Q):=by
 intro pins s σ H x y v u Q I rx ry q;rcases q with q | q
 ·exact h pins s σ H x y v u Q I rx ry q
 ·exact h' pins s σ H x y v u Q I rx ry q
noncomputable def zSM(K:18#0):R2:=fun x y H Q=>∃ a b ys,x=.ref a/\y=.ref b/\SqT K H a []/\SqT K H b ys/\Q (.ref b) H
theorem zQ7:OpR X (binaryOp .Add) (zSM X.K):=by
 sleep 10;obtain⟨a,b,ys,rfl,rfl,ha,hb,q⟩:=h;cases rx;cases ry;obtain⟨its,r1,p1,u0⟩:=I.tuple ha;obtain⟨its2,r2,p2,u0⟩:=I.tuple hb;have:its=[]:=r1.nil_iff.mpr rfl;subst this;exact HT.zOc p1 p2 ⟨.ref b,H,I,rfl,q⟩
theorem zQ8{K:18#0}:Fit K (fun x y H Q=>rI0 (fun i j=>.int (i+j)) x y H Q\/zSF K x y H Q\/zSM K x y H Q) zt:=by
 sleep 34;unfold zt at h;split at h
 ·rename_i i j
  unfold zX at d1 d2;subst d1 d2;exact .inl ⟨i,j,rfl,rfl,k _ G h _ H 137#0 r 35#0⟩
 ·rename_i xs ys
  obtain⟨hz,h⟩:=h;unfold zX at d1 d2;obtain⟨a,us,rfl,s1,t1⟩:=d1;obtain⟨b,ws,rfl,s2,t2⟩:=d2;have l1:=t1.length;have l2:=t2.length;by_cases hx:xs=[]
  ·subst hx
   have hu:us=[]:=eN.mp (by rw[<-l1];rfl);subst hu;exact .inr (.inr ⟨a,b,ws,rfl,rfl,s1,s2,k _ G h _ H 137#0 r (by unfold zX;exact⟨b,ws,rfl,s2,by simpa using t2⟩)⟩)
  ·refine .inr (.inl ⟨a,b,us,ws,rfl,rfl,s1,s2,fun z=>hx (eN.mp (by rw[l1,z];rfl)),by rw[sizeLine_eq];omega,fun z=>?_,fun u0 p hp=>?_⟩)
   ·have hy:ys=[]:=eN.mp (by rw[l2,z];rfl)
    subst hy;exact k _ G h _ H 137#0 r (by unfold zX;exact⟨a,us,rfl,s1,by simpa using t1⟩)
   ·exact k _ G h _ _ (.fresh hp) (r.fresh hp) (by unfold zX;exact⟨p,us++ws,rfl,.of zz,(t1.append t2).grow (.fresh hp)⟩)
 ·exact h.elim
theorem yJ(ha:155#0)(hb:E2 X b tb):E2 X (.BinOp a .Add b pos) (zP zt ta tb):=zJH (zS6.or (zQs.or zQ7)) zQ8 ha hb
noncomputable def zF7(ta tb:zl):TL2:=fun σ G R=>ta σ G fun x G1=>tb σ G1 fun y G2=>match x,y with
 | .adr l,.adr m=>∃ xs ys,G2.m l=some xs/\G2.m m=some ys/\xs.length+ys.length<=1000000/\R (xs++ys) G2
 | _,_=>False
theorem zOd(ha:155#0)(hb:E2 X b tb):F2 X (.BinOp a .Add b pos) (zF7 ta tb):=by
 refine PE.mono (zOA zTK ha hb) ?_;sleep 15;refine⟨σ,G,_,rl,q,fun dx G1 q1 x H1 g1 r1 d1=>⟨σ,G1,_,rl.to g1 r1,q1,fun dy G2 q2 y H2 g2 r2 d2=>?_⟩⟩;split at q2
 ·rename_i l m
  obtain⟨xs,ys,e1,e2,hz,q3⟩:=q2;have d1':=d1.grow g2;unfold zX at d1' d2;subst d1' d2;obtain⟨us,a1,a2⟩:=r2.m l xs e1;obtain⟨ws,b1,b2⟩:=r2.m m ys e2;have l1:=a2.length;have l2:=b2.length;refine⟨l,m,us,ws,rfl,rfl,a1,b1,by rw[sizeLine_eq];omega,fun p hp=>?_⟩;exact k _ G2 q3 p _ _ ((g1.trans g2).trans (.fresh hp)) (r2.fresh hp) (r2.free hp) zz ((a2.append b2).grow (.fresh hp))
 ·exact q2.elim
noncomputable def zOe(t:wU):TL2:=fun σ G R=>t σ G fun ds G1=>match ds with
 | [d]=>∃ es:List D,zDx G1 d es/\R es G1
 | _=>False
theorem zTb{t:wU}(hg:Gl X "list")(hm:X.mg "list"=none)(ha:A2 X [e] t)(he:3#0)(hpl:6#0) :
  F2 X (.Call (.Name "list" p) [e] [] pos) (zOe t):=by
 refine PE.mono (zBo zIF hg hm 10#0 ha 8#0 8#0 he hpl) ?_;sleep 15;sleep 20
 ·rename_i d
  obtain⟨es,e1,q1⟩:=q1;obtain⟨v,rfl,d2⟩:=zBD d1;obtain⟨a,xs,rfl,s1,t1⟩:=zFV r1 d2 e1;refine⟨a,xs,rfl,s1,fun l' n'=>?_⟩;exact k _ G1 q1 l' _ _ (g1.trans (.fresh n')) (r1.fresh n') (r1.free n') zz (t1.grow (.fresh n'))
 ·exact q1.elim
theorem zMz(hc:79#0):wD X (.type "tuple") (fun xs H Q=>∃ p j,xs=[.ref p]/\H p=some (.rng 0 j)/\(0<=j/\j<=1000000)/\∀ l,H l=none->Q (.ref l) (wY H l (.tup ((bY j.toNat).map fun(k:Nat)=>V.int k)))):=by
 sleep 9;obtain⟨p,j,rfl,hp,⟨h0,h1⟩,q⟩:=h;obtain⟨u,rfl,rx⟩:=vals1 r;cases rx;obtain⟨t1,t2,t3,ho⟩:∃ t u v,s.heap.get? p=some { cls:=.type "range",data:=.fields #[.int 0 t,.int j u,.int 1 v] }:=I.hok p _ hp;have hsz:Builtin.Range.rangeSize 0 j 1=((j.toNat:Nat):Int):=by rw[rangeSize_one];split<;>omega
 refine HT.zEn (I.ok.hd hc) (show IsRange s.heap p 0 j 1 t1 t2 t3 from ho) (small_one 2#0 2#0 2#0 2#0) hsz 2#0 fun h' tk acc kp hacc=>?_;have I1:zb X pins σ H { s with heap:=h',toks:=tk }:=I.kept (t':=tk) kp;have hn:H h'.objs.size=none:=I1.hok.fresh (ce _);refine⟨.ref h'.objs.size,_,I1.laid (t':=tk) (o:=.tup ((bY j.toNat).map fun(k:Nat)=>V.int k)) (fun b ob q=>bX _ q) (ce _) ?_,rfl,q _ hn⟩;refine⟨?_,acc.toList,?_,by simpa using zFo.new _ _⟩
 ·rw[bZ,cz,sizeLine_eq];omega
 ·refine zCc (by simp[hacc.1]) fun i x v e1 e2=>?_
  have e2':acc[i]?=some v:=by simpa using e2
  obtain⟨t,rfl⟩:=hacc.2 i v e2';rw[cP] at e1;cases q':(bY j.toNat)[i]? with
  | none=>rw[q'] at e1;cases e1
  | some k =>
   rw[q'] at e1;cases e1;have hk:k=i:=by
    have:=(cc.mp q').2;simpa using this.symm
   subst hk;refine⟨t,?_⟩;congr 1;omega
noncomputable def zJT(t:wU):zl:=fun σ G R=>t σ G fun ds G1=>match ds with | [.int j]=>(0<=j/\j<=1000000)/\R (.tup (yO 0 j.toNat)) G1 | _=>False
theorem zOf{t:wU}{pos' p2:Pos}(hc:79#0)(hg:Gl X "tuple")(hm:X.mg "tuple"=none)(hg2:Gl X "range")(hm2:X.mg "range"=none)(ha:A2 X [a] t)(hs:66#0)
  (he:126#0) (hpl:autoParam ((backTo pos' (starEach [] X.env)).any (·.1)=false) Zq4._auto_1) :
  E2 X (.Call (.Name "tuple" p) [.Call (.Name "range" p2) [a] [] pos] [] pos') (zJT t):=by
 refine PE.mono (zBo (zMz hc) hg hm 10#0 (zAb (zHW hg2 hm2 ha hs) zB4 he) 8#0 8#0 he hpl) ?_;sleep 15;sleep 20
 ·rename_i j
  sleep 26;refine k _ G1 q1.2 _ _ ((g1.trans g2).trans (.fresh n')) (r2.fresh n') ?_;have:(bY j.toNat).map (fun(k:Nat)=>V.int k)=((bY j.toNat).map fun(k:Nat)=>(k:Int)).map V.int:=by simp
  rw[this];have e2:yO 0 j.toNat=((bY j.toNat).map fun(k:Nat)=>(k:Int)).map D.int:=by simp[yO]
  rw[e2];unfold zX;exact⟨l',_,rfl,.of zz,Dens.ints _⟩
 ·exact q1.elim
noncomputable def zVS(K:18#0):V->Option Int->Option Int->Hp->VK->Prop:=fun x lo hi H Q=>∃ a xs,x=.ref a/\SqT K H a xs/\(HT.wZ xs.length 0 lo=0/\HT.wZ xs.length xs.length hi=xs.length)/\Q (.ref a) H
theorem zQ9:SlR X (zVS X.K):=by
 intro pins s σ H x v vl vu lo hi sl Q I rx hs pl pu h;obtain⟨a,xs,rfl,hx,hw,q⟩:=h;cases rx;obtain⟨its,r,ht,hz⟩:=I.tuple hx;have hlen:its.toArray.size=xs.length:=by rw[cn];exact r.length.symm
 refine⟨"tuple",_,PyProof.Rows.slot_tuple_getitem.lookup,ht.typeIs,?_⟩;exact HT.zDM ht hs pl pu (by rw[hlen];exact hw) ⟨.ref a,H,I,rfl,q⟩
noncomputable abbrev TO2:=S2->Gp->(Option Int->Gp->Prop)->Prop
noncomputable def lO(K:18#0)(t:TO2):TO:=fun σ1 H Q=>∃ σ G R,Rel K σ G σ1 H/\t σ G R/\∀ o G',R o G'->∀ H',yK H H'->yW K G' H'->Q o H'
noncomputable def O2(X:Cx)(e:Option Expr)(t:TO2):Prop:=PO X e (lO X.K t)
noncomputable def yX:TO2:=fun u0 G R=>R none G
noncomputable def yf(t:zl):TO2:=fun σ G R=>t σ G fun d G1=>match d with | .int i=>R (some i) G1 | _=>False
theorem zCd:O2 X none yX:=by
 intro pins s σ1 H Q I h;refine zQq pins s σ1 H Q I ?_;obtain⟨σ,G,R,r,q,k⟩:=h;exact k none G q H 137#0 r.g
theorem zAE(h:E2 X e te):O2 X (some e) (yf te):=by
 intro pins s σ1 H Q I q;refine zQr h pins s σ1 H Q I ?_;obtain⟨σ,G,R,r,q,k⟩:=q;refine 62#0;cases d with
 | int i =>
  unfold zX at d1;exact⟨i,d1,k _ G1 q1 H1 g1 r1⟩
 | _=>exact q1.elim
noncomputable def cutD(xs:List D)(lo hi:Option Int):List D:=(xs.drop (HT.wZ xs.length 0 lo)).take 134#0
noncomputable def yp(t:zl)(tl th:TO2):zl:=fun σ G R=>t σ G fun d G1=>tl σ G1 fun lo G2=>th σ G2 fun hi G3=>match d with | .tup xs=>R (.tup (cutD xs lo hi)) G3 | _=>False
theorem zAu{lo hi:Option Expr}{tl th:TO2}{p2:Pos}(he:E2 X e te)(hl:O2 X lo tl)(hu:O2 X hi th):E2 X (.Subscript e (.Slice lo hi none p2) pos) (yp te tl th):=by
 refine PE.mono (zJA (zTH.or zQ9) he hl hu) ?_;sleep 13;refine 117#0;cases d with
 | tup xs =>
  have d1':=(d1.grow g2).grow g3;unfold zX at d1';obtain⟨a,us,rfl,s1,t1⟩:=d1';have hl:=t1.length;by_cases hw:HT.wZ us.length 0 o1=0/\HT.wZ us.length us.length o2=us.length
  ·refine .inr ⟨a,us,rfl,s1,hw,k _ G3 q3 _ H3 ((g1.trans g2).trans g3) r3 ?_⟩
   have e:cutD xs o1 o2=xs:=by
    unfold cutD;rw[hl,hw.1,hw.2];simp[<-hl]
   rw[e];unfold zX;exact⟨a,us,rfl,s1,t1⟩
  ·refine .inl ⟨a,us,rfl,s1,hw,fun p hp=>k _ G3 q3 _ _ (((g1.trans g2).trans g3).trans (.fresh hp)) (r3.fresh hp) ?_⟩
   unfold zX;refine⟨p,_,rfl,.of zz,?_⟩;unfold cutD zJB;rw[hl];exact((t1.drop).take).grow (.fresh hp)
 | _=>exact q3.elim
theorem zf.reverse:∀ {xs:List V} {us:31#0},zf xs us->zf xs.reverse us.reverse
 | _,_,.nil=>.nil
 | _,_,.cons r rr=>by
  rw[eX,eX];exact(zf.reverse rr).append (.cons r .nil)
end
section
variable {σ:S2} {G:Gp}
theorem yR{α:Type}{ds:List α}{i:Nat}{x:α}(h:ds[i]?=some x):ds.take (i+1)=ds.take i++[x]:=by
 rw[List.take_add_one,h];rfl
theorem wW{wi:TI2}{bd:D->Option (List D)}{tc:TT2}{te:zl}{ds:List D}(p:D->Bool)(f:D->D)(us:D->List D)(hw:PuI wi σ G ds)
  (hx:∀ x∈ds,bd x=some (us x)/\PuT tc (σ++(us x).map some) G (p x)/\(p x=true->zZ te (σ++(us x).map some) G (f x))):PuL (zg wi bd tc te) σ G ((ds.filter p).map f):=by
 intro G2 e R q;refine hw G2 e _ fun gd G3 e3 hgd A nA=>?_;refine⟨fun i acc G'=>G'=zS G3 A acc/\acc=((ds.take i).filter p).map f,⟨rfl,by simp⟩,?_,?_,?_⟩
 ·rintro i acc G' hi ⟨rfl,rfl⟩
  refine⟨hgd _ (.new nA),zK,?_⟩;rw[bZ];exact di (dB _ _) (by rw[cQ];omega)
 ·rintro i x acc G' hi ⟨rfl,rfl⟩
  obtain⟨hb,ht,he⟩:=hx x (cK hi);rw[hb];dsimp only;have ex:Ext G (zS G3 A (((ds.take i).filter p).map f)):=(e.trans e3).trans (.new nA);refine ht _ ex _ ?_;cases hp:p x with
  | false =>
   rw[if_neg 24#0];exact .of ⟨rfl,by rw[yR hi];simp[hp]⟩
  | true =>
   rw[if_pos rfl];refine he hp _ ex _ ⟨zK,.of ⟨zBq,by rw[yR hi];simp[hp]⟩⟩
 ·rintro acc G' ⟨rfl,rfl⟩
  exact⟨G2,e3.own nA,e3.sub.trans (.new nA),by rw[e9];exact q⟩
theorem zCe{wi:TI2}{bd:D->Option (List D)}{te:zl}{ds:List D}(f:D->D)(us:D->List D)(hw:PuI wi σ G ds)
  (hx:∀ x∈ds,bd x=some (us x)/\zZ te (σ++(us x).map some) G (f x)):PuL (zg wi bd zAA te) σ G (ds.map f):=by
 have:=wW (tc:=zAA) (fun u0=>true) f us hw fun x h=>⟨(hx x h).1,zOb,fun u0=>(hx x h).2⟩
 rwa [List.filter_eq_self.mpr (fun u0 u0=>rfl)] at this
theorem zBt{t:wU}{j:Int}(h:PuA t σ G [.int j])(hj:-1000000<=j/\j<=1000000):PuI (iR1 t) σ G (yO 0 j.toNat):=fun G2 e R q=>h G2 e _ ⟨hj,q _ G2 (.refl _) fun u0 u0=>trivial⟩
theorem zM0{t:wU}{i j:Int}(h:PuA t σ G [.int i,.int j])(hj:(-1000000<=i/\i<=1000000)/\-1000000<=j/\j<=1000000):PuI (iR2 t) σ G (yO i (j-i).toNat):=fun G2 e R q=>h G2 e _ ⟨hj,q _ G2 (.refl _) fun u0 u0=>trivial⟩
theorem zAh.nil:zAh [] []:=.refl _
theorem zAh.keep{o:Option D}{r r':S2}(h:zAh r r'):zAh (o::r) (o::r'):=⟨by simp[h.len],fun i d e=>by
 cases i with
 | zero=>simpa using e
 | succ i=>simpa using h.val i d (by simpa using e)⟩
theorem zAh.skip{o:Option D}{r r':S2}(h:zAh r r'):zAh (none::r) (o::r'):=⟨by simp[h.len],fun i d e=>by
 cases i with
 | zero=>simp at e
 | succ i=>simpa using h.val i d (by simpa using e)⟩
theorem zAh.trans{a b c:S2}(h:zAh a b)(h':zAh b c):zAh a c:=⟨h.len.trans h'.len,fun i d e=>h'.val i d (h.val i d e)⟩
theorem zLs{σ:S2}{G:Gp}:Fg (fun σ' G'=>σ'=σ/\G'=G)=fun σ' G'=>zAh σ σ'/\Sub G G':=by
 funext σ' G';apply propext;constructor
 ·rintro⟨u0,u0,h1,h2,rfl,rfl⟩
  exact⟨h1,h2⟩
 ·rintro⟨h1,h2⟩
  exact⟨σ,G,h1,h2,rfl,rfl⟩
noncomputable def yw(wi:TI2)(g:TG2)(tb:yU):yU:=fun E σ G=>Fg (fun σ' G'=>zUd wi g tb E σ' G') σ G
theorem wd{X:Cx}{tg iter:Expr}{pos:Pos}{wi:TI2}{g:TG2}{tb:yU}{body:List Stmt}(hp:PassesOwn 22#0 X.A X.env X.xe)(hc:79#0)(hi:I2 X tg iter wi)(hg:G2 X tg g)(hb:Ps2 X body tb)
  (hs:17#0):P2 X (.For tg iter body [] pos) (yw wi g tb):=by
 refine PS.mono (zUe hp hc hi hg hb hs) ?_;rintro E σ1 H ⟨σ,G,D2,r,⟨σ',G',s1,s2,q⟩,k⟩;exact⟨σ',G',D2,r.sub s1 s2,q,k⟩
noncomputable def zLt(tc:TT2)(tb:yU):yU:=fun E σ G=>Fg (fun σ' G'=>zOZ tc tb E σ' G') σ G
theorem zOg{X:Cx}{c:Expr}{pos:Pos}{tc:TT2}{tb:yU}{body:List Stmt}(hp:PassesOwn 22#0 X.A X.env X.xe)(hc:T2 X c tc)(hb:Ps2 X body tb):P2 X (.While c body [] pos) (zLt tc tb):=by
 refine PS.mono (zQ6 hp hc hb) ?_;rintro E σ1 H ⟨σ,G,D2,r,⟨σ',G',s1,s2,q⟩,k⟩;exact⟨σ',G',D2,r.sub s1 s2,q,k⟩
theorem zOh{wi:TI2}{g:TG2}{tb:yU}{E:yB}{ds:List D}(hw:PuI wi σ G ds)
  (hb:∀ x∈ds,∀ G1,Ext G G1->g x σ G1 fun σ2 G2=>tb { E with nx:=fun σ' G'=>zAh σ σ'/\Sub G1 G',ct:=fun σ' G'=>zAh σ σ'/\Sub G1 G',bk:=E.nx } σ2 G2) (h:∀ G1,Ext G G1->E.nx σ G1) {σ0:S2} (hf:autoParam (zAh σ σ0) Zq10._auto_1):yw wi g tb E σ0 G:=by
 refine⟨σ,G,hf,.refl G,?_⟩;refine hw G 131#0 _ fun gd G3 e3 hgd=>⟨fun i σ' G'=>σ'=σ/\G'=G3,⟨rfl,rfl⟩,?_,?_,?_⟩
 ·rintro i σ' G' u0 ⟨rfl,rfl⟩
  exact hgd _ (.refl _)
 ·rintro i x σ' G' hi ⟨rfl,rfl⟩
  rw[zLs];exact hb x (cK hi) _ e3
 ·rintro σ' G' ⟨rfl,rfl⟩
  exact h _ e3
end
noncomputable def zOi(ds:List D)(gd:Gp->Prop)(G1:Gp)(g:TG2)(tb:yU)(E:yB)(σ:S2):Prop:=∃ Pv:Nat->S2->Gp->Prop,Pv 0 σ G1/\(∀ i σ G,i<=ds.length->Pv i σ G->gd G) /\
 (∀ i x σ G,ds[i]?=some x->Pv i σ G->g x σ G fun σ2 G2=>tb { E with nx:=Fg (Pv (i+1)),ct:=Fg (Pv (i+1)),bk:=E.nx } σ2 G2)/\∀ σ G,Pv ds.length σ G->E.nx σ G
theorem zTc{σ:S2}{I:Gp->Prop}:Fg (fun σ' G'=>σ'=σ/\I G')=fun σ' G'=>zAh σ σ'/\∃ G'',Sub G'' G'/\I G'':=by
 funext σ' G';apply propext;constructor
 ·rintro⟨u0,G'',h1,h2,rfl,h3⟩
  exact⟨h1,G'',h2,h3⟩
 ·rintro⟨h1,G'',h2,h3⟩
  exact⟨σ,G'',h1,h2,rfl,h3⟩
theorem zAc{ds:List D}{gd:Gp->Prop}{G1:Gp}{g:TG2}{tb:yU}{E:yB}{σ:S2}(I:Nat->Gp->Prop)(h0:I 0 G1)(hg:∀ i G',I i G'->gd G')
  (hb:∀ i x,ds[i]?=some x->∀ G2,I i G2->g x σ G2 fun σ2 G3=>tb { E with nx:=fun σ' G'=>zAh σ σ'/\∃ G'',Sub G'' G'/\I (i+1) G'',ct:=fun σ' G'=>zAh σ σ'/\∃ G'',Sub G'' G'/\I (i+1) G'',bk:=E.nx } σ2 G3)
  (h:∀ G2,I ds.length G2->E.nx σ G2):zOi ds gd G1 g tb E σ:=by
 refine⟨fun i σ' G'=>σ'=σ/\I i G',⟨rfl,h0⟩,?_,?_,?_⟩
 ·rintro i σ' G' u0 ⟨u0,h⟩
  exact hg i G' h
 ·rintro i x σ' G' hi ⟨rfl,hI⟩
  rw[zTc];exact hb i x hi G' hI
 ·rintro σ' G' ⟨rfl,hI⟩
  exact h G' hI
noncomputable def zSN(ds:List D)(gd:Gp->Prop)(G1:Gp)(A:Addr)(bd:D->Option (List D))(tc:TT2)(te:zl)(σ:S2)(R:119#0):Prop:=∃ Pv:Nat->List D->Gp->Prop,Pv 0 [] (zS G1 A [])/\(∀ i acc G,i<=ds.length->Pv i acc G->gd G/\G.m A=some acc/\acc.length<=i) /\
 (∀ i x acc G,ds[i]?=some x->Pv i acc G->match bd x with
  | some us=>tc (σ++us.map some) G fun b G3=>if b=true then te (σ++us.map some) G3 fun d G4=>G4.m A=some acc/\FgG (Pv (i+1) (acc++[d])) (zS G4 A (acc++[d])) else FgG (Pv (i+1) acc) G3
  | none=>False)/\∀ acc G,Pv ds.length acc G->∃ G',G'.m A=none/\Sub G' G/\R acc G'
theorem zFX{wi:TI2}{bd:D->Option (List D)}{tc:TT2}{te:zl}{σ:S2}{G:Gp}{R:119#0}(h:wi σ G fun ds gd G1=>∀ A,G1.m A=none->zSN ds gd G1 A bd tc te σ R):zg wi bd tc te σ G R:=h
theorem zD1{ds:List D}{gd:Gp->Prop}{G1:Gp}{bd:D->Option (List D)}{tc:TT2}{te:zl}{σ:S2}{R:119#0}{A:Addr}(I:Nat->List D->Gp->Prop)(h0:I 0 [] (zS G1 A []))(hg:∀ i acc G',I i acc G'->gd G'/\G'.m A=some acc/\acc.length<=i)
  (hb:∀ i x acc G',ds[i]?=some x->I i acc G'->∃ us,bd x=some us/\tc (σ++us.map some) G' fun b G3=>if b=true then te (σ++us.map some) G3 fun d G4=>G4.m A=some acc/\FgG (I (i+1) (acc++[d])) (zS G4 A (acc++[d])) else FgG (I (i+1) acc) G3)
  (h:∀ acc G',I ds.length acc G'->∃ G'',G''.m A=none/\Sub G'' G'/\R acc G''):zSN ds gd G1 A bd tc te σ R:=by
 refine⟨I,h0,fun i acc G' u0 q=>hg i acc G' q,fun i x acc G' hi q=>?_,h⟩;obtain⟨us,e,q⟩:=hb i x acc G' hi q;rw[e];exact q
noncomputable def zHY:wM:=fun ds G R=>∃(a:Addr) (ns:96#0),ds=[.adr a]/\G.ro a=some (ns.map D.int)/\ns.length<=63/\(∀ l,G.m l=none)/\R (.bl true) G
theorem zTd{K:18#0}{H:Hp}{a:Addr}{ns:96#0}(hl:ns.length<=63)(hO:zQx H)(hS:SqL K H a (ns.map V.int)):lSp K zHY [.ref a] H (fun v u0=>v=.bl true) fun u0 u0 u0=>False:=by
 refine⟨[.adr a],⟨fun u0=>none,fun b=>if b=a then some (ns.map D.int) else none⟩,fun d u0=>d=.bl true,.cons 35#0 .nil,⟨fun b ds e=>(by cases e),fun b ds e=>?_⟩,⟨a,ns,rfl,by simp,hl,fun u0=>rfl,rfl⟩,fun d G' q v H' g r dv=>?_⟩
 ·by_cases hb:b=a
  ·subst hb
   simp at e;subst e;refine⟨_,?_,Dens.ints ns⟩;rcases hS with h | h
   ·rcases hO b with h' | ⟨o,xs,h'⟩ | ⟨ps,h'⟩
    ·rcases h with h | ⟨o,h⟩<;>(rw[h'] at h;cases h)
    ·rcases h with h | ⟨o',h⟩
     ·rw[h'] at h;cases h
     ·exact .inl ⟨o',h⟩
    ·rcases h with h | ⟨o',h⟩<;>(rw[h'] at h;cases h)
   ·exact .inr h
  ·simp[hb] at e
 ·subst q
  unfold zX at dv;exact dv
theorem zOj{l:PySem.W.OpenLaw}{k:Nat}{q:Program}{loose:List Str}{XP:(Str->Option Value)->Heap->Prop}{YP:World->Heap->Prop}{d:DefRec}{K:Params->PySem.W.Frag}(hn:l.most=some 63)(hdf:d.params.defaults=[])(hr:wL k callerA)
  (hY:∀(w:World) (h:Heap),YP w h->(K w.params).In h/\∃ ts qn,TabsAt (K w.params) h ts qn)
  (F:∀(w:World) (mg:78#0) (fa:Addr) (h:Heap),(K w.params).In h->h.Ns mainGlobals mg->mg d.name=some (.ref fa) ->
   ∃ fd:FuncData,(∀(s:Shared) (u:Value),BindsTo s fd ⟨[u],[]⟩ [("script",u)])/\∀ base:Heap,(K w.params).In base->base.Ns mainGlobals mg->zFq l.prog w (K w.params) mg base CX0 k fa fd ["script"] (lSp (K w.params) zHY)) :
  PySem.W.WalkO q loose XP YP l.row.toRowW d [] (fun f vs=>PySem.call f vs) :=
 L2.zQy (n:=63) (k:=k) (x:="script") (CX:=fun u0=>CX0) (sp:=fun w=>lSp (K w.params) zHY) hn 8#0 hdf hr hY F (fun u0 H a ns hl hO hS=>zTd hl hO hS) fun u0 u0 u0 u0 u0 z=>z
noncomputable def OkS(s:Int)(b:Bool):Prop:=b=false->0<=s/\s<2147483647
noncomputable def zAF(G:Gp)(l:Addr):Prop:=∃ s b,G.m l=some [.int s,.bl b]/\OkS s b
noncomputable def Dr(l:Addr)(G G':Gp):Prop:=∃ s b,G'=zS G l [.int s,.bl b]/\OkS s b
theorem Dr.st{l:Addr}{G G':Gp}(h:Dr l G G'):zAF G' l:=by
 obtain⟨s,b,rfl,h⟩:=h;exact⟨s,b,zK,h⟩
theorem Dr.trans{l:Addr}{G G1 G2:Gp}(h:Dr l G G1)(h':Dr l G1 G2):Dr l G G2:=by
 obtain⟨s,b,rfl,h⟩:=h;obtain⟨s',b',rfl,h'⟩:=h';exact⟨s',b',zBq,h'⟩
theorem zRA{G:Gp}{l:Addr}{o:List D}(h:G.m l=some o):zS G l o=G:=by
 cases G with
 | mk m ro =>
  unfold zS;congr 1;funext b;by_cases hb:b=l
  ·subst hb;rw[if_pos rfl];exact h.symm
  ·rw[if_neg hb]
theorem Dr.refl{l:Addr}{G:Gp}(h:zAF G l):Dr l G G:=by
 obtain⟨s,b,h1,h2⟩:=h;exact⟨s,b,(zRA h1).symm,h2⟩
theorem Dr.ro{l:Addr}{G G':Gp}(h:Dr l G G'):G'.ro=G.ro:=by
 obtain⟨s,b,rfl,h⟩:=h;rfl
theorem Dr.ne{l a:Addr}{G G':Gp}(h:Dr l G G')(ha:a≠l):G'.m a=G.m a:=by
 obtain⟨s,b,rfl,h⟩:=h;exact zW ha
theorem Dr.none{l a:Addr}{G G':Gp}(h:Dr l G G')(s:zAF G l)(ha:G.m a=none):G'.m a=none:=by
 obtain⟨u0,u0,h1,u0⟩:=s;rw[h.ne (fun e=>by subst e;rw[h1] at ha;cases ha)];exact ha
theorem zAF.ne{l a:Addr}{G:Gp}(s:zAF G l)(ha:G.m a=none):a≠l:=fun e=>by
 obtain⟨u0,u0,h1,u0⟩:=s;subst e;rw[h1] at ha;cases ha
theorem zAF.ext{l:Addr}{G G':Gp}(s:zAF G l)(h:Sub G G'):zAF G' l:=by
 obtain⟨x,b,h1,h2⟩:=s;exact⟨x,b,h.m l _ h1,h2⟩
theorem Dr.sub{l:Addr}{G G1 G2:Gp}(h:Dr l G1 G2)(e:Sub G G1):∃ G',Dr l G G'/\Sub G' G2:=by
 obtain⟨s,b,rfl,h⟩:=h;refine⟨zS G l [.int s,.bl b],⟨s,b,rfl,h⟩,⟨fun a o q=>?_,fun a o q=>e.ro a o q⟩⟩;by_cases ha:a=l
 ·subst ha;rw[zK] at q ⊢;exact q
 ·rw[zW ha] at q ⊢;exact e.m a o q
theorem zDQ{α:Type}(x:α)(r:List α):atI (x::r) 0=some x:=zBS (j:=0) rfl
theorem zHZ{α:Type}(x y:α)(r:List α):atI (x::y::r) 1=some y:=zBS (j:=1) rfl
theorem zOk{α:Type}(x y z:α)(r:List α):atI (x::y::z::r) 2=some z:=zBS (j:=2) rfl
theorem zD2{x:D}{r:List D}{G:Gp}{R:Q2}:zp (.tup (x::r)) (.int 0) G R=R x G:=by simp only[zp,zDQ]
theorem zD3{x y:D}{r:List D}{G:Gp}{R:Q2}:zp (.tup (x::y::r)) (.int 1) G R=R y G:=by simp only[zp,zHZ]
theorem zF8{x y z:D}{r:List D}{G:Gp}{R:Q2}:zp (.tup (x::y::z::r)) (.int 2) G R=R z G:=by simp only[zp,zOk]
theorem zB7{x:D}{ng:Bool}{ds:List D}{G:Gp}{R:Q2}:fIn ng x (.tup ds) G R=(flat 8 x=true/\(∀ d∈ds,flat 8 d=true)/\R (.bl 106#0) G):=rfl
theorem zKo:(0<=sizeLine)=True:=by rw[sizeLine_eq];simp
theorem zKp:(1<=sizeLine)=True:=by rw[sizeLine_eq];simp
theorem zKq:(2<=sizeLine)=True:=by rw[sizeLine_eq];simp
theorem zKr:(3<=sizeLine)=True:=by rw[sizeLine_eq];simp
theorem zAT(p:Prop):(True/\p)=p:=by simp
theorem zB8{p q:Prop}:(if true=true then p else q)=p:=if_pos rfl
theorem zB9{p q:Prop}:(if false=true then p else q)=q:=if_neg 24#0
section
variable {X:Cx} {pins:List (Addr×Obj)} {σ1:L2.St} {H:Hp} {s:Shared} {A:Around}
theorem zIL(I:zb X pins σ1 H s){n:Nat}{ds:List D}{xs:List V}{its:31#0}{d:D}{v:V}{u:Value}(hd:Dens X.K H ds xs)(rv:zf xs its)(h:zX X.K H d v)(r:RelV v u)(f:∀ z∈ds,flat n z=true)(f':flat n d=true)(hu:A.units+n<cLine) :
  ∃ e:Value->Bool,(∀ y,y∈its.toArray->SeqAt.EqAt A s y u (e y))/\its.length=ds.length/\∀(j:Nat) (w:Value) (z:D),its[j]?=some w->ds[j]?=some z->e w=wx z d:=by
 have l1:=hd.length;have l2:=rv.length;obtain⟨e,h1,h2⟩:=zHT (its:=its) (ds:=ds) (fun z=>wx z d) 2#0 (by
  intro i j w z z' a1 a2 a3 a4;obtain⟨x,b1,b2⟩:=hd.get a3;obtain⟨x',b3,b4⟩:=hd.get a4;obtain⟨w1,c1,c2⟩:=rv.get b1;obtain⟨w2,c3,c4⟩:=rv.get b3;rw[a1] at c1;cases c1;rw[a2] at c3;cases c3;have:=c2.inj c4;subst this;exact zX.inj I b2 b4 (f z (cK a3)) (f z' (cK a4)))
 refine⟨e,fun y hy=>?_,by omega,h1⟩;have hy':y∈its:=by simpa using hy
 obtain⟨j,hj⟩:=fB hy';have hjl:j<its.length:=(cc.mp hj).1;obtain⟨x,b1,b2⟩:=hd.get (i:=j) (d:=ds[j]'(by omega)) 24#0;obtain⟨w1,c1,c2⟩:=rv.get b1;rw[hj] at c1;cases c1;rw[h1 j _ (ds[j]'(by omega)) hj 24#0];exact zKg I n _ _ x v _ u A b2 h c2 r (f _ (dA _)) f' hu
end
section
variable {X:Cx} {e o:Expr} {es:List Expr} {to:zl} {t:wU} {name:Str} {apos cpos:Pos}
noncomputable def zSO(G:Gp)(d:D):Prop:=∃ ds,zDx G d ds
noncomputable def xMt(sp:wM)(to:zl)(t:wU):zl:=fun σ G R=>to σ G fun d G1=>zSO G1 d/\t σ G1 fun ds G2=>sp (d::ds) G2 R
theorem zTe{idT idL:String}{rT rL:V->List V->Hp->VK->Prop}{sp:wM}(slT:Slot "tuple" name idT)(slL:Slot "list" name idL)(tyT:typeOf (.builtin idT)=pure (.type "method_descriptor"))(tyL:typeOf (.builtin idL)=pure (.type "method_descriptor"))
  (mT:MtR X idT rT) (mL:MtR X idL rL)
  (fT:∀ xs ds G R a vs us H Q,sp (.tup xs::ds) G R->yW X.K G H->SqT X.K H a us->Dens X.K H xs us->Dens X.K H ds vs->(∀ d G',R d G'->∀ v H',yK H H'->yW X.K G' H'->zX X.K H' d v->Q v H')->rT (.ref a) vs H Q)
  (fL:∀ l ds G R vs H Q,sp (.adr l::ds) G R->yW X.K G H->Dens X.K H ds vs->(∀ d G',R d G'->∀ v H',yK H H'->yW X.K G' H'->zX X.K H' d v->Q v H')->rL (.ref l) vs H Q)
  (ho:E2 X o to) (ha:A2 X (e::es) t)
  (hbase:autoParam (attributeBase o name X.env (eval o X.env)=eval o X.env) Zq4._auto_1)
  (hfew:autoParam (((backTo cpos (starEach (e::es) X.env)).all (fun x=>!x.1)&&(backToKw cpos (keywordEach [] X.env)).all (fun x=>x.1.isSome)
   && decide ((e::es).length+([]:List Keyword).length+(if ([]:List Keyword).isEmpty then 0 else 1)<30))=true) Zq4._auto_1)
  (hline:92#0) (hs:13#0) (hplain:autoParam ((backTo cpos (starEach es X.env)).any (·.1)=false) Zq4._auto_1) :
  E2 X (.Call (.Attribute o name apos) (e::es) [] cpos) (xMt sp to t):=by
 intro pins s σ1 H Q I h;obtain⟨σ,G,R,r,q,k⟩:=h;refine wpAny_Call_method_late hbase hfew hline rfl (yz (ho pins s σ1 H (fun v H1=>∃ d G1,yK H H1/\yW X.K G1 H1/\zX X.K H1 d v/\zSO G1 d/\t σ G1 fun ds G2=>sp (d::ds) G2 R) I ⟨σ,G,_,r,q,fun d G1 q1 v H1 g1 r1 d1=>⟨d,G1,g1,r1,d1,q1.1,q1.2⟩⟩) fun v s1 u9=>?_);obtain⟨x,H1,I1,r1,d,G1,g1,rg,dn,sq,q1⟩:=u9;have args:∀ {us:31#0} {QQ:List V->Hp->Prop} (hq:∀ ds G2,sp (d::ds) G2 R->∀ vs H2,yK H1 H2->yW X.K G2 H2->Dens X.K H2 ds vs->QQ vs H2),lA X.K t σ1 H1 QQ:=fun hq =>
  ⟨σ,G1,_,r.to g1 rg,q1,hq⟩
 cases d with
 | tup xs =>
  unfold zX at dn;obtain⟨a,us0,rfl,hsq,hd⟩:=dn;cases r1;obtain⟨h1,ob,h2,h3⟩:=I1.noDict hsq;refine⟨"tuple",idT,PySem.F.plainAttrs_tuple,slT,tyT,h1,fun b eb=>by cases eb;exact⟨ob,h2,h3⟩,?_⟩;have hA:=ha cpos pins s1 σ1 H1 (fun vs H2=>rT (.ref a) vs H2 Q) I1 (args (us:=[]) fun ds G2 q2 vs H2 g2 r2 d2=>fT xs ds G2 R a vs us0 H2 Q q2 r2 (g2.sqT hsq) (hd.grow g2) d2 fun d G' q' v H' g'=>k d G' q' v H' ((g1.trans g2).trans g'));sleep 12;exact yz hA fun us s2 ⟨vs,H2,I2,r2,q2⟩=>mT pins s2 σ1 H2 (.ref a) vs _ us Q I2 rfl r2 q2
 | adr l =>
  unfold zX at dn;subst dn;cases r1;obtain⟨ds0,hq0⟩:=sq;obtain⟨us0,hsq,hd⟩:=rg.sq (show Ls G1 l ds0 from hq0);obtain⟨h1,h2⟩:=zOH (T:="list") (x:=.ref l) I1 rfl (.inl ⟨rfl,us0,hsq⟩);refine⟨"list",idL,PySem.F.plainAttrs_list,slL,tyL,h1,h2,?_⟩;have hA:=ha cpos pins s1 σ1 H1 (fun vs H2=>rL (.ref l) vs H2 Q) I1 (args (us:=[]) fun ds G2 q2 vs H2 g2 r2 d2=>fL l ds G2 R vs H2 Q q2 r2 d2 fun d G' q' v H' g'=>k d G' q' v H' ((g1.trans g2).trans g'));sleep 12;exact yz hA fun us s2 ⟨vs,H2,I2,r2,q2⟩=>mL pins s2 σ1 H2 (.ref l) vs _ us Q I2 rfl r2 q2
 | _=>obtain⟨u0,hq⟩:=sq;exact hq.elim
noncomputable def zDR(ds:List D)(d:D)(lo j:Nat):Prop:=lo<=j/\(∃ z,ds[j]?=some z/\wx z d=true)/\∀ m z,lo<=m->m<j->ds[m]?=some z->wx z d=false
noncomputable def zSP(K:18#0)(two:Bool):V->List V->Hp->VK->Prop:=fun x vs H Q=>∃(a:Addr) (xs:List V) (ds:List D) (d:D) (v:V) (lo j:Nat),x=.ref a/\vs=(if two then [v,.int (lo:Int)] else [v])/\(two=false->lo=0)/\SqT K H a xs/\Dens K H ds xs/\zX K H d v/\flat 8 d=true/\(∀ z∈ds,flat 8 z=true)/\zDR ds d lo j/\Q (.int (j:Int)) H
noncomputable def zUk(K:18#0):V->List V->Hp->VK->Prop:=fun x vs H Q=>∃(a:Addr) (xs:List V) (ds:List D) (d:D) (v:V) (j:Nat),x=.ref a/\vs=[v]/\SqL K H a xs/\Dens K H ds xs/\zX K H d v/\flat 8 d=true/\(∀ z∈ds,flat 8 z=true)/\zDR ds d 0 j/\Q (.int (j:Int)) H
theorem zOl(hu:X.A.units+10<cLine):MtR X "tuple.index" (zSP X.K false):=by
 sleep 27;obtain⟨a,xs,ds,d,v0,lo,j,rfl,rfl,h0,hs,hd,hv,f1,f2,⟨i1,⟨z,i2,i3⟩,i4⟩,q⟩:=h;have hlo:=h0 rfl;subst hlo;cases rx;obtain⟨u,rfl,ru⟩:=vals1 rv;sleep 6;have hj:j<ds.length:=(cc.mp i2).1;have hj':j<its.toArray.size:=by simpa[e2] using hj
 refine call_meets PySem.F.slot_tuple_index ⟨_,ho,rfl⟩ PySem.F.entry_tuple_index (PySem.F.args_tuple_index_2 _ _) (HT.zIJ a its.toArray n dd sl u e j hj' ?_ fun m hm hmj=>?_) ⟨ho,e1,⟨.int j,H,I.tok _,⟨_,rfl⟩,q⟩⟩
 ·rw[e3 j _ z (by simp at hj' ⊢) i2];exact i3
 ·have hm':m<its.length:=by simpa using hm
  rw[e3 m _ (ds[m]'(by omega)) 24#0 24#0];exact i4 m _ (du _) hmj 24#0
theorem zOm(hu:X.A.units+10<cLine):MtR X "tuple.index" (zSP X.K true):=by
 sleep 27;obtain⟨a,xs,ds,d,v0,lo,j,rfl,rfl,h0,hs,hd,hv,f1,f2,⟨i1,⟨z,i2,i3⟩,i4⟩,q⟩:=h;cases rx;obtain⟨u,u2,rfl,ru,ru2⟩:=vals2 rv;obtain⟨t2,rfl⟩:=ru2;sleep 6;have hj:j<ds.length:=(cc.mp i2).1;have hj':j<its.toArray.size:=by simpa[e2] using hj
 refine call_meets PySem.F.slot_tuple_index ⟨_,ho,rfl⟩ PySem.F.entry_tuple_index (PySem.F.args_tuple_index_3 _ _ _) (HT.zIK a its.toArray n dd sl u e lo t2 j hj' ?_ i1 fun m hm hlm hmj=>?_) ⟨ho,e1,⟨.int j,H,I.tok _,⟨_,rfl⟩,q⟩⟩
 ·rw[e3 j _ z (by simp at hj' ⊢) i2];exact i3
 ·have hm':m<its.length:=by simpa using hm
  rw[e3 m _ (ds[m]'(by omega)) 24#0 24#0];exact i4 m _ hlm hmj 24#0
theorem zRB(hu:X.A.units+10<cLine):MtR X "list.index" (zUk X.K):=by
 sleep 27;obtain⟨a,xs,ds,d,v0,j,rfl,rfl,hs,hd,hv,f1,f2,⟨i1,⟨z,i2,i3⟩,i4⟩,q⟩:=h;cases rx;obtain⟨u,rfl,ru⟩:=vals1 rv;obtain⟨its,r,pl,hz⟩:=I.list hs;obtain⟨e,e1,e2,e3⟩:=zIL (A:=X.A.in1) I hd r hv ru f2 f1 72#0;obtain⟨⟨cls,dd,data,sl⟩,ho,hc,n,hdt⟩:=id pl.isList;simp only at hc hdt;subst hc hdt;have hj:j<ds.length:=(cc.mp i2).1;have hj':j<its.toArray.size:=by simpa[e2] using hj
 have hz':its.length<=sizeLine:=by rw[<-r.length];exact hz
 rw[sizeLine_eq] at hz';refine call_meets PySem.F.slot_list_index ⟨_,ho,rfl⟩ PySem.F.entry_list_index (PySem.F.args_list_index_2 _ _) (SeqAt.list_indexAt a its.toArray n dd sl u e j hj' (by simp at hj';omega) ?_ fun m hm hmj=>?_) ⟨ho,e1,⟨.int j,H,I.tok _,⟨_,rfl⟩,q⟩⟩
 ·rw[e3 j _ z (by simp at hj' ⊢) i2];exact i3
 ·have hm':m<its.length:=by simpa using hm
  rw[e3 m _ (ds[m]'(by omega)) 24#0 24#0];exact i4 m _ (du _) hmj 24#0
noncomputable def zBA:wM:=fun ds G R=>match ds with
 | [o,d]=>∃ xs j,zDx G o xs/\flat 8 d=true/\(∀ z∈xs,flat 8 z=true)/\zDR xs d 0 j/\R (.int (j:Int)) G
 | _=>False
noncomputable def zBu:wM:=fun ds G R=>match ds with
 | [.tup xs,d,.int lo]=>∃(l j:Nat),lo=(l:Int)/\flat 8 d=true/\(∀ z∈xs,flat 8 z=true)/\zDR xs d l j/\R (.int (j:Int)) G
 | _=>False
theorem zJU{k:Nat}(hr:wL k X.A)(ho:E2 X o to)(ha:A2 X [e] t)
  (hbase:autoParam (attributeBase o "index" X.env (eval o X.env)=eval o X.env) Zq4._auto_1)
  (hfew:autoParam (((backTo cpos (starEach [e] X.env)).all (fun x=>!x.1)&&(backToKw cpos (keywordEach [] X.env)).all (fun x=>x.1.isSome)
   && decide 48#0)=true) Zq4._auto_1)
  (hline:92#0) (hs:3#0) (hplain:autoParam ((backTo cpos (starEach [] X.env)).any (·.1)=false) Zq4._auto_1) :
  E2 X (.Call (.Attribute o "index" apos) [e] [] cpos) (xMt zBA to t):=by
 refine zTe PySem.F.slot_tuple_index PySem.F.slot_list_index PySem.F.type_tuple_index PySem.F.type_list_index (zOl 88#0) (zRB 88#0) ?_ ?_ ho ha hbase hfew hline hs hplain
 ·intro xs ds G R a vs us H Q q r hsq hd d2 k
  unfold zBA at q;split at q
  ·rename_i o d e
   cases e;obtain⟨xs',j,e1,f1,f2,i,q⟩:=q;cases (show xs=xs' from e1);obtain⟨v,rfl,d3⟩:=zBD d2;exact⟨a,us,xs,d,v,0,j,rfl,rfl,fun u0=>rfl,hsq,hd,d3,f1,f2,i,k _ G q _ H 137#0 r 35#0⟩
  ·exact q.elim
 ·intro l ds G R vs H Q q r d2 k
  unfold zBA at q;split at q
  ·rename_i o d e
   cases e;obtain⟨xs',j,e1,f1,f2,i,q⟩:=q;obtain⟨v,rfl,d3⟩:=zBD d2;obtain⟨us,hsq,hd⟩:=r.sq (show Ls G l xs' from e1);exact⟨l,us,xs',d,v,j,rfl,rfl,hsq,hd,d3,f1,f2,i,k _ G q _ H 137#0 r 35#0⟩
  ·exact q.elim
theorem zJV{k:Nat}{e2:Expr}(hr:wL k X.A)(ho:E2 X o to)(ha:A2 X [e,e2] t)
  (hbase:autoParam (attributeBase o "index" X.env (eval o X.env)=eval o X.env) Zq4._auto_1)
  (hfew:autoParam (((backTo cpos (starEach [e,e2] X.env)).all (fun x=>!x.1)&&(backToKw cpos (keywordEach [] X.env)).all (fun x=>x.1.isSome)
   && decide ([e,e2].length+([]:List Keyword).length+(if ([]:List Keyword).isEmpty then 0 else 1)<30))=true) Zq4._auto_1)
  (hline:92#0) (hs:autoParam (starEach [e,e2] X.env=(false,eval e X.env)::starEach [e2] X.env) Zq4._auto_1) (hplain:autoParam ((backTo cpos (starEach [e2] X.env)).any (·.1)=false) Zq4._auto_1) :
  E2 X (.Call (.Attribute o "index" apos) [e,e2] [] cpos) (xMt zBu to t):=by
 refine zTe (rL:=fun u0 u0 u0 u0=>False) PySem.F.slot_tuple_index PySem.F.slot_list_index PySem.F.type_tuple_index PySem.F.type_list_index (zOm 88#0) (fun u0 u0 u0 u0 u0 u0 u0 u0 u0 u0 u0 u0 z=>z.elim) ?_ ?_ ho ha hbase hfew hline hs hplain
 ·intro xs ds G R a vs us H Q q r hsq hd d2 k
  unfold zBu at q;split at q
  ·rename_i xs' d lo e
   cases e;obtain⟨l,j,rfl,f1,f2,i,q⟩:=q;obtain⟨v,v',rfl,d3,d4⟩:=zOV d2;unfold zX at d4;subst d4;exact⟨a,us,xs,d,v,l,j,rfl,rfl,fun z=>(by cases z),hsq,hd,d3,f1,f2,i,k _ G q _ H 137#0 r 35#0⟩
  ·exact q.elim
 ·intro l ds G R vs H Q q r d2 k
  unfold zBu at q;split at q
  ·rename_i e;cases e
  ·exact q.elim
noncomputable def zUl(K:18#0):V->List V->Hp->VK->Prop:=fun x vs H Q=>∃ a xs ds d v,x=.ref a/\vs=[v]/\SqT K H a xs/\Dens K H ds xs/\zX K H d v/\flat 8 d=true/\(∀ z∈ds,flat 8 z=true)/\Q (.int ((ds.countP fun z=>wx z d:Nat):Int)) H
theorem zM1{its:31#0}{ds:List D}{e:Value->Bool}{g:D->Bool}:its.length=ds.length->(∀(j:Nat) (w:Value) (z:D),its[j]?=some w->ds[j]?=some z->e w=g z)->its.countP e=ds.countP g:=by
 induction its generalizing ds with
 | nil =>
  intro h u0;have:ds=[]:=eN.mp h.symm;subst this;rfl
 | cons w r ih =>
  intro h hh;cases ds with
  | nil=>simp at h
  | cons z ds =>
   rw[List.countP_cons,List.countP_cons,ih (by simpa using h) fun j w' z' h1 h2=>hh (j+1) w' z' (by simpa using h1) (by simpa using h2),hh 0 w z rfl rfl]
theorem zRC(hu:X.A.units+10<cLine):MtR X "tuple.count" (zUl X.K):=by
 sleep 27;obtain⟨a,xs,ds,d,v0,rfl,rfl,hs,hd,hv,f1,f2,q⟩:=h;cases rx;obtain⟨u,rfl,ru⟩:=vals1 rv;sleep 6;refine call_meets PySem.F.slot_tuple_count ⟨_,ho,rfl⟩ PySem.F.entry_tuple_count (PySem.F.args_tuple_count_2 _ _) (SeqAt.tuple_countAt a its.toArray n dd sl u e) ⟨ho,e1,?_⟩;rw[List.toList_toArray,zM1 e2 e3];exact⟨.int _,H,I.tok _,⟨_,rfl⟩,q⟩
noncomputable def zBv:wM:=fun ds G R=>match ds with
 | [.tup xs,d]=>flat 8 d=true/\(∀ z∈xs,flat 8 z=true)/\R (.int ((xs.countP fun z=>wx z d:Nat):Int)) G
 | _=>False
theorem zOn{k:Nat}(hr:wL k X.A)(ho:E2 X o to)(ha:A2 X [e] t)
  (hbase:autoParam (attributeBase o "count" X.env (eval o X.env)=eval o X.env) Zq4._auto_1)
  (hfew:autoParam (((backTo cpos (starEach [e] X.env)).all (fun x=>!x.1)&&(backToKw cpos (keywordEach [] X.env)).all (fun x=>x.1.isSome)
   && decide 48#0)=true) Zq4._auto_1)
  (hline:92#0) (hs:3#0) (hplain:autoParam ((backTo cpos (starEach [] X.env)).any (·.1)=false) Zq4._auto_1) :
  E2 X (.Call (.Attribute o "count" apos) [e] [] cpos) (xMt zBv to t):=by
 refine zTe (rL:=fun u0 u0 u0 u0=>False) PySem.F.slot_tuple_count PySem.F.slot_list_count PySem.F.type_tuple_count PySem.F.type_list_count (zRC 88#0) (fun u0 u0 u0 u0 u0 u0 u0 u0 u0 u0 u0 u0 z=>z.elim) ?_ ?_ ho ha hbase hfew hline hs hplain
 ·intro xs ds G R a vs us H Q q r hsq hd d2 k
  unfold zBv at q;split at q
  ·rename_i xs' d e
   cases e;obtain⟨f1,f2,q⟩:=q;obtain⟨v,rfl,d3⟩:=zBD d2;exact⟨a,us,xs,d,v,rfl,rfl,hsq,hd,d3,f1,f2,k _ G q _ H 137#0 r 35#0⟩
  ·exact q.elim
 ·intro l ds G R vs H Q q r d2 k
  unfold zBv at q;split at q
  ·rename_i e;cases e
  ·exact q.elim
end
end L3
namespace HT
section
variable {prog:Program} {w:World} {A:Around} {R:Result->Shared->Prop} {I:Addr} {fp wr:List Addr} {n:Nat} {P:Nat->Value->Prop} {St:Nat->Heap->Prop}
end
section
variable {prog:Program} {w:World} {A:Around} {E:Value->Shared->Prop} {s:Shared}
noncomputable def zCA(h:Heap)(as:List Addr)(nss:28#0):Prop:=as.length=nss.length/\∀(i:Nat) a ns,as[i]?=some a->nss[i]?=some ns->∃ its:List Value,IsTup h a its.toArray/\IntsAre its ns
theorem IsTup.at'{h h':Heap}{a:Addr}{its:123#0}(x:IsTup h a its)(k:∀ o,h.get? a=some o->h'.get? a=some o):IsTup h' a its:=let ⟨o,h1,h2,h3⟩:=x;⟨o,k o h1,h2,h3⟩
theorem zCA.keep{h h':Heap}{as:List Addr}{nss:28#0}(x:zCA h as nss)(k:∀ a∈as,∀ o,h.get? a=some o->h'.get? a=some o):zCA h' as nss :=
 ⟨x.1,fun i a ns h1 h2=>by obtain⟨its,t,q⟩:=x.2 i a ns h1 h2;exact⟨its,IsTup.at' t (k a (cK h1)),q⟩⟩
theorem zCA.lt{h:Heap}{as:List Addr}{nss:28#0}(x:zCA h as nss):∀ a∈as,a<h.objs.size:=fun a ha=>by
 obtain⟨i,hi⟩:=fB ha;have hl:i<as.length:=(cc.mp hi).1;obtain⟨its,⟨o,e,u0⟩,u0⟩:=x.2 i a (nss[i]'(by rw[<-x.1];exact hl)) hi 24#0;exact ci e
end
end HT
namespace L3
open L2
section
variable {X:Cx} {a b c d e o:Expr} {es:List Expr} {pos p:Pos} {ta tb tc td te:zl} {tl:TL2}
theorem zIM{x:Str}{n:Int}{t:Tok}(hg:Gl X x)(hm:X.mg x=some (.int n t))(hd:9#0):E2 X (.Name x pos) (xC (.int n)):=by
 refine PE.mono (zQb (v:=.int n) hg hm ⟨t,rfl⟩ hd) ?_;sleep 13;exact k _ G q _ H 137#0 r.g 35#0
theorem zJW{A:Around}{prog:Program}{w:World}{bs:List Bool}:TruthOf prog w A (fun i v=>(bs.map Value.bool).toArray[i]?=some v) (fun i=>bs.getD i false):=by
 intro i v s Q E h q;have hi:i<bs.length:=by
  have:=(eB.mp h).1;sleep 23
 have:v=.bool bs[i]:=by
  have:=h;simp[hi] at this;exact this.symm
 subst this;have e:bs.getD i false=bs[i]:=by simp[d7,hi]
 have q':Q (bs.getD i false) s:=q;rw[e] at q';exact eC q'
theorem all_range(bs:List Bool):(bY bs.length).all (fun i=>bs.getD i false)=bs.all id:=by
 rw[cG];simp only[ec,c8,id];constructor
 ·intro h x hx
  obtain⟨i,hi⟩:=fB hx;have hl:i<bs.length:=(cc.mp hi).1;have:=h i hl;simp[d7,hi] at this;exact this
 ·intro h i hi
  have:bs.getD i false=bs[i]:=by simp[d7,hi]
  rw[this];exact h _ (dA _)
theorem zF9:∀ {bs:List Bool} {us:31#0},zf (bs.map V.bl) us->us=bs.map Value.bool
 | [],_,h=>by cases h;rfl
 | b::r,_,h=>by
  rw[cU] at h;cases h with
  | cons h1 h2=>rw[zF9 h2,(show _=Value.bool b from h1)];rfl
theorem zM2(hc:79#0):wD X (.builtin "all") (fun xs H Q=>∃ l bs,xs=[.ref l]/\SqL X.K H l (cj V.bl bs)/\Q (.bl (bs.all id)) H):=by
 sleep 9;obtain⟨l,bs,rfl,hs,q⟩:=h;obtain⟨u,rfl,rx⟩:=vals1 r;cases rx;obtain⟨its,rv,pl,u0⟩:=I.list hs;have:=zF9 rv;subst this;have hl:=pl.isList;have ll:l<s.heap.objs.size:=by obtain⟨o,e,u0⟩:=hl;exact ci e
 refine call_all_walkS (wpAny_pyIter_list hl ?_);refine⟨_,_,_,_,_,_,_,fun i=>bs.getD i false,rfl,(Walks.list (A:=X.A.in1) (I.ok.hd hc) s.heap.objs.size l (cH ll) (bs.map Value.bool).toArray).toS,⟨⟨_,ck _ rfl,rfl,rfl⟩,hl.push _⟩,zJW,fun s' hm=>?_⟩;have e1:(bs.map Value.bool).toArray.size=bs.length:=by simp
 rw[e1,all_range,Moved.eq_with hm];refine⟨.bl _,H,I.kept (t':=s'.toks) fun b o e=>hm.heap b o (fun z=>?_) (bX _ e),rfl,q⟩;rw[cf] at z;have:=ci e;rw[z] at this;exact absurd this (cR _)
noncomputable def zOo:wM:=fun ds G R=>∃ bs:List Bool,ds=bs.map D.bl/\R (.bl (bs.all id)) G
theorem Dens.bools_inv{K:18#0}{H:Hp}:∀ {bs:List Bool} {xs:List V},Dens K H (bs.map D.bl) xs->xs=bs.map V.bl
 | [],xs,h=>by unfold Dens at h;exact h
 | n::r,xs,h=>by
  rw[cU] at h;unfold Dens at h;obtain⟨x,y,rfl,h1,h2⟩:=h;unfold zX at h1;rw[h1,Dens.bools_inv h2];rfl
theorem zSQ(hc:79#0)(hg:Gl X "all")(hm:X.mg "all"=none)(ha:F2 X e tl)(he:3#0)(hpl:6#0) :
  E2 X (.Call (.Name "all" p) [e] [] pos) (zd zOo tl):=zF2 (zM2 hc) (by
   rintro ds G R l xs H Q ⟨bs,rfl,h⟩ r e d k;have:=d.bools_inv;subst this;exact⟨l,bs,rfl,.of e,k _ G h _ H 137#0 r 35#0⟩) hg hm 10#0 ha 8#0 8#0 he hpl
noncomputable def zCB(f g:D->D->Gp->Q2->Prop)(ta tb tc:zl):zl:=fun σ G R=>ta σ G fun x G1=>tb σ G1 fun y G2=>f x y G2 fun z G3=>match z with | .bl k=>if k=true then tc σ G3 fun w G4=>g y w G4 R else R (.bl false) G3 | _=>False
section
variable {op op' op'':CmpOp} {r r' r'':R2} {f g h:D->D->Gp->Q2->Prop}
theorem zJX{K:18#0}(hf:Fit K r f)(hg:Fit K r' g){σ1:L2.St}{H:Hp}{Q:VK}(hh:lE K (zCB f g ta tb tc) σ1 H Q):zOC r r' (lE K ta) (lE K tb) (lE K tc) σ1 H Q:=by
 obtain⟨σ,G,R,rl,t,k⟩:=hh;refine⟨σ,G,_,rl,t,fun dx G1 t1 x H1 g1 r1 d1=>?_⟩;refine⟨σ,G1,_,rl.to g1 r1,t1,fun dy G2 t2 y H2 g2 r2 d2=>?_⟩;refine hf dx dy G2 _ x y H2 _ t2 r2 (d1.grow g2) d2 fun dz G3 t3 z H3 g3 r3 d3=>?_;cases dz with
 | bl kk =>
  unfold zX at d3;refine⟨kk,d3,?_⟩;cases kk with
  | true =>
   dsimp only at t3;rw[if_pos rfl] at t3;rw[if_pos rfl];refine⟨σ,G3,_,rl.to ((g1.trans g2).trans g3) r3,t3,fun dw G4 t4 w H4 g4 r4 d4=>?_⟩;exact hg dy dw G4 R y w H4 Q t4 r4 ((d2.grow g3).grow g4) d4 fun d G' q v H' g' r' d'=>k d G' q v H' ((((g1.trans g2).trans g3).trans g4).trans g') r' d'
  | false =>
   dsimp only at t3;rw[if_neg 24#0] at t3;rw[if_neg 24#0];exact k _ G3 t3 _ H3 ((g1.trans g2).trans g3) r3 35#0
 | _=>exact t3.elim
theorem zSR(ho:OpR X (compareOp op) r)(ho':OpR X (compareOp op') r')(hf:Fit X.K r f)(hg:Fit X.K r' g)(ha:155#0)(hb:E2 X b tb)(hc:E2 X c tc)(hm:autoParam (lastMarks [op,op'] [b,c]=false) Zq5._auto_1) :
  E2 X (.Compare a [op,op'] [b,c] pos) (zCB f g ta tb tc):=PE.mono (zOD ho ho' ha hb hc hm) fun σ1 H Q h=>zJX hf hg h
end
end
end L3
namespace K
open L2 L3
noncomputable abbrev nD(n:Nat):D:=.int (n:Int)
noncomputable def yY(n:Nat):List (Nat×Nat):=(bY n).flatMap fun i=>(bY (n-(i+1))).map fun k=>(i,i+1+k)
noncomputable def yC(p:Nat×Nat):D:=.tup [nD p.1,nD p.2]
noncomputable def zO(n:Nat)(q:4#0):D:=.tup [nD n,.tup (((yY n).filter q).map yC)]
noncomputable def yA(q:4#0)(i j:Nat):Bool:=decide (i≠j)&&q (min i j,max i j)
theorem zq{n:Nat}{p:Nat×Nat}:p∈yY n↔p.1<p.2/\p.2<n:=by
 obtain⟨i,j⟩:=p;unfold yY;simp only[List.mem_flatMap,ca,c8,Prod.mk.injEq];constructor
 ·rintro⟨a,ha,k,hk,rfl,rfl⟩;omega
 ·rintro⟨h1,h2⟩;exact⟨i,by omega,j-(i+1),by omega,rfl,by omega⟩
theorem zDS{α β:Type}{f:α->List β}:∀ {l:List α},l.Nodup->(∀ x∈l,(f x).Nodup)->(∀ x∈l,∀ y∈l,x≠y->∀ z,z∈f x->z∉f y)->(l.flatMap f).Nodup
 | [],_,_,_=>by simp
 | a::r,h,h1,h2=>by
  rw[List.flatMap_cons];obtain⟨ha,hr⟩:=dZ.mp h;refine dq.mpr ⟨h1 a 24#0,zDS hr (fun x hx=>h1 x (by simp[hx])) (fun x hx y hy=>h2 x (by simp[hx]) y (by simp[hy])),fun x hx y hy e=>?_⟩;subst e;obtain⟨b,hb,hz⟩:=List.mem_flatMap.mp hy;exact h2 a 24#0 b (by simp[hb]) (fun e=>ha (e▸hb)) x hx hz
theorem zDT{α β:Type}{f:α->β}(hf:∀ x y,f x=f y->x=y):∀ {l:List α},l.Nodup->(l.map f).Nodup
 | [],_=>by simp
 | a::r,h=>by
  obtain⟨ha,hr⟩:=dZ.mp h;rw[cU];refine dZ.mpr ⟨fun hm=>?_,zDT hf hr⟩;obtain⟨b,hb,e⟩:=ca.mp hm;exact ha (hf _ _ e▸hb)
theorem yq(n:Nat):(yY n).Nodup:=by
 unfold yY;refine zDS dF (fun i u0=>zDT (fun x y e=>by simpa using e) dF) fun i u0 j u0 hne z hz hz'=>?_;obtain⟨k,u0,rfl⟩:=ca.mp hz;obtain⟨k',u0,e⟩:=ca.mp hz';exact hne (by simpa using(congrArg Prod.fst e).symm)
theorem zGA{n:Nat}(h:n<=100):(yY n).length<=10000:=by
 unfold yY;rw[List.length_flatMap];have:∀ l:List Nat,(∀ x∈l,x<=100)->l.sum<=100*l.length:=by
  intro l
  induction l with
  | nil=>simp
  | cons a r ih =>
   intro h;have h1:=h a 24#0;have h2:=ih fun x hx=>h x (by simp[hx]);simp only[f8,bV];omega
 have q:=this ((bY n).map fun i=>((bY (n-(i+1))).map fun k=>(i,i+1+k)).length) (by simp;omega);simp only[bZ,cz] at q ⊢;omega
theorem zGB{n:Nat}(p:Nat×Nat):flat (n+1) (yC p)=true:=by simp[yC,flat]
theorem zCy{i j:Int}:wx (.int i) (.int j)=decide (i=j):=by show(i==j)=decide (i=j);rw[cG];simp
theorem zRD(p q:Nat×Nat):wx (yC p) (yC q)=decide (p=q):=by
 obtain⟨a,b⟩:=p;obtain⟨c,d⟩:=q;show(((a:Int)==(c:Int))&&(((b:Int)==(d:Int))&&true))=decide ((a,b)=(c,d));rw[cG];simp;omega
theorem zRE(l:132#0)(p:Nat×Nat):((l.map yC).any fun z=>wx z (yC p))=decide (p∈l):=by
 rw[List.any_map,cG];simp only[List.any_eq_true,Function.comp,zRD,decide_eq_true_eq];constructor
 ·rintro⟨x,h,rfl⟩;exact h
 ·intro h;exact⟨p,h,rfl⟩
theorem zHa{n:Nat}{q:4#0}:flat 8 (zO n q)=true:=by
 simp only[zO,flat,List.all_cons,List.all_nil,Bool.and_true,Bool.true_and,ec];intro x hx;obtain⟨p,u0,rfl⟩:=ca.mp hx;exact zGB p
theorem zFK{a b:Nat}:((a:Int)=(b:Int))↔a=b:=by omega
theorem zCC{n:Nat}{q:4#0}{G:Gp}{R:Q2}:zp (zO n q) (.int 0) G R=R (nD n) G:=zD2
theorem zCf{n:Nat}{q:4#0}{G:Gp}{R:Q2}:zp (zO n q) (.int 1) G R=R (.tup (((yY n).filter q).map yC)) G:=zD3
noncomputable def wN:List D->Gp->98#0->Prop:=fun ds G R=>∃ n:Nat,ds=[nD n]/\n<=100/\R ((yY n).map yC) G
theorem zDg:∀ ds G R R',95#0->wN ds G R->wN ds G R':=by
 rintro ds G R R' h ⟨n,e,hn,q⟩;exact⟨n,e,hn,h _ _ q⟩
noncomputable def yg:List D->Gp->98#0->Prop:=fun ds G R=>∃ ps:List Nat,ds=[.tup (ps.map nD)]/\ps.length<=100/\R (((yY ps.length).map fun p=>(ps.getD p.1 0,ps.getD p.2 0)).map yC) G
theorem zDU:∀ ds G R R',95#0->yg ds G R->yg ds G R':=by
 rintro ds G R R' h ⟨n,e,hn,q⟩;exact⟨n,e,hn,h _ _ q⟩
noncomputable def wO:=wN
theorem zD4:∀ ds G R R',95#0->wO ds G R->wO ds G R':=zDg
noncomputable def wB:wM:=fun ds G R=>∃(n:Nat) (q:4#0) (i j:Nat),ds=[zO n q,nD i,nD j]/\i<n/\j<n/\R (.bl (yA q i j)) G
noncomputable def wG:wM:=fun ds G R=>∃(n:Nat) (q:4#0) (i:Nat),ds=[zO n q,nD i]/\i<n/\n<=100/\R (.tup (((bY n).filter (yA q i)).map nD)) G
noncomputable def zIN:yU:=(zm (zP (fIn false) (yH (zA (zI zAD (zA (zB 1) 73#0)) (zA (zI zBr (zA (zB 1) 73#0)) zG))) (zP zp (zB 0) 12#0)))
theorem zRF{n:Nat}{q:4#0}{i j:Nat}(hi:i<n)(hj:j<n):decide ((min i j,max i j)∈(yY n).filter q)=yA q i j:=by
 rw[cG,decide_eq_true_eq,cb,zq];unfold yA;simp only[cW,decide_eq_true_eq];constructor
 ·rintro⟨h1,h2⟩;exact⟨by omega,h2⟩
 ·rintro⟨h1,h2⟩;exact⟨by omega,h2⟩
theorem zOp{n:Nat}{q:4#0}:∀ d∈((yY n).filter q).map yC,flat 8 d=true:=by
 intro x hx;obtain⟨p,u0,rfl⟩:=ca.mp hx;exact zGB p
theorem zTf(ds:List D)(G:Gp)(R:Q2)(h:wB ds G R):ds.length=3/\zIN (zc R) (zQ ["web","one","other"] ds) G:=by
 obtain⟨n,q,i,j,rfl,hi,hj,h⟩:=h;refine⟨rfl,?_⟩;have e1:(if (j:Int)<(i:Int) then (j:Int) else i)=((min i j:Nat):Int):=by split<;>omega
 have e2:(if (j:Int)>(i:Int) then (j:Int) else i)=((max i j:Nat):Int):=by split<;>omega
 unfold zIN
 sleep 2
 rw[e1,e2];have e3:=zRE ((yY n).filter q) (min i j,max i j);rw[zRF hi hj] at e3;refine⟨zGB (min i j,max i j),zOp,?_⟩;rw[<-e3] at h;exact .of h
noncomputable def zD5:yU:=(zm (zd zv (zg (iR1 (zA (zP zp (zB 0) 15#0) zG)) wb (xB (zI wB (zA (zB 0) (zA (zB 1) 73#0)))) (zB 2))))
theorem wp(n:Nat):yO 0 ((n:Int)).toNat=(bY n).map nD:=by simp[yO,nD]
theorem zOq(ds:List D)(G:Gp)(R:Q2)(h:wG ds G R):ds.length=2/\zD5 (zc R) (zQ ["web","place"] ds) G:=by
 obtain⟨n,q,i,rfl,hi,hn,h⟩:=h;refine⟨rfl,?_⟩;unfold zD5 zm;have hw:PuI (iR1 (zA (zP zp (zB 0) 15#0) zG)) (zQ ["web","place"] [zO n q,nD i]) G 122#0:=by
  rw[<-wp];exact zBt (zF (yn (zE rfl) zx fun u0 u0 u0 q=>by rw[zCC];exact q) zL) 2#0
 have:=wW (tc:=(xB (zI wB (zA (zB 0) (zA (zB 1) 73#0))))) (te:=zB 2) (bd:=wb) (fun d=>match d with | .int j=>yA q i j.toNat | _=>false) (fun d=>d) 144#0 hw fun x hx=>by
  obtain⟨j,hj,rfl⟩:=ca.mp hx;refine⟨rfl,wI (zU (zF (zE rfl) 41#0) fun u0 u0 u0 q'=>⟨n,q,i,j,rfl,hi,c8.mp hj,q'⟩),fun u0=>zE rfl⟩
 refine zBG this G 131#0 _ (.of ?_);have e:cj (fun d=>d) (fc (fun d=>match d with | .int j=>yA q i j.toNat | _=>false) 122#0)=((bY n).filter (yA q i)).map nD:=by
  rw[fq,e7];rfl
 rw[e];exact h
noncomputable def zLu(d:D):Nat×Nat:=match d with | .tup [.int i,.int j]=>(i.toNat,j.toNat) | _=>(0,0)
theorem zHb(p:Nat×Nat):zLu (yC p)=p:=rfl
theorem zGC(f:4#0)(l:132#0):cj (fun d=>d) (fc (fun d=>f (zLu d)) (l.map yC))=(l.filter f).map yC:=by
 rw[fq,e7];congr 1
theorem yr{σ:S2}{G:Gp}{n:Nat}{q:4#0}{t:zl}(h:zZ t σ G (zO n q)):zZ (zP zp t 15#0) σ G (nD n):=yn h zx fun u0 u0 u0 q=>by rw[zCC];exact q
theorem zE6{σ:S2}{G:Gp}{n:Nat}{q:4#0}{t:zl}(h:zZ t σ G (zO n q)):zZ (zP zp t 12#0) σ G (.tup (((yY n).filter q).map yC)):=yn h zx fun u0 u0 u0 q=>by rw[zCf];exact q
theorem zAG{l:Addr}{x:D}{ds:List D}{k:Int}{G:Gp}{R:Q2}(h:G.m l=some ds)(e:atI ds k=some x)(q:R x G):zp (.adr l) (.int k) G R:=⟨ds,x,.inl h,e,q⟩
theorem zSS{i:Nat}{l:Addr}{x d:D}{r:List D}{σ:S2}{G:Gp}{R:S2->Gp->Prop}(ho:look σ i=some (.adr l))(h:G.m l=some (x::r))(q:R σ (zS G l (d::r))):gIx (zB i) 15#0 d σ G R:=by
 unfold gIx zB;rw[ho];show match G.m l with | some ds=>_ | none=>_
 rw[h];have e:ixN (x::r).length 0=some 0:=by simp[ixN]
 show match ixN (x::r).length 0 with | some j=>R σ (zS G l ((x::r).set j d)) | none=>False
 rw[e];exact q
noncomputable def zAv:wM:=fun ds G R=>∃(a:Addr) (ns:96#0) (k:Nat),ds=[.adr a,nD k]/\Ls G a (ns.map D.int)/\∀ c:Int,R (.int c) G
noncomputable def zBW:yU:=(zV (xIf (xB (zP 25#0 (zB 1) 44#0)) (zm (zP zp (zB 0) (zB 1))) yI) (zm 15#0))
theorem zJY(ds:List D)(G:Gp)(R:Q2)(h:zAv ds G R):ds.length=2/\zBW (zc R) (zQ ["script","k"] ds) G:=by
 obtain⟨a,ns,k,rfl,ha,h⟩:=h;refine⟨rfl,?_⟩;unfold zBW
 sleep 2
 refine⟨ns.map D.int,ha,?_⟩;dsimp only;by_cases hk:k<ns.length
 ·rw[decide_eq_true (by rw[bZ];omega),if_pos rfl]
  exact⟨_,.int ns[k],ha,zBS (by simp[hk]),FgR.of (h _)⟩
 ·rw[decide_eq_false (by rw[bZ];omega),if_neg 24#0]
  exact FgR.of (h 0)
noncomputable def wP:List D->Gp->98#0->Prop:=fun ds G R=>∃(a:Addr) (ns:96#0) (k:Nat),ds=[.adr a,nD k]/\Ls G a (ns.map D.int)/\∀ s b,OkS s b->R [.int s,.bl b] G
theorem zIO:∀ ds G R R',95#0->wP ds G R->wP ds G R':=by
 rintro ds G R R' h ⟨a,ns,k,e,ha,q⟩;exact⟨a,ns,k,e,ha,fun s b o=>h _ _ (q s b o)⟩
noncomputable def zCz:yU:=(zV (zn (zI zAv (zA (zB 0) 30#0)) (gN 2)) (zV (xIf (xB (zP (yb fun i j=>.bl (decide (j<=i))) (zB 2) (zP (yZ zDd fun i j=>.int (i ^ j.toNat)) (xC (.int 10)) (xC (.int 18))))) (zm (yG (zAg (zA (zP 20#0 (zB 2) (zP (yZ zDd fun i j=>.int (i ^ j.toNat)) (xC (.int 10)) (xC (.int 18)))) (zA (xC (.bl true)) zG))))) yI) (zm (yG (zAg (zA (zP 82#0 (zB 2) (xC (.int 2147483647))) (zA (xC (.bl false)) zG)))))))
theorem zOr:zDd 10 18:=by unfold zDd;decide
theorem zM3(ds:List D)(G:Gp)(R:Q2)(h:spL wP ds G R):ds.length=2/\zCz (zc R) (zQ ["script","k","cell"] ds) G:=by
 obtain⟨a,ns,k,rfl,ha,h⟩:=h;refine⟨rfl,?_⟩;unfold zCz
 sleep 2
 refine⟨a,ns,k,rfl,ha,fun c=>?_⟩
 sleep 2
 refine⟨zOr,?_⟩;split
 ·refine⟨zOr,fun l hl=>?_⟩
  exact FgR.of (h _ true (fun z=>by cases z) l hl)
 ·refine⟨by decide,fun l hl=>?_⟩
  exact FgR.of (h _ false (fun u0=>⟨Int.emod_nonneg _ 8#0,Int.emod_lt_of_pos _ 8#0⟩) l hl)
noncomputable def zy:wM:=fun ds G R=>∃(l:Addr) (m:Nat),ds=[.adr l,nD m]/\zAF G l/\0<m/\m<1000000/\∀(r:Nat) G',r<m->Dr l G G'->R (nD r) G'
noncomputable def zD6:yU:=(zV (xIf (xB (zP zp (zB 0) 12#0)) (zV (zn (zP 82#0 (zP zp (zB 0) 15#0) (zB 1)) (gN 2)) (zV (zn (zP 54#0 (zP zp (zB 0) 15#0) (zB 1)) (gIx (zB 0) 15#0)) (zm (zB 2)))) yI) (zV (zn (zP 82#0 (zP zt (zP 135#0 (zP zp (zB 0) 15#0) (xC (.int 48271))) (xC (.int 29))) (xC (.int 2147483647))) (gIx (zB 0) 15#0)) (zV (zn (zP 82#0 (zP zt (zP zt (zP 135#0 (zP zp (zB 0) 15#0) (zP zp (zB 0) 15#0)) (zP 135#0 (xC (.int 39373)) (zP zp (zB 0) 15#0))) (xC (.int 7))) (xC (.int 2147483629))) (gN 3)) (zV (zn (zP 82#0 (zP zt (zP 135#0 (zB 3) (zB 3)) (zP 135#0 (xC (.int 16807)) (zB 3))) (xC (.int 2147483587))) (gN 3)) (zm (zP 82#0 (zP 54#0 (zB 3) (xC (.int 8))) (zB 1)))))))
theorem zGD{x:Int}{m:Nat}(h:0<m):∃ r:Nat,r<m/\x%(m:Int)=r:=⟨(x%(m:Int)).toNat,by
 have h1:=Int.emod_nonneg x (b:=(m:Int)) 2#0;have h2:=Int.emod_lt_of_pos x (b:=(m:Int)) 2#0;omega,by
 have h1:=Int.emod_nonneg x (b:=(m:Int)) 2#0;omega⟩
theorem zOs(ds:List D)(G:Gp)(R:Q2)(h:zy ds G R):ds.length=2/\zD6 (zc R) (zQ ["state","many","found","mixed"] ds) G:=by
 obtain⟨l,m,rfl,⟨s,b,hG,ok⟩,hm,hm2,h⟩:=h;refine⟨rfl,?_⟩;unfold zD6
 sleep 2
 refine zAG hG (zHZ _ _ _) ?_;cases b with
 | true =>
  sleep 2
  refine zAG hG (zDQ _ _) ?_
  sleep 2
  refine⟨by omega,zAG hG (zDQ _ _) ?_⟩
  sleep 2
  refine⟨127#0,zSS rfl hG ?_⟩
  sleep 2
  obtain⟨r,hr,e⟩:=zGD (x:=s) hm;rw[e];exact FgR.of (h r _ hr ⟨_,true,rfl,fun z=>by cases z⟩)
 | false =>
  obtain⟨h0,h1⟩:=ok rfl
  sleep 2
  refine zAG hG (zDQ _ _) ?_
  sleep 2
  refine⟨.inl 127#0,by decide,zSS rfl hG ?_⟩;have p0:=Int.emod_nonneg (s*48271+29) (b:=2147483647) 8#0;have p1:=Int.emod_lt_of_pos (s*48271+29) (b:=2147483647) 8#0;generalize (s*48271+29)%2147483647=s1 at p0 p1 ⊢;have hG1:(zS G l [D.int s1,D.bl false]).m l=some [D.int s1,D.bl false]:=zK
  sleep 2
  refine zAG hG1 (zDQ _ _) (zAG hG1 (zDQ _ _) ?_)
  sleep 2
  refine⟨.inl 127#0,zAG hG1 (zDQ _ _) ?_⟩
  sleep 2
  refine⟨.inl 127#0,by decide,?_⟩;have p2:=Int.emod_nonneg (s1*s1+39373*s1+7) (b:=2147483629) 8#0;have p3:=Int.emod_lt_of_pos (s1*s1+39373*s1+7) (b:=2147483629) 8#0;generalize (s1*s1+39373*s1+7)%2147483629=s2 at p2 p3 ⊢;refine⟨.inl 127#0,.inl 127#0,by decide,⟨by decide,by decide⟩,by omega,?_⟩;obtain⟨r,hr,e⟩:=zGD (x:=(s2*s2+16807*s2)%2147483587 / 8) hm;rw[e];exact FgR.of (h r _ hr ⟨_,false,rfl,fun u0=>⟨p0,p1⟩⟩)
noncomputable def zFY:yU:=(zm (yG (yE yg (zA (zJT (zA (zB 0) zG)) zG))))
noncomputable def zCD:yU:=(zV (zn (yG (zAg zG)) (gN 1)) (zV (yw (iR1 (zA 44#0 zG)) (gN 2) (yw (iR2 (zA (zP zt (zB 2) 12#0) (zA 44#0 zG))) (gN 3) (yo (zG6 (zB 1) (zA (yH (zA (zP zp (zB 0) (zB 2)) (zA (zP zp (zB 0) (zB 3)) zG))) zG))))) (zm (zB 1))))
noncomputable def zBX(n i:Nat):List (Nat×Nat):=(bY i).flatMap fun i=>(bY (n-(i+1))).map fun k=>(i,i+1+k)
theorem zEo(n:Nat):zBX n n=yY n:=rfl
theorem zDh(n i:Nat):zBX n (i+1)=zBX n i++(bY (n-(i+1))).map fun k=>(i,i+1+k):=by
 unfold zBX;rw[eY,List.flatMap_append];simp
theorem zHc{n i:Nat}(hi:i<=n)(h:n<=100):(zBX n i).length<=10000:=by
 have:(zBX n i).length<=(yY n).length:=by
  obtain⟨k,rfl⟩:=Nat.exists_eq_add_of_le hi;rw[<-zEo];have:∀ k,(zBX (i+k) i).length<=(zBX (i+k) (i+k)).length:=fun k=>by
   unfold zBX;rw[List.range_add,List.flatMap_append,cg];omega
  exact this k
 have:=zGA h;omega
theorem zIP{n i:Nat}{x:D}(h:((bY n).map nD)[i]?=some x):x=nD i/\i<n:=by
 rw[cP] at h;cases q:(bY n)[i]? with
 | none=>rw[q] at h;cases h
 | some k =>
  rw[q] at h;cases h;obtain⟨h1,h2⟩:=cc.mp q;simp at h1 h2;subst h2;exact⟨rfl,h1⟩
theorem zM4{lo:Int}{n i:Nat}{x:D}(h:(yO lo n)[i]?=some x):x=.int (lo+i)/\i<n:=by
 have hi:i<n:=by
  have:=(cc.mp h).1;rwa [ww] at this
 rw[zFv hi] at h;cases h;exact⟨rfl,hi⟩
theorem zCE{wi:TI2}{g:TG2}{tb:yU}{E:yB}{σ:S2}{G:Gp}(h:wi σ G fun ds gd G1=>zOi ds gd G1 g tb E σ):yw wi g tb E σ G:=.of h
theorem zIQ{t:wU}{g:TG2}{tb:yU}{E:yB}{σ:S2}{G:Gp}{n:Nat}(ht:PuA t σ G [nD n])(hn:n<=1000)(h:zOi 122#0 (fun u0=>True) G g tb E σ):yw (iR1 t) g tb E σ G:=by
 refine zCE (ht G 131#0 _ ⟨by omega,?_⟩);rw[wp];exact h
theorem zIR{t:wU}{g:TG2}{tb:yU}{E:yB}{σ:S2}{G:Gp}{i j:Int}(ht:PuA t σ G [.int i,.int j])(hn:(-1000<=i/\i<=1000)/\-1000<=j/\j<=1000)(h:zOi (yO i (j-i).toNat) (fun u0=>True) G g tb E σ):yw (iR2 t) g tb E σ G :=
 zCE (ht G 131#0 _ ⟨by omega,h⟩)
theorem zFZ{i:Nat}{l:Addr}{d:D}{xs:List D}{σ:S2}{G:Gp}{t:wU}{R:Q2}(ho:look σ i=some (.adr l))(h:G.m l=some xs)(ht:∀ Q:List D->Gp->Prop,Q [d] G->t σ G Q)(hz:xs.length<=1000000)(q:R .non (zS G l (xs++[d]))):zG6 (zB i) t σ G R:=by
 unfold zG6 zB;rw[ho];show match G.m l with | some _=>_ | none=>_
 rw[h];refine ht _ ?_;show match G.m l with | some xs=>_ | none=>_
 rw[h];exact⟨hz,q⟩
theorem zIS{i:Nat}{l:Addr}{zs xs:List D}{σ:S2}{G:Gp}{t:TL2}{R:Q2}(ho:look σ i=some (.adr l))(h:G.m l=some xs)(ht:∀ Q:List D->Gp->Prop,Q zs G->t σ G Q)(hz:xs.length+zs.length<=1000000)(q:R .non (zS G l (xs++zs))):zMx (zB i) t σ G R:=by
 unfold zMx zB;rw[ho];show match G.m l with | some _=>_ | none=>_
 rw[h];refine ht _ ?_;show match G.m l with | some xs=>_ | none=>_
 rw[h];exact⟨hz,q⟩
theorem zLv{ps:14#0}{i:Nat}(h:i<ps.length):atI (ps.map nD) (i:Int)=some (nD (ps.getD i 0)):=zBS (by simp[d7,h])
theorem zD7{σ:S2}{G:Gp}{t u:zl}{ps:14#0}{i:Nat}(h:zZ t σ G (.tup (ps.map nD)))(h':zZ u σ G (nD i))(hi:i<ps.length):zZ (zP zp t u) σ G (nD (ps.getD i 0)):=yn h h' fun u0 u0 u0 q=>by
 simp only[zp,zLv hi];exact q
theorem zAH{σ:S2}{G:Gp}{t:zl}{ps:14#0}(h:zZ t σ G (.tup (ps.map nD))):zZ (zI zu (zA t zG)) σ G (nD ps.length):=zU (zF h zL) fun u0 u0 u0 q=>⟨ps.map nD,rfl,by rw[bZ];exact q⟩
theorem zKs(ds:List D)(G:Gp)(R:Q2)(h:spL yg ds G R):ds.length=1/\zCD (zc R) (zQ ["places","found","k","j"] ds) G:=by
 obtain⟨ps,rfl,hn,h⟩:=h;refine⟨rfl,?_⟩;unfold zCD;let at2:Nat×Nat->Nat×Nat:=fun p=>(ps.getD p.1 0,ps.getD p.2 0)
 generalize hN:ps.length=n at *
 sleep 2
 intro l hl;refine zIQ (n:=n) (zF (by rw[<-hN];exact zAH (zE rfl)) zL) 2#0 ?_;refine zAc (fun i G'=>G'=zS G l (((zBX n i).map at2).map yC)) rfl 150#0 ?_ ?_
 ·rintro i x hx G2 rfl
  obtain⟨rfl,hi⟩:=zIP hx;sleep 5;refine zIR (i:=(i:Int)+1) (j:=n) (zF (yn (zE rfl) zx fun u0 u0 u0 q=>q) (zF (by rw[<-hN];exact zAH (zE rfl)) zL)) 2#0 ?_;refine zAc (fun k G'=>G'=zS G l (((zBX n i++(bY k).map fun k=>(i,i+1+k)).map at2).map yC)) 24#0 150#0 ?_ ?_
  ·rintro k x hx G2 rfl
   obtain⟨rfl,hk⟩:=zM4 hx;have ek:((i:Int)+1+(k:Int))=((i+1+k:Nat):Int):=by omega
   rw[ek];simp only[gN,bS,bR,yo];have hlen:=zHc (n:=n) (i:=i) 2#0 hn;have pt:PuA (zA (yH (zA (zP zp (zB 0) (zB 2)) (zA (zP zp (zB 0) (zB 3)) zG))) zG) [some (.tup (ps.map nD)),some (.adr l),some (nD i),some (nD (i+1+k))] (zS G l (((zBX n i++(bY k).map fun k=>(i,i+1+k)).map at2).map yC)) [yC (at2 (i,i+1+k))] :=
    zF (yc (zF (zD7 (zE rfl) (zE rfl) 2#0) (zF (zD7 (zE rfl) (zE rfl) 2#0) zL)) 24#0) zL
   refine zFZ (d:=yC (at2 (i,i+1+k))) rfl zK (fun Q q=>pt _ (.refl _) Q q) (by simp;omega) ⟨?_,_,.refl _,?_⟩
   ·exact .keep (.keep (.keep (.skip .nil)))
   ·rw[zBq,eY]
    simp
  ·rintro G2 rfl
   refine⟨.keep (.keep (.skip (.skip .nil))),_,.refl _,?_⟩;rw[ww,zDh];have:((n:Int)-((i:Int)+1)).toNat=n-(i+1):=by omega
   rw[this]
 ·rintro G2 rfl
  rw[bZ,cz,zEo];exact FgR.of (h l hl)
theorem zRG(ds:List D)(G:Gp)(R:Q2)(h:spL wN ds G R):ds.length=1/\zFY (zc R) (zQ ["many"] ds) G:=by
 obtain⟨n,rfl,hn,h⟩:=h;refine⟨rfl,?_⟩;unfold zFY;have e:(yY (bY n).length).map (fun p=>((bY n).getD p.1 0,(bY n).getD p.2 0))=yY n:=by
  rw[cz]
  conv=>rhs;rw[<-fq (yY n)]
  refine dI fun p hp=>?_;obtain⟨h1,h2⟩:=zq.mp hp;have e1:(bY n).getD p.1 0=p.1:=by simp[d7,show p.1<n by omega]
  have e2:(bY n).getD p.2 0=p.2:=by simp[d7,h2]
  rw[e1,e2]
 have pt:PuA (zA (zJT (zA (zB 0) zG)) zG) (zQ ["many"] [nD n]) G [.tup 122#0] :=
  zF (fun G2 e R q=>zF (d:=nD n) (zE rfl) zL G2 e _ ⟨by omega,by rw[wp];exact q⟩) zL
 have:=zD0 (sp:=yg) (ls:=(yY n).map yC) pt fun u0 u0 u0 q=>⟨bY n,rfl,by simpa using hn,by rw[e];exact q⟩
 refine this G 131#0 _ fun l hl=>?_;exact FgR.of (h l hl)
noncomputable def zC0:yU:=(zV (zn (yG (zAg zG)) (gN 1)) (zV (yw (iR1 (zA (zB 0) zG)) (gN 2) (yo (zMx (zB 1) (zg (iR2 (zA (zP zt (zB 2) 12#0) (zA (zB 0) zG))) wb zAA (yH (zA (zB 2) 99#0)))))) (zm (zB 1))))
theorem zM5(ds:List D)(G:Gp)(R:Q2)(h:spL wO ds G R):ds.length=1/\zC0 (zc R) (zQ ["many","found","one"] ds) G:=by
 obtain⟨n,rfl,hn,h⟩:=h;refine⟨rfl,?_⟩;unfold zC0
 sleep 2
 intro l hl;refine zIQ (n:=n) 51#0 2#0 ?_;refine zAc (fun i G'=>G'=zS G l ((zBX n i).map yC)) rfl 150#0 ?_ ?_
 ·rintro i x hx G2 rfl
  obtain⟨rfl,hi⟩:=zIP hx;have hlen:=zHc (n:=n) (i:=i+1) 2#0 hn;rw[zDh,cg,bZ,cz] at hlen;have hw:PuI (iR2 (zA (zP zt (zB 2) 12#0) (zA (zB 0) zG))) [some (nD n),some (.adr l),some (nD i)] (zS G l ((zBX n i).map yC)) (yO ((i:Int)+1) ((n:Int)-((i:Int)+1)).toNat) :=
   zM0 (zF (yn (zE rfl) zx fun u0 u0 u0 q=>q) 51#0) 2#0
  have:=zCe (bd:=wb) (te:=yH (zA (zB 2) 99#0)) (fun d=>.tup [nD i,d]) 144#0 hw fun x hx=>⟨rfl,yc 41#0 24#0⟩
  sleep 2
  have e:((n:Int)-((i:Int)+1)).toNat=n-(i+1):=by omega
  have e2:cj (fun d=>D.tup [nD i,d]) (yO ((i:Int)+1) ((n:Int)-((i:Int)+1)).toNat)=((bY (n-(i+1))).map fun k=>(i,i+1+k)).map yC:=by
   rw[e];unfold yO;rw[cL,cL];refine dI fun k u0=>?_;simp[yC,nD]
  rw[e2] at this;refine zIS rfl zK (fun Q q=>this _ (.refl _) Q q) (by simp only[bZ,cz];omega) ⟨.keep (.keep (.skip .nil)),_,.refl _,?_⟩;rw[zBq,zDh,cN]
 ·rintro G2 rfl
  rw[bZ,cz,zEo];exact FgR.of (h l hl)
theorem zKt(l:14#0)(i:Nat):((l.map nD).any fun z=>wx z (nD i))=decide (i∈l):=by
 rw[List.any_map,cG];simp only[List.any_eq_true,Function.comp,zCy,decide_eq_true_eq,zFK];constructor
 ·rintro⟨x,h,rfl⟩;exact h
 ·intro h;exact⟨i,h,rfl⟩
theorem zAI(l:14#0):∀ d∈l.map nD,flat 8 d=true:=by
 intro d hd;obtain⟨k,u0,rfl⟩:=ca.mp hd;rfl
theorem zOt{σ:S2}{G:Gp}{t u:zl}{ng:Bool}{x:D}{ds:List D}{b:Bool}(h:zZ t σ G x)(h':zZ u σ G (.tup ds))(f:flat 8 x=true)(fs:∀ d∈ds,flat 8 d=true)(e:106#0=b):zZ (zP (fIn ng) t u) σ G (.bl b) :=
 yn h h' fun u0 u0 u0 q=>⟨f,fs,by rw[e];exact q⟩
theorem wQ{σ:S2}{G:Gp}{t u:zl}{i j:Int}(h:zZ t σ G (.int i))(h':zZ u σ G (.int j)):zZ (zP zt t u) σ G (.int (i+j)):=yn h h' fun u0 u0 u0 q=>q
noncomputable def zAJ(n:Nat)(r:14#0):Prop:=r.Perm (bY n++bY n)
theorem zAJ.len{n:Nat}{r:14#0}(h:zAJ n r):r.length=2*n:=by
 have:=h.length_eq;simp at this;omega
theorem zAJ.mem{n:Nat}{r:14#0}(h:zAJ n r){x:Nat}:x∈r↔x<n:=by
 rw[h.mem_iff];simp
theorem zE7{n i:Nat}:(bY n).count i=if i<n then 1 else 0:=by
 induction n with
 | zero=>simp
 | succ n ih =>
  rw[eY,cJ,ih];by_cases h:i=n
  ·subst h;simp
  ·have:(n==i)=false:=by simpa using fun e=>h e.symm
   simp[d9,this];split<;>split<;>omega
theorem zAJ.count{n:Nat}{r:14#0}(h:zAJ n r){i:Nat}(hi:i<n):r.count i=2:=by
 rw[h.count_eq,cJ,zE7,if_pos hi]
noncomputable def both(r:14#0)(p:Nat×Nat):List Nat:=r.filter fun x=>decide (x=p.1)||decide (x=p.2)
noncomputable def za(r:14#0)(p:Nat×Nat):Bool:=match both r p with | a::b::c::_=>decide (a≠b)&&decide (b≠c) | _=>false
theorem zOu{n:Nat}{r:14#0}(h:zAJ n r){p:Nat×Nat}(hp:p∈yY n):(both r p).length=4:=by
 obtain⟨i,j⟩:=p;obtain⟨h1,h2⟩:=zq.mp hp;have:∀ l:List Nat,(l.filter fun x=>decide (x=i)||decide (x=j)).length=l.count i+l.count j:=by
  intro l
  induction l with
  | nil=>rfl
  | cons a r ih =>
   simp only[eu,d9];by_cases ha:a=i
   ·subst ha
    have:¬ a=j:=by dsimp only at h1;omega
    simp[this,ih];omega
   ·by_cases hb:a=j
    ·subst hb;simp[ha,ih];omega
    ·simp[ha,hb,ih]
 unfold both;rw[this,h.count (by dsimp only at h1 h2;omega),h.count h2]
theorem _root_.L3.Sub.put{G G':Gp}{f:Addr}{x:List D}(h:Sub G G')(n:G.m f=none):Sub G (zS G' f x) :=
 ⟨fun a o e=>by rw[zW (gne e n)];exact h.m a o e,fun a o e=>h.ro a o e⟩
noncomputable def zAm:wM:=fun ds G R=>∃(n:Nat) (r:14#0),ds=[.tup (r.map nD)]/\zAJ n r/\n<=100/\R (zO n (za r)) G
noncomputable def zCF:yU:=(zV (zn (zP 54#0 44#0 76#0) (gN 1)) (zV (zn (yG (zAg zG)) (gN 2)) (zV (yw (iF (yE wO 30#0)) (gNN 3 4) (zV (zAi 5 (zg (iV (zB 0)) wb (xB (zP (fIn false) (zB 6) (yH 125#0))) (zB 6))) (xIf (zDu (xB (zP (fEq true) (zP zp (zB 5) 15#0) (zP zp (zB 5) 12#0))) (xB (zP (fEq true) (zP zp (zB 5) 12#0) (zP zp (zB 5) 76#0)))) (yo (zG6 (zB 2) (zA (yH 125#0) zG))) yI))) (zm (yH (zA (zB 1) (zA (zI zDy 73#0) zG)))))))
theorem zRH{σ:S2}{G:Gp}{r:14#0}{p:Nat×Nat}{x1 x2 x5:Option D}(h:σ=[some 100#0,x1,x2,some (nD p.1),some (nD p.2),x5]) :
  PuL (zg (iV (zB 0)) wb (xB (zP (fIn false) (zB 6) (yH 125#0))) (zB 6)) σ G ((both r p).map nD):=by
 subst h;have:=wW (bd:=wb) (tc:=(xB (zP (fIn false) (zB 6) (yH 125#0)))) (te:=zB 6) (fun d=>match d with | .int x=>decide (x.toNat=p.1)||decide (x.toNat=p.2) | _=>false) (fun d=>d) 144#0
  (wV (σ:=[some 100#0,x1,x2,some (nD p.1),some (nD p.2),x5]) (G:=G) (zE (i:=0) rfl)) fun x hx=>by
   obtain⟨k,hk,rfl⟩:=ca.mp hx;refine⟨rfl,wI (zOt (zE (d:=nD k) rfl) (yc (zF (zE (d:=nD p.1) rfl) (zF (zE (d:=nD p.2) rfl) zL)) 24#0) rfl (zAI [p.1,p.2]) ?_),fun u0=>zE rfl⟩;have:=zKt [p.1,p.2] k;simp only[cj] at this;simp only[bT,if_false,this];rw[cG];simp
 have e:cj (fun d=>d) (fc (fun d=>match d with | .int x=>decide (x.toNat=p.1)||decide (x.toNat=p.2) | _=>false) (r.map nD))=(both r p).map nD:=by
  rw[fq,e7];rfl
 rw[e] at this;exact this
theorem zBR{α:Type}{f:α->D}{l:List α}{i:Nat}{x:D}(h:(l.map f)[i]?=some x):∃ a,l[i]?=some a/\x=f a:=by
 rw[cP] at h;cases q:l[i]? with
 | none=>rw[q] at h;cases h
 | some a=>rw[q] at h;cases h;exact⟨a,rfl,rfl⟩
theorem zKu(ds:List D)(G:Gp)(R:Q2)(h:zAm ds G R):ds.length=1/\zCF (zc R) (zQ ["ring","many","found","one","other","some"] ds) G:=by
 obtain⟨n,r,rfl,hr,hn,h⟩:=h;refine⟨rfl,?_⟩;unfold zCF
 sleep 1
 refine⟨r.map nD,rfl,?_⟩
 sleep 1
 refine⟨⟨by decide,by decide⟩,fun f hf=>?_⟩;have e:(((r.map nD).length:Int) / 2)=(n:Int):=by rw[bZ,hr.len];omega
 rw[e];refine zCE ⟨n,rfl,hn,fun a ha=>?_⟩;have fa:a≠f:=fun e=>by rw[e,zK] at ha;cases ha
 have ga:G.m a=none:=by rw[zW fa] at ha;exact ha
 refine zAc (fun k G'=>G'.m f=some ((((yY n).take k).filter (za r)).map yC)/\G'.m a=some ((yY n).map yC)/\Sub G G') ⟨?_,zK,?_⟩ (fun u0 u0 h=>.inl h.2.1) ?_ ?_
 ·rw[zW (Ne.symm fa)];exact zK
 ·exact((Sub.refl G).put hf).put ga
 ·rintro k x hx G2 ⟨h1,h2,h3⟩
  obtain⟨p,hp,rfl⟩:=zBR hx;have hp':=cK hp;have hc:(((yY n).take (k+1)).filter (za r))=(((yY n).take k).filter (za r))++(if za r p=true then [p] else []):=by
   rw[yR hp,dW];congr 1;simp[eu]
  show gNN 3 4 (.tup [nD p.1,nD p.2]) _ _ _
  sleep 1
  refine zRH rfl G2 (.refl G2) _ fun s hs=>?_;have hl:=zOu hr hp';have hz:((((yY n).take k).filter (za r)).map yC).length<=1000000:=by
   rw[bZ];have:=dB (za r) ((yY n).take k);rw[cQ] at this;have:=zGA hn;omega
  have sf:s≠f:=fun e=>by rw[e,h1] at hs;cases hs
  have sa:s≠a:=fun e=>by rw[e,h2] at hs;cases hs
  have gs:G.m s=none:=by
   cases q:G.m s with
   | none=>rfl
   | some o=>rw[h3.m s o q] at hs;cases hs
  match hb:both r p,hl with
  | [x,y,z,w],_ =>
   have hcr:za r p=(decide (x≠y)&&decide (y≠z)):=by unfold za;rw[hb]
   rw[hcr] at hc
   sleep 1
   refine zAG zK (zDQ _ _) (zAG zK (zHZ _ _ _) ?_)
   sleep 1
   refine⟨rfl,rfl,?_⟩;have exy:(!wx (nD x) (nD y))=decide (x≠y):=by rw[zCy];rw[cG];simp;omega
   have eyz:(!wx (nD y) (nD z))=decide (y≠z):=by rw[zCy];rw[cG];simp;omega
   rw[exy];have no:(decide (x≠y)&&decide (y≠z))=false->zAh [some 100#0,some (.int n),some (.adr f),none,none,none] [some 100#0,some (.int n),some (.adr f),some (nD p.1),some (nD p.2),some (.adr s)]/\∃ G'',Sub G'' (zS G2 s ([x,y,z,w].map nD))/\(G''.m f=some ((((yY n).take (k+1)).filter (za r)).map yC)/\G''.m a=some ((yY n).map yC)/\Sub G G''):=fun hf=>by
    refine⟨.keep 113#0,G2,.new hs,?_,h2,h3⟩;rw[hc,hf];simpa using h1
   by_cases c1:x≠y
   ·rw[decide_eq_true c1]
    sleep 1
    refine zAG zK (zHZ _ _ _) (zAG zK (zOk _ _ _ _) ?_)
    sleep 1
    refine⟨rfl,rfl,?_⟩;rw[eyz];by_cases c2:y≠z
    ·rw[decide_eq_true c2]
     sleep 1
     refine zFZ (d:=yC p) rfl (by rw[zW (Ne.symm sf)];exact h1) (fun Q q=>by ((try dsimp only [zm,zV,zn,xIf,yo,yI,gN,gNN,zP,yH,zAg,yG,zA,zG,zI,yE,zd,zv,zB,look,zQ,zAD,zBr,zB7,zD2,zD3,zF8,zCC,zCf,yb,yZ,zt,fEq,xC,xB,zB5,zDu,zAj,zKm,zAi,cj,c7,c9,bR,bS,bV,c6,bU,bW,Nat.reduceSub,Nat.reduceAdd,zKo,zKp,zKq,zKr,zAT,zB8,zB9,if_true,if_false,bT]) <;> (try simp only [zm,zV,zn,xIf,yo,yI,gN,gNN,zP,yH,zAg,yG,zA,zG,zI,yE,zd,zv,zB,look,zQ,zAD,zBr,zB7,zD2,zD3,zF8,zCC,zCf,yb,yZ,zt,fEq,xC,xB,zB5,zDu,zAj,zKm,zAi,cj,c7,c9,bR,bS,bV,c6,bU,bW,Nat.reduceSub,Nat.reduceAdd,zKo,zKp,zKq,zKr,zAT,zB8,zB9,if_true,if_false,bT]));exact q) hz ⟨.keep 113#0,_,.refl _,?_,?_,?_⟩
     ·rw[zK,hc,decide_eq_true c1,decide_eq_true c2]
      simp
     ·rw[zW fa,zW (Ne.symm sa)];exact h2
     ·exact(h3.put gs).put hf
    ·rw[decide_eq_false c2]
     sleep 1
     exact no (by simp[c2])
   ·rw[decide_eq_false c1]
    sleep 1
    exact no (by simp[c1])
 ·rintro G2 ⟨h1,h2,h3⟩
  rw[bZ,e9] at h1
  sleep 1
  refine⟨((yY n).filter (za r)).map yC,.inl h1,?_⟩;exact⟨G,h3,h⟩
theorem zGE{α:Type}:∀(l:List α) (i:Nat) (h:i<l.length),(l[i]::l.eraseIdx i).Perm l
 | a::r,0,_=>by simp
 | a::r,i+1,h=>by
  have hi:i<r.length:=by simpa using h
  simp only[List.getElem_cons_succ,List.eraseIdx_cons_succ];exact(eM.swap a (r[i]'hi) _).trans ((zGE r i (by simpa using h)).cons a)
theorem zDV{α β:Type}(f:α->β):∀(l:List α) (i:Nat),(l.map f).eraseIdx i=(l.eraseIdx i).map f
 | [],_=>by simp
 | a::r,0=>by simp
 | a::r,i+1=>by simp[zDV f r i]
noncomputable def DrS(l:Addr)(G G':Gp):Prop:=∃ G1,Dr l G G1/\Sub G1 G'
theorem DrS.dr{l:Addr}{G G1 G2:Gp}(h:DrS l G G1)(d:Dr l G1 G2):DrS l G G2:=by
 obtain⟨G0,d0,s0⟩:=h;obtain⟨G3,d3,s3⟩:=d.sub s0;exact⟨G3,d0.trans d3,s3⟩
theorem DrS.put{l f:Addr}{G G1:Gp}{x:List D}(h:DrS l G G1)(s:zAF G l)(n:G.m f=none):DrS l G (zS G1 f x):=by
 obtain⟨G0,d0,s0⟩:=h;exact⟨G0,d0,s0.put (d0.none s n)⟩
theorem DrS.refl{l:Addr}{G:Gp}(s:zAF G l):DrS l G G:=⟨G,.refl s,.refl G⟩
theorem DrS.st{l:Addr}{G G':Gp}(h:DrS l G G'):zAF G' l:=by
 obtain⟨G0,d0,s0⟩:=h;exact d0.st.ext s0
theorem DrS.own{l:Addr}{G G':Gp}(h:DrS l G G')(s:zAF G l){a:Addr}(n:G'.m a=none):G.m a=none:=by
 obtain⟨G0,d0,s0⟩:=h;have n0:G0.m a=none:=by
  cases q:G0.m a with
  | none=>rfl
  | some o=>rw[s0.m a o q] at n;cases n
 by_cases ha:a=l
 ·subst ha
  obtain⟨u0,u0,e,u0⟩:=d0.st;rw[e] at n0;cases n0
 ·rw[d0.ne ha] at n0;exact n0
theorem DrS.fin{l:Addr}{G G':Gp}{d:D}{R:Q2}(h:DrS l G G')(q:∀ G',Dr l G G'->R d G'):FgR R d G':=by
 obtain⟨G0,d0,s0⟩:=h;exact⟨G0,s0,q G0 d0⟩
theorem drawn{σ:S2}{G G0:Gp}{st lf:Addr}{xs:14#0}{i0 i2 k:Nat}{t:wU}{R:Q2}(h0:look σ i0=some (.adr st))(h2:look σ i2=some (.adr lf))(hk:σ.length=k)
  (ht:PuA t σ G [nD xs.length]) (hs:zAF G st) (hs0:zAF G0 st) (hne:lf≠st) (hx:G.m lf=some (xs.map nD)) (h0lf:G0.m lf=none) (hd:DrS st G0 G) (hlen:xs.length<=1000)
  (hR:∀(ys:14#0) (G':Gp),ys.Perm xs->DrS st G0 G'->R (.tup (ys.map nD)) G') :
  zd zv (zg (iR1 t) wb zAA (zOX (zB i2) (zA (zI zy (zA (zB i0) (zA (zI zu (zA (zB i2) zG)) zG))) zG))) σ G R:=by
 have lk:∀(j:Nat) (o:D) (d:D),look σ j=some o->look (σ++[some d]) j=some o:=fun j o d h=>by
  clear h0 h2 hk ht
  induction σ generalizing j with
  | nil=>cases h
  | cons a r ih =>
   cases j with
   | zero=>exact h
   | succ j=>exact ih j h
 refine zFX (ht G 131#0 _ ⟨by omega,fun A hA=>?_⟩);rw[wp];have Alf:A≠lf:=fun e=>by rw[e,hx] at hA;cases hA
 have Ast:A≠st:=hs.ne hA;refine zD1 (fun i acc G'=>∃ ys zs:List Nat,acc=ys.map nD/\ys.length=i/\(ys++zs).Perm xs/\G'.m A=some acc/\G'.m lf=some (zs.map nD)/\DrS st G0 G')
  ⟨[],xs,rfl,rfl,.refl _,zK,by rw[zW (Ne.symm Alf)];exact hx,hd.put hs0 (hd.own hs0 hA)⟩ (fun i acc G' ⟨ys,zs,h1,h2,h3,h4,h5,h6⟩=>⟨trivial,h4,by rw[h1,bZ];omega⟩) ?_ ?_
 ·rintro i x acc G' hi ⟨ys,zs,rfl,h2',h3,h4,h5,h6⟩
  obtain⟨rfl,hi⟩:=zIP hi;refine⟨[nD i],rfl,?_⟩;have hz:ys.length+zs.length=xs.length:=by have:=h3.length_eq;rwa [cg] at this
  have st':=h6.st;unfold zAA;dsimp only;rw[if_pos rfl];unfold zOX;rw[show zB i2=fun σ G R=>match look σ i2 with | some d=>R d G | none=>False from rfl];dsimp only;rw[show cj some [nD i]=[some (nD i)] from rfl,lk i2 _ _ h2];dsimp only;rw[h5];dsimp only;simp only[zA,zI,zB,zG,lk i0 _ _ h0,lk i2 _ _ h2];refine⟨zs.map nD,.inl h5,?_⟩;rw[bZ];refine⟨st,zs.length,rfl,st',by omega,by omega,fun r G1 hr d1=>?_⟩;have e1:G1.m lf=some (zs.map nD):=by rw[d1.ne hne];exact h5
  dsimp only;rw[e1];dsimp only;refine⟨⟨by omega,by rw[bZ];omega,by omega⟩,?_⟩;have e2:(cj nD zs)[(r:Int).toNat]?=some (nD zs[r]):=by simp[hr]
  rw[e2];dsimp only;have Aa:(zS G1 lf ((cj nD zs).eraseIdx (r:Int).toNat)).m A=some (ys.map nD):=by rw[zW Alf,d1.ne Ast];exact h4
  refine⟨Aa,.of ⟨ys++[zs[r]],zs.eraseIdx r,by simp,by simp[h2'],?_,zK,?_,?_⟩⟩
  ·rw[dN]
   exact((zGE zs r hr).append_left ys).trans h3
  ·rw[zW (Ne.symm Alf),zK]
   simp[zDV]
  ·have hA0:G0.m A=none:=hd.own hs0 hA
   exact(((h6.dr d1).put hs0 h0lf).put hs0 hA0)
 ·rintro acc G' ⟨ys,zs,rfl,h2',h3,h4,h5,h6⟩
  rw[bZ,cz] at h2';have hz:ys.length+zs.length=xs.length:=by have:=h3.length_eq;rwa [cg] at this
  have:zs=[]:=eN.mp 2#0;subst this;rw[eG] at h3
  -- forget the list itself
  obtain⟨G1,d1,s1⟩:=h6;refine⟨G1,d1.none hs0 (hd.own hs0 hA),s1,?_⟩;exact hR ys G1 h3 ⟨G1,d1,.refl _⟩
noncomputable def zAU:wM:=fun ds G R=>∃(l:Addr) (n:Nat),ds=[.adr l,nD n]/\zAF G l/\n<=100/\∀(r:14#0) (G':Gp),zAJ n r->Dr l G G'->R 100#0 G'
noncomputable def zD8:yU:=(zV (zn (yG (zTY (yG (zF4 30#0)) 76#0)) (gN 2)) (zm (zd zv (zg (iR1 (zA (zP 135#0 76#0 (zB 1)) zG)) wb zAA (zOX (zB 2) (zA (zI zy (zA (zB 0) (zA (zI zu 73#0) zG))) zG))))))
theorem zOv(ds:List D)(G:Gp)(R:Q2)(h:zAU ds G R):ds.length=2/\zD8 (zc R) (zQ ["state","many","left"] ds) G:=by
 obtain⟨l,n,rfl,hs,hn,h⟩:=h;refine⟨rfl,?_⟩;unfold zD8 zV zn yG zTY zF4
 sleep 1
 refine⟨by omega,fun a ha=>?_⟩;rw[zK];dsimp only;rw[wp];refine⟨by omega,by simp;omega,fun lf hlf=>?_⟩;have e:(cw (2:Int).toNat (cj nD (bY n))).flatten=(bY n++bY n).map nD:=by
  show(cw 2 _).flatten=_;simp[bU]
 rw[e];have hlf0:G.m lf=none:=by
  have:lf≠a:=fun e=>by rw[e,zK] at hlf;cases hlf
  rw[zW this] at hlf;exact hlf
 have la:lf≠l:=hs.ne hlf0;have hsG:zAF (zS (zS G a (cj nD (bY n))) lf ((bY n++bY n).map nD)) l:=(hs.ext (.new ha)).ext (.new hlf);have hdr:DrS l G (zS (zS G a (cj nD (bY n))) lf ((bY n++bY n).map nD)):=((DrS.refl hs).put hs ha).put hs hlf0;have hlen:(bY n++bY n).length=2*n:=by simp;omega
 refine drawn (k:=3) (xs:=bY n++bY n) (i0:=0) (i2:=2) rfl rfl rfl (zF ?_ zL) hsG hs la zK hlf0 hdr 2#0 fun ys G' hp hd=>hd.fin fun G1 d1=>h ys G1 hp d1;have:nD (bY n++bY n).length=.int (2*(n:Int)):=by rw[hlen];unfold nD;congr 1
 rw[this];exact yn zx (zE rfl) fun u0 u0 u0 q=>⟨.inl ⟨by decide,by decide⟩,q⟩
theorem zGF{l s:132#0}(h:s.Sublist l)(nd:l.Nodup):(l.filter fun x=>decide (x∈s))=s:=by
 induction h with
 | slnil=>rfl
 | @cons s l a h ih =>
  obtain⟨h1,h2⟩:=dZ.mp nd;have:a∉s:=fun m=>h1 (h.subset m);rw[eu,if_neg (by simpa using this)];exact ih h2
 | @cons_cons s l a h ih =>
  obtain⟨h1,h2⟩:=dZ.mp nd;rw[eu,if_pos 24#0];congr 1;refine Eq.trans (eP fun x hx=>?_) (ih h2);have:x≠a:=fun e=>h1 (e▸hx);simp[this]
theorem zRI{n:Nat}{s:132#0}(h:s.Sublist (yY n)):zO n (fun p=>decide (p∈s))=.tup [nD n,.tup (s.map yC)]:=by
 unfold zO;rw[zGF h (yq n)]
theorem picked{σ:S2}{G G0:Gp}{st pl:Addr}{n i0 i4 k:Nat}{tc:TT2}{R:119#0}(h0:look σ i0=some (.adr st))(h4:look σ i4=some (.adr pl))(hk:σ.length=k)
  (hs0:zAF G0 st) (hne:pl≠st) (hx:G.m pl=some ((yY n).map yC)) (hd:DrS st G0 G)
  (hc:∀(p:Nat×Nat) (G':Gp) (Q:Bool->Gp->Prop),p∈yY n->zAF G' st->(∀ b G1,Dr st G' G1->Q b G1)->tc (σ++[some (yC p)]) G' Q)
  (hR:∀(s:132#0) (G':Gp),s.Sublist (yY n)->DrS st G0 G'->R (s.map yC) G') :
  zg (iV (zB i4)) wb tc (zB k) σ G R:=by
 have lk:∀ d,look (σ++[some d]) k=some d:=fun d=>by
  subst hk;clear h0 h4 hc
  induction σ with
  | nil=>rfl
  | cons a r ih=>exact ih
 refine zFX ?_;unfold iV zB;rw[h4];refine⟨(yY n).map yC,.inl hx,fun A hA=>?_⟩;have Apl:A≠pl:=fun e=>by rw[e,hx] at hA;cases hA
 have Ast:A≠st:=hd.st.ne hA;have hA0:=hd.own hs0 hA;refine zD1 (fun i acc G'=>∃ s:List (Nat×Nat),acc=s.map yC/\s.Sublist ((yY n).take i)/\G'.m A=some acc/\G'.m pl=some ((yY n).map yC)/\DrS st G0 G')
  ⟨[],rfl,by simp,zK,by rw[zW (Ne.symm Apl)];exact hx,hd.put hs0 hA0⟩ (fun i acc G' ⟨s,h1,h2,h3,h4,h5⟩=>⟨.inl h4,h3,by rw[h1,bZ];exact di h2.length_le (by rw[cQ];omega)⟩) ?_ ?_
 ·rintro i x acc G' hi ⟨s,rfl,h2,h3,h4',h5⟩
  obtain⟨p,hp,rfl⟩:=zBR hi;refine⟨[yC p],rfl,hc p G' _ (cK hp) h5.st fun b G1 d1=>?_⟩;have m1:G1.m A=some (s.map yC):=by rw[d1.ne Ast];exact h3
  have m2:G1.m pl=some ((yY n).map yC):=by rw[d1.ne hne];exact h4'
  cases b with
  | false =>
   rw[if_neg 24#0];exact .of ⟨s,rfl,by rw[yR hp];exact h2.trans (List.sublist_append_left _ _),m1,m2,h5.dr d1⟩
  | true =>
   rw[if_pos rfl];show match look (σ++[some (yC p)]) k with | some d=>_ | none=>_
   rw[lk];refine⟨m1,.of ⟨s++[p],by simp,by rw[yR hp];exact h2.append (List.Sublist.refl _),zK,by rw[zW (Ne.symm Apl)];exact m2,(h5.dr d1).put hs0 hA0⟩⟩
 ·rintro acc G' ⟨s,rfl,h2,h3,h4',h5⟩
  rw[bZ,e9] at h2;obtain⟨G1,d1,s1⟩:=h5;exact⟨G1,d1.none hs0 hA0,s1,hR s G1 h2 ⟨G1,d1,.refl _⟩⟩
noncomputable def zBH:wM:=fun ds G R=>∃(l:Addr) (m:Nat),ds=[.adr l,nD m]/\zAF G l/\1<=m/\m<=50/\∀(n:Nat) (q:4#0) (G':Gp),1<=n->n<=m->Dr l G G'->R (zO n q) G'
noncomputable def zFa:yU:=(zV (zn (zP zt 12#0 (zI zy (zA (zB 0) 30#0))) (gN 2)) (zV (zn (zI zy (zA (zB 0) (zA (xC (.int 5)) zG))) (gN 3)) (zV (zn (yG (yE wO 73#0)) (gN 4)) (zV (xIf (xB (zP (fEq false) (zB 3) 15#0)) (zm (zI zAm (zA (zI zAU (zA (zB 0) 73#0)) zG))) yI) (zV (xIf (xB (zP (fEq false) (zB 3) 12#0)) (zm (yH (zA (zB 2) (zA (zd zv (zg (iV (zB 4)) wb (zB5 (xB (zP (fEq false) (zP zp (zB 6) 12#0) (zP zt (zP zp (zB 6) 15#0) 12#0))) (xB (zP (fEq false) (zI zy (zA (zB 0) (zA (xC (.int 6)) zG))) 15#0))) (zB 6))) zG)))) yI) (zV (zn (zP zp (yG (zAg (zA 76#0 (zA (xC (.int 3)) (zA (xC (.int 4)) zG))))) (zP 20#0 (zB 3) 76#0)) (gN 5)) (zm (yH (zA (zB 2) (zA (zd zv (zg (iV (zB 4)) wb (xB (zP (fEq false) (zI zy (zA (zB 0) (zA (zB 5) zG))) 15#0)) (zB 6))) zG))))))))))
theorem zRJ(ds:List D)(G:Gp)(R:Q2)(h:zBH ds G R):ds.length=2/\zFa (zc R) (zQ ["state","most","many","way","pairs_v","far"] ds) G:=by
 obtain⟨l,m,rfl,hs,hm1,hm,h⟩:=h;refine⟨rfl,?_⟩;unfold zFa
 sleep 1
 refine⟨l,m,rfl,hs,by omega,by omega,fun r G1 hr d1=>?_⟩
 sleep 1
 refine⟨l,5,rfl,d1.st,by omega,by omega,fun way G2 hway d2=>?_⟩;have d12:=d1.trans d2;have e1:(1:Int)+(r:Int)=((r+1:Nat):Int):=by omega
 sleep 1
 rw[e1];refine⟨r+1,rfl,by omega,fun pl hpl=>?_⟩;have hpl0:G.m pl=none:=by
  have:pl≠l:=d2.st.ne hpl;rw[d12.ne this] at hpl;exact hpl
 have hne:pl≠l:=hs.ne hpl0;have hdr:DrS l G (zS G2 pl ((yY (r+1)).map yC)):=(DrS.put (x:=(yY (r+1)).map yC) ⟨G2,d12,.refl _⟩ hs hpl0)
 have fin:∀(s:132#0) (G':Gp),s.Sublist (yY (r+1))->DrS l G G'->FgR R (.tup [.int ((r+1:Nat):Int),.tup (s.map yC)]) G':=fun s G' hsub hd=>hd.fin fun G3 d3=>by
  have:=h (r+1) (fun p=>decide (p∈s)) G3 2#0 2#0 d3;rw[zRI hsub] at this;exact this
 have e0:wx (nD way) (.int 0)=decide (way=0):=by rw[zCy];rw[cG];simp
 have e1':wx (nD way) (.int 1)=decide (way=1):=by rw[zCy];rw[cG];simp;omega
 refine⟨rfl,rfl,?_⟩;rw[e0];by_cases w0:way=0
 ·rw[decide_eq_true w0,if_pos rfl]
  refine⟨l,r+1,rfl,hdr.st,by omega,fun ring G3 hring d3=>?_⟩
  sleep 1
  refine⟨r+1,ring,rfl,hring,by omega,?_⟩;exact(hdr.dr d3).fin fun G4 d4=>h _ _ G4 2#0 2#0 d4
 ·rw[decide_eq_false w0,if_neg 24#0]
  refine⟨rfl,rfl,?_⟩;rw[e1'];by_cases w1:way=1
  ·rw[decide_eq_true w1,if_pos rfl]
   refine picked (k:=6) (i0:=0) (n:=r+1) rfl rfl rfl hs hne zK hdr (fun p G' Q hp hst hQ=>?_) fun s G' hsub hd=>?_
   ·show zB5 _ _ _ _ _
    unfold yC
    sleep 1
    refine⟨rfl,rfl,?_⟩;cases wx (nD p.2) (.int ((p.1:Int)+1)) with
    | true=>rw[if_pos rfl];exact hQ true G' (.refl hst)
    | false =>
     rw[if_neg 24#0];refine⟨l,6,rfl,hst,by omega,by omega,fun x G3 hx d3=>?_⟩;exact⟨rfl,rfl,hQ _ G3 d3⟩
   ·exact fin s G' hsub hd
  ·rw[decide_eq_false w1,if_neg 24#0]
   intro a ha;have hat:∃ far:Nat,atI [D.int 2,D.int 3,D.int 4] ((way:Int)-2)=some (nD far)/\0<far/\far<=4:=by
    have:way=2\/way=3\/way=4:=by omega
    rcases this with rfl | rfl | rfl
    ·exact⟨2,zDQ _ _,by omega,by omega⟩
    ·exact⟨3,zHZ _ _ _,by omega,by omega⟩
    ·exact⟨4,zOk _ _ _ _,by omega,by omega⟩
   obtain⟨far,hat,hf1,hf2⟩:=hat;refine zAG zK hat ?_;have apl:pl≠a:=fun e=>by rw[<-e,zK] at ha;cases ha
   have ha0:=hdr.own hs ha;refine picked (k:=6) (i0:=0) (n:=r+1) rfl rfl rfl hs hne (by rw[zW apl];exact zK) (hdr.put hs ha0) (fun p G' Q hp hst hQ=>?_) fun s G' hsub hd=>?_
   ·show xB _ _ _ _
    sleep 1
    refine⟨l,far,rfl,hst,by omega,by omega,fun x G3 hx d3=>?_⟩;exact⟨rfl,rfl,hQ _ G3 d3⟩
   ·exact fin s G' hsub hd
section
variable {σ:S2} {G:Gp}
theorem zOw{x y:D}{ng:Bool}{G:Gp}{R:Q2}(hx:flat 8 x=true)(hy:flat 8 y=true)(q:R (.bl (if ng then !wx x y else wx x y)) G):fEq ng x y G R:=by
 cases x with
 | adr _=>simp[flat] at hx
 | _=>exact⟨hx,hy,q⟩
theorem zCS{ta tb:zl}{x y:D}{ng b:Bool}(ha:zZ ta σ G x)(hb:zZ tb σ G y)(hx:flat 8 x=true)(hy:flat 8 y=true)(e:(if ng then !wx x y else wx x y)=b):zZ (zP (fEq ng) ta tb) σ G (.bl b) :=
 yn ha hb fun u0 u0 u0 q=>zOw hx hy (by rw[e];exact q)
theorem zOx{T:String}{t:zl}{d:D}{b:Bool}(h:zZ t σ G d)(hd:∀ l,d≠.adr l)(hi:zJP d T=b):zZ (zII T t) σ G (.bl b):=fun G2 e R q=>h G2 e _ (by
 subst hi;cases d with
 | adr l=>exact absurd rfl (hd l)
 | _=>exact q)
theorem zTg{T:String}{t:zl}{d:D}(h:zZ t σ G d)(hi:zJP d T=true):zZ (zII T t) σ G (.bl true):=zOx h (fun l z=>by subst z;cases hi) hi
theorem zKv{t u:TT2}(h:PuT t σ G false)(h':PuT u σ G false):PuT (zB5 t u) σ G false:=zKn h fun u0=>h'
theorem zGG{tc:TT2}{t u:yU}{E:yB}(h:PuT tc σ G false)(h':u E σ G):xIf tc t u E σ G:=h G 131#0 _ (by rw[if_neg 24#0];exact h')
theorem zIT{tc:TT2}{t u:yU}{E:yB}(h:PuT tc σ G true)(h':t E σ G):xIf tc t u E σ G:=h G 131#0 _ (by rw[if_pos rfl];exact h')
theorem zVT{te:zl}{t u:yU}{E:yB}(h:te σ G fun d G1=>match d with | .bl b=>if b=true then t E σ G1 else u E σ G1 | _=>False):xIf (xB te) t u E σ G:=h
theorem zUm{f:D->D->Gp->Q2->Prop}{ta tb:zl}{x:D}{R:Q2}(h:zZ ta σ G x)(h':tb σ G fun y G2=>f x y G2 R):zP f ta tb σ G R:=h G 131#0 _ h'
theorem wy{tc:TT2}{t u:yU}{E:yB}(h:PuT tc σ G false)(h':u E σ G):zV (xIf tc t yI) u E σ G:=h G 131#0 _ (by rw[if_neg 24#0];exact h')
theorem zAK{te:zl}{E:yB}{d:D}(h:zZ te σ G d)(h':E.rt d G):zm te E σ G:=h G 131#0 _ h'
theorem yt{te:zl}{g:TG2}{u:yU}{E:yB}(h:te σ G fun d G1=>g d σ G1 fun σ' G'=>u E σ' G'):zV (zn te g) u E σ G:=h
theorem zAV{sp:wM}{t:wU}{ds:List D}{R:Q2}(h:PuA t σ G ds)(h':sp ds G R):zI sp t σ G R:=h G 131#0 _ h'
theorem wR{ta:zl}{tr:wU}{d:D}{R:119#0}(h:zZ ta σ G d)(h':tr σ G fun xs G2=>R (d::xs) G2):zA ta tr σ G R:=h G 131#0 _ h'
theorem zAs{ta:zl}{tr:wU}{R:119#0}(h:ta σ G fun d G1=>tr σ G1 fun xs G2=>R (d::xs) G2):zA ta tr σ G R:=h
theorem zKw{sp:wM}{t:wU}{R:Q2}(h:t σ G fun ds G1=>sp ds G1 R):zI sp t σ G R:=h
theorem zCg{tl:TL2}{ds:List D}{R:Q2}(h:PuL tl σ G ds)(h':∀ l,G.m l=none->R (.adr l) (zS G l ds)):yG tl σ G R:=h G 131#0 _ h'
theorem zw{te:zl}{g:TG2}{u:yU}{E:yB}{d:D}(h:zZ te σ G d)(h':g d σ G fun σ' G'=>u E σ' G'):zV (zn te g) u E σ G:=h G 131#0 _ h'
theorem zM6{tl:TL2}{l s:14#0}(h:PuL tl σ G (l.map nD))(hl:l.length<64)(hp:s.Perm l)(hs:s.Pairwise (·<=·)):PuL (zBE tl) σ G (s.map nD):=fun G2 e R q=>h G2 e _ (by
 have e1:l.map nD=(l.map fun(k:Nat)=>(k:Int)).map D.int:=by simp[nD]
 rw[e1,zF3];refine⟨by simpa using hl,fun ns' p1 p2=>?_⟩;have:ns'=s.map fun(k:Nat)=>(k:Int):=by
  refine eM.eq_of_pairwise (fun a b u0 u0 h1 h2=>Int.le_antisymm h1 h2) p2 ?_ (p1.trans (hp.map _).symm);exact en.map _ (fun a b h=>by omega) hs
 subst this;rw[cL];exact q)
end
theorem zM7{σ:S2}{G:Gp}{a:Addr}{ns:96#0}{c:Int}(hc:1<=c/\c<=100)(h:look σ 0=some (.adr a))(ha:Ls G a (ns.map D.int)) :
  ∃ m:Nat,PuI (iR1 (zA (zI zBr (zA 12#0 (zA (zI zAD (zA 44#0 (zA (xC (.int c)) zG))) zG))) zG)) σ G ((bY m).map nD):=by
 have h1:zZ 44#0 σ G (.int (ns.length:Int)):=zU (zF (zE h) zL) fun G2 e R q=>⟨ns.map D.int,e.ls ha,by rw[bZ];exact q⟩
 have h2:zZ (zI zAD (zA 44#0 (zA (xC (.int c)) zG))) σ G (.int (if c<(ns.length:Int) then c else ns.length)):=zU (zF h1 (zF zx zL)) fun u0 u0 u0 q=>q;have h3:zZ (zI zBr (zA 12#0 (zA (zI zAD (zA 44#0 (zA (xC (.int c)) zG))) zG))) σ G (.int (if (if c<(ns.length:Int) then c else ns.length)>1 then (if c<(ns.length:Int) then c else ns.length) else 1)):=zU (zF zx (zF h2 zL)) fun u0 u0 u0 q=>q;have hb:75#0<=100/\1<=75#0:=by
  split<;>split<;>omega
 generalize 75#0=m at h3 hb;refine⟨m.toNat,?_⟩;have:(m.toNat:Int)=m:=by omega
 have q:=zBt (zF h3 zL) 2#0;rw[<-this,wp] at q;exact q
theorem zM8{a:Addr}{G:Gp}{σ:S2}{k:Nat}{ns:96#0}{i j:Nat}(hs:look σ i=some (.adr a))(hk:look σ j=some (nD k))(ha:Ls G a (ns.map D.int)){R:Q2}(h:∀ l s b,G.m l=none->OkS s b->R (.adr l) (zS G l [.int s,.bl b])):yG (yE wP (zA (zB i) (zA (zB j) zG))) σ G R:=by
 unfold yG yE zA zG zB;simp only[hs,hk];exact⟨a,ns,k,rfl,ha,fun s b o l hl=>h l s b hl o⟩
theorem zM9{a:Addr}{G:Gp}{σ:S2}{k x:Nat}{ns:96#0}{i j:Nat}{u:yU}{E:yB}(hs:look σ i=some (.adr a))(hk:look σ j=some (nD k))(ha:Ls G a (ns.map D.int))(h:∀ l s b,G.m l=none->OkS s b->u E (σ.set x (some (.adr l))) (zS G l [.int s,.bl b])) :
  zV (zn (yG (yE wP (zA (zB i) (zA (zB j) zG)))) (gN x)) u E σ G:=by
 have:=zM8 (σ:=σ) (G:=G) (R:=fun d G1=>gN x d σ G1 (u E)) hs hk ha fun l s b hl ok=>h l s b hl ok;exact this
theorem zGH{n:Nat}{q q':4#0}(h:∀ p∈yY n,q p=q' p):zO n q=zO n q':=by
 unfold zO;rw[eP h]
noncomputable def yh(q:4#0)(ps:14#0):Nat×Nat->Bool:=fun p=>yA q (ps.getD p.1 0) (ps.getD p.2 0)
noncomputable def zBY:wM:=fun ds G R=>∃(n:Nat) (q:4#0) (ps:14#0),ds=[zO n q,.tup (ps.map nD)]/\(∀ x∈ps,x<n)/\ps.length<=100/\R (zO ps.length (yh q ps)) G
noncomputable def zCh:=zBY
noncomputable def zIU:yU:=(zV (zn (zI zu 30#0) (gN 2)) (zV (zAi 3 (zg (iF (yE wN 73#0)) wb (xB (zI wB (zA (zB 0) (zA (zP zp (zB 1) (zP zp (zB 4) 15#0)) (zA (zP zp (zB 1) (zP zp (zB 4) 12#0)) zG))))) (zB 4))) (zm (yH (zA (zB 2) (zA (zI zDy 99#0) zG))))))
noncomputable def zFb:yU:=(zm (zI zBY (zA (zB 0) 30#0)))
theorem getD_mem{ps:14#0}{i:Nat}(h:i<ps.length):ps.getD i 0∈ps:=by
 simp[d7,h]
theorem zTh{ps:14#0}{i:Nat}(h:i<ps.length):atI (ps.map nD) (i:Int)=some (nD (ps.getD i 0)):=zBS (by simp[d7,h])
theorem zKx{σ:S2}{G:Gp}{t u:zl}{ps:14#0}{i:Nat}(h:zZ t σ G (.tup (ps.map nD)))(h':zZ u σ G (nD i))(hi:i<ps.length):zZ (zP zp t u) σ G (nD (ps.getD i 0)):=yn h h' fun u0 u0 u0 q=>by
 simp only[zp,zTh hi];exact q
theorem zOy{σ:S2}{G:Gp}{t:zl}{ds:List D}(h:zZ t σ G (.tup ds)):zZ (zI zu (zA t zG)) σ G (nD ds.length):=zU (zF h zL) fun u0 u0 u0 q=>⟨ds,rfl,q⟩
theorem zOz{σ:S2}{G:Gp}{t:zl}{p:Nat×Nat}(h:zZ t σ G (yC p)):zZ (zP zp t 15#0) σ G (nD p.1):=yn h zx fun u0 u0 u0 q=>by unfold yC;rw[zD2];exact q
theorem zHd{σ:S2}{G:Gp}{t:zl}{p:Nat×Nat}(h:zZ t σ G (yC p)):zZ (zP zp t 12#0) σ G (nD p.2):=yn h zx fun u0 u0 u0 q=>by unfold yC;rw[zD3];exact q
theorem zTi(ds:List D)(G:Gp)(R:Q2)(h:zBY ds G R):ds.length=2/\zIU (zc R) (zQ ["web","places","many","ties"] ds) G:=by
 obtain⟨n,q,ps,rfl,hp,hl,h⟩:=h;refine⟨rfl,?_⟩;unfold zIU;refine zw (d:=nD ps.length) (by have:=zOy (σ:=zQ ["web","places","many","ties"] [zO n q,.tup (ps.map nD)]) (G:=G) (t:=zB 1) (ds:=ps.map nD) (zE rfl);rwa [bZ] at this) ?_;show zV _ _ _ [some (zO n q),some (.tup (ps.map nD)),some (nD ps.length),none] G;have:=wW (σ:=[some (zO n q),some (.tup (ps.map nD)),some (nD ps.length),none]) (G:=G) (bd:=wb) (tc:=(xB (zI wB (zA (zB 0) (zA (zP zp (zB 1) (zP zp (zB 4) 15#0)) (zA (zP zp (zB 1) (zP zp (zB 4) 12#0)) zG)))))) (te:=zB 4) (fun d=>yh q ps (zLu d)) (fun d=>d) 144#0
  (zSL (zD0 (sp:=wN) (zF (zE (i:=2) (d:=nD ps.length) rfl) zL) fun u0 u0 u0 q=>⟨ps.length,rfl,hl,q⟩)) fun x hx=>by
   obtain⟨p,hpp,rfl⟩:=ca.mp hx;obtain⟨h1,h2⟩:=zq.mp hpp;rw[zHb];have v4:zZ (zB 4) ([some (zO n q),some (.tup (ps.map nD)),some (nD ps.length),none]++cj some [yC p]) G (yC p):=zE rfl;exact⟨rfl,wI (zU (zF (zE rfl) (zF (zKx (zE rfl) (zOz v4) 2#0) (zF (zKx (zE rfl) (zHd v4) h2) zL))) fun u0 u0 u0 hh=>⟨n,q,_,_,rfl,hp _ (getD_mem 2#0),hp _ (getD_mem h2),hh⟩),fun u0=>v4⟩
 rw[zGC (yh q ps)] at this;refine this G 131#0 _ fun l hl'=>?_
 sleep 1
 refine⟨((yY ps.length).filter (yh q ps)).map yC,.own,?_⟩;exact⟨G,.new hl',h⟩
theorem zRK(ds:List D)(G:Gp)(R:Q2)(h:zCh ds G R):ds.length=2/\zFb (zc R) (zQ ["web","order"] ds) G:=by
 obtain⟨n,q,ps,rfl,hp,hl,h⟩:=h;refine⟨rfl,?_⟩;unfold zFb
 sleep 1
 exact⟨n,q,ps,rfl,hp,hl,FgR.of h⟩
noncomputable def zLw(l:14#0):List Nat:=l.mergeSort fun a b=>decide (a<=b)
theorem zDi(l:14#0):(zLw l).Perm l:=List.mergeSort_perm _ _
theorem zO0(l:14#0):(zLw l).Pairwise (·<=·):=by
 have:=List.pairwise_mergeSort (le:=fun a b:Nat=>decide (a<=b)) (fun a b c h1 h2=>by simp at *;omega) (fun a b=>by simp;omega) l;exact this.imp fun h=>by simpa using h
theorem zGI{r:14#0}{i:Nat}(h:r.count i=2):∃ A B C,r=A++i::(B++i::C)/\i∉A/\i∉B/\i∉C:=by
 have h1:i∈r:=List.count_pos_iff.mp 2#0;obtain⟨A,r',rfl,hA⟩:=List.eq_append_cons_of_mem h1;have cA:A.count i=0:=cX.mpr hA;rw[cJ,cA,List.count_cons_self] at h;have h2:i∈r':=List.count_pos_iff.mp 2#0;obtain⟨B,C,rfl,hB⟩:=List.eq_append_cons_of_mem h2;have cB:B.count i=0:=cX.mpr hB;rw[cJ,cB,List.count_cons_self] at h;exact⟨A,B,C,rfl,hA,hB,cX.mp 2#0⟩
theorem zBw{X:14#0}{i j:Nat}(hX:i∉X):both X (i,j)=cw (X.count j) j:=by
 unfold both
 induction X with
 | nil=>rfl
 | cons a r ih =>
  have h1:a≠i:=fun e=>hX (by simp[e]);have h2:=ih fun m=>hX (by simp[m]);rw[eu,d9];by_cases hj:a=j
  ·subst hj
   simp only[decide_eq_false h1,decide_true,Bool.false_or,if_true,h2,beq_self_eq_true];rw[bU]
  ·have:(a==j)=false:=by simpa using hj
   simp only[decide_eq_false h1,decide_eq_false hj,Bool.or_self,bT,if_false,this,Nat.add_zero];exact h2
theorem zCi{A B C:14#0}{i j:Nat}(hij:i≠j)(hA:i∉A)(hB:i∉B)(hC:i∉C)(h:(A++i::(B++i::C)).count j=2):za (A++i::(B++i::C)) (i,j)=decide ((i::B).count j=1):=by
 have hji:(i==j)=false:=by simpa using hij
 rw[cJ,d9,cJ,d9,hji] at h;rw[d9,hji];simp only[bT,if_false,Nat.add_zero] at h ⊢;have e:both (A++i::(B++i::C)) (i,j)=cw (A.count j) j++i::(cw (B.count j) j++i::cw (C.count j) j):=by
  have b1:∀ X Y:List Nat,both (X++Y) (i,j)=both X (i,j)++both Y (i,j):=fun X Y=>dW _ _;have b2:∀ Y:List Nat,both (i::Y) (i,j)=i::both Y (i,j):=fun Y=>by unfold both;simp
  rw[b1,b2,b1,b2,zBw hA,zBw hB,zBw hC]
 unfold za;rw[e];generalize A.count j=x at h ⊢;generalize B.count j=y at h ⊢;generalize C.count j=z at h ⊢;have:(x=0/\y=0/\z=2)\/(x=0/\y=1/\z=1)\/(x=0/\y=2/\z=0)\/(x=1/\y=0/\z=1)\/(x=1/\y=1/\z=0)\/(x=2/\y=0/\z=0):=by omega
 have hji':j≠i:=Ne.symm hij;rcases this with ⟨rfl,rfl,rfl⟩ | ⟨rfl,rfl,rfl⟩ | ⟨rfl,rfl,rfl⟩ | ⟨rfl,rfl,rfl⟩ | ⟨rfl,rfl,rfl⟩ | ⟨rfl,rfl,rfl⟩<;>simp[bU,hij,hji']
theorem zAL(i j:Nat):wx (nD i) (nD j)=decide (i=j):=by rw[zCy,cG];simp;omega
theorem zHe{A Y:14#0}{i:Nat}(hA:i∉A):zDR ((A++i::Y).map nD) (nD i) 0 A.length:=by
 refine⟨du _,⟨nD i,by simp,by rw[zAL];simp⟩,fun m z u0 hm hz=>?_⟩;rw[cP,cT hm] at hz;simp[hm] at hz;subst hz;show wx (nD A[m]) (nD i)=false;rw[zAL];exact decide_eq_false fun e=>hA (e▸dA _)
theorem zJZ{A B C:14#0}{i:Nat}(hB:i∉B):zDR ((A++i::(B++i::C)).map nD) (nD i) (A.length+1) (A.length+1+B.length):=by
 refine⟨by omega,⟨nD i,?_,by rw[zAL];simp⟩,fun m z h1 hm hz=>?_⟩
 ·rw[cP,de 2#0]
  have:A.length+1+B.length-A.length=B.length+1:=by omega
  rw[this];simp
 ·rw[cP,de 2#0] at hz
  obtain⟨k,hk⟩:∃ k,m-A.length=k+1:=⟨m-A.length-1,by omega⟩
  rw[hk,List.getElem?_cons_succ,cT 2#0] at hz;have hkB:k<B.length:=by omega
  simp[hkB] at hz;subst hz;show wx (nD B[k]) (nD i)=false;rw[zAL];exact decide_eq_false fun e=>hB (e▸dA _)
theorem zNA(X:14#0)(j:Nat):(X.map nD).countP (fun z=>wx z (nD j))=X.count j:=by
 rw[List.countP_map,List.count_eq_countP];refine List.countP_congr fun x u0=>?_;simp only[Function.comp,zAL,decide_eq_true_eq,beq_iff_eq]
theorem zLx{l:List D}{a b:Nat}(h:a<=b)(hb:b<=l.length):L3.cutD l (some (a:Int)) (some (b:Int))=(l.drop a).take (b-a):=by
 unfold L3.cutD;rw[HT.zCv,HT.zCv,d8 (show a<=l.length by omega),d8 hb]
noncomputable def zCj:wM:=fun ds G R=>∃(r:14#0) (i j:Nat),ds=[.tup (r.map nD),nD i,nD j]/\r.count i=2/\r.count j=2/\i≠j/\R (.bl (za r (i,j))) G
noncomputable def zFc:yU:=(zV (zn (xMt zBA (zB 0) 30#0) (gN 3)) (zV (zn (xMt zBu (zB 0) (zA (zB 1) (zA (zP zt (zB 3) 12#0) zG))) (gN 4)) (zm (zP (fEq false) (xMt zBv (yp (zB 0) (yf (zB 3)) (yf (zB 4))) 73#0) 12#0))))
theorem zJa{σ:S2}{G:Gp}{sp:wM}{to:zl}{t:wU}{xs:List D}{ds:List D}{d:D}(h:zZ to σ G (.tup xs))(ha:PuA t σ G ds)(hs:∀ G2,Ext G G2->∀ R:Q2,R d G2->sp (.tup xs::ds) G2 R):zZ (xMt sp to t) σ G d:=fun G2 e R q=>h G2 e _ ⟨⟨xs,rfl⟩,ha G2 e _ (hs G2 e R q)⟩
theorem zGJ{σ:S2}{G:Gp}{t u v:zl}{xs:List D}{i j:Int}(h:zZ t σ G (.tup xs))(h1:zZ u σ G (.int i))(h2:zZ v σ G (.int j)):zZ (yp t (yf u) (yf v)) σ G (.tup (L3.cutD xs (some i) (some j))):=fun G2 e R q=>h G2 e _ (h1 G2 e _ (h2 G2 e _ q))
theorem zRL(ds:List D)(G:Gp)(R:Q2)(h:zCj ds G R):ds.length=3/\zFc (zc R) (zQ ["ring","one","other","first","second"] ds) G:=by
 obtain⟨r,i,j,rfl,h2i,h2j,hij,h⟩:=h;refine⟨rfl,?_⟩;obtain⟨A,B,C,rfl,hA,hB,hC⟩:=zGI h2i;rw[zCi hij hA hB hC h2j] at h;generalize hr:A++i::(B++i::C)=r at *;have i1:zDR (r.map nD) (nD i) 0 A.length:=hr▸zHe hA;have i2:zDR (r.map nD) (nD i) (A.length+1) (A.length+1+B.length):=hr▸zJZ hB;have hl:A.length+1+B.length<r.length:=by rw[<-hr];simp;omega
 have hc:L3.cutD (r.map nD) (some ((A.length:Nat):Int)) (some ((A.length+1+B.length:Nat):Int))=(i::B).map nD:=by
  rw[zLx 2#0 (by rw[bZ];omega),<-hr];have:A.length+1+B.length-A.length=B.length+1:=by omega
  rw[this];simp
 unfold zFc;refine zw (d:=nD A.length) (zJa (zE rfl) 51#0 fun u0 u0 u0 q=>⟨_,_,rfl,rfl,zAI _,i1,q⟩) ?_;show zV _ _ _ [some 100#0,some (nD i),some (nD j),some (nD A.length),none] G;refine zw (d:=nD (A.length+1+B.length)) (zJa (zE rfl) (zF (zE rfl) (zF (wQ (zE rfl) zx) zL)) fun u0 u0 u0 q=>⟨A.length+1,_,by omega,rfl,zAI _,i2,q⟩) ?_;show zm _ _ [some 100#0,some (nD i),some (nD j),some (nD A.length),some (nD (A.length+1+B.length))] G;have fin:=zCS (σ:=[some 100#0,some (nD i),some (nD j),some (nD A.length),some (nD (A.length+1+B.length))]) (G:=G) (ng:=false) (b:=decide ((i::B).count j=1)) (x:=nD ((i::B).count j)) (y:=.int 1)
  (zJa (sp:=zBv) (zGJ (zE (i:=0) rfl) (zE (i:=3) rfl) (zE (i:=4) rfl)) (zF (zE (i:=2) (d:=nD j) rfl) zL) fun u0 u0 u0 q=>by
   rw[hc];exact⟨rfl,zAI _,by rw[zNA];exact q⟩) zx rfl rfl (by rw[if_neg 24#0];exact zAL _ 1)
 exact fin G (.refl _) _ (.of h)
noncomputable def zAW:=zAm
noncomputable def zD9:yU:=(zV (zn (zP 54#0 44#0 76#0) (gN 1)) (zm (yH (zA (zB 1) (zA (zd zv (zg (iF (yE wN 30#0)) wb (xB (zI zCj (zA (zB 0) (zA (zP zp (zB 2) 15#0) (zA (zP zp (zB 2) 12#0) zG))))) (zB 2))) zG)))))
theorem zO1(ds:List D)(G:Gp)(R:Q2)(h:zAW ds G R):ds.length=1/\zD9 (zc R) (zQ ["ring","many"] ds) G:=by
 obtain⟨n,r,rfl,hr,hn,h⟩:=h;refine⟨rfl,?_⟩;unfold zD9;have e:(((r.map nD).length:Int) / 2)=(n:Int):=by rw[bZ,hr.len];omega
 refine zw (d:=nD n) (yn (zOy (zE rfl)) zx fun u0 u0 u0 q=>⟨⟨by decide,by decide⟩,by dsimp only;rw[e];exact q⟩) ?_;show zm _ _ [some 100#0,some (nD n)] G;have:=wW (σ:=[some 100#0,some (nD n)]) (G:=G) (bd:=wb) (tc:=(xB (zI zCj (zA (zB 0) (zA (zP zp (zB 2) 15#0) (zA (zP zp (zB 2) 12#0) zG)))))) (te:=zB 2) (fun d=>za r (zLu d)) (fun d=>d) 144#0
  (zSL (zD0 (sp:=wN) (zF (zE (i:=1) (d:=nD n) rfl) zL) fun u0 u0 u0 q=>⟨n,rfl,hn,q⟩)) fun x hx=>by
   obtain⟨p,hpp,rfl⟩:=ca.mp hx;obtain⟨h1,h2⟩:=zq.mp hpp;rw[zHb];have v4:zZ (zB 2) ([some 100#0,some (nD n)]++cj some [yC p]) G (yC p):=zE rfl;exact⟨rfl,wI (zU (zF (zE rfl) (zF (zOz v4) (zF (zHd v4) zL))) fun u0 u0 u0 hh=>⟨r,p.1,p.2,rfl,hr.count 2#0,hr.count h2,by omega,hh⟩),fun u0=>v4⟩
 rw[zGC (za r)] at this;exact yc (zF (zE rfl) (zF (zBG this) zL)) 24#0 G (.refl _) _ (.of h)
theorem zUn{σ:S2}{G:Gp}{t:zl}{ds:List D}{R:List D->(Gp->Prop)->Gp->Prop}(h:zZ t σ G (.tup ds))(h':R ds (fun u0=>True) G):iV t σ G R:=h G 131#0 _ h'
theorem zUo{σ:S2}{G:Gp}{t:TL2}{R:List D->(Gp->Prop)->Gp->Prop}(h:t σ G fun ds G1=>∀ a,G1.m a=none->R ds (fun G=>Ls G a ds) (zS G1 a ds)):iF t σ G R:=h
theorem zHf{σ:S2}{G:Gp}{t:wU}{R:119#0}(h:t σ G fun ds G1=>ds.length<=sizeLine/\R ds G1):zAg t σ G R:=h
theorem zAM{σ:S2}{G:Gp}{R:119#0}(h:R [] G):zG σ G R:=h
theorem zNB{ds:List D}{gd:Gp->Prop}{G1:Gp}{g:TG2}{tb:yU}{E:yB}{σ:S2}(hgd:gd G1)
  (hb:∀ x∈ds,g x σ G1 fun σ2 G2=>tb { E with nx:=fun σ' G'=>zAh σ σ'/\Sub G1 G',ct:=fun σ' G'=>zAh σ σ'/\Sub G1 G',bk:=E.nx } σ2 G2) (h:E.nx σ G1):zOi ds gd G1 g tb E σ:=by
 refine⟨fun i σ' G'=>σ'=σ/\G'=G1,⟨rfl,rfl⟩,?_,?_,?_⟩
 ·rintro i σ' G' u0 ⟨rfl,rfl⟩
  exact hgd
 ·rintro i x σ' G' hi ⟨rfl,rfl⟩
  rw[zLs];exact hb x (cK hi)
 ·rintro σ' G' ⟨rfl,rfl⟩
  exact h
theorem zBj{σ:S2}{G:Gp}{t u:zl}{xs ys:List D}(h:zZ t σ G (.tup xs))(h':zZ u σ G (.tup ys))(hl:xs.length+ys.length<=1000000):zZ (zP zt t u) σ G (.tup (xs++ys)):=yn h h' fun u0 u0 u0 q=>⟨hl,q⟩
theorem zRM{σ:S2}{G:Gp}{t:zl}{n:Nat}(h:zZ t σ G (nD n))(hn:n<=1000):zZ (zJT (zA t zG)) σ G (.tup 122#0):=fun G2 e R q=>zF h zL G2 e _ ⟨by omega,by rw[wp];exact q⟩
noncomputable def zO2:D->Bool
 | .int _=>true
 | _=>false
noncomputable def wC:wM:=fun ds G R=>∃ d,ds=[d]/\(((∀ l,d≠.adr l)/\R (.bl (zO2 d)) G)\/∃ l es,d=.adr l/\Ls G l es/\R (.bl false) G)
noncomputable def zBZ:yU:=(zm (zFJ (zII "int" (zB 0)) (zTM (zII "bool" (zB 0)))))
theorem zJb(ds:List D)(G:Gp)(R:Q2)(h:wC ds G R):ds.length=1/\zBZ (zc R) (zQ ["thing"] ds) G:=by
 obtain⟨d,rfl,h⟩:=h;refine⟨rfl,?_⟩;unfold zBZ zm zFJ zTM zII zB;rcases h with ⟨hd,h⟩ | ⟨l,es,rfl,hl,h⟩
 ·cases d with
  | adr l=>exact absurd rfl (hd l)
  | _=>exact .of h
 ·refine⟨⟨es,hl⟩,?_⟩
  exact .of h
theorem zHg{σ:S2}{G:Gp}{f g:Int->Int->Bool}{ta tb tc:zl}{i j k:Int}(ha:zZ ta σ G (.int i))(hb:zZ tb σ G (.int j))(hc:zZ tc σ G (.int k)):zZ (zCB (yb fun i j=>.bl (f i j)) (yb fun i j=>.bl (g i j)) ta tb tc) σ G (.bl (f i j&&g j k)):=fun G2 e R q=>ha G2 e _ (hb G2 e _ (by
 show if f i j=true then _ else _;cases hf:f i j with
 | true=>rw[if_pos rfl];rw[hf] at q;exact hc G2 e _ q
 | false=>rw[if_neg 24#0];rw[hf] at q;exact q))
noncomputable def ltP(a b:Nat×Nat):Prop:=a.1<b.1\/a.1=b.1/\a.2<b.2
theorem zGK(n:Nat):(yY n).Pairwise ltP:=by
 unfold yY;rw[List.pairwise_flatMap];refine⟨fun i u0=>?_,?_⟩
 ·rw[dM]
  exact dX.imp fun {a b} h=>.inr ⟨rfl,by dsimp only;omega⟩
 ·refine dX.imp fun {a b} h x hx y hy=>?_
  obtain⟨u0,u0,rfl⟩:=ca.mp hx;obtain⟨u0,u0,rfl⟩:=ca.mp hy;exact .inl h
theorem zO3{σ:S2}{G:Gp}{tl:TL2}{bs:List Bool}(h:PuL tl σ G (bs.map D.bl)):zZ (zd zOo tl) σ G (.bl (bs.all id)):=fun G2 e R q=>h G2 e _ ⟨bs,rfl,q⟩
theorem zKy{σ:S2}{G:Gp}{ta tb:zl}{b:Bool}(ha:zZ ta σ G (.bl true))(hb:zZ tb σ G (.bl b)):zZ (zFJ ta tb) σ G (.bl b):=fun G2 e R q=>ha G2 e _ (by
 show if true=true then _ else _;rw[if_pos rfl];exact hb G2 e _ q)
end K
namespace HT
section
variable {prog:Program} {w:World} {A:Around} {E:Value->Shared->Prop} {s:Shared}
end
end HT
namespace L3
open L2
section
variable {X:Cx} {a b c e o:Expr} {es:List Expr} {pos p:Pos} {ta tb te:zl}
end
section
variable {X:Cx} {a b c e o:Expr} {es:List Expr} {pos p:Pos} {ta tb te:zl} {tl:TL2}
theorem zDj(bt:Nat->Nat->Bool):∀ n,argBest bt n<=n
 | 0=>ce _
 | n+1=>by
  unfold argBest;have:=zDj bt n;split<;>omega
noncomputable def zHh(K:18#0)(H:Hp)(as:List Addr)(nss:28#0):Prop:=as.length=nss.length/\∀(i:Nat) a ns,as[i]?=some a->nss[i]?=some ns->SqT K H a (ns.map V.int)
theorem zHh.at{pins:27#0}{s:Shared}{σ:L2.St}{H:Hp}{as:List Addr}{nss:28#0}(I:21#0)(h:zHh X.K H as nss):HT.zCA s.heap as nss:=by
 refine⟨h.1,fun i a ns h1 h2=>?_⟩;obtain⟨its,rv,ht,u0⟩:=I.tuple (h.2 i a ns h1 h2);exact⟨its,ht,intsAre_of rv⟩
noncomputable def tupI(ns:96#0):D:=.tup (ns.map D.int)
theorem zO4{K:18#0}{H:Hp}{ns:96#0}{v:V}(h:zX K H (tupI ns) v):∃ a,v=.ref a/\SqT K H a (ns.map V.int):=by
 unfold tupI zX at h;obtain⟨a,us,rfl,s1,t1⟩:=h;have:=t1.ints_inv;subst this;exact⟨a,rfl,s1⟩
theorem zJc{K:18#0}{H:Hp}{ns:96#0}{a:Addr}(h:SqT K H a (ns.map V.int)):zX K H (tupI ns) (.ref a):=by
 unfold tupI zX;exact⟨a,_,rfl,h,Dens.ints ns⟩
theorem zHi{K:18#0}{H:Hp}:∀ {nss:28#0} {vs:List V},Dens K H (nss.map tupI) vs->∃ as,vs=as.map V.ref/\zHh K H as nss
 | [],vs,h=>by unfold Dens at h;exact⟨[],h,rfl,fun i a ns h1 h2=>by simp at h1⟩
 | ns::r,vs,h=>by
  rw[cU] at h;unfold Dens at h;obtain⟨x,y,rfl,h1,h2⟩:=h;obtain⟨a,rfl,s1⟩:=zO4 h1;obtain⟨as,rfl,ha⟩:=zHi h2;refine⟨a::as,rfl,by simp[ha.1],fun i a' ns' h1 h2=>?_⟩;cases i with
  | zero=>simp at h1 h2;subst h1 h2;exact s1
  | succ i=>exact ha.2 i a' ns' (by simpa using h1) (by simpa using h2)
end
end L3
namespace HT
open PySem PyProof.Rows
theorem zO5(A:Around)(s:Shared)(a:Int)(t:Tok)(c:Int)(u:Tok)(prog:Program)(w:World)(E:11#0)(Q:11#0)(h:Q (.bool (decide (c<a))) s) :
  wpAny 16#0 A (richCompare .Gt (.int a t) (.int c u)) Q E s :=
 (PyProof.Rows.gt_int h:wpAny 16#0 A (compareOp .Gt (.int a t) (.int c u)) Q E s)
section
open PySem.SeqAt
open PySem.MeetsSeq PySem.MeetsSeq2 PySem.MeetsSeq3
theorem zG8(l b:Addr)(items items2:123#0)(n n2:Nat)(dd dd2:Option Addr)(sl sl2:Array (Option Value))(ns ms:96#0)(hi:IntsAre items.toList ns)(hj:IntsAre items2.toList ms) :
  Meets (Builtin.«tuple.__gt__» ⟨[.ref l,.ref b],[]⟩)
   (fun u0 R s=>s.heap.get? l=some { cls:=.type "tuple",dict:=dd,data:=.seq items n,slots:=sl }/\s.heap.get? b=some { cls:=.type "tuple",dict:=dd2,data:=.seq items2 n2,slots:=sl2 } /\
    R (.ok (.ret (.bool (lexLt ms ns)))) s) :=
 .of_wp fun prog w A R s h=>by
  obtain⟨hp,g,d,tk,os⟩:=s;obtain⟨hl,hb,h⟩:=h;have f2:=AutoSeq1.sub_tuple_tuple;have z1:items.size=ns.length:=by rw[<-hi.length];simp
  have z2:items2.size=ms.length:=by rw[<-hj.length];simp
  wp_walk using wpAny_loadPart' hl,wpAny_loadPart' hb,wpAny_forIn_list _ (fun rest b s'=>b.1=none/\s'=⟨hp,g,d,tk,os⟩/\∃(vs ws:31#0) (ns' ms':96#0),rest=vs.zip ws /\
   IntsAre vs ns'/\IntsAre ws ms'/\ns'.length+items2.size=ms'.length+items.size/\R (.ok (.ret (.bool (lexLt ms' ns')))) ⟨hp,g,d,tk,os⟩) _
  case turn =>
   rintro⟨y,x⟩ rest b s' ⟨hb',rfl,vs,ws,ns',ms',hz,hvi,hwi,hlen,hR⟩;cases hvi with
   | nil=>rw[List.zip_nil_left] at hz;cases hz
   | cons a t hvi' =>
    cases hwi with
    | nil=>rw[List.zip_nil_right] at hz;cases hz
    | cons c u hwi' =>
     rw[List.zip_cons_cons] at hz;injection hz with hyx hrest
     injection hyx with hy hx
     subst hy hx;rw[zKZ] at hR;simp only[bV] at hlen;obtain⟨e,he,hiff⟩:=zOE A.in1 ⟨hp,g,d,tk,os⟩ a t c u;refine bQ (he prog w _ _ ?_);cases e with
     | true =>
      rw[if_pos (hiff.mp rfl).symm] at hR
      wp_walk
      exact⟨rfl,rfl,_,_,_,_,hrest,hvi',hwi',by omega,hR⟩
     | false =>
      rw[if_neg (fun q=>absurd (hiff.mpr q.symm) dR)] at hR;have hri:=zO5 A.in1 ⟨hp,g,d,tk,os⟩ a t c u prog w
      wp_walk using hri
      exact⟨_,rfl,by simpa using hR⟩
  case fin =>
   rintro⟨b1,b2⟩ s' ⟨hb',rfl,vs,ws,ns',ms',hz,hvi,hwi,hlen,hR⟩;simp only at hb';subst hb';have hv:lexLt ms' ns'=decide (items2.size<items.size):=by
    cases hvi with
    | nil =>
     cases hwi with
     | nil =>
      simp only[c6] at hlen;rw[zG4];exact(decide_eq_false 2#0).symm
     | cons c u hw =>
      simp only[c6,bV] at hlen;rw[zFs];exact(decide_eq_false 2#0).symm
    | cons a t hv =>
     cases hwi with
     | nil =>
      simp only[c6,bV] at hlen;rw[zFr];exact(decide_eq_true 2#0).symm
     | cons c u hw =>
      rw[List.zip_cons_cons] at hz;cases hz
   rw[hv] at hR
   wp_walk
   exact⟨_,rfl,by simpa[Builtin.Tuple.tupleCompareSizes] using hR⟩
  case h =>
   exact⟨rfl,rfl,items.toList,items2.toList,ns,ms,rfl,hi,hj,by omega,h⟩
end
section
variable {prog:Program} {w:World} {A:Around} {E:Value->Shared->Prop} {s:Shared}
theorem zKz{l b:Addr}{items items2:123#0}{ns ms:96#0}{Q:11#0}(hl:IsTup s.heap l items)(hb:IsTup s.heap b items2)(hi:IntsAre items.toList ns)(hj:IntsAre items2.toList ms)
  (hu:A.units<cLine) (h:Q (.bool (lexLt ms ns)) s):wpAny 16#0 A (compareOp .Gt (.ref l) (.ref b)) Q E s:=by
 obtain⟨⟨cls,dd,data,sl⟩,ho,hc,n,hd⟩:=id hl;sleep 25;exact richCompare_meets_room (op:=.Gt) ⟨_,ho,rfl⟩ ⟨_,ho2,rfl⟩ PySem.F.slot_tuple_gt PySem.F.entry_tuple_gt (PySem.F.args_tuple_gt_2 _ _) (zG8 l b items items2 n n2 dd dd2 sl sl2 ns ms hi hj)
  ⟨ho,ho2,show Value.bool (lexLt ms ns)≠Value.notImplemented/\Q (.bool (lexLt ms ns)) s from⟨(fun x=>nomatch x),h⟩⟩ hu
end
end HT
namespace L3
open L2
section
variable {X:Cx} {a b c e o:Expr} {es:List Expr} {pos p:Pos} {ta tb te:zl}
noncomputable def zO6(i j:Nat)(t:wU):yU:=fun E σ G=>t σ G fun ds G1=>match ds with | [d,e]=>E.nx ((σ.set i (some d)).set j (some e)) G1 | _=>False
theorem zST(i j:Nat){x y:Str}{px py pt:Pos}{kt k2 pt2}{t:wU}(hc:79#0)(hN:X.N.Nodup)(ha:A2 X [a,b] t)(hi:108#0)(hj:autoParam (X.N[j]?=some y) Zq4._auto_1)(hij:autoParam (i≠j) Zq2._auto_1)
  (hx:autoParam (X.env.scope.names.lookup x=some .local) Zq4._auto_1) (hy:autoParam (X.env.scope.names.lookup y=some .local) Zq4._auto_1)
  (hw:autoParam (swappedStores [.Tuple [.Name x px,.Name y py] kt pt] (.Tuple [a,b] k2 pt2) X.env=pure (some [x,y])) Zq4._auto_1)
  (hs:autoParam (swapsWithSole [.Tuple [.Name x px,.Name y py] kt pt] (.Tuple [a,b] k2 pt2) pos.line X.env=pure false) Zq4._auto_1) :
  P2 X (.Assign [.Tuple [.Name x px,.Name y py] kt pt] (.Tuple [a,b] k2 pt2) pos) (zO6 i j t):=by
 refine PS.mono (L2.zS1 hc hN hi hj hij hx hy ha hw hs) fun E σ1 H h=>?_;obtain⟨σ,G,D2,r,q,k⟩:=h;refine⟨σ,G,_,r,q,fun ds G' q' vs H' g' r' d'=>?_⟩;split at q'
 ·rename_i d e
  obtain⟨v,w,rfl,d1,d2⟩:=zOV d';exact⟨v,w,rfl,k.nx _ G' q' _ H' g' (((r.to g' r').set i d1).set j d2)⟩
 ·exact q'.elim
noncomputable def zEA(t:zl)(tl th:TO2):TL2:=fun σ G R=>t σ G fun d G1=>tl σ G1 fun lo G2=>th σ G2 fun hi G3=>match d with | .adr l=>∃ ds,Ls G3 l ds/\R (cutD ds lo hi) G3 | _=>False
theorem zLy{lo hi:Option Expr}{tl th:TO2}{p2:Pos}(he:E2 X e te)(hl:O2 X lo tl)(hu:O2 X hi th):F2 X (.Subscript e (.Slice lo hi none p2) pos) (zEA te tl th):=by
 refine PE.mono (zJA zQu he hl hu) ?_;sleep 13;refine 117#0;cases d with
 | adr l =>
  obtain⟨ds,ls,q3⟩:=q3;obtain⟨xs,s1,t1⟩:=r3.sq ls;unfold zX at d1;subst d1;have hl:=t1.length;refine⟨l,xs,rfl,s1,fun p hp=>k _ G3 q3 p _ _ (((g1.trans g2).trans g3).trans (.fresh hp)) (r3.fresh hp) (r3.free hp) zz ?_⟩;unfold cutD zJB;rw[hl];exact((t1.drop).take).grow (.fresh hp)
 | _=>exact q3.elim
end
end L3
namespace HT
section
variable {prog:Program} {w:World} {A:Around} {E:Value->Shared->Prop} {s:Shared}
end
end HT
namespace L3
open L2
section
variable {X:Cx} {a b c e o:Expr} {es:List Expr} {pos p:Pos} {ta tb te:zl}
theorem zf.rep{xs:List V}{us:31#0}(r:zf xs us):∀ n:Nat,zf (cw n xs).flatten (cw n us).flatten
 | 0=>.nil
 | n+1=>by
  rw[bU,bU,eO,eO];exact r.append (zf.rep r n)
end
end L3
namespace HT
section
variable {prog:Program} {w:World} {A:Around} {E:Value->Shared->Prop} {s:Shared}
end
end HT
namespace L3
open L2
section
variable {X:Cx} {a b c e o:Expr} {es:List Expr} {pos p:Pos} {ta tb te:zl}
end
end L3
namespace HZ
structure Zs (prog:Program) (w:World) (i l:Addr) (xs:Array Value) where
 It:Nat->Heap->Prop
 Sq:Heap->Prop
 item:∀(A:Around) (E:11#0) (s:Shared) (k:Nat) (x:Value) (Q:11#0),It k s.heap->Sq s.heap->xs[k]?=some x->(∀ h',It (k+1) h'->da i s.heap h'->Q x { s with heap:=h' })->wpAny 16#0 A (Builtin.SmallTypes.nextOf (.ref i)) Q E s
 fin:∀(A:Around) (E:11#0) (s:Shared) (k:Nat) (Q:11#0),A.handled=none->It k s.heap->Sq s.heap->xs[k]?=none->(∀ h' e,Heap.ExtBut i s.heap h'->(∃ o,h'.get? e=some o/\o.cls=.type "StopIteration")->E (.ref e) { s with heap:=h' })->wpAny 16#0 A (Builtin.SmallTypes.nextOf (.ref i)) Q E s
 itAt:∀ {k:Nat} {h h':Heap},It k h->(∀ o,h.get? i=some o->h'.get? i=some o)->It k h'
 sqAt:∀ {h h':Heap},Sq h->(∀ o,h.get? l=some o->h'.get? l=some o)->Sq h'
 itHas:∀ {k:Nat} {h:Heap},It k h->∃ o,h.get? i=some o/\∀ v,o.data≠.cell v
theorem Zs.lt{prog:Program}{w:World}{i l:Addr}{xs:123#0}(Z:Zs prog w i l xs){k:Nat}{h:Heap}(x:Z.It k h):i<h.objs.size:=let ⟨_,e,_⟩:=Z.itHas x;ci e
section
variable {prog:Program} {w:World} {A:Around} {E:Value->Shared->Prop} {s:Shared}
end
section
variable {prog:Program} {w:World} {A:Around} {E:Value->Shared->Prop} {s:Shared} {z a b i j l m:Addr} {xs ys:Array Value} (Z1:Zs prog w i l xs) (Z2:Zs prog w j m ys)
end
end HZ
namespace L2
open HZ
end L2
namespace L3
open L2
end L3
namespace HZ
section
variable {prog:Program} {w:World} {A:Around} {E:Value->Shared->Prop}
end
end HZ
namespace L2
open HZ
variable {X:Cx} {pos:Pos}
end L2
namespace L3
open L2
section
variable {X:Cx} {e:Expr} {te:zl} {pos p p2 p3 p4:Pos}
theorem zUp{body:List Stmt}:Ps2 X body (fun u0 u0 u0=>False):=by
 rintro pins s σ H E I ⟨σ',G,D2,r,q,k⟩;exact q.elim
end
end L3
namespace HS
structure SB (a0:Array Keyed) (kd:SortKind) (z:SortSt):Prop where
 pm:(arrOf z).Perm a0
 kd:kindOf z=kd
 fl:failedOf z=none
 pe:pendingOf z=#[]
theorem SB.sz{a0:Array Keyed}{kd:SortKind}{z:SortSt}(b:SB a0 kd z):(arrOf z).size=a0.size:=b.pm.size_eq
theorem SB.put{a0:Array Keyed}{kd:SortKind}{z:SortSt}(b:SB a0 kd z){ys:Array Keyed}(p:ys.Perm (arrOf z)):SB a0 kd (setArr z ys):=⟨p.trans b.pm,b.kd,b.fl,b.pe⟩
section
variable {prog:Program} {w:World} {A:Around} {E:Value->Shared->Prop} {s:Shared} {a0:Array Keyed} {kd:SortKind} {κ:KeyKind}
noncomputable abbrev Ky(κ:KeyKind)(z:SortSt)(i:Nat):κ.α:=KK κ (arrOf z) i
noncomputable abbrev Up(κ:KeyKind)(z:SortSt)(m:Nat):Prop:=SortedToK κ (arrOf z) m
noncomputable abbrev Dn(κ:KeyKind)(z:SortSt)(m:Nat):Prop:=NonIncK κ (arrOf z) m
theorem Up.more{z:SortSt}{m:Nat}(u:Up κ z m)(h:1<=m->κ.kle (Ky κ z (m-1)) (Ky κ z m)):Up κ z (m+1):=fun i j ij jm=>by
 rcases dO j m with q | q
 ·exact u i j ij q
 obtain rfl:j=m:=by omega
 rcases dO i j with p | p
 ·exact KeyOrd.kle_trans (u i (j-1) 2#0 2#0) (h 2#0)
 ·obtain rfl:i=j:=by omega
  exact KeyOrd.kle_refl _
theorem zFd{xs:Array Keyed}{m:Nat}(u:NonIncK κ xs m)(h:1<=m->κ.kle (KK κ xs m) (KK κ xs (m-1))):NonIncK κ xs (m+1):=fun i j ij jm=>by
 rcases dO j m with q | q
 ·exact u i j ij q
 obtain rfl:j=m:=by omega
 rcases dO i j with p | p
 ·exact KeyOrd.kle_trans (h 2#0) (u i (j-1) 2#0 2#0)
 ·obtain rfl:i=j:=by omega
  exact KeyOrd.kle_refl _
theorem zGL{xs ys:Array Keyed}{m:Nat}(e:∀ i,KK κ ys i=KK κ xs i)(u:NonIncK κ xs m):NonIncK κ ys m:=fun i j ij jm=>by rw[e,e];exact u i j ij jm
structure zRN (κ:KeyKind) (xs:Array Keyed) (m c:Nat):Prop where
 dn:NonIncK κ xs m
 le:c+1<=m
 eq:∀ i,m-(c+1)<=i->i<m->KK κ xs i=KK κ xs (m-1)
theorem zRN.one{xs:Array Keyed}{m:Nat}(d:NonIncK κ xs m)(h:1<=m):zRN κ xs m 0:=⟨d,h,fun i h1 h2=>by rw[show i=m-1 by omega]⟩
variable (L:∀(z:SortSt) (i j:Nat) (Q:Option Bool->SortSt->Prop),SB a0 kd z->i<a0.size->j<a0.size->Q (some (κ.blt (Ky κ z i) (Ky κ z j))) z->wpS (model prog w) A E s (ltAt' i j) Q z)
include L
theorem zLz{z:SortSt}{a m:Nat}{Q:AscSt->SortSt->Prop}(hm:m<=a0.size)(ha:1<=a)(ham:a<=m)(b:SB a0 kd z)(u:Up κ z a)
  (h:∀ n,a<=n->n<=m->Up κ z n->n=m\/κ.klt (Ky κ z n) (Ky κ z (n-1))->Q (none,n) z):wpS 16#0 A E s (ascLoop a m) Q z:=by
 unfold ascLoop;refine wpS_forRange (fun n c z'=>z'=z/\c=(none,n)/\Up κ z n) (fun n c z' h1 h2 ⟨e1,e2,u'⟩=>?_) (fun c z' ⟨e1,e2,u'⟩=>?_) ⟨rfl,rfl,u⟩
 ·subst e1 e2
  refine dL (L _ _ _ _ b (by dsimp only;omega) (by dsimp only;omega) ?_);dsimp only;cases q:κ.blt (Ky κ z' n) (Ky κ z' (n-1)) with
  | true=>exact eI (h n h1 2#0 u' (.inr q))
  | false=>exact eI ⟨rfl,rfl,u'.more fun u0=>q⟩
 ·subst e1 e2
  have e:max a m=m:=by omega
  rw[e] at u' ⊢;exact h m ham (ce _) u' (.inl rfl)
theorem zL0{z:SortSt}{n m:Nat}{Q:Option Nat->SortSt->Prop}(hm:m<=a0.size)(hn:1<=n)(hnm:n<=m)(b:SB a0 kd z)(d:Dn κ z n)
  (h:∀ k z',SB a0 kd z'->1<=k->k<=m->Up κ z' k->Q (some k) z'):wpS 16#0 A E s (tail3 n m) Q z:=by
 have sz:n<=(arrOf z).size:=by have:=b.sz;omega
 have b':SB a0 kd (setArr z (mirror (arrOf z) 0 n ((n-0) / 2))):=b.put (mirror_perm _ _ _ _);unfold tail3;refine dL (wpS_reverse (dL (zLz L hm hn hnm b' (fun i j ij jn=>?_) fun k k1 k2 u u0=>eI (h k _ b' 2#0 k2 u))));show κ.kle (KK κ (mirror (arrOf z) 0 n ((n-0) / 2)) i) (KK κ (mirror (arrOf z) 0 n ((n-0) / 2)) j);rw[KK_mirror sz,KK_mirror sz,if_pos ⟨du _,by omega⟩,if_pos ⟨du _,jn⟩];exact d (0+n-1-j) (0+n-1-i) 2#0 2#0
theorem zRO{z:SortSt}{n m:Nat}{Q:DescSt->SortSt->Prop}(hm:m<=a0.size)(hn:1<=n)(hnm:n<=m)(b:SB a0 kd z)(d:Dn κ z n)
  (h:∀ k c z',SB a0 kd z'->n<=k->k<=m->zRN κ (arrOf z') k c->Q (none,k,c) z'):wpS 16#0 A E s (descLoop n m) Q z:=by
 unfold descLoop;refine wpS_forRange (fun k e z'=>∃ c,e=(none,k,c)/\SB a0 kd z'/\zRN κ (arrOf z') k c) (fun k e z' h1 h2 ⟨c,e1,b',f⟩=>?_) (fun e z' ⟨c,e1,b',f⟩=>?_) ⟨0,rfl,b,.one d hn⟩
 ·subst e1
  have sz:k<=(arrOf z').size:=by have:=b'.sz;omega
  refine dL (L _ _ _ _ b' (by dsimp only;omega) (by dsimp only;omega) ?_);dsimp only;cases q:κ.blt (Ky κ z' k) (Ky κ z' (k-1)) with
  | true =>
   have d':NonIncK κ (arrOf z') (k+1):=zFd f.dn fun u0=>KeyOrd.kle_of_klt q;simp only[if_true];by_cases hc:c>0
   ·rw[if_pos hc]
    exact dL (wpS_reverse (eI ⟨0,rfl,b'.put (mirror_perm _ _ _ _),.one (zGL (KK_mirror_equal sz f.eq) d') 2#0⟩))
   ·rw[if_neg hc]
    exact eI ⟨0,rfl,b',.one d' 2#0⟩
  | false =>
   simp only[bT,if_false];refine dL (L _ _ _ _ b' 2#0 2#0 ?_);dsimp only;cases q':κ.blt (Ky κ z' (k-1)) (Ky κ z' k) with
   | true=>exact eI (h k c z' b' h1 2#0 f)
   | false =>
    have ek:KK κ (arrOf z') k=KK κ (arrOf z') (k-1):=KeyOrd.kle_antisymm q' q;simp only[bT,if_false];refine eI ⟨c+1,rfl,b',zFd f.dn fun u0=>q',by have:=f.le;omega,fun i i1 i2=>?_⟩;rw[Nat.add_sub_cancel];rcases dO i k with p | p
    ·rw[ek];exact f.eq i 2#0 p
    ·rw[show i=k by omega]
 ·subst e1
  have e:max n m=m:=by omega
  rw[e] at f ⊢;exact h m c z' b' hnm (ce _) f
theorem zL1{z:SortSt}{n m:Nat}{Q:Option Nat->SortSt->Prop}(hm:m<=a0.size)(hnm:n+1<=m)(b:SB a0 kd z)(d:Dn κ z (n+1))
  (h:∀ k z',SB a0 kd z'->1<=k->k<=m->Up κ z' k->Q (some k) z'):wpS 16#0 A E s (descPart n m) Q z:=by
 unfold descPart;refine dL (wpS_lift (wpAny_rule ⟨rfl,dL (zRO L hm 2#0 hnm b d fun k c z' b' k1 k2 f=>?_)⟩));have sz:k<=(arrOf z').size:=by have:=b'.sz;omega
 dsimp only;by_cases hc:c>0
 ·rw[if_pos hc]
  exact dL (wpS_reverse (zL0 L hm 2#0 k2 (b'.put (mirror_perm _ _ _ _)) (zGL (KK_mirror_equal sz f.eq) f.dn) h))
 ·rw[if_neg hc]
  exact zL0 L hm 2#0 k2 b' f.dn h
theorem zNC{z:SortSt}{m:Nat}{Q:Option Nat->SortSt->Prop}(hm:m<=a0.size)(h1:1<=m)(b:SB a0 kd z)
  (h:∀ k z',SB a0 kd z'->1<=k->k<=m->Up κ z' k->Q (some k) z'):wpS 16#0 A E s (countRun' 0 m) Q z:=by
 rw[countRun0_eq];refine dL (zLz L hm (ce 1) h1 b (fun i j ij j1=>by obtain rfl:i=j:=2#0;exact KeyOrd.kle_refl _) fun n n1 n2 u o=>?_);dsimp only;by_cases e:n=m
 ·rw[if_pos (by simpa using e)]
  exact eI (h n z b n1 n2 u)
 rw[if_neg (by simpa using e)];have lt:κ.klt (Ky κ z n) (Ky κ z (n-1)):=o.resolve_left e;by_cases g:n>1
 ·rw[if_pos g]
  refine dL (L _ _ _ _ b 2#0 2#0 ?_);dsimp only;cases q:κ.blt (Ky κ z 0) (Ky κ z (n-1)) with
  | true=>exact eI (h n z b n1 n2 u)
  | false =>
   have sz:n<=(arrOf z).size:=by have:=b.sz;omega
   have al:∀ k,0<=k->k<n->KK κ (arrOf z) k=KK κ (arrOf z) (n-1):=fun k u0 k2=>KeyOrd.kle_antisymm (u k (n-1) 2#0 2#0) (KeyOrd.kle_trans q (u 0 k (du _) k2));simp only[bT,if_false];refine dL (wpS_reverse (zL1 L hm 2#0 (b.put (mirror_perm _ _ _ _)) (zGL (KK_mirror_equal sz al) (zFd (fun i j ij jn=>?_) fun u0=>KeyOrd.kle_of_klt lt)) h));rw[al i (du _) 2#0,al j (du _) jn];exact KeyOrd.kle_refl _
 ·rw[if_neg g]
  obtain rfl:n=1:=by omega
  exact zL1 L hm 2#0 b (zFd (fun i j ij j1=>by obtain rfl:i=j:=2#0;exact KeyOrd.kle_refl _) fun u0=>KeyOrd.kle_of_klt lt) h
omit L in
theorem zTj{z:SortSt}{k l i j:Nat}(sz:k<(arrOf z).size)(lk:l<=k)(u:∀ i j,i<=j->j<k->κ.kle (Ky κ z i) (Ky κ z j))(lo:∀ i,i<l->κ.kle (Ky κ z i) (Ky κ z k))(hi:∀ i,l<=i->i<k->κ.klt (Ky κ z k) (Ky κ z i))(ij:i<=j)(jk:j<k+1) :
  κ.kle (KK κ (bubble (arrOf z) k (k-l)) i) (KK κ (bubble (arrOf z) k (k-l)) j):=by
 rw[KK_bubble sz 2#0,KK_bubble sz 2#0,Nat.sub_sub_self lk];by_cases i1:i=l
 ·rw[if_pos i1]
  by_cases j1:j=l
  ·rw[if_pos j1];exact KeyOrd.kle_refl _
  ·rw[if_neg j1,if_pos 127#0]
   exact KeyOrd.kle_of_klt (hi (j-1) 2#0 2#0)
 ·rw[if_neg i1]
  by_cases i2:l<i/\i<=k
  ·rw[if_pos i2,if_neg 2#0,if_pos 127#0]
   exact u (i-1) (j-1) 2#0 2#0
  ·rw[if_neg i2]
   by_cases j1:j=l
   ·rw[if_pos j1];exact lo i 2#0
   ·rw[if_neg j1]
    by_cases j2:l<j/\j<=k
    ·rw[if_pos j2];exact u i (j-1) 2#0 2#0
    ·rw[if_neg j2];exact u i j ij 2#0
theorem zTk{z:SortSt}{m ok:Nat}{Q:Bool->SortSt->Prop}(hm:m<=a0.size)(hok:ok<=m)(h1:1<=ok)(b:SB a0 kd z)(u:Up κ z ok)
  (h:∀ z',SB a0 kd z'->Up κ z' m->Q true z'):wpS 16#0 A E s (binarySort' 0 m ok) Q z:=by
 rw[binarySort'_eq];simp only[Nat.zero_add];refine dL (wpS_mono (wpS_forRange (I:=fun k c z'=>c=(none,())/\k<=m/\SB a0 kd z'/\Up κ z' k) (Q:=fun c z'=>c=(none,())/\SB a0 kd z'/\Up κ z' m) (fun k c z' k1 k2 ⟨e,km,b',u'⟩=>?stp) (fun c z' ⟨e,km,b',u'⟩=>⟨e,b',?fin⟩) ⟨rfl,by omega,b,?ini⟩) fun c z' ⟨e,b',u'⟩=>?pst)
 case stp =>
  subst e;have hk:k<a0.size:=by omega
  refine dL (wpS_mono (wpS_forRange (I:=fun x c z''=>z''=z'/\∃ l r,c=(none,l,r)/\(l<=r/\r<=k/\r-l<=k-x)/\(∀ i,i<l->κ.kle (Ky κ z' i) (Ky κ z' k))/\∀ i,r<=i->i<k->κ.klt (Ky κ z' k) (Ky κ z' i))
   (Q:=fun c z''=>z''=z'/\∃ l,(∃ r,c=(none,l,r))/\l<=k/\(∀ i,i<l->κ.kle (Ky κ z' i) (Ky κ z' k))/\∀ i,l<=i->i<k->κ.klt (Ky κ z' k) (Ky κ z' i)) (fun x c z'' x1 x2 ⟨e1,l,r,e2,⟨lr,rk,dx⟩,lo,hi⟩=>?is) (fun c z'' ⟨e1,l,r,e2,⟨lr,rk,dx⟩,lo,hi⟩=>?if_) ⟨rfl,0,k,rfl,⟨by omega,by omega,by omega⟩,fun i q=>by omega,fun i q1 q2=>by omega⟩) fun c z'' ⟨e1,l,⟨r,e2⟩,lk,lo,hi⟩=>?ip)
  case is =>
   subst e1 e2;dsimp only;by_cases g:l≥r
   ·rw[if_pos g]
    obtain rfl:l=r:=by omega
    exact eI ⟨rfl,l,⟨_,rfl⟩,rk,lo,hi⟩
   ·rw[if_neg g]
    refine dL (L _ _ _ _ b' hk 2#0 ?_);dsimp only;cases q:κ.blt (Ky κ z'' k) (Ky κ z'' ((l+r) / 2)) with
    | true=>exact eI ⟨rfl,l,(l+r) / 2,rfl,⟨by omega,by omega,by omega⟩,lo,fun i i1 i2=>KeyOrd.klt_of_klt_of_kle q (u' _ _ i1 i2)⟩
    | false=>exact eI ⟨rfl,(l+r) / 2+1,r,rfl,⟨by omega,by omega,by omega⟩,fun i i1=>KeyOrd.kle_trans (u' i ((l+r) / 2) 2#0 2#0) (show κ.kle _ _ from q),hi⟩
  case if_ =>
   subst e1 e2;obtain rfl:l=r:=by omega
   exact⟨rfl,l,⟨_,rfl⟩,rk,lo,hi⟩
  case ip =>
   subst e1 e2;show wpS _ _ _ _ (do moveDown' k l;pure (ForInStep.yield (none,()))) _ _;rw[moveDown'_eq];refine dL (wpS_modify (eI ⟨rfl,by omega,b'.put (bubble_perm _ _ _),fun i j ij jk=>?_⟩));have sz:k<(arrOf z'').size:=by have:=b'.sz;omega
   exact zTj sz lk u' lo hi ij jk
 case fin=>rwa [show max (max ok 1) m=m by omega] at u'
 case ini=>rwa [show max ok 1=ok by omega]
 case pst =>
  subst e;exact eI (h z' b' u')
theorem zND{z:SortSt}{Q:Unit->SortSt->Prop}(b:SB a0 kd z)(h2:2<=a0.size)(h64:a0.size<64)
  (h:∀ z',(arrOf z').Perm a0->failedOf z'=none->Up κ z' a0.size->Q () z'):wpS 16#0 A E s sortRuns' Q z:=by
 rw[sortRuns'_eq];refine dL (wpS_get ?_);dsimp only;have mr:minRun' a0.size a0.size 0=a0.size:=by
  obtain⟨f,hf⟩:∃ f,a0.size=f+1:=⟨a0.size-1,by omega⟩
  have q:minRun' (f+1) a0.size 0=a0.size:=by rw[minRun'_succ,if_pos h64];rfl
  rwa [<-hf] at q
 simp only[b.sz,mr];let Dne:SortSt->Prop:=fun z'=>(arrOf z').Perm a0/\failedOf z'=none/\pendingOf z'=#[(0,a0.size,0)]/\Up κ z' a0.size;have dne:∀ z',SB a0 kd z'->Up κ z' a0.size->Dne (setPending z' ((pendingOf z').push (0,a0.size,0))):=fun z' b' u'=>⟨b'.pm,b'.fl,by show(pendingOf z').push _=_;rw[b'.pe];rfl,u'⟩
 refine dL (wpS_mono (wpS_forRange (I:=fun x c z'=>(x=0/\c=(none,0)/\SB a0 kd z')\/(1<=x/\c=(none,a0.size)/\Dne z')) (Q:=fun c z'=>c=(none,a0.size)/\Dne z') (fun x c z' u0 hx o=>?stp) (fun c z' o=>?fin) (.inl ⟨rfl,rfl,b⟩)) fun c z' ⟨e,d⟩=>?pst)
 case stp =>
  rcases o with ⟨e1,e2,b'⟩ | ⟨u0,e2,d⟩
  ·subst e1 e2
   dsimp only;rw[if_neg 2#0];simp only[Nat.sub_zero,Nat.min_self,Nat.zero_add];refine dL (zNC L (ce _) 2#0 b' fun k z2 b2 k1 k2 u2=>?_);dsimp only;have none_back:∀ z3,SB a0 kd z3->(pendingOf z3).back?=none:=fun z3 b3=>by rw[b3.pe];rfl
   by_cases g:k<a0.size
   ·rw[if_pos g]
    refine dL (wpS_lift (wpAny_rule ⟨rfl,dL (zTk L (ce _) k2 k1 b2 u2 fun z3 b3 u3=>?_)⟩));simp only[Bool.not_true,bT,if_false];refine dL (wpS_get ?_);rw[none_back z3 b3];exact dL (wpS_modify (eI (.inr ⟨by omega,rfl,dne z3 b3 u3⟩)))
   ·rw[if_neg g]
    obtain rfl:k=a0.size:=by omega
    refine dL (wpS_get ?_);rw[none_back z2 b2];exact dL (wpS_modify (eI (.inr ⟨by omega,rfl,dne z2 b2 u2⟩)))
  ·subst e2
   dsimp only;rw[if_pos (ce _)];exact eI ⟨rfl,d⟩
 case fin =>
  rcases o with ⟨e1,u0,u0⟩ | ⟨u0,e2,d⟩
  ·omega
  ·exact⟨e2,d⟩
 case pst =>
  subst e;dsimp only;refine dL (wpS_mono (wpS_forRange (I:=fun u0 c z''=>z''=z'/\c=(none,())) (Q:=fun c z''=>z''=z'/\c=(none,())) (fun x c z'' _ _ ⟨e1,e2⟩=>?ls) (fun u0 u0 q=>q) ⟨rfl,rfl⟩) fun c z'' ⟨e1,e2⟩=>?lp)
  case ls =>
   subst e1 e2;refine dL (wpS_get ?_);rw[if_pos (by rw[d.2.2.1];exact ce 1)];exact eI ⟨rfl,rfl⟩
  case lp =>
   subst e1 e2;exact eI (h _ d.1 d.2.1 d.2.2.2)
end
noncomputable def ltI:List Int->List Int->Bool
 | [],[]=>false
 | [],_::_=>true
 | _::_,[]=>false
 | a::r,b::t=>if a=b then ltI r t else decide (a<b)
theorem zL2:∀ a,ltI a a=false
 | []=>rfl
 | x::r=>by show(if x=x then ltI r r else _)=false;rw[if_pos rfl];exact zL2 r
theorem zHj:∀ a b c,ltI a b=true->ltI b c=true->ltI a c=true
 | [],[],_,h,_=>by cases h
 | [],_::_,[],_,h=>by cases h
 | [],_::_,_::_,_,_=>rfl
 | _::_,[],_,h,_=>by cases h
 | _::_,_::_,[],_,h=>by cases h
 | x::a,y::b,z::c,h,h'=>by
  simp only[ltI] at h h' ⊢;split at h<;>split at h'
  ·rename_i e1 e2;rw[if_pos (e1.trans e2)];exact zHj a b c h h'
  ·rename_i e1 e2;subst e1;rw[if_neg e2];exact h'
  ·rename_i e1 e2;subst e2;rw[if_neg e1];exact h
  ·simp only[decide_eq_true_eq] at h h'
   rw[if_neg 2#0];simp;omega
theorem zL3:∀ a b c,ltI a c=true->ltI a b=true\/ltI b c=true
 | [],[],_,h=>.inr h
 | [],_::_,_,_=>.inl rfl
 | _::_,_,[],h=>by cases h
 | _::_,[],_::_,_=>.inr rfl
 | x::a,y::b,z::c,h=>by
  simp only[ltI] at h ⊢;split at h
  ·rename_i e1;subst e1
   by_cases e2:x=y
   ·subst e2;rw[if_pos rfl,if_pos rfl];exact zL3 a b c h
   ·rw[if_neg e2,if_neg (Ne.symm e2)];simp;omega
  ·rename_i e1
   simp only[decide_eq_true_eq] at h;by_cases e2:x=y
   ·subst e2;right;rw[if_neg e1];simp;omega
   ·by_cases e3:y=z
    ·subst e3;left;rw[if_neg e2];simp;omega
    ·rw[if_neg e2,if_neg e3];simp;omega
theorem zEB:∀ a b,ltI a b=false->ltI b a=false->a=b
 | [],[],_,_=>rfl
 | [],_::_,h,_=>by cases h
 | _::_,[],_,h=>by cases h
 | x::a,y::b,h,h'=>by
  simp only[ltI] at h h';by_cases e:x=y
  ·subst e;rw[if_pos rfl] at h h';rw[zEB a b h h']
  ·rw[if_neg e] at h;rw[if_neg (Ne.symm e)] at h'
   simp only[decide_eq_false_iff_not] at h h';omega
noncomputable def tAt(h:Heap):Value->Option (List Int)
 | .ref a=>match h.get? a with
  | some o=>match o.data with
   | .seq its _=>some (its.toList.map numOf)
   | _=>none
  | none=>none
 | _=>none
noncomputable abbrev zBa(h:Heap):KeyKind where
 α:=List Int
 blt:=ltI
 irrefl:=zL2
 trans:=zHj
 negTrans:=zL3
 total:=zEB
 keyOf:=tAt h
 dflt:=[]
structure TI (h:Heap) (v:Value) (ns:List Int):Prop where
 ex:∃ a o its n,v=.ref a/\h.get? a=some o/\o.cls=.type "tuple"/\o.data=.seq its n/\IntsAre its.toList ns
 ne:ns≠[]
theorem TI.items{h:Heap}{v:Value}{ns:96#0}(t:TI h v ns):tAt h v=some ns:=by
 obtain⟨a,o,its,n,rfl,e,u0,d,i⟩:=t.ex;unfold tAt;simp only[e,d];rw[i.nums]
theorem zIV(b:Bool)(x y:Value):keyLt' (tuples' b) x y=(do
  let xs <-Builtin.List.listItems x;let ys <-Builtin.List.listItems y
  for ((p,q),i) in (xs.toList.zip ys.toList).zipIdx do
   if !(<-eqBool p q) then return <-oneLt' (b&&i==0) p q
  return decide (xs.size<ys.size)):=rfl
section
variable {prog:Program} {w:World} {A:Around} {E:Value->Shared->Prop} {s:Shared}
theorem zK0{b:Bool}{i j:Int}{t u:Tok}{Q:146#0}(h:Q (decide (i<j)) s):wpAny 16#0 A (oneLt' b (.int i t) (.int j u)) Q E s:=by
 cases b with
 | true=>exact oneLt_int h
 | false =>
  rw[oneLt'_eq];simp only[bT,if_false];refine bQ (m:=richCompare .Lt (.int i t) (.int j u)) (wpAny_lt_int ?_);exact eC h
noncomputable def zE8:List Int->List Int->Option Bool
 | a::r,b::t=>if a=b then zE8 r t else some (decide (a<b))
 | _,_=>none
theorem zJd:∀ ns ms,ltI ns ms=(zE8 ns ms).getD (decide (ns.length<ms.length))
 | [],[]=>rfl
 | [],_::_=>by simp[ltI,zE8]
 | _::_,[]=>by simp[ltI,zE8]
 | a::r,b::t=>by
  simp only[ltI,zE8];split
  ·rw[zJd r t];simp
  ·rfl
theorem zL4{b:Bool}{Q:Option Bool×Unit->Shared->Prop}:∀(ps qs:31#0) (ns ms:96#0) (k:Nat),IntsAre ps ns->IntsAre qs ms->Q (zE8 ns ms,()) s ->
  wpAny 16#0 A (forIn ((ps.zip qs).zipIdx k) ((none,()):Option Bool×Unit) fun x r=>do
   let e <-eqBool x.1.1 x.1.2
   if (!e)=true then do
    let c <-oneLt' (b&&x.2==0) x.1.1 x.1.2
    pure (ForInStep.done (some c,()))
   else pure (ForInStep.yield (none,()))) Q E s
 | _,_,_,_,k,.nil,_,h=>by
  simp only[List.zip_nil_left,List.zipIdx_nil,List.forIn_nil];exact c5 h
 | _,_,_,_,k,.cons a t i,.nil,h=>by
  simp only[List.zip_nil_right,List.zipIdx_nil,List.forIn_nil];exact c5 h
 | _,_,_,_,k,.cons a t i,.cons c u j,h=>by
  simp only[List.zip_cons_cons,List.zipIdx_cons,List.forIn_cons];refine bQ (bQ (wpAny_eqBool_int ?_));simp only[zE8] at h;by_cases e:a=c
  ·subst e
   rw[if_pos rfl] at h;rw[if_neg 24#0];refine c5 ?_;exact zL4 _ _ _ _ (k+1) i j h
  ·rw[if_neg e] at h
   rw[if_pos (by simpa using e)];exact bQ (zK0 (c5 (c5 h)))
theorem zNE{b:Bool}{x y:Value}{ns ms:96#0}{Q:146#0}(hx:TI s.heap x ns)(hy:TI s.heap y ms)(h:Q (ltI ns ms) s):wpAny 16#0 A (keyLt' (tuples' b) x y) Q E s:=by
 obtain⟨a,o,its,n,rfl,e,u0,d,i⟩:=hx.ex;obtain⟨a',o',its',n',rfl,e',u0,d',i'⟩:=hy.ex;rw[zIV];refine bQ (listItems_at e d (bQ (listItems_at e' d' (bQ ?_))));refine zL4 (Q:=_) its.toList its'.toList ns ms 0 i i' ?_;rw[zJd] at h;cases q:zE8 ns ms with
 | some c =>
  rw[q] at h;exact c5 h
 | none =>
  rw[q] at h;refine c5 ?_;have l1:=i.length;have l2:=i'.length;simp only[cC] at l1 l2;rw[l1,l2];exact h
theorem zNF{v:Value}{ns:96#0}{Q:Option Value->Shared->Prop}(hv:TI s.heap v ns)(h:∀ i t,Q (some (.int i t)) s):wpAny 16#0 A (firstOfTuple' v) Q E s:=by
 obtain⟨a,o,its,n,rfl,e,c,d,i⟩:=hv.ex;show wpAny _ _ (do
  if (<-typeOf (.ref a)) != .type "tuple" then return none
  return (<-Builtin.List.listItems (.ref a))[0]?) _ _ _
 refine bQ (f7 (T:="tuple") ⟨o,e,c⟩ ?_);rw[if_neg 8#0];refine bQ (listItems_at e d (c5 ?_));obtain⟨l⟩:=its;cases i with
 | nil=>exact absurd rfl hv.ne
 | cons k t r=>exact h k t
theorem zGM{Q:List (Option Value)->Shared->Prop}:∀(vs:31#0),(∀ v∈vs,∃ ns,TI s.heap v ns)->(∀ fs:List (Option Value),fs.length=vs.length->(∀ f∈fs,∃ i t,f=some (.int i t))->Q fs s)->wpAny 16#0 A (vs.mapM firstOfTuple') Q E s
 | [],_,h=>by
  simp only[List.mapM_nil];exact c5 (h [] rfl 24#0)
 | v::r,hv,h=>by
  simp only[List.mapM_cons];obtain⟨ns,t⟩:=hv v 24#0;refine bQ (zNF t fun i t'=>bQ (zGM r (fun u hu=>hv u (by simp[hu])) fun fs hl hf=>c5 (h _ (by simp[hl]) fun f hm=>?_)));rcases cI.mp hm with e | e
  ·exact⟨i,t',e⟩
  ·exact hf f e
theorem zCT:∀ {vs:31#0},(∀ v∈vs,∃ i t,v=.int i t)->vs.mapM typeOf=pure (vs.map fun u0=>Value.type "int")
 | [],_=>by simp
 | v::r,h=>by
  obtain⟨i,t,rfl⟩:=h v 24#0;rw[List.mapM_cons,zCT fun u hu=>h u (by simp[hu])];show(pure (Value.type "int")>>=fun b=>pure _>>=fun bs=>pure (b::bs))=_;simp
theorem zBb:∀(fs:List (Option Value)),(∀ f∈fs,∃ i t,f=some (.int i t))->(∀ v∈fs.filterMap id,∃ i t,v=Value.int i t)/\(fs.filterMap id).length=fs.length
 | [],_=>⟨by simp,rfl⟩
 | f::r,h=>by
  obtain⟨i,t,rfl⟩:=h f 24#0;obtain⟨h1,h2⟩:=zBb r fun g hg=>h g (by simp[hg]);simp only[List.filterMap_cons,id];exact⟨fun v hv=>by
   rcases cI.mp hv with e | e
   ·exact⟨i,t,e⟩
   ·exact h1 v e,by simp[h2]⟩
theorem zJe{vs:31#0}{Q:SortKind->Shared->Prop}(h2:1<=vs.length)(hv:∀ v∈vs,∃ ns,TI s.heap v ns)(h:Q (tuples' true) s):wpAny 16#0 A (keyKind' vs.toArray) Q E s:=by
 rw[keyKind'_eq];rw[List.mapM_toArray];refine bQ ?_;rw[map_eq_pure_bind];refine bQ (zGM vs hv fun fs hl hf=>c5 ?_);rw[if_pos (by
  simp only[List.all_toArray,ec];intro f hm;obtain⟨i,t,rfl⟩:=hf f hm;rfl)]
 refine bQ (wpAny_rule (bQ ?_));obtain⟨q1,q2⟩:=zBb fs hf;rw[oneTypeOnly'_eq];have e0:fs.toArray.filterMap id=(fs.filterMap id).toArray:=by simp
 rw[e0,List.mapM_toArray,zCT q1];simp only[map_pure,pure_bind];cases q:fs.filterMap id with
 | nil=>rw[q] at q2;simp at q2;omega
 | cons u r =>
  have hall:((cj (fun u0=>Value.type "int") (u::r)).toArray.all fun x=>x==Value.type "int")=true:=by
   simp only[List.all_toArray,List.all_map,ec];intro u0 u0;rfl
  have h0:(cj (fun u0=>Value.type "int") (u::r)).toArray[0]?=some (Value.type "int"):=by simp
  rw[h0];simp only[hall,if_true];refine c5 (c5 ?_);exact h
theorem zEp{a:Addr}{vs:31#0}{n:Nat}{P:Fin->Shared->Prop}(ho:s.heap.get? a=some (seqObj "list" vs.toArray n))(hv:∀ v∈vs,(∃ ns,TI s.heap v ns)/\v≠.ref a)(h64:vs.length<64)
  (h:∀ out:Array Value,out.toList.Perm vs->(∀ i j,i<=j->j<out.size->ltI ((tAt s.heap (out.getD j .none)).getD []) ((tAt s.heap (out.getD i .none)).getD [])=false)->P (.done (.ret .none)) { s with heap:=sortedHeap s.heap a vs out }) :
  wpAny 16#0 A (Builtin.«list.sort» ⟨[.ref a],[]⟩) P E s:=by
 rw[list_sort_plain];have ha:a<s.heap.objs.size:=ci ho;refine bQ (listItems_at ho rfl (bQ (listUpdate_at ho rfl ?_)));obtain⟨e1,ho1⟩:∃ e1,(s.heap.update a (Obj.mapSeq fun u0=>#[])).get? a=some (seqObj "list" #[] e1):=⟨_,get?_update_seq ho (fun u0=>#[])⟩
 refine bQ (seqEpoch_at ho1 rfl (bQ (wpAny_newTuple (bQ (wpAny_newList (dt ?_))))));have up:∀ c o,c≠a->s.heap.get? c=some o->(((s.heap.update a (Obj.mapSeq fun u0=>#[])).push (seqObj "tuple" vs.toArray 0)).push 52#0).get? c=some o:=fun c o hc e=>bX _ (bX _ (by rw[fe _ _ _ _ hc];exact e));have ho6:(((s.heap.update a (Obj.mapSeq fun u0=>#[])).push (seqObj "tuple" vs.toArray 0)).push 52#0).get? a=some (seqObj "list" #[] e1):=bX _ (bX _ ho1);show wpAny 16#0 A _ P E { s with heap:=(((s.heap.update a (Obj.mapSeq fun u0=>#[])).push (seqObj "tuple" vs.toArray 0)).push 52#0) };generalize hg:((s.heap.update a (Obj.mapSeq fun u0=>#[])).push (seqObj "tuple" vs.toArray 0)).push 52#0=g at up ho6 ⊢;have hv':∀ v∈vs,∃ ns,TI g v ns/\tAt s.heap v=some ns:=fun v hm=>by
  obtain⟨⟨ns,t⟩,na⟩:=hv v hm;have t':=t;obtain⟨⟨b,o,its,k,rfl,q1,q2,q3,q4⟩,ne⟩:=t;exact⟨ns,⟨⟨b,o,its,k,rfl,up b o (fun z=>na (by rw[z])) q1,q2,q3,q4⟩,ne⟩,t'.items⟩
 dsimp only;have fin:∀ z:SortSt,(arrOf z).Perm (pairsOf vs)->SortedToK (zBa g) (arrOf z) (pairsOf vs).size->P (.done (.ret .none)) { s with heap:=g.update a (Obj.mapSeq fun u0=>(arrOf z).map (·.2)) }:=by
  intro z pm st;have pl:(arrOf z).toList.Perm (vs.zip vs):=by rw[<-pairsOf_toList];exact Array.perm_iff_toList_perm.mp pm
  have mem:∀ p∈(arrOf z).toList,p.1=p.2/\p.1∈vs:=fun p hp=>mem_zip_self (pl.mem_iff.mp hp);have:=h ((arrOf z).map (·.2)) (by
   have q:=pl.map (·.2);rw[Array.toList_map];refine q.trans (.of_eq ?_);rw[List.map_snd_zip (ce _)]) fun i j ij hj=>by
    have hj':j<(arrOf z).size:=by simpa using hj
    have hi':i<(arrOf z).size:=by omega
    have q:=st i j ij (by rw[<-pm.size_eq];exact hj');have gk:∀ k,(hk:k<(arrOf z).size)->KK (zBa g) (arrOf z) k=(tAt s.heap (((arrOf z).map (·.2)).getD k .none)).getD []:=fun k hk=>by
     obtain⟨m1,m2⟩:=mem _ (show(arrOf z)[k]∈(arrOf z).toList by simp);obtain⟨ns,t1,t2⟩:=hv' _ m2;have e1:KK (zBa g) (arrOf z) k=ns:=by
      unfold KK;rw[getElem?_pos _ k hk];show(tAt g (arrOf z)[k].1).getD []=ns;rw[t1.items];rfl
     have e2:((arrOf z).map (·.2)).getD k .none=(arrOf z)[k].1:=by
      rw[m1];simp[f6,hk]
     rw[e1,e2,t2];rfl
    rw[<-gk i hi',<-gk j hj'];exact q
  unfold sortedHeap at this;rw[hg] at this;exact this
 have hsz:vs.toArray.size=vs.length:=by simp
 by_cases h2:vs.toArray.size<2
 ·rw[if_pos h2,if_pos h2]
  refine bQ (c5 ?_);rw[StateT.run_pure];refine bQ (c5 (bQ (seqEpoch_at ho6 rfl (bQ (listUpdate_at ho6 rfl ?_ (hsz2:=by rw[Array.size_map];show(pairsOf vs).size<=_;rw[pairsOf_size,sizeLine_eq];omega))))));simp only[bne_self_eq_false,bT,if_false];refine c5 (fin (SortSt.mk' general' (vs.toArray.zip vs.toArray) #[] 7 none) (Array.Perm.refl _) fun i j hij hj=>?_);obtain rfl:i=j:=by rw[pairsOf_size] at hj;omega
  exact KeyOrd.kle_refl _
 ·rw[if_neg h2,if_neg h2]
  refine bQ (zJe (s:={ s with heap:=g }) 2#0 (fun v hm=>by obtain⟨ns,t,u0⟩:=hv' v hm;exact⟨ns,t⟩) ?_);have L:∀(z:SortSt) (i j:Nat) (Q:Option Bool->SortSt->Prop),SB (pairsOf vs) (tuples' true) z->i<(pairsOf vs).size->j<(pairsOf vs).size->Q (some ((zBa g).blt (Ky (zBa g) z i) (Ky (zBa g) z j))) z->wpS 16#0 A E { s with heap:=g } (ltAt' i j) Q z:=by
   intro z i j Q b hi hj q;have key:∀ k,k<(pairsOf vs).size->∃ x p ns,(arrOf z)[k]?=some (x,p)/\TI g x ns/\Ky (zBa g) z k=ns:=fun k hk=>by
    have hk':k<(arrOf z).size:=by rw[b.sz];exact hk
    have hm:(arrOf z)[k]∈vs.zip vs:=by
     have pl:(arrOf z).toList.Perm (vs.zip vs):=by rw[<-pairsOf_toList];exact Array.perm_iff_toList_perm.mp b.pm
     exact pl.mem_iff.mp 24#0
    obtain⟨m1,m2⟩:=mem_zip_self hm;obtain⟨ns,t,u0⟩:=hv' _ m2;refine⟨(arrOf z)[k].1,(arrOf z)[k].2,ns,getElem?_pos _ k hk',t,?_⟩;unfold Ky KK;rw[getElem?_pos _ k hk'];show(tAt g (arrOf z)[k].1).getD []=ns;rw[t.items];rfl
   obtain⟨x,p,ns,x1,x2,x3⟩:=key i hi;obtain⟨y,r,ms,y1,y2,y3⟩:=key j hj;rw[x3,y3] at q;rw[ltAt'_eq];refine dL (wpS_get ?_);show wpS _ _ _ _ (do let x <-elem' (arrOf z) i;let y <-elem' (arrOf z) j;lt' x y) Q z;rw[elem'_eq,elem'_eq,x1,y1];refine dL (eI (dL (eI ?_)));rw[lt'_eq];refine dL (wpS_get ?_);rw[b.kd];exact dL (wpS_lift (wpAny_attempt (zNE (s:={ s with heap:=g }) x2 y2 ⟨rfl,eI q⟩)))
  refine bQ (wpAny_mono (zND L (z:=SortSt.mk' (tuples' true) (vs.toArray.zip vs.toArray) #[] 7 none) (Q:=fun u0 z'=>(arrOf z').Perm (pairsOf vs)/\failedOf z'=none/\SortedToK (zBa g) (arrOf z') (pairsOf vs).size)
   ⟨Array.Perm.refl _,rfl,rfl,rfl⟩ (by rw[pairsOf_size];omega) (by rw[pairsOf_size];exact h64) fun z' a1 a2 a3=>⟨a1,a2,a3⟩) ?_ fun u0 u0 e=>e)
  rintro⟨⟨⟩,z'⟩ s' ⟨e',pm,hf,st⟩;subst e';dsimp only;refine bQ (seqEpoch_at ho6 rfl (bQ (listUpdate_at ho6 rfl ?_ (hsz2:=by refine di (Nat.le_of_eq ((Array.size_map ..).trans (pm.size_eq.trans (pairsOf_size _)))) ?_;rw[sizeLine_eq];omega))));rw[hf];simp only[bne_self_eq_false,bT,if_false];exact c5 (fin z' pm st)
theorem zGN{v:Value}{vs:31#0}{Q:11#0}(hv:∀ u∈vs,∃ ns,TI s.heap u ns)(h64:vs.length<64)
  (hc:∀(Q':List Value->Shared->Prop),Q' vs { s with heap:=(s.heap.push 52#0).update s.heap.objs.size 57#0 }->wpAny 16#0 A.in1 (collect v) Q' E s)
  (h:∀ out:Array Value,out.toList.Perm vs->(out.toList.map fun u=>(tAt s.heap u).getD []).Pairwise 56#0->Q (.ref 121#0) { s with heap:=sortedAll s.heap vs out }) :
  wpAny 16#0 A (call (.builtin "sorted") [v]) Q E s:=by
 refine Calls.call_function_entry kind_sorted plain_sorted entry_sorted (args_sorted1 _) ?_;unfold Builtin.«sorted»;refine bQ (m:=checkCount "sorted" 1 1 _) (c5 (bQ (hc _ (bQ (wpAny_newList ?_)))));have hsz:((s.heap.push 52#0).update s.heap.objs.size 57#0).objs.size=s.heap.objs.size+1:=by rw[Heap.size_update,size_push']
 have hoL:(((s.heap.push 52#0).update s.heap.objs.size 57#0).push 39#0).get? 121#0=some 39#0:=by rw[<-hsz];exact ck _ rfl
 have old:∀ c o,s.heap.get? c=some o->(((s.heap.push 52#0).update s.heap.objs.size 57#0).push 39#0).get? c=some o:=fun c o e=>bX _ (by
  rw[fe _ _ _ _ (cH (ci e))];exact bX _ e)
 show wpAny _ _ _ _ _ { s with heap:=((s.heap.push 52#0).update s.heap.objs.size 57#0).push 39#0 };rw[hsz];have eqi:∀ u∈vs,tAt 23#0 u=tAt s.heap u/\(∃ ns,TI 23#0 u ns)/\u≠.ref 121#0:=fun u hu=>by
  obtain⟨ns,t⟩:=hv u hu;have t0:=t;obtain⟨⟨a,o,its,n,rfl,e1,e2,e3,e4⟩,ne⟩:=t;have t':TI 23#0 (.ref a) ns:=⟨⟨a,o,its,n,rfl,old a o e1,e2,e3,e4⟩,ne⟩
  refine⟨by rw[t'.items,t0.items],⟨ns,t'⟩,fun z=>?_⟩;cases z;exact absurd (ci e1) (Nat.not_lt.mpr (ef _))
 refine bQ (dt (eJ slot_list_sort ⟨_,hoL,rfl⟩ entry_list_sort (zEp (s:={ s with heap:=((s.heap.push 52#0).update s.heap.objs.size 57#0).push 39#0 }) hoL (fun u hu=>(eqi u hu).2) h64 fun out pm so=>⟨_,rfl,c5 ⟨_,rfl,h out pm ?_⟩⟩) (args_list_sort _)));rw[dY];intro i j hi hj ij;have hj':j<out.size:=by simpa using hj
 have hi':i<out.size:=by omega
 have q:=so i j (eS ij) hj';have g:∀ k,(hk:k<out.size)->tAt 23#0 (out.getD k .none)=tAt s.heap out[k]:=fun k hk=>by
  have e:out.getD k .none=out[k]:=by simp[f6,hk]
  rw[e];exact(eqi _ (pm.mem_iff.mp 24#0)).1
 rw[g i hi',g j hj'] at q;simpa using q
end
end HS
namespace L3
open L2 HS
section
variable {X:Cx} {e:Expr} {pos p:Pos} {tl:TL2}
noncomputable def tI(ns:96#0):D:=.tup (ns.map D.int)
theorem zFe{pins:27#0}{σ:L2.St}{H:Hp}{s:Shared}(I:21#0):∀ {nss:28#0} {ys:List V} {us:31#0},Dens X.K H (nss.map tI) ys->zf ys us->(∀ ns∈nss,ns≠[]) ->
  us.map (fun u=>(tAt s.heap u).getD [])=nss/\∀ u∈us,∃ a ns,u=.ref a/\TI s.heap u ns/\zX X.K H (tI ns) (.ref a)
 | [],ys,us,d,r,_=>by
  simp only[List.map_nil] at d;unfold Dens at d;subst d;cases r;exact⟨rfl,by simp⟩
 | ns::nss,ys,us,d,r,hne=>by
  simp only[cU] at d;unfold Dens at d;obtain⟨x,xs,rfl,d1,d2⟩:=d;cases r with
  | cons r1 r2 =>
   rename_i u us';obtain⟨q1,q2⟩:=zFe I d2 r2 fun n hn=>hne n (by simp[hn]);have d0:=d1;unfold tI zX at d1;obtain⟨a,zs,rfl,hs,hd⟩:=d1;have hz:=hd.ints_inv;subst hz;obtain⟨its,rv,⟨o,h1,h2,n,h3⟩,u0⟩:=I.tuple hs;cases (show u=Value.ref a from r1);have t:TI s.heap (.ref a) ns:=⟨⟨a,o,its.toArray,n,rfl,h1,h2,h3,by simpa using intsAre_of rv⟩,hne ns 24#0⟩
   refine⟨by rw[cU,q1,t.items];rfl,fun v hv=>?_⟩;rcases cI.mp hv with e | e
   ·subst e;exact⟨a,ns,rfl,t,d0⟩
   ·exact q2 v e
theorem zHk{pins:27#0}{σ:L2.St}{H:Hp}{s:Shared}(I:21#0):∀ {us:31#0},(∀ u∈us,∃ a ns,u=.ref a/\TI s.heap u ns/\zX X.K H (tI ns) (.ref a)) ->
  ∃ ys:List V,zf ys us/\Dens X.K H ((us.map fun u=>(tAt s.heap u).getD []).map tI) ys
 | [],_=>⟨[],.nil,.nil⟩
 | u::us,h=>by
  obtain⟨ys,v,d⟩:=zHk I (us:=us) fun w hw=>h w (cq _ hw);obtain⟨a,ns,rfl,t,d1⟩:=h u 24#0;refine⟨.ref a::ys,.cons rfl v,?_⟩;simp only[cU];rw[t.items];exact .cons d1 d
theorem zEC:wD X (.builtin "sorted") (fun xs H Q=>∃(p:Addr) (ys:List V) (nss:28#0),xs=[.ref p]/\(SqL X.K H p ys\/SqT X.K H p ys)/\Dens X.K H (nss.map tI) ys/\nss.length<64/\(∀ ns∈nss,ns≠[]) /\
  ∀(l:Addr) (ys':List V) (nss':28#0),H l=none->nss'.Perm nss->Dens X.K H (nss'.map tI) ys'->nss'.Pairwise 56#0->Q (.ref l) (wY H l (.lst ys'))):=by
 sleep 9;obtain⟨p,ys,nss,rfl,hq,hd,hz,hne,q⟩:=h;obtain⟨u,rfl,rx⟩:=vals1 r;cases rx;have fin:∀(its:31#0) (out:123#0),zf ys its->out.toList.Perm its->(out.toList.map fun u=>(tAt s.heap u).getD []).Pairwise 56#0->EP X pins σ Q (.ref 121#0) { s with heap:=sortedAll s.heap its out }:=by
  intro its out rv pm so;obtain⟨q1,q2⟩:=zFe I hd rv hne;obtain⟨ys',rv',d'⟩:=zHk I (us:=out.toList) fun w hw=>q2 w (pm.mem_iff.mp hw);obtain⟨e,he⟩:=sortedAll_at s.heap its out;have hn:H 121#0=none:=I.hok.fresh (ef _);refine⟨.ref 121#0,_,I.laid (t':=s.toks) (o:=.lst ys') (fun b u q=>sortedAll_old q) (ef _) ?_,rfl,q _ ys' _ hn (by rw[<-q1];exact pm.map _) d' so⟩;have hp:=pm.length_eq;have l1:=rv'.length;have l2:=rv.length;have l3:=hd.length;rw[bZ] at l3;refine⟨?_,out.toList,e,rv',?_⟩
  ·rw[sizeLine_eq];omega
  ·rw[he]<;>rfl
 rcases hq with hq | hq
 ·obtain⟨its,rv,pl,u0⟩:=I.list hq
  obtain⟨q1,q2⟩:=zFe I hd rv hne;have l2:=rv.length;have l3:=hd.length;rw[bZ] at l3;exact zGN (vs:=its) (fun w hw=>by obtain⟨u0,ns,u0,t,u0⟩:=q2 w hw;exact⟨ns,t⟩) 2#0 (fun Q' hQ'=>collect_list pl.isList hQ' 151#0) fun out pm so=>fin its out rv pm so
 ·obtain⟨its,rv,pl,u0⟩:=I.tuple hq
  obtain⟨q1,q2⟩:=zFe I hd rv hne;have l2:=rv.length;have l3:=hd.length;rw[bZ] at l3;exact zGN (vs:=its) (fun w hw=>by obtain⟨u0,ns,u0,t,u0⟩:=q2 w hw;exact⟨ns,t⟩) 2#0 (fun Q' hQ'=>HT.zJS pl hQ') fun out pm so=>fin its out rv pm so
noncomputable def zCk(t:wU):TL2:=fun σ G R=>t σ G fun ds G1=>match ds with
 | [d]=>∃ nss:List (List Int),zDx G1 d (nss.map tI)/\nss.length<64/\(∀ ns∈nss,ns≠[])/\∀ nss':List (List Int),nss'.Perm nss->nss'.Pairwise 56#0->R (nss'.map tI) G1
 | _=>False
theorem zEq{t:wU}(hg:Gl X "sorted")(hm:X.mg "sorted"=none)(ha:A2 X [e] t)(he:3#0)(hpl:6#0) :
  F2 X (.Call (.Name "sorted" p) [e] [] pos) (zCk t):=by
 refine PE.mono (zBn zEC hg hm boot_sorted ha 8#0 8#0 he hpl) ?_;sleep 15;sleep 20
 ·rename_i d
  obtain⟨nss,e1,hl,hne,q1⟩:=q1;obtain⟨v,rfl,d2⟩:=zBD d1;obtain⟨a,xs,rfl,s1,t1⟩:=zFV r1 d2 e1;refine⟨a,xs,nss,rfl,s1,t1,hl,hne,fun l' ys' nss' n' h1 h2 h3=>?_⟩;exact k _ G1 (q1 nss' h1 h3) l' _ _ (g1.trans (.fresh n')) (r1.fresh n') (r1.free n') zz (h2.grow (.fresh n'))
 ·exact q1.elim
noncomputable def zAX(t:TL2):TL2:=fun σ G R=>t σ G fun ds G1=>∃ nss:List (List Int),ds=nss.map tI/\nss.length<64/\(∀ ns∈nss,ns≠[])/\∀ nss':List (List Int),nss'.Perm nss->nss'.Pairwise 56#0->R (nss'.map tI) G1
theorem zGO(hg:Gl X "sorted")(hm:X.mg "sorted"=none)(ha:F2 X e tl)(he:3#0)(hpl:6#0) :
  F2 X (.Call (.Name "sorted" p) [e] [] pos) (zAX tl):=by
 refine PE.mono (zBn zEC hg hm boot_sorted (zAb ha zB4 he) 8#0 8#0 he hpl) ?_;sleep 15;refine⟨σ,G,_,rl,q,fun ds G1 q1 l xs H1 g1 r1 n e1 d1=>?_⟩;obtain⟨nss,rfl,hl,hne,q1⟩:=q1;refine⟨l,xs,nss,rfl,.inl (.of e1),d1,hl,hne,fun l' ys' nss' n' h1 h2 h3=>?_⟩;exact k _ G1 (q1 nss' h1 h3) l' _ _ (g1.trans (.fresh n')) (r1.fresh n') (r1.free n') zz (h2.grow (.fresh n'))
end
end L3
namespace HT
section
variable {prog:Program} {w:World} {A:Around} {E:Value->Shared->Prop} {s:Shared}
end
end HT
namespace L3
open L2
section
variable {X:Cx} {a b c e o:Expr} {es:List Expr} {pos p:Pos} {ta tb te:zl}
end
section
variable {X:Cx} {a b c e o we:Expr} {es:List Expr} {pos p:Pos} {ta tb te tw:zl}
end
end L3
namespace HI
noncomputable def Ris(xs:Array Nat):Prop:=xs.toList.Pairwise (·<·)
theorem Ris.lt{xs:Array Nat}(h:Ris xs){i k:Nat}(ik:i<k)(hk:k<xs.size):xs[i]'(Nat.lt_trans ik hk)<xs[k]:=by
 have:=dY.mp h i k (by simpa using Nat.lt_trans ik hk) (by simpa using hk) ik;sleep 23
theorem zO7{xs:Array Nat}{j:Nat}(hr:Ris xs):∀(fuel lo hi:Nat),hi<=xs.size->lo<=hi->hi-lo<=fuel->(∀ i,(q:i<xs.size)->i<lo->xs[i]<j)->(∀ i,(q:i<xs.size)->hi<=i->j<=xs[i]) ->
  (∀ i,(q:i<xs.size)->i<cu.go xs j fuel lo hi->xs[i]<j)/\∀ i,(q:i<xs.size)->cu.go xs j fuel lo hi<=i->j<=xs[i]
 | 0,lo,hi,h1,h2,h3,a,b=>by
  unfold cu.go;obtain rfl:lo=hi:=by omega
  exact⟨fun i q e=>a i q e,fun i q e=>b i q e⟩
 | fuel+1,lo,hi,h1,h2,h3,a,b=>by
  unfold cu.go;by_cases c:lo<hi
  ·rw[if_pos c]
   dsimp only;have hm:(lo+hi) / 2<xs.size:=by omega
   have eg:xs.getD ((lo+hi) / 2) j=xs[(lo+hi) / 2]:=by simp[f6,hm]
   rw[eg];by_cases d:xs[(lo+hi) / 2]<j
   ·rw[if_pos d]
    refine zO7 hr fuel ((lo+hi) / 2+1) hi h1 2#0 2#0 (fun i q e=>?_) b;rcases dO i ((lo+hi) / 2) with z | z
    ·exact Nat.lt_trans (hr.lt z hm) d
    ·obtain rfl:i=(lo+hi) / 2:=by omega
     exact d
   ·rw[if_neg d]
    refine zO7 hr fuel lo ((lo+hi) / 2) 2#0 2#0 2#0 a (fun i q e=>?_);rcases dO ((lo+hi) / 2) i with z | z
    ·exact di (Nat.not_lt.mp d) (eS (hr.lt z q))
    ·obtain rfl:i=(lo+hi) / 2:=by omega
     exact Nat.not_lt.mp d
  ·rw[if_neg c]
   obtain rfl:lo=hi:=by omega
   exact⟨fun i q e=>a i q e,fun i q e=>b i q e⟩
theorem zGP{xs:Array Nat}{j:Nat}(hr:Ris xs):(∀ i,(q:i<xs.size)->i<cu xs j->xs[i]<j)/\∀ i,(q:i<xs.size)->cu xs j<=i->j<=xs[i]:=by
 unfold cu;exact zO7 hr xs.size 0 xs.size (ce _) (du _) 2#0 (fun i q e=>absurd e (fo _)) (fun i q e=>absurd q (Nat.not_lt.mpr e))
theorem zL5{xs:Array Nat}{j:Nat}(hr:Ris xs)(hn:xs[cu xs j]?≠some j):Ris (cZ xs (cu xs j) j):=by
 obtain⟨b1,b2⟩:=zGP (j:=j) hr;generalize cu xs j=p at *;unfold Ris;rw[SetTable.toList_insertAt];have hd:∀ a∈xs.toList.drop p,j<a:=fun a ha=>by
  obtain⟨i,hi,rfl⟩:=List.mem_iff_getElem.mp ha;rw[dU,cC] at hi;have hpi:p+i<xs.size:=by omega
  rw[List.getElem_drop,Array.getElem_toList];have h1:=b2 (p+i) hpi 2#0;rcases fj h1 with e | e
  ·exfalso
   cases i with
   | zero =>
    apply hn;rw[getElem?_pos xs p 2#0];congr 1;simpa using e.symm
   | succ i =>
    have hp:p<xs.size:=by omega
    have:=b2 p hp (ce _);have l:=hr.lt (i:=p) (k:=p+(i+1)) 2#0 hpi;omega
  ·exact e
 have ht:∀ a∈xs.toList.take p,a<j:=fun a ha=>by
  obtain⟨i,hi,rfl⟩:=List.mem_iff_getElem.mp ha;rw[cQ,cC] at hi;rw[List.getElem_take,Array.getElem_toList];exact b1 i 2#0 2#0
 refine eU.mpr ⟨hr.sublist (List.take_sublist _ _),fk.mpr ⟨hd,hr.sublist (List.drop_sublist _ _)⟩,fun a ha b hb=>?_⟩;rcases cI.mp hb with e | e
 ·rw[e];exact ht a ha
 ·exact Nat.lt_trans (ht a ha) (hd b e)
theorem zO8{t:SetTable}{j:Nat}(h:t.slot j=.empty\/t.slot j=.dummy):t.place[cu t.place j]?≠some j:=fun e=>by
 unfold SetTable.slot at h;simp only[e,beq_self_eq_true,if_true] at h;rcases h with h | h<;>cases h
theorem zBk{β:Type}(f:Nat->Option β):∀ l:List Nat,((l.filterMap fun j=>(f j).map (j,·)).map (·.1)).Sublist l
 | []=>.slnil
 | a::r=>by
  rw[List.filterMap_cons];cases f a with
  | none=>exact .cons _ (zBk f r)
  | some b=>exact .cons₂ _ (zBk f r)
section
variable {prog:Program} {w:World} {A:Around} {E:Value->Shared->Prop} {s:Shared}
end
section
variable {prog:Program} {w:World} {A:Around} {R:Result->Shared->Prop} {I:Addr} {fp wr:List Addr} {G:Array GenState->Array GenState->Prop} {n:Nat} {P:Nat->Value->Prop} {St:Nat->Shared->Prop}
end
noncomputable abbrev wz(w:World):Bool:=!(w.params.followText "set-order")
noncomputable abbrev zAB(w:World):Obj:={ cls:=.type "set",dict:=none,data:=.set #[] 0 (.fresh 0 0 (wz w)) }
section
variable {prog:Program} {w:World} {A:Around} {E:Value->Shared->Prop} {s:Shared}
theorem zED(v:Value){Q1:11#0}(h:Q1 36#0 { s with heap:=s.heap.push (zAB w) }) :
  codeAny 16#0 A (.call (.builtin "set.__new__") ⟨[.type "set",v],[]⟩) (wants Q1 E) s:=by
 refine codeAny_of_tree ?_;show wpAny _ A.in1 (do checkBuiltinCall "set.__new__" ⟨[.type "set",v],[]⟩;again (.builtin "set.__new__" ⟨[.type "set",v],[]⟩)) _ _ s;refine bQ (wpAny_of_eq (F.newCall_set_1 v) (c5 ⟨plainId_quiet F.plain_set_new _,dJ F.entry_set_new ?_⟩));rw[Around.under_plainId F.plain_set_new _];unfold Builtin.«set.__new__» Builtin.Frozenset.newClass;have hsub:=sub_set_self;obtain⟨hp,g,d,tk,os⟩:=s;dsimp only
 wp_walk
 refine wpAny_askSetting (c5 ?_);dsimp only;simp only[newObj];exact bQ (wpAny_alloc (c5 (c5 h)))
end
theorem zBI:Slot "set_iterator" "__next__" "set_iterator.__next__" :=
 .of (owner:="set_iterator") (n:="__next__") (by rw[typeLookup_type,builtinLookup_eq_fast];kernel_rfl) 10#0 10#0 10#0 (by first | exact .inl 10#0 | exact .inr 10#0) (by rw[isSubtype_type];kernel_rfl)
theorem zHl:entryFor table "set_iterator.__next__"=some Builtin.«set_iterator.__next__»:=entryFor_of_tree (by kernel_rfl)
theorem zJf(v:Value):argsOk "set_iterator.__next__" ⟨[v],[]⟩:=by unfold argsOk;kernel_rfl
theorem zJg:entryFor table "set.__iter__"=some Builtin.«frozenset.__iter__»:=entryFor_alias (id':="frozenset.__iter__") (by kernel_rfl) rfl 10#0 (by kernel_rfl)
theorem zL6{α:Type}:∀(l:List α) (i:Nat) (h:i<l.length),([l[i]]++l.eraseIdx i).Perm l
 | a::r,0,_=>.refl _
 | a::r,i+1,h=>by
  have hi:i<r.length:=by simpa using h
  have q:=zL6 r i hi;show([r[i]]++(a::r.eraseIdx i)).Perm (a::r);exact(eM.swap a r[i] _).trans (q.cons a)
theorem zL7{α:Type}(f:Nat->Nat):∀(n k:Nat) (l:List α) (out:Array α),l.length=n->(pickOrder.go f n k l out).toList.Perm (out.toList++l)
 | 0,k,l,out,h=>by
  have:l=[]:=eN.mp h;subst this;unfold pickOrder.go;simp
 | n+1,k,l,out,h=>by
  unfold pickOrder.go;have hi:f k%l.length<l.length:=Nat.mod_lt _ 2#0;rw[ej hi];dsimp only;refine(zL7 f n (k+1) _ _ (by rw[List.length_eraseIdx_of_lt hi];omega)).trans ?_;rw[Array.toList_push,dN];refine eM.append_left _ ?_;exact zL6 l _ hi
theorem zC1{α:Type}(f:Nat->Nat)(xs:Array α):(pickOrder f xs).toList.Perm xs.toList:=by
 unfold pickOrder;simpa using zL7 f xs.size 0 xs.toList #[] 24#0
section
variable {prog:Program} {w:World} {A:Around} {E:Value->Shared->Prop} {s:Shared}
theorem zCG{Q:146#0}(h:Q (w.params.followText "set-order") s):wpAny 16#0 A setsByText Q E s:=by
 unfold setsByText;exact bQ (wpAny_askSetting (c5 h))
noncomputable abbrev zCl(f:Value)(i:Int)(a:Addr)(n:Nat)(ep:Nat):Obj:={ cls:=.type "set_iterator",dict:=none,data:=.fields #[f,rawInt i,.ref a,rawInt n,rawInt ep],slots:=#[] }
structure Sx (h:Heap) (a:Addr) (es:Array (Int×Value)) (ep:Nat) (t:SetTable):Prop where
 ex:∃ o,h.get? a=some o/\o.ExactSet/\o.data=.set es ep t
theorem Sx.keep{h h':Heap}{a:Addr}{es:40#0}{ep:Nat}{t:SetTable}(x:Sx h a es ep t)(k:∀ o,h.get? a=some o->h'.get? a=some o):Sx h' a es ep t:=let ⟨o,e,r⟩:=x.ex;⟨o,k o e,r⟩
noncomputable def Tells(prog:Program)(w:World)(a:Addr)(es:40#0)(ep:Nat)(t:SetTable)(sl:Nat->Nat)(xs:31#0):Prop :=
 ∀(A:Around) (E:11#0) (s:Shared) (i:Nat) (Q:Option (Value×Nat)->Shared->Prop),i<=xs.length->Sx s.heap a es ep t->Q ((xs[i]?).map fun v=>(v,sl (i+1))) s->wpAny 16#0 A (setNext a (sl i) i ep) Q E s
theorem zGQ{a:Addr}{es:40#0}{ep:Nat}{t:SetTable}(hf:t.fits es.size=true)(hb:w.params.followText "set-order"=true):Tells prog w a es ep t (fun u0=>0) ((pickOrder (w.params.setOrder a ep) es).toList.map (·.2)):=by
 intro A E s i Q hi hx h;obtain⟨o,ho,u0,hd⟩:=hx.ex;unfold setNext;refine bQ (cY ho hd hf ?_);dsimp only;refine bQ (zCG ?_);rw[hb];simp only[↓reduceIte,bne_self_eq_false,bT];refine bQ ?_;unfold setWalk;refine bQ (cY ho hd hf ?_);dsimp only;refine bQ (zCG ?_);rw[hb];simp only[↓reduceIte];refine bQ (wpAny_askSetting (c5 (c5 ?_)));rw[cP,Option.map_map,Array.getElem?_toList] at h;exact h
theorem below_at{xs:Array Nat}(hr:Ris xs){i:Nat}(hi:i<=xs.size):(i<xs.size->cu xs (if i=0 then 0 else xs.getD (i-1) 0+1)=i)/\(i=xs.size->xs.size<=cu xs (if i=0 then 0 else xs.getD (i-1) 0+1)):=by
 generalize hj:(if i=0 then 0 else xs.getD (i-1) 0+1)=j;obtain⟨b1,b2⟩:=zGP (j:=j) hr;generalize cu xs j=p at b1 b2;have lo:i<=p:=by
  rcases dO p i with q | q
  ·exfalso
   have h1:=b2 p 2#0 (ce _);rw[if_neg 2#0] at hj;have h0:i-1<xs.size:=by omega
   have e:xs.getD (i-1) 0=xs[i-1]:=by simp[f6,h0]
   rw[e] at hj;rcases dO p (i-1) with z | z
   ·have:=hr.lt z h0;omega
   ·have e2:p=i-1:=by omega
    subst e2;omega
  ·exact q
 refine⟨fun h=>?_,fun h=>by omega⟩;rcases dO i p with q | q
 ·exfalso
  have h1:=b1 i h q;by_cases z:i=0
  ·rw[if_pos z] at hj;omega
  ·rw[if_neg z] at hj
   have h0:i-1<xs.size:=by omega
   have e:xs.getD (i-1) 0=xs[i-1]:=by simp[f6,h0]
   have:=hr.lt (i:=i-1) (k:=i) 2#0 h;omega
 ·omega
theorem zE9{a:Addr}{es:40#0}{ep:Nat}{t:SetTable}(hf:t.fits es.size=true)(hr:Ris t.place)(hb:w.params.followText "set-order"=false)(hl:t.led=true)(hp:(!t.plain&&decide (es.size>1))=false) :
  Tells prog w a es ep t (fun i=>if i=0 then 0 else t.place.getD (i-1) 0+1) (es.toList.map (·.2)):=by
 intro A E s i Q hi hx h;obtain⟨o,ho,u0,hd⟩:=hx.ex;have hs:t.place.size=es.size:=by
  simp only[SetTable.fits,cW,beq_iff_eq] at hf;exact hf.1
 unfold setNext;refine bQ (cY ho hd hf ?_);dsimp only;refine bQ (zCG ?_);rw[hb];simp only[bT,↓reduceIte];refine eV (fun q=>absurd (show(!t.plain&&decide (es.size>1))=true from q) (by rw[hp];decide)) (fun u0=>?_);refine bQ (eV (fun q=>absurd q (by rw[hl];simp)) (fun u0=>c5 (c5 ?_)));rw[bZ,cC] at hi;obtain⟨b1,b2⟩:=below_at hr (i:=i) 2#0;rw[cP,Option.map_map,Array.getElem?_toList] at h;rcases dO i es.size with q | q
 ·rw[b1 2#0,getElem?_pos es i q,getElem?_pos t.place i 2#0]
  rw[getElem?_pos es i q] at h;have e:t.place.getD (i+1-1) 0=t.place[i]'(by omega):=by simp[f6,hs,q]
  have h':Q (some (es[i].2,if i+1=0 then 0 else t.place.getD (i+1-1) 0+1)) s:=h;rw[if_neg 2#0,e] at h';exact h'
 ·have hn:es[cu t.place (if i=0 then 0 else t.place.getD (i-1) 0+1)]?=none:=by
   rw[Array.getElem?_eq_none_iff];have:=b2 2#0;omega
  have hn2:es[i]?=none:=by rw[Array.getElem?_eq_none_iff];exact q
  rw[hn];rw[hn2] at h;exact h
theorem zJh{a it:Addr}{es:40#0}{ep:Nat}{t:SetTable}{sl:Nat->Nat}{xs:31#0}(T:Tells prog w a es ep t sl xs)(hf:t.fits es.size=true)(hx:xs.length=es.size){i:Nat}(hi:i<es.size)(hit:s.heap.get? it=some (zCl (rawInt (sl i)) i a es.size ep))(hS:Sx s.heap a es ep t)(hne:a≠it){Q:Option Value->Shared->Prop}
  (hQ:∀ h' v,xs[i]?=some v->h'.get? it=some (zCl (rawInt (sl (i+1))) ((i+1:Nat):Int) a es.size ep)->(∀ b o,b≠it->s.heap.get? b=some o->h'.get? b=some o)->Q (some v) { s with heap:=h' }):wpAny 16#0 A (pyNext (.ref it)) Q E s:=by
 have hT:s.TypeIs (.ref it) "set_iterator":=⟨_,hit,rfl⟩
 obtain⟨o,ho,u0,hd⟩:=hS.ex;unfold pyNext;sleep 14;simp only[bne_self_eq_false,bT,↓reduceIte];simp only[Int.toNat_natCast];refine bQ (T _ _ _ i _ 2#0 hS ?_);rw[ej (show i<xs.length by omega)];refine bQ (wpAny_setField_rec hit 24#0 fun h1 e1 s1=>bQ (wpAny_setField_rec e1 24#0 fun h2 e2 s2=>c5 ⟨_,rfl,c5 (hQ h2 xs[i] (ej _) ?_ fun b o hb e=>s2.extBut _ _ hb (s1.extBut _ _ hb e))⟩));exact e2
theorem zRP{B:Around}{z:Shared}{Q:Fin->Shared->Prop}{E':11#0}(hh:B.handled=none)(h:∀ h' e,(∀ b o,z.heap.get? b=some o->h'.get? b=some o)->(∃ o,h'.get? e=some o/\o.cls=.type "StopIteration")->E' (.ref e) { z with heap:=h' }) :
  wpAny 16#0 B (do raiseNew (<-newExc (.type "StopIteration") [])) Q E' z:=by
 refine bQ ?_;simp only[newExc,newTuple];refine bQ (dk (bQ (m:=firstArgMember _ _) (wpAny_of_eq (a:=Value.none) (by first | rfl | (simp only[firstArgMember];rfl)) (dk ?_ (by size_fits)))) (by size_fits));simp only[raiseNew];refine bQ (wpAny_handled ?_);rw[hh];exact bQ (c5 (wpAny_throw (h _ _ (fun b o e=>bX _ (bX _ e)) ⟨_,ck _ rfl,rfl⟩)))
theorem zL8{a it:Addr}{es:40#0}{ep:Nat}{t:SetTable}{sl:Nat->Nat}{xs:31#0}(hh:A.handled=none)(T:Tells prog w a es ep t sl xs)(hf:t.fits es.size=true)(hx:xs.length=es.size)(hit:s.heap.get? it=some (zCl (rawInt (sl es.size)) es.size a es.size ep))(hS:Sx s.heap a es ep t){Q:Option Value->Shared->Prop}
  (hQ:∀ h',(∀ b o,b≠it->s.heap.get? b=some o->h'.get? b=some o)->Q none { s with heap:=h' }):wpAny 16#0 A (pyNext (.ref it)) Q E s:=by
 have hT:s.TypeIs (.ref it) "set_iterator":=⟨_,hit,rfl⟩
 obtain⟨o,ho,u0,hd⟩:=hS.ex;unfold pyNext;sleep 14;simp only[bne_self_eq_false,bT,↓reduceIte];simp only[Int.toNat_natCast];refine bQ (T _ _ _ es.size _ 2#0 hS ?_);rw[List.getElem?_eq_none (show xs.length<=es.size by omega)];refine bQ (wpAny_setField_rec hit 24#0 fun h1 e1 s1=>?_);refine zRP (by simpa using hh) fun h' e kp he=>?_;obtain⟨oe,q1,q2⟩:=he;refine bQ (wpAny_isInstance (T:="StopIteration") (b:=true) ⟨oe,q1,q2⟩ isSubtype_stop (c5 (hQ _ fun b o hb e=>kp _ _ (s1.extBut _ _ hb e))))
end
theorem zJi:Slot "set_iterator" "__iter__" "set_iterator.__iter__" :=
 .of (owner:="set_iterator") (n:="__iter__") (by rw[typeLookup_type,builtinLookup_eq_fast];kernel_rfl) 10#0 10#0 10#0 (by first | exact .inl 10#0 | exact .inr 10#0) (by rw[isSubtype_type];kernel_rfl)
theorem zNG:entryFor table "set_iterator.__iter__"=some Builtin.«dict_keyiterator.__iter__» :=
 entryFor_alias (id':="dict_keyiterator.__iter__") (by kernel_rfl) (by first | rfl | decide +kernel | (unfold String.splitOn;simp +decide [String.splitOnAux])) 10#0 (by kernel_rfl)
theorem zO9(v:Value):argsOk "set_iterator.__iter__" ⟨[v],[]⟩:=by unfold argsOk;kernel_rfl
section
variable {prog:Program} {w:World} {A:Around} {E:Value->Shared->Prop} {s:Shared}
theorem zJj{it:Addr}{f:Value}{i:Int}{a:Addr}{n ep:Nat}{Q:11#0}(h:s.heap.get? it=some (zCl f i a n ep))(q:Q (.ref it) s):wpAny 16#0 A (pyIter (.ref it)) Q E s:=by
 have hT:s.TypeIs (.ref it) "set_iterator":=⟨_,h,rfl⟩
 refine wpAny_pyIter_slot hT zJi (eJ zJi hT zNG ?_ (zO9 _));show wpAny _ _ (ret (.ref it)) _ _ s;exact c5 ⟨_,rfl,"set_iterator",_,hT,zBI.lookup,q⟩
theorem zGR{a:Addr}{o:Obj}{Q:146#0}(ho:s.heap.get? a=some o)(hc:o.cls=.type "set")(h:Q false s):wpAny 16#0 A (Builtin.List.listLengthHint (.ref a)) Q E s:=by
 unfold Builtin.List.listLengthHint;refine bQ (wpAny_specialOf ⟨o,ho,hc⟩ F.slot_set_len.lookup ?_);generalize hid:("set.__len__":String)=id0
 wp_delta
 rw[show splitId id0=some ("set","__len__") from by subst hid;decide +kernel];subst hid;refine bQ (wpAny_isInstance (T:="set") (b:=true) ⟨o,ho,hc⟩ (by rw[isSubtype_type];kernel_rfl) ?_);refine eV (fun hab=>absurd hab 8#0) (fun u0=>?_);refine eV (fun u0=>?_) (fun hab=>absurd 10#0 hab);exact bQ (f7 (T:="set") ⟨o,ho,hc⟩ (c5 h))
end
end HI
namespace L2
open HI
variable {X:Cx} {e:Expr} {t:TA} {p p2 pos pos2:Pos}
end L2
namespace L3
open L2
section
variable {X:Cx} {e:Expr} {p p2 pos pos2:Pos}
end
end L3
namespace HT3
open PySem
noncomputable abbrev Probe:=SetTable.Probe
noncomputable def adv(mask:Nat)(p:Probe):Probe :=
 if p.more>0 then { p with j:=p.j+1,more:=p.more-1 } else
 { p with j:=(em mask p.i p.perturb).1,more:=dg mask (em mask p.i p.perturb).1-(em mask p.i p.perturb).1,i:=(em mask p.i p.perturb).1,perturb:=(em mask p.i p.perturb).2 }
theorem zGS(t:SetTable)(p:Probe):t.advance p=adv t.mask p:=by
 unfold SetTable.advance adv;split<;>rfl
theorem zNH(mask:Nat)(p:Probe)(d:Option Nat):adv mask { p with dummy:=d }={ adv mask p with dummy:=d }:=by
 unfold adv;split<;>rfl
noncomputable def wK(mask:Nat)(h:Int):Nat->Probe
 | 0=>{ j:=db h%(mask+1),more:=dg mask (db h%(mask+1))-db h%(mask+1),i:=db h%(mask+1),perturb:=db h,dummy:=none }
 | n+1=>adv mask (wK mask h n)
noncomputable def lp(mask:Nat)(h:Int):Nat->Nat×Nat
 | 0=>(db h%(mask+1),db h)
 | n+1=>em mask (lp mask h n).1 (lp mask h n).2
theorem zTl(mask i:Nat):dg mask i-i<=9:=by
 unfold dg;split<;>omega
section
variable {mask:Nat} {h:Int}
theorem zFf{n i r q:Nat}(e:wK mask h n=⟨i,r,i,q,none⟩):∀ m,m<=r->wK mask h (n+m)=⟨i+m,r-m,i,q,none⟩
 | 0,_=>by simpa using e
 | m+1,hm=>by
  have:=zFf e m 2#0;show adv mask (wK mask h (n+m))=_;rw[this];unfold adv;rw[if_pos (show r-m>0 by omega)];simp only[SetTable.Probe.mk.injEq,and_true];omega
theorem zPA:∀ k,∃ n,n<=10*k/\wK mask h n=⟨(lp mask h k).1,dg mask (lp mask h k).1-(lp mask h k).1,(lp mask h k).1,(lp mask h k).2,none⟩
 | 0=>⟨0,ce _,rfl⟩
 | k+1=>by
  obtain⟨n,hn,e⟩:=zPA k;have hr:=zTl mask (lp mask h k).1;have:=zFf e _ (ce _);refine⟨n+(dg mask (lp mask h k).1-(lp mask h k).1)+1,by omega,?_⟩;show adv mask (wK mask h _)=_;rw[this];unfold adv;rw[if_neg 24#0];rfl
theorem zPB:∀ k,(lp mask h k).2=db h / 32 ^ k
 | 0=>by simp[lp]
 | k+1=>by
  show(em mask (lp mask h k).1 (lp mask h k).2).2=_;unfold em;simp only;rw[zPB k,Nat.div_div_eq_div_mul,et]
theorem zRQ:db h<2 ^ 64:=by
 unfold db;have h1:=Int.emod_lt_of_pos h (show(0:Int)<2 ^ 64 by decide);have h2:=Int.emod_nonneg h (show(2 ^ 64:Int)≠0 by decide);omega
theorem zVU{k:Nat}(hk:13<=k):(lp mask h k).2=0:=by
 rw[zPB];apply Nat.div_eq_of_lt;have h1:=zRQ (h:=h);have h2:32 ^ 13<=32 ^ k:=dC 2#0 hk;have h3:(2:Nat) ^ 64<=32 ^ 13:=by decide
 omega
noncomputable def fM(M x:Nat):Nat:=(x*5+1)%M
noncomputable def itr(M:Nat):Nat->Nat->Nat
 | 0,x=>x
 | m+1,x=>fM M (itr M m x)
theorem zEE(M:Nat)(a:Nat):∀ b x,itr M (a+b) x=itr M a (itr M b x):=by
 induction a with
 | zero=>intro b x;simp[itr]
 | succ a ih=>intro b x;rw[Nat.add_right_comm];show fM M _=fM M _;rw[ih]
theorem zGT:∀ m,(lp mask h (13+m)).1=itr (mask+1) m (lp mask h 13).1
 | 0=>rfl
 | m+1=>by
  show(em mask (lp mask h (13+m)).1 (lp mask h (13+m)).2).1=fM _ _;unfold em fM;simp only;rw[zVU 2#0,zGT m]
theorem zPC(k:Nat):(lp mask h k).1<mask+1:=by
 cases k with
 | zero=>exact Nat.mod_lt _ 2#0
 | succ k=>exact Nat.mod_lt _ 2#0
end
noncomputable def Cyc(M:Nat):Prop:=∀ i,i<M->∀ j,j<M->∃ m,m<M/\itr M m i=j
noncomputable def sm:Nat->Nat
 | 0=>0
 | m+1=>sm m*5+1
theorem zGU{M:Nat}(hM:0<M):∀ m,itr M m 0=sm m%M
 | 0=>by simp[itr,sm]
 | m+1=>by
  show(itr M m 0*5+1)%M=(sm m*5+1)%M;rw[zGU hM m,Nat.add_mod,Nat.mod_mul_mod,<-Nat.add_mod]
theorem zPD:∀ m,4*sm m+1=5 ^ m
 | 0=>rfl
 | m+1=>by
  have:=zPD m;show 4*(sm m*5+1)+1=5 ^ (m+1);rw[et];omega
theorem zK1(a:Nat):∀ b,sm (a+b)=5 ^ b*sm a+sm b
 | 0=>by simp[sm]
 | b+1=>by
  show sm (a+b)*5+1=5 ^ (b+1)*sm a+(sm b*5+1);rw[zK1 a b,et,Nat.add_mul,Nat.mul_right_comm];omega
theorem zPE:∀ m,sm m%2=m%2
 | 0=>rfl
 | m+1=>by
  have:=zPE m;show(sm m*5+1)%2=(m+1)%2;omega
theorem zPF(e:Nat):sm (e+e)=2*((2*sm e+1)*sm e):=by
 rw[zK1,<-zPD e,<-Nat.mul_assoc,Nat.mul_add,Nat.mul_one,<-Nat.mul_assoc,Nat.add_mul,Nat.add_mul];simp only[Nat.mul_assoc];omega
theorem zPG:∀ k d,2 ^ k ∣ sm d->2 ^ k ∣ d
 | 0,d,_=>by simp
 | k+1,d,h=>by
  have h2:2 ∣ sm d:=Nat.dvd_trans ⟨2 ^ k,by rw[et,Nat.mul_comm]⟩ h;have hp:=zPE d;obtain⟨e,rfl⟩:∃ e,d=e+e:=⟨d / 2,by omega⟩
  rw[zPF,et,Nat.mul_comm (2 ^ k)] at h;have h:=Nat.dvd_of_mul_dvd_mul_left 2#0 h;have hc:Nat.Coprime (2 ^ k) (2*sm e+1):=Nat.Coprime.pow_left k (by
   show Nat.gcd 2 (2*sm e+1)=1;rw[Nat.gcd_rec,show(2*sm e+1)%2=1 by omega];rfl)
  obtain⟨c,hc⟩:=zPG k e (hc.dvd_of_dvd_mul_left h);exact⟨c,by rw[et,Nat.mul_right_comm,<-hc];omega⟩
theorem zPH:∀ k,2 ^ k ∣ sm (2 ^ k)
 | 0=>by simp
 | k+1=>by
  rw[show(2:Nat) ^ (k+1)=2 ^ k+2 ^ k by rw[et];omega,zPF];obtain⟨c,hc⟩:=zPH k;generalize sm (2 ^ k)=x at hc;rw[hc];exact⟨(2*(2 ^ k*c)+1)*c,by rw[Nat.mul_left_comm _ (2 ^ k) c,<-Nat.two_mul,Nat.mul_assoc 2 (2 ^ k)]⟩
theorem zPI{k a b:Nat}(hab:a<=b)(hb:b-a<2 ^ k)(e:sm a%2 ^ k=sm b%2 ^ k):a=b:=by
 have e2:sm b=5 ^ a*sm (b-a)+sm a:=by
  have:=zK1 (b-a) a;rw[show b-a+a=b by omega] at this;exact this
 have hd:2 ^ k ∣ 5 ^ a*sm (b-a):=by
  have:2 ^ k ∣ sm b-sm a:=Nat.dvd_of_mod_eq_zero (Nat.sub_mod_eq_zero_of_mod_eq e.symm);rw[e2,Nat.add_sub_cancel] at this;exact this
 have hc:Nat.Coprime (2 ^ k) (5 ^ a):=Nat.Coprime.pow k a 8#0;have h3:=zPG k (b-a) (hc.dvd_of_dvd_mul_left hd);rcases Nat.eq_zero_or_pos (b-a) with z | z
 ·omega
 ·have:=Nat.le_of_dvd z h3
  omega
theorem zL9(k:Nat):Cyc (2 ^ k):=by
 have hM:0<2 ^ k:=Nat.pow_pos 2#0;have inj:∀ a b,a<=b->b<2 ^ k->sm a%2 ^ k=sm b%2 ^ k->a=b:=fun a b hab hb e=>zPI hab 2#0 e;have at0:∀ j,j<2 ^ k->∃ m,m<2 ^ k/\itr (2 ^ k) m 0=j:=fun j hj=>by
  have nd:((bY (2 ^ k)).map fun m=>sm m%2 ^ k).Nodup:=by
   refine dM.mpr (en.imp_of_mem (fun {a b} ha hb (ne:a≠b) e=>ne ?_) dF);have ha:=c8.mp ha;have hb:=c8.mp hb;rcases Nat.le_total a b with z | z
   ·exact inj a b z hb e
   ·exact(inj b a z ha e.symm).symm
  by_cases q:j∈(bY (2 ^ k)).map fun m=>sm m%2 ^ k
  ·obtain⟨m,hm,e⟩:=ca.mp q
   exact⟨m,c8.mp hm,by rw[zGU hM];exact e⟩
  ·exfalso
   have sub:((bY (2 ^ k)).map fun m=>sm m%2 ^ k) ⊆ (bY (2 ^ k)).filter (fun x=>decide (x≠j)):=fun x hx=>by
    obtain⟨m,u0,rfl⟩:=ca.mp hx;exact cb.mpr ⟨c8.mpr (Nat.mod_lt _ hM),decide_eq_true fun z=>q (by rw[<-z];exact hx)⟩
   have h1:=nd.length_le_of_subset sub;have h2:((bY (2 ^ k)).filter (fun x=>decide (x≠j))).length<(bY (2 ^ k)).length:=List.length_filter_lt_length_iff_exists.mpr ⟨j,c8.mpr hj,by simp⟩;rw[bZ] at h1;omega
 have hz:itr (2 ^ k) (2 ^ k) 0=0:=by
  rw[zGU hM];exact Nat.mod_eq_zero_of_dvd (zPH k)
 intro i hi j hj;obtain⟨a,ha,rfl⟩:=at0 i hi;obtain⟨b,hb,rfl⟩:=at0 j hj;generalize 2 ^ k=M at *;rcases dO b a with hab | hab
 ·refine⟨M+b-a,by omega,?_⟩
  rw[<-zEE,show M+b-a+a=b+M by omega,zEE,hz]
 ·refine⟨b-a,by omega,?_⟩
  rw[<-zEE,show b-a+a=b by omega]
theorem zMA{k i m m':Nat}(hi:i<2 ^ k)(h:m<=m')(hd:m'-m<2 ^ k)(e:itr (2 ^ k) m i=itr (2 ^ k) m' i):m=m':=by
 have hM:0<2 ^ k:=Nat.pow_pos 2#0;obtain⟨a,u0,rfl⟩:=zL9 k 0 hM i hi;rw[<-zEE,<-zEE,zGU hM,zGU hM] at e;have:=zPI (a:=m+a) (b:=m'+a) 2#0 2#0 e;omega
noncomputable def Msk(mask:Nat):Prop:=∃ k,3<=k/\mask+1=2 ^ k
theorem Msk.cyc{mask:Nat}(h:Msk mask):Cyc (mask+1):=by
 obtain⟨k,u0,e⟩:=h;rw[e];exact zL9 k
theorem Msk.ge{mask:Nat}(h:Msk mask):7<=mask:=by
 obtain⟨k,hk,e⟩:=h;have:2 ^ 3<=2 ^ k:=dC 2#0 hk;omega
theorem Msk.odd{mask:Nat}(h:Msk mask):(mask%2==0)=false:=by
 obtain⟨k,hk,e⟩:=h;obtain⟨c,rfl⟩:∃ c,k=c+1:=⟨k-1,by omega⟩
 rw[et] at e;have:mask%2=1:=by omega
 rw[this];rfl
theorem zJk(n:Nat):∀(fuel a:Nat),n<2 ^ a*2 ^ fuel->∃ b,a<=b/\cV.go n fuel (2 ^ a)=2 ^ b/\n<2 ^ b/\(b=a\/2 ^ b<=2*n)
 | 0,a,h=>⟨a,ce _,rfl,by simpa using h,.inl rfl⟩
 | fuel+1,a,h=>by
  unfold cV.go;by_cases q:2 ^ a<=n
  ·rw[if_pos q]
   obtain⟨b,h1,h2,h3,h4⟩:=zJk n fuel (a+1) (by rw[et,Nat.mul_assoc,<-Nat.pow_succ'];exact h);refine⟨b,by omega,by rw[<-et];exact h2,h3,.inr ?_⟩;rcases h4 with rfl | h4
   ·rw[et];omega
   ·exact h4
  ·rw[if_neg q]
   exact⟨a,ce _,rfl,by omega,.inl rfl⟩
theorem zGV{n:Nat}(h:n<=1000000):∃ b,3<=b/\cV n=2 ^ b/\n<2 ^ b/\(2 ^ b=8\/2 ^ b<=2*n):=by
 obtain⟨b,h1,h2,h3,h4⟩:=zJk n 64 3 (Nat.lt_of_le_of_lt h 8#0);refine⟨b,h1,h2,h3,?_⟩;rcases h4 with rfl | h4
 ·exact .inl rfl
 ·exact .inr h4
theorem heads{mask:Nat}{h:Int}(hm:Cyc (mask+1)){j:Nat}(hj:j<=mask):∃ k,k<=13+mask/\(lp mask h k).1=j:=by
 obtain⟨m,h1,h2⟩:=hm (lp mask h 13).1 (zPC 13) j 2#0;exact⟨13+m,by omega,by rw[zGT];exact h2⟩
open HI (Ris)
noncomputable def Ent(t:SetTable)(es:40#0)(j:Nat)(h:Int)(x:Value):Prop:=∃ i:Nat,t.place[i]?=some j/\es[i]?=some (h,x)
noncomputable def zEF(t:SetTable)(j:Nat):Prop:=t.slot j≠.empty
theorem zJl{xs:Array Nat}(hr:Ris xs){i j:Nat}(e:xs[i]?=some j):cu xs j=i:=by
 obtain⟨b1,b2⟩:=HI.zGP (j:=j) hr;obtain⟨hi,e⟩:=eB.mp e;rcases Nat.lt_trichotomy (cu xs j) i with z | z | z
 ·have h1:=b2 (cu xs j) 2#0 (ce _)
  have h2:=hr.lt z hi;omega
 ·exact z
 ·have:=b1 i hi z
  omega
theorem zHm{t:SetTable}(hr:Ris t.place){i j:Nat}(e:t.place[i]?=some j):t.slot j=.live i:=by
 unfold SetTable.slot;simp only;rw[zJl hr e,e];simp
theorem zRR{t:SetTable}{i j:Nat}(e:t.slot j=.live i):t.place[i]?=some j:=by
 unfold SetTable.slot at e;simp only at e;split at e
 ·rename_i q
  cases e;simpa using q
 ·split at e<;>cases e
theorem zIW{xs:Array Nat}(hr:Ris xs){j:Nat}:eE xs j=true↔j∈xs:=by
 unfold eE;constructor
 ·intro q
  have q:xs[cu xs j]?=some j:=by simpa using q
  exact Array.mem_of_getElem? q
 ·intro q
  obtain⟨i,hi,e⟩:=Array.getElem_of_mem q;have e':xs[i]?=some j:=by simp[hi,e]
  rw[zJl hr e',e'];simp
theorem zBJ{t:SetTable}(hr:Ris t.place)(hd:Ris t.dummies){j:Nat}:zEF t j↔j∈t.place\/j∈t.dummies:=by
 unfold zEF;constructor
 ·intro q
  unfold SetTable.slot at q;simp only at q;split at q
  ·rename_i z
   exact .inl (Array.mem_of_getElem? (by simpa using z))
  ·split at q
   ·rename_i z
    exact .inr ((zIW hd).mp z)
   ·exact(q rfl).elim
 ·rintro(q | q) z
  ·obtain⟨i,hi,e⟩:=Array.getElem_of_mem q
   rw[zHm hr (i:=i) (by simp[hi,e])] at z;cases z
  ·unfold SetTable.slot at z
   simp only at z;split at z
   ·cases z
   ·rw[if_pos ((zIW hd).mpr q)] at z
    cases z
structure Tab (t:SetTable) (es:Array (Int×Value)):Prop where
 msk:Msk t.mask
 size:t.place.size=es.size
 ris:Ris t.place
 risD:Ris t.dummies
 le:∀ j∈t.place,j<=t.mask
 leD:∀ j∈t.dummies,j<=t.mask
 room:t.fill<=t.mask
 way:∀ j h x,Ent t es j h x->∃ n,(wK t.mask h n).j=j/\∀ m,m<n->zEF t (wK t.mask h m).j
 dis:∀ j∈t.dummies,j∉t.place
theorem zCm{P:Nat->Prop}[DecidablePred P]{M:Nat}{l:14#0}(h:∀ j,j<M->P j->j∈l)(hl:l.length<M):∃ j,j<M/\¬ P j:=by
 by_cases q:∃ j,j<M/\¬ P j
 ·exact q
 ·have hs:bY M ⊆ l:=fun j hj=>by
   have hj:=c8.mp hj;by_cases z:P j
   ·exact h j hj z
   ·exact(q ⟨j,hj,z⟩).elim
  have:=fu.length_le_of_subset dF hs;simp at this;omega
theorem Tab.free{t:SetTable}{es:40#0}(T:Tab t es):∃ j,j<=t.mask/\t.slot j=.empty:=by
 have:=zCm (P:=fun j=>t.slot j≠.empty) (M:=t.mask+1) (l:=t.place.toList++t.dummies.toList) (fun j u0 q=>by
  rcases(zBJ T.ris T.risD).mp q with z | z
  ·exact dh _ (by simpa using z)
  ·exact cS _ (by simpa using z)) (by
  have:=T.room;unfold SetTable.fill at this;simp;omega)
 obtain⟨j,h1,h2⟩:=this;exact⟨j,by omega,Decidable.not_not.mp h2⟩
theorem zPJ{p:Nat->Prop}:∀ n,p n->∃ m,m<=n/\p m/\∀ k,k<m->¬ p k:=by
 intro n
 induction n using Nat.strongRecOn with
 | ind n ih =>
  intro hn;by_cases q:∃ m,m<n/\p m
  ·obtain⟨m,hm,hp⟩:=q
   obtain⟨k,h1,h2⟩:=ih m hm hp;exact⟨k,by omega,h2⟩
  ·exact⟨n,ce _,hn,fun k hk z=>q ⟨k,hk,z⟩⟩
theorem Tab.stop{t:SetTable}{es:40#0}(T:Tab t es)(h:Int):∃ N,N<=10*(13+t.fill)/\t.slot (wK t.mask h N).j=.empty/\∀ m,m<N->zEF t (wK t.mask h m).j:=by
 obtain⟨j,hj,he⟩:=T.free;obtain⟨kk,k3,ek⟩:=id T.msk;obtain⟨m0,h1,h2⟩:=T.msk.cyc (lp t.mask h 13).1 (zPC 13) j 2#0;obtain⟨m,hm0,hm,hmin⟩:=zPJ (p:=fun m=>t.slot (lp t.mask h (13+m)).1=.empty) m0 (by
  show t.slot (lp t.mask h (13+m0)).1=.empty;rw[zGT,h2];exact he)
 have hfill:m<=t.fill:=by
  have nd:((bY m).map fun x=>(lp t.mask h (13+x)).1).Nodup:=by
   refine dM.mpr (en.imp_of_mem (fun {a b} ha hb (ne:a≠b) e=>ne ?_) dF);have ha:=c8.mp ha;have hb:=c8.mp hb;rw[zGT,zGT] at e;have hl:=zPC (mask:=t.mask) (h:=h) 13;rw[ek] at e hl;rcases Nat.le_total a b with z | z
   ·exact zMA hl z 2#0 e
   ·exact(zMA hl z 2#0 e.symm).symm
  have sub:((bY m).map fun x=>(lp t.mask h (13+x)).1) ⊆ t.place.toList++t.dummies.toList:=fun x hx=>by
   obtain⟨y,hy,rfl⟩:=ca.mp hx;rcases(zBJ T.ris T.risD).mp (hmin y (c8.mp hy)) with z | z
   ·exact dh _ (by simpa using z)
   ·exact cS _ (by simpa using z)
  have:=nd.length_le_of_subset sub;unfold SetTable.fill;sleep 23
 obtain⟨n,h3,h4⟩:=zPA (mask:=t.mask) (h:=h) (13+m);have hn:n<=10*(13+t.fill):=by omega
 have e:t.slot (wK t.mask h n).j=.empty:=by rw[h4];exact hm
 have:∀ n,t.slot (wK t.mask h n).j=.empty->∃ N,N<=n/\t.slot (wK t.mask h N).j=.empty/\∀ m,m<N->zEF t (wK t.mask h m).j:=by
  intro n
  induction n using Nat.strongRecOn with
  | ind n ih =>
   intro q;by_cases z:∃ m,m<n/\t.slot (wK t.mask h m).j=.empty
   ·obtain⟨m,hm,q'⟩:=z
    obtain⟨N,h1,h2⟩:=ih m hm q';exact⟨N,by omega,h2⟩
   ·exact⟨n,ce _,q,fun m hm q'=>z ⟨m,hm,q'⟩⟩
 obtain⟨N,h1,h2,h3⟩:=this n e;exact⟨N,by omega,h2,h3⟩
open HI (Ris)
noncomputable abbrev At(mask:Nat)(h:Int)(n:Nat)(d:Option Nat):Probe:={ wK mask h n with dummy:=d }
theorem At.adv{mask:Nat}{h:Int}{n:Nat}{d:Option Nat}:adv mask (At mask h n d)=At mask h (n+1) d:=zNH mask (wK mask h n) d
noncomputable def zHn(t:SetTable)(h:Int)(N:Nat)(d:Option Nat):Prop:=∀ j,d=some j->t.slot j=.dummy/\∃ m,m<N/\(wK t.mask h m).j=j
theorem zPK{t:SetTable}{f:Nat->Int}{h:Int}{n fuel:Nat}{d:Option Nat}(hs:t.slot (wK t.mask h n).j=.empty):eD.go t f h (fuel+1) (At t.mask h n d)=some (.empty (wK t.mask h n).j d):=by
 rw[eD.go];simp only[hs]
theorem zPL{t:SetTable}{f:Nat->Int}{h:Int}{n fuel:Nat}{d:Option Nat}(hs:t.slot (wK t.mask h n).j=.dummy):eD.go t f h (fuel+1) (At t.mask h n d)=eD.go t f h fuel (At t.mask h (n+1) (some (wK t.mask h n).j)):=by
 rw[eD.go];simp only[hs];rw[zGS];exact congrArg _ (At.adv (n:=n) (d:=some (wK t.mask h n).j))
theorem zRS{t:SetTable}{f:Nat->Int}{h:Int}{n fuel i:Nat}{d:Option Nat}(hs:t.slot (wK t.mask h n).j=.live i):eD.go t f h (fuel+1) (At t.mask h n d)=if f i=h then some (.candidate (wK t.mask h n).j i (At t.mask h (n+1) d)) else eD.go t f h fuel (At t.mask h (n+1) d):=by
 rw[eD.go];simp only[hs];have e:t.advance (At t.mask h n d)=At t.mask h (n+1) d:=by rw[zGS];exact At.adv
 rw[e];by_cases hh:f i=h
 ·rw[if_pos hh,if_pos (by simpa using hh)]
 ·rw[if_neg hh,if_neg (by simpa using hh)]
theorem zNI{t:SetTable}{f:Nat->Int}{h:Int}{N:Nat}(hN:t.slot (wK t.mask h N).j=.empty)(hF:∀ m,m<N->zEF t (wK t.mask h m).j) :
  ∀(k n fuel:Nat) (d:Option Nat),N-n=k->n<=N->k<fuel->zHn t h N d ->
   (∃ d',zHn t h N d'/\eD.go t f h fuel (At t.mask h n d)=some (.empty (wK t.mask h N).j d')/\∀ m,n<=m->m<N->∀ i,t.slot (wK t.mask h m).j=.live i->f i≠h) \/
   (∃ m i d',n<=m/\m<N/\zHn t h N d'/\t.slot (wK t.mask h m).j=.live i/\f i=h/\eD.go t f h fuel (At t.mask h n d)=some (.candidate (wK t.mask h m).j i (At t.mask h (m+1) d'))/\∀ m',n<=m'->m'<m->∀ i',t.slot (wK t.mask h m').j=.live i'->f i'≠h):=by
 intro k
 induction k with
 | zero =>
  intro n fuel d hk hn hf hd;obtain rfl:n=N:=by omega
  obtain⟨fuel,rfl⟩:∃ g,fuel=g+1:=⟨fuel-1,by omega⟩
  exact .inl ⟨d,hd,zPK hN,fun m h1 h2=>by omega⟩
 | succ k ih =>
  intro n fuel d hk hn hf hd;have lt:n<N:=by omega
  obtain⟨fuel,rfl⟩:∃ g,fuel=g+1:=⟨fuel-1,by omega⟩
  have fl:=hF n lt;cases hs:t.slot (wK t.mask h n).j with
  | empty=>exact(fl hs).elim
  | dummy =>
   rw[zPL hs];have hd':zHn t h N (some (wK t.mask h n).j):=fun j e=>by cases e;exact⟨hs,n,lt,rfl⟩
   rcases ih (n+1) fuel (some (wK t.mask h n).j) (by omega) (by omega) (by omega) hd' with ⟨d',a1,a2,a3⟩ | ⟨m,i,d',a1,a2,a3,a4,a5,a6,a7⟩
   ·refine .inl ⟨d',a1,a2,fun m h1 h2 i q=>?_⟩
    rcases fj h1 with z | z
    ·subst z;rw[hs] at q;cases q
    ·exact a3 m 2#0 h2 i q
   ·refine .inr ⟨m,i,d',by omega,a2,a3,a4,a5,a6,fun m' h1 h2 i' q=>?_⟩
    rcases fj h1 with z | z
    ·subst z;rw[hs] at q;cases q
    ·exact a7 m' 2#0 h2 i' q
  | live i0 =>
   rw[zRS hs];by_cases hh:f i0=h
   ·exact .inr ⟨n,i0,d,ce _,lt,hd,hs,hh,if_pos hh,fun m' h1 h2=>by omega⟩
   ·rw[if_neg hh]
    rcases ih (n+1) fuel d (by omega) (by omega) (by omega) hd with ⟨d',a1,a2,a3⟩ | ⟨m,i,d',a1,a2,a3,a4,a5,a6,a7⟩
    ·refine .inl ⟨d',a1,a2,fun m h1 h2 i q=>?_⟩
     rcases fj h1 with z | z
     ·subst z;rw[hs] at q;cases q;exact hh
     ·exact a3 m 2#0 h2 i q
    ·refine .inr ⟨m,i,d',by omega,a2,a3,a4,a5,a6,fun m' h1 h2 i' q=>?_⟩
     rcases fj h1 with z | z
     ·subst z;rw[hs] at q;cases q;exact hh
     ·exact a7 m' 2#0 h2 i' q
end HT3
namespace HT3
open PySem PySem.Spec
open HI (Ris)
section
variable {prog:Program} {w:World} {P:Addr->Prop} {A:Around} {E:Value->Shared->Prop} {s:Shared}
noncomputable abbrev TK(prog:Program)(w:World)(P:Addr->Prop)(h:Heap)(ns:96#0)(b:Addr):Prop:=IsTupleKey (intKind prog w) h ns b/\P b
noncomputable abbrev hT(prog:Program)(w:World)(ns:96#0):Int:=tupleKeyHash (intKind prog w) ns
theorem zJm{ns:96#0}{vs:31#0}(h:ItemsAre (intKind prog w) ns vs):∀ v∈vs,∃ k t,v=.int k t:=by
 induction h with
 | nil=>intro v hv;cases hv
 | cons h1 _ ih =>
  intro v hv;rcases cI.mp hv with rfl | hv
  ·obtain⟨t,rfl⟩:=Value.isInt_shape h1;exact⟨_,_,rfl⟩
  ·exact ih v hv
theorem zPM{ns:96#0}{b:Addr}{Q:146#0}(hb:109#0)(h:Q false s):wpAny 16#0 A (ofAClassStatement 8 (.ref b)) Q E s:=by
 obtain⟨o,its,n,ho,hc,hd,hi⟩:=hb.1;unfold ofAClassStatement;refine bQ (f7 hb.1.typeIs ?_);simp only[beq_self_eq_true,↓reduceIte,pure_bind,Bool.not_true,bT];refine bQ (wpAny_seqItems ho hd ?_);simp only;sleep 36
 ·rintro v rest r s' ⟨hr,rfl,hall⟩
  obtain⟨k,t,rfl⟩:=hall v cF;unfold ofAClassStatement;refine bQ (c5 ?_);simp only[bT,if_false];exact c5 ⟨rfl,rfl,fun u hu'=>hall u (cq _ hu')⟩
 ·rintro⟨r1,r2⟩ s' ⟨hr,rfl,u0⟩
  simp only at hr;subst hr;exact c5 h
theorem zJn{ns:96#0}{b:Addr}{Q:146#0}(hb:109#0)(h:Q true s):wpAny 16#0 A (hashByValue 8 (.ref b)) Q E s:=by
 obtain⟨o,its,n,ho,hc,hd,hi⟩:=hb.1;unfold hashByValue;refine bQ (wpAny_specialOf hb.1.typeIs F.slot_tuple_hash.lookup ?_);simp only;refine bQ (wpAny_seqItems ho hd ?_);simp only[Option.getD_some];sleep 36
 ·rintro v rest r s' ⟨hr,rfl,hall⟩
  obtain⟨k,t,rfl⟩:=hall v cF;unfold hashByValue;refine bQ (c5 ?_);simp only[Bool.not_true,bT,if_false];exact c5 ⟨rfl,rfl,fun u hu'=>hall u (cq _ hu')⟩
 ·rintro⟨r1,r2⟩ s' ⟨hr,rfl,u0⟩
  simp only at hr;subst hr;exact c5 h
theorem zRT{ns:96#0}{b:Addr}{l:31#0}{Q:146#0}(hb:109#0)(hl:∀ v∈l,∃ c ms,v=.ref c/\TK prog w P s.heap ms c)(h:Q false s):wpAny 16#0 A (searchCouldBeSeen (.ref b) l) Q E s:=by
 unfold searchCouldBeSeen;refine bQ ?_;refine wpAny_forIn_list _ (fun rest r s'=>r.1=none/\s'=s/\∀ v∈rest,∃ c ms,v=Value.ref c/\TK prog w P s.heap ms c) _ ?_ ?_ _ _ ⟨rfl,rfl,hl⟩
 ·rintro v rest r s' ⟨hr,rfl,hall⟩
  obtain⟨c,ms,rfl,hc⟩:=hall v cF;have go:∀ u∈rest,∃ c ms,u=Value.ref c/\TK prog w P s'.heap ms c:=fun u hu'=>hall u (cq _ hu');dsimp only;by_cases e:(b==c)=true
  ·rw[if_pos (by simp[e])]
   exact c5 ⟨rfl,rfl,go⟩
  ·rw[if_neg (by simp[e,carriedByValue])]
   refine bQ ((tupleKind (intKind prog w)).quiet (k:=ns) hb.1 ?_);simp only[Bool.not_true,bT,if_false];refine bQ ((tupleKind (intKind prog w)).quiet (k:=ms) hc.1 ?_);simp only[Bool.not_true,bT,if_false];refine bQ (zPM hb ?_);simp only[bT,if_false];refine bQ (zPM hc ?_);simp only[bT,if_false];exact c5 ⟨rfl,rfl,go⟩
 ·rintro⟨r1,r2⟩ s' ⟨hr,rfl,u0⟩
  simp only at hr;subst hr;exact c5 h
noncomputable def OkT(prog:Program)(w:World)(P:Addr->Prop)(h:Heap)(es:40#0):Prop:=∀(i:Nat) (e:Int×Value),es[i]?=some e->∃ c ms,e=(hT prog w ms,.ref c)/\TK prog w P h ms c
noncomputable def sf(es:40#0)(i:Nat):Int:=(es[i]?.map (·.1)).getD 0
theorem zTm{b:Addr}{ns:96#0}{t:SetTable}{l:31#0}{K1 K2:Sem SetFound}{Q:SetFound->Shared->Prop}(hb:109#0)(hl:∀ v∈l,∃ c ms,v=.ref c/\TK prog w P s.heap ms c)(h:wpAny 16#0 A K2 Q E s) :
  wpAny 16#0 A (if (!t.led)=true then searchCouldBeSeen (.ref b) l>>=fun c=>if c=true then K1 else K2 else K2) Q E s:=by
 split
 ·refine bQ (zRT hb hl ?_)
  rw[if_neg 24#0];exact h
 ·exact h
theorem zTn{a b:Addr}{ns:96#0}{o:Obj}{es:40#0}{ep:Nat}{t:SetTable}{adding:Bool}{Q:SetFound->Shared->Prop}(hA:A.units<cLine)(ho:s.heap.get? a=some o)(hd:o.data=.set es ep t)(T:Tab t es)(ok:OkT prog w P s.heap es)(hb:109#0)
  {N:Nat} (hNle:N<=10*(13+t.mask)) (hN:t.slot (wK t.mask 68#0 N).j=.empty) (hF:∀ m,m<N->zEF t (wK t.mask 68#0 m).j)
  (q1:∀(i:Nat) c,es[i]?=some (hT prog w ns,.ref c)->TK prog w P s.heap ns c->Q (.there (if adding then none else some i)) s)
  (q2:(∀(i:Nat) e c ms,es[i]?=some e->e.2=.ref c->TK prog w P s.heap ms c->ms≠ns)->∀ d,zHn t 68#0 N d->Q (.free (d.getD (wK t.mask 68#0 N).j) d.isSome) s) :
  ∀(k n fuel:Nat) (d:Option Nat) (stand:Option SetTable.Probe),N-n=k->n<=N->k<fuel->zHn t 68#0 N d->stand.getD (t.probeStart 68#0)=At t.mask 68#0 n d ->
   (∀ m,m<n->∀(i:Nat),t.slot (wK t.mask 68#0 m).j=.live i->∀ e c ms,es[i]?=some e->e.2=.ref c->TK prog w P s.heap ms c->ms≠ns)->wpAny 16#0 A (setSearchFrom a (.ref b) 68#0 adding fuel stand) Q E s:=by
 have hft:t.fits es.size=true:=by
  unfold SetTable.fits;simp[T.size,T.room]
 have hgw:t.gaveWay=false:=T.msk.odd;intro k
 induction k using Nat.strongRecOn with
 | ind k ih =>
  intro n fuel d stand hk hn hf hdm hst hno;obtain⟨fuel,rfl⟩:∃ g,fuel=g+1:=⟨fuel-1,by omega⟩
  unfold setSearchFrom;refine bQ (cY ho hd hft ?_);dsimp only;rw[hgw];simp only[bT,↓reduceIte];rw[hst];have met:=zNI (t:=t) (f:=sf es) (h:=hT prog w ns) hN hF (N-n) n (10*fE t.mask) d rfl hn (by
   unfold fE;omega) hdm
  generalize hp:eD t _ _ _=r;rcases met with ⟨d',a1,a2,a3⟩ | ⟨m,i,d',a1,a2,a3,a4,a5,a6,a7⟩
  ·have hr:r=some (.empty (wK t.mask 68#0 N).j d'):=hp.symm.trans a2
   subst hr;dsimp only;have none:∀(i:Nat) e c ms,es[i]?=some e->e.2=.ref c->TK prog w P s.heap ms c->ms≠ns:=by
    intro i e c ms e1 e2 e3 e4;subst e4;obtain⟨c',ms',z1,z2⟩:=ok i e e1;have:c'=c:=by rw[z1] at e2;cases e2;rfl
    subst this;have:=z2.1.inj e3.1;subst this;have hi:i<t.place.size:=by rw[T.size];exact(eB.mp e1).1
    have pl:t.place[i]?=some t.place[i]:=by simp[hi]
    obtain⟨n',w1,w2⟩:=T.way t.place[i] (hT prog w ms') (.ref c') ⟨i,pl,by rw[e1,z1]⟩;have sl:=zHm T.ris pl;have lt:n'<N:=by
     rcases Nat.lt_trichotomy n' N with z | z | z
     ·exact z
     ·subst z;rw[w1,sl] at hN;cases hN
     ·exact(w2 N z hN).elim
    rw[<-w1] at sl;rcases dO n' n with z | z
    ·exact hno n' z i sl e c' ms' e1 e2 e3 rfl
    ·refine a3 n' z lt i sl ?_
     unfold sf;rw[e1,z1];rfl
   cases d' with
   | none=>exact c5 (q2 none Option.none a1)
   | some dj =>
    dsimp only;have hdj:=(a1 dj rfl).1;rw[if_neg (by simp[hdj])];exact c5 (q2 none (some dj) a1)
  ·have hr:r=some (.candidate (wK t.mask 68#0 m).j i (At t.mask 68#0 (m+1) d')):=hp.symm.trans a6
   subst hr;dsimp only;have pl:=zRR a4;have hi:i<es.size:=by rw[<-T.size];exact(eB.mp pl).1
   obtain⟨c,ms,z1,z2⟩:=ok i es[i] (by simp[hi]);have ei:es[i]?=some (hT prog w ms,.ref c):=by simp[hi,z1]
   have hseen:∀ v∈(Array.filter (fun x=>x.1==hT prog w ns) es).toList.map (fun x=>x.2),∃ c ms,v=.ref c/\TK prog w P s.heap ms c:=fun v hv=>by
    obtain⟨e,he,rfl⟩:=ca.mp hv;rw[Array.toList_filter] at he;obtain⟨i',hi',e'⟩:=eh (cb.mp he).1;obtain⟨c',ms',y1,y2⟩:=ok i' e (by rw[<-e'];simpa using hi');exact⟨c',ms',by rw[y1],y2⟩
   refine zTm hb hseen ?_;simp only[ei];refine bQ (dt ((tupleKind (intKind prog w)).eqBool (x:=ms) (y:=ns) hA z2.1 hb.1 ?_));refine bQ (cY ho hd hft ?_);dsimp only;have sm:t.sameMemory t.moves t.mask=some true:=by
    unfold SetTable.sameMemory;simp
   by_cases e:ms=ns
   ·subst e
    cases adding with
    | true =>
     rw[if_pos 24#0];exact c5 (q1 i c ei z2)
    | false =>
     rw[if_neg 24#0,sm];simp only[↓reduceIte,a4,ei];refine bQ (wpAny_isSame_ref_self ?_);simp only[↓reduceIte,pure_bind,decide_true];exact c5 (q1 i c ei z2)
   ·rw[if_neg (by simp[e]),sm]
    simp only[↓reduceIte,a4,ei];refine bQ (wpAny_isSame_ref_self ?_);simp only[↓reduceIte,pure_bind,decide_eq_true_eq,e];refine ih (N-(m+1)) 2#0 (m+1) fuel d' _ rfl 2#0 2#0 a3 rfl ?_;intro m' hm' i' sl' e' c' ms' f1 f2 f3 f4;subst f4;rcases dO m' n with z | z
    ·exact hno m' z i' sl' e' c' ms' f1 f2 f3 rfl
    ·rcases fj (Nat.le_of_lt_succ hm') with y | y
     ·subst y
      rw[a4] at sl';cases sl';rw[ei] at f1;cases f1;cases f2;exact e (z2.1.inj f3.1)
     ·obtain⟨c2,ms2,y1,y2⟩:=ok i' e' f1
      have:c2=c':=by rw[y1] at f2;cases f2;rfl
      subst this;have:=y2.1.inj f3.1;subst this;refine a7 m' z y i' sl' ?_;unfold sf;rw[f1,y1];rfl
end
open HI (Ris)
theorem zGW(mask:Nat)(h:Int):∀ n,(wK mask h n).j+(wK mask h n).more<=mask/\(wK mask h n).i<=mask
 | 0=>by
  have hi:db h%(mask+1)<=mask:=by have:=Nat.mod_lt (db h) (show 0<mask+1 by omega);omega
  show db h%(mask+1)+(dg mask (db h%(mask+1))-db h%(mask+1))<=mask/\db h%(mask+1)<=mask;generalize db h%(mask+1)=i at *;unfold dg;split<;>omega
 | n+1=>by
  have ih:=zGW mask h n;show(adv mask (wK mask h n)).j+(adv mask (wK mask h n)).more<=mask/\(adv mask (wK mask h n)).i<=mask;unfold adv;split
  ·simp only
   omega
  ·simp only
   have hi:(em mask (wK mask h n).i (wK mask h n).perturb).1<=mask:=by
    unfold em;simp only;have:=Nat.mod_lt ((wK mask h n).i*5+1+(wK mask h n).perturb / 32) (show 0<mask+1 by omega);omega
   generalize (em mask (wK mask h n).i (wK mask h n).perturb).1=i at *;unfold dg;split<;>omega
theorem zFg{t:SetTable}{es:40#0}{j:Nat}{h:Int}{x:Value}:Ent t es j h x↔(j,(h,x))∈t.place.toList.zip es.toList:=by
 unfold Ent;rw[List.mem_iff_getElem?];constructor
 ·rintro⟨i,e1,e2⟩
  exact⟨i,by rw[List.getElem?_zip_eq_some];simpa using⟨e1,e2⟩⟩
 ·rintro⟨i,e⟩
  rw[List.getElem?_zip_eq_some] at e;exact⟨i,by simpa using e.1,by simpa using e.2⟩
theorem zRU{α β:Type}{l:List α}{l':List β}(hl:l.length=l'.length)(p:Nat)(a:α)(b:β)(z:α×β):z∈(l.take p++a::l.drop p).zip (l'.take p++b::l'.drop p)↔z=(a,b)\/z∈l.zip l':=by
 rw[List.zip_append (by simp[hl])];have e:l.zip l'=(l.take p).zip (l'.take p)++(l.drop p).zip (l'.drop p):=by
  rw[<-List.zip_append (by simp[hl]),dH,dH]
 rw[e];simp only[List.zip_cons_cons,cr,cI];constructor
 ·rintro(h | h | h)
  ·exact .inr (.inl h)
  ·exact .inl h
  ·exact .inr (.inr h)
 ·rintro(h | h | h)
  ·exact .inr (.inl h)
  ·exact .inl h
  ·exact .inr (.inr h)
theorem zj{α:Type}(xs:Array α)(p:Nat):(cD xs p).toList=xs.toList.take p++xs.toList.drop (p+1):=by
 simp[cD,List.extract_eq_take_drop,fh]
theorem zIX{α:Type}(l:List α)(p:Nat):(l.take p++l.drop (p+1)).Sublist l:=by
 conv=>rhs;rw[<-dH p l]
 exact(List.Sublist.refl _).append (by rw[<-List.drop_drop];exact List.drop_sublist 1 _)
theorem zPN{α:Type}{l:List α}{p:Nat}{x y:α}(hp:l[p]?=some x)(hy:y∈l)(hne:y≠x):y∈l.take p++l.drop (p+1):=by
 rw[<-dH p l] at hy;rcases cr.mp hy with h | h
 ·exact dh _ h
 ·obtain⟨hlt,e⟩:=cc.mp hp
  rw[List.drop_eq_getElem_cons hlt,e] at h;rcases cI.mp h with h | h
  ·exact(hne h).elim
  ·exact cS _ h
theorem zMB{α:Type}{l:List α}{p:Nat}{x:α}(hp:l[p]?=some x):l.Perm (x::(l.take p++l.drop (p+1))):=by
 obtain⟨hlt,e⟩:=cc.mp hp
 conv=>lhs;rw[<-dH p l,List.drop_eq_getElem_cons hlt,e]
 exact List.perm_middle
theorem zPO{xs:Array Nat}(hr:Ris xs){p j:Nat}(hp:xs.toList[p]?=some j):j∉xs.toList.take p++xs.toList.drop (p+1):=by
 have nd:xs.toList.Nodup:=en.imp (fun h=>cH h) hr;exact(dZ.mp ((zMB hp).nodup_iff.mp nd)).1
theorem zHo{xs:Array Nat}(hr:Ris xs)(p:Nat):Ris (cD xs p):=by
 unfold Ris;rw[zj];exact en.sublist (zIX _ _) hr
section
variable {t:SetTable} {es:Array (Int×Value)} {j:Nat} {h:Int} {x:Value}
theorem zIY(hs:t.slot j=.dummy):eE t.dummies j=true:=by
 unfold SetTable.slot at hs;simp only at hs;split at hs
 ·cases hs
 ·split at hs
  ·rename_i q;exact q
  ·cases hs
theorem zRV(T:Tab t es){j':Nat}{h':Int}{x':Value}:Ent (t.put j).1 (cZ es (t.put j).2 (h,x)) j' h' x'↔(j'=j/\h'=h/\x'=x)\/Ent t es j' h' x':=by
 rw[zFg,zFg];show(j',(h',x'))∈(cZ t.place (cu t.place j) j).toList.zip (cZ es (cu t.place j) (h,x)).toList↔_;rw[SetTable.toList_insertAt,SetTable.toList_insertAt,zRU (by simpa using T.size)];simp
theorem zJo(T:Tab t es)(hnl:t.slot j=.empty\/t.slot j=.dummy)(rD:Ris (t.put j).1.dummies)(rP:Ris (t.put j).1.place){i:Nat}(hf:zEF t i):zEF (t.put j).1 i:=by
 rw[zBJ rP rD];have pm:∀ y,y∈(t.put j).1.place↔y=j\/y∈t.place:=fun y=>by
  show y∈cZ t.place (cu t.place j) j↔_;rw[<-dD,(dP _ _ _).mem_iff];simp[or_comm]
 rcases(zBJ T.ris T.risD).mp hf with q | q
 ·exact .inl ((pm i).mpr (.inr q))
 ·by_cases e:i=j
  ·exact .inl ((pm i).mpr (.inl e))
  ·refine .inr ?_
   show i∈49#0;split
   ·rename_i hh
    rw[<-dD,zj];have hp:t.dummies.toList[cu t.dummies j]?=some j:=by
     unfold eE at hh;simpa using hh
    exact zPN hp (by simpa using q) e
   ·exact q
theorem Tab.put(T:Tab t es){n:Nat}(hj:(wK t.mask h n).j=j)(hw:∀ m,m<n->zEF t (wK t.mask h m).j)(hnl:t.slot j=.empty\/t.slot j=.dummy)(rm:t.fill+1<=t.mask) :
  Tab (t.put j).1 (cZ es (t.put j).2 (h,x))/\(t.put j).1.fill<=t.fill+1/\(t.slot j=.dummy->(t.put j).1.fill=t.fill):=by
 have hnl':t.place[cu t.place j]?≠some j:=HI.zO8 hnl;have rP:Ris (t.put j).1.place:=HI.zL5 T.ris hnl';have rD:Ris (t.put j).1.dummies:=by
  show Ris 49#0;split
  ·exact zHo T.risD _
  ·exact T.risD
 have jm:j<=t.mask:=by have:=(zGW t.mask h n).1;omega
 have pz:(t.put j).1.place.size=t.place.size+1:=by
  have:=(dP t.place (cu t.place j) j).length_eq;show(cZ t.place (cu t.place j) j).size=_;sleep 23
 have dz:(t.put j).1.dummies.size<=t.dummies.size/\(t.slot j=.dummy->(t.put j).1.dummies.size+1=t.dummies.size):=by
  show(if eE t.dummies j then cD t.dummies (cu t.dummies j) else t.dummies).size<=_/\(_->(if eE t.dummies j then cD t.dummies (cu t.dummies j) else t.dummies).size+1=_)
  split
  ·rename_i hh
   have hp:t.dummies.toList[cu t.dummies j]?=some j:=by
    unfold eE at hh;simpa using hh
   have hlt:=(cc.mp hp).1;have e:(cD t.dummies (cu t.dummies j)).size=t.dummies.size-1:=by
    rw[<-cC,zj,cg,cQ,dU];simp only[cC] at *;omega
   simp only[cC] at hlt;omega
  ·rename_i hh
   exact⟨ce _,fun q=>(hh (zIY q)).elim⟩
 have fz:(t.put j).1.fill=(t.put j).1.place.size+(t.put j).1.dummies.size:=rfl;have fz0:t.fill=t.place.size+t.dummies.size:=rfl;refine⟨⟨T.msk,?_,rP,rD,fun y hy=>?_,fun y hy=>?_,?_,fun j' h' x' he=>?_,fun y hy hy'=>?_⟩,by omega,fun q=>by have:=dz.2 q;omega⟩
 ·rw[pz,T.size]
  have:=(dP es (t.put j).2 (h,x)).length_eq;simp at this;omega
 ·have:y∈cZ t.place (cu t.place j) j:=hy
  rw[<-dD,(dP _ _ _).mem_iff] at this;rcases(by simpa using this:y∈t.place\/y=j) with q | q
  ·exact T.le y q
  ·rw[q];exact jm
 ·have:y∈49#0:=hy
  refine T.leD y ?_;split at this
  ·rw[<-dD,zj] at this
   simpa using(zIX _ _).subset this
  ·exact this
 ·show(t.put j).1.fill<=t.mask
  omega
 ·rcases(zRV T).mp he with ⟨rfl,rfl,rfl⟩ | q
  ·exact⟨n,hj,fun m hm=>zJo T hnl rD rP (hw m hm)⟩
  ·obtain⟨n',w1,w2⟩:=T.way j' h' x' q
   exact⟨n',w1,fun m hm=>zJo T hnl rD rP (w2 m hm)⟩
 ·have hz:y∈49#0:=hy
  have hz':y∈cZ t.place (cu t.place j) j:=hy';clear hy hy';rw[<-dD,(dP _ _ _).mem_iff] at hz';have hz':y∈t.place\/y=j:=by simpa using hz'
  by_cases hh:eE t.dummies j=true
  ·rw[if_pos hh] at hz
   have hp:t.dummies.toList[cu t.dummies j]?=some j:=by
    unfold eE at hh;simpa using hh
   rw[<-dD,zj] at hz;rcases hz' with q | q
   ·exact T.dis y (by simpa using(zIX _ _).subset hz) q
   ·rw[q] at hz
    exact zPO T.risD hp hz
  ·rw[if_neg hh] at hz
   rcases hz' with q | q
   ·exact T.dis y hz q
   ·rw[q] at hz
    exact hh ((zIW T.risD).mpr hz)
end
section
variable {t:SetTable} {es:Array (Int×Value)} {i j:Nat}
theorem zTo{α β:Type}{l:List α}{l':List β}(hl:l.length=l'.length)(p:Nat){z:α×β}(h:z∈(l.take p++l.drop (p+1)).zip (l'.take p++l'.drop (p+1))):z∈l.zip l':=by
 rw[List.zip_append (by simp[hl])] at h;have e:l.zip l'=(l.take p).zip (l'.take p)++(l.drop p).zip (l'.drop p):=by
  rw[<-List.zip_append (by simp[hl]),dH,dH]
 rw[e];rcases cr.mp h with q | q
 ·exact dh _ q
 ·refine cS _ ?_
  rw[<-List.drop_drop,<-List.drop_drop] at q;generalize l.drop p=a at q ⊢;generalize l'.drop p=b at q ⊢;cases a with
  | nil=>simp at q
  | cons a0 a1 =>
   cases b with
   | nil=>simp at q
   | cons b0 b1 =>
    have q:z∈a1.zip b1:=by simpa using q
    show z∈(a0,b0)::a1.zip b1;exact cq _ q
theorem Tab.drop(T:Tab t es)(hi:t.place[i]?=some j):Tab (t.drop i) (cD es i)/\(t.drop i).fill=t.fill:=by
 have ed:t.drop i={ t with place:=cD t.place i,dummies:=cZ t.dummies (cu t.dummies j) j }:=by
  unfold SetTable.drop;rw[hi]
 have hp:t.place.toList[i]?=some j:=by simpa using hi
 have jp:j∈t.place:=Array.mem_of_getElem? hi;have jd:j∉t.dummies:=fun q=>T.dis j q jp;have hlt:i<t.place.size:=(eB.mp hi).1;have rP:Ris (cD t.place i):=zHo T.ris i;have rD:Ris (cZ t.dummies (cu t.dummies j) j):=HI.zL5 T.risD fun q=>jd (Array.mem_of_getElem? q);have pz:(cD t.place i).size=t.place.size-1:=by
  rw[<-cC,zj,cg,cQ,dU];simp only[cC];omega
 have ez:(cD es i).size=es.size-1:=by
  have:=T.size;rw[<-cC,zj,cg,cQ,dU];simp only[cC];omega
 have dz:(cZ t.dummies (cu t.dummies j) j).size=t.dummies.size+1:=by
  have:=(dP t.dummies (cu t.dummies j) j).length_eq;sleep 23
 have dm:∀ y,y∈cZ t.dummies (cu t.dummies j) j↔y∈t.dummies\/y=j:=fun y=>by
  rw[<-dD,(dP _ _ _).mem_iff];simp
 rw[ed];have fl:∀ y,zEF t y->zEF { t with place:=cD t.place i,dummies:=cZ t.dummies (cu t.dummies j) j } y:=fun y q=>by
  rw[zBJ rP rD];rcases(zBJ T.ris T.risD).mp q with z | z
  ·by_cases e:y=j
   ·exact .inr ((dm y).mpr (.inr e))
   ·left
    show y∈cD t.place i;rw[<-dD,zj];exact zPN hp (by simpa using z) e
  ·exact .inr ((dm y).mpr (.inl z))
 have sb:∀ y,y∈cD t.place i->y∈t.place:=fun y hy=>by
  rw[<-dD,zj] at hy;simpa using(zIX _ _).subset hy
 have fz:SetTable.fill { t with place:=cD t.place i,dummies:=cZ t.dummies (cu t.dummies j) j }=t.fill:=by
  show(cD t.place i).size+(cZ t.dummies (cu t.dummies j) j).size=t.place.size+t.dummies.size;omega
 refine⟨⟨T.msk,?_,rP,rD,fun y hy=>T.le y (sb y hy),fun y hy=>?_,?_,fun j' h' x' he=>?_,fun y hy hy'=>?_⟩,fz⟩
 ·show(cD t.place i).size=_
  rw[pz,ez,T.size]
 ·rcases(dm y).mp hy with q | q
  ·exact T.leD y q
  ·rw[q];exact T.le j jp
 ·rw[fz];exact T.room
 ·rw[zFg] at he
  have he:(j',(h',x'))∈(cD t.place i).toList.zip (cD es i).toList:=he;rw[zj,zj] at he;obtain⟨n',w1,w2⟩:=T.way j' h' x' (zFg.mpr (zTo (by simpa using T.size) i he));exact⟨n',w1,fun m hm=>fl _ (w2 m hm)⟩
 ·rcases(dm y).mp hy with q | q
  ·exact T.dis y q (sb y hy')
  ·subst q
   have hy':y∈cD t.place i:=hy';rw[<-dD,zj] at hy';exact zPO T.ris hp hy'
end
open HI (Ris)
noncomputable def hd(mask:Nat)(h:Int):Nat->Nat
 | 0=>0
 | k+1=>hd mask h k+(dg mask (lp mask h k).1-(lp mask h k).1)+1
section
variable {mask:Nat} {h:Int}
theorem zPP:∀ k,wK mask h (hd mask h k)=⟨(lp mask h k).1,dg mask (lp mask h k).1-(lp mask h k).1,(lp mask h k).1,(lp mask h k).2,none⟩
 | 0=>rfl
 | k+1=>by
  have:=zFf (zPP k) _ (ce _);show adv mask (wK mask h (hd mask h k+(dg mask (lp mask h k).1-(lp mask h k).1)))=_;rw[this];unfold adv;rw[if_neg 24#0];rfl
theorem zK2{k m:Nat}(hm:m<=dg mask (lp mask h k).1-(lp mask h k).1):(wK mask h (hd mask h k+m)).j=(lp mask h k).1+m:=by rw[zFf (zPP k) m hm]
theorem zTp(mask i:Nat):i<=dg mask i:=by
 unfold dg;split<;>omega
noncomputable def Tk(owner:Array (Option Nat))(j:Nat):Prop:=(owner.getD j (some 0)).isSome=true
theorem zPQ{owner:Array (Option Nat)}{R:Nat}(hR:¬ Tk owner (lp mask h R).1):∀(fuel r:Nat),r<=R->R-r<fuel->(∀ m,m<hd mask h r->Tk owner (wK mask h m).j) ->
  ∃ j n,eW.free mask owner fuel (lp mask h r).1 (lp mask h r).2=some j/\(wK mask h n).j=j/\¬ Tk owner j/\∀ m,m<n->Tk owner (wK mask h m).j:=by
 intro fuel
 induction fuel with
 | zero=>intro r u0 h;omega
 | succ fuel ih =>
  intro r hr hf hb;unfold eW.free;have hge:=zTp mask (lp mask h r).1;cases hfd:(bY (dg mask (lp mask h r).1+1-(lp mask h r).1)).find? fun k=>(owner.getD ((lp mask h r).1+k) (some 0)).isNone with
  | some k0 =>
   obtain⟨f1,f2,f3⟩:=List.find?_range_eq_some.mp hfd;have f2:=c8.mp f2;refine⟨(lp mask h r).1+k0,hd mask h r+k0,by simp only[hfd],?_,?_,?_⟩
   ·exact zK2 2#0
   ·unfold Tk
    rw[Option.isNone_iff_eq_none] at f1;rw[f1];simp
   ·intro m hm
    rcases dO m (hd mask h r) with z | z
    ·exact hb m z
    ·obtain⟨d,rfl⟩:∃ d,m=hd mask h r+d:=⟨m-hd mask h r,by omega⟩
     rw[zK2 2#0];have:=f3 d 2#0;unfold Tk;cases q:owner.getD ((lp mask h r).1+d) (some 0) with
     | none=>rw[q] at this;simp at this
     | some _=>rfl
  | none =>
   rw[List.find?_range_eq_none] at hfd;have all:∀ d,d<=dg mask (lp mask h r).1-(lp mask h r).1->Tk owner ((lp mask h r).1+d):=fun d hd'=>by
    have:=hfd d 2#0;unfold Tk;cases q:owner.getD ((lp mask h r).1+d) (some 0) with
    | none=>rw[q] at this;simp at this
    | some _=>rfl
   have hne:r≠R:=fun e=>by
    subst e;exact hR (by simpa using all 0 (du _))
   simp only;refine ih (r+1) 2#0 2#0 fun m hm=>?_;have hm:m<hd mask h r+(dg mask (lp mask h r).1-(lp mask h r).1)+1:=hm;rcases dO m (hd mask h r) with z | z
   ·exact hb m z
   ·obtain⟨d,rfl⟩:∃ d,m=hd mask h r+d:=⟨m-hd mask h r,by omega⟩
    rw[zK2 2#0];exact all d 2#0
end
theorem zEG{β:Type}{f g:Nat->Option β}:∀ {l:14#0},(∀ i∈l,g i=f i)->l.filterMap g=l.filterMap f
 | [],_=>rfl
 | a::l,h=>by
  have ea:=h a cF;have ih:=zEG fun i hi=>h i (cq _ hi);cases q:f a with
  | none=>rw[eZ (ea.trans q),eZ q,ih]
  | some c=>rw[el (ea.trans q),el q,ih]
theorem zPR{β:Type}{f:Nat->Option β}:∀ {l:14#0},(∀ i∈l,(f i).isSome=true)->(l.filterMap f).length=l.length
 | [],_=>rfl
 | a::l,h=>by
  have ih:=zPR fun i hi=>h i (cq _ hi);have ea:=h a cF;cases q:f a with
  | none=>rw[q] at ea;cases ea
  | some c=>rw[el q,bV,bV,ih]
theorem zPS{β:Type}{f g:Nat->Option β}{j:Nat}{b:β}(hf:f j=none)(hg:g j=some b):∀ {l:14#0},l.Nodup->j∈l->(∀ i∈l,i≠j->g i=f i)->(l.filterMap g).Perm (b::l.filterMap f)
 | [],_,hj,_=>by cases hj
 | a::l,nd,hj,ho=>by
  obtain⟨n1,n2⟩:=dZ.mp nd;by_cases e:a=j
  ·subst e
   have:l.filterMap g=l.filterMap f:=by
    apply zEG;intro i hi;exact ho i (cq _ hi) fun e=>n1 (e▸hi)
   rw[el hg,eZ hf,this]
  ·have hj':j∈l:=by
    rcases cI.mp hj with q | q
    ·exact(e q.symm).elim
    ·exact q
   have ih:=zPS hf hg n2 hj' fun i hi hne=>ho i (cq _ hi) hne;have ea:=ho a cF e;cases q:f a with
   | none=>rw[eZ (ea.trans q),eZ q];exact ih
   | some c =>
    rw[el (ea.trans q),el q];exact(eM.cons c ih).trans (eM.swap _ _ _)
structure zIZ (mask:Nat) (hs:List Int) (owner:Array (Option Nat)) (k:Nat):Prop where
 size:owner.size=mask+1
 way:∀(j k':Nat),owner.getD j none=some k'->∃ h n,hs[k']?=some h/\(wK mask h n).j=j/\∀ m,m<n->(owner.getD (wK mask h m).j none).isSome=true
 perm:((bY (mask+1)).filterMap fun j=>owner.getD j none).Perm (bY k)
theorem zIZ.gap{mask:Nat}{hs:96#0}{owner:Array (Option Nat)}{k:Nat}(I:zIZ mask hs owner k)(hk:k<=mask):∃ j,j<=mask/\owner.getD j none=none:=by
 by_cases q:∃ j,j<=mask/\owner.getD j none=none
 ·exact q
 ·have:=zPR (f:=fun j=>owner.getD j none) (l:=bY (mask+1)) fun i hi=>by
   have hi:=c8.mp hi;cases z:owner.getD i none with
   | none=>exact(q ⟨i,by omega,z⟩).elim
   | some _=>rfl
  rw[I.perm.length_eq,cz,cz] at this;omega
theorem zK3{mask:Nat}{hs:96#0}{owner:Array (Option Nat)}{k:Nat}(I:zIZ mask hs owner k){j:Nat}(hj:j<=mask):Tk owner j↔(owner.getD j none).isSome=true:=by
 have:j<owner.size:=by rw[I.size];omega
 unfold Tk;simp[f6,this]
theorem zIZ.step{mask:Nat}{hs:96#0}{owner:Array (Option Nat)}{k:Nat}{h:Int}(hm:Msk mask)(I:zIZ mask hs owner k)(hk:k<=mask)(e:hs[k]?=some h) :
  ∃ j,eW.free mask owner (fE mask) (db h%(mask+1)) (db h)=some j/\zIZ mask hs (owner.setIfInBounds j (some k)) (k+1):=by
 obtain⟨j0,h1,h2⟩:=I.gap hk;obtain⟨R,r1,r2⟩:=heads (h:=h) hm.cyc h1;obtain⟨j,n,f1,f2,f3,f4⟩:=zPQ (mask:=mask) (h:=h) (owner:=owner) (R:=R) (by rw[r2,zK3 I h1,h2];simp) (fE mask) 0 (du _) (by unfold fE;omega) (fun m hm=>absurd hm (fo _));have hj:j<=mask:=by have:=(zGW mask h n).1;omega
 have hjs:j<owner.size:=by rw[I.size];omega
 rw[zK3 I hj] at f3;have fn:owner.getD j none=none:=by
  cases q:owner.getD j none with
  | none=>rfl
  | some _=>rw[q] at f3;exact(f3 rfl).elim
 have gs:∀ i,(owner.setIfInBounds j (some k)).getD i none=if i=j then some k else owner.getD i none:=fun i=>by
  by_cases e:i=j
  ·subst e;rw[if_pos rfl];simp[f6,hjs]
  ·rw[if_neg e]
   rw[Array.getD_eq_getD_getElem?,Array.getD_eq_getD_getElem?,Array.getElem?_setIfInBounds_ne (Ne.symm e)]
 have mono:∀ i,(owner.getD i none).isSome=true->((owner.setIfInBounds j (some k)).getD i none).isSome=true:=fun i q=>by
  rw[gs];split
  ·rfl
  ·exact q
 refine⟨j,f1,⟨by rw[Array.size_setIfInBounds];exact I.size,fun j' k' q=>?_,?_⟩⟩
 ·rw[gs] at q
  split at q
  ·rename_i e'
   cases q;refine⟨h,n,e,f2.trans e'.symm,fun m hm'=>mono _ ?_⟩;rw[<-zK3 I (by have:=(zGW mask h m).1;omega)];exact f4 m hm'
  ·obtain⟨h',n',w1,w2,w3⟩:=I.way j' k' q
   exact⟨h',n',w1,w2,fun m hm'=>mono _ (w3 m hm')⟩
 ·rw[show bY (k+1)=bY k++[k] from eY]
  refine(zPS (f:=fun i=>owner.getD i none) (g:=fun i=>(owner.setIfInBounds j (some k)).getD i none) (j:=j) (b:=k) fn ((gs j).trans (if_pos rfl)) dF (c8.mpr 2#0) fun i u0 hne=>(gs i).trans (if_neg hne)).trans ?_;refine(eM.cons k I.perm).trans ?_;exact(List.perm_append_singleton k _).symm
theorem zPT{mask:Nat}(hm:Msk mask){hs:96#0}(hn:hs.length<=mask):∀(l done:96#0) (owner:Array (Option Nat)),hs=done++l->zIZ mask hs owner done.length ->
  ∃ owner',(l.foldl (fun(acc:Option (Array (Option Nat)×Nat)) h=>do
   let (owner,k) <-acc;let j <-eW.free mask owner (fE mask) (db h%(mask+1)) (db h)
   pure (owner.setIfInBounds j (some k),k+1)) (some (owner,done.length))).map (·.1)=some owner'/\zIZ mask hs owner' hs.length
 | [],done,owner,e,I=>⟨owner,rfl,by rw[e,eG] at *;exact I⟩
 | h::l,done,owner,e,I=>by
  have hk:done.length<=mask:=by rw[e] at hn;simp at hn;omega
  obtain⟨j,f1,I'⟩:=I.step hm hk (h:=h) (by rw[e];simp);obtain⟨owner',g1,g2⟩:=zPT hm hn l (done++[h]) (owner.setIfInBounds j (some done.length)) (by rw[e];simp) (by simpa using I');refine⟨owner',?_,g2⟩;rw[<-g1];rw[List.foldl_cons];congr 2;show(do
   let j <-eW.free mask owner (fE mask) (db h%(mask+1)) (db h)
   pure (owner.setIfInBounds j (some done.length),done.length+1))=_
  rw[f1];simp
theorem zTq{mask:Nat}(hm:Msk mask){hashes:Array Int}(hn:hashes.size<=mask):∃ owner,eW mask hashes=some owner/\zIZ mask hashes.toList owner hashes.size:=by
 have g0:∀ j,(Array.replicate (mask+1) (none:Option Nat)).getD j none=none:=fun j=>by
  simp only[f6];split
  ·simp
  ·rfl
 obtain⟨owner,h1,h2⟩:=zPT hm (hs:=hashes.toList) (by simpa using hn) hashes.toList [] (Array.replicate (mask+1) none) rfl ⟨by simp,fun j k' q=>(by rw[g0] at q;cases q),by
  have:((bY (mask+1)).filterMap fun j=>(Array.replicate (mask+1) (none:Option Nat)).getD j none)=[]:=by
   rw[zEG (f:=fun u0=>none) fun i u0=>g0 i];simp
  rw[this];exact .refl _⟩
 refine⟨owner,?_,by simpa using h2⟩;unfold eW;rw[<-Array.foldl_toList];exact h1
theorem zMC{mask finger moves:Nat}{led plain:Bool}{es:40#0}(hm:Msk mask)(hn:es.size<=mask) :
  ∃ t order,SetTable.laid mask finger moves led plain (es.map (·.1))=some (t,order)/\Tab t (order.filterMap (es[·]?))/\(order.filterMap (es[·]?)).toList.Perm es.toList/\t.mask=mask/\t.led=led/\t.plain=plain/\t.dummies=#[]/\t.place.size=es.size:=by
 obtain⟨owner,h1,I⟩:=zTq hm (hashes:=es.map (·.1)) (by simpa using hn);rw[Array.size_map] at I;have lk:∀ l:List Nat,(l.filterMap fun j=>(owner.getD j none).map (j,·)).map (·.2)=l.filterMap fun j=>owner.getD j none:=fun l=>by
  rw[List.map_filterMap];apply zEG;intro i u0;cases owner.getD i none<;>rfl
 have lm:∀(l:14#0) (p:Nat×Nat),p∈(l.filterMap fun j=>(owner.getD j none).map (j,·))↔p.1∈l/\owner.getD p.1 none=some p.2:=fun l p=>by
  rw[List.mem_filterMap];constructor
  ·rintro⟨j,hj,e⟩
   cases q:owner.getD j none with
   | none=>rw[q] at e;cases e
   | some k=>rw[q] at e;cases e;exact⟨hj,q⟩
  ·rintro⟨a,b⟩
   exact⟨p.1,a,by rw[b];rfl⟩
 have pm:=I.perm;have kn:∀ k∈((bY (mask+1)).filterMap fun j=>(owner.getD j none).map (j,·)).map (·.2),k<es.size:=fun k hk=>by
  rw[lk] at hk;exact c8.mp (pm.mem_iff.mp hk)
 have es':(((bY (mask+1)).filterMap fun j=>(owner.getD j none).map (j,·)).map (·.2)).filterMap (es[·]?)=(((bY (mask+1)).filterMap fun j=>(owner.getD j none).map (j,·)).map (·.2)).map fun k=>es.getD k (0,.none):=by
  have:∀ l:List Nat,(∀ k∈l,k<es.size)->l.filterMap (es[·]?)=l.map fun k=>es.getD k (0,.none):=by
   intro l
   induction l with
   | nil=>intro u0;rfl
   | cons a l ih =>
    intro hl;have ha:=hl a cF;rw[el (b:=es.getD a (0,.none)) (by simp[f6,ha]),cU,ih fun k hk=>hl k (cq _ hk)]
  exact this _ kn
 have hlen:((bY (mask+1)).filterMap fun j=>(owner.getD j none).map (j,·)).length=es.size:=by
  have:=congrArg List.length (lk (bY (mask+1)));rw[bZ,pm.length_eq,cz] at this;exact this
 generalize hL:(bY (mask+1)).filterMap (fun j=>(owner.getD j none).map (j,·))=L at *;refine⟨{ mask,place:=(L.map (·.1)).toArray,dummies:=#[],finger,led,moves,plain },(L.map (·.2)).toArray,?_,?_⟩
 ·unfold SetTable.laid
  rw[h1];show some _=_;rw[hL]
 ·have eo:((L.map (·.2)).toArray.filterMap (es[·]?)).toList=L.map fun p=>es.getD p.2 (0,.none):=by
   rw[Array.toList_filterMap];show(L.map (·.2)).filterMap (es[·]?)=_;rw[es',cL];rfl
  have rs:Ris (L.map (·.1)).toArray:=by
   unfold Ris;have:=HI.zBk (fun j=>owner.getD j none) (bY (mask+1));rw[hL] at this;exact en.sublist this dX
  have ls:∀ p,p∈L->p.1<=mask/\owner.getD p.1 none=some p.2:=fun p hp=>by
   have:=(lm (bY (mask+1)) p).mp (by rw[hL];exact hp);exact⟨by have:=c8.mp this.1;omega,this.2⟩
  have rd:Ris (#[]:Array Nat):=en.nil;refine⟨⟨hm,?_,rs,rd,fun j hj=>?_,fun j hj=>by simp at hj,?_,fun j h x he=>?_,fun j hj=>by simp at hj⟩,?_,rfl,rfl,rfl,rfl,?_⟩
  ·have:=congrArg List.length eo
   rw[cC,bZ] at this;show(L.map (·.1)).toArray.size=_;rw[this];simp
  ·have:j∈L.map (·.1):=by simpa using hj
   obtain⟨p,hp,rfl⟩:=ca.mp this;exact(ls p hp).1
  ·show(L.map (·.1)).toArray.size+0<=mask
   simp;omega
  ·obtain⟨i,e1,e2⟩:=he
   have e1':(L.map (·.1))[i]?=some j:=by simpa using e1
   have e2':(L.map fun p=>es.getD p.2 (0,.none))[i]?=some (h,x):=by rw[<-eo];simpa using e2
   rw[cP] at e1' e2';cases q:L[i]? with
   | none=>rw[q] at e1';cases e1'
   | some p =>
    rw[q] at e1' e2';have e1'':p.1=j:=by simpa using e1'
    have e2'':es.getD p.2 (0,.none)=(h,x):=by simpa using e2'
    obtain⟨u0,l2⟩:=ls p (cK q);obtain⟨h',n,w1,w2,w3⟩:=I.way p.1 p.2 l2;have hk:p.2<es.size:=kn p.2 (ca.mpr ⟨p,cK q,rfl⟩);have:h'=h:=by
     have w1':(es.map (·.1)).toList[p.2]?=some h':=w1;simp[hk] at w1';have:es[p.2]=(h,x):=by simpa[f6,hk] using e2''
     rw[this] at w1';exact w1'.symm
    subst this;refine⟨n,w2.trans e1'',fun m hm'=>?_⟩;rw[zBJ rs rd];left;have:=w3 m hm';have lt:=(zGW mask h' m).1;cases z:owner.getD (wK mask h' m).j none with
    | none=>rw[z] at this;cases this
    | some k2 =>
     have:((wK mask h' m).j,k2)∈L:=by
      rw[<-hL];exact(lm _ _).mpr ⟨c8.mpr (by simp only;omega),z⟩
     show(wK mask h' m).j∈(L.map (·.1)).toArray;simp only[List.mem_toArray];exact ca.mpr ⟨_,this,rfl⟩
  ·rw[eo]
   have e3:es.toList=(bY es.size).map fun k=>es.getD k (0,.none):=by
    apply List.ext_getElem
    ·simp
    ·intro i h1 h2
     have:i<es.size:=by simpa using h1
     simp[f6,this]
   rw[e3];have e4:(L.map fun p=>es.getD p.2 (0,.none))=(L.map (·.2)).map fun k=>es.getD k (0,.none):=by rw[cL];rfl
   rw[e4];refine eM.map _ ?_;have:=lk (bY (mask+1));rw[hL] at this;rw[this];exact pm
  ·show(L.map (·.1)).toArray.size=_
   simp[hlen]
open HI (Ris)
noncomputable def zUq:Value->Int
 | .int k _=>k
 | _=>0
noncomputable def kyT(h:Heap)(e:Int×Value):List Int:=match e.2 with
 | .ref c=>(match h.get? c with | some o=>(match o.data with | .seq its _=>its.toList.map zUq | _=>[]) | none=>[])
 | _=>[]
section
variable {prog:Program} {w:World} {P:Addr->Prop} {A:Around} {E:Value->Shared->Prop} {s:Shared}
theorem zNJ{ns:96#0}{vs:31#0}(h:ItemsAre (intKind prog w) ns vs):vs.map zUq=ns:=by
 induction h with
 | nil=>rfl
 | cons h1 _ ih =>
  obtain⟨t,rfl⟩:=Value.isInt_shape h1;rw[cU,ih];rfl
theorem zCU{h:Heap}{ns:96#0}{c:Addr}(x:TK prog w P h ns c)(n:Int):kyT h (n,.ref c)=ns:=by
 obtain⟨⟨o,its,m,ho,hc,hd,hi⟩,u0⟩:=x;unfold kyT;simp only[ho,hd];exact zNJ hi
theorem OkT.mem{h:Heap}{es:40#0}(x:OkT prog w P h es):∀ e∈es.toList,∃ c,e=(hT prog w (kyT h e),.ref c)/\TK prog w P h (kyT h e) c:=fun e he=>by
 obtain⟨i,hi,rfl⟩:=eh he;obtain⟨c,ms,e1,e2⟩:=x i es.toList[i] (by simpa using hi);have:kyT h es.toList[i]=ms:=by rw[e1];exact zCU e2 _
 rw[this];exact⟨c,e1,e2⟩
theorem OkT.of{h:Heap}{es:40#0}(x:∀ e∈es.toList,∃ c ms,e=(hT prog w ms,.ref c)/\TK prog w P h ms c):OkT prog w P h es:=fun i e he=>x e (by
 have:=cK (l:=es.toList) (i:=i) (a:=e) (by simpa using he);exact this)
theorem OkT.perm{h:Heap}{es es':40#0}(x:OkT prog w P h es)(p:es'.toList.Perm es.toList):OkT prog w P h es':=.of fun e he=>by
 obtain⟨c,e1,e2⟩:=x.mem e (p.mem_iff.mp he);exact⟨c,_,e1,e2⟩
theorem TK.keep{h h':Heap}{ns:96#0}{c:Addr}(x:TK prog w P h ns c)(k:∀ o,h.get? c=some o->h'.get? c=some o):TK prog w P h' ns c:=let ⟨⟨o,i,n,e,r⟩,q⟩:=x;⟨⟨o,i,n,k o e,r⟩,q⟩
theorem OkT.keep{h h':Heap}{es:40#0}(x:OkT prog w P h es)(k:∀ c o its n,h.get? c=some o->o.data=.seq its n->h'.get? c=some o):OkT prog w P h' es/\es.toList.map (kyT h')=es.toList.map (kyT h):=by
 have tk:∀ {ns c},TK prog w P h ns c->TK prog w P h' ns c:=fun {ns c} q=>let ⟨⟨o,i,n,e,c1,d,r⟩,q⟩:=q;⟨⟨o,i,n,k _ o i n e d,c1,d,r⟩,q⟩;refine⟨fun i e he=>?_,dI fun e he=>?_⟩
 ·obtain⟨c,ms,e1,e2⟩:=x i e he
  exact⟨c,ms,e1,tk e2⟩
 ·obtain⟨c,e1,e2⟩:=x.mem e he
  have h1:=zCU (tk e2) (hT prog w (kyT h e));rw[<-e1] at h1;exact h1
noncomputable def ST(prog:Program)(w:World)(P:Addr->Prop)(h:Heap)(a:Addr)(kys:28#0):Prop:=∃ o es ep t,h.get? a=some o/\o.ExactSet/\o.data=.set es ep t/\Tab t es/\OkT prog w P h es/\t.plain=true/\t.led=HI.wz w/\t.fill*5<t.mask*3/\kys.Perm (es.toList.map (kyT h))/\kys.Nodup/\t.dummies.size=0
theorem ST.keep{h h':Heap}{a:Addr}{kys:28#0}(x:ST prog w P h a kys)(k:∀ b o,h.get? b=some o->h'.get? b=some o):ST prog w P h' a kys:=by
 obtain⟨o,es,ep,t,h1,h2,h3,h4,h5,h6,h7,h8,h9,h10⟩:=x;obtain⟨k1,k2⟩:=h5.keep fun c o u0 u0 e u0=>k c o e;exact⟨o,es,ep,t,k _ _ h1,h2,h3,h4,k1,h6,h7,h8,by rw[k2];exact h9,h10⟩
theorem size_of(n:Nat)(h:n<=40000):Msk (cV (n*4)-1)/\n*5<(cV (n*4)-1)*3/\cV (n*4)<=600000:=by
 obtain⟨b,h1,h2,h3,h4⟩:=zGV (n:=n*4) 2#0;rw[h2];exact⟨⟨b,h1,by omega⟩,by omega,by omega⟩
end
end HT3
namespace HT2
open PySem PySem.Spec HT3
open HI (Ris)
section
variable {prog:Program} {w:World} {P:Addr->Prop} {A:Around} {E:Value->Shared->Prop} {s:Shared}
noncomputable def ST(prog:Program)(w:World)(P:Addr->Prop)(h:Heap)(a:Addr)(kys:28#0):Prop:=∃ o es ep t,h.get? a=some o/\o.ExactSet/\o.data=.set es ep t/\Tab t es/\OkT prog w P h es/\t.plain=true/\t.led=HI.wz w/\t.fill*5<t.mask*3/\kys.Perm (es.toList.map (kyT h))/\kys.Nodup/\t.mask<=255
theorem ST.keep{h h':Heap}{a:Addr}{kys:28#0}(x:ST prog w P h a kys)(k:∀ b o,h.get? b=some o->h'.get? b=some o):ST prog w P h' a kys:=by
 obtain⟨o,es,ep,t,h1,h2,h3,h4,h5,h6,h7,h8,h9,h10⟩:=x;obtain⟨k1,k2⟩:=h5.keep fun c o u0 u0 e u0=>k c o e;exact⟨o,es,ep,t,k _ _ h1,h2,h3,h4,k1,h6,h7,h8,by rw[k2];exact h9,h10⟩
theorem size_of(n:Nat)(h:n<=63):Msk (cV (n*4)-1)/\n*5<(cV (n*4)-1)*3/\cV (n*4)<=256:=by
 obtain⟨b,h1,h2,h3,h4⟩:=zGV (n:=n*4) 2#0;rw[h2];refine⟨⟨b,h1,by omega⟩,by omega,?_⟩;rcases h4 with h4 | h4
 ·omega
 ·have:b<9:=by
   refine Nat.lt_of_not_le fun hb=>?_;have:=dC (n:=2) 2#0 hb;omega
  have:=dC (n:=2) 2#0 (show b<=8 by omega);omega
end
end HT2
namespace HT3
open PySem PySem.Spec
open HI (Ris)
section
variable {prog:Program} {w:World} {P:Addr->Prop} {A:Around} {E:Value->Shared->Prop} {s:Shared}
theorem fits_of{t:SetTable}{es:40#0}(T:Tab t es):t.fits es.size=true:=by
 unfold SetTable.fits;simp[T.size,T.room]
theorem zBc{h:Heap}{a:Addr}{o:Obj}{es:40#0}{ep:Nat}{t:SetTable}{es':40#0}{t':SetTable}(ho:h.get? a=some o)(hd:o.data=.set es ep t) :
  (h.update a (Obj.putSet es' t')).get? a=some { o with data:=.set es' (ep+1) t' }:=by
 rw[<-putSet_of es' t' hd];exact eH _ ho (by rw[putSet_of es' t' hd];rfl)
theorem zPU{a:Addr}{o:Obj}{es:40#0}{ep:Nat}{t:SetTable}{n:Nat}{Q:Unit->Shared->Prop}(ho:s.heap.get? a=some o)(hd:o.data=.set es ep t)(T:Tab t es)(hm:Msk (cV n-1))(hn:es.size<=cV n-1)(hz:cV n<=600000)
  (h:∀ es' t',Tab t' es'->es'.toList.Perm es.toList->t'.plain=t.plain->t'.led=t.led->t'.mask=cV n-1->t'.fill=es.size->Q () { s with heap:=s.heap.update a (Obj.putSet es' t') }) :
  wpAny 16#0 A (setRelay a n) Q E s:=by
 obtain⟨t',order,h1,h2,h3,h4,h5,h6,h7,h8⟩:=zMC (mask:=cV n-1) (finger:=t.finger) (moves:=t.movedTo (cV n-1)) (led:=t.led) (plain:=t.plain) hm hn;unfold setRelay;refine bQ (cY ho hd (fits_of T) ?_);dsimp only;rw[if_neg 151#0];have hr:t.relaid (es.map (·.1)) n=some (t',order):=h1;have sz:(order.filterMap (es[·]?)).size=es.size:=by
  have:=h3.length_eq;rw[cC,cC] at this;exact this
 refine bQ (wpAny_of_eq (a:=(order.filterMap (es[·]?),t')) ?_ ?_)
 ·rw[hr]
  show(if ((order.filterMap (es[·]?)).size != es.size)=true then _ else _)=_;rw[if_neg (by rw[sz];simp)]
 ·dsimp only
  refine fr ho hd (h _ t' h2 h3 h6 h5 h4 ?_) ?_
  ·show t'.place.size+t'.dummies.size=_
   rw[h7,h8];rfl
  ·rw[sz,sizeLine_eq];omega
theorem zK4{a b:Addr}{ns:96#0}{kys:28#0}{Q:146#0}(hA:A.units<cLine)(hS:145#0)(hb:109#0)(room:kys.length<=9000)
  (h:∀ h' kys' r,da a s.heap h'->ST prog w P h' a kys'->kys'.Perm (if ns∈kys then kys else kys++[ns])->Q r { s with heap:=h' }):wpAny 16#0 A (setAddHashed a (.ref b) 68#0) Q E s:=by
 obtain⟨o,es,ep,t,h1,h2,h3,h4,h5,h6,h7,h8,h9,h10,h11⟩:=id hS;have esz:es.size=kys.length:=by have:=h9.length_eq;simp at this;omega
 have hky:∀(i:Nat) e c ms,es[i]?=some e->e.2=.ref c->TK prog w P s.heap ms c->ms∈kys:=fun i e c ms e1 e2 e3=>by
  rw[h9.mem_iff];refine ca.mpr ⟨e,cK (l:=es.toList) (i:=i) (by simpa using e1),?_⟩;obtain⟨e0,ev⟩:=e;simp only at e2;subst e2;exact zCU e3 _
 unfold setAddHashed;refine dt ?_;unfold setAddHashedIn;refine bQ (cY h1 h3 (fits_of h4) ?_);sleep 8
 ·have hin:ns∈kys:=hky i _ c ns e1 rfl e2
  simp only[↓reduceIte];refine c5 ?_;exact h s.heap kys false ⟨rfl,fun u0 u0=>rfl⟩ hS (by rw[if_pos hin])
 ·have hnk:ns∉kys:=fun q=>by
   sleep 7
  dsimp only;sleep 21;have mge:7<=t.mask:=h4.msk.ge
  -- the place
  have hp:∃ n j,d.getD (wK t.mask 68#0 N).j=j/\(wK t.mask 68#0 n).j=j/\(∀ m,m<n->zEF t (wK t.mask 68#0 m).j)/\(t.slot j=.empty\/t.slot j=.dummy)/\(d.isSome=true->t.slot j=.dummy):=by
   cases d with
   | none=>exact⟨N,_,rfl,rfl,n3,.inl n2,fun q=>by cases q⟩
   | some j =>
    obtain⟨d1,m,d2,d3⟩:=hd j rfl;exact⟨m,j,rfl,d3,fun m' hm'=>n3 m' 2#0,.inr d1,fun u0=>d1⟩
  obtain⟨n,j,j1,j2,j3,j4,j5⟩:=hp;rw[j1];obtain⟨T',f1,f2⟩:=h4.put (x:=.ref b) j2 j3 j4 2#0;sleep 32;have pm:es'.toList.Perm (es.toList++[(hT prog w ns,.ref b)]):=by
   rw[<-hes'];have:=dP es (t.put j).2 (hT prog w ns,.ref b);sleep 23
  have sz':es'.size=es.size+1:=by have:=pm.length_eq;simp at this;omega
  rw[pl];simp only[↓reduceIte];refine bQ (zJn hb ?_);simp only[↓reduceIte];refine bQ (fr h1 h3 ?_ 151#0)
  -- behind the store
  have ok1:OkT prog w P s.heap es':=.of fun e he=>by
   rcases cr.mp (pm.mem_iff.mp he) with q | q
   ·obtain⟨c,e1,e2⟩:=h5.mem e q;exact⟨c,_,e1,e2⟩
   ·rw[cf] at q;exact⟨b,ns,q,hb⟩
  have kp1:kys++[ns]=kys++[ns]:=rfl;have pk:(kys++[ns]).Perm (es'.toList.map (kyT s.heap)):=by
   refine eM.trans ?_ (pm.map _).symm;rw[cN];refine h9.append ?_;rw[List.map_singleton,zCU hb]
  have nd1:(kys++[ns]).Nodup:=dq.mpr ⟨h10,by simp,fun x hx y hy e=>by rw[cf] at hy;exact hnk (by rw[<-hy,<-e];exact hx)⟩;have fin:∀(es2:40#0) (t2:SetTable) (ep2:Nat) (h':Heap),da a s.heap h'->h'.get? a=some { o with data:=.set es2 ep2 t2 }->Tab t2 es2->es2.toList.Perm es'.toList->t2.plain=true->t2.led=HI.wz w->t2.fill*5<t2.mask*3->t2.dummies.size=0->Q true { s with heap:=h' }:=fun es2 t2 ep2 h' sb g T2 p2 pl2 ld2 fl2 dm2=>by
   have kk:∀ c o' its n,s.heap.get? c=some o'->o'.data=.seq its n->h'.get? c=some o':=fun c o' its n e1 e2=>by
    sleep 39
   obtain⟨k1,k2⟩:=(ok1.perm p2).keep kk;refine h h' (kys++[ns]) true sb ⟨_,es2,ep2,t2,g,h2,rfl,T2,k1,pl2,ld2,fl2,?_,nd1,dm2⟩ (by rw[if_neg hnk]);rw[k2];exact pk.trans (p2.map _).symm
  sleep 31
  ·rw[if_pos hrl]
   have so:=size_of (es.size+1) 2#0;have gw:SetTable.grown (es.size+1)=(es.size+1)*4:=by unfold SetTable.grown;rw[if_neg 2#0]
   rw[gw];refine bQ (zPU (s:={ s with heap:=s.heap.update a (Obj.putSet es' (t.put j).1) }) g1 rfl T' so.1 (by rw[sz'];omega) so.2.2 fun es2 t2 T2 p2 pl2 ld2 mk2 fl2=>?_);refine c5 130#0
   ·rw[fl2,mk2,sz']
    exact so.2.1
   ·have a:=T2.size
    have b:=p2.length_eq;rw[cC,cC] at b;unfold SetTable.fill at fl2;omega
  ·rw[if_neg hrl]
   refine c5 (fin es' (t.put j).1 _ _ s1 g1 T' (.refl _) pl ld ?_ ?_)
   rotate_left
   ·have a:=T'.size
    have c:=h4.size;unfold SetTable.fill at f1;omega
   cases hd':d.isSome with
   | true =>
    rw[f2 (j5 hd'),mk];exact h8
   | false =>
    rw[hd'] at hrl;have:(t.put j).1.tooFull=false:=by simpa using hrl
    unfold SetTable.tooFull at this;sleep 23
 ·have a:=h4.size
  unfold SetTable.fill at n1;omega
end
end HT3
namespace HT2
open PySem PySem.Spec HT3
open HI (Ris)
section
variable {prog:Program} {w:World} {P:Addr->Prop} {A:Around} {E:Value->Shared->Prop} {s:Shared}
theorem fits_of{t:SetTable}{es:40#0}(T:Tab t es):t.fits es.size=true:=by
 unfold SetTable.fits;simp[T.size,T.room]
theorem zBc{h:Heap}{a:Addr}{o:Obj}{es:40#0}{ep:Nat}{t:SetTable}{es':40#0}{t':SetTable}(ho:h.get? a=some o)(hd:o.data=.set es ep t) :
  (h.update a (Obj.putSet es' t')).get? a=some { o with data:=.set es' (ep+1) t' }:=by
 rw[<-putSet_of es' t' hd];exact eH _ ho (by rw[putSet_of es' t' hd];rfl)
theorem zK4{a b:Addr}{ns:96#0}{kys:28#0}{Q:146#0}(hA:A.units<cLine)(hS:145#0)(hb:109#0)(room:kys.length<=60)
  (h:∀ h' kys' r,da a s.heap h'->ST prog w P h' a kys'->kys'.Perm (if ns∈kys then kys else kys++[ns])->Q r { s with heap:=h' }):wpAny 16#0 A (setAddHashed a (.ref b) 68#0) Q E s:=by
 obtain⟨o,es,ep,t,h1,h2,h3,h4,h5,h6,h7,h8,h9,h10,h11⟩:=id hS;have esz:es.size=kys.length:=by have:=h9.length_eq;simp at this;omega
 have hky:∀(i:Nat) e c ms,es[i]?=some e->e.2=.ref c->TK prog w P s.heap ms c->ms∈kys:=fun i e c ms e1 e2 e3=>by
  rw[h9.mem_iff];refine ca.mpr ⟨e,cK (l:=es.toList) (i:=i) (by simpa using e1),?_⟩;obtain⟨e0,ev⟩:=e;simp only at e2;subst e2;exact zCU e3 _
 unfold setAddHashed;refine dt ?_;unfold setAddHashedIn;refine bQ (cY h1 h3 (fits_of h4) ?_);sleep 8
 ·have hin:ns∈kys:=hky i _ c ns e1 rfl e2
  simp only[↓reduceIte];refine c5 ?_;exact h s.heap kys false ⟨rfl,fun u0 u0=>rfl⟩ hS (by rw[if_pos hin])
 ·have hnk:ns∉kys:=fun q=>by
   sleep 7
  dsimp only;sleep 21;have mge:7<=t.mask:=h4.msk.ge
  -- the place
  have hp:∃ n j,d.getD (wK t.mask 68#0 N).j=j/\(wK t.mask 68#0 n).j=j/\(∀ m,m<n->zEF t (wK t.mask 68#0 m).j)/\(t.slot j=.empty\/t.slot j=.dummy)/\(d.isSome=true->t.slot j=.dummy):=by
   cases d with
   | none=>exact⟨N,_,rfl,rfl,n3,.inl n2,fun q=>by cases q⟩
   | some j =>
    obtain⟨d1,m,d2,d3⟩:=hd j rfl;exact⟨m,j,rfl,d3,fun m' hm'=>n3 m' 2#0,.inr d1,fun u0=>d1⟩
  obtain⟨n,j,j1,j2,j3,j4,j5⟩:=hp;rw[j1];obtain⟨T',f1,f2⟩:=h4.put (x:=.ref b) j2 j3 j4 2#0;sleep 32;have pm:es'.toList.Perm (es.toList++[(hT prog w ns,.ref b)]):=by
   rw[<-hes'];have:=dP es (t.put j).2 (hT prog w ns,.ref b);sleep 23
  have sz':es'.size=es.size+1:=by have:=pm.length_eq;simp at this;omega
  rw[pl];simp only[↓reduceIte];refine bQ (zJn hb ?_);simp only[↓reduceIte];refine bQ (fr h1 h3 ?_ 151#0)
  -- behind the store
  have ok1:OkT prog w P s.heap es':=.of fun e he=>by
   rcases cr.mp (pm.mem_iff.mp he) with q | q
   ·obtain⟨c,e1,e2⟩:=h5.mem e q;exact⟨c,_,e1,e2⟩
   ·rw[cf] at q;exact⟨b,ns,q,hb⟩
  have kp1:kys++[ns]=kys++[ns]:=rfl;have pk:(kys++[ns]).Perm (es'.toList.map (kyT s.heap)):=by
   refine eM.trans ?_ (pm.map _).symm;rw[cN];refine h9.append ?_;rw[List.map_singleton,zCU hb]
  have nd1:(kys++[ns]).Nodup:=dq.mpr ⟨h10,by simp,fun x hx y hy e=>by rw[cf] at hy;exact hnk (by rw[<-hy,<-e];exact hx)⟩;have fin:∀(es2:40#0) (t2:SetTable) (ep2:Nat) (h':Heap),da a s.heap h'->h'.get? a=some { o with data:=.set es2 ep2 t2 }->Tab t2 es2->es2.toList.Perm es'.toList->t2.plain=true->t2.led=HI.wz w->t2.fill*5<t2.mask*3->t2.mask<=255->Q true { s with heap:=h' }:=fun es2 t2 ep2 h' sb g T2 p2 pl2 ld2 fl2 mk2'=>by
   have kk:∀ c o' its n,s.heap.get? c=some o'->o'.data=.seq its n->h'.get? c=some o':=fun c o' its n e1 e2=>by
    sleep 39
   obtain⟨k1,k2⟩:=(ok1.perm p2).keep kk;refine h h' (kys++[ns]) true sb ⟨_,es2,ep2,t2,g,h2,rfl,T2,k1,pl2,ld2,fl2,?_,nd1,mk2'⟩ (by rw[if_neg hnk]);rw[k2];exact pk.trans (p2.map _).symm
  sleep 31
  ·rw[if_pos hrl]
   have so:=size_of (es.size+1) 2#0;have gw:SetTable.grown (es.size+1)=(es.size+1)*4:=by unfold SetTable.grown;rw[if_neg 2#0]
   rw[gw];refine bQ (zPU (s:={ s with heap:=s.heap.update a (Obj.putSet es' (t.put j).1) }) g1 rfl T' so.1 (by rw[sz'];omega) (by have:=so.2.2;omega) fun es2 t2 T2 p2 pl2 ld2 mk2 fl2=>?_);refine c5 130#0
   ·rw[fl2,mk2,sz']
    exact so.2.1
   ·have:=so.2.2
    omega
  ·rw[if_neg hrl]
   refine c5 (fin es' (t.put j).1 _ _ s1 g1 T' (.refl _) pl ld ?_ (by have:(t.put j).1.mask=t.mask:=mk;omega));cases hd':d.isSome with
   | true =>
    rw[f2 (j5 hd'),mk];exact h8
   | false =>
    rw[hd'] at hrl;have:(t.put j).1.tooFull=false:=by simpa using hrl
    unfold SetTable.tooFull at this;sleep 23
 ·omega
end
end HT2
namespace HT2
open HT3
open HI (Ris zAB wz zED)
noncomputable def Kp(h0 h:Heap):Prop:=∀ b o,h0.get? b=some o->h.get? b=some o
section
variable {prog:Program} {w:World} {P:Addr->Prop} {A:Around} {R:Result->Shared->Prop} {h0:Heap} {S I:Addr} {fp wr:List Addr} {n:Nat} {its:Array Value} {val:Nat->List Int} {St:Nat->Heap->Prop} {g:Array GenState} {d:Drawn} {os:OsState}
theorem zHp(W:Walks prog w A.in1 I fp wr n (fun i v=>its[i]?=some v) St)(hA:A.in1.units<cLine)(hSf:S∉fp)(hS:h0.get? S=none)(hwr:∀ b∈wr,h0.get? b=none)(hwd:∀ i h,St i h->∀ b∈wr,∀ o,h.get? b=some o->∀ its n,o.data≠.seq its n)(hb:n<=60)
  (ht:∀ i v,its[i]?=some v->∃ c,v=.ref c/\TK prog w P h0 (val i) c) :
  ∀(k i:Nat) (h:Heap) (tk:Nat) (kys:28#0),n-i=k->i<=n->Kp h0 h->St i h->ST prog w P h S kys->kys.length<=i->(∀ x,x∈kys↔∃ m,m<i/\val m=x) ->
   (∀ h' tk' kys',Kp h0 h'->ST prog w P h' S kys'->kys'.length<=n->(∀ x,x∈kys'↔∃ m,m<n/\val m=x)->R (.ok (.ret .none)) ⟨h',g,d,tk',os⟩) ->
   codeAny 16#0 A (.builtin "set.update.loop" ⟨[.ref S,.ref I],[]⟩) R ⟨h,g,d,tk,os⟩:=by
 have hSw:S∉wr:=fun q=>hSf (W.sub _ q);have kpw:∀ {h h':Heap},Kp h0 h->(∀ b o,b∉wr->h.get? b=some o->h'.get? b=some o)->Kp h0 h':=fun {h h'} kp e b o q=>e b o (fun z=>by rw[hwr b z] at q;cases q) (kp b o q);have stw:∀ {h h':Heap} {kys},ST prog w P h S kys->(∀ b o,b∉wr->h.get? b=some o->h'.get? b=some o)->(∀ b o,b∈wr->h.get? b=some o->∀ its n,o.data≠.seq its n)->ST prog w P h' S kys:=fun {h h' kys} x e e2=>by
  obtain⟨o,es,ep,t,h1,h2,h3,h4,h5,h6,h7,h8,h9,h10⟩:=x;obtain⟨k1,k2⟩:=h5.keep fun c o its n q1 q2=>e c o (fun z=>e2 c o z q1 its n q2) q1;exact⟨o,es,ep,t,e _ _ hSw h1,h2,h3,h4,k1,h6,h7,h8,by rw[k2];exact h9,h10⟩
 intro k
 induction k with
 | zero =>
  intro i h tk kys hk hi kp st hst hl mem hR;obtain rfl:i=n:=by omega
  refine dJ F.entry_set_update_loop ?_;rw[Around.under_plainId F.plain_set_update_loop _];show wpAny _ A.in1 (pyNext (.ref I)>>=_) _ _ _;refine bQ (W.done _ _ _ st fun h' tk' e=>c5 (hR h' tk' kys (kpw kp e) (stw hst e fun b o z q=>hwd _ _ st b z o q) hl mem))
 | succ k ih =>
  intro i h tk kys hk hi kp st hst hl mem hR;have lt:i<n:=by omega
  refine dJ F.entry_set_update_loop ?_;rw[Around.under_plainId F.plain_set_update_loop _];show wpAny _ A.in1 (pyNext (.ref I)>>=_) _ _ _;refine bQ (W.item i _ _ _ lt st fun v h1 tk1 hP st1 e1=>?_);obtain⟨c,rfl,hc⟩:=ht i v hP;have kp1:Kp h0 h1:=kpw kp e1;have hst1:=stw hst e1 fun b o z q=>hwd _ _ st b z o q;have hc1:TK prog w P h1 (val i) c:=hc.keep fun o q=>kp1 c o q;show wpAny _ A.in1 (holding [Value.ref c] (setAdd S (.ref c))>>=_) _ _ _;refine bQ (dt ?_);unfold setAdd;refine dt (bQ ((tupleKind (intKind prog w)).pyHash (k:=val i) hA hc1.1 ?_));refine zK4 (s:=⟨h1,g,d,tk1+((val i).length+1),os⟩) hA hst1 hc1 2#0 fun h2 kys2 r sb st2 pm=>?_;have len2:kys2.length<=i+1:=by
   rw[pm.length_eq];split
   ·omega
   ·rw[cg];simp;omega
  have mem2:∀ x,x∈kys2↔∃ m,m<i+1/\val m=x:=fun x=>by
   rw[pm.mem_iff];constructor
   ·intro q
    split at q
    ·obtain⟨m,h1,h2⟩:=(mem x).mp q
     exact⟨m,by omega,h2⟩
    ·rcases cr.mp q with q | q
     ·obtain⟨m,h1,h2⟩:=(mem x).mp q
      exact⟨m,by omega,h2⟩
     ·rw[cf] at q
      exact⟨i,by omega,q.symm⟩
   ·rintro⟨m,h1,h2⟩
    rcases dO m i with z | z
    ·have:=(mem x).mpr ⟨m,z,h2⟩
     split
     ·exact this
     ·exact dh _ this
    ·obtain rfl:m=i:=by omega
     split
     ·rename_i q;rw[<-h2];exact q
     ·rw[<-h2];simp
  have kp2:Kp h0 h2:=fun b o q=>by
   rw[sb.2 b (fun z=>by subst z;rw[hS] at q;cases q)];exact kp1 b o q
  refine c5 ⟨plainId_quiet F.plain_set_update_loop _,ih (i+1) h2 _ kys2 2#0 lt kp2 (W.frame _ _ _ st1 fun b hb' o e=>?_) st2 len2 mem2 hR⟩;rw[sb.2 b (fun q:b=S=>hSf (by rw[<-q];exact hb'))];exact e
end
end HT2
namespace HT2
open PySem PySem.Spec HT3
open HI (Ris)
section
variable {prog:Program} {w:World} {P:Addr->Prop} {A:Around} {E:Value->Shared->Prop} {s:Shared}
theorem zRW{a b:Addr}{ns:96#0}{o:Obj}{es:40#0}{ep:Nat}{t:SetTable}{Q:Option Nat->Shared->Prop}(hA:A.units<cLine)(h1:s.heap.get? a=some o)(h3:o.data=.set es ep t)(h4:Tab t es)(h5:OkT prog w P s.heap es)(hmk:t.mask<=255)(hb:109#0)
  (q1:∀(i:Nat) c,es[i]?=some (hT prog w ns,.ref c)->TK prog w P s.heap ns c->Q (some i) s) (q2:(∀(i:Nat) e c ms,es[i]?=some e->e.2=.ref c->TK prog w P s.heap ms c->ms≠ns)->Q none s) :
  wpAny 16#0 A (setFind a (.ref b) 68#0) Q E s:=by
 unfold setFind setFindIn;sleep 21;rw[if_neg (by simp[byScan,Value.scannable])];obtain⟨N,n1,n2,n3⟩:=h4.stop 68#0;refine bQ ?_;unfold setSearch;refine zTn (Q:=_) hA h1 h3 h4 h5 hb (by have:=h4.room;omega) n2 n3 (adding:=false) (fun i c e1 e2=>?_) (fun hno d hd=>?_) (N-0) 0 100000 none none rfl (du _) ?_ (fun j q=>by cases q) rfl (fun m hm=>absurd hm (fo _))
 ·exact c5 (q1 i c e1 e2)
 ·exact c5 (q2 hno)
 ·have:=h4.room;omega
theorem zK5{a b:Addr}{ns:96#0}{kys:28#0}{Q:146#0}(hA:A.units<cLine)(hS:145#0)(hb:109#0)
  (h:∀ h' kys',da a s.heap h'->ST prog w P h' a kys'->kys'.Perm (kys.erase ns)->Q (decide (ns∈kys)) { s with heap:=h' }):wpAny 16#0 A (setDiscardHashed a (.ref b) 68#0) Q E s:=by
 obtain⟨o,es,ep,t,h1,h2,h3,h4,h5,h6,h7,h8,h9,h10⟩:=id hS;unfold setDiscardHashed;refine bQ (zRW hA h1 h3 h4 h5 h10.2 hb (fun i c e1 e2=>?_) (fun hno=>?_))
 ·dsimp only
  have hi:i<es.size:=(eB.mp e1).1;have eL:es.toList[i]?=some (hT prog w ns,.ref c):=by simpa using e1
  have hin:ns∈kys:=by
   rw[h9.mem_iff];exact ca.mpr ⟨_,cK eL,zCU e2 _⟩
  have pl:t.place[i]?=some (t.place[i]'(by rw[h4.size];exact hi)):=by simp[h4.size,hi]
  obtain⟨T',fz⟩:=h4.drop pl;sleep 21;have sz:(cD es i).size<=es.size:=by
   rw[<-cC,zj,cg,cQ,dU];simp only[cC];omega
  have esl:es.size<=255:=by
   have:=h4.size;have:=h4.room;have:t.fill=t.place.size+t.dummies.size:=rfl;rcases h4.msk with z | z | z | z | z | z<;>omega
  refine bQ (fr h1 h3 (bQ (wpAny_point (c5 ?_))) 151#0);have sb:da a s.heap (s.heap.update a (Obj.putSet (cD es i) (t.drop i))):=da.update ..;have g:=zBc (es':=cD es i) (t':=t.drop i) h1 h3;have pe:es.toList.Perm ((hT prog w ns,.ref c)::(cD es i).toList):=by rw[zj];exact zMB eL
  have ok1:OkT prog w P s.heap (cD es i):=.of fun e he=>by
   obtain⟨c,e1,e2⟩:=h5.mem e (pe.mem_iff.mpr (cq _ he));exact⟨c,_,e1,e2⟩
  have kk:∀ c o' its n,s.heap.get? c=some o'->o'.data=.seq its n->(s.heap.update a (Obj.putSet (cD es i) (t.drop i))).get? c=some o':=fun c o' its n e1 e2=>by
   sleep 39
  obtain⟨k1,k2⟩:=ok1.keep kk;have pk:(kys.erase ns).Perm ((cD es i).toList.map (kyT s.heap)):=by
   have:=h9.trans (pe.map (kyT s.heap));rw[cU,zCU e2] at this;have:=this.erase ns;rwa [List.erase_cons_head] at this
  have dr:(t.drop i).mask=t.mask/\(t.drop i).plain=t.plain/\(t.drop i).led=t.led:=by
   unfold SetTable.drop;rw[pl];exact⟨rfl,rfl,rfl⟩
  have:=h _ (kys.erase ns) sb ⟨_,_,_,_,g,h2,rfl,T',k1,dr.2.1.trans h6,dr.2.2.trans h7,by rw[fz,dr.1];exact h8,by rw[k2];exact pk,h10.1.erase _,by rw[dr.1];exact h10.2⟩ (.refl _);rwa [decide_eq_true hin] at this
 ·have hnk:ns∉kys:=fun q=>by
   sleep 7
  dsimp only;refine c5 ?_;have:=h s.heap kys ⟨rfl,fun u0 u0=>rfl⟩ hS (by rw[List.erase_of_not_mem hnk]);rwa [decide_eq_false hnk] at this
noncomputable def zJp(ns:96#0)(kys:28#0):List (List Int):=if ns∈kys then kys.erase ns else kys++[ns]
theorem zRX{a b:Addr}{ns:96#0}{kys:28#0}{Q:Unit->Shared->Prop}(hA:A.units<cLine)(hS:145#0)(hb:109#0)(room:kys.length<=60)
  (h:∀ h' kys',da a s.heap h'->ST prog w P h' a kys'->kys'.Perm (zJp ns kys)->Q () { s with heap:=h' }) :
  wpAny 16#0 A (holding [.ref b] do
   if !(<-setDiscardHashed a (.ref b) 68#0) then
    let _ <-setAddHashed a (.ref b) 68#0) Q E s:=by
 refine dt (bQ (zK5 hA hS hb fun h1 kys1 sb1 st1 p1=>?_));by_cases hin:ns∈kys
 ·rw[decide_eq_true hin]
  simp only[Bool.not_true,bT,↓reduceIte];exact c5 (h h1 kys1 sb1 st1 (by unfold zJp;rw[if_pos hin];exact p1))
 ·rw[decide_eq_false hin]
  simp only[Bool.not_false,↓reduceIte];rw[List.erase_of_not_mem hin] at p1;have hb1:TK prog w P h1 ns b:=by
   obtain⟨⟨o,i,n,e,c,d,r⟩,qp⟩:=hb;obtain⟨os,es,ep,t,g1,g2,g3,u0⟩:=hS;exact⟨⟨o,i,n,by rw[sb1.2 b (fun q=>by subst q;rw[g1] at e;cases e;rw[g3] at d;cases d)];exact e,c,d,r⟩,qp⟩
  refine bQ (zK4 (s:={ s with heap:=h1 }) hA st1 hb1 (by rw[p1.length_eq];exact room) fun h2 kys2 r sb2 st2 p2=>c5 ?_);have hin1:ns∉kys1:=fun q=>hin (p1.mem_iff.mp q);rw[if_neg hin1] at p2;exact h h2 kys2 (sb1.trans sb2) st2 (by unfold zJp;rw[if_neg hin];exact p2.trans (p1.append_right _))
end
open HI (Ris zAB wz)
section
variable {prog:Program} {w:World} {P:Addr->Prop} {A:Around} {E:Value->Shared->Prop} {s:Shared}
theorem zPV(n:Nat)(h:n<=60):Msk (cV ((0+n)*2)-1)/\(n=0\/n*5<(cV ((0+n)*2)-1)*3)/\cV ((0+n)*2)<=256:=by
 obtain⟨b,h1,h2,h3,h4⟩:=zGV (n:=(0+n)*2) 2#0;rw[h2];have:8<=2 ^ b:=dC (n:=2) 2#0 h1;exact⟨⟨b,h1,by omega⟩,by omega,by omega⟩
structure New (w:World) (h:Heap) (a:Addr) (n:Nat):Prop where
 ex:∃(o:Obj) (ep:Nat) (t:SetTable),h.get? a=some o/\o.ExactSet/\o.data=.set #[] ep t/\Tab t #[]/\t.plain=true/\t.led=wz w/\t.fill=0/\(n=0\/n*5<t.mask*3)/\t.mask<=255
theorem zRY{w:World}:Tab (.fresh 0 0 (wz w)) #[]:=⟨⟨3,ce _,rfl⟩,rfl,en.nil,en.nil,fun j hj=>(by simp[eT] at hj),fun j hj=>(by simp[eT] at hj),du _,fun j h x he=>(by
 obtain⟨i,e,u0⟩:=he;simp[eT] at e),fun j hj=>(by simp[eT] at hj)⟩
theorem zUr{a:Addr}{n:Nat}{Q:Unit->Shared->Prop}(hn:n<=60)(h0:s.heap.get? a=some (zAB w))(h:∀ h',da a s.heap h'->New w h' a n->Q () { s with heap:=h' }):wpAny 16#0 A (setRoomFor a n) Q E s:=by
 unfold setRoomFor;refine bQ (cY h0 rfl (fits_of zRY) ?_);have rf:(eT 0 0 (wz w)).roomFor n=if n*5≥21 then some ((0+n)*2) else none:=by
  unfold SetTable.roomFor;show(if (0+n)*5≥7*3 then some ((0+n)*2) else none)=_;rw[Nat.zero_add]
 dsimp only;rw[rf];have so:=zPV n hn;split
 ·rename_i wanted hw
  split at hw
  ·cases hw
   refine zPU h0 rfl zRY so.1 (du _) (by have:=so.2.2;omega) fun es' t' T' p pl ld mk fl=>?_;have:es'=#[]:=by
    have:=p.length_eq;sleep 23
   subst this;exact h _ (da.update ..) ⟨_,_,t',zBc h0 rfl,⟨rfl,rfl,rfl⟩,rfl,T',pl,ld,fl,by rw[mk];exact so.2.1,by rw[mk];have:=so.2.2;omega⟩
  ·cases hw
 ·rename_i hw
  refine c5 (h s.heap ⟨rfl,fun u0 u0=>rfl⟩ ⟨_,_,_,h0,⟨rfl,rfl,rfl⟩,rfl,zRY,rfl,rfl,rfl,.inr ?_,(by show(7:Nat)<=255;decide)⟩);show n*5<7*3;rcases dO (n*5) 21 with z | z
  ·exact z
  ·exact(hw _ (if_pos z)).elim
theorem zNK{a r:Addr}{kys:28#0}{each:Sem Unit}{Q:Unit->Shared->Prop}(har:a≠r)(h0:s.heap.get? a=some (zAB w))(hS:ST prog w P s.heap r kys)(hn:kys.length<=60)
  (h:∀ h',da a s.heap h'->ST prog w P h' a kys->Q () { s with heap:=h' }):wpAny 16#0 A (setMerge a r each) Q E s:=by
 obtain⟨o,es,ep,t,h1,h2,h3,h4,h5,h6,h7,h8,h9,h10⟩:=id hS;have esz:es.size=kys.length:=by have:=h9.length_eq;simp at this;omega
 unfold setMerge;rw[if_neg (by simpa using har)];sleep 21;have nt:∀ {h':Heap},da a s.heap h'->∀ c o' its n,s.heap.get? c=some o'->o'.data=.seq its n->h'.get? c=some o':=fun {h'} sb c o' its n e1 e2=>by
  rw[sb.2 c (fun q=>by subst q;rw[h0] at e1;cases e1;cases e2)];exact e1
 by_cases he:es.isEmpty=true
 ·rw[if_pos he]
  have e0:es=#[]:=by simpa using he
  subst e0;have k0:kys=[]:=by simpa using esz.symm
  subst k0;exact c5 (h s.heap ⟨rfl,fun u0 u0=>rfl⟩ ⟨_,#[],_,_,h0,⟨rfl,rfl,rfl⟩,rfl,zRY,fun i e q=>(by simp at q),rfl,rfl,(by show 0*5<7*3;decide),.refl _,List.nodup_nil,(by show(7:Nat)<=255;decide)⟩)
 ·rw[if_neg he]
  refine bQ (zUr (n:=es.size) 2#0 h0 fun h' sb nw=>?_);obtain⟨on,epn,tn,g1,g2,g3,g4,g5,g6,g7,g8,g9⟩:=nw.ex;have hpos:0<es.size:=by
   rcases Nat.eq_zero_or_pos es.size with z | z
   ·exact(he (by simpa using z)).elim
   ·exact z
  have g8:es.size*5<tn.mask*3:=by rcases g8 with z | z<;>omega
  refine bQ (cY (s:={ s with heap:=h' }) g1 g3 (fits_of g4) ?_);dsimp only;obtain⟨k1,k2⟩:=h5.keep (nt sb);have fin:∀(es2:40#0) (t2:SetTable),Tab t2 es2->es2.toList.Perm es.toList->t2.plain=true->t2.led=wz w->t2.fill*5<t2.mask*3->t2.mask<=255->es2.size<=sizeLine/\Q () { s with heap:=h'.update a (Obj.putSet es2 t2) }:=fun es2 t2 T2 p2 pl2 ld2 fl2 mb=>by
   have s2:es2.size=es.size:=by have:=p2.length_eq;sleep 23
   refine⟨by rw[s2,sizeLine_eq];omega,?_⟩;have sb2:da a s.heap (h'.update a (Obj.putSet es2 t2)):=sb.trans (da.update ..);obtain⟨j1,j2⟩:=(h5.perm p2).keep (nt sb2);refine h _ sb2 ⟨_,es2,_,t2,zBc g1 g3,g2,rfl,T2,j1,pl2,ld2,fl2,?_,h10.1,mb⟩;rw[j2];exact h9.trans (p2.map _).symm
  have rd:tn.road t=if (tn.mask==t.mask&&t.dummies.isEmpty)=true then .slotForSlot else .clean:=by
   unfold SetTable.road;rw[g7];rfl
  rw[rd];by_cases hs:(tn.mask==t.mask&&t.dummies.isEmpty)=true
  ·rw[if_pos hs]
   dsimp only;obtain⟨f1,f2⟩:=fin es { t with finger:=tn.finger,led:=tn.led&&t.led,moves:=tn.moves,plain:=tn.plain&&t.plain } ⟨h4.msk,h4.size,h4.ris,h4.risD,h4.le,h4.leD,h4.room,h4.way,h4.dis⟩ (.refl _) (by show(tn.plain&&t.plain)=true;rw[g5,h6];rfl) (by show(tn.led&&t.led)=_;rw[g6,h7];simp) h8 h10.2;exact fr (s:={ s with heap:=h' }) g1 g3 f2 f1
  ·rw[if_neg hs]
   dsimp only;obtain⟨t',order,l1,l2,l3,l4,l5,l6,l7,l8⟩:=zMC (mask:=tn.mask) (finger:=tn.finger) (moves:=tn.moves) (led:=tn.led&&t.led) (plain:=tn.plain&&t.plain) (es:=es) g4.msk 2#0;have sz:(order.filterMap (es[·]?)).size=es.size:=by
    have:=l3.length_eq;rw[cC,cC] at this;exact this
   refine bQ (wpAny_of_eq (a:=(order.filterMap (es[·]?),t')) ?_ ?_)
   ·rw[l1]
    show(if ((order.filterMap (es[·]?)).size != es.size)=true then _ else _)=_;rw[if_neg (by rw[sz];simp)]
   ·dsimp only
    obtain⟨f1,f2⟩:=fin (order.filterMap (es[·]?)) t' l2 l3 (by rw[l6,g5,h6];rfl) (by rw[l5,g6,h7];simp) (by
     rw[l4];have:t'.fill=t'.place.size+t'.dummies.size:=rfl;rw[this,l7,l8];simpa using g8) (by rw[l4];exact g9)
    exact fr (s:={ s with heap:=h' }) g1 g3 f2 f1
end
end HT2
namespace HT2
open HT3
open HI (Ris zAB wz zCG zC1)
theorem zPW:isSubtype (.type "set") (.type "set")=pure true:=by rw[isSubtype_type];kernel_rfl
section
variable {prog:Program} {w:World} {P:Addr->Prop} {A:Around} {E:Value->Shared->Prop} {s:Shared}
theorem zIa{a:Addr}{o:Obj}{Q:146#0}(ho:s.heap.get? a=some o)(hc:o.cls=.type "set")(h:Q true s):wpAny 16#0 A (Builtin.Frozenset.isAnySet (.ref a)) Q E s:=by
 unfold Builtin.Frozenset.isAnySet;unfold orM;refine bQ (wpAny_isInstance (T:="set") (b:=true) ⟨o,ho,hc⟩ zPW ?_);exact c5 h
theorem zPX{nm:String}{r:Addr}{kys:28#0}{Q:11#0}(hS:ST prog w P s.heap r kys)(hn:kys.length<=60)
  (h:∀ h',32#0->ST prog w P h' s.heap.objs.size kys->Q 36#0 { s with heap:=h' }):wpAny 16#0 A (Builtin.Frozenset.newFrom nm (.type "set") (.ref r)) Q E s:=by
 obtain⟨o,es,ep,t,h1,h2,h3,h4,u0⟩:=id hS;have lr:r<s.heap.objs.size:=ci h1;unfold Builtin.Frozenset.newFrom newSet;refine bQ (bQ (zCG ?_));dsimp only;refine dk ?_;refine bQ (m:=Builtin.Frozenset.addrOf _) (c5 ?_);show wpAny _ _ (holding [Value.ref s.heap.objs.size] (Builtin.Frozenset.updateFrom nm s.heap.objs.size (.ref r))>>=fun u0=>pure (Value.ref s.heap.objs.size)) _ _ { s with heap:=s.heap.push (zAB w) };have h0:(s.heap.push (zAB w)).get? s.heap.objs.size=some (zAB w):=ck _ rfl;have h1':(s.heap.push (zAB w)).get? r=some o:=bX _ h1;refine bQ (dt ?_);unfold Builtin.Frozenset.updateFrom;refine bQ (zIa (s:={ s with heap:=s.heap.push (zAB w) }) h1' h2.1 ?_);rw[if_pos rfl];show wpAny _ _ (Builtin.Frozenset.merge nm s.heap.objs.size r) _ _ _;unfold Builtin.Frozenset.merge;refine bQ (wpAny_setEpoch_of (s:={ s with heap:=s.heap.push (zAB w) }) h1' h3 (fits_of h4) ?_);refine zNK (s:={ s with heap:=s.heap.push (zAB w) }) (Nat.ne_of_gt lr) h0 (hS.keep fun b o e=>bX _ e) hn fun h' sb st=>c5 ?_;refine h h' (fun b o e=>?_) st;rw[sb.2 b (cH (ci e))];exact bX _ e
theorem zPY{a c:Addr}{o:Obj}{es:40#0}{ep:Nat}{t:SetTable}{Q:Array (Int×Value)->Shared->Prop}(ho:s.heap.get? a=some o)(hd:o.data=.set es ep t)(hf:t.fits es.size=true)(pl:t.plain=true)(ld:t.led=wz w)
  (h:∀ xs:Array (Int×Value),xs.toList.Perm es.toList->Q xs s):wpAny 16#0 A (setWalkUnseen a [c] (some c)) Q E s:=by
 unfold setWalkUnseen;refine bQ (cY ho hd hf (bQ (zCG ?_)));dsimp only;have hc:(w.params.followText "set-order"||(t.led&&t.plain)||decide (es.size<=1))=true:=by
  rw[pl,ld];unfold HI.wz;cases w.params.followText "set-order"<;>rfl
 rw[if_pos hc];unfold setWalk;refine bQ (cY ho hd hf (bQ (zCG ?_)));cases bt:w.params.followText "set-order" with
 | true =>
  simp only[↓reduceIte];refine bQ (wpAny_askSetting (c5 (h _ (zC1 _ es))))
 | false =>
  simp only[bT,↓reduceIte];have ld':t.led=true:=by rw[ld];unfold HI.wz;rw[bt];rfl
  refine eV (fun q=>absurd (show(!t.plain&&decide (es.size>1))=true from q) (by rw[pl];simp)) (fun u0=>?_);refine bQ (eV (fun q=>absurd q (by rw[ld'];simp)) (fun u0=>c5 (c5 (h es (.refl _)))))
theorem ST.but{h h':Heap}{a r:Addr}{kys:28#0}(hS:ST prog w P h r kys)(hra:r≠a)(ha:∃ o es ep t,h.get? a=some o/\o.data=.set es ep t)(sb:da a h h'):ST prog w P h' r kys:=by
 obtain⟨o,es,ep,t,h1,h2,h3,h4,h5,h6,h7,h8,h9,h10⟩:=hS;obtain⟨oa,ea,epa,ta,g1,g2⟩:=ha;obtain⟨k1,k2⟩:=h5.keep fun c o' its n e1 e2=>by
  rw[sb.2 c (fun q=>by subst q;rw[g1] at e1;cases e1;rw[g2] at e2;cases e2)];exact e1
 exact⟨o,es,ep,t,by rw[sb.2 r hra];exact h1,h2,h3,h4,k1,h6,h7,h8,by rw[k2];exact h9,h10⟩
theorem zPZ{ns:96#0}{kys:28#0}(nd:kys.Nodup)(x:96#0):x∈zJp ns kys↔(if x=ns then x∉kys else x∈kys):=by
 unfold zJp;by_cases hin:ns∈kys
 ·rw[if_pos hin,nd.mem_erase_iff]
  by_cases e:x=ns
  ·subst e;simp[hin]
  ·simp[e]
 ·rw[if_neg hin,cr,cf]
  by_cases e:x=ns
  ·subst e;simp[hin]
  ·simp[e]
theorem zRZ{nm:String}{a l:Addr}{K0 kl U:28#0}{Q:Unit->Shared->Prop}(hA:A.units<cLine)(hal:l≠a)(hS:ST prog w P s.heap a K0)(hL:ST prog w P s.heap l kl)(hU:U.length<=60)(u1:∀ x∈K0,x∈U)(u2:∀ x∈kl,x∈U)
  (h:∀ h' kys,da a s.heap h'->ST prog w P h' a kys->(∀ x,x∈kys↔¬ (x∈K0↔x∈kl))->kys.length<=60->Q () { s with heap:=h' }) :
  wpAny 16#0 A (Builtin.Frozenset.symmetricDifferenceUpdate nm a (.ref l)) Q E s:=by
 obtain⟨o,es,ep,t,h1,h2,h3,h4,h5,h6,h7,h8,h9,h10⟩:=id hL;obtain⟨oa,ea,epa,ta,g1,g2,g3,u0⟩:=id hS;unfold Builtin.Frozenset.symmetricDifferenceUpdate;rw[if_neg (by simpa using hal)];refine bQ (f7 (T:="set") ⟨o,h1,h2.1⟩ ?_);rw[if_neg 8#0];refine bQ (zIa h1 h2.1 ?_);rw[if_pos rfl];refine bQ (c5 (bQ (m:=Builtin.Frozenset.addrOf _) (c5 ?_)));refine bQ (wpAny_setEpoch_of h1 h3 (fits_of h4) (dt ?_));refine bQ (zPY h1 h3 (fits_of h4) h6 h7 fun xs pm=>?_);rw[<-Array.forIn_toList];have key:∀ e∈xs.toList,∃ c,e=(hT prog w (kyT s.heap e),.ref c)/\TK prog w P s.heap (kyT s.heap e) c:=fun e he=>h5.mem e (pm.mem_iff.mp he);have kperm:(xs.toList.map (kyT s.heap)).Perm kl:=(pm.map _).trans h9.symm;have knd:(xs.toList.map (kyT s.heap)).Nodup:=kperm.nodup_iff.mpr h10.1;refine bQ (wpAny_forIn_list _ (fun rest r s'=>∃ done h' kys,xs.toList=done++rest/\s'={ s with heap:=h' }/\da a s.heap h'/\ST prog w P h' a kys/\∀ x,x∈kys↔¬ (x∈K0↔x∈done.map (kyT s.heap))) _ ?_ ?_ _ _ ⟨[],s.heap,K0,rfl,rfl,⟨rfl,fun u0 u0=>rfl⟩,hS,fun x=>by simp⟩)
 ·rintro e rest r s' ⟨done,h',kys,e1,rfl,sb,st,mem⟩
  have he:e∈xs.toList:=by rw[e1];simp
  obtain⟨c,e2,e3⟩:=key e he;generalize hns:kyT s.heap e=ns at e2 e3;subst e2;have e3':TK prog w P h' ns c:=by
   obtain⟨⟨o',i,n,q1,q2,q3,q4⟩,qp⟩:=e3;exact⟨⟨o',i,n,by rw[sb.2 c (fun q=>by subst q;rw[g1] at q1;cases q1;rw[g3] at q3;cases q3)];exact q1,q2,q3,q4⟩,qp⟩
  have hl':=hL.but hal ⟨oa,ea,epa,ta,g1,g3⟩ sb;have nd:kys.Nodup:=let ⟨_,_,_,_,_,_,_,_,_,_,_,_,_,q,_⟩:=st;q;have sub:∀ x∈kys,x∈U:=fun x hx=>by
   by_cases q:x∈K0
   ·exact u1 x q
   ·have:=(mem x).mp hx
    have:x∈done.map (kyT s.heap):=Classical.byContradiction fun z=>this ⟨fun y=>(q y).elim,fun y=>(z y).elim⟩;exact u2 x (kperm.mem_iff.mp (by rw[e1,cN];exact dh _ this))
  have len:kys.length<=60:=di (fu.length_le_of_subset nd sub) hU;dsimp only;refine bQ (zRX (s:={ s with heap:=h' }) hA st e3' len fun h2 kys2 sb2 st2 p2=>?_);unfold Builtin.Frozenset.unchanged;have g1':h2.get? l=some o:=by rw[sb2.2 l hal,sb.2 l hal];exact h1
  refine bQ (bQ (wpAny_setEpoch_of (s:={ s with heap:=h2 }) g1' h3 (fits_of h4) ?_));rw[if_neg 24#0];refine c5 (c5 ⟨done++[(hT prog w ns,.ref c)],h2,kys2,by rw[e1];simp,rfl,sb.trans sb2,st2,fun x=>?_⟩);have nn:ns∉done.map (kyT s.heap):=fun q=>by
   rw[e1,cN,cU,hns] at knd;exact(dq.mp knd).2.2 ns q ns (cF) rfl
  rw[p2.mem_iff,zPZ nd,cN,cr,List.map_singleton,hns,cf];by_cases e:x=ns
  ·subst e
   rw[if_pos rfl,mem x];simp only[nn,or_true,iff_true,iff_false,Classical.not_not,false_or]
  ·rw[if_neg e,mem x]
   simp only[e,or_false]
 ·rintro r s' ⟨done,h',kys,e1,rfl,sb,st,mem⟩
  rw[eG] at e1;have nd:kys.Nodup:=let ⟨_,_,_,_,_,_,_,_,_,_,_,_,_,q,_⟩:=st;q;have mm:∀ x,x∈kys↔¬ (x∈K0↔x∈kl):=fun x=>by rw[mem x,<-e1,kperm.mem_iff]
  have sub:∀ x∈kys,x∈U:=fun x hx=>by
   by_cases q:x∈K0
   ·exact u1 x q
   ·have:=(mm x).mp hx
    exact u2 x (Classical.byContradiction fun z=>this ⟨fun y=>(q y).elim,fun y=>(z y).elim⟩)
  exact c5 (h h' kys sb st mm (di (fu.length_le_of_subset nd sub) hU))
end
open HI (Ris zAB wz zED)
section
variable {prog:Program} {w:World} {P:Addr->Prop} {A:Around} {E:Value->Shared->Prop} {s:Shared}
theorem zPa{h:Heap}:ST prog w P (h.push (zAB w)) h.objs.size []:=by
 refine⟨zAB w,#[],0,.fresh 0 0 (wz w),ck _ rfl,⟨rfl,rfl,rfl⟩,rfl,⟨⟨3,ce _,rfl⟩,rfl,en.nil,en.nil,fun j hj=>(by simp[eT] at hj),fun j hj=>(by simp[eT] at hj),du _,fun j h x he=>?_,fun j hj=>(by simp[eT] at hj)⟩,fun i e he=>by simp at he,rfl,rfl,(by show 0*5<7*3;decide),.refl _,List.nodup_nil,(by show 7<=255;decide)⟩;obtain⟨i,e,u0⟩:=he;simp[eT] at e
theorem zNL{l:Addr}{its:123#0}{val:Nat->List Int}{Q:11#0}(hh:A.handled=none)(hA:A.in1.in1.in1.units<cLine)(hl:s.heap.IsList l its)(ht:∀ i v,its[i]?=some v->∃ c,v=.ref c/\TK prog w P s.heap (val i) c)(hb:its.size<=60)
  (h:∀(h':Heap) (tk:Nat) (kys:28#0),ST prog w P h' s.heap.objs.size kys->kys.length<=its.size->(∀ x,x∈kys↔∃ m,m<its.size/\val m=x)->Kp s.heap h'->Q 36#0 { s with heap:=h',toks:=tk }) :
  wpAny 16#0 A (call (.type "set") [.ref l]) Q E s:=by
 obtain⟨c,tl,hmro⟩:=F.called_set.mro;have hmade:=F.called_set.made;have hsub:=F.called_set.sub;refine wpAny_call (codeAny_of_tree (show wpAny _ _ (callAny (.type "set") _) _ _ _ from c5 ⟨Code.quiet_builtin _ 10#0,dJ F.entry_type_call ?_⟩));sleep 37
 sleep 22
 refine er (zED (.ref l) (E:=E) (Q1:=fun obj z=>obj=.ref s.heap.objs.size/\z={ s with heap:=s.heap.push (zAB w) }) ⟨rfl,rfl⟩) fun r z hr=>?_;cases r with
 | error e=>exact hr
 | ok fl =>
  cases fl with
  | ret obj =>
   obtain⟨rfl,rfl⟩:=hr;have hT:Shared.TypeIs { s with heap:=s.heap.push (zAB w) } 36#0 "set":=⟨_,ck _ rfl,rfl⟩
   have hli:=F.called_set.init.lookup;have hbi:=F.called_set.init.bind 36#0
   sleep 22
   refine er 53#0 fun r2 z2 hr2=>?_
   ·obtain⟨ol,hol,hcl,nl,hdl⟩:=hl
    obtain⟨ocls,odict,odata,oslots⟩:=ol;simp only at hcl hdl;subst hcl;subst hdl;have hol':(s.heap.push (zAB w)).get? l=some { cls:=.type "list",dict:=odict,data:=.seq its nl,slots:=oslots }:=bX _ hol;have hsls:isSubtype (.type "list") (.type "set")=pure false:=by rw[isSubtype_type];kernel_rfl
    have hslf:isSubtype (.type "list") (.type "frozenset")=pure false:=by rw[isSubtype_type];kernel_rfl
    have hne:(Value.type "list"==Value.type "dict")=false:=by decide
    have hl1:(s.heap.push (zAB w)).IsList l its:=⟨_,hol',rfl,nl,rfl⟩
    unfold Builtin.«set.__init__» noKeywords Builtin.Frozenset.updateFrom;generalize hPI:pyIter=PI
    wp_walk
    subst hPI;refine wpAny_pyIter_list hl1 (bQ (wpAny_runValue ?_));have lS:l<s.heap.objs.size:=ci hol;have hh3:A.in1.in1.in1.handled=none:=by simp[hh]
    have neI:l≠(s.heap.push (zAB w)).objs.size:=by rw[e8];exact cH (ft lS)
    have hSf:s.heap.objs.size∉[(s.heap.push (zAB w)).objs.size,l]:=by
     rw[e8];simp only[cI,cf,ff,or_false,not_or];exact⟨cH (Nat.lt_succ_self _),Nat.ne_of_gt lS⟩
    have st0:ST prog w P ((s.heap.push (zAB w)).push { cls:=.type "list_iterator",data:=.fields #[.ref l,.int 0 0] }) s.heap.objs.size []:=zPa.keep fun b o e=>bX _ e;refine zHp (h0:=s.heap) (Walks.list hh3 _ l neI its) hA hSf (fC (ce _)) (fun b hb'=>by
     rw[cf] at hb';rw[hb',e8];exact fC (ef _)) (fun i h st b hb' o e its n q=>by
     rw[cf] at hb';subst hb';obtain⟨o2,e2,c2,d2⟩:=st.1;rw[e2] at e;cases e;rw[d2] at q;cases q) hb ht (its.size-0) 0 _ _ [] 2#0 (du _) (fun b o e=>bX _ (bX _ e)) ⟨⟨_,ck _ rfl,rfl,rfl⟩,hl1.push _⟩ st0 (ce _) (fun x=>⟨fun q=>(by simp at q),fun⟨m,q,_⟩=>absurd q (fo _)⟩) ?_
    sleep 42
   ·cases r2 with
    | error e=>exact hr2
    | ok fl2 =>
     cases fl2 with
     | ret r =>
      obtain⟨rfl,h',tk,kys,rfl,st,len,mem,kp⟩:=hr2
      sleep 22
      exact h _ _ kys st len mem kp
     | _=>exact hr2.elim
  | _=>exact hr.elim
theorem zNM{l:Addr}{its:123#0}{val:Nat->List Int}{Q:11#0}(hh:A.handled=none)(hA:A.in1.in1.in1.units<cLine)(hl:s.heap.IsTuple l its)(ht:∀ i v,its[i]?=some v->∃ c,v=.ref c/\TK prog w P s.heap (val i) c)(hb:its.size<=60)
  (h:∀(h':Heap) (tk:Nat) (kys:28#0),ST prog w P h' s.heap.objs.size kys->kys.length<=its.size->(∀ x,x∈kys↔∃ m,m<its.size/\val m=x)->Kp s.heap h'->Q 36#0 { s with heap:=h',toks:=tk }) :
  wpAny 16#0 A (call (.type "set") [.ref l]) Q E s:=by
 obtain⟨c,tl,hmro⟩:=F.called_set.mro;have hmade:=F.called_set.made;have hsub:=F.called_set.sub;refine wpAny_call (codeAny_of_tree (show wpAny _ _ (callAny (.type "set") _) _ _ _ from c5 ⟨Code.quiet_builtin _ 10#0,dJ F.entry_type_call ?_⟩));sleep 37
 sleep 22
 refine er (zED (.ref l) (E:=E) (Q1:=fun obj z=>obj=.ref s.heap.objs.size/\z={ s with heap:=s.heap.push (zAB w) }) ⟨rfl,rfl⟩) fun r z hr=>?_;cases r with
 | error e=>exact hr
 | ok fl =>
  cases fl with
  | ret obj =>
   obtain⟨rfl,rfl⟩:=hr;have hT:Shared.TypeIs { s with heap:=s.heap.push (zAB w) } 36#0 "set":=⟨_,ck _ rfl,rfl⟩
   have hli:=F.called_set.init.lookup;have hbi:=F.called_set.init.bind 36#0
   sleep 22
   refine er 53#0 fun r2 z2 hr2=>?_
   ·obtain⟨ol,hol,hcl,nl,hdl⟩:=hl
    obtain⟨ocls,odict,odata,oslots⟩:=ol;simp only at hcl hdl;subst hcl;subst hdl;have hol':(s.heap.push (zAB w)).get? l=some { cls:=.type "tuple",dict:=odict,data:=.seq its nl,slots:=oslots }:=bX _ hol;have hsls:isSubtype (.type "tuple") (.type "set")=pure false:=by rw[isSubtype_type];kernel_rfl
    have hslf:isSubtype (.type "tuple") (.type "frozenset")=pure false:=by rw[isSubtype_type];kernel_rfl
    have hne:(Value.type "tuple"==Value.type "dict")=false:=by decide
    have hl1:(s.heap.push (zAB w)).IsTuple l its:=⟨_,hol',rfl,nl,rfl⟩
    unfold Builtin.«set.__init__» noKeywords Builtin.Frozenset.updateFrom;generalize hPI:pyIter=PI
    wp_walk
    subst hPI;refine wpAny_pyIter_tuple hl1 (bQ (wpAny_runValue ?_));have lS:l<s.heap.objs.size:=ci hol;have hh3:A.in1.in1.in1.handled=none:=by simp[hh]
    have neI:l≠(s.heap.push (zAB w)).objs.size:=by rw[e8];exact cH (ft lS)
    have hSf:s.heap.objs.size∉[(s.heap.push (zAB w)).objs.size,l]:=by
     rw[e8];simp only[cI,cf,ff,or_false,not_or];exact⟨cH (Nat.lt_succ_self _),Nat.ne_of_gt lS⟩
    have st0:ST prog w P ((s.heap.push (zAB w)).push { cls:=.type "tuple_iterator",data:=.fields #[.ref l,.int 0 0] }) s.heap.objs.size []:=zPa.keep fun b o e=>bX _ e;refine zHp (h0:=s.heap) (Walks.tuple hh3 _ l neI its) hA hSf (fC (ce _)) (fun b hb'=>by
     rw[cf] at hb';rw[hb',e8];exact fC (ef _)) (fun i h st b hb' o e its n q=>by
     rw[cf] at hb';subst hb';obtain⟨o2,e2,c2,d2⟩:=st.1;rw[e2] at e;cases e;rw[d2] at q;cases q) hb ht (its.size-0) 0 _ _ [] 2#0 (du _) (fun b o e=>bX _ (bX _ e)) ⟨⟨_,ck _ rfl,rfl,rfl⟩,hl1.push _⟩ st0 (ce _) (fun x=>⟨fun q=>(by simp at q),fun⟨m,q,_⟩=>absurd q (fo _)⟩) ?_
    sleep 42
   ·cases r2 with
    | error e=>exact hr2
    | ok fl2 =>
     cases fl2 with
     | ret r =>
      obtain⟨rfl,h',tk,kys,rfl,st,len,mem,kp⟩:=hr2
      sleep 22
      exact h _ _ kys st len mem kp
     | _=>exact hr2.elim
  | _=>exact hr.elim
end
open HI (Ris Sx Tells zCl zJh zL8 zJj zCG zBI zJg zGQ zE9 zC1 zGR)
section
variable {prog:Program} {w:World} {P:Addr->Prop} {A:Around} {E:Value->Shared->Prop} {s:Shared}
theorem zUs{a it:Addr}{es:40#0}{ep:Nat}{t:SetTable}{sl:Nat->Nat}{xs:31#0}(hh:A.handled=none)(T:Tells prog w a es ep t sl xs)(hf:t.fits es.size=true)(hx:xs.length=es.size)(hne:a≠it) :
  Walks prog w A it [it,a] [it] es.size (fun i v=>xs[i]?=some v) (fun i h=>h.get? it=some (zCl (rawInt (sl i)) i a es.size ep)/\Sx h a es ep t) where
 sub:=fun b hb=>by simp at hb ⊢;exact .inl hb
 frame:=fun i h h' st k=>⟨k it 24#0 _ st.1,st.2.keep fun o e=>k a 24#0 o e⟩
 item:=fun i s Q E hi st hQ=>zJh T hf hx hi st.1 st.2 hne fun h' v hxv e kp=>hQ _ h' s.toks hxv ⟨e,st.2.keep fun o q=>kp a o hne q⟩ fun b o hb q=>kp b o (by simpa using hb) q
 done:=fun s Q E st hQ=>zL8 hh T hf hx st.1 st.2 fun h' kp=>hQ h' s.toks fun b o hb q=>kp b o (by simpa using hb) q
 self:=fun i s Q E st hQ=>zJj st.1 hQ
noncomputable def Mem(prog:Program)(w:World)(P:Addr->Prop)(h:Heap)(xs:31#0)(kys:28#0):Prop:=(∀ v∈xs,∃ c ns,v=.ref c/\TK prog w P h ns c)/\(xs.map fun v=>kyT h (0,v)).Perm kys
theorem zNN{a:Addr}{kys:28#0}{Q:11#0}(hS:145#0)
  (h:∀(h1:Heap) (it:Addr) (fp:List Addr) (St:Nat->Heap->Prop) (xs:31#0),(∀ b o,s.heap.get? b=some o->h1.get? b=some o)->(∀ b∈fp,b=a\/s.heap.objs.size<=b)->s.heap.objs.size<=it ->
   (∀ B:Around,B.handled=none->Walks prog w B it fp [it] xs.length (fun i v=>xs[i]?=some v) St)->St 0 h1->Mem prog w P s.heap xs kys->xs.length=kys.length->Q (.ref it) { s with heap:=h1 }):wpAny 16#0 A (pyIter (.ref a)) Q E s:=by
 obtain⟨o,es,ep,t,ho,hex,hd,T0,ok,pl,hl,fl,pk,nd⟩:=hS;have hf:=fits_of T0;have hr:=T0.ris;have hT:s.TypeIs (.ref a) "set":=⟨o,ho,hex.1⟩
 have la:a<s.heap.objs.size:=ci ho;refine wpAny_pyIter_slot hT F.slot_set_iter (eJ F.slot_set_iter hT zJg ?_ (F.args_set_iter_1 _));unfold Builtin.«frozenset.__iter__» Builtin.Frozenset.slot0;refine bQ (m:=do Builtin.Frozenset.addrOf (<-slotArgs "__iter__" 0 _).1) (show wpAny _ _ (pure a) _ _ _ from c5 ?_);unfold Builtin.Frozenset.sizeOf;refine bQ (bQ (wpAny_setEntries_of ho hd hf (c5 ?_)));unfold setDrawn;refine bQ (bQ (cY ho hd hf (bQ (zCG (c5 ?_)))));dsimp only;have fin:∀(sl:Nat->Nat) (xs:31#0),sl 0=0->Tells prog w a es ep t sl xs->xs.Perm (es.toList.map (·.2))->wpAny 16#0 A.in1 (do let e <-setEpoch a;let r <-newFields "set_iterator" [rawInt 0,rawInt 0,.ref a,rawInt es.size,rawInt e];ret r) (fun fin s'=>∃ v,fin=.done (.ret v)/\∃ T' r,s'.TypeIs v T'/\typeLookup (.type T') "__next__"=pure (some r)/\Q v s') E s:=fun sl xs h0 T pm=>by
  have hx:xs.length=es.size:=by rw[pm.length_eq];simp
  refine bQ (wpAny_setEpoch_of ho hd hf (bQ (dk (c5 ⟨_,rfl,"set_iterator",_,⟨_,ck _ rfl,rfl⟩,zBI.lookup,?_⟩))));refine h (s.heap.push (zCl (rawInt 0) 0 a es.size ep)) s.heap.objs.size [s.heap.objs.size,a] (fun i h=>h.get? s.heap.objs.size=some (zCl (rawInt (sl i)) i a es.size ep)/\Sx h a es ep t) xs (fun b o e=>bX _ e) (fun b hb=>?_) (ce _) (fun B hB=>by rw[hx];exact zUs hB T hf hx (cH la)) ⟨?_,⟨o,bX _ ho,hex,hd⟩⟩ ⟨fun v hv=>?_,?_⟩ ?_
  ·simp only[cI,ff,or_false] at hb
   rcases hb with e | e
   ·exact .inr (Nat.le_of_eq e.symm)
   ·exact .inl e
  ·rw[h0];exact ck _ rfl
  ·obtain⟨e,he,rfl⟩:=ca.mp (pm.mem_iff.mp hv)
   obtain⟨c,e1,e2⟩:=ok.mem e he;exact⟨c,_,by rw[e1],e2⟩
  ·refine(pm.map _).trans ?_
   rw[cL];exact pk.symm
  ·rw[hx]
   have:=pk.length_eq;simp at this;omega
 cases bt:w.params.followText "set-order" with
 | true =>
  rw[if_neg 24#0];exact fin (fun u0=>0) _ rfl (zGQ hf bt) ((zC1 (w.params.setOrder a ep) es).map _)
 | false =>
  have hl':t.led=true:=by rw[hl];unfold HI.wz;rw[bt];rfl
  have hp:(!t.plain&&decide (es.size>1))=false:=by rw[pl];rfl
  refine eV (fun q=>absurd q (show ¬ (!false&&(!t.plain&&decide (es.size>1)))=true by rw[hp];simp)) (fun u0=>?_);exact fin _ _ rfl (zE9 hf hr bt hl' hp) (.refl _)
end
open HI (zGR)
open HS (TI tAt ltI zEp)
section
variable {prog:Program} {w:World} {P:Addr->Prop} {A:Around} {E:Value->Shared->Prop} {s:Shared}
theorem zK6{ns:96#0}{vs:31#0}(h:ItemsAre (intKind prog w) ns vs):IntsAre vs ns:=by
 induction h with
 | nil=>exact .nil
 | cons h1 _ ih =>
  obtain⟨t,rfl⟩:=Value.isInt_shape h1;exact .cons _ _ ih
theorem zJq{R:Result->Shared->Prop}{a:Addr}{kys:28#0}(hh:A.handled=none)(hS:145#0)(hlen:kys.length<=1000)(L:Addr)(res:Value)(c0:Nat)(hL:s.heap.get? L=some { cls:=.type "list",data:=.seq #[] c0 })
  (hR:∀ h' tk acc c,(∀ b o,b≠L->s.heap.get? b=some o->h'.get? b=some o)->h'.get? L=some { cls:=.type "list",dict:=none,data:=.seq acc c,slots:=#[] }->Mem prog w P s.heap acc.toList kys->acc.size=kys.length->R (.ok (.ret res)) { s with heap:=h',toks:=tk }) :
  wpAny 16#0 A.in1 (Builtin.List.listExtendWith (.ref L) (.ref a) res)
   (fun fin s'=>match fin with | .done f=>R (.ok f) s' | .again c'=>c'.quiet=true/\codeAny 16#0 A c' R s') (fun e s'=>R (.error e) s') s:=by
 obtain⟨o,es,ep,t,ho,hex,hrest⟩:=id hS;have La:L≠a:=fun e=>by rw[e,ho] at hL;cases hL;have:=hex.1;simp at this
 have lL:L<s.heap.objs.size:=ci hL;unfold Builtin.List.listExtendWith;refine bQ (f7 (T:="set") ⟨o,ho,hex.1⟩ ?_);have h1:Builtin.List.listSameRef (.ref L) (.ref a)=false:=by simp[Builtin.List.listSameRef,La]
 have h2:(Value.type "set"==Value.type "list")=false:=by decide
 have h3:(Value.type "set"==Value.type "tuple")=false:=by decide
 simp only[h1,h2,h3,Bool.or_false,bT,if_false];refine bQ (zNN hS fun g it fp St xs kp hfp hit W st me xl=>?_);have hSf:L∉fp:=fun q=>by
  rcases hfp L q with e | e
  ·exact La e
  ·exact absurd lL (Nat.not_lt.mpr e)
 have W1:=(W A.in1 (by simpa using hh)).toS;refine bQ (dt (zGR (s:={ s with heap:=g }) (kp a o ho) hex.1 ?_));have hL1:=kp L _ hL;refine eV (fun u0=>?_) (fun q=>absurd 10#0 q);refine bQ (wpAny_rule (bQ ?_));show wpAny _ _ (updateSeq L (·.push .none)>>=fun u0=>updateSeq L (·.pop)) _ _ _;refine bQ (wpAny_updateSeq hL1 rfl ?_);have hL2:=eH (Obj.mapSeq (·.push Value.none)) hL1 rfl;refine wpAny_updateSeq (hz:=by seq_fits) hL2 rfl ?_;have hL3:=eH (Obj.mapSeq (·.pop)) hL2 rfl;refine c5 ⟨plainId_quiet F.plain_extend_loop _,?_⟩;have old:∀ b ob,b≠L->g.get? b=some ob->((g.update L (Obj.mapSeq (·.push Value.none))).update L (Obj.mapSeq (·.pop))).get? b=some ob:=fun b ob hb e=>by
  rw[fe _ _ _ _ hb,fe _ _ _ _ hb];exact e
 refine codeAny_extend_loopS W1 151#0 L hSf res xs.length 0 _ #[] _ rfl (du _) ?_ hL3 (ItemsOf.nil _) fun s' acc c hm hL' hacc=>?_
 ·exact(W A.in1 (by simpa using hh)).frame 0 _ _ st fun b hb ob e=>old b ob (fun z=>hSf (by rw[<-z];exact hb)) e
 ·have ea:acc.toList=xs:=by
   refine List.ext_getElem (by simp[hacc.1]) fun i h1 h2=>?_;have hi:i<acc.size:=by simpa using h1
   have:xs[i]?=some acc[i]:=hacc.2 i acc[i] (getElem?_pos acc i hi);rw[ej h2] at this;have:=Option.some.inj this;rw[this];simp
  rw[Moved.eq_with hm];refine hR s'.heap s'.toks acc c (fun b ob hb e=>hm.heap b ob (fun hmem=>?_) (old b ob hb (kp b ob e))) hL' (by rw[ea];exact me) (by rw[hacc.1];exact xl);rcases cI.mp hmem with e' | hmem
  ·exact hb e'
  ·exact absurd (ci e) (by rw[cf.mp hmem];exact Nat.not_lt.mpr hit)
theorem zIb{a:Addr}{kys:28#0}{Q:List Value->Shared->Prop}(hh:A.handled=none)(hS:145#0)(hlen:kys.length<=1000)
  (hQ:∀ h' tk vs,32#0->s.heap.objs.size<=h'.objs.size->Mem prog w P s.heap vs kys->vs.length=kys.length->Q vs { s with heap:=h',toks:=tk }):wpAny 16#0 A (collect (.ref a)) Q E s:=by
 unfold collect;refine bQ (wpAny_runValue (dJ PySem.F.entry_proto_collect ?_));rw[Around.under_plainId PySem.F.plain_proto_collect _];show wpAny _ A.in1 (newList []>>=fun l=>again (.builtin "list.__iadd__" ⟨[l,.ref a],[]⟩)) _ _ s;refine bQ (dk (c5 ⟨plainId_quiet PySem.F.plain_list_iadd _,dJ PySem.F.entry_list_iadd ?_⟩));rw[Around.under_plainId PySem.F.plain_list_iadd _];show wpAny _ A.in1 (Builtin.List.listExtendWith 36#0 (.ref a) 36#0) _ _ _;have hL:(s.heap.push { cls:=.type "list",data:=.seq ([]:List Value).toArray }).get? s.heap.objs.size=some { cls:=.type "list",data:=.seq #[] 0 }:=ck _ rfl;have memb:∀ {vs:31#0},Mem prog w P (s.heap.push { cls:=.type "list",data:=.seq ([]:List Value).toArray }) vs kys->Mem prog w P s.heap vs kys:=fun {vs} m=>by
  have back:∀ {ns c},TK prog w P (s.heap.push { cls:=.type "list",data:=.seq ([]:List Value).toArray }) ns c->TK prog w P s.heap ns c:=fun {ns c} q=>by
   obtain⟨⟨ob,its,n,e,hc,r⟩,qp⟩:=q;refine⟨⟨ob,its,n,?_,hc,r⟩,qp⟩;by_cases z:c=s.heap.objs.size
   ·rw[z,ck _ rfl] at e
    cases e;simp at hc
   ·rw[Heap.get?_push_ne _ _ _ z] at e
    exact e
  refine⟨fun v hv=>?_,?_⟩
  ·obtain⟨c,ns,rfl,q⟩:=m.1 v hv
   exact⟨c,ns,rfl,back q⟩
  ·refine eM.trans (.of_eq (dI fun v hv=>?_)) m.2
   obtain⟨c,ns,rfl,q⟩:=m.1 v hv;rw[zCU (back q),zCU q]
 let Pst:Result->Shared->Prop:=fun res s'=>∃(h':Heap) (tk:Nat) (acc:123#0) (c:Nat),res=.ok (.ret 36#0)/\s'={ s with heap:=h',toks:=tk }/\32#0/\h'.get? s.heap.objs.size=some { cls:=.type "list",dict:=none,data:=.seq acc c,slots:=#[] }/\Mem prog w P s.heap acc.toList kys/\acc.size=kys.length;refine wpAny_mono (zJq (A:=A) (R:=Pst) (s:={ s with heap:=s.heap.push { cls:=.type "list",data:=.seq ([]:List Value).toArray } }) hh (hS.keep fun b o e=>bX _ e) hlen s.heap.objs.size 36#0 0 hL fun h' tk acc c kp q1 q2 q3=>?_) (fun fin s' h=>?_) (fun e s' h=>?_)
 ·exact⟨h',tk,acc,c,rfl,rfl,fun b o e=>kp b o (cH (ci e)) (bX _ e),q1,memb q2,q3⟩
 ·have fin':∀ {r' s''},Pst r' s''->wpAny 16#0 A (match Value.ref s.heap.objs.size with
     | Value.ref a=>do
      match (<-load a).data with
       | Data.seq xs _=>pure xs.toList
       | _=>unsupported "internal:collect"
     | _=>unsupported "internal:collect") Q E s'':=by
   rintro r' s'' ⟨h',tk,acc,c,rfl,rfl,kp,q1,q2,q3⟩;show wpAny _ A (load s.heap.objs.size>>=_) _ _ _;exact bQ (wpAny_load q1 (c5 (hQ h' tk _ kp (eS (ci q1)) q2 (by simpa using q3))))
  cases fin with
  | done f =>
   have hf:=h;obtain⟨h',tk,acc,c,e,u0⟩:=h;cases e;exact fin' hf
  | again c'=>exact⟨h.1,er h.2 fun r s'' hr=>by
    have hf:=hr;obtain⟨h',tk,acc,c,e,u0⟩:=hr;subst e;exact fin' hf⟩
 ·obtain⟨u0,u0,u0,u0,e,u0⟩:=h
  cases e
theorem zJr{a:Addr}{kys:28#0}{Q:11#0}(hh:A.handled=none)(hS:145#0)(h64:kys.length<64)(hne:∀ ns∈kys,ns≠[])
  (h:∀ h' tk l (out:31#0) e,32#0->s.heap.objs.size<=l->h'.get? l=some (seqObj "list" out.toArray e)->Mem prog w P s.heap out kys->(out.map fun v=>kyT s.heap (0,v)).Pairwise 56#0->Q (.ref l) { s with heap:=h',toks:=tk }) :
  wpAny 16#0 A (call (.builtin "sorted") [.ref a]) Q E s:=by
 refine Calls.call_function_entry kind_sorted plain_sorted entry_sorted (args_sorted1 _) ?_;unfold Builtin.«sorted»;refine bQ (m:=checkCount "sorted" 1 1 _) (c5 (bQ (zIb (by simpa using hh) hS 2#0 fun g tk vs kp lg me vl=>bQ (wpAny_newList ?_ 151#0))));have hoL:(g.push 39#0).get? g.objs.size=some 39#0:=ck _ rfl;have up:∀ b o,s.heap.get? b=some o->(g.push 39#0).get? b=some o:=fun b o e=>bX _ (kp b o e);show wpAny _ _ _ _ _ { s with heap:=g.push 39#0,toks:=tk };have ti:∀ v∈vs,TI (g.push 39#0) v (kyT s.heap (0,v))/\v≠.ref g.objs.size:=fun v hv=>by
  obtain⟨c,ns,rfl,q⟩:=me.1 v hv;have ek:=zCU q 0;rw[ek];obtain⟨⟨o,its,n,e,hc,hd,hi⟩,u0⟩:=q;refine⟨⟨⟨c,o,its,n,rfl,up c o e,hc,hd,zK6 hi⟩,hne ns (me.2.mem_iff.mp (ca.mpr ⟨_,hv,ek⟩))⟩,fun z=>?_⟩;cases z;exact absurd (ci (kp _ _ e)) (cR _)
 refine bQ (dt (eJ slot_list_sort ⟨_,hoL,rfl⟩ entry_list_sort (zEp (s:={ s with heap:=g.push 39#0,toks:=tk }) hoL (fun v hv=>⟨⟨_,(ti v hv).1⟩,(ti v hv).2⟩) 2#0 fun out a2 a3=>⟨_,rfl,c5 ⟨_,rfl,?_⟩⟩) (args_list_sort _)));have at1:((g.push 39#0).update g.objs.size (Obj.mapSeq fun u0=>#[])).get? g.objs.size=some (seqObj "list" #[] _):=get?_update_seq hoL (fun u0=>#[]);have at2:((((g.push 39#0).update g.objs.size (Obj.mapSeq fun u0=>#[])).push (seqObj "tuple" vs.toArray 0)).push 52#0).get? g.objs.size=some (seqObj "list" #[] _):=bX _ (bX _ at1);have at3:=get?_update_seq at2 (fun u0=>out);refine h _ tk g.objs.size out.toList _ (fun b o e=>?_) lg at3 ⟨fun v hv=>me.1 v (a2.mem_iff.mp hv),(a2.map _).trans me.2⟩ ?_
 ·have hb:b≠g.objs.size:=cH (ci (kp b o e))
  unfold sortedHeap;rw[fe _ _ _ _ hb];exact bX _ (bX _ (by rw[fe _ _ _ _ hb];exact bX _ (kp b o e)))
 ·rw[dY]
  intro i j hi hj ij;have hj':j<out.size:=by simpa using hj
  have hi':i<out.size:=by omega
  have q:=a3 i j (eS ij) hj';have gt:∀ k,(hk:k<out.size)->(tAt (g.push 39#0) (out.getD k .none)).getD []=kyT s.heap (0,out[k]):=fun k hk=>by
   have e:out.getD k .none=out[k]:=by simp[f6,hk]
   rw[e,(ti out[k] (a2.mem_iff.mp 24#0)).1.items];rfl
  rw[gt i hi',gt j hj'] at q;simpa using q
end
theorem zMD:entryFor table "set.__xor__"=some Builtin.«frozenset.__xor__»:=entryFor_alias (id':="frozenset.__xor__") (by kernel_rfl) (by first | rfl | decide +kernel) 10#0 (by kernel_rfl)
section
variable {prog:Program} {w:World} {P:Addr->Prop} {A:Around} {E:Value->Shared->Prop} {s:Shared}
theorem zPb{l r:Addr}{kl kr U:28#0}{Q:11#0}(hA:A.in1.units<cLine)(hL:ST prog w P s.heap l kl)(hR:ST prog w P s.heap r kr)(hU:U.length<=60)(u1:∀ x∈kl,x∈U)(u2:∀ x∈kr,x∈U)
  (h:∀ h' kys,32#0->ST prog w P h' s.heap.objs.size kys->(∀ x,x∈kys↔¬ (x∈kr↔x∈kl))->kys.length<=60->Q 36#0 { s with heap:=h' }) :
  wpAny 16#0 A (binaryOp .BitXor (.ref l) (.ref r)) Q E s:=by
 obtain⟨ol,esl,epl,tl,l1,l2,l3,l4,u0⟩:=id hL;obtain⟨or,esr,epr,tr,r1,r2,r3,r4,u0⟩:=id hR;have hTl:s.TypeIs (.ref l) "set":=⟨ol,l1,l2.1⟩
 have hTr:s.TypeIs (.ref r) "set":=⟨or,r1,r2.1⟩
 have ll:l<s.heap.objs.size:=ci l1;have lr:kr.length<=60:=by
  have nd:kr.Nodup:=let ⟨_,_,_,_,_,_,_,_,_,_,_,_,_,q,_⟩:=hR;q;exact di (fu.length_le_of_subset nd u2) hU
 refine wpAny_binaryOp_same hTl hTr F.fills_set_xor F.slot_set_xor (eJ F.slot_set_xor hTl zMD ?_ (F.args_set_xor_2 _ _));show wpAny _ _ (Builtin.Frozenset.slot1 "__xor__" ⟨[.ref l,.ref r],[]⟩>>=_) _ _ _;refine bQ (m:=Builtin.Frozenset.slot1 "__xor__" _) (show wpAny _ _ (pure (Value.ref l,Value.ref r)) _ _ _ from c5 ?_);dsimp only;simp only[bT,↓reduceIte];unfold andM;refine bQ (bQ (zIa l1 l2.1 ?_));refine zIa r1 r2.1 ?_;simp only[Bool.not_true,bT,↓reduceIte];refine bQ (m:=Builtin.Frozenset.addrOf _) (c5 ?_);refine bQ ?_;show wpAny _ _ (Builtin.Frozenset.baseOf l>>=_) _ _ _;unfold Builtin.Frozenset.baseOf;refine bQ (bQ (wpAny_isInstance (T:="set") (b:=true) hTl zPW (c5 ?_)));simp only[↓reduceIte];refine bQ (zPX hR lr fun h1 kp st=>?_);have hL1:ST prog w P h1 l kl:=hL.keep kp;show wpAny _ _ (holding [Value.ref s.heap.objs.size] (Builtin.Frozenset.symmetricDifferenceUpdate _ s.heap.objs.size (.ref l))>>=_) _ _ _;refine bQ (dt (zRZ (s:={ s with heap:=h1 }) hA (cH ll) st hL1 hU u2 u1 fun h2 kys sb st2 mem len=>?_));refine c5 (c5 ⟨_,rfl,by simp,h h2 kys (fun b o e=>?_) st2 mem len⟩);rw[sb.2 b (cH (ci e))];exact kp b o e
end
end HT2
namespace L2
theorem zTr{X:Cx}{pins:27#0}{σ:St}{H:Hp}{s:Shared}{i:Nat}{x:Str}{pos:Pos}{v:V}{Q:11#0}(hN:X.N[i]?=some x)(hv:Vis X.env.scope x)(I:21#0)(e:σ[i]?=some (some v))(h:∀ u,RelV v u->Q u s)
  (hd:9#0) (hcd:85#0):wpAny 22#0 X.A (eval (.Name x pos) X.env) Q X.xe s:=by
 obtain⟨m,hn,hl⟩:=I.loc;obtain⟨u,r,l⟩:=hl i x v hN e hv;have fin:=h u r;rcases l with ⟨hk,hm⟩ | ⟨hk,c,hc,hcell⟩
 ·exact wpAny_Name (wpAny_loadName_local I.ok.kind hk hn hm fin) hd
 ·rcases hk with hk | hk
  ·exact wpAny_Name (wpAny_loadName_cell I.ok.kind hk hc hcell fin) hd
  ·exact wpAny_Name (wpAny_loadName_free I.ok.kind hk hc hcell fin hcd) hd
end L2
namespace L3
open L2 HT2 HS
open HT3 hiding ST
theorem zPc{prog:Program}{w:World}{ns:96#0}{vs:31#0}(h:IntsAre vs ns):ItemsAre (intKind prog w) ns vs:=by
 induction h with
 | nil=>exact .nil
 | cons n t _ ih=>exact .cons (intKind_is _ _ _ _) ih
section
variable {X:Cx} {pins:List (Addr×Obj)} {σ:L2.St} {H:Hp} {s:Shared}
noncomputable def Pd(K:18#0)(H:Hp)(c:Addr):Prop:=∃ ms,zX K H (tI ms) (.ref c)
theorem zSU(I:21#0){ns:96#0}{c:Addr}(d:zX X.K H (tI ns) (.ref c)):TK X.prog X.w (Pd X.K H) s.heap ns c:=by
 refine⟨?_,ns,d⟩;unfold tI zX at d;obtain⟨a,zs,e,hs,hd⟩:=d;cases e;have hz:=hd.ints_inv;subst hz;obtain⟨its,rv,⟨o,h1,h2,n,h3⟩,u0⟩:=I.tuple hs;exact⟨o,its.toArray,n,h1,h2,h3,zPc (by simpa using intsAre_of rv)⟩
theorem zPd(I:21#0){nss:28#0}{ys:List V}{its:31#0}(d:Dens X.K H (nss.map tI) ys)(rv:zf ys its):∀ i v,its.toArray[i]?=some v->∃ c,v=.ref c/\TK X.prog X.w (Pd X.K H) s.heap (nss.getD i []) c:=fun i v hv=>by
 have hv:its[i]?=some v:=by simpa using hv
 have hi:=(cc.mp hv).1;have l1:=rv.length;have l2:=d.length;rw[bZ] at l2;have hn:i<nss.length:=by omega
 obtain⟨y,e1,e2⟩:=d.get (i:=i) (d:=tI nss[i]) (by rw[cP];simp[hn]);obtain⟨u,e3,e4⟩:=rv.get e1;rw[hv] at e3;cases e3;have e5:=e2;unfold tI zX at e5;obtain⟨a,zs,rfl,u0,u0⟩:=e5;cases (show v=Value.ref a from e4);have eg:nss.getD i []=nss[i]:=by simp[d7,hn]
 rw[eg];exact⟨a,rfl,zSU I e2⟩
theorem zUt{h:Heap}(I:21#0):∀ {out:31#0},(∀ v∈out,∃ c ns,v=.ref c/\TK X.prog X.w (Pd X.K H) s.heap ns c)->∃ ys:List V,zf ys out/\Dens X.K H ((out.map fun v=>kyT s.heap (0,v)).map tI) ys
 | [],_=>⟨[],.nil,.nil⟩
 | v::out,hh=>by
  obtain⟨ys,r,d⟩:=zUt (h:=h) I (out:=out) fun v hv=>hh v (cq _ hv);obtain⟨c,ns,rfl,tk⟩:=hh v cF;obtain⟨ms,dm⟩:=tk.2;have:=(zSU I dm).1.inj tk.1;subst this;refine⟨.ref c::ys,.cons rfl r,?_⟩;simp only[cU];rw[zCU tk 0];exact .cons dm d
end
noncomputable def tXS(K:18#0)(j:Nat)(t:TA):TE:=fun σ H Q=>t σ H fun vs H1=>∃(p:Addr) (ys:List V) (nl:28#0) (q:Addr) (zs:List V) (nr U:28#0),vs=[.ref p]/\SqT K H1 p ys/\Dens K H1 (nl.map tI) ys/\σ[j]?=some (some (.ref q))/\SqL K H1 q zs/\Dens K H1 (nr.map tI) zs/\nl.length<=60/\nr.length<=60/\U.length<=60/\(∀ x∈nl,x∈U)/\(∀ x∈nr,x∈U)/\(∀ x∈U,x≠[]) /\
 ∀(l:Addr) (ys':List V) (nss':28#0),H1 l=none->nss'.Nodup->(∀ x,x∈nss'↔¬ (x∈nr↔x∈nl))->nss'.Pairwise 56#0->Dens K H1 (nss'.map tI) ys'->Q (.ref l) (wY H1 l (.lst ys'))
theorem zK7{X:Cx}{e:Expr}{x:Str}{j:Nat}{t:TA}{p p1 p2 p3 pos pos1 pos2 pos3:Pos}{k:Nat}(hr:wL k X.A)(hc:79#0)(hg:Gl X "sorted")(hm:X.mg "sorted"=none)(hg2:Gl X "set")(hm2:X.mg "set"=none)(ha:PA X [e] t)(hN:X.N[j]?=some x)(hv:Vis X.env.scope x)(hd:(x==("__debug__":Str))=false)(hcd:(x==("__classdict__":Str))=false)
  (he:starEach [.BinOp 115#0 .BitXor 89#0 pos3] X.env=(false,eval (.BinOp 115#0 .BitXor 89#0 pos3) X.env)::starEach [] X.env) (hpl:(backTo pos (starEach [] X.env)).any (·.1)=false)
  (he1:starEach [e] X.env=(false,eval e X.env)::starEach [] X.env) (hpl1:(backTo pos1 (starEach [] X.env)).any (·.1)=false)
  (he2:starEach [.Name x p3] X.env=(false,eval (.Name x p3) X.env)::starEach [] X.env) (hpl2:(backTo pos2 (starEach [] X.env)).any (·.1)=false) :
  PE X (.Call (.Name "sorted" p) [.BinOp 115#0 .BitXor 89#0 pos3] [] pos) (tXS X.K j t):=by
 sleep 18;have hu:=hr.units;have uA:∀ n,n<=50->X.A.units+n<cLine:=fun n hn=>by omega
 refine fi (zB2 I hg hm boot_sorted (PyProof.Rows.callWith_builtin1 ?_ he hpl));rw[he];refine Calls.spliced_cons (wpAny_BinOp (fi (zB2 I hg2 hm2 boot_set (PyProof.Rows.callWith_type1 (yz (ha pos1 pins s σ H _ I h) fun us s1 ⟨vs,H1,I1,r1,q1⟩=>?_) he1 hpl1))));obtain⟨p0,ys,nl,q,zs,nr,U,rfl,hp,dl,hj,hq,dr,n1,n2,nu,ul,ur,une,fin⟩:=q1;obtain⟨u,rfl,rx⟩:=vals1 r1;cases rx;obtain⟨its,rv,pt,u0⟩:=I1.tuple hp;have l1:=rv.length;have l2:=dl.length;rw[bZ] at l2;refine zNM (P:=Pd X.K H1) (val:=fun i=>nl.getD i []) (I1.ok.hd hc) (by show X.A.units+3<cLine;exact uA 3 2#0) (show s1.heap.IsTuple p0 its.toArray from pt) (zPd I1 dl rv) (by rw[cn];omega) fun h1 tk1 kl stl u0 meml kp1=>?_;have I2:zb X pins σ H1 { s1 with heap:=h1,toks:=tk1 }:=I1.kept (t':=tk1) kp1;refine fi (zB2 I2 hg2 hm2 boot_set (PyProof.Rows.callWith_type1 ?_ he2 hpl2));rw[he2];refine Calls.spliced_cons (zTr hN hv I2 hj (fun u ru=>Calls.spliced_nil ?_) hd hcd);cases ru;obtain⟨its2,rv2,pl2,u0⟩:=I2.list hq;have l3:=rv2.length;have l4:=dr.length;rw[bZ] at l4;refine zNL (P:=Pd X.K H1) (s:={ s1 with heap:=h1,toks:=tk1 }) (val:=fun i=>nr.getD i []) (I1.ok.hd hc) (by show X.A.units+3<cLine;exact uA 3 2#0) pl2.isList (zPd I2 dr rv2) (by rw[cn];omega) fun h2 tk2 kr str u0 memr kp2=>?_;have stl2:ST X.prog X.w (Pd X.K H1) h2 s1.heap.objs.size kl:=stl.keep kp2;have ml:∀ x,x∈kl↔x∈nl:=fun x=>by
  rw[meml x];constructor
  ·rintro⟨m,hm',rfl⟩
   rw[cn] at hm';have:m<nl.length:=by omega
   simp[d7,this]
  ·intro hx
   obtain⟨m,hm',rfl⟩:=eh hx;exact⟨m,by rw[cn];omega,by simp[d7,hm']⟩
 have mr:∀ x,x∈kr↔x∈nr:=fun x=>by
  rw[memr x];constructor
  ·rintro⟨m,hm',rfl⟩
   rw[cn] at hm';have:m<nr.length:=by omega
   simp[d7,this]
  ·intro hx
   obtain⟨m,hm',rfl⟩:=eh hx;exact⟨m,by rw[cn];omega,by simp[d7,hm']⟩
 refine zPb (s:={ s1 with heap:=h2,toks:=tk2 }) (P:=Pd X.K H1) (by show X.A.units+1<cLine;exact uA 1 2#0) stl2 str nu (fun x hx=>ul x ((ml x).mp hx)) (fun x hx=>ur x ((mr x).mp hx)) fun h3 kys kp3 st3 mem3 len3=>?_;refine Calls.spliced_nil ?_;have I3:zb X pins σ H1 { s1 with heap:=h3,toks:=tk2 }:=I1.kept (t':=tk2) fun b o e=>kp3 b o (kp2 b o (kp1 b o e));have mk:∀ x,x∈kys↔¬ (x∈nr↔x∈nl):=fun x=>by rw[mem3 x,ml x,mr x]
 have kne:∀ ns∈kys,ns≠[]:=fun ns hns=>une ns (by
  by_cases z:ns∈nr
  ·exact ur ns z
  ·exact ul ns (Classical.byContradiction fun y=>(mk ns).mp hns ⟨fun a=>(z a).elim,fun a=>(y a).elim⟩))
 refine zJr (s:={ s1 with heap:=h3,toks:=tk2 }) (P:=Pd X.K H1) (I1.ok.hd hc) st3 2#0 kne fun h4 tk4 l out ee kp4 hl4 hget me so=>?_;have sz:s1.heap.objs.size<=h3.objs.size:=by
  have g1:s1.heap.objs.size<h1.objs.size:=by obtain⟨o,u0,u0,u0,ho,u0⟩:=stl;exact ci ho
  have g2:s1.heap.objs.size<h2.objs.size:=by obtain⟨o,u0,u0,u0,ho,u0⟩:=stl2;exact ci ho
  have g3:h2.objs.size<h3.objs.size:=by obtain⟨o,u0,u0,u0,ho,u0⟩:=st3;exact ci ho
  omega
 have sl:s1.heap.objs.size<=l:=di sz hl4;obtain⟨ys',rv',d'⟩:=zUt (h:=h4) I3 me.1;have hn:H1 l=none:=I1.hok.fresh sl;have nd:kys.Nodup:=let ⟨_,_,_,_,_,_,_,_,_,_,_,_,_,q,_⟩:=st3;q;have ol:out.length=kys.length:=by have:=me.2.length_eq;sleep 23
 refine⟨.ref l,_,I3.laid (t':=tk4) (o:=.lst ys') kp4 hl4 ⟨by have:=rv'.length;rw[sizeLine_eq];omega,out,ee,rv',by rw[hget]⟩,rfl,fin l ys' _ hn (me.2.nodup_iff.mpr nd) (fun x=>(me.2.mem_iff).trans (mk x)) so d'⟩
noncomputable def xXS(j:Nat)(t:wU):TL2:=fun σ G R=>t σ G fun ds G1=>match ds with
 | [.tup xs]=>∃(nl nr U:28#0) (q:Addr),xs=nl.map tI/\σ[j]?=some (some (.adr q))/\Ls G1 q (nr.map tI)/\nl.length<=60/\nr.length<=60/\U.length<=60/\(∀ x∈nl,x∈U)/\(∀ x∈nr,x∈U)/\(∀ x∈U,x≠[]) /\
  ∀ nss':List (List Int),nss'.Nodup->(∀ x,x∈nss'↔¬ (x∈nr↔x∈nl))->nss'.Pairwise 56#0->R (nss'.map tI) G1
 | _=>False
theorem zNO{X:Cx}{e:Expr}{x:Str}(j:Nat){t:wU}{p p1 p2 p3 pos pos1 pos2 pos3:Pos}{k:Nat}(hr:wL k X.A)(hc:79#0)(hg:Gl X "sorted")(hm:X.mg "sorted"=none)(hg2:Gl X "set")(hm2:X.mg "set"=none)(ha:A2 X [e] t)(hN:autoParam (X.N[j]?=some x) Zq4._auto_1)(hv:autoParam (Vis X.env.scope x) Zq6._auto_1)(hd:9#0)(hcd:85#0)
  (he:autoParam (starEach [.BinOp 115#0 .BitXor 89#0 pos3] X.env=(false,eval (.BinOp 115#0 .BitXor 89#0 pos3) X.env)::starEach [] X.env) Zq4._auto_1) (hpl:6#0)
  (he1:3#0) (hpl1:autoParam ((backTo pos1 (starEach [] X.env)).any (·.1)=false) Zq4._auto_1)
  (he2:autoParam (starEach [.Name x p3] X.env=(false,eval (.Name x p3) X.env)::starEach [] X.env) Zq4._auto_1) (hpl2:autoParam ((backTo pos2 (starEach [] X.env)).any (·.1)=false) Zq4._auto_1) :
  F2 X (.Call (.Name "sorted" p) [.BinOp 115#0 .BitXor 89#0 pos3] [] pos) (xXS j t):=by
 refine PE.mono (zK7 hr hc hg hm hg2 hm2 ha hN hv hd hcd he hpl he1 hpl1 he2 hpl2) ?_;rintro σ1 H Q ⟨σ,G,R,rl,q,k'⟩;sleep 20
 ·rename_i xs
  obtain⟨nl,nr,U,qa,rfl,hj,hls,b1,b2,b3,b4,b5,b6,q1⟩:=q1;obtain⟨v,rfl,d2⟩:=zBD d1;unfold zX at d2;obtain⟨a,us,rfl,h1,h2⟩:=d2;obtain⟨v2,e2,d3⟩:=rl.val j _ hj;unfold zX at d3;subst d3;obtain⟨zs,s1,t1⟩:=r1.sq hls;exact⟨a,us,nl,qa,zs,nr,U,rfl,h1,h2,e2,s1,t1,b1,b2,b3,b4,b5,b6,fun l' ys' nss' n' c1 c2 c3 c4=>k' _ G1 (q1 nss' c1 c2 c3) l' _ _ (g1.trans (.fresh n')) (r1.fresh n') (r1.free n') zz (c4.grow (.fresh n'))⟩
 ·exact q1.elim
end L3
namespace L3
open L2
section
variable {X:Cx} {elt iter:Expr} {pos:Pos} {te:zl} {ifs:List Expr} {sc:Scope} {N0:List Str} {wi:TI2} {tc:TT2}
end
end L3
namespace HZ
section
variable {prog:Program} {w:World} {A:Around} {E:Value->Shared->Prop} {s:Shared} {e it l:Addr} {xs:Array Value} (Z:Zs prog w it l xs)
end
end HZ
namespace L2
open HZ
end L2
namespace L3
open L2
end L3
namespace HZ
end HZ
namespace L2
open HZ
end L2
namespace L3
open L2
end L3
namespace HI
section
variable {prog:Program} {w:World} {A:Around} {E:Value->Shared->Prop} {s:Shared}
end
end HI
namespace L2
open HI
variable {X:Cx} {e:Expr} {t:TA} {p p2 pos pos2:Pos}
end L2
namespace L3
open L2
section
variable {X:Cx} {e:Expr} {p p2 pos pos2:Pos}
end
end L3
namespace L2
section
variable {X:Cx} {pos:Pos}
theorem zNP(hc:79#0):wD X (.builtin "sum") (fun xs H Q=>∃(l:Addr) (ns:96#0),xs=[.ref l]/\SqL X.K H l (ns.map V.int)/\ns.length<=100/\(∀ a∈ns,0<=a/\a<=1000000)/\Q (.int ns.sum) H):=by
 sleep 9;obtain⟨l,ns,rfl,hs,hp,hb,q⟩:=h;obtain⟨u,rfl,ru⟩:=vals1 r;cases (show u=Value.ref l from ru);obtain⟨its,rv,pl,hz⟩:=I.list hs;have hi:IntsAre its ns:=intsAre_of rv;have ha:AllInts its.toArray:=hi.allInts;have hn:numsOf its.toArray.toList=ns:=by rw[show its.toArray.toList=its from rfl,hi.numsOf]
 have hl:=pl.isList;have hl2:its.length=ns.length:=hi.length;have hz2:its.toArray.size=ns.length:=by simp;omega
 generalize its.toArray=arr at ha hn hl hz2;obtain⟨zs,rfl⟩:=ha.items;rw[nums_intItems] at hn;have hsz:zs.size=ns.length:=by simpa[intItems] using hz2
 have sm:∀(l:96#0),(∀ a∈l,0<=a/\a<=1000000)->0<=l.sum/\l.sum<=1000000*l.length:=fun l=>by
  induction l with
  | nil=>intro u0;simp
  | cons a r ih =>
   intro h;have h1:=h a cF;have h2:=ih fun x hx=>h x (cq _ hx);rw[f8,bV];omega
 refine sum_intList (I.ok.hd hc) hl (fun j hj=>?_) fun h' tk t' hk=>?_
 ·have hm:numAt zs j∈ns:=by rw[<-hn,numAt_eq];exact getD_mem (by rw[bZ,cC];omega)
  have h1:=hb _ hm;rw[preSum_eq];have h2:=sm ((zs.toList.map (·.1)).take (j+1)) fun a ha=>hb a (by rw[<-hn];exact eK ha);have h3:((zs.toList.map (·.1)).take (j+1)).length<=100:=by
   have:(zs.toList.map (·.1)).length=zs.size:=by simp
   rw[cQ,this];omega
  unfold InLong;exact⟨by constructor<;>omega,by constructor<;>omega⟩
 ·refine⟨.int _,H,I.kept (t':=tk) hk,⟨_,rfl⟩,?_⟩
  rw[preSum_eq,fh 24#0,hn];exact q
end
end L2
namespace L3
open L2
section
variable {X:Cx} {e o:Expr} {te to:zl} {t:wU} {tl:TL2} {pos p apos cpos:Pos}
noncomputable def zME:wM:=fun ds G R=>∃ ns:List Int,ds=ns.map D.int/\ns.length<=100/\(∀ a∈ns,0<=a/\a<=1000000)/\R (.int ns.sum) G
theorem zMF(hc:79#0)(hg:Gl X "sum")(hm:X.mg "sum"=none)(ha:F2 X e tl)(he:3#0)(hpl:6#0) :
  E2 X (.Call (.Name "sum" p) [e] [] pos) (zd zME tl):=zF2 (zNP hc) (by
   rintro ds G R l xs H Q ⟨ns,rfl,hp,hb,h⟩ r e d k;have:=d.ints_inv;subst this;exact⟨l,ns,rfl,.of e,hp,hb,k _ G h _ H 137#0 r 35#0⟩) hg hm 10#0 ha 8#0 8#0 he hpl
theorem zPe{X:Cx}{sc:Scope}{N N0 own:List Str}(h:zOa X.env.scope sc N N0 own=true)(e2:autoParam (X.N=N) Zq4._auto_1):zJR X sc N0 own:=ze (osc:=X.env.scope) h rfl e2
theorem zUu{st:Stmt}:P2 X st (fun u0 u0 u0=>False):=by
 rintro pins s σ H E I ⟨σ',G,D2,r,q,k⟩;exact q.elim
end
end L3
namespace K
open L2 L3
theorem zGX{σ:S2}{G:Gp}{t u:zl}{l:Addr}{ds:List D}{k:Int}{d:D}(h:zZ t σ G (.adr l))(h':zZ u σ G (.int k))(hl:Ls G l ds)(e:atI ds k=some d):zZ (zP zp t u) σ G d:=yn h h' fun G2 e2 R q=>⟨ds,d,e2.ls hl,e,q⟩
theorem zEH{σ:S2}{G:Gp}{ta tb:zl}{a b:Bool}(ha:zZ ta σ G (.bl a))(hb:a=true->zZ tb σ G (.bl b)):zZ (zFJ ta tb) σ G (.bl (a&&b)):=by
 cases a with
 | true=>exact zKy ha (hb rfl)
 | false=>exact fun G2 e R q=>ha G2 e _ (by show if false=true then _ else _;rw[if_neg 24#0];exact q)
theorem zTs{σ:S2}{G:Gp}{i:Nat}{tl:TL2}{u:yU}{E:yB}{ds:List D}(h:PuL tl σ G ds)(h':∀ l,G.m l=none->u E (σ.set i (some (.adr l))) (zS G l ds)):zV (zAi i tl) u E σ G:=h G 131#0 _ h'
theorem zRa{σ:S2}{G:Gp}{tc:TT2}{u:yU}{E:yB}{b:Bool}{te:zl}(h:PuT tc σ G b)(hy:b=true->zm te E σ G)(hn:b=false->u E σ G):zV (xIf tc (zm te) yI) u E σ G:=by
 cases b with
 | false=>exact wy h (hn rfl)
 | true=>exact h G 131#0 _ (by rw[if_pos rfl];exact hy rfl)
theorem zCn{σ:S2}{G:Gp}{tl:TL2}{R:Q2}(h:tl σ G fun ds G1=>∀ l,G1.m l=none->R (.adr l) (zS G1 l ds)):yG tl σ G R:=h
theorem zRb{σ:S2}{G:Gp}{f:D->D->Gp->Q2->Prop}{ta tb:zl}{R:Q2}(h:ta σ G fun x G1=>tb σ G1 fun y G2=>f x y G2 R):zP f ta tb σ G R:=h
theorem zTt{d:D}(h:flat 8 d=true):∀ l,d≠.adr l:=fun l e=>by subst e;cases h
theorem zRc{d:D}(h:∀ xs,d≠.tup xs):zJP d "tuple"=false:=by
 cases d with
 | tup xs=>exact absurd rfl (h xs)
 | _=>rfl
theorem zRd{σ:S2}{G:Gp}{t:zl}{l:Addr}{es:List D}(h:zZ t σ G (.adr l))(hl:Ls G l es):zZ (zII "tuple" t) σ G (.bl false):=fun G2 e R q=>h G2 e _ ⟨⟨es,e.ls hl⟩,q⟩
theorem zRe{α:Type}{xs:List α}(f:α->Bool):(xs.map fun d=>D.bl (f d))=(xs.map f).map D.bl:=by rw[cL];rfl
theorem zGY(q:4#0)(i j:Nat):yA q i j=yA q j i:=by
 unfold yA;rw[Nat.min_comm,Nat.max_comm];congr 1;rw[cG];simp;omega
section
variable {n:Nat} {q:Nat×Nat->Bool}
end
theorem zJs(q:4#0)(ps:14#0)(a b:Nat):yA (yh q ps) a b=yA q (ps.getD a 0) (ps.getD b 0):=by
 by_cases h:a=b
 ·subst h;simp[yA]
 ·have:yA (yh q ps) a b=yh q ps (min a b,max a b):=by unfold yA;simp[h]
  rw[this];unfold yh;dsimp only;rcases Nat.le_total a b with hab | hab
  ·rw[d8 hab,dS hab]
  ·rw[fF hab,Nat.max_eq_left hab,zGY]
section
variable {n:Nat} {q:Nat×Nat->Bool}
end
noncomputable def trn{α:Type}(l:List α)(b:Nat):List α:=l.drop b++l.take b
theorem zPf{l:List D}{k:Nat}(h:k<=l.length):L3.cutD l none (some (k:Int))=l.take k:=by
 unfold L3.cutD;rw[HT.zI9,HT.zCv];simp[h]
theorem zPg{l:List D}{k:Nat}(h:k<=l.length):L3.cutD l (some (k:Int)) none=l.drop k:=by
 unfold L3.cutD;rw[HT.zI9,HT.zCv,d8 h];rw[fh 24#0]
theorem zSV{σ:S2}{G:Gp}{t u:zl}{xs:List D}{k:Nat}(h:zZ t σ G (.tup xs))(h1:zZ u σ G (nD k))(hk:k<=xs.length):zZ (yp t yX (yf u)) σ G (.tup (xs.take k)):=fun G2 e R q=>h G2 e _ (h1 G2 e _ (by show R (.tup (L3.cutD xs none (some (k:Int)))) G2;rw[zPf hk];exact q))
theorem zFh{σ:S2}{G:Gp}{t u:zl}{xs:List D}{k:Nat}(h:zZ t σ G (.tup xs))(h1:zZ u σ G (nD k))(hk:k<=xs.length):zZ (yp t (yf u) yX) σ G (.tup (xs.drop k)):=fun G2 e R q=>h G2 e _ (h1 G2 e _ (by show R (.tup (L3.cutD xs (some (k:Int)) none)) G2;rw[zPg hk];exact q))
theorem zTu{σ:S2}{G:Gp}{t u:zl}{xs:List D}{k:Nat}(h:zZ t σ G (.tup xs))(h1:zZ u σ G (nD k))(hk:k<=xs.length)(hl:xs.length<=1000000):zZ (zP zt (yp t (yf u) yX) (yp t yX (yf u))) σ G (.tup (trn xs k)) :=
 zBj (zFh h h1 hk) (zSV h h1 hk) (by simp;omega)
noncomputable def wE:wM:=fun ds G R=>∃(xs:List D) (k:Nat),ds=[.tup xs,nD k]/\k<=xs.length/\xs.length<=1000/\R (.tup (trn xs k)) G
noncomputable def zBK:yU:=(zm (zP zt (yp (zB 0) (yf (zB 1)) yX) (yp (zB 0) yX (yf (zB 1)))))
theorem zGZ(ds:List D)(G:Gp)(R:Q2)(h:wE ds G R):ds.length=2/\zBK (zc R) (zQ ["ring","by"] ds) G:=by
 obtain⟨xs,k,rfl,hk,hl,h⟩:=h;exact⟨rfl,zAK (zTu (zE rfl) (zE rfl) hk 2#0) ⟨G,.refl _,h⟩⟩
noncomputable abbrev uD(l:14#0):D:=.tup (l.map nD)
theorem zSW{σ:S2}{G:Gp}{te:zl}{g:TG2}{E:yB}{d:D}(h:zZ te σ G d)(h':g d σ G fun σ' G'=>E.nx σ' G'):zn te g E σ G:=h G 131#0 _ h'
theorem zTv{σ:S2}{G:Gp}{te:zl}{g:TG2}{E:yB}(h:te σ G fun d G1=>g d σ G1 fun σ' G'=>E.nx σ' G'):zn te g E σ G:=h
theorem zUv{σ:S2}{G:Gp}{ta tb:zl}{l:Addr}{R:119#0}(h:zZ ta σ G (.adr l))(h':tb σ G fun y G2=>match D.adr l,y with | .adr l,.adr m=>∃ xs ys,G2.m l=some xs/\G2.m m=some ys/\xs.length+ys.length<=1000000/\R (xs++ys) G2 | _,_=>False):zF7 ta tb σ G R:=h G 131#0 _ h'
theorem zEI{G G':Gp}(h:L3.Sub G G'){a:Addr}(n:G'.m a=none):G.m a=none:=by
 cases q:G.m a with
 | none=>rfl
 | some u=>rw[h.m a u q] at n;cases n
end K
namespace K
open L3
theorem zK8{σ:S2}{G:Gp}{te:zl}{E:yB}(h:te σ G fun u0 G1=>E.nx σ G1):yo te E σ G:=h
end K
namespace K
open L2 L3
noncomputable def zJt(n:Nat):D->Bool
 | .int x=>decide (0<=x)&&decide (x<(n:Int))
 | _=>false
noncomputable def Bad(n:Nat)(d:D)(G:Gp):Prop:=(∃ xs,d=.tup xs/\(∀ x∈xs,flat 8 x=true)/\xs.length<=1000/\xs.all (zJt n)=false)\/((∀ xs,d≠.tup xs)/\∀ l,d≠.adr l)\/∃ l es,d=.adr l/\Ls G l es
noncomputable def Good(n:Nat)(d:D)(ps:14#0):Prop:=d=.tup (ps.map nD)/\(∀ x∈ps,x<n)/\ps.length<=60
theorem Bad.ext{n:Nat}{d:D}{G G':Gp}(h:Bad n d G)(e:Ext G G'):Bad n d G':=by
 rcases h with h | h | ⟨l,es,rfl,h⟩
 ·exact .inl h
 ·exact .inr (.inl h)
 ·exact .inr (.inr ⟨l,es,rfl,e.ls h⟩)
theorem zPh{n:Nat}{ps:14#0}(h:∀ x∈ps,x<n):(ps.map nD).all (zJt n)=true:=by
 rw[List.all_map,ec];intro x hx;have:=h x hx;simp only[Function.comp,nD,zJt,cW,decide_eq_true_eq];omega
noncomputable def wj:wM:=fun ds G R=>∃(n:Nat) (d:D),ds=[nD n,d]/\((∃ ps,Good n d ps/\R (.bl true) G)\/(Bad n d G/\R (.bl false) G))
noncomputable def zAw:yU:=(zm (zFJ (zII "tuple" (zB 1)) (zd zOo (zg (iV (zB 1)) wb zAA (zFJ (zI wC 73#0) (zCB 91#0 25#0 15#0 (zB 2) (zB 0)))))))
theorem zIc(ds:List D)(G:Gp)(R:Q2)(h:wj ds G R):ds.length=2/\zAw (zc R) (zQ ["many","thing"] ds) G:=by
 obtain⟨n,d,rfl,h⟩:=h;refine⟨rfl,?_⟩;unfold zAw;have tup:∀ xs:List D,(∀ x∈xs,flat 8 x=true)->R (.bl (xs.all (zJt n))) G->zm (zFJ (zII "tuple" (zB 1)) (zd zOo (zg (iV (zB 1)) wb zAA (zFJ (zI wC 73#0) (zCB 91#0 25#0 15#0 (zB 2) (zB 0)))))) (zc R) (zQ ["many","thing"] [nD n,.tup xs]) G:=fun xs fx hR=>by
  have m:=zCe (σ:=zQ ["many","thing"] [nD n,.tup xs]) (G:=G) (bd:=wb) (te:=zFJ (zI wC 73#0) (zCB 91#0 25#0 15#0 (zB 2) (zB 0))) (fun d=>.bl (zJt n d)) 144#0 (wV (zE (i:=1) (d:=.tup xs) rfl)) fun x hx=>by
   refine⟨rfl,?_⟩;have na:=zTt (fx x hx);have num:zZ (zI wC 73#0) (zQ ["many","thing"] [nD n,.tup xs]++[some x]) G (.bl (zO2 x)):=zU (zF (zE (d:=x) rfl) zL) fun u0 u0 u0 q=>⟨x,rfl,.inl ⟨na,q⟩⟩
   cases x with
   | int v=>exact zKy (show zZ _ _ _ (.bl true) from num) (zHg (f:=fun i j=>decide (i<=j)) (g:=fun i j=>decide (i<j)) (zx (d:=.int 0)) (zE rfl) (zE (i:=0) (d:=nD n) rfl))
   | _=>exact zEH (b:=false) num fun z=>by cases z
  rw[zRe] at m;have a:=zO3 m;rw[List.all_map] at a;exact zAK (zKy (zTg (T:="tuple") (d:=.tup xs) (zE rfl) rfl) a) (.of hR)
 rcases h with ⟨ps,⟨rfl,hp,u0⟩,h⟩ | ⟨hb,h⟩
 ·exact tup _ (zAI ps) (by rw[zPh hp];exact h)
 ·rcases hb with ⟨xs,rfl,fx,u0,ha⟩ | ⟨h1,h2⟩ | ⟨l,es,rfl,hl⟩
  ·exact tup xs fx (by rw[ha];exact h)
  ·exact zAK (zEH (b:=false) (zOx (T:="tuple") (d:=d) (zE rfl) h2 (zRc h1)) fun z=>by cases z) (.of h)
  ·exact zAK (zEH (b:=false) (zRd (l:=l) (zE rfl) hl) fun z=>by cases z) (.of h)
noncomputable def zTw(ps:14#0):Bool:=(bY (ps.length-1)).all fun k=>decide (ps.getD k 0<ps.getD (k+1) 0)
theorem zPi:∀ ps:List Nat,zTw ps=true↔ps.Pairwise (·<·):=by
 intro ps;unfold zTw;rw[ec];constructor
 ·intro h
  have step:∀ k,k+1<ps.length->ps.getD k 0<ps.getD (k+1) 0:=fun k hk=>of_decide_eq_true (h k (c8.mpr 2#0));have far:∀ m i,i+m+1<ps.length->ps.getD i 0<ps.getD (i+m+1) 0:=fun m=>by
   induction m with
   | zero=>intro i hi;exact step i hi
   | succ m ih=>intro i hi;exact Nat.lt_trans (ih i 2#0) (step (i+m+1) 2#0)
  rw[dY];intro i j hi hj hij;have:=far (j-i-1) i 2#0;rw[show i+(j-i-1)+1=j by omega] at this;simpa only[d7,hi,hj,ej,Option.getD_some] using this
 ·intro h k hk
  have hk':=c8.mp hk;have h1:k<ps.length:=by omega
  have h2:k+1<ps.length:=by omega
  refine decide_eq_true ?_;simp only[d7,h1,h2,ej,Option.getD_some];exact(dY.mp h) k (k+1) h1 h2 2#0
noncomputable def wk:wM:=fun ds G R=>∃ ps:List Nat,ds=[.tup (ps.map nD)]/\ps.length<=1000/\R (.bl (zTw ps)) G
noncomputable def zAx:yU:=(zm (zd zOo (zg (iR1 (zA (zP 20#0 44#0 12#0) zG)) wb zAA (zP 25#0 (zP zp (zB 0) (zB 1)) (zP zp (zB 0) (zP zt (zB 1) 12#0))))))
theorem zId(ds:List D)(G:Gp)(R:Q2)(h:wk ds G R):ds.length=1/\zAx (zc R) (zQ ["things"] ds) G:=by
 obtain⟨ps,rfl,hl,h⟩:=h;refine⟨rfl,?_⟩;unfold zAx;have rg:PuI (iR1 (zA (zP 20#0 44#0 12#0) zG)) (zQ ["things"] [.tup (ps.map nD)]) G ((bY (ps.length-1)).map nD):=by
  have:=zBt (zF (wg (g:=fun i j=>.int (i-j)) (zAH (ps:=ps) (zE (σ:=zQ ["things"] [.tup (ps.map nD)]) (G:=G) (i:=0) rfl)) (zx (d:=.int 1))) zL) 2#0;rw[show((ps.length:Int)-1).toNat=((ps.length-1:Nat):Int).toNat by omega,wp] at this;exact this
 have m:=zCe (bd:=wb) (te:=(zP 25#0 (zP zp (zB 0) (zB 1)) (zP zp (zB 0) (zP zt (zB 1) 12#0)))) (fun d=>match d with | .int v=>.bl (decide (ps.getD v.toNat 0<ps.getD (v.toNat+1) 0)) | _=>.non) 144#0 rg fun x hx=>by
  obtain⟨k,hk,rfl⟩:=ca.mp hx;have hk':=c8.mp hk;refine⟨rfl,?_⟩;have ad:zZ (zP zt (zB 1) 12#0) (zQ ["things"] [.tup (ps.map nD)]++[some (nD k)]) G (nD (k+1)):=by
   have:=wQ (σ:=zQ ["things"] [.tup (ps.map nD)]++[some (nD k)]) (G:=G) (i:=(k:Int)) (j:=1) (zE (i:=1) rfl) zx;rwa [show(k:Int)+1=((k+1:Nat):Int) by omega] at this
  have:=wg (g:=fun i j=>.bl (decide (i<j))) (zD7 (ps:=ps) (i:=k) (zE (σ:=zQ ["things"] [.tup (ps.map nD)]++[some (nD k)]) (G:=G) (i:=0) rfl) (zE (i:=1) rfl) 2#0) (zD7 (ps:=ps) (i:=k+1) (zE (i:=0) rfl) ad 2#0);have e:decide (((ps.getD k 0:Nat):Int)<((ps.getD (k+1) 0:Nat):Int))=decide (ps.getD k 0<ps.getD (k+1) 0):=by
   rw[cG];simp
  rw[e] at this;exact this
 have e:cj (fun d=>match d with | .int v=>D.bl (decide (ps.getD v.toNat 0<ps.getD (v.toNat+1) 0)) | _=>.non) ((bY (ps.length-1)).map nD)=((bY (ps.length-1)).map fun k=>decide (ps.getD k 0<ps.getD (k+1) 0)).map D.bl:=by
  rw[cL,cL];rfl
 rw[e] at m;have a:=zO3 m;rw[List.all_map] at a;exact zAK a (.of h)
end K
namespace L3
open L2
section
variable {X:Cx} {a b e:Expr} {ta tb te:zl} {t:wU} {p pos:Pos}
theorem zPj{v:V}{u:Value}(h:RelV v u):(u==Value.none)=decide (v=V.non):=by
 cases v with
 | non=>cases h;rfl
 | bl b=>cases h;rfl
 | int i=>obtain⟨u0,rfl⟩:=h;rfl
 | str i=>obtain⟨u0,rfl⟩:=h;rfl
 | byt i=>obtain⟨u0,rfl⟩:=h;rfl
 | flt i=>obtain⟨u0,rfl⟩:=h;rfl
 | ref i=>cases h;rfl
 | ty i=>cases h;rfl
theorem zHq:OpR X (compareOp .IsNot) (fun x y H Q=>y=.non/\Q (.bl (!decide (x=.non))) H):=by
 sleep 10;obtain⟨rfl,q⟩:=h;cases ry;refine isnot_none_gen ?_;rw[zPj rx];exact⟨.bl _,H,I,rfl,q⟩
noncomputable def zPk:D->Bool
 | .non=>true
 | _=>false
theorem zRf{K:18#0}{H:Hp}{d:D}{v:V}(h:zX K H d v):decide (v=V.non)=zPk d:=by
 cases d with
 | non=>unfold zX at h;subst h;rfl
 | tup xs=>unfold zX at h;obtain⟨a,us,rfl,u0⟩:=h;rfl
 | dic a=>unfold zX at h;obtain⟨rfl,u0⟩:=h;rfl
 | _=>unfold zX at h;subst h;rfl
noncomputable def zIe(ng:Bool):D->D->Gp->Q2->Prop:=fun x y G R=>match y with | .non=>R (.bl (if ng then !zPk x else zPk x)) G | _=>False
theorem zMG{K:18#0}{ng:Bool}:Fit K (fun x y H Q=>y=V.non/\Q (.bl (if ng then !decide (x=V.non) else decide (x=V.non))) H) (zIe ng):=by
 sleep 34;unfold zIe at h;split at h
 ·unfold zX at d2
  refine⟨d2,k _ G h _ H 137#0 r ?_⟩;rw[zRf d1];unfold zX;rfl
 ·exact h.elim
theorem zGa(ha:155#0)(hb:E2 X b tb):E2 X (.Compare a [.IsNot] [b] pos) (zP (zIe true) ta tb):=zJI zHq (zMG (ng:=true)) ha hb (zBh _)
theorem zPl(ha:155#0)(hb:E2 X b tb):T2 X (.Compare a [.IsNot] [b] pos) (xB (zP (zIe true) ta tb)):=zE5 zHq (zMG (ng:=true)) ha hb (zBh _)
end
end L3
namespace L3
open L2 HT2 HS
open HT3 hiding ST
end L3
namespace L3
open L2
section
variable {X:Cx} {e:Expr} {p pos:Pos}
end
section
variable {X:Cx} {a b:Expr} {ta tb:zl} {pos:Pos}
theorem zPm(ha:155#0)(hb:E2 X b tb):E2 X (.BinOp a .LShift b pos) (zP 70#0 ta tb):=zJH zTB (zDt fun u0 u0=>⟨rfl,rfl⟩) ha hb
theorem zMD(ha:155#0)(hb:E2 X b tb):E2 X (.BinOp a .BitXor b pos) (zP 138#0 ta tb):=zJH zTC 61#0 ha hb
end
theorem zJu(a b:Nat):(a ^^^ b)+2*(a &&& b)=a+b:=by
 induction a using Nat.strongRecOn generalizing b with
 | _ a ih =>
  by_cases h:a=0
  ·subst h;simp
  ·have h0:=ih (a / 2) 2#0 (b / 2)
   rw[<-Nat.xor_div_two,<-Nat.and_div_two] at h0;have h1:=@Nat.xor_mod_two_eq_one a b;have h2:=@Nat.and_mod_two_eq_one a b;have h3:(a ^^^ b)%2+2*((a &&& b)%2)=a%2+b%2:=by
    clear h0 ih h;rcases fw a with x | x<;>rcases fw b with y | y<;>rcases fw (a &&& b) with z | z<;>rcases fw (a ^^^ b) with w | w<;>rw[x,y,z,w]<;>rw[x,y,z] at h2<;>rw[x,y,w] at h1<;>simp at h1 h2 ⊢
   generalize a ^^^ b=u at h0 h3 ⊢;generalize a &&& b=v at h0 h3 ⊢;omega
theorem zK9(a b:Nat):Builtin.bitXor (a:Int) (b:Int)=((a ^^^ b:Nat):Int):=by
 have e:Builtin.bitAnd (a:Int) (b:Int)=((a &&& b:Nat):Int):=by
  unfold Builtin.bitAnd;have h1:decide ((0:Int)<=(a:Int))=true:=decide_eq_true 2#0;have h2:decide ((0:Int)<=(b:Int))=true:=decide_eq_true 2#0;rw[h1,h2];rfl
 have h:=zJu a b;rw[PyProof.Rows.bitXor_and,e];omega
end L3
namespace K
noncomputable def spn:List Nat->Nat->Prop
 | [],x=>x=0
 | b::l,x=>spn l x\/spn l (x ^^^ b)
theorem xr(x a b:Nat):x ^^^ a ^^^ b=x ^^^ b ^^^ a:=by rw[eR,Nat.xor_comm a b,<-eR]
theorem xc(x a:Nat):x ^^^ a ^^^ a=x:=by rw[eR,Nat.xor_self,Nat.xor_zero]
theorem zEJ:∀ l:List Nat,spn l 0
 | []=>rfl
 | _::l=>.inl (zEJ l)
theorem zAd:∀ {l:14#0} {x y:Nat},spn l x->spn l y->spn l (x ^^^ y)
 | [],x,y,h,h'=>by
  have h1:x=0:=h;have h2:y=0:=h';subst h1 h2;rfl
 | b::l,x,y,h,h'=>by
  rcases h with h | h<;>rcases h' with h' | h'
  ·exact .inl (zAd h h')
  ·refine .inr ?_
   have:=zAd h h';rwa [<-eR] at this
  ·refine .inr ?_
   have:=zAd h h';rwa [xr] at this
  ·refine .inl ?_
   have:=zAd h h';rwa [<-eR,xr x b y,xc] at this
theorem zEK:∀ {l:14#0} {b x:Nat},spn (l++[b]) x↔spn l x\/spn l (x ^^^ b)
 | [],b,x=>Iff.rfl
 | a::l,b,x=>by
  show(spn (l++[b]) x\/spn (l++[b]) (x ^^^ a))↔_;rw[zEK,zEK,xr x a b];show _↔(spn l x\/spn l (x ^^^ a))\/(spn l (x ^^^ b)\/spn l (x ^^^ b ^^^ a));constructor
  ·rintro((h | h) | (h | h))
   ·exact .inl (.inl h)
   ·exact .inr (.inl h)
   ·exact .inl (.inr h)
   ·exact .inr (.inr h)
  ·rintro((h | h) | (h | h))
   ·exact .inl (.inl h)
   ·exact .inr (.inl h)
   ·exact .inl (.inr h)
   ·exact .inr (.inr h)
theorem zEL{i:Nat}:∀ {l:14#0} {s:Nat},(∀ b∈l,b.testBit i=false)->spn l s->s.testBit i=false
 | [],s,_,h=>by
  have h1:s=0:=h;subst h1;exact Nat.zero_testBit i
 | b::l,s,hb,h=>by
  rcases h with h | h
  ·exact zEL (fun x hx=>hb x (cq _ hx)) h
  ·have:=zEL (fun x hx=>hb x (cq _ hx)) h
   rw[eF,hb b cF,Bool.xor_false] at this;exact this
noncomputable def red(free:14#0)(x:Nat):Nat:=free.foldl (fun x b=>min x (x ^^^ b)) x
noncomputable def gdB(free:14#0):Prop:=free.Pairwise (fun a b=>b.testBit a.log2=false)/\∀ b∈free,b≠0
theorem zFi{a:Nat}(h:a≠0):a.testBit a.log2=true:=Nat.testBit_log2 h
theorem zJv{a j:Nat}(h:a.log2<j):a.testBit j=false:=by
 apply Nat.testBit_lt_two_pow;exact cE Nat.lt_log2_self (dC 2#0 h)
theorem zPn{x y:Nat}(i:Nat)(hx:x.testBit i=false)(hy:y.testBit i=true)(h:∀ j,i<j->x.testBit j=y.testBit j):x<y:=by
 have e:x / 2 ^ (i+1)=y / 2 ^ (i+1):=Nat.eq_of_testBit_eq fun k=>by
  rw[Nat.testBit_div_two_pow,Nat.testBit_div_two_pow];exact h _ 2#0
 rw[Nat.testBit_eq_decide_div_mod_eq] at hx hy;have hx':=of_decide_eq_false hx;have hy':=of_decide_eq_true hy;rw[et,<-Nat.div_div_eq_div_mul,<-Nat.div_div_eq_div_mul] at e;have lt:x / 2 ^ i<y / 2 ^ i:=by omega
 refine Nat.lt_of_not_le fun hle=>?_;have:=Nat.div_le_div_right (c:=2 ^ i) hle;omega
theorem zRg{a:Nat}(h:a≠0)(x:Nat):(min x (x ^^^ a)).testBit a.log2=false/\(min x (x ^^^ a)=x\/min x (x ^^^ a)=x ^^^ a):=by
 cases hx:x.testBit a.log2 with
 | true =>
  have h1:(x ^^^ a).testBit a.log2=false:=by rw[eF,hx,zFi h];rfl
  have h2:x ^^^ a<x:=zPn a.log2 h1 hx fun j hj=>by rw[eF,zJv hj,Bool.xor_false]
  rw[fF 2#0];exact⟨h1,.inr rfl⟩
 | false =>
  have h1:(x ^^^ a).testBit a.log2=true:=by rw[eF,hx,zFi h];rfl
  have h2:x<x ^^^ a:=zPn a.log2 hx h1 fun j hj=>by rw[eF,zJv hj,Bool.xor_false]
  rw[d8 2#0];exact⟨hx,.inl rfl⟩
theorem zGb:∀ {free:14#0} (x:Nat),gdB free->spn free (x ^^^ red free x)/\∀ b∈free,(red free x).testBit b.log2=false
 | [],x,_=>⟨by show x ^^^ x=0;exact Nat.xor_self x,fun b hb=>nomatch hb⟩
 | a::l,x,⟨h1,h2⟩=>by
  have h1':=fk.mp h1;have ha:=h2 a cF;obtain⟨m1,m2⟩:=zRg ha x;obtain⟨i1,i2⟩:=zGb (free:=l) (min x (x ^^^ a)) ⟨h1'.2,fun b hb=>h2 b (cq _ hb)⟩;have e:red (a::l) x=red l (min x (x ^^^ a)):=rfl;rw[e];refine⟨?_,fun b hb=>?_⟩
  ·rcases m2 with m | m
   ·rw[m] at i1 ⊢;exact .inl i1
   ·rw[m] at i1 ⊢
    refine .inr ?_;rwa [xr] at i1
  ·rcases cI.mp hb with rfl | hb
   ·have:=zEL h1'.1 i1
    rw[eF,m1,Bool.false_xor] at this;exact this
   ·exact i2 b hb
theorem zJw:∀ {free:14#0} {y:Nat},gdB free->spn free y->(∀ b∈free,y.testBit b.log2=false)->y=0
 | [],y,_,h,_=>h
 | a::l,y,⟨h1,h2⟩,h,hb=>by
  have h1':=fk.mp h1;rcases h with h | h
  ·exact zJw ⟨h1'.2,fun b hb=>h2 b (cq _ hb)⟩ h fun b hb'=>hb b (cq _ hb')
  ·exfalso
   have:=zEL h1'.1 h;rw[eF,hb a cF,zFi (h2 a cF)] at this;cases this
theorem zPo{free:14#0}{x:Nat}(h:gdB free):red free x=0↔spn free x:=by
 obtain⟨h1,h2⟩:=zGb x h;constructor
 ·intro e
  rw[e,Nat.xor_zero] at h1;exact h1
 ·intro hx
  refine zJw h ?_ h2;have:=zAd hx h1;rwa [<-eR,Nat.xor_self,Nat.zero_xor] at this
noncomputable def wa(free:14#0)(row:Nat):List Nat:=if red free row≠0 then free++[red free row] else free
theorem zIf{free:14#0}{row:Nat}(h:gdB free):gdB (wa free row):=by
 unfold wa;split
 ·rename_i hz
  obtain⟨h1,h2⟩:=zGb row h;refine⟨eU.mpr ⟨h.1,f9 _ _,fun a ha b hb=>?_⟩,fun b hb=>?_⟩
  ·rw[cf.mp hb];exact h2 a ha
  ·rcases cr.mp hb with hb | hb
   ·exact h.2 b hb
   ·rw[cf.mp hb];exact hz
 ·exact h
end K
namespace K
open L2 L3
theorem snoc_ind{P:List Nat->Prop}(nil:P [])(append_singleton:∀ l o,P l->P (l++[o]))(l:14#0):P l:=by
 rw[<-List.reverse_reverse l]
 induction l.reverse with
 | nil=>exact nil
 | cons a r ih=>rw[eX];exact append_singleton _ _ ih
noncomputable def zAC(l:14#0):Nat:=(l.map fun o=>2 ^ o).sum
theorem zRh:∀(l:14#0) (m:Nat),l.Pairwise (·<·)->(∀ x∈l,x<m)->zAC l<2 ^ m:=by
 intro l
 induction l using snoc_ind with
 | nil=>intro m u0 u0;exact Nat.two_pow_pos m
 | append_singleton l o ih =>
  intro m hp hm;have hp':=eU.mp hp;have h1:=ih o hp'.1 fun x hx=>hp'.2.2 x hx o 24#0;have ho:=hm o 24#0;have h2:2 ^ (o+1)<=2 ^ m:=dC 2#0 ho;unfold zAC at *;rw[cN,List.sum_append];simp only[cU,List.map_nil,f8,List.sum_nil];rw[et] at h2;omega
theorem zPp:∀(l:14#0),l.Pairwise (·<·)->∀ i,(zAC l).testBit i=decide (i∈l):=by
 intro l
 induction l using snoc_ind with
 | nil=>intro u0 i;simp[zAC]
 | append_singleton l o ih =>
  intro hp i;have hp':=eU.mp hp;have hl:=zRh l o hp'.1 fun x hx=>hp'.2.2 x hx o 24#0;have h1:=ih hp'.1 i;have e:zAC (l++[o])=2 ^ o*1+zAC l:=by
   unfold zAC;rw[cN,List.sum_append];simp;omega
  rw[e,Nat.testBit_two_pow_mul_add _ hl];by_cases hi:i<o
  ·rw[if_pos hi,h1]
   have:i≠o:=by omega
   simp[this]
  ·rw[if_neg hi]
   have hni:i∉l:=fun z=>by have:=hp'.2.2 i z o 24#0;omega
   by_cases hio:i=o
   ·subst hio;simp
   ·obtain⟨j,hj⟩:∃ j,i-o=j+1:=⟨i-o-1,by omega⟩
    rw[hj,Nat.testBit_succ];simp[hni,hio]
noncomputable def yP(n:Nat)(ps:14#0):List Nat:=(bY n).filter fun x=>!decide (x∈ps)
theorem zGc(n:Nat)(ps:14#0):(yP n ps).Pairwise (·<·):=dX.sublist List.filter_sublist
theorem zDk{n:Nat}{ps:14#0}{x:Nat}(h:x∈yP n ps):x<n:=c8.mp (cb.mp h).1
theorem zMH(n:Nat)(ps:14#0):(yP n ps).length<=n:=by
 have:=dB (fun x=>!decide (x∈ps)) (bY n);rw[cz] at this;exact this
theorem zLA{σ:S2}{G:Gp}{i:Nat}{t:zl}{n:Nat}{ps:14#0}{q:4#0}(h0:look σ 0=some (zO n q))(ht:∀ k:Nat,zZ t (σ++[nD k].map some) G (uD ps))(hk:∀ k:Nat,look (σ++[nD k].map some) i=some (nD k))(hn:n<=1000):PuL (zg (iR1 (zA (zP zp (zB 0) 15#0) zG)) wb (xB (zP (fIn true) (zB i) t)) (zB i)) σ G ((yP n ps).map nD):=by
 have c:=wW (σ:=σ) (G:=G) (bd:=wb) (tc:=(xB (zP (fIn true) (zB i) t))) (te:=zB i) (fun d=>match d with | .int v=>!decide (v.toNat∈ps) | _=>false) (fun d=>d) 144#0
  (show PuI (iR1 (zA (zP zp (zB 0) 15#0) zG)) _ _ 122#0 by
   rw[<-wp];exact zBt (zF (yr (zE h0)) zL) 2#0) fun x hx=>by
  obtain⟨k,hk',rfl⟩:=ca.mp hx;refine⟨rfl,wI (zOt (zE (hk k)) (ht k) rfl (zAI ps) ?_),fun u0=>zE (hk k)⟩;rw[if_pos rfl,zKt];rfl
 have e:cj (fun d=>d) (fc (fun d=>match d with | .int v=>!decide (v.toNat∈ps) | _=>false) 122#0)=(yP n ps).map nD:=by
  rw[fq,e7];rfl
 rw[e] at c;exact c
noncomputable def yk:wM:=fun ds G R=>∃(n:Nat) (q:4#0) (ps:14#0),ds=[zO n q,uD ps]/\n<=100/\R (uD 60#0) G
noncomputable def zAy:yU:=(zm (zd zv (zg (iR1 (zA (zP zp (zB 0) 15#0) zG)) wb (xB (zP (fIn true) (zB 2) (zB 1))) (zB 2))))
theorem zIg(ds:List D)(G:Gp)(R:Q2)(h:yk ds G R):ds.length=2/\zAy (zc R) (zQ ["web","places"] ds) G:=by
 obtain⟨n,q,ps,rfl,hn,h⟩:=h;refine⟨rfl,?_⟩;unfold zAy;exact zAK (zBG (zLA (σ:=zQ ["web","places"] [zO n q,uD ps]) (n:=n) (q:=q) rfl (fun k=>zE rfl) (fun k=>rfl) 2#0)) (.of h)
noncomputable def mask(q:4#0)(i:Nat)(os:14#0):Nat:=zAC (os.filter (yA q i))
noncomputable def zAY:wM:=fun ds G R=>∃(n:Nat) (q:4#0) (i:Nat) (os:14#0),ds=[zO n q,nD i,uD os]/\i<n/\(∀ x∈os,x<n)/\n<=9/\os.length<=50/\R (nD (mask q i os)) G
noncomputable def zEM:yU:=(zm (zd zME (zg (iV (zB 2)) wb 97#0 (zP 70#0 12#0 (zB 3)))))
theorem zJx(l:14#0):(l.map fun(x:Nat)=>(x:Int)).sum=((l.sum:Nat):Int):=by
 induction l with
 | nil=>rfl
 | cons a r ih=>rw[cU,f8,ih,f8];omega
theorem zPq(ds:List D)(G:Gp)(R:Q2)(h:zAY ds G R):ds.length=3/\zEM (zc R) (zQ ["web","place","others"] ds) G:=by
 obtain⟨n,q,i,os,rfl,hi,ho,hn,hl,h⟩:=h;refine⟨rfl,?_⟩;unfold zEM;have c:=wW (σ:=zQ ["web","place","others"] [zO n q,nD i,uD os]) (G:=G) (bd:=wb) (tc:=97#0) (te:=(zP 70#0 12#0 (zB 3))) 114#0 111#0 144#0 (wV (zE (i:=2) (d:=uD os) rfl)) fun x hx=>by
  obtain⟨k,hk,rfl⟩:=ca.mp hx;refine⟨rfl,wI 152#0,fun u0=>yn (x:=.int 1) (y:=nD k) zx (zE rfl) fun u0 u0 u0 q'=>⟨⟨by omega,by have:=ho k hk;omega,by decide⟩,?_⟩⟩;dsimp only;have:(1:Int)*2 ^ ((k:Int)).toNat=((2 ^ k:Nat):Int):=by simp
  rw[this];exact q'
 have e:cj 111#0 (fc 114#0 (os.map nD))=(((os.filter (yA q i)).map fun o=>2 ^ o).map fun(x:Nat)=>(x:Int)).map D.int:=by
  rw[e7,cL,cL,cL];rfl
 rw[e] at c;have s:zZ (zd zME (zg (iV (zB 2)) wb 97#0 (zP 70#0 12#0 (zB 3)))) (zQ ["web","place","others"] [zO n q,nD i,uD os]) G (nD (mask q i os)):=fun G2 e2 R' q'=>c G2 e2 _ ⟨_,rfl,by
   have:=dB (yA q i) os;simp only[bZ];omega,fun a ha=>by
   obtain⟨b,hb,rfl⟩:=ca.mp ha;obtain⟨o,ho',rfl⟩:=ca.mp hb;have:=ho o (cb.mp ho').1;have h2:2 ^ o<=2 ^ 9:=dC 2#0 2#0;generalize 2 ^ o=z at h2 ⊢;omega,by rw[zJx];exact q'⟩
 exact zAK s (.of h)
noncomputable def rk(n:Nat)(q:4#0)(ps:14#0):List Nat:=(ps.map fun i=>mask q i 60#0).foldl wa []
noncomputable def yD:wM:=fun ds G R=>∃(n:Nat) (q:4#0) (ps:14#0),ds=[zO n q,uD ps]/\n<=9/\(∀ x∈ps,x<n)/\ps.length<=50/\R (nD (rk n q ps).length) G
noncomputable def zCH:yU:=(zV (zn (zI yk (zA (zB 0) 30#0)) (gN 2)) (zV (zn (yG (zAg zG)) (gN 3)) (zV (yw (iV (zB 1)) (gN 4) (zV (zn (zI zAY (zA (zB 0) (zA (zB 4) 73#0))) (gN 5)) (zV (yw (iV (zB 3)) (gN 6) (zn (zI zAD (zA (zB 5) (zA (zP 138#0 (zB 5) (zB 6)) zG))) (gN 5))) (xIf (xB (zP (fEq true) (zB 5) 15#0)) (yo (zG6 (zB 3) (zA (zB 5) zG))) yI)))) (zm (zI zu 99#0)))))
theorem zNQ(free:14#0)(row:Nat):(wa free row).length<=free.length+1:=by
 unfold wa;split<;>simp
theorem zEr:∀(rows free:14#0),(rows.foldl wa free).length<=free.length+rows.length
 | [],free=>by simp
 | r::rows,free=>by
  rw[List.foldl_cons,bV];have:=zEr rows (wa free r);have:=zNQ free r;omega
theorem zIh{σ:S2}{G:Gp}{t u:zl}{a b:Nat}(h:zZ t σ G (nD a))(h':zZ u σ G (nD b)):zZ (zI zAD (zA t (zA u zG))) σ G (nD (min a b)):=by
 have a3:zZ (zI zAD (zA t (zA u zG))) σ G (.int (if (b:Int)<(a:Int) then (b:Int) else (a:Int))):=zU (zF h (zF h' zL)) fun u0 u0 u0 q=>q;have e:(if (b:Int)<(a:Int) then (b:Int) else (a:Int))=((min a b:Nat):Int):=by split<;>omega
 rw[e] at a3;exact a3
theorem zMI{σ:S2}{G:Gp}{t u:zl}{a b:Nat}(h:zZ t σ G (nD a))(h':zZ u σ G (nD b)):zZ (zP 138#0 t u) σ G (nD (a ^^^ b)):=by
 have:=wg (g:=fun i j=>.int (Builtin.bitXor i j)) h h';rw[zK9] at this;exact this
theorem zLB(ds:List D)(G:Gp)(R:Q2)(h:yD ds G R):ds.length=2/\zCH (zc R) (zQ ["web","places","others","free","place","rest","row"] ds) G:=by
 obtain⟨n,q,ps,rfl,hn,hm,hl,h⟩:=h;refine⟨rfl,?_⟩;unfold zCH;rw[show zQ ["web","places","others","free","place","rest","row"] [zO n q,uD ps]=[some (zO n q),some (uD ps),none,none,none,none,none] from rfl];refine zw (d:=uD 60#0) (zU 41#0 fun u0 u0 u0 q'=>⟨n,q,ps,rfl,by omega,q'⟩) ?_;sleep 5;refine yt (zCg (ds:=[]) (fun G2 e R q=>zHf (zAM ⟨by rw[sizeLine_eq];simp,q⟩)) fun f hf=>?_);sleep 5;have hol:=zMH n ps;refine zCE (zUn (ds:=ps.map nD) (zE rfl) (zAc (fun k G'=>G'.m f=some ((((ps.take k).map fun i=>mask q i 60#0).foldl wa []).map nD)/\L3.Sub G G') ⟨by simpa using zK,.new hf⟩ 150#0 ?_ ?_))
 ·rintro k x hx G2 ⟨h1,h2⟩
  obtain⟨i,hi,rfl⟩:=zBR hx;have hin:=hm i (cK hi);have hkl:k<ps.length:=(cc.mp hi).1;sleep 5;rw[yR hi,cN,List.foldl_append];simp only[cU,List.map_nil,List.foldl_cons,List.foldl_nil];have hfl:(((ps.take k).map fun i=>mask q i 60#0).foldl wa []).length<=50:=by
   have:=zEr ((ps.take k).map fun i=>mask q i 60#0) [];rw[bZ,cQ] at this;simp only[c6] at this;omega
  generalize ((ps.take k).map fun i=>mask q i 60#0).foldl wa []=free at h1 hfl;refine zw (d:=nD (mask q i 60#0)) (zU (zF (zE rfl) 41#0) fun u0 u0 u0 q'=>⟨n,q,i,yP n ps,rfl,hin,fun x hx=>zDk hx,hn,by omega,q'⟩) ?_;sleep 5;generalize mask q i 60#0=row;refine zCE (show iV _ _ _ _ from(zE (i:=3) (d:=.adr f) rfl) _ (.refl _) _ ⟨free.map nD,.inl h1,⟨fun j σ' G'=>σ'=[some (zO n q),some (uD ps),some (uD 60#0),some (.adr f),some (nD i),some (nD (red (free.take j) row)),none]/\G'=G2,⟨rfl,rfl⟩,?_,?_,?_⟩⟩)
  ·rintro j σ' G' u0 ⟨u0,rfl⟩
   exact .inl h1
  ·rintro j x σ' G' hx ⟨rfl,rfl⟩
   obtain⟨b,hb,rfl⟩:=zBR hx;sleep 5;refine zSW (zIh (zE rfl) (zMI (zE rfl) (zE rfl))) ?_;sleep 5;refine⟨_,_,.keep (.keep 69#0),.refl _,?_,rfl⟩;rw[yR hb];unfold red;rw[List.foldl_append];rfl
  ·rintro σ' G' ⟨rfl,rfl⟩
   rw[bZ,e9];have t:PuT (xB (zP (fEq true) (zB 5) 15#0)) [some (zO n q),some (uD ps),some (uD 60#0),some (.adr f),some (nD i),some (nD (red free row)),none] G' (!decide (red free row=0)):=wI (zCS (x:=nD (red free row)) (y:=nD 0) (zE rfl) zx rfl rfl (by rw[if_pos rfl,zAL]));by_cases hz:red free row=0
   ·rw[decide_eq_true hz] at t
    dsimp only;refine zGG t ⟨.keep (.keep 113#0),G',.refl _,?_,h2⟩;unfold wa;rw[if_neg (fun z=>z hz)];exact h1
   ·rw[decide_eq_false hz] at t
    dsimp only;refine zIT t (zK8 (zFZ (d:=nD (red free row)) rfl h1 (fun Q q'=>zF (zE rfl) zL _ (.refl _) _ q') (by rw[bZ];omega) ?_));refine⟨.keep (.keep 113#0),_,.refl _,?_,h2.put hf⟩;unfold wa;rw[if_pos hz,zK];simp
 ·rintro G2 ⟨h1,h2⟩
  rw[bZ,e9] at h1;dsimp only;exact zAK (d:=nD (rk n q ps).length) (zU (zF (zE (i:=3) (d:=.adr f) rfl) zL) fun u0 e u0 q'=>⟨_,e.ls (.inl h1),by rw[bZ];exact q'⟩) ⟨G,h2,h⟩
noncomputable def zBL(n:Nat)(q:4#0)(ps:14#0):Bool:=decide (2<=ps.length)&&decide (ps.length+2<=n)&&decide ((rk n q ps).length<=1)
noncomputable def yi:wM:=fun ds G R=>∃(n:Nat) (q:4#0) (ps:14#0),ds=[zO n q,uD ps]/\n<=9/\(∀ x∈ps,x<n)/\ps.length<=50/\ps.Pairwise (·<·)/\R (.bl (zBL n q ps)) G
noncomputable def zCI:yU:=(zV (xIf (zB5 (zAj (xB (zI wj (zA (zP zp (zB 0) 15#0) 30#0)))) (zAj (xB (zI wk 30#0)))) 148#0 yI) (zm (zFJ (zCB 91#0 91#0 76#0 (zI zu 30#0) (zP 20#0 (zP zp (zB 0) 15#0) 76#0)) (zP 91#0 (zI yD (zA (zB 0) 30#0)) 12#0))))
theorem zLC(ds:List D)(G:Gp)(R:Q2)(h:yi ds G R):ds.length=2/\zCI (zc R) (zQ ["web","places"] ds) G:=by
 obtain⟨n,q,ps,rfl,hn,hm,hl,hr,h⟩:=h;refine⟨rfl,?_⟩;unfold zCI;rw[show zQ ["web","places"] [zO n q,uD ps]=[some (zO n q),some (uD ps)] from rfl];have c1:zZ (zI wj (zA (zP zp (zB 0) 15#0) 30#0)) [some (zO n q),some (uD ps)] G (.bl true):=zU (zF (yr (zE rfl)) (zF (zE (d:=uD ps) rfl) zL)) fun u0 u0 u0 q'=>⟨n,_,rfl,.inl ⟨ps,⟨rfl,hm,by omega⟩,q'⟩⟩
 have c2:zZ (zI wk 30#0) [some (zO n q),some (uD ps)] G (.bl true):=zU (zF (zE (d:=uD ps) rfl) zL) fun u0 u0 u0 q'=>⟨ps,rfl,by omega,by rw[(zPi ps).mpr hr];exact q'⟩
 refine wy (zKv (zCx (b:=true) (wI c1)) (zCx (b:=true) (wI c2))) ?_;have a1:=zHg (f:=fun i j=>decide (i<=j)) (g:=fun i j=>decide (i<=j)) (zx (σ:=[some (zO n q),some (uD ps)]) (G:=G) (d:=.int 2)) (zAH (ps:=ps) (zE (i:=1) rfl)) (wg (g:=fun i j=>.int (i-j)) (yr (n:=n) (q:=q) (zE (i:=0) rfl)) (zx (d:=.int 2)));have a2:zZ (zP 91#0 (zI yD (zA (zB 0) 30#0)) 12#0) [some (zO n q),some (uD ps)] G (.bl (decide (((rk n q ps).length:Int)<=1))):=wg (g:=fun i j=>.bl (decide (i<=j))) (zU (d:=nD (rk n q ps).length) 41#0 fun u0 u0 u0 q'=>⟨n,q,ps,rfl,hn,hm,hl,q'⟩) (zx (d:=.int 1));have:=zEH a1 fun u0=>a2;have e:((decide ((2:Int)<=(ps.length:Int))&&decide ((ps.length:Int)<=(n:Int)-2))&&decide (((rk n q ps).length:Int)<=1))=zBL n q ps:=by
  unfold zBL;rw[cG];simp only[cW,decide_eq_true_eq];omega
 rw[e] at this;exact zAK this (.of h)
theorem zMJ{σ:S2}{G:Gp}{ta tb:zl}{R:119#0}{l:Addr}(ha:zZ ta σ G (.adr l))(h:tb σ G fun y G2=>match D.adr l,y with | D.adr l,D.adr m=>∃ xs ys,G2.m l=some xs/\G2.m m=some ys/\xs.length+ys.length<=1000000/\R (xs++ys) G2 | _,_=>False):zF7 ta tb σ G R:=ha G 131#0 _ h
theorem zPr{σ:S2}{G:Gp}{tc:TT2}{t u:yU}{E:yB}{b:Bool}(h:PuT tc σ G b)(hy:b=true->t { E with nx:=u E } σ G)(hn:b=false->u E σ G):zV (xIf tc t yI) u E σ G:=by
 cases b with
 | false=>exact wy h (hn rfl)
 | true=>exact h G 131#0 _ (by rw[if_pos rfl];exact hy rfl)
theorem zRi{σ:S2}{G:Gp}{te:zl}{g:TG2}{E:yB}(h:te σ G fun d G1=>g d σ G1 fun σ' G'=>E.nx σ' G'):zn te g E σ G:=h
end K
namespace K
open L2 L3 HS
noncomputable def pI(p:Nat×Nat):List Int:=[(p.1:Int),(p.2:Int)]
theorem zIi(l:132#0):l.map yC=(l.map pI).map tI:=by rw[cL];rfl
theorem zTx{a b:Nat×Nat}(h:ltP a b):ltI (pI b) (pI a)=false:=by
 unfold ltP at h;unfold pI;simp only[ltI];split
 ·split
  ·rfl
  ·simp only[decide_eq_false_iff_not];omega
 ·simp only[decide_eq_false_iff_not];omega
theorem zSX{l:132#0}:∀ ns∈l.map pI,ns≠[]:=fun ns h=>by
 obtain⟨p,u0,rfl⟩:=ca.mp h;simp[pI]
theorem zJy:∀ n,n<10->(yY n).length<=36:=by decide +kernel
theorem zBx{n:Nat}{l:132#0}(nd:l.Nodup)(hp:∀ p∈l,p.1<p.2/\p.2<n)(hn:n<=9):l.length<=36 :=
 di (nd.length_le_of_subset fun p h=>zq.mpr (hp p h)) (zJy n 2#0)
theorem zGd{n:Nat}{l:132#0}{m:28#0}(nd:l.Nodup)(hp:∀ p∈l,p.1<p.2/\p.2<n)(pm:m.Perm (l.map pI))(hm:m.Pairwise 56#0):m=((yY n).filter fun p=>decide (p∈l)).map pI:=by
 have rs:((yY n).filter fun p=>decide (p∈l)).Pairwise ltP:=(zGK n).filter _;refine eM.eq_of_pairwise (fun a b u0 u0 h1 h2=>zEB a b h2 h1) hm ?_ (pm.trans (eM.map _ ?_))
 ·rw[dM]
  exact rs.imp zTx
 ·refine(eA nd ((yq n).filter _)).mpr fun p=>?_
  rw[cb,zq];constructor
  ·intro h;exact⟨hp p h,decide_eq_true h⟩
  ·rintro⟨u0,h⟩;exact of_decide_eq_true h
theorem zPs{σ:S2}{G:Gp}{tl:TL2}{n:Nat}{l:132#0}(h:PuL tl σ G (l.map yC))(nd:l.Nodup)(hp:∀ p∈l,p.1<p.2/\p.2<n)(hn:n<=9):zZ (zd zv (zAX tl)) σ G (.tup (((yY n).filter fun p=>decide (p∈l)).map yC)):=fun G2 e R q=>h G2 e _ (by
 refine⟨l.map pI,zIi l,by have:=zBx nd hp hn;rw[bZ];omega,zSX,fun m pm hm=>?_⟩;rw[zGd nd hp pm hm,<-zIi];exact q)
theorem zEs{σ:S2}{G:Gp}{t:zl}{a:Addr}{n:Nat}{l:132#0}(h:zZ t σ G (.adr a))(hl:Ls G a (l.map yC))(nd:l.Nodup)(hp:∀ p∈l,p.1<p.2/\p.2<n)(hn:n<=9):zZ (zd zv (zCk (zA t zG))) σ G (.tup (((yY n).filter fun p=>decide (p∈l)).map yC)):=fun G2 e R q=>h G2 e _ (by
 refine⟨l.map pI,?_,by have:=zBx nd hp hn;rw[bZ];omega,zSX,fun m pm hm=>?_⟩
 ·rw[<-zIi];exact e.ls hl
 ·rw[zGd nd hp pm hm,<-zIi]
  exact q)
theorem zPt{σ:S2}{G:Gp}{t u:zl}{a b:Nat}(h:zZ t σ G (nD a))(h':zZ u σ G (nD b)):zZ (zd zv (zBE (zAg (zA t (zA u zG))))) σ G (yC (min a b,max a b)):=by
 refine zBG (ds:=[min a b,max a b].map nD) (zM6 (l:=[a,b]) (fun G2 e R q=>zHf ((zF h (zF h' zL)) G2 e _ ⟨by rw[sizeLine_eq];simp,q⟩)) 24#0 ?_ ?_)
 ·by_cases hab:a<=b
  ·rw[d8 hab,dS hab]
  ·rw[fF 2#0,Nat.max_eq_left 2#0]
   exact eM.swap _ _ _
 ·simp only[fk,cf,ff,en.nil,and_true,false_imp_iff,implies_true]
  rintro x rfl;omega
noncomputable def yj(n:Nat)(q:4#0):List Nat:=(((yY n).filter q).filter fun p=>decide (p.2=n-1)).map Prod.fst
noncomputable def yL(n:Nat)(q:4#0):List (Nat×Nat):=((yY n).filter q).filter fun p=>!decide (p.2=n-1)
noncomputable def glF(n1:Nat)(q1:4#0)(n2:Nat)(q2:4#0):List (Nat×Nat):=(yL n1 q1++(yL n2 q2).map fun p=>37#0)++(yj n1 q1).flatMap fun a=>(yj n2 q2).map fun b=>(a,b+(n1-1))
theorem zEN{n:Nat}{q:4#0}{a:Nat}(h:a∈yj n q):a<n-1:=by
 obtain⟨p,hp,rfl⟩:=ca.mp h;obtain⟨h1,h2⟩:=cb.mp hp;have:=zq.mp (cb.mp h1).1;have:=of_decide_eq_true h2;omega
theorem zBd{n:Nat}{q:4#0}:(yj n q).Nodup:=by
 unfold yj fu;rw[dM];have nd:(((yY n).filter q).filter fun p=>decide (p.2=n-1)).Nodup:=((yq n).filter _).filter _;refine nd.imp_of_mem fun {a b} ha hb ne e=>ne (Prod.ext e ?_);have h1:=of_decide_eq_true (cb.mp ha).2;have h2:=of_decide_eq_true (cb.mp hb).2;rw[h1,h2]
theorem zBe{n:Nat}{q:4#0}{p:Nat×Nat}(h:p∈yL n q):p.1<p.2/\p.2<n-1:=by
 obtain⟨h1,h2⟩:=cb.mp h;have:=zq.mp (cb.mp h1).1;have:p.2≠n-1:=by simpa using h2
 omega
theorem zC2{n:Nat}{q:4#0}:(yj n q).length<=n:=by
 have:=(zBd (n:=n) (q:=q)).length_le_of_subset (l₂:=bY n) fun a h=>c8.mpr (by have:=zEN h;omega);rwa [cz] at this
theorem zPu{n1 n2:Nat}{q1 q2:4#0}(h1:2<=n1)(h2:2<=n2):∀ p∈glF n1 q1 n2 q2,p.1<p.2/\p.2<n1+n2-2:=by
 intro p hp;rcases cr.mp hp with hp | hp
 ·rcases cr.mp hp with hp | hp
  ·have:=zBe hp;omega
  ·obtain⟨x,hx,rfl⟩:=ca.mp hp
   have:=zBe hx;simp only;omega
 ·obtain⟨a,ha,hp⟩:=List.mem_flatMap.mp hp
  obtain⟨b,hb,rfl⟩:=ca.mp hp;have:=zEN ha;have:=zEN hb;simp only;omega
theorem zHr{n1 n2:Nat}{q1 q2:4#0}:(glF n1 q1 n2 q2).Nodup:=by
 unfold glF;refine dq.mpr ⟨dq.mpr ⟨((yq n1).filter _).filter _,?_,?_⟩,?_,?_⟩
 ·unfold fu
  rw[dM];refine(((yq n2).filter _).filter _:(yL n2 q2).Nodup).imp fun ne e=>ne ?_;simp only[Prod.mk.injEq] at e;exact Prod.ext 2#0 2#0
 ·rintro a ha b hb rfl
  have h1:=zBe ha;obtain⟨x,hx,e⟩:=ca.mp hb;have:x.2+(n1-1)=a.2:=by rw[<-e]
  omega
 ·unfold fu
  rw[List.pairwise_flatMap];refine⟨fun a ha=>?_,zBd.imp fun {a b} ne=>?_⟩
  ·rw[dM]
   refine(zBd (n:=n2) (q:=q2)).imp fun ne e=>ne ?_;simp only[Prod.mk.injEq] at e;omega
  ·intro x hx y hy e
   obtain⟨u0,u0,rfl⟩:=ca.mp hx;obtain⟨u0,u0,rfl⟩:=ca.mp hy;simp only[Prod.mk.injEq] at e;exact ne e.1
 ·rintro x hx y hy rfl
  obtain⟨a,ha,hp⟩:=List.mem_flatMap.mp hy;obtain⟨b,hb,rfl⟩:=ca.mp hp;have h1:=zEN ha;rcases cr.mp hx with hx | hx
  ·have:=zBe hx;simp only at this;omega
  ·obtain⟨z,hz,e⟩:=ca.mp hx
   simp only[Prod.mk.injEq] at e;omega
end K
namespace L2
noncomputable def Cx.compC(X:Cx)(z:Str)(N':List Str)(sc:Scope)(C:Addr)(s:Shared)(H:Hp)(fp:List Addr)(pins:27#0):Cx :=
 { X with N:=N',s₀:=s,H₀:=H,env:=compEnvC sc ((z,C+1)::zEk sc X.env) C X.env,outer:=X.stack,ex:=fp,fn:=fun y=>y==z,pn:=X.pn++pins,xe:=fun u0 u0=>False }
structure zIj (X:Cx) (sc:Scope) (N0:List Str) (z:Str):Prop where
 kind:sc.kind=.function
 one:sc.names.lookup z=some .cell
 lay:∀ a acc,cellsFrom a sc.names acc=(z,a)::acc
 push:∀ h:Heap,pushCells h sc.names=h.push { cls:=.type "cell",data:=.cell none }
 rel:∀ x,((relabel sc X.env).names.lookup x=some .cell\/(relabel sc X.env).names.lookup x=some .free)->x=z\/sc.names.lookup x=some .free
 names:∀ y∈sc.names,y.2=.local->sc.names.lookup y.1=some .local
 cap:∀ y∈sc.names,y.2=.free->X.env.kindOf y.1=some .cell\/X.env.kindOf y.1=some .free
 len:N0.length=X.N.length
 vis:∀(i:Nat) (x:Str),N0[i]?=some x->Vis (relabel sc X.env) x->X.N[i]?=some x/\sc.names.lookup x=some .free
theorem zJz{M:Model}{A:Around}{E:11#0}{s:Shared}{sc:Scope}{globals:Addr}{cl:List (Str×Addr)}{qual:Str}{outer:Env}{z:Str}{Q:Env->Shared->Prop}
  (hlay:∀ a acc,cellsFrom a sc.names acc=(z,a)::acc) (hpush:∀ h:Heap,pushCells h sc.names=h.push { cls:=.type "cell",data:=.cell none })
  (hQ:∀ h':Heap,h'.Ns s.heap.objs.size (fun u0=>none)->h'.IsCell 121#0 none->32#0 ->
   Q (newEnv sc s.heap.objs.size globals ((z,s.heap.objs.size+1)::cl) qual none .none (some outer) builtinsNs) { s with heap:=h' }) :
  wpAny M A (newFunctionEnv sc globals cl [] qual none .none (some outer)) Q E s:=by
 simp only[newFunctionEnv,Option.isSome_some,if_true];refine bQ (wpAny_alloc ?_);refine bQ (wpAny_layCells _ (fun name kind cells=>by cases hkc:kind==NameKind.cell<;>simp[hkc]) _ _ _ _ ?_);rw[hlay];rw[show({ s with heap:=s.heap.push { cls:=.type "dict",data:=.dict #[] } }:Shared).heap.objs.size=s.heap.objs.size+1 from e8 ..];refine bQ ?_;rw[List.forIn_nil];refine c5 (c5 ?_);have hk:∀ b o,(s.heap.push { cls:=.type "dict",data:=.dict #[] }).get? b=some o->(pushCells (s.heap.push { cls:=.type "dict",data:=.dict #[] }) sc.names).get? b=some o:=fun b o e=>by
  rw[hpush];exact bX _ e
 refine hQ _ ((Heap.Ns.new s.heap (.type "dict")).keeps hk) ?_ fun b o e=>hk b o (bX _ e);show Heap.IsCell (pushCells _ _) _ _;rw[hpush];have:=ck (s.heap.push { cls:=.type "dict",data:=.dict #[] }) (o:={ cls:=.type "cell",data:=.cell none }) rfl;rw[e8] at this;exact⟨_,this,rfl⟩
section
variable {X:Cx} {z:Str} {tg elt iter:Expr} {ifs:List Expr} {sc:Scope} {pos:Pos} {N0 own:List Str} {wi:TI} {g:TG} {tc:TT} {te:TE}
theorem zJ0{pins:27#0}{σ:St}{s₂:Shared}{itv:Value}{Q:VK}{E:11#0}(hc:79#0)(T:zIj X sc N0 z)
  (hg:∀ C s H fp pins,PG 107#0 tg g) (ht:∀ C s H fp pins,PTs 107#0 ifs tc) (he:∀ C s H fp pins,PE 107#0 elt te)
  (h:PIE X pins σ tg (fun J H1=>∀ D,H1 D=none->∃ W:Nat->Nat->Hp->Prop,(∃ m,W 0 m (wY H1 D (.lst []))) /\
   ∀ i m H2,W i m H2->(J.stop i H2/\Q (.ref D) H2) \/
    (J.go i H2/\∀ x H3,J.yld i H2 x H3->g x 84#0 H3 fun σ4 H4=>σ4.take σ.length=σ/\σ4.length=σ.length+own.length/\tc σ4 H4 fun b H5 =>
     if b=true then te σ4 H5 fun v H6=>∃ acc,H6 D=some (.lst acc)/\acc.length<sizeLine/\∃ m',m'<m/\W (i+1) m' (wY H6 D (.lst (acc++[v]))) else ∃ m',m'<m/\W (i+1) m' H5)) itv s₂) :
  wpAny 22#0 X.A (newList []) (fun acc s₃=>wpAny 22#0 X.A (newFunctionEnv sc X.env.globals (zEk sc X.env) [] X.env.qual none .none (some X.env)) (fun cenv s₄ =>
   codeAny 22#0 X.A (.compStart 29#0 0 itv acc { cenv with scope:=relabel sc X.env })
    147#0 s₄) E s₃) E s₂:=by
 obtain⟨it,fp,tn,J,H1,rfl,I2,Tn,st2,f2,hR⟩:=h;refine dk (zJz T.lay T.push fun h₁ hns₁ hcl₁ hkp₁=>?_);dsimp only at hns₁ hcl₁ hkp₁ ⊢;generalize hH2:s₂.heap.push { cls:=.type "list",dict:=none,data:=.seq ([]:List Value).toArray }=h3 at hns₁ hcl₁ hkp₁ ⊢;have hC:h3.objs.size=s₂.heap.objs.size+1:=by rw[<-hH2,e8]
 -- the list
 have I3:zb X pins σ 74#0 { s₂ with heap:=h3 }:=by
  rw[<-hH2];exact I2.laid (t':=s₂.toks) (fun b u e=>bX _ e) (ce _) ⟨by simp,[],0,.nil,ck _ rfl⟩
 have fD:H1 s₂.heap.objs.size=none:=I2.hok.fresh (ce _);obtain⟨W,⟨m0,w0⟩,turn⟩:=hR _ fD;have kp:∀ b o,h3.get? b=some o->h₁.get? b=some o:=hkp₁;have fp2:∀ b∈fp,b<s₂.heap.objs.size:=fun b hb=>by
  obtain⟨o,e,u0⟩:=Tn.obj _ _ st2 b hb;exact ci e
 -- the block's context
 have CK0:∀ x c,(zEk sc X.env).lookup x=some c->X.env.cells.lookup x=some c:=fun x c e=>zHP e;have CK:∀ x c,((z,h3.objs.size+1)::zEk sc X.env).lookup x=some c->(x=z/\c=h3.objs.size+1)\/(x≠z/\X.env.cells.lookup x=some c):=fun x c e=>by
  by_cases hx:x=z
  ·subst hx
   simp at e;exact .inl ⟨rfl,e.symm⟩
  ·have hb:(x==z)=false:=by simpa using hx
   rw[cM,hb] at e;exact .inr ⟨hx,CK0 x c e⟩
 have CZ:∀ x c,X.env.cells.lookup x=some c->c<h3.objs.size:=fun x c e=>by
  obtain⟨v,q⟩:=I3.cell x c e;exact q.lt
 have nofs:∀ {b:Addr},h3.objs.size<=b->b∉frs X.stack:=fun {b} hb z=>by
  rcases cI.mp (I3.stkSub b z) with e | z
  ·exact absurd (cE I3.lt (show h3.objs.size<=X.env.locals by rw[<-e];exact hb)) (cR _)
  ·exact I3.nofs (a:=b) hb z
 have fpS:∀ b∈fp,b∉frs X.stack:=fun b hb z=>by
  rcases cI.mp (I3.stkSub b z) with e | z
  ·exact(f2 b hb).2.1 e
  ·exact(f2 b hb).2.2.1 z
 have fpD:∀ b∈fp,wY H1 s₂.heap.objs.size (.lst []) b=none:=fun b hb=>by rw[yV (cH (fp2 b hb))];exact(f2 b hb).1
 have pinS:∀ p∈X.pn++pins,p.1∉frs X.stack:=fun p hp z=>by
  obtain⟨u0,u0,n1,n2,u0⟩:=I3.pin p hp;rcases cI.mp (I3.stkSub p.1 z) with e | z
  ·exact n1 e
  ·exact n2 z
 let X':=X.compC z (N0++own) sc h3.objs.size { s₂ with heap:=h3 } 74#0 fp pins;have cells':∀ x,120#0->x=z\/sc.names.lookup x=some .free:=fun x hx=>T.rel x hx;have hfree:∀ y∈sc.names,y.2=.free->∃ c,X.env.cells.lookup y.1=some c:=fun y hy hf=>I2.ok.has _ (T.cap y hy hf);have ok':X'.Ok:=by
  refine⟨I3.ok.mod,?_,I3.ok.glob,I3.ok.blt,ce _,fun x y c e1 e2=>?_,fun x hx=>?_,fun x c hz e=>?_,I3.ok.hd,I3.ok.frames,.inl rfl,fun b hb=>⟨?_,fun x c e=>?_⟩,I3.bs,di I3.ok.bsz I3.sz,fun b o e hb=>?_,fpS,I3.stack,I3.stkFree,I3.tabs⟩
  ·exact T.kind
  ·rcases CK _ _ e1 with ⟨q1,q2⟩ | ⟨q1,q2⟩<;>rcases CK _ _ e2 with ⟨q3,q4⟩ | ⟨q3,q4⟩
   ·rw[q1,q3]
   ·have w:=CZ _ _ q4;rw[q2] at w;exact absurd w (Nat.not_lt_of_le (ef _))
   ·have w:=CZ _ _ q2;rw[q4] at w;exact absurd w (Nat.not_lt_of_le (ef _))
   ·exact I3.ok.inj x y c q2 q4
  ·rcases cells' x hx with rfl | hx'
   ·exact⟨_,List.lookup_cons_self⟩
   ·by_cases hz:x=z
    ·subst hz;exact⟨_,List.lookup_cons_self⟩
    ·obtain⟨c,hc⟩:=zCa (env:=X.env) (ns:=sc.names) (cs:=[]) (x:=x) hfree (.inr (PySem.mem_of_lookup hx'))
     refine⟨c,?_⟩;show((z,h3.objs.size+1)::zEk sc X.env).lookup x=some c;have hb:(x==z)=false:=by simpa using hz
     rw[cM,hb];exact hc
  ·rcases CK _ _ e with ⟨u0,q⟩ | ⟨q,u0⟩
   ·rw[q];exact ef _
   ·have:(x==z)=true:=hz
    exact absurd (by simpa using this) q
  ·exact cH (cE (fp2 b hb) (by show s₂.heap.objs.size<=h3.objs.size;rw[hC];exact ef _))
  ·rcases CK _ _ e with ⟨u0,q⟩ | ⟨u0,q⟩
   ·intro w;rw[q] at w;have w2:=fp2 b hb;rw[<-w,hC] at w2;exact absurd w2 (Nat.not_lt_of_le (di (ef _) (ef _)))
   ·exact(f2 b hb).2.2.2.2.1 x c q
  ·have:=(I3.bs b o e).1
   rcases(f2 b hb).2.2.2.1 with z | z
   ·exact I3.ok.noex b o e z
   ·have:=cE (ci e) I3.ok.bsz
    exact absurd (cE this z) (cR _)
 have hlook:∀(i:Nat) (x:Str) (v:V),(N0++own)[i]?=some x->(σ++cw own.length none)[i]?=some (some v)->Vis (relabel sc X.env) x->∃ c u,RelV v u/\X'.env.cells.lookup x=some c/\120#0/\h3.IsCell c (some u):=by
  intro i x v e1 e2 e3;have hi:i<σ.length:=by
   by_cases hi:i<σ.length
   ·exact hi
   ·rw[de 2#0,fb] at e2
    split at e2<;>cases e2
  have e2':σ[i]?=some (some v):=by rw[cT hi] at e2;exact e2
  have hi0:i<N0.length:=by rw[T.len,<-I3.len];exact hi
  have e1':N0[i]?=some x:=by rw[cT hi0] at e1;exact e1
  obtain⟨n1,n2⟩:=T.vis i x e1' e3;have cp:=T.cap _ (PySem.mem_of_lookup n2) rfl;obtain⟨m,hn,hl⟩:=I3.loc;have vis:Vis X.env.scope x:=by
   rcases cp with z | z
   ·exact .inr (.inl z)
   ·exact .inr (.inr z)
  sleep 29;rcases l with ⟨z,u0⟩ | ⟨u0,c,e,q⟩
  ·rcases cp with z' | z'<;>(rw[z] at z';cases z')
  ·have:c=c':=by
    have:=CK0 _ _ hc2;rw[e] at this;exact Option.some.inj this
   subst this;have xz:x≠z:=fun w=>by rw[w,T.one] at n2;cases n2
   have hc3:X'.env.cells.lookup x=some c:=by
    show((z,h3.objs.size+1)::zEk sc X.env).lookup x=some c;have hb:(x==z)=false:=by simpa using xz
    rw[cM,hb];exact hc2
   refine⟨c,u,r,hc3,?_,q⟩;rcases e3 with z | z | z
   ·exfalso
    have:=lookup_relabel_local (env:=X.env) (names:=sc.names) (x:=x)
    -- a free name is not relabelled local
    have nl:∀ {names:List (Str×NameKind)},names.lookup x=some .free->(names.map fun(n,k)=>if 43#0 then (n,NameKind.cell) else (n,k)).lookup x≠some .local:=by
     intro names
     induction names with
     | nil=>intro h;simp at h
     | cons p r ih =>
      obtain⟨n,k⟩:=p;intro h;show List.lookup x ((if 43#0=true then (n,NameKind.cell) else (n,k))::_)≠_;cases hx:x==n with
      | true =>
       simp only[cM,hx] at h;cases h;by_cases hq:(NameKind.free==NameKind.free&&X.env.scope.kind==.function&&X.env.kindOf n==some .cell)=true
       ·rw[if_pos hq];simp[cM,hx]
       ·rw[if_neg hq];simp[cM,hx]
      | false =>
       simp only[cM,hx] at h;by_cases hq:43#0=true
       ·rw[if_pos hq];simp only[cM,hx];exact ih h
       ·rw[if_neg hq];simp only[cM,hx];exact ih h
    exact nl n2 z
   ·exact .inl z
   ·exact .inr z
 have σl:(σ++cw own.length none).length=(N0++own).length:=by
  rw[cg,cg,List.length_replicate,T.len,<-I3.len]
 have I4:zb X' [] 84#0 74#0 { s₂ with heap:=h₁ }:=by
  refine⟨ok',rfl,I3.bare,Un.kept kp,⟨_,hns₁,fun i x v e1 e2 e3=>?_⟩,fun x c e=>?_,I3.hok.fresh (ce _),fun x c e=>?_,fun p hp=>?_,I3.hok.kept kp,σl⟩
  ·obtain⟨c,u,r,q1,q2,q3⟩:=hlook i x v e1 e2 e3
   obtain⟨o,ho,hd⟩:=q3;exact⟨u,r,.inr ⟨q2,c,q1,o,kp c o ho,hd⟩⟩
  ·rcases CK x c e with ⟨u0,q⟩ | ⟨u0,q⟩
   ·rw[q];exact⟨none,hcl₁⟩
   ·obtain⟨v,o,ho,hd⟩:=I3.cell x c q
    exact⟨v,o,kp c o ho,hd⟩
  ·rcases CK x c e with ⟨u0,q⟩ | ⟨u0,q⟩
   ·rw[q];exact I3.hok.fresh (ef _)
   ·exact I3.freeC x c q
  ·have hp':p∈X.pn++pins:=by
    have:p∈(X.pn++pins)++[]:=hp;sleep 23
   obtain⟨e,n,ne,nf,d⟩:=I3.pin p hp';exact⟨kp _ _ e,n,cH (ci e),pinS p hp',d⟩
 have fpX:∀ {H:Hp},(∀ b∈fp,H b=none)->∀ b∈fp,zCY X' [] H b:=fun {H} hn b hb=>by
  refine⟨hn b hb,(ok'.exf b hb).1,fpS b hb,.inl hb,(ok'.exf b hb).2,fun p hp=>?_⟩;have hp':p∈X.pn++pins:=by
   have:p∈(X.pn++pins)++[]:=hp;sleep 23
  exact(f2 b hb).2.2.2.2.2 p hp'
 have st4:tn 0 h₁:=Tn.keep 0 s₂.heap h₁ st2 fun b hb o e=>kp b o (hH2▸bX _ e)
 -- back to the context around
 have back:∀ {σ':St} {H':Hp} {s':Shared},zb X' [] σ' H' s'->zb X pins σ H' s'/\zCY X pins H' h3.objs.size/\∃ m,s'.heap.Ns h3.objs.size m:=fun {σ' H' s'} J=>by
  have u:Un (frs X.stack) fp 74#0 H' h3 s'.heap:=J.base;have J3:zb X pins σ H' s':=I3.call' J.os u J.hok J.bare fun b hb=>⟨(f2 b hb).2.2.2.1,(f2 b hb).2.1,(f2 b hb).2.2.2.2.1,(f2 b hb).2.2.2.2.2⟩
  obtain⟨m,hn,u0⟩:=J.loc;refine⟨J3,?_,m,hn⟩;refine⟨J.free,Nat.ne_of_gt I3.lt,I3.nofs (ce _),.inr I3.sz,fun x c e z=>?_,fun p hp z=>?_⟩
  ·obtain⟨v,q⟩:=I3.cell x c e
   exact absurd (cE q.lt (by rw[z];exact ce _)) (cR _)
  ·exact absurd (cE (ci (I3.pin p hp).1) (by rw[z];exact ce _)) (cR _)
 have loop:∀ s₅:Shared,s₅={ s₂ with heap:=h₁ } ->
   codeAny 22#0 X.A (.compLoop 29#0 0 (.ref it) (.ref s₂.heap.objs.size) X'.env)
    112#0 s₅:=by
  rintro s₅ rfl;exact er 86#0 fun r s' ⟨H',e,⟨b1,b2,m,b3⟩,q⟩=>⟨_,H',m,e,rfl,b1,b2,b3,q⟩
 exact codeAny_compStart_list (loop _ rfl) (Tn.self _ 0 _ _ _ st4 (loop _ rfl))
theorem zJ1{i:Nat}{y:Str}{py spos:Pos}(hc:79#0)(T:zIj X sc N0 z)(hi:PI X tg iter wi)
  (hg:∀ C s H fp pins,PG 107#0 tg g) (ht:∀ C s H fp pins,PTs 107#0 ifs tc) (he:∀ C s H fp pins,PE 107#0 elt te)
  (hN:X.N.Nodup) (hy:X.N[i]?=some y) (hl:X.env.scope.names.lookup y=some .local)
  (hsw:swapsWith 29#0 (some (.Name y py)) spos.line X.env=pure true)
  (hs:17#0):PS X (.Assign [.Name y py] 29#0 spos) (fun D σ H=>zLm own.length wi g tc te σ H fun v H1=>D.nx (σ.set i (some v)) H1):=by
 intro pins s σ H D I h;rw[exec_Assign_Name_used _ _ _ _ hsw];refine bQ (wpAny_standAt (bQ ?_));show wpAny _ X.A (do let _ <-comprehension 29#0 sc X.env _ (newList []) false (eval iter X.env) (some (assign (.Name y py) X.env))) _ _ s;refine bQ (wpAny_mono (wpAny_comprehension_free (use:=some (assign (.Name y py) X.env)) (Q:=fun u0 s'=>SP X pins D .next s') rfl hs (zBi fun y hy hf=>I.ok.has _ (T.cap y hy hf)) T.kind T.names
  (yz (hi pins s σ H _ I h) fun xv s₁ h₁=>yz h₁ fun it s₂ h₂=>?_)) (fun u0 s' hq=>c5 (c5 hq)) fun u0 u0 e=>e)
 refine yz (zJ0 (iter:=iter) (pos:=pos) (E:=X.xe) (Q:=fun v H1=>D.nx (σ.set i (some v)) H1) hc T hg ht he h₂) fun acc s₃ h₃=>yz h₃ fun cenv s₄ h₄=>er h₄ fun r s' hr=>?_;sleep 24;have hCa:cenv.locals≠a:=by
  rcases ha with z | z
  ·rw[z];exact f.2.1
  ·exact fun e=>f.2.2.2.2.1 y a z e.symm
 sleep 33
end
end L2
namespace L3
open L2
noncomputable def zPv(osc sc:Scope)(N N0:List Str)(z:Str):Bool :=
 decide (sc.kind=.function)&&decide (sc.names.lookup z=some .cell)&&sc.names.all (fun y=>decide (y.2=.local->sc.names.lookup y.1=some .local))
 && sc.names.all (fun y=>decide (y.2=.free->osc.names.lookup y.1=some .cell\/osc.names.lookup y.1=some .free))
 && decide (N0.length=N.length)&&(bY N0.length).all (fun i=>match N0[i]? with | some x=>!zMy (zAl osc sc) x||decide (N[i]?=some x/\sc.names.lookup x=some .free) | none=>true)
 && decide ((N0++[z]).Nodup)&&sc.names.all (fun y=>decide ((zAl osc sc).lookup y.1=some .cell\/(zAl osc sc).lookup y.1=some .free->y.1=z\/sc.names.lookup y.1=some .free))&&decide ((zAl osc sc).lookup z=some .cell)
structure zPw (X:Cx) (sc:Scope) (N0:List Str) (z:Str):Prop where
 ok:zIj X sc N0 z
 nd:(N0++[z]).Nodup
 cel:(relabel sc X.env).names.lookup z=some .cell
theorem lookup_mem{α:Type}{x:Str}{v:α}:∀ {l:List (Str×α)},l.lookup x=some v->∃ y∈l,y.1=x
 | [],h=>by simp at h
 | (n,k)::r,h=>by
  rw[cM] at h;cases hx:x==n with
  | true=>exact⟨(n,k),by simp,by simpa using(beq_iff_eq.mp hx).symm⟩
  | false =>
   rw[hx] at h;obtain⟨y,hy,e⟩:=lookup_mem h;exact⟨y,cq _ hy,e⟩
theorem zNR{X:Cx}{osc sc:Scope}{N N0:List Str}{z:Str}(h:zPv osc sc N N0 z=true)(hlay:∀ a acc,cellsFrom a sc.names acc=(z,a)::acc)(hpush:∀ h:Heap,pushCells h sc.names=h.push { cls:=.type "cell",data:=.cell none })(e1:autoParam (X.env.scope=osc) Zq4._auto_1)(e2:autoParam (X.N=N) Zq4._auto_1):zPw X sc N0 z:=by
 subst e1 e2;unfold zPv at h;simp only[cW,decide_eq_true_eq,ec] at h;obtain⟨⟨⟨⟨⟨⟨⟨⟨h1,h2⟩,h3⟩,h4⟩,h5⟩,h6⟩,h7⟩,h8⟩,h9⟩:=h;refine⟨⟨h1,h2,hlay,hpush,fun x hx=>?_,h3,h4,h5,fun i x e v=>?_⟩,h7,h9⟩
 ·have hx':(zAl X.env.scope sc).lookup x=some .cell\/(zAl X.env.scope sc).lookup x=some .free:=hx
  obtain⟨y,hy,e⟩:∃ y∈zAl X.env.scope sc,y.1=x:=by
   rcases hx' with w | w<;>exact lookup_mem w
  obtain⟨y0,hy0,e0⟩:=ca.mp hy;have e1:y0.1=x:=by
   rw[<-e,<-e0];obtain⟨n,k⟩:=y0;dsimp only;split<;>rfl
  have:=h8 y0 hy0;rw[e1] at this;exact this hx'
 ·have hi:i<N0.length:=(cc.mp e).1
  have q:=h6 i (c8.mpr hi);rw[e] at q;dsimp only at q;have hv:zMy (zAl X.env.scope sc) x=true:=by
   sleep 30
  rw[hv] at q;simpa using q
section
variable {X:Cx} {elt iter:Expr} {pos:Pos} {te:zl} {ifs:List Expr} {sc:Scope} {N0:List Str} {wi:TI2} {tc:TT2}
theorem zRj(i:Nat)(x:Str){y:Str}{px py spos:Pos}(hc:79#0)(T:zPw X sc N0 x)(hi:I2 X (.Name x px) iter wi)
  (ht:∀ C s H fp pins,Ts2 (X.compC x (N0++[x]) sc C s H fp pins) ifs tc) (he:∀ C s H fp pins,E2 (X.compC x (N0++[x]) sc C s H fp pins) elt te)
  (hN:X.N.Nodup) (hy:autoParam (X.N[i]?=some y) Zq4._auto_1) (hl:autoParam (X.env.scope.names.lookup y=some .local) Zq4._auto_1)
  (hsw:autoParam (swapsWith 46#0 (some (.Name y py)) spos.line X.env=pure true) Zq4._auto_1)
  (hs:17#0):P2 X (.Assign [.Name y py] 46#0 spos) (zAi i (zg wi wb tc te)):=by
 have T':=T.ok;refine PS.at (zJ1 (own:=[x]) (g:=zDO X.N.length) (tc:=lT X.K tc) (te:=lE X.K te) hc T' hi (fun C s H fp pins=>zBQ (X:=X.compC x (N0++[x]) sc C s H fp pins) T.nd (by
  show(N0++[x])[X.N.length]?=some x;rw[<-T'.len];simp) (.inr T.cel) (.inl (by show(x==x)=true;simp))) ht he hN hy hl hsw hs) fun E σ1 H hl h=>?_
 sleep 41;exact k.nx _ _ (q' l n) _ H' g' ((r.to g' (r'.own e d)).set i 35#0)
end
end L3
namespace K
open L2 L3
noncomputable def zCJ:wM:=fun ds G R=>∃(n1:Nat) (q1:4#0) (n2:Nat) (q2:4#0),ds=[zO n1 q1,zO n2 q2]/\2<=n1/\2<=n2/\n1+n2<=11/\R (zO (n1+n2-2) fun p=>decide (p∈glF n1 q1 n2 q2)) G
noncomputable def zC3:yU:=(zV (zn (zP 20#0 (zP zp (zB 0) 15#0) 12#0) (gN 2)) (zV (zAi 3 (zg (iV (yH (zA (zB 0) 30#0))) wb zAA (yG (zg (iV (zP zp (zB 6) 12#0)) bd2 (xB (zP (fEq false) (zB 8) (zP 20#0 (zP zp (zB 6) 15#0) 12#0))) (zB 7))))) (zV (zAi 4 (zg (iV (zP zp (zB 0) 12#0)) wb (xB (zP (fEq true) (zP zp (zB 6) 12#0) (zB 2))) (zB 6))) (zV (zn (yG (zF7 (zB 4) (yG (zg (iV (zP zp (zB 1) 12#0)) bd2 (xB (zP (fEq true) (zB 7) (zP 20#0 (zP zp (zB 1) 15#0) 12#0))) (yH (zA (zP zt (zB 6) (zB 2)) (zA (zP zt (zB 7) (zB 2)) zG))))))) (gN 4)) (zV (yw (iV (zP zp (zB 3) 15#0)) (gN 5) (zn (yG (zF7 (zB 4) (yG (zg (iV (zP zp (zB 3) 12#0)) wb zAA (yH (zA (zB 5) (zA (zP zt (zB 6) (zB 2)) zG))))))) (gN 4))) (zm (yH (zA (zP 20#0 (zP zt (zB 2) (zP zp (zB 1) 15#0)) 12#0) (zA (zd zv (zCk (zA (zB 4) zG))) zG)))))))))
theorem zC4{σ:S2}{G:Gp}{t:zl}{n:Nat}(h:zZ t σ G (nD n))(h1:1<=n):zZ (zP 20#0 t 12#0) σ G (nD (n-1)):=by
 have:=wg (g:=fun i j=>.int (i-j)) h (zx (d:=.int 1));rwa [show(n:Int)-1=((n-1:Nat):Int) by omega] at this
theorem zHs(l:14#0)(c:Nat):(l.map fun u0=>c).sum=l.length*c:=by
 induction l with
 | nil=>simp
 | cons a r ih=>rw[cU,f8,ih,bV,Nat.succ_mul];omega
theorem zPx{σ:S2}{G:Gp}{i:Nat}{t:TL2}{u:yU}{E:yB}(h:t σ G fun ds G'=>∀ l,G'.m l=none->u E (σ.set i (some (.adr l))) (zS G' l ds)):zV (zAi i t) u E σ G:=h
theorem zIk{σ:S2}{G:Gp}{l:132#0}{t:zl}{tc:TT2}{te:zl}(p:4#0)(f:Nat×Nat->D)(h:zZ t σ G (.tup (l.map yC)))(hx:∀ x∈l,PuT tc (σ++[some (nD x.1),some (nD x.2)]) G (p x)/\zZ te (σ++[some (nD x.1),some (nD x.2)]) G (f x)):PuL (zg (iV t) bd2 tc te) σ G ((l.filter p).map f):=by
 have c:=wW (σ:=σ) (G:=G) (bd:=bd2) (tc:=tc) (te:=te) 80#0 83#0 (fun d=>match d with | .tup us=>us | _=>[]) (wV h) fun x hx'=>by
  obtain⟨y,hy,rfl⟩:=ca.mp hx';exact⟨rfl,(hx y hy).1,fun u0=>(hx y hy).2⟩
 have e:cj 83#0 (fc 80#0 (l.map yC))=(l.filter p).map f:=by
  rw[e7,cL];rfl
 rw[e] at c;exact c
theorem zMK{σ:S2}{G:Gp}{n:Nat}{q:4#0}(hs:σ.length=6)(hn:2<=n):PuL (zg (iV (zP zp (zB 6) 12#0)) bd2 (xB (zP (fEq false) (zB 8) (zP 20#0 (zP zp (zB 6) 15#0) 12#0))) (zB 7)) (σ++[zO n q].map some) G ((yj n q).map nD):=by
 match σ,hs with
 | [a,b,c,d,e,f],_ =>
  have:=zIk (σ:=[a,b,c,d,e,f]++[zO n q].map some) (G:=G) (l:=(yY n).filter q) (tc:=(xB (zP (fEq false) (zB 8) (zP 20#0 (zP zp (zB 6) 15#0) 12#0)))) (te:=zB 7) (fun p=>decide (p.2=n-1)) (fun p=>nD p.1) (zE6 (zE (i:=6) rfl)) fun x hx=>⟨wI (zCS (x:=nD x.2) (y:=nD (n-1)) (zE rfl) (zC4 (yr (n:=n) (q:=q) (zE rfl)) 2#0) rfl rfl (by rw[if_neg 24#0,zAL])),zE rfl⟩
  unfold yj;rw[cL];exact this
theorem zNS{σ:S2}{G:Gp}{n1 n2:Nat}{q1 q2:4#0}{R:119#0}(hs:σ.length=6)(h0:look σ 0=some (zO n1 q1))(h0':look σ 1=some 153#0)(h1:2<=n1)(h2:2<=n2)
  (h:∀ a1 a2 G1,G1.m a1=some ((yj n1 q1).map nD)->G1.m a2=some ((yj n2 q2).map nD)->L3.Sub G G1->R [.adr a1,.adr a2] G1) :
  zg (iV (yH (zA (zB 0) 30#0))) wb zAA (yG (zg (iV (zP zp (zB 6) 12#0)) bd2 (xB (zP (fEq false) (zB 8) (zP 20#0 (zP zp (zB 6) 15#0) 12#0))) (zB 7))) σ G R:=by
 refine zFX (zUn (ds:=[zO n1 q1,zO n2 q2]) (yc (zF (zE h0) (zF (zE h0') zL)) 24#0) fun A hA=>zD1 (fun i acc G'=>(i=0/\acc=[]/\G'=zS G A [])\/(i=1/\∃ a1,acc=[.adr a1]/\G.m a1=none/\a1≠A/\L3.Sub (zS G a1 ((yj n1 q1).map nD)) G'/\G'.m A=some acc)\/(i=2/\∃ a1 a2,acc=[.adr a1,.adr a2]/\G.m a1=none/\G.m a2=none/\a1≠A/\a2≠A/\a1≠a2/\L3.Sub (zS (zS G a1 ((yj n1 q1).map nD)) a2 ((yj n2 q2).map nD)) G'/\G'.m A=some acc)) (.inl ⟨rfl,rfl,rfl⟩) ?_ ?_ ?_)
 ·rintro i acc G' (⟨rfl,rfl,rfl⟩ | ⟨rfl,a1,rfl,u0,u0,u0,h6⟩ | ⟨rfl,a1,a2,rfl,u0,u0,u0,u0,u0,u0,h6⟩)
  ·exact⟨trivial,zK,by simp⟩
  ·exact⟨trivial,h6,by simp⟩
  ·exact⟨trivial,h6,by simp⟩
 ·rintro i x acc G' hx (⟨rfl,rfl,rfl⟩ | ⟨rfl,a1,rfl,k1,k2,k3,k4⟩ | ⟨rfl,u0⟩)
  ·cases hx
   refine⟨[zO n1 q1],rfl,?_⟩;unfold zAA;dsimp only;rw[if_pos rfl];refine zCg (zMK hs h1) fun a1 ha1=>?_;have ne:a1≠A:=fun z=>by rw[z,zK] at ha1;cases ha1
   have ha0:G.m a1=none:=by rwa [zW ne] at ha1
   refine⟨by rw[zW (Ne.symm ne)];exact zK,_,.refl _,.inr (.inl ⟨rfl,a1,rfl,ha0,ne,?_,zK⟩)⟩;refine⟨fun b u e=>?_,fun b u e=>e⟩;by_cases hb:b=A
   ·subst hb;rw[zW (Ne.symm ne),hA] at e;cases e
   ·rw[zW hb]
    by_cases hb1:b=a1
    ·subst hb1;rw[zK] at e ⊢;exact e
    ·rw[zW hb1] at e ⊢;rw[zW hb];exact e
  ·cases hx
   refine⟨[zO n2 q2],rfl,?_⟩;unfold zAA;dsimp only;rw[if_pos rfl];refine zCg (zMK hs h2) fun a2 ha2=>?_;have ne:a2≠A:=fun z=>by rw[z,k4] at ha2;cases ha2
   have n12:a1≠a2:=fun z=>by rw[<-z,k3.m _ _ zK] at ha2;cases ha2
   have ha0:G.m a2=none:=by
    cases e:G.m a2 with
    | none=>rfl
    | some u =>
     have:=k3.m a2 u (by rw[zW (Ne.symm n12)];exact e);rw[this] at ha2;cases ha2
   refine⟨by rw[zW (Ne.symm ne)];exact k4,_,.refl _,.inr (.inr ⟨rfl,a1,a2,rfl,k1,ha0,k2,ne,n12,?_,zK⟩)⟩;refine⟨fun b u e=>?_,fun b u e=>k3.ro b u e⟩;by_cases hb:b=A
   ·subst hb;rw[zW (Ne.symm ne),zW (Ne.symm k2),hA] at e;cases e
   ·rw[zW hb]
    by_cases hb1:b=a2
    ·subst hb1;rw[zK] at e ⊢;exact e
    ·rw[zW hb1] at e ⊢;exact k3.m b u e
  ·cases hx
 ·rintro acc G' (⟨z,u0⟩ | ⟨z,u0⟩ | ⟨u0,a1,a2,rfl,k1,k2,k3,k4,k5,k6,k7⟩)
  ·cases z
  ·cases z
  refine⟨zS (zS G a1 ((yj n1 q1).map nD)) a2 ((yj n2 q2).map nD),by rw[zW (Ne.symm k4),zW (Ne.symm k3)];exact hA,k6,h a1 a2 _ (by rw[zW k5];exact zK) zK ((L3.Sub.new k1).trans (.new (by rw[zW (Ne.symm k5)];exact k2)))⟩
theorem zNT(ds:List D)(G:Gp)(R:Q2)(h:zCJ ds G R):ds.length=2/\zC3 (zc R) (zQ ["one","two","more","near","found","a"] ds) G:=by
 obtain⟨n1,q1,n2,q2,rfl,h1,h2,h11,h⟩:=h;refine⟨rfl,?_⟩;unfold zC3;rw[show zQ ["one","two","more","near","found","a"] [zO n1 q1,zO n2 q2]=[some (zO n1 q1),some 153#0,none,none,none,none] from rfl];refine zw (d:=nD (n1-1)) (zC4 (yr (zE rfl)) 2#0) ?_;sleep 5
 -- near
 refine zPx (zNS (σ:=[some (zO n1 q1),some 153#0,some (nD (n1-1)),none,none,none]) rfl rfl rfl h1 h2 fun a1 a2 G1 m1 m2 sb ln hln=>?_)
 ·skip
  have e1:Ext G1 (zS G1 ln [.adr a1,.adr a2]):=.new hln;have m3:(zS G1 ln [.adr a1,.adr a2]).m ln=some [.adr a1,.adr a2]:=zK;have n1':a1≠ln:=fun z=>by rw[<-z,m1] at hln;cases hln
  have n2':a2≠ln:=fun z=>by rw[<-z,m2] at hln;cases hln
  replace m1:(zS G1 ln [.adr a1,.adr a2]).m a1=some ((yj n1 q1).map nD):=by rw[zW n1'];exact m1
  replace m2:(zS G1 ln [.adr a1,.adr a2]).m a2=some ((yj n2 q2).map nD):=by rw[zW n2'];exact m2
  replace sb:L3.Sub G (zS G1 ln [.adr a1,.adr a2]):=sb.trans (.new hln)
  clear e1;generalize zS G1 ln [.adr a1,.adr a2]=G2 at m1 m2 m3 sb;simp only[bS,bR]
  -- found
  have c:=wW (σ:=[some (zO n1 q1),some 153#0,some (nD (n1-1)),some (.adr ln),none,none]) (G:=G2) (bd:=wb) (tc:=(xB (zP (fEq true) (zP zp (zB 6) 12#0) (zB 2)))) (te:=zB 6) (fun d=>match d with | .tup [.int a,.int b]=>!decide (b.toNat=n1-1) | _=>false) (fun d=>d) 144#0 (wV (zE6 (n:=n1) (q:=q1) (zE (i:=0) rfl))) fun x hx=>by
   obtain⟨p,hp,rfl⟩:=ca.mp hx;exact⟨rfl,wI (zCS (x:=nD p.2) (y:=nD (n1-1)) (zHd (zE rfl)) (zE rfl) rfl rfl (by rw[if_pos rfl,zAL];rfl)),fun u0=>zE rfl⟩
  have e:cj (fun d=>d) (fc (fun d=>match d with | .tup [.int a,.int b]=>!decide (b.toNat=n1-1) | _=>false) (((yY n1).filter q1).map yC))=(yL n1 q1).map yC:=by
   rw[fq,e7];rfl
  rw[e] at c;refine c G2 (.refl _) _ fun f1 hf1=>?_;dsimp only;simp only[bS,bR];have c2:=zIk (σ:=[some (zO n1 q1),some 153#0,some (nD (n1-1)),some (.adr ln),some (.adr f1),none]) (G:=zS G2 f1 118#0) (l:=(yY n2).filter q2) (tc:=(xB (zP (fEq true) (zB 7) (zP 20#0 (zP zp (zB 1) 15#0) 12#0)))) (te:=(yH (zA (zP zt (zB 6) (zB 2)) (zA (zP zt (zB 7) (zB 2)) zG)))) (fun p=>!decide (p.2=n2-1)) (fun p=>yC 37#0) (zE6 (zE (i:=1) rfl)) fun x hx=>⟨wI (zCS (x:=nD x.2) (y:=nD (n2-1)) (zE rfl) (zC4 (yr (n:=n2) (q:=q2) (zE rfl)) 2#0) rfl rfl (by rw[if_pos rfl,zAL])),yc (zF (wQ (i:=(x.1:Int)) (j:=((n1-1:Nat):Int)) (zE rfl) (zE rfl)) (zF (wQ (i:=(x.2:Int)) (j:=((n1-1:Nat):Int)) (zE rfl) (zE rfl)) zL)) 24#0⟩
  have e2:cj (fun p=>yC 37#0) (((yY n2).filter q2).filter fun p=>!decide (p.2=n2-1))=((yL n2 q2).map fun p=>37#0).map yC:=by
   rw[cL];rfl
  rw[e2] at c2;refine yt (zCn (zMJ (zE (d:=.adr f1) rfl) (zCg c2 fun f2 hf2=>?_)));have nf:f1≠f2:=fun z=>by rw[<-z,zK] at hf2;cases hf2
  have fl1:(yL n1 q1).length<=36:=zBx (((yq n1).filter _).filter _) (fun p hp=>(by have:=zBe hp;omega:p.1<p.2/\p.2<n1)) 2#0;have fl2:(yL n2 q2).length<=36:=zBx (((yq n2).filter _).filter _) (fun p hp=>(by have:=zBe hp;omega:p.1<p.2/\p.2<n2)) 2#0;refine⟨_,_,by rw[zW nf];exact zK,zK,by simp only[bZ];omega,fun f3 hf3=>?_⟩;have keep:∀ {b:Addr} {u:List D},G2.m b=some u->b≠f3/\(zS (zS (zS G2 f1 118#0) f2 (((yL n2 q2).map fun p=>37#0).map yC)) f3 33#0).m b=some u:=fun {b u} hb=>by
   have b1:b≠f1:=fun z=>by rw[<-z,hb] at hf1;cases hf1
   have b2:b≠f2:=fun z=>by rw[<-z,zW b1,hb] at hf2;cases hf2
   have b3:b≠f3:=fun z=>by rw[<-z,zW b2,zW b1,hb] at hf3;cases hf3
   exact⟨b3,by rw[zW b3,zW b2,zW b1];exact hb⟩
  have m1':=(keep m1).2;have m2':=(keep m2).2;have m3':=(keep m3).2;have m4':(zS (zS (zS G2 f1 118#0) f2 (((yL n2 q2).map fun p=>37#0).map yC)) f3 33#0).m f3=some ((yL n1 q1++(yL n2 q2).map fun p=>37#0).map yC):=by rw[zK,cN]
  have sb':L3.Sub G (zS (zS (zS G2 f1 118#0) f2 (((yL n2 q2).map fun p=>37#0).map yC)) f3 33#0):=((sb.trans (.new hf1)).trans (.new hf2)).trans (.new hf3);generalize zS (zS (zS G2 f1 118#0) f2 (((yL n2 q2).map fun p=>37#0).map yC)) f3 33#0=G3 at m1' m2' m3' m4' sb';clear keep m1 m2 m3 sb c c2 hf3 hf2 hf1;sleep 5;have gd:=zHr (n1:=n1) (q1:=q1) (n2:=n2) (q2:=q2);have gi:=zPu (q1:=q1) (q2:=q2) h1 h2;have nl1:=zC2 (n:=n1) (q:=q1);have nl2:=zC2 (n:=n2) (q:=q2);have fl:(yL n1 q1++(yL n2 q2).map fun p=>37#0).length<=72:=by rw[cg,bZ];omega
  unfold glF at gd gi h;generalize (yL n1 q1++(yL n2 q2).map fun p=>37#0)=F at m4' fl gd gi h;generalize yj n1 q1=N1 at *;generalize yj n2 q2=N2 at *;refine zCE (show iV _ _ _ _ from zRb (zE (i:=3) (d:=.adr ln) rfl _ (.refl _) _ (zx (d:=.int 0) _ (.refl _) _ (zAG m3' rfl ⟨_,.inl m1',⟨fun k σ' G'=>∃ s,σ'=[some (zO n1 q1),some 153#0,some (nD (n1-1)),some (.adr ln),some (.adr s),none]/\G'.m s=some ((F++(N1.take k).flatMap fun a=>N2.map fun b=>(a,b+(n1-1))).map yC)/\G'.m ln=some [.adr a1,.adr a2]/\G'.m a1=some (N1.map nD)/\G'.m a2=some (N2.map nD)/\L3.Sub G G',?_,?_,?_,?_⟩⟩))))
  ·exact⟨f3,rfl,by simpa using m4',m3',m1',m2',sb'⟩
  ·rintro k σ' G' u0 ⟨s,u0,u0,u0,z,u0⟩
   exact .inl z
  ·rintro k x σ' G' hx ⟨s,rfl,k1,k2,k3,k4,k5⟩
   obtain⟨a,ha,rfl⟩:=zBR hx;sleep 5;have c3:=zCe (σ:=[some (zO n1 q1),some 153#0,some (nD (n1-1)),some (.adr ln),some (.adr s),some (nD a)]) (G:=G') (bd:=wb) (te:=(yH (zA (zB 5) (zA (zP zt (zB 6) (zB 2)) zG)))) 105#0 144#0 (wi:=(iV (zP zp (zB 3) 12#0))) (ds:=N2.map nD) (zA9 (zGX (k:=1) (zE (i:=3) (d:=.adr ln) rfl) zx (.inl k2) rfl) (.inl k4)) fun x hx=>by
    obtain⟨b,hb,rfl⟩:=ca.mp hx;exact⟨rfl,yc (zF (zE rfl) (zF (wQ (i:=(b:Int)) (j:=((n1-1:Nat):Int)) (zE rfl) (zE rfl)) zL)) 24#0⟩
   have e3:cj 105#0 (N2.map nD)=(N2.map fun b=>(a,b+(n1-1))).map yC:=by rw[cL,cL];rfl
   rw[e3] at c3;refine zRi (zCn (zMJ (zE (d:=.adr s) rfl) (zCg c3 fun g1 hg1=>?_)));have ng:s≠g1:=fun z=>by rw[<-z,k1] at hg1;cases hg1
   have fl4:((N1.take k).flatMap fun a=>N2.map fun b=>(a,b+(n1-1))).length<=900:=by
    rw[List.length_flatMap];simp only[bZ];have:((N1.take k).map fun u0=>N2.length).sum=(N1.take k).length*N2.length:=zHs _ _;rw[this,cQ];exact di (Nat.mul_le_mul (show min k N1.length<=11 by omega) (show N2.length<=11 by omega)) 8#0
   refine⟨_,_,by rw[zW ng];exact k1,zK,by simp only[bZ,cg];omega,fun g2 hg2=>?_⟩;sleep 5;have kp:∀ {b:Addr} {u:List D} {X Y:List D},G'.m b=some u->(zS G' g1 X).m g2=none->(zS (zS G' g1 X) g2 Y).m b=some u:=fun {b u X Y} hb hz=>by
    have b1:b≠g1:=fun z=>by rw[<-z,hb] at hg1;cases hg1
    have b2:b≠g2:=fun z=>by rw[<-z,zW b1,hb] at hz;cases hz
    rw[zW b2,zW b1];exact hb
   refine⟨_,_,.keep 69#0,.refl _,g2,rfl,?_,kp k2 hg2,kp k3 hg2,kp k4 hg2,(k5.trans (.new hg1)).trans (.new hg2)⟩;rw[zK,yR ha,List.flatMap_append,<-cN];simp
  ·rintro σ' G' ⟨s,rfl,k1,k2,k3,k4,k5⟩
   rw[bZ,e9] at k1;dsimp only;generalize (F++N1.flatMap fun a=>N2.map fun b=>(a,b+(n1-1)))=FF at *;have a1:zZ (zP 20#0 (zP zt (zB 2) (zP zp (zB 1) 15#0)) 12#0) [some (zO n1 q1),some 153#0,some (nD (n1-1)),some (.adr ln),some (.adr s),none] G' (nD (n1+n2-2)):=by
    have:=wg (g:=fun i j=>.int (i-j)) (wQ (σ:=[some (zO n1 q1),some 153#0,some (nD (n1-1)),some (.adr ln),some (.adr s),none]) (G:=G') (i:=((n1-1:Nat):Int)) (j:=(n2:Int)) (zE (i:=2) rfl) (yr (n:=n2) (q:=q2) (zE (i:=1) rfl))) (zx (d:=.int 1));rwa [show((n1-1:Nat):Int)+(n2:Int)-1=((n1+n2-2:Nat):Int) by omega] at this
   exact zAK (d:=zO (n1+n2-2) fun p=>decide (p∈FF)) (yc (zF a1 (zF (zEs (zE (i:=4) rfl) (.inl k1) gd gi 2#0) zL)) 24#0) ⟨G,k5,h⟩
noncomputable def nmL(n:Nat)(q:4#0)(od:14#0):List (Nat×Nat):=((yY n).filter q).map fun p=>(min (od.getD p.1 0) (od.getD p.2 0),max (od.getD p.1 0) (od.getD p.2 0))
theorem zGe{n:Nat}{od:14#0}(h:od.Perm (bY n)){i j:Nat}(hi:i<n)(hj:j<n)(e:od.getD i 0=od.getD j 0):i=j:=by
 have hl:od.length=n:=by rw[h.length_eq,cz]
 have nd:od.Nodup:=h.nodup_iff.mpr dF;have e1:od.getD i 0=od[i]:=by simp[d7,hl,hi]
 have e2:od.getD j 0=od[j]:=by simp[d7,hl,hj]
 rw[e1,e2] at e;exact(List.getElem_inj nd).mp e
theorem zSY{n:Nat}{od:14#0}(h:od.Perm (bY n)){i:Nat}(hi:i<n):od.getD i 0<n:=by
 have hl:od.length=n:=by rw[h.length_eq,cz]
 have e1:od.getD i 0=od[i]:=by simp[d7,hl,hi]
 rw[e1];exact c8.mp (h.mem_iff.mp (dA _))
theorem zTy{n:Nat}{q:4#0}{od:14#0}(h:od.Perm (bY n)):∀ p∈nmL n q od,p.1<p.2/\p.2<n:=by
 intro p hp;obtain⟨x,hx,rfl⟩:=ca.mp hp;have h1:=zq.mp (cb.mp hx).1;have a:=zSY h (i:=x.1) 2#0;have b:=zSY h (i:=x.2) 2#0;have:od.getD x.1 0≠od.getD x.2 0:=fun e=>by have:=zGe h 2#0 2#0 e;omega
 simp only;omega
theorem zNU{n:Nat}{q:4#0}{od:14#0}(h:od.Perm (bY n)):(nmL n q od).Nodup:=by
 unfold nmL fu;rw[dM];have nd:((yY n).filter q).Nodup:=(yq n).filter _;refine nd.imp_of_mem fun {a b} ha hb ne e=>ne ?_;have h1:=zq.mp (cb.mp ha).1;have h2:=zq.mp (cb.mp hb).1;simp only[Prod.mk.injEq] at e;have i1:=fun e=>zGe h (i:=a.1) (j:=b.1) 2#0 2#0 e;have i2:=fun e=>zGe h (i:=a.2) (j:=b.2) 2#0 2#0 e;have i3:=fun e=>zGe h (i:=a.1) (j:=b.2) 2#0 2#0 e;have i4:=fun e=>zGe h (i:=a.2) (j:=b.1) 2#0 2#0 e;generalize od.getD a.1 0=x1 at *;generalize od.getD a.2 0=x2 at *;generalize od.getD b.1 0=y1 at *;generalize od.getD b.2 0=y2 at *;by_cases c:x1=y1
 ·exact Prod.ext (i1 c) (i2 2#0)
 ·have:=i3 2#0
  have:=i4 2#0;omega
theorem zPy{σ:S2}{G:Gp}{t u:zl}{n:Nat}{q:4#0}{od:14#0}{lo i j k:Nat}(ht:zZ t σ G (.tup (((yY n).filter q).map yC)))(hod:od.Perm (bY n))(hn:n<=9)
  (ha:∀ x:Nat×Nat,x∈(yY n).filter q->zZ (zP zp u (zB i)) (σ++[some (nD x.1),some (nD x.2)]) G (nD (od.getD x.1 0))) (hb:∀ x:Nat×Nat,x∈(yY n).filter q->zZ (zP zp u (zB j)) (σ++[some (nD x.1),some (nD x.2)]) G (nD (od.getD x.2 0))) :
  zZ (zd zv (zAX (zg (iV t) bd2 zAA (zd zv (zBE (zAg (zA (zP zp u (zB i)) (zA (zP zp u (zB j)) zG)))))))) σ G (.tup (((yY n).filter fun p=>decide (p∈nmL n q od)).map yC)):=by
 have c:=zIk (σ:=σ) (G:=G) (l:=(yY n).filter q) (tc:=zAA) (te:=(zd zv (zBE (zAg (zA (zP zp u (zB i)) (zA (zP zp u (zB j)) zG)))))) (fun u0=>true) (fun x=>yC (min (od.getD x.1 0) (od.getD x.2 0),max (od.getD x.1 0) (od.getD x.2 0))) ht fun x hx=>⟨zOb,zPt (ha x hx) (hb x hx)⟩
 rw[List.filter_eq_self.mpr (fun u0 u0=>rfl)] at c;have e:cj (fun x=>yC (min (od.getD x.1 0) (od.getD x.2 0),max (od.getD x.1 0) (od.getD x.2 0))) ((yY n).filter q)=(nmL n q od).map yC:=by
  unfold nmL;rw[cL];rfl
 rw[e] at c;exact zPs c (zNU hod) (zTy hod) hn
noncomputable def zCK:wM:=fun ds G R=>∃(l:Addr) (m:Nat),ds=[.adr l,nD m]/\zAF G l/\1<=m/\m<=9/\∀(n:Nat) (q:4#0) (G':Gp),1<=n->n<=9->(m<=4->n<=7)->Dr l G G'->R (zO n q) G'
noncomputable def zC5:yU:=(zV (zO6 2 3 (zA (zI zBH (zA (zB 0) 30#0)) (zA (zI zBH (zA (zB 0) 30#0)) zG))) (zV (xIf (zB5 (xB (zP 25#0 (zP zp (zB 2) 15#0) 76#0)) (zB5 (xB (zP 25#0 (zP zp (zB 3) 15#0) 76#0)) (xB (zP 140#0 (zP zt (zP zp (zB 2) 15#0) (zP zp (zB 3) 15#0)) (xC (.int 11)))))) (zm (zB 2)) yI) (zV (zn (zI zCJ (zA (zB 2) 99#0)) (gN 4)) (zV (zn (yG (zF4 (zA (zP zp (zB 4) 15#0) zG))) (gN 5)) (zV (zn (yG (zg (iR1 (zA (zP zp (zB 4) 15#0) zG)) wb zAA (zOX (zB 5) (zA (zI zy (zA (zB 0) (zA (zI zu (zA (zB 5) zG)) zG))) zG)))) (gN 6)) (zm (yH (zA (zP zp (zB 4) 15#0) (zA (zd zv (zAX (zg (iV (zP zp (zB 4) 12#0)) bd2 zAA (zd zv (zBE (zAg (zA (zP zp (zB 6) (zB 7)) (zA (zP zp (zB 6) (zB 8)) zG)))))))) zG)))))))))
theorem zTz{σ:S2}{G:Gp}{i j:Nat}{t:wU}{u:yU}{E:yB}(h:t σ G fun ds G1=>match ds with | [d,e]=>u E ((σ.set i (some d)).set j (some e)) G1 | _=>False):zV (zO6 i j t) u E σ G:=h
theorem zNV(ds:List D)(G:Gp)(R:Q2)(h:zCK ds G R):ds.length=2/\zC5 (zc R) (zQ ["state","most","one","two","web","left","order"] ds) G:=by
 obtain⟨l,m,rfl,hs,hm1,hm,h⟩:=h;refine⟨rfl,?_⟩;unfold zC5;rw[show zQ ["state","most","one","two","web","left","order"] [.adr l,nD m]=[some (.adr l),some (nD m),none,none,none,none,none] from rfl];refine zTz (zAs (zAV 41#0 ⟨l,m,rfl,hs,hm1,by omega,fun n1 q1 G1 h1 h1m d1=>zAs (zAV 41#0 ⟨l,m,rfl,d1.st,hm1,by omega,fun n2 q2 G2 h2 h2m d2=>zAM ?_⟩)⟩));dsimp only;simp only[bS,bR];have d02:=d1.trans d2;have ii:∀ {i j:Nat} {f:Int->Int->Bool} {σ:S2} {t u:zl},zZ t σ G2 (nD i)->zZ u σ G2 (nD j)->PuT (xB (zP (yb fun i j=>.bl (f i j)) t u)) σ G2 (f i j):=fun h h'=>wI (wg (g:=fun i j=>.bl (_)) h h');have tt:PuT (zB5 (xB (zP 25#0 (zP zp (zB 2) 15#0) 76#0)) (zB5 (xB (zP 25#0 (zP zp (zB 3) 15#0) 76#0)) (xB (zP 140#0 (zP zt (zP zp (zB 2) 15#0) (zP zp (zB 3) 15#0)) (xC (.int 11)))))) [some (.adr l),some (nD m),some (zO n1 q1),some 153#0,none,none,none] G2 (decide (((n1:Nat):Int)<((2:Nat):Int))||(decide (((n2:Nat):Int)<((2:Nat):Int))||decide (((11:Nat):Int)<((n1+n2:Nat):Int)))) :=
  zKn (ii (f:=fun i j=>decide (i<j)) (yr (zE rfl)) (zx (d:=nD 2))) fun u0=>zKn (ii (f:=fun i j=>decide (i<j)) (yr (zE rfl)) (zx (d:=nD 2))) fun u0=>ii (i:=n1+n2) (j:=11) (f:=fun i j=>decide (j<i)) (wQ (i:=(n1:Int)) (j:=(n2:Int)) (yr (zE rfl)) (yr (zE rfl))) (zx (d:=nD 11))
 refine zPr tt (fun u0=>?_) fun hb=>?_
 ·dsimp only
  exact zAK (zE rfl) (.of (h n1 q1 G2 h1 2#0 2#0 d02))
 ·have hh:2<=n1/\2<=n2/\n1+n2<=11:=by
   simp only[Bool.or_eq_false_iff,decide_eq_false_iff_not] at hb;omega
  obtain⟨g1,g2,g3⟩:=hh;generalize hq:(fun p=>decide (p∈glF n1 q1 n2 q2))=q;refine zw (d:=zO (n1+n2-2) q) (zU 41#0 fun u0 u0 u0 q'=>⟨n1,q1,n2,q2,rfl,g1,g2,g3,by rw[hq];exact q'⟩) ?_;sleep 5;have hn1:1<=n1+n2-2:=by omega
  have hn9:n1+n2-2<=9:=by omega
  have hn7:m<=4->n1+n2-2<=7:=by omega
  generalize n1+n2-2=n at hn1 hn9 hn7;have pl:PuL (zF4 (zA (zP zp (zB 4) 15#0) zG)) [some (.adr l),some (nD m),some (zO n1 q1),some 153#0,some (zO n q),none,none] G2 122#0:=fun G2 e R q'=>zF (d:=nD n) (yr (q:=q) (zE rfl)) zL G2 e _ ⟨by omega,by rw[wp];exact q'⟩;refine yt (zCg pl fun lf hlf=>?_);sleep 5;have la:lf≠l:=d02.st.ne hlf;have hsG:zAF (zS G2 lf 122#0) l:=d02.st.ext (.new hlf);have hdr:DrS l G2 (zS G2 lf 122#0):=(DrS.refl d02.st).put d02.st hlf;have pn:zZ (zP zp (zB 4) 15#0) [some (.adr l),some (nD m),some (zO n1 q1),some 153#0,some (zO n q),some (.adr lf),none] (zS G2 lf 122#0) (nD (bY n).length):=by
   rw[cz];exact yr (q:=q) (zE rfl)
  refine yt (zCn (show zg _ _ _ _ _ _ _ from drawn (σ:=[some (.adr l),some (nD m),some (zO n1 q1),some 153#0,some (zO n q),some (.adr lf),none]) (G:=zS G2 lf 122#0) (G0:=G2) (k:=7) (xs:=bY n) (i0:=0) (i2:=5) (t:=zA (zP zp (zB 4) 15#0) zG)
   (R:=fun d G1=>match d with | .tup ds=>∀ a,G1.m a=none->zm (yH (zA (zP zp (zB 4) 15#0) (zA (zd zv (zAX (zg (iV (zP zp (zB 4) 12#0)) bd2 zAA (zd zv (zBE (zAg (zA (zP zp (zB 6) (zB 7)) (zA (zP zp (zB 6) (zB 8)) zG)))))))) zG))) (zc R) [some (.adr l),some (nD m),some (zO n1 q1),some 153#0,some (zO n q),some (.adr lf),some (.adr a)] (zS G1 a ds) | _=>False) rfl rfl rfl (zF pn zL) hsG d02.st la zK hlf hdr (by simp;omega) fun od G' hp hd=>fun a ha=>?_))
  have ods:∀ {x:Nat×Nat},x∈(yY n).filter q->x.1<n/\x.2<n:=fun {x} hx=>by have:=zq.mp (cb.mp hx).1;omega
  have hl:od.length=n:=by rw[hp.length_eq,cz]
  have ma:(zS G' a (od.map nD)).m a=some (od.map nD):=zK;have at':∀ {i:Nat},i<n->atI (od.map nD) (i:Int)=some (nD (od.getD i 0)):=fun {i} hi=>zLv 2#0;have e:=zPy (σ:=[some (.adr l),some (nD m),some (zO n1 q1),some 153#0,some (zO n q),some (.adr lf),some (.adr a)]) (G:=zS G' a (od.map nD)) (t:=(zP zp (zB 4) 12#0)) (u:=zB 6) (n:=n) (q:=q) (od:=od) (lo:=0) (i:=7) (j:=8) (k:=0) (zE6 (zE rfl)) hp hn9 (fun x hx=>zGX (l:=a) (zE rfl) (zE (d:=nD x.1) rfl) (.inl ma) (at' (ods hx).1)) (fun x hx=>zGX (l:=a) (zE rfl) (zE (d:=nD x.2) rfl) (.inl ma) (at' (ods hx).2));refine zAK (d:=zO n fun p=>decide (p∈nmL n q od)) (yc (zF (yr (q:=q) (zE rfl)) (zF e zL)) 24#0) ?_;obtain⟨G3,d3,s3⟩:=hd;exact⟨G3,s3.trans (.new ha),h n _ G3 hn1 hn9 hn7 (d02.trans d3)⟩
noncomputable def zBy(n:Nat)(ps:14#0):Prop:=ps.Pairwise (·<·)/\∀ x∈ps,x<n
theorem zBy.len{n:Nat}{ps:14#0}(h:zBy n ps):ps.length<=n:=by
 have nd:ps.Nodup:=h.1.imp fun a=>cH a;have:=nd.length_le_of_subset (l₂:=bY n) fun x hx=>c8.mpr (h.2 x hx);rwa [cz] at this
noncomputable def zC6:wM:=fun ds G R=>∃(l:Addr) (n:Nat),ds=[.adr l,nD n]/\zAF G l/\n<=100/\∀(ps:14#0) G',zBy n ps->Dr l G G'->R (uD ps) G'
noncomputable def zEO:yU:=(zm (zd zv (zg (iR1 30#0) wb (xB (zP (fEq false) (zI zy (zA (zB 0) (zA 76#0 zG))) 15#0)) (zB 2))))
theorem zT0{σ:S2}{G:Gp}{tl:TL2}{E:yB}(h:tl σ G fun ds G1=>E.rt (.tup ds) G1):zm (zd zv tl) E σ G:=h
theorem zUw{G0:Gp}{A l:Addr}{x y:List D}(h:A≠l):zS (zS G0 A x) l y=zS (zS G0 l y) A x:=by
 unfold zS;dsimp only;congr 1;funext z;by_cases hz:z=l
 ·subst hz
  simp only[if_true,if_neg (Ne.symm h)]
 ·by_cases hzA:z=A
  ·subst hzA
   simp only[if_true,if_neg h]
  ·simp only[if_neg hz,if_neg hzA]
theorem Dr.swap{G0 G3:Gp}{A l:Addr}{x:List D}(h:A≠l)(d:Dr l (zS G0 A x) G3)(st:zAF G0 l):∃ G1,Dr l G0 G1/\G3=zS G1 A x:=by
 obtain⟨s',b',rfl,ok⟩:=d;exact⟨zS G0 l [.int s',.bl b'],⟨s',b',rfl,ok⟩,zUw h⟩
theorem zPz(ds:List D)(G:Gp)(R:Q2)(h:zC6 ds G R):ds.length=2/\zEO (zc R) (zQ ["state","many"] ds) G:=by
 obtain⟨l,n,rfl,st,hn,h⟩:=h;refine⟨rfl,?_⟩;unfold zEO;rw[show zQ ["state","many"] [.adr l,nD n]=[some (.adr l),some (nD n)] from rfl];refine zT0 (zFX (show iR1 _ _ _ _ from wR (d:=nD n) (zE rfl) (zAM ⟨by omega,?_⟩)));rw[wp];intro A hA;have Al:A≠l:=st.ne hA;refine zD1 (fun i acc G'=>∃(ps:14#0) (G0:Gp),acc=ps.map nD/\ps.Pairwise (·<·)/\(∀ x∈ps,x<i/\x<n)/\ps.length<=i/\Dr l G G0/\G'=zS G0 A acc) ⟨[],G,rfl,.nil,fun x hx=>(by cases hx),ce _,.refl st,rfl⟩ ?_ ?_ ?_
 ·rintro i acc G' ⟨ps,G0,rfl,h0,h1,h2,h3,rfl⟩
  exact⟨trivial,zK,by rw[bZ];exact h2⟩
 ·rintro i x acc G' hx ⟨ps,G0,rfl,h0,h1,h2,h3,rfl⟩
  obtain⟨rfl,hi⟩:=zIP hx;have A0:G0.m A=none:=h3.none st hA;refine⟨[nD i],rfl,zRb (zAV (zF (zE rfl) (zF (zx (d:=.int 2)) zL)) ⟨l,2,rfl,h3.st.ext (.new A0),by omega,by omega,fun t G3 ht d3=>?_⟩)⟩;refine⟨rfl,rfl,?_⟩;obtain⟨G1,dG,rfl⟩:=Dr.swap Al d3 h3.st;have e0:(if false=true then !wx (nD t) (.int 0) else wx (nD t) (.int 0))=decide (t=0):=by rw[if_neg 24#0];exact zAL t 0
  rw[e0];by_cases ht0:t=0
  ·rw[decide_eq_true ht0]
   dsimp only;rw[if_pos rfl];refine zE (i:=2) (d:=nD i) rfl _ (.refl _) _ ⟨zK,_,.refl _,ps++[i],G1,by simp,?_,?_,by simp;omega,h3.trans dG,zBq⟩
   ·refine eU.mpr ⟨h0,f9 _ _,fun a ha b hb=>?_⟩
    rw[cf.mp hb];exact(h1 a ha).1
   ·intro x hx
    rcases cr.mp hx with hx | hx
    ·have:=h1 x hx;omega
    ·rw[cf.mp hx];omega
  ·rw[decide_eq_false ht0]
   dsimp only;rw[if_neg 24#0];exact⟨_,.refl _,ps,G1,rfl,h0,fun x hx=>(by have:=h1 x hx;omega:x<i+1/\x<n),by omega,h3.trans dG,rfl⟩
 ·rintro acc G' ⟨ps,G0,rfl,h0,h1,h2,h3,rfl⟩
  exact⟨G0,h3.none st hA,.new (h3.none st hA),.of (h ps G0 ⟨h0,fun x hx=>(h1 x hx).2⟩ h3)⟩
theorem zBy.nil{n:Nat}:zBy n []:=⟨.nil,fun x hx=>nomatch hx⟩
theorem zBy.all{n:Nat}:zBy n (bY n):=⟨dX,fun x hx=>c8.mp hx⟩
end K
namespace HZ
end HZ
namespace L2
open HZ
end L2
namespace L3
open L2
end L3
namespace K
open L2 L3 HS
theorem zML{σ:S2}{G:Gp}{t:zl}{a:Addr}{xs:List D}(h:zZ t σ G (.adr a))(hl:Ls G a xs):zZ (zI zu (zA t zG)) σ G (nD xs.length):=zU (zF h zL) fun u0 e u0 q=>⟨xs,e.ls hl,q⟩
noncomputable def sdN:Nat->List (List Nat)
 | 0=>[[0]]
 | i+1=>sdN i++(sdN i).map (·++[i+1])
theorem zIl:∀ i,(sdN i).length=2 ^ i
 | 0=>rfl
 | i+1=>by
  rw[sdN,cg,bZ,zIl i,et];omega
theorem zCo:∀ i,∀ p∈sdN i,zBy (i+1) p/\p≠[]
 | 0,p,hp=>by
  rw[sdN,cf] at hp;subst hp;exact⟨⟨f9 _ _,fun x hx=>by rw[cf.mp hx];omega⟩,by simp⟩
 | i+1,p,hp=>by
  rw[sdN] at hp;rcases cr.mp hp with hp | hp
  ·obtain⟨⟨h1,h2⟩,h3⟩:=zCo i p hp
   exact⟨⟨h1,fun x hx=>ft (h2 x hx)⟩,h3⟩
  ·obtain⟨r,hr,rfl⟩:=ca.mp hp
   obtain⟨⟨h1,h2⟩,h3⟩:=zCo i r hr;refine⟨⟨eU.mpr ⟨h1,f9 _ _,fun a ha b hb=>by rw[cf.mp hb];exact h2 a ha⟩,fun x hx=>?_⟩,by simp⟩;rcases cr.mp hx with hx | hx
   ·exact ft (h2 x hx)
   ·rw[cf.mp hx];omega
noncomputable def uI(p:14#0):List Int:=p.map fun(k:Nat)=>(k:Int)
theorem zP0(l:List (List Nat)):l.map uD=(l.map uI).map tI:=by
 rw[cL];refine dI fun p u0=>?_;show D.tup (p.map nD)=D.tup ((uI p).map D.int);unfold uI;rw[cL];rfl
noncomputable def zFL(n:Nat)(q:4#0):List (List Nat):=(sdN (n-1)).filter (zBL n q)
noncomputable def zAZ:List D->Gp->98#0->Prop:=fun ds G R=>∃(n:Nat) (q:4#0),ds=[zO n q]/\1<=n/\n<=7/\∀ m:List (List Int),m.Perm ((zFL n q).map uI)->m.Pairwise 56#0->R (m.map tI) G
theorem zFA:∀ ds G R R',95#0->zAZ ds G R->zAZ ds G R':=by
 rintro ds G R R' h ⟨n,q,e,h1,h9,k⟩;exact⟨n,q,e,h1,h9,fun m a b=>h _ _ (k m a b)⟩
theorem zMM(n:Nat):yO 1 n=(bY n).map fun k=>nD (k+1):=by
 unfold yO;refine dI fun k u0=>?_;show D.int _=D.int _;congr 1;omega
theorem zMN{n i:Nat}{x:D}(h:((bY n).map fun k=>nD (k+1))[i]?=some x):x=nD (i+1)/\i<n:=by
 rw[cP] at h;by_cases hi:i<n
 ·rw[List.getElem?_range hi] at h
  cases h;exact⟨rfl,hi⟩
 ·rw[List.getElem?_eq_none (by rw[cz];omega)] at h
  cases h
theorem zJ2:∀ i,[0]∈sdN i
 | 0=>by unfold sdN;exact .head _
 | i+1=>by
  unfold sdN;exact dh _ (zJ2 i)
theorem zP1{n:Nat}{q:4#0}(h:n<=7):(zFL n q).length<64:=by
 have a:=zIl (n-1);have b:2 ^ (n-1)<=2 ^ 6:=dC (n:=2) 2#0 2#0;have c:(zFL n q).length<(sdN (n-1)).length:=List.length_filter_lt_length_iff_exists.mpr ⟨[0],zJ2 (n-1),by unfold zBL;simp⟩;omega
theorem zJ3{n:Nat}{q:4#0}{G:Gp}{R:Q2}{tc:TT2}(h1:1<=n)(h9:n<=7)(hc:∀(l:Addr) (p:14#0) (σ1:Option D) (G':Gp),zBy n p->PuT tc [some (zO n q),some (.adr l),σ1,some (uD p)] G' (zBL n q p))
  (h:∀ m:List (List Int),m.Perm ((zFL n q).map uI)->m.Pairwise 56#0->∀ l,G.m l=none->R (.adr l) (zS G l (m.map tI))) :
  (zV (zn (yG (zAg (zA (yH (zA 15#0 zG)) zG))) (gN 1)) (zV (yw (iR2 (zA 12#0 (zA (zP zp (zB 0) 15#0) zG))) (gN 2) (zn (yG (zF7 (zB 1) (yG (zg (iV (zB 1)) wb zAA (zP zt (zB 3) (yH 73#0)))))) (gN 1))) (zm (yG (zAX (zg (iV (zB 1)) wb tc (zB 3))))))) (zc R) [some (zO n q),none,none] G:=by
 refine yt (zCg (ds:=[uD [0]]) (fun G2 e R q=>zHf (zF (yc (zF zx zL) 24#0) zL G2 e _ ⟨by rw[sizeLine_eq];simp,q⟩)) fun f hf=>?_);sleep 5;refine zIR (i:=1) (j:=n) (zF zx (zF (yr (q:=q) (zE rfl)) zL)) 2#0 ?_;rw[show((n:Int)-1).toNat=n-1 by omega,zMM];refine⟨fun i σ' G'=>∃ l σ1,σ'=[some (zO n q),some (.adr l),σ1]/\G.m l=none/\G'.m l=some ((sdN i).map uD)/\L3.Sub G G',⟨f,none,rfl,hf,zK,.new hf⟩,fun u0 u0 u0 u0 u0=>trivial,?_,?_⟩
 ·rintro i x σ' G' hx ⟨l,σ1,rfl,hl,hg,sb⟩
  obtain⟨rfl,hi⟩:=zMN hx;sleep 5;have m:=zCe (σ:=[some (zO n q),some (.adr l),some (nD (i+1))]) (G:=G') (bd:=wb) (te:=zP zt (zB 3) (yH 73#0)) (fun d=>match d with | .tup xs=>.tup (xs++[nD (i+1)]) | _=>.non) 144#0 (zA9 (zE (i:=1) rfl) (.inl hg)) fun x hx=>by
   obtain⟨p,hp,rfl⟩:=ca.mp hx;refine⟨rfl,zBj (xs:=p.map nD) (ys:=[nD (i+1)]) (zE rfl) (yc 51#0 24#0) ?_⟩;have:=(zCo i p hp).1.len;simp only[bZ,bV,c6];omega
  have e:cj (fun d=>match d with | .tup xs=>D.tup (xs++[nD (i+1)]) | _=>.non) ((sdN i).map uD)=((sdN i).map (·++[i+1])).map uD:=by
   rw[cL,cL];refine dI fun p u0=>?_;simp[Function.comp]
  rw[e] at m;refine zTv (zCn (zUv (zE (d:=.adr l) rfl) (zCg m fun k hk=>⟨_,_,by rw[zW (fun z=>by rw[z] at hg;rw[hg] at hk;cases hk)];exact hg,zK,?_,fun l' hl'=>?_⟩)))
  ·have a:=zIl i
   have b:2 ^ i<=2 ^ 8:=dC (n:=2) 2#0 2#0;simp only[bZ];omega
  ·have sb2:L3.Sub G (zS G' k (((sdN i).map (·++[i+1])).map uD)):=sb.put (zEI sb hk)
   sleep 5;refine⟨[some (zO n q),some (.adr l'),none],_,.keep (.keep (.skip .nil)),.refl _,l',none,rfl,zEI sb2 hl',?_,sb2.put (zEI sb2 hl')⟩;rw[zK,<-cN];rfl
 ·rintro σ' G' ⟨l,σ1,rfl,hl,hg,sb⟩
  rw[bZ,cz] at hg;have hsd:∀ p∈sdN (n-1),zBy n p/\p≠[]:=fun p hp=>by
   have:=zCo (n-1) p hp;rw[show n-1+1=n by omega] at this;exact this
  have c:=wW (σ:=[some (zO n q),some (.adr l),σ1]) (G:=G') (bd:=wb) (tc:=tc) (te:=zB 3) (fun d=>match d with | .tup xs=>zBL n q (xs.map fun d=>match d with | .int v=>v.toNat | _=>0) | _=>false) (fun d=>d) 144#0 (zA9 (zE (i:=1) rfl) (.inl hg)) fun x hx=>by
   obtain⟨p,hp,rfl⟩:=ca.mp hx;have ep:cj (fun d=>match d with | D.int v=>v.toNat | _=>0) (p.map nD)=p:=by
    rw[cL]
    conv=>rhs;rw[<-List.map_id p]
    exact dI fun k u0=>rfl
   refine⟨rfl,?_,fun u0=>zE rfl⟩;show PuT tc _ _ (zBL n q (cj (fun d=>match d with | D.int v=>v.toNat | _=>0) (p.map nD)));rw[ep];exact hc l p σ1 G' (hsd p hp).1
  have e:cj (fun d=>d) (fc (fun d=>match d with | .tup xs=>zBL n q (xs.map fun d=>match d with | .int v=>v.toNat | _=>0) | _=>false) ((sdN (n-1)).map uD))=((zFL n q).map uI).map tI:=by
   rw[fq,e7,<-zP0];congr 1;refine eP fun p u0=>?_;show zBL n q (cj (fun d=>match d with | D.int v=>v.toNat | _=>0) (p.map nD))=zBL n q p;congr 1;rw[cL]
   conv=>rhs;rw[<-List.map_id p]
   exact dI fun k u0=>rfl
  rw[e] at c;refine c G' (.refl G') _ ⟨(zFL n q).map uI,rfl,?_,?_,fun m pm pw l' hl'=>?_⟩
  ·rw[bZ]
   exact zP1 h9
  ·intro ns hns
   obtain⟨p,hp,rfl⟩:=ca.mp hns;have:=(hsd p (cb.mp hp).1).2;intro z;unfold uI at z;exact this (List.map_eq_nil_iff.mp z)
  ·refine⟨zS G l' (m.map tI),⟨fun a o e=>?_,fun a o e=>sb.ro a o e⟩,h m pm pw l' (zEI sb hl')⟩
   by_cases ha:a=l'
   ·subst ha;rw[zK] at e;cases e;exact zK
   ·rw[zW ha] at e;rw[zW ha];exact sb.m a o e
noncomputable def zGf:yU:=(zV (zn (yG (zAg (zA (yH (zA 15#0 zG)) zG))) (gN 1)) (zV (yw (iR2 (zA 12#0 (zA (zP zp (zB 0) 15#0) zG))) (gN 2) (zn (yG (zF7 (zB 1) (yG (zg (iV (zB 1)) wb zAA (zP zt (zB 3) (yH 73#0)))))) (gN 1))) (zm (yG (zAX (zg (iV (zB 1)) wb (xB (zI yi (zA (zB 0) 99#0))) (zB 3)))))))
theorem zP2(ds:List D)(G:Gp)(R:Q2)(h:spL zAZ ds G R):ds.length=1/\zGf (zc R) (zQ ["web","sides","place"] ds) G:=by
 obtain⟨n,q,rfl,h1,h9,h⟩:=h;refine⟨rfl,zJ3 (tc:=_) h1 h9 (fun l p σ1 G' hp=>?_) h⟩;exact wI (zU 41#0 fun u0 u0 u0 q'=>⟨n,q,p,rfl,by omega,hp.2,by have:=hp.len;omega,hp.1,q'⟩)
theorem zP3{n:Nat}{q:4#0}{m m':28#0}(h:m.Perm ((zFL n q).map uI))(h':m'.Perm ((zFL n q).map uI))(s:m.Pairwise 56#0)(s':m'.Pairwise 56#0):m=m' :=
 eM.eq_of_pairwise (fun a b u0 u0 x y=>zEB _ _ y x) s s' (h.trans h'.symm)
end K
namespace K
open L3
noncomputable def mkW(r:14#0)(a j:Nat):Nat:=((r.drop a).take j).foldl (fun m x=>m ^^^ 2 ^ x) 0
noncomputable def tog(l:14#0)(x:Nat):List Nat:=if x∈l then l.filter (fun y=>decide (y≠x)) else l++[x]
noncomputable def odW(r:14#0)(a j:Nat):List Nat:=((r.drop a).take j).foldl tog []
theorem zIm{l:14#0}{x i:Nat}:i∈tog l x↔(i∈l/\i≠x)\/(i=x/\x∉l):=by
 unfold tog;by_cases h:x∈l
 ·rw[if_pos h,cb]
  simp only[decide_eq_true_eq];constructor
  ·intro q;exact .inl q
  ·rintro(q | ⟨u0,q⟩)
   ·exact q
   ·exact absurd h q
 ·rw[if_neg h,cr,cf]
  constructor
  ·rintro(q | q)
   ·exact .inl ⟨q,fun z=>h (by rw[<-z];exact q)⟩
   ·exact .inr ⟨q,h⟩
  ·rintro(q | q)
   ·exact .inl q.1
   ·exact .inr q.1
theorem zNW{l:14#0}{x:Nat}(h:l.Nodup):(tog l x).Nodup:=by
 unfold tog;by_cases hx:x∈l
 ·rw[if_pos hx];exact h.filter _
 ·rw[if_neg hx]
  exact dq.mpr ⟨h,by simp,fun a ha b hb e=>by rw[cf.mp hb] at e;exact hx (by rw[<-e];exact ha)⟩
theorem zHt:∀(xs l:14#0) (m:Nat),l.Nodup->(∀ i,m.testBit i=decide (i∈l))->(xs.foldl tog l).Nodup/\∀ i,(xs.foldl (fun m x=>m ^^^ 2 ^ x) m).testBit i=decide (i∈xs.foldl tog l)
 | [],l,m,h,e=>⟨h,e⟩
 | x::xs,l,m,h,e=>by
  refine zHt xs (tog l x) (m ^^^ 2 ^ x) (zNW h) fun i=>?_;rw[eF,e,Nat.testBit_two_pow,cG];simp only[decide_eq_true_eq,bne_iff_ne,ne_eq,decide_eq_decide,zIm];by_cases h1:i∈l<;>by_cases h2:x=i
  ·subst h2;simp[h1]
  ·simp[h1,h2,Ne.symm h2,eq_comm]
  ·subst h2;simp[h1]
  ·simp[h1,h2,Ne.symm h2,eq_comm]
theorem zT1(r:14#0)(a j:Nat):(odW r a j).Nodup/\∀ i,(mkW r a j).testBit i=decide (i∈odW r a j):=zHt _ [] 0 List.nodup_nil fun i=>by simp
theorem zJ4{r:14#0}{a j:Nat}(h:a+j<r.length):mkW r a (j+1)=mkW r a j ^^^ 2 ^ (r.getD (a+j) 0):=by
 unfold mkW;have e:(r.drop a)[j]?=some (r.getD (a+j) 0):=by
  rw[List.getElem?_drop];simp[d7,h]
 rw[yR e,List.foldl_append];rfl
theorem zRk{r:14#0}{a j:Nat}(h:r.length<=a+j):mkW r a (j+1)=mkW r a j:=by
 unfold mkW;rw[fh (by rw[dU];omega),fh (by rw[dU];omega)]
noncomputable def zEt(r:14#0)(p a b:Nat):List Nat:=r.take a++[p]++(r.drop a).take (b-a)++[p]++r.drop b
noncomputable def zFM(r:14#0)(p W a j:Nat):List (List Nat):=((bY j).filter fun d=>decide (mkW r a d=W)).map fun d=>zEt r p a (a+d)
noncomputable def zBf(r:14#0)(p W:Nat):Nat->List (List Nat)
 | 0=>[]
 | i+1=>zBf r p W i++zFM r p W (i+1) (r.length-i)
noncomputable def wch(r:14#0)(p W:Nat):List (List Nat):=zBf r p W r.length
theorem zC7{r:14#0}{p W a j:Nat}:zFM r p W a (j+1)=zFM r p W a j++(if mkW r a j=W then [zEt r p a (a+j)] else []):=by
 unfold zFM;rw[eY,dW,cN];by_cases h:mkW r a j=W<;>simp[h]
theorem zJ5{f:Nat->Bool}:∀ j,(∀ d,d+1<j->¬ (f d=true/\f (d+1)=true))->((bY j).filter f).length<=(j+1) / 2
 | 0,_=>by simp
 | 1,_=>by
  have:=dB f (bY 1);sleep 23
 | j+2,h=>by
  have ih:=zJ5 j fun d hd=>h d 2#0;rw[eY,eY,dW,dW,cg,cg];have:=h j 2#0;cases h1:f j<;>cases h2:f (j+1)<;>simp_all<;>omega
theorem zJ6{r:14#0}{p W a j:Nat}(hj:a+j<=r.length+1):(zFM r p W a j).length<=(j+1) / 2:=by
 unfold zFM;rw[bZ];refine zJ5 j fun d hd=>?_;rintro⟨h1,h2⟩;have h1:=of_decide_eq_true h1;have h2:=of_decide_eq_true h2;rw[zJ4 2#0,h1] at h2;have h3:=congrArg (fun z=>z ^^^ W) h2;simp only[Nat.xor_self] at h3;rw[Nat.xor_comm W,eR,Nat.xor_self,Nat.xor_zero] at h3;have:0<2 ^ (r.getD (a+d) 0):=Nat.pow_pos 2#0;omega
theorem zRl{r:14#0}{p a b:Nat}(h:a<=b)(hb:b<=r.length):(zEt r p a b).length=r.length+2/\∀ x∈zEt r p a b,x=p\/x∈r:=by
 unfold zEt;constructor
 ·simp only[cg,cQ,dU,bV,c6]
  omega
 ·intro x hx
  simp only[cr,cI,ff,or_false] at hx;rcases hx with (((hx | hx) | hx) | hx) | hx
  ·exact .inr (eK hx)
  ·exact .inl hx
  ·exact .inr (List.mem_of_mem_drop (eK hx))
  ·exact .inl hx
  ·exact .inr (List.mem_of_mem_drop hx)
theorem zHu{r:14#0}{p W:Nat}{x:14#0}:∀ i,i<=r.length->x∈zBf r p W i->x.length=r.length+2/\∀ y∈x,y=p\/y∈r
 | 0,_,h=>by cases h
 | i+1,hi,h=>by
  rcases cr.mp (show x∈zBf r p W i++zFM r p W (i+1) (r.length-i) from h) with h | h
  ·exact zHu i 2#0 h
  ·obtain⟨d,hd,rfl⟩:=ca.mp h
   have hd:=c8.mp (cb.mp hd).1;exact zRl 2#0 2#0
end K
namespace L3
open L2
section
variable {X:Cx} {pins:List (Addr×Obj)} {σ1:L2.St} {H:Hp} {s:Shared} {A:Around}
end
section
variable {X:Cx} {a b:Expr} {pos p:Pos} {ta tb te:zl}
end
end L3
namespace K
open L2 L3
noncomputable def WkT(t:TT2)(σ:S2)(G:Gp)(b:Bool):Prop:=∀ G2,Ext G G2->∀ R:Bool->Gp->Prop,(∀ G3,Ext G2 G3->R b G3)->t σ G2 R
noncomputable def WkE(t:zl)(σ:S2)(G:Gp)(d:D):Prop:=∀ G2,Ext G G2->∀ R:D->Gp->Prop,(∀ G3,Ext G2 G3->R d G3)->t σ G2 R
theorem zP4{σ:S2}{G:Gp}{wi:TI2}{bd:D->Option (List D)}{tc:TT2}{te:zl}{ds:List D}(p:D->Bool)(f:D->D)(us:D->List D)(hw:PuI wi σ G ds)
  (hx:∀ x∈ds,bd x=some (us x)/\WkT tc (σ++(us x).map some) G (p x)/\(p x=true->WkE te (σ++(us x).map some) G (f x))):PuL (zg wi bd tc te) σ G ((ds.filter p).map f):=by
 intro G2 e R q;refine hw G2 e _ fun gd G3 e3 hgd A nA=>?_;refine⟨fun i acc G'=>G'=zS G3 A acc/\acc=((ds.take i).filter p).map f,⟨rfl,by simp⟩,?_,?_,?_⟩
 ·rintro i acc G' hi ⟨rfl,rfl⟩
  refine⟨hgd _ (.new nA),zK,?_⟩;rw[bZ];exact di (dB _ _) (by rw[cQ];omega)
 ·rintro i x acc G' hi ⟨rfl,rfl⟩
  obtain⟨hb,ht,he⟩:=hx x (cK hi);rw[hb];dsimp only;have ex:Ext G (zS G3 A (((ds.take i).filter p).map f)):=(e.trans e3).trans (.new nA);refine ht _ ex _ fun G5 e5=>?_;cases hp:p x with
  | false =>
   rw[if_neg 24#0];exact⟨_,e5.sub,rfl,by rw[yR hi];simp[hp]⟩
  | true =>
   rw[if_pos rfl];refine he hp _ (ex.trans e5) _ fun G6 e6=>?_;have e56:=e5.trans e6;refine⟨e56.sub.m _ _ zK,zS G3 A (((ds.take i).filter p).map f++[f x]),⟨fun a o ha=>?_,fun a o ha=>e56.sub.ro a o ha⟩,rfl,by rw[yR hi];simp[hp]⟩;by_cases hz:a=A
   ·subst hz
    rw[zK] at ha ⊢;exact ha
   ·rw[zW hz] at ha ⊢
    exact e56.sub.m a o (by rw[zW hz];exact ha)
 ·rintro acc G' ⟨rfl,rfl⟩
  exact⟨G2,e3.own nA,e3.sub.trans (.new nA),by rw[e9];exact q⟩
end K
namespace K
open L2 L3 HS
theorem zC8{σ:S2}{G:Gp}{sp:List D->Gp->98#0->Prop}{t:wU}{R:119#0}(h:t σ G fun ds G1=>sp ds G1 R):yE sp t σ G R:=h
theorem zHv{wi:TI2}{g:TG2}{tb u:yU}{E:yB}{σ:S2}{G:Gp}(h:yw wi g tb { E with nx:=u E } σ G):zV (yw wi g tb) u E σ G:=h
theorem zMO{σ:S2}{G:Gp}{to:zl}{t:wU}{R:Q2}{l:Addr}{xs:List D}(ho:zZ to σ G (.adr l))(h:G.m l=some xs)(ht:t σ G fun ds G2=>match ds with | [d]=>∃ ys,G2.m l=some ys/\ys.length<=1000000/\R .non (zS G2 l (ys++[d])) | _=>False):zG6 to t σ G R:=by
 refine ho G 131#0 _ ?_;show match G.m l with | some _=>_ | none=>_
 rw[h];have:∀(ds:List D) (G2:Gp),(match ds with | [d]=>∃ ys,G2.m l=some ys/\ys.length<=1000000/\R .non (zS G2 l (ys++[d])) | _=>False)=(match ds with | [d]=>(match G2.m l with | some xs=>xs.length<=1000000/\R .non (zS G2 l (xs++[d])) | none=>False) | _=>False):=fun ds G2=>by
  split
  ·rename_i d
   cases q:G2.m l with
   | none=>simp
   | some ys=>simp
  ·rfl
 simp only[this] at ht;exact ht
noncomputable def yQ:wM:=fun ds G R=>∃ a b:Nat,ds=[nD a,nD b]/\a<=b/\R .non G
noncomputable def zAe:yU:=(xIf (xB (zP 140#0 (zB 0) (zB 1))) (fun u0 u0 u0=>False) yI)
theorem zG9(ds:List D)(G:Gp)(R:Q2)(h:yQ ds G R):ds.length=2/\zAe (zc R) (zQ ["many","most"] ds) G:=by
 obtain⟨a,b,rfl,hab,h⟩:=h;refine⟨rfl,?_⟩;unfold zAe;have:=wg (g:=fun i j=>.bl (decide (j<i))) (zE (σ:=[some (nD a),some (nD b)]) (G:=G) (i:=0) (d:=nD a) rfl) (zE (i:=1) (d:=nD b) rfl);rw[decide_eq_false (show ¬ ((b:Int)<(a:Int)) by omega)] at this;exact zGG (σ:=[some (nD a),some (nD b)]) (wI this) (FgR.of h)
theorem zRm{l:List D}{a b:Nat}(h:a<=b)(hb:b<=l.length):L3.cutD l (some (a:Int)) (some (b:Int))=(l.drop a).take (b-a):=by
 unfold L3.cutD;rw[HT.zCv,HT.zCv,d8 hb,d8 2#0]
theorem zRn{σ:S2}{G:Gp}{u v:zl}{r:14#0}{p a b:Nat}(h0:look σ 0=some (uD r))(h1:look σ 1=some (nD p))(hu:zZ u σ G (nD a))(hv:zZ v σ G (nD b))(hab:a<=b)(hb:b<=r.length)(hl:r.length<=1000) :
  zZ (zP zt (zP zt (zP zt (zP zt (yp (zB 0) yX (yf u)) (yH 30#0)) (yp (zB 0) (yf u) (yf v))) (yH 30#0)) (yp (zB 0) (yf v) yX)) σ G (uD (zEt r p a b)):=by
 have lm:(r.map nD).length=r.length:=bZ _;have s1:=zSV (xs:=r.map nD) (zE (σ:=σ) (G:=G) h0) hu 2#0;have s2:=zGJ (xs:=r.map nD) (zE (σ:=σ) (G:=G) h0) hu hv;rw[zRm hab 2#0] at s2;have s3:=zFh (xs:=r.map nD) (zE (σ:=σ) (G:=G) h0) hv 2#0;have s4:zZ (yH 30#0) σ G (.tup [nD p]):=yc (zF (zE h1) zL) 24#0;have e:uD (zEt r p a b)=.tup (((((r.map nD).take a++[nD p])++((r.map nD).drop a).take (b-a))++[nD p])++(r.map nD).drop b):=by
  show D.tup ((zEt r p a b).map nD)=_;unfold zEt;simp only[cN,List.map_take,List.map_drop,cU,List.map_nil]
 rw[e];refine zBj (zBj (zBj (zBj s1 s4 ?_) s2 ?_) s4 ?_) s3 ?_ <;>
 ·simp only[cg,cQ,dU,bV,c6,bZ]
  omega
theorem zRo(a n:Nat):yO (a:Int) n=(bY n).map fun k=>nD (a+k):=by
 unfold yO;refine dI fun k u0=>?_;show D.int _=D.int _;congr 1
theorem zRp{a n i:Nat}{x:D}(h:((bY n).map fun k=>nD (a+k))[i]?=some x):x=nD (a+i)/\i<n:=by
 rw[cP] at h;by_cases hi:i<n
 ·rw[List.getElem?_range hi] at h
  cases h;exact⟨rfl,hi⟩
 ·rw[List.getElem?_eq_none (by rw[cz];omega)] at h
  cases h
theorem zRq{σ:S2}{G:Gp}{tc:TT2}{t u v:yU}{E:yB}{b:Bool}(h:PuT tc σ G b)(hy:b=true->t { E with nx:=v E } σ G)(hn:b=false->u { E with nx:=v E } σ G):zV (xIf tc t u) v E σ G:=h G 131#0 _ (by
 cases b
 ·rw[if_neg 24#0];exact hn rfl
 ·rw[if_pos rfl];exact hy rfl)
theorem ifB{σ:S2}{G:Gp}{tc:TT2}{t u:yU}{E:yB}{b:Bool}(h:PuT tc σ G b)(hy:b=true->t E σ G)(hn:b=false->u E σ G):xIf tc t u E σ G:=h G 131#0 _ (by
 cases b
 ·rw[if_neg 24#0];exact hn rfl
 ·rw[if_pos rfl];exact hy rfl)
theorem zJ7{σ:S2}{G:Gp}{r:14#0}(h0:look σ 0=some (uD r)):zZ (zP zt 44#0 12#0) σ G (nD (r.length+1)):=wQ (zAH (zE h0)) zx
noncomputable def wH:List D->Gp->98#0->Prop:=fun ds G R=>∃(r cs:14#0) (p:Nat) (l:Addr),ds=[uD r,nD p,.adr l]/\Ls G l (cs.map nD)/\r.length<=20/\(∀ x∈r,x<=9)/\(∀ x∈cs,x<=9)/\cs.length<=9/\R ((wch r p (zAC cs)).map uD) G
theorem zFN:∀ ds G R R',95#0->wH ds G R->wH ds G R':=by
 rintro ds G R R' h ⟨r,cs,p,l,e,h1,h2,h3,h4,h5,q⟩;exact⟨r,cs,p,l,e,h1,h2,h3,h4,h5,h _ _ q⟩
noncomputable def zAz:yU:=(zV (zn (zd zME (zg (iV (zB 2)) wb zAA (zP 70#0 12#0 (zB 8)))) (gN 3)) (zV (zn (yG (zAg zG)) (gN 4)) (zV (yw (iR2 (zA 12#0 (zA (zP zt 44#0 12#0) zG))) (gN 5) (zV (zn 15#0 (gN 6)) (yw (iR2 (zA (zB 5) (zA (zP zt 44#0 12#0) zG))) (gN 7) (zV (xIf (xB (zP (fEq false) (zB 6) (zB 3))) (yo (zG6 (zB 4) (zA (zP zt (zP zt (zP zt (zP zt (yp (zB 0) yX (yf (zB 5))) (yH 30#0)) (yp (zB 0) (yf (zB 5)) (yf (zB 7)))) (yH 30#0)) (yp (zB 0) (yf (zB 7)) yX)) zG))) yI) (xIf (xB (zP 25#0 (zB 7) 44#0)) (zn (zP 138#0 (zB 6) (zP 70#0 12#0 (zP zp (zB 0) (zB 7)))) (gN 6)) yI))))) (zm (zB 4)))))
theorem zGg{r:14#0}{p W:Nat}(h:r.length<=20):∀ i,i<=r.length->(zBf r p W i).length<=21*i
 | 0,_=>ce _
 | i+1,hi=>by
  have h1:=zGg h i 2#0 (p:=p) (W:=W);have h2:=zJ6 (r:=r) (p:=p) (W:=W) (a:=i+1) (j:=r.length-i) 2#0;show(zBf r p W i++zFM r p W (i+1) (r.length-i)).length<=_;rw[cg];omega
theorem zIn(ds:List D)(G:Gp)(R:Q2)(h:spL wH ds G R):ds.length=3/\zAz (zc R) (zQ ["ring","place","crossed","wanted","found","first","inside","second"] ds) G:=by
 obtain⟨r,cs,p,l,rfl,hl,hr,hrx,hcx,hcl,h⟩:=h;refine⟨rfl,?_⟩;unfold zAz;rw[show zQ ["ring","place","crossed","wanted","found","first","inside","second"] [uD r,nD p,.adr l]=[some (uD r),some (nD p),some (.adr l),none,none,none,none,none] from rfl]
 -- wanted
 have c:=zCe (σ:=[some (uD r),some (nD p),some (.adr l),none,none,none,none,none]) (G:=G) (bd:=wb) (te:=(zP 70#0 12#0 (zB 8))) 111#0 144#0 (zA9 (zE (i:=2) (d:=.adr l) rfl) hl) fun x hx=>by
  obtain⟨k,hk,rfl⟩:=ca.mp hx;refine⟨rfl,yn (x:=.int 1) (y:=nD k) zx (zE rfl) fun u0 u0 u0 q'=>⟨⟨by omega,by have:=hcx k hk;omega,by decide⟩,?_⟩⟩;dsimp only;have:(1:Int)*2 ^ ((k:Int)).toNat=((2 ^ k:Nat):Int):=by simp
  rw[this];exact q'
 have e:cj 111#0 (cs.map nD)=((cs.map fun o=>2 ^ o).map fun(x:Nat)=>(x:Int)).map D.int:=by
  rw[cL,cL,cL];rfl
 rw[e] at c;refine zw (d:=nD (zAC cs)) (fun G2 e2 R' q'=>c G2 e2 _ ⟨_,rfl,by simp only[bZ];omega,fun a ha=>by
   obtain⟨b,hb,rfl⟩:=ca.mp ha;obtain⟨o,ho',rfl⟩:=ca.mp hb;have:=hcx o ho';have h2:2 ^ o<=2 ^ 9:=dC 2#0 2#0;generalize 2 ^ o=z at h2 ⊢;omega,by rw[zJx];exact q'⟩) ?_
 sleep 5;generalize zAC cs=W at h;clear c e;refine yt (zCg (ds:=[]) (fun G2 e R q=>zHf (zAM ⟨by rw[sizeLine_eq];simp,q⟩)) fun f hf=>?_);sleep 5;refine zHv (zIR (i:=1) (j:=((r.length+1:Nat):Int)) (zF zx (zF (zJ7 rfl) zL)) 2#0 ?_);rw[show(((r.length+1:Nat):Int)-1).toNat=r.length by omega,zMM];refine zAc (fun i G'=>G'.m f=some ((zBf r p W i).map uD)/\L3.Sub G G') ⟨zK,.new hf⟩ 150#0 ?_ ?_
 ·rintro i x hx G1 ⟨gf,sb⟩
  obtain⟨rfl,hi⟩:=zMN hx;sleep 5;refine zw (d:=nD 0) zx ?_;sleep 5;refine zIR (i:=((i+1:Nat):Int)) (j:=((r.length+1:Nat):Int)) (zF (zE rfl) (zF (zJ7 rfl) zL)) 2#0 ?_;rw[show(((r.length+1:Nat):Int)-((i+1:Nat):Int)).toNat=r.length-i by omega,zRo];have wl:=zGg (p:=p) (W:=W) hr i 2#0;refine⟨fun j σ' G'=>σ'=[some (uD r),some (nD p),some (.adr l),some (nD W),some (.adr f),some (nD (i+1)),some (nD (mkW r (i+1) j)),none]/\G'.m f=some ((zBf r p W i++zFM r p W (i+1) j).map uD)/\L3.Sub G G',⟨rfl,?_,sb⟩,fun u0 u0 u0 u0 u0=>trivial,?_,?_⟩
  ·show G1.m f=some ((zBf r p W i++[]).map uD)
   rw[eG];exact gf
  ·rintro j x σ' G2 hx ⟨rfl,gf2,sb2⟩
   obtain⟨rfl,hj⟩:=zRp hx;sleep 5;have wr:=zJ6 (r:=r) (p:=p) (W:=W) (a:=i+1) (j:=j) 2#0;have t1:PuT (xB (zP (fEq false) (zB 6) (zB 3))) [some (uD r),some (nD p),some (.adr l),some (nD W),some (.adr f),some (nD (i+1)),some (nD (mkW r (i+1) j)),some (nD (i+1+j))] G2 (decide (mkW r (i+1) j=W)):=wI (zCS (x:=nD (mkW r (i+1) j)) (y:=nD W) (zE rfl) (zE rfl) rfl rfl (by rw[if_neg 24#0,zAL]));have tail:∀(E:yB) (G3:Gp),G3.m f=some ((zBf r p W i++zFM r p W (i+1) (j+1)).map uD)->L3.Sub G G3->(∀ o7,E.nx [some (uD r),some (nD p),some (.adr l),some (nD W),some (.adr f),some (nD (i+1)),some (nD (mkW r (i+1) (j+1))),o7] G3) ->
     (xIf (xB (zP 25#0 (zB 7) 44#0)) (zn (zP 138#0 (zB 6) (zP 70#0 12#0 (zP zp (zB 0) (zB 7)))) (gN 6)) yI) E [some (uD r),some (nD p),some (.adr l),some (nD W),some (.adr f),some (nD (i+1)),some (nD (mkW r (i+1) j)),some (nD (i+1+j))] G3:=fun E G3 g3 s3 fin=>by
    have t2:PuT (xB (zP 25#0 (zB 7) 44#0)) [some (uD r),some (nD p),some (.adr l),some (nD W),some (.adr f),some (nD (i+1)),some (nD (mkW r (i+1) j)),some (nD (i+1+j))] G3 (decide (i+1+j<r.length)):=by
     have:=wg (g:=fun i j=>.bl (decide (i<j))) (zE (σ:=[some (uD r),some (nD p),some (.adr l),some (nD W),some (.adr f),some (nD (i+1)),some (nD (mkW r (i+1) j)),some (nD (i+1+j))]) (G:=G3) (i:=7) (d:=nD (i+1+j)) rfl) (zAH (ps:=r) (zE (i:=0) rfl));have e:decide ((((i+1+j:Nat)):Int)<(r.length:Int))=decide (i+1+j<r.length):=by rw[cG];simp only[decide_eq_true_eq];omega
     rw[<-e];exact wI this
    refine ifB t2 (fun hb=>?_) fun hb=>?_
    ·have hlt:=of_decide_eq_true hb
     have hx9:r.getD (i+1+j) 0<=9:=by
      have:r.getD (i+1+j) 0=r[i+1+j]:=by simp[d7,hlt]
      rw[this];exact hrx _ (dA _)
     refine zSW (d:=nD (mkW r (i+1) j ^^^ 2 ^ (r.getD (i+1+j) 0))) (zMI (zE rfl) (yn (x:=.int 1) (y:=nD (r.getD (i+1+j) 0)) zx (zKx (ps:=r) (zE rfl) (zE rfl) hlt) fun u0 u0 u0 q'=>⟨⟨by omega,by omega,by decide⟩,?_⟩)) ?_
     ·dsimp only
      have:(1:Int)*2 ^ (((r.getD (i+1+j) 0:Nat):Int)).toNat=((2 ^ (r.getD (i+1+j) 0):Nat):Int):=by simp
      rw[this];exact q'
     ·sleep 5
      rw[<-zJ4 hlt];exact fin _
    ·have hge:=of_decide_eq_false hb
     have:=fin (some (nD (i+1+j)));rw[zRk 2#0] at this;exact this
   refine zRq t1 (fun hb=>?_) fun hb=>?_
   ·have hW:=of_decide_eq_true hb
    refine zK8 (zMO (l:=f) (zE rfl) gf2 (wR (d:=uD (zEt r p (i+1) (i+1+j))) (zRn rfl rfl (zE rfl) (zE rfl) 2#0 2#0 2#0) (zAM ⟨_,gf2,by rw[bZ,cg];omega,?_⟩)));refine tail _ _ ?_ (sb2.put hf) fun o7=>?_
    ·rw[zK,zC7,if_pos hW,<-dN]
     simp only[cN,cU,List.map_nil]
    ·refine⟨_,_,.keep (.keep (.keep 69#0)),.refl _,rfl,?_,sb2.put hf⟩
     rw[zK,zC7,if_pos hW,<-dN];simp only[cN,cU,List.map_nil]
   ·have hW:=of_decide_eq_false hb
    refine tail _ _ ?_ sb2 fun o7=>?_
    ·rw[zC7,if_neg hW,eG];exact gf2
    ·refine⟨_,_,.keep (.keep (.keep 69#0)),.refl _,rfl,?_,sb2⟩
     rw[zC7,if_neg hW,eG];exact gf2
  ·rintro σ' G2 ⟨rfl,gf2,sb2⟩
   rw[bZ,cz] at gf2;exact⟨.keep (.keep (.keep 113#0)),G2,.refl _,gf2,sb2⟩
 ·rintro G1 ⟨gf,sb⟩
  rw[bZ,cz] at gf;show FgR R (.adr f) G1;refine⟨zS G f ((wch r p W).map uD),⟨fun a o e=>?_,fun a o e=>sb.ro a o e⟩,h f hf⟩;by_cases ha:a=f
  ·subst ha;rw[zK] at e;cases e;exact gf
  ·rw[zW ha] at e;exact sb.m a o e
end K
namespace K
open L2 L3
theorem zFj{wi:TI2}{g:TG2}{tb u:yU}{E:yB}{σ:S2}{G:Gp}(h:yw wi g tb { E with nx:=u E } σ G):zV (yw wi g tb) u E σ G:=h
theorem zT2{σ:S2}{G:Gp}{i:Nat}{tl:TL2}{u:yU}{E:yB}{ds:List D}(h:PuL tl σ G ds)(h':∀ l,G.m l=none->u E (σ.set i (some (.adr l))) (zS G l ds)):zV (zAi i tl) u E σ G:=h G 131#0 _ h'
theorem zSZ{σ:S2}{G:Gp}{te:zl}{E:yB}(h:te σ G fun u0 G1=>E.nx σ G1):yo te E σ G:=h
theorem zVV{t:zl}{ds:List D}{σ:S2}{G:Gp}{R:List D->(Gp->Prop)->Gp->Prop}(h:zZ t σ G (.tup ds))(h':R ds (fun u0=>True) G):iV t σ G R:=h G 131#0 _ h'
theorem zJ8{σ:S2}{G:Gp}{te:zl}{E:yB}{d:D}(h:zZ te σ G d)(h':E.rt d G):zm te E σ G:=h G 131#0 _ h'
theorem zP5{tl:TL2}{i:Nat}{u:yU}{E:yB}{σ:S2}{G:Gp}{ds:List D}(h:PuL tl σ G ds)(h':∀ l,G.m l=none->u E (σ.set i (some (.adr l))) (zS G l ds)):zV (zn (yG tl) (gN i)) u E σ G:=h G 131#0 _ h'
theorem zLD{tc:TT2}{t u v:yU}{E:yB}{σ:S2}{G:Gp}(h:xIf tc t u { E with nx:=v E } σ G):zV (xIf tc t u) v E σ G:=h
theorem zSa{σ:S2}{G:Gp}{te:zl}{E:yB}{u:yU}{d:D}(h:zZ te σ G d)(h':u E σ G):zV (yo te) u E σ G:=h G 131#0 _ h'
theorem zUx{i j:Nat}{x y:D}{σ:S2}{G:Gp}{Q:S2->Gp->Prop}(h:Q ((σ.set i (some x)).set j (some y)) G):gNN i j (.tup [x,y]) σ G Q:=h
noncomputable def zDN(q:4#0)(os:14#0)(i:Nat):Bool:=!(os.filter (yA q i)).isEmpty
noncomputable def ptL(q:4#0)(ps os:14#0):List (Nat×Nat):=(yY ps.length).filter (yh q ps)++((bY ps.length).filter fun k=>zDN q os (ps.getD k 0)).map fun k=>(k,ps.length)
theorem zRr{q:4#0}{os:14#0}{i:Nat}:decide (mask q i os≠0)=zDN q os i:=by
 unfold mask zDN;cases h:os.filter (yA q i) with
 | nil=>rfl
 | cons a r =>
  have:zAC (a::r)≠0:=by
   simp only[zAC,cU,f8];have:0<2 ^ a:=Nat.pow_pos 8#0;omega
  simp[this]
theorem zT3{q:4#0}{ps os:14#0}:∀ p∈ptL q ps os,p.1<p.2/\p.2<ps.length+1:=by
 intro p hp;unfold ptL at hp;rcases cr.mp hp with h | h
 ·have:=zq.mp (cb.mp h).1
  omega
 ·obtain⟨k,hk,rfl⟩:=ca.mp h
  have:=c8.mp (cb.mp hk).1;dsimp only;omega
theorem zNX{q:4#0}{ps os:14#0}:(ptL q ps os).Nodup:=by
 unfold ptL;refine dq.mpr ⟨(yq _).filter _,?_,fun a ha b hb e=>?_⟩
 ·unfold fu
  rw[dM];refine((dF).filter _).imp fun {a b} hne e=>hne ?_;exact(Prod.mk.inj e).1
 ·obtain⟨k,u0,rfl⟩:=ca.mp hb
  have:=zq.mp (cb.mp ha).1;rw[e] at this;dsimp only at this;omega
noncomputable def zBM:wM:=fun ds G R=>∃(n:Nat) (q:4#0) (ps os:14#0),ds=[zO n q,uD ps,uD os]/\n<=9/\ps.length<=8/\(∀ x∈ps,x<n)/\(∀ x∈os,x<n)/\os.length<=50/\R (zO (ps.length+1) fun p=>decide (p∈ptL q ps os)) G
noncomputable def zC9:yU:=(zV (zn (zI zu 30#0) (gN 3)) (zV (zn (yG (zOe (zA (zP zp (zI zBY (zA (zB 0) 30#0)) 12#0) zG))) (gN 4)) (zV (yw (iR1 99#0) (gN 5) (xIf (xB (zP (fEq true) (zI zAY (zA (zB 0) (zA (zP zp (zB 1) (zB 5)) 73#0))) 15#0)) (yo (zG6 (zB 4) (zA (yH (zA (zB 5) 99#0)) zG))) yI)) (zm (yH (zA (zP zt (zB 3) 12#0) (zA (zd zv (zCk (zA (zB 4) zG))) zG)))))))
theorem zGh{n k:Nat}{x:D}(h:((bY n).map nD)[k]?=some x):x=nD k/\k<n:=by
 obtain⟨y,hy,rfl⟩:=zBR h;obtain⟨h1,h2⟩:=cc.mp hy;rw[List.getElem_range] at h2;rw[cz] at h1;exact⟨by rw[h2],h1⟩
noncomputable def ptK(q:4#0)(ps os:14#0)(k:Nat):List (Nat×Nat):=(yY ps.length).filter (yh q ps)++((bY k).filter fun k=>zDN q os (ps.getD k 0)).map fun k=>(k,ps.length)
theorem zJ9{q:4#0}{ps os:14#0}{k:Nat}:ptK q ps os (k+1)=ptK q ps os k++if zDN q os (ps.getD k 0)=true then [(k,ps.length)] else []:=by
 unfold ptK;rw[eY,dW,cN,dN];congr 2;simp only[eu,List.filter_nil];split<;>simp
theorem zRs{q:4#0}{ps os:14#0}{k:Nat}(h:ps.length<=8)(hk:k<=ps.length):((ptK q ps os k).map yC).length<=1000000:=by
 unfold ptK;rw[bZ,cg,bZ];have h1:=dB (yh q ps) (yY ps.length);have h2:=dB (fun k=>zDN q os (ps.getD k 0)) (bY k);rw[cz] at h2;have h3:=zJy ps.length 2#0;omega
theorem zUy{σ:S2}{G:Gp}{t u:zl}{n:Nat}{q:4#0}{ps:14#0}{sp:wM}(hsp:∀ ds G R,zBY ds G R->sp ds G R)(h:zZ t σ G (zO n q))(h':zZ u σ G (uD ps))(hp:∀ x∈ps,x<n)(hl:ps.length<=100):PuL (zOe (zA (zP zp (zI sp (zA t (zA u zG))) 12#0) zG)) σ G (((yY ps.length).filter (yh q ps)).map yC) :=
 fun G2 e R q'=>zF (d:=.tup (((yY ps.length).filter (yh q ps)).map yC)) (zE6 (n:=ps.length) (q:=yh q ps) (zU (zF h (zF h' zL)) fun u0 u0 u0 hh=>hsp _ _ _ ⟨n,q,ps,rfl,hp,hl,hh⟩)) zL G2 e _ ⟨_,rfl,q'⟩
theorem zNY(ds:List D)(G:Gp)(R:Q2)(h:zBM ds G R):ds.length=3/\zC9 (zc R) (zQ ["web","side","others","last","ties","k"] ds) G:=by
 obtain⟨n,q,ps,os,rfl,hn,hl,hp,ho,hol,h⟩:=h;refine⟨rfl,?_⟩;unfold zC9;refine zw (σ:=[some (zO n q),some (uD ps),some (uD os),none,none,none]) (d:=nD ps.length) (zAH (zE rfl)) ?_;show zV _ _ _ [some (zO n q),some (uD ps),some (uD os),some (nD ps.length),none,none] G;refine zP5 (zUy (fun u0 u0 u0 z=>z) (zE rfl) (zE rfl) hp 2#0) fun f hf=>?_;show zV _ _ _ [some (zO n q),some (uD ps),some (uD os),some (nD ps.length),some (.adr f),none] _;refine zFj (zIQ (n:=ps.length) 51#0 2#0 ?_);refine zAc (fun k G'=>G'.m f=some ((ptK q ps os k).map yC)/\Sub G G') ⟨?_,.new hf⟩ 150#0 ?_ ?_
 ·rw[zK];unfold ptK;simp
 ·rintro k x hx G2 ⟨h1,h2⟩
  obtain⟨rfl,hk⟩:=zGh hx;have hi:=hp _ (getD_mem (ps:=ps) (i:=k) hk);show xIf _ _ _ _ [some (zO n q),some (uD ps),some (uD os),some (nD ps.length),some (.adr f),some (nD k)] G2;have t:PuT (xB (zP (fEq true) (zI zAY (zA (zB 0) (zA (zP zp (zB 1) (zB 5)) 73#0))) 15#0)) [some (zO n q),some (uD ps),some (uD os),some (nD ps.length),some (.adr f),some (nD k)] G2 (zDN q os (ps.getD k 0)):=by
   refine wI (zCS (x:=nD (mask q (ps.getD k 0) os)) (y:=nD 0) (zU (zF (zE rfl) (zF (zD7 (zE rfl) (zE rfl) hk) 51#0)) fun u0 u0 u0 hh=>⟨n,q,_,os,rfl,hi,ho,hn,hol,hh⟩) zx rfl rfl ?_);rw[if_pos rfl,zAL,<-zRr];simp
  cases hr:zDN q os (ps.getD k 0) with
  | false =>
   rw[hr] at t;refine zGG t ⟨.keep 69#0,G2,.refl _,?_,h2⟩;rw[zJ9,hr];simpa using h1
  | true =>
   rw[hr] at t;refine zIT t (zSZ (zFZ (d:=yC (k,ps.length)) rfl h1 (fun Q q'=>zF (yc 41#0 24#0) zL _ (.refl _) _ q') (zRs hl 2#0) ⟨.keep 69#0,_,.refl _,?_,h2.put hf⟩));rw[zK,zJ9,hr];simp
 ·rintro G2 ⟨h1,h2⟩
  rw[bZ,cz] at h1;dsimp only;have e1:zZ (zP zt (zB 3) 12#0) [some (zO n q),some (uD ps),some (uD os),some (nD ps.length),some (.adr f),none] G2 (nD (ps.length+1)):=wQ (i:=(ps.length:Int)) (j:=1) (zE rfl) zx;exact zJ8 (d:=zO (ps.length+1) fun p=>decide (p∈ptL q ps os)) (yc (zF e1 (zF (zEs (n:=ps.length+1) (l:=ptL q ps os) (zE (d:=.adr f) rfl) (.inl h1) zNX zT3 2#0) zL)) 24#0) ⟨G,h2,h⟩
noncomputable def zRt(n:Nat)(q:4#0)(ps:14#0):D:=.tup [zO (ps.length+1) fun p=>decide (p∈ptL q ps 60#0),zO ((yP n ps).length+1) fun p=>decide (p∈ptL q 60#0 ps)]
noncomputable def zDA:wM:=fun ds G R=>∃(n:Nat) (q:4#0) (ps:14#0),ds=[zO n q,uD ps]/\n<=9/\zBy n ps/\zBL n q ps=true/\R (zRt n q ps) G
noncomputable def zEP:yU:=(zV (xIf (zAj (xB (zI yi (zA (zB 0) 30#0)))) (fun u0 u0 u0=>False) yI) (zV (zn (zI yk (zA (zB 0) 30#0)) (gN 2)) (zm (yH (zA (zI zBM (zA (zB 0) (zA (zB 1) 73#0))) (zA (zI zBM (zA (zB 0) (zA (zB 2) 30#0))) zG))))))
theorem zT4{σ:S2}{G:Gp}{t u:zl}{n:Nat}{q:4#0}{ps:14#0}(h:zZ t σ G (zO n q))(h':zZ u σ G (uD ps))(hn:n<=9)(hs:zBy n ps):zZ (zI yi (zA t (zA u zG))) σ G (.bl (zBL n q ps)) :=
 zU (zF h (zF h' zL)) fun u0 u0 u0 hh=>⟨n,q,ps,rfl,hn,hs.2,by have:=hs.len;omega,hs.1,hh⟩
theorem zMP{n:Nat}{q:4#0}{ps:14#0}(hs:zBy n ps)(h:zBL n q ps=true):2<=ps.length/\ps.length+2<=n:=by
 unfold zBL at h;simp only[cW,decide_eq_true_eq] at h;omega
theorem zRu{n:Nat}{ps:14#0}(hs:zBy n ps):yP n 60#0=ps:=by
 have h2:∀ x,x∈yP n 60#0↔x∈ps:=fun x=>by
  unfold yP;simp only[cb,c8,Bool.not_eq_true',decide_eq_false_iff_not];constructor
  ·rintro⟨a,b⟩
   by_cases hx:x∈ps
   ·exact hx
   ·exact absurd ⟨a,hx⟩ b
  ·intro hx
   exact⟨hs.2 x hx,fun z=>z.2 hx⟩
 refine eM.eq_of_pairwise (le:=(·<·)) (fun a b u0 u0 h1 h2=>by omega) (zGc n _) hs.1 ?_;exact(eA ((zGc n _).imp cH) (hs.1.imp cH)).mpr h2
theorem zKA{n:Nat}{ps:14#0}(hs:zBy n ps):(yP n ps).length+ps.length=n:=by
 have:(yP n ps++ps).Perm (bY n):=by
  refine(eA (dq.mpr ⟨(zGc n ps).imp cH,hs.1.imp cH,fun a ha b hb e=>?_⟩) dF).mpr fun x=>?_
  ·subst e
   have:=(cb.mp ha).2;simp[hb] at this
  ·rw[cr,c8]
   constructor
   ·rintro(h | h)
    ·exact zDk h
    ·exact hs.2 x h
   ·intro h
    by_cases hx:x∈ps
    ·exact .inr hx
    ·exact .inl (cb.mpr ⟨c8.mpr h,by simp[hx]⟩)
 have:=this.length_eq;rw[cg,cz] at this;exact this
theorem zP6(ds:List D)(G:Gp)(R:Q2)(h:zDA ds G R):ds.length=2/\zEP (zc R) (zQ ["web","places","others"] ds) G:=by
 obtain⟨n,q,ps,rfl,hn,hs,hb,h⟩:=h;obtain⟨l1,l2⟩:=zMP hs hb;have l3:=zKA hs;refine⟨rfl,?_⟩;unfold zEP;refine zLD (σ:=[some (zO n q),some (uD ps),none]) (zGG (zCx (b:=true) (wI ?_)) ?_)
 ·rw[<-hb];exact zT4 (zE rfl) (zE rfl) hn hs
 ·unfold yI
  have e1:zZ (zI yk (zA (zB 0) 30#0)) [some (zO n q),some (uD ps),none] G (uD 60#0):=zU 41#0 fun u0 u0 u0 hh=>⟨n,q,ps,rfl,by omega,hh⟩
  refine zw (E:=zc R) e1 ?_;show zm _ _ [some (zO n q),some (uD ps),some (uD 60#0)] G;exact zJ8 (d:=zRt n q ps) (yc (zF (zU (zF (zE rfl) 41#0) fun u0 u0 u0 hh=>⟨n,q,ps,yP n ps,rfl,hn,by omega,hs.2,fun x hx=>zDk hx,by omega,hh⟩) (zF (zU (zF (zE rfl) 41#0) fun u0 u0 u0 hh=>⟨n,q,yP n ps,ps,rfl,hn,by omega,fun x hx=>zDk hx,hs.2,by omega,hh⟩) zL)) 24#0) (FgR.of h)
theorem zFB{n:Nat}{q:4#0}(hn:1<=n):(bY n).filter (yA q (n-1))=yj n q:=by
 have hr:(yj n q).Pairwise (·<·):=by
  unfold yj;rw[dM];have nd:(((yY n).filter q).filter fun p=>decide (p.2=n-1)).Pairwise ltP:=((zGK n).filter _).filter _;refine nd.imp_of_mem fun {a b} ha hb lt=>?_;have h1:=of_decide_eq_true (cb.mp ha).2;have h2:=of_decide_eq_true (cb.mp hb).2;rcases lt with lt | ⟨u0,lt⟩
  ·exact lt
  ·omega
 refine eM.eq_of_pairwise (le:=(·<·)) (fun a b u0 u0 h1 h2=>by omega) (dX.sublist List.filter_sublist) hr ?_;refine(eA (dF.filter _) zBd).mpr fun x=>?_;unfold yj;rw[cb,c8,ca];constructor
 ·rintro⟨h1,h2⟩
  unfold yA at h2;simp only[cW,decide_eq_true_eq] at h2;obtain⟨h2,h3⟩:=h2;rw[show min (n-1) x=x by omega,show max (n-1) x=n-1 by omega] at h3;exact⟨(x,n-1),cb.mpr ⟨cb.mpr ⟨zq.mpr ⟨by show x<n-1;omega,by show n-1<n;omega⟩,h3⟩,by simp⟩,rfl⟩
 ·rintro⟨p,hp,rfl⟩
  obtain⟨h1,h2⟩:=cb.mp hp;obtain⟨h3,h4⟩:=cb.mp h1;have h5:=zq.mp h3;have h6:=of_decide_eq_true h2;refine⟨by omega,?_⟩;unfold yA;rw[show min (n-1) p.1=p.1 by omega,show max (n-1) p.1=p.2 by omega];simp only[cW,decide_eq_true_eq];exact⟨by omega,h4⟩
theorem zLE{σ:S2}{G:Gp}{te:zl}{E:yB}{u:yU}(h:te σ G fun u0 G1=>u E σ G1):zV (yo te) u E σ G:=h
noncomputable def yT:wM:=fun ds G R=>∃(n1:Nat) (q1:4#0) (n2:Nat) (q2:4#0),ds=[zO n1 q1,zO n2 q2]/\2<=n1/\2<=n2/\n1+n2<=11/\R (zO (n1+n2-2) fun p=>decide (p∈glF n1 q1 n2 q2)) G
noncomputable def zAN:yU:=(zV (zn (zP 20#0 (zP zp (zB 0) 15#0) 12#0) (gN 2)) (zV (zn (zP 20#0 (zP zt (zB 2) (zP zp (zB 1) 15#0)) 12#0) (gN 3)) (zV (yo (zI yQ (zA (zB 3) (zA (xC (.int 9)) zG)))) (zV (zAi 4 (zg (iV (zP zp (zB 0) 12#0)) wb (xB (zP 25#0 (zP zp (zB 6) 12#0) (zB 2))) (zB 6))) (zV (yo (zMx (zB 4) (zg (iV (zP zp (zB 1) 12#0)) wb (xB (zP 25#0 (zP zp (zB 6) 12#0) (zP 20#0 (zP zp (zB 1) 15#0) 12#0))) (yH (zA (zP zt (zP zp (zB 6) 15#0) (zB 2)) (zA (zP zt (zP zp (zB 6) 12#0) (zB 2)) zG)))))) (zV (yw (iV (zI wG (zA (zB 0) 73#0))) (gN 5) (yo (zMx (zB 4) (zg (iV (zI wG (zA (zB 1) (zA (zP 20#0 (zP zp (zB 1) 15#0) 12#0) zG)))) wb zAA (yH (zA (zB 5) (zA (zP zt (zB 6) (zB 2)) zG))))))) (zm (yH (zA (zB 3) (zA (zd zv (zCk (zA (zB 4) zG))) zG))))))))))
theorem zP7{σ:S2}{G:Gp}{n1 n2:Nat}{q2:4#0}{t u:zl}(h:zZ t σ G (nD (n1-1)))(h':zZ u σ G 153#0)(h1:2<=n1)(h2:2<=n2):zZ (zP 20#0 (zP zt t (zP zp u 15#0)) 12#0) σ G (nD (n1+n2-2)):=by
 have:=wg (g:=fun i j=>.int (i-j)) (wQ (i:=((n1-1:Nat):Int)) (j:=(n2:Int)) h (yr (n:=n2) (q:=q2) h')) (zx (d:=.int 1));rwa [show((n1-1:Nat):Int)+(n2:Int)-1=((n1+n2-2:Nat):Int) by omega] at this
theorem zKB{σ:S2}{G:Gp}{t u:zl}{a b:Nat}{c:Bool}(h:zZ t σ G (nD a))(h':zZ u σ G (nD b))(e:decide (a<b)=c):zZ (zP 25#0 t u) σ G (.bl c):=by
 have:=wg (g:=fun i j=>.bl (decide (i<j))) h h';have e2:decide ((a:Int)<(b:Int))=c:=by rw[<-e];simp
 rw[e2] at this;exact this
theorem zMQ{σ:S2}{G:Gp}{l:132#0}{t:zl}{tc:TT2}{te:zl}(p:4#0)(f:Nat×Nat->D)(h:zZ t σ G (.tup (l.map yC)))(hx:∀ x∈l,PuT tc (σ++[some (yC x)]) G (p x)/\zZ te (σ++[some (yC x)]) G (f x)):PuL (zg (iV t) wb tc te) σ G ((l.filter p).map f):=by
 have c:=wW (σ:=σ) (G:=G) (bd:=wb) (tc:=tc) (te:=te) 80#0 83#0 144#0 (wV h) fun x hx'=>by
  obtain⟨y,hy,rfl⟩:=ca.mp hx';exact⟨rfl,(hx y hy).1,fun u0=>(hx y hy).2⟩
 have e:cj 83#0 (fc 80#0 (l.map yC))=(l.filter p).map f:=by
  rw[e7,cL];rfl
 rw[e] at c;exact c
theorem zP8{n:Nat}{q:4#0}{x:Nat×Nat}(hx:x∈(yY n).filter q):decide (x.2<n-1)=!decide (x.2=n-1):=by
 have:=zq.mp (cb.mp hx).1;rw[cG];simp;omega
theorem zGi(ds:List D)(G:Gp)(R:Q2)(h:yT ds G R):ds.length=2/\zAN (zc R) (zQ ["one","two","ahead","many","ties","place"] ds) G:=by
 obtain⟨n1,q1,n2,q2,rfl,h1,h2,h3,h⟩:=h;refine⟨rfl,?_⟩;unfold zAN;have a1:zZ (zP 20#0 (zP zp (zB 0) 15#0) 12#0) [some (zO n1 q1),some 153#0,none,none,none,none] G (nD (n1-1)):=zC4 (yr (zE rfl)) 2#0;refine zw (E:=zc R) a1 ?_;have a2:zZ (zP 20#0 (zP zt (zB 2) (zP zp (zB 1) 15#0)) 12#0) [some (zO n1 q1),some 153#0,some (nD (n1-1)),none,none,none] G (nD (n1+n2-2)):=zP7 (q2:=q2) (zE rfl) (zE rfl) h1 h2;refine zw (σ:=[some (zO n1 q1),some 153#0,some (nD (n1-1)),none,none,none]) (E:=zc R) a2 ?_;show zV _ _ _ [some (zO n1 q1),some 153#0,some (nD (n1-1)),some (nD (n1+n2-2)),none,none] G;refine zSa (d:=.non) (zU (ds:=[nD (n1+n2-2),nD 9]) (zF (zE rfl) (zF zx zL)) fun u0 u0 u0 q=>⟨n1+n2-2,9,rfl,by omega,q⟩) ?_;have c1:=zMQ (σ:=[some (zO n1 q1),some 153#0,some (nD (n1-1)),some (nD (n1+n2-2)),none,none]) (G:=G) (l:=(yY n1).filter q1) (tc:=(xB (zP 25#0 (zP zp (zB 6) 12#0) (zB 2)))) (te:=zB 6) (fun p=>!decide (p.2=n1-1)) (fun p=>yC p) (zE6 (zE (i:=0) rfl)) fun x hx=>⟨wI (zKB (a:=x.2) (b:=n1-1) (zHd (zE rfl)) (zE rfl) (zP8 hx)),zE rfl⟩
 refine zT2 c1 fun f hf=>?_;show zV _ _ _ [some (zO n1 q1),some 153#0,some (nD (n1-1)),some (nD (n1+n2-2)),some (.adr f),none] (zS G f 118#0);have gf:(zS G f 118#0).m f=some 118#0:=zK;have c2:=zMQ (σ:=[some (zO n1 q1),some 153#0,some (nD (n1-1)),some (nD (n1+n2-2)),some (.adr f),none]) (G:=zS G f 118#0) (l:=(yY n2).filter q2) (tc:=(xB (zP 25#0 (zP zp (zB 6) 12#0) (zP 20#0 (zP zp (zB 1) 15#0) 12#0)))) (te:=(yH (zA (zP zt (zP zp (zB 6) 15#0) (zB 2)) (zA (zP zt (zP zp (zB 6) 12#0) (zB 2)) zG)))) (fun p=>!decide (p.2=n2-1)) (fun p=>yC 37#0) (zE6 (zE (i:=1) rfl)) fun x hx=>⟨wI (zKB (a:=x.2) (b:=n2-1) (zHd (zE rfl)) (zC4 (yr (n:=n2) (q:=q2) (zE rfl)) 2#0) (zP8 hx)),yc (zF (wQ (i:=(x.1:Int)) (j:=((n1-1:Nat):Int)) (zOz (zE rfl)) (zE rfl)) (zF (wQ (i:=(x.2:Int)) (j:=((n1-1:Nat):Int)) (zHd (zE rfl)) (zE rfl)) zL)) 24#0⟩
 have e2:cj (fun p=>yC 37#0) (((yY n2).filter q2).filter fun p=>!decide (p.2=n2-1))=((yL n2 q2).map fun p=>37#0).map yC:=by
  rw[cL];rfl
 rw[e2] at c2;have fl1:(yL n1 q1).length<=36:=zBx (((yq n1).filter _).filter _) (fun p hp=>(by have:=zBe hp;omega:p.1<p.2/\p.2<n1)) 2#0;have fl2:(yL n2 q2).length<=36:=zBx (((yq n2).filter _).filter _) (fun p hp=>(by have:=zBe hp;omega:p.1<p.2/\p.2<n2)) 2#0;refine zLE (zIS rfl gf (fun Q q'=>c2 _ (.refl _) _ q') (by simp only[bZ];omega) ?_);have m4:(zS (zS G f 118#0) f 33#0).m f=some ((yL n1 q1++(yL n2 q2).map fun p=>37#0).map yC):=by rw[zK,cN]
 have sb:Sub G (zS (zS G f 118#0) f 33#0):=(Sub.new hf).put hf;generalize zS (zS G f 118#0) f 33#0=G3 at m4 sb;clear c1 c2 e2 gf;have gd:=zHr (n1:=n1) (q1:=q1) (n2:=n2) (q2:=q2);have gi:=zPu (q1:=q1) (q2:=q2) h1 h2;have nl1:=zC2 (n:=n1) (q:=q1);have nl2:=zC2 (n:=n2) (q:=q2);have fl:(yL n1 q1++(yL n2 q2).map fun p=>37#0).length<=72:=by rw[cg,bZ];omega
 have ar1:∀ {σ:S2} {G:Gp} {t u:zl},zZ t σ G (zO n1 q1)->zZ u σ G (nD (n1-1))->zZ (zI wG (zA t (zA u zG))) σ G (.tup ((yj n1 q1).map nD)):=fun {σ G t u} k k'=>by
  rw[<-zFB 2#0];exact zU (zF k (zF k' zL)) fun u0 u0 u0 q=>⟨n1,q1,n1-1,rfl,by omega,by omega,q⟩
 have ar2:∀ {σ:S2} {G:Gp} {t u:zl},zZ t σ G 153#0->zZ u σ G (nD (n2-1))->zZ (zI wG (zA t (zA u zG))) σ G (.tup ((yj n2 q2).map nD)):=fun {σ G t u} k k'=>by
  rw[<-zFB 2#0];exact zU (zF k (zF k' zL)) fun u0 u0 u0 q=>⟨n2,q2,n2-1,rfl,by omega,by omega,q⟩
 unfold glF at gd gi h;generalize (yL n1 q1++(yL n2 q2).map fun p=>37#0)=F at m4 fl gd gi h;generalize yj n1 q1=N1 at *;generalize yj n2 q2=N2 at *;refine zFj (zCE (zVV (ds:=N1.map nD) (ar1 (zE rfl) (zE rfl)) ?_));refine zAc (fun k G'=>G'.m f=some ((F++(N1.take k).flatMap fun a=>N2.map fun b=>(a,b+(n1-1))).map yC)/\Sub G G') ⟨by simpa using m4,sb⟩ 150#0 ?_ ?_
 ·rintro k x hx G' ⟨k1,k5⟩
  obtain⟨a,ha,rfl⟩:=zBR hx;show yo _ _ [some (zO n1 q1),some 153#0,some (nD (n1-1)),some (nD (n1+n2-2)),some (.adr f),some (nD a)] _;have c3:=zCe (σ:=[some (zO n1 q1),some 153#0,some (nD (n1-1)),some (nD (n1+n2-2)),some (.adr f),some (nD a)]) (G:=G') (bd:=wb) (te:=(yH (zA (zB 5) (zA (zP zt (zB 6) (zB 2)) zG)))) 105#0 144#0 (wi:=(iV (zI wG (zA (zB 1) (zA (zP 20#0 (zP zp (zB 1) 15#0) 12#0) zG))))) (ds:=N2.map nD) (wV (ar2 (zE rfl) (zC4 (yr (n:=n2) (q:=q2) (zE rfl)) 2#0))) fun x hx=>by
   obtain⟨b,hb,rfl⟩:=ca.mp hx;exact⟨rfl,yc (zF (zE rfl) (zF (wQ (i:=(b:Int)) (j:=((n1-1:Nat):Int)) (zE rfl) (zE rfl)) zL)) 24#0⟩
  have e3:cj 105#0 (N2.map nD)=(N2.map fun b=>(a,b+(n1-1))).map yC:=by rw[cL,cL];rfl
  rw[e3] at c3;have fl4:((N1.take k).flatMap fun a=>N2.map fun b=>(a,b+(n1-1))).length<=900:=by
   rw[List.length_flatMap];simp only[bZ];have:((N1.take k).map fun u0=>N2.length).sum=(N1.take k).length*N2.length:=zHs _ _;rw[this,cQ];exact di (Nat.mul_le_mul (show min k N1.length<=11 by omega) (show N2.length<=11 by omega)) 8#0
  refine zSZ (zIS rfl k1 (fun Q q'=>c3 _ (.refl _) _ q') (by simp only[bZ,cg];omega) ⟨.keep 69#0,_,.refl _,?_,k5.put hf⟩);rw[zK,yR ha,List.flatMap_append,<-cN];simp
 ·rintro G' ⟨k1,k5⟩
  rw[bZ,e9] at k1;dsimp only;generalize (F++N1.flatMap fun a=>N2.map fun b=>(a,b+(n1-1)))=FF at *;exact zJ8 (d:=zO (n1+n2-2) fun p=>decide (p∈FF)) (yc (zF (zE rfl) (zF (zEs (zE (i:=4) rfl) (.inl k1) gd gi 2#0) zL)) 24#0) ⟨G,k5,h⟩
section
variable {α:Type}
theorem zRv(X Y:List α):trn (X++Y) X.length=Y++X:=by unfold trn;simp
end
noncomputable def zKC:List Nat->Bool
 | a::b::c::_=>decide (a≠b)&&decide (b≠c)
 | _=>false
theorem zr(r:14#0)(p:Nat×Nat):za r p=zKC (both r p):=by
 unfold za zKC;rfl
theorem four{w:14#0}{i j:Nat}(h:w.length=4)(hm:∀ x∈w,x=i\/x=j)(hi:w.count i=2)(hij:i≠j) :
  w=[i,i,j,j]\/w=[i,j,i,j]\/w=[i,j,j,i]\/w=[j,i,i,j]\/w=[j,i,j,i]\/w=[j,j,i,i]:=by
 match w,h with
 | [a,b,c,d],_ =>
  have ji:¬ j=i:=fun e=>hij e.symm;have ha:=hm a 24#0;have hb:=hm b 24#0;have hc:=hm c 24#0;have hd:=hm d 24#0;rcases ha with rfl | rfl<;>rcases hb with rfl | rfl<;>rcases hc with rfl | rfl<;>rcases hd with rfl | rfl<;>simp_all [d9]
theorem zRw{w:14#0}{i j:Nat}(h:w.length=4)(hm:∀ x∈w,x=i\/x=j)(hi:w.count i=2)(hij:i≠j){k:Nat}(hk:k<=4):zKC (trn w k)=zKC w:=by
 have ji:¬ j=i:=fun e=>hij e.symm;have:k=0\/k=1\/k=2\/k=3\/k=4:=by omega
 rcases four h hm hi hij with rfl | rfl | rfl | rfl | rfl | rfl<;>rcases this with rfl | rfl | rfl | rfl | rfl<;>simp[trn,zKC,hij,ji]
theorem zDB(r:14#0)(i j:Nat):both r (i,j)=both r (j,i):=by
 unfold both;exact eP fun x u0=>Bool.or_comm _ _
theorem zHw{r:14#0}{f:Nat->Nat}{u v:Nat}(hf:∀ x∈r,∀ y∈r,f x=f y->x=y)(hu:u∈r)(hv:v∈r):za (r.map f) (f u,f v)=za r (u,v):=by
 rw[zr,zr];have e:both (r.map f) (f u,f v)=(both r (u,v)).map f:=by
  unfold both;rw[e7];congr 1;refine eP fun x hx=>?_;have h1:(f x=f u)=(x=u):=propext ⟨fun q=>hf x hx u hu q,fun q=>by rw[q]⟩;have h2:(f x=f v)=(x=v):=propext ⟨fun q=>hf x hx v hv q,fun q=>by rw[q]⟩;simp[h1,h2]
 rw[e];have hm:∀ x∈both r (u,v),x∈r:=fun x hx=>(cb.mp hx).1;generalize both r (u,v)=w at hm
 match w,hm with
 | [],_=>rfl
 | [a],_=>rfl
 | [a,b],_=>rfl
 | a::b::c::t,hm =>
  have ma:=hm a 24#0;have mb:=hm b 24#0;have mc:=hm c 24#0;have h1:(f a=f b)=(a=b):=propext ⟨fun q=>hf a ma b mb q,fun q=>by rw[q]⟩;have h2:(f b=f c)=(b=c):=propext ⟨fun q=>hf b mb c mc q,fun q=>by rw[q]⟩;simp[zKC,h1,h2]
noncomputable def nm(od:14#0)(x:Nat):Nat:=od.idxOf x
theorem zP9{od:14#0}(nd:od.Nodup){i:Nat}(hi:i<od.length):nm od (od.getD i 0)=i:=by
 unfold nm;have:od.getD i 0=od[i]:=by simp[d7,hi]
 rw[this];exact fu.idxOf_getElem nd i hi
theorem zUz{od:14#0}{x:Nat}(h:x∈od):nm od x<od.length:=List.idxOf_lt_length_of_mem h
theorem zMR{od:14#0}{x:Nat}(h:x∈od):od.getD (nm od x) 0=x:=by
 have:=zUz h;simp only[d7,ej this,Option.getD_some];exact List.getElem_idxOf this
theorem zT5{od:14#0}(nd:od.Nodup):od.map (nm od)=bY od.length:=by
 apply List.ext_getElem
 ·simp
 ·intro i h1 h2
  rw[bZ] at h1;have:=zP9 nd h1;rw[show od.getD i 0=od[i] by simp[d7,h1]] at this;simp[this]
end K
namespace K
open L3
structure yM (q:Nat×Nat->Bool) (S w:List Nat):Prop where
 cnt:∀ x,w.count x=if x∈S then 2 else 0
 crs:∀ i∈S,∀ j∈S,i≠j->za w (i,j)=yA q i j
theorem yM.mem{q:4#0}{S w:14#0}(h:yM q S w){x:Nat}:x∈w↔x∈S:=by
 rw[<-List.count_pos_iff,h.cnt x];by_cases hx:x∈S<;>simp[hx]
theorem yM.two{q:4#0}{S w:14#0}(h:yM q S w){x:Nat}(hx:x∈S):w.count x=2:=by rw[h.cnt,if_pos hx]
theorem yM.congr{q:4#0}{S T w:14#0}(h:yM q S w)(e:∀ x,x∈S↔x∈T):yM q T w :=
 ⟨fun x=>by rw[h.cnt x];simp only[e x],fun i hi j hj n=>h.crs i ((e i).mpr hi) j ((e j).mpr hj) n⟩
theorem zKD{w:14#0}{p:Nat->Bool}{i j:Nat}(hi:p i=true)(hj:p j=true):both (w.filter p) (i,j)=both w (i,j):=by
 unfold both;rw[List.filter_filter];refine eP fun x u0=>?_;by_cases h1:x=i
 ·subst h1;simp[hi]
 ·by_cases h2:x=j
  ·subst h2;simp[hj]
  ·simp[h1,h2]
theorem zEQ{w:14#0}{p:Nat->Bool}{i j:Nat}(hi:p i=true)(hj:p j=true):za (w.filter p) (i,j)=za w (i,j):=by
 rw[zr,zr,zKD hi hj]
theorem yM.sub{q:4#0}{S T w:14#0}(h:yM q S w)(hT:∀ x∈T,x∈S):yM q T (w.filter fun x=>decide (x∈T)):=by
 refine⟨fun x=>?_,fun i hi j hj n=>?_⟩
 ·by_cases hx:x∈T
  ·rw[if_pos hx,List.count_filter (by simp[hx]),h.two (hT x hx)]
  ·rw[if_neg hx]
   exact cX.mpr fun z=>hx (by simpa using(cb.mp z).2)
 ·rw[zEQ (by simp[hi]) (by simp[hj])]
  exact h.crs i (hT i hi) j (hT j hj) n
theorem zNZ{i j:Nat}(hij:i≠j)(l:14#0):(both l (i,j)).length=l.count i+l.count j:=by
 unfold both
 induction l with
 | nil=>rfl
 | cons a r ih =>
  simp only[eu,d9];by_cases ha:a=i
  ·subst ha
   simp[hij,ih];omega
  ·by_cases hb:a=j
   ·subst hb;simp[ha,ih];omega
   ·simp[ha,hb,ih]
theorem zEu{A B:14#0}{i j:Nat}(hij:i≠j)(hi:(A++B).count i=2)(hj:(A++B).count j=2):za (B++A) (i,j)=za (A++B) (i,j):=by
 rw[zr,zr];have e:both (B++A) (i,j)=trn (both (A++B) (i,j)) (both A (i,j)).length:=by
  have b1:∀ X Y:List Nat,both (X++Y) (i,j)=both X (i,j)++both Y (i,j):=fun X Y=>dW _ _;rw[b1 A B,zRv,b1]
 have l4:=zNZ hij (A++B);have lA:(both A (i,j)).length<=(both (A++B) (i,j)).length:=by
  have b1:both (A++B) (i,j)=both A (i,j)++both B (i,j):=dW _ _;rw[b1,cg];omega
 rw[hi,hj] at l4;rw[e];refine zRw l4 (fun x hx=>?_) ?_ hij 2#0
 ·simpa using(cb.mp hx).2
 ·unfold both;rw[List.count_filter 24#0];exact hi
theorem yM.rot{q:4#0}{S A B:14#0}(h:yM q S (A++B)):yM q S (B++A):=by
 refine⟨fun x=>?_,fun i hi j hj n=>?_⟩
 ·rw[<-h.cnt x,cJ,cJ,Nat.add_comm]
 ·rw[zEu n (h.two hi) (h.two hj)]
  exact h.crs i hi j hj n
theorem yM.begin{q:4#0}{S w:14#0}(h:yM q S w){o:Nat}(ho:o∈S):∃ t,yM q S (o::t):=by
 obtain⟨A,B,rfl⟩:=List.append_of_mem (h.mem.mpr ho);exact⟨B++A,h.rot⟩
theorem zCL(w:14#0)(i j:Nat):za w (i,j)=za w (j,i):=by rw[zr,zr,zDB]
theorem zKE(i:Nat):∀(B l:14#0),i∈B.foldl tog l↔(if i∈l then B.count i%2=0 else B.count i%2=1)
 | [],l=>by by_cases h:i∈l<;>simp[h]
 | x::B,l=>by
  rw[List.foldl_cons,zKE i B (tog l x),d9];by_cases hx:x=i
  ·subst hx
   have e:x∈tog l x↔x∉l:=by rw[zIm];simp
   by_cases h:x∈l
   ·simp only[e,h,not_true,if_false,if_true,beq_self_eq_true];omega
   ·simp only[e,h,not_false_iff,if_true,if_false,beq_self_eq_true];omega
  ·have e:i∈tog l x↔i∈l:=by rw[zIm];simp[Ne.symm hx]
   have:(x==i)=false:=by simpa using hx
   simp only[e,this,bT,if_false,Nat.add_zero]
theorem zMS{A B C:14#0}(i:Nat):(mkW (A++B++C) A.length B.length).testBit i=decide (B.count i%2=1):=by
 rw[(zT1 _ _ _).2 i];unfold odW;have e:((A++B++C).drop A.length).take B.length=B:=by
  rw[dN,List.drop_left];exact List.take_left' rfl
 rw[e,cG,decide_eq_true_eq,decide_eq_true_eq,zKE];simp
theorem zNa{l l':14#0}(h:l.Perm l'):zAC l=zAC l':=by
 unfold zAC
 induction h with
 | nil=>rfl
 | cons x _ ih=>simp only[cU,f8,ih]
 | swap x y l=>simp only[cU,f8];omega
 | trans _ _ h1 h2=>exact h1.trans h2
theorem zDC{l:14#0}(h:l.Nodup)(i:Nat):(zAC l).testBit i=decide (i∈l):=by
 rw[<-zNa (zDi l)];have hs:(zLw l).Pairwise (·<·):=by
  have nd:(zLw l).Nodup:=(zDi l).nodup_iff.mpr h;have:=(zO0 l).and nd;exact this.imp fun⟨a,b⟩=>Nat.lt_of_le_of_ne a b
 rw[zPp _ hs i,cG,decide_eq_true_eq,decide_eq_true_eq];exact(zDi l).mem_iff
theorem zHx{r:14#0}{p W:Nat}{w:14#0}:∀ i,i<=r.length->(w∈zBf r p W i↔∃ a d,1<=a/\a<=i/\a+d<=r.length/\mkW r a d=W/\w=zEt r p a (a+d))
 | 0,_=>by
  constructor
  ·intro h;cases h
  ·rintro⟨a,d,h1,h2,u0⟩;omega
 | i+1,hi=>by
  show w∈zBf r p W i++zFM r p W (i+1) (r.length-i)↔_;rw[cr,zHx i 2#0];unfold zFM;rw[ca];constructor
  ·rintro(⟨a,d,h1,h2,h3,h4,h5⟩ | ⟨d,hd,e⟩)
   ·exact⟨a,d,h1,by omega,h3,h4,h5⟩
   ·obtain⟨h1,h2⟩:=cb.mp hd
    have h1:=c8.mp h1;exact⟨i+1,d,by omega,by omega,by omega,of_decide_eq_true h2,e.symm⟩
  ·rintro⟨a,d,h1,h2,h3,h4,h5⟩
   by_cases h:a<=i
   ·exact .inl ⟨a,d,h1,h,h3,h4,h5⟩
   ·obtain rfl:a=i+1:=by omega
    exact .inr ⟨d,cb.mpr ⟨c8.mpr 2#0,decide_eq_true h4⟩,h5.symm⟩
theorem zMT{r:14#0}{p W:Nat}{w:14#0}:w∈wch r p W↔∃ A B C,A≠[]/\r=A++B++C/\mkW r A.length B.length=W/\w=A++p::(B++p::C):=by
 unfold wch;rw[zHx _ (ce _)];constructor
 ·rintro⟨a,d,h1,u0,h3,h4,rfl⟩
  refine⟨r.take a,(r.drop a).take d,r.drop (a+d),fun z=>?_,?_,?_,?_⟩
  ·have:=congrArg List.length z
   rw[cQ,c6] at this;omega
  ·rw[dN,<-List.drop_drop,dH,dH]
  ·rw[cQ,cQ,dU,d8 2#0,d8 2#0];exact h4
  ·unfold zEt
   rw[show a+d-a=d by omega];simp
 ·rintro⟨A,B,C,hA,rfl,hW,rfl⟩
  have hA':1<=A.length:=by cases A with | nil=>exact absurd rfl hA | cons a t=>simp
  refine⟨A.length,B.length,hA',by simp,by simp,hW,?_⟩;unfold zEt;have e1:(A++B++C).take A.length=A:=by rw[dN];exact List.take_left' rfl
  have e2:((A++B++C).drop A.length).take B.length=B:=by rw[dN,List.drop_left];exact List.take_left' rfl
  have e3:(A++B++C).drop (A.length+B.length)=C:=by rw[<-cg];exact List.drop_left' rfl
  rw[show A.length+B.length-A.length=B.length by omega,e1,e2,e3];simp
theorem zER(A B C:14#0)(p x:Nat):(A++p::(B++p::C)).count x=(A++B++C).count x+if p=x then 2 else 0:=by
 simp only[cJ,d9,beq_iff_eq];split<;>omega
theorem zGj{A B C:14#0}{p:Nat}(h:p∉A++B++C):(A++p::(B++p::C)).filter (fun x=>decide (x≠p))=A++B++C:=by
 have f:∀ X:List Nat,p∉X->X.filter (fun x=>decide (x≠p))=X:=fun X hX=>List.filter_eq_self.mpr fun x hx=>by
  have:x≠p:=fun e=>hX (e▸hx);simp[this]
 simp only[cr,not_or] at h;simp only[dW,eu,f A h.1.1,f B h.1.2,f C h.2];simp
theorem yM.put{q:4#0}{S r w:14#0}{p:Nat}(h:yM q S r)(hp:p∉S)(nd:S.Nodup)(hw:w∈wch r p (zAC (S.filter (yA q p)))):yM q (S++[p]) w/\w.filter (fun x=>decide (x≠p))=r/\w.head?=r.head?:=by
 obtain⟨A,B,C,hA,rfl,hW,rfl⟩:=zMT.mp hw;have hpr:p∉A++B++C:=fun z=>hp (h.mem.mp z);have hf:=zGj hpr;refine⟨⟨fun x=>?_,?_⟩,hf,?_⟩
 ·rw[zER,h.cnt x]
  by_cases hx:p=x
  ·subst hx;simp[hp]
  ·simp[hx,Ne.symm hx]
 ·have old:∀ i∈S,∀ j∈S,i≠j->za (A++p::(B++p::C)) (i,j)=yA q i j:=fun i hi j hj n=>by
   rw[<-h.crs i hi j hj n,<-hf];refine(zEQ ?_ ?_).symm
   ·have:i≠p:=fun e=>hp (e▸hi)
    simp[this]
   ·have:j≠p:=fun e=>hp (e▸hj)
    simp[this]
  have new:∀ j∈S,za (A++p::(B++p::C)) (p,j)=yA q p j:=fun j hj=>by
   have hpj:p≠j:=fun e=>hp (e▸hj);simp only[cr,not_or] at hpr;have c2:(A++p::(B++p::C)).count j=2:=by rw[zER,h.two hj,if_neg hpj]
   rw[zCi hpj hpr.1.1 hpr.1.2 hpr.2 c2];have b1:=zMS (A:=A) (B:=B) (C:=C) j;rw[hW,zDC (nd.filter _) j] at b1;have hB:B.count j<=2:=by have:=h.two hj;simp only[cJ] at this;omega
   have e:(p::B).count j=B.count j:=by rw[d9];simp[hpj]
   rw[e];have e2:decide (B.count j=1)=decide (B.count j%2=1):=by rw[decide_eq_decide];omega
   rw[e2,<-b1,cG,decide_eq_true_eq,cb];simp[hj]
  intro i hi j hj n;rcases cr.mp hi with hi | hi<;>rcases cr.mp hj with hj | hj
  ·exact old i hi j hj n
  ·rw[cf.mp hj,zCL,zGY];exact new i hi
  ·rw[cf.mp hi];exact new j hj
  ·rw[cf.mp hi,cf.mp hj] at n;exact absurd rfl n
 ·cases A with
  | nil=>exact absurd rfl hA
  | cons a t=>rfl
theorem yM.cut{q:4#0}{S t:14#0}{o p:Nat}(h:yM q (S++[p]) (o::t))(hp:p∉S)(nd:S.Nodup)(ho:o≠p):o::t∈wch ((o::t).filter fun x=>decide (x≠p)) p (zAC (S.filter (yA q p))):=by
 obtain⟨A,B,C,e,hA,hB,hC⟩:=zGI (h.two (x:=p) 24#0);have hpr:p∉A++B++C:=by simp[hA,hB,hC]
 rw[e] at h ⊢;rw[zGj hpr];refine zMT.mpr ⟨A,B,C,fun z=>?_,rfl,?_,rfl⟩
 ·subst z
  rw[c9] at e;exact ho (List.cons.inj e).1
 ·refine Nat.eq_of_testBit_eq fun j=>?_
  rw[zMS,zDC (nd.filter _) j,cG,decide_eq_true_eq,decide_eq_true_eq,cb];by_cases hj:j∈S
  ·have hpj:p≠j:=fun z=>hp (z▸hj)
   have c2:(A++p::(B++p::C)).count j=2:=h.two (by simp[hj]);have:=h.crs p 24#0 j (by simp[hj]) hpj;rw[zCi hpj hA hB hC c2] at this;rw[<-this];have e3:(p::B).count j=B.count j:=by rw[d9];simp[hpj]
   rw[zER,if_neg hpj,cJ,cJ] at c2;rw[e3];simp only[hj,true_and,decide_eq_true_eq];omega
  ·simp only[hj,false_and,iff_false]
   have:B.count j=0:=by
    by_cases hpj:p=j
    ·subst hpj;exact cX.mpr hB
    ·have c0:=h.cnt j
     rw[if_neg (by simp[hj,Ne.symm hpj]),zER,if_neg hpj,cJ,cJ] at c0;omega
   omega
noncomputable def zT6(q:4#0)(os:14#0)(k:Nat)(r:14#0):List (List Nat):=wch r (os.getD k 0) (zAC ((os.take k).filter (yA q (os.getD k 0))))
noncomputable def zAO(q:4#0)(os:14#0):Nat->Nat->List Nat->Option (List Nat)
 | 0,_,_=>none
 | d+1,k,r=>if k=os.length then some r else (zT6 q os k r).findSome? (zAO q os d (k+1))
theorem zBB{os:14#0}{k:Nat}(h:k<os.length):os.take (k+1)=os.take k++[os.getD k 0]:=yR (by simp[d7,h])
theorem zES{os:14#0}{k:Nat}(nd:os.Nodup)(h:k<os.length):os.getD k 0∉os.take k:=by
 have:(os.take (k+1)).Nodup:=nd.sublist (List.take_sublist _ _);rw[zBB h] at this;intro z;exact(dq.mp this).2.2 _ z _ (cf.mpr rfl) rfl
theorem zFC{q:4#0}{os:14#0}(nd:os.Nodup):∀(d k:Nat) (r w:14#0),k<=os.length->yM q (os.take k) r->zAO q os d k r=some w->yM q os w
 | 0,_,_,_,_,_,h=>by cases h
 | d+1,k,r,w,hk,ht,h=>by
  unfold zAO at h;by_cases he:k=os.length
  ·rw[if_pos he] at h
   cases h;rw[he,e9] at ht;exact ht
  ·rw[if_neg he] at h
   obtain⟨x,hx,hw⟩:=List.exists_of_findSome?_eq_some h;have hk':k<os.length:=by omega
   refine zFC nd d (k+1) x w 2#0 ?_ hw;rw[zBB hk'];exact(ht.put (zES nd hk') (nd.sublist (List.take_sublist _ _)) hx).1
theorem zKF{os t:14#0}{o:Nat}(nd:os.Nodup){k:Nat}(hk:k<os.length):((o::t).filter fun x=>decide (x∈os.take (k+1))).filter (fun x=>decide (x≠os.getD k 0))=(o::t).filter fun x=>decide (x∈os.take k):=by
 rw[List.filter_filter];refine eP fun x u0=>?_;rw[zBB hk,cG];have:=zES nd hk;simp only[cW,decide_eq_true_eq,cr,cf];constructor
 ·rintro⟨h1,h2 | h2⟩
  ·exact h2
  ·exact absurd h2 h1
 ·intro h
  exact⟨fun z=>this (z▸h),.inl h⟩
theorem zGk{q:4#0}{os t:14#0}{o:Nat}(nd:os.Nodup)(h0:∃ tl,os=o::tl)(ht:yM q os (o::t)):∀(d k:Nat),1<=k->k<=os.length->os.length<d+k->zAO q os d k ((o::t).filter fun x=>decide (x∈os.take k))≠none
 | 0,k,_,h2,h3=>by omega
 | d+1,k,h1,h2,h3=>by
  unfold zAO;by_cases he:k=os.length
  ·rw[if_pos he];simp
  ·rw[if_neg he]
   have hk:k<os.length:=by omega
   have ok:o∈os.take k:=by
    obtain⟨tl,rfl⟩:=h0;cases k with
    | zero=>omega
    | succ k=>simp
   have ok1:o∈os.take (k+1):=by rw[zBB hk];exact dh _ ok
   have op:o≠os.getD k 0:=fun z=>zES nd hk (z▸ok);have T1:=ht.sub (T:=os.take (k+1)) fun x hx=>eK hx;have e1:(o::t).filter (fun x=>decide (x∈os.take (k+1)))=o::t.filter (fun x=>decide (x∈os.take (k+1))):=List.filter_cons_of_pos (by simp[ok1]);have e2:=zKF (t:=t) (o:=o) nd hk;rw[e1] at T1 e2;rw[zBB hk] at T1;have hm:=T1.cut (zES nd hk) (nd.sublist (List.take_sublist _ _)) op;rw[<-zBB hk,e2] at hm;have ih:=zGk nd h0 ht d (k+1) 2#0 2#0 2#0;rw[e1] at ih;intro z;exact ih (List.findSome?_eq_none_iff.mp z _ hm)
noncomputable def Told(n:Nat)(q:4#0):Prop:=∃ w,yM q (bY n) w
theorem zKG(q:4#0)(o:Nat):yM q [o] [o,o]:=by
 refine⟨fun x=>?_,fun i hi j hj n=>?_⟩
 ·rw[d9,d9,List.count_nil]
  by_cases h:o=x
  ·subst h;simp
  ·simp[h,Ne.symm h]
 ·rw[cf.mp hi,cf.mp hj] at n
  exact absurd rfl n
structure Ord (n:Nat) (os:List Nat):Prop where
 nd:os.Nodup
 len:os.length=n
 lt:∀ x∈os,x<n
theorem Ord.mem{n:Nat}{os:14#0}(h:Ord n os)(x:Nat):x∈os↔x∈bY n:=by
 constructor
 ·intro q;exact c8.mpr (h.lt x q)
 ·intro q
  refine Classical.byContradiction fun hx=>?_;have:=(dZ.mpr ⟨hx,h.nd⟩).length_le_of_subset (l₂:=bY n) fun y hy=>by
   rcases cI.mp hy with rfl | hy
   ·exact q
   ·exact c8.mpr (h.lt y hy)
  rw[bV,cz,h.len] at this;omega
theorem zNb{n:Nat}{q:4#0}{o:Nat}{tl:14#0}(h:Ord n (o::tl))(d:Nat)(hd:n<=d) :
  (∀ w,zAO q (o::tl) d 1 [o,o]=some w->yM q (bY n) w)/\(Told n q->zAO q (o::tl) d 1 [o,o]≠none):=by
 constructor
 ·intro w hw
  exact(zFC h.nd d 1 _ w 24#0 (zKG q o) hw).congr h.mem
 ·rintro⟨w,hw⟩
  have hw2:yM q (o::tl) w:=hw.congr fun x=>(h.mem x).symm;obtain⟨t,ht⟩:=hw2.begin (cF ..);have:=zGk h.nd ⟨tl,rfl⟩ ht d 1 (ce _) 24#0 (by rw[h.len];omega);have e:(o::t).filter (fun x=>decide (x∈(o::tl).take 1))=[o,o]:=by
   have c:=ht.two (x:=o) 24#0;have:∀ l:List Nat,l.filter (fun x=>decide (x∈(o::tl).take 1))=cw (l.count o) o:=by
    intro l
    induction l with
    | nil=>rfl
    | cons a r ih =>
     rw[eu,d9,ih];by_cases ha:a=o
     ·subst ha;simp[bU]
     ·have:(a==o)=false:=by simpa using ha
      simp[ha]
   rw[this,c];rfl
  rw[e] at this;exact this
theorem yM.ring{n:Nat}{q:4#0}{w:14#0}(h:yM q (bY n) w):zAJ n w:=by
 refine List.perm_iff_count.mpr fun x=>?_;rw[h.cnt x,cJ,zE7];by_cases hx:x<n
 ·rw[if_pos (c8.mpr hx),if_pos hx]
 ·rw[if_neg (fun z=>hx (c8.mp z)),if_neg hx]
theorem yM.web{n:Nat}{q:4#0}{w:14#0}(h:yM q (bY n) w):zO n (za w)=zO n q:=zGH fun p hp=>by
 obtain⟨i,j⟩:=p;obtain⟨h1,h2⟩:=zq.mp hp;dsimp only at h1 h2;rw[h.crs i (c8.mpr 2#0) j (c8.mpr h2) 2#0];unfold yA;rw[d8 2#0,dS 2#0];simp;omega
theorem zMU{n:Nat}{q:4#0}{w:14#0}(h:zAJ n w)(e:∀ p∈yY n,za w p=q p):yM q (bY n) w:=by
 refine⟨fun x=>?_,fun i hi j hj ne=>?_⟩
 ·by_cases hx:x<n
  ·rw[if_pos (c8.mpr hx),h.count hx]
  ·rw[if_neg (fun z=>hx (c8.mp z))]
   exact cX.mpr fun z=>hx (h.mem.mp z)
 ·have hi:=c8.mp hi
  have hj:=c8.mp hj;unfold yA;rcases Nat.lt_or_gt_of_ne ne with z | z
  ·rw[e (i,j) (zq.mpr ⟨z,hj⟩),d8 2#0,dS 2#0];simp[ne]
  ·rw[zCL,e (j,i) (zq.mpr ⟨z,hi⟩),fF 2#0,Nat.max_eq_left 2#0];simp[ne]
theorem zAn{X:14#0}{i j:Nat}(hi:i∉X)(hj:j∉X):both X (i,j)=[]:=by
 rw[zBw hi,cX.mpr hj];rfl
theorem wm(X Y:14#0)(p:Nat×Nat):both (X++Y) p=both X p++both Y p:=dW _ _
theorem yM.glue{q:4#0}{S T u v:14#0}(hu:yM q S u)(hv:yM q T v)(dj:∀ x∈S,x∉T)(hq:∀ x∈T,∀ y∈S,yA q x y=false):yM q (S++T) (u++v):=by
 have oS:∀ x∈S,x∉v:=fun x hx z=>dj x hx (hv.mem.mp z);have oT:∀ x∈T,x∉u:=fun x hx z=>dj x (hu.mem.mp z) hx;have mix:∀ i∈S,∀ j∈T,za (u++v) (i,j)=false:=fun i hi j hj=>by
  have hij:i≠j:=fun e=>dj i hi (e▸hj);rw[zr,wm,zDB u,zBw (oT j hj),zBw (oS i hi),hu.two hi,hv.two hj];simp[zKC,bU]
 refine⟨fun x=>?_,fun i hi j hj n=>?_⟩
 ·rw[cJ,hu.cnt x,hv.cnt x]
  by_cases h1:x∈S
  ·simp[h1,dj x h1]
  ·by_cases h2:x∈T<;>simp[h1,h2]
 ·rcases cr.mp hi with hi | hi<;>rcases cr.mp hj with hj | hj
  ·rw[zr,wm,zAn (oS i hi) (oS j hj),eG,<-zr]
   exact hu.crs i hi j hj n
  ·rw[mix i hi j hj,zGY,hq j hj i hi]
  ·rw[zCL,mix j hj i hi,hq i hi j hj]
  ·rw[zr,wm,zAn (oT i hi) (oT j hj),c9,<-zr]
   exact hv.crs i hi j hj n
end K
namespace K
open L2 L3 HS
noncomputable def toI(p:Nat×Nat):List Int:=[(p.1:Int),(p.2:Int)]
theorem zMV{p q:Nat×Nat}(h:toI p=toI q):p=q:=by
 unfold toI at h;simp only[List.cons.injEq,and_true] at h;exact Prod.ext 2#0 2#0
theorem zLF(l:132#0):l.map yC=(l.map toI).map tI:=by
 rw[cL];rfl
noncomputable def inB(q:4#0)(i:Nat)(p:Nat×Nat):Bool:=yA q i p.1&&yA q i p.2
noncomputable def tq(q:4#0)(i:Nat)(p:Nat×Nat):Bool:=q p != inB q i p
noncomputable abbrev arL(n:Nat)(q:4#0)(i:Nat):List Nat:=(bY n).filter (yA q i)
noncomputable abbrev zGl(ar:14#0):List (Nat×Nat):=(yY ar.length).map fun p=>(ar.getD p.1 0,ar.getD p.2 0)
theorem zQA{ar:14#0}(hr:ar.Pairwise (·<·)){p:Nat×Nat}:p∈zGl ar↔p.1<p.2/\p.1∈ar/\p.2∈ar:=by
 constructor
 ·intro h
  obtain⟨c,hc,rfl⟩:=ca.mp h;obtain⟨c1,c2⟩:=zq.mp hc;have h1:c.1<ar.length:=by omega
  have e1:ar.getD c.1 0=ar[c.1]:=by simp[d7,h1]
  have e2:ar.getD c.2 0=ar[c.2]:=by simp[d7,c2]
  simp only;rw[e1,e2];exact⟨dY.mp hr c.1 c.2 h1 c2 c1,dA _,dA _⟩
 ·rintro⟨h0,h1,h2⟩
  obtain⟨i,hi,e1⟩:=eh h1;obtain⟨j,hj,e2⟩:=eh h2;have hij:i<j:=by
   rcases Nat.lt_trichotomy i j with z | z | z
   ·exact z
   ·subst z;omega
   ·have:=dY.mp hr j i hj hi z
    omega
  refine ca.mpr ⟨(i,j),zq.mpr ⟨hij,hj⟩,?_⟩;have g1:ar.getD i 0=ar[i]:=by simp[d7,hi]
  have g2:ar.getD j 0=ar[j]:=by simp[d7,hj]
  simp only;rw[g1,g2,e1,e2]
theorem zIo{n i:Nat}{q:4#0}{p:Nat×Nat}:p∈zGl (arL n q i)↔p∈yY n/\inB q i p=true:=by
 rw[zQA (dX.filter _),zq];unfold inB;simp only[cb,c8,cW];constructor
 ·rintro⟨a,⟨b,c⟩,d,e⟩
  exact⟨⟨a,d⟩,c,e⟩
 ·rintro⟨⟨a,d⟩,c,e⟩
  exact⟨a,⟨by omega,c⟩,d,e⟩
theorem zU0{a b:Nat×Nat}(h:ltP a b):ltI (toI b) (toI a)=false:=by
 unfold ltP at h;unfold toI;simp only[ltI];split
 ·split
  ·rfl
  ·simp only[decide_eq_false_iff_not];omega
 ·simp only[decide_eq_false_iff_not];omega
theorem zQB:∀ n,n<10->(yY n).length<=60:=by decide +kernel
theorem zNc{n i:Nat}{q:4#0}{nss:28#0}(nd:nss.Nodup)(hm:∀ x,x∈nss↔¬ (x∈(zGl (arL n q i)).map toI↔x∈((yY n).filter q).map toI))(hs:nss.Pairwise 56#0):nss=((yY n).filter (tq q i)).map toI:=by
 have rs:((yY n).filter (tq q i)).Pairwise ltP:=(zGK n).filter _;refine eM.eq_of_pairwise (fun a b u0 u0 h1 h2=>zEB a b h2 h1) hs ?_ ?_
 ·rw[dM]
  exact rs.imp zU0
 ·have nd2:(((yY n).filter (tq q i)).map toI).Nodup:=by
   unfold fu;rw[dM];refine rs.imp fun h e=>?_;have:=zMV e;subst this;unfold ltP at h;omega
  refine(eA nd nd2).mpr fun x=>?_;rw[hm x];have m1:x∈(zGl (arL n q i)).map toI↔∃ p∈yY n,inB q i p=true/\toI p=x:=by
   rw[ca];constructor
   ·rintro⟨p,hp,e⟩;obtain⟨a,b⟩:=zIo.mp hp;exact⟨p,a,b,e⟩
   ·rintro⟨p,a,b,e⟩;exact⟨p,zIo.mpr ⟨a,b⟩,e⟩
  have m2:∀ f:Nat×Nat->Bool,x∈((yY n).filter f).map toI↔∃ p∈yY n,f p=true/\toI p=x:=fun f=>by
   rw[ca];constructor
   ·rintro⟨p,hp,e⟩;obtain⟨a,b⟩:=cb.mp hp;exact⟨p,a,b,e⟩
   ·rintro⟨p,a,b,e⟩;exact⟨p,cb.mpr ⟨a,b⟩,e⟩
  rw[m1,m2 q,m2 (tq q i)];by_cases hx:∃ p∈yY n,toI p=x
  ·obtain⟨p,hp,rfl⟩:=hx
   have s:∀ f:Nat×Nat->Bool,(∃ p'∈yY n,f p'=true/\toI p'=toI p)↔f p=true:=fun f=>by
    constructor
    ·rintro⟨p',u0,b,e⟩;rw[<-zMV e];exact b
    ·intro b;exact⟨p,hp,b,rfl⟩
   rw[s (inB q i),s q,s (tq q i)];unfold tq;cases q p<;>cases inB q i p<;>simp
  ·constructor
   ·intro h
    exact(h ⟨fun⟨p,a,_,e⟩=>(hx ⟨p,a,e⟩).elim,fun⟨p,a,_,e⟩=>(hx ⟨p,a,e⟩).elim⟩).elim
   ·rintro⟨p,a,u0,e⟩
    exact(hx ⟨p,a,e⟩).elim
noncomputable def yl:wM:=fun ds G R=>∃(n:Nat) (q:4#0) (i:Nat),ds=[zO n q,nD i]/\i<n/\n<=9/\R (zO n (tq q i)) G
noncomputable def zA0:yU:=(zV (zn (yG (yE yg (zA (zI wG (zA (zB 0) 30#0)) zG))) (gN 2)) (zm (yH (zA (zP zp (zB 0) 15#0) (zA (zd zv (xXS 2 (zA (zP zp (zB 0) 12#0) zG))) zG)))))
theorem zVW{σ:S2}{G:Gp}{ta tb:zl}{d:D}{E:yB}(h:zZ ta σ G d)(h':tb σ G fun d2 G2=>[d,d2].length<=sizeLine/\E.rt (.tup [d,d2]) G2):zm (yH (zA ta (zA tb zG))) E σ G:=h G 131#0 _ h'
theorem zT7{σ:S2}{G:Gp}{tl:TL2}{R:Q2}(h:tl σ G fun ds G1=>R (.tup ds) G1):zd zv tl σ G R:=h
theorem zVX{σ:S2}{G:Gp}{t:wU}{j:Nat}{R:119#0}{xs:List D}(h:PuA t σ G [.tup xs])(h':∃(nl nr U:28#0) (q:Addr),xs=nl.map tI/\σ[j]?=some (some (.adr q))/\Ls G q (nr.map tI)/\nl.length<=60/\nr.length<=60/\U.length<=60/\(∀ x∈nl,x∈U)/\(∀ x∈nr,x∈U)/\(∀ x∈U,x≠[]) /\
  ∀ nss':List (List Int),nss'.Nodup->(∀ x,x∈nss'↔¬ (x∈nr↔x∈nl))->nss'.Pairwise 56#0->R (nss'.map tI) G):xXS j t σ G R:=h G 131#0 _ h'
theorem zIp(ds:List D)(G:Gp)(R:Q2)(h:yl ds G R):ds.length=2/\zA0 (zc R) (zQ ["web","place","near"] ds) G:=by
 obtain⟨n,q,i,rfl,hi,hn,h⟩:=h;refine⟨rfl,?_⟩;unfold zA0;have hal:(arL n q i).length<=n:=by
  have:=dB (yA q i) (bY n);sleep 23
 refine yt (zCg (ds:=(zGl (arL n q i)).map yC) (zD0 (zF (zU (d:=.tup ((arL n q i).map nD)) (zF (zE (d:=zO n q) rfl) (zF (zE (d:=nD i) rfl) zL)) fun u0 u0 u0 hh=>⟨n,q,i,rfl,hi,by omega,hh⟩) zL) fun u0 u0 u0 hh=>⟨arL n q i,rfl,by omega,hh⟩) fun l hl=>?_);show zm _ _ [some (zO n q),some (nD i),some (.adr l)] (zS G l ((zGl (arL n q i)).map yC));refine zVW (yr (zE (i:=0) rfl)) (zT7 (zVX (xs:=((yY n).filter q).map yC) (zF (zE6 (zE (i:=0) rfl)) zL) ⟨((yY n).filter q).map toI,(zGl (arL n q i)).map toI,(yY n).map toI,l,zLF _,rfl,.inl (by rw[zK,zLF]),?_,?_,?_,?_,?_,?_,fun nss c1 c2 c3=>⟨by rw[sizeLine_eq];simp,?_⟩⟩))
 ·rw[bZ]
  have:=dB q (yY n);have:=zQB n 2#0;omega
 ·rw[bZ,bZ]
  exact zQB _ 2#0
 ·rw[bZ]
  exact zQB n 2#0
 ·intro x hx
  obtain⟨p,hp,rfl⟩:=ca.mp hx;exact ca.mpr ⟨p,(cb.mp hp).1,rfl⟩
 ·intro x hx
  obtain⟨p,hp,rfl⟩:=ca.mp hx;exact ca.mpr ⟨p,(zIo.mp hp).1,rfl⟩
 ·intro x hx
  obtain⟨p,u0,rfl⟩:=ca.mp hx;unfold toI;simp
 ·rw[zNc c1 c2 c3,<-zLF]
  exact⟨G,.new hl,h⟩
end K
namespace K
open L3
theorem zEv{f:Nat->Nat}{x:Nat}:∀ {w:14#0},(∀ y∈w,f y=f x->y=x)->(w.map f).count (f x)=w.count x
 | [],_=>rfl
 | a::w,h=>by
  rw[cU,d9,d9,zEv fun y hy=>h y (cq _ hy)];by_cases e:a=x
  ·subst e;simp
  ·have:f a≠f x:=fun z=>e (h a (cF ..) z)
   simp[e,this]
theorem yM.map{q q':4#0}{S w:14#0}{f:Nat->Nat}(h:yM q S w)(hf:∀ x∈S,∀ y∈S,f x=f y->x=y)(hq:∀ x∈S,∀ y∈S,x≠y->yA q' (f x) (f y)=yA q x y):yM q' (S.map f) (w.map f):=by
 refine⟨fun z=>?_,fun i hi j hj n=>?_⟩
 ·by_cases hz:z∈S.map f
  ·rw[if_pos hz]
   obtain⟨x,hx,rfl⟩:=ca.mp hz;rw[zEv fun y hy e=>hf y (h.mem.mp hy) x hx e];exact h.two hx
  ·rw[if_neg hz]
   refine cX.mpr fun m=>hz ?_;obtain⟨x,hx,rfl⟩:=ca.mp m;exact ca.mpr ⟨x,h.mem.mp hx,rfl⟩
 ·obtain⟨x,hx,rfl⟩:=ca.mp hi
  obtain⟨y,hy,rfl⟩:=ca.mp hj;have ne:x≠y:=fun e=>n (by rw[e]);rw[zHw (fun a ha b hb e=>hf a (h.mem.mp ha) b (h.mem.mp hb) e) (h.mem.mpr hx) (h.mem.mpr hy),hq x hx y hy ne];exact h.crs x hx y hy ne
theorem yM.congrQ{q q':4#0}{S w:14#0}(h:yM q S w)(e:∀ x∈S,∀ y∈S,x≠y->yA q' x y=yA q x y):yM q' S w :=
 ⟨h.cnt,fun i hi j hj n=>by rw[e i hi j hj n];exact h.crs i hi j hj n⟩
theorem getD_at{ps:14#0}{k:Nat}(h:k<ps.length):ps.getD k 0∈ps:=by simp[d7,h]
theorem zHy{q:4#0}{ps:14#0}(nd:ps.Nodup):(∃ w,yM q ps w)↔Told ps.length (yh q ps):=by
 constructor
 ·rintro⟨w,h⟩
  have:=h.map (q':=yh q ps) (f:=nm ps) (fun x hx y hy e=>by rw[<-zMR hx,<-zMR hy,e]) fun x hx y hy u0=>by rw[zJs,zMR hx,zMR hy]
  rw[zT5 nd] at this;exact⟨_,this⟩
 ·rintro⟨w,h⟩
  have:=h.map (q':=q) (f:=fun k=>ps.getD k 0) (fun x hx y hy e=>by
   have hx:=c8.mp hx;have hy:=c8.mp hy;rw[<-zP9 nd hx,<-zP9 nd hy];exact congrArg _ e) fun x hx y hy u0=>by rw[zJs]
  have e:(bY ps.length).map (fun k=>ps.getD k 0)=ps:=by
   refine List.ext_getElem 24#0 fun i h1 h2=>?_;simp[d7,h2]
  rw[e] at this;exact⟨_,this⟩
theorem Told.sub{n:Nat}{q:4#0}{ps:14#0}(h:Told n q)(nd:ps.Nodup)(hl:∀ x∈ps,x<n):Told ps.length (yh q ps):=by
 obtain⟨w,h⟩:=h;exact(zHy nd).mp ⟨_,h.sub (T:=ps) fun x hx=>c8.mpr (hl x hx)⟩
theorem zLG{n:Nat}{q:4#0}{od:14#0}(h:od.Perm (bY n)):Told od.length (yh q od)↔Told n q:=by
 rw[<-zHy (h.nodup_iff.mpr dF)];constructor
 ·rintro⟨w,hw⟩;exact⟨w,hw.congr fun x=>h.mem_iff⟩
 ·rintro⟨w,hw⟩;exact⟨w,hw.congr fun x=>h.mem_iff.symm⟩
theorem zGm{q:4#0}{p i j:Nat}(h:i≠j):yA (tq q p) i j=(yA q i j != (yA q p i&&yA q p j)):=by
 unfold yA tq inB;rcases Nat.lt_or_gt_of_ne h with z | z
 ·simp only[d8 (eS z),dS (eS z),h]
  simp[yA,h]
 ·simp only[fF (eS z),Nat.max_eq_left (eS z),h]
  simp[yA,h,Bool.and_comm]
theorem zA1{p i j:Nat}(h1:p≠i)(h2:p≠j)(X:14#0):both (p::X) (i,j)=both X (i,j):=by
 unfold both;simp[h1,h2]
theorem zU1{q:4#0}{p i j:Nat}(h:i≠j):yA (tq (tq q p) p) i j=yA q i j:=by
 have pp:∀ k,yA (tq q p) p k=yA q p k:=fun k=>by
  by_cases e:p=k
  ·subst e;unfold yA;simp
  ·rw[zGm e,show yA q p p=false by unfold yA;simp,Bool.false_and,Bool.bne_false]
 rw[zGm h,zGm h,pp,pp];cases yA q i j<;>cases yA q p i<;>cases yA q p j<;>rfl
theorem zIq{L:14#0}:∀ {l:14#0} {x:Nat},(∀ b∈l,spn L b)->spn l x->spn L x
 | [],x,_,h=>by
  have h0:x=0:=h;rw[h0];exact zEJ L
 | b::l,x,hb,h=>by
  rcases h with h | h
  ·exact zIq (fun y hy=>hb y (.tail _ hy)) h
  ·have:=zAd (zIq (fun y hy=>hb y (.tail _ hy)) h) (hb b (.head _))
   rwa [xc] at this
noncomputable def Ind:List Nat->Prop
 | []=>True
 | b::l=>¬ spn l b/\Ind l
theorem zQC:∀ {l:14#0},gdB l->Ind l
 | [],_=>trivial
 | a::l,h=>by
  obtain⟨h1,h2⟩:=fk.mp h.1;refine⟨fun z=>?_,zQC ⟨h2,fun b hb=>h.2 b (.tail _ hb)⟩⟩;have:=zEL (i:=a.log2) (fun b hb=>h1 b hb) z;rw[zFi (h.2 a (.head _))] at this;cases this
theorem zU2{β:Nat}{l:14#0}:∀ {B:14#0},Ind B->(∀ b∈B,spn (β::l) b)->(∀ b∈B,spn l b)\/∃ p B',spn B p/\spn l (p ^^^ β)/\Ind B'/\(∀ b∈B',spn l b)/\B.length=B'.length+1/\∀ x,spn B' x->spn B x
 | [],_,_=>.inl fun b hb=>nomatch hb
 | b::t,hI,hs=>by
  rcases zU2 hI.2 (fun x hx=>hs x (.tail _ hx)) with h | ⟨p,B',h1,h2,h3,h4,h5,h6⟩
  ·rcases hs b (.head _) with hb | hb
   ·refine .inl fun x hx=>?_
    rcases cI.mp hx with rfl | hx
    ·exact hb
    ·exact h x hx
   ·exact .inr ⟨b,t,.inr (by rw[Nat.xor_self];exact zEJ _),hb,hI.2,h,rfl,fun x hx=>.inl hx⟩
  ·right
   rcases hs b (.head _) with hb | hb
   ·refine⟨p,b::B',.inl h1,h2,⟨fun z=>hI.1 (h6 b z),h3⟩,fun x hx=>?_,by simp[h5],fun x hx=>hx.elim (fun z=>.inl (h6 x z)) fun z=>.inr (h6 _ z)⟩
    rcases cI.mp hx with rfl | hx
    ·exact hb
    ·exact h4 x hx
   ·refine⟨p,(b ^^^ p)::B',.inl h1,h2,⟨fun z=>hI.1 ?_,h3⟩,fun x hx=>?_,by simp[h5],fun x hx=>?_⟩
    ·have:=zAd (h6 _ z) h1
     rwa [xc] at this
    ·rcases cI.mp hx with rfl | hx
     ·have:=zAd hb h2
      rwa [show b ^^^ β ^^^ (p ^^^ β)=b ^^^ p by rw[<-eR,xr b β p,xc]] at this
     ·exact h4 x hx
    ·rcases hx with z | z
     ·exact .inl (h6 x z)
     ·refine .inr ?_
      have:=zAd (h6 _ z) h1;rwa [show x ^^^ (b ^^^ p) ^^^ p=x ^^^ b by rw[<-eR,xc]] at this
theorem zT8:∀ {L B:14#0},Ind B->(∀ b∈B,spn L b)->B.length<=L.length
 | [],[],_,_=>ce _
 | [],b::t,hI,hs=>by
  have h0:b=0:=hs b (.head _);rw[h0] at hI;exact absurd (zEJ t) hI.1
 | β::l,B,hI,hs=>by
  rcases zU2 hI hs with h | ⟨p,B',u0,u0,h3,h4,h5,u0⟩
  ·have:=zT8 hI h
   rw[bV];omega
  ·have:=zT8 h3 h4
   rw[bV];omega
theorem zMW:∀(rows:14#0) {free:14#0},gdB free->gdB (rows.foldl wa free)
 | [],_,h=>h
 | r::rows,_,h=>zMW rows (zIf (row:=r) h)
theorem zRx{free:14#0}{row:Nat}{b:Nat}(h:b∈wa free row):b∈free\/b=red free row:=by
 unfold wa at h;split at h
 ·rcases cr.mp h with h | h
  ·exact .inl h
  ·exact .inr (cf.mp h)
 ·exact .inl h
theorem zMX{L:14#0}:∀(rows:14#0) {free:14#0},gdB free->(∀ b∈free,spn L b)->(∀ r∈rows,spn L r)->∀ b∈rows.foldl wa free,spn L b
 | [],_,_,h,_=>h
 | r::rows,free,hg,h,hr=>zMX rows (zIf hg) (fun b hb=>by
   rcases zRx hb with hb | rfl
   ·exact h b hb
   ·have h1:=zIq h (zGb r hg).1
    have:=zAd (hr r (.head _)) h1;rwa [<-eR,Nat.xor_self,Nat.zero_xor] at this) fun x hx=>hr x (.tail _ hx)
theorem zRy{free:14#0}{row x:Nat}(h:spn free x):spn (wa free row) x:=by
 unfold wa;split
 ·exact zEK.mpr (.inl h)
 ·exact h
theorem zQD{free:14#0}{row:Nat}(hg:gdB free):spn (wa free row) row:=by
 unfold wa;split
 ·exact zEK.mpr (.inr (zGb row hg).1)
 ·rename_i hz
  exact(zPo hg).mp (Classical.not_not.mp hz)
theorem zMY:∀(rows:14#0) {free:14#0} {x:Nat},spn free x->spn (rows.foldl wa free) x
 | [],_,_,h=>h
 | _::rows,_,_,h=>zMY rows (zRy h)
theorem zKH:∀(rows:14#0) {free:14#0},gdB free->∀ r∈rows,spn (rows.foldl wa free) r
 | r::rows,free,hg,x,hx=>by
  rcases cI.mp hx with rfl | hx
  ·exact zMY rows (zQD hg)
  ·exact zKH rows (zIf hg) x hx
noncomputable def xs:Nat->(Nat->Bool)->Bool
 | 0,_=>false
 | r+1,f=>xs r f != f r
theorem zBg(r:Nat)(f:Nat->Bool):xs (r+1) f=(xs r f != f r):=rfl
theorem wF:∀ {r:Nat} {f g:Nat->Bool},(∀ k,k<r->f k=g k)->xs r f=xs r g
 | 0,_,_,_=>rfl
 | r+1,f,g,h=>by
  unfold xs;rw[wF (r:=r) fun k hk=>h k 2#0,h r 2#0]
theorem zET:∀ {r:Nat},xs r (fun u0=>false)=false
 | 0=>rfl
 | r+1=>by unfold xs;rw[zET];rfl
theorem zLH:∀(r:Nat) (f g:Nat->Bool),xs r (fun k=>f k != g k)=(xs r f != xs r g)
 | 0,_,_=>rfl
 | r+1,f,g=>by
  unfold xs;rw[zLH r f g];dsimp only;cases xs r f<;>cases xs r g<;>cases f r<;>cases g r<;>rfl
theorem zLI(c:Bool):∀(r:Nat) (f:Nat->Bool),xs r (fun k=>c&&f k)=(c&&xs r f)
 | 0,_=>by unfold xs;cases c<;>rfl
 | r+1,f=>by
  unfold xs;rw[zLI c r f];dsimp only;cases c<;>cases xs r f<;>cases f r<;>rfl
noncomputable def Fac(r:Nat)(ps os:14#0)(g:Nat->Nat->Bool):Prop:=∃ a b:Nat->Nat->Bool,∀ i∈ps,∀ j∈os,g i j=xs r fun k=>a i k&&b k j
theorem zQE:∀ {l:14#0} {x:Nat},spn l x->∃ c:Nat->Bool,∀ j,x.testBit j=xs l.length fun k=>c k&&(l.getD (l.length-1-k) 0).testBit j
 | [],x,h=>by
  have h0:x=0:=h;exact⟨fun u0=>false,fun j=>by rw[h0];simp[xs]⟩
 | b::l,x,h=>by
  have key:∀(y:Nat) (e:Bool),(spn l y)->(∀ j,x.testBit j=(y.testBit j != (e&&b.testBit j)))->∃ c:Nat->Bool,∀ j,x.testBit j=xs (b::l).length fun k=>c k&&((b::l).getD ((b::l).length-1-k) 0).testBit j:=by
   intro y e hy hx;obtain⟨c,hc⟩:=zQE hy;refine⟨fun k=>if k<l.length then c k else e,fun j=>?_⟩;rw[hx j,hc j,bV,zBg];dsimp only;rw[if_neg (cR _),show l.length+1-1-l.length=0 by omega];refine congrArg (· != _) (wF fun k hk=>?_);rw[if_pos hk,show l.length+1-1-k=l.length-1-k+1 by omega];rfl
  rcases h with h | h
  ·exact key x false h fun j=>by simp
  ·exact key (x ^^^ b) true h fun j=>by rw[eF];cases x.testBit j<;>cases b.testBit j<;>rfl
noncomputable def Bs(β:Nat->Nat):Nat->List Nat
 | 0=>[]
 | r+1=>β r::Bs β r
theorem zQF(β:Nat->Nat):∀ r,(Bs β r).length=r
 | 0=>rfl
 | r+1=>by unfold Bs;rw[bV,zQF β r]
theorem zLJ{β:Nat->Nat}:∀ {r:Nat} {x:Nat} {c:Nat->Bool},(∀ j,x.testBit j=xs r fun k=>c k&&(β k).testBit j)->spn (Bs β r) x
 | 0,x,c,h=>Nat.eq_of_testBit_eq fun j=>by rw[h j];simp[xs]
 | r+1,x,c,h=>by
  cases hc:c r with
  | false=>exact .inl (zLJ (c:=c) fun j=>by rw[h j,zBg,hc];simp)
  | true=>exact .inr (zLJ (c:=c) fun j=>by rw[eF,h j,zBg,hc];cases (xs r fun k=>c k&&(β k).testBit j)<;>cases (β r).testBit j<;>rfl)
theorem zDD(n:Nat)(ps:14#0):(yP n ps).Nodup:=dF.sublist List.filter_sublist
theorem zKI{q:4#0}{os:14#0}(h:os.Nodup)(i j:Nat):(mask q i os).testBit j=decide (j∈os/\yA q i j=true):=by
 unfold mask;rw[zDC (h.sublist List.filter_sublist)];simp[cb]
theorem zLK:gdB []:=⟨.nil,fun b hb=>nomatch hb⟩
theorem zDl(n:Nat)(q:4#0)(ps:14#0):Fac (rk n q ps).length ps 60#0 (yA q):=by
 have h:∀ i∈ps,∃ c:Nat->Bool,∀ j,(mask q i 60#0).testBit j=xs (rk n q ps).length fun k=>c k&&((rk n q ps).getD ((rk n q ps).length-1-k) 0).testBit j:=fun i hi=>zQE (zKH _ zLK _ (ca.mpr ⟨i,hi,rfl⟩));refine⟨fun i=>if hi:i∈ps then Classical.choose (h i hi) else fun u0=>false,fun k j=>((rk n q ps).getD ((rk n q ps).length-1-k) 0).testBit j,fun i hi j hj=>?_⟩;have:=Classical.choose_spec (h i hi) j;dsimp only;rw[dif_pos hi,<-this,zKI (zDD n ps)];simp[hj]
theorem zDm{n r:Nat}{q:4#0}{ps:14#0}(h:Fac r ps 60#0 (yA q)):(rk n q ps).length<=r:=by
 obtain⟨a,b,h⟩:=h;have e:∀ k j,(zAC ((yP n ps).filter (b k))).testBit j=decide (j∈yP n ps/\b k j=true):=fun k j=>by
  rw[zDC ((zDD n ps).sublist List.filter_sublist)];simp[cb]
 have d:=zT8 (L:=Bs (fun k=>zAC ((yP n ps).filter (b k))) r) (zQC (zMW (ps.map fun i=>mask q i 60#0) zLK)) (zMX _ zLK (fun b hb=>nomatch hb) fun x hx=>by
  obtain⟨i,hi,rfl⟩:=ca.mp hx;refine zLJ (c:=a i) fun j=>?_;rw[zKI (zDD n ps)];by_cases hj:j∈yP n ps
  ·rw[show decide (j∈yP n ps/\yA q i j=true)=yA q i j by simp[hj],h i hi j hj]
   exact wF fun k u0=>by rw[e];simp[hj]
  ·rw[show decide (j∈yP n ps/\yA q i j=true)=false by simp[hj]]
   refine(Eq.trans (wF fun k u0=>?_) zET).symm;rw[e];simp[hj])
 rwa [zQF] at d
theorem Fac.up{r:Nat}{ps os:14#0}{g:Nat->Nat->Bool}(h:Fac r ps os g):Fac (r+1) ps os g:=by
 obtain⟨a,b,h⟩:=h;refine⟨a,fun k j=>if k<r then b k j else false,fun i hi j hj=>?_⟩;rw[h i hi j hj,zBg];dsimp only;rw[if_neg (cR _),fg,Bool.bne_false];exact wF fun k hk=>by rw[if_pos hk]
theorem Fac.ups{r s:Nat}{ps os:14#0}{g:Nat->Nat->Bool}(h:Fac r ps os g)(hs:r<=s):Fac s ps os g:=by
 obtain⟨d,rfl⟩:=Nat.le.dest hs;clear hs
 induction d with
 | zero=>exact h
 | succ d ih=>exact ih.up
theorem Fac.flip{r:Nat}{ps os:14#0}{g g':Nat->Nat->Bool}(h:Fac r ps os g)(e:∀ i∈ps,∀ j∈os,g' j i=g i j):Fac r os ps g':=by
 obtain⟨a,b,h⟩:=h;exact⟨fun j k=>b k j,fun k i=>a i k,fun j hj i hi=>by
  rw[e i hi j hj,h i hi j hj];exact wF fun k u0=>Bool.and_comm _ _⟩
theorem wn(q:4#0)(i j:Nat):yA q i j=yA q j i:=by
 unfold yA;rw[Nat.min_comm,Nat.max_comm];by_cases h:i=j
 ·subst h;rfl
 ·have h':j≠i:=fun z=>h z.symm
  simp[h,h']
theorem zT9{n:Nat}{q:4#0}{ps:14#0}(h:yP n 60#0=ps):(rk n q 60#0).length=(rk n q ps).length:=by
 have a1:(rk n q 60#0).length<=(rk n q ps).length:=zDm (by rw[h];exact(zDl n q ps).flip fun i u0 j u0=>wn q j i);have f:=zDl n q 60#0;rw[h] at f;have a2:(rk n q ps).length<=(rk n q 60#0).length:=zDm (f.flip fun i u0 j u0=>wn q j i);omega
theorem zMZ(n:Nat)(q:4#0)(ps:14#0):(rk n q ps).length<=ps.length:=by
 have:=zEr (ps.map fun i=>mask q i 60#0) [];simpa[rk] using this
theorem wq{n:Nat}{ps:14#0}{x:Nat}:x∈yP n ps↔x<n/\x∉ps:=by
 unfold yP;simp[cb]
theorem Fac.turn{r n p:Nat}{q:4#0}{ps:14#0}(hp:p<n)(h:Fac r ps 60#0 (yA q)):Fac r ps 60#0 (yA (tq q p)):=by
 obtain⟨a,b,h⟩:=h;have ne:∀ i∈ps,∀ j∈yP n ps,i≠j:=fun i hi j hj z=>(wq.mp hj).2 (z▸hi);by_cases hm:p∈ps
 ·refine⟨fun i k=>a i k != (yA q p i&&a p k),b,fun i hi j hj=>?_⟩
  rw[zGm (ne i hi j hj),h i hi j hj,h p hm j hj,<-zLI,<-zLH];exact wF fun k u0=>by dsimp only;cases a i k<;>cases b k j<;>cases a p k<;>cases yA q p i<;>rfl
 ·have ho:p∈yP n ps:=wq.mpr ⟨hp,hm⟩
  refine⟨a,fun k j=>b k j != (yA q p j&&b k p),fun i hi j hj=>?_⟩;rw[zGm (ne i hi j hj),h i hi j hj,wn q p i,h i hi p ho,Bool.and_comm,<-zLI,<-zLH];exact wF fun k u0=>by dsimp only;cases a i k<;>cases b k j<;>cases b k p<;>cases yA q p j<;>rfl
theorem Fac.same{r:Nat}{ps os:14#0}{g g':Nat->Nat->Bool}(h:Fac r ps os g)(e:∀ i∈ps,∀ j∈os,g' i j=g i j):Fac r ps os g':=by
 obtain⟨a,b,h⟩:=h;exact⟨a,b,fun i hi j hj=>by rw[e i hi j hj,h i hi j hj]⟩
theorem zMa{n p:Nat}{q:4#0}{ps:14#0}(hp:p<n):(rk n (tq q p) ps).length=(rk n q ps).length:=by
 have ne:∀ i∈ps,∀ j∈yP n ps,i≠j:=fun i hi j hj z=>(wq.mp hj).2 (z▸hi);have a1:(rk n (tq q p) ps).length<=(rk n q ps).length:=zDm ((zDl n q ps).turn hp);have a2:(rk n q ps).length<=(rk n (tq q p) ps).length:=zDm (((zDl n (tq q p) ps).turn hp).same fun i hi j hj=>(zU1 (ne i hi j hj)).symm);omega
theorem zQG{n p:Nat}{q:4#0}{ps:14#0}(hp:p<n):zBL n (tq q p) ps=zBL n q ps:=by
 unfold zBL;rw[zMa hp]
theorem zRz{n x:Nat}{q:4#0}{t:14#0}(hx:x<n)(ht:x∉t):(rk n q (x::t)).length<=(rk n q t).length+1/\(rk n q t).length<=(rk n q (x::t)).length+1:=by
 constructor
 ·obtain⟨a,b,h⟩:=zDl n q t
  refine zDm ⟨fun i k=>if i=x then decide (k=(rk n q t).length) else a i k&&decide (k<(rk n q t).length),fun k j=>if k<(rk n q t).length then b k j else yA q x j,fun i hi j hj=>?_⟩;have hj':j∈yP n t:=wq.mpr ⟨(wq.mp hj).1,fun z=>(wq.mp hj).2 (.tail _ z)⟩;rw[zBg];dsimp only;by_cases hi':i=x
  ·subst hi'
   rw[if_pos rfl,decide_eq_true rfl,if_neg (cR _),Bool.true_and];rw[show(xs (rk n q t).length fun k=>(if i=i then decide (k=(rk n q t).length) else a i k&&decide (k<(rk n q t).length))&&if k<(rk n q t).length then b k j else yA q i j)=false from(Eq.trans (wF fun k hk=>by rw[if_pos rfl,decide_eq_false 2#0];rfl) zET)];simp
  ·have hit:i∈t:=(cI.mp hi).resolve_left hi'
   rw[if_neg hi',decide_eq_false (cR _),fg,Bool.false_and,Bool.bne_false,h i hit j hj'];exact wF fun k hk=>by rw[if_neg hi',if_pos hk,decide_eq_true hk,Bool.and_true]
 ·obtain⟨a,b,h⟩:=zDl n q (x::t)
  refine zDm ⟨fun i k=>if k<(rk n q (x::t)).length then a i k else yA q i x,fun k j=>if j=x then decide (k=(rk n q (x::t)).length) else b k j&&decide (k<(rk n q (x::t)).length),fun i hi j hj=>?_⟩;rw[zBg];dsimp only;by_cases hj':j=x
  ·subst hj'
   rw[if_pos rfl,decide_eq_true rfl,if_neg (cR _),Bool.and_true];rw[show(xs (rk n q (j::t)).length fun k=>(if k<(rk n q (j::t)).length then a i k else yA q i j)&&if j=j then decide (k=(rk n q (j::t)).length) else b k j&&decide (k<(rk n q (j::t)).length))=false from(Eq.trans (wF fun k hk=>by rw[if_pos hk,if_pos rfl,decide_eq_false 2#0];simp) zET)];simp
  ·have hjo:j∈yP n (x::t):=wq.mpr ⟨(wq.mp hj).1,fun z=>by
    rcases cI.mp z with z | z
    ·exact hj' z
    ·exact(wq.mp hj).2 z⟩
   rw[if_neg hj',decide_eq_false (cR _),fg,fg,Bool.bne_false,h i (.tail _ hi) j hjo];exact wF fun k hk=>by rw[if_pos hk,if_neg hj',decide_eq_true hk,Bool.and_true]
theorem zFk{q:4#0}{ps os:14#0}{p:Nat×Nat}(h1:p.1<p.2)(h2:p.2<ps.length):decide (p∈ptL q ps os)=yh q ps p:=by
 rw[cG,decide_eq_true_eq];unfold ptL;rw[cr,cb,ca];constructor
 ·rintro(h | ⟨k,hk,rfl⟩)
  ·exact h.2
  ·exact absurd h2 (cR _)
 ·intro h
  exact .inl ⟨zq.mpr ⟨h1,h2⟩,h⟩
theorem zDE{q:4#0}{ps os:14#0}{k:Nat}(hk:k<ps.length):decide ((k,ps.length)∈ptL q ps os)=zDN q os (ps.getD k 0):=by
 rw[cG,decide_eq_true_eq];unfold ptL;rw[cr,cb,ca];constructor
 ·rintro(h | ⟨k',hk',e⟩)
  ·exact absurd (zq.mp h.1).2 (cR _)
  ·rw[<-(Prod.mk.inj e).1]
   exact(cb.mp hk').2
 ·intro h
  exact .inr ⟨k,cb.mpr ⟨c8.mpr hk,h⟩,rfl⟩
theorem zFl{q:4#0}{os:14#0}{i:Nat}:zDN q os i=true↔∃ j∈os,yA q i j=true:=by
 unfold zDN;cases h:os.filter (yA q i) with
 | nil =>
  refine Iff.intro (fun z=>by simp at z) (fun⟨j,hj,e⟩=>?_);have:j∈os.filter (yA q i):=cb.mpr ⟨hj,e⟩;rw[h] at this;cases this
 | cons a r =>
  refine⟨fun u0=>?_,fun u0=>rfl⟩;have:a∈os.filter (yA q i):=by rw[h];exact .head _
  exact⟨a,(cb.mp this).1,(cb.mp this).2⟩
theorem zEU{n:Nat}{q:4#0}{a:Nat}:a∈yj (n+1) q↔a<n/\q (a,n)=true:=by
 unfold yj;rw[ca];constructor
 ·rintro⟨p,hp,rfl⟩
  obtain⟨h1,h2⟩:=cb.mp hp;obtain⟨h3,h4⟩:=cb.mp h1;have h5:=zq.mp h3;have h6:p.2=n:=of_decide_eq_true h2;obtain⟨u,v⟩:=p;dsimp only at h5 h6 ⊢;subst h6;exact⟨h5.1,h4⟩
 ·rintro⟨h1,h2⟩
  exact⟨(a,n),cb.mpr ⟨cb.mpr ⟨zq.mpr ⟨h1,Nat.lt_succ_self n⟩,h2⟩,decide_eq_true rfl⟩,rfl⟩
theorem zIr{n:Nat}{q:4#0}{p:Nat×Nat}:p∈yL (n+1) q↔p.1<p.2/\p.2<n/\q p=true:=by
 unfold yL;rw[cb,cb,zq];constructor
 ·rintro⟨⟨⟨h1,h2⟩,h3⟩,h4⟩
  have h5:¬ p.2=n:=by simpa using h4
  exact⟨h1,by omega,h3⟩
 ·rintro⟨h1,h2,h3⟩
  exact⟨⟨⟨h1,by omega⟩,h3⟩,by
   have:¬ p.2=n:=by omega
   simpa using this⟩
noncomputable abbrev glQ(i:Nat)(q1:4#0)(j:Nat)(q2:4#0):Nat×Nat->Bool:=fun p=>decide (p∈glF (i+1) q1 (j+1) q2)
theorem zIs{i j:Nat}{q1 q2:4#0}{p:Nat×Nat}:p∈glF (i+1) q1 (j+1) q2↔(p.1<p.2/\p.2<i/\q1 p=true)\/(∃ a b,a<b/\b<j/\q2 (a,b)=true/\p=(a+i,b+i))\/∃ a b,a<i/\b<j/\q1 (a,i)=true/\q2 (b,j)=true/\p=(a,b+i):=by
 unfold glF;rw[cr,cr,zIr,ca,List.mem_flatMap];constructor
 ·rintro((h | ⟨x,hx,rfl⟩) | ⟨a,ha,h⟩)
  ·exact .inl h
  ·obtain⟨h1,h2,h3⟩:=zIr.mp hx
   exact .inr (.inl ⟨x.1,x.2,h1,h2,h3,rfl⟩)
  ·obtain⟨b,hb,rfl⟩:=ca.mp h
   obtain⟨h1,h2⟩:=zEU.mp ha;obtain⟨h3,h4⟩:=zEU.mp hb;exact .inr (.inr ⟨a,b,h1,h3,h2,h4,rfl⟩)
 ·rintro(h | ⟨a,b,h1,h2,h3,rfl⟩ | ⟨a,b,h1,h2,h3,h4,rfl⟩)
  ·exact .inl (.inl h)
  ·exact .inl (.inr ⟨(a,b),zIr.mpr ⟨h1,h2,h3⟩,rfl⟩)
  ·exact .inr ⟨a,zEU.mpr ⟨h1,h3⟩,ca.mpr ⟨b,zEU.mpr ⟨h2,h4⟩,rfl⟩⟩
theorem zSb{i j:Nat}{q1 q2:4#0}{p:Nat×Nat}(h1:p.1<p.2)(h2:p.2<i):glQ i q1 j q2 p=q1 p:=by
 rw[cG,decide_eq_true_eq,zIs];constructor
 ·rintro(h | ⟨a,b,u0,u0,u0,rfl⟩ | ⟨a,b,u0,u0,u0,u0,rfl⟩)
  ·exact h.2.2
  ·dsimp only at h2;omega
  ·dsimp only at h2;omega
 ·intro h
  exact .inl ⟨h1,h2,h⟩
theorem zSc{i j a b:Nat}{q1 q2:4#0}(h1:a<b)(h2:b<j):glQ i q1 j q2 (a+i,b+i)=q2 (a,b):=by
 rw[cG,decide_eq_true_eq,zIs];constructor
 ·rintro(h | ⟨c,d,u0,u0,h,e⟩ | ⟨c,d,h3,u0,u0,u0,e⟩)
  ·have:=h.2.1;dsimp only at this;omega
  ·have e1:=(Prod.mk.inj e).1
   have e2:=(Prod.mk.inj e).2;rw[show a=c by omega,show b=d by omega];exact h
  ·have e1:=(Prod.mk.inj e).1;omega
 ·intro h
  exact .inr (.inl ⟨a,b,h1,h2,h,rfl⟩)
theorem zLL{i j a b:Nat}{q1 q2:4#0}(h1:a<i)(h2:b<j):glQ i q1 j q2 (a,b+i)=(q1 (a,i)&&q2 (b,j)):=by
 rw[cG,decide_eq_true_eq,zIs,cW];constructor
 ·rintro(h | ⟨c,d,u0,u0,h,e⟩ | ⟨c,d,u0,u0,h3,h4,e⟩)
  ·have:=h.2.1;dsimp only at this;omega
  ·have e1:=(Prod.mk.inj e).1;omega
  ·have e1:=(Prod.mk.inj e).1
   have e2:=(Prod.mk.inj e).2;rw[show a=c by omega,show b=d by omega];exact⟨h3,h4⟩
 ·rintro⟨h3,h4⟩
  exact .inr (.inr ⟨a,b,h1,h2,h3,h4,rfl⟩)
theorem zR0{ps os:14#0}{g:Nat->Nat->Bool}(h:Fac 1 ps os g):∃ a b:Nat->Bool,∀ i∈ps,∀ j∈os,g i j=(a i&&b j):=by
 obtain⟨a,b,h⟩:=h;exact⟨fun i=>a i 0,fun j=>b 0 j,fun i hi j hj=>by
  rw[h i hi j hj,zBg];show(false != (a i 0&&b 0 j))=_;rw[Bool.false_bne]⟩
theorem zKJ{q:4#0}{ps os:14#0}(h:Fac 1 ps os (yA q)){x y:Nat}(hx:x∈ps)(hy:y∈os):(zDN q os x&&zDN q ps y)=yA q x y:=by
 obtain⟨a,b,h⟩:=zR0 h;rw[cG,cW,zFl,zFl];constructor
 ·rintro⟨⟨j,hj,e1⟩,⟨i,hi,e2⟩⟩
  rw[h x hx j hj,cW] at e1;rw[wn,h i hi y hy,cW] at e2;rw[h x hx y hy,e1.1,e2.2];rfl
 ·intro e
  exact⟨⟨y,hy,e⟩,⟨x,hx,by rw[wn];exact e⟩⟩
theorem zEw{ps os:14#0}{k:Nat}(h:k<ps.length):(ps++os).getD k 0=ps.getD k 0:=by
 simp[d7,cT h]
theorem zIt{ps os:14#0}{k:Nat}:(ps++os).getD (k+ps.length) 0=os.getD k 0:=by
 simp[d7,de]
theorem zGn{q:4#0}{ps os:14#0}(h:Fac 1 ps os (yA q)){p:Nat×Nat}(hp:p∈yY (ps.length+os.length)):glQ ps.length (fun p=>decide (p∈ptL q ps os)) os.length (fun p=>decide (p∈ptL q os ps)) p=yh q (ps++os) p:=by
 obtain⟨u,v⟩:=p;obtain⟨h1,h2⟩:=zq.mp hp;dsimp only at h1 h2;by_cases hv:v<ps.length
 ·rw[zSb h1 hv,zFk h1 hv]
  unfold yh;dsimp only;rw[zEw hv,zEw 2#0]
 ·obtain⟨b,rfl⟩:∃ b,v=b+ps.length:=⟨v-ps.length,by omega⟩
  have hb:b<os.length:=by omega
  by_cases hu:u<ps.length
  ·rw[zLL hu hb,zDE hu,zDE hb,zKJ h (getD_at hu) (getD_at hb)]
   unfold yh;dsimp only;rw[zEw hu,zIt]
  ·obtain⟨a,rfl⟩:∃ a,u=a+ps.length:=⟨u-ps.length,by omega⟩
   rw[zSc 2#0 hb,zFk (by dsimp only;omega) hb];unfold yh;dsimp only;rw[zIt,zIt]
noncomputable def glW(i:Nat)(A B C A' B' C':14#0):List Nat:=((B++B'.map (·+i))++(C++A))++(C'++A').map (·+i)
theorem zBz{x y:Nat}:∀ {X:14#0},y∉X->both X (x,y)=cw (X.count x) x
 | [],_=>rfl
 | a::X,h=>by
  have ha:a≠y:=fun e=>h (e▸.head _);have ih:=zBz (x:=x) (fun z=>h (.tail _ z):y∉X);unfold both at ih ⊢;rw[eu,d9];by_cases e:a=x
  ·subst e
   simp[ih,bU]
  ·simp[e,ha,ih]
theorem zUA{x y:Nat}(hxy:x≠y){W1 W2 W3 W4:14#0}(h1:y∉W1)(h3:y∉W3)(h2:x∉W2)(h4:x∉W4)(cx:W1.count x+W3.count x=2)(cy:W2.count y+W4.count y=2):za (((W1++W2)++W3)++W4) (x,y)=(decide (W1.count x=1)&&decide (W2.count y=1)):=by
 rw[zr,wm,wm,wm,zBz h1,zBz h3,zDB W2,zDB W4,zBz h2,zBz h4];have e3:W3.count x=2-W1.count x:=by omega
 have e4:W4.count y=2-W2.count y:=by omega
 have b1:W1.count x<=2:=by omega
 have b2:W2.count y<=2:=by omega
 rw[e3,e4];generalize W1.count x=a at b1 ⊢;generalize W2.count y=b at b2 ⊢;have yx:y≠x:=fun e=>hxy e.symm;rcases(by omega:a=0\/a=1\/a=2) with rfl | rfl | rfl<;>rcases(by omega:b=0\/b=1\/b=2) with rfl | rfl | rfl<;>simp[zKC,bU,hxy,yx]
theorem zEx{i v:Nat}{X:14#0}:(X.map (·+i)).count (v+i)=X.count v:=zEv (f:=(·+i)) fun y u0 e=>Nat.add_right_cancel e
theorem zBN{i x:Nat}{X:14#0}(h:x<i):x∉X.map (·+i):=fun z=>by
 obtain⟨y,u0,e⟩:=ca.mp z;omega
theorem yM.glued{i j:Nat}{A B C A' B' C':14#0}{q1 q2:4#0}(h1:yM q1 (bY (i+1)) (A++i::(B++i::C)))(nA:i∉A)(nB:i∉B)(nC:i∉C)(h2:yM q2 (bY (j+1)) (A'++j::(B'++j::C')))(nA':j∉A')(nB':j∉B')(nC':j∉C'):yM (glQ i q1 j q2) (bY (i+j)) (glW i A B C A' B' C'):=by
 have lt:∀ {i:Nat} {A B C:14#0} {q:4#0},yM q (bY (i+1)) (A++i::(B++i::C))->i∉A->i∉B->i∉C->(∀ x,x<i->A.count x+B.count x+C.count x=2)/\∀ x,i<=x->x∉A/\x∉B/\x∉C:=by
  intro i A B C q h nA nB nC;refine⟨fun x hx=>?_,fun x hx=>?_⟩
  ·have:=h.two (x:=x) (c8.mpr 2#0)
   rw[zER,if_neg 2#0,cJ,cJ] at this;omega
  ·have key:x∈A++i::(B++i::C)->x=i:=fun z=>by
    have:=c8.mp (h.mem.mp z);omega
   refine⟨fun z=>nA ?_,fun z=>nB ?_,fun z=>nC ?_⟩<;>rw[<-key (by simp[z])]<;>exact z
 obtain⟨c1,o1⟩:=lt h1 nA nB nC;obtain⟨c2,o2⟩:=lt h2 nA' nB' nC';refine⟨fun x=>?_,?_⟩
 ·unfold glW
  simp only[cJ,cN];by_cases hx:x<i
  ·rw[cX.mpr (zBN (X:=B') hx),cX.mpr (zBN (X:=C') hx),cX.mpr (zBN (X:=A') hx),if_pos (c8.mpr 2#0)]
   have:=c1 x hx;omega
  ·obtain⟨v,rfl⟩:∃ v,x=v+i:=⟨x-i,by omega⟩
   obtain⟨z1,z2,z3⟩:=o1 (v+i) 2#0;rw[zEx,zEx,zEx,cX.mpr z1,cX.mpr z2,cX.mpr z3];by_cases hv:v<j
   ·rw[if_pos (c8.mpr 2#0)]
    have:=c2 v hv;omega
   ·obtain⟨y1,y2,y3⟩:=o2 v 2#0
    rw[cX.mpr y1,cX.mpr y2,cX.mpr y3,if_neg (fun z=>by have:=c8.mp z;omega)]
 ·have lolo:∀ x y,x<y->y<i->za (glW i A B C A' B' C') (x,y)=yA (glQ i q1 j q2) x y:=fun x y hxy hy=>by
   have e0:yA (glQ i q1 j q2) x y=yA q1 x y:=by
    unfold yA;rw[d8 2#0,dS 2#0];have:=zSb (j:=j) (q1:=q1) (q2:=q2) (p:=(x,y)) hxy hy;rw[this]
   rw[e0,<-h1.crs x (c8.mpr 2#0) y (c8.mpr 2#0) 2#0];have r:=zEu (A:=A) (B:=B++C) (i:=x) (j:=y) 2#0 (by simp only[cJ];have:=c1 x 2#0;omega) (by simp only[cJ];have:=c1 y hy;omega);rw[zr,zr] at r;rw[zr,zr];unfold glW;simp only[wm,cN] at r ⊢;rw[zAn (zBN 2#0) (zBN hy),zAn (zBN 2#0) (zBN hy),zAn (zBN 2#0) (zBN hy),zA1 2#0 2#0,wm,zA1 2#0 2#0];simpa[dN] using r
  have hihi:∀ x y,x<y->y<j->za (glW i A B C A' B' C') (x+i,y+i)=yA (glQ i q1 j q2) (x+i) (y+i):=fun x y hxy hy=>by
   have e0:yA (glQ i q1 j q2) (x+i) (y+i)=yA q2 x y:=by
    unfold yA;rw[d8 2#0,dS 2#0,d8 2#0,dS 2#0];have:=zSc (i:=i) (q1:=q1) (q2:=q2) hxy hy;rw[this,decide_eq_true (show x+i≠y+i by omega),decide_eq_true (show x≠y by omega)]
   rw[e0,<-h2.crs x (c8.mpr 2#0) y (c8.mpr 2#0) 2#0];have cx:=c2 x 2#0;have cy:=c2 y hy;have m:∀ z,A'.count z+B'.count z+C'.count z=2->z∈(B'++C')++A':=fun z hz=>by
    refine List.count_pos_iff.mp ?_;simp only[cJ];omega
   have cm:=zHw (r:=(B'++C')++A') (f:=(·+i)) (u:=x) (v:=y) (fun a u0 b u0 e=>Nat.add_right_cancel e) (m x cx) (m y cy);have r:=zEu (A:=A') (B:=B'++C') (i:=x) (j:=y) 2#0 (by simp only[cJ];omega) (by simp only[cJ];omega);rw[r] at cm;rw[zr,zr] at cm;rw[zr,zr];obtain⟨x1,x2,x3⟩:=o1 (x+i) 2#0;obtain⟨y1,y2,y3⟩:=o1 (y+i) 2#0;unfold glW;simp only[wm,cN] at cm ⊢;rw[zAn x1 y1,zAn x2 y2,zAn x3 y3,zA1 2#0 2#0,wm,zA1 2#0 2#0];simpa[dN] using cm
  have lohi:∀ x v,x<i->v<j->za (glW i A B C A' B' C') (x,v+i)=yA (glQ i q1 j q2) x (v+i):=fun x v hx hv=>by
   have e0:yA (glQ i q1 j q2) x (v+i)=(yA q1 x i&&yA q2 v j):=by
    unfold yA;rw[d8 2#0,dS 2#0,d8 2#0,dS 2#0,d8 2#0,dS 2#0];have:=zLL (q1:=q1) (q2:=q2) hx hv;rw[this,decide_eq_true (show x≠v+i by omega),decide_eq_true (show x≠i by omega),decide_eq_true (show v≠j by omega)];simp
   have f1:yA q1 x i=decide (B.count x=1):=by
    rw[wn,<-h1.crs i (c8.mpr 2#0) x (c8.mpr 2#0) 2#0,zCi 2#0 nA nB nC (h1.two (c8.mpr 2#0)),d9];have:¬ i=x:=by omega
    simp[this]
   have f2:yA q2 v j=decide (B'.count v=1):=by
    rw[wn,<-h2.crs j (c8.mpr 2#0) v (c8.mpr 2#0) 2#0,zCi 2#0 nA' nB' nC' (h2.two (c8.mpr 2#0)),d9];have:¬ j=v:=by omega
    simp[this]
   obtain⟨x1,x2,x3⟩:=o1 (v+i) 2#0;have d1:=c1 x hx;have d2:=c2 v hv;rw[e0,f1,f2];unfold glW;rw[zUA 2#0 x2 (fun z=>(cr.mp z).elim x3 x1) (zBN hx) (zBN hx) (by rw[cJ];omega) (by rw[zEx,zEx,cJ];omega),zEx]
  have all:∀ x y,x<y->y<i+j->za (glW i A B C A' B' C') (x,y)=yA (glQ i q1 j q2) x y:=fun x y hxy hy=>by
   by_cases h:y<i
   ·exact lolo x y hxy h
   ·obtain⟨v,rfl⟩:∃ v,y=v+i:=⟨y-i,by omega⟩
    by_cases h':x<i
    ·exact lohi x v h' 2#0
    ·obtain⟨u,rfl⟩:∃ u,x=u+i:=⟨x-i,by omega⟩
     exact hihi u v 2#0 2#0
  intro x hx y hy ne;have hx:=c8.mp hx;have hy:=c8.mp hy;by_cases h:x<y
  ·exact all x y h hy
  ·rw[zCL,wn]
   exact all y x 2#0 hx
theorem zNd{i j:Nat}{q1 q2:4#0}(hi:2<=i)(hj:2<=j):zBL (i+j) (glQ i q1 j q2) (bY i)=true:=by
 unfold zBL;rw[cz,decide_eq_true hi,decide_eq_true (show i+2<=i+j by omega)];refine decide_eq_true (zDm ⟨fun x u0=>q1 (x,i),fun u0 y=>q2 (y-i,j),fun x hx y hy=>?_⟩);have hx:=c8.mp hx;obtain⟨hy,hn⟩:=wq.mp hy;have hy':i<=y:=Nat.le_of_not_lt fun z=>hn (c8.mpr z);obtain⟨v,rfl⟩:∃ v,y=v+i:=⟨y-i,by omega⟩
 rw[zBg];show _=(false != _)
 rw[Bool.false_bne];dsimp only;rw[Nat.add_sub_cancel];unfold yA;rw[d8 2#0,dS 2#0,decide_eq_true (show x≠v+i by omega)];have:=zLL (q1:=q1) (q2:=q2) hx (show v<j by omega);rw[this,Bool.true_and]
theorem Told.same{n:Nat}{q q':4#0}(h:Told n q)(e:∀ p∈yY n,q' p=q p):Told n q':=by
 obtain⟨w,h⟩:=h;refine⟨w,h.congrQ fun x hx y hy ne=>?_⟩;have hx:=c8.mp hx;have hy:=c8.mp hy;unfold yA;rw[e _ (zq.mpr ⟨by dsimp only;omega,by dsimp only;omega⟩)]
theorem zHz{n:Nat}{q:4#0}{ps os:14#0}(h:Told n q)(hf:Fac 1 ps os (yA q))(nd:(ps++os).Nodup)(hl:∀ x∈ps++os,x<n):Told (ps.length+1) fun p=>decide (p∈ptL q ps os):=by
 have ndp:ps.Nodup:=(dq.mp nd).1;by_cases hb:∃ x∈ps,∃ b∈os,yA q x b=true
 ·obtain⟨x,hx,b,hb,e⟩:=hb
  have hnb:b∉ps:=fun z=>(dq.mp nd).2.2 b z b hb rfl;have s:=Told.sub (ps:=ps++[b]) h (dq.mpr ⟨ndp,f9 _ b,fun a ha c hc=>by rw[cf.mp hc];exact fun z=>hnb (z▸ha)⟩) (fun y hy=>hl y (by
   rcases cr.mp hy with hy | hy
   ·exact dh _ hy
   ·rw[cf.mp hy];exact cS _ hb))
  rw[cg,List.length_singleton] at s;refine s.same fun p hp=>?_;obtain⟨u,v⟩:=p;obtain⟨h1,h2⟩:=zq.mp hp;dsimp only at h1 h2;by_cases hv:v<ps.length
  ·rw[zFk h1 hv]
   unfold yh;dsimp only;rw[zEw hv,zEw 2#0]
  ·have:v=ps.length:=by omega
   subst this;rw[zDE h1];unfold yh;dsimp only;rw[zEw h1,show(ps++[b]).getD ps.length 0=b by have:=zIt (ps:=ps) (os:=[b]) (k:=0);rw[Nat.zero_add] at this;rw[this];rfl];have hu:=getD_at h1;have r:=zKJ hf hu hb;have rb:zDN q ps b=true:=zFl.mpr ⟨x,hx,by rw[wn];exact e⟩;rw[rb,Bool.and_true] at r;exact r
 ·have s:=Told.sub (ps:=ps) h ndp (fun y hy=>hl y (dh _ hy))
  obtain⟨w,s⟩:=s;have off:∀ k,k<ps.length->zDN q os (ps.getD k 0)=false:=fun k hk=>by
   cases hr:zDN q os (ps.getD k 0) with
   | false=>rfl
   | true =>
    obtain⟨b,hb',e⟩:=zFl.mp hr;exact absurd ⟨_,getD_at hk,b,hb',e⟩ hb
  have s':yM (fun p=>decide (p∈ptL q ps os)) (bY ps.length) w:=s.congrQ fun x hx y hy ne=>by
   have hx:=c8.mp hx;have hy:=c8.mp hy;unfold yA;dsimp only;rw[zFk (by dsimp only;omega) (by dsimp only;omega)]
  have g:=s'.glue (zKG (fun p=>decide (p∈ptL q ps os)) ps.length) (fun x hx z=>by rw[cf.mp z] at hx;exact absurd (c8.mp hx) (cR _)) (fun x hx y hy=>by
   have hy:=c8.mp hy;rw[cf.mp hx];unfold yA;rw[fF 2#0,Nat.max_eq_left 2#0];dsimp only;rw[zDE hy,off y hy,fg])
  exact⟨_,g.congr fun x=>by
   rw[cr,cf,c8,c8];omega⟩
theorem zLM{n:Nat}{q:4#0}{ps os:14#0}(hf:Fac 1 ps os (yA q))(hp:(ps++os).Perm (bY n)):Told n q↔Told (ps.length+1) (fun p=>decide (p∈ptL q ps os))/\Told (os.length+1) (fun p=>decide (p∈ptL q os ps)):=by
 have nd:(ps++os).Nodup:=hp.nodup_iff.mpr dF;have hl:∀ x∈ps++os,x<n:=fun x hx=>c8.mp (hp.mem_iff.mp hx);constructor
 ·intro h
  refine⟨zHz h hf nd hl,zHz h (hf.flip fun i u0 j u0=>wn q j i) ?_ fun x hx=>hl x ?_⟩
  ·exact(List.perm_append_comm.nodup_iff).mp nd
  ·rcases cr.mp hx with hx | hx
   ·exact cS _ hx
   ·exact dh _ hx
 ·rintro⟨⟨w1,t1⟩,⟨w2,t2⟩⟩
  obtain⟨A,B,C,rfl,nA,nB,nC⟩:=zGI (t1.two (x:=ps.length) (c8.mpr 2#0));obtain⟨A',B',C',rfl,nA',nB',nC'⟩:=zGI (t2.two (x:=os.length) (c8.mpr 2#0));have g:Told (ps.length+os.length) _:=⟨_,t1.glued nA nB nC t2 nA' nB' nC'⟩
  have g2:Told (ps++os).length (yh q (ps++os)):=by
   rw[cg];exact g.same fun p hp=>(zGn hf hp).symm
  exact(zLG hp).mp g2
end K
namespace K
open L2 L3
end K
namespace L2
section
variable {X:Cx}
theorem zLN{prog:Program}{w:World}{A:Around}{E:11#0}{s:Shared}{l:Addr}{xs:Array (Int×Tok)}{Q:11#0}(hh:A.handled=none)(hl:s.heap.IsTuple l (intItems xs))(hne:0<xs.size)
  (h:∀(v:Value) (h':Heap) (tk:Nat),(intItems xs)[argBest (fun i j=>decide (numAt xs i>numAt xs j)) (xs.size-1)]?=some v->32#0->Q v { s with heap:=h',toks:=tk }) :
  wpAny 16#0 A (call (.builtin "max") [.ref l]) Q E s:=by
 have ll:l<s.heap.objs.size:=by
  obtain⟨o,ho,u0⟩:=hl;exact ci ho
 have hl2:(s.heap.push { cls:=.type "tuple_iterator",data:=.fields #[.ref l,.int 0 0] }).IsTuple l (intItems xs):=by
  obtain⟨o,ho,h2⟩:=hl;exact⟨o,bX _ ho,h2⟩
 refine call_max_walk (wpAny_pyIter_tuple hl ⟨s.heap.objs.size,[s.heap.objs.size,l],[s.heap.objs.size],(intItems xs).size,fun i v=>(intItems xs)[i]?=some v,fun i h=>h.IsTupleIter s.heap.objs.size l i/\h.IsTuple l (intItems xs),fun i j=>decide (numAt xs i>numAt xs j),rfl,Walks.tuple (A:=A.in1) hh s.heap.objs.size l (cH ll) (intItems xs),⟨⟨_,ck _ rfl,rfl,rfl⟩,hl2⟩,fun b hb=>?_,?_,CmpOf.ints_gt (numAt xs) fun u0 u0=>intItems_at,fun v h' tk hP hk=>?_⟩)
 ·rw[e8]
  rcases cI.mp hb with rfl | hb
  ·exact Nat.lt_succ_self _
  ·rw[cf.mp hb];exact ft ll
 ·simpa[intItems] using hne
 ·have e:(intItems xs).size=xs.size:=by simp[intItems]
  rw[e] at hP;exact h v h' tk hP fun b o q=>hk b o (fun z=>absurd (cf.mp z) (cH (ci q))) (bX _ q)
theorem zLO(hc:79#0):wD X (.builtin "max") (fun xs H Q=>∃(l:Addr) (ns:96#0),xs=[.ref l]/\SqT X.K H l (ns.map V.int)/\0<ns.length/\∀ M,M∈ns->(∀ a∈ns,a<=M)->Q (.int M) H):=by
 sleep 9;obtain⟨l,ns,rfl,hs,hp,q⟩:=h;obtain⟨u,rfl,ru⟩:=vals1 r;cases (show u=Value.ref l from ru);obtain⟨its,rv,pl,hz⟩:=I.tuple hs;have hi:IntsAre its ns:=intsAre_of rv;have ha:AllInts its.toArray:=hi.allInts;have hn:numsOf its.toArray.toList=ns:=by rw[show its.toArray.toList=its from rfl,hi.numsOf]
 have hl:s.heap.IsTuple l its.toArray:=pl;have hl2:its.length=ns.length:=hi.length;have hz2:0<its.toArray.size:=by simp;omega
 generalize its.toArray=arr at ha hn hl hz2;obtain⟨zs,rfl⟩:=ha.items;rw[nums_intItems] at hn;have hsz:0<zs.size:=by simpa[intItems] using hz2
 refine zLN (I.ok.hd hc) hl hsz fun v h' tk hv hk=>?_;obtain⟨t,rfl⟩:=intItems_at hv;obtain⟨h1,h2⟩:=argBest_gt (numAt zs) (zs.size-1);refine⟨.int _,H,I.kept (t':=tk) hk,⟨_,rfl⟩,q _ ?_ fun a ha=>?_⟩
 ·rw[<-hn,numAt_eq];exact getD_mem (by rw[bZ,cC];omega)
 ·rw[<-hn] at ha
  obtain⟨j,hj,rfl⟩:=mem_getD ha;rw[<-numAt_eq];rw[bZ,cC] at hj;exact h2 j 2#0
end
end L2
namespace L3
open L2
section
variable {X:Cx} {e:Expr} {t:wU} {pos p:Pos}
noncomputable def zLP:wM:=fun ds G R=>∃ ns:List Int,ds=[.tup (ns.map D.int)]/\0<ns.length/\∀ M,M∈ns->(∀ a∈ns,a<=M)->R (.int M) G
theorem zR1(hc:79#0)(hg:Gl X "max")(hm:X.mg "max"=none)(ha:A2 X [e] t)(he:3#0)(hpl:6#0) :
  E2 X (.Call (.Name "max" p) [e] [] pos) (zI zLP t):=zDw (zLO hc) (by
   rintro ds G R xs H Q ⟨ns,rfl,hp,h⟩ r d k;obtain⟨x0,rfl,d1⟩:=zBD d;unfold zX at d1;obtain⟨a,us,rfl,hs,hd⟩:=d1;have:=hd.ints_inv;subst this;exact⟨a,ns,rfl,hs,hp,fun M h1 h2=>k _ G (h M h1 h2) _ H 137#0 r 35#0⟩) hg hm 10#0 ha 8#0 8#0 he hpl
end
end L3
namespace K
open L2 L3
theorem zQH{σ:S2}{l:S2}{d:D}:∀ {u:Nat},look σ u=some d->look (σ++l) u=some d:=by
 induction σ with
 | nil=>intro u h;cases h
 | cons a r ih =>
  intro u h;cases u with
  | zero=>exact h
  | succ u=>exact ih h
theorem zQI{σ:S2}{x:D}:look (σ++[some x]) σ.length=some x:=by
 induction σ with
 | nil=>rfl
 | cons a r ih=>exact ih
theorem zSd{σ:S2}{G:Gp}{t:zl}{x:D}{r:List D}(h:zZ t σ G (.tup (x::r))):zZ (zP zp t 15#0) σ G x:=yn h zx fun u0 u0 u0 q=>by simp only[zp,zDQ];exact q
theorem zSe{σ:S2}{G:Gp}{t:zl}{x y:D}{r:List D}(h:zZ t σ G (.tup (x::y::r))):zZ (zP zp t 12#0) σ G y:=yn h zx fun u0 u0 u0 q=>by simp only[zp,zHZ];exact q
noncomputable abbrev rgN(i:Nat)(A B C:14#0):List Nat:=A++i::(B++i::C)
theorem zEV{i:Nat}{A B C:14#0}:(rgN i A B C).length=A.length+B.length+C.length+2:=by simp[rgN];omega
structure RD (i:Nat) (A B C:List Nat):Prop where
 hA:i∉A
 hB:i∉B
 hC:i∉C
 le:∀ x∈rgN i A B C,x<=i
 len:A.length+B.length+C.length=2*i
 lo:1<=i
 hi:i<=8
noncomputable def wS:wM:=fun ds G R=>∃(i:Nat) (A B C:14#0),ds=[.tup ((rgN i A B C).map nD)]/\i∉A/\i∉B/\(∀ x∈rgN i A B C,x<=i)/\(rgN i A B C).length<=500/\R 90#0 G
noncomputable def zAf:yU:=(zV (zn (zI zLP (zA (zB 0) zG)) (gN 1)) (zV (zn (zI wE (zA (zB 0) (zA (xMt zBA (zB 0) 30#0) zG))) (gN 2)) (zV (zn (xMt zBu (zB 2) (zA (zB 1) (zA 12#0 zG))) (gN 3)) (zm (yH (zA (yp (zB 2) (yf 12#0) (yf (zB 3))) (zA (yp (zB 2) (yf (zP zt (zB 3) 12#0)) yX) zG)))))))
theorem zR2{σ:S2}{G:Gp}{t:zl}{r:14#0}{i:Nat}(h:zZ t σ G 100#0)(hm:i∈r)(hle:∀ x∈r,x<=i):zZ (zI zLP (zA t zG)) σ G (nD i) :=
 zU (zF h zL) fun G2 e R q=>⟨r.map fun(n:Nat)=>(n:Int),by rw[cL];rfl,by rw[bZ];exact List.length_pos_of_mem hm,fun M h1 h2=>by
  obtain⟨x,hx,rfl⟩:=ca.mp h1;have a1:=h2 (i:Int) (ca.mpr ⟨i,hm,rfl⟩);have a2:=hle x hx;have:(x:Int)=(i:Int):=by omega
  rw[this];exact q⟩
theorem zHA(ds:List D)(G:Gp)(R:Q2)(h:wS ds G R):ds.length=1/\zAf (zc R) (zQ ["ring","last","begun","second"] ds) G:=by
 obtain⟨i,A,B,C,rfl,hA,hB,hle,hlen,h⟩:=h;refine⟨rfl,?_⟩;have hz:(rgN i A B C).length=A.length+B.length+C.length+2:=zEV;have i1:zDR ((rgN i A B C).map nD) (nD i) 0 A.length:=zHe hA;have i2:zDR ((rgN i [] B (C++A)).map nD) (nD i) 1 (1+B.length):=by
  have:=zJZ (A:=[]) (B:=B) (C:=C++A) (i:=i) hB;sleep 23
 have e1:trn ((rgN i A B C).map nD) A.length=(rgN i [] B (C++A)).map nD:=by
  unfold trn rgN;rw[<-List.map_drop,<-List.map_take,List.drop_left' rfl,List.take_left' rfl,<-cN];simp
 unfold zAf;refine zw (σ:=[some 45#0,none,none,none]) (d:=nD i) (zR2 (zE rfl) (by simp[rgN]) hle) ?_;show zV _ _ _ [some 45#0,some (nD i),none,none] G;have p1:zZ (zI wE (zA (zB 0) (zA (xMt zBA (zB 0) 30#0) zG))) [some 45#0,some (nD i),none,none] G (.tup ((rgN i [] B (C++A)).map nD)) :=
  zU (ds:=[.tup ((rgN i A B C).map nD),nD A.length]) (zF (zE rfl) (zF (zJa (zE rfl) 51#0 fun u0 u0 u0 q=>⟨_,_,rfl,rfl,zAI _,i1,q⟩) zL)) fun u0 u0 u0 q=>⟨_,A.length,rfl,by rw[bZ];omega,by rw[bZ];omega,by rw[e1];exact q⟩
 refine zw p1 ?_;generalize hr:rgN i [] B (C++A)=r at *;have rl:(r.map nD).length=B.length+(C.length+A.length)+2:=by rw[<-hr];simp[rgN];omega
 show zV _ _ _ [some 45#0,some (nD i),some 100#0,none] G;refine zw (d:=nD (1+B.length)) (zJa (zE rfl) (zF (zE rfl) (zF zx zL)) fun u0 u0 u0 q=>⟨1,_,rfl,rfl,zAI _,i2,q⟩) ?_;show zm _ _ [some 45#0,some (nD i),some 100#0,some (nD (1+B.length))] G;generalize hσ:[some 45#0,some (nD i),some (D.tup (r.map nD)),some (nD (1+B.length))]=σ;have v2:zZ (zB 2) σ G 100#0:=zE 93#0;have v3:zZ (zB 3) σ G (nD (1+B.length)):=zE 93#0;have v3':zZ (zP zt (zB 3) 12#0) σ G (nD (1+B.length+1)):=wQ (i:=((1+B.length:Nat):Int)) (j:=1) v3 zx;have s1:=zGJ v2 (zx (d:=.int 1)) v3;have s2:=zFh v2 v3' 2#0;have c1:L3.cutD (r.map nD) (some 1) (some ((1+B.length:Nat):Int))=B.map nD:=by
  have:=zLx (l:=r.map nD) (a:=1) (b:=1+B.length) 2#0 2#0;rw[show((1:Nat):Int)=1 from rfl] at this;rw[this,<-hr];simp[rgN]
 have c2:(r.map nD).drop (1+B.length+1)=(C++A).map nD:=by
  rw[<-hr,<-List.map_drop];have:rgN i [] B (C++A)=(i::(B++[i]))++(C++A):=by simp[rgN]
  rw[this,List.drop_left' (by simp;omega)]
 rw[c1] at s1;rw[c2] at s2;exact zJ8 (yc (zF s1 (zF s2 zL)) 24#0) (FgR.of h)
noncomputable def wX:wM:=fun ds G R=>∃(i j:Nat) (A B C A' B' C':14#0),ds=[.tup ((rgN i A B C).map nD),.tup ((rgN j A' B' C').map nD)]/\RD i A B C/\RD j A' B' C'/\i+j<=9/\R (.tup ((glW i A B C A' B' C').map nD)) G
noncomputable def wt:yU:=(zV (zn (zP 20#0 (zP 54#0 44#0 76#0) 12#0) (gN 2)) (zV (yo (zI yQ (zA (zP 20#0 (zP zt (zB 2) (zP 54#0 (zI zu 30#0) 76#0)) 12#0) (zA (xC (.int 9)) zG)))) (zV (zn (zI wS (zA (zB 0) zG)) (gN 3)) (zV (zn (zI wS (zA (zd zv (zg (iV (zB 1)) wb zAA (zP zt (zB 5) (zB 2)))) zG)) (gN 4)) (zm (zP zt (zP zt (zP zt (zP zp (zB 3) 15#0) (zP zp (zB 4) 15#0)) (zP zp (zB 3) 12#0)) (zP zp (zB 4) 12#0)))))))
theorem RD.rl{i:Nat}{A B C:14#0}(h:RD i A B C):(rgN i A B C).length=2*i+2:=by rw[zEV,h.len]
theorem zKK{σ:S2}{G:Gp}{t:zl}{i:Nat}{A B C:14#0}(h:zZ t σ G 45#0)(d:RD i A B C):zZ (zP 54#0 (zI zu (zA t zG)) 76#0) σ G (nD (i+1)) :=
 yn (zAH h) zx fun u0 u0 u0 q=>⟨⟨by decide,by decide⟩,by
  have:(((rgN i A B C).length:Nat):Int) / 2=((i+1:Nat):Int):=by rw[d.rl];omega
  dsimp only;rw[this];exact q⟩
theorem zMb{σ:S2}{G:Gp}{t:zl}{i:Nat}{A B C:14#0}(h:zZ t σ G 45#0)(d:RD i A B C):zZ (zP 20#0 (zP 54#0 (zI zu (zA t zG)) 76#0) 12#0) σ G (nD i):=by
 have:=wg (g:=fun i j=>.int (i-j)) (zKK h d) (zx (σ:=σ) (G:=G) (d:=.int 1));have e:((i+1:Nat):Int)-1=(i:Int):=by omega
 rw[e] at this;exact this
theorem zR3{σ:S2}{G:Gp}{t u:zl}{i j:Nat}{A B C:14#0}(h:zZ t σ G (.tup ((rgN j A B C).map nD)))(d:RD j A B C)(hu:zZ u σ G (nD i)):zZ (zP 20#0 (zP zt u (zP 54#0 (zI zu (zA t zG)) 76#0)) 12#0) σ G (nD (i+j)):=by
 have:=wg (g:=fun i j=>.int (i-j)) (wQ (i:=(i:Int)) (j:=((j+1:Nat):Int)) hu (zKK h d)) (zx (σ:=σ) (G:=G) (d:=.int 1));have e:(i:Int)+((j+1:Nat):Int)-1=((i+j:Nat):Int):=by omega
 rw[e] at this;exact this
theorem zIu{i j:Nat}{A B C:14#0}:(rgN j A B C).map (·+i)=rgN (j+i) (A.map (·+i)) (B.map (·+i)) (C.map (·+i)):=by simp[rgN]
theorem zMc{i j:Nat}{A:14#0}(h:j∉A):j+i∉A.map (·+i):=fun z=>by
 obtain⟨x,hx,e⟩:=ca.mp z;have:x=j:=by omega
 exact h (this▸hx)
theorem zQJ{σ:S2}{G:Gp}{t:zl}{u v:Nat}{r:14#0}{i:Nat}(h:zZ t σ G 100#0)(hv:look σ v=some (nD i))(hu:σ.length=u):PuL (zg (iV t) wb zAA (zP zt (zB u) (zB v))) σ G ((r.map (·+i)).map nD):=by
 have:=zCe (bd:=wb) (te:=zP zt (zB u) (zB v)) (fun d=>match d with | .int k=>.int (k+(i:Int)) | d=>d) 144#0 (wV h) fun x hx=>by
  obtain⟨k,u0,rfl⟩:=ca.mp hx;refine⟨rfl,wQ (zE ?_) (zE (zQH hv))⟩;rw[<-hu];exact zQI
 have e:(r.map nD).map (fun d=>match d with | .int k=>.int (k+(i:Int)) | d=>d)=(r.map (·+i)).map nD:=by
  rw[cL,cL];refine dI fun x u0=>?_;show D.int ((x:Int)+(i:Int))=D.int ((x+i:Nat):Int);congr 1
 rw[e] at this;exact this
theorem zFO(ds:List D)(G:Gp)(R:Q2)(h:wX ds G R):ds.length=2/\wt (zc R) (zQ ["one","two","ahead","first","second"] ds) G:=by
 obtain⟨i,j,A,B,C,A',B',C',rfl,d1,d2,hij,h⟩:=h;refine⟨rfl,?_⟩;have z1:=d1.rl;have z2:=d2.rl;have y1:(rgN i A B C).length=A.length+B.length+C.length+2:=zEV;have y2:(rgN j A' B' C').length=A'.length+B'.length+C'.length+2:=zEV;have hi:=d1.hi;have hj:=d2.hi;unfold wt;refine zw (σ:=[some 45#0,some 141#0,none,none,none]) (d:=nD i) (zMb (zE rfl) d1) ?_;show zV _ _ _ [some 45#0,some 141#0,some (nD i),none,none] G;refine zSa (d:=.non) (zU (ds:=[nD (i+j),nD 9]) (zF (zR3 (zE rfl) d2 (zE rfl)) (zF zx zL)) fun u0 u0 u0 q=>⟨i+j,9,rfl,hij,q⟩) ?_;refine zw (d:=.tup [.tup (B.map nD),.tup ((C++A).map nD)]) (zU 51#0 fun u0 u0 u0 q=>⟨i,A,B,C,rfl,d1.hA,d1.hB,d1.le,by omega,q⟩) ?_;show zV _ _ _ [some 45#0,some 141#0,some (nD i),some 90#0,none] G;have ps:=zQJ (σ:=[some 45#0,some 141#0,some (nD i),some 90#0,none]) (G:=G) (t:=zB 1) (u:=5) (v:=2) (r:=rgN j A' B' C') (i:=i) (zE rfl) rfl rfl;rw[zIu] at ps;refine zw (d:=.tup [.tup ((B'.map (·+i)).map nD),.tup ((C'.map (·+i)++A'.map (·+i)).map nD)]) (zU (zF (zBG ps) zL) fun u0 u0 u0 q=>⟨j+i,_,_,_,rfl,zMc d2.hA,zMc d2.hB,fun x hx=>?_,by rw[<-zIu,bZ];omega,q⟩) ?_
 ·rw[<-zIu] at hx
  obtain⟨y,hy,rfl⟩:=ca.mp hx;have:=d2.le y hy;omega
 show zm _ _ [some 45#0,some 141#0,some (nD i),some 90#0,some (.tup [.tup ((B'.map (·+i)).map nD),.tup ((C'.map (·+i)++A'.map (·+i)).map nD)])] G;generalize hσ:[some 45#0,some 141#0,some (nD i),some 90#0,some (D.tup [.tup ((B'.map (·+i)).map nD),.tup ((C'.map (·+i)++A'.map (·+i)).map nD)])]=σ;have v3:zZ (zB 3) σ G 90#0:=zE 93#0;have v4:zZ (zB 4) σ G (.tup [.tup ((B'.map (·+i)).map nD),.tup ((C'.map (·+i)++A'.map (·+i)).map nD)]):=zE 93#0;have fin:=zBj (zBj (zBj (zSd v3) (zSd v4) (by simp;omega)) (zSe v3) (by simp;omega)) (zSe v4) (by simp;omega);have e:B.map nD++(B'.map (·+i)).map nD++(C++A).map nD++(C'.map (·+i)++A'.map (·+i)).map nD=(glW i A B C A' B' C').map nD:=by
  unfold glW;simp only[cN]
 rw[e] at fin;exact zJ8 fin (FgR.of h)
theorem zMd{n:Nat}{r:14#0}(h:zAJ n r)(h2:2<=n)(h9:n<=9):∃ A B C,r=rgN (n-1) A B C/\RD (n-1) A B C:=by
 obtain⟨A,B,C,rfl,hA,hB,hC⟩:=zGI (h.count (i:=n-1) 2#0);refine⟨A,B,C,rfl,hA,hB,hC,fun x hx=>?_,?_,by omega,by omega⟩
 ·have:=h.mem.mp hx
  omega
 ·have:=h.len
  have e:(rgN (n-1) A B C).length=A.length+B.length+C.length+2:=zEV;have e2:(rgN (n-1) A B C).length=2*n:=this;omega
end K
namespace K
open L2 L3 HS
theorem zNe{σ:S2}{G:Gp}{t:zl}{d:D}{ds:List D}(h:zZ t σ G d)(hs:zDx G d ds):PuI (iV t) σ G ds:=by
 cases d with
 | tup xs =>
  have e:xs=ds:=hs;subst e;exact wV h
 | adr l=>exact zA9 h hs
 | _=>exact hs.elim
noncomputable def yF:List D->Gp->98#0->Prop:=fun ds G R=>∃(n:Nat) (q:4#0) (i:Nat) (os:14#0) (d:D),ds=[zO n q,nD i,d]/\zDx G d (os.map nD)/\i<n/\(∀ x∈os,x<n)/\R ((os.filter (yA q i)).map nD) G
theorem zCV:∀ ds G R R',95#0->yF ds G R->yF ds G R':=by
 rintro ds G R R' h ⟨n,q,i,os,d,e,hs,h1,h2,q'⟩;exact⟨n,q,i,os,d,e,hs,h1,h2,h _ _ q'⟩
noncomputable def zA2:yU:=(zm (yG (zg (iV (zB 2)) wb 97#0 (zB 3))))
theorem zIv(ds:List D)(G:Gp)(R:Q2)(h:spL yF ds G R):ds.length=3/\zA2 (zc R) (zQ ["web","place","others"] ds) G:=by
 obtain⟨n,q,i,os,d,rfl,hs,hi,ho,h⟩:=h;refine⟨rfl,?_⟩;unfold zA2 zm yG;have c:=wW (σ:=zQ ["web","place","others"] [zO n q,nD i,d]) (G:=G) (bd:=wb) (tc:=97#0) (te:=zB 3) 114#0 (fun d=>d) 144#0 (zNe (zE (i:=2) (d:=d) rfl) hs) fun x hx=>by
  obtain⟨k,hk,rfl⟩:=ca.mp hx;exact⟨rfl,wI 152#0,fun u0=>zE rfl⟩
 have e:cj (fun d=>d) (fc 114#0 (os.map nD))=(os.filter (yA q i)).map nD:=by
  rw[fq,e7];rfl
 rw[e] at c;exact c G 131#0 _ fun l hl=>FgR.of (h l hl)
end K
namespace HX
open HT
section
variable {prog:Program} {w:World} {A:Around} {R:Result->Shared->Prop} {I:Addr} {fp wr:List Addr} {n:Nat} {P:Nat->Value->Prop} {St:Nat->Heap->Prop}
structure zR4 (prog:Program) (w:World) (A:Around) (P:Nat->Value->Prop) (bt:Nat->Nat->Bool) (wr:List Addr) (S:Addr) (Kp:Heap->Prop):Prop where
 cmp:∀ i j vi vj (s:Shared) (Q:11#0) (E:11#0),Kp s.heap->P i vi->P j vj->Q (.bool (bt i j)) s->wpAny 16#0 A (richCompare .Gt vi vj) Q E s
 keep:∀ h h':Heap,Kp h->(∀ b o,b∉wr->b≠S->h.get? b=some o->h'.get? b=some o)->Kp h'
theorem zQK(W:Walks prog w A.in1 I fp wr n P St)(bt:Nat->Nat->Bool){Kp:Heap->Prop}(S:Addr)(C  :zR4 prog w A.in1 P bt wr S Kp)(hSf:S∉fp) :
  ∀(k j:Nat) (s:Shared) (vb:Value) (c:Nat),n-(j+1)=k->j+1<=n->St (j+1) s.heap->Kp s.heap->P (argBest bt j) vb ->
  s.heap.get? S=some { cls:=.type "list",dict:=none,data:=.seq #[vb,vb] c,slots:=#[] } ->
  (∀ v h' tk,P (argBest bt (n-1)) v->(∀ b o,b∉wr->b≠S->s.heap.get? b=some o->h'.get? b=some o)->R (.ok (.ret v)) { s with heap:=h',toks:=tk }) ->
  codeAny 16#0 A (.builtin "max.loop" ⟨[.ref I,.none,.ref S],[]⟩) R s:=by
 have nw:S∉wr:=fun h=>hSf (W.sub _ h);have nm:(toString "max"++toString ".loop":String)="max.loop":=by decide
 intro k
 induction k with
 | zero =>
  intro j s vb c hk hj st kp pb hS fin;have hin:j+1=n:=by omega
  sleep 4;refine bQ (wpAny_tryCatch (W.done s _ _ (hin▸st) fun h' tk hk'=>?_));have hS':=hk' S _ nw hS;show wpAny _ A.in1 (updateSeq S (fun u0=>#[])>>=_) _ _ _;refine bQ ?_;refine wpAny_updateSeq hS' rfl (bQ (wpAny_letGo (c5 ?_)));exact fin vb _ tk (by rw[<-hin];exact pb) fun b o h1 h2 e=>(dQ _ _ (Ne.symm h2)).trans (hk' b o h1 e)
 | succ k ih =>
  intro j s vb c hk hj st kp pb hS fin;have lt:j+1<n:=by omega
  sleep 4;refine bQ (wpAny_tryCatch (W.item (j+1) s _ _ lt st fun v h' tk pv st' hk'=>?_));have hS':=hk' S _ nw hS;have kp':Kp h':=C.keep _ _ kp fun b o h1 u0 e=>hk' b o h1 e;show wpAny _ A.in1 (tryCatch (holding [v,v] (richCompare .Gt v vb>>=_)) _>>=_) _ _ _;refine bQ (wpAny_tryCatch (dt (bQ (C.cmp (j+1) (argBest bt j) v vb _ _ _ kp' pv pb ?_))));refine bQ (dt (eC ?_));refine bQ (wpAny_letGo (c5 ?_));cases hb:bt (j+1) (argBest bt j) with
  | true =>
   simp only[if_true];refine bQ ?_;refine wpAny_updateSeq hS' rfl (bQ (wpAny_letGo ?_));rw[nm];refine c5 ⟨plainId_quiet PySem.F.plain_max_loop _,ih (j+1) _ v _ 2#0 lt (W.frame _ _ _ st' fun b hbf o e=>?_) (C.keep _ _ kp' fun b o u0 h2 e=>(dQ _ _ (Ne.symm h2)).trans e) (by simp only[argBest,hb,if_true];exact pv) (eH _ hS' rfl)
    fun v' h'' tk'' pv' hk''=>?_⟩
   ·exact(dQ _ _ (fun h:S=b=>hSf (by rw[h];exact hbf))).trans e
   ·exact fin v' h'' tk'' pv' fun b o h1 h2 e=>hk'' b o h1 h2 ((dQ _ _ (Ne.symm h2)).trans (hk' b o h1 e))
  | false =>
   simp only[bT,if_false];refine bQ (wpAny_letGo ?_);rw[nm];refine c5 ⟨plainId_quiet PySem.F.plain_max_loop _,ih (j+1) _ vb c 2#0 lt st' kp' (by simp only[argBest,hb,bT,if_false];exact pb) hS' fun v' h'' tk'' pv' hk''=>?_⟩;exact fin v' h'' tk'' pv' fun b o h1 h2 e=>hk'' b o h1 h2 (hk' b o h1 e)
theorem zNf(W:Walks prog w A.in1 I fp wr n P St)(bt:Nat->Nat->Bool){Kp:Heap->Prop}(S:Addr)(C  :zR4 prog w A.in1 P bt wr S Kp)(hSf:S∉fp)(hn:0<n){s:Shared}{c:Nat}(st:St 0 s.heap)(kp:Kp s.heap)
  (hS:s.heap.get? S=some { cls:=.type "list",dict:=none,data:=.seq #[] c,slots:=#[] })
  (fin:∀ v h' tk,P (argBest bt (n-1)) v->(∀ b o,b∉wr->b≠S->s.heap.get? b=some o->h'.get? b=some o)->R (.ok (.ret v)) { s with heap:=h',toks:=tk }) :
  codeAny 16#0 A (.builtin "max.loop" ⟨[.ref I,.none,.ref S],[]⟩) R s:=by
 have nw:S∉wr:=fun h=>hSf (W.sub _ h);have nm:(toString "max"++toString ".loop":String)="max.loop":=by decide
 sleep 4;refine bQ (wpAny_tryCatch (W.item 0 s _ _ hn st fun v h' tk pv st' hk'=>?_));have hS':=hk' S _ nw hS;show wpAny _ A.in1 (updateSeq S (fun u0=>#[v,v])>>=_) _ _ _;refine bQ ?_;refine wpAny_updateSeq hS' rfl ?_;rw[nm];refine c5 ⟨plainId_quiet PySem.F.plain_max_loop _,zQK W bt S C hSf _ 0 _ v _ rfl hn (W.frame _ _ _ st' fun b hbf o e=>?_) (C.keep _ _ kp fun b o h1 h2 e=>(dQ _ _ (Ne.symm h2)).trans (hk' b o h1 e)) pv (eH _ hS' rfl) fun v' h'' tk'' pv' hk''=>?_⟩
 ·exact(dQ _ _ (fun h:S=b=>hSf (by rw[h];exact hbf))).trans e
 ·exact fin v' h'' tk'' pv' fun b o h1 h2 e=>hk'' b o h1 h2 ((dQ _ _ (Ne.symm h2)).trans (hk' b o h1 e))
end
section
variable {prog:Program} {w:World} {A:Around} {E:Value->Shared->Prop} {s:Shared}
noncomputable def gtT(nss:28#0)(i j:Nat):Bool:=lexLt (nss.getD j []) (nss.getD i [])
theorem zNg{as:List Addr}{nss:28#0}{wr:List Addr}{S:Addr}(hu:A.units<cLine)(h1:∀ a∈as,a∉wr)(h2:S∉as) :
  zR4 prog w A (fun i v=>(as.map Value.ref)[i]?=some v) (gtT nss) wr S (fun h=>zCA h as nss) where
 cmp:=fun i j vi vj s Q E kp pi pj q=>by
  have gi:∀ {i:Nat} {v:Value},(as.map Value.ref)[i]?=some v->∃ a,as[i]?=some a/\v=Value.ref a:=fun {i v} e=>by
   rw[cP] at e;cases q:as[i]? with
   | none=>rw[q] at e;cases e
   | some a=>rw[q] at e;cases e;exact⟨a,rfl,rfl⟩
  obtain⟨a,ea,rfl⟩:=gi pi;obtain⟨b,eb,rfl⟩:=gi pj;have li:i<nss.length:=by rw[<-kp.1];exact(cc.mp ea).1
  have lj:j<nss.length:=by rw[<-kp.1];exact(cc.mp eb).1
  obtain⟨its,t1,i1⟩:=kp.2 i a nss[i] ea 24#0;obtain⟨its2,t2,i2⟩:=kp.2 j b nss[j] eb 24#0;have e:gtT nss i j=lexLt nss[j] nss[i]:=by simp[gtT,d7,li,lj]
  rw[e] at q;exact zKz t1 t2 i1 i2 hu q
 keep:=fun h h' kp k=>kp.keep fun a ha o e=>k a o (h1 a ha) (fun z=>h2 (z▸ha)) e
noncomputable def zU3(prog:Program)(w:World)(A:Around)(Q:11#0)(it:Value)(s₂:Shared):Prop:=∃ I fp wr n P St bt Kp,it=.ref I/\Walks prog w A.in1 I fp wr n P St/\St 0 s₂.heap/\(∀ b∈fp,b<s₂.heap.objs.size)/\0<n/\zR4 prog w A.in1 P bt wr s₂.heap.objs.size Kp/\Kp s₂.heap /\
 ∀ v h' tk,P (argBest bt (n-1)) v->(∀ b o,b∉wr->s₂.heap.get? b=some o->h'.get? b=some o)->Q v { s₂ with heap:=h',toks:=tk }
theorem zQL{Q:11#0}{it:Value}{s₂:Shared}(h₂:zU3 prog w A Q it s₂):wpAny 16#0 A.in1 (newList []>>=fun best=>again (.builtin "max.loop" ⟨[it,.none,best],[]⟩)) (fun fin s'=>match fin with | .done f=>wants Q E (.ok f) s' | .again c'=>c'.quiet=true/\codeAny 16#0 A c' (wants Q E) s') (fun e s'=>wants Q E (.error e) s') s₂:=by
 obtain⟨I,fp,wr,n,P,St,bt,Kp,rfl,W,hst,hfp,hn,C,kp,hQ⟩:=h₂;refine bQ (dk ?_);have hSf:s₂.heap.objs.size∉fp:=fun hm=>cR _ (hfp _ hm);refine c5 ⟨plainId_quiet PySem.F.plain_max_loop _,zNf W bt s₂.heap.objs.size C hSf hn (W.frame _ _ _ hst fun b u0 o e=>bX _ e) (C.keep _ _ kp fun b o u0 u0 e=>bX _ e) (ck _ rfl) fun v h' tk hP hk=>?_⟩;exact hQ v h' tk hP fun b o hbw e=>hk b o hbw (cH (ci e)) (bX _ e)
theorem zNh{x:Value}{Q:11#0}(h:wpAny 16#0 A.in1 (pyIter x) (zU3 prog w A Q) E s) :
  wpAny 16#0 A (call (.builtin "max") [x]) Q E s:=by
 have nm:(toString "max"++toString ".loop":String)="max.loop":=by decide
 refine call_function_tree PySem.F.kind_max PySem.F.plain_max PySem.F.entry_max (PySem.F.args_max1 _) ?_;show wpAny _ A.in1 (Builtin.Builtins.bindParams "max" ["key","default"] 0 ⟨[],[]⟩>>=_) _ _ s;refine bQ (wpAny_of_eq (show Builtin.Builtins.bindParams "max" ["key","default"] 0 ⟨[],[]⟩=pure [none,none] from rfl) ?_);refine bQ (c5 ?_);refine bQ (wpAny_mono h (fun it s₂ h₂=>?_) fun u0 u0 e=>e);have:=zQL (E:=E) h₂;rw[nm];exact this
theorem max_list{l:Addr}{as:List Addr}{nss:28#0}{Q:11#0}(hh:A.handled=none)(hu:A.in1.units<cLine)(hl:s.heap.IsList l (as.map Value.ref).toArray)(hne:0<as.length)(ht:zCA s.heap as nss)
  (h:∀ h' tk v,(as.map Value.ref)[argBest (gtT nss) (as.length-1)]?=some v->(∀ d o,s.heap.get? d=some o->h'.get? d=some o)->Q v { s with heap:=h',toks:=tk }) :
  wpAny 16#0 A (call (.builtin "max") [.ref l]) Q E s:=by
 refine zNh (wpAny_pyIter_list hl ?_);have la:∀ x∈as,x<s.heap.objs.size:=ht.lt;have ll:l<s.heap.objs.size:=by obtain⟨o,e,u0⟩:=hl;exact ci e
 refine⟨_,[_,l],[_],_,_,_,gtT nss,fun h=>zCA h as nss,rfl,Walks.list (A:=A.in1) hh _ l (cH ll) (as.map Value.ref).toArray,
  ⟨⟨_,ck _ rfl,rfl,rfl⟩,hl.push _⟩,fun d hd=>?_,by simpa using hne,?_,ht.keep fun x hx o e=>bX _ e,fun v h' tk hP hk=>?_⟩
 ·show d<(s.heap.push _).objs.size
  rw[e8];rcases cI.mp hd with rfl | hd
  ·exact Nat.lt_succ_self _
  ·rcases cI.mp hd with rfl | hd
   ·exact ft ll
   ·cases hd
 ·have:=zNg (prog:=prog) (w:=w) (A:=A.in1) (as:=as) (nss:=nss) (wr:=[s.heap.objs.size]) (S:=s.heap.objs.size+1) hu (fun x hx z=>by
   have h1:=la x hx;rw[cf] at z;rw[z] at h1;exact absurd h1 (cR _)) (fun z=>absurd (la _ z) (Nat.not_lt.mpr (ef _)))
  refine⟨fun i j vi vj s Q E kp pi pj q=>this.cmp i j vi vj s Q E kp (by simpa using pi) (by simpa using pj) q,fun h h' kp k=>this.keep h h' kp fun b o h1 h2 e=>k b o h1 ?_ e⟩;show b≠(s.heap.push _).objs.size;rw[e8];exact h2
 ·have hold:∀ d o,s.heap.get? d=some o->h'.get? d=some o:=fun d o e=>by
   refine hk d o (fun hm=>?_) (bX _ e);rcases cI.mp hm with e1 | hm
   ·have:=ci e;rw[e1] at this;exact cR _ this
   ·cases hm
  exact h h' tk v (by simpa using hP) hold
end
end HX
namespace L3
open L2
section
variable {X:Cx} {a b c e o:Expr} {es:List Expr} {pos p:Pos} {ta tb te:zl} {tl:TL2}
theorem zNi(hc:79#0)(hu:X.A.units+10<cLine):wD X (.builtin "max") (fun xs H Q=>∃ l as nss,xs=[.ref l]/\SqL X.K H l (as.map V.ref)/\0<as.length/\zHh X.K H as nss/\∀ d,as[argBest (HX.gtT nss) (as.length-1)]?=some d->Q (.ref d) H):=by
 sleep 9;obtain⟨l,as,nss,rfl,hs,hp,ht,q⟩:=h;obtain⟨u,rfl,rx⟩:=vals1 r;cases rx;obtain⟨its,rv,pl,hzz⟩:=I.list hs;have:its=as.map Value.ref:=by
  clear hs pl hzz hp ht q
  induction as generalizing its with
  | nil=>cases rv;rfl
  | cons a as ih =>
   rw[cU] at rv;cases rv with
   | cons r1 r2=>cases r1;rw[ih _ r2];rfl
 subst this;refine HX.max_list (I.ok.hd hc) (by show X.A.in1.units<cLine;simp[Around.in1] at *;omega) pl.isList hp (ht.at I) fun h' tk v hv kp=>?_;rw[cP] at hv;cases q':as[argBest (HX.gtT nss) (as.length-1)]? with
 | none=>rw[q'] at hv;cases hv
 | some d =>
  rw[q'] at hv;cases hv;exact⟨.ref d,H,I.kept (t':=tk) kp,rfl,q d q'⟩
noncomputable def zCM(nss:28#0):List Int:=nss.getD (argBest (HX.gtT nss) (nss.length-1)) []
noncomputable def zQM:wM:=fun ds G R=>∃ nss:List (List Int),ds=nss.map tupI/\0<nss.length/\R (tupI (zCM nss)) G
theorem zHh.pickG{K:18#0}{H:Hp}{as:List Addr}{nss:28#0}(h:zHh K H as nss)(hp:0<nss.length){d:Addr}(hd:as[argBest (HX.gtT nss) (as.length-1)]?=some d):zX K H (tupI (zCM nss)) (.ref d):=by
 rw[h.1] at hd;have hl:argBest (HX.gtT nss) (nss.length-1)<nss.length:=by have:=zDj (HX.gtT nss) (nss.length-1);omega
 refine zJc (h.2 _ d _ hd ?_);unfold zCM;simp[d7,hl]
theorem zUB{k:Nat}(hr:wL k X.A)(hc:79#0)(hg:Gl X "max")(hm:X.mg "max"=none)(ha:F2 X e tl)(he:3#0)(hpl:6#0) :
  E2 X (.Call (.Name "max" p) [e] [] pos) (zd zQM tl):=zF2 (zNi hc 88#0) (by
   rintro ds G R l xs H Q ⟨nss,rfl,hp,h⟩ r e d k;obtain⟨as,rfl,ha⟩:=zHi d;exact⟨l,as,nss,rfl,.of e,by rw[ha.1];exact hp,ha,fun d hd=>k _ G h _ H 137#0 r (ha.pickG hp hd)⟩) hg hm 10#0 ha 8#0 8#0 he hpl
end
end L3
namespace K
open L2 L3 HS
theorem zR5{σ:S2}{G:Gp}{t u:zl}{x y:D}(h:WkE t σ G x)(h':zZ u σ G y):WkE (yH (zA t (zA u zG))) σ G (.tup [x,y]):=fun G2 e R q=>h G2 e _ fun G3 e3=>h' G3 (e.trans e3) _ ⟨by rw[sizeLine_eq];simp,q G3 e3⟩
theorem zKL{nss:28#0}(h:0<nss.length):zCM nss∈nss:=by
 unfold zCM;have hl:argBest (HX.gtT nss) (nss.length-1)<nss.length:=by have:=zDj (HX.gtT nss) (nss.length-1);omega
 simp[d7,hl]
noncomputable def zNj(n:Nat)(q:4#0)(os:14#0):List (List Int):=(yP n os).map fun j=>[((os.filter (yA q j)).length:Int),(j:Int)]
noncomputable def zAo(n:Nat)(q:4#0):Nat->List Nat
 | 0=>[]
 | k+1=>zAo n q k++[((zCM (zNj n q (zAo n q k))).getD 1 0).toNat]
theorem zQN{n:Nat}{os:14#0}(h:os.length<n):∃ y,y∈yP n os:=by
 obtain⟨y,h1,h2⟩:=HT3.zCm (P:=fun j=>j∈os) (M:=n) (l:=os) (fun j u0 hj=>hj) h;exact⟨y,cb.mpr ⟨c8.mpr h1,by simp[h2]⟩⟩
theorem zH0{n:Nat}{q:4#0}{os:14#0}(h:os.length<n):∃ z,z∈yP n os/\zCM (zNj n q os)=[((os.filter (yA q z)).length:Int),(z:Int)]:=by
 obtain⟨y,hy⟩:=zQN h;obtain⟨z,hz,hz2⟩:=ca.mp (zKL (nss:=zNj n q os) (by unfold zNj;rw[bZ];exact List.length_pos_of_mem hy));exact⟨z,hz,hz2.symm⟩
theorem zEW{n:Nat}{q:4#0}:∀ k,k<=n->(zAo n q k).Nodup/\(zAo n q k).length=k/\∀ x∈zAo n q k,x<n
 | 0,_=>⟨List.nodup_nil,rfl,fun x hx=>by cases hx⟩
 | k+1,hk=>by
  obtain⟨h1,h2,h3⟩:=zEW (n:=n) (q:=q) k 2#0;obtain⟨z,hz,e⟩:=zH0 (n:=n) (q:=q) (os:=zAo n q k) 2#0;have e2:zAo n q (k+1)=zAo n q k++[z]:=by rw[zAo,e];rfl
  rw[e2];have hzo:z∉zAo n q k:=by
   have:=(cb.mp hz).2;sleep 23
  refine⟨dq.mpr ⟨h1,by simp,fun a ha b hb e=>by rw[cf.mp hb] at e;exact hzo (by rw[<-e];exact ha)⟩,by rw[cg,h2];rfl,fun x hx=>?_⟩;rcases cr.mp hx with hx | hx
  ·exact h3 x hx
  ·rw[cf.mp hx];exact zDk hz
theorem zKM(n:Nat)(q:4#0):Ord n (zAo n q n):=⟨(zEW n (ce n)).1,(zEW n (ce n)).2.1,(zEW n (ce n)).2.2⟩
noncomputable def ym:List D->Gp->98#0->Prop:=fun ds G R=>∃(n:Nat) (q:4#0),ds=[zO n q]/\1<=n/\n<=9/\R ((zAo n q n).map nD) G
theorem zFP:∀ ds G R R',95#0->ym ds G R->ym ds G R':=by
 rintro ds G R R' h ⟨n,q,e,h1,h9,k⟩;exact⟨n,q,e,h1,h9,h _ _ k⟩
noncomputable def zA3:yU:=(zV (zn (yG (zAg zG)) (gN 1)) (zV (zLt (xB (zP 25#0 (zI zu 30#0) (zP zp (zB 0) 15#0))) (zV (zAi 2 (zg (iR1 (zA (zP zp (zB 0) 15#0) zG)) wb (xB (zP (fIn true) (zB 3) (zB 1))) (zB 3))) (yo (zG6 (zB 1) (zA (zP zp (zd zQM (zg (iV (zB 2)) wb zAA (yH (zA (zI zu (zA (yG (yE yF (zA (zB 0) (zA (zB 3) 30#0)))) zG)) 99#0)))) 12#0) zG))))) (zm (zB 1))))
theorem zIw(ds:List D)(G:Gp)(R:Q2)(h:spL ym ds G R):ds.length=1/\zA3 (zc R) (zQ ["web","order","rest"] ds) G:=by
 obtain⟨n,q,rfl,h1,h9,h⟩:=h;refine⟨rfl,?_⟩;unfold zA3;rw[show zQ ["web","order","rest"] [zO n q]=[some (zO n q),none,none] from rfl];refine yt (zCg (ds:=[]) (fun G2 e R q=>zHf (zAM ⟨by rw[sizeLine_eq];simp,q⟩)) fun l hl=>?_);sleep 5;refine Fg.of ⟨fun m σ G'=>∃(os:14#0) (o:Option D),σ=[some (zO n q),some (.adr l),o]/\m+os.length=n/\os=zAo n q os.length/\G'.m l=some (os.map nD)/\L3.Sub G G',⟨n,[],none,rfl,rfl,rfl,zK,.new hl⟩,?_⟩;rintro m σ G1 ⟨os,o,rfl,hm,hos,g1,sb⟩;obtain⟨nd,u0,hlt⟩:=zEW (n:=n) (q:=q) os.length 2#0;rw[<-hos] at nd hlt;have t0:=wg (g:=fun i j=>.bl (decide (i<j))) (zML (t:=zB 1) (σ:=[some (zO n q),some (.adr l),o]) (G:=G1) (a:=l) (zE rfl) (.inl g1)) (yr (n:=n) (q:=q) (zE (i:=0) rfl));refine wI t0 G1 (.refl _) _ ?_;rw[bZ];by_cases hd:os.length<n
 ·rw[decide_eq_true 2#0,if_pos rfl]
  have c:=wW (σ:=[some (zO n q),some (.adr l),o]) (G:=G1) (bd:=wb) (tc:=(xB (zP (fIn true) (zB 3) (zB 1)))) (te:=zB 3) (fun d=>match d with | .int v=>!decide (v.toNat∈os) | _=>false) (fun d=>d) 144#0
   (show PuI (iR1 (zA (zP zp (zB 0) 15#0) zG)) _ _ 122#0 by
    rw[<-wp];exact zBt (zF (yr (q:=q) (zE rfl)) zL) 2#0) fun x hx=>by
   obtain⟨j,u0,rfl⟩:=ca.mp hx;refine⟨rfl,wI (yn (x:=nD j) (y:=.adr l) (zE rfl) (zE rfl) fun G2 e R q'=>⟨os.map nD,e.ls (.inl g1),rfl,zAI os,?_⟩),fun u0=>zE rfl⟩;rw[if_pos rfl,zKt];exact q'
  have e:cj (fun d=>d) (fc (fun d=>match d with | .int v=>!decide (v.toNat∈os) | _=>false) 122#0)=(yP n os).map nD:=by
   rw[fq,e7];rfl
  rw[e] at c;refine zTs c fun lr hlr=>?_;simp only[bS,bR];have nlr:l≠lr:=fun z=>by rw[z] at g1;rw[g1] at hlr;cases hlr
  have g2:(zS G1 lr ((yP n os).map nD)).m l=some (os.map nD):=by rw[zW nlr];exact g1
  have g2r:Ls (zS G1 lr ((yP n os).map nD)) lr ((yP n os).map nD):=.own;have sb2:L3.Sub G (zS G1 lr ((yP n os).map nD)):=sb.trans (.new hlr);generalize zS G1 lr ((yP n os).map nD)=G2 at g2 g2r sb2;obtain⟨y,hy⟩:∃ y,y∈yP n os:=by
   obtain⟨y,h1,h2⟩:=HT3.zCm (P:=fun j=>j∈os) (M:=n) (l:=os) (fun j u0 hj=>hj) hd;exact⟨y,cb.mpr ⟨c8.mpr h1,by simp[h2]⟩⟩
  have cm:=zP4 (σ:=[some (zO n q),some (.adr l),some (.adr lr)]) (G:=G2) (bd:=wb) (tc:=zAA) (te:=yH (zA (zI zu (zA (yG (yE yF (zA (zB 0) (zA (zB 3) 30#0)))) zG)) 99#0)) (fun u0=>true) (fun d=>match d with | .int v=>.tup [nD (os.filter (yA q v.toNat)).length,.int v] | _=>.non) 144#0 (zA9 (zE (i:=2) (d:=.adr lr) rfl) g2r) fun x hx=>by
   obtain⟨j,hj,rfl⟩:=ca.mp hx;refine⟨rfl,fun G3 e R q'=>q' G3 (.refl _),fun u0=>zR5 (x:=nD (os.filter (yA q j)).length) (y:=nD j) (fun G3 e R q'=>?_) (zE rfl)⟩;refine(show zI zu _ _ _ _ from zAs (zCn (zC8 (wR (d:=zO n q) (zE rfl) (wR (d:=nD j) (zE rfl) (wR (d:=.adr l) (zE rfl) (zAM ⟨n,q,j,os,.adr l,rfl,e.ls (.inl g2),zDk hj,hlt,fun lt hlt'=>?_⟩)))))));exact zAM ⟨_,.own,by rw[bZ];exact q' _ (.new hlt')⟩
  rw[List.filter_eq_self.mpr (fun u0 u0=>rfl)] at cm;have e2:cj (fun d=>match d with | .int v=>D.tup [nD (os.filter (yA q v.toNat)).length,.int v] | _=>.non) ((yP n os).map nD)=((yP n os).map fun j=>[((os.filter (yA q j)).length:Int),(j:Int)]).map tupI:=by
   rw[cL,cL];rfl
  rw[e2] at cm;have ln:0<((yP n os).map fun j=>[((os.filter (yA q j)).length:Int),(j:Int)]).length:=by
   rw[bZ];exact List.length_pos_of_mem hy
  obtain⟨z,hz,hz2⟩:=zH0 (q:=q) hd;have hz2:=hz2.symm;unfold zNj at hz2;have pz:zZ (zP zp (zd zQM (zg (iV (zB 2)) wb zAA (yH (zA (zI zu (zA (yG (yE yF (zA (zB 0) (zA (zB 3) 30#0)))) zG)) 99#0)))) 12#0) [some (zO n q),some (.adr l),some (.adr lr)] G2 (nD z):=by
   refine yn (x:=tupI [((os.filter (yA q z)).length:Int),(z:Int)]) (y:=.int 1) (fun G3 e R q'=>cm G3 e _ ⟨_,rfl,ln,?_⟩) zx fun u0 u0 u0 q'=>q';rw[<-hz2];exact q'
  refine zK8 (zMO (l:=l) (zE rfl) g2 (wR pz (zAM ⟨_,g2,by rw[bZ];omega,?_⟩)));refine⟨[some (zO n q),some (.adr l),none],_,.keep (.keep (.skip .nil)),.refl _,m-1,by omega,os++[z],none,rfl,by rw[cg];simp only[bV,c6];omega,?_,?_,sb2.put hl⟩
  ·rw[cg,show([z]:List Nat).length=1 from rfl,zAo,<-hos]
   unfold zNj;rw[<-hz2];rfl
  ·rw[zK,cN];rfl
 ·rw[decide_eq_false 2#0,if_neg 24#0]
  have hlen:os.length=n:=by
   have:os.length<=n:=by
    have:=nd.length_le_of_subset (l₂:=bY n) fun x hx=>c8.mpr (hlt x hx);rw[cz] at this;exact this
   omega
  show FgR R (.adr l) G1;rw[hlen] at hos;rw[<-hos] at h;refine⟨zS G l (os.map nD),⟨fun a o e=>?_,fun a o e=>sb.ro a o e⟩,h l hl⟩;by_cases ha:a=l
  ·subst ha;rw[zK] at e;cases e;exact g1
  ·rw[zW ha] at e;exact sb.m a o e
theorem zLQ{σ:S2}{G:Gp}{t u:zl}{l:Addr}{ds:List D}{i:Int}{R:119#0}(h:zZ t σ G (.adr l))(h1:zZ u σ G (.int i))(hl:Ls G l ds)(q:R (L3.cutD ds none (some i)) G):zEA t yX (yf u) σ G R:=h G 131#0 _ (h1 G 131#0 _ ⟨ds,hl,q⟩)
noncomputable def zQO:Option (List Nat)->D
 | none=>.non
 | some r=>uD r
noncomputable def zAP(d:Nat):wM:=fun ds G R=>∃(n:Nat) (q:4#0) (os:14#0) (k:Nat) (r:14#0) (lo:Addr),ds=[zO n q,.adr lo,nD k,uD r]/\Ls G lo (os.map nD)/\os.length=n/\n<=7/\(∀ x∈os,x<n)/\1<=k/\k<=n/\n<d+k/\r.length=2*k/\(∀ x∈r,x<=9)/\R (zQO (zAO q os d k r)) G
theorem zQP{ds:List D}{G:Gp}{R:Q2}(h:zAP 0 ds G R):False:=by
 obtain⟨n,q,os,k,r,lo,u0,u0,u0,u0,u0,u0,h1,h2,u0⟩:=h;omega
noncomputable def zFm(d:Nat):yU:=(zV (xIf (xB (zP (fEq false) (zB 2) (zI zu 30#0))) (zm (zB 3)) yI) (zV (zn (zP zp (zB 1) (zB 2)) (gN 4)) (zV (yw (iF (yE wH (zA (zB 3) (zA (zB 4) (zA (yG (yE yF (zA (zB 0) (zA (zB 4) (zA (yG (zEA (zB 1) yX (yf (zB 2)))) zG))))) zG))))) (gN 5) (zV (zn (zI (zAP d) (zA (zB 0) (zA (zB 1) (zA (zP zt (zB 2) 12#0) (zA (zB 5) zG))))) (gN 6)) (xIf (xB (zP (zIe true) (zB 6) (xC .non))) (zm (zB 6)) yI))) (zm (xC .non)))))
theorem zR6(d:Nat)(ds:List D)(G:Gp)(R:Q2)(h:zAP (d+1) ds G R):ds.length=4/\zFm d (zc R) (zQ ["web","order","done","ring","place","longer","found"] ds) G:=by
 obtain⟨n,q,os,k,r,lo,rfl,hlo,hon,hn,hlt,hk1,hkn,hd,hr,hrx,h⟩:=h;refine⟨rfl,?_⟩;unfold zFm;rw[show zQ ["web","order","done","ring","place","longer","found"] [zO n q,.adr lo,nD k,uD r]=[some (zO n q),some (.adr lo),some (nD k),some (uD r),none,none,none] from rfl];have t0:PuT (xB (zP (fEq false) (zB 2) (zI zu 30#0))) [some (zO n q),some (.adr lo),some (nD k),some (uD r),none,none,none] G (decide (k=n)):=wI (zCS (x:=nD k) (y:=nD n) (zE rfl) (by
  have:=zML (t:=zB 1) (σ:=[some (zO n q),some (.adr lo),some (nD k),some (uD r),none,none,none]) (G:=G) (a:=lo) (zE rfl) hlo;rw[bZ,hon] at this;exact this) rfl rfl (by rw[if_neg 24#0,zAL]))
 refine zRa t0 (fun hb=>zAK (zE rfl) (.of (by rw[zAO,if_pos (by rw[hon];exact of_decide_eq_true hb)] at h;exact h))) fun hb=>?_;have hkn':k<n:=by have:=of_decide_eq_false hb;omega
 have hko:k<os.length:=by omega
 rw[zAO,if_neg 2#0] at h;have hwch:zT6 q os k r=wch r os[k] (zAC ((os.take k).filter (yA q os[k]))):=by unfold zT6;simp[d7,hko]
 rw[hwch] at h;clear hwch;have ixp:zZ (zP zp (zB 1) (zB 2)) [some (zO n q),some (.adr lo),some (nD k),some (uD r),none,none,none] G (nD os[k]):=zGX (k:=k) (zE (d:=.adr lo) rfl) (zE rfl) hlo (zBS (by rw[cP];simp[hko]));have hp:os[k]<n:=hlt _ (dA _);refine zw ixp ?_;sleep 5;generalize os[k]=p at hp h;refine zHv (zCE (zUo (zC8 (wR (d:=uD r) (zE rfl) (wR (d:=nD p) (zE rfl) (zAs (zCn (zC8 (wR (d:=zO n q) (zE rfl) (wR (d:=nD p) (zE rfl) (zAs (zCn (zLQ (i:=(k:Int)) (zE (i:=1) (d:=.adr lo) rfl) (zE (i:=2) (d:=nD k) rfl) hlo fun ls hls=>?_)))))))))))));rw[zPf (by rw[bZ];omega),<-List.map_take];refine zAM ⟨n,q,p,os.take k,.adr ls,rfl,.inl zK,hp,fun x hx=>hlt x (eK hx),fun lc hlc=>?_⟩;have cl:((os.take k).filter (yA q p)).length<=9:=by
  have a:=dB (yA q p) (os.take k);rw[cQ] at a;omega
 refine zAM ⟨r,(os.take k).filter (yA q p),p,lc,rfl,.own,by omega,hrx,fun x hx=>?_,cl,fun lw hlw=>?_⟩
 ·have:=hlt x (eK (cb.mp hx).1);omega
 have hG3:(zS 128#0 lw ((wch r p (zAC 64#0)).map uD)).m lw=some ((wch r p (zAC 64#0)).map uD):=zK;have sG:L3.Sub G (zS 128#0 lw ((wch r p (zAC 64#0)).map uD)):=((L3.Sub.new hls).trans (.new hlc)).trans (.new hlw);generalize zS 128#0 lw ((wch r p (zAC 64#0)).map uD)=G3 at sG hG3 ⊢;have own3:=hG3;clear hG3;generalize hws:wch r p (zAC 64#0)=ws at h own3 ⊢;refine zAc (fun i G'=>G'=G3/\∀ w∈ws.take i,zAO q os d (k+1) w=none) ⟨rfl,fun w hw=>by simp at hw⟩ (fun i G' hI=>by rw[hI.1];exact .inl own3) ?_ ?_
 ·rintro i x hx G' ⟨rfl,hno⟩
  rw[cP] at hx;obtain⟨w,hw,rfl⟩:=Option.map_eq_some_iff.mp hx;obtain⟨w1,w2⟩:=zHu r.length (ce _) (show w∈zBf r p (zAC 64#0) r.length from by rw[show zBf r p (zAC 64#0) r.length=ws from hws];exact cK hw);sleep 5;refine yt (zAV (ds:=[zO n q,.adr lo,nD (k+1),uD w]) (zF (zE rfl) (zF (zE rfl) (zF (d:=nD (k+1)) (wQ (i:=(k:Int)) (j:=1) (zE rfl) zx) 51#0))) ⟨n,q,os,k+1,w,lo,rfl,hlo.sub sG,hon,hn,hlt,by omega,by omega,by omega,by omega,fun x hx=>?_,?_⟩)
  ·rcases w2 x hx with rfl | z
   ·omega
   ·exact hrx x z
  ·sleep 5
   cases hg:zAO q os d (k+1) w with
   | none =>
    refine zGG (wI (yn (x:=.non) (y:=.non) (zE rfl) zx fun u0 u0 u0 q'=>q')) ⟨.keep (.keep (.keep (.keep (.keep (.skip (.skip .nil)))))),_,.refl _,rfl,fun w' hw'=>?_⟩;rw[yR hw] at hw';rcases cr.mp hw' with z | z
    ·exact hno w' z
    ·rw[cf.mp z];exact hg
   | some r' =>
    refine zIT (wI (yn (x:=uD r') (y:=.non) (zE rfl) zx fun u0 u0 u0 q'=>q')) (zAK (d:=uD r') (zE rfl) ⟨G,sG,?_⟩);have:ws.findSome? (zAO q os d (k+1))=some r':=by
     have e:ws=ws.take i++w::ws.drop (i+1):=by
      have h1:ws=ws.take i++ws.drop i:=(dH i ws).symm;have h2:ws.drop i=w::ws.drop (i+1):=by
       obtain⟨hi,he⟩:=cc.mp hw;rw[List.drop_eq_getElem_cons hi,he]
      rw[<-h2];exact h1
     rw[e,List.findSome?_append,List.findSome?_eq_none_iff.mpr hno,List.findSome?_cons,hg];rfl
    rw[this] at h;exact h
 ·rintro G' ⟨rfl,hno⟩
  dsimp only;rw[bZ,e9] at hno;rw[List.findSome?_eq_none_iff.mpr hno] at h;exact zAK (d:=.non) zx ⟨G,sG,h⟩
noncomputable def zAt(n:Nat)(q:4#0):Option (List Nat):=match zAo n q n with
 | []=>none
 | o::tl=>zAO q (o::tl) 8 1 [o,o]
theorem zQQ{n:Nat}{q:4#0}(h1:1<=n)(h7:n<=7):(∀ w,zAt n q=some w->yM q (bY n) w)/\(Told n q->zAt n q≠none):=by
 have o:=zKM n q;unfold zAt;cases h:zAo n q n with
 | nil=>rw[h] at o;have:=o.len;simp at this;omega
 | cons p t=>rw[h] at o;exact zNb o 8 2#0
noncomputable def wT:wM:=fun ds G R=>∃(n:Nat) (q:4#0),ds=[zO n q]/\1<=n/\n<=7/\R (zQO (zAt n q)) G
noncomputable def zDF:yU:=(zV (yo (zI yQ (zA (zP zp (zB 0) 15#0) (zA (xC (.int 7)) zG)))) (zV (zn (yG (yE ym (zA (zB 0) zG))) (gN 1)) (zm (zI (zAP 8) (zA (zB 0) (zA (zB 1) (zA 12#0 (zA (yH (zA (zP zp (zB 1) 15#0) (zA (zP zp (zB 1) 15#0) zG))) zG))))))))
theorem zNk(ds:List D)(G:Gp)(R:Q2)(h:wT ds G R):ds.length=1/\zDF (zc R) (zQ ["web","order"] ds) G:=by
 obtain⟨n,q,rfl,h1,h7,h⟩:=h;refine⟨rfl,?_⟩;unfold zDF;rw[show zQ ["web","order"] [zO n q]=[some (zO n q),none] from rfl];refine(show zV (yo _) _ _ _ _ from zAV (ds:=[nD n,nD 7]) (zF (yr (q:=q) (zE rfl)) (zF zx zL)) ⟨n,7,rfl,h7,?_⟩);show zV (zn (yG (yE ym (zA (zB 0) zG))) (gN 1)) _ (zc R) [some (zO n q),none] G;refine yt (zCn (zC8 (wR (d:=zO n q) (zE rfl) (zAM ⟨n,q,rfl,h1,by omega,fun lo hlo=>?_⟩))));sleep 5;obtain⟨nd,hl,hlt⟩:=zKM n q;unfold zAt at h;generalize zAo n q n=os at nd hl hlt hlo h ⊢;obtain⟨p,t,rfl⟩:∃ p t,os=p::t:=by
  cases os with
  | nil=>simp at hl;omega
  | cons p t=>exact⟨p,t,rfl⟩
 have ix:∀ {σ:S2},look σ 1=some (.adr lo)->zZ (zP zp (zB 1) 15#0) σ (zS G lo ((p::t).map nD)) (nD p):=fun {σ} hs=>zGX (k:=0) (zE hs) zx .own (zBS (j:=0) rfl);have hp:=hlt p (cF ..);refine zAV (ds:=[zO n q,.adr lo,nD 1,uD [p,p]]) (zF (zE rfl) (zF (zE rfl) (zF zx (zF (yc (zF (ix rfl) (zF (ix rfl) zL)) 24#0) zL)))) ⟨n,q,p::t,1,[p,p],lo,rfl,.own,hl,h7,hlt,by omega,by omega,by omega,rfl,fun x hx=>?_,?_⟩
 ·simp only[cI,ff,or_false] at hx
  rcases hx with rfl | rfl<;>omega
 ·exact⟨G,.new hlo,h⟩
end K
namespace L3
open L2
section
variable {X:Cx} {a b c e o:Expr} {es:List Expr} {pos p:Pos} {ta tb te:zl}
theorem zNl:wD X (.builtin "abs") (fun xs H Q=>∃ i,xs=[.int i]/\Q (.int (if i<0 then -i else i)) H):=by
 sleep 9;obtain⟨i,rfl,q⟩:=h;obtain⟨u,rfl,t,rfl⟩:=vals1 r;exact call_abs_int fun u tk=>⟨.int (if i<0 then -i else i),H,I.tok _,⟨_,rfl⟩,q⟩
noncomputable def zKN:wM:=fun ds G R=>match ds with | [.int i]=>R (.int (if i<0 then -i else i)) G | _=>False
theorem zR7:zKj X.K (fun xs H Q=>∃ i,xs=[.int i]/\Q (.int (if i<0 then -i else i)) H) zKN:=by
 intro ds G R vs H Q h r d k;unfold zKN at h;split at h
 ·obtain⟨v,rfl,d1⟩:=zBD d
  unfold zX at d1;subst d1;exact⟨_,rfl,k _ G h _ H 137#0 r 35#0⟩
 ·exact h.elim
theorem zU4{t:wU}(hg:Gl X "abs")(hm:X.mg "abs"=none)(ha:A2 X [e] t)(he:3#0)(hpl:6#0):E2 X (.Call (.Name "abs" p) [e] [] pos) (zI zKN t):=zDw zNl zR7 hg hm boot_abs ha 8#0 8#0 he hpl
end
end L3
namespace K
open L2 L3
theorem zGo{σ:S2}{G:Gp}{t:zl}{o:Option (List Nat)}(h:zZ t σ G (zQO o)):zZ (zP (zIe true) t (xC .non)) σ G (.bl o.isSome):=yn h zx fun G2 e R q'=>by
 cases o<;>exact q'
theorem zQR{σ:S2}{G:Gp}{ta tb:zl}(ha:zZ ta σ G (.bl true)):zZ (xOr ta tb) σ G (.bl true):=fun G2 e R q=>ha G2 e _ (by
 show if true=true then R (.bl true) G2 else _;rw[if_pos rfl];exact q)
theorem zQS{σ:S2}{G:Gp}{ta tb:zl}{d:D}(ha:zZ ta σ G (.bl false))(hb:zZ tb σ G d):zZ (xOr ta tb) σ G d:=fun G2 e R q=>ha G2 e _ (by
 show if false=true then R (.bl true) G2 else tb σ G2 R;rw[if_neg 24#0];exact hb G2 e R q)
theorem zUC{σ:S2}{G:Gp}{t:zl}{i:Int}(h:zZ t σ G (.int i)):zZ (zI zKN (zA t zG)) σ G (.int (if i<0 then -i else i)):=zU (zF h zL) fun u0 u0 u0 q=>q
theorem zIx{σ:S2}{G:Gp}{ta tb:zl}{x:D}(ha:zZ ta σ G x)(hb:zZ tb σ G x)(hx:flat 8 x=true):zZ (zP (fEq true) ta tb) σ G (.bl false):=zCS ha hb hx hx (by rw[if_pos rfl,zDv x 8 hx];rfl)
theorem zEy{n:Nat}{q:4#0}(h1:1<=n)(h7:n<=7):(zAt n q).isSome=true↔Told n q:=by
 obtain⟨a,b⟩:=zQQ (q:=q) h1 h7;cases h:zAt n q with
 | none=>exact⟨fun z=>(nomatch z),fun z=>absurd h (b z)⟩
 | some w=>exact⟨fun u0=>⟨w,a w h⟩,fun u0=>rfl⟩
theorem zNm(ps:14#0):flat 8 (uD ps)=true:=by
 show(ps.map nD).all (flat 7)=true;rw[ec];intro x hx;obtain⟨k,u0,rfl⟩:=ca.mp hx;rfl
noncomputable def zCN:wM:=fun ds G R=>∃(n:Nat) (q:4#0) (ps:14#0) (i:Nat),ds=[zO n q,uD ps,nD i]/\n<=9/\i<n/\zBy n ps/\R (.bl true) G
noncomputable def zDG:yU:=(zV (zn (zd zv (zg (iR1 (zA (zP zp (zB 0) 15#0) zG)) wb (xB (zP (fIn true) (zB 5) (zB 1))) (zB 5))) (gN 3)) (zV (zn (zI yD (zA (zB 0) 30#0)) (gN 4)) (zV (xIf (zB5 (xB (zP (fEq true) (zI yD (zA (zB 0) 99#0)) (zB 4))) (xB (zP 140#0 (zB 4) (zI zAD (zA (zI zu 30#0) (zA (zI zu 99#0) zG)))))) 148#0 yI) (zV (xIf (xB (zP (fEq true) (zI yD (zA (zI yl (zA (zB 0) 73#0)) 30#0)) (zB 4))) 148#0 yI) (zm (xOr (zP (fEq false) (zB 1) (yH zG)) (zP 25#0 (zI zKN (zA (zP 20#0 (zB 4) (zI yD (zA (zB 0) (zA (yp (zB 1) (yf 12#0) yX) zG)))) zG)) 76#0)))))))
theorem zNn(ds:List D)(G:Gp)(R:Q2)(h:zCN ds G R):ds.length=3/\zDG (zc R) (zQ ["web","side","place","rest","rank"] ds) G:=by
 obtain⟨n,q,ps,i,rfl,hn,hi,hs,h⟩:=h;refine⟨rfl,?_⟩;have hl:=hs.len;have ho:=zMH n ps;unfold zDG;rw[show zQ ["web","side","place","rest","rank"] [zO n q,uD ps,nD i]=[some (zO n q),some (uD ps),some (nD i),none,none] from rfl];refine zw (d:=uD 60#0) (zBG (zLA (σ:=[some (zO n q),some (uD ps),some (nD i),none,none]) (n:=n) (q:=q) rfl (fun k=>zE rfl) (fun k=>rfl) 2#0)) ?_;sleep 5;refine zw (d:=nD (rk n q ps).length) (zU 41#0 fun u0 u0 u0 q'=>⟨n,q,ps,rfl,hn,hs.2,by omega,q'⟩) ?_;sleep 5;generalize hσ:[some (zO n q),some (uD ps),some (nD i),some (uD 60#0),some (nD (rk n q ps).length)]=σ;have v0:zZ (zB 0) σ G (zO n q):=zE 93#0;have v1:zZ (zB 1) σ G (uD ps):=zE 93#0;have v2:zZ (zB 2) σ G (nD i):=zE 93#0;have v3:zZ (zB 3) σ G (uD 60#0):=zE 93#0;have v4:zZ (zB 4) σ G (nD (rk n q ps).length):=zE 93#0;have eo:=zT9 (q:=q) (zRu hs);have r1:=zMZ n q ps;have r2:=zMZ n q 60#0;rw[eo] at r2;have c1:zZ (zI yD (zA (zB 0) 99#0)) σ G (nD (rk n q ps).length):=zU (zF v0 (zF v3 zL)) fun u0 u0 u0 q'=>⟨n,q,yP n ps,rfl,hn,fun x hx=>zDk hx,by omega,by rw[eo];exact q'⟩
 have m1:=zIh (zAH v1) (zAH v3);have g1:=wg (g:=fun i j=>.bl (decide (j<i))) v4 m1;rw[show decide (((min ps.length (yP n ps).length:Nat):Int)<(((rk n q ps).length:Nat):Int))=false by rw[decide_eq_false_iff_not];omega] at g1;refine wy (zKv (wI (zIx c1 v4 rfl)) (wI g1)) ?_;have c2:zZ (zI yD (zA (zI yl (zA (zB 0) 73#0)) 30#0)) σ G (nD (rk n q ps).length):=zU (zF (zU (zF v0 (zF v2 zL)) fun u0 u0 u0 q'=>⟨n,q,i,rfl,hi,hn,q'⟩) (zF v1 zL)) fun u0 u0 u0 q'=>⟨n,tq q i,ps,rfl,hn,hs.2,by omega,by rw[zMa hi];exact q'⟩
 refine wy (wI (zIx c2 v4 rfl)) ?_;refine zAK (d:=.bl true) ?_ (.of h);cases ps with
 | nil=>exact zQR (zCS (ng:=false) v1 (yc zL 24#0) rfl rfl (by rw[if_neg 24#0];rfl))
 | cons x t =>
  refine zQS (zCS (ng:=false) (b:=false) v1 (yc zL 24#0) (zNm (x::t)) rfl (by rw[if_neg 24#0];rfl)) ?_;have hp:=fk.mp hs.1;have ht:x∉t:=fun z=>cR x (hp.1 x z);have hst:zBy n t:=⟨hp.2,fun y hy=>hs.2 y (.tail _ hy)⟩
  have sl:zZ (yp (zB 1) (yf 12#0) yX) σ G (uD t):=zFh (k:=1) v1 zx 24#0;have hlt:=hst.len;have c3:zZ (zI yD (zA (zB 0) (zA (yp (zB 1) (yf 12#0) yX) zG))) σ G (nD (rk n q t).length):=zU (zF v0 (zF sl zL)) fun u0 u0 u0 q'=>⟨n,q,t,rfl,hn,hst.2,by omega,q'⟩
  obtain⟨k1,k2⟩:=zRz (q:=q) (hs.2 x (.head _)) ht;have a:=zUC (wg (g:=fun i j=>.int (i-j)) v4 c3);have f:=wg (g:=fun i j=>.bl (decide (i<j))) a (zx (d:=.int 2));rw[show decide ((if (((rk n q (x::t)).length:Nat):Int)-(((rk n q t).length:Nat):Int)<0 then -((((rk n q (x::t)).length:Nat):Int)-(((rk n q t).length:Nat):Int)) else (((rk n q (x::t)).length:Nat):Int)-(((rk n q t).length:Nat):Int))<2)=true by
   rw[decide_eq_true_eq];split<;>omega] at f
  exact f
noncomputable def zCO:wM:=fun ds G R=>∃(n:Nat) (q:4#0) (ps:14#0),ds=[zO n q,uD ps]/\n<=9/\zBy n ps/\zBL n q ps=true/\R (.bl true) G
noncomputable def zDH:yU:=(zV (zn (zd zv (zg (iR1 (zA (zP zp (zB 0) 15#0) zG)) wb (xB (zP (fIn true) (zB 6) (zB 1))) (zB 6))) (gN 2)) (zV (zn (zI zDA (zA (zB 0) 30#0)) (gNN 3 4)) (zV (xIf (xB (zP (fEq true) (zI yT 125#0) (zI zCh (zA (zB 0) (zA (zP zt (zB 1) (zB 2)) zG))))) 148#0 yI) (zV (xIf (xB (zP 140#0 (zP zp (zB 0) 15#0) (xC (.int 6)))) (zm (xC (.bl true))) yI) (zV (zn (zP (zIe true) (zI wT (zA (zB 0) zG)) (xC .non)) (gN 5)) (zm (zP (fEq false) (zB 5) (zFJ (zP (zIe true) (zI wT 99#0) (xC .non)) (zP (zIe true) (zI wT (zA (zB 4) zG)) (xC .non))))))))))
theorem zNo{n:Nat}{ps:14#0}(hs:zBy n ps):(ps++yP n ps).Perm (bY n):=by
 refine(eA ?_ dF).mpr fun x=>?_
 ·refine dq.mpr ⟨hs.1.imp fun h=>cH h,zDD n ps,fun a ha b hb e=>(wq.mp hb).2 (e▸ha)⟩
 ·rw[cr,wq,c8]
  constructor
  ·rintro(h | h)
   ·exact hs.2 x h
   ·exact h.1
  ·intro h
   by_cases hx:x∈ps
   ·exact .inl hx
   ·exact .inr ⟨h,hx⟩
theorem zNp(ds:List D)(G:Gp)(R:Q2)(h:zCO ds G R):ds.length=2/\zDH (zc R) (zQ ["web","side","rest","one","two","whole"] ds) G:=by
 obtain⟨n,q,ps,rfl,hn,hs,hsp,h⟩:=h;refine⟨rfl,?_⟩;obtain⟨l2,l3⟩:=zMP hs hsp;have lo:=zKA hs;have hf:Fac 1 ps 60#0 (yA q):=(zDl n q ps).ups (by
  unfold zBL at hsp;simp only[cW,decide_eq_true_eq] at hsp;exact hsp.2)
 have hp:=zNo hs;unfold zDH;rw[show zQ ["web","side","rest","one","two","whole"] [zO n q,uD ps]=[some (zO n q),some (uD ps),none,none,none,none] from rfl];refine zw (d:=uD 60#0) (zBG (zLA (σ:=[some (zO n q),some (uD ps),none,none,none,none]) (n:=n) (q:=q) rfl (fun k=>zE rfl) (fun k=>rfl) 2#0)) ?_;sleep 5;refine zw (d:=zRt n q ps) (zU 41#0 fun u0 u0 u0 q'=>⟨n,q,ps,rfl,hn,hs,hsp,q'⟩) ?_;unfold zRt;refine zUx ?_;simp only[bS,bR];generalize hw1:zO (ps.length+1) (fun p=>decide (p∈ptL q ps 60#0))=w1;generalize hw2:zO ((yP n ps).length+1) (fun p=>decide (p∈ptL q 60#0 ps))=w2;generalize hσ:[some (zO n q),some (uD ps),some (uD 60#0),some w1,some w2,none]=σ;have v0:zZ (zB 0) σ G (zO n q):=zE 93#0;have v1:zZ (zB 1) σ G (uD ps):=zE 93#0;have v2:zZ (zB 2) σ G (uD 60#0):=zE 93#0;have v3:zZ (zB 3) σ G w1:=zE 93#0;have v4:zZ (zB 4) σ G w2:=zE 93#0;have ew:zO (ps.length+1+((yP n ps).length+1)-2) (fun p=>decide (p∈glF (ps.length+1) (fun p=>decide (p∈ptL q ps 60#0)) ((yP n ps).length+1) (fun p=>decide (p∈ptL q 60#0 ps))))=zO (ps++yP n ps).length (yh q (ps++yP n ps)):=by
  rw[show ps.length+1+((yP n ps).length+1)-2=ps.length+(yP n ps).length by omega,cg];exact zGH fun p hp=>zGn hf hp
 have c1:zZ (zI yT 125#0) σ G (zO (ps++yP n ps).length (yh q (ps++yP n ps))):=zU (zF v3 (zF v4 zL)) fun u0 u0 u0 q'=>⟨ps.length+1,_,(yP n ps).length+1,_,by rw[<-hw1,<-hw2],by omega,by omega,by omega,by rw[ew];exact q'⟩
 have c2:zZ (zI zCh (zA (zB 0) (zA (zP zt (zB 1) (zB 2)) zG))) σ G (zO (ps++yP n ps).length (yh q (ps++yP n ps))):=zU (zF v0 (zF (zBj v1 v2 (by simp;omega)) zL)) fun u0 u0 u0 q'=>⟨n,q,ps++yP n ps,by rw[cN],fun x hx=>c8.mp (hp.mem_iff.mp hx),by simp;omega,q'⟩
 refine wy (wI (zIx c1 c2 zHa)) ?_;have g6:=wg (g:=fun i j=>.bl (decide (j<i))) (yr v0) (zx (σ:=σ) (G:=G) (d:=.int 6));by_cases h6:6<n
 ·rw[show decide ((6:Int)<((n:Nat):Int))=true by rw[decide_eq_true_eq];omega] at g6
  exact zLD (zIT (wI g6) (zAK (d:=.bl true) zx (.of h)))
 ·rw[show decide ((6:Int)<((n:Nat):Int))=false by rw[decide_eq_false_iff_not];omega] at g6
  refine wy (wI g6) ?_;refine zw (d:=.bl (zAt n q).isSome) (zGo (zU (zF v0 zL) fun u0 u0 u0 q'=>⟨n,q,rfl,by omega,by omega,q'⟩)) ?_;rw[<-hσ];sleep 5;generalize hσ':[some (zO n q),some (uD ps),some (uD 60#0),some w1,some w2,some (D.bl (zAt n q).isSome)]=σ';have u3:zZ (zB 3) σ' G w1:=zE (by rw[<-hσ'];rfl);have u4:zZ (zB 4) σ' G w2:=zE (by rw[<-hσ'];rfl);have u5:zZ (zB 5) σ' G (.bl (zAt n q).isSome):=zE (by rw[<-hσ'];rfl);have d1:=zGo (zU (sp:=wT) (d:=zQO (zAt (ps.length+1) fun p=>decide (p∈ptL q ps 60#0))) (zF u3 zL) fun u0 u0 u0 q'=>⟨ps.length+1,_,by rw[<-hw1],by omega,by omega,q'⟩);have d2:=zGo (zU (sp:=wT) (d:=zQO (zAt ((yP n ps).length+1) fun p=>decide (p∈ptL q 60#0 ps))) (zF u4 zL) fun u0 u0 u0 q'=>⟨(yP n ps).length+1,_,by rw[<-hw2],by omega,by omega,q'⟩);have dd:=zEH d1 fun u0=>d2;have e:((zAt (ps.length+1) fun p=>decide (p∈ptL q ps 60#0)).isSome&&(zAt ((yP n ps).length+1) fun p=>decide (p∈ptL q 60#0 ps)).isSome)=(zAt n q).isSome:=by
   rw[cG,cW,zEy 2#0 2#0,zEy 2#0 2#0,zEy 2#0 2#0];exact(zLM hf hp).symm
  rw[e] at dd;exact zAK (d:=.bl true) (zCS (ng:=false) u5 dd rfl rfl (by rw[if_neg 24#0];cases (zAt n q).isSome<;>rfl)) (.of h)
noncomputable def zBO:wM:=fun ds G R=>∃(i j:Nat) (w1 w2:14#0),ds=[.tup (w1.map nD),.tup (w2.map nD)]/\zAJ (i+1) w1/\zAJ (j+1) w2/\1<=i/\1<=j/\i+j<=9/\R (.bl true) G
noncomputable def zDI:yU:=(zV (zn (zI wX (zA (zB 0) 30#0)) (gN 2)) (zV (zn (zI yT (zA (zI zAW (zA (zB 0) zG)) (zA (zI zAW 30#0) zG))) (gN 3)) (zV (xIf (xB (zP (fEq true) (zI zAW 73#0) (zB 3))) 148#0 yI) (zV (zn (zJT (zA (zP 20#0 (zP 54#0 44#0 76#0) 12#0) zG)) (gN 4)) (zm (xOr (zP 25#0 (zI zAD (zA (zI zu (zA (zB 4) zG)) (zA (zP 20#0 (zP zp (zB 3) 15#0) (zI zu (zA (zB 4) zG))) zG))) 76#0) (zI yi 125#0)))))))
theorem zNq(ds:List D)(G:Gp)(R:Q2)(h:zBO ds G R):ds.length=2/\zDI (zc R) (zQ ["one","two","ring","web","side"] ds) G:=by
 obtain⟨i,j,w1,w2,rfl,r1,r2,hi,hj,hij,h⟩:=h;refine⟨rfl,?_⟩;obtain⟨A,B,C,e1,d1⟩:=zMd r1 2#0 2#0;obtain⟨A',B',C',e2,d2⟩:=zMd r2 2#0 2#0;rw[Nat.add_sub_cancel] at e1 d1 e2 d2;have t1:yM (za w1) (bY (i+1)) w1:=zMU r1 fun p u0=>rfl;have t2:yM (za w2) (bY (j+1)) w2:=zMU r2 fun p u0=>rfl;have t3:yM (glQ i (za w1) j (za w2)) (bY (i+j)) (glW i A B C A' B' C'):=by
  have u1:=t1;have u2:=t2;rw[e1] at u1;rw[e2] at u2;have:=u1.glued d1.hA d1.hB d1.hC u2 d2.hA d2.hB d2.hC;rw[e1,e2];exact this
 have rl1:w1.length=2*(i+1):=r1.len;unfold zDI;rw[show zQ ["one","two","ring","web","side"] [.tup (w1.map nD),.tup (w2.map nD)]=[some (.tup (w1.map nD)),some (.tup (w2.map nD)),none,none,none] from rfl];refine zw (d:=.tup ((glW i A B C A' B' C').map nD)) (zU 41#0 fun u0 u0 u0 q'=>⟨i,j,A,B,C,A',B',C',by rw[e1,e2],d1,d2,hij,q'⟩) ?_;simp only[gN,bS,bR];generalize glW i A B C A' B' C'=W at t3;refine zw (d:=zO (i+j) (glQ i (za w1) j (za w2))) (zU (ds:=[zO (i+1) (za w1),zO (j+1) (za w2)]) (zF (zU 51#0 fun u0 u0 u0 q'=>⟨i+1,w1,rfl,r1,by omega,q'⟩) (zF (zU 51#0 fun u0 u0 u0 q'=>⟨j+1,w2,rfl,r2,by omega,q'⟩) zL)) fun u0 u0 u0 q'=>⟨i+1,_,j+1,_,rfl,by omega,by omega,by omega,by
  rw[show i+1+(j+1)-2=i+j by omega];exact q'⟩) ?_
 sleep 5;have c1:zZ (zI zAW 73#0) [some (.tup (w1.map nD)),some (.tup (w2.map nD)),some (.tup (W.map nD)),some 116#0,none] G 116#0:=zU 51#0 fun u0 u0 u0 q'=>⟨i+j,W,rfl,t3.ring,by omega,by rw[t3.web];exact q'⟩
 refine wy (wI (zIx c1 (zE rfl) zHa)) ?_;have sd:zZ (zP 20#0 (zP 54#0 44#0 76#0) 12#0) [some (.tup (w1.map nD)),some (.tup (w2.map nD)),some (.tup (W.map nD)),some 116#0,none] G (nD i):=by
  have v:zZ (zB 0) [some (.tup (w1.map nD)),some (.tup (w2.map nD)),some (.tup (W.map nD)),some 116#0,none] G 45#0:=zE (by rw[<-e1];rfl);exact zMb v d1
 refine zw (d:=uD (bY i)) (zRM sd 2#0) ?_;sleep 5;generalize hσ:[some (D.tup (w1.map nD)),some (.tup (w2.map nD)),some (.tup (W.map nD)),some 116#0,some (uD (bY i))]=σ;have v3:zZ (zB 3) σ G 116#0:=zE 93#0;have v4:zZ (zB 4) σ G (uD (bY i)):=zE 93#0;have l4:zZ (zI zu (zA (zB 4) zG)) σ G (nD i):=by
  have:=zAH v4;rw[cz] at this;exact this
 have df:zZ (zP 20#0 (zP zp (zB 3) 15#0) (zI zu (zA (zB 4) zG))) σ G (nD j):=by
  have:=wg (g:=fun i j=>.int (i-j)) (yr v3) l4;rw[show(((i+j:Nat):Int))-(i:Int)=(j:Int) by omega] at this;exact this
 have mn:=wg (g:=fun i j=>.bl (decide (i<j))) (zIh l4 df) (zx (σ:=σ) (G:=G) (d:=.int 2));refine zAK (d:=.bl true) ?_ (.of h);by_cases h2:min i j<2
 ·rw[show decide (((min i j:Nat):Int)<2)=true by rw[decide_eq_true_eq];omega] at mn
  exact zQR mn
 ·rw[show decide (((min i j:Nat):Int)<2)=false by rw[decide_eq_false_iff_not];omega] at mn
  refine zQS mn (zU (zF v3 (zF v4 zL)) fun u0 u0 u0 q'=>⟨i+j,_,bY i,rfl,hij,fun x hx=>by have:=c8.mp hx;omega,by rw[cz];omega,dX,?_⟩);rw[zNd 2#0 2#0];exact q'
theorem zH1{σ:S2}{G:Gp}{sp:List D->Gp->98#0->Prop}{t:wU}{R:119#0}(h:t σ G fun ds G1=>sp ds G1 R):yE sp t σ G R:=h
theorem zNr{σ:S2}{G:Gp}{i j:Nat}{t:wU}{u:yU}{E:yB}(h:t σ G fun ds G1=>match ds with | [d,e]=>u E ((σ.set i (some d)).set j (some e)) G1 | _=>False):zV (zO6 i j t) u E σ G:=h
theorem zR8{te:zl}{t u:yU}{E:yB}{σ:S2}{G:Gp}(h:te σ G fun d G1=>match d with | .bl b=>if (!b)=true then t E σ G1 else u E σ G1 | _=>False):xIf (zAj (xB te)) t u E σ G:=h
theorem zQT{σ:S2}{G:Gp}{t:zl}{a:Addr}{xs:List D}{j:Int}(h:zZ t σ G (.adr a))(hl:Ls G a xs):PuL (zEA t yX (yf (xC (.int j)))) σ G (L3.cutD xs none (some j)):=fun G2 e R q=>h G2 e _ ⟨xs,e.ls hl,q⟩
theorem zNs{xs:List D}{lo hi:Option Int}{x:D}(h:x∈L3.cutD xs lo hi):x∈xs:=List.mem_of_mem_drop (eK h)
theorem zNt{n p:Nat}{q:4#0}(hp:p<n):zFL n (tq q p)=zFL n q:=by
 unfold zFL;exact eP fun ps u0=>zQG hp
theorem zIy(m:28#0):∀ d∈m.map tI,flat 8 d=true:=fun d hd=>by
 obtain⟨ns,u0,rfl⟩:=ca.mp hd;show(ns.map D.int).all (flat 7)=true;rw[ec];intro x hx;obtain⟨k,u0,rfl⟩:=ca.mp hx;rfl
theorem zR9(m:28#0):eqDs (m.map tI) (m.map tI)=true:=by
 have:=zDv (.tup (m.map tI)) 9 (by
  show(m.map tI).all (flat 8)=true;exact ec.mpr (zIy m))
 exact this
theorem zNu{n:Nat}{q:4#0}{m:28#0}(hn:1<=n)(pm:m.Perm ((zFL n q).map uI)){x:D}(hx:x∈m.map tI):∃ ps,x=uD ps/\zBy n ps/\zBL n q ps=true:=by
 obtain⟨ns,hns,rfl⟩:=ca.mp hx;obtain⟨ps,hps,rfl⟩:=ca.mp (pm.mem_iff.mp hns);obtain⟨h1,h2⟩:=cb.mp hps;have h3:=(zCo _ ps h1).1;rw[show n-1+1=n by omega] at h3;have e:=zP0 [ps];refine⟨ps,?_,h3,h2⟩;simpa using e.symm
noncomputable def zMe:yU:=(zV (yw (iR1 (zA (zI zBr (zA 12#0 (zA (zI zAD (zA 44#0 (zA 76#0 zG))) zG))) zG)) (gN 1) (zV (zn (yG (yE wP (zA (zB 0) 30#0))) (gN 2)) (zV (zn (zP zp (yG (zAg (zA (zI zBH (zA (zB 2) (zA (xC (.int 7)) zG))) (zA (zI zCK (zA (zB 2) (zA (xC (.int 4)) zG))) zG)))) (zI zy (zA (zB 2) (zA 76#0 zG)))) (gN 3)) (zV (zn (zI zy (zA (zB 2) (zA (zP zp (zB 3) 15#0) zG))) (gN 4)) (zV (yw (iR1 (zA (xC (.int 3)) zG)) (gN 5) (xIf (zAj (xB (zI zCN (zA (zB 3) (zA (zI zC6 (zA (zB 2) (zA (zP zp (zB 3) 15#0) zG))) (zA (zB 4) zG)))))) 148#0 yI)) (zV (zn (yG (yE zAZ 99#0)) (gN 6)) (zV (xIf (xB (zP (fEq true) (yG (yE zAZ (zA (zI yl 125#0) zG))) (zB 6))) 148#0 yI) (zV (yw (iF (zEA (zB 6) yX (yf 76#0))) (gN 7) (xIf (zAj (xB (zI zCO (zA (zB 3) (zA (zB 7) zG))))) 148#0 yI)) (zV (zO6 8 9 (zA (zI zAU (zA (zB 2) (zA (zP zt 76#0 (zI zy (zA (zB 2) (zA (xC (.int 5)) zG)))) zG))) (zA (zI zAU (zA (zB 2) (zA (zP zt 76#0 (zI zy (zA (zB 2) (zA (xC (.int 4)) zG)))) zG))) zG))) (xIf (zB5 (zAj (xB (zI zBO (zA (zB 8) (zA (zB 9) zG))))) (zAj (xB (zI zBO (zA (zB 9) (zA (zB 8) zG)))))) 148#0 yI)))))))))) (zm (xC (.bl true))))
theorem zU5(ds:List D)(G:Gp)(R:Q2)(h:zHY ds G R):ds.length=1/\zMe (zc R) (zQ ["script","k","state","web","place","turn","some","side","one","two"] ds) G:=by
 obtain⟨a,ns,rfl,ha,u0,u0,h⟩:=h;refine⟨rfl,?_⟩;unfold zMe;rw[show zQ ["script","k","state","web","place","turn","some","side","one","two"] [.adr a]=[some (.adr a),none,none,none,none,none,none,none,none,none] from rfl];obtain⟨mm,hmm⟩:=zM7 (σ:=[some (.adr a),none,none,none,none,none,none,none,none,none]) (G:=G) (c:=2) 2#0 rfl (.inr ha);refine zOh hmm ?_ ?_
 rotate_left
 ·intro G1 e1
  exact⟨G,e1.sub,h⟩
 intro x hx G1 e1;obtain⟨k,u0,rfl⟩:=ca.mp hx;sleep 5;have ha1:Ls G1 a (ns.map D.int):=e1.ls (.inr ha);refine zM9 (i:=0) (j:=1) (x:=2) rfl rfl ha1 fun l s b hl ok=>?_;simp only[bS,bR];have st0:zAF (zS G1 l [.int s,.bl b]) l:=⟨s,b,zK,ok⟩
 have sb0:L3.Sub G1 (zS G1 l [.int s,.bl b]):=.new hl;generalize zS G1 l [.int s,.bl b]=G2 at st0 sb0;have drS:∀ {G G':Gp},L3.Sub G1 G->Dr l G G'->L3.Sub G1 G':=fun {G G'} hs hd=>by
  obtain⟨s',b',rfl,u0⟩:=hd;exact hs.put hl
 refine yt (zRb (zCn (zHf (zAs (zAV (zF (zE (d:=.adr l) rfl) (zF (zx (d:=.int 7)) zL)) ⟨l,7,rfl,st0,by omega,by omega,fun n1 q1 G3 h1 h19 d3=>zAs (zAV (zF (zE (d:=.adr l) rfl) (zF (zx (d:=.int 4)) zL)) ⟨l,4,rfl,d3.st,by omega,by omega,fun n2 q2 G4 h2 h29 h27 d4=>zAM ⟨by rw[sizeLine_eq];simp,fun c hc=>zAV (zF (zE (d:=.adr l) rfl) (zF (zx (d:=.int 2)) zL)) ⟨l,2,rfl,d4.st.ext (.new hc),by omega,by omega,fun t G5 ht d5=>?_⟩⟩⟩)⟩)))));have cl:c≠l:=d4.st.ne hc;have m5:G5.m c=some [zO n1 q1,zO n2 q2]:=by rw[d5.ne cl];exact zK
 have sb5:L3.Sub G1 G5:=drS ((drS (drS sb0 d3) d4).trans (.new hc)) d5;have hw:∃ n q,atI [zO n1 q1,zO n2 q2] (t:Int)=some (zO n q)/\1<=n/\n<=7:=by
  match t,ht with
  | 0,_=>exact⟨n1,q1,rfl,h1,by omega⟩
  | 1,_=>exact⟨n2,q2,rfl,h2,h27 2#0⟩
 obtain⟨n,q,hw,n1',n7⟩:=hw;have n9:n<=9:=by omega
 refine zAG m5 hw ?_;have st5:=d5.st;clear h1 h19 h2 h29 h27 m5 hw cl hc d3 d4 d5 st0 sb0;sleep 5;refine yt (zAV (zF (zE (d:=.adr l) rfl) (zF (yr (n:=n) (q:=q) (zE rfl)) zL)) ⟨l,n,rfl,st5,by omega,by omega,fun pl G6 hpl d6=>?_⟩);sleep 5;have st6:=d6.st;have sb6:=drS sb5 d6;clear d6 st5 sb5;refine zFj (zIQ (n:=3) (zF zx zL) 2#0 ?_);refine zAc (fun i G'=>zAF G' l/\L3.Sub G1 G') ⟨st6,sb6⟩ 150#0 ?_ ?_
 ·rintro i x hx G' ⟨h4,h5⟩
  obtain⟨rfl,hi⟩:=zGh hx;show xIf _ _ _ _ [some (.adr a),some (nD k),some (.adr l),some (zO n q),some (nD pl),some (nD i),none,none,none,none] G';refine zR8 (zKw (wR (d:=zO n q) (zE rfl) (zAs (zAV (zF (zE (d:=.adr l) rfl) (zF (yr (n:=n) (q:=q) (zE rfl)) zL)) ⟨l,n,rfl,h4,by omega,fun ps G'' hps d=>wR (d:=nD pl) (zE rfl) (zAM ⟨n,q,ps,pl,rfl,n9,hpl,hps,?_⟩)⟩))));show if (!true)=true then _ else _;rw[if_neg 24#0];exact⟨.keep (.keep (.keep (.keep (.keep (.skip (.keep (.keep (.keep (.keep .nil))))))))),_,.refl _,d.st,drS h5 d⟩
 ·rintro G' ⟨h4,h5⟩
  dsimp only;clear st6 sb6;refine yt (zCn (zH1 (wR (d:=zO n q) (zE rfl) (zAM ⟨n,q,rfl,n1',n7,fun m pm pw ld hld=>?_⟩))));sleep 5;have sb7:L3.Sub G1 (zS G' ld (m.map tI)):=h5.trans (.new hld);have st7:zAF (zS G' ld (m.map tI)) l:=h4.ext (.new hld);have l7:Ls (zS G' ld (m.map tI)) ld (m.map tI):=.own;generalize zS G' ld (m.map tI)=G7 at sb7 st7 l7;refine zLD (zVT (zRb (zCn (zH1 (wR (d:=zO n (tq q pl)) (zU (zF (zE (d:=zO n q) rfl) (zF (zE (d:=nD pl) rfl) zL)) fun u0 u0 u0 q'=>⟨n,q,pl,rfl,hpl,n9,q'⟩) (zAM ⟨n,tq q pl,rfl,n1',n7,fun m' pm' pw' lf hlf=>?_⟩))))));rw[zNt hpl] at pm';obtain rfl:m'=m:=zP3 pm' pm pw' pw;have l8:Ls (zS G7 lf (m'.map tI)) ld (m'.map tI):=l7.sub (.new hlf);have st8:zAF (zS G7 lf (m'.map tI)) l:=st7.ext (.new hlf);have sb8:L3.Sub G1 (zS G7 lf (m'.map tI)):=sb7.trans (.new hlf);have l9:Ls (zS G7 lf (m'.map tI)) lf (m'.map tI):=.own;generalize zS G7 lf (m'.map tI)=G8 at l8 st8 sb8 l9;refine(zE (i:=6) (d:=.adr ld) rfl) G8 (.refl G8) _ ⟨m'.map tI,m'.map tI,l9,l8,zIy m',zIy m',?_⟩;rw[zR9];show if (if true=true then !true else true)=true then _ else _;rw[if_neg 24#0];refine zFj (zCE (zUo ((zQT (zE (i:=6) (d:=.adr ld) rfl) l8) G8 (.refl G8) _ fun r1 hr1=>?_)));have sb9:L3.Sub G1 (zS G8 r1 (L3.cutD (m'.map tI) none (some 2))):=sb8.trans (.new hr1);have st9:zAF (zS G8 r1 (L3.cutD (m'.map tI) none (some 2))) l:=st8.ext (.new hr1);refine zNB .own (fun x hx=>?_) ?_
  ·obtain⟨ps,rfl,hs,hsp⟩:=zNu n1' pm (zNs hx)
   sleep 5;refine zGG (zCx (b:=true) (wI (zU (zF (zE (d:=zO n q) rfl) (zF (zE (d:=uD ps) rfl) zL)) fun u0 u0 u0 q'=>⟨n,q,ps,rfl,n9,hs,hsp,q'⟩))) ?_;exact⟨.keep (.keep (.keep (.keep (.keep (.keep (.keep (.skip (.keep (.keep .nil))))))))),.refl _⟩
  ·dsimp only
   generalize zS G8 r1 (L3.cutD (m'.map tI) none (some 2))=G9 at sb9 st9;refine zNr (zAs (zKw (wR (d:=.adr l) (zE rfl) (zAs (zUm zx (zAV (zF (zE (d:=.adr l) rfl) (zF (zx (d:=.int 5)) zL)) ⟨l,5,rfl,st9,by omega,by omega,fun t1 G10 ht1 d10=>?_⟩))))));simp only[zt];rw[show(2:Int)+(t1:Int)=((t1+1+1:Nat):Int) by omega];refine zAM ⟨l,t1+1+1,rfl,d10.st,by omega,fun w1 G11 hw1 d11=>?_⟩;refine zAs (zKw (wR (d:=.adr l) (zE rfl) (zAs (zUm zx (zAV (zF (zE (d:=.adr l) rfl) (zF (zx (d:=.int 4)) zL)) ⟨l,4,rfl,d11.st,by omega,by omega,fun t2 G12 ht2 d12=>?_⟩)))));simp only[zt];rw[show(2:Int)+(t2:Int)=((t2+1+1:Nat):Int) by omega];refine zAM ⟨l,t2+1+1,rfl,d12.st,by omega,fun w2 G13 hw2 d13=>zAM ?_⟩;simp only[bS,bR];have sb13:L3.Sub G1 G13:=drS (drS (drS (drS sb9 d10) d11) d12) d13;refine zGG (zKv (zCx (b:=true) (wI (zU (zF (zE (d:=.tup (w1.map nD)) rfl) (zF (zE (d:=.tup (w2.map nD)) rfl) zL)) fun u0 u0 u0 q'=>⟨t1+1,t2+1,w1,w2,rfl,hw1,hw2,by omega,by omega,by omega,q'⟩))) (zCx (b:=true) (wI (zU (zF (zE (d:=.tup (w2.map nD)) rfl) (zF (zE (d:=.tup (w1.map nD)) rfl) zL)) fun u0 u0 u0 q'=>⟨t2+1,t1+1,w2,w1,rfl,hw2,hw1,by omega,by omega,by omega,q'⟩)))) ?_;exact⟨.keep (.skip (.skip (.skip (.skip (.skip (.skip (.skip (.skip (.skip .nil))))))))),sb13⟩
noncomputable def Gv(K:18#0)(x:Str)(st:Stmt):Prop:=∃ f fd,PySem.W.nsIn K mainGlobals x=some (some (.ref f))/\Fun K x x st f fd
noncomputable def Gf(K:18#0)(mg:78#0)(x:Str)(st:Stmt):Prop:=∃ f fd,Fun K x x st f fd/\mg x=some (.ref f)
theorem Gv.of{K:18#0}{x:Str}{st:Stmt}{f:Addr}{oc:Value}{od an:Option Addr}{sl:Array (Option Value)}{kV dc pm cd ct:Value}(a:PySem.W.nsIn K mainGlobals x=some (some (.ref f)))(l:K.lookup f=some ⟨oc,od,.func (PySem.W.fnOf x x (zBT st) (wo st) (zJ st) .none kV dc pm an cd ct),sl⟩)(c:PySem.W.codeIn K cd x=true)(k:PySem.W.keepIn K (.ref f)=true):Gv K x st:=⟨f,_,a,zOL (st:=st) l c k⟩
theorem Gv.gf{K:18#0}{x:Str}{st:Stmt}{h:Heap}{mg:78#0}(X:K.In h)(G:h.Ns mainGlobals mg)(g:Gv K x st):Gf K mg x st:=let ⟨f,fd,a,F⟩:=g;⟨f,fd,F,PySem.W.mg_of X G a⟩
noncomputable abbrev zCp:Stmt:=top 6
theorem zEX:zY ["thing"] ["thing"] (zJ zCp):=1#0
noncomputable abbrev zA4:Stmt:=top 7
theorem zDW:zY ["many","thing"] ["many","thing"] (zJ zA4):=1#0
noncomputable abbrev zA5:Stmt:=top 8
theorem zDX:zY ["things"] ["things"] (zJ zA5):=1#0
noncomputable abbrev zIz:Stmt:=top 9
theorem zKO:zY ["many"] ["many"] (zJ zIz):=1#0
noncomputable abbrev zDn:Stmt:=top 10
theorem zFD:zY ["places","found","k","j"] ["places"] (zJ zDn):=1#0
noncomputable abbrev zBl:Stmt:=top 11
theorem zCq:zY ["many","most"] ["many","most"] (zJ zBl):=1#0
noncomputable abbrev zI0:Stmt:=top 13
theorem zKP:zY ["ring","one","other","first","second"] ["ring","one","other"] (zJ zI0):=1#0
noncomputable abbrev zEY:Stmt:=top 14
theorem zH2:zY ["ring","many"] ["ring"] (zJ zEY):=1#0
noncomputable abbrev zBP:Stmt:=top 15
theorem zCW:zY ["ring","by"] ["ring","by"] (zJ zBP):=1#0
noncomputable abbrev zLR:Stmt:=top 17
theorem zMf:zY ["web","one","other"] ["web","one","other"] (zJ zLR):=1#0
noncomputable abbrev zEZ:Stmt:=top 18
theorem zH3:zY ["web","place"] ["web","place"] (zJ zEZ):=1#0
noncomputable abbrev zI1:Stmt:=top 19
theorem zMg:zY ["web","places","many","ties"] ["web","places"] (zJ zI1):=1#0
noncomputable abbrev zI2:Stmt:=top 20
theorem zKQ:zY ["web","order"] ["web","order"] (zJ zI2):=1#0
noncomputable abbrev zA6:Stmt:=top 22
theorem zDY:zY ["web","places"] ["web","places"] (zJ zA6):=1#0
noncomputable abbrev zDo:Stmt:=top 23
theorem zFE:zY ["web","places","others","free","place","rest","row"] ["web","places"] (zJ zDo):=1#0
noncomputable abbrev zEa:Stmt:=top 24
theorem zH4:zY ["web","place","others"] ["web","place","others"] (zJ zEa):=1#0
noncomputable abbrev zDp:Stmt:=top 25
theorem zFF:zY ["web","places"] ["web","places"] (zJ zDp):=1#0
noncomputable abbrev zCr:Stmt:=top 26
theorem zH5:zY ["web","sides","place"] ["web"] (zJ zCr):=1#0
noncomputable abbrev zGp:Stmt:=top 27
theorem zH6:zY ["web","places","others"] ["web","places"] (zJ zGp):=1#0
noncomputable abbrev zEz:Stmt:=top 28
theorem zGq:zY ["web","side","others","last","ties","k"] ["web","side","others"] (zJ zEz):=1#0
noncomputable abbrev yu:Stmt:=top 29
theorem zCX:zY ["one","two","ahead","many","ties","place"] ["one","two"] (zJ yu):=1#0
noncomputable abbrev wu:Stmt:=top 30
theorem zB0:zY ["one","two","ahead","first","second"] ["one","two"] (zJ wu):=1#0
noncomputable abbrev zBm:Stmt:=top 31
theorem zCs:zY ["ring","last","begun","second"] ["ring"] (zJ zBm):=1#0
noncomputable abbrev zE0:Stmt:=top 34
theorem zGr:zY ["web","order"] ["web"] (zJ zE0):=1#0
noncomputable abbrev zAQ:Stmt:=top 35
theorem zDZ:zY ["web","order","rest"] ["web"] (zJ zAQ):=1#0
noncomputable abbrev zA7:Stmt:=top 36
theorem zDa:zY ["web","place","others"] ["web","place","others"] (zJ zA7):=1#0
noncomputable abbrev zFn:Stmt:=top 37
theorem zGs:zY ["web","order","done","ring","place","longer","found"] ["web","order","done","ring"] (zJ zFn):=1#0
noncomputable abbrev zA8:Stmt:=top 38
theorem zDb:zY ["ring","place","crossed","wanted","found","first","inside","second"] ["ring","place","crossed"] (zJ zA8):=1#0
noncomputable abbrev zCP:Stmt:=top 40
theorem zDc:zY ["web","place","near"] ["web","place"] (zJ zCP):=1#0
noncomputable abbrev zCt:Stmt:=top 42
theorem zEb:zY ["script","k"] ["script","k"] (zJ zCt):=1#0
noncomputable abbrev zE1:Stmt:=top 43
theorem zGt:zY ["script","k","cell"] ["script","k"] (zJ zE1):=1#0
noncomputable abbrev zGu:Stmt:=top 44
theorem zH7:zY ["state","many","found","mixed"] ["state","many"] (zJ zGu):=1#0
noncomputable abbrev zDJ:Stmt:=top 45
theorem zGv:zY ["many","found","one"] ["many"] (zJ zDJ):=1#0
noncomputable abbrev zEc:Stmt:=top 46
theorem zKR:zY ["state","most","many","way","pairs_v","far"] ["state","most"] (zJ zEc):=1#0
noncomputable abbrev zEd:Stmt:=top 47
theorem zH8:zY ["state","many","left"] ["state","many"] (zJ zEd):=1#0
noncomputable abbrev zCQ:Stmt:=top 48
theorem zFG:zY ["ring","many","found","one","other","some"] ["ring"] (zJ zCQ):=1#0
noncomputable abbrev zEe:Stmt:=top 49
theorem zH9:zY ["state","many"] ["state","many"] (zJ zEe):=1#0
noncomputable abbrev zAa:Stmt:=top 50
theorem zGw:zY ["one","two","more","near","found","a"] ["one","two"] (zJ zAa):=1#0
noncomputable abbrev zB1:Stmt:=top 51
theorem zGx:zY ["state","most","one","two","web","left","order"] ["state","most"] (zJ zB1):=1#0
noncomputable abbrev zDK:Stmt:=top 52
theorem zGy:zY ["web","side","place","rest","rank"] ["web","side","place"] (zJ zDK):=1#0
noncomputable abbrev zDL:Stmt:=top 53
theorem zGz:zY ["web","side","rest","one","two","whole"] ["web","side"] (zJ zDL):=1#0
noncomputable abbrev zE2:Stmt:=top 54
theorem zG0:zY ["one","two","ring","web","side"] ["one","two"] (zJ zE2):=1#0
noncomputable abbrev zEf:Stmt:=top 55
theorem zQU:zY ["script","k","state","web","place","turn","some","side","one","two"] ["script"] (zJ zEf):=1#0
section
variable {P:Program} {w:World} {K:PySem.W.Frag} {mg:Str->Option Value} {base:Heap}
theorem zI3(F:Gf K mg "is_number" zCp)(ai:mg "isinstance"=none)(bu:mg "int"=none)(bp:mg "bool"=none)   :Df P w K mg base 1 "is_number" ["thing"] wC:=by
 sleep 3;have nd:=(zEX).nd;refine zk zBZ F zEX hm 26#0 7#0 zJb;unfold zBZ;exact(zR (zh (zJL (zOY (T:="int") rfl ai rfl bu 10#0 (zC 0)) (zFx (zUh (zOY (T:="bool") rfl ai rfl bp 10#0 (zC 0)))))))
theorem zHB(F:Gf K mg "are_places" zA4)(ai:mg "isinstance"=none)(a8:101#0)(bh:mg "all"=none)   (aQ:Df P w K mg base 1 "is_number" ["thing"] wC):Df P w K mg base 2 "are_places" ["many","thing"] wj:=by
 sleep 3;have nd:=(zDW).nd;refine zk zAw F zDW hm 5#0 7#0 zIc;unfold zAw;exact(zR (zh (zJL (zOY (T:="tuple") rfl ai rfl a8 10#0 (zC 1)) (zFx (zSQ rfl rfl bh (zBF "place" rfl (ze (osc:=zJ zA4) (N:=["many","thing"]) (N0:=["many","!01"]) (own:=["place"]) 10#0) (wJ (zC 1)) 65#0 (fun u0 u0 u0 u0 u0=>(zJL (zT aQ hr 8#0 rfl 129#0) (zFx (zSR zLf zOB 61#0 61#0 zN (zC 2) (zC 0)))))))))))
theorem zHC(F:Gf K mg "is_rising" zA5)(bh:mg "all"=none)(a9:110#0)(aa:139#0)   :Df P w K mg base 1 "is_rising" ["things"] wk:=by
 sleep 3;have nd:=(zDX).nd;refine zk zAx F zDX hm 26#0 7#0 zId;unfold zAx;exact(zR (zh (zSQ rfl rfl bh (zBF "k" rfl (ze (osc:=zJ zA5) (N:=["things"]) (N0:=["things"]) (own:=["k"]) 10#0) (ye rfl a9 (zD (zAk 71#0 zN) zH)) 65#0 (fun u0 u0 u0 u0 u0=>(zTO (zo (zC 0) (zC 1)) (zo (zC 0) (yJ (zC 1) zN))))))))
theorem zQV(F:Gf K mg "pairs" zIz)(a8:101#0)(a9:110#0)   (au:Df P w K mg base 1 "pairs_of" ["places"] (spL yg)):Df P w K mg base 2 "pairs" ["many"] (spL wN):=by
 sleep 3;have nd:=(zKO).nd;refine zk zFY F zKO hm 26#0 7#0 zRG;unfold zFY;exact(zR (zh (yN (zAR au zDU hr 8#0 rfl (zD (zOf rfl rfl a8 rfl a9 (zD (zC 0) zH)) zH)))))
theorem zKS(F:Gf K mg "pairs_of" zDn)(a9:110#0)(aa:139#0)   :Df P w K mg base 1 "pairs_of" ["places"] (spL yg):=by
 sleep 3;have nd:=(zFD).nd;refine zk zCD F zFD hm 26#0 7#0 zKs;unfold zCD;exact(zM (zi 1 nd (yN (zCR zH))) (zM (wd PassesOwn.never rfl (ye rfl a9 (zD 71#0 zH)) (wv 2 nd) (zR (wd PassesOwn.never rfl (zCb rfl a9 (zD (yJ (zC 2) zN) (zD 71#0 zH))) (wv 3 nd) (zR (zAq (zBs (zC 1) (zD (ya (zD (zo (zC 0) (zC 2)) (zD (zo (zC 0) (zC 3)) zH))) zH))))))) (zR (zh (zC 1)))))
theorem zG1(F:Gf K mg "refuse_more" zBl)    :Df P w K mg base 1 "refuse_more" ["many","most"] yQ:=by
 sleep 3;have nd:=(zCq).nd;refine zk zAe F zCq hm 5#0 7#0 zG9;unfold zAe;exact(zR (zAr (zQ3 (zC 0) (zC 1)) (zR zUu) yS))
theorem zQW(F:Gf K mg "cross" zI0)    :Df P w K mg base 1 "cross" ["ring","one","other"] zCj:=by
 sleep 3;have nd:=(zKP).nd;refine zk zFc F zKP hm 42#0 7#0 zRL;unfold zFc;exact(zM (zi 3 nd (zJU hr (zC 0) 47#0)) (zM (zi 4 nd (zJV hr (zC 0) (zD (zC 1) (zD (yJ (zC 3) zN) zH)))) (zR (zh (zTW hr (zOn hr (zAu (zC 0) (zAE (zC 3)) (zAE (zC 4))) 129#0) zN)))))
theorem zNv(F:Gf K mg "web_of" zEY)(aa:139#0)(a8:101#0)   (aT:Df P w K mg base 2 "pairs" ["many"] (spL wN))(bj:Df P w K mg base 1 "cross" ["ring","one","other"] zCj):Df P w K mg base 3 "web_of" ["ring"] zAW:=by
 sleep 3;have nd:=(zH2).nd;refine zk zD9 F zH2 hm 26#0 7#0 zO1;unfold zD9;exact(zM (zi 1 nd (zDf 71#0 zN)) (zR (zh (ya (zD (zC 1) (zD (wc rfl a8 (zBF "pair" rfl (ze (osc:=zJ zEY) (N:=["ring","many"]) (N0:=["ring","!01"]) (own:=["pair"]) 10#0) (zJJ (zAR aT zDg hr 8#0 rfl 47#0)) (fun u0 u0 u0 u0 u0=>(wA (zBV (zT bj hr 8#0 rfl (zD (zC 0) (zD (zo (zC 2) zN) (zD (zo (zC 2) zN) zH))))))) (fun u0 u0 u0 u0 u0=>(zC 2)))) zH))))))
theorem zFQ(F:Gf K mg "turned_round" zBP)    :Df P w K mg base 1 "turned_round" ["ring","by"] wE:=by
 sleep 3;have nd:=(zCW).nd;refine zk zBK F zCW hm 5#0 7#0 zGZ;unfold zBK;exact(zR (zh (yJ (zAu (zC 0) (zAE (zC 1)) zCd) (zAu (zC 0) zCd (zAE (zC 1))))))
theorem zSA(F:Gf K mg "tied" zLR)(az:mg "min"=none)(aP:mg "max"=none)   :Df P w K mg base 1 "tied" ["web","one","other"] wB:=by
 sleep 3;have nd:=(zMf).nd;refine zk zIN F zMf hm 42#0 7#0 zTf;unfold zIN;exact(zR (zh (zVQ hr (ya (zD (zJO rfl rfl az (zD (zC 1) 129#0)) (zD (zSJ rfl rfl aP (zD (zC 1) 129#0)) zH))) 77#0)))
theorem zNw(F:Gf K mg "around" zEZ)(a8:101#0)(a9:110#0)   (aw:142#0):Df P w K mg base 2 "around" ["web","place"] wG:=by
 sleep 3;have nd:=(zH3).nd;refine zk zD5 F zH3 hm 5#0 7#0 zOq;unfold zD5;exact(zR (zh (wc rfl a8 (zBF "other" rfl (ze (osc:=zJ zEZ) (N:=["web","place"]) (N0:=["web","place"]) (own:=["other"]) 10#0) (ye rfl a9 (zD 77#0 zH)) (fun u0 u0 u0 u0 u0=>(wA (zBV (zT aw hr 8#0 rfl (zD (zC 0) (zD (zC 1) 129#0)))))) (fun u0 u0 u0 u0 u0=>(zC 2))))))
theorem zSB(F:Gf K mg "kept" zI1)(aa:139#0)(a8:101#0)   (aT:Df P w K mg base 2 "pairs" ["many"] (spL wN))(aw:142#0):Df P w K mg base 3 "kept" ["web","places"] zBY:=by
 sleep 3;have nd:=(zMg).nd;refine zk zIU F zMg hm 5#0 7#0 zTi;unfold zIU;exact(zM (zi 2 nd (yv rfl aa 47#0)) (zM (zDz 3 "pair" rfl (ze (osc:=zJ zI1) (N:=["web","places","many","ties"]) (N0:=["web","places","!02","!03"]) (own:=["pair"]) 10#0) (zJJ (zAR aT zDg hr 8#0 rfl 129#0)) (fun u0 u0 u0 u0 u0=>(wA (zBV (zT aw hr 8#0 rfl (zD (zC 0) (zD (zo (zC 1) (zo (zC 4) zN)) (zD (zo (zC 1) (zo (zC 4) zN)) zH))))))) (fun u0 u0 u0 u0 u0=>(zC 4)) nd) (zR (zh (ya (zD (zC 2) (zD (zLq rfl a8 (zD (zC 3) zH)) zH)))))))
theorem zQX(F:Gf K mg "named" zI2)    (aZ:Df P w K mg base 3 "kept" ["web","places"] zBY):Df P w K mg base 4 "named" ["web","order"] zCh:=by
 sleep 3;have nd:=(zKQ).nd;refine zk zFb F zKQ hm 5#0 7#0 zRK;unfold zFb;exact(zR (zh (zT aZ hr 8#0 rfl (zD (zC 0) 47#0))))
theorem zHD(F:Gf K mg "other_side" zA6)(a8:101#0)(a9:110#0)   :Df P w K mg base 1 "other_side" ["web","places"] yk:=by
 sleep 3;have nd:=(zDY).nd;refine zk zAy F zDY hm 5#0 7#0 zIg;unfold zAy;exact(zR (zh (wc rfl a8 (zBF "place" rfl (ze (osc:=zJ zA6) (N:=["web","places"]) (N0:=["!00","places"]) (own:=["place"]) 10#0) (ye rfl a9 (zD 77#0 zH)) (fun u0 u0 u0 u0 u0=>(wA (zFU hr (zC 2) (zC 1)))) (fun u0 u0 u0 u0 u0=>(zC 2))))))
theorem zKT(F:Gf K mg "cut_rank" zDo)(az:mg "min"=none)(aa:139#0)   (ap:Df P w K mg base 1 "other_side" ["web","places"] yk)(aF:Df P w K mg base 2 "row_of" ["web","place","others"] zAY):Df P w K mg base 3 "cut_rank" ["web","places"] yD:=by
 sleep 3;have nd:=(zFE).nd;refine zk zCH F zFE hm 5#0 7#0 zLB;unfold zCH;exact(zM (zi 2 nd (zT ap hr 8#0 rfl (zD (zC 0) 47#0))) (zM (zi 3 nd (yN (zCR zH))) (zM (wd PassesOwn.never rfl (wJ (zC 1)) (wv 4 nd) (zM (zi 5 nd (zT aF hr 8#0 rfl (zD (zC 0) (zD (zC 4) 129#0)))) (zM (wd PassesOwn.never rfl (wJ (zC 3)) (wv 6 nd) (zR (zi 5 nd (zJO rfl rfl az (zD (zC 5) (zD (zMD (zC 5) (zC 6)) zH)))))) (zR (zAr (zF0 hr (zC 5) zN) (zR (zAq (zBs (zC 3) (zD (zC 5) zH)))) yS))))) (zR (zh (yv rfl aa (zD (zC 3) zH)))))))
theorem zNx(F:Gf K mg "row_of" zEa)(bi:mg "sum"=none)   (aw:142#0):Df P w K mg base 2 "row_of" ["web","place","others"] zAY:=by
 sleep 3;have nd:=(zH4).nd;refine zk zEM F zH4 hm 42#0 7#0 zPq;unfold zEM;exact(zR (zh (zMF rfl rfl bi (zBF "other" rfl (ze (osc:=zJ zEa) (N:=["web","place","others"]) (N0:=["web","place","!02"]) (own:=["other"]) 10#0) (wJ (zC 2)) (fun u0 u0 u0 u0 u0=>(wA (zBV (zT aw hr 8#0 rfl (zD (zC 0) (zD (zC 1) (zD (zC 3) zH))))))) (fun u0 u0 u0 u0 u0=>(zPm zN (zC 3)))))))
theorem zKU(F:Gf K mg "is_split" zDp)(aa:139#0)   (aH:Df P w K mg base 2 "are_places" ["many","thing"] wj)(aI:Df P w K mg base 1 "is_rising" ["things"] wk)(aj:Df P w K mg base 3 "cut_rank" ["web","places"] yD):Df P w K mg base 4 "is_split" ["web","places"] yi:=by
 sleep 3;have nd:=(zFF).nd;refine zk zCI F zFF hm 5#0 7#0 zLC;unfold zCI;exact(zM (zAr (W2.test (w_or (zFy (zBV (zT aH hr 8#0 rfl (zD 77#0 47#0)))) (zJM (zFy (zBV (zT aI hr 8#0 rfl 47#0)))))) (zR (zh zEl)) yS) (zR (zh (zJL (zSR zLf zLf 61#0 61#0 zN (yv rfl aa 47#0) (zAk 77#0 zN)) (zFx (zVO (zT aj hr 8#0 rfl (zD (zC 0) 47#0)) zN))))))
theorem zNy(F:Gf K mg "splits" zCr)(a9:110#0)(ae:mg "sorted"=none)   (ak:Df P w K mg base 4 "is_split" ["web","places"] yi):Df P w K mg base 5 "splits" ["web"] (spL zAZ):=by
 sleep 3;have nd:=(zH5).nd;refine zk zGf F zH5 hm 26#0 7#0 zP2;unfold zGf;exact(zM (zi 1 nd (yN (zCR (zD (ya (zD zN zH)) zH)))) (zM (wd PassesOwn.never rfl (zCb rfl a9 (zD zN (zD 77#0 zH))) (wv 2 nd) (zR (zi 1 nd (yN (zOd (zC 1) (yN (zBF "side" rfl (ze (osc:=zJ zCr) (N:=["web","sides","place"]) (N0:=["!00","!01","place"]) (own:=["side"]) 10#0) (wJ (zC 1)) 65#0 (fun u0 u0 u0 u0 u0=>(yJ (zC 3) (ya 129#0)))))))))) (zR (zh (yN (zGO rfl ae (zBF "side" rfl (ze (osc:=zJ zCr) (N:=["web","sides","place"]) (N0:=["web","!01","!02"]) (own:=["side"]) 10#0) (wJ (zC 1)) (fun u0 u0 u0 u0 u0=>(wA (zBV (zT ak hr 8#0 rfl (zD (zC 0) (zD (zC 3) zH)))))) (fun u0 u0 u0 u0 u0=>(zC 3)))))))))
theorem zNz(F:Gf K mg "parted" zGp)    (ak:Df P w K mg base 4 "is_split" ["web","places"] yi)(ap:Df P w K mg base 1 "other_side" ["web","places"] yk)(aU:Df P w K mg base 4 "part_of" ["web","side","others"] zBM):Df P w K mg base 5 "parted" ["web","places"] zDA:=by
 sleep 3;have nd:=(zH6).nd;refine zk zEP F zH6 hm 5#0 7#0 zP6;unfold zEP;exact(zM (zAr (zFy (zBV (zT ak hr 8#0 rfl (zD (zC 0) 47#0)))) (zR zUu) yS) (zM (zi 2 nd (zT ap hr 8#0 rfl (zD (zC 0) 47#0))) (zR (zh (ya (zD (zT aU hr 8#0 rfl (zD (zC 0) (zD (zC 1) 129#0))) (zD (zT aU hr 8#0 rfl (zD (zC 0) (zD (zC 2) 47#0))) zH)))))))
theorem zLS(F:Gf K mg "part_of" zEz)(aa:139#0)(aJ:mg "list"=none)(a9:110#0)(a8:101#0)(ae:mg "sorted"=none)   (aZ:Df P w K mg base 3 "kept" ["web","places"] zBY)(aF:Df P w K mg base 2 "row_of" ["web","place","others"] zAY):Df P w K mg base 4 "part_of" ["web","side","others"] zBM:=by
 sleep 3;have nd:=(zGq).nd;refine zk zC9 F zGq hm 42#0 7#0 zNY;unfold zC9;exact(zM (zi 3 nd (yv rfl aa 47#0)) (zM (zi 4 nd (yN (zTb rfl aJ (zD (zo (zT aZ hr 8#0 rfl (zD (zC 0) 47#0)) zN) zH)))) (zM (wd PassesOwn.never rfl (ye rfl a9 (zD (zC 3) zH)) (wv 5 nd) (zR (zAr (zF0 hr (zT aF hr 8#0 rfl (zD (zC 0) (zD (zo (zC 1) (zC 5)) 129#0))) zN) (zR (zAq (zBs (zC 4) (zD (ya (zD (zC 5) (zD (zC 3) zH))) zH)))) yS))) (zR (zh (ya (zD (yJ (zC 3) zN) (zD (wc rfl a8 (zEq rfl ae (zD (zC 4) zH))) zH))))))))
theorem zFR(F:Gf K mg "put_together" yu)(a8:101#0)(ae:mg "sorted"=none){ao:Tok}(am:mg "MOST_PLACES"=some (.int 9 ao))  (af:Df P w K mg base 1 "refuse_more" ["many","most"] yQ)(aA:Df P w K mg base 2 "around" ["web","place"] wG):Df P w K mg base 3 "put_together" ["one","two"] yT:=by
 sleep 3;have nd:=(zCX).nd;refine zk zAN F zCX hm 5#0 7#0 zGi;unfold zAN;exact(zM (zi 2 nd (zAk 77#0 zN)) (zM (zi 3 nd (zAk (yJ (zC 2) (zo (zC 1) zN)) zN)) (zM (zAq (zT af hr 8#0 rfl (zD (zC 3) (zD (zIM rfl am) zH)))) (zM (zDz 4 "tie" rfl (ze (osc:=zJ yu) (N:=["one","two","ahead","many","ties","place"]) (N0:=["!00","!01","ahead","!03","!04","!05"]) (own:=["tie"]) 10#0) (wJ 77#0) (fun u0 u0 u0 u0 u0=>(wA (zKf (zo (zC 6) zN) (zC 2)))) (fun u0 u0 u0 u0 u0=>(zC 6)) nd) (zM (zAq (zF5 (zC 4) (zBF "tie" rfl (ze (osc:=zJ yu) (N:=["one","two","ahead","many","ties","place"]) (N0:=["!00","two","ahead","!03","!04","!05"]) (own:=["tie"]) 10#0) (wJ (zo (zC 1) zN)) (fun u0 u0 u0 u0 u0=>(wA (zKf (zo (zC 6) zN) (zAk (zo (zC 1) zN) zN)))) (fun u0 u0 u0 u0 u0=>(ya (zD (yJ (zo (zC 6) zN) (zC 2)) (zD (yJ (zo (zC 6) zN) (zC 2)) zH))))))) (zM (wd PassesOwn.never rfl (wJ (zT aA hr 8#0 rfl (zD (zC 0) 129#0))) (wv 5 nd) (zR (zAq (zF5 (zC 4) (zBF "other" rfl (ze (osc:=zJ yu) (N:=["one","two","ahead","many","ties","place"]) (N0:=["!00","!01","ahead","!03","!04","place"]) (own:=["other"]) 10#0) (wJ (zT aA hr 8#0 rfl (zD (zC 1) (zD (zAk (zo (zC 1) zN) zN) zH)))) 65#0 (fun u0 u0 u0 u0 u0=>(ya (zD (zC 5) (zD (yJ (zC 6) (zC 2)) zH))))))))) (zR (zh (ya (zD (zC 3) (zD (wc rfl a8 (zEq rfl ae (zD (zC 4) zH))) zH)))))))))))
theorem zE3(F:Gf K mg "ring_together" wu)(aa:139#0)(a8:101#0){ao:Tok}(am:mg "MOST_PLACES"=some (.int 9 ao))  (af:Df P w K mg base 1 "refuse_more" ["many","most"] yQ)(av:Df P w K mg base 2 "beside_last" ["ring"] wS):Df P w K mg base 3 "ring_together" ["one","two"] wX:=by
 sleep 3;have nd:=(zB0).nd;refine zk wt F zB0 hm 5#0 7#0 zFO;unfold wt;exact(zM (zi 2 nd (zAk (zDf 71#0 zN) zN)) (zM (zAq (zT af hr 8#0 rfl (zD (zAk (yJ (zC 2) (zDf (yv rfl aa 47#0) zN)) zN) (zD (zIM rfl am) zH)))) (zM (zi 3 nd (zT av hr 8#0 rfl (zD (zC 0) zH))) (zM (zi 4 nd (zT av hr 8#0 rfl (zD (wc rfl a8 (zBF "place" rfl (ze (osc:=zJ wu) (N:=["one","two","ahead","first","second"]) (N0:=["!00","!01","ahead","!03","!04"]) (own:=["place"]) 10#0) (wJ (zC 1)) 65#0 (fun u0 u0 u0 u0 u0=>(yJ (zC 5) (zC 2))))) zH))) (zR (zh (yJ (yJ (yJ (zo (zC 3) zN) (zo (zC 4) zN)) (zo (zC 3) zN)) (zo (zC 4) zN))))))))
theorem zG2(F:Gf K mg "beside_last" zBm)(aP:mg "max"=none)   (aB:Df P w K mg base 1 "turned_round" ["ring","by"] wE):Df P w K mg base 2 "beside_last" ["ring"] wS:=by
 sleep 3;have nd:=(zCs).nd;refine zk zAf F zCs hm 26#0 7#0 zHA;unfold zAf;exact(zM (zi 1 nd (zR1 rfl rfl aP (zD (zC 0) zH))) (zM (zi 2 nd (zT aB hr 8#0 rfl (zD (zC 0) (zD (zJU hr (zC 0) 47#0) zH)))) (zM (zi 3 nd (zJV hr (zC 2) (zD (zC 1) (zD zN zH)))) (zR (zh (ya (zD (zAu (zC 2) (zAE zN) (zAE (zC 3))) (zD (zAu (zC 2) (zAE (yJ (zC 3) zN)) zCd) zH))))))))
theorem zLT(F:Gf K mg "ring_of" zE0) {aD:Tok}(aK:mg "MOST_FOUND"=some (.int 7 aD))  (af:Df P w K mg base 1 "refuse_more" ["many","most"] yQ)(aL:Df P w K mg base 3 "near_order" ["web"] (spL ym))(aX:Df P w K mg base 11 "grown" ["web","order","done","ring"] (zAP 8)):Df P w K mg base 12 "ring_of" ["web"] wT:=by
 sleep 3;have nd:=(zGr).nd;refine zk zDF F zGr hm 26#0 7#0 zNk;unfold zDF;exact(zM (zAq (zT af hr 8#0 rfl (zD 77#0 (zD (zIM rfl aK) zH)))) (zM (zi 1 nd (yN (zAR aL zFP hr 8#0 rfl (zD (zC 0) zH)))) (zR (zh (zT aX hr 8#0 rfl (zD (zC 0) (zD (zC 1) (zD zN (zD (ya (zD (zo (zC 1) zN) (zD (zo (zC 1) zN) zH))) zH)))))))))
theorem zHE(F:Gf K mg "near_order" zAQ)(aa:139#0)(a9:110#0)(aP:mg "max"=none)   (ab:Df P w K mg base 2 "tied_among" ["web","place","others"] (spL yF)):Df P w K mg base 3 "near_order" ["web"] (spL ym):=by
 sleep 3;have nd:=(zDZ).nd;refine zk zA3 F zDZ hm 26#0 7#0 zIw;unfold zA3;exact(zM (zi 1 nd (yN (zCR zH))) (zM (zOg PassesOwn.never (zKf (yv rfl aa 47#0) 77#0) (zM (zDz 2 "place" rfl (ze (osc:=zJ zAQ) (N:=["web","order","rest"]) (N0:=["!00","order","!02"]) (own:=["place"]) 10#0) (ye rfl a9 (zD 77#0 zH)) (fun u0 u0 u0 u0 u0=>(wA (zFU hr (zC 3) (zC 1)))) (fun u0 u0 u0 u0 u0=>(zC 3)) nd) (zR (zAq (zBs (zC 1) (zD (zo (zUB hr rfl rfl aP (zBF "place" rfl (ze (osc:=zJ zAQ) (N:=["web","order","rest"]) (N0:=["web","order","!02"]) (own:=["place"]) 10#0) (wJ (zC 2)) 65#0 (fun u0 u0 u0 u0 u0=>(ya (zD (yv rfl aa (zD (yN (zAR ab zCV hr 8#0 rfl (zD (zC 0) (zD (zC 3) 47#0)))) zH)) (zD (zC 3) zH)))))) zN) zH)))))) (zR (zh (zC 1)))))
theorem zHF(F:Gf K mg "tied_among" zA7)    (aw:142#0):Df P w K mg base 2 "tied_among" ["web","place","others"] (spL yF):=by
 sleep 3;have nd:=(zDa).nd;refine zk zA2 F zDa hm 42#0 7#0 zIv;unfold zA2;exact(zR (zh (yN (zBF "other" rfl (ze (osc:=zJ zA7) (N:=["web","place","others"]) (N0:=["web","place","!02"]) (own:=["other"]) 10#0) (wJ (zC 2)) (fun u0 u0 u0 u0 u0=>(wA (zBV (zT aw hr 8#0 rfl (zD (zC 0) (zD (zC 1) (zD (zC 3) zH))))))) (fun u0 u0 u0 u0 u0=>(zC 3))))))
theorem zN0{k:Nat}(F:Gf K mg "grown" zFn):Df P w K mg base (k+1) "grown" ["web","order","done","ring"] (zAP 0):=by
 sleep 3;refine zk (fun u0 u0 u0=>False) F zGs hm (F.binds fun u0 u0 u0 u0 u0 u0 us hl=>match us,hl with | [_,_,_,_],_=>rfl) 7#0 (fun u0 u0 u0 h=>(zQP h).elim);exact zUp
theorem zAp{k d:Nat}(F:Gf K mg "grown" zFn)(aa:139#0)(ab:Df P w K mg base 2 "tied_among" ["web","place","others"] (spL yF))(bO:2<=k)(ag:Df P w K mg base 1 "with_chord" ["ring","place","crossed"] (spL wH))(bP:1<=k)(aX:Df P w K mg base k "grown" ["web","order","done","ring"] (zAP d)):Df P w K mg base (k+1) "grown" ["web","order","done","ring"] (zAP (d+1)):=by
 sleep 3;have nd:=(zGs).nd;refine zk (zFm d) F zGs hm (F.binds fun u0 u0 u0 u0 u0 u0 us hl=>match us,hl with | [_,_,_,_],_=>rfl) 7#0 (zR6 d);unfold zFm;exact(zM (zAr (zIG hr (zC 2) (yv rfl aa 47#0)) (zR (zh (zC 3))) yS) (zM (zi 4 nd (zo (zC 1) (zC 2))) (zM (wd PassesOwn.never rfl (zJJ (zAR ag zFN hr 2#0 rfl (zD (zC 3) (zD (zC 4) (zD (yN (zAR ab zCV hr 2#0 rfl (zD (zC 0) (zD (zC 4) (zD (yN (zLy (zC 1) zCd (zAE (zC 2)))) zH))))) zH))))) (wv 5 nd) (zM (zi 6 nd (zT aX hr 2#0 rfl (zD (zC 0) (zD (zC 1) (zD (yJ (zC 2) zN) (zD (zC 5) zH)))))) (zR (zAr (zPl (zC 6) zJG) (zR (zh (zC 6))) yS)))) (zR (zh zJG)))))
theorem zHG(F:Gf K mg "with_chord" zA8)(bi:mg "sum"=none)(a9:110#0)(aa:139#0)   :Df P w K mg base 1 "with_chord" ["ring","place","crossed"] (spL wH):=by
 sleep 3;have nd:=(zDb).nd;refine zk zAz F zDb hm 42#0 7#0 zIn;unfold zAz;exact(zM (zi 3 nd (zMF rfl rfl bi (zBF "other" rfl (ze (osc:=zJ zA8) (N:=["ring","place","crossed","wanted","found","first","inside","second"]) (N0:=["!00","!01","!02","!03","!04","!05","!06","!07"]) (own:=["other"]) 10#0) (wJ (zC 2)) 65#0 (fun u0 u0 u0 u0 u0=>(zPm zN (zC 8)))))) (zM (zi 4 nd (yN (zCR zH))) (zM (wd PassesOwn.never rfl (zCb rfl a9 (zD zN (zD (yJ 71#0 zN) zH))) (wv 5 nd) (zM (zi 6 nd zN) (zR (wd PassesOwn.never rfl (zCb rfl a9 (zD (zC 5) (zD (yJ 71#0 zN) zH))) (wv 7 nd) (zM (zAr (zIG hr (zC 6) (zC 3)) (zR (zAq (zBs (zC 4) (zD (yJ (yJ (yJ (yJ (zAu (zC 0) zCd (zAE (zC 5))) (ya 47#0)) (zAu (zC 0) (zAE (zC 5)) (zAE (zC 7)))) (ya 47#0)) (zAu (zC 0) (zAE (zC 7)) zCd)) zH)))) yS) (zR (zAr (zKf (zC 7) 71#0) (zR (zi 6 nd (zMD (zC 6) (zPm zN (zo (zC 0) (zC 7)))))) yS))))))) (zR (zh (zC 4))))))
theorem zHH(F:Gf K mg "web_turned" zCP)(a8:101#0)(ae:mg "sorted"=none)(bv:mg "set"=none)   (aA:Df P w K mg base 2 "around" ["web","place"] wG)(au:Df P w K mg base 1 "pairs_of" ["places"] (spL yg)):Df P w K mg base 3 "web_turned" ["web","place"] yl:=by
 sleep 3;have nd:=(zDc).nd;refine zk zA0 F zDc hm 5#0 7#0 zIp;unfold zA0;exact(zM (zi 2 nd (yN (zAR au zDU hr 8#0 rfl (zD (zT aA hr 8#0 rfl (zD (zC 0) 47#0)) zH)))) (zR (zh (ya (zD 77#0 (zD (wc rfl a8 (zNO 2 hr rfl rfl ae rfl bv (zD 77#0 zH))) zH))))))
theorem zI4(F:Gf K mg "_law_cell_at" zCt)(aa:139#0)   :Df P w K mg base 1 "_law_cell_at" ["script","k"] zAv:=by
 sleep 3;have nd:=(zEb).nd;refine zk zBW F zEb hm 5#0 7#0 zJY;unfold zBW;exact(zM (zAr (zKf (zC 1) 71#0) (zR (zh (zo (zC 0) (zC 1)))) yS) (zR (zh zN)))
theorem zLU(F:Gf K mg "_law_state" zE1)    (aR:Df P w K mg base 1 "_law_cell_at" ["script","k"] zAv):Df P w K mg base 2 "_law_state" ["script","k"] (spL wP):=by
 sleep 3;have nd:=(zGt).nd;refine zk zCz F zGt hm 5#0 7#0 zM3;unfold zCz;exact(zM (zi 2 nd (zT aR hr 8#0 rfl (zD (zC 0) 47#0))) (zM (zAr (zVP (zC 2) (zSI zN zN)) (zR (zh (yN (zCR (zD (zAk (zC 2) (zSI zN zN)) (zD zEl zH)))))) yS) (zR (zh (yN (zCR (zD (zHS (zC 2) zN) (zD zEl zH))))))))
theorem zN1(F:Gf K mg "_law_take" zGu)    :Df P w K mg base 1 "_law_take" ["state","many"] zy:=by
 sleep 3;have nd:=(zH7).nd;refine zk zD6 F zH7 hm 5#0 7#0 zOs;unfold zD6;exact(zM (zAr (zBV 77#0) (zM (zi 2 nd (zHS 77#0 (zC 1))) (zM (zOO (zDf 77#0 (zC 1)) (zUc (zC 0) zN)) (zR (zh (zC 2))))) yS) (zM (zOO (zHS (yJ (zEm 77#0 zN) zN) zN) (zUc (zC 0) zN)) (zM (zi 3 nd (zHS (yJ (yJ (zEm 77#0 77#0) (zEm zN 77#0)) zN) zN)) (zM (zi 3 nd (zHS (yJ (zEm (zC 3) (zC 3)) (zEm zN (zC 3))) zN)) (zR (zh (zHS (zDf (zC 3) zN) (zC 1))))))))
theorem zLV(F:Gf K mg "_law_pairs" zDJ)(a9:110#0)   :Df P w K mg base 1 "_law_pairs" ["many"] (spL wO):=by
 sleep 3;have nd:=(zGv).nd;refine zk zC0 F zGv hm 26#0 7#0 zM5;unfold zC0;exact(zM (zi 1 nd (yN (zCR zH))) (zM (wd PassesOwn.never rfl (ye rfl a9 (zD (zC 0) zH)) (wv 2 nd) (zR (zAq (zF5 (zC 1) (zBF "other" rfl (ze (osc:=zJ zDJ) (N:=["many","found","one"]) (N0:=["!00","!01","one"]) (own:=["other"]) 10#0) (zCb rfl a9 (zD (yJ (zC 2) zN) (zD (zC 0) zH))) 65#0 (fun u0 u0 u0 u0 u0=>(ya (zD (zC 2) (zD (zC 3) zH))))))))) (zR (zh (zC 1)))))
theorem zQY(F:Gf K mg "_law_web" zEc)(a8:101#0)   (ac:102#0)(ay:Df P w K mg base 1 "_law_pairs" ["many"] (spL wO))(aC:Df P w K mg base 2 "_law_ring" ["state","many"] zAU)(aW:Df P w K mg base 2 "_law_web_of" ["ring"] zAm):Df P w K mg base 3 "_law_web" ["state","most"] zBH:=by
 sleep 3;have nd:=(zKR).nd;refine zk zFa F zKR hm 5#0 7#0 zRJ;unfold zFa;exact(zM (zi 2 nd (yJ zN (zT ac hr 8#0 rfl (zD (zC 0) 47#0)))) (zM (zi 3 nd (zT ac hr 8#0 rfl (zD (zC 0) (zD zN zH)))) (zM (zi 4 nd (yN (zAR ay zD4 hr 8#0 rfl 129#0))) (zM (zAr (zIG hr (zC 3) zN) (zR (zh (zT aW hr 8#0 rfl (zD (zT aC hr 8#0 rfl (zD (zC 0) 129#0)) zH)))) yS) (zM (zAr (zIG hr (zC 3) zN) (zR (zh (ya (zD (zC 2) (zD (wc rfl a8 (zBF "pair" rfl (ze (osc:=zJ zEc) (N:=["state","most","many","way","pairs_v","far"]) (N0:=["state","!01","!02","!03","!04","!05"]) (own:=["pair"]) 10#0) (wJ (zC 4)) (fun u0 u0 u0 u0 u0=>(wA (W2.test (w_or (zIG hr (zo (zC 6) zN) (yJ (zo (zC 6) zN) zN)) (zJM (zIG hr (zT ac hr 8#0 rfl (zD (zC 0) (zD zN zH))) zN)))))) (fun u0 u0 u0 u0 u0=>(zC 6)))) zH))))) yS) (zM (zi 5 nd (zo (yN (zCR (zD zN (zD zN (zD zN zH))))) (zAk (zC 3) zN))) (zR (zh (ya (zD (zC 2) (zD (wc rfl a8 (zBF "pair" rfl (ze (osc:=zJ zEc) (N:=["state","most","many","way","pairs_v","far"]) (N0:=["state","!01","!02","!03","!04","far"]) (own:=["pair"]) 10#0) (wJ (zC 4)) (fun u0 u0 u0 u0 u0=>(wA (zIG hr (zT ac hr 8#0 rfl (zD (zC 0) (zD (zC 5) zH))) zN))) (fun u0 u0 u0 u0 u0=>(zC 6)))) zH)))))))))))
theorem zN2(F:Gf K mg "_law_ring" zEd)(aJ:mg "list"=none)(a9:110#0)(a8:101#0)(aa:139#0)   (ac:102#0):Df P w K mg base 2 "_law_ring" ["state","many"] zAU:=by
 sleep 3;have nd:=(zH8).nd;refine zk zD8 F zH8 hm 5#0 7#0 zOv;unfold zD8;exact(zM (zi 2 nd (yN (zUi (yN (zLr rfl rfl aJ rfl a9 47#0)) zN))) (zR (zh (wc rfl a8 (zBF "k" rfl (ze (osc:=zJ zEd) (N:=["state","many","left"]) (N0:=["state","!01","left"]) (own:=["k"]) 10#0) (ye rfl a9 (zD (zEm zN (zC 1)) zH)) 65#0 (fun u0 u0 u0 u0 u0=>(zSK (zC 2) (zD (zT ac hr 8#0 rfl (zD (zC 0) (zD (yv rfl aa 129#0) zH))) zH))))))))
theorem zKV(F:Gf K mg "_law_web_of" zCQ)(aa:139#0)(a8:101#0)   (ay:Df P w K mg base 1 "_law_pairs" ["many"] (spL wO)):Df P w K mg base 2 "_law_web_of" ["ring"] zAm:=by
 sleep 3;have nd:=(zFG).nd;refine zk zCF F zFG hm 26#0 7#0 zKu;unfold zCF;exact(zM (zi 1 nd (zDf 71#0 zN)) (zM (zi 2 nd (yN (zCR zH))) (zM (wd PassesOwn.never rfl (zJJ (zAR ay zD4 hr 8#0 rfl 47#0)) (zSH 3 4 rfl nd) (zM (zDz 5 "place" rfl (ze (osc:=zJ zCQ) (N:=["ring","many","found","one","other","some"]) (N0:=["!00","!01","!02","one","other","!05"]) (own:=["place"]) 10#0) (wJ (zC 0)) (fun u0 u0 u0 u0 u0=>(wA (zVR hr (zC 6) (ya (zD (zC 3) (zD (zC 4) zH)))))) (fun u0 u0 u0 u0 u0=>(zC 6)) nd) (zR (zAr (W2.test (w_and (zF0 hr (zo (zC 5) zN) (zo (zC 5) zN)) (zTN (zF0 hr (zo (zC 5) zN) (zo (zC 5) zN))))) (zR (zAq (zBs (zC 2) (zD (ya (zD (zC 3) (zD (zC 4) zH))) zH)))) yS)))) (zR (zh (ya (zD (zC 1) (zD (zLq rfl a8 129#0) zH))))))))
theorem zN3(F:Gf K mg "_law_side" zEe)(a8:101#0)(a9:110#0)   (ac:102#0):Df P w K mg base 2 "_law_side" ["state","many"] zC6:=by
 sleep 3;have nd:=(zH9).nd;refine zk zEO F zH9 hm 5#0 7#0 zPz;unfold zEO;exact(zR (zh (wc rfl a8 (zBF "place" rfl (ze (osc:=zJ zEe) (N:=["state","many"]) (N0:=["state","!01"]) (own:=["place"]) 10#0) (ye rfl a9 47#0) (fun u0 u0 u0 u0 u0=>(wA (zIG hr (zT ac hr 8#0 rfl (zD (zC 0) (zD zN zH))) zN))) (fun u0 u0 u0 u0 u0=>(zC 2))))))
theorem zLW(F:Gf K mg "_law_glued" zAa)(a8:101#0)(ae:mg "sorted"=none)   :Df P w K mg base 1 "_law_glued" ["one","two"] zCJ:=by
 sleep 3;have nd:=(zGw).nd;refine zk zC3 F zGw hm 5#0 7#0 zNT;unfold zC3;exact(zM (zi 2 nd (zAk 77#0 zN)) (zM (zRj 3 "web" rfl (zNR (osc:=zJ zAa) (N:=["one","two","more","near","found","a"]) (N0:=["!00","!01","!02","!03","!04","a"]) (z:="web") 10#0 (fun u0 u0=>rfl) (fun u0=>rfl)) (wJ (ya (zD (zC 0) 47#0))) 65#0 (fun u0 u0 u0 u0 u0=>(yN (zTa "a" "b" rfl (zPe (N:=["!00","!01","!02","!03","!04","a","web"]) (N0:=["!10","!11","!12","!13","!14","!15","web"]) (own:=["a","b"]) (by kernel_rfl)) (wJ (zo (zC 6) zN)) (fun u0 u0 u0 u0 u0=>(wA (zIG hr (zC 8) (zAk (zo (zC 6) zN) zN)))) (fun u0 u0 u0 u0 u0=>(zC 7))))) nd) (zM (zDz 4 "tie" rfl (ze (osc:=zJ zAa) (N:=["one","two","more","near","found","a"]) (N0:=["!00","!01","more","!03","!04","!05"]) (own:=["tie"]) 10#0) (wJ 77#0) (fun u0 u0 u0 u0 u0=>(wA (zF0 hr (zo (zC 6) zN) (zC 2)))) (fun u0 u0 u0 u0 u0=>(zC 6)) nd) (zM (zi 4 nd (yN (zOd (zC 4) (yN (zTa "a" "b" rfl (ze (osc:=zJ zAa) (N:=["one","two","more","near","found","a"]) (N0:=["!00","two","more","!03","!04","!05"]) (own:=["a","b"]) 10#0) (wJ (zo (zC 1) zN)) (fun u0 u0 u0 u0 u0=>(wA (zF0 hr (zC 7) (zAk (zo (zC 1) zN) zN)))) (fun u0 u0 u0 u0 u0=>(ya (zD (yJ (zC 6) (zC 2)) (zD (yJ (zC 7) (zC 2)) zH))))))))) (zM (wd PassesOwn.never rfl (wJ (zo (zC 3) zN)) (wv 5 nd) (zR (zi 4 nd (yN (zOd (zC 4) (yN (zBF "b" rfl (ze (osc:=zJ zAa) (N:=["one","two","more","near","found","a"]) (N0:=["!00","!01","more","!03","!04","a"]) (own:=["b"]) 10#0) (wJ (zo (zC 3) zN)) 65#0 (fun u0 u0 u0 u0 u0=>(ya (zD (zC 5) (zD (yJ (zC 6) (zC 2)) zH))))))))))) (zR (zh (ya (zD (zAk (yJ (zC 2) (zo (zC 1) zN)) zN) (zD (wc rfl a8 (zEq rfl ae (zD (zC 4) zH))) zH))))))))))
theorem zLX(F:Gf K mg "_law_loose" zB1)(aJ:mg "list"=none)(a9:110#0)(aa:139#0)(a8:101#0)(ae:mg "sorted"=none)   (aM:Df P w K mg base 3 "_law_web" ["state","most"] zBH)(b7:Df P w K mg base 1 "_law_glued" ["one","two"] zCJ)(ac:102#0):Df P w K mg base 4 "_law_loose" ["state","most"] zCK:=by
 sleep 3;have nd:=(zGx).nd;refine zk zC5 F zGx hm 5#0 7#0 zNV;unfold zC5;exact(zM (zST 2 3 rfl nd (zD (zT aM hr 8#0 rfl (zD (zC 0) 47#0)) (zD (zT aM hr 8#0 rfl (zD (zC 0) 47#0)) zH))) (zM (zAr (W2.test (w_or (zKf (zo (zC 2) zN) zN) (w_or (zKf (zo (zC 3) zN) zN) (zJM (zQ3 (yJ (zo (zC 2) zN) (zo (zC 3) zN)) zN))))) (zR (zh (zC 2))) yS) (zM (zi 4 nd (zT b7 hr 8#0 rfl (zD (zC 2) (zD (zC 3) zH)))) (zM (zi 5 nd (yN (zLr rfl rfl aJ rfl a9 (zD (zo (zC 4) zN) zH)))) (zM (zi 6 nd (yN (zBF "k" rfl (ze (osc:=zJ zB1) (N:=["state","most","one","two","web","left","order"]) (N0:=["state","!01","!02","!03","!04","left","!06"]) (own:=["k"]) 10#0) (ye rfl a9 (zD (zo (zC 4) zN) zH)) 65#0 (fun u0 u0 u0 u0 u0=>(zSK (zC 5) (zD (zT ac hr 8#0 rfl (zD (zC 0) (zD (yv rfl aa (zD (zC 5) zH)) zH))) zH)))))) (zR (zh (ya (zD (zo (zC 4) zN) (zD (wc rfl a8 (zGO rfl ae (zTa "a" "b" rfl (ze (osc:=zJ zB1) (N:=["state","most","one","two","web","left","order"]) (N0:=["!00","!01","!02","!03","!04","!05","order"]) (own:=["a","b"]) 10#0) (wJ (zo (zC 4) zN)) 65#0 (fun u0 u0 u0 u0 u0=>(wc rfl a8 (zMw rfl ae (zCR (zD (zo (zC 6) (zC 7)) (zD (zo (zC 6) (zC 8)) zH))))))))) zH))))))))))
theorem zLY(F:Gf K mg "_law_ranks" zDK)(a8:101#0)(a9:110#0)(az:mg "min"=none)(aa:139#0)(bw:mg "abs"=none)   (aj:Df P w K mg base 3 "cut_rank" ["web","places"] yD)(aq:Df P w K mg base 3 "web_turned" ["web","place"] yl):Df P w K mg base 4 "_law_ranks" ["web","side","place"] zCN:=by
 sleep 3;have nd:=(zGy).nd;refine zk zDG F zGy hm 42#0 7#0 zNn;unfold zDG;exact(zM (zi 3 nd (wc rfl a8 (zBF "one" rfl (ze (osc:=zJ zDK) (N:=["web","side","place","rest","rank"]) (N0:=["!00","side","!02","!03","!04"]) (own:=["one"]) 10#0) (ye rfl a9 (zD 77#0 zH)) (fun u0 u0 u0 u0 u0=>(wA (zFU hr (zC 5) (zC 1)))) (fun u0 u0 u0 u0 u0=>(zC 5))))) (zM (zi 4 nd (zT aj hr 8#0 rfl (zD (zC 0) 47#0))) (zM (zAr (W2.test (w_or (zF0 hr (zT aj hr 8#0 rfl (zD (zC 0) (zD (zC 3) zH))) (zC 4)) (zJM (zQ3 (zC 4) (zJO rfl rfl az (zD (yv rfl aa 47#0) (zD (yv rfl aa (zD (zC 3) zH)) zH))))))) (zR (zh zEl)) yS) (zM (zAr (zF0 hr (zT aj hr 8#0 rfl (zD (zT aq hr 8#0 rfl (zD (zC 0) 129#0)) 47#0)) (zC 4)) (zR (zh zEl)) yS) (zR (zh (zUg (zTW hr (zC 1) (ya zH)) (zFx (zTO (zU4 rfl bw (zD (zAk (zC 4) (zT aj hr 8#0 rfl (zD (zC 0) (zD (zAu (zC 1) (zAE zN) zCd) zH)))) zH)) zN)))))))))
theorem zLZ(F:Gf K mg "_law_parts" zDL)(a8:101#0)(a9:110#0)   (bc:Df P w K mg base 5 "parted" ["web","places"] zDA)(ah:Df P w K mg base 3 "put_together" ["one","two"] yT)(bm:Df P w K mg base 4 "named" ["web","order"] zCh)(aG:Df P w K mg base 12 "ring_of" ["web"] wT):Df P w K mg base 13 "_law_parts" ["web","side"] zCO:=by
 sleep 3;have nd:=(zGz).nd;refine zk zDH F zGz hm 5#0 7#0 zNp;unfold zDH;exact(zM (zi 2 nd (wc rfl a8 (zBF "one" rfl (ze (osc:=zJ zDL) (N:=["web","side","rest","one","two","whole"]) (N0:=["!00","side","!02","!03","!04","!05"]) (own:=["one"]) 10#0) (ye rfl a9 (zD 77#0 zH)) (fun u0 u0 u0 u0 u0=>(wA (zFU hr (zC 6) (zC 1)))) (fun u0 u0 u0 u0 u0=>(zC 6))))) (zM (zOO (zT bc hr 8#0 rfl (zD (zC 0) 47#0)) (zSH 3 4 rfl nd)) (zM (zAr (zF0 hr (zT ah hr 8#0 rfl (zD (zC 3) (zD (zC 4) zH))) (zT bm hr 8#0 rfl (zD (zC 0) (zD (yJ (zC 1) (zC 2)) zH)))) (zR (zh zEl)) yS) (zM (zAr (zQ3 77#0 zN) (zR (zh zEl)) yS) (zM (zi 5 nd (zGa (zT aG hr 8#0 rfl (zD (zC 0) zH)) zJG)) (zR (zh (zTW hr (zC 5) (zJL (zGa (zT aG hr 8#0 rfl (zD (zC 3) zH)) zJG) (zFx (zGa (zT aG hr 8#0 rfl (zD (zC 4) zH)) zJG)))))))))))
theorem zLa(F:Gf K mg "_law_rings" zE2)(a8:101#0)(a9:110#0)(aa:139#0)(az:mg "min"=none)   (ax:Df P w K mg base 3 "ring_together" ["one","two"] wX)(aS:Df P w K mg base 3 "web_of" ["ring"] zAW)(ah:Df P w K mg base 3 "put_together" ["one","two"] yT)(ak:Df P w K mg base 4 "is_split" ["web","places"] yi):Df P w K mg base 5 "_law_rings" ["one","two"] zBO:=by
 sleep 3;have nd:=(zG0).nd;refine zk zDI F zG0 hm 5#0 7#0 zNq;unfold zDI;exact(zM (zi 2 nd (zT ax hr 8#0 rfl (zD (zC 0) 47#0))) (zM (zi 3 nd (zT ah hr 8#0 rfl (zD (zT aS hr 8#0 rfl (zD (zC 0) zH)) (zD (zT aS hr 8#0 rfl 47#0) zH)))) (zM (zAr (zF0 hr (zT aS hr 8#0 rfl 129#0) (zC 3)) (zR (zh zEl)) yS) (zM (zi 4 nd (zOf rfl rfl a8 rfl a9 (zD (zAk (zDf 71#0 zN) zN) zH))) (zR (zh (zUg (zTO (zJO rfl rfl az (zD (yv rfl aa (zD (zC 4) zH)) (zD (zAk (zo (zC 3) zN) (yv rfl aa (zD (zC 4) zH))) zH))) zN) (zFx (zT ak hr 8#0 rfl (zD (zC 3) (zD (zC 4) zH)))))))))))
theorem zUD{f:Addr}{fd:FuncData}(F:Fun K "law" "law" zEf f fd)(a9:110#0)(aP:mg "max"=none)(az:mg "min"=none)(aa:139#0)   (b8:Df P w K mg base 2 "_law_state" ["script","k"] (spL wP))(aM:Df P w K mg base 3 "_law_web" ["state","most"] zBH)(b9:Df P w K mg base 4 "_law_loose" ["state","most"] zCK)(ac:102#0)(bf:Df P w K mg base 2 "_law_side" ["state","many"] zC6)(ba:Df P w K mg base 4 "_law_ranks" ["web","side","place"] zCN)(aY:Df P w K mg base 5 "splits" ["web"] (spL zAZ))(aq:Df P w K mg base 3 "web_turned" ["web","place"] yl)(bb:Df P w K mg base 13 "_law_parts" ["web","side"] zCO)(aC:Df P w K mg base 2 "_law_ring" ["state","many"] zAU)(aV:Df P w K mg base 5 "_law_rings" ["one","two"] zBO):zFq P w K mg base CX0 14 f fd ["script"] (lSp K zHY):=by
 have nd:=zQU.nd;refine zTZ zMe F zQU 7#0 zU5;unfold zMe;exact(zM (wd PassesOwn.never rfl (ye rfl a9 (zD (zSJ rfl rfl aP (zD zN (zD (zJO rfl rfl az (zD 71#0 (zD zN zH))) zH))) zH)) (wv 1 nd) (zM (zi 2 nd (yN (zAR b8 zIO hr 8#0 rfl (zD (zC 0) 47#0)))) (zM (zi 3 nd (zo (yN (zCR (zD (zT aM hr 8#0 rfl (zD (zC 2) (zD zN zH))) (zD (zT b9 hr 8#0 rfl (zD (zC 2) (zD zN zH))) zH)))) (zT ac hr 8#0 rfl (zD (zC 2) (zD zN zH))))) (zM (zi 4 nd (zT ac hr 8#0 rfl (zD (zC 2) (zD (zo (zC 3) zN) zH)))) (zM (wd PassesOwn.never rfl (ye rfl a9 (zD zN zH)) (wv 5 nd) (zR (zAr (zFy (zBV (zT ba hr 8#0 rfl (zD (zC 3) (zD (zT bf hr 8#0 rfl (zD (zC 2) (zD (zo (zC 3) zN) zH))) (zD (zC 4) zH)))))) (zR (zh zEl)) yS))) (zM (zi 6 nd (yN (zAR aY zFA hr 8#0 rfl (zD (zC 3) zH)))) (zM (zAr (zF0 hr (yN (zAR aY zFA hr 8#0 rfl (zD (zT aq hr 8#0 rfl (zD (zC 3) (zD (zC 4) zH))) zH))) (zC 6)) (zR (zh zEl)) yS) (zM (wd PassesOwn.never rfl (zJJ (zLy (zC 6) zCd (zAE zN))) (wv 7 nd) (zR (zAr (zFy (zBV (zT bb hr 8#0 rfl (zD (zC 3) (zD (zC 7) zH))))) (zR (zh zEl)) yS))) (zM (zST 8 9 rfl nd (zD (zT aC hr 8#0 rfl (zD (zC 2) (zD (yJ zN (zT ac hr 8#0 rfl (zD (zC 2) (zD zN zH)))) zH))) (zD (zT aC hr 8#0 rfl (zD (zC 2) (zD (yJ zN (zT ac hr 8#0 rfl (zD (zC 2) (zD zN zH)))) zH))) zH))) (zR (zAr (W2.test (w_or (zFy (zBV (zT aV hr 8#0 rfl (zD (zC 8) (zD (zC 9) zH))))) (zJM (zFy (zBV (zT aV hr 8#0 rfl (zD (zC 9) (zD (zC 8) zH)))))))) (zR (zh zEl)) yS))))))))))) (zR (zh zEl)))
end
theorem zUE{l:PySem.W.OpenLaw}{w:World}{K:18#0}{h:Heap}{mg:78#0}{fa:Addr}(X:K.In h)(G:h.Ns mainGlobals mg)(hfa:mg "law"=some (.ref fa))
  {f42:Addr} {od42 an42:Option Addr} {sl42:Array (Option Value)} {oc42 kV42 dc42 pm42 cd42 ct42:Value} {ao:Tok} {aD:Tok}
  (gv0:Gv K "is_number" zCp)
  (gv1:Gv K "are_places" zA4)
  (gv2:Gv K "is_rising" zA5)
  (gv3:Gv K "pairs" zIz)
  (gv4:Gv K "pairs_of" zDn)
  (gv5:Gv K "refuse_more" zBl)
  (gv6:Gv K "cross" zI0)
  (gv7:Gv K "web_of" zEY)
  (gv8:Gv K "turned_round" zBP)
  (gv9:Gv K "tied" zLR)
  (gv10:Gv K "around" zEZ)
  (gv11:Gv K "kept" zI1)
  (gv12:Gv K "named" zI2)
  (gv13:Gv K "other_side" zA6)
  (gv14:Gv K "cut_rank" zDo)
  (gv15:Gv K "row_of" zEa)
  (gv16:Gv K "is_split" zDp)
  (gv17:Gv K "splits" zCr)
  (gv18:Gv K "parted" zGp)
  (gv19:Gv K "part_of" zEz)
  (gv20:Gv K "put_together" yu)
  (gv21:Gv K "ring_together" wu)
  (gv22:Gv K "beside_last" zBm)
  (gv23:Gv K "ring_of" zE0)
  (gv24:Gv K "near_order" zAQ)
  (gv25:Gv K "tied_among" zA7)
  (gv26:Gv K "grown" zFn)
  (gv27:Gv K "with_chord" zA8)
  (gv28:Gv K "web_turned" zCP)
  (gv29:Gv K "_law_cell_at" zCt)
  (gv30:Gv K "_law_state" zE1)
  (gv31:Gv K "_law_take" zGu)
  (gv32:Gv K "_law_pairs" zDJ)
  (gv33:Gv K "_law_web" zEc)
  (gv34:Gv K "_law_ring" zEd)
  (gv35:Gv K "_law_web_of" zCQ)
  (gv36:Gv K "_law_side" zEe)
  (gv37:Gv K "_law_glued" zAa)
  (gv38:Gv K "_law_loose" zB1)
  (gv39:Gv K "_law_ranks" zDK)
  (gv40:Gv K "_law_parts" zDL)
  (gv41:Gv K "_law_rings" zE2)
  (a42:PySem.W.nsIn K mainGlobals "law"=some (some (.ref f42))) (l42:K.lookup f42=some ⟨oc42,od42,.func (PySem.W.fnOf "law" "law" (zBT zEf) (wo zEf) (zJ zEf) .none kV42 dc42 pm42 an42 cd42 ct42),sl42⟩) (c42:PySem.W.codeIn K cd42 "law"=true) (k42:PySem.W.keepIn K (.ref f42)=true)
  (aE:PySem.W.nsIn K mainGlobals "MOST_PLACES"=some (some (.int 9 ao)))
  (aN:PySem.W.nsIn K mainGlobals "MOST_FOUND"=some (some (.int 7 aD)))
  (aO:PySem.W.nsIn K mainGlobals "isinstance"=some none)
  (bx:PySem.W.nsIn K mainGlobals "int"=some none)
  (bq:PySem.W.nsIn K mainGlobals "bool"=some none)
  (bn:PySem.W.nsIn K mainGlobals "tuple"=some none)
  (bz:PySem.W.nsIn K mainGlobals "all"=some none)
  (bo:PySem.W.nsIn K mainGlobals "range"=some none)
  (bA:PySem.W.nsIn K mainGlobals "len"=some none)
  (bB:PySem.W.nsIn K mainGlobals "min"=some none)
  (bC:PySem.W.nsIn K mainGlobals "max"=some none)
  (bD:PySem.W.nsIn K mainGlobals "sum"=some none)
  (bg:PySem.W.nsIn K mainGlobals "sorted"=some none)
  (br:PySem.W.nsIn K mainGlobals "list"=some none)
  (bE:PySem.W.nsIn K mainGlobals "set"=some none)
  (bF:PySem.W.nsIn K mainGlobals "abs"=some none) :
  ∃ fd:FuncData,(∀(s:Shared) (v:Value),BindsTo s fd ⟨[v],[]⟩ [("script",v)])/\∀ base:Heap,K.In base->base.Ns mainGlobals mg->zFq l.prog w K mg base CX0 14 fa fd ["script"] (lSp K zHY):=by
 have e:=hfa.symm.trans (PySem.W.mg_of X G a42);cases e;have am:=PySem.W.mg_of X G aE;have aK:=PySem.W.mg_of X G aN;have ai:=PySem.W.mg_none_of X G aO;have bu:=PySem.W.mg_none_of X G bx;have bp:=PySem.W.mg_none_of X G bq;have a8:=PySem.W.mg_none_of X G bn;have bh:=PySem.W.mg_none_of X G bz;have a9:=PySem.W.mg_none_of X G bo;have aa:=PySem.W.mg_none_of X G bA;have az:=PySem.W.mg_none_of X G bB;have aP:=PySem.W.mg_none_of X G bC;have bi:=PySem.W.mg_none_of X G bD;have ae:=PySem.W.mg_none_of X G bg;have aJ:=PySem.W.mg_none_of X G br;have bv:=PySem.W.mg_none_of X G bE;have bw:=PySem.W.mg_none_of X G bF;refine⟨PySem.W.fnOf "law" "law" (zBT zEf) (wo zEf) (zJ zEf) .none kV42 dc42 pm42 an42 cd42 ct42,fun s v=>.of_eq rfl,fun base kb u0 =>?_⟩;have aQ:=zI3 (P:=l.prog) (w:=w) (base:=base) (Gv.gf X G gv0) ai bu bp;have aI:=zHC (P:=l.prog) (w:=w) (base:=base) (Gv.gf X G gv2) bh a9 aa;have au:=zKS (P:=l.prog) (w:=w) (base:=base) (Gv.gf X G gv4) a9 aa;have af:=zG1 (P:=l.prog) (w:=w) (base:=base) (Gv.gf X G gv5) ;have bj:=zQW (P:=l.prog) (w:=w) (base:=base) (Gv.gf X G gv6) ;have aB:=zFQ (P:=l.prog) (w:=w) (base:=base) (Gv.gf X G gv8) ;have aw:=zSA (P:=l.prog) (w:=w) (base:=base) (Gv.gf X G gv9) az aP;have ap:=zHD (P:=l.prog) (w:=w) (base:=base) (Gv.gf X G gv13) a8 a9;have ag:=zHG (P:=l.prog) (w:=w) (base:=base) (Gv.gf X G gv27) bi a9 aa;have aR:=zI4 (P:=l.prog) (w:=w) (base:=base) (Gv.gf X G gv29) aa;have ac:=zN1 (P:=l.prog) (w:=w) (base:=base) (Gv.gf X G gv31) ;have ay:=zLV (P:=l.prog) (w:=w) (base:=base) (Gv.gf X G gv32) a9;have b7:=zLW (P:=l.prog) (w:=w) (base:=base) (Gv.gf X G gv37) a8 ae;have aH:=zHB (P:=l.prog) (w:=w) (base:=base) (Gv.gf X G gv1) ai a8 bh aQ;have aT:=zQV (P:=l.prog) (w:=w) (base:=base) (Gv.gf X G gv3) a8 a9 au;have aA:=zNw (P:=l.prog) (w:=w) (base:=base) (Gv.gf X G gv10) a8 a9 aw;have aF:=zNx (P:=l.prog) (w:=w) (base:=base) (Gv.gf X G gv15) bi aw;have av:=zG2 (P:=l.prog) (w:=w) (base:=base) (Gv.gf X G gv22) aP aB;have ab:=zHF (P:=l.prog) (w:=w) (base:=base) (Gv.gf X G gv25) aw;have b8:=zLU (P:=l.prog) (w:=w) (base:=base) (Gv.gf X G gv30) aR;have aC:=zN2 (P:=l.prog) (w:=w) (base:=base) (Gv.gf X G gv34) aJ a9 a8 aa ac;have aW:=zKV (P:=l.prog) (w:=w) (base:=base) (Gv.gf X G gv35) aa a8 ay;have bf:=zN3 (P:=l.prog) (w:=w) (base:=base) (Gv.gf X G gv36) a8 a9 ac;have aS:=zNv (P:=l.prog) (w:=w) (base:=base) (Gv.gf X G gv7) aa a8 aT bj;have aZ:=zSB (P:=l.prog) (w:=w) (base:=base) (Gv.gf X G gv11) aa a8 aT aw;have aj:=zKT (P:=l.prog) (w:=w) (base:=base) (Gv.gf X G gv14) az aa ap aF;have ah:=zFR (P:=l.prog) (w:=w) (base:=base) (Gv.gf X G gv20) a8 ae am af aA;have ax:=zE3 (P:=l.prog) (w:=w) (base:=base) (Gv.gf X G gv21) aa a8 am af av;have aL:=zHE (P:=l.prog) (w:=w) (base:=base) (Gv.gf X G gv24) aa a9 aP ab;have aq:=zHH (P:=l.prog) (w:=w) (base:=base) (Gv.gf X G gv28) a8 ae bv aA au;have aM:=zQY (P:=l.prog) (w:=w) (base:=base) (Gv.gf X G gv33) a8 ac ay aC aW;have bm:=zQX (P:=l.prog) (w:=w) (base:=base) (Gv.gf X G gv12) aZ;have ak:=zKU (P:=l.prog) (w:=w) (base:=base) (Gv.gf X G gv16) aa aH aI aj;have aU:=zLS (P:=l.prog) (w:=w) (base:=base) (Gv.gf X G gv19) aa aJ a9 a8 ae aZ aF;have b9:=zLX (P:=l.prog) (w:=w) (base:=base) (Gv.gf X G gv38) aJ a9 aa a8 ae aM b7 ac;have ba:=zLY (P:=l.prog) (w:=w) (base:=base) (Gv.gf X G gv39) a8 a9 az aa bw aj aq;have aY:=zNy (P:=l.prog) (w:=w) (base:=base) (Gv.gf X G gv17) a9 ae ak;have bc:=zNz (P:=l.prog) (w:=w) (base:=base) (Gv.gf X G gv18) ak ap aU;have aV:=zLa (P:=l.prog) (w:=w) (base:=base) (Gv.gf X G gv41) a8 a9 aa az ax aS ah ak;have bG:Df l.prog w K mg base 3 "grown" ["web","order","done","ring"] (zAP 0):=zN0 (Gv.gf X G gv26);have bH:=zAp (P:=l.prog) (w:=w) (base:=base) (Gv.gf X G gv26) aa ab 8#0 ag 8#0 bG;have bI:=zAp (P:=l.prog) (w:=w) (base:=base) (Gv.gf X G gv26) aa ab 8#0 ag 8#0 bH;have bJ:=zAp (P:=l.prog) (w:=w) (base:=base) (Gv.gf X G gv26) aa ab 8#0 ag 8#0 bI;have bK:=zAp (P:=l.prog) (w:=w) (base:=base) (Gv.gf X G gv26) aa ab 8#0 ag 8#0 bJ;have bL:=zAp (P:=l.prog) (w:=w) (base:=base) (Gv.gf X G gv26) aa ab 8#0 ag 8#0 bK;have bM:=zAp (P:=l.prog) (w:=w) (base:=base) (Gv.gf X G gv26) aa ab 8#0 ag 8#0 bL;have bN:=zAp (P:=l.prog) (w:=w) (base:=base) (Gv.gf X G gv26) aa ab 8#0 ag 8#0 bM;have aX:=zAp (P:=l.prog) (w:=w) (base:=base) (Gv.gf X G gv26) aa ab 8#0 ag 8#0 bN;have aG:=zLT (P:=l.prog) (w:=w) (base:=base) (Gv.gf X G gv23) aK af aL aX;have bb:=zLZ (P:=l.prog) (w:=w) (base:=base) (Gv.gf X G gv40) a8 a9 bc ah bm aG;exact zUD (zOL (st:=zEf) l42 c42 k42) a9 aP az aa b8 aM b9 ac bf ba aY aq bb aC aV
end K
open PySem PySem.W PyProof.Rows
set_option maxRecDepth 100000 in
set_option maxHeartbeats 0 in
theorem PySem.Challenge.cw_chordwebs_k45_whole_splits_holds : PySem.Challenge.rw_chordwebs_k45_whole_splits.Holds := by
 w_on;o_law
 refine holds_open (q:=K.kq) (d:=?d) (kwd:=?kw) (XP:=XL K.kq []) (YP:=(kHook K.kf K.ka K.ke).says) K.hl ?h1 ?h2 ?h3 XL.keeps ?h4 ?h5 ?h6 ?h7 ?h8 ?h9 ?h10 ?h11 ?hw ?hc
 (case h1=>exact(kHook K.kf K.ka K.ke).of)
 (case h2=>exact(kHook K.kf K.ka K.ke).keeps)
 (case h3=>intro s e;exact xl_of s (Bool.and_eq_true_iff.mp e).1)
 (case h4=>rfl)
 (case h5=>rfl)
 (case h6=>rfl)
 (case h7=>intro s e;exact recFacts_of (Bool.and_eq_true_iff.mp e).2)
 (case h8=>rfl)
 (case h9=>assumption)
 (case h10=>decide +kernel)
 (case h11=>exact⟨rfl,rfl,rfl,rfl,rfl,by decide +kernel⟩)
 (case hw=>w_witness2)
 k_fill
 refine L3.zOj (l:=PySem.Challenge.rw_chordwebs_k45_whole_splits) (k:=14) rfl rfl ⟨rfl,by decide,by decide⟩ (fun w h Y=>⟨PySem.W.kIn_of Y,[],fun u0=>"",⟨(fun u0 h=>nomatch h),(fun u0 h=>nomatch h),(fun u0 h=>nomatch h),fun x hx=>nomatch hx⟩⟩) ?F
 case F =>
  intro w mg fa h KX G hmg;refine' K.zUE KX G hmg ?gv0 ?gv1 ?gv2 ?gv3 ?gv4 ?gv5 ?gv6 ?gv7 ?gv8 ?gv9 ?gv10 ?gv11 ?gv12 ?gv13 ?gv14 ?gv15 ?gv16 ?gv17 ?gv18 ?gv19 ?gv20 ?gv21 ?gv22 ?gv23 ?gv24 ?gv25 ?gv26 ?gv27 ?gv28 ?gv29 ?gv30 ?gv31 ?gv32 ?gv33 ?gv34 ?gv35 ?gv36 ?gv37 ?gv38 ?gv39 ?gv40 ?gv41 ?a42 ?l42 ?c42 ?k42 ?aE ?aN ?aO ?bx ?bq ?bn ?bz ?bo ?bA ?bB ?bC ?bD ?bg ?br ?bE ?bF
  (case gv0 | gv1 | gv2 | gv3 | gv4 | gv5 | gv6 | gv7 | gv8 | gv9 | gv10 | gv11 | gv12 | gv13 | gv14 | gv15 | gv16 | gv17 | gv18 | gv19 | gv20 | gv21 | gv22 | gv23 | gv24 | gv25 | gv26 | gv27 | gv28 | gv29 | gv30 | gv31 | gv32 | gv33 | gv34 | gv35 | gv36 | gv37 | gv38 | gv39 | gv40 | gv41=>apply K.Gv.of;(case a=>k_is);(case l=>k_is);(case c=>k_is);(case k=>k_is))
  (case a42 | l42 | c42 | k42 | aE | aN | aO | bx | bq | bn | bz | bo | bA | bB | bC | bD | bg | br | bE | bF=>k_is)
#print axioms PySem.Challenge.cw_chordwebs_k45_whole_splits_holds
