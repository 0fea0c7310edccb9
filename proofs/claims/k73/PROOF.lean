import PyProof.Rows.All
import Wide.All
import OpenK.AllK
import Wide.FinOn
import Lean
import PyProof.EqAt
import PyProof.EqKinds
import PyProof.TupleCall
import PyProof.NeKinds
import KE.KRevIter
import PyProof.Rows.Range3
import PyProof.ZipIter
import PyProof.Rows.SortRunsK
import PyProof.Rows.SortShell
import PyProof.Rows.IntRules
import PyProof.Dict
import PyProof.Conv_int_bool
import PyProof.Rows.DictRows
import PyProof.DictTable
import PyProof.SetKind
import PyProof.Rows.SetFrom
import PyProof.Rows.SortPure
import PyProof.FactsAll.set_1
import PyProof.SetRoads
import PyProof.Walks
import PyProof.CollectWalk
import PyProof.ListRange
import PyProof.TupleKey
import PyProof.IsRules
import PyProof.WalksMore
import PyProof.EnumStmt
import PyProof.Rows.EnumRows
import PyProof.SeqI3
import PyProof.StrCalls2
import PyProof.StrBlockH
import PyProof.StrLawsTight
import PyProof.StrLawsJoin
import KE.KIntText
import PySem.Challenge.RW_chordwebs_k73_whole_rings_of_webs
set_option Elab.async false
set_option linter.all false
set_option maxRecDepth 100000
set_option autoImplicit true
set_option bootstrap.genMatcherCode false
set_option genSizeOf false
set_option compiler.extract_closed false
set_option genInjectivity false
local macro_rules | `(tactic| omega) => `(tactic| lia)
set_option hygiene false
local macro_rules
| `(1#0)=>`((by omega))
| `(2#0)=>`(⟨rfl,rfl,rfl,by decide +kernel,rfl,by decide +kernel,by decide +kernel⟩)
| `(3#0)=>`((model prog w))
| `(4#0)=>`((autoParam (starEach [e] X.env=21#0::starEach [] X.env) Zq4._auto_1))
| `(5#0)=>`((by decide +kernel))
| `(6#0)=>`((fun cdv A outer s H E hr=>?_))
| `(7#0)=>`((F.binds fun u0 u0 u0 u0 u0 u0 us hl=>us2 us hl fun u0 u0=>rfl))
| `(8#0)=>`((autoParam ((backTo pos 33#0).any (·.1)=false) Zq4._auto_1))
| `(9#0)=>`((autoParam ((x==("__debug__":Str))=false) Zq2._auto_1))
| `(10#0)=>`((by decide))
| `(11#0)=>`((autoParam (starEach (e::es) X.env=21#0::starEach es X.env) Zq4._auto_1))
| `(12#0)=>`((Value->Shared->Prop))
| `(13#0)=>`((by simp))
| `(14#0)=>`((F.binds fun u0 u0 u0 u0 u0 u0 us hl=>us1 us hl fun u0=>rfl))
| `(15#0)=>`((PySem.W.Frag))
| `(16#0)=>`((zV X pins σ H s))
| `(17#0)=>`((.ref s.heap.objs.size))
| `(18#0)=>`((k==NameKind.free&&env.scope.kind==.function&&env.kindOf n==some .cell))
| `(19#0)=>`((((s.heap.push 50#0).update s.heap.objs.size 55#0).push 20#0))
| `(20#0)=>`((seqObj "list" vs.toArray 0))
| `(21#0)=>`((false,eval e X.env))
| `(22#0)=>`((codeAny_call_builtin (R:=wants (fun r z2=>r=.none/\∃ h' tk kys,z2={ s with heap:=h',toks:=tk }/\ST prog w P h' s.heap.objs.size kys/\kys.length<=its.size/\(∀ x,x∈kys↔∃ m,m<its.size/\val m=x)/\Kp s.heap h') E) F.called_set.init.plain F.entry_set_init (check_set_init_1 hT ?_)))
| `(23#0)=>`((model X.prog X.w))
| `(24#0)=>`((zS yM (zB 0) 32#0))
| `(25#0)=>`((Nat×Nat->Bool))
| `(26#0)=>`((List (Addr×Obj)))
| `(27#0)=>`((autoParam (∀ x,foldedSetIterable iter X.env x=pure x) Zq3._auto_1))
| `(28#0)=>`((zU (xIf (zAp (xB (zH wX (zA (zB 5) zG))) (xB (zS (wu true) (zH zk (zA (zB 6) zG)) 35#0))) (zi (xC (.bl false))) yC) (zU (zn (zH zAs (zA (zB 2) (zA (zS yM (zB 5) 32#0) zG))) (gN 8)) (xIf (zBI (xB (zS (wu true) (zH zk (zA (zf (zg zm (zA (zH zBU (zA (zB 5) (zA (zB 8) zG))) zG))) zG)) (zH zk (zA (zB 6) zG)))) (xB (zS (wu true) (zH zk (zA (zf (zg zm (zA (zH yh (zA (zB 5) (zA (zS yM (zB 8) 32#0) zG))) zG))) zG)) (zH zk (zA (zB 6) zG))))) (zi (xC (.bl false))) yC))))
| `(29#0)=>`((∀ b o,s.heap.get? b=some o->h'.get? b=some o))
| `(30#0)=>`((List (List Int)))
| `(31#0)=>`((s.heap.push { cls:=.type "list",data:=.seq ([]:List Value).toArray }))
| `(32#0)=>`((xC (.int 0)))
| `(33#0)=>`((starEach [] X.env))
| `(34#0)=>`((autoParam (X.fn x=true\/X.env.scope.names.lookup x=some .local) Zq1._auto_1))
| `(35#0)=>`((xC (.int 1)))
| `(36#0)=>`((autoParam ((backTo pos (starEach es X.env)).any (·.1)=false) Zq4._auto_1))
| `(37#0)=>`((by unfold zR;rfl))
| `(38#0)=>`((fun a b=>ltI b a=false))
| `(39#0)=>`((autoParam (starEach [a] X.env=[(false,eval a X.env)]) Zq4._auto_1))
| `(40#0)=>`((List Value))
local macro_rules
| `(41#0)=>`((arrOf z))
| `(42#0)=>`((List Nat))
| `(43#0)=>`(([e].length+([]:List Keyword).length+(if ([]:List Keyword).isEmpty then 0 else 1)<30))
| `(44#0)=>`((if f8 t.dummies j then cP t.dummies (cI t.dummies j) else t.dummies))
| `(45#0)=>`((((wD items.size 0 lo:Nat):Int)==0&&(1:Int)==1&&(wD items.size items.size hi-wD items.size 0 lo)==items.size))
| `(46#0)=>`((fII fun i j=>.bl (decide (i<j))))
| `(47#0)=>`((zH zk (zA (zB 0) zG)))
| `(48#0)=>`((fun G2 e R q=>zCO (yl ⟨by rw[sizeLine_eq];simp,q⟩)))
| `(49#0)=>`((F.binds fun u0 u0 u0 u0 u0 u0 us hl=>us3 us hl fun u0 u0 u0=>rfl))
| `(50#0)=>`((seqObj "list" #[] 0))
| `(51#0)=>`((zA (zB 1) zG))
| `(52#0)=>`((zAP fun u0 u0=>⟨rfl,rfl⟩))
| `(53#0)=>`((.ListComp elt [⟨tg,iter,ifs,0⟩] sc pos))
| `(54#0)=>`((∀ b∈ch,(b∈X.ex\/X.s₀.heap.objs.size<=b)/\b≠X.env.locals/\(∀ x c,X.env.cells.lookup x=some c->c≠b)/\∀ p∈X.pn++pins,p.1≠b))
| `(55#0)=>`((Obj.mapSeq (·++vs.toArray)))
| `(56#0)=>`((autoParam (x≠"__name__") Zq2._auto_1))
| `(57#0)=>`(((cf (min its.toArray.size its'.toArray.size)).all (fun j=>wG (ds.getD j .non) (ds'.getD j .non))&&its.toArray.size==its'.toArray.size))
| `(58#0)=>`((by rw[typeLookup_type,builtinLookup_eq_fast];kernel_rfl))
| `(59#0)=>`((.Call (.Name "set" p1) [e] [] pos1))
| `(60#0)=>`((fun i v=>items[items.size-1-i]?=some v))
| `(61#0)=>`((X.comp (N0++own) sc C s H fp pins))
| `(62#0)=>`((∀ ls G',R ls G'->R' ls G'))
| `(63#0)=>`(((os.take k).filter (yS q p)))
| `(64#0)=>`((fun(x:Str×NameKind) (r:List (Str×Addr))=>(match x with | (name,kind)=>if (kind==NameKind.free)=true then (do let a <-cellOf env name;pure (ForInStep.yield ((name,a)::r))) else pure (ForInStep.yield r):Sem (ForInStep (List (Str×Addr))))))
| `(65#0)=>`((.ListComp elt [⟨.Name x px,iter,ifs,0⟩] sc pos))
| `(66#0)=>`((hT prog w ns))
| `(67#0)=>`((by rw[isSubtype_type];kernel_rfl))
| `(68#0)=>`((yb zDE fun i j=>.int (i*2 ^ j.toNat)))
| `(69#0)=>`((by rw[in1_units];omega))
| `(70#0)=>`((zAv (.ref l) (E:=E) (Q1:=fun obj z=>obj=.ref s.heap.objs.size/\z={ s with heap:=s.heap.push (yX w) }) ⟨rfl,rfl⟩))
| `(71#0)=>`((by have:=hr.units;omega))
| `(72#0)=>`((if (if c<(ns.length:Int) then c else ns.length)>1 then (if c<(ns.length:Int) then c else (ns.length:Int)) else 1))
| `(73#0)=>`((zA (zB 3) zG))
| `(74#0)=>`((Array Keyed))
| `(75#0)=>`((xIf (zBI (xB (zS (wu true) (zS (zE3 false) (zB 7) (xC .non)) (zS (wu false) (zB 6) (zf (wE zG))))) (zAp (xB (zS (zE3 true) (zB 7) (xC .non))) (xB (zS (fIn true) (zH zx (zA (zB 7) zG)) (zB 6))))) (zi (xC (.bl false))) yC))
| `(76#0)=>`((X.comp (N0++[x]) sc C s H fp pins))
| `(77#0)=>`((yb (fun u0 j=>0<j) fun i j=>.int (i%j)))
| `(78#0)=>`((yj rfl ab (zC (zD 0) zI)))
| `(79#0)=>`((ST prog w P s.heap a kys))
| `(80#0)=>`((Array (Int×Value)))
local macro_rules
| `(81#0)=>`(⟨σ,G,_,r,q,fun d G1 q1 v H1 g1 r1 d1=>?_⟩)
| `(82#0)=>`((arrOf z'))
| `(83#0)=>`((Str->Option Value))
| `(84#0)=>`((autoParam ((x==("__classdict__":Str))=false) Zq2._auto_1))
| `(85#0)=>`((X.calm=true))
| `(86#0)=>`((fII fun i j=>.bl (decide (i<=j))))
| `(87#0)=>`((∀(cdv:Value) (A:Around) (outer:List Env) (s:Shared) (H:Hp) (E:XK),yZ k (A.deeper (envOfC qual (zJ st) s.heap.objs.size f cdv))->Ps2 (zHk CX0 P w K mg base N qual (zJ st) f cdv A outer s H E).nox (wK st) t))
| `(88#0)=>`((.Call (.Name "set" p2) [.Name x p3] [] pos2))
| `(89#0)=>`((zC (zD 1) zI))
| `(90#0)=>`((autoParam ((apos.endLine==cpos.line)=true) Zq4._auto_1))
| `(91#0)=>`((fun A R s=>s.heap.get? l=some { cls:=.type "tuple",dict:=dd,data:=.seq items n,slots:=sl }/\(∀ y,y∈items->SeqAt.EqAt A.in1 s y x (e y))/\R (.ok (.ret (.int j s.toks))) { s with toks:=s.toks+1 }))
| `(92#0)=>`((A.handled=none))
| `(93#0)=>`((xIf (zBI (xB (zS (wu true) (zf (zPk (zB 6))) (zB 6))) (xB (zS (wu true) (zf (zr (iV (zB 6)) wd (zAq (xB (zH zAM (zA (zB 9) (zA (zB 5) zG))))) (zB 9))) (zf (wE zG))))) (zi (xC (.bl false))) yC))
| `(94#0)=>`((yg (ha pos pins s σ H _ I h) fun us s1 ⟨vs,H1,I1,r1,q1⟩=>?_))
| `(95#0)=>`((zA (zB 2) zG))
| `(96#0)=>`((yK (zD 0) zO))
| `(97#0)=>`((fun r s'=>r=.ok (.ret (.bool true))/\OldK s₁.heap s'.heap/\s'.os=s₁.os/\AllBare s'.gens))
| `(98#0)=>`((.Call (.Name x p) (e::es) [] pos))
| `(99#0)=>`((∀ b o,b∉wr->b≠S->s.heap.get? b=some o->h'.get? b=some o))
| `(100#0)=>`((List D->Gp->Prop))
| `(101#0)=>`((by rw[sizeLine_eq];omega))
| `(102#0)=>`((Array Value))
| `(103#0)=>`(⟨fun i j vi vj s Q E kp pi pj q=>this.cmp i j vi vj s Q E kp (by simpa using pi) (by simpa using pj) q,fun h h' kp k=>this.keep h h' kp fun b o h1 h2 e=>k b o h1 ?_ e⟩)
| `(104#0)=>`((if ng then !ds.any fun z=>wG z x else ds.any fun z=>wG z x))
| `(105#0)=>`((TK prog w P s.heap ns b))
| `(106#0)=>`((fun u0 u0 u0 u0 u0=>zBe))
| `(107#0)=>`((fun d=>match d with | .int v=>nD (2 ^ v.toNat) | _=>.non))
| `(108#0)=>`((.keep (.keep (.skip (.skip (.skip .nil))))))
| `(109#0)=>`((fun d=>match d with | .int v=>yS q i v.toNat | _=>false))
| `(110#0)=>`(⟨σ,G,_,r,q,fun d G1 q1 v H1 g1 r1 d1=>⟨σ,G1,_,r.to g1 r1,q1,fun o1 G2 q2 H2 g2 r2=>⟨σ,G2,_,r.to (g1.trans g2) r2,q2,fun o2 G3 q3 H3 g3 r3=>?_⟩⟩⟩)
| `(111#0)=>`((by simpa using c3))
| `(112#0)=>`((autoParam (starEach [.Call (.Name "reversed" p2) [a] [] pos] X.env=(false,eval (.Call (.Name "reversed" p2) [a] [] pos) X.env)::starEach [] X.env) Zq4._auto_1))
| `(113#0)=>`((Obj.mapSeq fun u0=>#[]))
| `(114#0)=>`((∀ b o,b≠r->s.heap.get? b=some o->h'.get? b=some o))
| `(115#0)=>`(⟨fun a o e=>?_,fun a o e=>sb.ro a o e⟩)
| `(116#0)=>`(⟨⟨3,cr _,rfl⟩,rfl,eA.nil,eA.nil,fun j hj=>(by simp[eQ] at hj),fun j hj=>(by simp[eQ] at hj),dG _,fun j h x he=>?_,fun j hj=>(by simp[eQ] at hj)⟩)
| `(117#0)=>`((autoParam (starEach [.Call (.Name "range" p2) [a] [] pos] X.env=(false,eval (.Call (.Name "range" p2) [a] [] pos) X.env)::starEach [] X.env) Zq4._auto_1))
| `(118#0)=>`(⟨by omega,by omega⟩)
| `(119#0)=>`((za (za G ls ((os.take k).map nD)) lc (((os.take k).filter (yS q p)).map nD)))
| `(120#0)=>`((fin es2 t2 _ _ (s1.trans (dt.update ..)) (zBB (o:={ o with data:=.set es' (ep+1) (t.put j).1 }) g1 rfl) T2 p2 (pl2.trans pl) (ld2.trans ld) ?_ ?_))
local macro_rules
| `(121#0)=>`((zr (iV (zB 6)) wd (xB (zS (wu true) (zH zx (zA (zB 9) zG)) (zB 9))) (zB 9)))
| `(122#0)=>`((∀ h' tk' kys',Kp h0 h'->ST prog w P h' S kys'->kys'.length<=n->(∀ x,x∈kys'↔∃ m,m<n/\val m=x)->R (.ok (.ret .none)) ⟨h',g,d,tk',os⟩))
| `(123#0)=>`((k==NameKind.free&&X.env.scope.kind==.function&&X.env.kindOf n==some .cell))
| `(124#0)=>`((fII fun i j=>.int (Builtin.bitXor i j)))
| `(125#0)=>`(⟨rfl,I.turned (t':=s.toks) (fun b o hb e=>eb b o hb e) f0 f1 f3 f4 f5⟩)
| `(126#0)=>`((HT.wD xs.length xs.length hi-HT.wD xs.length 0 lo))
| `(127#0)=>`((yb zGa fun i j=>.int (i*j)))
| `(128#0)=>`((∀ b o,b∉wr->h.get? b=some o->h'.get? b=some o))
| `(129#0)=>`((List Int))
| `(130#0)=>`((.refl H))
| `(131#0)=>`((PySem.W.fnOf x qual (zA2 st) (wK st) (zJ st) .none kV doc pm an cdv ct))
| `(132#0)=>`(⟨σ,G,_,rl,q,fun ds G1 q1 vs H1 g1 r1 d1=>?_⟩)
| `(133#0)=>`((.tup (r.map nD)))
| `(134#0)=>`((intKind prog w))
| `(135#0)=>`((autoParam (X.N[i]?=some x) Zq4._auto_1))
| `(136#0)=>`((eN (wy I hg2 hm2 boot_set (PyProof.Rows.callWith_type1 (yg (ha pos1 pins s σ H _ I h) fun us s1 ⟨vs,H1,I1,r1,q1⟩=>?_) he1 hpl1))))
| `(137#0)=>`((.Call (.Name "sorted" p) [.Call (.Name "set" p1) [e] [] pos1] [] pos))
| `(138#0)=>`((E2 X a ta))
| `(139#0)=>`((∀ d G',R d G'->∀ v H',yA H H'->yH K G' H'->zR K H' d v->Q v H'))
| `(140#0)=>`((fun x=>⟨fun q=>(by simp at q),fun⟨m,q,_⟩=>absurd q (fH _)⟩))
| `(141#0)=>`((zC (zD 2) zI))
| `(142#0)=>`((∀ i v,its[i]?=some v->∃ c,v=.ref c/\TK prog w P s.heap (val i) c))
| `(143#0)=>`((zF (zE rfl) (zF (zE rfl) zM)))
| `(144#0)=>`((zX (zF (zE (d:=zQ n q) rfl) (zF (zE (d:=nD i) rfl) (zF (zE (d:=nD k) rfl) zM))) fun u0 u0 u0 q'=>⟨n,q,i,k,rfl,hi,ho k hk,q'⟩))
| `(145#0)=>`((fun xs H Q=>∃ p ys,xs=[.ref p]/\((SqL K H p ys/\∀ l,H l=none->Q (.ref l) (wY H l (.tup ys)))\/(SqT K H p ys/\Q (.ref p) H))))
local macro_rules
| `(tactic|sleep 1)=>`(tactic|(((try dsimp only [zi,zU,zn,xIf,wH,yC,gN,gNN,zS,yU,wE,zf,zA,zG,zH,zg,zo,yV,zB,look,zN,zAH,zBQ,zBj,zDc,zDd,zFo,zBo,zCK,fII,yb,yQ,wu,xC,xB,zBI,zAp,zAq,zKC,zCF,cE,cj,ck,bY,bZ,cb,ci,ca,ce,Nat.reduceSub,Nat.reduceAdd,zKD,zKE,zKF,zKG,zAA,zBk,zBl,if_true,if_false,bX]) <;> (try simp only [zi,zU,zn,xIf,wH,yC,gN,gNN,zS,yU,wE,zf,zA,zG,zH,zg,zo,yV,zB,look,zN,zAH,zBQ,zBj,zDc,zDd,zFo,zBo,zCK,fII,yb,yQ,wu,xC,xB,zBI,zAp,zAq,zKC,zCF,cE,cj,ck,bY,bZ,cb,ci,ca,ce,Nat.reduceSub,Nat.reduceAdd,zKD,zKE,zKF,zKG,zAA,zBk,zBl,if_true,if_false,bX]))))
| `(tactic|sleep 2)=>`(tactic|(((try dsimp only [zi,zU,zn,xIf,wH,yC,gN,gNN,zS,yU,wE,zf,zA,zG,zH,zg,zo,yV,zB,look,zN,zAH,zBQ,zBj,zDc,zDd,zFo,zBo,zCK,fII,yb,yQ,wu,xC,xB,zBI,zAp,zAq,zKC,cE,cj,ck,bY,bZ,cb,ci,ca,ce,Nat.reduceSub,Nat.reduceAdd,zKD,zKE,zKF,zKG,zAA,zBk,zBl,if_true,if_false,bX]) <;> (try simp only [zi,zU,zn,xIf,wH,yC,gN,gNN,zS,yU,wE,zf,zA,zG,zH,zg,zo,yV,zB,look,zN,zAH,zBQ,zBj,zDc,zDd,zFo,zBo,zCK,fII,yb,yQ,wu,xC,xB,zBI,zAp,zAq,zKC,cE,cj,ck,bY,bZ,cb,ci,ca,ce,Nat.reduceSub,Nat.reduceAdd,zKD,zKE,zKF,zKG,zAA,zBk,zBl,if_true,if_false,bX]))))
| `(tactic|sleep 3)=>`(tactic|(show wpAny _ A.in1 (seqItems? (.ref S)>>=_) _ _ s;refine bW (fU hS rfl ?_);show wpAny _ A.in1 (tryCatch (pyNext (.ref I)) _>>=_) _ _ s))
| `(tactic|sleep 4)=>`(tactic|(refine bW (wpAny_setEpoch_of ho hd hf (bW (d8 (cc ⟨_,rfl,"set_iterator",_,⟨_,cw _ rfl,rfl⟩,wn.lookup,?_⟩))));refine h (s.heap.push (zAT (rawInt 0) 0 a es.size ep)) s.heap.objs.size [s.heap.objs.size,a] (fun i h=>h.get? s.heap.objs.size=some (zAT (rawInt (sl i)) i a es.size ep)/\Sx h a es ep t) xs (fun b o e=>c9 _ e) (fun b hb=>?_) (cr _) (fun B hB=>by rw[hx];exact zPB hB T hf hx (cR la)) ⟨?_,⟨o,c9 _ ho,hex,hd⟩⟩ ⟨fun v hv=>?_,?_⟩ ?_))
| `(tactic|sleep 5)=>`(tactic|(intro pins s σ H x y v u Q I rx ry h))
| `(tactic|sleep 6)=>`(tactic|(obtain⟨its,r,ht,hz⟩:=I.tuple hs;obtain⟨e,e1,e2,e3⟩:=zHu (A:=X.A.in1) I hd r hv ru f2 f1 69#0;obtain⟨⟨cls,dd,data,sl⟩,ho,hc,n,hdt⟩:=id ht;simp only at hc hdt;subst hc hdt))
| `(tactic|sleep 7)=>`(tactic|(have la:a<s.heap.objs.size:=cy ho;refine wpAny_pyIter_slot hT F.slot_set_iter (dW F.slot_set_iter hT zDt ?_ (F.args_set_iter_1 _));unfold Builtin.«frozenset.__iter__» Builtin.Frozenset.slot0;refine bW (m:=do Builtin.Frozenset.addrOf (<-slotArgs "__iter__" 0 _).1) (show wpAny _ _ (pure a) _ _ _ from cc ?_);unfold Builtin.Frozenset.sizeOf;refine bW (bW (wpAny_setEntries_of ho hd hf (cc ?_)))))
| `(tactic|sleep 8)=>`(tactic|(refine da F.entry_set_update_loop ?_;rw[Around.under_plainId F.plain_set_update_loop _];show wpAny _ A.in1 (pyNext (.ref I)>>=_) _ _ _))
| `(tactic|sleep 9)=>`(tactic|(rw[h9.mem_iff] at q;obtain⟨e,he,hk⟩:=cx.mp q;obtain⟨c,e1,e2⟩:=h5.mem e he;obtain⟨i,hi,e3⟩:=eE he;rw[hk] at e2;exact hno i e c ns (by rw[<-e3];simpa using hi) (by rw[e1]) e2 rfl))
| `(tactic|sleep 10)=>`(tactic|(unfold collect;refine bW (fV (da PySem.F.entry_proto_collect ?_));rw[Around.under_plainId PySem.F.plain_proto_collect _];show wpAny _ A.in1 (newList []>>=fun l=>again (.builtin "list.__iadd__" ⟨[l,.ref a],[]⟩)) _ _ s;refine bW (d8 (cc ⟨plainId_quiet PySem.F.plain_list_iadd _,da PySem.F.entry_list_iadd ?_⟩));rw[Around.under_plainId PySem.F.plain_list_iadd _]))
| `(tactic|sleep 11)=>`(tactic|((repeat (any_goals (first | assumption | wp_step)))))
| `(tactic|sleep 12)=>`(tactic|(simp only[gN,bZ,bY]))
| `(tactic|sleep 13)=>`(tactic|(dsimp only;rw[if_neg (by simp[byScan,Value.scannable])];obtain⟨N,n1,n2,n3⟩:=h4.stop 66#0;refine bW ?_;unfold setSearch;refine zTI (Q:=_) hA h1 h3 h4 h5 hb (by have:=h4.room;omega) n2 n3 (adding:=true) (fun i c e1 e2=>?_) (fun hno d hd=>?_) (N-0) 0 100000 none none rfl (dG _) ?_ (fun j q=>by cases q) rfl (fun m hm=>absurd hm (fH _))))
| `(tactic|sleep 14)=>`(tactic|(rw[Around.under_plain (weight_type_call_type "set" [.ref l] []) rfl];have h1:=F.called_set.notType;have h2:=F.called_set.canCreate;have hct:=F.typeCall_set_1 (.ref l)))
| `(tactic|sleep 15)=>`(tactic|(obtain⟨a',xs',rfl,hsq',hd'⟩:=h';cases r';obtain⟨its',rv',tp2,u0⟩:=I.tuple hsq'))
| `(tactic|sleep 16)=>`(tactic|(rw[hs] at hA ⊢;refine Calls.callWith_builtin (by show(false||(backTo cpos (starEach es X.env)).any (·.1))=false;rw[hplain]<;>rfl) (Calls.evalArgs_plain ?_)))
| `(tactic|sleep 17)=>`(tactic|(rintro σ1 H Q ⟨σ,G,R,r,q,k⟩))
| `(tactic|sleep 18)=>`(tactic|(refine bW (wpAny_attempt (wpAny_callSpecial?_slot (name:=Str.ofString "__next__") hT wn (dW wn hT zHB ?_ (zJG _))));unfold Builtin.«set_iterator.__next__»;refine bW (m:=slotArgs "__next__" 0 _) (cc ?_);refine bW (wpAny_fieldsOf hit rfl ?_);simp only[rawInt];refine bW (wpAny_setEntries_of ho hd hf ?_)))
| `(tactic|sleep 19)=>`(tactic|(intro h' tk' kys' kp st len mem;show wpAny _ _ _ _ _ _;refine cc ?_;show wpAny _ _ (ret Value.none) _ _ _;exact cc ⟨rfl,h',tk',kys',rfl,st,len,mem,kp⟩))
| `(tactic|sleep 20)=>`(tactic|(obtain⟨⟨cls2,dd2,data2,sl2⟩,ho2,hc2,n2,hd2⟩:=id hb;simp only at hc hd hc2 hd2;subst hc hd hc2 hd2))
| `(tactic|sleep 21)=>`(tactic|(show wpAny _ _ (updateSeq L (·.push .none)>>=fun u0=>updateSeq L (·.pop)) _ _ _;refine bW (eP hL1 rfl ?_);have hL2:=dk (Obj.mapSeq (·.push Value.none)) hL1 rfl;refine eP (hz:=by seq_fits) hL2 rfl ?_;have hL3:=dk (Obj.mapSeq (·.pop)) hL2 rfl;refine cc ⟨plainId_quiet F.plain_extend_loop _,?_⟩))
| `(tactic|sleep 22)=>`(tactic|(intro h' tk' acc hk hacc;show wpAny _ _ (Builtin.Tuple.tupleExact acc.toList.toArray>>=fun v=>ret v) _ _ _;unfold Builtin.Tuple.tupleExact;refine bW (d8 ?_ (by show acc.toList.toArray.size<=sizeLine;simp only[Array.toArray_toList];rw[hacc.1,sizeLine_eq];omega));refine cc ⟨_,rfl,?_⟩))
| `(tactic|sleep 23)=>`(tactic|(intro X hP hw hK hc i pins s σ H E I hf st hg;subst hP hw hK))
| `(tactic|sleep 24)=>`(tactic|(obtain⟨its,rv,pl,u0⟩:=I.list hs;obtain⟨its',rv',pl',u0⟩:=I.list hs';have e:=zBf (ds:=ds) (ds':=ds') (n:=its.toArray.size) (n':=its'.toArray.size) (by simp[hd.length,rv.length]) (by simp[hd'.length,rv'.length]);by_cases hl:its.toArray.size=its'.toArray.size))
| `(tactic|sleep 25)=>`(tactic|(intro pins s σ H Q I h))
| `(tactic|sleep 26)=>`(tactic|(intro pins s σ H xs us Q I r h))
| `(tactic|sleep 27)=>`(tactic|(obtain⟨f,fd,F,hm,hkp,hb⟩:=F;refine PE.mono (zK3 (dvs:=[]) F (hr.mono hk) hg hm hkp hb .nil zRm ha hdb he hpl) ?_;rintro σ1 H Q ⟨σ,G,R,r,q,kk⟩;refine⟨σ,G,_,r,q,fun ds G1 q1 vs H1 g1 r1 d1=>?_⟩;show lSp X.K _ (vs++[]) H1 Q E0;rw[eW]))
| `(tactic|sleep 28)=>`(tactic|(rintro σ1 H Q ⟨σ,G,R,rl,q,k⟩))
| `(tactic|sleep 29)=>`(tactic|(refine bW (di h1 h3 (fits_of h4) ?_);dsimp only))
| `(tactic|sleep 30)=>`(tactic|(rcases cG.mp hx with hx | hx))
| `(tactic|sleep 31)=>`(tactic|(have ek:=zAY q 0;rw[ek];obtain⟨⟨o,its,n,e,hc,hd,hi⟩,u0⟩:=q;refine⟨⟨⟨c,o,its,n,rfl,up c o e,hc,hd,zDK hi⟩,hne ns (me.2.mem_iff.mp (cx.mpr ⟨_,hv,ek⟩))⟩,fun z=>?_⟩;cases z;exact absurd (cy (kp _ _ e)) (el _)))
| `(tactic|sleep 32)=>`(tactic|(refine Calls.call_function_entry kind_sorted plain_sorted entry_sorted (args_sorted1 _) ?_;unfold Builtin.«sorted»))
| `(tactic|sleep 33)=>`(tactic|(simpa using this))
| `(tactic|sleep 34)=>`(tactic|(rw[if_neg (by simpa using c2)];refine cH (wpS_get ?_);refine cH (fC (S1 _ z ⟨.refl z,rfl,m0,by dsimp only;omega,by dsimp only;omega⟩) fun c z1 hh=>?_);obtain⟨k1,r,e2,mo⟩:=hh;rw[e2];exact cM (h _ _ mo k1)))
| `(tactic|sleep 35)=>`(tactic|(rw[Moved.eq_with hm];refine hR s'.heap s'.toks acc c (fun b ob hb e=>hm.heap b ob (fun hmem=>?_) (old b ob hb (kp b ob e))) hL' (by rw[ea];exact me) (by rw[hacc.1];exact xl);rcases cY.mp hmem with e' | hmem))
| `(tactic|sleep 36)=>`(tactic|(obtain⟨ocls,odict,odata,oslots⟩:=ol;simp only at hcl hdl;subst hcl;subst hdl;have hol':(s.heap.push (yX w)).get? l=some { cls:=.type "list",dict:=odict,data:=.seq its nl,slots:=oslots }:=c9 _ hol))
| `(tactic|sleep 37)=>`(tactic|(intro dx dy G R x y H Q h r d1 d2 k))
| `(tactic|sleep 38)=>`(tactic|(refine bW (fS (W.done s _ _ (hin▸st) fun h' tk hk'=>?_));have hS':=hk' S _ nw hS;show wpAny _ A.in1 (updateSeq S (fun u0=>#[])>>=_) _ _ _;refine bW ?_;refine eP hS' rfl (bW (wpAny_letGo (cc ?_)))))
| `(tactic|sleep 39)=>`(tactic|(obtain⟨v,rfl,d2⟩:=zB7 d1;unfold zR at d2;subst d2;refine⟨j,rfl,fun l n=>⟨l,j,rfl,zp,q1.1,fun l' n'=>?_⟩⟩;have g2:yA H1 (wY H1 l (.rng 0 j)):=.fresh n;have r2:=r1.fresh (o:=.rng 0 j) n))
| `(tactic|sleep 40)=>`(tactic|(intro pins s σ H x vs v us Q I rx rv h))
local macro_rules
| `(tactic|sleep 41)=>`(tactic|(cases (show u=Value.ref a from rx)))
| `(tactic|sleep 42)=>`(tactic|(refine bW (fS (W.item 0 s _ _ hn st fun v h' tk pv st' hk'=>?_));have hS':=hk' S _ nw hS;show wpAny _ A.in1 (updateSeq S (fun u0=>#[v,v])>>=_) _ _ _;refine bW ?_;refine eP hS' rfl ?_;rw[nm]))
| `(tactic|sleep 43)=>`(tactic|(obtain⟨c,tl,hmro⟩:=F.called_set.mro;have hmade:=F.called_set.made;have hsub:=F.called_set.sub))
| `(tactic|sleep 44)=>`(tactic|(unfold Builtin.«set.__init__» noKeywords Builtin.Frozenset.updateFrom;generalize hPI:pyIter=PI))
| `(tactic|sleep 45)=>`(tactic|(rintro r' s'' ⟨h',tk,acc,c,rfl,rfl,kp,q1,q2,q3⟩;show wpAny _ A (load s.heap.objs.size>>=_) _ _ _;exact bW (wpAny_load q1 (cc (hQ h' tk _ kp (eY (cy q1)) q2 (by simpa using q3))))))
| `(tactic|sleep 46)=>`(tactic|(have g1:=zBB (es':=es') (t':=(t.put j).1) h1 h3;have s1:dt a s.heap (s.heap.update a (Obj.putSet es' (t.put j).1)):=dt.update ..;by_cases hrl:(!d.isSome&&(t.put j).1.tooFull)=true))
| `(tactic|sleep 47)=>`(tactic|(have pl:(t.put j).1.plain=true:=h6;have ld:(t.put j).1.led=HI.ym w:=h7;have mk:(t.put j).1.mask=t.mask:=rfl;generalize hes':dC es (t.put j).2 (hT prog w ns,.ref b)=es' at T'))
| `(tactic|sleep 48)=>`(tactic|(have at3:=get?_update_seq at2 (fun u0=>out);refine h _ tk g.objs.size out.toList _ (fun b o e=>?_) lg at3 ⟨fun v hv=>me.1 v (a2.mem_iff.mp hv),(a2.map _).trans me.2⟩ ?_))
| `(tactic|sleep 49)=>`(tactic|(unfold zR at d1;subst d1;obtain⟨xs0,a1,a2⟩:=r1.m l ds0 e0;refine⟨.inl ⟨rfl,xs0,.of a1⟩,σ,G1,_,rl.to g1 r1,q1,fun ds G2 q2 vs H2 g2 r2 d2=>?_⟩;split at q2))
| `(tactic|sleep 50)=>`(tactic|(refine bW ?_;rw[<-Array.forIn_toList];refine wpAny_forIn_list _ (fun rest r s'=>r.1=none/\s'=s/\∀ v∈rest,∃ k t,v=Value.int k t) _ ?_ ?_ _ _ ⟨rfl,rfl,zJK hi⟩))
| `(tactic|sleep 51)=>`(tactic|(rintro r' s'' ⟨h',tk,acc,c',rfl,rfl,hk,hS',hacc⟩;show wpAny _ A (load s.heap.objs.size>>=_) _ _ _;refine bW (wpAny_load hS' ?_);exact cc (hQ h' tk acc hk hacc)))
| `(tactic|sleep 52)=>`(tactic|(unfold zR at h;subst h))
| `(tactic|sleep 53)=>`(tactic|(refine da PySem.F.entry_min_loop ?_;rw[Around.under_plainId PySem.F.plain_min_loop _]))
| `(tactic|sleep 54)=>`(tactic|(refine da PySem.F.entry_max_loop ?_;rw[Around.under_plainId PySem.F.plain_max_loop _]))
| `(tactic|sleep 55)=>`(tactic|(exact(cT _ _ (fun h:S=b=>hSf (by rw[h];exact hbf))).trans e))
| `(tactic|sleep 56)=>`(tactic|(refine eC (fun q=>absurd q (show ¬ (!false&&(!t.plain&&decide (es.size>1)))=true by rw[hp];simp)) (fun u0=>?_);exact fin _ _ rfl (zBA hf hr bt hl' hp) (.refl _)))
| `(tactic|sleep 57)=>`(tactic|(refine cH (wpS_lift (fF ⟨rfl,?_⟩))))
| `(tactic|sleep 58)=>`(tactic|(rw[sb.2 c (fun q=>by subst q;rw[h1] at e1;cases e1;rw[h3] at e2;cases e2)];exact e1))
| `(tactic|sleep 59)=>`(tactic|(unfold Dens at h;obtain⟨x,r,rfl,h1,h2⟩:=h))
| `(tactic|sleep 60)=>`(tactic|(have hz:=hd.ints_inv;subst hz;obtain⟨its,rv,⟨o,h1,h2,n,h3⟩,u0⟩:=I.tuple hs))
| `(tactic|sleep 61)=>`(tactic|(obtain⟨y,e1,e2⟩:=d.get (i:=i) (d:=tI nss[i]) (by rw[cZ];simp[hn]);obtain⟨u,e3,e4⟩:=rv.get e1;rw[hv] at e3;cases e3;have e5:=e2;unfold tI zR at e5))
| `(tactic|sleep 62)=>`(tactic|(rw[er];simp only[cY,cq,fb,or_false,not_or];exact⟨cR (fR _),Nat.ne_of_gt lS⟩))
open PySem renaming wpAny_bind → bW, wpAny_pure → cc, wpAny_newObj_type → d8, codeAny_builtin → da, wpAny_holding → df, wpAny_setState_of → di, wpAny_call_entry → dW, wpAny_ite_split → eC, wpAny_Call_Name_kw → eN, codeAny_mono → eO, wpAny_updateSeq → eP, wpAny_of_eq → eT, wpAny_truthy_bool → eZ, wpAny_typeOf → f7, wpAny_rule → fF, wpAny_isInstance → fQ, wpAny_tryCatch → fS, wpAny_seqItems → fU, wpAny_runValue → fV
open Bool renaming false_eq_true → bX, eq_iff_iff → cV, false_ne_true → eh, and_eq_true → eS
open List renaming set_cons_zero → bY, set_cons_succ → bZ, replicate_succ → ca, length_cons → cb, replicate_zero → ce, range → cf, length_map → cg, length_nil → ci, cons_append → cj, nil_append → ck, mem_singleton → cq, getElem?_eq_some_iff → cu, mem_map → cx, mem_range → cz, length_append → cD, map → cE, size_toArray → cF, mem_append → cG, mem_cons_of_mem → cJ, mem_cons_self → cK, append_assoc → cL, replicate → cN, mem_filter → cQ, length_take → cS, take_append_drop → cU, mem_of_getElem? → cW, length_range → cX, mem_cons → cY, getElem?_map → cZ, map_map → de, getElem?_append_right → dh, map_cons → dq, getElem?_append_left → du, getD → dA, count_cons → dB, mem_append_right → dD, getElem?_eq_getElem → dI, count_append → dJ, map_congr_left → dL, length_reverse → dM, length_drop → dN, map_append → dP, pairwise_iff_getElem → dR, lookup_cons → dU, length_filter_le → dX, extract_eq_drop_take → dY, mem_append_left → e9, getElem_mem → ec, filter_append → ef, all_eq_true → em, Pairwise → eA, getElem_of_mem → eE, take_length → eH, length_eq_zero_iff → eI, mem_of_mem_take → eK, nodup_cons → eR, filterMap_cons_some → eU, append_nil → eW, Perm → eX, not_mem_nil → fb, nodup_range → fe, mem_reverse → ff, pairwise_singleton → fh, pairwise_map → fi, flatten_cons → fj, filter_congr → fk, range_succ → fm, filter_map → fo, take_of_length_le → fq, getElem?_set_self → ft, filter_cons → fu, count_eq_zero → fA, mem_iff_getElem → fE, reverse_cons → fJ, nodup_append → fK, filterMap_cons_none → fN, reverse_append → fP
open PySem.Heap renaming get?_push_of_some → c9, get?_push_size → cw, lt_size → cy, get?_update_other → cT, get?_update_self → dk, SameBut → dt, size_push → er, get?_update_ne → eF, get?_none_of_le → fg
open Nat renaming le_refl → cr, ne_of_lt → cR, lt_of_lt_of_le → d7, le_trans → dF, zero_le → dG, lt_or_ge → e7, lt_irrefl → el, pow_le_pow_right → et, min_eq_left → eD, le_of_lt → eY, pow_succ → f9, le_succ → fB, not_lt_zero → fH, lt_succ_of_lt → fI, lt_succ_self → fR
open Array renaming length_toList → cC, toList_push → db, mem_toList_iff → dQ, getElem_mem → dS, toList_append → dZ, size_push → en, getElem?_toList → eG, getElem?_eq_some_iff → eJ, toList_extract → eM, getD → fw
open PyProof.Rows renaming wpS_bind → cH, wpS_pure → cM, wpS_forRange → eB, wpS_mono → fC
open PySem.SetTable renaming below → cI, eraseAt → cP, sizeAbove → dg, insertAt → dC, bits → dH, runEnd → dO, insertAt_perm → eu, fresh → eQ, leap → eV, probe → f6, has → f8, layClean → fG
open PySem PySem.Spec PyProof.Rows
theorem Zq1(h:True:=by first | exact .inl rfl | exact .inr rfl | assumption):True:=h
theorem Zq2(h:True:=by decide):True:=h
theorem Zq3(h:True:=by intro u0;rfl):True:=h
theorem Zq4(h:True:=by rfl):True:=h
theorem Zq5(h:True:=by with_unfolding_all rfl):True:=h
theorem Zq6(h:True:=by first | exact Or.inl rfl | exact Or.inr (Or.inl rfl) | exact Or.inr (Or.inr rfl)):True:=h
theorem Zq7(h:True:=by first | exact Or.inl rfl | exact Or.inr rfl):True:=h
theorem Zq8(h:True:=by intro u0 u0;rfl):True:=h
theorem Zq9(h:True:=by size_fits):True:=h
theorem Zq10(h:True:=by exact .refl _):True:=h
namespace K
open PySem
@[elab_as_elim] theorem us1{m:List Value->Prop}(us:40#0)(hl:us.length=1)(h:∀ a,m [a]):m us:=by
 rcases us with _|⟨a,_|⟨e,r⟩⟩
 ·cases hl
 ·exact h a
 ·cases hl
@[elab_as_elim] theorem us2{m:List Value->Prop}(us:40#0)(hl:us.length=2)(h:∀ a b,m [a,b]):m us:=by
 rcases us with _|⟨a,_|⟨b,_|⟨e,r⟩⟩⟩
 ·cases hl
 ·cases hl
 ·exact h a b
 ·cases hl
@[elab_as_elim] theorem us3{m:List Value->Prop}(us:40#0)(hl:us.length=3)(h:∀ a b c,m [a,b,c]):m us:=by
 rcases us with _|⟨a,_|⟨b,_|⟨c,_|⟨e,r⟩⟩⟩⟩
 ·cases hl
 ·cases hl
 ·cases hl
 ·exact h a b c
 ·cases hl
end K
namespace L2
noncomputable abbrev Key:=Sum Int Str
noncomputable def zRh:Key->Value->Bool
 | .inl k,v=>Value.isInt k v
 | .inr x,v=>Value.isStrOf x v
noncomputable def zUb(w:World):Key->Int
 | .inl k=>hashInt k
 | .inr x=>hashStr w x
theorem yP:∀ {k:Key} {v:Value},zRh k v=true->(∃ i t,k=Sum.inl i/\v=Value.int i t)\/(∃ x t,k=Sum.inr x/\v=Value.str x t)
 | .inl i,v,h=>by
  obtain⟨t,e⟩:=Value.isInt_shape (k:=i) (v:=v) h;exact .inl ⟨i,t,rfl,e⟩
 | .inr x,v,h=>by
  obtain⟨t,e⟩:=Value.isStrOf_shape (x:=x) (v:=v) h;exact .inr ⟨x,t,rfl,e⟩
theorem zR8(a b:Int):decide ((Sum.inl a:Key)=Sum.inl b)=(a==b):=by
 by_cases e:a=b
 ·subst e;simp
 ·have h:¬ (Sum.inl a:Key)=Sum.inl b:=fun q=>e (Sum.inl.inj q)
  rw[decide_eq_false h];exact(beq_eq_false_iff_ne.mpr e).symm
theorem zR9(a b:Str):decide ((Sum.inr a:Key)=Sum.inr b)=decide (a=b):=by
 by_cases e:a=b
 ·subst e;simp
 ·have h:¬ (Sum.inr a:Key)=Sum.inr b:=fun q=>e (Sum.inr.inj q)
  rw[decide_eq_false h,decide_eq_false e]
theorem zSA(a:Int)(b:Str):decide ((Sum.inl a:Key)=Sum.inr b)=false:=decide_eq_false (fun q=>nomatch q)
theorem zSB(a:Str)(b:Int):decide ((Sum.inr a:Key)=Sum.inl b)=false:=decide_eq_false (fun q=>nomatch q)
noncomputable def zKz(prog:Program)(w:World):PySem.KeyKind prog w Key where
 is:=zRh
 hash:=zUb w
 inj:=fun v a b ha hb=>by
  rcases yP ha with ⟨i,t,rfl,rfl⟩ | ⟨x,t,rfl,rfl⟩
  ·rcases yP hb with ⟨j,u,rfl,e⟩ | ⟨y,u,rfl,e⟩
   ·injection e with e1 _;rw[e1]
   ·exact nomatch e
  ·rcases yP hb with ⟨j,u,rfl,e⟩ | ⟨y,u,rfl,e⟩
   ·exact nomatch e
   ·injection e with e1 _;rw[e1]
 byValue:=fun k v h=>by
  rcases yP h with ⟨i,t,rfl,rfl⟩ | ⟨x,t,rfl,rfl⟩<;>rfl
 pyHash:=fun hv h=>by
  rcases yP hv with ⟨i,t,rfl,rfl⟩ | ⟨x,t,rfl,rfl⟩
  ·exact wpAny_pyHash_int h
  ·exact wpAny_pyHash_str h
 eqBool:=fun hu hv h=>by
  rcases yP hu with ⟨i,t,rfl,rfl⟩ | ⟨x,t,rfl,rfl⟩
  ·rcases yP hv with ⟨j,u,rfl,rfl⟩ | ⟨y,u,rfl,rfl⟩
   ·rw[zR8] at h;exact wpAny_eqBool_int h
   ·rw[zSA] at h;exact SeqAt.EqAt.int_str i t y u _ _ _ _ h
  ·rcases yP hv with ⟨j,u,rfl,rfl⟩ | ⟨y,u,rfl,rfl⟩
   ·rw[zSB] at h;exact SeqAt.EqAt.str_int x t j u _ _ _ _ h
   ·rw[zR9] at h;exact wpAny_eqBool_str h
 «strs»:=fun k x t v h=>by
  rcases yP h with ⟨i,u,rfl,e⟩ | ⟨y,u,rfl,e⟩
  ·exact nomatch e
  ·injection e with e1 _
   subst e1;cases v<;>rfl
set_option genInjectivity true in
inductive V where
 | non | bl (b:Bool) | int (i:Int) | str (x:Str) | byt (b:Array UInt8) | flt (b:UInt64) | ref (a:Addr) | ty (n:String)
 deriving DecidableEq
noncomputable def RelV:V->Value->Prop
 | .non,u=>u=Value.none
 | .bl b,u=>u=Value.bool b
 | .int i,u=>∃ t,u=Value.int i t
 | .str x,u=>∃ t,u=Value.str x t
 | .byt b,u=>∃ t,u=Value.bytes b t
 | .flt b,u=>∃ t,u=Value.float b t
 | .ref a,u=>u=Value.ref a
 | .ty n,u=>u=Value.type n
noncomputable abbrev zY:List V->List Value->Prop:=Paired RelV
theorem zY.length(r:zY xs us):xs.length=us.length:=Paired.length r
theorem zY.get:∀ {xs:List V} {us:40#0} {i:Nat} {x:V},zY xs us->xs[i]?=some x->∃ u,us[i]?=some u/\RelV x u
 | _,_,_,_,.nil,e=>by simp at e
 | _,_,0,_,.cons r _,e=>by simp at e;subst e;exact⟨_,rfl,r⟩
 | _,_,i+1,x,.cons _ t,e=>by
  obtain⟨u,h1,h2⟩:=zY.get (i:=i) (x:=x) t (by simpa using e);exact⟨u,by simpa using h1,h2⟩
theorem zY.set(r:RelV x u):∀ {xs:List V} {us:40#0} (i:Nat),zY xs us->zY (xs.set i x) (us.set i u)
 | _,_,_,.nil=>.nil
 | _,_,0,.cons _ t=>.cons r t
 | _,_,i+1,.cons q t=>.cons q (zY.set r i t)
theorem zY.append:∀ {xs ys:List V} {us ws:40#0},zY xs us->zY ys ws->zY (xs++ys) (us++ws)
 | _,_,_,_,.nil,s=>s
 | _,_,_,_,.cons r t,s=>.cons r (zY.append t s)
theorem zY.take:∀ {xs:List V} {us:40#0} (n:Nat),zY xs us->zY (xs.take n) (us.take n)
 | _,_,0,_=>.nil
 | _,_,_+1,.nil=>.nil
 | _,_,n+1,.cons r t=>.cons r (zY.take n t)
theorem zY.drop:∀ {xs:List V} {us:40#0} (n:Nat),zY xs us->zY (xs.drop n) (us.drop n)
 | _,_,0,r=>r
 | _,_,_+1,.nil=>.nil
 | _,_,n+1,.cons _ t=>zY.drop n t
noncomputable def zSC:Option V->Option Value->Prop
 | some v,some u=>RelV v u
 | none,none=>True
 | _,_=>False
noncomputable def KV{κ:Type}:List (κ×V)->List (κ×Value)->Prop:=Paired fun(p:κ×V) (q:κ×Value)=>p.1=q.1/\RelV p.2 q.2
noncomputable def kV:Key->V
 | .inl i=>.int i
 | .inr x=>.str x
set_option genInjectivity true in
inductive HO where
 /-- a list -/
 | lst (xs:List V)
 /-- a tuple (never changes) -/
 | tup (xs:List V)
 /-- a dict whose keys are ints and texts;one whose keys are tuples of ints and texts (the empty one is both) -/
 | dK (kvs:List (Key×V)) | dT (kvs:List (List Key×V))
 /-- a set of ints: its members,its size -/
 | set (S:Int->Bool) (n:Nat)
 /-- an instance of the class at C,its dict at dx,its attributes -/
 | ins (C dx:Addr) (fs:List (Str×V))
 /-- the dict of the instance at x -/
 | own (x:Addr)
 /-- the dict of an exception -/
 | xd (fs:List (Str×V))
 /-- a bound method,f of x -/
 | met (f x:Addr)
 /-- a range object lo,lo+1,.. below hi -/
 | rng (lo hi:Int)
 /-- a thing that is known to the object (the script;a dict while a loop walks it): read,never written while it is so -/
 | frz (o:Obj) (u:HO)
 /-- a code object's table -/
 | tbl (ps:102#0)
 /-- any other thing,by what is true of its one object (a def of one's own: SetO a S n:=HO.ext fun h=>..) -/
 | ext (φ:Heap->Prop)
noncomputable abbrev Hp:=Addr->Option HO
noncomputable def wY(H:Hp)(a:Addr)(o:HO):Hp:=fun b=>if b=a then some o else H b
theorem zp:wY H a o a=some o:=by unfold wY;rw[if_pos rfl]
theorem yJ(h:b≠a):wY H a o b=H b:=by unfold wY;rw[if_neg h]
theorem zRi{H:Hp}{a b:Addr}{o u:HO}(h:H a=some o)(h':H b=some u)(d:o≠u):a≠b:=by
 intro e;subst e;rw[h] at h';exact d (Option.some.inj h')
theorem yY{H:Hp}{a b:Addr}{o:HO}(h:H a=some o)(h':H b=none):a≠b:=by
 intro e;subst e;rw[h] at h';cases h'
noncomputable def zEx(h:Heap)(a:Addr)(items:102#0):Prop:=∃ o,h.get? a=some o/\o.cls=.type "tuple"/\(∃ n,o.data=.seq items n)/\o.dict=none
theorem zEx.isTup(x:zEx h a items):IsTup h a items:=let ⟨o,h1,h2,h3,_⟩:=x;⟨o,h1,h2,h3⟩
theorem zEx.lt(x:zEx h a items):a<h.objs.size:=x.isTup.lt
theorem zEx.new(h:Heap)(items:102#0):zEx (h.push { cls:=.type "tuple",data:=.seq items }) h.objs.size items:=⟨_,cw _ rfl,rfl,⟨_,rfl⟩,rfl⟩
section
variable (P:Program) (w:World)
noncomputable def wQ(H:Hp)(h:Heap)(a:Addr):HO->Prop
 | .lst xs=>xs.length<=sizeLine/\∃(its:40#0) (n:Nat),zY xs its/\h.get? a=some { cls:=.type "list",data:=.seq its.toArray n }
 | .tup xs=>xs.length<=sizeLine/\∃ its:List Value,zY xs its/\zEx h a its.toArray
 | .dK kvs=>kvs.length<=sizeLine/\(a==sysModules)=false/\∃ vs,KV kvs vs/\h.DictOf (zKz P w) a vs
 | .dT kvs=>kvs.length<=sizeLine/\(a==sysModules)=false/\∃ xs:List (List Key×Addr×Value),
   Paired (fun(p:List Key×V) (q:List Key×Addr×Value)=>p.1=q.1/\H q.2.1=some (.tup (p.1.map kV))/\RelV p.2 q.2.2) kvs xs /\
   ∃ o es ep,h.get? a=some o/\o.ExactDict/\o.data=.dict es ep/\es.toList=xs.map (entryOfKey (tupleKind (zKz P w)))/\(xs.map (·.1)).Nodup
 | .set S n=>h.SetOf (intKind P w) a S n
 | .ins C dx fs=>H dx=some (.own a)/\fs.length<=1000/\dx≠a/\h.get? a=some (PySem.W.instObj C dx) /\
   ∃ mA,h.Ns1 dx mA/\(∀ f,zSC (fs.lookup f) (mA f))/\PySem.Within mA (fs.map (·.1))
 | .own _=>∃ o,h.get? a=some o
 | .xd fs=>∃ mA,h.Ns1 a mA/\∀ f,zSC (fs.lookup f) (mA f)
 | .rng lo hi=>∃ t u v,h.get? a=some { cls:=.type "range",data:=.fields #[.int lo t,.int hi u,.int 1 v] }
 | .frz o u=>h.get? a=some o/\wQ H h a u
 | .tbl ps=>∃(q:Str) (t:Tok) (vs:102#0),ps=#[.str q t]/\h.get? a=some (PySem.W.tabObj vs)/\TriplesOk vs.toList/\∀(pos:Pos) (cv:Value),codeAmong pos vs.toList=some cv ->
   ∃(c:Addr) (o:Obj) (us:102#0) (t':Tok),cv=.ref c/\H c=some (.frz o (.own 0))/\o.data=.fields us/\us[1]?=some (.str q t')
 | .met f x=>h.get? a=some (PySem.W.methodObj (.ref f) (.ref x))
 | .ext φ=>φ h/\(∃ o,h.get? a=some o)/\∀ h1 h2:Heap,φ h1->(∀ o,h1.get? a=some o->h2.get? a=some o)->φ h2
noncomputable def HOk(H:Hp)(h:Heap):Prop:=∀ a o,H a=some o->wQ P w H h a o
end
section
variable {P:Program} {w:World} {H H':Hp} {h h':Heap} {a:Addr} {o:HO}
theorem wQ.lt(x:wQ P w H h a o):a<h.objs.size:=by
 cases o with
 | lst xs=>obtain⟨u0,u0,u0,u0,e⟩:=x;exact cy e
 | tup xs=>obtain⟨u0,u0,u0,p⟩:=x;exact p.lt
 | dK kvs=>obtain⟨u0,u0,u0,u0,o,u0,u0,e,u0⟩:=x;exact cy e
 | dT kvs=>obtain⟨u0,u0,u0,u0,o,u0,u0,e,u0⟩:=x;exact cy e
 | set S n=>obtain⟨o,u0,u0,u0,e,u0⟩:=x;exact cy e
 | ins C dx fs=>obtain⟨u0,u0,u0,e,u0⟩:=x;exact cy e
 | own y=>obtain⟨u0,e⟩:=x;exact cy e
 | xd fs=>obtain⟨u0,⟨u0,u0,u0,e,u0⟩,u0⟩:=x;exact cy e
 | rng lo hi=>obtain⟨u0,u0,u0,e⟩:=x;exact cy e
 | frz ob u=>obtain⟨e,u0⟩:=x;exact cy e
 | tbl ps=>obtain⟨u0,u0,u0,u0,e,u0⟩:=x;exact cy e
 | met f y=>exact cy (show h.get? a=some _ from x)
 | ext φ=>obtain⟨u0,⟨u0,e⟩,u0⟩:=x;exact cy e
theorem Paired.mapP:∀ {l₁:List α} {l₂:List β},Paired F l₁ l₂->(∀ a b,F a b->G a b)->Paired G l₁ l₂
 | _,_,.nil,_=>.nil
 | _,_,.cons r t,f=>.cons (f _ _ r) (Paired.mapP t f)
theorem wQ.stay(x:wQ P w H h a o)(k:∀ b u,(b=a\/H b=some (.own a))->h.get? b=some u->h'.get? b=some u)
  (ho:∀ b,H b=some (.own a)->H' b=some (.own a)) (ht:∀ b xs,H b=some (.tup xs)->H' b=some (.tup xs)) (hz:∀ b o u,H b=some (.frz o u)->H' b=some (.frz o u)):wQ P w H' h' a o:=by
 induction o with
 | lst xs=>obtain⟨z,its,n,r,e⟩:=x;exact⟨z,its,n,r,k _ _ (.inl rfl) e⟩
 | tup xs=>obtain⟨z,its,r,ob,e,c⟩:=x;exact⟨z,its,r,ob,k _ _ (.inl rfl) e,c⟩
 | dK kvs=>obtain⟨z,y,vs,r,ob,es,ep,e,c⟩:=x;exact⟨z,y,vs,r,ob,es,ep,k _ _ (.inl rfl) e,c⟩
 | dT kvs =>
  obtain⟨z,y,xs,r,ob,es,ep,e,c⟩:=x;exact⟨z,y,xs,Paired.mapP r fun p q z=>⟨z.1,ht _ _ z.2.1,z.2.2⟩,ob,es,ep,k _ _ (.inl rfl) e,c⟩
 | set S n=>obtain⟨ob,es,ep,t,e,c⟩:=x;exact⟨ob,es,ep,t,k _ _ (.inl rfl) e,c⟩
 | ins C dx fs =>
  obtain⟨d,z,ne,e,mA,⟨od,es,ep,e2,c⟩,r⟩:=x;exact⟨ho _ d,z,ne,k _ _ (.inl rfl) e,mA,⟨od,es,ep,k _ _ (.inr d) e2,c⟩,r⟩
 | own y=>obtain⟨ob,e⟩:=x;exact⟨ob,k _ _ (.inl rfl) e⟩
 | xd fs=>obtain⟨mA,⟨od,es,ep,e,c⟩,r⟩:=x;exact⟨mA,⟨od,es,ep,k _ _ (.inl rfl) e,c⟩,r⟩
 | rng lo hi=>obtain⟨t,u,v,e⟩:=x;exact⟨t,u,v,k _ _ (.inl rfl) e⟩
 | frz ob u ih=>obtain⟨e,q⟩:=x;exact⟨k _ _ (.inl rfl) e,ih q⟩
 | tbl ps =>
  obtain⟨q,t,vs,e0,e,e1,e2⟩:=x;refine⟨q,t,vs,e0,k _ _ (.inl rfl) e,e1,fun pos cv z=>?_⟩;obtain⟨c,oc,us,t',z1,z2,z3⟩:=e2 pos cv z;exact⟨c,oc,us,t',z1,hz _ _ _ z2,z3⟩
 | met f y =>
  have e:h.get? a=some (PySem.W.methodObj (.ref f) (.ref y)):=x;show h'.get? a=some (PySem.W.methodObj (.ref f) (.ref y));exact k a _ (.inl rfl) e
 | ext φ=>obtain⟨p,⟨o,e⟩,st⟩:=x;exact⟨st _ _ p fun o q=>k _ _ (.inl rfl) q,⟨o,k _ _ (.inl rfl) e⟩,st⟩
theorem HOk.lt(x:HOk P w H h)(e:H a=some o):a<h.objs.size:=(x a o e).lt
theorem HOk.fresh(x:HOk P w H h)(e:h.objs.size<=a):H a=none:=by
 cases q:H a with
 | none=>rfl
 | some u=>exact absurd (d7 (x.lt q) e) (el _)
theorem HOk.kept(x:HOk P w H h)(k:∀ b u,h.get? b=some u->h'.get? b=some u):HOk P w H h':=fun a o e =>
 (x a o e).stay (fun b u u0 q=>k b u q) (fun u0 q=>q) (fun u0 u0 q=>q) fun u0 u0 u0 q=>q
theorem HOk.laid(x:HOk P w H h)(k:∀ b u,h.get? b=some u->h'.get? b=some u)(hp:h.objs.size<=a)(new:wQ P w (wY H a o) h' a o):HOk P w (wY H a o) h':=fun b u e=>by
 have hn:=x.fresh hp;by_cases hb:b=a
 ·subst hb;rw[zp] at e;cases e;exact new
 ·rw[yJ hb] at e
  exact(x b u e).stay (fun c v u0 q=>k c v q) (fun c q=>by rw[yJ (yY q hn)];exact q) (fun c xs q=>by rw[yJ (yY q hn)];exact q) fun c oo u q=>by rw[yJ (yY q hn)];exact q
end
noncomputable def Rd(H:Hp)(a:Addr)(u:HO):Prop:=H a=some u\/∃ o,H a=some (.frz o u)
theorem Rd.of(h:H a=some u):Rd H a u:=.inl h
theorem Rd.ok(r:Rd H a u)(x:HOk P w H h):wQ P w H h a u:=by
 rcases r with r | ⟨o,r⟩
 ·exact x a u r
 ·obtain⟨u0,q⟩:=x a _ r
  exact q
noncomputable def Mut:Option HO->Prop
 | some (.lst _)=>True
 | some (.dK _)=>True
 | some (.dT _)=>True
 | some (.set _ _)=>True
 | some (.ins _ _ _)=>True
 | some (.ext _)=>True
 | _=>False
section
variable {P:Program} {w:World} {H:Hp} {h h':Heap} {x e:Addr} {o':HO}
theorem HOk.write(ok:HOk P w H h)(mu:Mut (H x))(he:e=x\/H e=some (.own x))(k:∀ b u,b≠e->h.get? b=some u->h'.get? b=some u)(heo:∃ u,h'.get? e=some u)
  (new:wQ P w (wY H x o') h' x o'):HOk P w (wY H x o') h':=fun b u q=>by
 have nown:∀ c y,H c=some (.own y)->c≠x:=fun c y r z=>by subst z;rw[r] at mu;exact mu
 have ntup:∀ c xs,H c=some (.tup xs)->c≠x:=fun c xs r z=>by subst z;rw[r] at mu;exact mu
 have nfrz:∀ c oo u,H c=some (.frz oo u)->c≠x:=fun c oo u r z=>by subst z;rw[r] at mu;exact mu
 by_cases hb:b=x
 ·subst hb;rw[zp] at q;cases q;exact new
 ·rw[yJ hb] at q
  by_cases hbe:b=e
  ·have q':H b=some (.own x):=by
    rcases he with z | z
    ·exact absurd (hbe.trans z) hb
    ·rw[hbe];exact z
   rw[q] at q';cases q';obtain⟨v,hv⟩:=heo;exact⟨v,by rw[hbe];exact hv⟩
  ·refine(ok b u q).stay (fun c v hc r=>k c v ?_ r) (fun c r=>by rw[yJ (nown c b r)];exact r) (fun c xs r=>by rw[yJ (ntup c xs r)];exact r) fun c oo u r=>by rw[yJ (nfrz c oo u r)];exact r
   rcases hc with rfl | hc
   ·exact hbe
   ·rintro rfl
    rcases he with z | z
    ·exact nown c b hc z
    ·rw[hc] at z;cases z;exact hb rfl
end
structure Un (fs ex:List Addr) (H H':Hp) (h h':Heap):Prop where
 keep:∀ b o,h.get? b=some o->H b=none->b∉fs->b∉ex->h'.get? b=some o
 slot:∀ b o,h.get? b=some o->H b=none->b∈fs->b∉ex->∃ sl,h'.get? b=some { o with slots:=sl }
 free:∀ b o,h.get? b=some o->H b=none->b∉ex->H' b=none
 there:∀ b o,h.get? b=some o->b∉ex->∃ o',h'.get? b=some o'
 tups:∀ b xs,H b=some (.tup xs)->H' b=some (.tup xs)
 frzs:∀ b o u,H b=some (.frz o u)->H' b=some (.frz o u)
 tbls:∀ b ps,H b=some (.tbl ps)->H' b=some (.tbl ps)
section
variable {fs fs' ex ex':List Addr} {H H1 H2:Hp} {h h1 h2 h':Heap} {a x e:Addr} {o:HO}
theorem Un.any(u:Un fs ex H H1 h h1)(q:h.get? b=some ob)(n:H b=none)(hx:b∉ex):∃ sl,h1.get? b=some { ob with slots:=sl }:=by
 by_cases hb:b∈fs
 ·exact u.slot b ob q n hb hx
 ·exact⟨ob.slots,u.keep b ob q n hb hx⟩
theorem Un.kept(k:∀ b u,h.get? b=some u->h'.get? b=some u):Un fs ex H H h h' :=
 ⟨fun b ob q u0 u0 u0=>k b ob q,fun b ob q u0 u0 u0=>⟨ob.slots,k b ob q⟩,fun u0 u0 u0 n u0=>n,fun b ob q u0=>⟨ob,k b ob q⟩,fun u0 u0 q=>q,fun u0 u0 u0 q=>q,fun u0 u0 q=>q⟩
theorem Un.refl:Un fs ex H H h h:=Un.kept fun u0 u0 q=>q
theorem Un.laid(k:∀ b u,h.get? b=some u->h'.get? b=some u)(hp:h.objs.size<=a)(hn:H a=none):Un fs ex H (wY H a o) h h' where
 keep:=fun b u q u0 u0 u0=>k b u q
 slot:=fun b u q u0 u0 u0=>⟨u.slots,k b u q⟩
 free:=fun b u q n u0=>by rw[yJ (cR (d7 (cy q) hp))];exact n
 there:=fun b u q u0=>⟨u,k b u q⟩
 tups:=fun b xs q=>by rw[yJ (yY q hn)];exact q
 frzs:=fun b u xs q=>by rw[yJ (yY q hn)];exact q
 tbls:=fun b ps q=>by rw[yJ (yY q hn)];exact q
theorem Un.write(mu:Mut (H x))(he:e=x\/H e=some (.own x))(k:∀ b u,b≠e->h.get? b=some u->h'.get? b=some u)(heo:∃ u,h'.get? e=some u):Un fs ex H (wY H x o) h h':=by
 have hx:∀ b,H b=none->b≠x:=fun b n z=>by subst z;rw[n] at mu;exact mu
 have hb:∀ b,H b=none->b≠e:=fun b n z=>by
  subst z;rcases he with r | r
  ·exact hx b n r
  ·rw[n] at r;cases r
 have hm:∀ b u,H b=some u->¬ Mut (some u)->b≠x:=fun b u q nm z=>by subst z;rw[q] at mu;exact nm mu
 refine⟨fun b u q n u0 u0=>k b u (hb b n) q,fun b u q n u0 u0=>⟨u.slots,k b u (hb b n) q⟩,fun b u q n u0=>by rw[yJ (hx b n)];exact n,fun b u q u0=>?_,
  fun b xs q=>by rw[yJ (hm b _ q fun z=>z)];exact q,fun b u xs q=>by rw[yJ (hm b _ q fun z=>z)];exact q,fun b ps q=>by rw[yJ (hm b _ q fun z=>z)];exact q⟩
 by_cases hbe:b=e
 ·subst hbe;exact heo
 ·exact⟨u,k b u hbe q⟩
end
noncomputable def trk(h:Heap)(H:Hp):List Addr:=(cf h.objs.size).filter fun a=>(H a).isSome
noncomputable def zHi(h:Heap)(H:Hp):Heap:=PySem.W.hideAll h (trk h H)
theorem zL9(h:Heap)(H:Hp):(zHi h H).objs.size=h.objs.size:=PySem.W.hideAll_size _ _
theorem zNV(e:h.get? b=some o)(n:H b=none):(zHi h H).get? b=some o :=
 PySem.W.hideAll_get _ e fun hm=>by
  have q:(H b).isSome=true:=(cQ.mp hm).2;rw[n] at q;simp at q
theorem zPt(e:(zHi h H).get? b=some o):h.get? b=some o/\H b=none:=by
 have e':h.get? b=some o:=PySem.W.of_hideAll (trk h H) e;refine⟨e',?_⟩;cases q:H b with
 | none=>rfl
 | some x =>
  have hm:b∈trk h H:=cQ.mpr ⟨cz.mpr (cy e'),by simp[q]⟩;have z:(zHi h H).get? b=none:=PySem.W.hideAll_none (trk h H) hm;rw[z] at e;cases e
noncomputable def zPu(g h:Heap)(L:Addr):List (Addr×Obj):=(cf h.objs.size).filterMap fun a=>if a=L\/(g.get? a).isSome=true then none else (h.get? a).map fun o=>(a,o)
noncomputable def rest(g h:Heap)(L d:Addr):List (Addr×Obj):=(zPu g h L).filter fun p=>decide (p.1≠d)
structure Mod (K:PySem.W.Frag) (mg:Str->Option Value) (base:Heap):Prop where
 kin:K.In base
 glob:base.Ns mainGlobals mg
 blt:∃ mb,base.Ns builtinsNs mb/\∀ x:Str,x≠"__name__"->mb x=bootBuiltins x
 nolimit:base.NoLimit
structure Cx where
 prog:Program
 w:World
 K:PySem.W.Frag
 mg:Str->Option Value
 base:Heap
 A:Around
 N:List Str
 s₀:Shared
 H₀:Hp
 env:Env
 outer:List Env
 stack:List Env
 ex:List Addr
 fn:Str->Bool
 calm:Bool
 pn:List (Addr×Obj)
 xe:Value->Shared->Prop
noncomputable def frs(l:List Env):List Addr:=l.filterMap (·.frame)
noncomputable abbrev Cx.fs(X:Cx):List Addr:=frs X.outer
noncomputable def Vis(sc:Scope)(x:Str):Prop:=sc.names.lookup x=some .local\/sc.names.lookup x=some .cell\/sc.names.lookup x=some .free
noncomputable def Loc(sc:Scope)(x:Str):Prop:=sc.names.lookup x=some .local\/sc.names.lookup x=some .cell
noncomputable def Look(env:Env)(h:Heap)(m:83#0)(x:Str)(u:Value):Prop :=
 (env.kindOf x=some .local/\m x=some u)\/((env.kindOf x=some .cell\/env.kindOf x=some .free)/\∃ c,env.cells.lookup x=some c/\h.IsCell c (some u))
noncomputable def zK0:List Str:=[]
noncomputable def TabsOk(K:15#0)(H:Hp):Prop:=∀ x∈zK0,∀ c b,PySem.W.tabIn K x=some (c,b)->∃ t,H b=some (.tbl #[.str (x++".<locals>.<lambda>") t])
structure Cx.Ok (X:Cx):Prop where
 mod:Mod X.K X.mg X.base
 kind:X.env.scope.kind=.function
 glob:X.env.globals=mainGlobals
 blt:X.env.builtins=builtinsNs
 above:X.s₀.heap.objs.size<=X.env.locals
 inj:∀ x y c,X.env.cells.lookup x=some c->X.env.cells.lookup y=some c->x=y
 has:∀ x,(X.env.kindOf x=some .cell\/X.env.kindOf x=some .free)->∃ c,X.env.cells.lookup x=some c
 cab:∀ x c,X.fn x=true->X.env.cells.lookup x=some c->X.s₀.heap.objs.size<=c
 hd:X.calm=true->X.A.handled=none
 frames:X.A.frames=some X.stack
 stk:X.stack=X.outer\/(X.stack=X.env::X.outer/\X.env.frame=some X.env.locals)
 exf:∀ b∈X.ex,b≠X.env.locals/\∀ x c,X.env.cells.lookup x=some c->c≠b
 bs:∀ b o,X.base.get? b=some o->X.s₀.heap.get? b=some o/\X.H₀ b=none
 bsz:X.base.objs.size<=X.s₀.heap.objs.size
 noex:∀ b o,X.base.get? b=some o->b∉X.ex
 exfs:∀ b∈X.ex,b∉X.fs
 funs:X.s₀.heap.FunFrames X.base X.outer
 frf:∀ b∈X.fs,X.H₀ b=none
 tb:TabsOk X.K X.H₀
structure zV (X:Cx) (pins:List (Addr×Obj)) (σ:List (Option V)) (H:Hp) (s:Shared):Prop where
 ok:X.Ok
 os:s.os=X.s₀.os
 bare:AllBare s.gens
 base:Un X.fs X.ex X.H₀ H X.s₀.heap s.heap
 loc:∃ m,s.heap.Ns X.env.locals m/\∀(i:Nat) (x:Str) (v:V),X.N[i]?=some x->σ[i]?=some (some v)->Vis X.env.scope x->∃ u,RelV v u/\Look X.env s.heap m x u
 cell:∀ x c,X.env.cells.lookup x=some c->∃ v,s.heap.IsCell c v
 free:H X.env.locals=none
 freeC:∀ x c,X.env.cells.lookup x=some c->H c=none
 pin:∀ p∈X.pn++pins,s.heap.get? p.1=some p.2/\H p.1=none/\p.1≠X.env.locals/\p.1∉X.fs/\∀ v,p.2.data≠.cell v
 hok:HOk X.prog X.w H s.heap
 len:σ.length=X.N.length
section
variable {X:Cx} {pins:List (Addr×Obj)} {σ:List (Option V)} {H H':Hp} {s:Shared} {h':Heap}
theorem Cx.Ok.nofr(ok:X.Ok)(e:X.base.get? b=some o):b∉X.fs:=fun hb=>by
 have:=(ok.funs.mem hb).1;rw[e] at this;cases this
theorem zV.bs(I:16#0):∀ b o,X.base.get? b=some o->s.heap.get? b=some o/\H b=none:=fun b o e =>
 ⟨I.base.keep b o (I.ok.bs b o e).1 (I.ok.bs b o e).2 (I.ok.nofr e) (I.ok.noex b o e),I.base.free b o (I.ok.bs b o e).1 (I.ok.bs b o e).2 (I.ok.noex b o e)⟩
theorem zV.bk(I:16#0):∀ b o,X.base.get? b=some o->s.heap.get? b=some o:=fun b o e=>(I.bs b o e).1
theorem zV.mod(I:16#0):Mod X.K X.mg X.base:=I.ok.mod
theorem zV.tabs(I:16#0):TabsOk X.K H:=fun x hx c b e=>by
 obtain⟨t,q⟩:=I.ok.tb x hx c b e;exact⟨t,I.base.tbls b _ q⟩
theorem zV.kIn(I:16#0):X.K.In s.heap:=I.ok.mod.kin.keeps I.bk
theorem zV.nolimit(I:16#0):s.heap.NoLimit:=I.ok.mod.nolimit.keeps I.bk
theorem zV.fr(I:16#0):∃ m,Fr X.base X.env.locals s.heap m :=
 let ⟨m,hn,_⟩:=I.loc
 ⟨m,hn,I.bk,dF I.ok.bsz I.ok.above⟩
theorem zV.lt(I:16#0):X.env.locals<s.heap.objs.size:=let ⟨_,hn,_⟩:=I.loc;hn.lt
theorem zV.sz(I:16#0):X.s₀.heap.objs.size<=s.heap.objs.size:=dF I.ok.above (eY I.lt)
theorem zV.nofs(I:16#0){a:Addr}(h:s.heap.objs.size<=a):a∉X.fs:=fun hb=>by
 obtain⟨u0,o,ho,u0⟩:=I.ok.funs.mem hb;exact absurd (d7 (cy ho) (dF I.sz h)) (el _)
theorem zV.cne(I:16#0):∀ x c,X.env.cells.lookup x=some c->c≠X.env.locals:=fun x c e z=>by
 obtain⟨v,o,ho,hd⟩:=I.cell x c e;obtain⟨m,⟨o',es,ep,ho',hd',u0⟩,u0⟩:=I.loc;rw[z,ho'] at ho;cases ho;rw[hd'] at hd;cases hd
theorem zV.funs(I:16#0):s.heap.FunFrames X.base X.outer:=by
 have all:∀(l:List Env),(∀ b∈frs l,b∈X.fs)->X.s₀.heap.FunFrames X.base l->s.heap.FunFrames X.base l:=by
  intro l
  induction l with
  | nil=>intro u0 u0;trivial
  | cons env r ih =>
   intro hs hl;obtain⟨hk,⟨L,o,hf,hn,ho,hd⟩,hr⟩:=hl;have hL:L∈X.fs:=hs L (by unfold frs;rw[List.filterMap_cons,hf];exact cK);obtain⟨sl,e⟩:=I.base.slot L o ho (I.ok.frf L hL) hL fun z=>I.ok.exfs L z hL;exact⟨hk,⟨L,_,hf,hn,e,hd⟩,ih (fun b hb=>hs b (by unfold frs;rw[List.filterMap_cons,hf];exact cJ _ hb)) hr⟩
 exact all X.outer (fun u0 hb=>hb) I.ok.funs
theorem zV.stack(I:16#0):s.heap.FunFrames X.base X.stack:=by
 rcases I.ok.stk with e | ⟨e,hf⟩
 ·rw[e];exact I.funs
 ·rw[e]
  obtain⟨m,hn,u0⟩:=I.loc;refine .cons (by rw[I.ok.kind];decide) hf hn ?_ I.funs;exact fg (dF I.ok.bsz I.ok.above)
theorem zV.stkSub(I:16#0):∀ b∈frs X.stack,b∈X.env.locals::X.fs:=fun b hb=>by
 rcases I.ok.stk with e | ⟨e,hf⟩
 ·rw[e] at hb;exact cJ _ hb
 ·rw[e] at hb
  unfold frs at hb;rw[List.filterMap_cons,hf] at hb;exact hb
theorem zV.stkFree(I:16#0):∀ b∈frs X.stack,H b=none:=fun b hb=>by
 rcases cY.mp (I.stkSub b hb) with e | hb
 ·rw[e];exact I.free
 ·obtain⟨u0,o,ho,u0⟩:=I.ok.funs.mem hb
  exact I.base.free b o ho (I.ok.frf b hb) fun z=>I.ok.exfs b z hb
theorem zV.step{g':Array GenState}{t':Nat}{d':Drawn}{ch:List Addr}(I:16#0)
  (hch:54#0)
  (keep:∀ b o,b≠X.env.locals->b∉X.fs->b∉ch->s.heap.get? b=some o->H b=none->h'.get? b=some o)
  (slot:∀ b o,b≠X.env.locals->b∈X.fs->b∉ch->s.heap.get? b=some o->H b=none->∃ sl,h'.get? b=some { o with slots:=sl }) (free:∀ b o,b∉ch->s.heap.get? b=some o->H b=none->H' b=none)
  (there:∀ b o,b∉ch->s.heap.get? b=some o->∃ o',h'.get? b=some o')
  (tups:∀ b xs,H b=some (.tup xs)->H' b=some (.tup xs)) (frzs:∀ b o u,H b=some (.frz o u)->H' b=some (.frz o u)) (tbls:∀ b ps,H b=some (.tbl ps)->H' b=some (.tbl ps))
  (ns:∀ m,s.heap.Ns X.env.locals m->h'.Ns X.env.locals m) (hok:HOk X.prog X.w H' h') (hg:AllBare g') :
  zV X pins σ H' { s with heap:=h',gens:=g',drawn:=d',toks:=t' }:=by
 have neL:∀ b o,X.s₀.heap.get? b=some o->b≠X.env.locals:=fun b o e=>cR (d7 (cy e) I.ok.above);have neC:∀ b o,X.s₀.heap.get? b=some o->b∉X.ex->b∉ch:=fun b o e hx hb=>by
  rcases(hch b hb).1 with z | z
  ·exact hx z
  ·exact absurd (d7 (cy e) z) (el _)
 have cellK:∀ x c,X.env.cells.lookup x=some c->∀ v,s.heap.IsCell c v->h'.IsCell c v:=fun x c e v ⟨o,ho,hd⟩=>by
  have nch:c∉ch:=fun z=>(hch c z).2.2.1 x c e rfl;by_cases hc:c∈X.fs
  ·obtain⟨sl,q⟩:=slot c o (I.cne x c e) hc nch ho (I.freeC x c e)
   exact⟨_,q,hd⟩
  ·exact⟨o,keep c o (I.cne x c e) hc nch ho (I.freeC x c e),hd⟩
 refine⟨I.ok,I.os,hg,⟨fun b o e n hb hx=>?_,fun b o e n hb hx=>?_,fun b o e n hx=>?_,fun b o e hx=>?_,fun b xs e=>tups b xs (I.base.tups b xs e),fun b o xs e=>frzs b o xs (I.base.frzs b o xs e),fun b ps e=>?_⟩,?_,fun x c e=>?_,?_,fun x c e=>?_,fun p hp=>?_,hok,I.len⟩
 ·exact keep b o (neL b o e) hb (neC b o e hx) (I.base.keep b o e n hb hx) (I.base.free b o e n hx)
 ·obtain⟨sl,e1⟩:=I.base.slot b o e n hb hx
  obtain⟨sl',e2⟩:=slot b _ (neL b o e) hb (neC b o e hx) e1 (I.base.free b o e n hx);exact⟨sl',e2⟩
 ·obtain⟨o',e1⟩:=I.base.there b o e hx
  exact free b o' (neC b o e hx) e1 (I.base.free b o e n hx)
 ·obtain⟨o',e1⟩:=I.base.there b o e hx
  exact there b o' (neC b o e hx) e1
 ·exact tbls b _ (I.base.tbls b ps e)
 ·obtain⟨m,hn,hl⟩:=I.loc
  refine⟨m,ns m hn,fun i x v e1 e2 e3=>?_⟩;obtain⟨u,r,l⟩:=hl i x v e1 e2 e3;refine⟨u,r,?_⟩;rcases l with l | ⟨k,c,e,z⟩
  ·exact .inl l
  ·exact .inr ⟨k,c,e,cellK x c e _ z⟩
 ·obtain⟨v,z⟩:=I.cell x c e
  exact⟨v,cellK x c e v z⟩
 ·obtain⟨m,⟨o,u0,u0,ho,u0⟩,u0⟩:=I.loc
  exact free _ o (fun z=>(hch _ z).2.1 rfl) ho I.free
 ·obtain⟨v,o,ho,hd⟩:=I.cell x c e
  exact free c o (fun z=>(hch c z).2.2.1 x c e rfl) ho (I.freeC x c e)
 ·obtain⟨e,n,ne,nf,d⟩:=I.pin p hp
  have nch:p.1∉ch:=fun z=>(hch p.1 z).2.2.2 p hp rfl;exact⟨keep p.1 p.2 ne nf nch e n,free p.1 p.2 nch e n,ne,nf,d⟩
theorem zV.un(I:16#0)(u:Un X.fs [] H H' s.heap h')(hok:HOk X.prog X.w H' h'):zV X pins σ H' { s with heap:=h',toks:=t' }:=by
 obtain⟨m,⟨o,es,ep,ho,r⟩,u0⟩:=id I.loc;obtain⟨sl,hL⟩:=u.any ho I.free 13#0;exact I.step (g':=s.gens) (d':=s.drawn) (ch:=[]) (fun u0 z=>nomatch z) (fun b o u0 hb u0 e n=>u.keep b o e n hb 13#0) (fun b o u0 hb u0 e n=>u.slot b o e n hb 13#0) (fun b o u0 e n=>u.free b o e n 13#0) (fun b o u0 e=>u.there b o e 13#0) u.tups u.frzs u.tbls (fun m' hm=>by
  obtain⟨o',es',ep',ho',r'⟩:=hm;rw[ho] at ho';cases ho';exact⟨_,es',ep',hL,r'⟩) hok I.bare
theorem zV.call(I:16#0)(u:Un (frs X.stack) ch H H' s.heap h')(hok:HOk X.prog X.w H' h')(hg:AllBare g')
  (hch:54#0) :
  zV X pins σ H' { s with heap:=h',gens:=g',drawn:=d',toks:=t' }:=by
 obtain⟨m,⟨o,es,ep,ho,r⟩,u0⟩:=id I.loc;obtain⟨sl,hL⟩:=u.any ho I.free fun z=>(hch _ z).2.1 rfl;exact I.step (ch:=ch) hch (fun b o hL hb hc e n=>u.keep b o e n (fun z=>(cY.mp (I.stkSub b z)).elim hL hb) hc) (fun b o u0 u0 hc e n=>u.any e n hc) (fun b o hc e n=>u.free b o e n hc) (fun b o hc e=>u.there b o e hc) u.tups u.frzs u.tbls (fun m' hm=>by
  obtain⟨o',es',ep',ho',r'⟩:=hm;rw[ho] at ho';cases ho';exact⟨_,es',ep',hL,r'⟩) hok hg
theorem zV.turned(I:16#0)(k:∀ b o,b≠it->s.heap.get? b=some o->h'.get? b=some o)(hn:H it=none)(hL:it≠X.env.locals)
  (h1:it∈X.ex\/X.s₀.heap.objs.size<=it) (h2:∀ x c,X.env.cells.lookup x=some c->c≠it) (h3:∀ p∈X.pn++pins,p.1≠it):zV X pins σ H { s with heap:=h',toks:=t' }:=by
 have nit:∀ b u,H b=some u->b≠it:=fun b u e z=>by rw[z,hn] at e;cases e
 refine I.step (g':=s.gens) (d':=s.drawn) (ch:=[it]) (fun b hb=>?_) (fun b o u0 u0 hc e u0=>k b o (fun z=>hc (by simp[z])) e) (fun b o u0 u0 hc e u0=>⟨o.slots,k b o (fun z=>hc (by simp[z])) e⟩) (fun u0 u0 u0 u0 n=>n)
  (fun b o hc e=>⟨o,k b o (fun z=>hc (by simp[z])) e⟩) (fun u0 u0 e=>e) (fun u0 u0 u0 e=>e) (fun u0 u0 e=>e) (fun m hm=>?_) (fun b u e=>?_) I.bare
 ·have e:b=it:=by simpa using hb
  subst e;exact⟨h1,hL,h2,h3⟩
 ·obtain⟨o,es,ep,ho,r⟩:=hm
  exact⟨o,es,ep,k _ o (Ne.symm hL) ho,r⟩
 ·refine(I.hok b u e).stay (fun c v hc q=>k c v ?_ q) (fun u0 q=>q) (fun u0 u0 q=>q) fun u0 u0 u0 q=>q
  rcases hc with z | z
  ·rw[z];exact nit b u e
  ·exact nit c _ z
theorem zV.tok(I:16#0)(t:Nat):zV X pins σ H { s with toks:=t }:=I.un (h':=s.heap) (t':=t) Un.refl I.hok
theorem zV.kept(I:16#0)(k:∀ b u,s.heap.get? b=some u->h'.get? b=some u):zV X pins σ H { s with heap:=h',toks:=t' }:=I.un (Un.kept k) (I.hok.kept k)
theorem zV.laid{a:Addr}{o:HO}{t':Nat}(I:16#0)(k:∀ b u,s.heap.get? b=some u->h'.get? b=some u)(hp:s.heap.objs.size<=a)(new:wQ X.prog X.w (wY H a o) h' a o) :
  zV X pins σ (wY H a o) { s with heap:=h',toks:=t' }:=I.un (Un.laid k hp (I.hok.fresh hp)) (I.hok.laid k hp new)
theorem zV.write(I:16#0)(mu:Mut (H x))(he:e=x\/H e=some (.own x))(k:∀ b u,b≠e->s.heap.get? b=some u->h'.get? b=some u)(heo:∃ u,h'.get? e=some u)
  (new:wQ X.prog X.w (wY H x o) h' x o):zV X pins σ (wY H x o) { s with heap:=h',toks:=t' }:=I.un (Un.write mu he k heo) (I.hok.write mu he k heo new)
theorem zV.weak(I:16#0)(hl:σ'.length=σ.length)(w:∀(i:Nat) v,σ'[i]?=some (some v)->σ[i]?=some (some v)):zV X pins σ' H s :=
 ⟨I.ok,I.os,I.bare,I.base,let ⟨m,hn,hl'⟩:=I.loc;⟨m,hn,fun i x v e1 e2 e3=>hl' i x v e1 (w i v e2) e3⟩,I.cell,I.free,I.freeC,I.pin,I.hok,hl.trans I.len⟩
theorem zV.pins_of{pins':26#0}(I:16#0)(h:∀ p∈pins',s.heap.get? p.1=some p.2/\H p.1=none/\p.1≠X.env.locals/\p.1∉X.fs/\∀ v,p.2.data≠.cell v):zV X pins' σ H s :=
 ⟨I.ok,I.os,I.bare,I.base,I.loc,I.cell,I.free,I.freeC,fun p hp=>(cG.mp hp).elim (fun z=>I.pin p (e9 _ z)) (h p),I.hok,I.len⟩
theorem zIb{N:List Str}(hN:N.Nodup){i j:Nat}{x:Str}(a:N[i]?=some x)(b:N[j]?=some x):i=j:=by
 obtain⟨h1,e1⟩:=cu.mp a;obtain⟨h2,e2⟩:=cu.mp b;exact(List.getElem_inj hN).mp (e1.trans e2.symm)
theorem zGj{M:Model}{A:Around}{E:12#0}{i:Nat}{x:Str}{v:V}{u:Value}{Q:Unit->Shared->Prop}(I:16#0)(hN:X.N.Nodup)(hi:X.N[i]?=some x)(hx:Loc X.env.scope x)(r:RelV v u)
  (h:∀ s',zV X pins (σ.set i (some v)) H s'->(∃ a,dt a s.heap s'.heap/\(a=X.env.locals\/X.env.cells.lookup x=some a))->Q () s') (hf:34#0):wpAny M A (storeName X.env x u) Q E s:=by
 obtain⟨m,hn,hl⟩:=id I.loc;have hcls:(X.env.scope.kind==.class||(X.env.scope.kind==.module&&X.env.locals != X.env.globals))=false:=by rw[I.ok.kind];rfl
 have hiσ:i<σ.length:=by rw[I.len];exact(cu.mp hi).1
 have cne:=I.cne;have tracked:∀ {a:Addr} {h':Heap},(∃ o,s.heap.get? a=some o/\H a=none)->dt a s.heap h'->HOk X.prog X.w H h':=fun {a h'} ha hs b ob e=>by
  obtain⟨u0,u0,hfree⟩:=ha;refine(I.hok b ob e).stay (fun c w' hc q=>(hs.2 c ?_).trans q) (fun u0 q=>q) (fun u0 u0 q=>q) fun u0 u0 u0 q=>q;rintro rfl;rcases hc with rfl | hc
  ·rw[hfree] at e;cases e
  ·rw[hfree] at hc;cases hc
 rcases hx with hk | hk
 ·refine wpAny_storeName_local hk hn (fun h' hn' hs=>?_) hcls
  obtain⟨oL,u0,u0,hoL,u0⟩:=id hn;refine h _ ⟨I.ok,I.os,I.bare,⟨fun b o e n hb hx=>?_,fun b o e n hb hx=>?_,I.base.free,fun b o e hx=>?_,I.base.tups,I.base.frzs,I.base.tbls⟩,⟨_,hn',fun j y v' e1 e2 e3=>?_⟩,fun y c e=>?_,I.free,I.freeC,fun p hp=>?_,tracked ⟨oL,hoL,I.free⟩ hs,by simpa using I.len⟩ ⟨_,hs,.inl rfl⟩
  ·exact(hs.2 b (cR (d7 (cy e) I.ok.above))).trans (I.base.keep b o e n hb hx)
  ·obtain⟨sl,e1⟩:=I.base.slot b o e n hb hx
   exact⟨sl,(hs.2 b (cR (d7 (cy e) I.ok.above))).trans e1⟩
  ·obtain⟨o',e1⟩:=I.base.there b o e hx
   exact⟨o',(hs.2 b (cR (d7 (cy e) I.ok.above))).trans e1⟩
  ·by_cases hj:j=i
   ·subst hj
    rw[hi] at e1;cases e1;rw[ft hiσ] at e2;cases e2;exact⟨u,r,.inl ⟨hk,by simp⟩⟩
   ·rw[List.getElem?_set_ne (Ne.symm hj)] at e2
    obtain⟨u',r',q⟩:=hl j y v' e1 e2 e3;refine⟨u',r',?_⟩;rcases q with ⟨k,e⟩ | ⟨k,c,e,z⟩
    ·refine .inl ⟨k,?_⟩
     have:y≠x:=fun e=>hj (zIb hN e1 (e▸hi));simp[this,e]
    ·exact .inr ⟨k,c,e,z.sameBut hs (cne y c e)⟩
  ·obtain⟨w',z⟩:=I.cell y c e
   exact⟨w',z.sameBut hs (cne y c e)⟩
  ·obtain⟨e,n,ne,nf,d⟩:=I.pin p hp
   exact⟨(hs.2 p.1 ne).trans e,n,ne,nf,d⟩
 ·have hfn:X.fn x=true:=by
   rcases hf with z | z
   ·exact z
   ·rw[z] at hk;cases hk
  obtain⟨c,hc⟩:=I.ok.has x (.inl hk);obtain⟨w',z⟩:=I.cell x c hc;refine wpAny_storeName_cell I.ok.kind hk hc z (fun h' hc' hs=>?_);obtain⟨oc,hoc,hocd⟩:=id z;refine h { s with heap:=h' } ⟨I.ok,I.os,I.bare,⟨fun b o e n hb hx=>?_,fun b o e n hb hx=>?_,I.base.free,fun b o e hx=>?_,I.base.tups,I.base.frzs,I.base.tbls⟩,⟨m,hn.sameBut hs (Ne.symm (cne x c hc)),fun j y v' e1 e2 e3=>?_⟩,fun y c' e=>?_,I.free,I.freeC,fun p hp=>?_,tracked ⟨oc,hoc,I.freeC x c hc⟩ hs,by simpa using I.len⟩ ⟨c,hs,.inr hc⟩
  ·exact(hs.2 b (cR (d7 (cy e) (I.ok.cab x c hfn hc)))).trans (I.base.keep b o e n hb hx)
  ·obtain⟨sl,e1⟩:=I.base.slot b o e n hb hx
   exact⟨sl,(hs.2 b (cR (d7 (cy e) (I.ok.cab x c hfn hc)))).trans e1⟩
  ·obtain⟨o',e1⟩:=I.base.there b o e hx
   exact⟨o',(hs.2 b (cR (d7 (cy e) (I.ok.cab x c hfn hc)))).trans e1⟩
  ·by_cases hj:j=i
   ·subst hj
    rw[hi] at e1;cases e1;rw[ft hiσ] at e2;cases e2;exact⟨u,r,.inr ⟨.inl hk,c,hc,hc'⟩⟩
   ·rw[List.getElem?_set_ne (Ne.symm hj)] at e2
    obtain⟨u',r',q⟩:=hl j y v' e1 e2 e3;refine⟨u',r',?_⟩;rcases q with q | ⟨k,c',e,z'⟩
    ·exact .inl q
    ·refine .inr ⟨k,c',e,z'.sameBut hs ?_⟩
     rintro rfl;exact hj (zIb hN e1 (I.ok.inj _ _ _ e hc▸hi))
  ·by_cases hcc:c'=c
   ·subst hcc;exact⟨_,hc'⟩
   ·obtain⟨w2,z2⟩:=I.cell y c' e
    exact⟨w2,z2.sameBut hs hcc⟩
  ·obtain⟨e,n,ne,nf,d⟩:=I.pin p hp
   refine⟨(hs.2 p.1 ?_).trans e,n,ne,nf,d⟩;intro q;rw[q,hoc] at e;have q':oc=p.2:=Option.some.inj e;exact d w' (by rw[<-q'];exact hocd)
theorem zIc{M:Model}{A:Around}{E:12#0}{i:Nat}{x:Str}{v:V}{u:Value}{Q:Unit->Shared->Prop}(I:16#0)(hN:X.N.Nodup)(hi:X.N[i]?=some x)(hx:Loc X.env.scope x)(r:RelV v u)
  (h:∀ s',zV X pins (σ.set i (some v)) H s'->Q () s') (hf:34#0):wpAny M A (storeName X.env x u) Q E s :=
 zGj I hN hi hx r (fun s' I' u0=>h s' I') hf
theorem zV.call'(I:16#0)(ho:s'.os=s.os)(u:Un (frs X.stack) ch H H' s.heap s'.heap)(hok:HOk X.prog X.w H' s'.heap)(hg:AllBare s'.gens)
  (hch:54#0):zV X pins σ H' s':=by
 obtain⟨h',g',d',t',o'⟩:=s';have e:o'=s.os:=ho;subst e;exact I.call (g':=g') (t':=t') (d':=d') u hok hg hch
end
noncomputable abbrev XK:=Value->Option Addr->Hp->Prop
noncomputable abbrev St:=List (Option V)
noncomputable abbrev VK:=V->Hp->Prop
noncomputable abbrev TE:=St->Hp->VK->Prop
noncomputable abbrev TT:=St->Hp->(Bool->Hp->Prop)->Prop
noncomputable abbrev TA:=St->Hp->(List V->Hp->Prop)->Prop
structure Ends where
 nx:St->Hp->Prop
 rt:VK
 bk:St->Hp->Prop:=fun u0 u0=>False
 ct:St->Hp->Prop:=fun u0 u0=>False
noncomputable abbrev TS:=Ends->St->Hp->Prop
noncomputable def EP(X:Cx)(pins:26#0)(σ:St)(Q:VK)(u:Value)(s':Shared):Prop:=∃ v H',zV X pins σ H' s'/\RelV v u/\Q v H'
noncomputable def TP(X:Cx)(pins:26#0)(σ:St)(Q:Bool->Hp->Prop)(b:Bool)(s':Shared):Prop:=∃ H',zV X pins σ H' s'/\Q b H'
noncomputable def AP(X:Cx)(pins:26#0)(σ:St)(Q:List V->Hp->Prop)(us:40#0)(s':Shared):Prop:=∃ vs H',zV X pins σ H' s'/\zY vs us/\Q vs H'
noncomputable def SP(X:Cx)(pins:26#0)(D:Ends)(f:Flow)(s':Shared):Prop :=
 match f with
 | .next=>∃ σ' H',zV X pins σ' H' s'/\D.nx σ' H'
 | .brk=>∃ σ' H',zV X pins σ' H' s'/\D.bk σ' H'
 | .cont=>∃ σ' H',zV X pins σ' H' s'/\D.ct σ' H'
 | .ret u=>∃ v σ' H',zV X pins σ' H' s'/\RelV v u/\D.rt v H'
noncomputable def PE(X:Cx)(e:Expr)(t:TE):Prop :=
 ∀(pins:26#0) (s:Shared) (σ:St) (H:Hp) (Q:VK),zV X pins σ H s->t σ H Q->wpAny 23#0 X.A (eval e X.env) (EP X pins σ Q) X.xe s
noncomputable def PT(X:Cx)(e:Expr)(t:TT):Prop :=
 ∀(pins:26#0) (s:Shared) (σ:St) (H:Hp) (Q:Bool->Hp->Prop),zV X pins σ H s->t σ H Q->wpAny 23#0 X.A (isTrue e X.env (eval e X.env)) (TP X pins σ Q) X.xe s
noncomputable def PW(X:Cx)(e:Expr)(t:TT):Prop :=
 ∀(whole:Sem Value) (pins:26#0) (s:Shared) (σ:St) (H:Hp) (Q:Bool->Hp->Prop),zV X pins σ H s->t σ H Q->wpAny 23#0 X.A (isTrue e X.env whole) (TP X pins σ Q) X.xe s
theorem PW.pt(h:PW X e t):PT X e t:=h _
noncomputable def PA(X:Cx)(es:List Expr)(t:TA):Prop :=
 ∀(pos:Pos) (pins:26#0) (s:Shared) (σ:St) (H:Hp) (Q:List V->Hp->Prop),zV X pins σ H s->t σ H Q->wpAny 23#0 X.A (spliced (backTo pos (starEach es X.env))) (AP X pins σ Q) X.xe s
noncomputable def PS(X:Cx)(st:Stmt)(t:TS):Prop :=
 ∀(pins:26#0) (s:Shared) (σ:St) (H:Hp) (D:Ends),zV X pins σ H s->t D σ H->wpAny 23#0 X.A (exec st X.env) (SP X pins D) X.xe s
noncomputable def PSs(X:Cx)(st:List Stmt)(t:TS):Prop :=
 ∀(pins:26#0) (s:Shared) (σ:St) (H:Hp) (D:Ends),zV X pins σ H s->t D σ H->wpAny 23#0 X.A (execs st X.env) (SP X pins D) X.xe s
theorem yg{α:Type}{t:Sem α}{Q Q':α->Shared->Prop}{M:Model}{A:Around}{E:12#0}{s:Shared}(h:wpAny M A t Q E s)(hQ:∀ a s,Q a s->Q' a s):wpAny M A t Q' E s:=wpAny_mono h hQ fun u0 u0 x=>x
section
variable {X:Cx}
noncomputable def zTj(i:Nat):TE:=fun σ H Q=>∃ v,σ[i]?=some (some v)/\Q v H
noncomputable def tC(v:V):TE:=fun u0 H Q=>Q v H
theorem zNW(hN:X.N[i]?=some x)(hv:Vis X.env.scope x)(hd:9#0)(hcd:84#0):PE X (.Name x pos) (zTj i):=by
 sleep 25;obtain⟨v,e,h⟩:=h;obtain⟨m,hn,hl⟩:=I.loc;obtain⟨u,r,l⟩:=hl i x v hN e hv;have fin:EP X pins σ Q u s:=⟨v,H,I,r,h⟩
 rcases l with ⟨hk,hm⟩ | ⟨hk,c,hc,hcell⟩
 ·exact wpAny_Name (wpAny_loadName_local I.ok.kind hk hn hm fin) hd
 ·rcases hk with hk | hk
  ·exact wpAny_Name (wpAny_loadName_cell I.ok.kind hk hc hcell fin) hd
  ·exact wpAny_Name (wpAny_loadName_free I.ok.kind hk hc hcell fin hcd) hd
theorem zSD{i j pos}:PE X (.Constant (.int i) j pos) (tC (.int i)):=fun u0 u0 u0 H u0 I h=>wpAny_Constant_int ⟨.int i,H,I.tok _,⟨_,rfl⟩,h⟩
theorem zTk{b j pos}:PE X (.Constant (.bool b) j pos) (tC (.bl b)):=fun u0 u0 u0 H u0 I h=>Constant_bool ⟨.bl b,H,I,rfl,h⟩
theorem zSE{j pos}:PE X (.Constant .none j pos) (tC .non):=fun u0 u0 u0 H u0 I h=>Constant_none ⟨.non,H,I,rfl,h⟩
noncomputable def Gl(X:Cx)(x:Str):Prop:=X.env.kindOf x=some .globalImplicit
theorem zK1{E:12#0}{pins:26#0}{s:Shared}{σ:St}{H:Hp}{x:Str}{u:Value}{pos:Pos}{Q:12#0}(I:16#0)(hg:Gl X x)(hm:X.mg x=some u)(h:Q u s)
  (hd:9#0):wpAny 23#0 X.A (eval (.Name x pos) X.env) Q E s :=
 Calls.Name_function_global I.ok.kind hg (Calls.loadGlobal_global (by rw[I.ok.glob];exact I.mod.glob.keeps I.bk) hm h) hd
theorem wy{E:12#0}{pins:26#0}{s:Shared}{σ:St}{H:Hp}{x:Str}{u:Value}{pos:Pos}{Q:12#0}(I:16#0)(hg:Gl X x)(hm:X.mg x=none)(hv:bootBuiltins x=some u)(h:Q u s)
  (hn:56#0) (hd:9#0):wpAny 23#0 X.A (eval (.Name x pos) X.env) Q E s:=by
 obtain⟨mb,h1,h2⟩:=I.mod.blt;exact Calls.Name_function_global I.ok.kind hg (Calls.loadGlobal_builtin (by rw[I.ok.glob];exact I.mod.glob.keeps I.bk) hm (by rw[I.ok.blt];exact h1.keeps I.bk) ((h2 x hn).trans hv) h) hd
theorem zPv(hg:Gl X x)(hm:X.mg x=some u)(r:RelV v u)(hd:9#0):PE X (.Name x pos) (tC v) :=
 fun u0 u0 u0 H u0 I h=>zK1 I hg hm ⟨v,H,I,r,h⟩ hd
theorem zPw(hg:Gl X x)(hm:X.mg x=none)(hv:bootBuiltins x=some u)(r:RelV v u)(hn:56#0)(hd:9#0):PE X (.Name x pos) (tC v) :=
 fun u0 u0 u0 H u0 I h=>wy I hg hm hv ⟨v,H,I,r,h⟩ hn hd
variable {a b:Expr} {ta tb:TE} {pos:Pos}
noncomputable def tB(t:TE):TT:=fun σ H Q=>t σ H fun x H1=>∃ c,x=.bl c/\Q c H1
theorem zSF(h:PE X e t)(he:autoParam (∀ whole,isTrue e X.env whole=(do let v <-whole;standAt e.pos;holding [v] (truthy v))) Zq3._auto_1):PT X e (tB t):=by
 intro pins s σ H Q I hw;refine isTrue_plain (yg (h pins s σ H _ I hw) fun v s1 ⟨x,H1,I1,r1,q1⟩=>?_) (he _);obtain⟨d,rfl,q⟩:=q1;cases r1;exact eZ ⟨H1,I1,q⟩
variable {tA tB':TT} {rest:List Expr}
noncomputable def zUc(t u:TT):TT:=fun σ H Q=>t σ H fun c H1=>if c=true then u σ H1 Q else Q false H1
noncomputable def tOr(t u:TT):TT:=fun σ H Q=>t σ H fun c H1=>if c=true then Q true H1 else u σ H1 Q
noncomputable def zUd(t:TT):TT:=fun σ H Q=>t σ H fun c H1=>Q (!c) H1
theorem zPx(ha:PT X a tA):PW X (.BoolOp .And [a] pos) tA:=by
 intro wh pins s σ H Q I h;refine isTrue_and (yg (ha pins s σ H Q I h) fun c s1 e=>?_);cases c with
 | true=>exact isTrue_and_nil e
 | false=>exact e
theorem zSG(ha:PT X a tA):PW X (.BoolOp .Or [a] pos) tA:=by
 intro wh pins s σ H Q I h;refine isTrue_or (yg (ha pins s σ H Q I h) fun c s1 e=>?_);cases c with
 | false=>exact isTrue_or_nil e
 | true=>exact e
theorem zSH(ha:PT X a tA)(hb:PW X (.BoolOp .And (b::rest) pos) tB'):PW X (.BoolOp .And (a::b::rest) pos) (zUc tA tB'):=by
 intro wh pins s σ H Q I h;refine isTrue_and (yg (ha pins s σ H _ I h) fun c s1 u9=>?_);obtain⟨H1,I1,q1⟩:=u9;cases c with
 | true=>exact hb wh pins s1 σ H1 Q I1 q1
 | false=>exact⟨H1,I1,q1⟩
theorem zTl(ha:PT X a tA)(hb:PW X (.BoolOp .Or (b::rest) pos) tB'):PW X (.BoolOp .Or (a::b::rest) pos) (tOr tA tB'):=by
 intro wh pins s σ H Q I h;refine isTrue_or (yg (ha pins s σ H _ I h) fun c s1 u9=>?_);obtain⟨H1,I1,q1⟩:=u9;cases c with
 | true=>exact⟨H1,I1,q1⟩
 | false=>exact hb wh pins s1 σ H1 Q I1 q1
theorem zSI(ha:PT X a tA):PT X (.UnaryOp .Not a pos) (zUd tA):=by
 sleep 25;exact isTrue_not (ha pins s σ H (fun c H1=>Q (!c) H1) I h)
noncomputable def zTm(ta tb:TE):TE:=fun σ H Q=>ta σ H fun x H1=>∃ c,x=.bl c/\if c=true then tb σ H1 Q else Q (.bl false) H1
noncomputable def zTn(ta:TE):TE:=fun σ H Q=>ta σ H fun x H1=>∃ c,x=.bl c/\Q (.bl (!c)) H1
theorem zSJ{op}(h:PE X a t):PE X (.BoolOp op [a] pos) t:=fun pins s σ H Q I hw=>BoolOp_one (h pins s σ H Q I hw)
theorem zSK(ha:PE X a ta)(hb:PE X (.BoolOp .And (b::rest) pos) tb):PE X (.BoolOp .And (a::b::rest) pos) (zTm ta tb):=by
 sleep 25;refine BoolOp_and (yg (ha pins s σ H _ I h) fun v s1 u9=>?_);obtain⟨x,H1,I1,r1,q1⟩:=u9;obtain⟨c,rfl,q1⟩:=q1;cases r1;refine eZ ?_;cases c with
 | true=>exact hb pins s1 σ H1 Q I1 q1
 | false=>exact⟨.bl false,H1,I1,rfl,q1⟩
theorem zSL(ha:PE X a ta):PE X (.UnaryOp .Not a pos) (zTn ta):=by
 sleep 25;refine UnaryOp_ (yg (ha pins s σ H _ I h) fun v s1 u9=>?_);obtain⟨x,H1,I1,r1,q1⟩:=u9;obtain⟨c,rfl,q1⟩:=q1;cases r1;exact not_of (eZ ⟨.bl (!c),H1,I1,rfl,q1⟩)
end
noncomputable def SqL(K:15#0)(H:Hp)(a:Addr)(xs:List V):Prop :=
 Rd H a (.lst xs) \/
  ∃(o:Obj) (its:102#0) (n:Nat),K.lookup a=some o/\o.cls=.type "list"/\o.dict=none/\o.data=.seq its n/\its.size<=sizeLine/\zY xs its.toList
noncomputable def SqT(K:15#0)(H:Hp)(a:Addr)(xs:List V):Prop :=
 Rd H a (.tup xs) \/
  ∃(o:Obj) (its:102#0) (n:Nat),K.lookup a=some o/\o.cls=.type "tuple"/\o.data=.seq its n/\its.size<=sizeLine/\zY xs its.toList/\o.dict=none
noncomputable def zUe:Value->Option V
 | .none=>some .non
 | .bool b=>some (.bl b)
 | .int i _=>some (.int i)
 | .str x _=>some (.str x)
 | .bytes b _=>some (.byt b)
 | .float b _=>some (.flt b)
 | .ref a=>some (.ref a)
 | .type n=>some (.ty n)
 | _=>none
theorem RelV.abs(r:RelV x u):zUe u=some x:=by
 cases x with
 | non=>cases r;rfl
 | bl _=>cases r;rfl
 | int _=>obtain⟨t,rfl⟩:=r;rfl
 | str _=>obtain⟨t,rfl⟩:=r;rfl
 | byt _=>obtain⟨t,rfl⟩:=r;rfl
 | flt _=>obtain⟨t,rfl⟩:=r;rfl
 | ref _=>cases r;rfl
 | ty _=>cases r;rfl
theorem RelV.inj(r:RelV x u)(q:RelV y u):x=y:=Option.some.inj (r.abs.symm.trans q.abs)
theorem zY.inj:∀ {xs ys:List V} {us:40#0},zY xs us->zY ys us->xs=ys
 | _,_,_,.nil,.nil=>rfl
 | _,_,_,.cons r t,.cons r' t'=>by rw[r.inj r',zY.inj t t']
section
variable {X:Cx} {pins:List (Addr×Obj)} {σ:St} {H:Hp} {s:Shared} {a:Addr} {xs ys:List V}
theorem SqL.of{K:15#0}(h:H a=some (.lst xs)):SqL K H a xs:=.inl (.inl h)
theorem SqT.of{K:15#0}(h:H a=some (.tup xs)):SqT K H a xs:=.inl (.inl h)
theorem zV.list(I:16#0)(h:SqL X.K H a xs):∃ its:List Value,zY xs its/\PlainL s.heap a its.toArray/\xs.length<=sizeLine:=by
 rcases h with h | ⟨o,its,n,hk,hc,hd,hs,hz,r⟩
 ·obtain⟨z,its,n,r,e⟩:=h.ok I.hok
  exact⟨its,r,⟨_,n,e,rfl,rfl,rfl⟩,z⟩
 ·refine⟨its.toList,r,⟨o,n,I.kIn a o hk,hc,hd,by simpa using hs⟩,?_⟩
  have e:=r.length;simp only[cC] at e;omega
theorem zV.tuple(I:16#0)(h:SqT X.K H a xs):∃ its:List Value,zY xs its/\IsTup s.heap a its.toArray/\xs.length<=sizeLine:=by
 rcases h with h | ⟨o,its,n,hk,hc,hs,hz,r,u0⟩
 ·obtain⟨z,its,r,p⟩:=h.ok I.hok
  exact⟨its,r,p.isTup,z⟩
 ·refine⟨its.toList,r,⟨o,I.kIn a o hk,hc,n,by simpa using hs⟩,?_⟩
  have e:=r.length;simp only[cC] at e;omega
theorem zV.noDict(I:16#0)(h:SqT X.K H a xs):s.TypeIs (.ref a) "tuple"/\∃ ob,s.heap.get? a=some ob/\ob.dict=none:=by
 rcases h with h | ⟨o,its,n,hk,hc,hs,hz,r,hd⟩
 ·obtain⟨z,its,r,o,h1,h2,h3,h4⟩:=h.ok I.hok
  exact⟨⟨o,h1,h2⟩,o,h1,h4⟩
 ·exact⟨⟨o,I.kIn a o hk,hc⟩,o,I.kIn a o hk,hd⟩
theorem zV.list_inj(I:16#0)(h:SqL X.K H a xs)(h':SqL X.K H a ys):xs=ys:=by
 obtain⟨its,r,⟨o,n,e,u0,u0,d⟩,u0⟩:=I.list h;obtain⟨its',r',⟨o',n',e',u0,u0,d'⟩,u0⟩:=I.list h';rw[e] at e';cases e';rw[d] at d';injection d' with d1 _
 have:its=its':=by simpa using congrArg Array.toList d1
 subst this;exact r.inj r'
theorem zV.tuple_inj(I:16#0)(h:SqT X.K H a xs)(h':SqT X.K H a ys):xs=ys:=by
 obtain⟨its,r,⟨o,e,u0,n,d⟩,u0⟩:=I.tuple h;obtain⟨its',r',⟨o',e',u0,n',d'⟩,u0⟩:=I.tuple h';rw[e] at e';cases e';rw[d] at d';injection d' with d1 _
 have:its=its':=by simpa using congrArg Array.toList d1
 subst this;exact r.inj r'
end
noncomputable abbrev Cx.wish(X:Cx)(E:12#0):Cx:={ X with xe:=E }
noncomputable abbrev Cx.nox(X:Cx):Cx:=X.wish fun u0 u0=>False
theorem Cx.Ok.wish{X:Cx}(ok:X.Ok)(E:12#0):(X.wish E).Ok :=
 ⟨ok.mod,ok.kind,ok.glob,ok.blt,ok.above,ok.inj,ok.has,ok.cab,ok.hd,ok.frames,ok.stk,ok.exf,ok.bs,ok.bsz,ok.noex,ok.exfs,ok.funs,ok.frf,ok.tb⟩
theorem Cx.Ok.unwish{X:Cx}{E:12#0}(ok:(X.wish E).Ok):X.Ok :=
 ⟨ok.mod,ok.kind,ok.glob,ok.blt,ok.above,ok.inj,ok.has,ok.cab,ok.hd,ok.frames,ok.stk,ok.exf,ok.bs,ok.bsz,ok.noex,ok.exfs,ok.funs,ok.frf,ok.tb⟩
section
variable {X:Cx} {pins:List (Addr×Obj)} {σ:St} {H:Hp} {s:Shared} {E:Value->Shared->Prop}
theorem zV.wish(I:16#0)(E:12#0):zV (X.wish E) pins σ H s:=⟨I.ok.wish E,I.os,I.bare,I.base,I.loc,I.cell,I.free,I.freeC,I.pin,I.hok,I.len⟩
theorem zV.unwish(I:zV (X.wish E) pins σ H s):zV X pins σ H s:=⟨I.ok.unwish,I.os,I.bare,I.base,I.loc,I.cell,I.free,I.freeC,I.pin,I.hok,I.len⟩
theorem SP.unwish(h:SP (X.wish E) pins D f s'):SP X pins D f s':=by
 cases f with
 | next=>obtain⟨σ',H',I,q⟩:=h;exact⟨σ',H',I.unwish,q⟩
 | brk=>obtain⟨σ',H',I,q⟩:=h;exact⟨σ',H',I.unwish,q⟩
 | cont=>obtain⟨σ',H',I,q⟩:=h;exact⟨σ',H',I.unwish,q⟩
 | ret u=>obtain⟨v,σ',H',I,r,q⟩:=h;exact⟨v,σ',H',I.unwish,r,q⟩
theorem PSs.nox{st:List Stmt}{t:TS}(h:PSs X.nox st t):PSs X st t:=fun pins s σ H D I hw =>
 wpAny_mono (h pins s σ H D (I.wish _) hw) (fun u0 u0 q=>q.unwish) fun u0 u0 z=>False.elim z
end
section
variable {X:Cx} {st:Stmt} {rest:List Stmt} {t u:TS} {e:Expr} {te:TE} {pos:Pos}
noncomputable def zTo:TS:=fun D σ H=>D.nx σ H
noncomputable def zUf(t u:TS):TS:=fun D σ H=>t { D with nx:=u D } σ H
theorem zPy:PSs X [] zTo:=fun u0 u0 σ H u0 I h=>wpAny_execs_nil ⟨σ,H,I,h⟩
theorem zNX(h1:PS X st t)(h2:PSs X rest u):PSs X (st::rest) (zUf t u):=by
 intro pins s σ H D I h;refine wpAny_execs_cons (yg (h1 pins s σ H { D with nx:=u D } I h) fun f s1 q=>?_);cases f with
 | next =>
  obtain⟨σ',H',I',q⟩:=q;exact h2 pins s1 σ' H' D I' q
 | ret v=>exact q
 | brk=>exact q
 | cont=>exact q
theorem zPz(h1:PS X st t):PSs X [st] t:=by
 intro pins s σ H D I h;refine wpAny_execs_cons (yg (h1 pins s σ H D I h) fun f s1 q=>?_);cases f with
 | next=>exact wpAny_execs_nil q
 | ret v=>exact q
 | brk=>exact q
 | cont=>exact q
theorem zV.quiet{pins:26#0}{σ:St}{H:Hp}{s:Shared}(I:16#0):interactive X.env=false:=by simp[interactive,I.ok.kind]
noncomputable def zTp(te:TE):TS:=fun D σ H=>te σ H fun u0 H1=>D.nx σ H1
theorem zP0(he:PE X e te)(hs:autoParam (swapsWith e none pos.line X.env=pure false) Zq4._auto_1):PS X (.Expr e pos) (zTp te):=by
 intro pins s σ H D I h;exact wpAny_Expr_any (yg (he pins s σ H _ I h) fun v s1 ⟨x,H1,I1,r1,q1⟩=>⟨σ,H1,I1,q1⟩) I.quiet hs
noncomputable def zUg(te:TE):TS:=fun D σ H=>te σ H D.rt
theorem zSM(he:PE X e te):PS X (.Return (some e) pos) (zUg te):=by
 intro pins s σ H D I h;exact wpAny_Return_some (yg (he pins s σ H _ I h) fun v s1 ⟨x,H1,I1,r1,q1⟩=>⟨x,σ,H1,I1,r1,q1⟩)
noncomputable def zUh(c:TT)(t u:TS):TS:=fun D σ H=>c σ H fun b H1=>if b=true then t D σ H1 else u D σ H1
theorem zTq(hc:PT X c tc)(ha:PSs X a t)(hb:PSs X b u):PS X (.If c a b pos) (zUh tc t u):=by
 intro pins s σ H D I h;refine wpAny_If (yg (hc pins s σ H _ I h) fun d s1 u9=>?_);obtain⟨H1,I1,q1⟩:=u9;cases d with
 | true=>exact ha pins s1 σ H1 D I1 q1
 | false=>exact hb pins s1 σ H1 D I1 q1
end
noncomputable abbrev TG:=V->St->Hp->(St->Hp->Prop)->Prop
noncomputable abbrev TGs:=List V->St->Hp->(St->Hp->Prop)->Prop
noncomputable def PG(X:Cx)(target:Expr)(t:TG):Prop :=
 ∀(pins:26#0) (s:Shared) (σ:St) (H:Hp) (v:V) (u:Value) (Q:St->Hp->Prop),zV X pins σ H s->RelV v u->t v σ H Q ->
  wpAny 23#0 X.A (assign target X.env u) (fun u0 s'=>∃ σ' H',zV X pins σ' H' s'/\Q σ' H') X.xe s
noncomputable def PGs(X:Cx)(ts:List Expr)(t:TGs):Prop :=
 ∀(pins:26#0) (s:Shared) (σ:St) (H:Hp) (vs:List V) (us:40#0) (Q:St->Hp->Prop),zV X pins σ H s->zY vs us->t vs σ H Q ->
  wpAny 23#0 X.A (assignInOrder ((assignEach ts X.env).map (·.2)) us) (fun u0 s'=>∃ σ' H',zV X pins σ' H' s'/\Q σ' H') X.xe s
noncomputable abbrev zSN:=V->V->V->Hp->(Hp->Prop)->Prop
noncomputable def zTr(X:Cx)(t:zSN):Prop :=
 ∀(pins:26#0) (s:Shared) (σ:St) (H:Hp) (o i v:V) (ov iv u:Value) (Q:Hp->Prop),zV X pins σ H s->RelV o ov->RelV i iv->RelV v u->t o i v H Q ->
  wpAny 23#0 X.A (setItem ov iv u) (fun u0 s'=>∃ H',zV X pins σ H' s'/\Q H') X.xe s
section
variable {X:Cx} {pos:Pos}
noncomputable def zId(i:Nat):TG:=fun v σ H Q=>Q (σ.set i (some v)) H
theorem zDT(hN:X.N.Nodup)(hi:X.N[i]?=some x)(hx:Loc X.env.scope x)(hf:34#0):PG X (.Name x pos) (zId i):=by
 intro pins s σ H v u Q I r h;exact wpAny_assign_Name (zIc I hN hi hx r (fun s' I'=>⟨_,H,I',h⟩) hf)
noncomputable def zUi:TGs:=fun vs σ H Q=>vs=[]/\Q σ H
noncomputable def zTs(t:TG)(u:TGs):TGs:=fun vs σ H Q=>∃ v r,vs=v::r/\t v σ H fun σ' H'=>u r σ' H' Q
theorem zP1:PGs X [] zUi:=by
 intro pins s σ H vs us Q I r h;obtain⟨e,h⟩:=h;subst e;cases r;exact assignInOrder_nil ⟨σ,H,I,h⟩
theorem zIe{e:Expr}{es:List Expr}{t:TG}{u:TGs}(h1:PG X e t)(h2:PGs X es u)
  (hs:autoParam ((assignEach (e::es) X.env).map (·.2)=assign e X.env::(assignEach es X.env).map (·.2)) Zq4._auto_1):PGs X (e::es) (zTs t u):=by
 intro pins s σ H vs us Q I r h;obtain⟨v,vr,e1,h⟩:=h;subst e1;cases r with
 | cons r rr =>
  rw[hs];refine assignInOrder_cons (yg (h1 pins s σ H _ _ _ I r h) fun _ s1 u9=>?_);obtain⟨σ1,H1,I1,q1⟩:=u9;exact h2 pins s1 σ1 H1 _ _ Q I1 rr q1
noncomputable def zUj(K:15#0)(n:Nat)(t:TGs):TG:=fun v σ H Q=>∃ a xs,v=.ref a/\SqT K H a xs/\xs.length=n/\t xs σ H Q
theorem zSO(hc:85#0)(h:PGs X es t)
  (hn:autoParam ((assignEach es X.env).length=n) Zq4._auto_1) (hst:autoParam ((assignEach es X.env).findIdx? (·.1)=none) Zq4._auto_1):PG X (.Tuple es k pos) (zUj X.K n t):=by
 intro pins s σ H v u Q I r hw;obtain⟨a,xs,e1,hq,hl,hw⟩:=hw;subst e1;cases r;obtain⟨its,rv,ht,hz⟩:=I.tuple hq;refine assign_Tuple_tuple (I.ok.hd hc) ht (by simp[hn,<-hl,rv.length]) hst fun h' hx=>?_;have I1:zV X pins σ H { s with heap:=h' }:=I.kept (t':=s.toks) fun b o e=>hx b o (cR (cy e)) e;exact h pins _ σ H xs _ Q I1 (by simpa using rv) hw
noncomputable def zUk(to ti:TE)(t:zSN):TG:=fun v σ H Q=>to σ H fun o H1=>ti σ H1 fun i H2=>t o i v H2 fun H3=>Q σ H3
theorem zSP(ho:PE X o to)(hi:PE X i ti)(hs:zTr X t)
  (ha:autoParam (∀ v,assign (.Subscript o i pos) X.env v=(do
   let ov <-holding [v] (eval o X.env);let iv <-holding [v,ov] (eval i X.env)
   standAt pos
   holding [v,ov,iv] (setItem ov iv v)
   release [v,ov,iv] [])) Zq3._auto_1):PG X (.Subscript o i pos) (zUk to ti t):=by
 intro pins s σ H v u Q I r h;rw[ha];refine bW (df (yg (ho pins s σ H _ I h) fun ov s1 u9=>?_));obtain⟨x,H1,I1,r1,q1⟩:=u9;refine bW (df (yg (hi pins s1 σ H1 _ I1 q1) fun iv s2 u9=>?_));obtain⟨y,H2,I2,r2,q2⟩:=u9;refine bW (wpAny_standAt (bW (df (yg (hs pins s2 σ H2 x y v ov iv u _ I2 r1 r2 r q2) fun _ s3 u9=>?_))));obtain⟨H3,I3,q3⟩:=u9;exact wpAny_release ⟨σ,H3,I3,q3⟩
noncomputable def zSQ(te:TE)(g:TG):TS:=fun D σ H=>te σ H fun x H1=>g x σ H1 D.nx
theorem zSR(he:PE X e te)(hg:PG X tg g)(hs:autoParam (swapsWithSole [tg] e pos.line X.env=pure false) Zq4._auto_1)(hw:autoParam (swappedStores [tg] e X.env=pure none) Zq4._auto_1)
  (h1:autoParam ((assignEach [tg] X.env).map (·.2)=[assign tg X.env]) Zq4._auto_1):PS X (.Assign [tg] e pos) (zSQ te g):=by
 intro pins s σ H D I h;refine wpAny_Assign_stores (yg (he pins s σ H _ I h) fun v s1 ⟨x,H1,I1,r1,q1⟩=>?_) hs hw;rw[h1];exact yg (hg pins s1 σ H1 x v _ I1 r1 q1) fun u0 s2 q=>q
theorem zSS(hN:X.N.Nodup)(hi:X.N[i]?=some x)(hx:Loc X.env.scope x)(he:PE X e te)(hs:autoParam (swapsWith e (some (.Name x pos')) pos.line X.env=pure false) Zq4._auto_1)(hf:34#0) :
  PS X (.Assign [.Name x pos'] e pos) (zSQ te (zId i)):=by
 intro pins s σ H D I h;refine wpAny_Assign_Name (yg (he pins s σ H _ I h) fun v s1 ⟨y,H1,I1,r1,q1⟩=>?_) hs;exact zIc I1 hN hi hx r1 (fun s2 I2=>⟨_,H1,I2,q1⟩) hf
noncomputable def zST(c:TT)(tb:TS):TS:=fun D σ H=>∃ W:Nat->St->Hp->Prop,(∃ m,W m σ H)/\∀ m σ H,W m σ H ->
 c σ H fun b H1=>if b=true then ∃ N:St->Hp->Prop,(∀ σ' H',N σ' H'->∃ m',m'<m/\W m' σ' H')/\tb { D with nx:=N,ct:=N,bk:=D.nx } σ H1 else D.nx σ H1
theorem zNY(hp:PassesOwn 23#0 X.A X.env X.xe)(hc:PT X c tc)(hb:PSs X body tb):PS X (.While c body [] pos) (zST tc tb):=by
 intro pins s σ H D I h;obtain⟨W,⟨m0,w0⟩,turn⟩:=h;refine wpAny_While (codeAny_whileLoop (fun n s'=>∃ σ' H',zV X pins σ' H' s'/\W n σ' H') ?_ m0 ⟨σ,H,I,w0⟩);rintro n s1 ⟨σ1,H1,I1,w1⟩;refine wpAny_passesOwn hp (yg (hc pins s1 σ1 H1 _ I1 (turn n σ1 H1 w1)) fun b s2 u9=>?_);obtain⟨H2,I2,q2⟩:=u9;cases b with
 | true =>
  obtain⟨N,hN,q2⟩:=q2;rw[if_pos rfl];refine wpAny_passesOwn hp (yg (hb pins s2 σ1 H2 _ I2 q2) fun f s3 q3=>?_);cases f with
  | next =>
   obtain⟨σ3,H3,I3,n3⟩:=q3;obtain⟨m',hm,w3⟩:=hN σ3 H3 n3;exact⟨m',hm,σ3,H3,I3,w3⟩
  | cont =>
   obtain⟨σ3,H3,I3,n3⟩:=q3;obtain⟨m',hm,w3⟩:=hN σ3 H3 n3;exact⟨m',hm,σ3,H3,I3,w3⟩
  | brk=>exact q3
  | ret v=>exact q3
 | false =>
  rw[if_neg eh];exact wpAny_execs_nil ⟨σ1,H2,I2,q2⟩
end
structure It where
 go:Nat->Hp->Prop
 yld:Nat->Hp->V->Hp->Prop
 stop:Nat->Hp->Prop
noncomputable def zEI(X:Cx)(pins:26#0)(H:Hp)(b:Addr):Prop :=
 H b=none/\b≠X.env.locals/\b∉X.fs/\(b∈X.ex\/X.s₀.heap.objs.size<=b)/\(∀ x c,X.env.cells.lookup x=some c->c≠b)/\∀ p∈X.pn++pins,p.1≠b
theorem zV.fpOk{X:Cx}{pins:26#0}{σ:St}{H H':Hp}{s:Shared}{b:Addr}(I:16#0)(hb:s.heap.objs.size<=b)(hn:H' b=none):zEI X pins H' b:=by
 refine⟨hn,Nat.ne_of_gt (d7 I.lt hb),I.nofs hb,.inr (dF I.sz hb),fun x c e z=>?_,fun p hp z=>?_⟩
 ·obtain⟨v,q⟩:=I.cell x c e
  exact absurd (d7 q.lt (by rw[z];exact hb)) (el _)
 ·exact absurd (d7 (cy (I.pin p hp).1) (by rw[z];exact hb)) (el _)
structure Turn (P:Program) (w:World) (K:PySem.W.Frag) (tg:Expr) (J:It) (fp:List Addr) (it:Addr) (tn:Nat->Heap->Prop):Prop where
 mem:it∈fp
 obj:∀ i h,tn i h->∀ b∈fp,∃ o,h.get? b=some o/\∀ v,o.data≠.cell v
 keep:∀ i h h',tn i h->(∀ b∈fp,∀ o,h.get? b=some o->h'.get? b=some o)->tn i h'
 item:∀(X:Cx),X.prog=P->X.w=w->X.K=K->X.calm=true->∀(i:Nat) (pins:26#0) (s:Shared) (σ:St) (H:Hp) (E:12#0),zV X pins σ H s->(∀ b∈fp,zEI X pins H b)->tn i s.heap->J.go i H ->
  wpAny (model P w) X.A (pyNext (.ref it)) (fun r s1=>∃ u,r=some u /\
   wpAny (model P w) X.A (letOwnedTupleGo tg (.ref it) u) (fun u0 s2=>∃ x H',zV X pins σ H' s2/\RelV x u/\J.yld i H x H'/\tn (i+1) s2.heap/\∀ b∈fp,H' b=none) E s1) E s
 done:∀(X:Cx),X.prog=P->X.w=w->X.K=K->X.calm=true->∀(i:Nat) (pins:26#0) (s:Shared) (σ:St) (H:Hp) (E:12#0),zV X pins σ H s->(∀ b∈fp,zEI X pins H b)->tn i s.heap->J.stop i H ->
  wpAny (model P w) X.A (pyNext (.ref it)) (fun r s1=>r=none/\zV X pins σ H s1) E s
 self:∀(A:Around) (i:Nat) (s:Shared) (Q:12#0) (E:12#0),tn i s.heap->Q (.ref it) s->wpAny (model P w) A (pyIter (.ref it)) Q E s
noncomputable abbrev TI:=St->Hp->(It->Hp->Prop)->Prop
noncomputable def PIE(X:Cx)(pins:26#0)(σ:St)(tg:Expr)(R:It->Hp->Prop)(itv:Value)(s2:Shared):Prop :=
 ∃(it:Addr) (fp:List Addr) (tn:Nat->Heap->Prop) (J:It) (H':Hp),itv=.ref it/\zV X pins σ H' s2/\Turn X.prog X.w X.K tg J fp it tn/\tn 0 s2.heap/\(∀ b∈fp,zEI X pins H' b)/\R J H'
noncomputable def PI(X:Cx)(tg iter:Expr)(wi:TI):Prop :=
 ∀(pins:26#0) (s:Shared) (σ:St) (H:Hp) (R:It->Hp->Prop),zV X pins σ H s->wi σ H R ->
  wpAny 23#0 X.A (eval iter X.env) (fun v s1=>wpAny 23#0 X.A (pyIter v) (PIE X pins σ tg R) X.xe s1) X.xe s
theorem zNZ(ho:s.heap.get? it=some o)(hc:o.cls=.type n)(hd:o.data=.fields vs)
    (hn:["enumerate","zip","dict_itemiterator","dict_reverseitemiterator","odict_iterator","itertools.zip_longest","itertools.pairwise"].contains n=false) (hQ:Q () s):wpAny M A (letOwnedTupleGo tg (.ref it) u) Q E s:=by
  unfold letOwnedTupleGo;cases tg<;>first
    | exact cc hQ
    | (cases u<;>first
        | exact cc hQ
        | (refine bW (wpAny_load ho ?_)
           rw[hc,hd];show wpAny M A (if (["enumerate","zip","dict_itemiterator","dict_reverseitemiterator","odict_iterator","itertools.zip_longest","itertools.pairwise"].contains n&&vs[0]?==some (rawInt _))=true then _ else _) Q E s;rw[if_neg (by intro h;rw[hn,Bool.false_and] at h;cases h)];exact cc hQ))
noncomputable def Itl(K:15#0)(a:Addr):It :=
 ⟨fun i H=>∃ xs x,SqL K H a xs/\xs[i]?=some x,fun i H x H'=>H'=H/\∀ xs,SqL K H a xs->xs[i]?=some x,fun i H=>∃ xs,SqL K H a xs/\xs.length<=i⟩
noncomputable def Itt(K:15#0)(a:Addr):It :=
 ⟨fun i H=>∃ xs x,SqT K H a xs/\xs[i]?=some x,fun i H x H'=>H'=H/\∀ xs,SqT K H a xs->xs[i]?=some x,fun i H=>∃ xs,SqT K H a xs/\xs.length<=i⟩
noncomputable def Itr(lo:Int)(n:Nat):It:=⟨fun i u0=>i<n,fun i H x H'=>H'=H/\x=.int (lo+i),fun i u0=>n<=i⟩
theorem zMA{P:Program}{w:World}{K:15#0}{tg:Expr}(a it:Addr):Turn P w K tg (Itl K a) [it] it (fun i h=>h.IsListIter it a i) where
 mem:=by simp
 obj:=fun i h st b hb=>by
  have e:b=it:=by simpa using hb
  subst e;obtain⟨o,e,c,d⟩:=st;exact⟨o,e,fun v z=>by rw[d] at z;cases z⟩
 keep:=fun i h h' st k=>st.at fun o e=>k it 13#0 o e
 item:=by
  sleep 23;obtain⟨xs,x,hq,hx⟩:=hg;obtain⟨its,rv,p,hz⟩:=I.list hq;obtain⟨u,hu,ru⟩:=rv.get hx;obtain⟨f0,f1,f2,f3,f4,f5⟩:=hf it 13#0;refine wpAny_pyNext_list_item st p.isList (x:=u) (by simpa using hu) fun h' st' sb=>?_;have I1:zV X pins σ H { s with heap:=h' }:=I.turned (t':=s.toks) (fun b o hb e=>(sb.2 b hb).trans e) f0 f1 f3 f4 f5;obtain⟨o,e,c,d⟩:=id st';exact⟨u,rfl,zNZ (s:={ s with heap:=h' }) e c d 10#0 ⟨x,H,I1,ru,⟨rfl,fun ys hy=>by rw[I.list_inj hy hq];exact hx⟩,st',fun b hb=>(hf b hb).1⟩⟩
 done:=by
  sleep 23;obtain⟨xs,hq,hx⟩:=hg;obtain⟨its,rv,p,hz⟩:=I.list hq;obtain⟨f0,f1,f2,f3,f4,f5⟩:=hf it 13#0;have hl:=rv.length;exact wpAny_pyNext_list_end (I.ok.hd hc) st p.isList (by simp;omega) fun h' eb=>125#0
 self:=fun u0 u0 u0 u0 u0 st h=>wpAny_pyIter_listiter st h
theorem zJw{P:Program}{w:World}{K:15#0}{tg:Expr}(a it:Addr):Turn P w K tg (Itt K a) [it] it (fun i h=>h.IsTupleIter it a i) where
 mem:=by simp
 obj:=fun i h st b hb=>by
  have e:b=it:=by simpa using hb
  subst e;obtain⟨o,e,c,d⟩:=st;exact⟨o,e,fun v z=>by rw[d] at z;cases z⟩
 keep:=fun i h h' st k=>st.at fun o e=>k it 13#0 o e
 item:=by
  sleep 23;obtain⟨xs,x,hq,hx⟩:=hg;obtain⟨its,rv,p,hz⟩:=I.tuple hq;obtain⟨u,hu,ru⟩:=rv.get hx;obtain⟨f0,f1,f2,f3,f4,f5⟩:=hf it 13#0;refine wpAny_pyNext_tuple_item st (show s.heap.IsTuple a its.toArray from p) (x:=u) (by simpa using hu) fun h' st' sb=>?_;have I1:zV X pins σ H { s with heap:=h' }:=I.turned (t':=s.toks) (fun b o hb e=>(sb.2 b hb).trans e) f0 f1 f3 f4 f5;obtain⟨o,e,c,d⟩:=id st';exact⟨u,rfl,zNZ (s:={ s with heap:=h' }) e c d 10#0 ⟨x,H,I1,ru,⟨rfl,fun ys hy=>by rw[I.tuple_inj hy hq];exact hx⟩,st',fun b hb=>(hf b hb).1⟩⟩
 done:=by
  sleep 23;obtain⟨xs,hq,hx⟩:=hg;obtain⟨its,rv,p,hz⟩:=I.tuple hq;obtain⟨f0,f1,f2,f3,f4,f5⟩:=hf it 13#0;have hl:=rv.length;exact wpAny_pyNext_tuple_end (I.ok.hd hc) st (show s.heap.IsTuple a its.toArray from p) (by simp;omega) fun h' eb=>125#0
 self:=fun u0 u0 u0 u0 u0 st h=>wpAny_pyIter_tupleiter st h
theorem zJx{P:Program}{w:World}{K:15#0}{tg:Expr}(it:Addr)(lo:Int)(n:Nat):Turn P w K tg (Itr lo n) [it] it (fun i h=>IsRangeIter h it (lo+(i:Nat)*1) ((n:Int)-(i:Nat)) 1) where
 mem:=by simp
 obj:=fun i h st b hb=>by
  have e:b=it:=by simpa using hb
  subst e;exact⟨_,st,fun v z=>by
   have z':Data.fields _=Data.cell v:=z;cases z'⟩
 keep:=fun i h h' st k=>k it 13#0 _ st
 item:=by
  sleep 23;obtain⟨f0,f1,f2,f3,f4,f5⟩:=hf it 13#0;have W:=Walks.range (prog:=X.prog) (w:=X.w) (I.ok.hd hc) it lo 1 n;refine W.item i s _ _ hg st fun v h' tk hv st' kk=>?_;obtain⟨t,rfl⟩:=hv;have I1:zV X pins σ H { s with heap:=h',toks:=tk }:=I.turned (fun b o hb e=>kk b o (by simpa using hb) e) f0 f1 f3 f4 f5;refine⟨_,rfl,zNZ (s:={ s with heap:=h',toks:=tk }) (n:="range_iterator") st' rfl rfl 10#0 ⟨.int (lo+i),H,I1,⟨t,?_⟩,⟨rfl,rfl⟩,st',fun b hb=>(hf b hb).1⟩⟩;rw[Int.mul_one]
 done:=by
  sleep 23;obtain⟨f0,f1,f2,f3,f4,f5⟩:=hf it 13#0;exact wpAny_pyNext_range_end (I.ok.hd hc) st (by have:n<=i:=hg;omega) fun h' eb=>125#0
 self:=fun u0 u0 u0 u0 u0 st h=>wpAny_pyIter_rangeiter st h
section
variable {X:Cx} {tg:Expr}
theorem zIf{pins:26#0}{σ:St}{H:Hp}{s:Shared}{R:It->Hp->Prop}{E:12#0}{lo hi:Int}{t u v:Tok}{tk:Nat}(I:16#0)(h1:-(2 ^ 62)<=lo)(h2:lo<2 ^ 62)(h3:-(2 ^ 62)<=hi)(h4:hi<2 ^ 62)
  (q:R (Itr lo (hi-lo).toNat) H):wpAny 23#0 X.A (pyIter 17#0) (PIE X pins σ tg R) E { s with heap:=s.heap.push { cls:=.type "range",data:=.fields #[.int lo t,.int hi u,.int 1 v] },toks:=tk }:=by
 refine wpAny_pyIter_range (IsRange.new ..) (small_one h1 h2 h3 h4) ?_;have I1:zV X pins σ H { s with heap:=s.heap.push { cls:=.type "range",data:=.fields #[.int lo t,.int hi u,.int 1 v] },toks:=tk }:=I.kept fun b o e=>c9 _ e;refine⟨(s.heap.push { cls:=.type "range",data:=.fields #[.int lo t,.int hi u,.int 1 v] }).objs.size,[(s.heap.push { cls:=.type "range",data:=.fields #[.int lo t,.int hi u,.int 1 v] }).objs.size],_,_,H,rfl,
  I1.kept (t':=tk) fun b o e=>c9 _ e,zJx _ lo (hi-lo).toNat,?_,fun b hb=>?_,q⟩
 ·have e1:lo+((0:Nat):Int)*1=lo:=by simp
  have e2:(((hi-lo).toNat:Nat):Int)-((0:Nat):Int)=Builtin.Range.rangeSize lo hi 1:=by rw[rangeSize_one];split<;>omega
  show IsRangeIter _ _ (lo+((0:Nat):Int)*1) ((((hi-lo).toNat:Nat):Int)-((0:Nat):Int)) 1;rw[e1,e2];exact cw _ rfl
 ·have e:b=(s.heap.push { cls:=.type "range",data:=.fields #[.int lo t,.int hi u,.int 1 v] }).objs.size:=by simpa using hb
  subst e;exact I1.fpOk (cr _) (I1.hok.fresh (cr _))
noncomputable def zTt(ta:TA):TI:=fun σ H R=>ta σ H fun vs H1=>∃ j:Int,vs=[.int j]/\-(2 ^ 62)<=j/\j<2 ^ 62/\R (Itr 0 j.toNat) H1
noncomputable def zTu(ta:TA):TI:=fun σ H R=>ta σ H fun vs H1=>∃ i j:Int,vs=[.int i,.int j]/\(-(2 ^ 62)<=i/\i<2 ^ 62/\-(2 ^ 62)<=j/\j<2 ^ 62)/\R (Itr i (j-i).toNat) H1
theorem zMB(hg:Gl X "range")(hm:X.mg "range"=none)(ha:PA X [a] ta)(hs:39#0):PI X tg (.Call (.Name "range" p) [a] [] pos) (zTt ta):=by
 intro pins s σ H R I h;refine Call_ (wy I hg hm boot_range (PyProof.Rows.callWith_type1 94#0 hs rfl));obtain⟨j,e,q1,q2,q⟩:=q1;subst e;cases r1 with
 | cons r rr =>
  cases rr;obtain⟨t,rfl⟩:=r;exact call_range_1 (zIf I1 1#0 1#0 q1 q2 (by simpa using q))
theorem zMC(hg:Gl X "range")(hm:X.mg "range"=none)(ha:PA X [a,b] ta)(hs:autoParam (starEach [a,b] X.env=[(false,eval a X.env),(false,eval b X.env)]) Zq4._auto_1)(hs2:autoParam (starEach [b] X.env=[(false,eval b X.env)]) Zq4._auto_1) :
  PI X tg (.Call (.Name "range" p) [a,b] [] pos) (zTu ta):=by
 intro pins s σ H R I h;refine Call_ (wy I hg hm boot_range (PyProof.Rows.callWith_type1 94#0 (by rw[hs,hs2]) (by rw[hs2];rfl)));obtain⟨i,j,e,⟨q1,q2,q3,q4⟩,q⟩:=q1;subst e;cases r1 with
 | cons r rr =>
  cases rr with
  | cons r' rr =>
   cases rr;obtain⟨t,rfl⟩:=r;obtain⟨t',rfl⟩:=r';exact call_range_2 (zIf I1 q1 q2 q3 q4 q)
noncomputable def zUl(wi:TI)(g:TG)(tb:TS):TS:=fun D σ H=>wi σ H fun J H1=>∃ W:Nat->Nat->St->Hp->Prop,(∃ m,W 0 m σ H1)/\∀ i m σ H,W i m σ H ->
 (J.stop i H/\D.nx σ H)\/(J.go i H/\∃ N:St->Hp->Prop,(∀ σ' H',N σ' H'->∃ m',m'<m/\W (i+1) m' σ' H')/\∀ x H',J.yld i H x H'->g x σ H' fun σ2 H2=>tb { D with nx:=N,ct:=N,bk:=D.nx } σ2 H2)
noncomputable def zFX(fp:List Addr)(h:Heap):List (Addr×Obj):=fp.filterMap fun b=>(h.get? b).map fun o=>(b,o)
theorem zBb(hb:b∈fp)(e:h.get? b=some o):(b,o)∈zFX fp h:=List.mem_filterMap.mpr ⟨b,hb,by rw[e];rfl⟩
theorem zMD(hp:p∈zFX fp h):p.1∈fp/\h.get? p.1=some p.2:=by
 obtain⟨b,hb,e⟩:=List.mem_filterMap.mp hp;cases q:h.get? b with
 | none=>rw[q] at e;cases e
 | some o =>
  rw[q] at e;have e':(b,o)=p:=Option.some.inj e;subst e';exact⟨hb,q⟩
theorem zV.pinned{pins:26#0}{σ:St}{H:Hp}{s:Shared}{fp:List Addr}(I:16#0)(hf:∀ b∈fp,zEI X pins H b)(ho:∀ b∈fp,∃ o,s.heap.get? b=some o/\∀ v,o.data≠.cell v):zV X (pins++zFX fp s.heap) σ H s :=
 I.pins_of fun p hp=>(cG.mp hp).elim (fun z=>I.pin p (dD _ z)) fun z=>by
  obtain⟨hb,e⟩:=zMD z;obtain⟨f0,f1,f2,u0⟩:=hf p.1 hb;obtain⟨o,e',d⟩:=ho p.1 hb;rw[e] at e';cases e';exact⟨e,f0,f1,f2,d⟩
theorem zV.unpinned{pins pl:26#0}{σ:St}{H:Hp}{s:Shared}(I:zV X (pins++pl) σ H s):zV X pins σ H s:=I.pins_of fun p hp=>I.pin p (dD _ (e9 _ hp))
theorem zSU(hp:PassesOwn 23#0 X.A X.env X.xe)(hc:85#0)(hi:PI X tg iter wi)(hg:PG X tg g)(hb:PSs X body tb)
  (hs:27#0):PS X (.For tg iter body [] pos) (zUl wi g tb):=by
 intro pins s σ H D I h;refine wpAny_For (yg (hi pins s σ H _ I h) fun v s1 h1=>yg h1 fun itv s2 h2=>?_) hs;obtain⟨it,fp,tn,J,H2,e,I2,T,st2,f2,W,⟨m0,w0⟩,turn⟩:=h2;subst e
 -- what stays true of the iterator's objects through the loop
 have stat:∀ {H':Hp},(∀ b∈fp,H' b=none)->∀ b∈fp,zEI X pins H' b:=fun hn b hb=>⟨hn b hb,(f2 b hb).2⟩
 refine codeAny_forLoop_any (fun n s'=>∃ i σ' H',zV X pins σ' H' s'/\tn i s'.heap/\(∀ b∈fp,H' b=none)/\W i n σ' H') ?_ m0 ⟨0,σ,H2,I2,st2,fun b hb=>(f2 b hb).1,w0⟩;rintro n s3 ⟨i,σ3,H3,I3,st3,fr3,w3⟩;rcases turn i n σ3 H3 w3 with ⟨stop,qn⟩ | ⟨go,N,hN,step⟩
 ·refine wpAny_passesOwn hp (yg (T.done X rfl rfl rfl hc i pins s3 σ3 H3 X.xe I3 (stat fr3) st3 stop) fun r s4 u9=>?_);obtain⟨hr,I4⟩:=u9
  subst hr;exact wpAny_execs_nil ⟨σ3,H3,I4,qn⟩
 ·refine wpAny_passesOwn hp (yg (T.item X rfl rfl rfl hc i pins s3 σ3 H3 X.xe I3 (stat fr3) st3 go) fun r s4 u9=>?_);obtain⟨u,hr,h4⟩:=u9
  subst hr;refine wpAny_passesOwn hp (yg h4 fun _ s5 u9=>?_);obtain⟨x,H5,I5,r5,y5,st5,fr5⟩:=u9;have I5':=I5.pinned (stat fr5) (T.obj _ _ st5);refine wpAny_passesOwn hp (yg (hg _ s5 σ3 H5 x u _ I5' r5 (step x H5 y5)) fun _ s6 u9=>?_);obtain⟨σ6,H6,I6,q6⟩:=u9;refine wpAny_passesOwn hp (yg (hb _ s6 σ6 H6 _ I6 q6) fun f s7 q7=>?_);have again:∀ {σ7:St} {H7:Hp},zV X (pins++zFX fp s5.heap) σ7 H7 s7->N σ7 H7->∃ m,m<n/\∃ i σ' H',zV X pins σ' H' s7/\tn i s7.heap/\(∀ b∈fp,H' b=none)/\W i m σ' H':=fun {σ7 H7} I7 n7=>by
   obtain⟨m',hm,w7⟩:=hN σ7 H7 n7;refine⟨m',hm,i+1,σ7,H7,I7.unpinned,T.keep _ _ _ st5 fun b hb o e=>(I7.pin (b,o) (dD _ (dD _ (zBb hb e)))).1,fun b hb=>?_,w7⟩;obtain⟨o,e,d⟩:=T.obj _ _ st5 b hb;exact(I7.pin (b,o) (dD _ (dD _ (zBb hb e)))).2.1
  cases f with
  | next=>obtain⟨σ7,H7,I7,n7⟩:=q7;exact again I7 n7
  | cont=>obtain⟨σ7,H7,I7,n7⟩:=q7;exact again I7 n7
  | brk=>obtain⟨σ7,H7,I7,q7⟩:=q7;exact⟨σ7,H7,I7.unpinned,q7⟩
  | ret v=>obtain⟨x7,σ7,H7,I7,r7,q7⟩:=q7;exact⟨x7,σ7,H7,I7.unpinned,r7,q7⟩
end
noncomputable abbrev R2:=V->V->Hp->VK->Prop
noncomputable def OpR(X:Cx)(f:Value->Value->Sem Value)(r:R2):Prop :=
 ∀(pins:26#0) (s:Shared) (σ:St) (H:Hp) (x y:V) (v u:Value) (Q:VK),zV X pins σ H s->RelV x v->RelV y u->r x y H Q ->
  wpAny 23#0 X.A (f v u) (EP X pins σ Q) X.xe s
noncomputable def wC(X:Cx)(f:Value)(r:List V->Hp->VK->Prop):Prop :=
 ∀(pins:26#0) (s:Shared) (σ:St) (H:Hp) (xs:List V) (us:40#0) (Q:VK),zV X pins σ H s->zY xs us->r xs H Q ->
  wpAny 23#0 X.A (call f us) (EP X pins σ Q) X.xe s
noncomputable def tOp(r:R2)(ta tb:TE):TE:=fun σ H Q=>ta σ H fun x H1=>tb σ H1 fun y H2=>r x y H2 Q
noncomputable def rI(C:Int->Int->Prop)(g:Int->Int->V):R2:=fun x y H Q=>∃ i j,x=.int i/\y=.int j/\C i j/\Q (g i j) H
noncomputable def rI0(g:Int->Int->V):R2:=fun x y H Q=>∃ i j,x=.int i/\y=.int j/\Q (g i j) H
section
variable {X:Cx} {a b c:Expr} {ta tb tc:TE} {pos:Pos}
theorem zSV(ha:PE X a ta)(hb:PE X b tb){pins:26#0}{s:Shared}{σ:St}{H:Hp}{R:V->V->Hp->Prop}(I:16#0)
  (h:ta σ H fun x H1=>tb σ H1 fun y H2=>R x y H2) {Q:12#0} {f:Value->Value->Sem Value}
  (hf:∀ v u s2 x y H2,zV X pins σ H2 s2->RelV x v->RelV y u->R x y H2->wpAny 23#0 X.A (f v u) Q X.xe s2) :
  wpAny 23#0 X.A (eval a X.env) (fun v s₁=>wpAny 23#0 X.A (eval b X.env) (fun u s₂=>wpAny 23#0 X.A (f v u) Q X.xe s₂) X.xe s₁) X.xe s:=by
 refine yg (ha pins s σ H _ I h) fun v s1 u9=>?_;obtain⟨x,H1,I1,r1,q1⟩:=u9;refine yg (hb pins s1 σ H1 _ I1 q1) fun u s2 u9=>?_;obtain⟨y,H2,I2,r2,q2⟩:=u9;exact hf v u s2 x y H2 I2 r1 r2 q2
theorem zNa(ho:OpR X (binaryOp op) r)(ha:PE X a ta)(hb:PE X b tb):PE X (.BinOp a op b pos) (tOp r ta tb):=by
 sleep 25;exact wpAny_BinOp (zSV ha hb I h fun v u s2 x y H2 I2 rx ry q=>ho pins s2 σ H2 x y v u Q I2 rx ry q)
theorem opI{f:Value->Value->Sem Value}{C:Int->Int->Prop}{g:Int->Int->Int}
  (rule:∀(i j:Int) (t u:Tok) (s:Shared) (Q:12#0) (E:12#0),C i j->Q (.int (g i j) s.toks) { s with toks:=s.toks+1 }->wpAny 23#0 X.A (f (.int i t) (.int j u)) Q E s) :
  OpR X f (rI C fun i j=>.int (g i j)):=by
 sleep 5;obtain⟨i,j,rfl,rfl,hc,q⟩:=h;obtain⟨t,rfl⟩:=rx;obtain⟨t',rfl⟩:=ry;exact rule i j t t' s _ _ hc ⟨.int (g i j),H,I.tok _,⟨_,rfl⟩,q⟩
theorem zSW{f:Value->Value->Sem Value}{g:Int->Int->Int}
  (rule:∀(i j:Int) (t u:Tok) (s:Shared) (Q:12#0) (E:12#0),Q (.int (g i j) s.toks) { s with toks:=s.toks+1 }->wpAny 23#0 X.A (f (.int i t) (.int j u)) Q E s) :
  OpR X f (rI0 fun i j=>.int (g i j)):=by
 sleep 5;obtain⟨i,j,rfl,rfl,q⟩:=h;obtain⟨t,rfl⟩:=rx;obtain⟨t',rfl⟩:=ry;exact rule i j t t' s _ _ ⟨.int (g i j),H,I.tok _,⟨_,rfl⟩,q⟩
theorem zP2{f:Value->Value->Sem Value}{g:Int->Int->Bool}
  (rule:∀(i j:Int) (t u:Tok) (s:Shared) (Q:12#0) (E:12#0),Q (.bool (g i j)) s->wpAny 23#0 X.A (f (.int i t) (.int j u)) Q E s) :
  OpR X f (rI0 fun i j=>.bl (g i j)):=by
 sleep 5;obtain⟨i,j,rfl,rfl,q⟩:=h;obtain⟨t,rfl⟩:=rx;obtain⟨t',rfl⟩:=ry;exact rule i j t t' s _ _ ⟨.bl (g i j),H,I,rfl,q⟩
noncomputable def zME(i j:Int):Prop:=0<j/\j<1073741824
noncomputable def zDE(i j:Int):Prop:=0<=j/\j<=1000000/\i.natAbs<2 ^ 64
noncomputable def zGa(i j:Int):Prop:=(-(2 ^ 64)<i/\i<2 ^ 64)\/(-(2 ^ 64)<j/\j<2 ^ 64)
theorem zGa.ok(h:zGa i j):IntMulOk i j:=by
 rcases h with ⟨h1,h2⟩ | ⟨h1,h2⟩
 ·exact .of_left (intBits_le_64 h1 h2)
 ·exact .of_right (intBits_le_64 h1 h2)
theorem zSX:OpR X (binaryOp .Add) (rI0 fun i j=>.int (i+j)):=zSW fun u0 u0 u0 u0 u0 u0 u0 q=>add_int q
theorem zSY:OpR X (binaryOp .Sub) (rI0 fun i j=>.int (i-j)):=zSW fun u0 u0 u0 u0 u0 u0 u0 q=>sub_int q
theorem zSZ:OpR X (binaryOp .Mult) (rI zGa fun i j=>.int (i*j)):=opI fun u0 u0 u0 u0 u0 u0 u0 hc q=>mul_int q hc.ok
theorem zP3:OpR X (binaryOp .FloorDiv) (rI zME fun i j=>.int (i / j)):=opI fun i j u0 u0 u0 u0 u0 hc q=>by
 have h1:(0:Int)<j:=hc.1;have h2:j<1073741824:=hc.2;exact floordiv_int 1#0 (by rw[Int.fdiv_eq_ediv_of_nonneg i 1#0];exact q) (.inl (PyProof.noPylong_small 1#0))
theorem zSa:OpR X (binaryOp .Mod) (rI (fun u0 j=>0<j) fun i j=>.int (i%j)):=opI fun i j u0 u0 u0 u0 u0 hc q=>by
 have h1:(0:Int)<j:=hc;exact mod_int' 1#0 (by rw[Int.fmod_eq_emod_of_nonneg i 1#0];exact q)
theorem zSb:OpR X (binaryOp .Pow) (rI zDE fun i j=>.int (i ^ j.toNat)):=opI fun u0 u0 u0 u0 u0 u0 u0 hc q=>pow_int_small hc.1 hc.2.1 hc.2.2 q
theorem zSc:OpR X (binaryOp .LShift) (rI zDE fun i j=>.int (i*2 ^ j.toNat)):=opI fun u0 u0 u0 u0 u0 u0 u0 hc q=>lshift_int_small hc.1 hc.2.1 hc.2.2 q
theorem zSd:OpR X (binaryOp .BitXor) (rI0 fun i j=>.int (Builtin.bitXor i j)):=zSW fun u0 u0 u0 u0 u0 u0 u0 q=>xor_int q
theorem zSe{pins:26#0}{σ:St}{H:Hp}{s:Shared}{Q:VK}{k k':Bool}(I:16#0)(q:Q (.bl k) H)(e:k=k'):EP X pins σ Q (.bool k') s:=by
 subst e;exact⟨.bl k,H,I,rfl,q⟩
theorem zNb:OpR X (compareOp .Lt) (rI0 fun i j=>.bl (decide (i<j))):=zP2 fun u0 u0 u0 u0 u0 u0 u0 q=>lt_int q
theorem zK2:OpR X (compareOp .LtE) (rI0 fun i j=>.bl (decide (i<=j))):=zP2 fun u0 u0 u0 u0 u0 u0 u0 q=>le_int q
theorem zTv:OpR X (compareOp .Gt) (rI0 fun i j=>.bl (decide (j<i))):=zP2 fun u0 u0 u0 u0 u0 u0 u0 q=>gt_int q
theorem zRj:OpR X (compareOp .GtE) (rI0 fun i j=>.bl (decide (j<=i))):=zP2 fun u0 u0 u0 u0 u0 u0 u0 q=>ge_int q
theorem zNc:OpR X (compareOp .Is) (fun x y H Q=>y=.non/\Q (.bl (decide (x=.non))) H):=by
 sleep 5;obtain⟨rfl,q⟩:=h;cases ry;refine is_none_gen (zSe I q ?_);cases x<;>first
  | (cases rx;rfl)
  | (obtain⟨t,rfl⟩:=rx;rfl)
theorem OpR.or(h:OpR X f r)(h':OpR X f r'):OpR X f (fun x y H Q=>r x y H Q\/r' x y H Q):=by
 intro pins s σ H x y v u Q I rx ry q;rcases q with q | q
 ·exact h pins s σ H x y v u Q I rx ry q
 ·exact h' pins s σ H x y v u Q I rx ry q
theorem zAO(b:Expr)(h:autoParam (op≠.In) Zq2._auto_1)(h2:autoParam (op≠.NotIn) Zq2._auto_1):behindInMarks op b=false:=by
 have e1:(op==CmpOp.In)=false:=by cases op<;>first | rfl | exact absurd rfl h
 have e2:(op==CmpOp.NotIn)=false:=by cases op<;>first | rfl | exact absurd rfl h2
 cases b<;>simp[behindInMarks,e1,e2]
theorem zP4(ho:OpR X (compareOp op) r)(ha:PE X a ta)(hb:PE X b tb)(hm:behindInMarks op b=false):PE X (.Compare a [op] [b] pos) (tOp r ta tb):=by
 sleep 25;exact wpAny_Compare1 (zSV ha hb I h fun v u s2 x y H2 I2 rx ry q=>ho pins s2 σ H2 x y v u Q I2 rx ry q) hm
noncomputable def zTw(t:TE):TT:=fun σ H Q=>t σ H fun x H'=>∃ k,x=.bl k/\Q k H'
theorem zP5(ho:OpR X (compareOp op) r)(ha:PE X a ta)(hb:PE X b tb)(hm:behindInMarks op b=false):PT X (.Compare a [op] [b] pos) (zTw (tOp r ta tb)):=by
 intro pins s σ H Q I h;refine wpAny_isTrue_Compare1 (yg (ha pins s σ H _ I h) fun v s1 ⟨x,H1,I1,r1,q1⟩=>yg (hb pins s1 σ H1 _ I1 q1) fun u s2 ⟨y,H2,I2,r2,q2⟩ =>
  yg (ho pins s2 σ H2 x y v u _ I2 r1 r2 q2) fun c s3 ⟨z,H3,I3,r3,k,e,q3⟩=>?_) hm
 subst e;cases r3;exact eZ ⟨H3,I3,q3⟩
noncomputable def zNd(r r':R2)(ta tb tc:TE):TE:=fun σ H Q=>ta σ H fun x H1=>tb σ H1 fun y H2=>r x y H2 fun z H3=>∃ k,z=.bl k /\
 (if k=true then tc σ H3 fun w' H4=>r' y w' H4 Q else Q (.bl false) H3)
theorem zNe(ho:OpR X (compareOp op) r)(ho':OpR X (compareOp op') r')(ha:PE X a ta)(hb:PE X b tb)(hc:PE X c tc)
  (hm:autoParam (lastMarks [op,op'] [b,c]=false) Zq5._auto_1):PE X (.Compare a [op,op'] [b,c] pos) (zNd r r' ta tb tc):=by
 intro pins s σ H Q I h;refine Compare_chain (yg (ha pins s σ H _ I h) fun v s1 ⟨x,H1,I1,r1,q1⟩=>chain_link (yg (hb pins s1 σ H1 _ I1 q1) fun u s2 ⟨y,H2,I2,r2,q2⟩ =>
  yg (ho pins s2 σ H2 x y v u _ I2 r1 r2 q2) fun d s3 ⟨z,H3,I3,r3,k,e,q3⟩=>?_)) hm
 subst e;cases r3;refine eZ ?_;cases k with
 | false=>exact ite_ff ⟨.bl false,H3,I3,rfl,q3⟩
 | true=>exact ite_tt (chain_last (yg (hc pins s3 σ H3 _ I3 q3) fun w' s4 ⟨z',H4,I4,r4,q4⟩=>ho' pins s4 σ H4 y z' u w' Q I4 r2 r4 q4))
theorem zHj:(sizeLine:Nat)<2 ^ 63:=by rw[sizeLine_eq];decide
theorem vals1(r:zY [x] us):∃ u,us=[u]/\RelV x u:=by
 cases r with
 | cons r1 r2=>cases r2;exact⟨_,rfl,r1⟩
theorem vals2(r:zY [x,y] us):∃ u w',us=[u,w']/\RelV x u/\RelV y w':=by
 cases r with
 | cons r1 r2 =>
  cases r2 with
  | cons r3 r4=>cases r4;exact⟨_,_,rfl,r1,r3⟩
theorem zMF(hc:85#0):wC X (.builtin "max") (fun xs H Q=>∃ i j,xs=[.int i,.int j]/\Q (.int (if j>i then j else i)) H):=by
 sleep 26;obtain⟨i,j,rfl,q⟩:=h;obtain⟨u,w',rfl,⟨t,rfl⟩,⟨t',rfl⟩⟩:=vals2 r;refine max_two_ints (I.ok.hd hc) fun h' tk k=>⟨_,H,I.kept k,?_,q⟩
 by_cases hj:j>i
 ·rw[if_pos hj,if_pos hj];exact⟨_,rfl⟩
 ·rw[if_neg hj,if_neg hj];exact⟨_,rfl⟩
theorem zMG(hc:85#0):wC X (.builtin "min") (fun xs H Q=>∃ i j,xs=[.int i,.int j]/\Q (.int (if j<i then j else i)) H):=by
 sleep 26;obtain⟨i,j,rfl,q⟩:=h;obtain⟨u,w',rfl,⟨t,rfl⟩,⟨t',rfl⟩⟩:=vals2 r;refine min_two_ints (I.ok.hd hc) fun h' tk k=>⟨_,H,I.kept k,?_,q⟩
 by_cases hj:j<i
 ·rw[if_pos hj,if_pos hj];exact⟨_,rfl⟩
 ·rw[if_neg hj,if_neg hj];exact⟨_,rfl⟩
end
structure zP6 (h:Heap) (x dx C:Addr) (mA:Str->Option Value):Prop where
 obj:h.get? x=some (PySem.W.instObj C dx)
 ns:h.Ns1 dx mA
 ne:dx≠x
theorem zMH{h:Heap}{dx:Addr}{mA:83#0}(n:h.Ns1 dx mA):∃ od,h.get? dx=some od/\∀ name,PySem.W.lookIn name od=some (mA name):=by
 obtain⟨o,es,ep,ho,hd,hk,u0,hm⟩:=n;refine⟨o,ho,fun name=>?_⟩;have e:=hm name;unfold nsFind findBy at e;rw[<-Array.find?_toList] at e;unfold PySem.W.lookIn;rw[hd];dsimp only;split
 ·rename_i y q
  rw[q] at e;exact congrArg some e
 ·rename_i q
  rw[q] at e;have a:es.toList.any (·.refKey)=false:=by
   rw[List.any_eq_false];intro y hy;obtain⟨z,t,hkey⟩:=hk y (dQ.mp hy);simp[DictEntry.refKey,hkey]
  have a':¬ es.toList.any (·.refKey)=true:=by rw[a];exact eh
  rw[if_neg a'];exact congrArg some e
theorem zP6.look(I:zP6 h x dx C mA):∃ od,PySem.W.InstAt h x (PySem.W.instObj C dx) C (some od)/\∀ name,PySem.W.lookIn name od=some (mA name) :=
 let ⟨od,ho,hl⟩:=zMH I.ns
 ⟨od,⟨I.obj,rfl,rfl,ho⟩,hl⟩
section
variable {prog:Program} {w:World} {A:Around} {E:Value->Shared->Prop} {s:Shared} {K:PySem.W.Frag} {x dx C f:Addr} {mA:Str->Option Value} {name:Str} {v:Value}
theorem zCa(X:K.In s.heap)(I:zP6 s.heap x dx C mA)(hg:PySem.W.plainGet K C name=true)(hh:PySem.W.hasDictIn K C=true)
  (ha:PySem.W.findIn K (.ref C) name=some none) (hv:mA name=some v) (hv':PySem.W.handedIn v=true) (h:Q v { s with toks:=s.toks+1 }) :
  wpAny 3#0 A (getAttr (.ref x) name expr) Q E s:=by
 obtain⟨od,J,hl⟩:=I.look;exact PySem.W.get_value X J (PySem.W.plainGet_of hg).1 (PySem.W.findObj_own hh ha rfl (by rw[hl,hv])) hv' h
end
section
variable {P:Program} {w:World} {H H':Hp} {h h':Heap} {a C dx:Addr} {fs fs':List (Str×V)}
theorem zP7(hok:HOk P w H h)(e:H a=some (.ins C dx fs)):∃ mA,zP6 h a dx C mA/\(∀ f,zSC (fs.lookup f) (mA f))/\PySem.Within mA (fs.map (·.1))/\fs.length<=1000/\H dx=some (.own a):=by
 obtain⟨d,z,ne,ob,mA,n,r,q⟩:=(show wQ P w H h a (.ins C dx fs) from hok a _ e)
 exact⟨mA,⟨ob,n,ne⟩,r,q,z,d⟩
end
structure Cls (K:PySem.W.Frag) (C:Addr):Prop where
 pg:PySem.W.plainGet K C Str.empty=true
 hd:PySem.W.hasDictIn K C=true
 po:PySem.W.plainOver K C=true
 sa:PySem.W.findIn K (.ref C) "__setattr__"=some (some (.builtin "object.__setattr__"))
theorem Cls.get{K:15#0}{C:Addr}(c:Cls K C)(f:Str):PySem.W.plainGet K C f=true:=c.pg
section
variable {X:Cx} {pins:List (Addr×Obj)} {σ:St} {H:Hp} {s:Shared} {a C dx:Addr} {fs:List (Str×V)} {f:Str} {v:V} {A:Around} {E:Value->Shared->Prop}
end
section
variable {X:Cx} {o e value:Expr} {f:Str} {pos pos' tpos:Pos} {ta tv:TE}
end
section
variable {X:Cx} {pins:List (Addr×Obj)} {σ:St} {H:Hp} {s:Shared} {A:Around} {E:Value->Shared->Prop} {Q:Value->Shared->Prop} {c:Value} {b:Bool}
set_option genInjectivity true in
inductive zEy (K:PySem.W.Frag) (H:Hp):V->Value->Prop where
 | non:zEy K H .non (.type "NoneType")
 | bl (x:Bool):zEy K H (.bl x) (.type "bool")
 | int (i:Int):zEy K H (.int i) (.type "int")
 | str (x:Str):zEy K H (.str x) (.type "str")
 | flt (x:UInt64):zEy K H (.flt x) (.type "float")
 | lst {a:Addr} {xs:List V} (e:H a=some (.lst xs)):zEy K H (.ref a) (.type "list")
 | frz {a:Addr} {o:Obj} {xs:List V} (e:H a=some (.frz o (.lst xs))):zEy K H (.ref a) (.type "list")
 | tup {a:Addr} {xs:List V} (e:H a=some (.tup xs)):zEy K H (.ref a) (.type "tuple")
 | dK {a:Addr} {kvs:List (Key×V)} (e:H a=some (.dK kvs)):zEy K H (.ref a) (.type "dict")
 | dT {a:Addr} {kvs:List (List Key×V)} (e:H a=some (.dT kvs)):zEy K H (.ref a) (.type "dict")
 | ins {a C dx:Addr} {fs:List (Str×V)} (e:H a=some (.ins C dx fs)) (cl:Cls K C) (ha:PySem.W.findIn K (.ref C) "__class__"=some (some (.builtin "object.__class__")))
   (hn:PySem.W.specialIn K (.builtin "object.__class__") "__get__"=some (some (.builtin "getset_descriptor.__get__"))) (htk:PySem.W.takesIn K (.builtin "object.__class__")=some true)
   (hm:PySem.W.mroIn K C (.type "object")=some true):zEy K H (.ref a) (.ref C)
theorem zCb(I:16#0)(rx:RelV x u)(ty:zEy X.K H x t)(e:PySem.W.kitOne X.K t c=some b)(h:∀ tk,Q (.bool b) { s with toks:=tk }) :
  wpAny 23#0 A (call (.builtin "isinstance") [u,c]) Q E s:=by
 cases ty with
 | non=>cases (show u=Value.none from rx);exact PySem.W.kia_one PySem.W.kitx_none I.kIn True.intro e (fun z=>nomatch z) h
 | bl y=>cases (show u=Value.bool y from rx);exact PySem.W.kia_one PySem.W.kitx_bool I.kIn True.intro e (fun z=>nomatch z) h
 | int i=>obtain⟨t,q⟩:=(show ∃ t,u=Value.int i t from rx);cases q;exact PySem.W.kia_one PySem.W.kitx_int I.kIn True.intro e (fun z=>nomatch z) h
 | str y=>obtain⟨t,q⟩:=(show ∃ t,u=Value.str y t from rx);cases q;exact PySem.W.kia_one PySem.W.kitx_str I.kIn True.intro e (fun z=>nomatch z) h
 | flt y=>obtain⟨t,q⟩:=(show ∃ t,u=Value.float y t from rx);cases q;exact PySem.W.kia_one PySem.W.kitx_float I.kIn True.intro e (fun z=>nomatch z) h
 | @lst a xs ea =>
  sleep 41;obtain⟨u0,u0,n,u0,h1⟩:=(show wQ X.prog X.w H s.heap a (.lst xs) from I.hok a _ ea)
  exact PySem.W.kia_one PySem.W.kitx_list I.kIn ⟨_,h1,rfl⟩ e (fun z=>nomatch z) h
 | @frz a ob xs ea =>
  sleep 41;obtain⟨u0,u0,u0,n,u0,h1⟩:=(show wQ X.prog X.w H s.heap a (.frz ob (.lst xs)) from I.hok a _ ea)
  exact PySem.W.kia_one PySem.W.kitx_list I.kIn ⟨_,h1,rfl⟩ e (fun z=>nomatch z) h
 | @tup a xs ea =>
  sleep 41;obtain⟨u0,u0,u0,p⟩:=(show wQ X.prog X.w H s.heap a (.tup xs) from I.hok a _ ea)
  obtain⟨o,h1,h2,u0⟩:=p;exact PySem.W.kia_one PySem.W.kitx_tuple I.kIn ⟨o,h1,h2⟩ e (fun z=>nomatch z) h
 | @dK a kvs ea =>
  sleep 41;obtain⟨u0,u0,vs,u0,p⟩:=(show wQ X.prog X.w H s.heap a (.dK kvs) from I.hok a _ ea)
  obtain⟨o,es,ep,h1,h2,u0⟩:=p;exact PySem.W.kia_one PySem.W.kitx_dict I.kIn ⟨o,h1,h2.1⟩ e (fun z=>nomatch z) h
 | @dT a kvs ea =>
  sleep 41;obtain⟨u0,u0,xs,u0,o,es,ep,h1,h2,u0⟩:=(show wQ X.prog X.w H s.heap a (.dT kvs) from I.hok a _ ea)
  exact PySem.W.kia_one PySem.W.kitx_dict I.kIn ⟨o,h1,h2.1⟩ e (fun z=>nomatch z) h
 | @ins a C dx fs ea cl ha hn htk hm =>
  sleep 41;obtain⟨mA,O,u0⟩:=zP7 I.hok ea;obtain⟨od,J,u0⟩:=O.look;exact PySem.W.kia_one (PySem.W.kitx_own (cl.get _) cl.hd ha hn htk hm) I.kIn J e (fun z=>nomatch z) h
end
structure yZ (k:Nat) (A:Around):Prop where
 hd:A.handled=none
 dp:A.depth+3*k+5<recursionLimit
 un:A.units+16*k+200<cLine
theorem yZ.mono(r:yZ k A)(h:j<=k):yZ j A:=⟨r.hd,by have:=r.dp;omega,by have:=r.un;omega⟩
theorem yZ.deeper(r:yZ (k+1) A)(env:Env):yZ k (A.deeper env) :=
 ⟨r.hd,by have:=r.dp;show A.depth+1+3*k+5<_;omega,by have:=r.un;show A.units+3+16*k+200<_;omega⟩
theorem yZ.depth(r:yZ k A):A.depth<recursionLimit:=by have:=r.dp;omega
theorem yZ.units(r:yZ k A):A.units+64<cLine:=by have:=r.un;omega
noncomputable def zTx:TA:=fun u0 H Q=>Q [] H
noncomputable def zRk(ta:TE)(tr:TA):TA:=fun σ H Q=>ta σ H fun x H1=>tr σ H1 fun xs H2=>Q (x::xs) H2
section
variable {X:Cx} {e:Expr} {es:List Expr} {te:TE} {t:TA} {pos:Pos}
theorem zBH:PA X [] zTx:=fun u0 u0 u0 u0 H Q I h=>Calls.spliced_nil ⟨[],H,I,.nil,h⟩
theorem wZ(ha:PE X e te)(hr:PA X es t)(hs:11#0):PA X (e::es) (zRk te t):=by
 intro pos pins s σ H Q I h;rw[hs];show wpAny _ _ (spliced (21#0::backTo pos (starEach es X.env))) _ _ s;refine Calls.spliced_cons (yg (ha pins s σ H _ I h) fun u s1 u9=>?_);obtain⟨x,H1,I1,r1,q1⟩:=u9;exact yg (hr pos pins s1 σ H1 _ I1 q1) fun us s2 ⟨xs,H2,I2,r2,q2⟩=>⟨x::xs,H2,I2,.cons r1 r2,q2⟩
noncomputable def zUm(t:TA):TE:=fun σ H Q=>t σ H fun xs H1=>xs.length<=sizeLine/\∀ p,H1 p=none->Q (.ref p) (wY H1 p (.tup xs))
noncomputable def zUn(t:TA):TE:=fun σ H Q=>t σ H fun xs H1=>xs.length<=sizeLine/\∀ p,H1 p=none->Q (.ref p) (wY H1 p (.lst xs))
theorem zSf{x1}(h:PA X es t):PE X (.Tuple es x1 pos) (zUm t):=by
 intro pins s σ H Q I hq;refine wpAny_Tuple_spliced (yg (h pos pins s σ H _ I hq) fun us s1 ⟨xs,H1,I1,r,z,q⟩=>⟨by rw[<-r.length];exact z,?_⟩);have hf:H1 s1.heap.objs.size=none:=I1.hok.fresh (cr _);refine⟨.ref s1.heap.objs.size,wY H1 s1.heap.objs.size (.tup xs),I1.laid (t':=s1.toks) (fun b u e=>c9 _ e) (cr _) ?_,rfl,q _ hf⟩;exact⟨z,us,r,⟨_,cw _ rfl,rfl,⟨_,rfl⟩,rfl⟩⟩
theorem zSg(h:PA X es t):PE X (.List es pos) (zUn t):=by
 intro pins s σ H Q I hq;refine wpAny_List_spliced (yg (h pos pins s σ H _ I hq) fun us s1 ⟨xs,H1,I1,r,z,q⟩=>⟨by rw[<-r.length];exact z,?_⟩);have hf:H1 s1.heap.objs.size=none:=I1.hok.fresh (cr _);refine⟨.ref s1.heap.objs.size,wY H1 s1.heap.objs.size (.lst xs),I1.laid (t':=s1.toks) (fun b u e=>c9 _ e) (cr _) ?_,rfl,q _ hf⟩;exact⟨z,us,0,r,cw _ rfl⟩
end
noncomputable abbrev Sp:=List V->Hp->VK->XK->Prop
noncomputable abbrev CXT:=List Env->Hp->Shared->XK->Value->Shared->Prop
structure zP8 (P:Program) (w:World) (K:PySem.W.Frag) (mg:Str->Option Value) (base:Heap) (A:Around) (outer:List Env) (s:Shared) (H:Hp):Prop where
 frames:A.frames=some outer
 mod:Mod K mg base
 bs:∀ b o,base.get? b=some o->s.heap.get? b=some o/\H b=none
 bsz:base.objs.size<=s.heap.objs.size
 funs:s.heap.FunFrames base outer
 frf:∀ b∈frs outer,H b=none
 hok:HOk P w H s.heap
 bare:AllBare s.gens
 tb:TabsOk K H
noncomputable def CE(outer:List Env)(P:Program)(w:World)(H:Hp)(s:Shared)(Q:VK)(u:Value)(s':Shared):Prop :=
 ∃ v H',s'.os=s.os/\AllBare s'.gens/\Un (frs outer) [] H H' s.heap s'.heap/\HOk P w H' s'.heap/\RelV v u/\Q v H'
noncomputable def CR(CX:CXT)(outer:List Env)(P:Program)(w:World)(H:Hp)(s:Shared)(Q:VK)(E:XK)(r:Result)(s':Shared):Prop :=
 match r with
 | .ok (.ret u)=>CE outer P w H s Q u s'
 | .ok _=>False
 | .error e=>CX outer H s E e s'
structure zFY (P:Program) (w:World) (K:PySem.W.Frag) (mg:Str->Option Value) (base:Heap) (CX:CXT) (k:Nat) (f:Addr) (fd:FuncData) (ps:List Str) (sp:Sp):Prop where
 len:∀ vs H Q E,sp vs H Q E->vs.length=ps.length
 run:∀(A:Around) (outer:List Env) (s:Shared) (H:Hp) (args:Args) (us:40#0) (vs:List V) (Q:VK) (E:XK),yZ k A->zP8 P w K mg base A outer s H->BindsTo s fd args (ps.zip us)->zY vs us->sp vs H Q E ->
  codeAny (model P w) A (.call (.ref f) args) (CR CX outer P w H s Q E) s
section
variable {X:Cx} {pins:List (Addr×Obj)} {σ:St} {H:Hp} {s s':Shared}
theorem zV.env0(I:16#0):zP8 X.prog X.w X.K X.mg X.base X.A X.stack s H :=
 ⟨I.ok.frames,I.ok.mod,I.bs,dF I.ok.bsz I.sz,I.stack,I.stkFree,I.hok,I.bare,I.tabs⟩
theorem zV.after(I:16#0)(h:CE X.stack X.prog X.w H s Q u s'):EP X pins σ Q u s':=by
 obtain⟨v,H',os,bare,un,hok,r,q⟩:=h;obtain⟨hh,g,d,t,os'⟩:=s';obtain rfl:os'=s.os:=os;exact⟨v,H',I.call (h':=hh) (g':=g) (d':=d) (t':=t) (ch:=[]) un hok bare (fun b z=>absurd z 13#0),r,q⟩
end
noncomputable def zTy(sp:Sp)(dvs:List V)(E:XK)(t:TA):TE:=fun σ H Q=>t σ H fun vs H1=>sp (vs++dvs) H1 Q E
noncomputable def Binds(K:15#0)(fd:FuncData)(ps:List Str)(ds:40#0):Prop :=
 ∀(s:Shared) (us:40#0),K.In s.heap->(us++ds).length=ps.length->BindsTo s fd ⟨us,[]⟩ (ps.zip (us++ds))
theorem Binds.all{K:15#0}{fd:FuncData}{ps:List Str}(h:∀ us:List Value,us.length=ps.length->bindArgs fd ⟨us,[]⟩=pure (ps.zip us)):Binds K fd ps []:=fun s us u0 hl=>by
 rw[eW] at hl ⊢;exact .of_eq (h us hl)
noncomputable def zJy(CX:CXT)(X:Cx)(E:XK):Prop:=∀(pins:26#0) (σ:St) (H:Hp) (s:Shared) (e:Value) (s':Shared),zV X pins σ H s->CX X.stack H s E e s'->X.xe e s'
section
variable {X:Cx} {CX:CXT} {k:Nat} {f C:Addr} {fd:FuncData} {ps:List Str} {sp:Sp} {dvs:List V} {ds:List Value} {E:XK} {x m:Str} {p pos apos:Pos} {e o:Expr} {es:List Expr} {ta:TE} {t:TA}
theorem zSh{pins:26#0}{σ:St}{H:Hp}{s:Shared}{Q:VK}{us:40#0}{vs:List V}(F:zFY X.prog X.w X.K X.mg X.base CX k f fd ps sp)(hr:yZ k X.A)(hb:Binds X.K fd ps ds)(hd:zY dvs ds)(hx:zJy CX X E)
  (I:16#0) (r:zY vs us) (h:sp (vs++dvs) H Q E):wpAny 23#0 X.A (call (.ref f) us) (EP X pins σ Q) X.xe s:=by
 have r2:zY (vs++dvs) (us++ds):=r.append hd;have hl:(us++ds).length=ps.length:=by rw[<-r2.length];exact F.len _ _ _ _ h
 refine wpAny_call (eO (F.run X.A X.stack s H ⟨us,[]⟩ (us++ds) (vs++dvs) Q E hr I.env0 (hb s us I.kIn hl) r2 h) fun r s' hq=>?_);cases r with
 | error e=>exact hx pins σ H s e s' I hq
 | ok fl =>
  cases fl with
  | ret u=>exact I.after hq
  | next=>exact False.elim hq
  | brk=>exact False.elim hq
  | cont=>exact False.elim hq
theorem zK3(F:zFY X.prog X.w X.K X.mg X.base CX k f fd ps sp)(hr:yZ k X.A)(hg:Gl X x)(hm:X.mg x=some (.ref f))(hk:PySem.W.keepIn X.K (.ref f)=true)(hb:Binds X.K fd ps ds)(hd:zY dvs ds)(hx:zJy CX X E)
  (ha:PA X (e::es) t) (hdb:9#0) (he:11#0) (hpl:36#0) :
  PE X 98#0 (zTy sp dvs E t):=by
 sleep 25;refine eN (zK1 I hg hm ?_ hdb);refine PySem.W.callWith_K (h₀:=X.base) I.ok.mod.kin hk (yg (ha pos pins s σ H _ I h) fun us s1 ⟨vs,H1,I1,r,q⟩=>⟨I1.kIn,?_⟩) he hpl;exact zSh F hr hb hd hx I1 r q
end
section
variable {X:Cx} {CX:CXT} {k:Nat} {f C:Addr} {fd:FuncData} {ps ks:List Str} {sp:Sp} {E:XK} {x m:Str} {p pos apos kpos:Pos} {e o:Expr} {es:List Expr} {kws:List Keyword} {te ta:TE} {t tk:TA} {nm:Option Str}
variable {g:List Value->List Value->List Value} {gV:List V->List V->List V}
end
structure zT (N P:List Str) (sc:Scope):Prop where
 kind:sc.kind=.function
 co:sc.isCoroutine=false
 gen:sc.isGenerator=false
 nd:N.Nodup
 pre:N.take P.length=P
 par:∀ x∈P,sc.names.lookup x=some .local\/sc.names.lookup x=some .cell
 nofree:∀ y∈sc.names,y.2≠.free
theorem zGk{kindOf:Str->Option NameKind}{x:Str}:∀ {binds:List (Str×Value)} {m:83#0},(∀ v,(x,v)∉binds)->bindL kindOf binds m x=m x
 | [],_,_=>rfl
 | (n,v)::r,m,h=>by
  unfold bindL;rw[zGk fun w hw=>h w (cJ _ hw)];split
  ·have:x≠n:=by rintro rfl;exact h v cK
   simp[this]
  ·rfl
theorem zGl{kindOf:Str->Option NameKind}{x:Str}:∀ {binds:List (Str×Value)} {m:83#0},(∀ v,(x,v)∉binds)->bindC kindOf binds m x=m x
 | [],_,_=>rfl
 | (n,v)::r,m,h=>by
  unfold bindC;rw[zGl fun w hw=>h w (cJ _ hw)];split
  ·rfl
  ·have:x≠n:=by rintro rfl;exact h v cK
   simp[this]
theorem zGm{kindOf:Str->Option NameKind}{x:Str}{v:Value}:∀ {P:List Str} {vs:40#0} {i:Nat} {m:83#0},P.Nodup->P[i]?=some x->vs[i]?=some v->kindOf x=some .local ->
  bindL kindOf (P.zip vs) m x=some v
 | [],_,_,_,_,h,_,_=>by simp at h
 | _::_,[],_,_,_,_,h,_=>by simp at h
 | p::P,w::vs,0,m,nd,h1,h2,hk=>by
  simp at h1 h2;subst h1;subst h2;show bindL kindOf ((p,w)::P.zip vs) m p=_;unfold bindL;rw[zGk fun v hv=>(eR.mp nd).1 (List.of_mem_zip hv).1,if_pos hk];simp
 | p::P,w::vs,i+1,m,nd,h1,h2,hk=>by
  show bindL kindOf ((p,w)::P.zip vs) m x=_;unfold bindL;exact zGm (i:=i) (eR.mp nd).2 (by simpa using h1) (by simpa using h2) hk
theorem zGn{kindOf:Str->Option NameKind}{x:Str}{v:Value}:∀ {P:List Str} {vs:40#0} {i:Nat} {m:83#0},P.Nodup->P[i]?=some x->vs[i]?=some v->kindOf x≠some .local ->
  bindC kindOf (P.zip vs) m x=some v
 | [],_,_,_,_,h,_,_=>by simp at h
 | _::_,[],_,_,_,_,h,_=>by simp at h
 | p::P,w::vs,0,m,nd,h1,h2,hk=>by
  simp at h1 h2;subst h1;subst h2;show bindC kindOf ((p,w)::P.zip vs) m p=_;unfold bindC;rw[zGl fun v hv=>(eR.mp nd).1 (List.of_mem_zip hv).1,if_neg hk];simp
 | p::P,w::vs,i+1,m,nd,h1,h2,hk=>by
  show bindC kindOf ((p,w)::P.zip vs) m x=_;unfold bindC;exact zGn (i:=i) (eR.mp nd).2 (by simpa using h1) (by simpa using h2) hk
noncomputable def start(N:List Str)(vs:List V):St:=vs.map some++cN (N.length-vs.length) none
noncomputable def zHk(CX:CXT)(P:Program)(w:World)(K:15#0)(mg:83#0)(base:Heap)(N:List Str)(qual:Str)(scope:Scope)(f:Addr)(cd:Value)(A:Around)(outer:List Env)(s:Shared)(H:Hp)(E:XK):Cx where
 prog:=P
 w:=w
 K:=K
 mg:=mg
 base:=base
 A:=A.deeper (envOfC qual scope s.heap.objs.size f cd)
 N:=N
 s₀:=s
 H₀:=H
 env:=envOfC qual scope s.heap.objs.size f cd
 outer:=outer
 stack:=envOfC qual scope s.heap.objs.size f cd::outer
 ex:=[]
 calm:=true
 fn:=fun u0=>true
 pn:=[]
 xe:=fun e s'=>wpAny (model P w) (A.deeper (envOfC qual scope s.heap.objs.size f cd)) (leaving (envOfC qual scope s.heap.objs.size f cd) e) (fun u0 s''=>CX outer H s E e s'') (fun e' s''=>CX outer H s E e' s'') s'
theorem zIg{sc:Scope}{n:Nat}{x:Str}(h:sc.names.lookup x=some .cell):∃ c,(cellsFrom n sc.names []).lookup x=some c:=by
 have q:=PySem.W.cellsFrom_some sc.names n [] (.inl h);exact Option.isSome_iff_exists.mp q
theorem zMI{CX:CXT}{P:Program}{w:World}{K:15#0}{mg:83#0}{base:Heap}{N ps:List Str}{qual:Str}{scope:Scope}{f:Addr}{cd:Value}{A:Around}{outer:List Env}{s s1:Shared}{H:Hp}{E:XK}{us:40#0}{vs:List V}
  (S:zT N ps scope) (hd:92#0) (e0:zP8 P w K mg base A outer s H) (hl:vs.length=ps.length) (r:zY vs us)
  (x:InCallC s s.heap.objs.size (bindL (envOfC qual scope s.heap.objs.size f cd).kindOf (ps.zip us) fun u0=>none) (cellsFrom (s.heap.objs.size+1) scope.names []) (bindC (envOfC qual scope s.heap.objs.size f cd).kindOf (ps.zip us) fun u0=>none) s1) :
  zV (zHk CX P w K mg base N qual scope f cd A outer s H E) [] (start N vs) H s1:=by
 have hpl:ps.length<=N.length:=by have:=congrArg List.length S.pre;rw[cS] at this;omega
 obtain⟨h1,tk,rfl,hk⟩:=x.done;have noA:∀ b:Addr,b∉(zHk CX P w K mg base N qual scope f cd A outer s H E).ex:=fun b z=>absurd (show b∈([]:List Addr) from z) 13#0;refine⟨⟨e0.mod,S.kind,rfl,rfl,cr _,fun y z c h1 h2=>?_,fun y hy=>?_,fun y c u0 h=>?_,fun u0=>hd,Around.frames_deeper e0.frames,.inr ⟨rfl,rfl⟩,fun b z=>absurd z (noA b),e0.bs,e0.bsz,fun b u0 u0=>noA b,fun b z=>absurd z (noA b),e0.funs,e0.frf,e0.tb⟩,
  rfl,e0.bare,Un.kept hk,⟨_,x.toInCall.ns,fun i y v h1 h2 h3=>?_⟩,fun y c h=>⟨_,x.cell y c h⟩,e0.hok.fresh (cr _),fun y c h=>?_,fun p hp=>absurd (show p∈([]:List (Addr×Obj)) from hp) 13#0,e0.hok.kept hk,?_⟩
 ·exact name_of_addr x.apart (PySem.mem_of_lookup h1) (PySem.mem_of_lookup h2)
 ·have hy:scope.names.lookup y=some .cell\/scope.names.lookup y=some .free:=hy
  rcases hy with hy | hy
  ·exact zIg hy
  ·exact absurd rfl (S.nofree _ (PySem.mem_of_lookup hy))
 ·exact eY (x.above y c (PySem.mem_of_lookup h))
 ·have hi:i<vs.length:=by
   unfold start at h2;by_cases hi:i<vs.length
   ·exact hi
   ·rw[dh (by simpa using hi)] at h2
    rw[List.getElem?_replicate] at h2;split at h2<;>cases h2
  have ha:vs[i]?=some v:=by
   unfold start at h2;rw[du (by simpa using hi),cZ] at h2;cases e:vs[i]? with
   | none=>rw[e] at h2;cases h2
   | some a=>rw[e] at h2;cases h2;rfl
  obtain⟨u,hu,rv⟩:=r.get ha;have hp:ps[i]?=some y:=by
   rw[<-S.pre,List.getElem?_take_of_lt 1#0];exact h1
  have ndP:ps.Nodup:=by rw[<-S.pre];exact S.nd.sublist (List.take_sublist _ _)
  refine⟨u,rv,?_⟩;rcases S.par y (cW hp) with k | k
  ·exact .inl ⟨k,zGm ndP hp hu k⟩
  ·obtain⟨c,e⟩:=zIg (n:=s.heap.objs.size+1) k
   refine .inr ⟨.inl k,c,e,?_⟩;have q:=x.cell y c e;rw[zGn ndP hp hu (by show scope.names.lookup y≠_;rw[k];decide)] at q;exact q
 ·exact e0.hok.fresh (eY (x.above y c (PySem.mem_of_lookup h)))
 ·unfold start
  show _=N.length;rw[cD,cg,List.length_replicate];omega
theorem zTz{CX:CXT}{P:Program}{w:World}{K:15#0}{mg:83#0}{base:Heap}{k:Nat}{f:Addr}{name qual:Str}{params:Arguments}{body:List Stmt}{scope:Scope}{dV kV doc pm cdv ct oc:Value}{an od:Option Addr}
  {osl:Array (Option Value)} {N ps:List Str} {sp:Sp} (lk:K.lookup f=some ⟨oc,od,.func (PySem.W.fnOf name qual params body scope dV kV doc pm an cdv ct),osl⟩) (hcd:PySem.W.codeIn K cdv qual=true) (S:zT N ps scope)
  (len:∀ vs H Q E,sp vs H Q E->vs.length=ps.length)
  (hbody:∀(A:Around) (outer:List Env) (s:Shared) (H:Hp) (vs:List V) (Q:VK) (E:XK),yZ k (A.deeper (envOfC qual scope s.heap.objs.size f cdv))->sp vs H Q E ->
   ∃ t,PSs (zHk CX P w K mg base N qual scope f cdv A outer s H E) body t/\t { nx:=fun u0 H'=>Q .non H',rt:=Q } (start N vs) H) :
  zFY P w K mg base CX (k+1) f (PySem.W.fnOf name qual params body scope dV kV doc pm an cdv ct) ps sp:=by
 refine⟨len,fun A outer s H args us vs Q E hr e0 hb r hsp=>?_⟩;have hl:=len _ _ _ _ hsp;have KX:K.In s.heap:=e0.mod.kin.keeps fun b o e=>(e0.bs b o e).1;have lim:s.heap.NoLimit:=e0.mod.nolimit.keeps fun b o e=>(e0.bs b o e).1;have hkind:∀ y∈ps.zip us,scope.names.lookup y.1=some .local\/(scope.names.lookup y.1=some .cell/\((cellsFrom (s.heap.objs.size+1) scope.names []).lookup y.1).isSome=true):=fun⟨n,v⟩ hy=>by
  rcases S.par n (List.of_mem_zip hy).1 with q | q
  ·exact .inl q
  ·exact .inr ⟨q,PySem.W.cellsFrom_some _ _ _ (.inl q)⟩
 refine codeAny_call_function hr.depth (KX _ _ lk) rfl S.co S.gen rfl (PySem.W.codeRec_of KX hcd) (hb _ _ _ _ ?_);refine wpAny_newFunctionEnv_cells S.kind hkind fun env he s1 x=>?_;subst he;refine⟨lim.keeps x.toInCall.keep,codeAny_func ?_⟩;obtain⟨t,ht,hq⟩:=hbody A outer s H vs Q E (hr.deeper _) hsp;have I:zV (zHk CX P w K mg base N qual scope f cdv A outer s H E) [] (start N vs) H s1:=zMI S hr.hd e0 hl r x;refine wpAny_mono (ht [] s1 (start N vs) H _ I hq) (fun fl s' hs=>?_) fun e s' hs=>hs;have fin:∀ {σ':St} {H':Hp} {v:V} {u:Value},zV (zHk CX P w K mg base N qual scope f cdv A outer s H E) [] σ' H' s'->RelV v u->Q v H'->CE outer P w H s Q u s' :=
  fun {σ' H' v u} J rv q=>⟨v,H',J.os,J.bare,J.base,J.hok,rv,q⟩
 cases fl with
 | ret u =>
  obtain⟨v,σ',H',J,rv,q⟩:=hs;exact fin J rv q
 | next =>
  obtain⟨σ',H',J,q⟩:=hs;exact fin (v:=V.non) (u:=Value.none) J rfl q
 | brk =>
  obtain⟨u0,u0,u0,q⟩:=hs;exact False.elim q
 | cont =>
  obtain⟨u0,u0,u0,q⟩:=hs;exact False.elim q
section
variable {X:Cx} {x:Str} {p pos:Pos} {e:Expr} {es:List Expr} {t:TA} {id T:String} {r:List V->Hp->VK->Prop}
noncomputable def tCB(r:List V->Hp->VK->Prop)(t:TA):TE:=fun σ H Q=>t σ H fun vs H1=>r vs H1 Q
theorem zDU(hc:wC X (.builtin id) r)(hg:Gl X x)(hm:X.mg x=none)(hv:bootBuiltins x=some (.builtin id))(ha:PA X (e::es) t)(hn:56#0)(hdb:9#0)
  (he:11#0) (hpl:36#0):PE X 98#0 (tCB r t):=by
 sleep 25;refine eN (wy I hg hm hv ?_ hn hdb);exact PyProof.Rows.callWith_builtin1 (yg (ha pos pins s σ H _ I h) fun us s1 ⟨vs,H1,I1,r1,q1⟩=>hc pins s1 σ H1 vs us Q I1 r1 q1) he hpl
theorem zCc(hc:wC X (.type T) r)(hg:Gl X x)(hm:X.mg x=none)(hv:bootBuiltins x=some (.type T))(ha:PA X (e::es) t)(hn:56#0)(hdb:9#0)
  (he:11#0) (hpl:36#0):PE X 98#0 (tCB r t):=by
 sleep 25;refine eN (wy I hg hm hv ?_ hn hdb);exact PyProof.Rows.callWith_type1 (yg (ha pos pins s σ H _ I h) fun us s1 ⟨vs,H1,I1,r1,q1⟩=>hc pins s1 σ H1 vs us Q I1 r1 q1) he hpl
end
end L2
namespace HT
open PySem PyProof.Rows
noncomputable def lexLt:List Int->List Int->Bool
 | [],[]=>false
 | [],_::_=>true
 | _::_,[]=>false
 | x::xs,y::ys=>if x=y then lexLt xs ys else decide (x<y)
theorem zAo(x y:Int)(xs ys:129#0):lexLt (x::xs) (y::ys)=if x=y then lexLt xs ys else decide (x<y):=rfl
theorem zCx:lexLt [] []=false:=rfl
theorem wa(y:Int)(ys:129#0):lexLt [] (y::ys)=true:=rfl
theorem zCE(x:Int)(xs:129#0):lexLt (x::xs) []=false:=rfl
theorem zIh(A:Around)(s:Shared)(a:Int)(t:Tok)(c:Int)(u:Tok):∃ e,SeqAt.EqAt A s (.int a t) (.int c u) e/\(e=true↔a=c) :=
 ⟨(a==c),SeqAt.EqAt.int_int a t c u,by simp⟩
theorem zNf(A:Around)(s:Shared)(a:Int)(t:Tok)(c:Int)(u:Tok)(prog:Program)(w:World)(E:12#0)(Q:12#0)(h:Q (.bool (decide (a<c))) s) :
  wpAny 3#0 A (richCompare .Lt (.int a t) (.int c u)) Q E s :=
 (PyProof.Rows.lt_int h:wpAny 3#0 A (compareOp .Lt (.int a t) (.int c u)) Q E s)
section
open PySem.SeqAt
open PySem.MeetsSeq PySem.MeetsSeq2 PySem.MeetsSeq3
theorem zGb(l b:Addr)(items items2:102#0)(n n2:Nat)(dd dd2:Option Addr)(sl sl2:Array (Option Value))(ns ms:129#0)(hi:IntsAre items.toList ns)(hj:IntsAre items2.toList ms) :
  Meets (Builtin.«tuple.__lt__» ⟨[.ref l,.ref b],[]⟩)
   (fun u0 R s=>s.heap.get? l=some { cls:=.type "tuple",dict:=dd,data:=.seq items n,slots:=sl }/\s.heap.get? b=some { cls:=.type "tuple",dict:=dd2,data:=.seq items2 n2,slots:=sl2 } /\
    R (.ok (.ret (.bool (lexLt ns ms)))) s) :=
 .of_wp fun prog w A R s h=>by
  obtain⟨hp,g,d,tk,os⟩:=s;obtain⟨hl,hb,h⟩:=h;have f2:=AutoSeq1.sub_tuple_tuple;have z1:items.size=ns.length:=by rw[<-hi.length];simp
  have z2:items2.size=ms.length:=by rw[<-hj.length];simp
  wp_walk using wpAny_loadPart' hl,wpAny_loadPart' hb,wpAny_forIn_list _ (fun rest b s'=>b.1=none/\s'=⟨hp,g,d,tk,os⟩/\∃(vs ws:40#0) (ns' ms':129#0),rest=vs.zip ws /\
   IntsAre vs ns'/\IntsAre ws ms'/\ns'.length+items2.size=ms'.length+items.size/\R (.ok (.ret (.bool (lexLt ns' ms')))) ⟨hp,g,d,tk,os⟩) _
  case turn =>
   rintro⟨y,x⟩ rest b s' ⟨hb',rfl,vs,ws,ns',ms',hz,hvi,hwi,hlen,hR⟩;cases hvi with
   | nil=>rw[List.zip_nil_left] at hz;cases hz
   | cons a t hvi' =>
    cases hwi with
    | nil=>rw[List.zip_nil_right] at hz;cases hz
    | cons c u hwi' =>
     rw[List.zip_cons_cons] at hz;injection hz with hyx hrest
     injection hyx with hy hx
     subst hy hx;rw[zAo] at hR;simp only[cb] at hlen;obtain⟨e,he,hiff⟩:=zIh A.in1 ⟨hp,g,d,tk,os⟩ a t c u;refine bW (he prog w _ _ ?_);cases e with
     | true =>
      rw[if_pos (hiff.mp rfl)] at hR
      wp_walk
      exact⟨rfl,rfl,_,_,_,_,hrest,hvi',hwi',by omega,hR⟩
     | false =>
      rw[if_neg (fun q=>absurd (hiff.mpr q) eh)] at hR;have hri:=zNf A.in1 ⟨hp,g,d,tk,os⟩ a t c u prog w
      wp_walk using hri
      exact⟨_,rfl,by simpa using hR⟩
  case fin =>
   rintro⟨b1,b2⟩ s' ⟨hb',rfl,vs,ws,ns',ms',hz,hvi,hwi,hlen,hR⟩;simp only at hb';subst hb';have hv:lexLt ns' ms'=decide (items.size<items2.size):=by
    cases hvi with
    | nil =>
     cases hwi with
     | nil =>
      simp only[ci] at hlen;rw[zCx];exact(decide_eq_false 1#0).symm
     | cons c u hw =>
      simp only[ci,cb] at hlen;rw[wa];exact(decide_eq_true 1#0).symm
    | cons a t hv =>
     cases hwi with
     | nil =>
      simp only[ci,cb] at hlen;rw[zCE];exact(decide_eq_false 1#0).symm
     | cons c u hw =>
      rw[List.zip_cons_cons] at hz;cases hz
   rw[hv] at hR
   wp_walk
   exact⟨_,rfl,by simpa[Builtin.Tuple.tupleCompareSizes] using hR⟩
  case h =>
   exact⟨rfl,rfl,items.toList,items2.toList,ns,ms,rfl,hi,hj,by omega,h⟩
end
section
variable {prog:Program} {w:World} {A:Around} {E:Value->Shared->Prop} {s:Shared}
theorem zJz(hl:IsTup s.heap l items)(hb:IsTup s.heap b items2)(hi:IntsAre items.toList ns)(hj:IntsAre items2.toList ms)
  (hu:A.units<cLine) (h:Q (.bool (lexLt ns ms)) s):wpAny 3#0 A (compareOp .Lt (.ref l) (.ref b)) Q E s:=by
 obtain⟨⟨cls,dd,data,sl⟩,ho,hc,n,hd⟩:=id hl;sleep 20;exact richCompare_meets_room (op:=.Lt) ⟨_,ho,rfl⟩ ⟨_,ho2,rfl⟩ PySem.F.slot_tuple_lt PySem.F.entry_tuple_lt (PySem.F.args_tuple_lt_2 _ _) (zGb l b items items2 n n2 dd dd2 sl sl2 ns ms hi hj)
  ⟨ho,ho2,show Value.bool (lexLt ns ms)≠Value.notImplemented/\Q (.bool (lexLt ns ms)) s from⟨(fun x=>nomatch x),h⟩⟩ hu
theorem zP9(ht:IsTup s.heap t vs.toArray)(hb:IsTup s.heap b ws.toArray)(hv:vs≠[])
  (h1:ws=[]->Q (.ref t) s) (h2:ws≠[]->Q 17#0 { s with heap:=s.heap.push { cls:=.type "tuple",data:=.seq (vs++ws).toArray } })
  (hsz:vs.length+ws.length<=sizeLine):wpAny 3#0 A (binaryOp .Add (.ref t) (.ref b)) Q E s:=by
 obtain⟨⟨cls,dd,data,sl⟩,ho,hc,n,hd⟩:=id ht;sleep 20;have e:vs.toArray++ws.toArray=(vs++ws).toArray:=by simp
 by_cases hw:ws=[]
 ·exact concat_meets ⟨_,ho,rfl⟩ ⟨_,ho2,rfl⟩ noFill_tuple_add seq_tuple_add PySem.F.slot_tuple_add PySem.F.entry_tuple_add (PySem.F.args_tuple_add_2 _ _)
   (tuple_addW1 t b vs.toArray ws.toArray n n2 dd dd2 sl sl2 (by simpa using hv) (by simp[hw])) ⟨ho,ho2,h1 hw⟩
 ·refine concat_meets ⟨_,ho,rfl⟩ ⟨_,ho2,rfl⟩ noFill_tuple_add seq_tuple_add PySem.F.slot_tuple_add PySem.F.entry_tuple_add (PySem.F.args_tuple_add_2 _ _)
   (tuple_addW2 t b vs.toArray ws.toArray n n2 dd dd2 sl sl2 (by simpa using hv) (by simpa using hw) (by rw[cF,cF];exact hsz)) ⟨ho,ho2,?_⟩
  rw[e];exact h2 hw
noncomputable def wD(n d:Nat):Option Int->Nat
 | none=>d
 | some v=>if v<0 then (v+(n:Int)).toNat else min v.toNat n
theorem zIi(n d:Nat):wD n d none=d:=rfl
theorem zCd(n d k:Nat):wD n d (some (k:Int))=min k n:=by
 show(if (k:Int)<0 then ((k:Int)+(n:Int)).toNat else min (k:Int).toNat n)=min k n;rw[if_neg 1#0,Int.toNat_natCast]
theorem zSi(n d:Nat)(hd:d<=n)(o:Option Int):wD n d o<=n:=by
 cases o with
 | none=>exact hd
 | some v =>
  show(if v<0 then (v+(n:Int)).toNat else min v.toNat n)<=n;by_cases hv:v<0
  ·rw[if_pos hv];omega
  ·rw[if_neg hv];exact Nat.min_le_right _ _
theorem zK4(v:Int)(n d:Nat):(if v<0 then max (v+(n:Int)) 0 else min v (n:Int))=((wD n d (some v):Nat):Int):=by
 show(if v<0 then max (v+(n:Int)) 0 else min v (n:Int))=(((if v<0 then (v+(n:Int)).toNat else min v.toNat n):Nat):Int)
 by_cases hv:v<0
 ·simp only[if_pos hv];omega
 ·simp only[if_neg hv];omega
theorem zJ0(lo hi:Option Int)(n:Nat):Builtin.Slice.sliceAdjust lo hi 1 (n:Int)=(((wD n 0 lo:Nat):Int),((wD n n hi:Nat):Int)):=by
 have h1:¬ ((1:Int)<0):=by omega
 unfold Builtin.Slice.sliceAdjust;simp only[h1,if_false];refine Prod.ext ?_ ?_
 ·cases lo with
  | none=>rfl
  | some v=>exact zK4 v n 0
 ·cases hi with
  | none=>rfl
  | some v=>exact zK4 v n n
theorem zJ1(i j:Nat):Builtin.Slice.slicePlaces (i:Int) (j:Int) 1=j-i:=by
 unfold Builtin.Slice.slicePlaces;have h1:(1:Int)>0:=by omega
 simp only[h1,if_true,Int.ediv_one];split<;>omega
theorem zFZ(p:IsPart v o)(h:Q o s):wpAny 3#0 A (Builtin.Slice.slicePartIndex v) Q E s:=by
 cases p with
 | none=>exact slicePart_none h
 | int i t=>exact slicePart_int h
theorem zBL{sl:Addr}{vl vu:Value}{lo hi:Option Int}{n:Nat}{Q:Int×Int×Nat->Shared->Prop}(hs:s.heap.IsSliceOf sl vl vu .none)(pl:IsPart vl lo)(pu:IsPart vu hi)
  (h:Q (((wD n 0 lo:Nat):Int),1,wD n n hi-wD n 0 lo) s):wpAny 3#0 A (Builtin.Slice.sliceApplied (.ref sl) (pure (n:Int))) Q E s:=by
 obtain⟨os,hos,hcs,hds⟩:=id hs;unfold Builtin.Slice.sliceApplied Builtin.Slice.sliceFields;refine bW (bW (wpAny_field hos hds (x:=vl) rfl (bW (wpAny_field hos hds (x:=vu) rfl (bW (wpAny_field hos hds (x:=.none) rfl (cc ?_)))))));refine bW (slicePart_none ?_);show wpAny _ _ (if ((1:Int)==0)=true then _ else _) _ _ s;rw[if_neg 10#0];refine bW (zFZ pl (bW (zFZ pu (bW (cc ?_)))));show wpAny _ _ (match Builtin.Slice.sliceAdjust lo hi 1 (n:Int) with | (lo,hi)=>pure (lo,(1:Int),Builtin.Slice.slicePlaces lo hi 1)) _ _ s;rw[zJ0 lo hi n];show wpAny _ _ (pure (((wD n 0 lo:Nat):Int),(1:Int),Builtin.Slice.slicePlaces ((wD n 0 lo:Nat):Int) ((wD n n hi:Nat):Int) 1)) _ _ s;rw[zJ1];exact cc h
theorem zNg(xs:102#0)(i k:Nat):((cf k).filterMap fun(m:Nat)=>xs[((i:Int)+(m:Int)*1).toNat]?).toArray=((xs.toList.drop i).take k).toArray:=by
 have e:(fun(m:Nat)=>xs[((i:Int)+(m:Int)*1).toNat]?)=fun m=>xs[i+m]?:=by
  funext m;have:((i:Int)+(m:Int)*1).toNat=i+m:=by omega
  rw[this]
 rw[e];have:=pick_run xs i k;rw[List.filterMap_map] at this;have e2:((fun x=>xs[x]?)∘fun x=>i+x)=fun m=>xs[i+m]?:=rfl;rw[e2] at this;rw[this]
theorem zDV{t sl:Addr}{items:102#0}{vl vu:Value}{lo hi:Option Int}{Q:12#0}(ht:IsTup s.heap t items)(hs:s.heap.IsSliceOf sl vl vu .none)(pl:IsPart vl lo)(pu:IsPart vu hi)
  (hw:¬ (wD items.size 0 lo=0/\wD items.size items.size hi=items.size))
  (h:Q 17#0 { s with heap:=s.heap.push { cls:=.type "tuple",data:=.seq ((items.toList.drop (wD items.size 0 lo)).take (wD items.size items.size hi-wD items.size 0 lo)).toArray } })
  (hsz:items.size<=sizeLine):wpAny 3#0 A (getItem (.ref t) (.ref sl)) Q E s:=by
 have htake:sizeOk (.seq ((items.toList.drop (wD items.size 0 lo)).take (wD items.size items.size hi-wD items.size 0 lo)).toArray):=by
  show((items.toList.drop (wD items.size 0 lo)).take (wD items.size items.size hi-wD items.size 0 lo)).toArray.size<=sizeLine;rw[cF,cS,dN,cC];omega
 have hj:wD items.size items.size hi<=items.size:=zSi _ _ (cr _) hi;obtain⟨os,hos,hcs,hds⟩:=id hs;have hTs:s.TypeIs (.ref sl) "slice":=⟨os,hos,hcs⟩
 unfold getItem
 try with_reducible refine df ?_
 first | refine bW (cc ?_) | skip
 refine bW (wpAny_sequenceKey ht.typeIs 10#0 ?_);refine bW (wpAny_callSpecial?_slot (name:=Str.ofString "__getitem__") ht.typeIs PyProof.Rows.slot_tuple_getitem
  (dW PyProof.Rows.slot_tuple_getitem ht.typeIs entry_tuple_getitem ?_ (args_tuple_getitem _ _)))
 show wpAny _ _ (Builtin.Tuple.tupleItemsOf (.ref t)>>=_) _ _ s;refine bW (tupleItemsOf_ ht ?_);refine bW (f7 hTs ?_);rw[if_pos 10#0];refine bW (zBL hs pl pu ?_);have hno:¬ (45#0=true):=by
  intro q;rw[eS,eS] at q;have q1:((wD items.size 0 lo:Nat):Int)=0:=eq_of_beq q.1.1;have q2:wD items.size items.size hi-wD items.size 0 lo=items.size:=eq_of_beq q.2;exact hw 118#0
 show wpAny _ _ (if 45#0=true then _ else _) _ _ s;rw[if_neg hno,zNg]
 first
  | exact bW (m:=Builtin.Tuple.tupleExact _) (d8 (cc ⟨_,rfl,cc h⟩) htake)
  | exact bW (m:=Builtin.Tuple.tupleExact _) (d8 (bW (cc (cc ⟨_,rfl,cc h⟩))) htake)
  | exact bW (bW (m:=Builtin.Tuple.tupleExact _) (d8 (cc (cc ⟨_,rfl,cc h⟩)) htake))
  | exact bW (bW (m:=Builtin.Tuple.tupleExact _) (d8 (cc ⟨_,rfl,cc h⟩) htake))
end
end HT
namespace L2
noncomputable abbrev TO:=St->Hp->(Option Int->Hp->Prop)->Prop
noncomputable def PO(X:Cx)(e:Option Expr)(t:TO):Prop :=
 ∀(pins:26#0) (s:Shared) (σ:St) (H:Hp) (Q:Option Int->Hp->Prop),zV X pins σ H s->t σ H Q ->
  wpAny 23#0 X.A (evalPart e X.env) (fun u s'=>∃ o H',zV X pins σ H' s'/\IsPart u o/\Q o H') X.xe s
noncomputable def zQA:TO:=fun u0 H Q=>Q none H
noncomputable def zT0(t:TE):TO:=fun σ H Q=>t σ H fun x H1=>∃ i,x=.int i/\Q (some i) H1
theorem intsAre_of:∀ {us:40#0},zY (ns.map V.int) us->IntsAre us ns:=by
 induction ns with
 | nil=>intro us r;rw[List.map_nil] at r;cases r;exact .nil
 | cons n ns ih =>
  intro us r;rw[dq] at r;cases r with
  | cons r1 r2 =>
   obtain⟨t,e⟩:=r1;subst e;exact .cons n t (ih r2)
section
variable {X:Cx} {e:Expr} {te:TE} {lo hi:Option Expr} {tl th:TO} {pos p2:Pos}
theorem zQB:PO X none zQA:=by
 sleep 25;rw[evalPart_none];exact cc ⟨none,H,I,.none,h⟩
theorem zQC(h:PE X e te):PO X (some e) (zT0 te):=by
 intro pins s σ H Q I hw;rw[evalPart_some];refine yg (h pins s σ H _ I hw) fun u s1 u9=>?_;obtain⟨x,H1,I1,r1,q1⟩:=u9;obtain⟨i,rfl,q⟩:=q1;obtain⟨t,rfl⟩:=r1;exact⟨some i,H1,I1,.int i t,q⟩
noncomputable def SlR(X:Cx)(r:V->Option Int->Option Int->Hp->VK->Prop):Prop :=
 ∀(pins:26#0) (s:Shared) (σ:St) (H:Hp) (x:V) (v vl vu:Value) (lo hi:Option Int) (sl:Addr) (Q:VK),zV X pins σ H s->RelV x v->s.heap.IsSliceOf sl vl vu .none->IsPart vl lo->IsPart vu hi->r x lo hi H Q ->
  ∃ T id,typeLookup (.type T) "__getitem__"=pure (some (.builtin id))/\s.TypeIs v T/\wpAny 23#0 X.A (getItem v (.ref sl)) (EP X pins σ Q) X.xe s
theorem SlR.or(h:SlR X r)(h':SlR X r'):SlR X (fun x lo hi H Q=>r x lo hi H Q\/r' x lo hi H Q):=by
 intro pins s σ H x v vl vu lo hi sl Q I rx hs pl pu q;rcases q with q | q
 ·exact h pins s σ H x v vl vu lo hi sl Q I rx hs pl pu q
 ·exact h' pins s σ H x v vl vu lo hi sl Q I rx hs pl pu q
noncomputable def tSl(r:V->Option Int->Option Int->Hp->VK->Prop)(te:TE)(tl th:TO):TE:=fun σ H Q=>te σ H fun x H1=>tl σ H1 fun l H2=>th σ H2 fun u H3=>r x l u H3 Q
theorem zIj(hr:SlR X r)(he:PE X e te)(hl:PO X lo tl)(hu:PO X hi th):PE X (.Subscript e (.Slice lo hi none p2) pos) (tSl r te tl th):=by
 sleep 25;refine Subscript_ (yg (he pins s σ H _ I h) fun v s1 u9=>?_);obtain⟨x,H1,I1,r1,q1⟩:=u9;refine wpAny_Slice (yg (hl pins s1 σ H1 _ I1 q1) fun vl s2 ⟨l,H2,I2,pl,q2⟩=>yg (hu pins s2 σ H2 _ I2 q2) fun vu s3 u9=>?_);obtain⟨u,H3,I3,pu,q3⟩:=u9;rw[evalPart_none];refine cc ?_;have I4:zV X pins σ H3 { s3 with heap:=s3.heap.push { cls:=.type "slice",data:=.fields #[vl,vu,.none] } }:=I3.kept (t':=s3.toks) fun b ob q=>c9 _ q;obtain⟨T,id,hT,ht,hg⟩:=hr pins { s3 with heap:=s3.heap.push { cls:=.type "slice",data:=.fields #[vl,vu,.none] } } σ H3 x v vl vu l u s3.heap.objs.size Q I4 r1 (Heap.IsSliceOf.new ..) pl pu q3;show wpAny 23#0 X.A (subscriptTail e (.Slice lo hi none p2) v (.ref s3.heap.objs.size)) (EP X pins σ Q) X.xe { s3 with heap:=s3.heap.push { cls:=.type "slice",data:=.fields #[vl,vu,.none] } };exact tail_any (ops:=[.ref s3.heap.objs.size,v]) ht hT hg (by with_unfolding_all rfl)
noncomputable def zIk(xs:List V)(lo hi:Option Int):List V:=(xs.drop (HT.wD xs.length 0 lo)).take 126#0
theorem zEf(xs:List V)(lo hi:Option Int):(zIk xs lo hi).length<=xs.length:=by
 unfold zIk;rw[cS,dN];omega
noncomputable def zUo(K:15#0):V->Option Int->Option Int->Hp->VK->Prop:=fun x lo hi H Q=>∃ a xs,x=.ref a/\SqT K H a xs /\
 ¬ (HT.wD xs.length 0 lo=0/\HT.wD xs.length xs.length hi=xs.length)/\∀ p,H p=none->Q (.ref p) (wY H p (.tup (zIk xs lo hi)))
theorem zSj:SlR X (zUo X.K):=by
 intro pins s σ H x v vl vu lo hi sl Q I rx hs pl pu h;obtain⟨a,xs,rfl,hx,hw,q⟩:=h;cases rx;obtain⟨its,r,ht,hz⟩:=I.tuple hx;have hlen:its.toArray.size=xs.length:=by rw[cF];exact r.length.symm
 refine⟨"tuple",_,PyProof.Rows.slot_tuple_getitem.lookup,ht.typeIs,?_⟩;refine HT.zDV ht hs pl pu (by rw[hlen];exact hw) ?_ (by rw[hlen];exact hz);rw[hlen];refine⟨.ref s.heap.objs.size,_,I.laid (t':=s.toks) (o:=.tup (zIk xs lo hi)) (fun b ob q=>c9 _ q) (cr _) ?_,rfl,q _ (I.hok.fresh (cr _))⟩;exact⟨dF (zEf xs lo hi) hz,_,(r.drop (HT.wD xs.length 0 lo)).take 126#0,zEx.new _ _⟩
noncomputable def zRl(K:15#0):R2:=fun x y H Q=>∃ a b xs ys,x=.ref a/\y=.ref b/\SqT K H a xs/\SqT K H b ys/\xs≠[]/\xs.length+ys.length<=sizeLine /\
 (ys=[]->Q (.ref a) H)/\(ys≠[]->∀ p,H p=none->Q (.ref p) (wY H p (.tup (xs++ys))))
theorem zY.nil_iff(r:zY xs us):us=[]↔xs=[]:=by
 cases r with
 | nil=>simp
 | cons _ _=>simp
theorem zQD:OpR X (binaryOp .Add) (zRl X.K):=by
 sleep 5;obtain⟨a,b,xs,ys,rfl,rfl,ha,hb,hx,hz,q1,q2⟩:=h;cases rx;cases ry;obtain⟨its,r1,p1,u0⟩:=I.tuple ha;obtain⟨its2,r2,p2,u0⟩:=I.tuple hb;refine HT.zP9 p1 p2 (fun z=>hx (r1.nil_iff.mp z)) (fun z=>⟨.ref a,H,I,rfl,q1 (r2.nil_iff.mp z)⟩) (fun z=>?_) (by rw[<-r1.length,<-r2.length];exact hz);refine⟨.ref s.heap.objs.size,_,I.laid (t':=s.toks) (o:=.tup (xs++ys)) (fun b ob q=>c9 _ q) (cr _) ?_,rfl,q2 (fun w=>z (r2.nil_iff.mpr w)) _ (I.hok.fresh (cr _))⟩;exact⟨by rw[cD];exact hz,_,r1.append r2,zEx.new _ _⟩
end
noncomputable def ixN(n:Nat)(i:Int):Option Nat:=if 0<=i then (if i<n then some i.toNat else none) else if -(n:Int)<=i then some (i+n).toNat else none
noncomputable def atI{α:Type}(xs:List α)(i:Int):Option α:=(ixN xs.length i).bind fun j=>xs[j]?
theorem zK5(h:ixN n i=some j):seqIndex? i n=some j/\j<n/\-(n:Int)<=i/\i<n:=by
 unfold ixN at h;by_cases h0:0<=i
 ·rw[if_pos h0] at h
  by_cases h1:i<n
  ·rw[if_pos h1] at h
   have e:i.toNat=j:=Option.some.inj h;exact⟨by rw[seqIndex_of h0 h1,e],by omega,by omega,h1⟩
  ·rw[if_neg h1] at h;cases h
 ·rw[if_neg h0] at h
  by_cases h1:-(n:Int)<=i
  ·rw[if_pos h1] at h
   have e:(i+n).toNat=j:=Option.some.inj h;exact⟨by rw[seqIndex_neg 1#0 h1,e],by omega,h1,by omega⟩
  ·rw[if_neg h1] at h;cases h
theorem zK6{α:Type}{xs:List α}{i:Int}{v:α}(h:atI xs i=some v):∃ j,seqIndex? i xs.length=some j/\xs[j]?=some v/\j<xs.length/\-(xs.length:Int)<=i/\i<xs.length:=by
 unfold atI at h;cases e:ixN xs.length i with
 | none=>rw[e] at h;cases h
 | some j =>
  rw[e] at h;obtain⟨h1,h2,h3,h4⟩:=zK5 e;exact⟨j,h1,h,h2,h3,h4⟩
theorem zA1{α:Type}{xs:List α}{j:Nat}{v:α}(h:xs[j]?=some v):atI xs (j:Int)=some v:=by
 have hj:j<xs.length:=(cu.mp h).1;have e:ixN xs.length (j:Int)=some j:=by
  unfold ixN;rw[if_pos 1#0,if_pos 1#0];simp
 unfold atI;rw[e];exact h
noncomputable def zK7(b:Expr):Prop:=∀ o i,subscripted b false o i=operate [o,i] (getItem o i)
noncomputable def IxR(X:Cx)(r:R2):Prop :=
 ∀(value slice:Expr) (pins:26#0) (s:Shared) (σ:St) (H:Hp) (x y:V) (v u:Value) (Q:VK),zV X pins σ H s->RelV x v->RelV y u->r x y H Q ->
  subscripted slice false v u=operate [v,u] (getItem v u)->wpAny 23#0 X.A (subscriptTail value slice v u) (EP X pins σ Q) X.xe s
noncomputable def MtR(X:Cx)(id:String)(r:V->List V->Hp->VK->Prop):Prop :=
 ∀(pins:26#0) (s:Shared) (σ:St) (H:Hp) (x:V) (xs:List V) (v:Value) (us:40#0) (Q:VK),zV X pins σ H s->RelV x v->zY xs us->r x xs H Q ->
  wpAny 23#0 X.A (call (.builtin id) (v::us)) (EP X pins σ Q) X.xe s
section
variable {X:Cx} {a b:Expr} {ta tb:TE} {pos:Pos}
theorem IxR.or(h:IxR X r)(h':IxR X r'):IxR X (fun x y H Q=>r x y H Q\/r' x y H Q):=by
 intro value slice pins s σ H x y v u Q I rx ry q hs;rcases q with q | q
 ·exact h value slice pins s σ H x y v u Q I rx ry q hs
 ·exact h' value slice pins s σ H x y v u Q I rx ry q hs
theorem MtR.or{id:String}{r r':V->List V->Hp->VK->Prop}(h:MtR X id r)(h':MtR X id r'):MtR X id (fun x xs H Q=>r x xs H Q\/r' x xs H Q):=by
 intro pins s σ H x xs v us Q I rx rs q;rcases q with q | q
 ·exact h pins s σ H x xs v us Q I rx rs q
 ·exact h' pins s σ H x xs v us Q I rx rs q
theorem zT1(hr:IxR X r)(ha:PE X a ta)(hb:PE X b tb)(hs:zK7 b):PE X (.Subscript a b pos) (tOp r ta tb):=by
 sleep 25;exact Subscript_ (zSV ha hb I h fun v u s2 x y H2 I2 rx ry q=>hr a b pins s2 σ H2 x y v u Q I2 rx ry q (hs _ _))
noncomputable def zT2(K:15#0):R2:=fun x y H Q=>∃ p xs i v,x=.ref p/\y=.int i/\SqL K H p xs/\atI xs i=some v/\Q v H
noncomputable def zT3(K:15#0):R2:=fun x y H Q=>∃ p xs i v,x=.ref p/\y=.int i/\SqT K H p xs/\atI xs i=some v/\Q v H
theorem zQE:IxR X (zT2 X.K):=by
 intro value slice pins s σ H x y v u Q I rx ry h hs;obtain⟨p,xs,i,z,rfl,rfl,hq,he,q⟩:=h;cases rx;obtain⟨t,rfl⟩:=ry;obtain⟨its,r,pl,hz⟩:=I.list hq;obtain⟨j,h1,h2,h3,h4,h5⟩:=zK6 he;obtain⟨w,ew,rw'⟩:=r.get h2;have hl:=r.length;have hn:=zHj;have fin:EP X pins σ Q w s:=⟨z,H,I,rw',q⟩
 by_cases h0:0<=i
 ·have hj:i.toNat=j:=by
   rw[seqIndex_of h0 h5] at h1;exact Option.some.inj h1
  exact item_listR pl.isList h0 1#0 (by rw[hj];simpa using ew) fin hs
 ·have hj:(i+(its.toArray.size:Int)).toNat=j:=by
   rw[seqIndex_neg 1#0 h4] at h1;rw[cF,<-hl];exact Option.some.inj h1
  exact subscriptTail_builtinR (x:=w) pl.isList.typeIs slot_list_getitem.lookup
   (wpAny_getItem_list_neg (Q:=fun r s'=>r=w/\EP X pins σ Q r s') pl.isList 1#0 (by rw[cF]<;>omega) 1#0 (by rw[hj];simpa using ew) ⟨rfl,fin⟩) hs
theorem zSk:IxR X (zT3 X.K):=by
 intro value slice pins s σ H x y v u Q I rx ry h hs;obtain⟨p,xs,i,z,rfl,rfl,hq,he,q⟩:=h;cases rx;obtain⟨t,rfl⟩:=ry;obtain⟨its,r,pl,hz⟩:=I.tuple hq;obtain⟨j,h1,h2,h3,h4,h5⟩:=zK6 he;obtain⟨w,ew,rw'⟩:=r.get h2;have hl:=r.length;have hn:=zHj;have fin:EP X pins σ Q w s:=⟨z,H,I,rw',q⟩
 exact subscriptTail_builtinR (x:=w) pl.typeIs slot_tuple_getitem.lookup
  (getItem_tuple (j:=j) (Q:=fun r s'=>r=w/\EP X pins σ Q r s') pl 1#0 1#0 (by rw[cF,<-hl];exact h1) (by simpa using ew) ⟨rfl,fin⟩) hs
theorem zJ2(its:40#0)(n j:Nat)(u:Value):Obj.mapSeq (·.setIfInBounds j u) { cls:=.type "list",data:=.seq its.toArray n }={ cls:=.type "list",data:=.seq (its.set j u).toArray n }:=by
 simp[Obj.mapSeq]
theorem zV.lst{pins:26#0}{σ:St}{H:Hp}{s:Shared}{p:Addr}{xs:List V}(I:16#0)(h:H p=some (.lst xs)) :
  ∃(its:40#0) (n:Nat),zY xs its/\s.heap.get? p=some { cls:=.type "list",data:=.seq its.toArray n }/\xs.length<=sizeLine:=by
 obtain⟨z,its,n,r,e⟩:=I.hok p _ h;exact⟨its,n,r,e,z⟩
theorem zV.lstUpd{pins:26#0}{σ:St}{H:Hp}{s:Shared}{p:Addr}{xs ys:List V}{its its':40#0}{n n':Nat}{f:Obj->Obj}(I:16#0)(h:H p=some (.lst xs))
  (ho:s.heap.get? p=some { cls:=.type "list",data:=.seq its.toArray n }) (hf:f { cls:=.type "list",data:=.seq its.toArray n }={ cls:=.type "list",data:=.seq its'.toArray n' }) (r:zY ys its') (hz:ys.length<=sizeLine) (t:Nat) :
  zV X pins σ (wY H p (.lst ys)) { s with heap:=s.heap.update p f,toks:=t }:=by
 have e:(s.heap.update p f).get? p=some { cls:=.type "list",data:=.seq its'.toArray n' }:=by
  rw[dk f ho (by rw[hf]<;>rfl),hf]
 refine I.write (x:=p) (e:=p) (by rw[h];trivial) (.inl rfl) (fun b u hb q=>(cT _ _ (Ne.symm hb)).trans q) ⟨_,e⟩ ?_;exact⟨hz,its',n',r,e⟩
noncomputable def zT4:V->V->V->Hp->(Hp->Prop)->Prop:=fun o i v H Q=>∃ p xs k j,o=.ref p/\i=.int k/\H p=some (.lst xs)/\ixN xs.length k=some j/\Q (wY H p (.lst (xs.set j v)))
theorem set_list:zTr X zT4:=by
 intro pins s σ H o i v ov iv u Q I ro ri rv h;obtain⟨p,xs,k,j,rfl,rfl,hp,hj,q⟩:=h;cases ro;obtain⟨t,rfl⟩:=ri;obtain⟨its,n,r,ho,hz⟩:=I.lst hp;obtain⟨h1,h2,h3,h4⟩:=zK5 hj;have hl:=r.length;have hn:=zHj;have I':zV X pins σ (wY H p (.lst (xs.set j v))) { s with heap:=s.heap.update p (Obj.mapSeq (·.setIfInBounds j u)) } :=
  I.lstUpd hp ho (zJ2 its n j u) (r.set rv j) (by rw[List.length_set];exact hz) s.toks
 by_cases h0:0<=k
 ·have hk:k.toNat=j:=by
   rw[seqIndex_of h0 h4] at h1;exact Option.some.inj h1
  exact PySem.W.ki_setAt ho h0 1#0 (by rw[cF,<-hl];exact h4) (by rw[hk];exact⟨_,I',q⟩)
 ·have hk:(k+(its.toArray.size:Int)).toNat=j:=by
   rw[seqIndex_neg 1#0 h3] at h1;rw[cF,<-hl];exact Option.some.inj h1
  exact PySem.W.ki_setBack ho 1#0 (by rw[cF,<-hl];exact h3) 1#0 (by rw[hk];exact⟨_,I',q⟩)
theorem zHl(lo hi:Option Int)(n:Nat):(sliceBounds lo hi none n).1=((HT.wD n 0 lo:Nat):Int)/\(sliceBounds lo hi none n).2.1=((HT.wD n n hi:Nat):Int)/\(sliceBounds lo hi none n).2.2=1:=by
 refine⟨?_,?_,rfl⟩
 ·cases lo with
  | none=>simp[sliceBounds,HT.wD]
  | some i =>
   simp only[sliceBounds,HT.wD,Option.getD_none,show(1:Int)>0 by decide,if_true];by_cases h:i<0
   ·simp only[h,if_true]<;>omega
   ·simp only[h,if_false]<;>omega
 ·cases hi with
  | none=>simp[sliceBounds,HT.wD]
  | some i =>
   simp only[sliceBounds,HT.wD,Option.getD_none,show(1:Int)>0 by decide,if_true];by_cases h:i<0
   ·simp only[h,if_true]<;>omega
   ·simp only[h,if_false]<;>omega
theorem zGc(its:40#0)(lo hi:Option Int):slicePick its.toArray lo hi none=((its.drop (HT.wD its.length 0 lo)).take (HT.wD its.length its.length hi-HT.wD its.length 0 lo)).toArray:=by
 obtain⟨h1,h2,h3⟩:=zHl lo hi its.toArray.size;unfold slicePick;rw[h1,h2,h3];simp only[sliceRange_one,pick_run,cF]<;>rfl
noncomputable def zUp(K:15#0):V->Option Int->Option Int->Hp->VK->Prop:=fun x lo hi H Q=>∃ a xs,x=.ref a/\SqL K H a xs/\∀ p,H p=none->Q (.ref p) (wY H p (.lst (zIk xs lo hi)))
theorem zQF:SlR X (zUp X.K):=by
 intro pins s σ H x v vl vu lo hi sl Q I rx hs pl pu h;obtain⟨a,xs,rfl,hx,q⟩:=h;cases rx;obtain⟨its,r,ht,hz⟩:=I.list hx;have hlen:=r.length;refine⟨"list",_,slot_list_getitem.lookup,ht.isList.typeIs,?_⟩;refine wpAny_getItem_list_slice ht.isList hs pl pu .none 13#0 ?_ (by rw[cF]<;>omega);rw[zGc,<-hlen];refine⟨.ref s.heap.objs.size,_,I.laid (t':=s.toks) (o:=.lst (zIk xs lo hi)) (fun b ob q=>c9 _ q) (cr _) ?_,rfl,q _ (I.hok.fresh (cr _))⟩;exact⟨dF (zEf xs lo hi) hz,_,0,(r.drop (HT.wD xs.length 0 lo)).take 126#0,cw _ rfl⟩
noncomputable def zK8:V->Bool
 | .non=>true
 | .bl _=>true
 | .int _=>true
 | .str _=>true
 | _=>false
noncomputable def eqV:V->V->Bool
 | .non,.non=>true
 | .bl a,.bl b=>a==b
 | .bl a,.int b=>(if a then 1 else 0)==b
 | .int a,.bl b=>a==(if b then 1 else 0)
 | .int a,.int b=>a==b
 | .str a,.str b=>a==b
 | _,_=>false
theorem zNh(ry:RelV y u)(rx:RelV x v)(fy:zK8 y=true)(fx:zK8 x=true):SeqAt.EqAt A s u v (eqV y x):=by
 cases y with
 | non =>
  cases ry;cases x with
  | non=>cases rx;exact SeqAt.EqAt.same _
  | bl b=>cases rx;exact SeqAt.EqAt.none_bool b
  | int b=>obtain⟨t,rfl⟩:=rx;exact SeqAt.EqAt.none_int b t
  | str b=>obtain⟨t,rfl⟩:=rx;exact SeqAt.EqAt.none_str b t
  | _=>exact absurd (show false=true from fx) eh
 | bl a =>
  cases ry;cases x with
  | non=>cases rx;exact SeqAt.EqAt.bool_none a
  | bl b=>cases rx;exact SeqAt.EqAt.bool_bool a b
  | int b=>obtain⟨t,rfl⟩:=rx;exact SeqAt.EqAt.bool_int a b t
  | str b=>obtain⟨t,rfl⟩:=rx;exact SeqAt.EqAt.bool_str a b t
  | _=>exact absurd (show false=true from fx) eh
 | int a =>
  obtain⟨t',rfl⟩:=ry;cases x with
  | non=>cases rx;exact SeqAt.EqAt.int_none a t'
  | bl b=>cases rx;exact SeqAt.EqAt.int_bool a t' b
  | int b=>obtain⟨t,rfl⟩:=rx;exact SeqAt.EqAt.int_int a t' b t
  | str b=>obtain⟨t,rfl⟩:=rx;exact SeqAt.EqAt.int_str a t' b t
  | _=>exact absurd (show false=true from fx) eh
 | str a =>
  obtain⟨t',rfl⟩:=ry;cases x with
  | non=>cases rx;exact SeqAt.EqAt.str_none a t'
  | bl b=>cases rx;exact SeqAt.EqAt.str_bool a t' b
  | int b=>obtain⟨t,rfl⟩:=rx;exact SeqAt.EqAt.str_int a t' b t
  | str b=>obtain⟨t,rfl⟩:=rx;exact SeqAt.EqAt.str_str a t' b t
  | _=>exact absurd (show false=true from fx) eh
 | _=>exact absurd (show false=true from fy) eh
theorem zHm:wC X (.builtin "len") (fun xs H Q=>∃ p ys,xs=[.ref p]/\(SqL X.K H p ys\/SqT X.K H p ys)/\Q (.int ys.length) H):=by
 sleep 26;obtain⟨p,ys,rfl,hq,q⟩:=h;obtain⟨u,rfl,rx⟩:=vals1 r;cases rx;have hn:=zHj;rcases hq with hq | hq
 ·obtain⟨its,r',pl,hz⟩:=I.list hq
  have hlen:=r'.length;exact Calls.call_len_list pl.isList (by simp only[cF]<;>omega) ⟨.int ys.length,H,I.tok _,⟨s.toks+1,by rw[cF,hlen]⟩,q⟩
 ·obtain⟨its,r',pl,hz⟩:=I.tuple hq
  have hlen:=r'.length;exact len_tuple pl (by simp only[cF]<;>omega) ⟨.int ys.length,H,I.tok _,⟨s.toks+1,by rw[cF,hlen]⟩,q⟩
theorem wC.or(h:wC X f r)(h':wC X f r'):wC X f (fun xs H Q=>r xs H Q\/r' xs H Q):=by
 intro pins s σ H xs us Q I rs q;rcases q with q | q
 ·exact h pins s σ H xs us Q I rs q
 ·exact h' pins s σ H xs us Q I rs q
theorem zCy:wC X (.type "tuple") (fun xs H Q=>∃ p ys,xs=[.ref p]/\((SqL X.K H p ys/\∀ l,H l=none->Q (.ref l) (wY H l (.tup ys)))\/(SqT X.K H p ys/\Q (.ref p) H))):=by
 sleep 26;obtain⟨p,ys,rfl,h⟩:=h;obtain⟨u,rfl,rx⟩:=vals1 r;cases rx;rcases h with ⟨hq,q⟩ | ⟨hq,q⟩
 ·obtain⟨its,r',pl,hz⟩:=I.list hq
  have hlen:=r'.length;refine call_tuple_list pl.isList (fun h' kp=>?_) (by simp only[cF]<;>omega);have I1:zV X pins σ H { s with heap:=h' }:=I.kept (t':=s.toks) kp;have I2:zV X pins σ (wY H h'.objs.size (.tup ys)) { s with heap:=h'.push { cls:=.type "tuple",data:=.seq its.toArray } } :=
   I1.laid (t':=s.toks) (fun b o e=>c9 _ e) (cr _) (show wQ X.prog X.w _ _ _ (.tup ys) from⟨hz,its,r',zEx.new _ _⟩)
  exact⟨.ref h'.objs.size,_,I2,rfl,q _ (I1.hok.fresh (cr _))⟩
 ·obtain⟨its,r',pl,hz⟩:=I.tuple hq
  exact call_tuple_same pl ⟨.ref p,H,I,rfl,q⟩
noncomputable def tyV(K:15#0)(T:String)(x:V)(H:Hp):Prop:=match x with
 | .str _=>T="str"
 | .int _=>T="int"
 | .ref p=>(T="list"/\∃ xs,SqL K H p xs)\/(T="tuple"/\∃ xs,SqT K H p xs) \/
   (T="dict"/\((∃ kvs,H p=some (.dK kvs))\/∃ kvs,H p=some (.dT kvs)))\/(T="set"/\∃ S n,H p=some (.set S n))
 | _=>False
theorem zNi{pins:26#0}{σ:St}{H:Hp}{s:Shared}{T:String}{x:V}{v:Value}(I:16#0)(r:RelV x v)(ty:tyV X.K T x H) :
  s.TypeIs v T/\∀ a,v=.ref a->∃ ob,s.heap.get? a=some ob/\ob.dict=none:=by
 cases x with
 | str z =>
  obtain⟨t,rfl⟩:=r;cases (show T="str" from ty);exact⟨typeIs_str s z t,fun u0 e=>nomatch e⟩
 | int i =>
  obtain⟨t,rfl⟩:=r;cases (show T="int" from ty);exact⟨typeIs_int s i t,fun u0 e=>nomatch e⟩
 | ref p =>
  cases r;rcases ty with ⟨rfl,xs,hq⟩ | ⟨rfl,xs,hq⟩ | ⟨rfl,hk⟩ | ⟨rfl,S,n,hk⟩
  ·obtain⟨its,u0,pl,u0⟩:=I.list hq
   refine⟨pl.isList.typeIs,fun a e=>?_⟩;cases e;obtain⟨o,n,e,c,hd,u0⟩:=pl;exact⟨o,e,hd⟩
  ·obtain⟨h1,o,h2,h3⟩:=I.noDict hq
   refine⟨h1,fun a e=>?_⟩;cases e;exact⟨o,h2,h3⟩
  ·have z:∃ o,s.heap.get? p=some o/\o.ExactDict:=by
    rcases hk with ⟨kvs,hk⟩ | ⟨kvs,hk⟩
    ·obtain⟨u0,u0,u0,u0,o,u0,u0,e,ex,u0⟩:=I.hok p _ hk
     exact⟨o,e,ex⟩
    ·obtain⟨u0,u0,u0,u0,o,u0,u0,e,ex,u0⟩:=I.hok p _ hk
     exact⟨o,e,ex⟩
   obtain⟨o,e,ex⟩:=z;refine⟨⟨o,e,ex.1⟩,fun a e2=>?_⟩;cases e2;exact⟨o,e,ex.2.1⟩
  ·obtain⟨o,u0,u0,u0,e,ex,u0⟩:=I.hok p _ hk
   refine⟨⟨o,e,ex.1⟩,fun a e2=>?_⟩;cases e2;exact⟨o,e,ex.2.1⟩
 | _=>exact False.elim ty
noncomputable def tBM(K:15#0)(T:String)(r:V->List V->Hp->VK->Prop)(to:TE)(t:TA):TE:=fun σ H Q=>to σ H fun x H1=>tyV K T x H1/\t σ H1 fun xs H2=>r x xs H2 Q
variable {o e:Expr} {es:List Expr} {to:TE} {t:TA} {name:Str} {apos cpos:Pos} {T id:String} {r:V->List V->Hp->VK->Prop}
theorem zNj(pa:PlainAttrs T)(slot:Slot T name id)(hty:typeOf (.builtin id)=pure (.type "method_descriptor"))(hm:MtR X id r)(ho:PE X o to)(ha:PA X (e::es) t)
  (hbase:autoParam (attributeBase o name X.env (eval o X.env)=eval o X.env) Zq4._auto_1)
  (hfew:autoParam (((backTo cpos (starEach (e::es) X.env)).all (fun x=>!x.1)&&(backToKw cpos (keywordEach [] X.env)).all (fun x=>x.1.isSome)
   && decide ((e::es).length+([]:List Keyword).length+(if ([]:List Keyword).isEmpty then 0 else 1)<30))=true) Zq4._auto_1)
  (hline:90#0) (hs:11#0) (hplain:autoParam ((backTo cpos (starEach es X.env)).any (·.1)=false) Zq4._auto_1) :
  PE X (.Call (.Attribute o name apos) (e::es) [] cpos) (tBM X.K T r to t):=by
 sleep 25;refine wpAny_Call_method_late hbase hfew hline rfl (yg (ho pins s σ H _ I h) fun v s1 u9=>?_);obtain⟨x,H1,I1,r1,ty,q1⟩:=u9;obtain⟨h1,h2⟩:=zNi I1 r1 ty;refine⟨T,id,pa,slot,hty,h1,h2,?_⟩;have hA:=ha cpos pins s1 σ H1 _ I1 q1;sleep 16;exact yg hA fun us s2 ⟨vs,H2,I2,r2,q2⟩=>hm pins s2 σ H2 x vs v us Q I2 r1 r2 q2
end
noncomputable def MtM(X:Cx)(id:String)(r:V->List V->Hp->VK->Prop):Prop :=
 ∀(pins:26#0) (s:Shared) (σ:St) (H:Hp) (x:V) (xs:List V) (v:Value) (us:40#0) (Q:VK),zV X pins σ H s->RelV x v->zY xs us->r x xs H Q ->
  wpAny 23#0 X.A (call (.builtin id) (v::us)) (EP X pins σ Q) X.xe s
theorem zY.one:∀ {x:V} {us:40#0},zY [x] us->∃ u,us=[u]/\RelV x u
 | _,_,.cons r .nil=>⟨_,rfl,r⟩
theorem zY.zero:∀ {us:40#0},zY [] us->us=[]
 | _,.nil=>rfl
theorem zY.eraseIdx:∀ {xs:List V} {us:40#0} (i:Nat),zY xs us->zY (xs.eraseIdx i) (us.eraseIdx i)
 | _,_,_,.nil=>.nil
 | _,_,0,.cons _ t=>t
 | _,_,i+1,.cons r t=>.cons r (zY.eraseIdx i t)
theorem zY.reverse(h:zY xs us):zY xs.reverse us.reverse:=by
 induction h with
 | nil=>exact .nil
 | cons r t ih=>rw[fJ,fJ];exact zY.append ih (.cons r .nil)
theorem zY.rep(h:zY xs us):∀ k:Nat,zY (cN k xs).flatten (cN k us).flatten
 | 0=>.nil
 | k+1=>by
  rw[ca,ca,fj,fj];exact zY.append h (zY.rep h k)
theorem zGo{α:Type}:∀(l:List α) (i:Nat),(l.eraseIdx i).length<=l.length
 | [],_=>cr _
 | _::_,0=>fB _
 | _::r,i+1=>Nat.succ_le_succ (zGo r i)
theorem foldl_rep(its:40#0):∀(k:Nat) (acc:40#0),
  List.foldl (fun x1 x2=>x1++x2) acc.toArray (cN k its.toArray)=(acc++(cN k its).flatten).toArray
 | 0,acc=>by simp
 | k+1,acc=>by
  have e:acc.toArray++its.toArray=(acc++its).toArray:=by simp
  have e2:(acc++its)++(cN k its).flatten=acc++(cN (k+1) its).flatten:=by
   rw[ca,fj,cL]
  rw[<-e2,<-foldl_rep its k (acc++its),<-e,ca,List.foldl_cons]
section
variable {X:Cx} {pins:List (Addr×Obj)} {σ:St} {H:Hp} {s:Shared} {l b:Addr} {xs ys zs:List V}
theorem zV.lset{its its':40#0}{n:Nat}{f:Array Value->Array Value}{t':Nat}(I:16#0)(hH:H l=some (.lst xs))
  (e:s.heap.get? l=some { cls:=.type "list",data:=.seq its.toArray n }) (hf:f its.toArray=its'.toArray) (hv:zY ys its') (hz:ys.length<=sizeLine) :
  zV X pins σ (wY H l (.lst ys)) { s with heap:=s.heap.update l (Obj.mapSeq f),toks:=t' }:=by
 have q:=PySem.IsL.update e f;rw[hf] at q;refine I.write (x:=l) (e:=l) (by rw[hH];exact trivial) (.inl rfl) (fun b' u hb hu=>(cT s.heap (Obj.mapSeq f) (Ne.symm hb)).trans hu) ⟨_,q⟩ ?_;exact⟨hz,its',_,hv,q⟩
theorem zV.lnew(I:16#0)(hv:zY ys its)(hz:ys.length<=sizeLine) :
  zV X pins σ (wY H s.heap.objs.size (.lst ys)) { s with heap:=s.heap.push { cls:=.type "list",data:=.seq its.toArray },toks:=t' } :=
 I.laid (fun u0 u0 q=>c9 _ q) (cr _) ⟨hz,its,0,hv,cw _ rfl⟩
theorem zV.fresh(I:16#0):H s.heap.objs.size=none:=I.hok.fresh (cr _)
theorem zV.lstM(I:16#0)(hH:H l=some (.lst xs)):xs.length<=sizeLine/\∃(its:40#0) (n:Nat),zY xs its/\xs.length=its.length/\s.heap.get? l=some { cls:=.type "list",data:=.seq its.toArray n }:=by
 obtain⟨z,its,n,r,e⟩:=I.hok l _ hH;exact⟨z,its,n,r,r.length,e⟩
theorem zIl(h:n<=sizeLine):Builtin.List.listTooLong n=false:=by
 unfold Builtin.List.listTooLong;exact decide_eq_false 1#0
end
section
variable {X:Cx}
noncomputable def zQG:V->List V->Hp->VK->Prop:=fun x vs H Q=>∃ l xs y,x=.ref l/\vs=[y]/\H l=some (.lst xs)/\xs.length<sizeLine/\Q .non (wY H l (.lst (xs++[y])))
theorem zGp:MtM X "list.append" zQG:=by
 sleep 40;obtain⟨l,xs,y,rfl,rfl,hH,hz,q⟩:=h;cases rx;obtain⟨u,rfl,ru⟩:=rv.one;obtain⟨z,its,n,r,hl,e⟩:=I.lstM hH;refine call_meets F.slot_list_append ⟨_,e,rfl⟩ F.entry_list_append (F.args_list_append_2 _ _) (PySem.list_append l its.toArray n u (by rw[cF];omega)) ⟨e,?_⟩;refine⟨.non,_,I.lset (its':=its++[u]) hH e 13#0 (r.append (.cons ru .nil)) ?_,rfl,q⟩;rw[cD,List.length_singleton];omega
noncomputable def zQH:V->List V->Hp->VK->Prop:=fun x vs H Q=>∃ l b xs zs,x=.ref l/\vs=[.ref b]/\H l=some (.lst xs)/\H b=some (.lst zs)/\xs.length+zs.length<=sizeLine/\Q .non (wY H l (.lst (xs++zs)))
theorem zMJ:MtM X "list.extend" zQH:=by
 sleep 40;obtain⟨l,b,xs,zs,rfl,rfl,hH,hB,hz,q⟩:=h;cases rx;obtain⟨u,rfl,ru⟩:=rv.one;cases ru;obtain⟨z,its,n,r,hl,e⟩:=I.lstM hH;obtain⟨z2,its2,n2,r2,hl2,e2⟩:=I.lstM hB;have hsz:its.toArray.size+its2.toArray.size<=sizeLine:=by rw[cF,cF];omega
 have hlong:¬ (!its.toArray.isEmpty&&Builtin.List.listTooLong (its.toArray.size+its2.toArray.size))=true:=by
  rw[zIl hsz,Bool.and_false];exact eh
 refine call_meets F.slot_list_extend ⟨_,e,rfl⟩ F.entry_list_extend (F.args_list_extend_2 _ _)
  (AutoSeq1.list_extend_list_list_0 l its.toArray n b its2.toArray n2 hlong (by rw[cF];omega) 1#0) ⟨e,e2,?_⟩
 refine⟨.non,_,I.lset (its':=its++its2) hH e 13#0 (r.append r2) ?_,rfl,q⟩;rw[cD];omega
noncomputable def zSl:V->List V->Hp->VK->Prop:=fun x vs H Q=>∃ l xs i k y,x=.ref l/\vs=[.int i]/\H l=some (.lst xs)/\-(2 ^ 63)<=i/\i<2 ^ 63/\seqIndex? i xs.length=some k/\xs[k]?=some y/\Q y (wY H l (.lst (xs.eraseIdx k)))
theorem zNk:MtM X "list.pop" zSl:=by
 sleep 40;obtain⟨l,xs,i,k,y,rfl,rfl,hH,h1,h2,hk,hy,q⟩:=h;cases rx;obtain⟨u,rfl,ru⟩:=rv.one;obtain⟨t,rfl⟩:=ru;obtain⟨z,its,n,r,hl,e⟩:=I.lstM hH;obtain⟨w,hw,rw'⟩:=r.get hy;refine call_meets F.slot_list_pop ⟨_,e,rfl⟩ F.entry_list_pop (F.args_list_pop_2 _ _)
  (MeetsSeq.list_pop_at l its.toArray n i t k w (fitsIndex_both h1 h2) (by rw[cF,<-hl];exact hk) (by rw[<-eG];exact hw) (by rw[cF];omega)) ⟨e,?_⟩
 refine⟨y,_,I.lset (its':=its.eraseIdx k) hH e ?_ (r.eraseIdx k) ?_,rw',q⟩
 ·show its.toArray.eraseIdxIfInBounds k=(its.eraseIdx k).toArray
  rw[List.eraseIdxIfInBounds_toArray]
 ·have:=zGo xs k
  omega
noncomputable def zUq:R2:=fun x y H Q=>∃ l b xs zs,x=.ref l/\y=.ref b/\H l=some (.lst xs)/\H b=some (.lst zs)/\xs.length+zs.length<=sizeLine/\∀ p,H p=none->Q (.ref p) (wY H p (.lst (xs++zs)))
theorem zSm:OpR X (binaryOp .Add) zUq:=by
 sleep 5;obtain⟨l,b,xs,zs,rfl,rfl,hH,hB,hz,q⟩:=h;cases rx;cases ry;obtain⟨z,its,n,r,hl,e⟩:=I.lstM hH;obtain⟨z2,its2,n2,r2,hl2,e2⟩:=I.lstM hB;refine PySem.P.add_list e e2 ?_ (by rw[cF,cF];omega);have ea:its.toArray++its2.toArray=(its++its2).toArray:=by simp
 rw[ea];exact⟨.ref _,_,I.lnew (t':=s.toks) (r.append r2) (by rw[cD];omega),rfl,q _ I.fresh⟩
noncomputable def zUr:R2:=fun x y H Q=>∃ l k xs,x=.ref l/\y=.int k/\H l=some (.lst xs)/\-(2 ^ 63)<=k/\k<2 ^ 63/\xs.length*k.toNat<=sizeLine /\
 ∀ p,H p=none->Q (.ref p) (wY H p (.lst (cN k.toNat xs).flatten))
theorem len_rep{α:Type}(xs:List α)(k:Nat):(cN k xs).flatten.length=k*xs.length:=by
 induction k with
 | zero=>simp
 | succ k ih=>rw[ca,fj,cD,ih,Nat.succ_mul,Nat.add_comm]
theorem zSn:OpR X (binaryOp .Mult) zUr:=by
 sleep 5;obtain⟨l,k,xs,rfl,rfl,hH,h1,h2,hz,q⟩:=h;cases rx;obtain⟨t,rfl⟩:=ry;obtain⟨z,its,n,r,hl,e⟩:=I.lstM hH;have hlen:its.toArray.size*k.toNat<=sizeLine:=by rw[cF,<-hl];exact hz
 have hcap:¬ its.toArray.size*k.toNat>(2 ^ 63-1) / 8:=by
  have:(sizeLine:Nat)<=(2 ^ 63-1) / 8:=by decide
  omega
 have hfit:¬ (!Builtin.List.listFitsIndex k)=true:=by
  rw[fitsIndex_both h1 h2];exact eh
 have hlong:¬ Builtin.List.listTooLong (its.toArray.size*k.toNat)=true:=by
  rw[zIl hlen];exact eh
 have hnew:List.foldl (fun x1 x2=>x1++x2) #[] (cN (if its.toArray.isEmpty=true then 0 else k.toNat) its.toArray)=(cN k.toNat its).flatten.toArray:=by
  have f0:∀ m:Nat,List.foldl (fun x1 x2=>x1++x2) #[] (cN m its.toArray)=(cN m its).flatten.toArray:=fun m=>by
   have:=foldl_rep its m [];rw[ck] at this;exact this
  rw[f0];cases its with
  | nil=>simp
  | cons a r'=>rw[if_neg 13#0]
 refine wpAny_binaryOp_repeat_ref (T:="list") (U:="int") 10#0 ⟨_,e,rfl⟩ (fun s'=>typeIs_int s' k t) noFill_list_mul F.fills_int_mul F.slot_int_rmul repeat_list F.slot_int_index.lookup
  (call_meets F.slot_int_rmul (typeIs_int s k t) F.entry_int_rmul (F.args_int_rmul_2 _ _) (int___rmul___int_list k t l its.toArray n)
   ⟨e,rfl,⟨_,e,rfl⟩,call_meets F.slot_list_mul ⟨_,e,rfl⟩ F.entry_list_mul (F.args_list_mul_2 _ _) (AutoListH.list___mul___list_int_3 l its.toArray n k t hfit hcap hlong) ⟨e,?_⟩⟩)
 rw[hnew];exact⟨.ref _,_,I.lnew (t':=s.toks) (r.rep k.toNat) (by rw[len_rep,Nat.mul_comm];exact hz),rfl,q _ I.fresh⟩
end
section
variable {prog:Program} {w:World} {A:Around} {E:Value->Shared->Prop} {s:Shared}
end
section
variable {X:Cx}
end
end L2
namespace Att
open PySem PySem.W PySem.Calls PyProof.Rows
theorem zEz:∀(ns:129#0) (vs:40#0),WellAll P h vs (ns.map WData.int)->IntsAre vs ns:=by
 intro ns
 induction ns with
 | nil =>
  intro vs w;rw[List.map_nil] at w;cases w;exact .nil
 | cons n ns ih =>
  intro vs w;rw[dq] at w;cases w with
  | cons a b =>
   cases a;exact .cons _ _ (ih _ b)
theorem zMK{l:OpenLaw}{n:Nat}(hn:l.most=some n){P:Params}{h:Heap}{args:List WData}{vals:40#0}
  (hpre:l.row.toRowW.claim.pre args=true) (hwl:WellAll P h vals args) :
  ∃ a vs ns,vals=[Value.ref a]/\args=[WData.list (ns.map WData.int)]/\h.get? a=some { cls:=.type "list",data:=.seq vs.toArray }/\IntsAre vs ns/\ns.length<=n:=by
 have hsh:WShape.hasAll [] args [.list .int]=true:=(pre_splitW hpre).1;have hc:l.pre.holds [] { args:=args }=true:=(pre_splitW hpre).2;obtain⟨d,r,rfl,h1,h2⟩:=hasAllW_cons hsh;obtain rfl:=hasAllW_nil h2;obtain⟨xs,rfl,h3⟩:=hasW_list h1;obtain⟨ns,rfl⟩:=items_int h3;have hlen:ns.length<=n:=by
  unfold OpenLaw.pre at hc;have h4:(WTm.not (.lt (.lit (.int (n:Int))) (.len (.arg 0)))).holds [] { args:=[.list (ns.map .int)] }=true:=by
   have h4:=(holds_andW hc).1;rw[hn] at h4;exact h4
  have h5:=condW_of h4 (w_not (w_lt w_lit (w_len_list (w_arg rfl))));rw[cg] at h5;refine Nat.le_of_not_lt fun q=>?_;have q':(n:Int)<((ns.length:Nat):Int):=by omega
  first
   | (rw[decide_eq_true q'] at h5;exact absurd h5 10#0)
   | (simp at h5;omega)
 cases hwl with
 | cons w1 w2 =>
  cases w2;cases w1 with
  | list ho hall=>exact⟨_,_,ns,rfl,rfl,ho,zEz ns _ hall,hlen⟩
theorem zML(l:OpenLaw)(args:List WData):l.row.toRowW.claim.post args (.bool true) args=true :=
 postW_of (r:=l.row.toRowW) (X:=(true==true))
  (show WShape.has [] (.bool true) .bool=true by first | rfl | decide | simp[WShape.has,WShape.arms,WShape.armsAll])
  (show(WTm.eq .res (.lit (.bool true))).value [] { args:=args,res:=some (.bool true),after:=args }=some (.bool (true==true)) from w_eq_bool (w_res rfl) w_lit) rfl
theorem zIm{l:OpenLaw}{n:Nat}{q:Program}{loose:List Str}{XP:(Str->Option Value)->Heap->Prop}{YP:World->Heap->Prop}{d:DefRec}
  (hn:l.most=some n) (hdf:d.params.defaults=[])
  (call:∀(w:World) (s₀ s₁:Shared) (mg mb:83#0) (fa:Addr) (o:Obj) (pm cd doc:Value) (a:Addr) (vs:40#0) (ns:129#0),
   Ground q loose [] XP w s₀ mg mb s₁.heap->YP w s₁.heap ->
   s₁.heap.get? fa=some o->o.data=.func (docDef d.name d.params d.body d.scope pm cd doc)->s₁.heap.CodeRec cd d.name->mg d.name=some (.ref fa) ->
   s₁.heap.get? a=some { cls:=.type "list",data:=.seq vs.toArray }->IntsAre vs ns->ns.length<=n->s₁.gens=#[] ->
   codeAny (model l.prog w) callerA (.call (.ref fa) ⟨[.ref a],[]⟩) 97#0 s₁) :
  WalkO q loose XP YP l.row.toRowW d [] (fun f vs=>PySem.call f vs):=by
 intro w s₀ s₁ mg mb G Y fa o pm cd doc dV kV ho hd hcd hD hmg hg args vals as hpre hlay hrd hwl hlo;obtain rfl:dV=.none:=Dflts.none hD hdf;obtain rfl:kV=.none:=Dflts.noKw hD;obtain⟨a,vs,ns,rfl,rfl,hobj,hints,hlen⟩:=zMK hn hpre hwl;refine enter_call (eO (call w s₀ s₁ mg mb fa o pm cd doc a vs ns G Y ho (fd_plain hd) hcd hmg hobj hints hlen hg) fun r s' hq=>?_);obtain⟨rfl,h2,h3,h4⟩:=hq;exact⟨.inl ⟨.bool true,.bool true,[],rfl,fun u0=>rfl,.bool true,zML l _,fun u0=>⟨eA.nil,fun u0 hm=>(nomatch hm)⟩⟩,h2,h3,h4⟩
section
variable {prog:Program} {w:World} {A:Around} {E:Value->Shared->Prop} {s:Shared} {K:Frag}
end
end Att
namespace L2
theorem zGq:∀ {vs:40#0} {ns:129#0},IntsAre vs ns->zY (ns.map V.int) vs
 | _,_,.nil=>.nil
 | _,_,.cons n t h=>.cons ⟨t,rfl⟩ (zGq h)
noncomputable def zQI(H:Hp):Prop:=∀ b,H b=none\/(∃ o xs,H b=some (.frz o (.lst xs)))\/∃ ps,H b=some (.tbl ps)
structure TabsAt (K:PySem.W.Frag) (h:Heap) (ts:List Addr) (qn:Addr->Str):Prop where
 obj:∀ P∈ts,h.get? P=some (PySem.W.tabObj #[])
 out:∀ P∈ts,K.lookup P=none
 code:∀ P∈ts,isCodeTable h P
 name:∀ x∈zK0,∀ c b,PySem.W.tabIn K x=some (c,b)->b∈ts/\qn b=x++".<locals>.<lambda>"
theorem zNl{P':Program}{w:World}{K:15#0}{mg mb:83#0}{CX:CXT}{k:Nat}{fa a:Addr}{fd:FuncData}{x:Str}{sp:Sp}{s₁:Shared}{vs:40#0}{ns:129#0}{ts:List Addr}{qn:Addr->Str}
  (TB:TabsAt K s₁.heap ts qn) (KX:K.In s₁.heap) (hns:s₁.heap.Ns mainGlobals mg) (hb:s₁.heap.Ns builtinsNs mb) (hbb:∀ x:Str,x≠"__name__"->mb x=bootBuiltins x) (hlim:s₁.heap.NoLimit) (hg:s₁.gens=#[])
  (ha:s₁.heap.get? a=some { cls:=.type "list",data:=.seq vs.toArray }) (hi:IntsAre vs ns) (hl:ns.length<=sizeLine) (hr:yZ k callerA)
  (F:∀ base:Heap,K.In base->base.Ns mainGlobals mg->zFY P' w K mg base CX k fa fd [x] sp) (hbind:∀(s:Shared) (u:Value),BindsTo s fd ⟨[u],[]⟩ [(x,u)])
  (hsp:∀ H:Hp,zQI H->SqL K H a (ns.map V.int)->sp [.ref a] H (fun v u0=>v=.bl true) fun u0 u0 u0=>False)
  (hCX:∀ H e s',CX [] H s₁ (fun u0 u0 u0=>False) e s'->False) :
  codeAny (model P' w) callerA (.call (.ref fa) ⟨[.ref a],[]⟩) 97#0 s₁:=by
 have rv:=zGq hi;have lenV:=hi.length
 -- from an abstract heap in which nothing but the script may be tracked
 have core:∀ H:Hp,zQI H->SqL K H a (ns.map V.int)->HOk P' w H s₁.heap->(∀ b,H b≠none->b=a\/b∈ts)->(H a≠none->K.lookup a=none)->(∀ P∈ts,H P=some (.tbl #[.str (qn P) 0])) ->
   codeAny (model P' w) callerA (.call (.ref fa) ⟨[.ref a],[]⟩) 97#0 s₁:=by
  intro H hO hS hok hA hK hT;have base_of:∀ {b:Addr} {o:Obj},s₁.heap.get? b=some o->H b=none->(zHi s₁.heap H).get? b=some o:=fun e n=>zNV e n;have noA:∀ {b:Addr} {o:Obj} {es:Array DictEntry} {ep:Nat},s₁.heap.get? b=some o->o.data=.dict es ep->H b=none:=fun {b o es ep} e d=>by
   cases q:H b with
   | none=>rfl
   | some u =>
    rcases hA b (by rw[q];simp) with e' | e'
    ·subst e'
     rw[ha] at e;cases e;have d':Data.seq vs.toArray _=Data.dict es ep:=d;cases d'
    ·rw[TB.obj b e'] at e;cases e
     have d':Data.fields #[]=Data.dict es ep:=d;cases d'
  have nsK:∀ {b:Addr} {m:83#0},s₁.heap.Ns b m->(zHi s₁.heap H).Ns b m:=fun {b m} ⟨o,es,ep,e,d,r⟩=>⟨o,es,ep,base_of e (noA e d),d,r⟩
  have hKb:K.In (zHi s₁.heap H):=fun b o e=>base_of (KX b o e) (by
   cases q:H b with
   | none=>rfl
   | some u =>
    rcases hA b (by rw[q];simp) with e' | e'
    ·subst e'
     rw[hK (by rw[q];simp)] at e;cases e
    ·rw[TB.out b e'] at e;cases e)
  have hM:Mod K mg (zHi s₁.heap H):=⟨hKb,nsK hns,⟨mb,nsK hb,hbb⟩,let ⟨mc,h1,h2⟩:=hlim;⟨mc,nsK h1,h2⟩⟩
  have e0:zP8 P' w K mg (zHi s₁.heap H) callerA [] s₁ H:=⟨rfl,hM,fun b o e=>zPt e,Nat.le_of_eq (zL9 _ _),trivial,fun b hb=>absurd (show b∈([]:List Addr) from hb) 13#0,hok,.of_eq hg,fun x hx c b e=>by
   obtain⟨z1,z2⟩:=TB.name x hx c b e;exact⟨0,by rw[<-z2];exact hT b z1⟩⟩
  refine eO ((F _ hKb (nsK hns)).run callerA [] s₁ H ⟨[.ref a],[]⟩ [.ref a] [.ref a] _ _ hr e0 (hbind s₁ (.ref a)) (.cons rfl .nil) (hsp H hO hS)) fun r s' h=>?_;cases r with
  | error e=>exact(hCX H e s' h).elim
  | ok fl =>
   cases fl with
   | next=>exact False.elim h
   | brk=>exact False.elim h
   | cont=>exact False.elim h
   | ret u =>
    obtain⟨v,H',os,bare,un,hok',r',q⟩:=h;have q':v=.bl true:=q;subst q';obtain rfl:u=Value.bool true:=r';have K1:∀ b o,b∉ts->s₁.heap.get? b=some o->s'.heap.get? b=some o:=fun b o hb e=>by
     cases q:H b with
     | none=>exact un.keep b o e q (by intro z;exact absurd (show b∈([]:List Addr) from z) 13#0) 13#0
     | some u =>
      rcases hO b with z | ⟨ob,xs,z⟩ | ⟨ps,z⟩
      ·rw[q] at z;cases z
      ·have z2:=un.frzs b ob _ z
       obtain⟨e1,u0⟩:=hok b _ z;obtain⟨e2,u0⟩:=hok' b _ z2;rw[e] at e1;cases e1;exact e2
      ·rcases hA b (by rw[q];simp) with e' | e'
       ·obtain⟨u0,u0,u0,u0,w1,u0⟩:=hok b _ z
        rw[e',ha] at w1;cases w1
       ·exact absurd e' hb
    have K2:∀ b,b∈ts->∃ vs,s'.heap.get? b=some (PySem.W.tabObj vs):=fun b hb=>by
     have z2:=un.tbls b _ (hT b hb);obtain⟨u0,u0,vs,u0,w1,u0⟩:=hok' b _ z2;exact⟨vs,w1⟩
    refine⟨rfl,⟨fun b o e=>?_,fun b o e=>?_⟩,os,bare⟩
    ·by_cases hb:b∈ts
     ·obtain⟨vs,w1⟩:=K2 b hb
      rw[TB.obj b hb] at e;cases e;exact .inr (.inl ⟨TB.code b hb,rfl,#[],vs,rfl,by simpa using w1⟩)
     ·exact .inl (K1 b o hb e)
    ·by_cases hb:b∈ts
     ·obtain⟨vs,w1⟩:=K2 b hb
      exact⟨_,w1⟩
     ·exact⟨o,K1 b o hb e⟩
 have naT:∀ P∈ts,P≠a:=fun P hP z=>by
  have e:=TB.obj P hP;rw[z,ha] at e;cases e
 have tok:∀(H:Hp),∀ P∈ts,wQ P' w H s₁.heap P (.tbl #[.str (qn P) 0]):=fun H P hP=>⟨qn P,0,#[],rfl,TB.obj P hP,trivial,fun pos cv e=>by cases e⟩
 cases hk:K.lookup a with
 | some o =>
  -- the script is one of the module's own objects
  have e:=KX a o hk;rw[ha] at e;cases e;refine core (fun b=>if b∈ts then some (.tbl #[.str (qn b) 0]) else none) (fun b=>?_) (.inr ⟨_,vs.toArray,_,hk,rfl,rfl,rfl,by rw[cF,lenV];exact hl,by simpa using rv⟩) (fun b u z=>?_) (fun b z=>?_) (fun z=>?_) fun P hP=>if_pos hP
  ·by_cases hb:b∈ts
   ·exact .inr (.inr ⟨_,if_pos hb⟩)
   ·exact .inl (if_neg hb)
  ·by_cases hb:b∈ts
   ·have z':=(if_pos hb).symm.trans z
    cases z';exact tok _ b hb
   ·have z':=(if_neg hb).symm.trans z
    cases z'
  ·by_cases hb:b∈ts
   ·exact .inr hb
   ·exact absurd (if_neg hb) z
  ·by_cases hb:a∈ts
   ·exact absurd rfl (naT a hb)
   ·exact absurd (if_neg hb) z
 | none =>
  refine core (fun b=>if b=a then some (.frz { cls:=.type "list",data:=.seq vs.toArray } (.lst (ns.map V.int))) else if b∈ts then some (.tbl #[.str (qn b) 0]) else none) (fun b=>?_) (.inl (.inr ⟨{ cls:=.type "list",data:=.seq vs.toArray },if_pos rfl⟩)) (fun b u z=>?_) (fun b z=>?_) (fun u0=>hk) fun P hP=>?_
  ·by_cases hb:b=a
   ·exact .inr (.inl ⟨_,_,if_pos hb⟩)
   ·by_cases hb2:b∈ts
    ·exact .inr (.inr ⟨_,(if_neg hb).trans (if_pos hb2)⟩)
    ·exact .inl ((if_neg hb).trans (if_neg hb2))
  ·by_cases hb:b=a
   ·have z':=(if_pos hb).symm.trans z
    cases z';subst hb;exact⟨ha,by rw[cg];exact hl,vs,_,rv,ha⟩
   ·by_cases hb2:b∈ts
    ·have z':=((if_neg hb).trans (if_pos hb2)).symm.trans z
     cases z';exact tok _ b hb2
    ·have z':=((if_neg hb).trans (if_neg hb2)).symm.trans z
     cases z'
  ·by_cases hb:b=a
   ·exact .inl hb
   ·by_cases hb2:b∈ts
    ·exact .inr hb2
    ·exact absurd ((if_neg hb).trans (if_neg hb2)) z
  ·exact(if_neg (naT P hP)).trans (if_pos hP)
theorem zQJ{l:PySem.W.OpenLaw}{n k:Nat}{q:Program}{loose:List Str}{XP:(Str->Option Value)->Heap->Prop}{YP:World->Heap->Prop}{d:DefRec}{K:Params->PySem.W.Frag}{CX:World->CXT}{sp:World->Sp}{x:Str}
  (hn:l.most=some n) (hn2:n<=sizeLine) (hdf:d.params.defaults=[]) (hr:yZ k callerA)
  (hY:∀(w:World) (h:Heap),YP w h->(K w.params).In h/\∃ ts qn,TabsAt (K w.params) h ts qn)
  (F:∀(w:World) (mg:83#0) (fa:Addr) (h:Heap),(K w.params).In h->h.Ns mainGlobals mg->mg d.name=some (.ref fa) ->
   ∃ fd:FuncData,(∀(s:Shared) (u:Value),BindsTo s fd ⟨[u],[]⟩ [(x,u)]) /\
    ∀ base:Heap,(K w.params).In base->base.Ns mainGlobals mg->zFY l.prog w (K w.params) mg base (CX w) k fa fd [x] (sp w))
  (hsp:∀(w:World) (H:Hp) (a:Addr) (ns:129#0),ns.length<=n->zQI H->SqL (K w.params) H a (ns.map V.int)->sp w [.ref a] H (fun v u0=>v=.bl true) fun u0 u0 u0=>False)
  (hCX:∀(w:World) (H:Hp) (s:Shared) (e:Value) (s':Shared),CX w [] H s (fun u0 u0 u0=>False) e s'->False) :
  PySem.W.WalkO q loose XP YP l.row.toRowW d [] (fun f vs=>PySem.call f vs):=by
 refine Att.zIm hn hdf fun w s₀ s₁ mg mb fa o pm cd doc a vs ns G Y ho hd hcd hmg hobj hints hlen hg=>?_;obtain⟨KX,ts,qn,TB⟩:=hY w _ Y;obtain⟨fd,hb,hF⟩:=F w mg fa _ KX G.T.g hmg;exact zNl TB KX G.T.g G.T.b G.T.builtins G.T.nolimit hg hobj hints (dF hlen hn2) hr hF hb (fun H hO hS=>hsp w H a ns hlen hO hS) fun H e s'=>hCX w H s₁ e s'
noncomputable def zA2(s:Stmt):Arguments:=match s with
 | .FunctionDef _ a _ _ _ _ _ _ _ _=>a
 | _=>{ posonlyargs:=[],args:=[],vararg:=none,kwonlyargs:=[],kw_defaults:=[],kwarg:=none,defaults:=[] }
noncomputable def wK(s:Stmt):List Stmt:=match s with
 | .FunctionDef _ _ b _ _ _ _ _ _ _=>b
 | _=>[]
noncomputable def zJ(s:Stmt):Scope:=match s with
 | .FunctionDef _ _ _ _ _ _ sc _ _ _=>sc
 | _=>{ kind:=.function,names:=[],isGenerator:=false,isCoroutine:=false }
noncomputable abbrev CX0:CXT:=fun u0 u0 u0 u0 u0 u0=>False
noncomputable abbrev E0:XK:=fun u0 u0 u0=>False
theorem zRm:zJy CX0 X E0:=fun u0 u0 u0 u0 u0 u0 u0 h=>h.elim
structure Fun (K:PySem.W.Frag) (x qual:Str) (st:Stmt) (f:Addr) (fd:FuncData):Prop where
 ex:∃(oc:Value) (od:Option Addr) (kV doc pm:Value) (an:Option Addr) (cdv ct:Value) (osl:Array (Option Value)),
  fd=PySem.W.fnOf x qual (zA2 st) (wK st) (zJ st) .none kV doc pm an cdv ct/\K.lookup f=some ⟨oc,od,.func fd,osl⟩/\PySem.W.codeIn K cdv qual=true
 kp:PySem.W.keepIn K (.ref f)=true
section
variable {P:Program} {w:World} {K:PySem.W.Frag} {mg:Str->Option Value} {base:Heap}
theorem Fun.ok{x qual:Str}{st:Stmt}{f:Addr}{fd:FuncData}{N ps:List Str}{k:Nat}{sp:Sp}(F:Fun K x qual st f fd)(S:zT N ps (zJ st))(len:∀ vs H Q E,sp vs H Q E->vs.length=ps.length)
  (hbody:∀(cdv:Value) (A:Around) (outer:List Env) (s:Shared) (H:Hp) (vs:List V) (Q:VK) (E:XK),yZ k (A.deeper (envOfC qual (zJ st) s.heap.objs.size f cdv))->sp vs H Q E ->
   ∃ t,PSs (zHk CX0 P w K mg base N qual (zJ st) f cdv A outer s H E).nox (wK st) t/\t { nx:=fun u0 H'=>Q .non H',rt:=Q } (start N vs) H):zFY P w K mg base CX0 (k+1) f fd ps sp:=by
 obtain⟨oc,od,kV,doc,pm,an,cdv,ct,osl,rfl,lk,hcd⟩:=F.ex;refine zTz lk hcd S len fun A outer s H vs Q E hr hsp=>?_;obtain⟨t,h,q⟩:=hbody cdv A outer s H vs Q E hr hsp;exact⟨t,h.nox,q⟩
theorem Fun.binds{x qual:Str}{st:Stmt}{f:Addr}{fd:FuncData}{ps:List Str}(F:Fun K x qual st f fd)
  (h:∀(kV doc pm:Value) (an:Option Addr) (cdv ct:Value) (us:40#0),us.length=ps.length->bindArgs 131#0 ⟨us,[]⟩=pure (ps.zip us)):Binds K fd ps []:=by
 obtain⟨oc,od,kV,doc,pm,an,cdv,ct,osl,rfl,lk,hcd⟩:=F.ex;exact .all (h kV doc pm an cdv ct)
theorem zNm{x qual:Str}{st:Stmt}{f:Addr}{oc:Value}{od an:Option Addr}{osl:Array (Option Value)}{kV doc pm cdv ct:Value}(l:K.lookup f=some ⟨oc,od,.func 131#0,osl⟩)
  (c:PySem.W.codeIn K cdv qual=true) (k:PySem.W.keepIn K (.ref f)=true):Fun K x qual st f 131#0:=⟨⟨oc,od,kV,doc,pm,an,cdv,ct,osl,rfl,l,c⟩,k⟩
end
section
variable {X:Cx}
theorem pv(i:Nat)(hN:135#0)(hv:autoParam (Vis X.env.scope x) Zq6._auto_1)(hd:9#0)
  (hcd:84#0):PE X (.Name x pos) (zTj i):=zNW hN hv hd hcd
end
end L2
set_option maxHeartbeats 4000000
namespace K
open PySem PySem.W PyProof.Rows L2
noncomputable def top(i:Nat):Stmt:=PySem.Challenge.pw_chordwebs_k73_whole_rings_of_webs.main.body.getD i (.Pass ⟨0,0,0,0⟩)
noncomputable def kq:Program:={ PySem.Challenge.pw_chordwebs_k73_whole_rings_of_webs with main:={ PySem.Challenge.pw_chordwebs_k73_whole_rings_of_webs.main with body:=[top 1,top 2,top 4,top 5,top 6,top 7,top 8,top 9,top 11,top 12,top 13,top 14,top 15,top 16,top 18,top 19,top 20,top 21,top 23,top 24,top 25,top 26,top 27,top 28,top 29,top 31,top 32,top 33,top 34,top 35,top 37,top 38,top 39,top 40,top 41,top 43,top 45,top 46,top 47,top 48,top 49,top 50,top 51,top 52,top 53,top 54] } }
noncomputable def cO(n:Str)(t u l m g a:Nat)(b:Bool):Obj:=⟨.type "code",none,.fields #[.str n t,.str n (t+1),.str "/claim/cut.py" (t+2),.int l 0,.int m 0,.int 0 0,.int 0 0,.int g 0,.ref a,.bool true,.int 181 0,.ref (a+1),.none,if b then .ref (a+2) else .none,if b then .ref (a+3) else .none,.ref (if b then a+4 else a+2),.int u 0,.int l 0,.str "/claim/cut.py" (u+1)],#[]⟩
noncomputable def fO(n:Str)(i c:Nat)(m:Str)(t:Nat):Obj:=⟨.type "function",none,.func (fnOf n n (zA2 (top i)) (wK (top i)) (zJ (top i)) .none .none .none (.str m t) none (.ref c) .none),#[]⟩
noncomputable def dE(P:Params)(n:Str)(t:Nat)(v:Value):DictEntry:=⟨PyData.keyHash P n,.str n t,v⟩
noncomputable def kf(P:Params):Frag:=(nat_lit 3,⟨.type "dict",none,.dict #[dE P "__name__" 165 (.str "law_chordwebs_k73_whole_rings_of_webs" 485),dE P "__doc__" 166 .none,dE P "__package__" 167 .none,dE P "__loader__" 168 (.builtin "__main__.__loader__#opaque"),dE P "__spec__" 169 .none,dE P "__annotations__" 170 (.ref 6),dE P "__builtins__" 171 (.ref 4),dE P "__file__" 173 (.str "/claim/cut.py" 172),dE P "__cached__" 174 .none,dE P "ChordError" 206 (.ref 24),dE P "TooMany" 222 (.ref 37),dE P "is_number" 231 (.ref 46),dE P "are_places" 237 (.ref 51),dE P "is_rising" 243 (.ref 56),dE P "pairs" 250 (.ref 63),dE P "pairs_of" 260 (.ref 70),dE P "refuse_more" 268 (.ref 77),dE P "cross" 281 (.ref 84),dE P "web_of" 287 (.ref 89),dE P "turned_round" 295 (.ref 96),dE P "mirrored" 302 (.ref 103),dE P "least" 312 (.ref 110),dE P "same" 320 (.ref 117),dE P "tied" 331 (.ref 124),dE P "around" 337 (.ref 129),dE P "kept" 343 (.ref 134),dE P "named" 351 (.ref 141),dE P "MOST_FOUND" 355 (.int 7 354),dE P "tells" 363 (.ref 148),dE P "ring_of" 371 (.ref 155),dE P "near_order" 377 (.ref 160),dE P "tied_among" 383 (.ref 165),dE P "grown" 396 (.ref 172),dE P "with_chord" 402 (.ref 177),dE P "other_side" 410 (.ref 182),dE P "cut_rank" 423 (.ref 189),dE P "row_of" 429 (.ref 194),dE P "is_split" 437 (.ref 201),dE P "splits" 443 (.ref 206),dE P "MOST_TOLD" 447 (.int 5 446),dE P "FEWEST_WHOLE" 449 (.int 5 448),dE P "all_rings" 455 (.ref 211),dE P "all_with_chord" 466 (.ref 218),dE P "is_whole" 473 (.ref 225),dE P "web_turned" 484 (.ref 232),dE P "_law_cell_at" 494 (.ref 239),dE P "_law_state" 503 (.ref 246),dE P "_law_take" 513 (.ref 253),dE P "_law_pairs" 519 (.ref 258),dE P "_law_web" 525 (.ref 263),dE P "_law_ring" 531 (.ref 268),dE P "_law_web_of" 537 (.ref 273),dE P "_law_around" 543 (.ref 278),dE P "_law_order" 549 (.ref 283),dE P "law" 555 (.ref 288)] 55,#[]⟩)::(nat_lit 45,cO "is_number" 225 229 7 1 3 40 true)::(nat_lit 46,fO "is_number" 4 45 "chordwebs.basics" 223)::(nat_lit 50,cO "are_places" 232 235 9 2 3 47 false)::(nat_lit 51,fO "are_places" 5 50 "chordwebs.basics" 223)::(nat_lit 55,cO "is_rising" 238 241 11 1 3 52 false)::(nat_lit 56,fO "is_rising" 6 55 "chordwebs.basics" 223)::(nat_lit 62,cO "pairs" 244 248 13 1 3 57 true)::(nat_lit 63,fO "pairs" 7 62 "chordwebs.basics" 223)::(nat_lit 69,cO "pairs_of" 251 258 15 1 3 64 true)::(nat_lit 70,fO "pairs_of" 8 69 "chordwebs.basics" 223)::(nat_lit 76,cO "refuse_more" 261 266 21 2 3 71 true)::(nat_lit 77,fO "refuse_more" 9 76 "chordwebs.basics" 223)::(nat_lit 83,cO "cross" 271 279 25 3 3 78 true)::(nat_lit 84,fO "cross" 11 83 "chordwebs.rings" 269)::(nat_lit 88,cO "web_of" 282 285 29 1 3 85 false)::(nat_lit 89,fO "web_of" 12 88 "chordwebs.rings" 269)::(nat_lit 95,cO "turned_round" 288 293 32 2 3 90 true)::(nat_lit 96,fO "turned_round" 13 95 "chordwebs.rings" 269)::(nat_lit 102,cO "mirrored" 296 300 34 1 3 97 true)::(nat_lit 103,fO "mirrored" 14 102 "chordwebs.rings" 269)::(nat_lit 109,cO "least" 303 310 36 1 3 104 true)::(nat_lit 110,fO "least" 15 109 "chordwebs.rings" 269)::(nat_lit 116,cO "same" 313 318 42 2 3 111 true)::(nat_lit 117,fO "same" 16 116 "chordwebs.rings" 269)::(nat_lit 123,cO "tied" 323 329 45 3 3 118 true)::(nat_lit 124,fO "tied" 18 123 "chordwebs.webs" 321)::(nat_lit 128,cO "around" 332 335 47 2 3 125 false)::(nat_lit 129,fO "around" 19 128 "chordwebs.webs" 321)::(nat_lit 133,cO "kept" 338 341 49 2 3 130 false)::(nat_lit 134,fO "kept" 20 133 "chordwebs.webs" 321)::(nat_lit 140,cO "named" 344 349 53 2 3 135 true)::(nat_lit 141,fO "named" 21 140 "chordwebs.webs" 321)::(nat_lit 147,cO "tells" 356 361 57 2 3 142 true)::(nat_lit 148,fO "tells" 24 147 "chordwebs.found" 352)::(nat_lit 154,cO "ring_of" 364 369 59 1 3 149 true)::(nat_lit 155,fO "ring_of" 25 154 "chordwebs.found" 352)::(nat_lit 159,cO "near_order" 372 375 63 1 3 156 false)::(nat_lit 160,fO "near_order" 26 159 "chordwebs.found" 352)::(nat_lit 164,cO "tied_among" 378 381 69 3 3 161 false)::(nat_lit 165,fO "tied_among" 27 164 "chordwebs.found" 352)::(nat_lit 171,cO "grown" 384 394 71 4 3 166 true)::(nat_lit 172,fO "grown" 28 171 "chordwebs.found" 352)::(nat_lit 176,cO "with_chord" 397 400 80 3 3 173 false)::(nat_lit 177,fO "with_chord" 29 176 "chordwebs.found" 352)::(nat_lit 181,cO "other_side" 405 408 92 2 3 178 false)::(nat_lit 182,fO "other_side" 31 181 "chordwebs.splits" 403)::(nat_lit 188,cO "cut_rank" 411 421 94 2 3 183 true)::(nat_lit 189,fO "cut_rank" 32 188 "chordwebs.splits" 403)::(nat_lit 193,cO "row_of" 424 427 104 3 3 190 false)::(nat_lit 194,fO "row_of" 33 193 "chordwebs.splits" 403)::(nat_lit 200,cO "is_split" 430 435 106 2 3 195 true)::(nat_lit 201,fO "is_split" 34 200 "chordwebs.splits" 403)::(nat_lit 205,cO "splits" 438 441 110 1 3 202 false)::(nat_lit 206,fO "splits" 35 205 "chordwebs.splits" 403)::(nat_lit 210,cO "all_rings" 450 453 118 1 3 207 false)::(nat_lit 211,fO "all_rings" 39 210 "chordwebs.tellings" 444)::(nat_lit 217,cO "all_with_chord" 456 464 124 3 3 212 true)::(nat_lit 218,fO "all_with_chord" 40 217 "chordwebs.tellings" 444)::(nat_lit 224,cO "is_whole" 467 471 129 1 3 219 true)::(nat_lit 225,fO "is_whole" 41 224 "chordwebs.tellings" 444)::(nat_lit 231,cO "web_turned" 476 482 132 2 3 226 true)::(nat_lit 232,fO "web_turned" 43 231 "chordwebs.turns" 474)::(nat_lit 238,cO "_law_cell_at" 487 492 136 2 3 233 true)::(nat_lit 239,fO "_law_cell_at" 45 238 "law_chordwebs_k73_whole_rings_of_webs" 485)::(nat_lit 245,cO "_law_state" 495 501 140 2 3 240 true)::(nat_lit 246,fO "_law_state" 46 245 "law_chordwebs_k73_whole_rings_of_webs" 485)::(nat_lit 252,cO "_law_take" 504 511 145 2 3 247 true)::(nat_lit 253,fO "_law_take" 47 252 "law_chordwebs_k73_whole_rings_of_webs" 485)::(nat_lit 257,cO "_law_pairs" 514 517 154 1 3 254 false)::(nat_lit 258,fO "_law_pairs" 48 257 "law_chordwebs_k73_whole_rings_of_webs" 485)::(nat_lit 262,cO "_law_web" 520 523 159 2 3 259 false)::(nat_lit 263,fO "_law_web" 49 262 "law_chordwebs_k73_whole_rings_of_webs" 485)::(nat_lit 267,cO "_law_ring" 526 529 169 2 3 264 false)::(nat_lit 268,fO "_law_ring" 50 267 "law_chordwebs_k73_whole_rings_of_webs" 485)::(nat_lit 272,cO "_law_web_of" 532 535 172 1 3 269 false)::(nat_lit 273,fO "_law_web_of" 51 272 "law_chordwebs_k73_whole_rings_of_webs" 485)::(nat_lit 282,cO "_law_order" 544 547 182 2 3 279 false)::(nat_lit 283,fO "_law_order" 53 282 "law_chordwebs_k73_whole_rings_of_webs" 485)::(nat_lit 287,cO "law" 550 553 185 1 3 284 false)::(nat_lit 288,fO "law" 54 287 "law_chordwebs_k73_whole_rings_of_webs" 485)::[]
noncomputable def ka:List Addr:=3::45::46::50::51::55::56::62::63::69::70::76::77::83::84::88::89::95::96::102::103::109::110::116::117::123::124::128::129::133::134::140::141::147::148::154::155::159::160::164::165::171::172::176::177::181::182::188::189::193::194::200::201::205::206::210::211::217::218::224::225::231::232::238::239::245::246::252::253::257::258::262::263::267::268::272::273::282::283::287::288::[]
theorem ke(P:Params):ka=(kf P).map (·.1):=by kernel_rfl
set_option maxHeartbeats 0 in
theorem hl:LeftO PySem.Challenge.rw_chordwebs_k73_whole_rings_of_webs.row.prog kq [] (fun s=>xlAt kq [] s&&recOk (RowW.records PySem.Challenge.rw_chordwebs_k73_whole_rings_of_webs.row.toRowW) s) (Hook.obs (kHook kf ka ke)) (Hook.val (kHook kf ka ke)) 3490:=fun w=>by kernel_rfl
end K
namespace K
end K
namespace L2
noncomputable def zEJ(env:Env):List (Str×NameKind)->List (Str×Addr)->List (Str×Addr)
 | [],cs=>cs
 | (n,k)::r,cs=>zEJ env r (if k==.free then match env.cells.lookup n with | some a=>(n,a)::cs | none=>cs else cs)
noncomputable def zMM(sc:Scope)(env:Env):List (Str×Addr):=zEJ env sc.names []
theorem zGr:∀ {ns:List (Str×NameKind)} {cs:List (Str×Addr)} {x:Str} {c:Addr},(∀ y a,cs.lookup y=some a->env.cells.lookup y=some a)->(zEJ env ns cs).lookup x=some c->env.cells.lookup x=some c
 | [],_,_,_,h,e=>h _ _ e
 | (n,k)::r,cs,x,c,h,e=>by
  unfold zEJ at e;refine zGr (ns:=r) (fun y a q=>?_) e;by_cases hk:(k==NameKind.free)=true
  ·rw[if_pos hk] at q
   cases hc:env.cells.lookup n with
   | none=>rw[hc] at q;exact h y a q
   | some d =>
    rw[hc] at q;cases hy:y==n with
    | true =>
     simp only[dU,hy] at q;have:y=n:=by simpa using hy
     rw[this,hc];exact q
    | false =>
     simp only[dU,hy] at q;exact h y a q
  ·rw[if_neg hk] at q;exact h y a q
theorem zMN(e:(zMM sc env).lookup x=some c):env.cells.lookup x=some c :=
 zGr (fun u0 u0 q=>by simp at q) e
theorem zFa:∀ {ns:List (Str×NameKind)} {cs:List (Str×Addr)} {x:Str},(∀ y∈ns,y.2=.free->∃ c,env.cells.lookup y.1=some c)->((∃ c,cs.lookup x=some c)\/(x,NameKind.free)∈ns)->∃ c,(zEJ env ns cs).lookup x=some c
 | [],cs,x,_,h=>by
  rcases h with h | h
  ·exact h
  ·cases h
 | (n,k)::r,cs,x,hh,h=>by
  unfold zEJ;refine zFa (ns:=r) (fun y hy=>hh y (cJ _ hy)) ?_;by_cases hk:k=.free
  ·subst hk
   obtain⟨c,hc⟩:=hh (n,.free) cK rfl;have hc':env.cells.lookup n=some c:=hc;simp only[beq_self_eq_true,if_true,hc'];cases hx:x==n with
   | true=>exact .inl ⟨c,by simp[dU,hx]⟩
   | false =>
    rcases h with ⟨d,h⟩ | h
    ·exact .inl ⟨d,by simp[dU,hx,h]⟩
    ·rcases cY.mp h with e | h
     ·injection e with e1 _
      subst e1;simp at hx
     ·exact .inr h
  ·have hb:(k==NameKind.free)=false:=by simpa using hk
   simp only[hb,bX,if_false];rcases h with h | h
   ·exact .inl h
   ·rcases cY.mp h with e | h
    ·injection e with _ e2
     exact absurd e2.symm hk
    ·exact .inr h
theorem zIn:∀ {ns:List (Str×NameKind)} {cs:List (Str×Addr)},(∀ y∈ns,y.2=.free->∃ c,env.cells.lookup y.1=some c) ->
  (forIn ns cs fun(x:Str×NameKind) (r:List (Str×Addr))=>if (x.2==NameKind.free)=true then (do let a <-cellOf env x.1;pure (ForInStep.yield ((x.1,a)::r)):Sem _) else pure (ForInStep.yield r))=(pure (zEJ env ns cs):Sem _)
 | [],_,_=>rfl
 | (n,k)::r,cs,hh=>by
  rw[List.forIn_cons];have ih:=fun cs'=>zIn (env:=env) (ns:=r) (cs:=cs') fun y hy=>hh y (cJ _ hy);by_cases hk:k=.free
  ·subst hk
   obtain⟨c,hc⟩:=hh (n,.free) cK rfl;have hc':env.cells.lookup n=some c:=hc;have e:cellOf env n=pure c:=by unfold cellOf;rw[hc']
   simp only[beq_self_eq_true,if_true,e,pure_bind];rw[ih];have q:zEJ env ((n,NameKind.free)::r) cs=zEJ env r ((n,c)::cs):=by simp only[zEJ,beq_self_eq_true,if_true,hc']
   rw[q]
  ·have hb:(k==NameKind.free)=false:=by simpa using hk
   simp only[hb,bX,if_false,pure_bind];rw[ih];have q:zEJ env ((n,k)::r) cs=zEJ env r cs:=by simp only[zEJ,hb,bX,if_false]
   rw[q]
theorem zCz(hh:∀ y∈sc.names,y.2=.free->∃ c,env.cells.lookup y.1=some c):closureFor sc env=pure (zMM sc env):=by
 have e:=zIn (env:=env) (ns:=sc.names) (cs:=[]) hh;unfold closureFor;show(forIn sc.names [] 64#0>>=fun s=>pure s)=_;have hb:64#0 =
   fun(x:Str×NameKind) (r:List (Str×Addr))=>if (x.2==NameKind.free)=true then (do let a <-cellOf env x.1;pure (ForInStep.yield ((x.1,a)::r)):Sem _) else pure (ForInStep.yield r):=by
  funext x r;obtain⟨n,k⟩:=x;rfl
 rw[hb,e];rfl
noncomputable def Cx.comp(X:Cx)(N':List Str)(sc:Scope)(C:Addr)(s:Shared)(H:Hp)(fp:List Addr)(pins:26#0):Cx :=
 { X with N:=N',s₀:=s,H₀:=H,env:=compEnvC sc (zMM sc X.env) C X.env,outer:=X.stack,ex:=fp,fn:=fun u0=>false,pn:=X.pn++pins,xe:=fun u0 u0=>False }
noncomputable def PTs(X:Cx)(ifs:List Expr)(t:TT):Prop :=
 ∀(pins:26#0) (s:Shared) (σ:St) (H:Hp) (Q:Bool->Hp->Prop),zV X pins σ H s->t σ H Q ->
  wpAny 23#0 X.A (forIn ifs true fun c r=>if r=true then do let ok <-isTrue c X.env (eval c X.env);pure (ForInStep.yield ok) else pure (ForInStep.yield r)) (TP X pins σ Q) X.xe s
noncomputable def zUs:TT:=fun u0 H Q=>Q true H
theorem zQK:PTs X [] zUs:=fun u0 u0 u0 H u0 I h=>wpAny_tests_nil ⟨H,I,h⟩
theorem zQL(h:PT X c t):PTs X [c] t:=fun pins s σ H Q I hq=>wpAny_tests_one (h pins s σ H Q I hq)
noncomputable def zNn(n0:Nat)(wi:TI)(g:TG)(tc:TT)(te:TE):TE:=fun σ H Q=>wi σ H fun J H1=>∀ D,H1 D=none->∃ W:Nat->Nat->Hp->Prop,(∃ m,W 0 m (wY H1 D (.lst []))) /\
 ∀ i m H2,W i m H2->(J.stop i H2/\Q (.ref D) H2) \/
  (J.go i H2/\∀ x H3,J.yld i H2 x H3->g x (σ++cN n0 none) H3 fun σ4 H4=>σ4.take σ.length=σ/\σ4.length=σ.length+n0/\tc σ4 H4 fun b H5 =>
   if b=true then te σ4 H5 fun v H6=>∃ acc,H6 D=some (.lst acc)/\acc.length<sizeLine/\∃ m',m'<m/\W (i+1) m' (wY H6 D (.lst (acc++[v]))) else ∃ m',m'<m/\W (i+1) m' H5)
theorem PE.mono(h:PE X e t)(hm:∀ σ H Q,t' σ H Q->t σ H Q):PE X e t':=fun pins s σ H Q I q=>h pins s σ H Q I (hm σ H Q q)
theorem PT.mono(h:PT X e t)(hm:∀ σ H Q,t' σ H Q->t σ H Q):PT X e t':=fun pins s σ H Q I q=>h pins s σ H Q I (hm σ H Q q)
theorem PS.mono(h:PS X e t)(hm:∀ D σ H,t' D σ H->t D σ H):PS X e t':=fun pins s σ H D I q=>h pins s σ H D I (hm D σ H q)
section
variable {X:Cx} {tg elt iter:Expr} {ifs:List Expr} {sc:Scope} {pos:Pos} {N0 own:List Str} {wi:TI} {g:TG} {tc:TT} {te:TE}
structure zEK (X:Cx) (sc:Scope) (N0:List Str):Prop where
 kind:sc.kind=.function
 cell:∀ y∈sc.names,y.2≠.cell
 names:∀ y∈sc.names,y.2=.local->sc.names.lookup y.1=some .local
 cap:∀ y∈sc.names,y.2=.free->X.env.kindOf y.1=some .cell\/X.env.kindOf y.1=some .free
 len:N0.length=X.N.length
 vis:∀(i:Nat) (x:Str),N0[i]?=some x->Vis (relabel sc X.env) x->X.N[i]?=some x/\sc.names.lookup x=some .free
theorem zA3{env:Env}:∀ {names:List (Str×NameKind)} {x:Str},(∀ y∈names,y.2≠.cell) ->
    ((names.map fun(n,k)=>if 18#0 then (n,NameKind.cell) else (n,k)).lookup x=some .cell \/
     (names.map fun(n,k)=>if 18#0 then (n,NameKind.cell) else (n,k)).lookup x=some .free)->names.lookup x=some .free
  | [],_,_,h=>by rcases h with h | h<;>simp at h
  | (n,k)::r,x,hc,h=>by
    have ih:=@zA3 env r x fun y hy=>hc y (cJ _ hy);have hk:k≠.cell:=hc (n,k) cK;have hd:∀(z:NameKind),(((n,k)::r).map fun(n,k)=>if 18#0 then (n,NameKind.cell) else (n,k)).lookup x=some z ->
        if (x==n)=true then (if 18#0=true then z=.cell else z=k) else (r.map fun(n,k)=>if 18#0 then (n,NameKind.cell) else (n,k)).lookup x=some z:=by
      intro z e;have e':List.lookup x ((if 18#0=true then (n,NameKind.cell) else (n,k))::(r.map fun(n,k)=>if 18#0 then (n,NameKind.cell) else (n,k)))=some z:=e;cases hx:x==n with
      | true =>
        rw[if_pos rfl];by_cases hq:18#0=true
        · rw[if_pos hq] at e' ⊢
          simp only[dU,hx] at e';exact(Option.some.inj e').symm
        · rw[if_neg hq] at e' ⊢
          simp only[dU,hx] at e';exact(Option.some.inj e').symm
      | false =>
        rw[if_neg 13#0];by_cases hq:18#0=true
        · rw[if_pos hq] at e';simpa only[dU,hx] using e'
        · rw[if_neg hq] at e';simpa only[dU,hx] using e'
    cases hx:x==n with
    | true =>
      simp only[dU,hx];rcases h with h | h
      · have q:=hd _ h
        rw[if_pos hx] at q;by_cases hq:18#0=true
        · have:(k==NameKind.free)=true:=by
            cases hk':k==NameKind.free with
            | true=>rfl
            | false=>simp[hk'] at hq
          have:k=.free:=by simpa using this
          rw[this]
        · rw[if_neg hq] at q;exact absurd q.symm hk
      · have q:=hd _ h
        rw[if_pos hx] at q;by_cases hq:18#0=true
        · rw[if_pos hq] at q;cases q
        · rw[if_neg hq] at q;rw[<-q]
    | false =>
      simp only[dU,hx];refine ih ?_;rcases h with h | h
      · have q:=hd _ h
        rw[if_neg (by simp[hx])] at q;exact .inl q
      · have q:=hd _ h
        rw[if_neg (by simp[hx])] at q;exact .inr q
theorem zMO{X':Cx}{σ:St}{it D:Addr}{fp:List Addr}{tn:Nat->Heap->Prop}{J:It}{Q:VK}{W:Nat->Nat->Hp->Prop}{Z:Hp->Shared->Prop}{H0:Hp}{s₅:Shared}{m0:Nat}(hc:X'.calm=true)(hx:∀ v s,X'.xe v s->False)(Tn:Turn X'.prog X'.w X'.K tg J fp it tn)
  (hg:PG X' tg g) (ht:PTs X' ifs tc) (he:PE X' elt te)
  (turn:∀ i m H2,W i m H2->(J.stop i H2/\Q (.ref D) H2) \/
    (J.go i H2/\∀ x H3,J.yld i H2 x H3->g x (σ++cN own.length none) H3 fun σ4 H4=>σ4.take σ.length=σ/\σ4.length=σ.length+own.length/\tc σ4 H4 fun b H5 =>
     if b=true then te σ4 H5 fun v H6=>∃ acc,H6 D=some (.lst acc)/\acc.length<sizeLine/\∃ m',m'<m/\W (i+1) m' (wY H6 D (.lst (acc++[v]))) else ∃ m',m'<m/\W (i+1) m' H5))
  (fpX:∀ {H:Hp},(∀ b∈fp,H b=none)->∀ b∈fp,zEI X' [] H b) (back:∀ {σ':St} {H':Hp} {s':Shared},zV X' [] σ' H' s'->Z H' s')
  (I4:zV X' [] (σ++cN own.length none) H0 s₅) (st4:tn 0 s₅.heap) (fpD:∀ b∈fp,H0 b=none) (w0:W 0 m0 H0) :
  codeAny (model X'.prog X'.w) X'.A (.compLoop 53#0 0 (.ref it) (.ref D) X'.env) (fun r s'=>∃ H',r=.ok .next/\Z H' s'/\Q (.ref D) H') s₅:=by
  refine codeAny_loop rfl (fun n s'=>∃ i H',zV X' [] (σ++cN own.length none) H' s'/\tn i s'.heap/\(∀ b∈fp,H' b=none)/\W i n H') (fun n s6=>?_) m0 ⟨0,_,I4,st4,fpD,w0⟩;rintro⟨i,H6,I6,st6,fr6,w6⟩;show wpAny _ X'.A ((compTurn 53#0 0 (.ref it) (.ref D) X'.env).onRaise (fun x=>do noteFrame x X'.env;theTreesLotGoes x)) _ _ s6;refine wpAny_noted ?_;rw[compTurn_list];have nox:∀ {α:Type} {t:Sem α} {Q:α->Shared->Prop} {E':12#0} {s:Shared},wpAny (model X'.prog X'.w) X'.A t Q X'.xe s->wpAny (model X'.prog X'.w) X'.A t Q E' s:=fun h=>wpAny_mono h (fun u0 u0 q=>q) fun v s z=>(hx v s z).elim;refine bW (wpAny_standAt (bW ?_));rcases turn i n H6 w6 with ⟨stop,qn⟩ | ⟨go,step⟩
  ·refine nox (yg (Tn.done X' rfl rfl rfl hc i [] s6 _ H6 _ I6 (fpX fr6) st6 stop) fun r s7 u9=>?_);obtain⟨hr,I7⟩:=u9
   subst hr;exact cc ⟨H6,rfl,back I7,qn⟩
  ·refine nox (yg (Tn.item X' rfl rfl rfl hc i [] s6 _ H6 _ I6 (fpX fr6) st6 go) fun r s7 u9=>?_);obtain⟨u,hr,h7⟩:=u9
   subst hr;refine bW (nox (yg h7 fun _ s8 u9=>?_));obtain⟨x,H8,I8,r8,y8,st8,fr8⟩:=u9;have I8':=I8.pinned (fpX fr8) (Tn.obj _ _ st8);refine bW (nox (yg (hg _ s8 _ H8 x u _ I8' r8 (step x H8 y8)) fun _ s9 u9=>?_));obtain⟨σ9,H9,I9,q1,q2,q9⟩:=u9;have again:∀ {s':Shared} {H':Hp},zV X' ([]++zFX fp s8.heap) σ9 H' s'->(∃ m',m'<n/\W (i+1) m' H')->∃ m,m<n/\∃ i H',zV X' [] (σ++cN own.length none) H' s'/\tn i s'.heap/\(∀ b∈fp,H' b=none)/\W i m H':=by
    intro s' H' J ⟨m',hm,w'⟩;refine⟨m',hm,i+1,H',?_,Tn.keep _ _ _ st8 fun b hb o e=>(J.pin (b,o) (dD _ (dD _ (zBb hb e)))).1,fun b hb=>?_,w'⟩
    ·refine(J.unpinned).weak ?_ fun j v e=>?_
     ·rw[q2,cD,List.length_replicate]
     ·have hj:j<σ.length:=by
       by_cases hj:j<σ.length
       ·exact hj
       ·rw[dh 1#0,List.getElem?_replicate] at e
        split at e<;>cases e
      rw[du hj] at e;rw[<-q1,List.getElem?_take_of_lt hj] at e;exact e
    ·obtain⟨o,e,d⟩:=Tn.obj _ _ st8 b hb
     exact(J.pin (b,o) (dD _ (dD _ (zBb hb e)))).2.1
   refine bW (nox (yg (ht _ s9 σ9 H9 _ I9 q9) fun ok s10 u9=>?_));obtain⟨H10,I10,q10⟩:=u9;cases ok with
   | false=>exact cc ⟨rfl,again I10 q10⟩
   | true =>
    refine bW (bW (nox (yg (he _ s10 σ9 H10 _ I10 q10) fun uv s11 u9=>?_)));obtain⟨v,H11,I11,r11,acc,hD11,hz,q11⟩:=u9;refine bW (nox (yg (zGp _ s11 σ9 H11 (.ref D) [v] (.ref D) [uv] (fun u0 H12=>H12=wY H11 D (.lst (acc++[v]))) I11 rfl (.cons r11 .nil) ⟨_,acc,v,rfl,rfl,hD11,hz,rfl⟩) fun _ s12 u9=>?_));obtain⟨_,H12,I12,_,q12⟩:=u9;subst q12;exact cc (cc ⟨rfl,again I12 q11⟩)
theorem zFb{pins:26#0}{σ:St}{s₂:Shared}{itv:Value}{Q:VK}{E:12#0}(hc:85#0)(T:zEK X sc N0)
  (hg:∀ C s H fp pins,PG 61#0 tg g) (ht:∀ C s H fp pins,PTs 61#0 ifs tc) (he:∀ C s H fp pins,PE 61#0 elt te)
  (h:PIE X pins σ tg (fun J H1=>∀ D,H1 D=none->∃ W:Nat->Nat->Hp->Prop,(∃ m,W 0 m (wY H1 D (.lst []))) /\
   ∀ i m H2,W i m H2->(J.stop i H2/\Q (.ref D) H2) \/
    (J.go i H2/\∀ x H3,J.yld i H2 x H3->g x (σ++cN own.length none) H3 fun σ4 H4=>σ4.take σ.length=σ/\σ4.length=σ.length+own.length/\tc σ4 H4 fun b H5 =>
     if b=true then te σ4 H5 fun v H6=>∃ acc,H6 D=some (.lst acc)/\acc.length<sizeLine/\∃ m',m'<m/\W (i+1) m' (wY H6 D (.lst (acc++[v]))) else ∃ m',m'<m/\W (i+1) m' H5)) itv s₂) :
  wpAny 23#0 X.A (newList []) (fun acc s₃=>wpAny 23#0 X.A (newFunctionEnv sc X.env.globals (zMM sc X.env) [] X.env.qual none .none (some X.env)) (fun cenv s₄ =>
   codeAny 23#0 X.A (.compStart 53#0 0 itv acc { cenv with scope:=relabel sc X.env })
    (fun r s'=>∃ D H' m,r=.ok .next/\acc=.ref D/\zV X pins σ H' s'/\zEI X pins H' cenv.locals/\s'.heap.Ns cenv.locals m/\Q (.ref D) H') s₄) E s₃) E s₂:=by
 obtain⟨it,fp,tn,J,H1,rfl,I2,Tn,st2,f2,hR⟩:=h;refine d8 (wpAny_newFunctionEnv T.cell (by intro y hy;simp at hy) (fun h₁ hns₁ hsb₁=>?_) T.kind);dsimp only at hns₁ hsb₁ ⊢;generalize hH2:s₂.heap.push { cls:=.type "list",dict:=none,data:=.seq ([]:List Value).toArray }=h3 at hns₁ hsb₁ ⊢;have hC:h3.objs.size=s₂.heap.objs.size+1:=by rw[<-hH2,er]
 -- the list
 have I3:zV X pins σ (wY H1 s₂.heap.objs.size (.lst [])) { s₂ with heap:=h3 }:=by
  rw[<-hH2];exact I2.laid (t':=s₂.toks) (fun b u e=>c9 _ e) (cr _) ⟨by simp,[],0,.nil,cw _ rfl⟩
 have fD:H1 s₂.heap.objs.size=none:=I2.hok.fresh (cr _);obtain⟨W,⟨m0,w0⟩,turn⟩:=hR _ fD;have kp:∀ b o,h3.get? b=some o->h₁.get? b=some o:=fun b o e=>hsb₁.extBut b o (cR (cy e)) (c9 _ e);have fp2:∀ b∈fp,b<s₂.heap.objs.size:=fun b hb=>by
  obtain⟨o,e,u0⟩:=Tn.obj _ _ st2 b hb;exact cy e
 -- the block's context
 have CK:∀ x c,(zMM sc X.env).lookup x=some c->X.env.cells.lookup x=some c:=fun x c e=>zMN e;have nofs:∀ {b:Addr},h3.objs.size<=b->b∉frs X.stack:=fun {b} hb z=>by
  rcases cY.mp (I3.stkSub b z) with e | z
  ·exact absurd (d7 I3.lt (show h3.objs.size<=X.env.locals by rw[<-e];exact hb)) (el _)
  ·exact I3.nofs (a:=b) hb z
 have fpS:∀ b∈fp,b∉frs X.stack:=fun b hb z=>by
  rcases cY.mp (I3.stkSub b z) with e | z
  ·exact(f2 b hb).2.1 e
  ·exact(f2 b hb).2.2.1 z
 have fpD:∀ b∈fp,wY H1 s₂.heap.objs.size (.lst []) b=none:=fun b hb=>by rw[yJ (cR (fp2 b hb))];exact(f2 b hb).1
 have pinS:∀ p∈X.pn++pins,p.1∉frs X.stack:=fun p hp z=>by
  obtain⟨u0,u0,n1,n2,u0⟩:=I3.pin p hp;rcases cY.mp (I3.stkSub p.1 z) with e | z
  ·exact n1 e
  ·exact n2 z
 let X':=X.comp (N0++own) sc h3.objs.size { s₂ with heap:=h3 } (wY H1 s₂.heap.objs.size (.lst [])) fp pins;have cells':∀ x,(X'.env.kindOf x=some .cell\/X'.env.kindOf x=some .free)->sc.names.lookup x=some .free:=fun x hx=>zA3 T.cell hx;have hfree:∀ y∈sc.names,y.2=.free->∃ c,X.env.cells.lookup y.1=some c:=fun y hy hf=>I2.ok.has _ (T.cap y hy hf);have ok':X'.Ok:=by
  refine⟨I3.ok.mod,?_,I3.ok.glob,I3.ok.blt,cr _,fun x y c e1 e2=>I3.ok.inj x y c (CK _ _ e1) (CK _ _ e2),fun x hx=>?_,fun x c z=>(by cases z),I3.ok.hd,I3.ok.frames,.inl rfl,fun b hb=>⟨?_,fun x c e=>?_⟩,I3.bs,dF I3.ok.bsz I3.sz,fun b o e hb=>?_,fpS,I3.stack,I3.stkFree,I3.tabs⟩
  ·exact T.kind
  ·have hx':=cells' x hx
   exact zFa hfree (.inr (PySem.mem_of_lookup hx'))
  ·exact cR (d7 (fp2 b hb) (by show s₂.heap.objs.size<=h3.objs.size;rw[hC];exact fB _))
  ·exact(f2 b hb).2.2.2.2.1 x c (CK x c e)
  ·have:=(I3.bs b o e).1
   rcases(f2 b hb).2.2.2.1 with z | z
   ·exact I3.ok.noex b o e z
   ·have:=d7 (cy e) I3.ok.bsz
    exact absurd (d7 this z) (el _)
 have hlook:∀(i:Nat) (x:Str) (v:V),(N0++own)[i]?=some x->(σ++cN own.length none)[i]?=some (some v)->Vis (relabel sc X.env) x->∃ c u,RelV v u/\X'.env.cells.lookup x=some c/\(X'.env.kindOf x=some .cell\/X'.env.kindOf x=some .free)/\h3.IsCell c (some u):=by
  intro i x v e1 e2 e3;have hi:i<σ.length:=by
   by_cases hi:i<σ.length
   ·exact hi
   ·rw[dh 1#0,List.getElem?_replicate] at e2
    split at e2<;>cases e2
  have e2':σ[i]?=some (some v):=by rw[du hi] at e2;exact e2
  have hi0:i<N0.length:=by rw[T.len,<-I3.len];exact hi
  have e1':N0[i]?=some x:=by rw[du hi0] at e1;exact e1
  obtain⟨n1,n2⟩:=T.vis i x e1' e3;have cp:=T.cap _ (PySem.mem_of_lookup n2) rfl;obtain⟨m,hn,hl⟩:=I3.loc;have vis:Vis X.env.scope x:=by
   rcases cp with z | z
   ·exact .inr (.inl z)
   ·exact .inr (.inr z)
  obtain⟨u,r,l⟩:=hl i x v n1 e2' vis;obtain⟨c',hc'⟩:=zFa (env:=X.env) (ns:=sc.names) (cs:=[]) (x:=x) hfree (.inr (PySem.mem_of_lookup n2));have hc2:(zMM sc X.env).lookup x=some c':=hc';rcases l with ⟨z,u0⟩ | ⟨u0,c,e,q⟩
  ·rcases cp with z' | z'<;>(rw[z] at z';cases z')
  ·have:c=c':=by
    have:=CK _ _ hc2;rw[e] at this;exact Option.some.inj this
   subst this;refine⟨c,u,r,hc2,?_,q⟩;rcases e3 with z | z | z
   ·exfalso
    have:=lookup_relabel_local (env:=X.env) (names:=sc.names) (x:=x)
    -- a free name is not relabelled local
    have nl:∀ {names:List (Str×NameKind)},names.lookup x=some .free->(names.map fun(n,k)=>if 123#0 then (n,NameKind.cell) else (n,k)).lookup x≠some .local:=by
     intro names
     induction names with
     | nil=>intro h;simp at h
     | cons p r ih =>
      obtain⟨n,k⟩:=p;intro h;show List.lookup x ((if 123#0=true then (n,NameKind.cell) else (n,k))::_)≠_;cases hx:x==n with
      | true =>
       simp only[dU,hx] at h;cases h;by_cases hq:(NameKind.free==NameKind.free&&X.env.scope.kind==.function&&X.env.kindOf n==some .cell)=true
       ·rw[if_pos hq];simp[dU,hx]
       ·rw[if_neg hq];simp[dU,hx]
      | false =>
       simp only[dU,hx] at h;by_cases hq:123#0=true
       ·rw[if_pos hq];simp only[dU,hx];exact ih h
       ·rw[if_neg hq];simp only[dU,hx];exact ih h
    exact nl n2 z
   ·exact .inl z
   ·exact .inr z
 have σl:(σ++cN own.length none).length=(N0++own).length:=by
  rw[cD,cD,List.length_replicate,T.len,<-I3.len]
 have I4:zV X' [] (σ++cN own.length none) (wY H1 s₂.heap.objs.size (.lst [])) { s₂ with heap:=h₁,toks:=s₂.toks+([]:List (Str×Value)).length }:=by
  refine⟨ok',rfl,I3.bare,Un.kept kp,⟨_,hns₁,fun i x v e1 e2 e3=>?_⟩,fun x c e=>?_,I3.hok.fresh (cr _),fun x c e=>I3.freeC x c (CK x c e),fun p hp=>?_,I3.hok.kept kp,σl⟩
  ·obtain⟨c,u,r,q1,q2,q3⟩:=hlook i x v e1 e2 e3
   obtain⟨o,ho,hd⟩:=q3;exact⟨u,r,.inr ⟨q2,c,q1,o,kp c o ho,hd⟩⟩
  ·obtain⟨v,o,ho,hd⟩:=I3.cell x c (CK x c e)
   exact⟨v,o,kp c o ho,hd⟩
  ·have hp':p∈X.pn++pins:=by
    have:p∈(X.pn++pins)++[]:=hp;sleep 33
   obtain⟨e,n,ne,nf,d⟩:=I3.pin p hp';exact⟨kp _ _ e,n,cR (cy e),pinS p hp',d⟩
 have fpX:∀ {H:Hp},(∀ b∈fp,H b=none)->∀ b∈fp,zEI X' [] H b:=fun {H} hn b hb=>by
  refine⟨hn b hb,(ok'.exf b hb).1,fpS b hb,.inl hb,(ok'.exf b hb).2,fun p hp=>?_⟩;have hp':p∈X.pn++pins:=by
   have:p∈(X.pn++pins)++[]:=hp;sleep 33
  exact(f2 b hb).2.2.2.2.2 p hp'
 have st4:tn 0 h₁:=Tn.keep 0 s₂.heap h₁ st2 fun b hb o e=>kp b o (hH2▸c9 _ e)
 -- back to the context around
 have back:∀ {σ':St} {H':Hp} {s':Shared},zV X' [] σ' H' s'->zV X pins σ H' s'/\zEI X pins H' h3.objs.size/\∃ m,s'.heap.Ns h3.objs.size m:=fun {σ' H' s'} J=>by
  have u:Un (frs X.stack) fp (wY H1 s₂.heap.objs.size (.lst [])) H' h3 s'.heap:=J.base;have J3:zV X pins σ H' s':=I3.call' J.os u J.hok J.bare fun b hb=>⟨(f2 b hb).2.2.2.1,(f2 b hb).2.1,(f2 b hb).2.2.2.2.1,(f2 b hb).2.2.2.2.2⟩
  obtain⟨m,hn,u0⟩:=J.loc;refine⟨J3,?_,m,hn⟩;refine⟨J.free,Nat.ne_of_gt I3.lt,I3.nofs (cr _),.inr I3.sz,fun x c e z=>?_,fun p hp z=>?_⟩
  ·obtain⟨v,q⟩:=I3.cell x c e
   exact absurd (d7 q.lt (by rw[z];exact cr _)) (el _)
  ·exact absurd (d7 (cy (I3.pin p hp).1) (by rw[z];exact cr _)) (el _)
 have loop:∀ s₅:Shared,s₅={ s₂ with heap:=h₁,toks:=s₂.toks+([]:List (Str×Value)).length } ->
   codeAny 23#0 X.A (.compLoop 53#0 0 (.ref it) (.ref s₂.heap.objs.size) X'.env)
    (fun r s'=>∃ D H' m,r=.ok .next/\Value.ref s₂.heap.objs.size=.ref D/\zV X pins σ H' s'/\zEI X pins H' h3.objs.size/\s'.heap.Ns h3.objs.size m/\Q (.ref D) H') s₅:=by
  rintro s₅ rfl;exact eO (zMO (X':=X') (Z:=fun H' s'=>zV X pins σ H' s'/\zEI X pins H' h3.objs.size/\∃ m,s'.heap.Ns h3.objs.size m) hc (fun u0 u0 z=>z) Tn (hg _ _ _ _ _) (ht _ _ _ _ _) (he _ _ _ _ _) turn fpX back I4 st4 fpD w0) fun r s' ⟨H',e,⟨b1,b2,m,b3⟩,q⟩=>⟨_,H',m,e,rfl,b1,b2,b3,q⟩
 exact codeAny_compStart_list (loop _ rfl) (Tn.self _ 0 _ _ _ st4 (loop _ rfl))
theorem zQM(hc:85#0)(T:zEK X sc N0)(hi:PI X tg iter wi)
  (hg:∀ C s H fp pins,PG 61#0 tg g) (ht:∀ C s H fp pins,PTs 61#0 ifs tc) (he:∀ C s H fp pins,PE 61#0 elt te)
  (hs:27#0):PE X 53#0 (zNn own.length wi g tc te):=by
 sleep 25;rw[eval_ListComp];refine wpAny_comprehension_free (use:=none) rfl hs (zCz fun y hy hf=>I.ok.has _ (T.cap y hy hf)) T.kind T.names ?_;refine yg (hi pins s σ H _ I h) fun xv s₁ h₁=>yg h₁ fun it s₂ h₂=>?_;refine yg (zFb (iter:=iter) (pos:=pos) (E:=X.xe) (Q:=Q) hc T hg ht he h₂) fun acc s₃ h₃=>yg h₃ fun cenv s₄ h₄=>eO h₄ fun r s' hr=>?_;obtain⟨D,H',m,rfl,rfl,J,f,hn,q⟩:=hr;refine⟨m,hn,fun h' hs'=>⟨.ref D,H',?_,rfl,q⟩⟩;exact J.turned (t':=s'.toks) (fun b o hb e=>(hs'.2 b hb).trans e) f.1 f.2.1 f.2.2.2.1 f.2.2.2.2.1 f.2.2.2.2.2
theorem zJ3(hc:85#0)(T:zEK X sc N0)(hi:PI X tg iter wi)
  (hg:∀ C s H fp pins,PG 61#0 tg g) (ht:∀ C s H fp pins,PTs 61#0 ifs tc) (he:∀ C s H fp pins,PE 61#0 elt te)
  (hN:X.N.Nodup) (hy:X.N[i]?=some y) (hl:X.env.scope.names.lookup y=some .local)
  (hsw:swapsWith 53#0 (some (.Name y py)) spos.line X.env=pure true)
  (hs:27#0):PS X (.Assign [.Name y py] 53#0 spos) (fun D σ H=>zNn own.length wi g tc te σ H fun v H1=>D.nx (σ.set i (some v)) H1):=by
 intro pins s σ H D I h;rw[exec_Assign_Name_used _ _ _ _ hsw];refine bW (wpAny_standAt (bW ?_));show wpAny _ X.A (do let _ <-comprehension 53#0 sc X.env _ (newList []) false (eval iter X.env) (some (assign (.Name y py) X.env))) _ _ s;refine bW (wpAny_mono (wpAny_comprehension_free (use:=some (assign (.Name y py) X.env)) (Q:=fun u0 s'=>SP X pins D .next s') rfl hs (zCz fun y hy hf=>I.ok.has _ (T.cap y hy hf)) T.kind T.names
  (yg (hi pins s σ H _ I h) fun xv s₁ h₁=>yg h₁ fun it s₂ h₂=>?_)) (fun u0 s' hq=>cc (cc hq)) fun u0 u0 e=>e)
 refine yg (zFb (iter:=iter) (pos:=pos) (E:=X.xe) (Q:=fun v H1=>D.nx (σ.set i (some v)) H1) hc T hg ht he h₂) fun acc s₃ h₃=>yg h₃ fun cenv s₄ h₄=>eO h₄ fun r s' hr=>?_;obtain⟨A,H',m,rfl,rfl,J,f,hn,q⟩:=hr;show wpAny _ X.A (assign (.Name y py) X.env (.ref A)) _ _ _;refine wpAny_assign_Name (zGj J hN hy (.inl hl) (v:=.ref A) rfl (fun s'' J' ⟨a,sb,ha⟩=>?_) (.inr hl));have hCa:cenv.locals≠a:=by
  rcases ha with z | z
  ·rw[z];exact f.2.1
  ·exact fun e=>f.2.2.2.2.1 y a z e.symm
 refine⟨m,hn.sameBut sb hCa,fun h' hs'=>⟨_,H',?_,q⟩⟩;exact J'.turned (t':=s''.toks) (fun b o hb e=>(hs'.2 b hb).trans e) f.1 f.2.1 f.2.2.2.1 f.2.2.2.2.1 f.2.2.2.2.2
end
end L2
namespace L3
open L2
set_option genInjectivity true in
inductive D where
 | non | bl (b:Bool) | int (i:Int) | str (x:Str) | tup (ds:List D) | adr (a:Addr) | dic (a:Addr)
mutual
noncomputable def zR(K:15#0)(H:Hp):D->V->Prop
 | .non,v=>v=V.non
 | .bl b,v=>v=V.bl b
 | .int i,v=>v=V.int i
 | .str x,v=>v=V.str x
 | .adr a,v=>v=V.ref a
 | .dic a,v=>v=V.ref a/\∃ o x,H a=some (.frz o (.own x))/\o.cls=.type "dict"
 | .tup ds,v=>∃ a xs,v=V.ref a/\SqT K H a xs/\Dens K H ds xs
noncomputable def Dens(K:15#0)(H:Hp):List D->List V->Prop
 | [],xs=>xs=[]
 | d::ds,xs=>∃ x r,xs=x::r/\zR K H d x/\Dens K H ds r
end
structure Gp where
 m:Addr->Option (List D)
 ro:Addr->Option (List D)
noncomputable def za(G:Gp)(a:Addr)(o:List D):Gp:={ G with m:=fun b=>if b=a then some o else G.m b }
theorem zK:(za G a o).m a=some o:=if_pos rfl
theorem ze(h:b≠a):(za G a o).m b=G.m b:=if_neg h
theorem zCe:za (za G a o) a u=za G a u:=by
 unfold za;congr 1;funext b;by_cases h:b=a
 ·simp only[if_pos h]
 ·simp only[if_neg h]
theorem gne{G:Gp}{a b:Addr}{o:List D}(h:G.m a=some o)(h':G.m b=none):a≠b:=fun e=>by rw[e,h'] at h;cases h
structure Sub (G G':Gp):Prop where
 m:∀ a o,G.m a=some o->G'.m a=some o
 ro:∀ a o,G.ro a=some o->G'.ro a=some o
theorem Sub.refl(G:Gp):Sub G G:=⟨fun u0 u0 h=>h,fun u0 u0 h=>h⟩
theorem Sub.trans{G G1 G2:Gp}(h:Sub G G1)(h':Sub G1 G2):Sub G G2:=⟨fun a o e=>h'.m a o (h.m a o e),fun a o e=>h'.ro a o (h.ro a o e)⟩
theorem Sub.new(h:G.m p=none):Sub G (za G p o):=⟨fun a u e=>by rw[ze (gne e h)];exact e,fun u0 u0 e=>e⟩
noncomputable def Ls(G:Gp)(a:Addr)(ds:List D):Prop:=G.m a=some ds\/G.ro a=some ds
theorem Ls.sub(h:Ls G a ds)(s:Sub G G'):Ls G' a ds:=by
 rcases h with h | h
 ·exact .inl (s.m a ds h)
 ·exact .inr (s.ro a ds h)
theorem Ls.own:Ls (za G a ds) a ds:=.inl zK
noncomputable def RoL(K:15#0)(H:Hp)(a:Addr)(xs:List V):Prop :=
 (∃ o,H a=some (.frz o (.lst xs)))\/∃(o:Obj) (its:102#0) (n:Nat),K.lookup a=some o/\o.cls=.type "list"/\o.dict=none/\o.data=.seq its n/\its.size<=sizeLine/\zY xs its.toList
theorem RoL.sq{K:15#0}{H:Hp}{a:Addr}{xs:List V}(h:RoL K H a xs):SqL K H a xs:=by
 rcases h with h | h
 ·exact .inl (.inr h)
 ·exact .inr h
structure yH (K:PySem.W.Frag) (G:Gp) (H:Hp):Prop where
 m:∀ a ds,G.m a=some ds->∃ xs,H a=some (.lst xs)/\Dens K H ds xs
 ro:∀ a ds,G.ro a=some ds->∃ xs,RoL K H a xs/\Dens K H ds xs
structure yA (H H':Hp):Prop where
 tups:∀ a xs,H a=some (.tup xs)->H' a=some (.tup xs)
 frzs:∀ a o u,H a=some (.frz o u)->H' a=some (.frz o u)
section
variable {K:PySem.W.Frag} {H H' H'':Hp} {G G':Gp}
theorem yA.refl(H:Hp):yA H H:=⟨fun u0 u0 h=>h,fun u0 u0 u0 h=>h⟩
theorem yA.trans(a:yA H H')(b:yA H' H''):yA H H'':=⟨fun c xs h=>b.tups c xs (a.tups c xs h),fun c o u h=>b.frzs c o u (a.frzs c o u h)⟩
theorem yA.fresh(h:H p=none):yA H (wY H p o):=⟨fun a xs e=>by rw[yJ (yY e h)];exact e,fun a o u e=>by rw[yJ (yY e h)];exact e⟩
theorem yA.lst{p:Addr}{xs:List V}{o:HO}(h:H p=some (.lst xs)):yA H (wY H p o) :=
 ⟨fun a ys e=>by rw[yJ (zRi e h (by intro z;cases z))];exact e,fun a o u e=>by rw[yJ (zRi e h (by intro z;cases z))];exact e⟩
theorem yA.sqT(g:yA H H')(h:SqT K H a xs):SqT K H' a xs:=by
 rcases h with (h | ⟨o,h⟩) | h
 ·exact .inl (.inl (g.tups _ _ h))
 ·exact .inl (.inr ⟨o,g.frzs _ _ _ h⟩)
 ·exact .inr h
theorem yA.roL(g:yA H H')(h:RoL K H a xs):RoL K H' a xs:=by
 rcases h with ⟨o,h⟩ | h
 ·exact .inl ⟨o,g.frzs _ _ _ h⟩
 ·exact .inr h
mutual
theorem zR.grow(g:yA H H'):∀ {d:D} {v:V},zR K H d v->zR K H' d v
 | .non,_,h=>by unfold zR at h ⊢;exact h
 | .bl _,_,h=>by unfold zR at h ⊢;exact h
 | .int _,_,h=>by unfold zR at h ⊢;exact h
 | .str _,_,h=>by unfold zR at h ⊢;exact h
 | .adr _,_,h=>by unfold zR at h ⊢;exact h
 | .dic _,_,h=>by unfold zR at h ⊢;obtain⟨e,o,x,q,c⟩:=h;exact⟨e,o,x,g.frzs _ _ _ q,c⟩
 | .tup ds,v,h=>by
  unfold zR at h ⊢;obtain⟨a,xs,e,s,r⟩:=h;exact⟨a,xs,e,g.sqT s,Dens.grow g r⟩
theorem Dens.grow(g:yA H H'):∀ {ds:List D} {xs:List V},Dens K H ds xs->Dens K H' ds xs
 | [],_,h=>by unfold Dens at h ⊢;exact h
 | d::ds,xs,h=>by
  unfold Dens at h ⊢;obtain⟨x,r,e,h1,h2⟩:=h;exact⟨x,r,e,zR.grow g h1,Dens.grow g h2⟩
end
theorem Dens.length:∀ {ds:List D} {xs:List V},Dens K H ds xs->ds.length=xs.length
 | [],xs,h=>by unfold Dens at h;rw[h];rfl
 | d::ds,xs,h=>by
  unfold Dens at h;obtain⟨x,r,rfl,u0,h2⟩:=h;simp[Dens.length h2]
theorem Dens.get:∀ {ds:List D} {xs:List V} {i:Nat} {d:D},Dens K H ds xs->ds[i]?=some d->∃ x,xs[i]?=some x/\zR K H d x
 | [],_,_,_,_,e=>by simp at e
 | d::ds,xs,0,d',h,e=>by
  unfold Dens at h;obtain⟨x,r,rfl,h1,u0⟩:=h;simp at e;subst e;exact⟨x,rfl,h1⟩
 | d::ds,xs,i+1,d',h,e=>by
  unfold Dens at h;obtain⟨x,r,rfl,u0,h2⟩:=h;obtain⟨y,e1,e2⟩:=Dens.get (i:=i) (d:=d') h2 (by simpa using e);exact⟨y,by simpa using e1,e2⟩
theorem Dens.got:∀ {ds:List D} {xs:List V} {i:Nat} {x:V},Dens K H ds xs->xs[i]?=some x->∃ d,ds[i]?=some d/\zR K H d x
 | ds,xs,i,x,h,e=>by
  have hl:=h.length;have hi:i<ds.length:=by rw[hl];exact(cu.mp e).1
  obtain⟨y,e1,e2⟩:=h.get (i:=i) (d:=ds[i]) (by simp[hi]);rw[e] at e1;cases e1;exact⟨ds[i],by simp[hi],e2⟩
theorem Dens.nil:Dens K H [] []:=by unfold Dens;rfl
theorem Dens.cons{d:D}{ds:List D}{x:V}{xs:List V}(h:zR K H d x)(h':Dens K H ds xs):Dens K H (d::ds) (x::xs):=by unfold Dens;exact⟨x,xs,rfl,h,h'⟩
theorem Dens.append:∀ {ds es:List D} {xs ys:List V},Dens K H ds xs->Dens K H es ys->Dens K H (ds++es) (xs++ys)
 | [],_,xs,_,h,h'=>by unfold Dens at h;rw[h];exact h'
 | d::ds,_,xs,_,h,h'=>by
  sleep 59;exact Dens.cons h1 (Dens.append h2 h')
theorem Dens.of_get:∀ {ds:List D} {xs:List V},ds.length=xs.length->(∀(i:Nat) d x,ds[i]?=some d->xs[i]?=some x->zR K H d x)->Dens K H ds xs
 | [],[],_,_=>.nil
 | [],_::_,h,_=>by simp at h
 | _::_,[],h,_=>by simp at h
 | d::ds,x::xs,h,g=>.cons (g 0 d x rfl rfl) (Dens.of_get (by simpa using h) fun i d' x' e1 e2=>g (i+1) d' x' (by simpa using e1) (by simpa using e2))
theorem Dens.take{n:Nat}{ds:List D}{xs:List V}(h:Dens K H ds xs):Dens K H (ds.take n) (xs.take n) :=
 .of_get (by simp[h.length]) fun i d x e1 e2=>by
  rw[List.getElem?_take] at e1 e2;split at e1
  ·rename_i hi
   rw[if_pos hi] at e2;obtain⟨y,e,r⟩:=h.get e1;rw[e2] at e;cases e;exact r
  ·cases e1
theorem Dens.drop{n:Nat}{ds:List D}{xs:List V}(h:Dens K H ds xs):Dens K H (ds.drop n) (xs.drop n) :=
 .of_get (by simp[h.length]) fun i d x e1 e2=>by
  rw[List.getElem?_drop] at e1 e2;obtain⟨y,e,r⟩:=h.get e1;rw[e2] at e;cases e;exact r
theorem Dens.set{ds:List D}{xs:List V}{d:D}{x:V}(i:Nat)(h:Dens K H ds xs)(hd:zR K H d x):Dens K H (ds.set i d) (xs.set i x) :=
 .of_get (by simp[h.length]) fun j d' x' e1 e2=>by
  by_cases hj:i=j
  ·subst hj
   have hi:i<ds.length:=by
    have:=(cu.mp e1).1;sleep 33
   rw[ft hi] at e1;rw[ft (by rw[<-h.length];exact hi)] at e2;cases e1;cases e2;exact hd
  ·rw[List.getElem?_set_ne hj] at e1 e2
   obtain⟨y,e,r⟩:=h.get e1;rw[e2] at e;cases e;exact r
theorem Dens.eraseIdx:∀ {ds:List D} {xs:List V} (i:Nat),Dens K H ds xs->Dens K H (ds.eraseIdx i) (xs.eraseIdx i)
 | [],xs,i,h=>by unfold Dens at h;subst h;exact .nil
 | d::ds,xs,0,h=>by
  sleep 59;exact h2
 | d::ds,xs,i+1,h=>by
  sleep 59;exact .cons h1 (Dens.eraseIdx i h2)
theorem Dens.reverse:∀ {ds:List D} {xs:List V},Dens K H ds xs->Dens K H ds.reverse xs.reverse
 | [],xs,h=>by unfold Dens at h;subst h;exact .nil
 | d::ds,xs,h=>by
  sleep 59;rw[fJ,fJ];exact(Dens.reverse h2).append (.cons h1 .nil)
theorem Dens.ints(ns:129#0):Dens K H (ns.map D.int) (ns.map V.int):=by
 induction ns with
 | nil=>exact .nil
 | cons n r ih=>exact .cons 37#0 ih
theorem yH.fresh{p:Addr}{o:HO}(h:H p=none)(r:yH K G H):yH K G (wY H p o) :=
  ⟨fun a ds e=>by
    obtain⟨xs,e1,e2⟩:=r.m a ds e;exact⟨xs,by rw[yJ (yY e1 h)];exact e1,e2.grow (.fresh h)⟩,
   fun a ds e=>by
    obtain⟨xs,e1,e2⟩:=r.ro a ds e;exact⟨xs,(yA.fresh h).roL e1,e2.grow (.fresh h)⟩⟩
theorem yH.free{p:Addr}(r:yH K G H)(h:H p=none):G.m p=none:=by
 cases q:G.m p with
 | none=>rfl
 | some ds=>obtain⟨xs,e1,u0⟩:=r.m p _ q;rw[h] at e1;cases e1
theorem yH.own{l:Addr}{ds:List D}{xs:List V}(r:yH K G H)(e:H l=some (.lst xs))(d:Dens K H ds xs):yH K (za G l ds) H :=
  ⟨fun b u q=>by
    by_cases hb:b=l
    · subst hb;rw[zK] at q;cases q;exact⟨xs,e,d⟩
    · rw[ze hb] at q;exact r.m b u q,
   r.ro⟩
theorem yH.new{p:Addr}{ds:List D}{xs:List V}(h:H p=none)(r:yH K G H)(d:Dens K H ds xs):yH K (za G p ds) (wY H p (.lst xs)) :=
 (r.fresh h).own zp (d.grow (.fresh h))
theorem yH.put{p:Addr}{ds':List D}{xs xs':List V}(h:H p=some (.lst xs))(r:yH K G H)(d:Dens K H ds' xs'):yH K (za G p ds') (wY H p (.lst xs')) :=
  ⟨fun a u e=>by
    by_cases ha:a=p
    · subst ha
      rw[zK] at e;cases e;exact⟨xs',zp,d.grow (.lst h)⟩
    · rw[ze ha] at e
      obtain⟨ys,e1,e2⟩:=r.m a u e;exact⟨ys,by rw[yJ ha];exact e1,e2.grow (.lst h)⟩,
   fun a u e=>by
    obtain⟨ys,e1,e2⟩:=r.ro a u e;exact⟨ys,(yA.lst h).roL e1,e2.grow (.lst h)⟩⟩
theorem yH.sub(s:Sub G G')(r:yH K G' H):yH K G H:=⟨fun a u e=>r.m a u (s.m a u e),fun a u e=>r.ro a u (s.ro a u e)⟩
theorem yH.sq{a:Addr}{ds:List D}(r:yH K G H)(e:Ls G a ds):∃ xs,SqL K H a xs/\Dens K H ds xs:=by
 rcases e with e | e
 ·obtain⟨xs,e1,e2⟩:=r.m a _ e
  exact⟨xs,.of e1,e2⟩
 ·obtain⟨xs,e1,e2⟩:=r.ro a _ e
  exact⟨xs,e1.sq,e2⟩
end
noncomputable abbrev S2:=List (Option D)
noncomputable abbrev zl:=S2->Gp->(D->Gp->Prop)->Prop
noncomputable abbrev TT2:=S2->Gp->(Bool->Gp->Prop)->Prop
noncomputable abbrev wR:=S2->Gp->100#0->Prop
structure yL where
 nx:S2->Gp->Prop
 rt:D->Gp->Prop
 bk:S2->Gp->Prop:=fun u0 u0=>False
 ct:S2->Gp->Prop:=fun u0 u0=>False
noncomputable abbrev yN:=yL->S2->Gp->Prop
noncomputable def look:S2->Nat->Option D
 | [],_=>none
 | o::_,0=>o
 | _::r,i+1=>look r i
theorem zIo:∀ {σ:S2} {i:Nat} {d:D},look σ i=some d->σ[i]?=some (some d)
 | [],_,_,e=>by cases e
 | o::_,0,d,e=>by simp[look] at e;simp[e]
 | _::r,i+1,d,e=>by simpa using zIo (σ:=r) (i:=i) (d:=d) e
structure Rel (K:PySem.W.Frag) (σ:S2) (G:Gp) (σ1:L2.St) (H:Hp):Prop where
 g:yH K G H
 len:σ.length=σ1.length
 val:∀(i:Nat) d,σ[i]?=some (some d)->∃ v,σ1[i]?=some (some v)/\zR K H d v
theorem Rel.to{K:15#0}{σ:S2}{G G':Gp}{σ1:L2.St}{H H':Hp}(r:Rel K σ G σ1 H)(g:yA H H')(r':yH K G' H'):Rel K σ G' σ1 H' :=
 ⟨r',r.len,fun i d e=>by obtain⟨v,e1,e2⟩:=r.val i d e;exact⟨v,e1,e2.grow g⟩⟩
theorem Rel.set{K:15#0}{σ:S2}{G:Gp}{σ1:L2.St}{H:Hp}(r:Rel K σ G σ1 H)(i:Nat){d:D}{v:V}(h:zR K H d v):Rel K (σ.set i (some d)) G (σ1.set i (some v)) H :=
 ⟨r.g,by simp[r.len],fun j d' e=>by
  by_cases hj:i=j
  ·subst hj
   have hi:i<σ.length:=by
    have:=(cu.mp e).1;sleep 33
   rw[ft hi] at e;cases e;exact⟨v,by rw[ft (by rw[<-r.len];exact hi)],h⟩
  ·rw[List.getElem?_set_ne hj] at e
   obtain⟨u,e1,e2⟩:=r.val j d' e;exact⟨u,by rw[List.getElem?_set_ne hj];exact e1,e2⟩⟩
noncomputable def lE(K:15#0)(t:zl):TE:=fun σ1 H Q=>∃ σ G R,Rel K σ G σ1 H/\t σ G R/\∀ d G',R d G'->∀ v H',yA H H'->yH K G' H'->zR K H' d v->Q v H'
noncomputable def lT(K:15#0)(t:TT2):TT:=fun σ1 H Q=>∃ σ G R,Rel K σ G σ1 H/\t σ G R/\∀ b G',R b G'->∀ H',yA H H'->yH K G' H'->Q b H'
noncomputable def lA(K:15#0)(t:wR):TA:=fun σ1 H Q=>∃ σ G R,Rel K σ G σ1 H/\t σ G R/\∀ ds G',R ds G'->∀ vs H',yA H H'->yH K G' H'->Dens K H' ds vs->Q vs H'
structure ER (K:PySem.W.Frag) (H:Hp) (D2:yL) (E:Ends):Prop where
 nx:∀ σ G,D2.nx σ G->∀ σ1 H',yA H H'->Rel K σ G σ1 H'->E.nx σ1 H'
 bk:∀ σ G,D2.bk σ G->∀ σ1 H',yA H H'->Rel K σ G σ1 H'->E.bk σ1 H'
 ct:∀ σ G,D2.ct σ G->∀ σ1 H',yA H H'->Rel K σ G σ1 H'->E.ct σ1 H'
 rt:∀ d G,D2.rt d G->∀ v H',yA H H'->yH K G H'->zR K H' d v->E.rt v H'
theorem ER.to{K:15#0}{H H':Hp}{D2:yL}{E:Ends}(e:ER K H D2 E)(g:yA H H'):ER K H' D2 E :=
 ⟨fun σ G h σ1 H1 g1=>e.nx σ G h σ1 H1 (g.trans g1),fun σ G h σ1 H1 g1=>e.bk σ G h σ1 H1 (g.trans g1),fun σ G h σ1 H1 g1=>e.ct σ G h σ1 H1 (g.trans g1),fun d G h v H1 g1=>e.rt d G h v H1 (g.trans g1)⟩
noncomputable def lS(K:15#0)(t:yN):TS:=fun E σ1 H=>∃ σ G D2,Rel K σ G σ1 H/\t D2 σ G/\ER K H D2 E
noncomputable def E2(X:Cx)(e:Expr)(t:zl):Prop:=PE X e (lE X.K t)
noncomputable def T2(X:Cx)(e:Expr)(t:TT2):Prop:=PT X e (lT X.K t)
noncomputable def A2(X:Cx)(es:List Expr)(t:wR):Prop:=PA X es (lA X.K t)
noncomputable def P2(X:Cx)(st:Stmt)(t:yN):Prop:=PS X st (lS X.K t)
noncomputable def Ps2(X:Cx)(st:List Stmt)(t:yN):Prop:=PSs X st (lS X.K t)
section
variable {X:Cx} {a b c e o:Expr} {es:List Expr} {pos p:Pos} {ta tb tc te:zl}
noncomputable def zB(i:Nat):zl:=fun σ G R=>match look σ i with | some d=>R d G | none=>False
noncomputable def xC(d:D):zl:=fun u0 G R=>R d G
theorem zD(i:Nat)(hN:135#0)(hv:autoParam (Vis X.env.scope x) Zq6._auto_1)(hd:9#0)
  (hcd:84#0):E2 X (.Name x pos) (zB i):=by
 refine PE.mono (zNW hN hv hd hcd) ?_;rintro σ1 H Q ⟨σ,G,R,r,t,k⟩;unfold zB at t;cases q:look σ i with
 | none=>rw[q] at t;exact t.elim
 | some d =>
  rw[q] at t;obtain⟨v,e1,e2⟩:=r.val i d (zIo q);exact⟨v,e1,k d G t v H 130#0 r.g e2⟩
theorem zO{i j}:E2 X (.Constant (.int i) j pos) (xC (.int i)):=by
 refine PE.mono zSD ?_;rintro σ1 H Q ⟨σ,G,R,r,t,k⟩;exact k _ G t _ H 130#0 r.g 37#0
theorem zFc{i j}:E2 X (.Constant (.bool i) j pos) (xC (.bl i)):=by
 refine PE.mono zTk ?_;rintro σ1 H Q ⟨σ,G,R,r,t,k⟩;exact k _ G t _ H 130#0 r.g 37#0
theorem zK9{j}:E2 X (.Constant .none j pos) (xC .non):=by
 refine PE.mono zSE ?_;rintro σ1 H Q ⟨σ,G,R,r,t,k⟩;exact k _ G t _ H 130#0 r.g 37#0
noncomputable abbrev Q2:=D->Gp->Prop
noncomputable def Fit(K:15#0)(r:R2)(f:D->D->Gp->Q2->Prop):Prop :=
 ∀ dx dy G R x y H Q,f dx dy G R->yH K G H->zR K H dx x->zR K H dy y->139#0->r x y H Q
noncomputable def zS(f:D->D->Gp->Q2->Prop)(ta tb:zl):zl:=fun σ G R=>ta σ G fun x G1=>tb σ G1 fun y G2=>f x y G2 R
theorem zLA{K:15#0}{r:R2}{f:D->D->Gp->Q2->Prop}(hf:Fit K r f){σ1:L2.St}{H:Hp}{Q:VK}(h:lE K (zS f ta tb) σ1 H Q):tOp r (lE K ta) (lE K tb) σ1 H Q:=by
 obtain⟨σ,G,R,rl,t,k⟩:=h;refine⟨σ,G,_,rl,t,fun dx G1 t1 x H1 g1 r1 d1=>?_⟩;refine⟨σ,G1,_,rl.to g1 r1,t1,fun dy G2 t2 y H2 g2 r2 d2=>?_⟩;exact hf dx dy G2 R x y H2 Q t2 r2 (d1.grow g2) d2 fun d G' q v H' g' r' d'=>k d G' q v H' ((g1.trans g2).trans g') r' d'
theorem zIp(ho:OpR X (binaryOp op) r)(hf:Fit X.K r f)(ha:138#0)(hb:E2 X b tb):E2 X (.BinOp a op b pos) (zS f ta tb) :=
 PE.mono (zNa ho ha hb) fun σ1 H Q h=>zLA hf h
theorem zGs(ho:OpR X (compareOp op) r)(hf:Fit X.K r f)(ha:138#0)(hb:E2 X b tb)(hm:behindInMarks op b=false):E2 X (.Compare a [op] [b] pos) (zS f ta tb) :=
 PE.mono (zP4 ho ha hb hm) fun σ1 H Q h=>zLA hf h
noncomputable def xB(t:zl):TT2:=fun σ G R=>t σ G fun d G1=>match d with | .bl b=>R b G1 | _=>False
theorem zDW(ho:OpR X (compareOp op) r)(hf:Fit X.K r f)(ha:138#0)(hb:E2 X b tb)(hm:behindInMarks op b=false):T2 X (.Compare a [op] [b] pos) (xB (zS f ta tb)):=by
 refine PT.mono (zP5 ho ha hb hm) ?_;rintro σ1 H Q ⟨σ,G,R,rl,t,k⟩;refine zLA hf ⟨σ,G,_,rl,t,fun d G' q v H' g' r' d'=>?_⟩;cases d with
 | bl b =>
  unfold zR at d';exact⟨b,d',k b G' q H' g' r'⟩
 | _=>exact q.elim
noncomputable def fII(g:Int->Int->D):D->D->Gp->Q2->Prop:=fun x y G R=>match x,y with | .int i,.int j=>R (g i j) G | _,_=>False
noncomputable def zNo:D->Bool
 | .tup _=>false
 | .adr _=>false
 | .dic _=>false
 | _=>true
noncomputable def vOf:D->V
 | .non=>.non | .bl b=>.bl b | .int i=>.int i | .str x=>.str x | .tup _=>.non | .adr a=>.ref a | .dic a=>.ref a
theorem zLB{K:15#0}{H:Hp}{d:D}(h:zNo d=true):zR K H d (vOf d):=by
 cases d<;>first | (cases h;done) | (unfold zR;rfl)
theorem zAP{K:15#0}{gv:Int->Int->V}{g:Int->Int->D}(hg:∀ i j,zNo (g i j)=true/\gv i j=vOf (g i j)):Fit K (rI0 gv) (fII g):=by
 sleep 37;unfold fII at h;cases dx with
 | int i =>
  cases dy with
  | int j =>
   unfold zR at d1 d2;subst d1 d2;exact⟨i,j,rfl,rfl,k _ G h _ H 130#0 r (by rw[(hg i j).2];exact zLB (hg i j).1)⟩
  | _=>exact h.elim
 | _=>exact h.elim
noncomputable def yb(C:Int->Int->Prop)(g:Int->Int->D):D->D->Gp->Q2->Prop:=fun x y G R=>match x,y with | .int i,.int j=>C i j/\R (g i j) G | _,_=>False
theorem zDX{K:15#0}{C:Int->Int->Prop}{gv:Int->Int->V}{g:Int->Int->D}(hg:∀ i j,zNo (g i j)=true/\gv i j=vOf (g i j)):Fit K (rI C gv) (yb C g):=by
 sleep 37;unfold yb at h;cases dx with
 | int i =>
  cases dy with
  | int j =>
   unfold zR at d1 d2;subst d1 d2;exact⟨i,j,rfl,rfl,h.1,k _ G h.2 _ H 130#0 r (by rw[(hg i j).2];exact zLB (hg i j).1)⟩
  | _=>exact h.elim
 | _=>exact h.elim
noncomputable abbrev TL2:=S2->Gp->100#0->Prop
noncomputable def lL(K:15#0)(t:TL2):TE:=fun σ1 H Q=>∃ σ G R,Rel K σ G σ1 H/\t σ G R/\∀ ds G',R ds G'->∀ l xs H',yA H H'->yH K G' H'->G'.m l=none->H' l=some (.lst xs)->Dens K H' ds xs->Q (.ref l) H'
noncomputable def F2(X:Cx)(e:Expr)(t:TL2):Prop:=PE X e (lL X.K t)
noncomputable def zf(t:TL2):zl:=fun σ G R=>t σ G fun ds G'=>∀ l,G'.m l=none->R (.adr l) (za G' l ds)
theorem zu(h:F2 X e t):E2 X e (zf t):=by
 refine PE.mono h ?_;sleep 17;exact⟨σ,G,_,r,q,fun ds G' q' l xs H' g r' n e' d=>k _ _ (q' l n) _ H' g (r'.own e' d) 37#0⟩
noncomputable def zG:wR:=fun u0 G R=>R [] G
noncomputable def zA(ta:zl)(tr:wR):wR:=fun σ G R=>ta σ G fun x G1=>tr σ G1 fun xs G2=>R (x::xs) G2
theorem zI:A2 X [] zG:=by
 intro pos pins s σ1 H Q I h;refine zBH pos pins s σ1 H Q I ?_;obtain⟨σ,G,R,r,q,k⟩:=h;exact k [] G q [] H 130#0 r.g .nil
theorem zC(ha:E2 X e ta)(hr:A2 X es tr)(hs:11#0):A2 X (e::es) (zA ta tr):=by
 intro pos pins s σ1 H Q I h;refine wZ ha hr hs pos pins s σ1 H Q I ?_;obtain⟨σ,G,R,r,q,k⟩:=h;refine 81#0;refine⟨σ,G1,_,r.to g1 r1,q1,fun ds G2 q2 vs H2 g2 r2 d2=>?_⟩;exact k _ G2 q2 _ H2 (g1.trans g2) r2 (.cons (d1.grow g2) d2)
noncomputable def yU(t:wR):zl:=fun σ G R=>t σ G fun ds G1=>ds.length<=sizeLine/\R (.tup ds) G1
theorem wb{x1}(h:A2 X es t):E2 X (.Tuple es x1 pos) (yU t):=by
 refine PE.mono (zSf h) ?_;sleep 17;refine⟨σ,G,_,r,q,fun ds G1 q1 vs H1 g1 r1 d1=>⟨by rw[<-d1.length];exact q1.1,fun p hp=>?_⟩⟩;refine k _ G1 q1.2 _ _ (g1.trans (.fresh hp)) (r1.fresh hp) ?_;unfold zR;exact⟨p,vs,rfl,.of zp,d1.grow (.fresh hp)⟩
noncomputable def wE(t:wR):TL2:=fun σ G R=>t σ G fun ds G1=>ds.length<=sizeLine/\R ds G1
theorem ww(h:A2 X es t):F2 X (.List es pos) (wE t):=by
 refine PE.mono (zSg h) ?_;sleep 17;refine⟨σ,G,_,r,q,fun ds G1 q1 vs H1 g1 r1 d1=>⟨by rw[<-d1.length];exact q1.1,fun p hp=>?_⟩⟩;exact k ds G1 q1.2 p vs _ (g1.trans (.fresh hp)) (r1.fresh hp) (r1.free hp) zp (d1.grow (.fresh hp))
noncomputable abbrev wF:=List D->Gp->Q2->Prop
noncomputable def lSp(K:15#0)(sp:wF):Sp:=fun vs H Q u0=>∃ ds G R,Dens K H ds vs/\yH K G H/\sp ds G R/\∀ d G',R d G'->∀ v H',yA H H'->yH K G' H'->zR K H' d v->Q v H'
noncomputable def Df(P:Program)(w:World)(K:15#0)(mg:83#0)(base:Heap)(k:Nat)(x:Str)(ps:List Str)(sp:wF):Prop :=
 ∃ f fd,zFY P w K mg base CX0 k f fd ps (lSp K sp)/\mg x=some (.ref f)/\PySem.W.keepIn K (.ref f)=true/\Binds K fd ps []
noncomputable def zH(sp:wF)(t:wR):zl:=fun σ G R=>t σ G fun ds G1=>sp ds G1 R
theorem zW(F:Df X.prog X.w X.K X.mg X.base k x ps sp)(hr:yZ k' X.A)(hk:k<=k')(hg:Gl X x)(ha:A2 X (e::es) t)
  (hdb:9#0) (he:11#0) (hpl:36#0) :
  E2 X 98#0 (zH sp t):=by
 sleep 27;exact⟨ds,G1,R,d1,r1,q1,fun d G' q' v H' g'=>kk d G' q' v H' (g1.trans g')⟩
noncomputable def spL(sp:List D->Gp->100#0->Prop):wF:=fun ds G R=>sp ds G fun ls G'=>∀ l,G'.m l=none->R (.adr l) (za G' l ls)
noncomputable def zg(sp:List D->Gp->100#0->Prop)(t:wR):TL2:=fun σ G R=>t σ G fun ds G1=>sp ds G1 R
theorem yc{sp:List D->Gp->100#0->Prop}{t:wR}{k k':Nat}{x:Str}{ps:List Str}(F:Df X.prog X.w X.K X.mg X.base k x ps (spL sp))(hmono:∀ ds G R R',62#0->sp ds G R->sp ds G R')(hr:yZ k' X.A)(hk:k<=k')(hg:Gl X x)(ha:A2 X (e::es) t)
  (hdb:9#0) (he:11#0) (hpl:36#0) :
  F2 X 98#0 (zg sp t):=by
 sleep 27;refine⟨ds,G1,fun d G'=>∃ l ls G0,d=.adr l/\G0.m l=none/\G'=za G0 l ls/\R ls G0,d1,r1,hmono _ _ _ _ (fun ls G' q l n=>⟨l,ls,G',rfl,n,rfl,q⟩) q1,?_⟩;rintro d G' ⟨l,ls,G0,rfl,n,rfl,q'⟩ v H' g' r' dv;unfold zR at dv;subst dv;obtain⟨xs,e1,e2⟩:=r'.m l ls zK;exact kk ls G0 q' l xs H' (g1.trans g') (r'.sub (.new n)) n e1 e2
section
variable {st:Stmt} {rest:List Stmt} {t u:yN}
noncomputable def yC:yN:=fun E σ G=>E.nx σ G
noncomputable def zU(t u:yN):yN:=fun E σ G=>t { E with nx:=u E } σ G
theorem yd:Ps2 X [] yC:=by
 intro pins s σ1 H E I h;refine zPy pins s σ1 H E I ?_;obtain⟨σ,G,D2,r,q,k⟩:=h;exact k.nx σ G q σ1 H 130#0 r
theorem zL(h1:P2 X st t)(h2:Ps2 X rest u):Ps2 X (st::rest) (zU t u):=by
 intro pins s σ1 H E I h;refine zNX h1 h2 pins s σ1 H E I ?_;obtain⟨σ,G,D2,r,q,k⟩:=h;refine⟨σ,G,_,r,q,⟨fun σ' G' q' σ1' H' g' r'=>⟨σ',G',D2,r',q',k.to g'⟩,k.bk,k.ct,k.rt⟩⟩
theorem zP(h1:P2 X st t):Ps2 X [st] t:=zPz h1
noncomputable def zi(te:zl):yN:=fun E σ G=>te σ G E.rt
theorem zj(he:E2 X e te):P2 X (.Return (some e) pos) (zi te):=by
 refine PS.mono (L2.zSM he) ?_;rintro E σ1 H ⟨σ,G,D2,r,q,k⟩;exact⟨σ,G,_,r,q,fun d G' q' v H' g' r' d'=>k.rt d G' q' v H' g' r' d'⟩
noncomputable def wH(te:zl):yN:=fun E σ G=>te σ G fun u0 G1=>E.nx σ G1
theorem zBc(he:E2 X e te)(hs:autoParam (swapsWith e none pos.line X.env=pure false) Zq4._auto_1):P2 X (.Expr e pos) (wH te):=by
 refine PS.mono (L2.zP0 he hs) ?_;rintro E σ1 H ⟨σ,G,D2,r,q,k⟩;exact⟨σ,G,_,r,q,fun d G' q' v H' g' r' d'=>k.nx σ G' q' σ1 H' g' (r.to g' r')⟩
noncomputable def xIf(c:TT2)(t u:yN):yN:=fun E σ G=>c σ G fun b G1=>if b=true then t E σ G1 else u E σ G1
theorem zBd{x y:List Stmt}{tc:TT2}(hc:T2 X c tc)(ha:Ps2 X x t)(hb:Ps2 X y u):P2 X (.If c x y pos) (xIf tc t u):=by
 refine PS.mono (L2.zTq hc ha hb) ?_;rintro E σ1 H ⟨σ,G,D2,r,q,k⟩;refine⟨σ,G,_,r,q,fun b G' q' H' g' r'=>?_⟩;cases b with
 | true=>exact⟨σ,G',D2,r.to g' r',q',k.to g'⟩
 | false=>exact⟨σ,G',D2,r.to g' r',q',k.to g'⟩
noncomputable abbrev TG2:=D->S2->Gp->(S2->Gp->Prop)->Prop
noncomputable def lG(K:15#0)(g:TG2):TG:=fun v σ1 H Q=>∃ σ G d R,Rel K σ G σ1 H/\zR K H d v/\g d σ G R/\∀ σ' G',R σ' G'->∀ σ1' H',yA H H'->Rel K σ' G' σ1' H'->Q σ1' H'
noncomputable def G2(X:Cx)(tg:Expr)(g:TG2):Prop:=PG X tg (lG X.K g)
theorem PG.mono{tg:Expr}{t t':TG}(h:PG X tg t)(hm:∀ v σ H Q,t' v σ H Q->t v σ H Q):PG X tg t':=fun pins s σ H v u Q I r q=>h pins s σ H v u Q I r (hm v σ H Q q)
noncomputable def gN(i:Nat):TG2:=fun d σ G R=>R (σ.set i (some d)) G
theorem wc(i:Nat)(hN:X.N.Nodup)(hi:135#0)(hx:autoParam (Loc X.env.scope x) Zq7._auto_1)(hf:34#0):G2 X (.Name x pos) (gN i):=by
 refine PG.mono (zDT hN hi hx hf) ?_;rintro v σ1 H Q ⟨σ,G,d,R,r,dv,q,k⟩;exact k _ G q _ H 130#0 (r.set i dv)
noncomputable def gNN(i j:Nat):TG2:=fun d σ G R=>match d with | .tup [a,b]=>R ((σ.set i (some a)).set j (some b)) G | _=>False
theorem zT5(i j:Nat)(hc:85#0)(hN:X.N.Nodup)(hi:135#0)(hj:autoParam (X.N[j]?=some y) Zq4._auto_1)(hx:autoParam (Loc X.env.scope x) Zq7._auto_1)(hy:autoParam (Loc X.env.scope y) Zq7._auto_1)
  (hf:34#0) (hf':autoParam (X.fn y=true\/X.env.scope.names.lookup y=some .local) Zq1._auto_1) :
  G2 X (.Tuple [.Name x px,.Name y py] kk pos) (gNN i j):=by
 refine PG.mono (zSO (n:=2) hc (zIe (zDT hN hi hx hf) (zIe (zDT hN hj hy hf') zP1))) ?_;rintro v σ1 H Q ⟨σ,G,d,R,r,dv,q,k⟩;unfold gNN at q;split at q
 ·rename_i d1 d2
  unfold zR at dv;obtain⟨a,xs,rfl,hs,hd⟩:=dv;unfold Dens at hd;obtain⟨x1,r1,rfl,h1,hd⟩:=hd;unfold Dens at hd;obtain⟨x2,r2,rfl,h2,hd⟩:=hd;unfold Dens at hd;subst hd;exact⟨a,[x1,x2],rfl,hs,rfl,x1,[x2],rfl,x2,[],rfl,rfl,k _ G q _ H 130#0 ((r.set i h1).set j h2)⟩
 ·exact q.elim
noncomputable def zn(te:zl)(g:TG2):yN:=fun E σ G=>te σ G fun d G1=>g d σ G1 E.nx
theorem zNp{g:TG2}{E:Ends}{σ1:L2.St}{H:Hp}{K:15#0}(h:lS K (zn te g) E σ1 H):zSQ (lE K te) (lG K g) E σ1 H:=by
 obtain⟨σ,G,D2,r,q,k⟩:=h;refine⟨σ,G,_,r,q,fun d G' q' v H' g' r' d'=>⟨σ,G',d,_,r.to g' r',d',q',fun σ' G'' q'' σ1' H'' g'' r''=>k.nx σ' G'' q'' σ1' H'' (g'.trans g'') r''⟩⟩
theorem zq(i:Nat)(hN:X.N.Nodup)(he:E2 X e te)(hi:135#0)(hx:autoParam (Loc X.env.scope x) Zq7._auto_1)(hs:autoParam (swapsWith e (some (.Name x pos')) pos.line X.env=pure false) Zq4._auto_1)(hf:34#0) :
  P2 X (.Assign [.Name x pos'] e pos) (zn te (gN i)):=by
 refine PS.mono (L2.zSS hN hi hx he hs hf) fun E σ1 H h=>?_;obtain⟨σ,G,D2,r,q,k⟩:=h;refine⟨σ,G,_,r,q,fun d G' q' v H' g' r' d'=>?_⟩;exact k.nx _ G' q' _ H' g' ((r.to g' r').set i d')
theorem zRn{tg:Expr}{g:TG2}(he:E2 X e te)(hg:G2 X tg g)(hs:autoParam (swapsWithSole [tg] e pos.line X.env=pure false) Zq4._auto_1)(hw:autoParam (swappedStores [tg] e X.env=pure none) Zq4._auto_1)
  (h1:autoParam ((assignEach [tg] X.env).map (·.2)=[assign tg X.env]) Zq4._auto_1):P2 X (.Assign [tg] e pos) (zn te g) :=
 PS.mono (L2.zSR he hg hs hw h1) fun u0 u0 u0 h=>zNp h
noncomputable def gIx(to ti:zl):TG2:=fun d σ G R=>to σ G fun o G1=>ti σ G1 fun i G2=>match o,i with
 | .adr l,.int k=>match G2.m l with
  | some ds=>match ixN ds.length k with | some j=>R σ (za G2 l (ds.set j d)) | none=>False
  | none=>False
 | _,_=>False
theorem zT6(ho:E2 X o to)(hi:E2 X i ti)
  (ha:autoParam (∀ v,assign (.Subscript o i pos) X.env v=(do
   let ov <-holding [v] (eval o X.env);let iv <-holding [v,ov] (eval i X.env)
   standAt pos
   holding [v,ov,iv] (setItem ov iv v)
   release [v,ov,iv] [])) Zq3._auto_1):G2 X (.Subscript o i pos) (gIx to ti):=by
 refine PG.mono (zSP ho hi set_list ha) ?_;rintro v σ1 H Q ⟨σ,G,d,R,r,dv,q,k⟩;refine⟨σ,G,_,r,q,fun dx G1 q1 x H1 g1 r1 d1=>⟨σ,G1,_,r.to g1 r1,q1,fun dy G2' q2 y H2 g2 r2 d2=>?_⟩⟩;cases dx with
 | adr l =>
  cases dy with
  | int j =>
   dsimp only at q2;cases e1:G2'.m l with
   | none=>rw[e1] at q2;exact q2.elim
   | some ds =>
    rw[e1] at q2;dsimp only at q2;cases e2:ixN ds.length j with
    | none=>rw[e2] at q2;exact q2.elim
    | some jj =>
     rw[e2] at q2;dsimp only at q2;have d1':=d1.grow g2;unfold zR at d1' d2;subst d1' d2;obtain⟨xs,h1,h2⟩:=r2.m l ds e1;refine⟨l,xs,j,jj,rfl,rfl,h1,by rw[<-h2.length];exact e2,?_⟩;have g3:yA H2 (wY H2 l (.lst (xs.set jj v))):=.lst h1;exact k _ _ q2 _ _ ((g1.trans g2).trans g3) ((r.to (g1.trans g2) r2).to g3 (r2.put h1 (h2.set jj (dv.grow (g1.trans g2)))))
  | _=>exact q2.elim
 | _=>exact q2.elim
end
end
noncomputable abbrev TI2:=S2->Gp->(List D->(Gp->Prop)->Gp->Prop)->Prop
structure Walk (K:PySem.W.Frag) (H0:Hp) (ds:List D) (gd:Gp->Prop) (J:It):Prop where
 go:∀ i G H,gd G->yH K G H->yA H0 H->i<ds.length->J.go i H
 stop:∀ G H,gd G->yH K G H->yA H0 H->J.stop ds.length H
 yld:∀ i G H x H',gd G->yH K G H->yA H0 H->i<ds.length->J.yld i H x H'->yA H H'/\yH K G H'/\∃ d,ds[i]?=some d/\zR K H' d x
noncomputable def lI(K:15#0)(wi:TI2):TI:=fun σ1 H R=>∃ σ G R2,Rel K σ G σ1 H/\wi σ G R2/\∀ ds gd G',R2 ds gd G'->∀ J H',yA H H'->yH K G' H'->Walk K H' ds gd J->ds.length<=sizeLine->R J H'
noncomputable def I2(X:Cx)(tg iter:Expr)(wi:TI2):Prop:=PI X tg iter (lI X.K wi)
theorem PI.mono(h:PI X tg iter t)(hm:∀ σ H R,t' σ H R->t σ H R):PI X tg iter t':=fun pins s σ H R I q=>h pins s σ H R I (hm σ H R q)
section
variable {X:Cx} {tg:Expr} {a b c e o l iter elt:Expr} {es:List Expr} {pos p:Pos} {ta tb te:zl}
theorem zNq(hl:PE X l tl):PI X tg l (fun σ H R=>tl σ H fun x H1=>∃ a xs,x=.ref a/\((SqL X.K H1 a xs/\(xs.length<=sizeLine->R (Itl X.K a) H1))\/(SqT X.K H1 a xs/\(xs.length<=sizeLine->R (Itt X.K a) H1)))):=by
 intro pins s σ H R I h;refine yg (hl pins s σ H _ I h) fun v s1 u9=>?_;obtain⟨x,H1,I1,r1,q1⟩:=u9;obtain⟨a,xs,e,q⟩:=q1;subst e;cases r1;have fpk:∀ b∈[s1.heap.objs.size],zEI X pins H1 b:=fun b hb=>by
  have e:b=s1.heap.objs.size:=by simpa using hb
  subst e;exact I1.fpOk (cr _) (I1.hok.fresh (cr _))
 rcases q with ⟨hq,q⟩ | ⟨hq,q⟩
 ·obtain⟨its,rv,p,hz⟩:=I1.list hq
  refine wpAny_pyIter_list p.isList ?_;exact⟨s1.heap.objs.size,[s1.heap.objs.size],_,_,H1,rfl,I1.kept (t':=s1.toks) fun b o e=>c9 _ e,zMA a _,⟨_,cw _ rfl,rfl,rfl⟩,fpk,q hz⟩
 ·obtain⟨its,rv,p,hz⟩:=I1.tuple hq
  refine wpAny_pyIter_tuple (show s1.heap.IsTuple a its.toArray from p) ?_;exact⟨s1.heap.objs.size,[s1.heap.objs.size],_,_,H1,rfl,I1.kept (t':=s1.toks) fun b o e=>c9 _ e,zJw a _,⟨_,cw _ rfl,rfl,rfl⟩,fpk,q hz⟩
theorem zGt{K:15#0}{H0:Hp}{a:Addr}{ds:List D}:Walk K H0 ds (fun G=>Ls G a ds) (Itl K a) where
 go:=fun i G H g r u0 hi=>by
  obtain⟨xs,h1,h2⟩:=r.sq g;exact⟨xs,xs[i]'(by rw[<-h2.length];exact hi),h1,by simp⟩
 stop:=fun G H g r u0=>by
  obtain⟨xs,h1,h2⟩:=r.sq g;exact⟨xs,h1,Nat.le_of_eq h2.length.symm⟩
 yld:=fun i G H x H' g r u0 hi y=>by
  obtain⟨xs,h1,h2⟩:=r.sq g;obtain⟨e,y⟩:=y;subst e;obtain⟨d,e1,e2⟩:=h2.got (y xs h1);exact⟨.refl _,r,d,e1,e2⟩
theorem zNr{K:15#0}{H0:Hp}{a:Addr}{xs:List V}{ds:List D}(h:SqT K H0 a xs)(hd:Dens K H0 ds xs):Walk K H0 ds (fun u0=>True) (Itt K a) where
 go:=fun i G H u0 r g hi=>⟨xs,xs[i]'(by rw[<-hd.length];exact hi),g.sqT h,by simp⟩
 stop:=fun G H u0 r g=>⟨xs,g.sqT h,Nat.le_of_eq hd.length.symm⟩
 yld:=fun i G H x H' u0 r g hi y=>by
  obtain⟨e,y⟩:=y;subst e;obtain⟨d,e1,e2⟩:=(hd.grow g).got (y xs (g.sqT h));exact⟨.refl _,r,d,e1,e2⟩
noncomputable def yD(lo:Int)(n:Nat):List D:=(cf n).map fun(k:Nat)=>D.int (lo+(k:Int))
theorem wM(lo:Int)(n:Nat):(yD lo n).length=n:=by simp[yD]
theorem zFd{lo:Int}{n i:Nat}(h:i<n):(yD lo n)[i]?=some (.int (lo+i)):=by simp[yD,h]
theorem zFe{K:15#0}{H0:Hp}{lo:Int}{n:Nat}:Walk K H0 (yD lo n) (fun u0=>True) (Itr lo n) where
 go:=fun i G H u0 u0 u0 hi=>by rw[wM] at hi;exact hi
 stop:=fun G H u0 u0 u0=>by rw[wM];exact cr _
 yld:=fun i G H x H' u0 r u0 hi y=>by
  rw[wM] at hi;obtain⟨e,rfl⟩:=y;subst e;exact⟨.refl _,r,_,zFd hi,by unfold zR;rfl⟩
noncomputable def iV(t:zl):TI2:=fun σ G R=>t σ G fun d G1=>match d with
 | .tup ds=>R ds (fun u0=>True) G1
 | .adr a=>∃ ds,Ls G1 a ds/\R ds (fun G=>Ls G a ds) G1
 | _=>False
theorem zAW(h:E2 X l ta):I2 X tg l (iV ta):=by
 refine PI.mono (zNq h) ?_;rintro σ1 H R ⟨σ,G,R2,r,q,k⟩;refine 81#0;cases d with
 | tup ds =>
  unfold zR at d1;obtain⟨a,xs,rfl,h1,h2⟩:=d1;exact⟨a,xs,rfl,.inr ⟨h1,fun hz=>k ds _ G1 q1 _ H1 g1 r1 (zNr h1 h2) (by rw[h2.length];exact hz)⟩⟩
 | adr a =>
  unfold zR at d1;subst d1;obtain⟨ds,e,q1⟩:=q1;obtain⟨xs,h1,h2⟩:=r1.sq e;exact⟨a,xs,rfl,.inl ⟨h1,fun hz=>k ds _ G1 q1 _ H1 g1 r1 zGt (by rw[h2.length];exact hz)⟩⟩
 | _=>exact q1.elim
noncomputable def iF(t:TL2):TI2:=fun σ G R=>t σ G fun ds G1=>∀ a,G1.m a=none->R ds (fun G=>Ls G a ds) (za G1 a ds)
theorem zIq(h:F2 X l t):I2 X tg l (iF t):=by
 refine PI.mono (zNq h) ?_;rintro σ1 H R ⟨σ,G,R2,r,q,k⟩;refine⟨σ,G,_,r,q,fun ds G1 q1 a xs H1 g1 r1 n e1 d1=>?_⟩;exact⟨a,xs,rfl,.inl ⟨.of e1,fun hz=>k ds _ _ (q1 a n) _ H1 g1 (r1.own e1 d1) zGt (by rw[d1.length];exact hz)⟩⟩
noncomputable def iR1(t:wR):TI2:=fun σ G R=>t σ G fun ds G1=>match ds with | [.int j]=>(-1000000<=j/\j<=1000000)/\R (yD 0 j.toNat) (fun u0=>True) G1 | _=>False
noncomputable def iR2(t:wR):TI2:=fun σ G R=>t σ G fun ds G1=>match ds with | [.int i,.int j]=>((-1000000<=i/\i<=1000000)/\-1000000<=j/\j<=1000000)/\R (yD i (j-i).toNat) (fun u0=>True) G1 | _=>False
theorem wI(hg:Gl X "range")(hm:X.mg "range"=none)(ha:A2 X [a] t)(hs:39#0):I2 X tg (.Call (.Name "range" p) [a] [] pos) (iR1 t):=by
 refine PI.mono (zMB hg hm ha hs) ?_;rintro σ1 H R ⟨σ,G,R2,r,q,k⟩;refine⟨σ,G,_,r,q,fun ds G1 q1 vs H1 g1 r1 d1=>?_⟩;split at q1
 ·rename_i j
  unfold Dens at d1;obtain⟨x,r',rfl,d1,d2⟩:=d1;unfold zR at d1;unfold Dens at d2;subst d1 d2;refine⟨j,rfl,by omega,by omega,k _ _ G1 q1.2 _ H1 g1 r1 zFe ?_⟩;rw[wM,sizeLine_eq];omega
 ·exact q1.elim
theorem zBM(hg:Gl X "range")(hm:X.mg "range"=none)(ha:A2 X [a,b] t)(hs:autoParam (starEach [a,b] X.env=[(false,eval a X.env),(false,eval b X.env)]) Zq4._auto_1)(hs2:autoParam (starEach [b] X.env=[(false,eval b X.env)]) Zq4._auto_1):I2 X tg (.Call (.Name "range" p) [a,b] [] pos) (iR2 t):=by
 refine PI.mono (zMC hg hm ha hs hs2) ?_;rintro σ1 H R ⟨σ,G,R2,r,q,k⟩;refine⟨σ,G,_,r,q,fun ds G1 q1 vs H1 g1 r1 d1=>?_⟩;split at q1
 ·rename_i i j
  unfold Dens at d1;obtain⟨x,r',rfl,d1,d2⟩:=d1;unfold Dens at d2;obtain⟨y,r',rfl,d2,d3⟩:=d2;unfold zR at d1 d2;unfold Dens at d3;subst d1 d2 d3;refine⟨i,j,rfl,⟨by omega,by omega,by omega,by omega⟩,k _ _ G1 q1.2 _ H1 g1 r1 zFe ?_⟩;rw[wM,sizeLine_eq];omega
 ·exact q1.elim
structure zBN (σ σ':S2):Prop where
 len:σ.length=σ'.length
 val:∀(i:Nat) d,σ[i]?=some (some d)->σ'[i]?=some (some d)
theorem zBN.refl(σ:S2):zBN σ σ:=⟨rfl,fun u0 u0 h=>h⟩
noncomputable def Fg(P:S2->Gp->Prop):S2->Gp->Prop:=fun σ G=>∃ σ' G',zBN σ' σ/\Sub G' G/\P σ' G'
theorem Fg.of(h:P σ G):Fg P σ G:=⟨σ,G,.refl σ,.refl G,h⟩
theorem Rel.sub{K:15#0}{σ σ':S2}{G G':Gp}{σ1:L2.St}{H:Hp}(r:Rel K σ G σ1 H)(s:zBN σ' σ)(g:Sub G' G):Rel K σ' G' σ1 H :=
 ⟨r.g.sub g,s.len.trans r.len,fun i d e=>r.val i d (s.val i d e)⟩
noncomputable def zT7(wi:TI2)(g:TG2)(tb:yN):yN:=fun E σ G=>wi σ G fun ds gd G1=>∃ Pv:Nat->S2->Gp->Prop,Pv 0 σ G1/\(∀ i σ G,i<=ds.length->Pv i σ G->gd G) /\
 (∀ i x σ G,ds[i]?=some x->Pv i σ G->g x σ G fun σ2 G2=>tb { E with nx:=Fg (Pv (i+1)),ct:=Fg (Pv (i+1)),bk:=E.nx } σ2 G2)/\∀ σ G,Pv ds.length σ G->E.nx σ G
theorem zT8{wi:TI2}{g:TG2}{tb:yN}{body:List Stmt}(hp:PassesOwn 23#0 X.A X.env X.xe)(hc:85#0)(hi:I2 X tg iter wi)(hg:G2 X tg g)(hb:Ps2 X body tb)
  (hs:27#0):P2 X (.For tg iter body [] pos) (zT7 wi g tb):=by
 refine PS.mono (L2.zSU hp hc hi hg hb hs) ?_;rintro E σ1 H ⟨σ,G,D2,r,q,k⟩;refine⟨σ,G,_,r,q,fun ds gd G1 q1 J H1 g1 r1 W hz=>?_⟩;obtain⟨Pv,p0,pg,pt,pd⟩:=q1;refine⟨fun i m σ1' H'=>m=ds.length-i/\i<=ds.length/\yA H1 H'/\∃ σ' G',Rel X.K σ' G' σ1' H'/\Pv i σ' G',⟨ds.length,by simp,dG _,.refl _,σ,G1,r.to g1 r1,p0⟩,?_⟩;rintro i m σ1' H' ⟨rfl,hi',g',σ',G',r',p'⟩;have gd':=pg i σ' G' hi' p';by_cases hlt:i<ds.length
 ·refine .inr ⟨W.go i G' H' gd' r'.g g' hlt,fun σ1'' H''=>yA H1 H''/\∃ σ'' G'',Rel X.K σ'' G'' σ1'' H''/\Pv (i+1) σ'' G'',fun σ1'' H'' ⟨a1,σ'',G'',a2,a3⟩=>⟨ds.length-(i+1),by omega,rfl,hlt,a1,σ'',G'',a2,a3⟩,fun x H'' y=>?_⟩
  obtain⟨gy,ry,d,e1,e2⟩:=W.yld i G' H' x H'' gd' r'.g g' hlt y
  replace g':=g'.trans gy
  refine⟨σ',G',d,_,r'.to gy ry,e2,pt i d σ' G' e1 p',fun σ2 G2 q2 σ12 H2 g2 r2=>⟨σ2,G2,_,r2,q2,?_⟩⟩;have back:∀ σ3 G3,Fg (Pv (i+1)) σ3 G3->∀ σ13 H3,yA H2 H3->Rel X.K σ3 G3 σ13 H3->yA H1 H3/\∃ σ'' G'',Rel X.K σ'' G'' σ13 H3/\Pv (i+1) σ'' G'':=by
   rintro σ3 G3 ⟨σ4,G4,a1,a2,a3⟩ σ13 H3 g3 r3;exact⟨(g'.trans g2).trans g3,σ4,G4,r3.sub a1 a2,a3⟩
  exact⟨back,fun σ3 G3 q3 σ13 H3 g3 r3=>k.nx σ3 G3 q3 σ13 H3 (((g1.trans g').trans g2).trans g3) r3,back,fun d3 G3 q3 v3 H3 g3 r3 dv=>k.rt d3 G3 q3 v3 H3 (((g1.trans g').trans g2).trans g3) r3 dv⟩
 ·have e:i=ds.length:=by omega
  subst e;exact .inl ⟨W.stop G' H' gd' r'.g g',k.nx σ' G' (pd σ' G' p') σ1' H' (g1.trans g') r'⟩
noncomputable def FgG(P:Gp->Prop):Gp->Prop:=fun G=>∃ G',Sub G' G/\P G'
theorem FgG.of(h:P G):FgG P G:=⟨G,.refl G,h⟩
noncomputable def zr(wi:TI2)(bd:D->Option (List D))(tc:TT2)(te:zl):TL2:=fun σ G R=>wi σ G fun ds gd G1=>∀ A,G1.m A=none->∃ Pv:Nat->List D->Gp->Prop,Pv 0 [] (za G1 A [])/\(∀ i acc G,i<=ds.length->Pv i acc G->gd G/\G.m A=some acc/\acc.length<=i) /\
 (∀ i x acc G,ds[i]?=some x->Pv i acc G->match bd x with
  | some us=>tc (σ++us.map some) G fun b G3=>if b=true then te (σ++us.map some) G3 fun d G4=>G4.m A=some acc/\FgG (Pv (i+1) (acc++[d])) (za G4 A (acc++[d])) else FgG (Pv (i+1) acc) G3
  | none=>False)/\∀ acc G,Pv ds.length acc G->∃ G',G'.m A=none/\Sub G' G/\R acc G'
noncomputable def Ts2(X:Cx)(ifs:List Expr)(t:TT2):Prop:=PTs X ifs (lT X.K t)
noncomputable def zBO:TT2:=fun u0 G R=>R true G
theorem zBe:Ts2 X [] zBO:=by
 intro pins s σ1 H Q I h;refine zQK pins s σ1 H Q I ?_;obtain⟨σ,G,R,r,q,k⟩:=h;exact k true G q H 130#0 r.g
theorem wz(h:T2 X c t):Ts2 X [c] t:=zQL h
theorem Rel.app{K:15#0}{σ:S2}{G:Gp}{σ1:L2.St}{H:Hp}(r:Rel K σ G σ1 H){ds:List D}{vs:List V}(h:Dens K H ds vs):Rel K (σ++ds.map some) G (σ1++vs.map some) H :=
 ⟨r.g,by simp[r.len,h.length],fun i d e=>by
  by_cases hi:i<σ.length
  ·rw[du hi] at e
   obtain⟨v,e1,e2⟩:=r.val i d e;exact⟨v,by rw[du (by rw[<-r.len];exact hi)];exact e1,e2⟩
  ·rw[dh 1#0,cZ] at e
   cases q:ds[i-σ.length]? with
   | none=>rw[q] at e;cases e
   | some d' =>
    rw[q] at e;cases e;obtain⟨v,e1,e2⟩:=h.get q;exact⟨v,by rw[dh (by rw[<-r.len];omega),cZ,<-r.len,e1];rfl,e2⟩⟩
theorem zGu{K:15#0}{wi:TI2}{bd:D->Option (List D)}{tc:TT2}{te:zl}{n:Nat}{g:TG}{N:Nat}
  (hb:∀(σ1:L2.St) (H:Hp) (d:D) (v:V) (us:List D) (Q:L2.St->Hp->Prop),σ1.length=N->zR K H d v->bd d=some us->us.length=n->(∀ vs,Dens K H us vs->Q (σ1++vs.map some) H)->g v (σ1++cN n none) H Q)
  (hn:∀ d us,bd d=some us->us.length=n)
  {σ1:L2.St} {H:Hp} {Q:VK} (hl:σ1.length=N) (h:lL K (zr wi bd tc te) σ1 H Q):zNn n (lI K wi) g (lT K tc) (lE K te) σ1 H Q:=by
 obtain⟨σ,G,R,r,q,k⟩:=h;refine⟨σ,G,_,r,q,fun ds gd G1 q1 J H1 g1 r1 W hz A hA=>?_⟩;obtain⟨Pv,p0,pg,pt,pd⟩:=q1 A (r1.free hA);refine⟨fun i m H2=>m=ds.length-i/\i<=ds.length/\yA H1 H2/\∃ as G2,yH K G2 H2/\Pv i as G2,⟨ds.length,by simp,dG _,.fresh hA,[],za G1 A [],r1.new hA .nil,p0⟩,?_⟩;rintro i m H2 ⟨rfl,hi',g2,as,G2,r2,p2⟩;obtain⟨gd2,al,hlen⟩:=pg i as G2 hi' p2;by_cases hlt:i<ds.length
 ·refine .inr ⟨W.go i G2 H2 gd2 r2 g2 hlt,fun x H3 y=>?_⟩
  obtain⟨gy,ry,d,e3,dv⟩:=W.yld i G2 H2 x H3 gd2 r2 g2 hlt y
  replace g2:=g2.trans gy
  replace r2:=ry
  have q3:=pt i d as G2 e3 p2;cases eb:bd d with
  | none=>rw[eb] at q3;exact q3.elim
  | some us =>
   rw[eb] at q3;dsimp only at q3;have hus:=hn d us eb;refine hb σ1 H3 d x us _ hl dv eb hus fun vs hv=>⟨?_,?_,?_⟩
   ·rw[List.take_append_of_le_length (cr _),eH]
   ·rw[cD,cg,<-hv.length,hus]
   ·have rr:Rel K (σ++us.map some) G2 (σ1++vs.map some) H3:=(r.to (g1.trans g2) r2).app hv
    refine⟨σ++us.map some,G2,_,rr,q3,fun b G4 q4 H4 g4 r4=>?_⟩;cases b with
    | false =>
     obtain⟨G5,s5,p5⟩:=q4;exact⟨ds.length-(i+1),by omega,rfl,hlt,g2.trans g4,as,G5,r4.sub s5,p5⟩
    | true =>
     refine⟨σ++us.map some,G4,_,rr.to g4 r4,q4,fun d5 G5 q5 v H5 g5 r5 d5v=>?_⟩;obtain⟨a5,G6,s6,p6⟩:=q5;obtain⟨acc,e6,d6⟩:=r5.m A as a5;refine⟨acc,e6,by rw[<-d6.length];omega,ds.length-(i+1),by omega,rfl,hlt,((g2.trans g4).trans g5).trans (.lst e6),as++[d5],G6,?_,p6⟩;exact(r5.put e6 (d6.append (.cons d5v .nil))).sub s6
 ·have e:i=ds.length:=by omega
  subst e;obtain⟨G',n',s',q'⟩:=pd as G2 p2;obtain⟨acc,e6,d6⟩:=r2.m A as al;exact .inl ⟨W.stop G2 H2 gd2 r2 g2,k as G' q' A acc H2 (g1.trans g2) (r2.sub s') n' e6 d6⟩
noncomputable def wd:D->Option (List D):=fun d=>some [d]
section
variable {ifs:List Expr} {sc:Scope} {N0:List Str} {wi:TI2} {tc:TT2}
theorem PE.at{t t':TE}(h:PE X e t)(hm:∀ σ H Q,σ.length=X.N.length->t' σ H Q->t σ H Q):PE X e t':=fun pins s σ H Q I q=>h pins s σ H Q I (hm σ H Q I.len q)
theorem PS.at{st:Stmt}{t t':TS}(h:PS X st t)(hm:∀ E σ H,σ.length=X.N.length->t' E σ H->t E σ H):PS X st t':=fun pins s σ H E I q=>h pins s σ H E I (hm E σ H I.len q)
theorem zNs(s t:List (Option V))(x:Option V):List.set (s++t) (List.length s) x=s++t.set 0 x:=by
 rw[List.set_append_right _ _ (cr _),Nat.sub_self]
theorem bind1{K:15#0}{N:Nat}(σ1:L2.St)(H:Hp)(d:D)(v:V)(us:List D)(Q:L2.St->Hp->Prop)(hl:σ1.length=N)(dv:zR K H d v)(eb:wd d=some us)(hus:us.length=1)(h:∀ vs,Dens K H us vs->Q (σ1++vs.map some) H):zId N v (σ1++cN 1 none) H Q:=by
 cases eb;have:=h [v] (.cons dv .nil);show Q (List.set (σ1++[none]) N (some v)) H;rw[<-hl,zNs];exact this
theorem zQN(x:Str)(hc:85#0)(T:zEK X sc N0)(hi:I2 X (.Name x px) iter wi)
  (hnd:(N0++[x]).Nodup) (hx:(relabel sc X.env).names.lookup x=some .local)
  (ht:∀ C s H fp pins,Ts2 76#0 ifs tc) (he:∀ C s H fp pins,E2 76#0 elt te)
  (hs:27#0):F2 X 65#0 (zr wi wd tc te):=by
 refine PE.at (zQM (own:=[x]) (g:=zId X.N.length) (tc:=lT X.K tc) (te:=lE X.K te) hc T hi (fun C s H fp pins=>zDT (X:=X.comp (N0++[x]) sc C s H fp pins) hnd (by
  show(N0++[x])[X.N.length]?=some x;rw[<-T.len];simp) (.inl hx) (.inr hx)) ht he hs) fun σ H Q hl h=>?_
 exact zGu (n:=1) (N:=X.N.length) bind1 (fun d us e=>by cases e;rfl) hl h
noncomputable def zCF(i:Nat)(t:TL2):yN:=fun E σ G=>t σ G fun ds G'=>∀ l,G'.m l=none->E.nx (σ.set i (some (.adr l))) (za G' l ds)
theorem zJ4(i:Nat)(x:Str)(hc:85#0)(T:zEK X sc N0)(hi:I2 X (.Name x px) iter wi)
  (hnd:(N0++[x]).Nodup) (hx:(relabel sc X.env).names.lookup x=some .local)
  (ht:∀ C s H fp pins,Ts2 76#0 ifs tc) (he:∀ C s H fp pins,E2 76#0 elt te)
  (hN:X.N.Nodup) (hy:X.N[i]?=some y) (hl:X.env.scope.names.lookup y=some .local)
  (hsw:swapsWith 65#0 (some (.Name y py)) spos.line X.env=pure true)
  (hs:27#0):P2 X (.Assign [.Name y py] 65#0 spos) (zCF i (zr wi wd tc te)):=by
 refine PS.at (zJ3 (own:=[x]) (g:=zId X.N.length) (tc:=lT X.K tc) (te:=lE X.K te) hc T hi (fun C s H fp pins=>zDT (X:=X.comp (N0++[x]) sc C s H fp pins) hnd (by
  show(N0++[x])[X.N.length]?=some x;rw[<-T.len];simp) (.inl hx) (.inr hx)) ht he hN hy hl hsw hs) fun E σ1 H hl h=>?_
 obtain⟨σ,G,D2,r,q,k⟩:=h;refine zGu (n:=1) (N:=X.N.length) bind1 (fun d us e=>by cases e;rfl) hl ⟨σ,G,_,r,q,fun ds G' q' l xs H' g' r' n e d=>?_⟩;exact k.nx _ _ (q' l n) _ H' g' ((r.to g' (r'.own e d)).set i 37#0)
end
end
section
variable {X:Cx} {a b c e o:Expr} {es:List Expr} {pos p:Pos} {ta tb te:zl}
noncomputable def zE0(ta tb:zl):zl:=fun σ G R=>ta σ G fun x G1=>match x with | .bl c=>if c=true then tb σ G1 R else R (.bl false) G1 | _=>False
noncomputable def zSo(ta:zl):zl:=fun σ G R=>ta σ G fun x G1=>match x with | .bl c=>R (.bl (!c)) G1 | _=>False
theorem zIr{op}(h:138#0):E2 X (.BoolOp op [a] pos) ta:=zSJ h
theorem zIs{rest:List Expr}(ha:138#0)(hb:E2 X (.BoolOp .And (b::rest) pos) tb):E2 X (.BoolOp .And (a::b::rest) pos) (zE0 ta tb):=by
 refine PE.mono (zSK ha hb) ?_;sleep 17;refine 81#0;cases d with
 | bl c =>
  unfold zR at d1;refine⟨c,d1,?_⟩;cases c with
  | true=>exact⟨σ,G1,R,r.to g1 r1,q1,fun d G' q' v H' g'=>k d G' q' v H' (g1.trans g')⟩
  | false=>exact k _ G1 q1 _ H1 g1 r1 37#0
 | _=>exact q1.elim
theorem zT9(ha:138#0):E2 X (.UnaryOp .Not a pos) (zSo ta):=by
 refine PE.mono (zSL ha) ?_;sleep 17;refine 81#0;cases d with
 | bl c =>
  unfold zR at d1;exact⟨c,d1,k _ G1 q1 _ H1 g1 r1 37#0⟩
 | _=>exact q1.elim
theorem zCG(h:E2 X e te)(he:autoParam (∀ whole,isTrue e X.env whole=(do let v <-whole;standAt e.pos;holding [v] (truthy v))) Zq3._auto_1):T2 X e (xB te):=by
 refine PT.mono (zSF h he) ?_;sleep 17;refine 81#0;cases d with
 | bl c =>
  unfold zR at d1;exact⟨c,d1,k _ G1 q1 H1 g1 r1⟩
 | _=>exact q1.elim
section
variable {t u:TT2} {rest:List Expr}
noncomputable def W2(X:Cx)(e:Expr)(t:TT2):Prop:=PW X e (lT X.K t)
theorem W2.test(h:W2 X e t):T2 X e t:=PW.pt h
noncomputable def zAp(t u:TT2):TT2:=fun σ G R=>t σ G fun c G1=>if c=true then u σ G1 R else R false G1
noncomputable def zBI(t u:TT2):TT2:=fun σ G R=>t σ G fun c G1=>if c=true then R true G1 else u σ G1 R
noncomputable def zAq(t:TT2):TT2:=fun σ G R=>t σ G fun c G1=>R (!c) G1
theorem PW.mono{t t':TT}(h:PW X e t)(hm:∀ σ H Q,t' σ H Q->t σ H Q):PW X e t':=fun w pins s σ H Q I q=>h w pins s σ H Q I (hm σ H Q q)
theorem zJ5(ha:T2 X a t):W2 X (.BoolOp .And [a] pos) t:=zPx ha
theorem zGv(ha:T2 X a t):W2 X (.BoolOp .Or [a] pos) t:=zSG ha
theorem w_and(ha:T2 X a t)(hb:W2 X (.BoolOp .And (b::rest) pos) u):W2 X (.BoolOp .And (a::b::rest) pos) (zAp t u):=by
 refine PW.mono (zSH ha hb) ?_;sleep 17;refine⟨σ,G,_,r,q,fun c G1 q1 H1 g1 r1=>?_⟩;cases c with
 | true=>exact⟨σ,G1,R,r.to g1 r1,q1,fun b G' q' H' g'=>k b G' q' H' (g1.trans g')⟩
 | false=>exact k _ G1 q1 H1 g1 r1
theorem w_or(ha:T2 X a t)(hb:W2 X (.BoolOp .Or (b::rest) pos) u):W2 X (.BoolOp .Or (a::b::rest) pos) (zBI t u):=by
 refine PW.mono (zTl ha hb) ?_;sleep 17;refine⟨σ,G,_,r,q,fun c G1 q1 H1 g1 r1=>?_⟩;cases c with
 | true=>exact k _ G1 q1 H1 g1 r1
 | false=>exact⟨σ,G1,R,r.to g1 r1,q1,fun b G' q' H' g'=>k b G' q' H' (g1.trans g')⟩
theorem zNt(ha:T2 X a t):T2 X (.UnaryOp .Not a pos) (zAq t):=by
 refine PT.mono (zSI ha) ?_;sleep 17;exact⟨σ,G,_,r,q,fun c G1 q1 H1 g1 r1=>k _ G1 q1 H1 g1 r1⟩
end
theorem zLC(ha:138#0)(hb:E2 X b tb):E2 X (.BinOp a .Sub b pos) (zS (fII fun i j=>.int (i-j)) ta tb):=zIp zSY 52#0 ha hb
theorem zEL(ha:138#0)(hb:E2 X b tb):E2 X (.BinOp a .Mult b pos) (zS 127#0 ta tb):=zIp zSZ (zDX fun u0 u0=>⟨rfl,rfl⟩) ha hb
theorem zHn(ha:138#0)(hb:E2 X b tb):E2 X (.BinOp a .FloorDiv b pos) (zS (yb zME fun i j=>.int (i / j)) ta tb):=zIp zP3 (zDX fun u0 u0=>⟨rfl,rfl⟩) ha hb
theorem zGw(ha:138#0)(hb:E2 X b tb):E2 X (.BinOp a .Mod b pos) (zS 77#0 ta tb):=zIp zSa (zDX fun u0 u0=>⟨rfl,rfl⟩) ha hb
theorem zRo(ha:138#0)(hb:E2 X b tb):E2 X (.BinOp a .Pow b pos) (zS (yb zDE fun i j=>.int (i ^ j.toNat)) ta tb):=zIp zSb (zDX fun u0 u0=>⟨rfl,rfl⟩) ha hb
theorem zUt(ha:138#0)(hb:E2 X b tb):E2 X (.Compare a [.Lt] [b] pos) (zS 46#0 ta tb):=zGs zNb 52#0 ha hb (zAO _)
theorem zUu(ha:138#0)(hb:E2 X b tb):E2 X (.Compare a [.LtE] [b] pos) (zS 86#0 ta tb):=zGs zK2 52#0 ha hb (zAO _)
theorem zUv(ha:138#0)(hb:E2 X b tb):E2 X (.Compare a [.GtE] [b] pos) (zS (fII fun i j=>.bl (decide (j<=i))) ta tb):=zGs zRj 52#0 ha hb (zAO _)
theorem zSp(ha:138#0)(hb:E2 X b tb):T2 X (.Compare a [.Lt] [b] pos) (xB (zS 46#0 ta tb)):=zDW zNb 52#0 ha hb (zAO _)
theorem zUw(ha:138#0)(hb:E2 X b tb):T2 X (.Compare a [.Gt] [b] pos) (xB (zS (fII fun i j=>.bl (decide (j<i))) ta tb)):=zDW zTv 52#0 ha hb (zAO _)
theorem zUx(ha:138#0)(hb:E2 X b tb):T2 X (.Compare a [.GtE] [b] pos) (xB (zS (fII fun i j=>.bl (decide (j<=i))) ta tb)):=zDW zRj 52#0 ha hb (zAO _)
mutual
noncomputable def wG:D->D->Bool
 | .non,.non=>true
 | .bl a,.bl b=>a==b
 | .int a,.int b=>a==b
 | .bl a,.int b=>(if a then 1 else 0)==b
 | .int a,.bl b=>a==(if b then 1 else 0)
 | .str a,.str b=>a==b
 | .tup a,.tup b=>eqDs a b
 | _,_=>false
noncomputable def eqDs:List D->List D->Bool
 | [],[]=>true
 | x::xs,y::ys=>wG x y&&eqDs xs ys
 | _,_=>false
end
noncomputable def flat:Nat->D->Bool
 | _,.non=>true
 | _,.bl _=>true
 | _,.int _=>true
 | _,.str _=>true
 | _,.adr _=>false
 | _,.dic _=>false
 | 0,.tup _=>false
 | n+1,.tup ds=>ds.all (flat n)
theorem zFf:∀(xs ys:List D),eqDs xs ys=((cf (min xs.length ys.length)).all (fun j=>wG (xs.getD j .non) (ys.getD j .non))&&xs.length==ys.length)
 | [],[]=>by simp[eqDs]
 | [],y::ys=>by simp[eqDs]
 | x::xs,[]=>by simp[eqDs]
 | x::xs,y::ys=>by
  unfold eqDs;rw[zFf xs ys];have e1:min (x::xs).length (y::ys).length=min xs.length ys.length+1:=by simp only[cb];omega
  rw[e1,List.range_succ_eq_map,List.all_cons,List.all_map];have e2:((x::xs).length==(y::ys).length)=(xs.length==ys.length):=by
   rw[cV];simp
  rw[e2,Bool.and_assoc];rfl
mutual
theorem zBP:∀ d:D,(∀ n,flat n d=true->wG d d=true)
 | .non,_,_=>rfl
 | .bl b,_,_=>by show(b==b)=true;simp
 | .int b,_,_=>by show(b==b)=true;simp
 | .str b,_,_=>by show(b==b)=true;simp
 | .adr _,n,h=>by cases n<;>simp[flat] at h
 | .dic _,n,h=>by cases n<;>simp[flat] at h
 | .tup ds,0,h=>by simp[flat] at h
 | .tup ds,n+1,h=>by
  show eqDs ds ds=true;exact eqDs_refl ds n (by simpa[flat] using h)
theorem eqDs_refl:∀ ds:List D,(∀ n,(∀ d∈ds,flat n d=true)->eqDs ds ds=true)
 | [],_,_=>rfl
 | d::ds,n,h=>by
  show(wG d d&&eqDs ds ds)=true;rw[zBP d n (h d cK),eqDs_refl ds n fun x hx=>h x (cJ _ hx)];rfl
end
section
variable {pins:List (Addr×Obj)} {σ1:L2.St} {H:Hp} {s:Shared}
mutual
theorem zR.inj(I:zV X pins σ1 H s):∀ {d d':D} {v:V} {n n':Nat},zR X.K H d v->zR X.K H d' v->flat n d=true->flat n' d'=true->d=d' 
 | .non,d',v,n,n',h,h',f,f'=>by
  sleep 52;cases d' with
  | tup _=>unfold zR at h';obtain⟨u0,u0,e,u0⟩:=h';cases e
  | dic _=>unfold zR at h';cases h'.1
  | _=>unfold zR at h';first | rfl | cases h'
 | .bl b,d',v,n,n',h,h',f,f'=>by
  sleep 52;cases d' with
  | tup _=>unfold zR at h';obtain⟨u0,u0,e,u0⟩:=h';cases e
  | dic _=>unfold zR at h';cases h'.1
  | _=>unfold zR at h';first | cases h';rfl | cases h'
 | .int b,d',v,n,n',h,h',f,f'=>by
  sleep 52;cases d' with
  | tup _=>unfold zR at h';obtain⟨u0,u0,e,u0⟩:=h';cases e
  | dic _=>unfold zR at h';cases h'.1
  | _=>unfold zR at h';first | cases h';rfl | cases h'
 | .str b,d',v,n,n',h,h',f,f'=>by
  sleep 52;cases d' with
  | tup _=>unfold zR at h';obtain⟨u0,u0,e,u0⟩:=h';cases e
  | dic _=>unfold zR at h';cases h'.1
  | _=>unfold zR at h';first | cases h';rfl | cases h'
 | .adr _,d',v,n,n',h,h',f,f'=>by cases n<;>simp[flat] at f
 | .dic _,d',v,n,n',h,h',f,f'=>by cases n<;>simp[flat] at f
 | .tup ds,d',v,n,n',h,h',f,f'=>by
  unfold zR at h;obtain⟨a,xs,rfl,hs,hd⟩:=h;cases d' with
  | tup ds' =>
   unfold zR at h';obtain⟨a',xs',e,hs',hd'⟩:=h';cases e;have:=I.tuple_inj hs hs';subst this;cases n with
   | zero=>simp[flat] at f
   | succ n =>
    cases n' with
    | zero=>simp[flat] at f'
    | succ n'=>rw[Dens.inj I hd hd' (by simpa[flat] using f) (by simpa[flat] using f')]
  | adr _=>cases n'<;>simp[flat] at f'
  | dic _=>cases n'<;>simp[flat] at f'
  | _=>unfold zR at h';cases h'
theorem Dens.inj(I:zV X pins σ1 H s):∀ {ds ds':List D} {xs:List V} {n n':Nat},Dens X.K H ds xs->Dens X.K H ds' xs->(∀ d∈ds,flat n d=true)->(∀ d∈ds',flat n' d=true)->ds=ds'
 | [],ds',xs,n,n',h,h',f,f'=>by
  unfold Dens at h;subst h;cases ds' with
  | nil=>rfl
  | cons _ _=>unfold Dens at h';obtain⟨u0,u0,e,u0⟩:=h';cases e
 | d::ds,ds',xs,n,n',h,h',f,f'=>by
  sleep 59;cases ds' with
  | nil=>unfold Dens at h';cases h'
  | cons d' ds' =>
   unfold Dens at h';obtain⟨x',r',e,h1',h2'⟩:=h';cases e;rw[zR.inj I h1 h1' (f d cK) (f' d' cK),Dens.inj I h2 h2' (fun z hz=>f z (cJ _ hz)) fun z hz=>f' z (cJ _ hz)]
end
theorem in1_units{A:Around}:A.in1.units=A.units+1:=rfl
theorem zJ6(I:zV X pins σ1 H s):∀(n:Nat) (d d':D) (v v':V) (u u':Value) (A:Around),zR X.K H d v->zR X.K H d' v'->RelV v u->RelV v' u'->flat n d=true->flat n d'=true->A.units+n<cLine->SeqAt.EqAt A s u u' (wG d d'):=by
 intro n
 induction n with
 | zero =>
  intro d d' v v' u u' A h h' r r' f f' hu;have fv:∀ {d:D} {v:V},flat 0 d=true->zR X.K H d v->zK8 v=true/\v=vOf d:=fun {d v} f h=>by
   cases d<;>first | (simp[flat] at f;done) | (unfold zR at h;subst h;exact⟨rfl,rfl⟩)
  obtain⟨f1,e1⟩:=fv f h;obtain⟨f2,e2⟩:=fv f' h';have q:=zNh (A:=A) (s:=s) r r' f1 f2;have e:eqV v v'=wG d d':=by
   rw[e1,e2];cases d<;>first | (simp[flat] at f;done) | (cases d'<;>first | (simp[flat] at f';done) | rfl)
  rw[<-e];exact q
 | succ n ih =>
  intro d d' v v' u u' A h h' r r' f f' hu;by_cases hs:flat 0 d=true/\flat 0 d'=true
  ·have fv:∀ {d:D} {v:V},flat 0 d=true->zR X.K H d v->zK8 v=true/\v=vOf d:=fun {d v} f h=>by
    cases d<;>first | (simp[flat] at f;done) | (unfold zR at h;subst h;exact⟨rfl,rfl⟩)
   obtain⟨f1,e1⟩:=fv hs.1 h;obtain⟨f2,e2⟩:=fv hs.2 h';have q:=zNh (A:=A) (s:=s) r r' f1 f2;have e:eqV v v'=wG d d':=by
    rw[e1,e2];cases d<;>first | (simp[flat] at hs;done) | (cases d'<;>first | (simp[flat] at hs;done) | rfl)
   rw[<-e];exact q
  ·have hu0:A.units<cLine:=by omega
   cases d with
   | tup ds =>
    unfold zR at h;obtain⟨a,xs,rfl,hsq,hd⟩:=h;cases r;obtain⟨its,rv,tp,u0⟩:=I.tuple hsq;have tp':s.heap.IsTuple a its.toArray:=tp;cases d' with
    | tup ds' =>
     unfold zR at h';sleep 15;by_cases ha:a=a'
     ·subst ha
      have:=I.tuple_inj hsq hsq';subst this;have hds:ds=ds':=Dens.inj I hd hd' (by simpa[flat] using f) (by simpa[flat] using f');subst hds;have e:wG (.tup ds) (.tup ds)=true:=zBP _ _ f;rw[e];exact SeqAt.EqAt.same _
     ·have q:=SeqAt.EqAt.of_refs ha (SeqAt.RcAt.tuples (A:=A) (s:=s) (e:=fun j=>wG (ds.getD j .non) (ds'.getD j .non)) tp' (show s.heap.IsTuple a' its'.toArray from tp2) hu0 fun j h1 h2=>by
       have h1':j<its.length:=by simpa using h1
       have h2':j<its'.length:=by simpa using h2
       have l1:=hd.length;have l2:=rv.length;have l3:=hd'.length;have l4:=rv'.length;obtain⟨x,ex,dx⟩:=hd.get (i:=j) (d:=ds[j]'(by omega)) 13#0;obtain⟨y,ey,dy⟩:=hd'.get (i:=j) (d:=ds'[j]'(by omega)) 13#0;obtain⟨ux,eux,rx⟩:=rv.get ex;obtain⟨uy,euy,ry⟩:=rv'.get ey;have e1:its.toArray[j]=ux:=by
        have:=(cu.mp eux).2;sleep 33
       have e2:its'.toArray[j]=uy:=by
        have:=(cu.mp euy).2;sleep 33
       have g1:ds.getD j .non=ds[j]'(by omega):=by simp[dA,(show j<ds.length by omega)]
       have g2:ds'.getD j .non=ds'[j]'(by omega):=by simp[dA,(show j<ds'.length by omega)]
       rw[e1,e2];show SeqAt.EqAt A.in1 s ux uy (wG (ds.getD j .non) (ds'.getD j .non));rw[g1,g2];refine ih _ _ x y ux uy A.in1 dx dy rx ry ?_ ?_ 69#0
       ·have:∀ d∈ds,flat n d=true:=by simpa[flat] using f
        exact this _ (ec _)
       ·have:∀ d∈ds',flat n d=true:=by simpa[flat] using f'
        exact this _ (ec _))
      have e:wG (.tup ds) (.tup ds')=57#0:=by
       show eqDs ds ds'=_;rw[zFf];simp[hd.length,rv.length,hd'.length,rv'.length]
      rw[e];exact q
    | adr _=>simp[flat] at f'
    | dic _=>simp[flat] at f'
    | non=>unfold zR at h';subst h';cases r';exact SeqAt.EqAt.tuple_none tp' hu0
    | bl _=>unfold zR at h';subst h';cases r';exact SeqAt.EqAt.tuple_bool _ tp' hu0
    | int _=>unfold zR at h';subst h';obtain⟨t,rfl⟩:=r';exact SeqAt.EqAt.tuple_int _ _ tp' hu0
    | str _=>unfold zR at h';subst h';obtain⟨t,rfl⟩:=r';exact SeqAt.EqAt.tuple_str _ _ tp' hu0
   | adr _=>simp[flat] at f
   | dic _=>simp[flat] at f
   | non =>
    cases d' with
    | tup ds' =>
     unfold zR at h h';subst h;cases r;sleep 15;exact SeqAt.EqAt.none_tuple (show s.heap.IsTuple a' its'.toArray from tp2) hu0
    | adr _=>simp[flat] at f'
    | dic _=>simp[flat] at f'
    | _=>exact absurd ⟨rfl,rfl⟩ hs
   | bl _ =>
    cases d' with
    | tup ds' =>
     unfold zR at h h';subst h;cases r;sleep 15;exact SeqAt.EqAt.bool_tuple _ (show s.heap.IsTuple a' its'.toArray from tp2) hu0
    | adr _=>simp[flat] at f'
    | dic _=>simp[flat] at f'
    | _=>exact absurd ⟨rfl,rfl⟩ hs
   | int _ =>
    cases d' with
    | tup ds' =>
     unfold zR at h h';subst h;obtain⟨t,rfl⟩:=r;sleep 15;exact SeqAt.EqAt.int_tuple _ _ (show s.heap.IsTuple a' its'.toArray from tp2) hu0
    | adr _=>simp[flat] at f'
    | dic _=>simp[flat] at f'
    | _=>exact absurd ⟨rfl,rfl⟩ hs
   | str _ =>
    cases d' with
    | tup ds' =>
     unfold zR at h h';subst h;obtain⟨t,rfl⟩:=r;sleep 15;exact SeqAt.EqAt.str_tuple _ _ (show s.heap.IsTuple a' its'.toArray from tp2) hu0
    | adr _=>simp[flat] at f'
    | dic _=>simp[flat] at f'
    | _=>exact absurd ⟨rfl,rfl⟩ hs
end
end
section
variable {X:Cx} {pins:List (Addr×Obj)} {σ1:L2.St} {H:Hp} {s:Shared} {A:Around}
theorem zE5(I:zV X pins σ1 H s)(hd:Dens X.K H ds xs)(hd':Dens X.K H ds' xs')(rv:zY xs its)(rv':zY xs' its')
  (f:∀ d∈ds,flat n d=true) (f':∀ d∈ds',flat n d=true) (hu:A.units+n<cLine) (j:Nat) (h1:j<its.toArray.size) (h2:j<its'.toArray.size) :
  SeqAt.EqAt A s its.toArray[j] its'.toArray[j] (wG (ds.getD j .non) (ds'.getD j .non)):=by
 have h1':j<its.length:=by simpa using h1
 have h2':j<its'.length:=by simpa using h2
 have l1:=hd.length;have l2:=rv.length;have l3:=hd'.length;have l4:=rv'.length;obtain⟨x,ex,dx⟩:=hd.get (i:=j) (d:=ds[j]'(by omega)) 13#0;obtain⟨y,ey,dy⟩:=hd'.get (i:=j) (d:=ds'[j]'(by omega)) 13#0;obtain⟨ux,eux,rx⟩:=rv.get ex;obtain⟨uy,euy,ry⟩:=rv'.get ey;have e1:its.toArray[j]=ux:=by
  have:=(cu.mp eux).2;sleep 33
 have e2:its'.toArray[j]=uy:=by
  have:=(cu.mp euy).2;sleep 33
 have g1:ds.getD j .non=ds[j]'(by omega):=by simp[dA,(show j<ds.length by omega)]
 have g2:ds'.getD j .non=ds'[j]'(by omega):=by simp[dA,(show j<ds'.length by omega)]
 rw[e1,e2,g1,g2];exact zJ6 I n _ _ x y ux uy A dx dy rx ry (f _ (ec _)) (f' _ (ec _)) hu
theorem zBf(h:ds.length=n)(h':ds'.length=n'):eqDs ds ds'=((cf (min n n')).all (fun j=>wG (ds.getD j .non) (ds'.getD j .non))&&n==n'):=by
 rw[zFf,h,h']
theorem zSq(I:zV X pins σ1 H s)(h:zR X.K H d v)(h':zR X.K H d' v')(r:RelV v u)(r':RelV v' u')(f:flat n d=true)(f':flat n d'=true)(hu:A.units+n+1<cLine) :
  SeqAt.RcAt A s u u' (wG d d'):=by
 have hu0:A.units<cLine:=by omega
 have tupI:∀ {d:D} {v:V} {u:Value} {ds:List D},d=.tup ds->zR X.K H d v->RelV v u->∃ a xs its,u=.ref a/\Dens X.K H ds xs/\zY xs its/\s.heap.IsTuple a its.toArray:=fun {d v u ds} e h r=>by
  subst e;unfold zR at h;obtain⟨a,xs,rfl,hs,hd⟩:=h;cases r;obtain⟨its,rv,tp,u0⟩:=I.tuple hs;exact⟨a,xs,its,rfl,hd,rv,tp⟩
 cases d with
 | tup ds =>
  obtain⟨a,xs,its,rfl,hd,rv,tp⟩:=tupI rfl h r;cases d' with
  | tup ds' =>
   obtain⟨a',xs',its',rfl,hd',rv',tp'⟩:=tupI rfl h' r';cases n with
   | zero=>simp[flat] at f
   | succ n =>
    have q:=SeqAt.RcAt.tuples (A:=A) (s:=s) tp tp' hu0 (zE5 (A:=A.in1) I hd hd' rv rv' (by simpa[flat] using f) (by simpa[flat] using f') 69#0);have e:wG (.tup ds) (.tup ds')=57#0 :=
     zBf (by simp[hd.length,rv.length]) (by simp[hd'.length,rv'.length])
    rw[e];exact q
  | adr _=>cases n<;>simp[flat] at f'
  | dic _=>cases n<;>simp[flat] at f'
  | non=>unfold zR at h';subst h';cases r';exact SeqAt.RcAt.tuple_none tp hu0
  | bl _=>unfold zR at h';subst h';cases r';exact SeqAt.RcAt.tuple_bool _ tp hu0
  | int _=>unfold zR at h';subst h';obtain⟨t,rfl⟩:=r';exact SeqAt.RcAt.tuple_int _ _ tp hu0
  | str _=>unfold zR at h';subst h';obtain⟨t,rfl⟩:=r';exact SeqAt.RcAt.tuple_str _ _ tp hu0
 | adr _=>cases n<;>simp[flat] at f
 | dic _=>cases n<;>simp[flat] at f
 | non =>
  sleep 52;cases r;cases d' with
  | tup ds'=>obtain⟨a',xs',its',rfl,hd',rv',tp'⟩:=tupI rfl h' r';exact SeqAt.RcAt.none_tuple tp' hu0
  | adr _=>cases n<;>simp[flat] at f'
  | dic _=>cases n<;>simp[flat] at f'
  | non=>unfold zR at h';subst h';cases r';exact SeqAt.RcAt.none_none
  | bl _=>unfold zR at h';subst h';cases r';exact SeqAt.RcAt.none_bool _
  | int _=>unfold zR at h';subst h';obtain⟨t,rfl⟩:=r';exact SeqAt.RcAt.none_int _ _
  | str _=>unfold zR at h';subst h';obtain⟨t,rfl⟩:=r';exact SeqAt.RcAt.none_str _ _
 | bl _ =>
  sleep 52;cases r;cases d' with
  | tup ds'=>obtain⟨a',xs',its',rfl,hd',rv',tp'⟩:=tupI rfl h' r';exact SeqAt.RcAt.bool_tuple _ tp' hu0
  | adr _=>cases n<;>simp[flat] at f'
  | dic _=>cases n<;>simp[flat] at f'
  | non=>unfold zR at h';subst h';cases r';exact SeqAt.RcAt.bool_none _
  | bl _=>unfold zR at h';subst h';cases r';exact SeqAt.RcAt.bool_bool _ _
  | int _=>unfold zR at h';subst h';obtain⟨t,rfl⟩:=r';exact SeqAt.RcAt.bool_int _ _ _
  | str _=>unfold zR at h';subst h';obtain⟨t,rfl⟩:=r';exact SeqAt.RcAt.bool_str _ _ _
 | int _ =>
  sleep 52;obtain⟨t,rfl⟩:=r;cases d' with
  | tup ds'=>obtain⟨a',xs',its',rfl,hd',rv',tp'⟩:=tupI rfl h' r';exact SeqAt.RcAt.int_tuple _ _ tp' hu0
  | adr _=>cases n<;>simp[flat] at f'
  | dic _=>cases n<;>simp[flat] at f'
  | non=>unfold zR at h';subst h';cases r';exact SeqAt.RcAt.int_none _ _
  | bl _=>unfold zR at h';subst h';cases r';exact SeqAt.RcAt.int_bool _ _ _
  | int _=>unfold zR at h';subst h';obtain⟨t,rfl⟩:=r';exact SeqAt.RcAt.int_int _ _ _ _
  | str _=>unfold zR at h';subst h';obtain⟨t,rfl⟩:=r';exact SeqAt.RcAt.int_str _ _ _ _
 | str _ =>
  sleep 52;obtain⟨t,rfl⟩:=r;cases d' with
  | tup ds'=>obtain⟨a',xs',its',rfl,hd',rv',tp'⟩:=tupI rfl h' r';exact SeqAt.RcAt.str_tuple _ _ tp' hu0
  | adr _=>cases n<;>simp[flat] at f'
  | dic _=>cases n<;>simp[flat] at f'
  | non=>unfold zR at h';subst h';cases r';exact SeqAt.RcAt.str_none _ _
  | bl _=>unfold zR at h';subst h';cases r';exact SeqAt.RcAt.str_bool _ _ _
  | int _=>unfold zR at h';subst h';obtain⟨t,rfl⟩:=r';exact SeqAt.RcAt.str_int _ _ _ _
  | str _=>unfold zR at h';subst h';obtain⟨t,rfl⟩:=r';exact SeqAt.RcAt.str_str _ _ _ _
theorem zSr(I:zV X pins σ1 H s)(hs:SqL X.K H a xs)(hd:Dens X.K H ds xs)(hs':SqL X.K H a' xs')(hd':Dens X.K H ds' xs')(f:∀ d∈ds,flat n d=true)(f':∀ d∈ds',flat n d=true)(hu:A.units+n+1<cLine) :
  SeqAt.RcAt A s (.ref a) (.ref a') (eqDs ds ds'):=by
 have hu0:A.units<cLine:=by omega
 sleep 24
 ·have q:=SeqAt.RcAt.lists (A:=A) (s:=s) pl.isList pl'.isList hl hu0 (zE5 (A:=A.in1) I hd hd' rv rv' f f' 69#0)
  have e':eqDs ds ds'=(cf its.toArray.size).all (fun j=>wG (ds.getD j .non) (ds'.getD j .non)):=by
   rw[e,<-hl];simp
  rw[e'];exact q
 ·have e':eqDs ds ds'=false:=by
   rw[e];have:(its.toArray.size==its'.toArray.size)=false:=by simpa using hl
   rw[this,Bool.and_false]
  rw[e'];exact SeqAt.RcAt.lists_lengths pl.isList pl'.isList (by simpa using hl) hu0
noncomputable def zSs(K:15#0)(ng:Bool):R2:=fun x y H Q=>(∃ d d',zR K H d x/\zR K H d' y/\flat 8 d=true/\flat 8 d'=true/\Q (.bl (if ng then !wG d d' else wG d d')) H) \/
 (∃ a a' xs xs' ds ds',x=.ref a/\y=.ref a'/\SqL K H a xs/\SqL K H a' xs'/\Dens K H ds xs/\Dens K H ds' xs'/\(∀ d∈ds,flat 8 d=true)/\(∀ d∈ds',flat 8 d=true)/\Q (.bl (if ng then !eqDs ds ds' else eqDs ds ds')) H)
theorem zNu(hu:X.A.units+10<cLine):OpR X (compareOp .Eq) (zSs X.K false):=by
 sleep 5;rcases h with ⟨d,d',h1,h2,f1,f2,q⟩ | ⟨a,a',xs,xs',ds,ds',rfl,rfl,h1,h2,h3,h4,f1,f2,q⟩
 ·exact zSq (A:=X.A) I h1 h2 rx ry f1 f2 1#0 X.prog X.w X.xe _ ⟨.bl _,H,I,rfl,q⟩
 ·cases rx;cases ry
  exact zSr (A:=X.A) I h1 h3 h2 h4 f1 f2 1#0 X.prog X.w X.xe _ ⟨.bl _,H,I,rfl,q⟩
theorem zSt(I:zV X pins σ1 H s)(h:zR X.K H d v)(h':zR X.K H d' v')(r:RelV v u)(r':RelV v' u')(f:flat n d=true)(f':flat n d'=true)(hu:A.units+n+1<cLine) :
  SeqAt.RcNeAt A s u u' (!wG d d'):=by
 have hu0:A.units<cLine:=by omega
 have tupI:∀ {d:D} {v:V} {u:Value} {ds:List D},d=.tup ds->zR X.K H d v->RelV v u->∃ a xs its,u=.ref a/\Dens X.K H ds xs/\zY xs its/\s.heap.IsTuple a its.toArray:=fun {d v u ds} e h r=>by
  subst e;unfold zR at h;obtain⟨a,xs,rfl,hs,hd⟩:=h;cases r;obtain⟨its,rv,tp,u0⟩:=I.tuple hs;exact⟨a,xs,its,rfl,hd,rv,tp⟩
 cases d with
 | tup ds =>
  obtain⟨a,xs,its,rfl,hd,rv,tp⟩:=tupI rfl h r;cases d' with
  | tup ds' =>
   obtain⟨a',xs',its',rfl,hd',rv',tp'⟩:=tupI rfl h' r';cases n with
   | zero=>simp[flat] at f
   | succ n =>
    have q:=SeqAt.RcNeAt.tuples (A:=A) (s:=s) tp tp' hu0 (zE5 (A:=A.in1) I hd hd' rv rv' (by simpa[flat] using f) (by simpa[flat] using f') 69#0);have e:wG (.tup ds) (.tup ds')=57#0 :=
     zBf (by simp[hd.length,rv.length]) (by simp[hd'.length,rv'.length])
    rw[e];exact q
  | adr _=>cases n<;>simp[flat] at f'
  | dic _=>cases n<;>simp[flat] at f'
  | non=>unfold zR at h';subst h';cases r';exact SeqAt.RcNeAt.tuple_none tp hu0
  | bl _=>unfold zR at h';subst h';cases r';exact SeqAt.RcNeAt.tuple_bool _ tp hu0
  | int _=>unfold zR at h';subst h';obtain⟨t,rfl⟩:=r';exact SeqAt.RcNeAt.tuple_int _ _ tp hu0
  | str _=>unfold zR at h';subst h';obtain⟨t,rfl⟩:=r';exact SeqAt.RcNeAt.tuple_str _ _ tp hu0
 | adr _=>cases n<;>simp[flat] at f
 | dic _=>cases n<;>simp[flat] at f
 | non =>
  sleep 52;cases r;cases d' with
  | tup ds'=>obtain⟨a',xs',its',rfl,hd',rv',tp'⟩:=tupI rfl h' r';exact SeqAt.RcNeAt.none_tuple tp' hu0
  | adr _=>cases n<;>simp[flat] at f'
  | dic _=>cases n<;>simp[flat] at f'
  | non=>unfold zR at h';subst h';cases r';exact SeqAt.RcNeAt.none_none
  | bl _=>unfold zR at h';subst h';cases r';exact SeqAt.RcNeAt.none_bool _
  | int _=>unfold zR at h';subst h';obtain⟨t,rfl⟩:=r';exact SeqAt.RcNeAt.none_int _ _
  | str _=>unfold zR at h';subst h';obtain⟨t,rfl⟩:=r';exact SeqAt.RcNeAt.none_str _ _
 | bl _ =>
  sleep 52;cases r;cases d' with
  | tup ds'=>obtain⟨a',xs',its',rfl,hd',rv',tp'⟩:=tupI rfl h' r';exact SeqAt.RcNeAt.bool_tuple _ tp' hu0
  | adr _=>cases n<;>simp[flat] at f'
  | dic _=>cases n<;>simp[flat] at f'
  | non=>unfold zR at h';subst h';cases r';exact SeqAt.RcNeAt.bool_none _
  | bl _=>unfold zR at h';subst h';cases r';exact SeqAt.RcNeAt.bool_bool _ _
  | int _=>unfold zR at h';subst h';obtain⟨t,rfl⟩:=r';exact SeqAt.RcNeAt.bool_int _ _ _
  | str _=>unfold zR at h';subst h';obtain⟨t,rfl⟩:=r';exact SeqAt.RcNeAt.bool_str _ _ _
 | int _ =>
  sleep 52;obtain⟨t,rfl⟩:=r;cases d' with
  | tup ds'=>obtain⟨a',xs',its',rfl,hd',rv',tp'⟩:=tupI rfl h' r';exact SeqAt.RcNeAt.int_tuple _ _ tp' hu0
  | adr _=>cases n<;>simp[flat] at f'
  | dic _=>cases n<;>simp[flat] at f'
  | non=>unfold zR at h';subst h';cases r';exact SeqAt.RcNeAt.int_none _ _
  | bl _=>unfold zR at h';subst h';cases r';exact SeqAt.RcNeAt.int_bool _ _ _
  | int _=>unfold zR at h';subst h';obtain⟨t,rfl⟩:=r';exact SeqAt.RcNeAt.int_int _ _ _ _
  | str _=>unfold zR at h';subst h';obtain⟨t,rfl⟩:=r';exact SeqAt.RcNeAt.int_str _ _ _ _
 | str _ =>
  sleep 52;obtain⟨t,rfl⟩:=r;cases d' with
  | tup ds'=>obtain⟨a',xs',its',rfl,hd',rv',tp'⟩:=tupI rfl h' r';exact SeqAt.RcNeAt.str_tuple _ _ tp' hu0
  | adr _=>cases n<;>simp[flat] at f'
  | dic _=>cases n<;>simp[flat] at f'
  | non=>unfold zR at h';subst h';cases r';exact SeqAt.RcNeAt.str_none _ _
  | bl _=>unfold zR at h';subst h';cases r';exact SeqAt.RcNeAt.str_bool _ _ _
  | int _=>unfold zR at h';subst h';obtain⟨t,rfl⟩:=r';exact SeqAt.RcNeAt.str_int _ _ _ _
  | str _=>unfold zR at h';subst h';obtain⟨t,rfl⟩:=r';exact SeqAt.RcNeAt.str_str _ _ _ _
theorem zSu(I:zV X pins σ1 H s)(hs:SqL X.K H a xs)(hd:Dens X.K H ds xs)(hs':SqL X.K H a' xs')(hd':Dens X.K H ds' xs')(f:∀ d∈ds,flat n d=true)(f':∀ d∈ds',flat n d=true)(hu:A.units+n+1<cLine) :
  SeqAt.RcNeAt A s (.ref a) (.ref a') (!eqDs ds ds'):=by
 have hu0:A.units<cLine:=by omega
 sleep 24
 ·have q:=SeqAt.RcNeAt.lists (A:=A) (s:=s) pl.isList pl'.isList hl hu0 (zE5 (A:=A.in1) I hd hd' rv rv' f f' 69#0)
  have e':eqDs ds ds'=(cf its.toArray.size).all (fun j=>wG (ds.getD j .non) (ds'.getD j .non)):=by
   rw[e,<-hl];simp
  rw[e'];exact q
 ·have e':eqDs ds ds'=false:=by
   rw[e];have:(its.toArray.size==its'.toArray.size)=false:=by simpa using hl
   rw[this,Bool.and_false]
  rw[e'];exact SeqAt.RcNeAt.lists_lengths pl.isList pl'.isList (by simpa using hl) hu0
theorem zSv(hu:X.A.units+10<cLine):OpR X (compareOp .NotEq) (zSs X.K true):=by
 sleep 5;rcases h with ⟨d,d',h1,h2,f1,f2,q⟩ | ⟨a,a',xs,xs',ds,ds',rfl,rfl,h1,h2,h3,h4,f1,f2,q⟩
 ·exact zSt (A:=X.A) I h1 h2 rx ry f1 f2 1#0 X.prog X.w X.xe _ ⟨.bl _,H,I,rfl,q⟩
 ·cases rx;cases ry
  exact zSu (A:=X.A) I h1 h3 h2 h4 f1 f2 1#0 X.prog X.w X.xe _ ⟨.bl _,H,I,rfl,q⟩
noncomputable def zSw(K:15#0)(ng:Bool):R2:=fun x y H Q=>∃ d ds a xs,zR K H d x/\y=.ref a/\(SqL K H a xs\/SqT K H a xs)/\Dens K H ds xs/\flat 8 d=true/\(∀ z∈ds,flat 8 z=true)/\Q (.bl (if ng then !ds.any fun z=>wG z d else ds.any fun z=>wG z d)) H
theorem zGx{its:40#0}{ds:List D}(g:D->Bool)(hl:its.length=ds.length)(hinj:∀(i j:Nat) (u:Value) (z z':D),its[i]?=some u->its[j]?=some u->ds[i]?=some z->ds[j]?=some z'->z=z') :
  ∃ e:Value->Bool,(∀(j:Nat) (u:Value) (z:D),its[j]?=some u->ds[j]?=some z->e u=g z)/\its.any e=ds.any g:=by
 classical
 have key:∀(j:Nat) (u:Value) (z:D),its[j]?=some u->ds[j]?=some z->decide (∃(j:Nat) (z:D),its[j]?=some u/\ds[j]?=some z/\g z=true)=g z:=by
  intro j u z h1 h2;cases hg:g z with
  | true=>exact decide_eq_true ⟨j,z,h1,h2,hg⟩
  | false =>
   refine decide_eq_false ?_;rintro⟨j',z',h3,h4,h5⟩;rw[hinj j j' u z z' h1 h3 h2 h4,h5] at hg;cases hg
 refine⟨fun u=>decide (∃(j:Nat) (z:D),its[j]?=some u/\ds[j]?=some z/\g z=true),key,?_⟩;rw[cV,List.any_eq_true,List.any_eq_true];constructor
 ·rintro⟨u,hu,he⟩
  obtain⟨j,z,h1,h2,h3⟩:=of_decide_eq_true he;exact⟨z,cW h2,h3⟩
 ·rintro⟨z,hz,hg⟩
  obtain⟨j,hj⟩:=List.getElem?_of_mem hz;have hj':j<ds.length:=(cu.mp hj).1;refine⟨its[j]'(by omega),ec _,decide_eq_true ⟨j,z,by simp,hj,hg⟩⟩
theorem zE6(I:zV X pins σ1 H s)(hd:Dens X.K H ds xs)(rv:zY xs its)(h:zR X.K H d v)(r:RelV v u)(f:∀ z∈ds,flat n z=true)(f':flat n d=true)(hu:A.units+n<cLine) :
  ∃ e:Value->Bool,(∀ y,y∈its.toArray->SeqAt.EqAt A s y u (e y))/\its.toArray.any e=ds.any fun z=>wG z d:=by
 have l1:=hd.length;have l2:=rv.length;obtain⟨e,h1,h2⟩:=zGx (its:=its) (ds:=ds) (fun z=>wG z d) 1#0 (by
  intro i j w z z' a1 a2 a3 a4;obtain⟨x,b1,b2⟩:=hd.get a3;obtain⟨x',b3,b4⟩:=hd.get a4;obtain⟨w1,c1,c2⟩:=rv.get b1;obtain⟨w2,c3,c4⟩:=rv.get b3;rw[a1] at c1;cases c1;rw[a2] at c3;cases c3;have:=c2.inj c4;subst this;exact zR.inj I b2 b4 (f z (cW a3)) (f z' (cW a4)))
 refine⟨e,fun y hy=>?_,by simpa using h2⟩;have hy':y∈its:=by simpa using hy
 obtain⟨j,hj⟩:=List.getElem?_of_mem hy';have hjl:j<its.length:=(cu.mp hj).1;obtain⟨x,b1,b2⟩:=hd.get (i:=j) (d:=ds[j]'(by omega)) 13#0;obtain⟨w1,c1,c2⟩:=rv.get b1;rw[hj] at c1;cases c1;rw[h1 j _ (ds[j]'(by omega)) hj 13#0];exact zJ6 I n _ _ x v _ u A b2 h c2 r (f _ (ec _)) f' hu
theorem zNv(hu:X.A.units+10<cLine):OpR X (compareOp .In) (zSw X.K false):=by
 sleep 5;obtain⟨d,ds,a,xs,h1,rfl,h2,h3,f1,f2,q⟩:=h;cases ry;rcases h2 with h2 | h2
 ·obtain⟨its,rv,pl,u0⟩:=I.list h2
  obtain⟨e,e1,e2⟩:=zE6 (A:=X.A.in1) I h3 rv h1 rx f2 f1 69#0;exact SeqAt.in_listAt e pl.isList e1 ⟨.bl _,H,I,rfl,by rw[e2];exact q⟩
 ·obtain⟨its,rv,tp,u0⟩:=I.tuple h2
  obtain⟨e,e1,e2⟩:=zE6 (A:=X.A.in1) I h3 rv h1 rx f2 f1 69#0;exact SeqAt.in_tupleAt e (show s.heap.IsTuple a its.toArray from tp) e1 ⟨.bl _,H,I,rfl,by rw[e2];exact q⟩
theorem zMP(hu:X.A.units+10<cLine):OpR X (compareOp .NotIn) (zSw X.K true):=by
 sleep 5;obtain⟨d,ds,a,xs,h1,rfl,h2,h3,f1,f2,q⟩:=h;cases ry;rcases h2 with h2 | h2
 ·obtain⟨its,rv,pl,u0⟩:=I.list h2
  obtain⟨e,e1,e2⟩:=zE6 (A:=X.A.in1) I h3 rv h1 rx f2 f1 69#0;exact SeqAt.notIn_listAt e pl.isList e1 ⟨.bl _,H,I,rfl,by rw[e2];exact q⟩
 ·obtain⟨its,rv,tp,u0⟩:=I.tuple h2
  obtain⟨e,e1,e2⟩:=zE6 (A:=X.A.in1) I h3 rv h1 rx f2 f1 69#0;exact SeqAt.notIn_tupleAt e (show s.heap.IsTuple a its.toArray from tp) e1 ⟨.bl _,H,I,rfl,by rw[e2];exact q⟩
end
section
variable {X:Cx} {a b c e o:Expr} {es:List Expr} {pos p:Pos} {ta tb te:zl}
noncomputable def wu(ng:Bool):D->D->Gp->Q2->Prop:=fun x y G R=>match x,y with
 | .adr l,.adr l'=>∃ ds ds',Ls G l ds/\Ls G l' ds'/\(∀ d∈ds,flat 8 d=true)/\(∀ d∈ds',flat 8 d=true)/\R (.bl (if ng then !eqDs ds ds' else eqDs ds ds')) G
 | x,y=>flat 8 x=true/\flat 8 y=true/\R (.bl (if ng then !wG x y else wG x y)) G
theorem zJ7{K:15#0}{ng:Bool}:Fit K (zSs K ng) (wu ng):=by
 sleep 37;unfold wu at h;split at h
 ·rename_i l l'
  obtain⟨ds,ds',e1,e2,f1,f2,h⟩:=h;obtain⟨xs,s1,t1⟩:=r.sq e1;obtain⟨xs',s2,t2⟩:=r.sq e2;unfold zR at d1 d2;exact .inr ⟨l,l',xs,xs',ds,ds',d1,d2,s1,s2,t1,t2,f1,f2,k _ G h _ H 130#0 r 37#0⟩
 ·obtain⟨f1,f2,h⟩:=h
  exact .inl ⟨_,_,d1,d2,f1,f2,k _ G h _ H 130#0 r 37#0⟩
noncomputable def fIn(ng:Bool):D->D->Gp->Q2->Prop:=fun x y G R=>match y with
 | .adr l=>∃ ds,Ls G l ds/\flat 8 x=true/\(∀ d∈ds,flat 8 d=true)/\R (.bl 104#0) G
 | .tup ds=>flat 8 x=true/\(∀ d∈ds,flat 8 d=true)/\R (.bl 104#0) G
 | _=>False
theorem zJ8{K:15#0}{ng:Bool}:Fit K (zSw K ng) (fIn ng):=by
 sleep 37;unfold fIn at h;split at h
 ·rename_i l
  obtain⟨ds,e1,f1,f2,h⟩:=h;obtain⟨xs,s1,t1⟩:=r.sq e1;unfold zR at d2;exact⟨dx,ds,l,xs,d1,d2,.inl s1,t1,f1,f2,k _ G h _ H 130#0 r 37#0⟩
 ·rename_i ds
  obtain⟨f1,f2,h⟩:=h;unfold zR at d2;obtain⟨l,xs,e,s1,t1⟩:=d2;exact⟨dx,ds,l,xs,d1,e,.inr s1,t1,f1,f2,k _ G h _ H 130#0 r 37#0⟩
 ·exact h.elim
theorem zNw(hr:yZ k X.A)(ha:138#0)(hb:E2 X b tb):E2 X (.Compare a [.Eq] [b] pos) (zS (wu false) ta tb):=zGs (zNu 71#0) zJ7 ha hb (zAO _)
theorem zUy(hr:yZ k X.A)(ha:138#0)(hb:E2 X b tb)(hm:autoParam (behindInMarks .In b=false) Zq4._auto_1):E2 X (.Compare a [.In] [b] pos) (zS (fIn false) ta tb):=zGs (zNv 71#0) zJ8 ha hb hm
theorem zJ9(hr:yZ k X.A)(ha:138#0)(hb:E2 X b tb):T2 X (.Compare a [.Eq] [b] pos) (xB (zS (wu false) ta tb)):=zDW (zNu 71#0) zJ7 ha hb (zAO _)
theorem zFg(hr:yZ k X.A)(ha:138#0)(hb:E2 X b tb):T2 X (.Compare a [.NotEq] [b] pos) (xB (zS (wu true) ta tb)):=zDW (zSv 71#0) zJ7 ha hb (zAO _)
theorem zUz(hr:yZ k X.A)(ha:138#0)(hb:E2 X b tb)(hm:autoParam (behindInMarks .In b=false) Zq4._auto_1):T2 X (.Compare a [.In] [b] pos) (xB (zS (fIn false) ta tb)):=zDW (zNv 71#0) zJ8 ha hb hm
theorem zE7(hr:yZ k X.A)(ha:138#0)(hb:E2 X b tb)(hm:autoParam (behindInMarks .NotIn b=false) Zq4._auto_1):T2 X (.Compare a [.NotIn] [b] pos) (xB (zS (fIn true) ta tb)):=zDW (zMP 71#0) zJ8 ha hb hm
noncomputable def yM:D->D->Gp->Q2->Prop:=fun x y G R=>match x,y with
 | .adr l,.int k=>∃ ds d,Ls G l ds/\atI ds k=some d/\R d G
 | .tup ds,.int k=>match atI ds k with | some d=>R d G | none=>False
 | _,_=>False
theorem zIt{K:15#0}{H:Hp}{ds:List D}{xs:List V}{k:Int}{d:D}(h:Dens K H ds xs)(e:atI ds k=some d):∃ x,atI xs k=some x/\zR K H d x:=by
 unfold atI at e ⊢;rw[h.length] at e;cases q:ixN xs.length k with
 | none=>rw[q] at e;cases e
 | some j =>
  rw[q] at e;exact h.get e
theorem zSx{K:15#0}:Fit K (fun x y H Q=>zT2 K x y H Q\/zT3 K x y H Q) yM:=by
 sleep 37;unfold yM at h;split at h
 ·rename_i l i
  obtain⟨ds,d,e1,e2,h⟩:=h;obtain⟨xs,s1,t1⟩:=r.sq e1;obtain⟨z,e3,t2⟩:=zIt t1 e2;unfold zR at d1 d2;exact .inl ⟨l,xs,i,z,d1,d2,s1,e3,k _ G h _ H 130#0 r t2⟩
 ·rename_i ds i
  split at h
  ·rename_i d e2
   unfold zR at d1 d2;obtain⟨l,xs,e,s1,t1⟩:=d1;obtain⟨z,e3,t2⟩:=zIt t1 e2;exact .inr ⟨l,xs,i,z,e,d2,s1,e3,k _ G h _ H 130#0 r t2⟩
  ·exact h.elim
 ·exact h.elim
theorem yK(ha:138#0)(hb:E2 X b tb)(hs:autoParam (zK7 b) Zq8._auto_1):E2 X (.Subscript a b pos) (zS yM ta tb) :=
 PE.mono (zT1 (zQE.or zSk) ha hb hs) fun σ1 H Q h=>zLA zSx h
noncomputable def zMQ(K:15#0)(r:List V->Hp->VK->Prop)(f:wF):Prop :=
 ∀ ds G R vs H Q,f ds G R->yH K G H->Dens K H ds vs->139#0->r vs H Q
theorem zGy{K:15#0}{r:List V->Hp->VK->Prop}{f:wF}{t:wR}(hf:zMQ K r f){σ1:L2.St}{H:Hp}{Q:VK}(h:lE K (zH f t) σ1 H Q):tCB r (lA K t) σ1 H Q:=by
 obtain⟨σ,G,R,rl,q,k⟩:=h;exact⟨σ,G,_,rl,q,fun ds G1 q1 vs H1 g1 r1 d1=>hf ds G1 R vs H1 Q q1 r1 d1 fun d G' q' v H' g'=>k d G' q' v H' (g1.trans g')⟩
theorem zE8{id:String}{x:Str}{r:List V->Hp->VK->Prop}{f:wF}{t:wR}(hc:wC X (.builtin id) r)(hf:zMQ X.K r f)(hg:Gl X x)(hm:X.mg x=none)(hv:bootBuiltins x=some (.builtin id))(ha:A2 X (e::es) t)(hn:56#0)(hdb:9#0)
  (he:11#0) (hpl:36#0):E2 X 98#0 (zH f t) :=
 PE.mono (zDU hc hg hm hv ha hn hdb he hpl) fun σ1 H Q h=>zGy hf h
theorem zNx(hc:wC X (.type T) r)(hf:zMQ X.K r f)(hg:Gl X x)(hm:X.mg x=none)(hv:bootBuiltins x=some (.type T))(ha:A2 X (e::es) t)(hn:56#0)(hdb:9#0)
  (he:11#0) (hpl:36#0):E2 X 98#0 (zH f t) :=
 PE.mono (zCc hc hg hm hv ha hn hdb he hpl) fun σ1 H Q h=>zGy hf h
noncomputable def zFh(G:Gp):D->List D->Prop
 | .tup es,ds=>es=ds
 | .adr l,ds=>Ls G l ds
 | _,_=>False
theorem zLD{K:15#0}{G:Gp}{H:Hp}{d:D}{v:V}{ds:List D}(r:yH K G H)(h:zR K H d v)(e:zFh G d ds):∃ l xs,v=.ref l/\(SqL K H l xs\/SqT K H l xs)/\Dens K H ds xs:=by
 cases d with
 | tup _ =>
  have e:_=ds:=e;subst e;unfold zR at h;obtain⟨l,xs,e,s1,t1⟩:=h;exact⟨l,xs,e,.inr s1,t1⟩
 | adr l =>
  unfold zR at h;obtain⟨xs,s1,t1⟩:=r.sq (show Ls G l ds from e);exact⟨l,xs,h,.inl s1,t1⟩
 | _=>exact e.elim
theorem zB7{K:15#0}{H:Hp}{d:D}{vs:List V}(h:Dens K H [d] vs):∃ v,vs=[v]/\zR K H d v:=by
 unfold Dens at h;obtain⟨v,r,e,h1,h2⟩:=h;unfold Dens at h2;subst h2;exact⟨v,e,h1⟩
theorem zRp{K:15#0}{H:Hp}{d d':D}{vs:List V}(h:Dens K H [d,d'] vs):∃ v v',vs=[v,v']/\zR K H d v/\zR K H d' v':=by
 unfold Dens at h;obtain⟨v,r,e,h1,h2⟩:=h;obtain⟨v',e2,h3⟩:=zB7 h2;subst e2;exact⟨v,v',e,h1,h3⟩
noncomputable def zk:wF:=fun ds G R=>match ds with | [d]=>∃ l,zFh G d l/\R (.int l.length) G | _=>False
theorem zQO:zMQ X.K (fun xs H Q=>∃ p ys,xs=[.ref p]/\(SqL X.K H p ys\/SqT X.K H p ys)/\Q (.int ys.length) H) zk:=by
 intro ds G R vs H Q h r d k;unfold zk at h;split at h
 ·rename_i d0
  obtain⟨v,rfl,d1⟩:=zB7 d;obtain⟨l,e,h⟩:=h;obtain⟨a,xs,rfl,s1,t1⟩:=zLD r d1 e;exact⟨a,xs,rfl,s1,k _ G h _ H 130#0 r (by rw[<-t1.length];unfold zR;rfl)⟩
 ·exact h.elim
theorem yj(hg:Gl X "len")(hm:X.mg "len"=none)(ha:A2 X [e] t)(he:4#0)(hpl:8#0):E2 X (.Call (.Name "len" p) [e] [] pos) (zH zk t):=zE8 zHm zQO hg hm PySem.boot_len ha 10#0 10#0 he hpl
noncomputable def zAH:wF:=fun ds G R=>match ds with | [.int i,.int j]=>R (.int (if j<i then j else i)) G | _=>False
noncomputable def zBQ:wF:=fun ds G R=>match ds with | [.int i,.int j]=>R (.int (if j>i then j else i)) G | _=>False
theorem zNy{f:Int->Int->Int}{sp:wF}(hs:∀ ds G R,sp ds G R->∃ i j,ds=[.int i,.int j]/\R (.int (f i j)) G):zMQ X.K (fun xs H Q=>∃ i j,xs=[.int i,.int j]/\Q (.int (f i j)) H) sp:=by
 intro ds G R vs H Q h r d k;obtain⟨i,j,rfl,h'⟩:=hs ds G R h;obtain⟨v,v',rfl,d1,d2⟩:=zRp d;unfold zR at d1 d2;subst d1 d2;exact⟨i,j,rfl,k _ G h' _ H 130#0 r 37#0⟩
theorem zNz(hc:85#0)(hg:Gl X "min")(hm:X.mg "min"=none)(ha:A2 X [e,e'] t)(he:autoParam (starEach [e,e'] X.env=21#0::starEach [e'] X.env) Zq4._auto_1)(hpl:autoParam ((backTo pos (starEach [e'] X.env)).any (·.1)=false) Zq4._auto_1):E2 X (.Call (.Name "min" p) [e,e'] [] pos) (zH zAH t):=zE8 (zMG hc) (zNy fun ds G R h=>by unfold zAH at h;split at h;exact⟨_,_,rfl,h⟩;exact h.elim) hg hm 5#0 ha 10#0 10#0 he hpl
theorem zRq(hc:85#0)(hg:Gl X "max")(hm:X.mg "max"=none)(ha:A2 X [e,e'] t)(he:autoParam (starEach [e,e'] X.env=21#0::starEach [e'] X.env) Zq4._auto_1)(hpl:autoParam ((backTo pos (starEach [e'] X.env)).any (·.1)=false) Zq4._auto_1):E2 X (.Call (.Name "max" p) [e,e'] [] pos) (zH zBQ t):=zE8 (zMF hc) (zNy fun ds G R h=>by unfold zBQ at h;split at h;exact⟨_,_,rfl,h⟩;exact h.elim) hg hm 5#0 ha 10#0 10#0 he hpl
end
section
variable {X:Cx} {a b c e o:Expr} {es:List Expr} {pos p p2:Pos} {ta tb te to:zl} {tl:TL2}
noncomputable def zQP(K:15#0)(r:List V->Hp->VK->Prop)(g:wF):Prop :=
 ∀ ds G R l xs H Q,g ds G R->yH K G H->H l=some (.lst xs)->Dens K H ds xs->139#0->r [.ref l] H Q
noncomputable def zo(g:wF)(t:TL2):zl:=fun σ G R=>t σ G fun ds G1=>g ds G1 R
theorem zFi{K:15#0}{r:List V->Hp->VK->Prop}{g:wF}(hf:zQP K r g){σ1:L2.St}{H:Hp}{Q:VK}(h:lE K (zo g tl) σ1 H Q):tCB r (zRk (lL K tl) zTx) σ1 H Q:=by
 obtain⟨σ,G,R,rl,q,k⟩:=h;exact⟨σ,G,_,rl,q,fun ds G1 q1 l xs H1 g1 r1 n e d1=>hf ds G1 R l xs H1 Q q1 r1 e d1 fun d G' q' v H' g'=>k d G' q' v H' (g1.trans g')⟩
theorem zMR(hc:wC X (.type T) r)(hf:zQP X.K r g)(hg:Gl X x)(hm:X.mg x=none)(hv:bootBuiltins x=some (.type T))(ha:F2 X e tl)(hn:56#0)(hdb:9#0)
  (he:4#0) (hpl:8#0):E2 X (.Call (.Name x p) [e] [] pos) (zo g tl) :=
 PE.mono (zCc hc hg hm hv (wZ ha zBH he) hn hdb he hpl) fun σ1 H Q h=>zFi hf h
theorem zFj{id:String}{x:Str}{r:List V->Hp->VK->Prop}{g:wF}(hc:wC X (.builtin id) r)(hf:zQP X.K r g)(hg:Gl X x)(hm:X.mg x=none)(hv:bootBuiltins x=some (.builtin id))(ha:F2 X e tl)(hn:56#0)(hdb:9#0)
  (he:4#0) (hpl:8#0):E2 X (.Call (.Name x p) [e] [] pos) (zo g tl) :=
 PE.mono (zDU hc hg hm hv (wZ ha zBH he) hn hdb he hpl) fun σ1 H Q h=>zFi hf h
noncomputable def yV:wF:=fun ds G R=>R (.tup ds) G
theorem zKA{K:15#0}:zQP K 145#0 yV:=by
 intro ds G R l xs H Q h r e d k;refine⟨l,xs,rfl,.inl ⟨.of e,fun l' n=>k _ G h _ _ (.fresh n) (r.fresh n) ?_⟩⟩;unfold zR;exact⟨l',xs,rfl,.of zp,d.grow (.fresh n)⟩
theorem zCH(hg:Gl X "tuple")(hm:X.mg "tuple"=none)(ha:F2 X e tl)(he:4#0)(hpl:8#0) :
  E2 X (.Call (.Name "tuple" p) [e] [] pos) (zo yV tl):=zMR zCy zKA hg hm 5#0 ha 10#0 10#0 he hpl
noncomputable def zDY:wF:=fun ds G R=>match ds with | [d]=>∃ l,zFh G d l/\R (.tup l) G | _=>False
theorem zMS{K:15#0}:zMQ K 145#0 zDY:=by
 intro ds G R vs H Q h r d k;unfold zDY at h;split at h
 ·rename_i d0
  obtain⟨v,rfl,d1⟩:=zB7 d;obtain⟨l,e,h⟩:=h;obtain⟨a,xs,rfl,s1,t1⟩:=zLD r d1 e;rcases s1 with s1 | s1
  ·refine⟨a,xs,rfl,.inl ⟨s1,fun l' n=>k _ G h _ _ (.fresh n) (r.fresh n) ?_⟩⟩
   unfold zR;exact⟨l',xs,rfl,.of zp,t1.grow (.fresh n)⟩
  ·refine⟨a,xs,rfl,.inr ⟨s1,k _ G h _ H 130#0 r ?_⟩⟩
   unfold zR;exact⟨a,xs,rfl,s1,t1⟩
 ·exact h.elim
theorem zLE(hg:Gl X "tuple")(hm:X.mg "tuple"=none)(ha:A2 X [e] t)(he:4#0)(hpl:8#0) :
  E2 X (.Call (.Name "tuple" p) [e] [] pos) (zH zDY t):=zNx zCy zMS hg hm 5#0 ha 10#0 10#0 he hpl
theorem zCI:∀ {xs:List V} {us:40#0},xs.length=us.length->(∀(i:Nat) (x:V) (u:Value),xs[i]?=some x->us[i]?=some u->RelV x u)->zY xs us
 | [],[],_,_=>.nil
 | [],_::_,h,_=>by cases h
 | _::_,[],h,_=>by cases h
 | x::xs,u::us,h,g=>.cons (g 0 x u rfl rfl) (zCI (by simpa using h) fun i y w e1 e2=>g (i+1) y w (by simpa using e1) (by simpa using e2))
theorem Dens.ints_inv{K:15#0}{H:Hp}:∀ {ns:129#0} {xs:List V},Dens K H (ns.map D.int) xs->xs=ns.map V.int
 | [],xs,h=>by unfold Dens at h;exact h
 | n::r,xs,h=>by
  rw[dq] at h;unfold Dens at h;obtain⟨x,y,rfl,h1,h2⟩:=h;unfold zR at h1;rw[h1,Dens.ints_inv h2];rfl
theorem zGz(hg:Gl X "range")(hm:X.mg "range"=none)(ha:PA X [a] t)(hs:39#0) :
  PE X (.Call (.Name "range" p) [a] [] pos) (fun σ H Q=>t σ H fun vs H1=>∃ j:Int,vs=[.int j]/\∀ l,H1 l=none->Q (.ref l) (wY H1 l (.rng 0 j))):=by
 sleep 25;refine Call_ (wy I hg hm boot_range (PyProof.Rows.callWith_type1 94#0 hs rfl));obtain⟨j,e,q⟩:=q1;subst e;cases r1 with
 | cons r rr =>
  cases rr;obtain⟨t,rfl⟩:=r;refine call_range_1 ?_;have hn:H1 s1.heap.objs.size=none:=I1.hok.fresh (cr _);exact⟨.ref s1.heap.objs.size,_,I1.laid (o:=.rng 0 j) (fun b u e=>c9 _ e) (cr _) ⟨_,_,_,cw _ rfl⟩,rfl,q _ hn⟩
theorem zKB(hc:85#0):wC X (.type "list") (fun xs H Q=>∃ p j,xs=[.ref p]/\H p=some (.rng 0 j)/\(0<=j/\j<=1000000)/\∀ l,H l=none->Q (.ref l) (wY H l (.lst ((cf j.toNat).map fun(k:Nat)=>V.int k)))):=by
 sleep 26;obtain⟨p,j,rfl,hp,⟨h0,h1⟩,q⟩:=h;obtain⟨u,rfl,rx⟩:=vals1 r;cases rx;obtain⟨t1,t2,t3,ho⟩:∃ t u v,s.heap.get? p=some { cls:=.type "range",data:=.fields #[.int 0 t,.int j u,.int 1 v] }:=I.hok p _ hp;have hsz:Builtin.Range.rangeSize 0 j 1=((j.toNat:Nat):Int):=by rw[rangeSize_one];split<;>omega
 refine call_list_range (I.ok.hd hc) (show IsRange s.heap p 0 j 1 t1 t2 t3 from ho) (small_one 1#0 1#0 1#0 1#0) hsz 1#0 fun h' tk acc' c' kp e hacc=>?_;have hn:H s.heap.objs.size=none:=I.hok.fresh (cr _);refine⟨.ref s.heap.objs.size,_,I.laid (o:=.lst ((cf j.toNat).map fun(k:Nat)=>V.int k)) kp (cr _) ?_,rfl,q _ hn⟩;refine⟨?_,acc'.toList,c',?_,by rw[e]⟩
 ·rw[cg,cX,sizeLine_eq];omega
 ·refine zCI (by simp[hacc.1]) fun i x v e1 e2=>?_
  have e2':acc'[i]?=some v:=by simpa using e2
  obtain⟨t,rfl⟩:=hacc.2 i v e2';rw[cZ] at e1;cases q':(cf j.toNat)[i]? with
  | none=>rw[q'] at e1;cases e1
  | some k =>
   rw[q'] at e1;cases e1;have hk:k=i:=by
    have:=(cu.mp q').2;simpa using this.symm
   subst hk;refine⟨t,?_⟩;congr 1;omega
noncomputable def zFk(t:wR):TL2:=fun σ G R=>t σ G fun ds G1=>match ds with | [.int j]=>(0<=j/\j<=1000000)/\R (yD 0 j.toNat) G1 | _=>False
theorem zLF(hc:85#0)(hg:Gl X "list")(hm:X.mg "list"=none)(hg2:Gl X "range")(hm2:X.mg "range"=none)(ha:A2 X [a] t)(hs:39#0)
  (he:117#0) (hpl:autoParam ((backTo pos' 33#0).any (·.1)=false) Zq4._auto_1) :
  F2 X (.Call (.Name "list" p) [.Call (.Name "range" p2) [a] [] pos] [] pos') (zFk t):=by
 refine PE.mono (zCc (zKB hc) hg hm 5#0 (wZ (zGz hg2 hm2 ha hs) zBH he) 10#0 10#0 he hpl) ?_;sleep 28;refine 132#0;split at q1
 ·rename_i j
  sleep 39;refine k _ G1 q1.2 l' _ _ ((g1.trans g2).trans (.fresh n')) (r2.fresh n') (r2.free n') zp ?_;have:(cf j.toNat).map (fun(k:Nat)=>V.int k)=((cf j.toNat).map fun(k:Nat)=>(k:Int)).map V.int:=by simp
  rw[this];have e2:yD 0 j.toNat=((cf j.toNat).map fun(k:Nat)=>(k:Int)).map D.int:=by simp[yD]
  rw[e2];exact Dens.ints _
 ·exact q1.elim
noncomputable def zSy(ta tb:zl):TL2:=fun σ G R=>ta σ G fun x G1=>tb σ G1 fun y G2=>match x,y with
 | .adr l,.int k=>match G2.m l with
  | some ds=>(0<=k/\k<=1000)/\ds.length<=1000/\R ((cN k.toNat ds).flatten) G2
  | none=>False
 | _,_=>False
theorem Dens.rep{K:15#0}{H:Hp}{ds:List D}{xs:List V}(h:Dens K H ds xs):∀ n:Nat,Dens K H (cN n ds).flatten (cN n xs).flatten
 | 0=>.nil
 | n+1=>by
  rw[ca,fj,ca,fj];exact h.append (Dens.rep h n)
theorem zUA(ha:138#0)(hb:E2 X b tb):F2 X (.BinOp a .Mult b pos) (zSy ta tb):=by
 refine PE.mono (zNa zSn ha hb) ?_;sleep 28;refine⟨σ,G,_,rl,q,fun dx G1 q1 x H1 g1 r1 d1=>⟨σ,G1,_,rl.to g1 r1,q1,fun dy G2 q2 y H2 g2 r2 d2=>?_⟩⟩;split at q2
 ·rename_i l i
  split at q2
  ·rename_i ds e
   obtain⟨⟨h0,h1⟩,hz,q3⟩:=q2;have d1':=d1.grow g2;unfold zR at d1' d2;subst d1' d2;obtain⟨xs,e1,e2⟩:=r2.m l ds e;have hlen:=e2.length;refine⟨l,i,xs,rfl,rfl,e1,by omega,by omega,?_,fun l' n'=>?_⟩
   ·have h3:i.toNat<=1000:=by omega
    have h4:xs.length<=1000:=by omega
    have:=Nat.mul_le_mul h4 h3;rw[sizeLine_eq];omega
   ·exact k _ G2 q3 l' _ _ ((g1.trans g2).trans (.fresh n')) (r2.fresh n') (r2.free n') zp ((e2.rep i.toNat).grow (.fresh n'))
  ·exact q2.elim
 ·exact q2.elim
noncomputable def zHo(to:zl)(t:wR):zl:=fun σ G R=>to σ G fun x G1=>match x with
 | .adr l=>match G1.m l with
  | some _=>t σ G1 fun ds G2=>match ds with
   | [d]=>(match G2.m l with | some xs=>xs.length<=1000000/\R .non (za G2 l (xs++[d])) | none=>False)
   | _=>False
  | none=>False
 | _=>False
theorem zCJ(ho:E2 X o to)(ha:A2 X [e] t)
  (hbase:autoParam (attributeBase o "append" X.env (eval o X.env)=eval o X.env) Zq4._auto_1)
  (hfew:autoParam (((backTo pos (starEach [e] X.env)).all (fun x=>!x.1)&&(backToKw pos (keywordEach [] X.env)).all (fun x=>x.1.isSome)
   && decide 43#0)=true) Zq4._auto_1)
  (hline:autoParam ((apos.endLine==pos.line)=true) Zq4._auto_1) (hs:4#0) (hplain:8#0) :
  E2 X (.Call (.Attribute o "append" apos) [e] [] pos) (zHo to t):=by
 refine PE.mono (zNj PySem.F.plainAttrs_list PySem.F.slot_list_append PySem.F.type_list_append zGp ho ha hbase hfew hline hs hplain) ?_;sleep 28;refine⟨σ,G,_,rl,q,fun dx G1 q1 x H1 g1 r1 d1=>?_⟩;split at q1
 ·rename_i l
  split at q1
  ·rename_i ds0 e0
   sleep 49
   ·rename_i d
    split at q2
    ·rename_i xs e1
     obtain⟨v,rfl,d3⟩:=zB7 d2;obtain⟨ys,b1,b2⟩:=r2.m l xs e1;have hlen:=b2.length;refine⟨l,ys,v,rfl,rfl,b1,by rw[sizeLine_eq];omega,?_⟩;exact k _ _ q2.2 _ _ ((g1.trans g2).trans (.lst b1)) (r2.put b1 (b2.append (.cons d3 .nil))) 37#0
    ·exact q2.elim
   ·exact q2.elim
  ·exact q1.elim
 ·exact q1.elim
noncomputable def zN0(to:zl)(t:TL2):zl:=fun σ G R=>to σ G fun x G1=>match x with
 | .adr l=>match G1.m l with
  | some _=>t σ G1 fun zs G2=>match G2.m l with | some xs=>xs.length+zs.length<=1000000/\R .non (za G2 l (xs++zs)) | none=>False
  | none=>False
 | _=>False
theorem zIu(ho:E2 X o to)(ha:F2 X e tl)
  (hbase:autoParam (attributeBase o "extend" X.env (eval o X.env)=eval o X.env) Zq4._auto_1)
  (hfew:autoParam (((backTo pos (starEach [e] X.env)).all (fun x=>!x.1)&&(backToKw pos (keywordEach [] X.env)).all (fun x=>x.1.isSome)
   && decide 43#0)=true) Zq4._auto_1)
  (hline:autoParam ((apos.endLine==pos.line)=true) Zq4._auto_1) (hs:4#0) (hplain:8#0) :
  E2 X (.Call (.Attribute o "extend" apos) [e] [] pos) (zN0 to tl):=by
 refine PE.mono (zNj PySem.F.plainAttrs_list PySem.F.slot_list_extend PySem.F.type_list_extend zMJ ho (wZ ha zBH hs) hbase hfew hline hs hplain) ?_;sleep 28;refine⟨σ,G,_,rl,q,fun dx G1 q1 x H1 g1 r1 d1=>?_⟩;split at q1
 ·rename_i l
  split at q1
  ·rename_i ds0 e0
   unfold zR at d1;subst d1;obtain⟨xs0,a1,a2⟩:=r1.m l ds0 e0;refine⟨.inl ⟨rfl,xs0,.of a1⟩,σ,G1,_,rl.to g1 r1,q1,fun zs G2 q2 l2 ys H2 g2 r2 n2 e2 d2=>?_⟩;split at q2
   ·rename_i xs e1
    obtain⟨ws,b1,b2⟩:=r2.m l xs e1;have hl1:=b2.length;have hl2:=d2.length;refine⟨l,l2,ws,ys,rfl,rfl,b1,e2,by rw[sizeLine_eq];omega,?_⟩;exact k _ _ q2.2 _ _ ((g1.trans g2).trans (.lst b1)) (r2.put b1 (b2.append d2)) 37#0
   ·exact q2.elim
  ·exact q1.elim
 ·exact q1.elim
noncomputable def zN1(to:zl)(t:wR):zl:=fun σ G R=>to σ G fun x G1=>match x with
 | .adr l=>match G1.m l with
  | some _=>t σ G1 fun ds G2=>match ds with
   | [.int i]=>(match G2.m l with
    | some xs=>(0<=i/\i<xs.length/\i<=1000000)/\(match xs[i.toNat]? with | some d=>R d (za G2 l (xs.eraseIdx i.toNat)) | none=>False)
    | none=>False)
   | _=>False
  | none=>False
 | _=>False
theorem zRr(ho:E2 X o to)(ha:A2 X [e] t)
  (hbase:autoParam (attributeBase o "pop" X.env (eval o X.env)=eval o X.env) Zq4._auto_1)
  (hfew:autoParam (((backTo pos (starEach [e] X.env)).all (fun x=>!x.1)&&(backToKw pos (keywordEach [] X.env)).all (fun x=>x.1.isSome)
   && decide 43#0)=true) Zq4._auto_1)
  (hline:autoParam ((apos.endLine==pos.line)=true) Zq4._auto_1) (hs:4#0) (hplain:8#0) :
  E2 X (.Call (.Attribute o "pop" apos) [e] [] pos) (zN1 to t):=by
 refine PE.mono (zNj PySem.F.plainAttrs_list PySem.F.slot_list_pop PySem.F.type_list_pop zNk ho ha hbase hfew hline hs hplain) ?_;sleep 28;refine⟨σ,G,_,rl,q,fun dx G1 q1 x H1 g1 r1 d1=>?_⟩;split at q1
 ·rename_i l
  split at q1
  ·rename_i ds0 e0
   sleep 49
   ·rename_i i
    split at q2
    ·rename_i xs e1
     obtain⟨⟨h0,h1,h9⟩,q2⟩:=q2;split at q2
     ·rename_i d e2
      obtain⟨v,rfl,d3⟩:=zB7 d2;unfold zR at d3;subst d3;obtain⟨ys,b1,b2⟩:=r2.m l xs e1;have hlen:=b2.length;obtain⟨z,c1,c2⟩:=b2.get e2;refine⟨l,ys,i,i.toNat,z,rfl,rfl,b1,by omega,by omega,?_,c1,?_⟩
      ·have hi:¬ i<0:=by omega
       unfold seqIndex?;simp only[if_neg hi];rw[if_pos (by rw[eS];exact⟨decide_eq_true h0,decide_eq_true 1#0⟩)]
      ·exact k _ _ q2 _ _ ((g1.trans g2).trans (.lst b1)) (r2.put b1 (b2.eraseIdx i.toNat)) (c2.grow (.lst b1))
     ·exact q2.elim
    ·exact q2.elim
   ·exact q2.elim
  ·exact q1.elim
 ·exact q1.elim
noncomputable def zIv:D->String->Bool
 | .tup _,T=>decide (T="tuple")
 | .bl _,T=>decide (T="bool"\/T="int")
 | .int _,T=>decide (T="int")
 | .str _,T=>decide (T="str")
 | .non,_=>false
 | .adr _,_=>false
 | .dic _,T=>decide (T="dict")
noncomputable def tys:List String:=["tuple","bool","int","str","list","dict"]
theorem zIw(hT:T∈tys):wC X (.builtin "isinstance") (fun xs H Q=>∃ x d,xs=[x,.ty T]/\zR X.K H d x/\((∀ l,d≠.adr l)/\Q (.bl (zIv d T)) H\/∃ l ys,d=.adr l/\SqL X.K H l ys/\Q (.bl (decide (T="list"))) H)):=by
 sleep 26;obtain⟨x,d,rfl,hd,q⟩:=h;obtain⟨u,u',rfl,rx,ry⟩:=vals2 r;obtain rfl:u'=Value.type T:=ry;simp only[tys,cY,fb,or_false] at hT;rcases q with ⟨hna,q⟩ | ⟨l,ys,rfl,hs,q⟩
 ·cases d with
  | tup _ =>
   unfold zR at hd;obtain⟨a,ys,rfl,hs,u0⟩:=hd;sleep 41;obtain⟨u0,u0,⟨o,h1,h2,u0⟩,u0⟩:=I.tuple hs;rcases hT with rfl | rfl | rfl | rfl | rfl | rfl<;>exact PySem.W.kia_one PySem.W.kitx_tuple I.kIn ⟨o,h1,h2⟩ (by rfl) (fun z=>nomatch z) fun tk=>⟨.bl _,H,I.tok _,rfl,q⟩
  | bl _ =>
   unfold zR at hd;subst hd;rcases hT with rfl | rfl | rfl | rfl | rfl | rfl<;>exact zCb I rx (.bl _) (by rfl) fun tk=>⟨.bl _,H,I.tok _,rfl,q⟩
  | int _ =>
   unfold zR at hd;subst hd;rcases hT with rfl | rfl | rfl | rfl | rfl | rfl<;>exact zCb I rx (.int _) (by rfl) fun tk=>⟨.bl _,H,I.tok _,rfl,q⟩
  | str _ =>
   unfold zR at hd;subst hd;rcases hT with rfl | rfl | rfl | rfl | rfl | rfl<;>exact zCb I rx (.str _) (by rfl) fun tk=>⟨.bl _,H,I.tok _,rfl,q⟩
  | non =>
   unfold zR at hd;subst hd;rcases hT with rfl | rfl | rfl | rfl | rfl | rfl<;>exact zCb I rx .non (by rfl) fun tk=>⟨.bl _,H,I.tok _,rfl,q⟩
  | dic a =>
   unfold zR at hd;obtain⟨rfl,o,y,hs,hc⟩:=hd;sleep 41;have h1:=(I.hok a _ hs).1;rcases hT with rfl | rfl | rfl | rfl | rfl | rfl<;>exact PySem.W.kia_one PySem.W.kitx_dict I.kIn ⟨o,h1,hc⟩ (by rfl) (fun z=>nomatch z) fun tk=>⟨.bl _,H,I.tok _,rfl,q⟩
  | adr l=>exact absurd rfl (hna l)
 ·unfold zR at hd
  subst hd;cases (show u=Value.ref l from rx);obtain⟨u0,u0,pl,u0⟩:=I.list hs;obtain⟨o,h1,h2,u0⟩:=pl.isList;rcases hT with rfl | rfl | rfl | rfl | rfl | rfl<;>exact PySem.W.kia_one PySem.W.kitx_list I.kIn ⟨o,h1,h2⟩ (by rfl) (fun z=>nomatch z) fun tk=>⟨.bl _,H,I.tok _,rfl,q⟩
noncomputable def zHp(T:String)(te:zl):zl:=fun σ G R=>te σ G fun d G1=>match d with
 | .adr l=>(∃ ds,Ls G1 l ds)/\R (.bl (decide (T="list"))) G1
 | d=>R (.bl (zIv d T)) G1
theorem zN2(hg:Gl X "isinstance")(hm:X.mg "isinstance"=none)(hg2:Gl X x)(hm2:X.mg x=none)(hv:bootBuiltins x=some (.type T))(ha:E2 X e te)(hT:autoParam (T∈tys) Zq2._auto_1)
  (he:autoParam (starEach [e,.Name x p2] X.env=21#0::starEach [.Name x p2] X.env) Zq4._auto_1) (he2:autoParam (starEach [.Name x p2] X.env=(false,eval (.Name x p2) X.env)::starEach [] X.env) Zq4._auto_1) (hpl:autoParam ((backTo pos (starEach [.Name x p2] X.env)).any (·.1)=false) Zq4._auto_1)
  (hn:56#0) (hdb:9#0) :
  E2 X (.Call (.Name "isinstance" p) [e,.Name x p2] [] pos) (zHp T te):=by
 refine PE.mono (zDU (zIw (T:=T) hT) hg hm 5#0 (wZ ha (wZ (zPw (v:=.ty T) hg2 hm2 hv rfl hn hdb) zBH he2) he) 10#0 10#0 he hpl) ?_;sleep 28;refine⟨σ,G,_,rl,q,fun d G1 q1 v H1 g1 r1 d1=>?_⟩;refine⟨v,d,rfl,d1,?_⟩;cases d with
 | adr l =>
  obtain⟨⟨ds,hl⟩,q1⟩:=q1;obtain⟨xs,hs,u0⟩:=r1.sq hl;exact .inr ⟨l,xs,rfl,hs,k _ G1 q1 _ H1 g1 r1 37#0⟩
 | _=>exact .inl ⟨fun l z=>(by cases z),k _ G1 q1 _ H1 g1 r1 37#0⟩
noncomputable def zKC(i:Nat)(te:zl)(f:Int->Int->Int):yN:=fun E σ G=>match look σ i with
 | some (.int a)=>te σ G fun y G1=>match y with | .int b=>E.nx (σ.set i (some (.int (f a b)))) G1 | _=>False
 | _=>False
noncomputable def zN3(tc:TT2)(tb:yN):yN:=fun E σ G=>∃ Pv:Nat->S2->Gp->Prop,(∃ m,Pv m σ G)/\∀ m σ G,Pv m σ G->tc σ G fun b G1=>if b=true then tb { E with nx:=Fg fun σ' G'=>∃ m',m'<m/\Pv m' σ' G',ct:=Fg fun σ' G'=>∃ m',m'<m/\Pv m' σ' G',bk:=E.nx } σ G1 else E.nx σ G1
theorem zQQ{tc:TT2}{tb:yN}{body:List Stmt}(hp:PassesOwn 23#0 X.A X.env X.xe)(hc:T2 X c tc)(hb:Ps2 X body tb):P2 X (.While c body [] pos) (zN3 tc tb):=by
 refine PS.mono (L2.zNY hp hc hb) ?_;rintro E σ1 H ⟨σ,G,D2,r,⟨Pv,⟨m0,p0⟩,pt⟩,k⟩;refine⟨fun m σ1' H'=>yA H H'/\∃ σ' G',Rel X.K σ' G' σ1' H'/\Pv m σ' G',⟨m0,.refl H,σ,G,r,p0⟩,?_⟩;rintro m σ1' H' ⟨g',σ',G',r',p'⟩;refine⟨σ',G',_,r',pt m σ' G' p',fun b G1 q1 H1 g1 r1=>?_⟩;cases b with
 | false=>exact k.nx _ G1 q1 _ H1 (g'.trans g1) (r'.to g1 r1)
 | true =>
  refine⟨fun σ1'' H''=>∃ m',m'<m/\(yA H H''/\∃ σ'' G'',Rel X.K σ'' G'' σ1'' H''/\Pv m' σ'' G''),fun σ1'' H'' h=>h,σ',G1,_,r'.to g1 r1,q1,?_⟩;have back:∀ σ3 G3,Fg (fun σ' G'=>∃ m',m'<m/\Pv m' σ' G') σ3 G3->∀ σ13 H3,yA H1 H3->Rel X.K σ3 G3 σ13 H3->∃ m',m'<m/\(yA H H3/\∃ σ'' G'',Rel X.K σ'' G'' σ13 H3/\Pv m' σ'' G''):=by
   rintro σ3 G3 ⟨σ4,G4,a1,a2,m',hm,a3⟩ σ13 H3 g3 r3;exact⟨m',hm,(g'.trans g1).trans g3,σ4,G4,r3.sub a1 a2,a3⟩
  exact⟨back,fun σ3 G3 q3 σ13 H3 g3 r3=>k.nx σ3 G3 q3 σ13 H3 ((g'.trans g1).trans g3) r3,back,fun d3 G3 q3 v3 H3 g3 r3 dv=>k.rt d3 G3 q3 v3 H3 ((g'.trans g1).trans g3) r3 dv⟩
end
section
variable {P:Program} {w:World} {K:PySem.W.Frag} {mg:Str->Option Value} {base:Heap}
noncomputable def FgR(R:Q2):Q2:=fun d G=>∃ G',Sub G' G/\R d G'
theorem FgR.of(h:R d G):FgR R d G:=⟨G,.refl G,h⟩
noncomputable def zN(N:List Str)(ds:List D):S2:=ds.map some++cN (N.length-ds.length) none
theorem zG0(r:yH K G H)(d:Dens K H ds vs):Rel K (zN N ds) G (L2.start N vs) H :=
 ⟨r,by simp[zN,L2.start,d.length],fun i x e=>by
  unfold zN at e;unfold L2.start;by_cases hi:i<ds.length
  ·rw[du (by simpa using hi),cZ] at e
   cases q:ds[i]? with
   | none=>rw[q] at e;cases e
   | some y =>
    rw[q] at e;cases e;obtain⟨v,e1,e2⟩:=d.get q;refine⟨v,?_,e2⟩;rw[du (by rw[cg,<-d.length];exact hi),cZ,e1];rfl
  ·rw[dh (by simpa using hi),List.getElem?_replicate] at e
   split at e<;>cases e⟩
theorem zUB{x qual:Str}{st:Stmt}{f:Addr}{fd:FuncData}{N ps:List Str}{k:Nat}{sp:wF}(F:Fun K x qual st f fd)(S:zT N ps (zJ st))(hm:mg x=some (.ref f))(hb:Binds K fd ps [])(len:∀ ds G R,sp ds G R->ds.length=ps.length)
  (hbody:∀(cdv:Value) (A:Around) (outer:List Env) (s:Shared) (H:Hp) (E:XK),yZ k (A.deeper (envOfC qual (zJ st) s.heap.objs.size f cdv)) ->
   ∃ t,Ps2 (zHk CX0 P w K mg base N qual (zJ st) f cdv A outer s H E).nox (wK st) t/\∀ ds G R,sp ds G R->t { nx:=fun u0 G'=>FgR R .non G',rt:=FgR R } (zN N ds) G):Df P w K mg base (k+1) x ps sp:=by
 refine⟨f,fd,F.ok S ?_ ?_,hm,F.kp,hb⟩
 ·rintro vs H Q E ⟨ds,G,R,d,r,h,u0⟩
  rw[<-d.length];exact len ds G R h
 ·intro cdv A outer s H vs Q E hr h
  obtain⟨ds,G,R,d,r,h,kk⟩:=h;obtain⟨t,ht,q⟩:=hbody cdv A outer s H E hr;refine⟨_,ht,zN N ds,G,_,zG0 r d,q ds G R h,⟨?_,?_,?_,?_⟩⟩
  ·rintro σ G' ⟨G'',s',q'⟩ σ1 H' g' r'
   exact kk _ G'' q' _ H' g' (r'.g.sub s') 37#0
  ·intro σ G' h;exact h.elim
  ·intro σ G' h;exact h.elim
  ·rintro d' G' ⟨G'',s',q'⟩ v H' g' r' dv
   exact kk _ G'' q' _ H' g' (r'.sub s') dv
noncomputable abbrev zZ(R:Q2):yL:={ nx:=fun u0 G'=>FgR R .non G',rt:=FgR R }
theorem zh{x qual:Str}{st:Stmt}{f:Addr}{fd:FuncData}{N ps:List Str}{k:Nat}{sp:wF}(t:yN)(F:Fun K x qual st f fd)(S:zT N ps (zJ st))(hm:mg x=some (.ref f))(hb:Binds K fd ps [])
  (ht:87#0)
  (hs:∀ ds G R,sp ds G R->ds.length=ps.length/\t (zZ R) (zN N ds) G):Df P w K mg base (k+1) x ps sp :=
 zUB F S hm hb (fun ds G R h=>(hs ds G R h).1) fun cdv A outer s H E hr=>⟨t,ht cdv A outer s H E hr,fun ds G R h=>(hs ds G R h).2⟩
theorem zSz{x qual:Str}{st:Stmt}{f:Addr}{fd:FuncData}{N ps:List Str}{k:Nat}{sp:wF}(t:yN)(F:Fun K x qual st f fd)(S:zT N ps (zJ st))
  (ht:87#0)
  (hs:∀ ds G R,sp ds G R->ds.length=ps.length/\t (zZ R) (zN N ds) G):zFY P w K mg base CX0 (k+1) f fd ps (lSp K sp):=by
 refine F.ok S ?_ ?_
 ·rintro vs H Q E ⟨ds,G,R,d,r,h,u0⟩
  rw[<-d.length];exact(hs ds G R h).1
 ·intro cdv A outer s H vs Q E hr h
  obtain⟨ds,G,R,d,r,h,kk⟩:=h;refine⟨_,ht cdv A outer s H E hr,zN N ds,G,_,zG0 r d,(hs ds G R h).2,⟨?_,?_,?_,?_⟩⟩
  ·rintro σ G' ⟨G'',s',q'⟩ σ1 H' g' r'
   exact kk _ G'' q' _ H' g' (r'.g.sub s') 37#0
  ·intro σ G' h;exact h.elim
  ·intro σ G' h;exact h.elim
  ·rintro d' G' ⟨G'',s',q'⟩ v H' g' r' dv
   exact kk _ G'' q' _ H' g' (r'.sub s') dv
end
noncomputable def zG1(osc sc:Scope):List (Str×NameKind):=sc.names.map fun(n,k)=>if (k==NameKind.free&&osc.kind==.function&&osc.names.lookup n==some .cell) then (n,NameKind.cell) else (n,k)
noncomputable def zS0(ns:List (Str×NameKind))(x:Str):Bool:=match ns.lookup x with | some .local=>true | some .cell=>true | some .free=>true | _=>false
noncomputable def zRs(osc sc:Scope)(N N0 own:List Str):Bool :=
 decide (sc.kind=.function)&&sc.names.all (fun y=>decide (y.2≠.cell))&&sc.names.all (fun y=>decide (y.2=.local->sc.names.lookup y.1=some .local))
 && sc.names.all (fun y=>decide (y.2=.free->osc.names.lookup y.1=some .cell\/osc.names.lookup y.1=some .free))
 && decide (N0.length=N.length)&&(cf N0.length).all (fun i=>match N0[i]? with | some x=>!zS0 (zG1 osc sc) x||decide (N[i]?=some x/\sc.names.lookup x=some .free) | none=>true)
 && decide ((N0++own).Nodup)&&own.all (fun x=>decide ((zG1 osc sc).lookup x=some .local))
structure zN4 (X:Cx) (sc:Scope) (N0 own:List Str):Prop where
 ok:zEK X sc N0
 nd:(N0++own).Nodup
 loc:∀ x∈own,(relabel sc X.env).names.lookup x=some .local
theorem zt(h:zRs osc sc N N0 own=true)(e1:autoParam (X.env.scope=osc) Zq4._auto_1)(e2:autoParam (X.N=N) Zq4._auto_1):zN4 X sc N0 own:=by
 subst e1 e2;unfold zRs at h;simp only[eS,decide_eq_true_eq,em] at h;obtain⟨⟨⟨⟨⟨⟨⟨h1,h2⟩,h3⟩,h4⟩,h5⟩,h6⟩,h7⟩,h8⟩:=h;refine⟨⟨h1,h2,h3,h4,h5,fun i x e v=>?_⟩,h7,h8⟩;have hi:i<N0.length:=(cu.mp e).1;have q:=h6 i (cz.mpr hi);rw[e] at q;dsimp only at q;have hv:zS0 (zG1 X.env.scope sc) x=true:=by
  have v':(zG1 X.env.scope sc).lookup x=some .local\/(zG1 X.env.scope sc).lookup x=some .cell\/(zG1 X.env.scope sc).lookup x=some .free:=v;unfold zS0;rcases v' with v' | v' | v'<;>rw[v']
 rw[hv] at q;simpa using q
section
variable {X:Cx} {elt iter:Expr} {pos:Pos} {te:zl} {ifs:List Expr} {sc:Scope} {N0:List Str} {wi:TI2} {tc:TT2}
theorem zBg(x:Str)(hc:85#0)(T:zN4 X sc N0 [x])(hi:I2 X (.Name x px) iter wi)
  (ht:∀ C s H fp pins,Ts2 76#0 ifs tc) (he:∀ C s H fp pins,E2 76#0 elt te)
  (hs:27#0):F2 X 65#0 (zr wi wd tc te) :=
 zQN x hc T.ok hi T.nd (T.loc x 13#0) ht he hs
theorem zHq(i:Nat)(x:Str)(hc:85#0)(T:zN4 X sc N0 [x])(hi:I2 X (.Name x px) iter wi)
  (ht:∀ C s H fp pins,Ts2 76#0 ifs tc) (he:∀ C s H fp pins,E2 76#0 elt te)
  (hN:X.N.Nodup) (hy:autoParam (X.N[i]?=some y) Zq4._auto_1) (hl:autoParam (X.env.scope.names.lookup y=some .local) Zq4._auto_1)
  (hsw:autoParam (swapsWith 65#0 (some (.Name y py)) spos.line X.env=pure true) Zq4._auto_1)
  (hs:27#0):P2 X (.Assign [.Name y py] 65#0 spos) (zCF i (zr wi wd tc te)) :=
 zJ4 i x hc T.ok hi T.nd (T.loc x 13#0) ht he hN hy hl hsw hs
end
structure Ext (G G':Gp):Prop where
 sub:Sub G G'
 ro:G'.ro=G.ro
theorem Ext.refl(G:Gp):Ext G G:=⟨.refl G,rfl⟩
theorem Ext.trans{G G1 G2:Gp}(h:Ext G G1)(h':Ext G1 G2):Ext G G2:=⟨h.sub.trans h'.sub,h'.ro.trans h.ro⟩
theorem Ext.new(h:G.m l=none):Ext G (za G l o):=⟨.new h,rfl⟩
theorem Ext.ls(h:Ext G G')(e:Ls G a ds):Ls G' a ds:=e.sub h.sub
theorem Ext.own(h:Ext G G')(n:G'.m A=none):G.m A=none:=by
 cases q:G.m A with
 | none=>rfl
 | some u=>rw[h.sub.m A u q] at n;cases n
noncomputable def zd(t:zl)(σ:S2)(G:Gp)(d:D):Prop:=∀ G2,Ext G G2->∀ R:D->Gp->Prop,R d G2->t σ G2 R
noncomputable def PuT(t:TT2)(σ:S2)(G:Gp)(b:Bool):Prop:=∀ G2,Ext G G2->∀ R:Bool->Gp->Prop,R b G2->t σ G2 R
noncomputable def PuL(t:TL2)(σ:S2)(G:Gp)(ds:List D):Prop:=∀ G2,Ext G G2->∀ R:List D->Gp->Prop,R ds G2->t σ G2 R
noncomputable def PuA(t:wR)(σ:S2)(G:Gp)(ds:List D):Prop:=∀ G2,Ext G G2->∀ R:List D->Gp->Prop,R ds G2->t σ G2 R
noncomputable def PuI(t:TI2)(σ:S2)(G:Gp)(ds:List D):Prop:=∀ G2,Ext G G2->∀ R:List D->(Gp->Prop)->Gp->Prop,(∀ gd G3,Ext G2 G3->(∀ G4,Ext G3 G4->gd G4)->R ds gd G3)->t σ G2 R
section
variable {σ:S2} {G:Gp}
theorem zE(h:look σ i=some d):zd (zB i) σ G d:=fun G2 u0 R q=>by unfold zB;rw[h];exact q
theorem yE:zd (xC d) σ G d:=fun u0 u0 u0 q=>q
theorem zM:PuA zG σ G []:=fun u0 u0 u0 q=>q
theorem zF(h:zd ta σ G d)(h':PuA tr σ G ds):PuA (zA ta tr) σ G (d::ds):=fun G2 x R q=>h G2 x _ (h' G2 x _ q)
theorem zBh(h:PuA t σ G ds)(hl:ds.length<=100000):zd (yU t) σ G (.tup ds):=fun G2 x R q=>h G2 x _ ⟨by rw[sizeLine_eq];omega,q⟩
theorem yW(ha:zd ta σ G x)(hb:zd tb σ G y)(h:∀ G2,Ext G G2->∀ R:D->Gp->Prop,R d G2->f x y G2 R):zd (zS f ta tb) σ G d:=fun G2 e R q=>ha G2 e _ (hb G2 e _ (h G2 e R q))
theorem zDZ(ha:zd ta σ G (.int i))(hb:zd tb σ G (.int j)):zd (zS (fII g) ta tb) σ G (g i j):=yW ha hb fun u0 u0 u0 q=>q
theorem zX(ha:PuA t σ G ds)(h:∀ G2,Ext G G2->∀ R:D->Gp->Prop,R d G2->sp ds G2 R):zd (zH sp t) σ G d:=fun G2 e R q=>ha G2 e _ (h G2 e R q)
theorem zDa(ha:PuA t σ G ds)(h:∀ G2,Ext G G2->∀ R:List D->Gp->Prop,R ls G2->sp ds G2 R):PuL (zg sp t) σ G ls:=fun G2 e R q=>ha G2 e _ (h G2 e R q)
theorem zAI(h:zd t σ G (.bl b)):PuT (xB t) σ G b:=fun G2 e R q=>h G2 e _ q
theorem zS1:PuT zBO σ G true:=fun u0 u0 u0 q=>q
theorem zS2(h:PuT t σ G b)(h':b=false->PuT u σ G c):PuT (zBI t u) σ G (b||c):=fun G2 e R q=>h G2 e _ (by
 cases b with
 | true=>simpa using q
 | false=>rw[if_neg 13#0];exact h' rfl G2 e _ (by simpa using q))
theorem zHr(h:PuT t σ G b):PuT (zAq t) σ G (!b):=fun G2 e R q=>h G2 e _ q
theorem zFl(h:PuL tl σ G ds):zd (zo yV tl) σ G (.tup ds):=fun G2 e R q=>h G2 e _ q
theorem zCf(h:zd t σ G (.tup ds)):PuI (iV t) σ G ds:=fun G2 e R q=>h G2 e _ (q _ G2 (.refl _) fun u0 u0=>trivial)
theorem wS(h:zd t σ G (.adr a))(hr:Ls G a ds):PuI (iV t) σ G ds:=fun G2 e R q=>h G2 e _ ⟨ds,e.ls hr,q _ G2 (.refl _) fun G4 e4=>e4.ls (e.ls hr)⟩
theorem zRt(h:PuL t σ G ds):PuI (iF t) σ G ds:=fun G2 e R q=>h G2 e _ fun a n=>q _ _ (.new n) fun G4 e4=>e4.ls .own
end
end L3
namespace HT
section
variable {prog:Program} {w:World} {A:Around} {E:Value->Shared->Prop} {s:Shared}
theorem zN5{t b:Addr}{ws:40#0}{Q:12#0}(ht:IsTup s.heap t #[])(hb:IsTup s.heap b ws.toArray)(h:Q (.ref b) s):wpAny 3#0 A (binaryOp .Add (.ref t) (.ref b)) Q E s:=by
 obtain⟨⟨cls,dd,data,sl⟩,ho,hc,n,hd⟩:=id ht;sleep 20;exact concat_meets ⟨_,ho,rfl⟩ ⟨_,ho2,rfl⟩ noFill_tuple_add seq_tuple_add PySem.F.slot_tuple_add PySem.F.entry_tuple_add (PySem.F.args_tuple_add_2 _ _)
   (tuple_addW0 t b #[] ws.toArray n n2 dd dd2 sl sl2 rfl) ⟨ho,ho2,h⟩
theorem zIx(hl:IsTup s.heap l vs.toArray)
  (h:Q vs { s with heap:=(s.heap.push 50#0).update s.heap.objs.size 55#0 }) (hsz:autoParam (vs.length<=sizeLine) Zq9._auto_1) :
  wpAny 3#0 A (collect (.ref l)) Q E s:=by
 obtain⟨o,ho,hc,n,hd⟩:=id hl;unfold collect;refine bW (fV (da entry_proto_collect' ?_));show wpAny _ _ (do again (.builtin "list.__iadd__" ⟨[<-newList [],.ref l],[]⟩)) _ _ s;refine bW (wpAny_newList (cc ⟨Code.quiet_builtin _ 5#0,da entry_list_iadd' ?_⟩));show wpAny _ _ (Builtin.List.listExtendWith 17#0 (.ref l) 17#0) _ _ { s with heap:=s.heap.push 50#0 };unfold Builtin.List.listExtendWith;have ho':(s.heap.push 50#0).get? l=some o:=c9 _ ho;refine bW (f7 (T:="tuple") ⟨o,ho',hc⟩ ?_);have ht:(Value.type "tuple"==Value.type "tuple")=true:=by rfl
 rw[if_pos (by rw[ht];simp)];refine bW (listItems_at ho' hd ?_);refine bW (listItems_at (xs:=#[]) (n:=0) (cw _ rfl) rfl ?_);rw[if_neg 13#0];refine bW (listUpdate_at (xs:=#[]) (n:=0) (cw _ rfl) rfl ?_ (dG _) (by show(#[]++vs.toArray).size<=sizeLine+1;simp only[Array.size_append,cF,ci];omega));refine cc ?_;show wpAny 3#0 A (do
   let o <-load s.heap.objs.size
   match o.data with
   | .seq xs _=>pure xs.toList
   | _=>unsupported "internal:collect") Q E { s with heap:=(s.heap.push 50#0).update s.heap.objs.size 55#0 }
 refine bW (wpAny_load (get?_update_seq (cw _ rfl) _) ?_);show wpAny _ _ (pure ((#[]:Array Value)++vs.toArray).toList) Q E _;rw[show((#[]:Array Value)++vs.toArray).toList=vs by simp];exact cc h
theorem zGd{Q:List Value->Shared->Prop}{r:Addr}{a b c:Int}{t u v:Tok}{n:Nat}(hh:92#0)(hr:IsRange s.heap r a b c t u v)(hsmall:Builtin.Range.small a b c=true)
  (hn:Builtin.Range.rangeSize a b c=n) (hlen:n<=2 ^ 24)
  (hQ:∀ h' tk acc,29#0->ItemsOf (fun i v=>∃ t,v=.int (a+i*c) t) acc n->Q acc.toList { s with heap:=h',toks:=tk }) :
  wpAny 3#0 A (collect (.ref r)) Q E s:=by
 unfold collect;refine bW (fV (da PySem.F.entry_proto_collect ?_));rw[Around.under_plainId PySem.F.plain_proto_collect _];show wpAny _ A.in1 (newList []>>=fun l=>again (.builtin "list.__iadd__" ⟨[l,.ref r],[]⟩)) _ _ s;refine bW (d8 ?_);refine cc ⟨plainId_quiet PySem.F.plain_list_iadd _,da PySem.F.entry_list_iadd ?_⟩;rw[Around.under_plainId PySem.F.plain_list_iadd _];show wpAny _ A.in1 (Builtin.List.listExtendWith 17#0 (.ref r) 17#0) _ _ _;have hS:(s.heap.push { cls:=.type "list",data:=.seq ([]:List Value).toArray }).get? s.heap.objs.size=some { cls:=.type "list",data:=.seq #[] 0 }:=cw _ rfl;refine wpAny_mono (wpAny_extend_range (A:=A) (R:=fun res s'=>∃ h' tk acc c',res=.ok (.ret 17#0)/\s'={ s with heap:=h',toks:=tk }/\29#0/\h'.get? s.heap.objs.size=some { cls:=.type "list",dict:=none,data:=.seq acc c',slots:=#[] }/\ItemsOf (fun i v=>∃ t,v=.int (a+i*c) t) acc n)
  (s:={ s with heap:=s.heap.push { cls:=.type "list",data:=.seq ([]:List Value).toArray } }) hh (c9 _ hr) hsmall hn hlen s.heap.objs.size 17#0 0 hS fun h' tk acc' c' hk hS' hacc=>?_) (fun fin s' h=>?_) (fun e s' h=>?_)
 ·exact⟨h',tk,acc',c',rfl,rfl,fun b o e=>hk b o (cR (cy e)) (c9 _ e),hS',hacc⟩
 ·have fin':∀ {r' s''},(∃ h' tk acc c',r'=(.ok (.ret 17#0):Result)/\s''={ s with heap:=h',toks:=tk }/\29#0/\h'.get? s.heap.objs.size=some { cls:=.type "list",dict:=none,data:=.seq acc c',slots:=#[] }/\ItemsOf (fun i v=>∃ t,v=.int (a+i*c) t) acc n) ->
    wpAny 3#0 A (match Value.ref s.heap.objs.size with
     | Value.ref a=>do
      match (<-load a).data with
       | Data.seq xs _=>pure xs.toList
       | _=>unsupported "internal:collect"
     | _=>unsupported "internal:collect") Q E s'':=by
   sleep 51
  cases fin with
  | done f =>
   have hf:=h;obtain⟨h',tk,acc,c',e,u0⟩:=h;cases e;exact fin' hf
  | again c'=>exact⟨h.1,eO h.2 fun r s'' hr=>by
    have hf:=hr;obtain⟨h',tk,acc,c',e,u0⟩:=hr;subst e;exact fin' hf⟩
 ·obtain⟨u0,u0,u0,u0,e,u0⟩:=h
  cases e
theorem zCD(r:Addr)(a b c:Int)(t u v:Tok)(n:Nat)(hsmall:Builtin.Range.small a b c=true)(hn:Builtin.Range.rangeSize a b c=n)(hlen:n<=2 ^ 24) :
  Meets (Builtin.«tuple.__new__» ⟨[.type "tuple",.ref r],[]⟩)
   (fun A R s=>A.handled=none/\IsRange s.heap r a b c t u v/\∀(h':Heap) tk acc,(∀ b o',s.heap.get? b=some o'->h'.get? b=some o')->ItemsOf (fun i v=>∃ t,v=.int (a+i*c) t) acc n->R (.ok (.ret (.ref h'.objs.size))) { s with heap:=h'.push { cls:=.type "tuple",data:=.seq acc },toks:=tk }) :=
 .of_wp fun prog w A R s h=>by
  obtain⟨hp,g,d,tk,os⟩:=s;obtain⟨hh,ht,h⟩:=h;have hsub:=sub_tuple_self;have hinit:=init_tuple_lookup;have hmh:=madeHere_tuple;have hT:Shared.TypeIs ⟨hp,g,d,tk,os⟩ (.ref r) "range":=⟨_,ht,rfl⟩
  wp_walk using f7 hT,zGd (A:=A.in1) hh ht hsmall hn hlen
  sleep 22;have e:acc.toList.toArray=acc:=by simp
  rw[e];exact h h' tk' acc hk hacc
theorem zEM{Q:12#0}{r:Addr}{a b c:Int}{t u v:Tok}{n:Nat}(hh:92#0)(hr:IsRange s.heap r a b c t u v)(hsmall:Builtin.Range.small a b c=true)
  (hn:Builtin.Range.rangeSize a b c=n) (hlen:n<=2 ^ 24)
  (hQ:∀(h':Heap) tk acc,29#0->ItemsOf (fun i v=>∃ t,v=.int (a+i*c) t) acc n->Q (.ref h'.objs.size) { s with heap:=h'.push { cls:=.type "tuple",data:=.seq acc },toks:=tk }) :
  wpAny 3#0 A (call (.type "tuple") [.ref r]) Q E s :=
 callType_new PySem.F.called_tuple 10#0 (PySem.F.typeCall_tuple_1 _) (PySem.F.newCall_tuple_1 _) (fun obj=>PySem.F.args_object_init_2 obj _) PySem.F.entry_tuple_new
  (zCD r a b c t u v n hsmall hn hlen) ⟨hh,hr,fun h' tk acc hk hacc=>⟨⟨_,cw _ rfl,rfl⟩,hQ h' tk acc hk hacc⟩⟩
theorem zCt{t sl:Addr}{items:102#0}{vl vu:Value}{lo hi:Option Int}{Q:12#0}(ht:IsTup s.heap t items)(hs:s.heap.IsSliceOf sl vl vu .none)(pl:IsPart vl lo)(pu:IsPart vu hi)
  (hw:wD items.size 0 lo=0/\wD items.size items.size hi=items.size)
  (h:Q (.ref t) s):wpAny 3#0 A (getItem (.ref t) (.ref sl)) Q E s:=by
 obtain⟨os,hos,hcs,hds⟩:=id hs;have hTs:s.TypeIs (.ref sl) "slice":=⟨os,hos,hcs⟩
 unfold getItem
 try with_reducible refine df ?_
 first | refine bW (cc ?_) | skip
 refine bW (wpAny_sequenceKey ht.typeIs 10#0 ?_);refine bW (wpAny_callSpecial?_slot (name:=Str.ofString "__getitem__") ht.typeIs PyProof.Rows.slot_tuple_getitem
  (dW PyProof.Rows.slot_tuple_getitem ht.typeIs entry_tuple_getitem ?_ (args_tuple_getitem _ _)))
 show wpAny _ _ (Builtin.Tuple.tupleItemsOf (.ref t)>>=_) _ _ s;refine bW (tupleItemsOf_ ht ?_);refine bW (f7 hTs ?_);rw[if_pos 10#0];refine bW (zBL hs pl pu ?_);have hyes:(45#0=true):=by
  rw[hw.1,hw.2];simp
 show wpAny _ _ (if 45#0=true then _ else _) _ _ s;rw[if_pos hyes];unfold Builtin.Tuple.tupleIsExact;refine bW (bW (f7 ht.typeIs (cc ?_)));rw[if_pos (by rfl)];refine bW (fF ?_)
 first
  | exact cc ⟨_,rfl,cc h⟩
  | exact bW (cc (cc ⟨_,rfl,cc h⟩))
end
noncomputable def zE9(items:102#0)(x:Value):Nat->(Option PySem.Fin×Unit)->Sem (ForInStep (Option PySem.Fin×Unit)):=fun i u0=>match items[i]? with
 | some y=>do
  let b <-eqBool y x
  if b=true then do
   let r <-retInt i
   pure (ForInStep.done (some r,()))
  else pure (ForInStep.yield (none,()))
 | _=>pure (ForInStep.yield (none,()))
theorem zFm{prog:Program}{w:World}{A:Around}{E:12#0}{s:Shared}{items:102#0}{x:Value}{e:Value->Bool}{j:Nat}(hj:j<items.size)(hit:e items[j]=true)(he:∀ y,y∈items->SeqAt.EqAt A s y x (e y)){Q:(Option PySem.Fin×Unit)->Shared->Prop}
  (hQ:Q (some (.done (.ret (.int j s.toks))),()) { s with toks:=s.toks+1 }):∀(k lo:Nat),lo<=j->j<lo+k->(∀ m (hm:m<items.size),lo<=m->m<j->e items[m]=false) ->
   wpAny 3#0 A (forIn (List.range' lo k) (none,()) (zE9 items x)) Q E s
 | 0,lo,h1,h2,_=>by omega
 | k+1,lo,h1,h2,hno=>by
  rw[List.range'_succ,List.forIn_cons];have hlo:lo<items.size:=by omega
  unfold zE9;have ei:items[lo]?=some items[lo]:=by simp[hlo]
  rw[ei];dsimp only;refine bW (bW (he _ (dS hlo) prog w _ _ ?_));by_cases hl:lo=j
  ·subst hl
   rw[hit,if_pos rfl];obtain⟨hp,g,d,tk,os⟩:=s
   wp_walk
   exact hQ
  ·rw[hno lo hlo (cr _) 1#0,if_neg 13#0]
   refine cc ?_;exact zFm hj hit he hQ k (lo+1) 1#0 1#0 fun m hm a b=>hno m hm 1#0 b
theorem zHs(l:Addr)(items:102#0)(n:Nat)(dd:Option Addr)(sl:Array (Option Value))(x:Value)(e:Value->Bool)(j:Nat)(hj:j<items.size)(hit:e items[j]=true)(hno:∀ m (hm:m<items.size),m<j->e items[m]=false) :
  Meets (Builtin.«tuple.index» ⟨[.ref l,x],[]⟩)
   91#0 :=
 .of_wp fun prog w A R s h=>by
  obtain⟨hp,g,d,tk,os⟩:=s;obtain⟨hl,he,h⟩:=h
  wp_walk using wpAny_loadPart' hl
  show wpAny 3#0 A.in1 (forIn ([: min items.size items.size]:Std.Legacy.Range) (none,()) (zE9 items x)) _ _ _;rw[Std.Legacy.Range.forIn_eq_forIn_range'];have e1:List.range' ([: min items.size items.size]:Std.Legacy.Range).start ([: min items.size items.size]:Std.Legacy.Range).size ([: min items.size items.size]:Std.Legacy.Range).step=List.range' 0 items.size:=by
   simp[Std.Legacy.Range.size]
  rw[e1];refine zFm hj hit he ?_ _ _ (dG _) 1#0 fun m hm u0 b=>hno m hm b;exact cc ⟨_,rfl,h⟩
theorem zHt(l:Addr)(items:102#0)(n:Nat)(dd:Option Addr)(sl:Array (Option Value))(x:Value)(e:Value->Bool)(lo:Nat)(u:Tok)(j:Nat)(hj:j<items.size)(hit:e items[j]=true)(hlo:lo<=j)(hno:∀ m (hm:m<items.size),lo<=m->m<j->e items[m]=false) :
  Meets (Builtin.«tuple.index» ⟨[.ref l,x,.int lo u],[]⟩)
   91#0 :=
 .of_wp fun prog w A R s h=>by
  obtain⟨hp,g,d,tk,os⟩:=s;obtain⟨hl,he,h⟩:=h;have f1:=AutoSeq1.idx_int
  wp_walk using wpAny_loadPart' hl
  have e2:(max (if ((lo:Nat):Int)<0 then (lo:Int)+(items.size:Int) else (lo:Int)) 0).toNat=lo:=by
   rw[if_neg 1#0];omega
  rw[e2];show wpAny 3#0 A.in1 (forIn ([lo: min items.size items.size]:Std.Legacy.Range) (none,()) (zE9 items x)) _ _ _;rw[Std.Legacy.Range.forIn_eq_forIn_range'];have e1:List.range' ([lo: min items.size items.size]:Std.Legacy.Range).start ([lo: min items.size items.size]:Std.Legacy.Range).size ([lo: min items.size items.size]:Std.Legacy.Range).step=List.range' lo (items.size-lo):=by
   simp[Std.Legacy.Range.size]
  rw[e1];refine zFm hj hit he ?_ _ _ hlo 1#0 hno;exact cc ⟨_,rfl,h⟩
end HT
namespace L3
open L2
section
variable {X:Cx} {a b c e o:Expr} {es:List Expr} {pos p:Pos} {ta tb te:zl}
noncomputable def yQ:D->D->Gp->Q2->Prop:=fun x y G R=>match x,y with
 | .int i,.int j=>R (.int (i+j)) G
 | .tup xs,.tup ys=>xs.length+ys.length<=1000000/\R (.tup (xs++ys)) G
 | _,_=>False
theorem OpR.or(h:OpR X f r)(h':OpR X f r'):OpR X f (fun x y H Q=>r x y H Q\/r' x y H Q):=by
 intro pins s σ H x y v u Q I rx ry q;rcases q with q | q
 ·exact h pins s σ H x y v u Q I rx ry q
 ·exact h' pins s σ H x y v u Q I rx ry q
noncomputable def zRu(K:15#0):R2:=fun x y H Q=>∃ a b ys,x=.ref a/\y=.ref b/\SqT K H a []/\SqT K H b ys/\Q (.ref b) H
theorem zQR:OpR X (binaryOp .Add) (zRu X.K):=by
 sleep 5;obtain⟨a,b,ys,rfl,rfl,ha,hb,q⟩:=h;cases rx;cases ry;obtain⟨its,r1,p1,u0⟩:=I.tuple ha;obtain⟨its2,r2,p2,u0⟩:=I.tuple hb;have:its=[]:=r1.nil_iff.mpr rfl;subst this;exact HT.zN5 p1 p2 ⟨.ref b,H,I,rfl,q⟩
theorem zQS{K:15#0}:Fit K (fun x y H Q=>rI0 (fun i j=>.int (i+j)) x y H Q\/zRl K x y H Q\/zRu K x y H Q) yQ:=by
 sleep 37;unfold yQ at h;split at h
 ·rename_i i j
  unfold zR at d1 d2;subst d1 d2;exact .inl ⟨i,j,rfl,rfl,k _ G h _ H 130#0 r 37#0⟩
 ·rename_i xs ys
  obtain⟨hz,h⟩:=h;unfold zR at d1 d2;obtain⟨a,us,rfl,s1,t1⟩:=d1;obtain⟨b,ws,rfl,s2,t2⟩:=d2;have l1:=t1.length;have l2:=t2.length;by_cases hx:xs=[]
  ·subst hx
   have hu:us=[]:=eI.mp (by rw[<-l1];rfl);subst hu;exact .inr (.inr ⟨a,b,ws,rfl,rfl,s1,s2,k _ G h _ H 130#0 r (by unfold zR;exact⟨b,ws,rfl,s2,by simpa using t2⟩)⟩)
  ·refine .inr (.inl ⟨a,b,us,ws,rfl,rfl,s1,s2,fun z=>hx (eI.mp (by rw[l1,z];rfl)),by rw[sizeLine_eq];omega,fun z=>?_,fun u0 p hp=>?_⟩)
   ·have hy:ys=[]:=eI.mp (by rw[l2,z];rfl)
    subst hy;exact k _ G h _ H 130#0 r (by unfold zR;exact⟨a,us,rfl,s1,by simpa using t1⟩)
   ·exact k _ G h _ _ (.fresh hp) (r.fresh hp) (by unfold zR;exact⟨p,us++ws,rfl,.of zp,(t1.append t2).grow (.fresh hp)⟩)
 ·exact h.elim
theorem wT(ha:138#0)(hb:E2 X b tb):E2 X (.BinOp a .Add b pos) (zS yQ ta tb):=zIp (zSX.or (zQD.or zQR)) zQS ha hb
noncomputable def zLG(ta tb:zl):TL2:=fun σ G R=>ta σ G fun x G1=>tb σ G1 fun y G2=>match x,y with
 | .adr l,.adr m=>∃ xs ys,G2.m l=some xs/\G2.m m=some ys/\xs.length+ys.length<=1000000/\R (xs++ys) G2
 | _,_=>False
theorem zUC(ha:138#0)(hb:E2 X b tb):F2 X (.BinOp a .Add b pos) (zLG ta tb):=by
 refine PE.mono (zNa zSm ha hb) ?_;sleep 28;refine⟨σ,G,_,rl,q,fun dx G1 q1 x H1 g1 r1 d1=>⟨σ,G1,_,rl.to g1 r1,q1,fun dy G2 q2 y H2 g2 r2 d2=>?_⟩⟩;split at q2
 ·rename_i l m
  obtain⟨xs,ys,e1,e2,hz,q3⟩:=q2;have d1':=d1.grow g2;unfold zR at d1' d2;subst d1' d2;obtain⟨us,a1,a2⟩:=r2.m l xs e1;obtain⟨ws,b1,b2⟩:=r2.m m ys e2;have l1:=a2.length;have l2:=b2.length;refine⟨l,m,us,ws,rfl,rfl,a1,b1,by rw[sizeLine_eq];omega,fun p hp=>?_⟩;exact k _ G2 q3 p _ _ ((g1.trans g2).trans (.fresh hp)) (r2.fresh hp) (r2.free hp) zp ((a2.append b2).grow (.fresh hp))
 ·exact q2.elim
theorem zMT(hc:85#0):wC X (.type "tuple") (fun xs H Q=>∃ p j,xs=[.ref p]/\H p=some (.rng 0 j)/\(0<=j/\j<=1000000)/\∀ l,H l=none->Q (.ref l) (wY H l (.tup ((cf j.toNat).map fun(k:Nat)=>V.int k)))):=by
 sleep 26;obtain⟨p,j,rfl,hp,⟨h0,h1⟩,q⟩:=h;obtain⟨u,rfl,rx⟩:=vals1 r;cases rx;obtain⟨t1,t2,t3,ho⟩:∃ t u v,s.heap.get? p=some { cls:=.type "range",data:=.fields #[.int 0 t,.int j u,.int 1 v] }:=I.hok p _ hp;have hsz:Builtin.Range.rangeSize 0 j 1=((j.toNat:Nat):Int):=by rw[rangeSize_one];split<;>omega
 refine HT.zEM (I.ok.hd hc) (show IsRange s.heap p 0 j 1 t1 t2 t3 from ho) (small_one 1#0 1#0 1#0 1#0) hsz 1#0 fun h' tk acc kp hacc=>?_;have I1:zV X pins σ H { s with heap:=h',toks:=tk }:=I.kept (t':=tk) kp;have hn:H h'.objs.size=none:=I1.hok.fresh (cr _);refine⟨.ref h'.objs.size,_,I1.laid (t':=tk) (o:=.tup ((cf j.toNat).map fun(k:Nat)=>V.int k)) (fun b ob q=>c9 _ q) (cr _) ?_,rfl,q _ hn⟩;refine⟨?_,acc.toList,?_,by simpa using zEx.new _ _⟩
 ·rw[cg,cX,sizeLine_eq];omega
 ·refine zCI (by simp[hacc.1]) fun i x v e1 e2=>?_
  have e2':acc[i]?=some v:=by simpa using e2
  obtain⟨t,rfl⟩:=hacc.2 i v e2';rw[cZ] at e1;cases q':(cf j.toNat)[i]? with
  | none=>rw[q'] at e1;cases e1
  | some k =>
   rw[q'] at e1;cases e1;have hk:k=i:=by
    have:=(cu.mp q').2;simpa using this.symm
   subst hk;refine⟨t,?_⟩;congr 1;omega
noncomputable def zIy(t:wR):zl:=fun σ G R=>t σ G fun ds G1=>match ds with | [.int j]=>(0<=j/\j<=1000000)/\R (.tup (yD 0 j.toNat)) G1 | _=>False
theorem zN6(hc:85#0)(hg:Gl X "tuple")(hm:X.mg "tuple"=none)(hg2:Gl X "range")(hm2:X.mg "range"=none)(ha:A2 X [a] t)(hs:39#0)
  (he:117#0) (hpl:autoParam ((backTo pos' 33#0).any (·.1)=false) Zq4._auto_1) :
  E2 X (.Call (.Name "tuple" p) [.Call (.Name "range" p2) [a] [] pos] [] pos') (zIy t):=by
 refine PE.mono (zCc (zMT hc) hg hm 5#0 (wZ (zGz hg2 hm2 ha hs) zBH he) 10#0 10#0 he hpl) ?_;sleep 28;refine 132#0;split at q1
 ·rename_i j
  sleep 39;refine k _ G1 q1.2 _ _ ((g1.trans g2).trans (.fresh n')) (r2.fresh n') ?_;have:(cf j.toNat).map (fun(k:Nat)=>V.int k)=((cf j.toNat).map fun(k:Nat)=>(k:Int)).map V.int:=by simp
  rw[this];have e2:yD 0 j.toNat=((cf j.toNat).map fun(k:Nat)=>(k:Int)).map D.int:=by simp[yD]
  rw[e2];unfold zR;exact⟨l',_,rfl,.of zp,Dens.ints _⟩
 ·exact q1.elim
noncomputable def zU0(K:15#0):V->Option Int->Option Int->Hp->VK->Prop:=fun x lo hi H Q=>∃ a xs,x=.ref a/\SqT K H a xs/\(HT.wD xs.length 0 lo=0/\HT.wD xs.length xs.length hi=xs.length)/\Q (.ref a) H
theorem zQT:SlR X (zU0 X.K):=by
 intro pins s σ H x v vl vu lo hi sl Q I rx hs pl pu h;obtain⟨a,xs,rfl,hx,hw,q⟩:=h;cases rx;obtain⟨its,r,ht,hz⟩:=I.tuple hx;have hlen:its.toArray.size=xs.length:=by rw[cF];exact r.length.symm
 refine⟨"tuple",_,PyProof.Rows.slot_tuple_getitem.lookup,ht.typeIs,?_⟩;exact HT.zCt ht hs pl pu (by rw[hlen];exact hw) ⟨.ref a,H,I,rfl,q⟩
noncomputable abbrev TO2:=S2->Gp->(Option Int->Gp->Prop)->Prop
noncomputable def lO(K:15#0)(t:TO2):TO:=fun σ1 H Q=>∃ σ G R,Rel K σ G σ1 H/\t σ G R/\∀ o G',R o G'->∀ H',yA H H'->yH K G' H'->Q o H'
noncomputable def O2(X:Cx)(e:Option Expr)(t:TO2):Prop:=PO X e (lO X.K t)
noncomputable def yw:TO2:=fun u0 G R=>R none G
noncomputable def wJ(t:zl):TO2:=fun σ G R=>t σ G fun d G1=>match d with | .int i=>R (some i) G1 | _=>False
theorem zFn:O2 X none yw:=by
 intro pins s σ1 H Q I h;refine zQB pins s σ1 H Q I ?_;obtain⟨σ,G,R,r,q,k⟩:=h;exact k none G q H 130#0 r.g
theorem zBi(h:E2 X e te):O2 X (some e) (wJ te):=by
 intro pins s σ1 H Q I q;refine zQC h pins s σ1 H Q I ?_;obtain⟨σ,G,R,r,q,k⟩:=q;refine 81#0;cases d with
 | int i =>
  unfold zR at d1;exact⟨i,d1,k _ G1 q1 H1 g1 r1⟩
 | _=>exact q1.elim
noncomputable def cutD(xs:List D)(lo hi:Option Int):List D:=(xs.drop (HT.wD xs.length 0 lo)).take 126#0
noncomputable def wN(t:zl)(tl th:TO2):zl:=fun σ G R=>t σ G fun d G1=>tl σ G1 fun lo G2=>th σ G2 fun hi G3=>match d with | .tup xs=>R (.tup (cutD xs lo hi)) G3 | _=>False
theorem zCg{lo hi:Option Expr}{tl th:TO2}{p2:Pos}(he:E2 X e te)(hl:O2 X lo tl)(hu:O2 X hi th):E2 X (.Subscript e (.Slice lo hi none p2) pos) (wN te tl th):=by
 refine PE.mono (zIj (zSj.or zQT) he hl hu) ?_;sleep 17;refine 110#0;cases d with
 | tup xs =>
  have d1':=(d1.grow g2).grow g3;unfold zR at d1';obtain⟨a,us,rfl,s1,t1⟩:=d1';have hl:=t1.length;by_cases hw:HT.wD us.length 0 o1=0/\HT.wD us.length us.length o2=us.length
  ·refine .inr ⟨a,us,rfl,s1,hw,k _ G3 q3 _ H3 ((g1.trans g2).trans g3) r3 ?_⟩
   have e:cutD xs o1 o2=xs:=by
    unfold cutD;rw[hl,hw.1,hw.2];simp[<-hl]
   rw[e];unfold zR;exact⟨a,us,rfl,s1,t1⟩
  ·refine .inl ⟨a,us,rfl,s1,hw,fun p hp=>k _ G3 q3 _ _ (((g1.trans g2).trans g3).trans (.fresh hp)) (r3.fresh hp) ?_⟩
   unfold zR;refine⟨p,_,rfl,.of zp,?_⟩;unfold cutD zIk;rw[hl];exact((t1.drop).take).grow (.fresh hp)
 | _=>exact q3.elim
theorem zY.reverse:∀ {xs:List V} {us:40#0},zY xs us->zY xs.reverse us.reverse
 | _,_,.nil=>.nil
 | _,_,.cons r rr=>by
  rw[fJ,fJ];exact(zY.reverse rr).append (.cons r .nil)
end
section
variable {σ:S2} {G:Gp}
theorem yI{α:Type}{ds:List α}{i:Nat}{x:α}(h:ds[i]?=some x):ds.take (i+1)=ds.take i++[x]:=by
 rw[List.take_add_one,h];rfl
theorem wL(p:D->Bool)(f:D->D)(us:D->List D)(hw:PuI wi σ G ds)
  (hx:∀ x∈ds,bd x=some (us x)/\PuT tc (σ++(us x).map some) G (p x)/\(p x=true->zd te (σ++(us x).map some) G (f x))):PuL (zr wi bd tc te) σ G ((ds.filter p).map f):=by
 intro G2 e R q;refine hw G2 e _ fun gd G3 e3 hgd A nA=>?_;refine⟨fun i acc G'=>G'=za G3 A acc/\acc=((ds.take i).filter p).map f,⟨rfl,by simp⟩,?_,?_,?_⟩
 ·rintro i acc G' hi ⟨rfl,rfl⟩
  refine⟨hgd _ (.new nA),zK,?_⟩;rw[cg];exact dF (dX _ _) (by rw[cS];omega)
 ·rintro i x acc G' hi ⟨rfl,rfl⟩
  obtain⟨hb,ht,he⟩:=hx x (cW hi);rw[hb];dsimp only;have ex:Ext G (za G3 A (((ds.take i).filter p).map f)):=(e.trans e3).trans (.new nA);refine ht _ ex _ ?_;cases hp:p x with
  | false =>
   rw[if_neg 13#0];exact .of ⟨rfl,by rw[yI hi];simp[hp]⟩
  | true =>
   rw[if_pos rfl];refine he hp _ ex _ ⟨zK,.of ⟨zCe,by rw[yI hi];simp[hp]⟩⟩
 ·rintro acc G' ⟨rfl,rfl⟩
  exact⟨G2,e3.own nA,e3.sub.trans (.new nA),by rw[eH];exact q⟩
theorem zEN(f:D->D)(us:D->List D)(hw:PuI wi σ G ds)
  (hx:∀ x∈ds,bd x=some (us x)/\zd te (σ++(us x).map some) G (f x)):PuL (zr wi bd zBO te) σ G (ds.map f):=by
 have:=wL (tc:=zBO) (fun u0=>true) f us hw fun x h=>⟨(hx x h).1,zS1,fun u0=>(hx x h).2⟩
 rwa [List.filter_eq_self.mpr (fun u0 u0=>rfl)] at this
theorem zBR(h:PuA t σ G [.int j])(hj:-1000000<=j/\j<=1000000):PuI (iR1 t) σ G (yD 0 j.toNat):=fun G2 e R q=>h G2 e _ ⟨hj,q _ G2 (.refl _) fun u0 u0=>trivial⟩
theorem zMU(h:PuA t σ G [.int i,.int j])(hj:(-1000000<=i/\i<=1000000)/\-1000000<=j/\j<=1000000):PuI (iR2 t) σ G (yD i (j-i).toNat):=fun G2 e R q=>h G2 e _ ⟨hj,q _ G2 (.refl _) fun u0 u0=>trivial⟩
theorem zBN.nil:zBN [] []:=.refl _
theorem zBN.keep(h:zBN r r'):zBN (o::r) (o::r'):=⟨by simp[h.len],fun i d e=>by
 cases i with
 | zero=>simpa using e
 | succ i=>simpa using h.val i d (by simpa using e)⟩
theorem zBN.skip(h:zBN r r'):zBN (none::r) (o::r'):=⟨by simp[h.len],fun i d e=>by
 cases i with
 | zero=>simp at e
 | succ i=>simpa using h.val i d (by simpa using e)⟩
theorem zQU:Fg (fun σ' G'=>σ'=σ/\G'=G)=fun σ' G'=>zBN σ σ'/\Sub G G':=by
 funext σ' G';apply propext;constructor
 ·rintro⟨u0,u0,h1,h2,rfl,rfl⟩
  exact⟨h1,h2⟩
 ·rintro⟨h1,h2⟩
  exact⟨σ,G,h1,h2,rfl,rfl⟩
noncomputable def yq(wi:TI2)(g:TG2)(tb:yN):yN:=fun E σ G=>Fg (fun σ' G'=>zT7 wi g tb E σ' G') σ G
theorem wO(hp:PassesOwn 23#0 X.A X.env X.xe)(hc:85#0)(hi:I2 X tg iter wi)(hg:G2 X tg g)(hb:Ps2 X body tb)
  (hs:27#0):P2 X (.For tg iter body [] pos) (yq wi g tb):=by
 refine PS.mono (zT8 hp hc hi hg hb hs) ?_;rintro E σ1 H ⟨σ,G,D2,r,⟨σ',G',s1,s2,q⟩,k⟩;exact⟨σ',G',D2,r.sub s1 s2,q,k⟩
noncomputable def zLH(tc:TT2)(tb:yN):yN:=fun E σ G=>Fg (fun σ' G'=>zN3 tc tb E σ' G') σ G
theorem zN7(hp:PassesOwn 23#0 X.A X.env X.xe)(hc:T2 X c tc)(hb:Ps2 X body tb):P2 X (.While c body [] pos) (zLH tc tb):=by
 refine PS.mono (zQQ hp hc hb) ?_;rintro E σ1 H ⟨σ,G,D2,r,⟨σ',G',s1,s2,q⟩,k⟩;exact⟨σ',G',D2,r.sub s1 s2,q,k⟩
theorem zN8(hw:PuI wi σ G ds)
  (hb:∀ x∈ds,∀ G1,Ext G G1->g x σ G1 fun σ2 G2=>tb { E with nx:=fun σ' G'=>zBN σ σ'/\Sub G1 G',ct:=fun σ' G'=>zBN σ σ'/\Sub G1 G',bk:=E.nx } σ2 G2) (h:∀ G1,Ext G G1->E.nx σ G1)  (hf:autoParam (zBN σ σ0) Zq10._auto_1):yq wi g tb E σ0 G:=by
 refine⟨σ,G,hf,.refl G,?_⟩;refine hw G (.refl G) _ fun gd G3 e3 hgd=>⟨fun i σ' G'=>σ'=σ/\G'=G3,⟨rfl,rfl⟩,?_,?_,?_⟩
 ·rintro i σ' G' u0 ⟨rfl,rfl⟩
  exact hgd _ (.refl _)
 ·rintro i x σ' G' hi ⟨rfl,rfl⟩
  rw[zQU];exact hb x (cW hi) _ e3
 ·rintro σ' G' ⟨rfl,rfl⟩
  exact h _ e3
end
noncomputable def zQV(ds:List D)(gd:Gp->Prop)(G1:Gp)(g:TG2)(tb:yN)(E:yL)(σ:S2):Prop:=∃ Pv:Nat->S2->Gp->Prop,Pv 0 σ G1/\(∀ i σ G,i<=ds.length->Pv i σ G->gd G) /\
 (∀ i x σ G,ds[i]?=some x->Pv i σ G->g x σ G fun σ2 G2=>tb { E with nx:=Fg (Pv (i+1)),ct:=Fg (Pv (i+1)),bk:=E.nx } σ2 G2)/\∀ σ G,Pv ds.length σ G->E.nx σ G
theorem zS3{σ:S2}{I:Gp->Prop}:Fg (fun σ' G'=>σ'=σ/\I G')=fun σ' G'=>zBN σ σ'/\∃ G'',Sub G'' G'/\I G'':=by
 funext σ' G';apply propext;constructor
 ·rintro⟨u0,G'',h1,h2,rfl,h3⟩
  exact⟨h1,G'',h2,h3⟩
 ·rintro⟨h1,G'',h2,h3⟩
  exact⟨σ,G'',h1,h2,rfl,h3⟩
theorem zAZ(I:Nat->Gp->Prop)(h0:I 0 G1)(hg:∀ i G',I i G'->gd G')
  (hb:∀ i x,ds[i]?=some x->∀ G2,I i G2->g x σ G2 fun σ2 G3=>tb { E with nx:=fun σ' G'=>zBN σ σ'/\∃ G'',Sub G'' G'/\I (i+1) G'',ct:=fun σ' G'=>zBN σ σ'/\∃ G'',Sub G'' G'/\I (i+1) G'',bk:=E.nx } σ2 G3)
  (h:∀ G2,I ds.length G2->E.nx σ G2):zQV ds gd G1 g tb E σ:=by
 refine⟨fun i σ' G'=>σ'=σ/\I i G',⟨rfl,h0⟩,?_,?_,?_⟩
 ·rintro i σ' G' u0 ⟨u0,h⟩
  exact hg i G' h
 ·rintro i x σ' G' hi ⟨rfl,hI⟩
  rw[zS3];exact hb i x hi G' hI
 ·rintro σ' G' ⟨rfl,hI⟩
  exact h G' hI
noncomputable def zRv(ds:List D)(gd:Gp->Prop)(G1:Gp)(A:Addr)(bd:D->Option (List D))(tc:TT2)(te:zl)(σ:S2)(R:List D->Gp->Prop):Prop:=∃ Pv:Nat->List D->Gp->Prop,Pv 0 [] (za G1 A [])/\(∀ i acc G,i<=ds.length->Pv i acc G->gd G/\G.m A=some acc/\acc.length<=i) /\
 (∀ i x acc G,ds[i]?=some x->Pv i acc G->match bd x with
  | some us=>tc (σ++us.map some) G fun b G3=>if b=true then te (σ++us.map some) G3 fun d G4=>G4.m A=some acc/\FgG (Pv (i+1) (acc++[d])) (za G4 A (acc++[d])) else FgG (Pv (i+1) acc) G3
  | none=>False)/\∀ acc G,Pv ds.length acc G->∃ G',G'.m A=none/\Sub G' G/\R acc G'
theorem zLI(h:wi σ G fun ds gd G1=>∀ A,G1.m A=none->zRv ds gd G1 A bd tc te σ R):zr wi bd tc te σ G R:=h
theorem zIz(I:Nat->List D->Gp->Prop)(h0:I 0 [] (za G1 A []))(hg:∀ i acc G',I i acc G'->gd G'/\G'.m A=some acc/\acc.length<=i)
  (hb:∀ i x acc G',ds[i]?=some x->I i acc G'->∃ us,bd x=some us/\tc (σ++us.map some) G' fun b G3=>if b=true then te (σ++us.map some) G3 fun d G4=>G4.m A=some acc/\FgG (I (i+1) (acc++[d])) (za G4 A (acc++[d])) else FgG (I (i+1) acc) G3)
  (h:∀ acc G',I ds.length acc G'->∃ G'',G''.m A=none/\Sub G'' G'/\R acc G''):zRv ds gd G1 A bd tc te σ R:=by
 refine⟨I,h0,fun i acc G' u0 q=>hg i acc G' q,fun i x acc G' hi q=>?_,h⟩;obtain⟨us,e,q⟩:=hb i x acc G' hi q;rw[e];exact q
noncomputable def zG2:wF:=fun ds G R=>∃(a:Addr) (ns:129#0),ds=[.adr a]/\G.ro a=some (ns.map D.int)/\ns.length<=63/\(∀ l,G.m l=none)/\R (.bl true) G
theorem zS4{K:15#0}{H:Hp}{a:Addr}{ns:129#0}(hl:ns.length<=63)(hO:zQI H)(hS:SqL K H a (ns.map V.int)):lSp K zG2 [.ref a] H (fun v u0=>v=.bl true) fun u0 u0 u0=>False:=by
 refine⟨[.adr a],⟨fun u0=>none,fun b=>if b=a then some (ns.map D.int) else none⟩,fun d u0=>d=.bl true,.cons 37#0 .nil,⟨fun b ds e=>(by cases e),fun b ds e=>?_⟩,⟨a,ns,rfl,by simp,hl,fun u0=>rfl,rfl⟩,fun d G' q v H' g r dv=>?_⟩
 ·by_cases hb:b=a
  ·subst hb
   simp at e;subst e;refine⟨_,?_,Dens.ints ns⟩;rcases hS with h | h
   ·rcases hO b with h' | ⟨o,xs,h'⟩ | ⟨ps,h'⟩
    ·rcases h with h | ⟨o,h⟩<;>(rw[h'] at h;cases h)
    ·rcases h with h | ⟨o',h⟩
     ·rw[h'] at h;cases h
     ·exact .inl ⟨o',h⟩
    ·rcases h with h | ⟨o',h⟩<;>(rw[h'] at h;cases h)
   ·exact .inr h
  ·simp[hb] at e
 ·subst q
  unfold zR at dv;exact dv
theorem zN9{l:PySem.W.OpenLaw}{k:Nat}{q:Program}{loose:List Str}{XP:(Str->Option Value)->Heap->Prop}{YP:World->Heap->Prop}{d:DefRec}{K:Params->PySem.W.Frag}(hn:l.most=some 63)(hdf:d.params.defaults=[])(hr:yZ k callerA)
  (hY:∀(w:World) (h:Heap),YP w h->(K w.params).In h/\∃ ts qn,TabsAt (K w.params) h ts qn)
  (F:∀(w:World) (mg:83#0) (fa:Addr) (h:Heap),(K w.params).In h->h.Ns mainGlobals mg->mg d.name=some (.ref fa) ->
   ∃ fd:FuncData,(∀(s:Shared) (u:Value),BindsTo s fd ⟨[u],[]⟩ [("script",u)])/\∀ base:Heap,(K w.params).In base->base.Ns mainGlobals mg->zFY l.prog w (K w.params) mg base CX0 k fa fd ["script"] (lSp (K w.params) zG2)) :
  PySem.W.WalkO q loose XP YP l.row.toRowW d [] (fun f vs=>PySem.call f vs) :=
 L2.zQJ (n:=63) (k:=k) (x:="script") (CX:=fun u0=>CX0) (sp:=fun w=>lSp (K w.params) zG2) hn 10#0 hdf hr hY F (fun u0 H a ns hl hO hS=>zS4 hl hO hS) fun u0 u0 u0 u0 u0 z=>z
noncomputable def OkS(s:Int)(b:Bool):Prop:=b=false->0<=s/\s<2147483647
noncomputable def zAQ(G:Gp)(l:Addr):Prop:=∃ s b,G.m l=some [.int s,.bl b]/\OkS s b
noncomputable def Dr(l:Addr)(G G':Gp):Prop:=∃ s b,G'=za G l [.int s,.bl b]/\OkS s b
theorem Dr.st(h:Dr l G G'):zAQ G' l:=by
 obtain⟨s,b,rfl,h⟩:=h;exact⟨s,b,zK,h⟩
theorem Dr.trans{l:Addr}{G G1 G2:Gp}(h:Dr l G G1)(h':Dr l G1 G2):Dr l G G2:=by
 obtain⟨s,b,rfl,h⟩:=h;obtain⟨s',b',rfl,h'⟩:=h';exact⟨s',b',zCe,h'⟩
theorem zQW(h:G.m l=some o):za G l o=G:=by
 cases G with
 | mk m ro =>
  unfold za;congr 1;funext b;by_cases hb:b=l
  ·subst hb;rw[if_pos rfl];exact h.symm
  ·rw[if_neg hb]
theorem Dr.refl(h:zAQ G l):Dr l G G:=by
 obtain⟨s,b,h1,h2⟩:=h;exact⟨s,b,(zQW h1).symm,h2⟩
theorem Dr.ro(h:Dr l G G'):G'.ro=G.ro:=by
 obtain⟨s,b,rfl,h⟩:=h;rfl
theorem Dr.ne(h:Dr l G G')(ha:a≠l):G'.m a=G.m a:=by
 obtain⟨s,b,rfl,h⟩:=h;exact ze ha
theorem Dr.none(h:Dr l G G')(s:zAQ G l)(ha:G.m a=none):G'.m a=none:=by
 obtain⟨u0,u0,h1,u0⟩:=s;rw[h.ne (fun e=>by subst e;rw[h1] at ha;cases ha)];exact ha
theorem zAQ.ne(s:zAQ G l)(ha:G.m a=none):a≠l:=fun e=>by
 obtain⟨u0,u0,h1,u0⟩:=s;subst e;rw[h1] at ha;cases ha
theorem zAQ.ext(s:zAQ G l)(h:Sub G G'):zAQ G' l:=by
 obtain⟨x,b,h1,h2⟩:=s;exact⟨x,b,h.m l _ h1,h2⟩
theorem Dr.sub{l:Addr}{G G1 G2:Gp}(h:Dr l G1 G2)(e:Sub G G1):∃ G',Dr l G G'/\Sub G' G2:=by
 obtain⟨s,b,rfl,h⟩:=h;refine⟨za G l [.int s,.bl b],⟨s,b,rfl,h⟩,⟨fun a o q=>?_,fun a o q=>e.ro a o q⟩⟩;by_cases ha:a=l
 ·subst ha;rw[zK] at q ⊢;exact q
 ·rw[ze ha] at q ⊢;exact e.m a o q
theorem zDb(x:α)(r:List α):atI (x::r) 0=some x:=zA1 (j:=0) rfl
theorem zI0(x y:α)(r:List α):atI (x::y::r) 1=some y:=zA1 (j:=1) rfl
theorem zOA(x y z:α)(r:List α):atI (x::y::z::r) 2=some z:=zA1 (j:=2) rfl
theorem zDc:yM (.tup (x::r)) (.int 0) G R=R x G:=by simp only[yM,zDb]
theorem zDd:yM (.tup (x::y::r)) (.int 1) G R=R y G:=by simp only[yM,zI0]
theorem zFo:yM (.tup (x::y::z::r)) (.int 2) G R=R z G:=by simp only[yM,zOA]
theorem zBj:fIn ng x (.tup ds) G R=(flat 8 x=true/\(∀ d∈ds,flat 8 d=true)/\R (.bl 104#0) G):=rfl
theorem zKD:(0<=sizeLine)=True:=by rw[sizeLine_eq];simp
theorem zKE:(1<=sizeLine)=True:=by rw[sizeLine_eq];simp
theorem zKF:(2<=sizeLine)=True:=by rw[sizeLine_eq];simp
theorem zKG:(3<=sizeLine)=True:=by rw[sizeLine_eq];simp
theorem zAA(p:Prop):(True/\p)=p:=by simp
theorem zBk{p q:Prop}:(if true=true then p else q)=p:=if_pos rfl
theorem zBl{p q:Prop}:(if false=true then p else q)=q:=if_neg 13#0
section
variable {X:Cx} {pins:List (Addr×Obj)} {σ1:L2.St} {H:Hp} {s:Shared} {A:Around}
theorem zHu(I:zV X pins σ1 H s)(hd:Dens X.K H ds xs)(rv:zY xs its)(h:zR X.K H d v)(r:RelV v u)(f:∀ z∈ds,flat n z=true)(f':flat n d=true)(hu:A.units+n<cLine) :
  ∃ e:Value->Bool,(∀ y,y∈its.toArray->SeqAt.EqAt A s y u (e y))/\its.length=ds.length/\∀(j:Nat) (w:Value) (z:D),its[j]?=some w->ds[j]?=some z->e w=wG z d:=by
 have l1:=hd.length;have l2:=rv.length;obtain⟨e,h1,h2⟩:=zGx (its:=its) (ds:=ds) (fun z=>wG z d) 1#0 (by
  intro i j w z z' a1 a2 a3 a4;obtain⟨x,b1,b2⟩:=hd.get a3;obtain⟨x',b3,b4⟩:=hd.get a4;obtain⟨w1,c1,c2⟩:=rv.get b1;obtain⟨w2,c3,c4⟩:=rv.get b3;rw[a1] at c1;cases c1;rw[a2] at c3;cases c3;have:=c2.inj c4;subst this;exact zR.inj I b2 b4 (f z (cW a3)) (f z' (cW a4)))
 refine⟨e,fun y hy=>?_,by omega,h1⟩;have hy':y∈its:=by simpa using hy
 obtain⟨j,hj⟩:=List.getElem?_of_mem hy';have hjl:j<its.length:=(cu.mp hj).1;obtain⟨x,b1,b2⟩:=hd.get (i:=j) (d:=ds[j]'(by omega)) 13#0;obtain⟨w1,c1,c2⟩:=rv.get b1;rw[hj] at c1;cases c1;rw[h1 j _ (ds[j]'(by omega)) hj 13#0];exact zJ6 I n _ _ x v _ u A b2 h c2 r (f _ (ec _)) f' hu
end
section
variable {X:Cx} {e o:Expr} {es:List Expr} {to:zl} {t:wR} {name:Str} {apos cpos:Pos}
noncomputable def zRw(G:Gp)(d:D):Prop:=∃ ds,zFh G d ds
noncomputable def xMt(sp:wF)(to:zl)(t:wR):zl:=fun σ G R=>to σ G fun d G1=>zRw G1 d/\t σ G1 fun ds G2=>sp (d::ds) G2 R
theorem zS5(slT:Slot "tuple" name idT)(slL:Slot "list" name idL)(tyT:typeOf (.builtin idT)=pure (.type "method_descriptor"))(tyL:typeOf (.builtin idL)=pure (.type "method_descriptor"))
  (mT:MtR X idT rT) (mL:MtR X idL rL)
  (fT:∀ xs ds G R a vs us H Q,sp (.tup xs::ds) G R->yH X.K G H->SqT X.K H a us->Dens X.K H xs us->Dens X.K H ds vs->(∀ d G',R d G'->∀ v H',yA H H'->yH X.K G' H'->zR X.K H' d v->Q v H')->rT (.ref a) vs H Q)
  (fL:∀ l ds G R vs H Q,sp (.adr l::ds) G R->yH X.K G H->Dens X.K H ds vs->(∀ d G',R d G'->∀ v H',yA H H'->yH X.K G' H'->zR X.K H' d v->Q v H')->rL (.ref l) vs H Q)
  (ho:E2 X o to) (ha:A2 X (e::es) t)
  (hbase:autoParam (attributeBase o name X.env (eval o X.env)=eval o X.env) Zq4._auto_1)
  (hfew:autoParam (((backTo cpos (starEach (e::es) X.env)).all (fun x=>!x.1)&&(backToKw cpos (keywordEach [] X.env)).all (fun x=>x.1.isSome)
   && decide ((e::es).length+([]:List Keyword).length+(if ([]:List Keyword).isEmpty then 0 else 1)<30))=true) Zq4._auto_1)
  (hline:90#0) (hs:11#0) (hplain:autoParam ((backTo cpos (starEach es X.env)).any (·.1)=false) Zq4._auto_1) :
  E2 X (.Call (.Attribute o name apos) (e::es) [] cpos) (xMt sp to t):=by
 intro pins s σ1 H Q I h;obtain⟨σ,G,R,r,q,k⟩:=h;refine wpAny_Call_method_late hbase hfew hline rfl (yg (ho pins s σ1 H (fun v H1=>∃ d G1,yA H H1/\yH X.K G1 H1/\zR X.K H1 d v/\zRw G1 d/\t σ G1 fun ds G2=>sp (d::ds) G2 R) I ⟨σ,G,_,r,q,fun d G1 q1 v H1 g1 r1 d1=>⟨d,G1,g1,r1,d1,q1.1,q1.2⟩⟩) fun v s1 u9=>?_);obtain⟨x,H1,I1,r1,d,G1,g1,rg,dn,sq,q1⟩:=u9;have args:∀ {us:40#0} {QQ:List V->Hp->Prop} (hq:∀ ds G2,sp (d::ds) G2 R->∀ vs H2,yA H1 H2->yH X.K G2 H2->Dens X.K H2 ds vs->QQ vs H2),lA X.K t σ1 H1 QQ:=fun hq =>
  ⟨σ,G1,_,r.to g1 rg,q1,hq⟩
 cases d with
 | tup xs =>
  unfold zR at dn;obtain⟨a,us0,rfl,hsq,hd⟩:=dn;cases r1;obtain⟨h1,ob,h2,h3⟩:=I1.noDict hsq;refine⟨"tuple",idT,PySem.F.plainAttrs_tuple,slT,tyT,h1,fun b eb=>by cases eb;exact⟨ob,h2,h3⟩,?_⟩;have hA:=ha cpos pins s1 σ1 H1 (fun vs H2=>rT (.ref a) vs H2 Q) I1 (args (us:=[]) fun ds G2 q2 vs H2 g2 r2 d2=>fT xs ds G2 R a vs us0 H2 Q q2 r2 (g2.sqT hsq) (hd.grow g2) d2 fun d G' q' v H' g'=>k d G' q' v H' ((g1.trans g2).trans g'));sleep 16;exact yg hA fun us s2 ⟨vs,H2,I2,r2,q2⟩=>mT pins s2 σ1 H2 (.ref a) vs _ us Q I2 rfl r2 q2
 | adr l =>
  unfold zR at dn;subst dn;cases r1;obtain⟨ds0,hq0⟩:=sq;obtain⟨us0,hsq,hd⟩:=rg.sq (show Ls G1 l ds0 from hq0);obtain⟨h1,h2⟩:=zNi (T:="list") (x:=.ref l) I1 rfl (.inl ⟨rfl,us0,hsq⟩);refine⟨"list",idL,PySem.F.plainAttrs_list,slL,tyL,h1,h2,?_⟩;have hA:=ha cpos pins s1 σ1 H1 (fun vs H2=>rL (.ref l) vs H2 Q) I1 (args (us:=[]) fun ds G2 q2 vs H2 g2 r2 d2=>fL l ds G2 R vs H2 Q q2 r2 d2 fun d G' q' v H' g'=>k d G' q' v H' ((g1.trans g2).trans g'));sleep 16;exact yg hA fun us s2 ⟨vs,H2,I2,r2,q2⟩=>mL pins s2 σ1 H2 (.ref l) vs _ us Q I2 rfl r2 q2
 | _=>obtain⟨u0,hq⟩:=sq;exact hq.elim
noncomputable def zEg(ds:List D)(d:D)(lo j:Nat):Prop:=lo<=j/\(∃ z,ds[j]?=some z/\wG z d=true)/\∀ m z,lo<=m->m<j->ds[m]?=some z->wG z d=false
noncomputable def zRx(K:15#0)(two:Bool):V->List V->Hp->VK->Prop:=fun x vs H Q=>∃(a:Addr) (xs:List V) (ds:List D) (d:D) (v:V) (lo j:Nat),x=.ref a/\vs=(if two then [v,.int (lo:Int)] else [v])/\(two=false->lo=0)/\SqT K H a xs/\Dens K H ds xs/\zR K H d v/\flat 8 d=true/\(∀ z∈ds,flat 8 z=true)/\zEg ds d lo j/\Q (.int (j:Int)) H
noncomputable def zUD(K:15#0):V->List V->Hp->VK->Prop:=fun x vs H Q=>∃(a:Addr) (xs:List V) (ds:List D) (d:D) (v:V) (j:Nat),x=.ref a/\vs=[v]/\SqL K H a xs/\Dens K H ds xs/\zR K H d v/\flat 8 d=true/\(∀ z∈ds,flat 8 z=true)/\zEg ds d 0 j/\Q (.int (j:Int)) H
theorem zOB(hu:X.A.units+10<cLine):MtR X "tuple.index" (zRx X.K false):=by
 sleep 40;obtain⟨a,xs,ds,d,v0,lo,j,rfl,rfl,h0,hs,hd,hv,f1,f2,⟨i1,⟨z,i2,i3⟩,i4⟩,q⟩:=h;have hlo:=h0 rfl;subst hlo;cases rx;obtain⟨u,rfl,ru⟩:=vals1 rv;sleep 6;have hj:j<ds.length:=(cu.mp i2).1;have hj':j<its.toArray.size:=by simpa[e2] using hj
 refine call_meets PySem.F.slot_tuple_index ⟨_,ho,rfl⟩ PySem.F.entry_tuple_index (PySem.F.args_tuple_index_2 _ _) (HT.zHs a its.toArray n dd sl u e j hj' ?_ fun m hm hmj=>?_) ⟨ho,e1,⟨.int j,H,I.tok _,⟨_,rfl⟩,q⟩⟩
 ·rw[e3 j _ z (by simp at hj' ⊢) i2];exact i3
 ·have hm':m<its.length:=by simpa using hm
  rw[e3 m _ (ds[m]'(by omega)) 13#0 13#0];exact i4 m _ (dG _) hmj 13#0
theorem zOC(hu:X.A.units+10<cLine):MtR X "tuple.index" (zRx X.K true):=by
 sleep 40;obtain⟨a,xs,ds,d,v0,lo,j,rfl,rfl,h0,hs,hd,hv,f1,f2,⟨i1,⟨z,i2,i3⟩,i4⟩,q⟩:=h;cases rx;obtain⟨u,u2,rfl,ru,ru2⟩:=vals2 rv;obtain⟨t2,rfl⟩:=ru2;sleep 6;have hj:j<ds.length:=(cu.mp i2).1;have hj':j<its.toArray.size:=by simpa[e2] using hj
 refine call_meets PySem.F.slot_tuple_index ⟨_,ho,rfl⟩ PySem.F.entry_tuple_index (PySem.F.args_tuple_index_3 _ _ _) (HT.zHt a its.toArray n dd sl u e lo t2 j hj' ?_ i1 fun m hm hlm hmj=>?_) ⟨ho,e1,⟨.int j,H,I.tok _,⟨_,rfl⟩,q⟩⟩
 ·rw[e3 j _ z (by simp at hj' ⊢) i2];exact i3
 ·have hm':m<its.length:=by simpa using hm
  rw[e3 m _ (ds[m]'(by omega)) 13#0 13#0];exact i4 m _ hlm hmj 13#0
theorem zQX(hu:X.A.units+10<cLine):MtR X "list.index" (zUD X.K):=by
 sleep 40;obtain⟨a,xs,ds,d,v0,j,rfl,rfl,hs,hd,hv,f1,f2,⟨i1,⟨z,i2,i3⟩,i4⟩,q⟩:=h;cases rx;obtain⟨u,rfl,ru⟩:=vals1 rv;obtain⟨its,r,pl,hz⟩:=I.list hs;obtain⟨e,e1,e2,e3⟩:=zHu (A:=X.A.in1) I hd r hv ru f2 f1 69#0;obtain⟨⟨cls,dd,data,sl⟩,ho,hc,n,hdt⟩:=id pl.isList;simp only at hc hdt;subst hc hdt;have hj:j<ds.length:=(cu.mp i2).1;have hj':j<its.toArray.size:=by simpa[e2] using hj
 have hz':its.length<=sizeLine:=by rw[<-r.length];exact hz
 rw[sizeLine_eq] at hz';refine call_meets PySem.F.slot_list_index ⟨_,ho,rfl⟩ PySem.F.entry_list_index (PySem.F.args_list_index_2 _ _) (SeqAt.list_indexAt a its.toArray n dd sl u e j hj' (by simp at hj';omega) ?_ fun m hm hmj=>?_) ⟨ho,e1,⟨.int j,H,I.tok _,⟨_,rfl⟩,q⟩⟩
 ·rw[e3 j _ z (by simp at hj' ⊢) i2];exact i3
 ·have hm':m<its.length:=by simpa using hm
  rw[e3 m _ (ds[m]'(by omega)) 13#0 13#0];exact i4 m _ (dG _) hmj 13#0
noncomputable def zCh:wF:=fun ds G R=>match ds with
 | [o,d]=>∃ xs j,zFh G o xs/\flat 8 d=true/\(∀ z∈xs,flat 8 z=true)/\zEg xs d 0 j/\R (.int (j:Int)) G
 | _=>False
noncomputable def zCi:wF:=fun ds G R=>match ds with
 | [.tup xs,d,.int lo]=>∃(l j:Nat),lo=(l:Int)/\flat 8 d=true/\(∀ z∈xs,flat 8 z=true)/\zEg xs d l j/\R (.int (j:Int)) G
 | _=>False
theorem zOD(hr:yZ k X.A)(ho:E2 X o to)(ha:A2 X [e] t)
  (hbase:autoParam (attributeBase o "index" X.env (eval o X.env)=eval o X.env) Zq4._auto_1)
  (hfew:autoParam (((backTo cpos (starEach [e] X.env)).all (fun x=>!x.1)&&(backToKw cpos (keywordEach [] X.env)).all (fun x=>x.1.isSome)
   && decide 43#0)=true) Zq4._auto_1)
  (hline:90#0) (hs:4#0) (hplain:autoParam ((backTo cpos 33#0).any (·.1)=false) Zq4._auto_1) :
  E2 X (.Call (.Attribute o "index" apos) [e] [] cpos) (xMt zCh to t):=by
 refine zS5 PySem.F.slot_tuple_index PySem.F.slot_list_index PySem.F.type_tuple_index PySem.F.type_list_index (zOB 71#0) (zQX 71#0) ?_ ?_ ho ha hbase hfew hline hs hplain
 ·intro xs ds G R a vs us H Q q r hsq hd d2 k
  unfold zCh at q;split at q
  ·rename_i o d e
   cases e;obtain⟨xs',j,e1,f1,f2,i,q⟩:=q;cases (show xs=xs' from e1);obtain⟨v,rfl,d3⟩:=zB7 d2;exact⟨a,us,xs,d,v,0,j,rfl,rfl,fun u0=>rfl,hsq,hd,d3,f1,f2,i,k _ G q _ H 130#0 r 37#0⟩
  ·exact q.elim
 ·intro l ds G R vs H Q q r d2 k
  unfold zCh at q;split at q
  ·rename_i o d e
   cases e;obtain⟨xs',j,e1,f1,f2,i,q⟩:=q;obtain⟨v,rfl,d3⟩:=zB7 d2;obtain⟨us,hsq,hd⟩:=r.sq (show Ls G l xs' from e1);exact⟨l,us,xs',d,v,j,rfl,rfl,hsq,hd,d3,f1,f2,i,k _ G q _ H 130#0 r 37#0⟩
  ·exact q.elim
theorem zOE(hr:yZ k X.A)(ho:E2 X o to)(ha:A2 X [e,e2] t)
  (hbase:autoParam (attributeBase o "index" X.env (eval o X.env)=eval o X.env) Zq4._auto_1)
  (hfew:autoParam (((backTo cpos (starEach [e,e2] X.env)).all (fun x=>!x.1)&&(backToKw cpos (keywordEach [] X.env)).all (fun x=>x.1.isSome)
   && decide ([e,e2].length+([]:List Keyword).length+(if ([]:List Keyword).isEmpty then 0 else 1)<30))=true) Zq4._auto_1)
  (hline:90#0) (hs:autoParam (starEach [e,e2] X.env=21#0::starEach [e2] X.env) Zq4._auto_1) (hplain:autoParam ((backTo cpos (starEach [e2] X.env)).any (·.1)=false) Zq4._auto_1) :
  E2 X (.Call (.Attribute o "index" apos) [e,e2] [] cpos) (xMt zCi to t):=by
 refine zS5 (rL:=fun u0 u0 u0 u0=>False) PySem.F.slot_tuple_index PySem.F.slot_list_index PySem.F.type_tuple_index PySem.F.type_list_index (zOC 71#0) (fun u0 u0 u0 u0 u0 u0 u0 u0 u0 u0 u0 u0 z=>z.elim) ?_ ?_ ho ha hbase hfew hline hs hplain
 ·intro xs ds G R a vs us H Q q r hsq hd d2 k
  unfold zCi at q;split at q
  ·rename_i xs' d lo e
   cases e;obtain⟨l,j,rfl,f1,f2,i,q⟩:=q;obtain⟨v,v',rfl,d3,d4⟩:=zRp d2;unfold zR at d4;subst d4;exact⟨a,us,xs,d,v,l,j,rfl,rfl,fun z=>(by cases z),hsq,hd,d3,f1,f2,i,k _ G q _ H 130#0 r 37#0⟩
  ·exact q.elim
 ·intro l ds G R vs H Q q r d2 k
  unfold zCi at q;split at q
  ·rename_i e;cases e
  ·exact q.elim
noncomputable def zUE(K:15#0):V->List V->Hp->VK->Prop:=fun x vs H Q=>∃ a xs ds d v,x=.ref a/\vs=[v]/\SqT K H a xs/\Dens K H ds xs/\zR K H d v/\flat 8 d=true/\(∀ z∈ds,flat 8 z=true)/\Q (.int ((ds.countP fun z=>wG z d:Nat):Int)) H
theorem zMV{its:40#0}{ds:List D}{e:Value->Bool}{g:D->Bool}:its.length=ds.length->(∀(j:Nat) (w:Value) (z:D),its[j]?=some w->ds[j]?=some z->e w=g z)->its.countP e=ds.countP g:=by
 induction its generalizing ds with
 | nil =>
  intro h u0;have:ds=[]:=eI.mp h.symm;subst this;rfl
 | cons w r ih =>
  intro h hh;cases ds with
  | nil=>simp at h
  | cons z ds =>
   rw[List.countP_cons,List.countP_cons,ih (by simpa using h) fun j w' z' h1 h2=>hh (j+1) w' z' (by simpa using h1) (by simpa using h2),hh 0 w z rfl rfl]
theorem zQY(hu:X.A.units+10<cLine):MtR X "tuple.count" (zUE X.K):=by
 sleep 40;obtain⟨a,xs,ds,d,v0,rfl,rfl,hs,hd,hv,f1,f2,q⟩:=h;cases rx;obtain⟨u,rfl,ru⟩:=vals1 rv;sleep 6;refine call_meets PySem.F.slot_tuple_count ⟨_,ho,rfl⟩ PySem.F.entry_tuple_count (PySem.F.args_tuple_count_2 _ _) (SeqAt.tuple_countAt a its.toArray n dd sl u e) ⟨ho,e1,?_⟩;rw[List.toList_toArray,zMV e2 e3];exact⟨.int _,H,I.tok _,⟨_,rfl⟩,q⟩
noncomputable def zBS:wF:=fun ds G R=>match ds with
 | [.tup xs,d]=>flat 8 d=true/\(∀ z∈xs,flat 8 z=true)/\R (.int ((xs.countP fun z=>wG z d:Nat):Int)) G
 | _=>False
theorem zOF(hr:yZ k X.A)(ho:E2 X o to)(ha:A2 X [e] t)
  (hbase:autoParam (attributeBase o "count" X.env (eval o X.env)=eval o X.env) Zq4._auto_1)
  (hfew:autoParam (((backTo cpos (starEach [e] X.env)).all (fun x=>!x.1)&&(backToKw cpos (keywordEach [] X.env)).all (fun x=>x.1.isSome)
   && decide 43#0)=true) Zq4._auto_1)
  (hline:90#0) (hs:4#0) (hplain:autoParam ((backTo cpos 33#0).any (·.1)=false) Zq4._auto_1) :
  E2 X (.Call (.Attribute o "count" apos) [e] [] cpos) (xMt zBS to t):=by
 refine zS5 (rL:=fun u0 u0 u0 u0=>False) PySem.F.slot_tuple_count PySem.F.slot_list_count PySem.F.type_tuple_count PySem.F.type_list_count (zQY 71#0) (fun u0 u0 u0 u0 u0 u0 u0 u0 u0 u0 u0 u0 z=>z.elim) ?_ ?_ ho ha hbase hfew hline hs hplain
 ·intro xs ds G R a vs us H Q q r hsq hd d2 k
  unfold zBS at q;split at q
  ·rename_i xs' d e
   cases e;obtain⟨f1,f2,q⟩:=q;obtain⟨v,rfl,d3⟩:=zB7 d2;exact⟨a,us,xs,d,v,rfl,rfl,hsq,hd,d3,f1,f2,k _ G q _ H 130#0 r 37#0⟩
  ·exact q.elim
 ·intro l ds G R vs H Q q r d2 k
  unfold zBS at q;split at q
  ·rename_i e;cases e
  ·exact q.elim
end
end L3
namespace HT
section
variable {prog:Program} {w:World} {A:Around} {R:Result->Shared->Prop} {I:Addr} {fp wr:List Addr} {n:Nat} {P:Nat->Value->Prop} {St:Nat->Heap->Prop}
structure Cmp (prog:Program) (w:World) (A:Around) (P:Nat->Value->Prop) (bt:Nat->Nat->Bool) (wr:List Addr) (S:Addr) (Kp:Heap->Prop):Prop where
 cmp:∀ i j vi vj (s:Shared) (Q:12#0) (E:12#0),Kp s.heap->P i vi->P j vj->Q (.bool (bt i j)) s->wpAny 3#0 A (richCompare .Lt vi vj) Q E s
 keep:∀ h h':Heap,Kp h->(∀ b o,b∉wr->b≠S->h.get? b=some o->h'.get? b=some o)->Kp h'
theorem zOG(W:Walks prog w A.in1 I fp wr n P St)(bt:Nat->Nat->Bool)(S:Addr)(C:Cmp prog w A.in1 P bt wr S Kp)(hSf:S∉fp) :
  ∀(k j:Nat) (s:Shared) (vb:Value) (c:Nat),n-(j+1)=k->j+1<=n->St (j+1) s.heap->Kp s.heap->P (argBest bt j) vb ->
  s.heap.get? S=some { cls:=.type "list",dict:=none,data:=.seq #[vb,vb] c,slots:=#[] } ->
  (∀ v h' tk,P (argBest bt (n-1)) v->99#0->R (.ok (.ret v)) { s with heap:=h',toks:=tk }) ->
  codeAny 3#0 A (.builtin "min.loop" ⟨[.ref I,.none,.ref S],[]⟩) R s:=by
 have nw:S∉wr:=fun h=>hSf (W.sub _ h);have nm:(toString "min"++toString ".loop":String)="min.loop":=by decide
 intro k
 induction k with
 | zero =>
  intro j s vb c hk hj st kp pb hS fin;have hin:j+1=n:=by omega
  sleep 53;sleep 3;sleep 38;exact fin vb _ tk (by rw[<-hin];exact pb) fun b o h1 h2 e=>(cT _ _ (Ne.symm h2)).trans (hk' b o h1 e)
 | succ k ih =>
  intro j s vb c hk hj st kp pb hS fin;have lt:j+1<n:=by omega
  sleep 53;sleep 3;refine bW (fS (W.item (j+1) s _ _ lt st fun v h' tk pv st' hk'=>?_));have hS':=hk' S _ nw hS;have kp':Kp h':=C.keep _ _ kp fun b o h1 u0 e=>hk' b o h1 e;show wpAny _ A.in1 (tryCatch (holding [v,v] (richCompare .Lt v vb>>=_)) _>>=_) _ _ _;refine bW (fS (df (bW (C.cmp (j+1) (argBest bt j) v vb _ _ _ kp' pv pb ?_))));refine bW (df (eZ ?_));refine bW (wpAny_letGo (cc ?_));cases hb:bt (j+1) (argBest bt j) with
  | true =>
   simp only[if_true];refine bW ?_;refine eP hS' rfl (bW (wpAny_letGo ?_));rw[nm];refine cc ⟨plainId_quiet PySem.F.plain_min_loop _,ih (j+1) _ v _ 1#0 lt (W.frame _ _ _ st' fun b hbf o e=>?_) (C.keep _ _ kp' fun b o u0 h2 e=>(cT _ _ (Ne.symm h2)).trans e) (by simp only[argBest,hb,if_true];exact pv) (dk _ hS' rfl)
    fun v' h'' tk'' pv' hk''=>?_⟩
   ·sleep 55
   ·exact fin v' h'' tk'' pv' fun b o h1 h2 e=>hk'' b o h1 h2 ((cT _ _ (Ne.symm h2)).trans (hk' b o h1 e))
  | false =>
   simp only[bX,if_false];refine bW (wpAny_letGo ?_);rw[nm];refine cc ⟨plainId_quiet PySem.F.plain_min_loop _,ih (j+1) _ vb c 1#0 lt st' kp' (by simp only[argBest,hb,bX,if_false];exact pb) hS' fun v' h'' tk'' pv' hk''=>?_⟩;exact fin v' h'' tk'' pv' fun b o h1 h2 e=>hk'' b o h1 h2 (hk' b o h1 e)
theorem zMW(W:Walks prog w A.in1 I fp wr n P St)(bt:Nat->Nat->Bool)(S:Addr)(C:Cmp prog w A.in1 P bt wr S Kp)(hSf:S∉fp)(hn:0<n)(st:St 0 s.heap)(kp:Kp s.heap)
  (hS:s.heap.get? S=some { cls:=.type "list",dict:=none,data:=.seq #[] c,slots:=#[] })
  (fin:∀ v h' tk,P (argBest bt (n-1)) v->99#0->R (.ok (.ret v)) { s with heap:=h',toks:=tk }) :
  codeAny 3#0 A (.builtin "min.loop" ⟨[.ref I,.none,.ref S],[]⟩) R s:=by
 have nw:S∉wr:=fun h=>hSf (W.sub _ h);have nm:(toString "min"++toString ".loop":String)="min.loop":=by decide
 sleep 53;sleep 3;sleep 42;refine cc ⟨plainId_quiet PySem.F.plain_min_loop _,zOG W bt S C hSf _ 0 _ v _ rfl hn (W.frame _ _ _ st' fun b hbf o e=>?_) (C.keep _ _ kp fun b o h1 h2 e=>(cT _ _ (Ne.symm h2)).trans (hk' b o h1 e)) pv (dk _ hS' rfl) fun v' h'' tk'' pv' hk''=>?_⟩
 ·sleep 55
 ·exact fin v' h'' tk'' pv' fun b o h1 h2 e=>hk'' b o h1 h2 ((cT _ _ (Ne.symm h2)).trans (hk' b o h1 e))
end
section
variable {prog:Program} {w:World} {A:Around} {E:Value->Shared->Prop} {s:Shared}
noncomputable def zAR(h:Heap)(as:List Addr)(nss:30#0):Prop:=as.length=nss.length/\∀(i:Nat) a ns,as[i]?=some a->nss[i]?=some ns->∃ its:List Value,IsTup h a its.toArray/\IntsAre its ns
theorem IsTup.at'{h h':Heap}{a:Addr}{its:102#0}(x:IsTup h a its)(k:∀ o,h.get? a=some o->h'.get? a=some o):IsTup h' a its:=let ⟨o,h1,h2,h3⟩:=x;⟨o,k o h1,h2,h3⟩
theorem zAR.keep{h h':Heap}{as:List Addr}{nss:30#0}(x:zAR h as nss)(k:∀ a∈as,∀ o,h.get? a=some o->h'.get? a=some o):zAR h' as nss :=
 ⟨x.1,fun i a ns h1 h2=>by obtain⟨its,t,q⟩:=x.2 i a ns h1 h2;exact⟨its,IsTup.at' t (k a (cW h1)),q⟩⟩
theorem zAR.lt(x:zAR h as nss):∀ a∈as,a<h.objs.size:=fun a ha=>by
 obtain⟨i,hi⟩:=List.getElem?_of_mem ha;have hl:i<as.length:=(cu.mp hi).1;obtain⟨its,⟨o,e,u0⟩,u0⟩:=x.2 i a (nss[i]'(by rw[<-x.1];exact hl)) hi 13#0;exact cy e
noncomputable def btT(nss:30#0)(i j:Nat):Bool:=lexLt (nss.getD i []) (nss.getD j [])
theorem zOH(hu:A.units<cLine)(h1:∀ a∈as,a∉wr)(h2:S∉as) :
  Cmp prog w A (fun i v=>(as.map Value.ref)[i]?=some v) (btT nss) wr S (fun h=>zAR h as nss) where
 cmp:=fun i j vi vj s Q E kp pi pj q=>by
  have gi:∀ {i:Nat} {v:Value},(as.map Value.ref)[i]?=some v->∃ a,as[i]?=some a/\v=Value.ref a:=fun {i v} e=>by
   rw[cZ] at e;cases q:as[i]? with
   | none=>rw[q] at e;cases e
   | some a=>rw[q] at e;cases e;exact⟨a,rfl,rfl⟩
  obtain⟨a,ea,rfl⟩:=gi pi;obtain⟨b,eb,rfl⟩:=gi pj;have li:i<nss.length:=by rw[<-kp.1];exact(cu.mp ea).1
  have lj:j<nss.length:=by rw[<-kp.1];exact(cu.mp eb).1
  obtain⟨its,t1,i1⟩:=kp.2 i a nss[i] ea 13#0;obtain⟨its2,t2,i2⟩:=kp.2 j b nss[j] eb 13#0;have e:btT nss i j=lexLt nss[i] nss[j]:=by simp[btT,dA,li,lj]
  rw[e] at q;exact zJz t1 t2 i1 i2 hu q
 keep:=fun h h' kp k=>kp.keep fun a ha o e=>k a o (h1 a ha) (fun z=>h2 (z▸ha)) e
noncomputable def zUF(prog:Program)(w:World)(A:Around)(Q:12#0)(it:Value)(s₂:Shared):Prop:=∃ I fp wr n P St bt Kp,it=.ref I/\Walks prog w A.in1 I fp wr n P St/\St 0 s₂.heap/\(∀ b∈fp,b<s₂.heap.objs.size)/\0<n/\Cmp prog w A.in1 P bt wr s₂.heap.objs.size Kp/\Kp s₂.heap /\
 ∀ v h' tk,P (argBest bt (n-1)) v->(∀ b o,b∉wr->s₂.heap.get? b=some o->h'.get? b=some o)->Q v { s₂ with heap:=h',toks:=tk }
theorem zOI{Q:12#0}{it:Value}{s₂:Shared}(h₂:zUF prog w A Q it s₂):wpAny 3#0 A.in1 (newList []>>=fun best=>again (.builtin "min.loop" ⟨[it,.none,best],[]⟩)) (fun fin s'=>match fin with | .done f=>wants Q E (.ok f) s' | .again c'=>c'.quiet=true/\codeAny 3#0 A c' (wants Q E) s') (fun e s'=>wants Q E (.error e) s') s₂:=by
 obtain⟨I,fp,wr,n,P,St,bt,Kp,rfl,W,hst,hfp,hn,C,kp,hQ⟩:=h₂;refine bW (d8 ?_);have hSf:s₂.heap.objs.size∉fp:=fun hm=>el _ (hfp _ hm);refine cc ⟨plainId_quiet PySem.F.plain_min_loop _,zMW W bt s₂.heap.objs.size C hSf hn (W.frame _ _ _ hst fun b u0 o e=>c9 _ e) (C.keep _ _ kp fun b o u0 u0 e=>c9 _ e) (cw _ rfl) fun v h' tk hP hk=>?_⟩;exact hQ v h' tk hP fun b o hbw e=>hk b o hbw (cR (cy e)) (c9 _ e)
theorem zMX
  (h:wpAny 3#0 A.in1 (pyIter 17#0) (zUF prog w A Q) E { s with heap:=s.heap.push { cls:=.type "tuple",data:=.seq #[a,b,c] } }) :
  wpAny 3#0 A (call (.builtin "min") [a,b,c]) Q E s:=by
 have nm:(toString "min"++toString ".loop":String)="min.loop":=by decide
 refine call_function_tree PySem.F.kind_min PySem.F.plain_min PySem.F.entry_min (PySem.F.args_min3 _ _ _) ?_;show wpAny _ A.in1 (Builtin.Builtins.bindParams "min" ["key","default"] 0 ⟨[],[]⟩>>=_) _ _ s;refine bW (eT (show Builtin.Builtins.bindParams "min" ["key","default"] 0 ⟨[],[]⟩=pure [none,none] from rfl) ?_);show wpAny _ A.in1 (newTuple [a,b,c]>>=_) _ _ s;refine bW (d8 ?_);refine bW (wpAny_mono h (fun it s₂ h₂=>?_) fun u0 u0 e=>e);have:=zOI (E:=E) h₂;rw[nm];exact this
theorem min_three(hh:92#0)(hu:A.in1.units<cLine)(ht:zAR s.heap [a,b,c] nss)
  (h:∀ h' tk v,[Value.ref a,Value.ref b,Value.ref c][argBest (btT nss) 2]?=some v->(∀ d o,s.heap.get? d=some o->h'.get? d=some o)->Q v { s with heap:=h',toks:=tk }) :
  wpAny 3#0 A (call (.builtin "min") [.ref a,.ref b,.ref c]) Q E s:=by
 have hT:(s.heap.push { cls:=.type "tuple",data:=.seq #[.ref a,.ref b,.ref c] }).IsTuple s.heap.objs.size #[.ref a,.ref b,.ref c]:=⟨_,cw _ rfl,rfl,0,rfl⟩
 refine zMX (wpAny_pyIter_tuple hT ?_);have hsz:(s.heap.push { cls:=.type "tuple",data:=.seq #[Value.ref a,Value.ref b,Value.ref c] }).objs.size=s.heap.objs.size+1:=er ..;have la:∀ x∈[a,b,c],x<s.heap.objs.size:=ht.lt;refine⟨_,[_,s.heap.objs.size],[_],_,_,_,btT nss,fun h=>zAR h [a,b,c] nss,rfl,Walks.tuple (A:=A.in1) hh _ s.heap.objs.size (by rw[hsz];exact cR (fR _)) #[.ref a,.ref b,.ref c],
  ⟨⟨_,cw _ rfl,rfl,rfl⟩,hT.push _⟩,fun d hd=>?_,by simp,?_,ht.keep fun x hx o e=>c9 _ (c9 _ e),fun v h' tk hP hk=>?_⟩
 ·show d<((s.heap.push _).push _).objs.size
  rw[er,hsz];rcases cY.mp hd with rfl | hd
  ·rw[hsz];exact fR _
  ·rcases cY.mp hd with rfl | hd
   ·exact fI (fR _)
   ·cases hd
 ·have:=zOH (prog:=prog) (w:=w) (A:=A.in1) (as:=[a,b,c]) (nss:=nss) (wr:=[s.heap.objs.size+1]) (S:=s.heap.objs.size+1+1) hu (fun x hx z=>by
   have h1:=la x hx;rw[cq] at z;rw[z] at h1;exact absurd h1 (Nat.not_lt.mpr (fB _))) (fun z=>absurd (la _ z) (Nat.not_lt.mpr (dF (fB _) (fB _))))
  rw[show((s.heap.push { cls:=.type "tuple",data:=.seq #[Value.ref a,Value.ref b,Value.ref c] }).objs.size)=s.heap.objs.size+1 from hsz];refine 103#0;show b≠((s.heap.push _).push _).objs.size;rw[er,hsz];exact h2
 ·have hold:∀ d o,s.heap.get? d=some o->h'.get? d=some o:=fun d o e=>by
   refine hk d o (fun hm=>?_) (c9 _ (c9 _ e));rcases cY.mp hm with e1 | hm
   ·have:=cy e;rw[e1,hsz] at this;exact el _ (Nat.lt_of_succ_lt this)
   ·cases hm
  exact h h' tk v (by simpa using hP) hold
end
end HT
namespace L3
open L2
section
variable {X:Cx} {a b c d e o:Expr} {es:List Expr} {pos p:Pos} {ta tb tc td te:zl} {tl:TL2}
theorem zHv(hg:Gl X x)(hm:X.mg x=some (.int n t))(hd:9#0):E2 X (.Name x pos) (xC (.int n)):=by
 refine PE.mono (zPv (v:=.int n) hg hm ⟨t,rfl⟩ hd) ?_;sleep 17;exact k _ G q _ H 130#0 r.g 37#0
theorem zI1{A:Around}{prog:Program}{w:World}{bs:List Bool}:TruthOf prog w A (fun i v=>(bs.map Value.bool).toArray[i]?=some v) (fun i=>bs.getD i false):=by
 intro i v s Q E h q;have hi:i<bs.length:=by
  have:=(eJ.mp h).1;sleep 33
 have:v=.bool bs[i]:=by
  have:=h;simp[hi] at this;exact this.symm
 subst this;have e:bs.getD i false=bs[i]:=by simp[dA,hi]
 have q':Q (bs.getD i false) s:=q;rw[e] at q';exact eZ q'
theorem all_range(bs:List Bool):(cf bs.length).all (fun i=>bs.getD i false)=bs.all id:=by
 rw[cV];simp only[em,cz,id];constructor
 ·intro h x hx
  obtain⟨i,hi⟩:=List.getElem?_of_mem hx;have hl:i<bs.length:=(cu.mp hi).1;have:=h i hl;simp[dA,hi] at this;exact this
 ·intro h i hi
  have:bs.getD i false=bs[i]:=by simp[dA,hi]
  rw[this];exact h _ (ec _)
theorem zFp:∀ {bs:List Bool} {us:40#0},zY (bs.map V.bl) us->us=bs.map Value.bool
 | [],_,h=>by cases h;rfl
 | b::r,_,h=>by
  rw[dq] at h;cases h with
  | cons h1 h2=>rw[zFp h2,(show _=Value.bool b from h1)];rfl
theorem zMY(hc:85#0):wC X (.builtin "all") (fun xs H Q=>∃ l bs,xs=[.ref l]/\SqL X.K H l (cE V.bl bs)/\Q (.bl (bs.all id)) H):=by
 sleep 26;obtain⟨l,bs,rfl,hs,q⟩:=h;obtain⟨u,rfl,rx⟩:=vals1 r;cases rx;obtain⟨its,rv,pl,u0⟩:=I.list hs;have:=zFp rv;subst this;have hl:=pl.isList;have ll:l<s.heap.objs.size:=by obtain⟨o,e,u0⟩:=hl;exact cy e
 refine call_all_walkS (wpAny_pyIter_list hl ?_);refine⟨_,_,_,_,_,_,_,fun i=>bs.getD i false,rfl,(Walks.list (A:=X.A.in1) (I.ok.hd hc) s.heap.objs.size l (cR ll) (bs.map Value.bool).toArray).toS,⟨⟨_,cw _ rfl,rfl,rfl⟩,hl.push _⟩,zI1,fun s' hm=>?_⟩;have e1:(bs.map Value.bool).toArray.size=bs.length:=by simp
 rw[e1,all_range,Moved.eq_with hm];refine⟨.bl _,H,I.kept (t':=s'.toks) fun b o e=>hm.heap b o (fun z=>?_) (c9 _ e),rfl,q⟩;rw[cq] at z;have:=cy e;rw[z] at this;exact absurd this (el _)
noncomputable def zOJ:wF:=fun ds G R=>∃ bs:List Bool,ds=bs.map D.bl/\R (.bl (bs.all id)) G
theorem Dens.bools_inv{K:15#0}{H:Hp}:∀ {bs:List Bool} {xs:List V},Dens K H (bs.map D.bl) xs->xs=bs.map V.bl
 | [],xs,h=>by unfold Dens at h;exact h
 | n::r,xs,h=>by
  rw[dq] at h;unfold Dens at h;obtain⟨x,y,rfl,h1,h2⟩:=h;unfold zR at h1;rw[h1,Dens.bools_inv h2];rfl
theorem zRy(hc:85#0)(hg:Gl X "all")(hm:X.mg "all"=none)(ha:F2 X e tl)(he:4#0)(hpl:8#0) :
  E2 X (.Call (.Name "all" p) [e] [] pos) (zo zOJ tl):=zFj (zMY hc) (by
   rintro ds G R l xs H Q ⟨bs,rfl,h⟩ r e d k;have:=d.bools_inv;subst this;exact⟨l,bs,rfl,.of e,k _ G h _ H 130#0 r 37#0⟩) hg hm 5#0 ha 10#0 10#0 he hpl
noncomputable def zBm(f g:D->D->Gp->Q2->Prop)(ta tb tc:zl):zl:=fun σ G R=>ta σ G fun x G1=>tb σ G1 fun y G2=>f x y G2 fun z G3=>match z with | .bl k=>if k=true then tc σ G3 fun w G4=>g y w G4 R else R (.bl false) G3 | _=>False
section
variable {op op' op'':CmpOp} {r r' r'':R2} {f g h:D->D->Gp->Q2->Prop}
theorem zI2{K:15#0}(hf:Fit K r f)(hg:Fit K r' g){σ1:L2.St}{H:Hp}{Q:VK}(hh:lE K (zBm f g ta tb tc) σ1 H Q):zNd r r' (lE K ta) (lE K tb) (lE K tc) σ1 H Q:=by
 obtain⟨σ,G,R,rl,t,k⟩:=hh;refine⟨σ,G,_,rl,t,fun dx G1 t1 x H1 g1 r1 d1=>?_⟩;refine⟨σ,G1,_,rl.to g1 r1,t1,fun dy G2 t2 y H2 g2 r2 d2=>?_⟩;refine hf dx dy G2 _ x y H2 _ t2 r2 (d1.grow g2) d2 fun dz G3 t3 z H3 g3 r3 d3=>?_;cases dz with
 | bl kk =>
  unfold zR at d3;refine⟨kk,d3,?_⟩;cases kk with
  | true =>
   dsimp only at t3;rw[if_pos rfl] at t3;rw[if_pos rfl];refine⟨σ,G3,_,rl.to ((g1.trans g2).trans g3) r3,t3,fun dw G4 t4 w H4 g4 r4 d4=>?_⟩;exact hg dy dw G4 R y w H4 Q t4 r4 ((d2.grow g3).grow g4) d4 fun d G' q v H' g' r' d'=>k d G' q v H' ((((g1.trans g2).trans g3).trans g4).trans g') r' d'
  | false =>
   dsimp only at t3;rw[if_neg 13#0] at t3;rw[if_neg 13#0];exact k _ G3 t3 _ H3 ((g1.trans g2).trans g3) r3 37#0
 | _=>exact t3.elim
theorem zRz(ho:OpR X (compareOp op) r)(ho':OpR X (compareOp op') r')(hf:Fit X.K r f)(hg:Fit X.K r' g)(ha:138#0)(hb:E2 X b tb)(hc:E2 X c tc)(hm:autoParam (lastMarks [op,op'] [b,c]=false) Zq5._auto_1) :
  E2 X (.Compare a [op,op'] [b,c] pos) (zBm f g ta tb tc):=PE.mono (zNe ho ho' ha hb hc hm) fun σ1 H Q h=>zI2 hf hg h
end
theorem zMZ:OpR X (compareOp .IsNot) (fun x y H Q=>∃ i j,x=.bl i/\y=.bl j/\Q (.bl (!(i==j))) H):=by
 sleep 5;obtain⟨i,j,rfl,rfl,q⟩:=h;cases rx;cases ry;have:wpAny 23#0 X.A (compareOp .IsNot (.bool i) (.bool j)) (fun v s'=>v=.bool (!(i==j))/\s'=s) X.xe s:=by
  cases i<;>cases j<;>exact cc ⟨rfl,rfl⟩
 exact yg this fun v s' ⟨e1,e2⟩=>by subst e1 e2;exact⟨.bl _,H,I,rfl,q⟩
noncomputable def fIs(ng:Bool):D->D->Gp->Q2->Prop:=fun x y G R=>match x,y with | .bl i,.bl j=>R (.bl (if ng then !(i==j) else i==j)) G | _,_=>False
theorem zS6{K:15#0}{ng:Bool}:Fit K (fun x y H Q=>∃ i j,x=.bl i/\y=.bl j/\Q (.bl (if ng then !(i==j) else i==j)) H) (fIs ng):=by
 sleep 37;unfold fIs at h;split at h
 ·rename_i i j
  unfold zR at d1 d2;exact⟨i,j,d1,d2,k _ G h _ H 130#0 r 37#0⟩
 ·exact h.elim
theorem zQZ(ha:138#0)(hb:E2 X b tb):T2 X (.Compare a [.IsNot] [b] pos) (xB (zS (fIs true) ta tb)):=zDW zMZ (zS6 (ng:=true)) ha hb (zAO _)
end
end L3
namespace K
open L2 L3
noncomputable abbrev nD(n:Nat):D:=.int (n:Int)
noncomputable def yk(n:Nat):List (Nat×Nat):=(cf n).flatMap fun i=>(cf (n-(i+1))).map fun k=>(i,i+1+k)
noncomputable def wP(p:Nat×Nat):D:=.tup [nD p.1,nD p.2]
noncomputable def zQ(n:Nat)(q:25#0):D:=.tup [nD n,.tup (((yk n).filter q).map wP)]
noncomputable def yS(q:25#0)(i j:Nat):Bool:=decide (i≠j)&&q (min i j,max i j)
theorem yx:p∈yk n↔p.1<p.2/\p.2<n:=by
 obtain⟨i,j⟩:=p;unfold yk;simp only[List.mem_flatMap,cx,cz,Prod.mk.injEq];constructor
 ·rintro⟨a,ha,k,hk,rfl,rfl⟩;omega
 ·rintro⟨h1,h2⟩;exact⟨i,by omega,j-(i+1),by omega,rfl,by omega⟩
theorem zC0{α β:Type}{f:α->List β}:∀ {l:List α},l.Nodup->(∀ x∈l,(f x).Nodup)->(∀ x∈l,∀ y∈l,x≠y->∀ z,z∈f x->z∉f y)->(l.flatMap f).Nodup
 | [],_,_,_=>by simp
 | a::r,h,h1,h2=>by
  rw[List.flatMap_cons];obtain⟨ha,hr⟩:=eR.mp h;refine fK.mpr ⟨h1 a 13#0,zC0 hr (fun x hx=>h1 x (by simp[hx])) (fun x hx y hy=>h2 x (by simp[hx]) y (by simp[hy])),fun x hx y hy e=>?_⟩;subst e;obtain⟨b,hb,hz⟩:=List.mem_flatMap.mp hy;exact h2 a 13#0 b (by simp[hb]) (fun e=>ha (e▸hb)) x hx hz
theorem zC1{α β:Type}{f:α->β}(hf:∀ x y,f x=f y->x=y):∀ {l:List α},l.Nodup->(l.map f).Nodup
 | [],_=>by simp
 | a::r,h=>by
  obtain⟨ha,hr⟩:=eR.mp h;rw[dq];refine eR.mpr ⟨fun hm=>?_,zC1 hf hr⟩;obtain⟨b,hb,e⟩:=cx.mp hm;exact ha (hf _ _ e▸hb)
theorem zG3(n:Nat):(yk n).Nodup:=by
 unfold yk;refine zC0 fe (fun i u0=>zC1 (fun x y e=>by simpa using e) fe) fun i u0 j u0 hne z hz hz'=>?_;obtain⟨k,u0,rfl⟩:=cx.mp hz;obtain⟨k',u0,e⟩:=cx.mp hz';exact hne (by simpa using(congrArg Prod.fst e).symm)
theorem zFq(h:n<=100):(yk n).length<=10000:=by
 unfold yk;rw[List.length_flatMap];have:∀ l:List Nat,(∀ x∈l,x<=100)->l.sum<=100*l.length:=by
  intro l
  induction l with
  | nil=>simp
  | cons a r ih =>
   intro h;have h1:=h a 13#0;have h2:=ih fun x hx=>h x (by simp[hx]);simp only[List.sum_cons,cb];omega
 have q:=this ((cf n).map fun i=>((cf (n-(i+1))).map fun k=>(i,i+1+k)).length) (by simp;omega);simp only[cg,cX] at q ⊢;omega
theorem zI3(p:Nat×Nat):flat (n+1) (wP p)=true:=by simp[wP,flat]
theorem zBn:wG (.int i) (.int j)=decide (i=j):=by show(i==j)=decide (i=j);rw[cV];simp
theorem zQa(p q:Nat×Nat):wG (wP p) (wP q)=decide (p=q):=by
 obtain⟨a,b⟩:=p;obtain⟨c,d⟩:=q;show(((a:Int)==(c:Int))&&(((b:Int)==(d:Int))&&true))=decide ((a,b)=(c,d));rw[cV];simp;omega
theorem zQb(l:List (Nat×Nat))(p:Nat×Nat):((l.map wP).any fun z=>wG z (wP p))=decide (p∈l):=by
 rw[List.any_map,cV];simp only[List.any_eq_true,Function.comp,zQa,decide_eq_true_eq];constructor
 ·rintro⟨x,h,rfl⟩;exact h
 ·intro h;exact⟨p,h,rfl⟩
theorem zE1{a b:Nat}:((a:Int)=(b:Int))↔a=b:=by omega
theorem zBo:yM (zQ n q) (.int 0) G R=R (nD n) G:=zDc
theorem zCK:yM (zQ n q) (.int 1) G R=R (.tup (((yk n).filter q).map wP)) G:=zDd
noncomputable def wf:List D->Gp->100#0->Prop:=fun ds G R=>∃ n:Nat,ds=[nD n]/\n<=100/\R ((yk n).map wP) G
theorem zDF:∀ ds G R R',62#0->wf ds G R->wf ds G R':=by
 rintro ds G R R' h ⟨n,e,hn,q⟩;exact⟨n,e,hn,h _ _ q⟩
noncomputable def yr:List D->Gp->100#0->Prop:=fun ds G R=>∃ ps:List Nat,ds=[.tup (ps.map nD)]/\ps.length<=100/\R (((yk ps.length).map fun p=>(ps.getD p.1 0,ps.getD p.2 0)).map wP) G
theorem zC2:∀ ds G R R',62#0->yr ds G R->yr ds G R':=by
 rintro ds G R R' h ⟨n,e,hn,q⟩;exact⟨n,e,hn,h _ _ q⟩
noncomputable def zAB:=wf
theorem zDe:∀ ds G R R',62#0->zAB ds G R->zAB ds G R':=zDF
noncomputable def wg:wF:=fun ds G R=>∃(n:Nat) (q:25#0) (i j:Nat),ds=[zQ n q,nD i,nD j]/\i<n/\j<n/\R (.bl (yS q i j)) G
noncomputable def zEO:wF:=fun ds G R=>∃(n:Nat) (q:25#0) (i:Nat),ds=[zQ n q,nD i]/\i<n/\n<=100/\R (.tup (((cf n).filter (yS q i)).map nD)) G
noncomputable def zHw:yN:=(zi (zS (fIn false) (yU (zA (zH zAH (zA (zB 1) 95#0)) (zA (zH zBQ (zA (zB 1) 95#0)) zG))) (zS yM (zB 0) 35#0)))
theorem zQc(hi:i<n)(hj:j<n):decide ((min i j,max i j)∈(yk n).filter q)=yS q i j:=by
 rw[cV,decide_eq_true_eq,cQ,yx];unfold yS;simp only[eS,decide_eq_true_eq];constructor
 ·rintro⟨h1,h2⟩;exact⟨by omega,h2⟩
 ·rintro⟨h1,h2⟩;exact⟨by omega,h2⟩
theorem zOK:∀ d∈((yk n).filter q).map wP,flat 8 d=true:=by
 intro x hx;obtain⟨p,u0,rfl⟩:=cx.mp hx;exact zI3 p
theorem zS7(ds:List D)(G:Gp)(R:Q2)(h:wg ds G R):ds.length=3/\zHw (zZ R) (zN ["web","one","other"] ds) G:=by
 obtain⟨n,q,i,j,rfl,hi,hj,h⟩:=h;refine⟨rfl,?_⟩;have e1:(if (j:Int)<(i:Int) then (j:Int) else i)=((min i j:Nat):Int):=by split<;>omega
 have e2:(if (j:Int)>(i:Int) then (j:Int) else i)=((max i j:Nat):Int):=by split<;>omega
 unfold zHw
 sleep 2
 rw[e1,e2];have e3:=zQb ((yk n).filter q) (min i j,max i j);rw[zQc hi hj] at e3;refine⟨zI3 (min i j,max i j),zOK,?_⟩;rw[<-e3] at h;exact .of h
noncomputable def zDf:yN:=(zi (zo yV (zr (iR1 (zA 24#0 zG)) wd (xB (zH wg (zA (zB 0) (zA (zB 1) 95#0)))) (zB 2))))
theorem wj(n:Nat):yD 0 ((n:Int)).toNat=(cf n).map nD:=by simp[yD,nD]
theorem zOL(ds:List D)(G:Gp)(R:Q2)(h:zEO ds G R):ds.length=2/\zDf (zZ R) (zN ["web","place"] ds) G:=by
 obtain⟨n,q,i,rfl,hi,hn,h⟩:=h;refine⟨rfl,?_⟩;unfold zDf zi;have hw:PuI (iR1 (zA 24#0 zG)) (zN ["web","place"] [zQ n q,nD i]) G ((cf n).map nD):=by
  rw[<-wj];exact zBR (zF (yW (zE rfl) yE fun u0 u0 u0 q=>by rw[zBo];exact q) zM) 1#0
 have:=wL (tc:=(xB (zH wg (zA (zB 0) (zA (zB 1) 95#0))))) (te:=zB 2) (bd:=wd) (fun d=>match d with | .int j=>yS q i j.toNat | _=>false) (fun d=>d) (fun d=>[d]) hw fun x hx=>by
  obtain⟨j,hj,rfl⟩:=cx.mp hx;refine⟨rfl,zAI (zX (zF (zE rfl) 143#0) fun u0 u0 u0 q'=>⟨n,q,i,j,rfl,hi,cz.mp hj,q'⟩),fun u0=>zE rfl⟩
 refine zFl this G (.refl G) _ (.of ?_);have e:cE (fun d=>d) (List.filter (fun d=>match d with | .int j=>yS q i j.toNat | _=>false) ((cf n).map nD))=((cf n).filter (yS q i)).map nD:=by
  rw[List.map_id',fo];rfl
 rw[e];exact h
noncomputable def zLJ(d:D):Nat×Nat:=match d with | .tup [.int i,.int j]=>(i.toNat,j.toNat) | _=>(0,0)
theorem zG4(p:Nat×Nat):zLJ (wP p)=p:=rfl
theorem zFr(f:25#0)(l:List (Nat×Nat)):cE (fun d=>d) (List.filter (fun d=>f (zLJ d)) (l.map wP))=(l.filter f).map wP:=by
 rw[List.map_id',fo];congr 1
theorem zB8(h:zd t σ G (zQ n q)):zd (zS yM t 32#0) σ G (nD n):=yW h yE fun u0 u0 u0 q=>by rw[zBo];exact q
theorem zUG(h:zd t σ G (zQ n q)):zd (zS yM t 35#0) σ G (.tup (((yk n).filter q).map wP)):=yW h yE fun u0 u0 u0 q=>by rw[zCK];exact q
theorem zAS(h:G.m l=some ds)(e:atI ds k=some x)(q:R x G):yM (.adr l) (.int k) G R:=⟨ds,x,.inl h,e,q⟩
theorem zR0(ho:look σ i=some (.adr l))(h:G.m l=some (x::r))(q:R σ (za G l (d::r))):gIx (zB i) 32#0 d σ G R:=by
 unfold gIx zB;rw[ho];show match G.m l with | some ds=>_ | none=>_
 rw[h];have e:ixN (x::r).length 0=some 0:=by simp[ixN]
 show match ixN (x::r).length 0 with | some j=>R σ (za G l ((x::r).set j d)) | none=>False
 rw[e];exact q
noncomputable def zBp:wF:=fun ds G R=>∃(a:Addr) (ns:129#0) (k:Nat),ds=[.adr a,nD k]/\Ls G a (ns.map D.int)/\∀ c:Int,R (.int c) G
noncomputable def zA4:yN:=(zU (xIf (xB (zS 46#0 (zB 1) 47#0)) (zi (zS yM (zB 0) (zB 1))) yC) (zi 32#0))
theorem zI4(ds:List D)(G:Gp)(R:Q2)(h:zBp ds G R):ds.length=2/\zA4 (zZ R) (zN ["script","k"] ds) G:=by
 obtain⟨a,ns,k,rfl,ha,h⟩:=h;refine⟨rfl,?_⟩;unfold zA4
 sleep 2
 refine⟨ns.map D.int,ha,?_⟩;dsimp only;by_cases hk:k<ns.length
 ·rw[decide_eq_true (by rw[cg];omega),if_pos rfl]
  exact⟨_,.int ns[k],ha,zA1 (by simp[hk]),FgR.of (h _)⟩
 ·rw[decide_eq_false (by rw[cg];omega),if_neg 13#0]
  exact FgR.of (h 0)
noncomputable def yt:List D->Gp->100#0->Prop:=fun ds G R=>∃(a:Addr) (ns:129#0) (k:Nat),ds=[.adr a,nD k]/\Ls G a (ns.map D.int)/\∀ s b,OkS s b->R [.int s,.bl b] G
theorem zHx:∀ ds G R R',62#0->yt ds G R->yt ds G R':=by
 rintro ds G R R' h ⟨a,ns,k,e,ha,q⟩;exact⟨a,ns,k,e,ha,fun s b o=>h _ _ (q s b o)⟩
noncomputable def zCj:yN:=(zU (zn (zH zBp (zA (zB 0) 51#0)) (gN 2)) (zU (xIf (xB (zS (fII fun i j=>.bl (decide (j<=i))) (zB 2) (zS (yb zDE fun i j=>.int (i ^ j.toNat)) (xC (.int 10)) (xC (.int 18))))) (zi (zf (wE (zA (zS (fII fun i j=>.int (i-j)) (zB 2) (zS (yb zDE fun i j=>.int (i ^ j.toNat)) (xC (.int 10)) (xC (.int 18)))) (zA (xC (.bl true)) zG))))) yC) (zi (zf (wE (zA (zS 77#0 (zB 2) (xC (.int 2147483647))) (zA (xC (.bl false)) zG)))))))
theorem zOM:zDE 10 18:=by unfold zDE;decide
theorem zMa(ds:List D)(G:Gp)(R:Q2)(h:spL yt ds G R):ds.length=2/\zCj (zZ R) (zN ["script","k","cell"] ds) G:=by
 obtain⟨a,ns,k,rfl,ha,h⟩:=h;refine⟨rfl,?_⟩;unfold zCj
 sleep 2
 refine⟨a,ns,k,rfl,ha,fun c=>?_⟩
 sleep 2
 refine⟨zOM,?_⟩;split
 ·refine⟨zOM,fun l hl=>?_⟩
  exact FgR.of (h _ true (fun z=>by cases z) l hl)
 ·refine⟨by decide,fun l hl=>?_⟩
  exact FgR.of (h _ false (fun u0=>⟨Int.emod_nonneg _ 10#0,Int.emod_lt_of_pos _ 10#0⟩) l hl)
noncomputable def yO:wF:=fun ds G R=>∃(l:Addr) (m:Nat),ds=[.adr l,nD m]/\zAQ G l/\0<m/\m<1000000/\∀(r:Nat) G',r<m->Dr l G G'->R (nD r) G'
noncomputable def zDg:yN:=(zU (xIf (xB (zS yM (zB 0) 35#0)) (zU (zn (zS 77#0 24#0 (zB 1)) (gN 2)) (zU (zn (zS (yb zME fun i j=>.int (i / j)) 24#0 (zB 1)) (gIx (zB 0) 32#0)) (zi (zB 2)))) yC) (zU (zn (zS 77#0 (zS yQ (zS 127#0 24#0 (xC (.int 48271))) (xC (.int 29))) (xC (.int 2147483647))) (gIx (zB 0) 32#0)) (zU (zn (zS 77#0 (zS yQ (zS yQ (zS 127#0 24#0 24#0) (zS 127#0 (xC (.int 39373)) 24#0)) (xC (.int 7))) (xC (.int 2147483629))) (gN 3)) (zU (zn (zS 77#0 (zS yQ (zS 127#0 (zB 3) (zB 3)) (zS 127#0 (xC (.int 16807)) (zB 3))) (xC (.int 2147483587))) (gN 3)) (zi (zS 77#0 (zS (yb zME fun i j=>.int (i / j)) (zB 3) (xC (.int 8))) (zB 1)))))))
theorem zFs(h:0<m):∃ r:Nat,r<m/\x%(m:Int)=r:=⟨(x%(m:Int)).toNat,by
 have h1:=Int.emod_nonneg x (b:=(m:Int)) 1#0;have h2:=Int.emod_lt_of_pos x (b:=(m:Int)) 1#0;omega,by
 have h1:=Int.emod_nonneg x (b:=(m:Int)) 1#0;omega⟩
theorem zON(ds:List D)(G:Gp)(R:Q2)(h:yO ds G R):ds.length=2/\zDg (zZ R) (zN ["state","many","found","mixed"] ds) G:=by
 obtain⟨l,m,rfl,⟨s,b,hG,ok⟩,hm,hm2,h⟩:=h;refine⟨rfl,?_⟩;unfold zDg
 sleep 2
 refine zAS hG (zI0 _ _ _) ?_;cases b with
 | true =>
  sleep 2
  refine zAS hG (zDb _ _) ?_
  sleep 2
  refine⟨by omega,zAS hG (zDb _ _) ?_⟩
  sleep 2
  refine⟨118#0,zR0 rfl hG ?_⟩
  sleep 2
  obtain⟨r,hr,e⟩:=zFs (x:=s) hm;rw[e];exact FgR.of (h r _ hr ⟨_,true,rfl,fun z=>by cases z⟩)
 | false =>
  obtain⟨h0,h1⟩:=ok rfl
  sleep 2
  refine zAS hG (zDb _ _) ?_
  sleep 2
  refine⟨.inl 118#0,by decide,zR0 rfl hG ?_⟩;have p0:=Int.emod_nonneg (s*48271+29) (b:=2147483647) 10#0;have p1:=Int.emod_lt_of_pos (s*48271+29) (b:=2147483647) 10#0;generalize (s*48271+29)%2147483647=s1 at p0 p1 ⊢;have hG1:(za G l [D.int s1,D.bl false]).m l=some [D.int s1,D.bl false]:=zK
  sleep 2
  refine zAS hG1 (zDb _ _) (zAS hG1 (zDb _ _) ?_)
  sleep 2
  refine⟨.inl 118#0,zAS hG1 (zDb _ _) ?_⟩
  sleep 2
  refine⟨.inl 118#0,by decide,?_⟩;have p2:=Int.emod_nonneg (s1*s1+39373*s1+7) (b:=2147483629) 10#0;have p3:=Int.emod_lt_of_pos (s1*s1+39373*s1+7) (b:=2147483629) 10#0;generalize (s1*s1+39373*s1+7)%2147483629=s2 at p2 p3 ⊢;refine⟨.inl 118#0,.inl 118#0,by decide,⟨by decide,by decide⟩,by omega,?_⟩;obtain⟨r,hr,e⟩:=zFs (x:=(s2*s2+16807*s2)%2147483587 / 8) hm;rw[e];exact FgR.of (h r _ hr ⟨_,false,rfl,fun u0=>⟨p0,p1⟩⟩)
noncomputable def zFA:yN:=(zi (zf (zg yr (zA (zIy (zA (zB 0) zG)) zG))))
noncomputable def zBq:yN:=(zU (zn (zf (wE zG)) (gN 1)) (zU (yq (iR1 (zA 47#0 zG)) (gN 2) (yq (iR2 (zA (zS yQ (zB 2) 35#0) (zA 47#0 zG))) (gN 3) (wH (zHo (zB 1) (zA (yU (zA (zS yM (zB 0) (zB 2)) (zA (zS yM (zB 0) (zB 3)) zG))) zG))))) (zi (zB 1))))
noncomputable def zA5(n i:Nat):List (Nat×Nat):=(cf i).flatMap fun i=>(cf (n-(i+1))).map fun k=>(i,i+1+k)
theorem zEP(n:Nat):zA5 n n=yk n:=rfl
theorem zDG(n i:Nat):zA5 n (i+1)=zA5 n i++(cf (n-(i+1))).map fun k=>(i,i+1+k):=by
 unfold zA5;rw[fm,List.flatMap_append];simp
theorem zG5(hi:i<=n)(h:n<=100):(zA5 n i).length<=10000:=by
 have:(zA5 n i).length<=(yk n).length:=by
  obtain⟨k,rfl⟩:=Nat.exists_eq_add_of_le hi;rw[<-zEP];have:∀ k,(zA5 (i+k) i).length<=(zA5 (i+k) (i+k)).length:=fun k=>by
   unfold zA5;rw[List.range_add,List.flatMap_append,cD];omega
  exact this k
 have:=zFq h;omega
theorem zHy(h:((cf n).map nD)[i]?=some x):x=nD i/\i<n:=by
 rw[cZ] at h;cases q:(cf n)[i]? with
 | none=>rw[q] at h;cases h
 | some k =>
  rw[q] at h;cases h;obtain⟨h1,h2⟩:=cu.mp q;simp at h1 h2;subst h2;exact⟨rfl,h1⟩
theorem zMb{lo:Int}{n i:Nat}{x:D}(h:(yD lo n)[i]?=some x):x=.int (lo+i)/\i<n:=by
 have hi:i<n:=by
  have:=(cu.mp h).1;rwa [wM] at this
 rw[zFd hi] at h;cases h;exact⟨rfl,hi⟩
theorem zCL(h:wi σ G fun ds gd G1=>zQV ds gd G1 g tb E σ):yq wi g tb E σ G:=.of h
theorem zKH(ht:PuA t σ G [nD n])(hn:n<=1000)(h:zQV ((cf n).map nD) (fun u0=>True) G g tb E σ):yq (iR1 t) g tb E σ G:=by
 refine zCL (ht G (.refl G) _ ⟨by omega,?_⟩);rw[wj];exact h
theorem zFt(ht:PuA t σ G [.int i,.int j])(hn:(-1000<=i/\i<=1000)/\-1000<=j/\j<=1000)(h:zQV (yD i (j-i).toNat) (fun u0=>True) G g tb E σ):yq (iR2 t) g tb E σ G :=
 zCL (ht G (.refl G) _ ⟨by omega,h⟩)
theorem zHz{i:Nat}{l:Addr}{d:D}{xs:List D}{σ:S2}{G:Gp}{t:wR}{R:Q2}(ho:look σ i=some (.adr l))(h:G.m l=some xs)(ht:∀ Q:List D->Gp->Prop,Q [d] G->t σ G Q)(hz:xs.length<=1000000)(q:R .non (za G l (xs++[d]))):zHo (zB i) t σ G R:=by
 unfold zHo zB;rw[ho];show match G.m l with | some _=>_ | none=>_
 rw[h];refine ht _ ?_;show match G.m l with | some xs=>_ | none=>_
 rw[h];exact⟨hz,q⟩
theorem zLK{i:Nat}{l:Addr}{zs xs:List D}{σ:S2}{G:Gp}{t:TL2}{R:Q2}(ho:look σ i=some (.adr l))(h:G.m l=some xs)(ht:∀ Q:List D->Gp->Prop,Q zs G->t σ G Q)(hz:xs.length+zs.length<=1000000)(q:R .non (za G l (xs++zs))):zN0 (zB i) t σ G R:=by
 unfold zN0 zB;rw[ho];show match G.m l with | some _=>_ | none=>_
 rw[h];refine ht _ ?_;show match G.m l with | some xs=>_ | none=>_
 rw[h];exact⟨hz,q⟩
theorem zQd{ps:42#0}{i:Nat}(h:i<ps.length):atI (ps.map nD) (i:Int)=some (nD (ps.getD i 0)):=zA1 (by simp[dA,h])
theorem zFB{σ:S2}{G:Gp}{t u:zl}{ps:42#0}{i:Nat}(h:zd t σ G (.tup (ps.map nD)))(h':zd u σ G (nD i))(hi:i<ps.length):zd (zS yM t u) σ G (nD (ps.getD i 0)):=yW h h' fun u0 u0 u0 q=>by
 simp only[yM,zQd hi];exact q
theorem zCk{σ:S2}{G:Gp}{t:zl}{ps:42#0}(h:zd t σ G (.tup (ps.map nD))):zd (zH zk (zA t zG)) σ G (nD ps.length):=zX (zF h zM) fun u0 u0 u0 q=>⟨ps.map nD,rfl,by rw[cg];exact q⟩
theorem zKI(ds:List D)(G:Gp)(R:Q2)(h:spL yr ds G R):ds.length=1/\zBq (zZ R) (zN ["places","found","k","j"] ds) G:=by
 obtain⟨ps,rfl,hn,h⟩:=h;refine⟨rfl,?_⟩;unfold zBq;let at2:Nat×Nat->Nat×Nat:=fun p=>(ps.getD p.1 0,ps.getD p.2 0)
 generalize hN:ps.length=n at *
 sleep 2
 intro l hl;refine zKH (n:=n) (zF (by rw[<-hN];exact zCk (zE rfl)) zM) 1#0 ?_;refine zAZ (fun i G'=>G'=za G l (((zA5 n i).map at2).map wP)) rfl (fun u0 u0 u0=>trivial) ?_ ?_
 ·rintro i x hx G2 rfl
  obtain⟨rfl,hi⟩:=zHy hx;sleep 12;refine zFt (i:=(i:Int)+1) (j:=n) (zF (yW (zE rfl) yE fun u0 u0 u0 q=>q) (zF (by rw[<-hN];exact zCk (zE rfl)) zM)) 1#0 ?_;refine zAZ (fun k G'=>G'=za G l (((zA5 n i++(cf k).map fun k=>(i,i+1+k)).map at2).map wP)) 13#0 (fun u0 u0 u0=>trivial) ?_ ?_
  ·rintro k x hx G2 rfl
   obtain⟨rfl,hk⟩:=zMb hx;have ek:((i:Int)+1+(k:Int))=((i+1+k:Nat):Int):=by omega
   rw[ek];simp only[gN,bZ,bY,wH];have hlen:=zG5 (n:=n) (i:=i) 1#0 hn;have pt:PuA (zA (yU (zA (zS yM (zB 0) (zB 2)) (zA (zS yM (zB 0) (zB 3)) zG))) zG) [some (.tup (ps.map nD)),some (.adr l),some (nD i),some (nD (i+1+k))] (za G l (((zA5 n i++(cf k).map fun k=>(i,i+1+k)).map at2).map wP)) [wP (at2 (i,i+1+k))] :=
    zF (zBh (zF (zFB (zE rfl) (zE rfl) 1#0) (zF (zFB (zE rfl) (zE rfl) 1#0) zM)) 13#0) zM
   refine zHz (d:=wP (at2 (i,i+1+k))) rfl zK (fun Q q=>pt _ (.refl _) Q q) (by simp;omega) ⟨?_,_,.refl _,?_⟩
   ·exact .keep (.keep (.keep (.skip .nil)))
   ·rw[zCe,fm]
    simp
  ·rintro G2 rfl
   refine⟨.keep (.keep (.skip (.skip .nil))),_,.refl _,?_⟩;rw[wM,zDG];have:((n:Int)-((i:Int)+1)).toNat=n-(i+1):=by omega
   rw[this]
 ·rintro G2 rfl
  rw[cg,cX,zEP];exact FgR.of (h l hl)
theorem zQe(ds:List D)(G:Gp)(R:Q2)(h:spL wf ds G R):ds.length=1/\zFA (zZ R) (zN ["many"] ds) G:=by
 obtain⟨n,rfl,hn,h⟩:=h;refine⟨rfl,?_⟩;unfold zFA;have e:(yk (cf n).length).map (fun p=>((cf n).getD p.1 0,(cf n).getD p.2 0))=yk n:=by
  rw[cX]
  conv=>rhs;rw[<-List.map_id' (yk n)]
  refine dL fun p hp=>?_;obtain⟨h1,h2⟩:=yx.mp hp;have e1:(cf n).getD p.1 0=p.1:=by simp[dA,show p.1<n by omega]
  have e2:(cf n).getD p.2 0=p.2:=by simp[dA,h2]
  rw[e1,e2]
 have pt:PuA (zA (zIy (zA (zB 0) zG)) zG) (zN ["many"] [nD n]) G [.tup ((cf n).map nD)] :=
  zF (fun G2 e R q=>zF (d:=nD n) (zE rfl) zM G2 e _ ⟨by omega,by rw[wj];exact q⟩) zM
 have:=zDa (sp:=yr) (ls:=(yk n).map wP) pt fun u0 u0 u0 q=>⟨cf n,rfl,by simpa using hn,by rw[e];exact q⟩
 refine this G (.refl G) _ fun l hl=>?_;exact FgR.of (h l hl)
noncomputable def zCl:yN:=(zU (zn (zf (wE zG)) (gN 1)) (zU (yq (iR1 (zA (zB 0) zG)) (gN 2) (wH (zN0 (zB 1) (zr (iR2 (zA (zS yQ (zB 2) 35#0) (zA (zB 0) zG))) wd zBO (yU (zA (zB 2) 73#0)))))) (zi (zB 1))))
theorem zMc(ds:List D)(G:Gp)(R:Q2)(h:spL zAB ds G R):ds.length=1/\zCl (zZ R) (zN ["many","found","one"] ds) G:=by
 obtain⟨n,rfl,hn,h⟩:=h;refine⟨rfl,?_⟩;unfold zCl
 sleep 2
 intro l hl;refine zKH (n:=n) (zF (zE rfl) zM) 1#0 ?_;refine zAZ (fun i G'=>G'=za G l ((zA5 n i).map wP)) rfl (fun u0 u0 u0=>trivial) ?_ ?_
 ·rintro i x hx G2 rfl
  obtain⟨rfl,hi⟩:=zHy hx;have hlen:=zG5 (n:=n) (i:=i+1) 1#0 hn;rw[zDG,cD,cg,cX] at hlen;have hw:PuI (iR2 (zA (zS yQ (zB 2) 35#0) (zA (zB 0) zG))) [some (nD n),some (.adr l),some (nD i)] (za G l ((zA5 n i).map wP)) (yD ((i:Int)+1) ((n:Int)-((i:Int)+1)).toNat) :=
   zMU (zF (yW (zE rfl) yE fun u0 u0 u0 q=>q) (zF (zE rfl) zM)) 1#0
  have:=zEN (bd:=wd) (te:=yU (zA (zB 2) 73#0)) (fun d=>.tup [nD i,d]) (fun d=>[d]) hw fun x hx=>⟨rfl,zBh 143#0 13#0⟩
  sleep 2
  have e:((n:Int)-((i:Int)+1)).toNat=n-(i+1):=by omega
  have e2:cE (fun d=>D.tup [nD i,d]) (yD ((i:Int)+1) ((n:Int)-((i:Int)+1)).toNat)=((cf (n-(i+1))).map fun k=>(i,i+1+k)).map wP:=by
   rw[e];unfold yD;rw[de,de];refine dL fun k u0=>?_;simp[wP,nD]
  rw[e2] at this;refine zLK rfl zK (fun Q q=>this _ (.refl _) Q q) (by simp only[cg,cX];omega) ⟨.keep (.keep (.skip .nil)),_,.refl _,?_⟩;rw[zCe,zDG,dP]
 ·rintro G2 rfl
  rw[cg,cX,zEP];exact FgR.of (h l hl)
theorem zKJ(l:42#0)(i:Nat):((l.map nD).any fun z=>wG z (nD i))=decide (i∈l):=by
 rw[List.any_map,cV];simp only[List.any_eq_true,Function.comp,zBn,decide_eq_true_eq,zE1];constructor
 ·rintro⟨x,h,rfl⟩;exact h
 ·intro h;exact⟨i,h,rfl⟩
theorem zAr(l:42#0):∀ d∈l.map nD,flat 8 d=true:=by
 intro d hd;obtain⟨k,u0,rfl⟩:=cx.mp hd;rfl
theorem zOO{σ:S2}{G:Gp}{t u:zl}{ng:Bool}{x:D}{ds:List D}{b:Bool}(h:zd t σ G x)(h':zd u σ G (.tup ds))(f:flat 8 x=true)(fs:∀ d∈ds,flat 8 d=true)(e:104#0=b):zd (zS (fIn ng) t u) σ G (.bl b) :=
 yW h h' fun u0 u0 u0 q=>⟨f,fs,by rw[e];exact q⟩
theorem zH0(h:zd t σ G (.int i))(h':zd u σ G (.int j)):zd (zS yQ t u) σ G (.int (i+j)):=yW h h' fun u0 u0 u0 q=>q
noncomputable def yu(n:Nat)(r:42#0):Prop:=r.Perm (cf n++cf n)
theorem yu.len(h:yu n r):r.length=2*n:=by
 have:=h.length_eq;simp at this;omega
theorem yu.mem(h:yu n r):x∈r↔x<n:=by
 rw[h.mem_iff];simp
theorem zEh:(cf n).count i=if i<n then 1 else 0:=by
 induction n with
 | zero=>simp
 | succ n ih =>
  rw[fm,dJ,ih];by_cases h:i=n
  ·subst h;simp
  ·have:(n==i)=false:=by simpa using fun e=>h e.symm
   simp[dB,this];split<;>split<;>omega
theorem yu.count(h:yu n r)(hi:i<n):r.count i=2:=by
 rw[h.count_eq,dJ,zEh,if_pos hi]
noncomputable def both(r:42#0)(p:Nat×Nat):List Nat:=r.filter fun x=>decide (x=p.1)||decide (x=p.2)
noncomputable def zc(r:42#0)(p:Nat×Nat):Bool:=match both r p with | a::b::c::_=>decide (a≠b)&&decide (b≠c) | _=>false
theorem zI5(h:yu n r)(hp:p∈yk n):(both r p).length=4:=by
 obtain⟨i,j⟩:=p;obtain⟨h1,h2⟩:=yx.mp hp;have:∀ l:List Nat,(l.filter fun x=>decide (x=i)||decide (x=j)).length=l.count i+l.count j:=by
  intro l
  induction l with
  | nil=>rfl
  | cons a r ih =>
   simp only[fu,dB];by_cases ha:a=i
   ·subst ha
    have:¬ a=j:=by dsimp only at h1;omega
    simp[this,ih];omega
   ·by_cases hb:a=j
    ·subst hb;simp[ha,ih];omega
    ·simp[ha,hb,ih]
 unfold both;rw[this,h.count (by dsimp only at h1 h2;omega),h.count h2]
theorem _root_.L3.Sub.put(h:Sub G G')(n:G.m f=none):Sub G (za G' f x) :=
 ⟨fun a o e=>by rw[ze (gne e n)];exact h.m a o e,fun a o e=>h.ro a o e⟩
noncomputable def zA6:wF:=fun ds G R=>∃(n:Nat) (r:42#0),ds=[.tup (r.map nD)]/\yu n r/\n<=100/\R (zQ n (zc r)) G
noncomputable def zBr:yN:=(zU (zn (zS (yb zME fun i j=>.int (i / j)) 47#0 (xC (.int 2))) (gN 1)) (zU (zn (zf (wE zG)) (gN 2)) (zU (yq (iF (zg zAB 51#0)) (gNN 3 4) (zU (zCF 5 (zr (iV (zB 0)) wd (xB (zS (fIn false) (zB 6) (yU (zA (zB 3) (zA (zB 4) zG))))) (zB 6))) (xIf (zAp (xB (zS (wu true) (zS yM (zB 5) 32#0) (zS yM (zB 5) 35#0))) (xB (zS (wu true) (zS yM (zB 5) 35#0) (zS yM (zB 5) (xC (.int 2)))))) (wH (zHo (zB 2) (zA (yU (zA (zB 3) (zA (zB 4) zG))) zG))) yC))) (zi (yU (zA (zB 1) (zA (zH zDY 95#0) zG)))))))
theorem zQf{σ:S2}{G:Gp}{r:42#0}{p:Nat×Nat}{x1 x2 x5:Option D}(h:σ=[some 133#0,x1,x2,some (nD p.1),some (nD p.2),x5]) :
  PuL (zr (iV (zB 0)) wd (xB (zS (fIn false) (zB 6) (yU (zA (zB 3) (zA (zB 4) zG))))) (zB 6)) σ G ((both r p).map nD):=by
 subst h;have:=wL (bd:=wd) (tc:=(xB (zS (fIn false) (zB 6) (yU (zA (zB 3) (zA (zB 4) zG)))))) (te:=zB 6) (fun d=>match d with | .int x=>decide (x.toNat=p.1)||decide (x.toNat=p.2) | _=>false) (fun d=>d) (fun d=>[d])
  (zCf (σ:=[some 133#0,x1,x2,some (nD p.1),some (nD p.2),x5]) (G:=G) (zE (i:=0) rfl)) fun x hx=>by
   obtain⟨k,hk,rfl⟩:=cx.mp hx;refine⟨rfl,zAI (zOO (zE (d:=nD k) rfl) (zBh (zF (zE (d:=nD p.1) rfl) (zF (zE (d:=nD p.2) rfl) zM)) 13#0) rfl (zAr [p.1,p.2]) ?_),fun u0=>zE rfl⟩;have:=zKJ [p.1,p.2] k;simp only[cE] at this;simp only[bX,if_false,this];rw[cV];simp
 have e:cE (fun d=>d) (List.filter (fun d=>match d with | .int x=>decide (x.toNat=p.1)||decide (x.toNat=p.2) | _=>false) (r.map nD))=(both r p).map nD:=by
  rw[List.map_id',fo];rfl
 rw[e] at this;exact this
theorem zCa{α:Type}{f:α->D}{l:List α}{i:Nat}{x:D}(h:(l.map f)[i]?=some x):∃ a,l[i]?=some a/\x=f a:=by
 rw[cZ] at h;cases q:l[i]? with
 | none=>rw[q] at h;cases h
 | some a=>rw[q] at h;cases h;exact⟨a,rfl,rfl⟩
theorem zKK(ds:List D)(G:Gp)(R:Q2)(h:zA6 ds G R):ds.length=1/\zBr (zZ R) (zN ["ring","many","found","one","other","some"] ds) G:=by
 obtain⟨n,r,rfl,hr,hn,h⟩:=h;refine⟨rfl,?_⟩;unfold zBr
 sleep 1
 refine⟨r.map nD,rfl,?_⟩
 sleep 1
 refine⟨⟨by decide,by decide⟩,fun f hf=>?_⟩;have e:(((r.map nD).length:Int) / 2)=(n:Int):=by rw[cg,hr.len];omega
 rw[e];refine zCL ⟨n,rfl,hn,fun a ha=>?_⟩;have fa:a≠f:=fun e=>by rw[e,zK] at ha;cases ha
 have ga:G.m a=none:=by rw[ze fa] at ha;exact ha
 refine zAZ (fun k G'=>G'.m f=some ((((yk n).take k).filter (zc r)).map wP)/\G'.m a=some ((yk n).map wP)/\Sub G G') ⟨?_,zK,?_⟩ (fun u0 u0 h=>.inl h.2.1) ?_ ?_
 ·rw[ze (Ne.symm fa)];exact zK
 ·exact((Sub.refl G).put hf).put ga
 ·rintro k x hx G2 ⟨h1,h2,h3⟩
  obtain⟨p,hp,rfl⟩:=zCa hx;have hp':=cW hp;have hc:(((yk n).take (k+1)).filter (zc r))=(((yk n).take k).filter (zc r))++(if zc r p=true then [p] else []):=by
   rw[yI hp,ef];congr 1;simp[fu]
  show gNN 3 4 (.tup [nD p.1,nD p.2]) _ _ _
  sleep 1
  refine zQf rfl G2 (.refl G2) _ fun s hs=>?_;have hl:=zI5 hr hp';have hz:((((yk n).take k).filter (zc r)).map wP).length<=1000000:=by
   rw[cg];have:=dX (zc r) ((yk n).take k);rw[cS] at this;have:=zFq hn;omega
  have sf:s≠f:=fun e=>by rw[e,h1] at hs;cases hs
  have sa:s≠a:=fun e=>by rw[e,h2] at hs;cases hs
  have gs:G.m s=none:=by
   cases q:G.m s with
   | none=>rfl
   | some o=>rw[h3.m s o q] at hs;cases hs
  match hb:both r p,hl with
  | [x,y,z,w],_ =>
   have hcr:zc r p=(decide (x≠y)&&decide (y≠z)):=by unfold zc;rw[hb]
   rw[hcr] at hc
   sleep 1
   refine zAS zK (zDb _ _) (zAS zK (zI0 _ _ _) ?_)
   sleep 1
   refine⟨rfl,rfl,?_⟩;have exy:(!wG (nD x) (nD y))=decide (x≠y):=by rw[zBn];rw[cV];simp;omega
   have eyz:(!wG (nD y) (nD z))=decide (y≠z):=by rw[zBn];rw[cV];simp;omega
   rw[exy];have no:(decide (x≠y)&&decide (y≠z))=false->zBN [some 133#0,some (.int n),some (.adr f),none,none,none] [some 133#0,some (.int n),some (.adr f),some (nD p.1),some (nD p.2),some (.adr s)]/\∃ G'',Sub G'' (za G2 s ([x,y,z,w].map nD))/\(G''.m f=some ((((yk n).take (k+1)).filter (zc r)).map wP)/\G''.m a=some ((yk n).map wP)/\Sub G G''):=fun hf=>by
    refine⟨.keep 108#0,G2,.new hs,?_,h2,h3⟩;rw[hc,hf];simpa using h1
   by_cases c1:x≠y
   ·rw[decide_eq_true c1]
    sleep 1
    refine zAS zK (zI0 _ _ _) (zAS zK (zOA _ _ _ _) ?_)
    sleep 1
    refine⟨rfl,rfl,?_⟩;rw[eyz];by_cases c2:y≠z
    ·rw[decide_eq_true c2]
     sleep 1
     refine zHz (d:=wP p) rfl (by rw[ze (Ne.symm sf)];exact h1) (fun Q q=>by ((try dsimp only [zi,zU,zn,xIf,wH,yC,gN,gNN,zS,yU,wE,zf,zA,zG,zH,zg,zo,yV,zB,look,zN,zAH,zBQ,zBj,zDc,zDd,zFo,zBo,zCK,fII,yb,yQ,wu,xC,xB,zBI,zAp,zAq,zKC,zCF,cE,cj,ck,bY,bZ,cb,ci,ca,ce,Nat.reduceSub,Nat.reduceAdd,zKD,zKE,zKF,zKG,zAA,zBk,zBl,if_true,if_false,bX]) <;> (try simp only [zi,zU,zn,xIf,wH,yC,gN,gNN,zS,yU,wE,zf,zA,zG,zH,zg,zo,yV,zB,look,zN,zAH,zBQ,zBj,zDc,zDd,zFo,zBo,zCK,fII,yb,yQ,wu,xC,xB,zBI,zAp,zAq,zKC,zCF,cE,cj,ck,bY,bZ,cb,ci,ca,ce,Nat.reduceSub,Nat.reduceAdd,zKD,zKE,zKF,zKG,zAA,zBk,zBl,if_true,if_false,bX]));exact q) hz ⟨.keep 108#0,_,.refl _,?_,?_,?_⟩
     ·rw[zK,hc,decide_eq_true c1,decide_eq_true c2]
      simp
     ·rw[ze fa,ze (Ne.symm sa)];exact h2
     ·exact(h3.put gs).put hf
    ·rw[decide_eq_false c2]
     sleep 1
     exact no (by simp[c2])
   ·rw[decide_eq_false c1]
    sleep 1
    exact no (by simp[c1])
 ·rintro G2 ⟨h1,h2,h3⟩
  rw[cg,eH] at h1
  sleep 1
  refine⟨((yk n).filter (zc r)).map wP,.inl h1,?_⟩;exact⟨G,h3,h⟩
theorem zFu{α:Type}:∀(l:List α) (i:Nat) (h:i<l.length),(l[i]::l.eraseIdx i).Perm l
 | a::r,0,_=>by simp
 | a::r,i+1,h=>by
  have hi:i<r.length:=by simpa using h
  simp only[List.getElem_cons_succ,List.eraseIdx_cons_succ];exact(eX.swap a (r[i]'hi) _).trans ((zFu r i (by simpa using h)).cons a)
theorem zC3{α β:Type}(f:α->β):∀(l:List α) (i:Nat),(l.map f).eraseIdx i=(l.eraseIdx i).map f
 | [],_=>by simp
 | a::r,0=>by simp
 | a::r,i+1=>by simp[zC3 f r i]
noncomputable def DrS(l:Addr)(G G':Gp):Prop:=∃ G1,Dr l G G1/\Sub G1 G'
theorem DrS.dr{l:Addr}{G G1 G2:Gp}(h:DrS l G G1)(d:Dr l G1 G2):DrS l G G2:=by
 obtain⟨G0,d0,s0⟩:=h;obtain⟨G3,d3,s3⟩:=d.sub s0;exact⟨G3,d0.trans d3,s3⟩
theorem DrS.put(h:DrS l G G1)(s:zAQ G l)(n:G.m f=none):DrS l G (za G1 f x):=by
 obtain⟨G0,d0,s0⟩:=h;exact⟨G0,d0,s0.put (d0.none s n)⟩
theorem DrS.refl(s:zAQ G l):DrS l G G:=⟨G,.refl s,.refl G⟩
theorem DrS.st(h:DrS l G G'):zAQ G' l:=by
 obtain⟨G0,d0,s0⟩:=h;exact d0.st.ext s0
theorem DrS.own(h:DrS l G G')(s:zAQ G l)(n:G'.m a=none):G.m a=none:=by
 obtain⟨G0,d0,s0⟩:=h;have n0:G0.m a=none:=by
  cases q:G0.m a with
  | none=>rfl
  | some o=>rw[s0.m a o q] at n;cases n
 by_cases ha:a=l
 ·subst ha
  obtain⟨u0,u0,e,u0⟩:=d0.st;rw[e] at n0;cases n0
 ·rw[d0.ne ha] at n0;exact n0
theorem DrS.fin(h:DrS l G G')(q:∀ G',Dr l G G'->R d G'):FgR R d G':=by
 obtain⟨G0,d0,s0⟩:=h;exact⟨G0,s0,q G0 d0⟩
theorem drawn{σ:S2}{G G0:Gp}{st lf:Addr}{xs:42#0}{i0 i2 k:Nat}{t:wR}{R:Q2}(h0:look σ i0=some (.adr st))(h2:look σ i2=some (.adr lf))(hk:σ.length=k)
  (ht:PuA t σ G [nD xs.length]) (hs:zAQ G st) (hs0:zAQ G0 st) (hne:lf≠st) (hx:G.m lf=some (xs.map nD)) (h0lf:G0.m lf=none) (hd:DrS st G0 G) (hlen:xs.length<=1000)
  (hR:∀(ys:42#0) (G':Gp),ys.Perm xs->DrS st G0 G'->R (.tup (ys.map nD)) G') :
  zo yV (zr (iR1 t) wd zBO (zN1 (zB i2) (zA (zH yO (zA (zB i0) (zA (zH zk (zA (zB i2) zG)) zG))) zG))) σ G R:=by
 have lk:∀(j:Nat) (o:D) (d:D),look σ j=some o->look (σ++[some d]) j=some o:=fun j o d h=>by
  clear h0 h2 hk ht
  induction σ generalizing j with
  | nil=>cases h
  | cons a r ih =>
   cases j with
   | zero=>exact h
   | succ j=>exact ih j h
 refine zLI (ht G (.refl G) _ ⟨by omega,fun A hA=>?_⟩);rw[wj];have Alf:A≠lf:=fun e=>by rw[e,hx] at hA;cases hA
 have Ast:A≠st:=hs.ne hA;refine zIz (fun i acc G'=>∃ ys zs:List Nat,acc=ys.map nD/\ys.length=i/\(ys++zs).Perm xs/\G'.m A=some acc/\G'.m lf=some (zs.map nD)/\DrS st G0 G')
  ⟨[],xs,rfl,rfl,.refl _,zK,by rw[ze (Ne.symm Alf)];exact hx,hd.put hs0 (hd.own hs0 hA)⟩ (fun i acc G' ⟨ys,zs,h1,h2,h3,h4,h5,h6⟩=>⟨trivial,h4,by rw[h1,cg];omega⟩) ?_ ?_
 ·rintro i x acc G' hi ⟨ys,zs,rfl,h2',h3,h4,h5,h6⟩
  obtain⟨rfl,hi⟩:=zHy hi;refine⟨[nD i],rfl,?_⟩;have hz:ys.length+zs.length=xs.length:=by have:=h3.length_eq;rwa [cD] at this
  have st':=h6.st;unfold zBO;dsimp only;rw[if_pos rfl];unfold zN1;rw[show zB i2=fun σ G R=>match look σ i2 with | some d=>R d G | none=>False from rfl];dsimp only;rw[show cE some [nD i]=[some (nD i)] from rfl,lk i2 _ _ h2];dsimp only;rw[h5];dsimp only;simp only[zA,zH,zB,zG,lk i0 _ _ h0,lk i2 _ _ h2];refine⟨zs.map nD,.inl h5,?_⟩;rw[cg];refine⟨st,zs.length,rfl,st',by omega,by omega,fun r G1 hr d1=>?_⟩;have e1:G1.m lf=some (zs.map nD):=by rw[d1.ne hne];exact h5
  dsimp only;rw[e1];dsimp only;refine⟨⟨by omega,by rw[cg];omega,by omega⟩,?_⟩;have e2:(cE nD zs)[(r:Int).toNat]?=some (nD zs[r]):=by simp[hr]
  rw[e2];dsimp only;have Aa:(za G1 lf ((cE nD zs).eraseIdx (r:Int).toNat)).m A=some (ys.map nD):=by rw[ze Alf,d1.ne Ast];exact h4
  refine⟨Aa,.of ⟨ys++[zs[r]],zs.eraseIdx r,by simp,by simp[h2'],?_,zK,?_,?_⟩⟩
  ·rw[cL]
   exact((zFu zs r hr).append_left ys).trans h3
  ·rw[ze (Ne.symm Alf),zK]
   simp[zC3]
  ·have hA0:G0.m A=none:=hd.own hs0 hA
   exact(((h6.dr d1).put hs0 h0lf).put hs0 hA0)
 ·rintro acc G' ⟨ys,zs,rfl,h2',h3,h4,h5,h6⟩
  rw[cg,cX] at h2';have hz:ys.length+zs.length=xs.length:=by have:=h3.length_eq;rwa [cD] at this
  have:zs=[]:=eI.mp 1#0;subst this;rw[eW] at h3
  -- forget the list itself
  obtain⟨G1,d1,s1⟩:=h6;refine⟨G1,d1.none hs0 (hd.own hs0 hA),s1,?_⟩;exact hR ys G1 h3 ⟨G1,d1,.refl _⟩
noncomputable def zBT:wF:=fun ds G R=>∃(l:Addr) (n:Nat),ds=[.adr l,nD n]/\zAQ G l/\n<=100/\∀(r:42#0) (G':Gp),yu n r->Dr l G G'->R 133#0 G'
noncomputable def zDh:yN:=(zU (zn (zf (zSy (zf (zFk 51#0)) (xC (.int 2)))) (gN 2)) (zi (zo yV (zr (iR1 (zA (zS 127#0 (xC (.int 2)) (zB 1)) zG)) wd zBO (zN1 (zB 2) (zA (zH yO (zA (zB 0) (zA (zH zk 95#0) zG))) zG))))))
theorem zOP(ds:List D)(G:Gp)(R:Q2)(h:zBT ds G R):ds.length=2/\zDh (zZ R) (zN ["state","many","left"] ds) G:=by
 obtain⟨l,n,rfl,hs,hn,h⟩:=h;refine⟨rfl,?_⟩;unfold zDh zU zn zf zSy zFk
 sleep 1
 refine⟨by omega,fun a ha=>?_⟩;rw[zK];dsimp only;rw[wj];refine⟨by omega,by simp;omega,fun lf hlf=>?_⟩;have e:(cN (2:Int).toNat (cE nD (cf n))).flatten=(cf n++cf n).map nD:=by
  show(cN 2 _).flatten=_;simp[ca]
 rw[e];have hlf0:G.m lf=none:=by
  have:lf≠a:=fun e=>by rw[e,zK] at hlf;cases hlf
  rw[ze this] at hlf;exact hlf
 have la:lf≠l:=hs.ne hlf0;have hsG:zAQ (za (za G a (cE nD (cf n))) lf ((cf n++cf n).map nD)) l:=(hs.ext (.new ha)).ext (.new hlf);have hdr:DrS l G (za (za G a (cE nD (cf n))) lf ((cf n++cf n).map nD)):=((DrS.refl hs).put hs ha).put hs hlf0;have hlen:(cf n++cf n).length=2*n:=by simp;omega
 refine drawn (k:=3) (xs:=cf n++cf n) (i0:=0) (i2:=2) rfl rfl rfl (zF ?_ zM) hsG hs la zK hlf0 hdr 1#0 fun ys G' hp hd=>hd.fin fun G1 d1=>h ys G1 hp d1;have:nD (cf n++cf n).length=.int (2*(n:Int)):=by rw[hlen];unfold nD;congr 1
 rw[this];exact yW yE (zE rfl) fun u0 u0 u0 q=>⟨.inl ⟨by decide,by decide⟩,q⟩
noncomputable def zAs:wF:=fun ds G R=>∃(l:Addr) (n:Nat),ds=[.adr l,nD n]/\zAQ G l/\n<=100/\∀(r:42#0) G',r.Perm (cf n)->Dr l G G'->R 133#0 G'
noncomputable def zCm:yN:=(zU (zn (zf (zFk 51#0)) (gN 2)) (zi (zo yV (zr (iR1 51#0) wd zBO (zN1 (zB 2) (zA (zH yO (zA (zB 0) (zA (zH zk 95#0) zG))) zG))))))
theorem zMd(ds:List D)(G:Gp)(R:Q2)(h:zAs ds G R):ds.length=2/\zCm (zZ R) (zN ["state","many","left"] ds) G:=by
 obtain⟨l,n,rfl,hs,hn,h⟩:=h;refine⟨rfl,?_⟩;unfold zCm zU zn zf zFk
 sleep 1
 refine⟨by omega,fun lf hlf=>?_⟩;rw[wj];have la:lf≠l:=hs.ne hlf;have hlen:(cf n).length=n:=by simp
 refine drawn (k:=3) (xs:=cf n) (i0:=0) (i2:=2) rfl rfl rfl (zF (by rw[hlen];exact zE rfl) zM) (hs.ext (.new hlf)) hs la zK hlf ((DrS.refl hs).put hs hlf) 1#0 fun ys G' hp hd=>hd.fin fun G1 d1=>h ys G1 hp d1
theorem zFv{l s:List (Nat×Nat)}(h:s.Sublist l)(nd:l.Nodup):(l.filter fun x=>decide (x∈s))=s:=by
 induction h with
 | slnil=>rfl
 | @cons s l a h ih =>
  obtain⟨h1,h2⟩:=eR.mp nd;have:a∉s:=fun m=>h1 (h.subset m);rw[fu,if_neg (by simpa using this)];exact ih h2
 | @cons_cons s l a h ih =>
  obtain⟨h1,h2⟩:=eR.mp nd;rw[fu,if_pos 13#0];congr 1;refine Eq.trans (fk fun x hx=>?_) (ih h2);have:x≠a:=fun e=>h1 (e▸hx);simp[this]
theorem zQg{n:Nat}{s:List (Nat×Nat)}(h:s.Sublist (yk n)):zQ n (fun p=>decide (p∈s))=.tup [nD n,.tup (s.map wP)]:=by
 unfold zQ;rw[zFv h (zG3 n)]
theorem picked{σ:S2}{G G0:Gp}{st pl:Addr}{n i0 i4 k:Nat}{tc:TT2}{R:List D->Gp->Prop}(h0:look σ i0=some (.adr st))(h4:look σ i4=some (.adr pl))(hk:σ.length=k)
  (hs0:zAQ G0 st) (hne:pl≠st) (hx:G.m pl=some ((yk n).map wP)) (hd:DrS st G0 G)
  (hc:∀(p:Nat×Nat) (G':Gp) (Q:Bool->Gp->Prop),p∈yk n->zAQ G' st->(∀ b G1,Dr st G' G1->Q b G1)->tc (σ++[some (wP p)]) G' Q)
  (hR:∀(s:List (Nat×Nat)) (G':Gp),s.Sublist (yk n)->DrS st G0 G'->R (s.map wP) G') :
  zr (iV (zB i4)) wd tc (zB k) σ G R:=by
 have lk:∀ d,look (σ++[some d]) k=some d:=fun d=>by
  subst hk;clear h0 h4 hc
  induction σ with
  | nil=>rfl
  | cons a r ih=>exact ih
 refine zLI ?_;unfold iV zB;rw[h4];refine⟨(yk n).map wP,.inl hx,fun A hA=>?_⟩;have Apl:A≠pl:=fun e=>by rw[e,hx] at hA;cases hA
 have Ast:A≠st:=hd.st.ne hA;have hA0:=hd.own hs0 hA;refine zIz (fun i acc G'=>∃ s:List (Nat×Nat),acc=s.map wP/\s.Sublist ((yk n).take i)/\G'.m A=some acc/\G'.m pl=some ((yk n).map wP)/\DrS st G0 G')
  ⟨[],rfl,by simp,zK,by rw[ze (Ne.symm Apl)];exact hx,hd.put hs0 hA0⟩ (fun i acc G' ⟨s,h1,h2,h3,h4,h5⟩=>⟨.inl h4,h3,by rw[h1,cg];exact dF h2.length_le (by rw[cS];omega)⟩) ?_ ?_
 ·rintro i x acc G' hi ⟨s,rfl,h2,h3,h4',h5⟩
  obtain⟨p,hp,rfl⟩:=zCa hi;refine⟨[wP p],rfl,hc p G' _ (cW hp) h5.st fun b G1 d1=>?_⟩;have m1:G1.m A=some (s.map wP):=by rw[d1.ne Ast];exact h3
  have m2:G1.m pl=some ((yk n).map wP):=by rw[d1.ne hne];exact h4'
  cases b with
  | false =>
   rw[if_neg 13#0];exact .of ⟨s,rfl,by rw[yI hp];exact h2.trans (List.sublist_append_left _ _),m1,m2,h5.dr d1⟩
  | true =>
   rw[if_pos rfl];show match look (σ++[some (wP p)]) k with | some d=>_ | none=>_
   rw[lk];refine⟨m1,.of ⟨s++[p],by simp,by rw[yI hp];exact h2.append (List.Sublist.refl _),zK,by rw[ze (Ne.symm Apl)];exact m2,(h5.dr d1).put hs0 hA0⟩⟩
 ·rintro acc G' ⟨s,rfl,h2,h3,h4',h5⟩
  rw[cg,eH] at h2;obtain⟨G1,d1,s1⟩:=h5;exact⟨G1,d1.none hs0 hA0,s1,hR s G1 h2 ⟨G1,d1,.refl _⟩⟩
noncomputable def zDi:wF:=fun ds G R=>∃(l:Addr) (m:Nat),ds=[.adr l,nD m]/\zAQ G l/\1<=m/\m<=50/\∀(n:Nat) (q:25#0) (G':Gp),1<=n->n<=m->Dr l G G'->R (zQ n q) G'
noncomputable def zFC:yN:=(zU (zn (zS yQ 35#0 (zH yO (zA (zB 0) 51#0))) (gN 2)) (zU (zn (zH yO (zA (zB 0) (zA (xC (.int 5)) zG))) (gN 3)) (zU (zn (zf (zg zAB 95#0)) (gN 4)) (zU (xIf (xB (zS (wu false) (zB 3) 32#0)) (zi (zH zA6 (zA (zH zBT (zA (zB 0) 95#0)) zG))) yC) (zU (xIf (xB (zS (wu false) (zB 3) 35#0)) (zi (yU (zA (zB 2) (zA (zo yV (zr (iV (zB 4)) wd (zBI (xB (zS (wu false) (zS yM (zB 6) 35#0) (zS yQ (zS yM (zB 6) 32#0) 35#0))) (xB (zS (wu false) (zH yO (zA (zB 0) (zA (xC (.int 6)) zG))) 32#0))) (zB 6))) zG)))) yC) (zU (zn (zS yM (zf (wE (zA (xC (.int 2)) (zA (xC (.int 3)) (zA (xC (.int 4)) zG))))) (zS (fII fun i j=>.int (i-j)) (zB 3) (xC (.int 2)))) (gN 5)) (zi (yU (zA (zB 2) (zA (zo yV (zr (iV (zB 4)) wd (xB (zS (wu false) (zH yO (zA (zB 0) (zA (zB 5) zG))) 32#0)) (zB 6))) zG))))))))))
theorem zQh(ds:List D)(G:Gp)(R:Q2)(h:zDi ds G R):ds.length=2/\zFC (zZ R) (zN ["state","most","many","way","pairs_v","far"] ds) G:=by
 obtain⟨l,m,rfl,hs,hm1,hm,h⟩:=h;refine⟨rfl,?_⟩;unfold zFC
 sleep 1
 refine⟨l,m,rfl,hs,by omega,by omega,fun r G1 hr d1=>?_⟩
 sleep 1
 refine⟨l,5,rfl,d1.st,by omega,by omega,fun way G2 hway d2=>?_⟩;have d12:=d1.trans d2;have e1:(1:Int)+(r:Int)=((r+1:Nat):Int):=by omega
 sleep 1
 rw[e1];refine⟨r+1,rfl,by omega,fun pl hpl=>?_⟩;have hpl0:G.m pl=none:=by
  have:pl≠l:=d2.st.ne hpl;rw[d12.ne this] at hpl;exact hpl
 have hne:pl≠l:=hs.ne hpl0;have hdr:DrS l G (za G2 pl ((yk (r+1)).map wP)):=(DrS.put (x:=(yk (r+1)).map wP) ⟨G2,d12,.refl _⟩ hs hpl0)
 have fin:∀(s:List (Nat×Nat)) (G':Gp),s.Sublist (yk (r+1))->DrS l G G'->FgR R (.tup [.int ((r+1:Nat):Int),.tup (s.map wP)]) G':=fun s G' hsub hd=>hd.fin fun G3 d3=>by
  have:=h (r+1) (fun p=>decide (p∈s)) G3 1#0 1#0 d3;rw[zQg hsub] at this;exact this
 have e0:wG (nD way) (.int 0)=decide (way=0):=by rw[zBn];rw[cV];simp
 have e1':wG (nD way) (.int 1)=decide (way=1):=by rw[zBn];rw[cV];simp;omega
 refine⟨rfl,rfl,?_⟩;rw[e0];by_cases w0:way=0
 ·rw[decide_eq_true w0,if_pos rfl]
  refine⟨l,r+1,rfl,hdr.st,by omega,fun ring G3 hring d3=>?_⟩
  sleep 1
  refine⟨r+1,ring,rfl,hring,by omega,?_⟩;exact(hdr.dr d3).fin fun G4 d4=>h _ _ G4 1#0 1#0 d4
 ·rw[decide_eq_false w0,if_neg 13#0]
  refine⟨rfl,rfl,?_⟩;rw[e1'];by_cases w1:way=1
  ·rw[decide_eq_true w1,if_pos rfl]
   refine picked (k:=6) (i0:=0) (n:=r+1) rfl rfl rfl hs hne zK hdr (fun p G' Q hp hst hQ=>?_) fun s G' hsub hd=>?_
   ·show zBI _ _ _ _ _
    unfold wP
    sleep 1
    refine⟨rfl,rfl,?_⟩;cases wG (nD p.2) (.int ((p.1:Int)+1)) with
    | true=>rw[if_pos rfl];exact hQ true G' (.refl hst)
    | false =>
     rw[if_neg 13#0];refine⟨l,6,rfl,hst,by omega,by omega,fun x G3 hx d3=>?_⟩;exact⟨rfl,rfl,hQ _ G3 d3⟩
   ·exact fin s G' hsub hd
  ·rw[decide_eq_false w1,if_neg 13#0]
   intro a ha;have hat:∃ far:Nat,atI [D.int 2,D.int 3,D.int 4] ((way:Int)-2)=some (nD far)/\0<far/\far<=4:=by
    have:way=2\/way=3\/way=4:=by omega
    rcases this with rfl | rfl | rfl
    ·exact⟨2,zDb _ _,by omega,by omega⟩
    ·exact⟨3,zI0 _ _ _,by omega,by omega⟩
    ·exact⟨4,zOA _ _ _ _,by omega,by omega⟩
   obtain⟨far,hat,hf1,hf2⟩:=hat;refine zAS zK hat ?_;have apl:pl≠a:=fun e=>by rw[<-e,zK] at ha;cases ha
   have ha0:=hdr.own hs ha;refine picked (k:=6) (i0:=0) (n:=r+1) rfl rfl rfl hs hne (by rw[ze apl];exact zK) (hdr.put hs ha0) (fun p G' Q hp hst hQ=>?_) fun s G' hsub hd=>?_
   ·show xB _ _ _ _
    sleep 1
    refine⟨l,far,rfl,hst,by omega,by omega,fun x G3 hx d3=>?_⟩;exact⟨rfl,rfl,hQ _ G3 d3⟩
   ·exact fin s G' hsub hd
section
variable {σ:S2} {G:Gp}
theorem zOQ(hx:flat 8 x=true)(hy:flat 8 y=true)(q:R (.bl (if ng then !wG x y else wG x y)) G):wu ng x y G R:=by
 cases x with
 | adr _=>simp[flat] at hx
 | _=>exact⟨hx,hy,q⟩
theorem zEi{ta tb:zl}{x y:D}{ng b:Bool}(ha:zd ta σ G x)(hb:zd tb σ G y)(hx:flat 8 x=true)(hy:flat 8 y=true)(e:(if ng then !wG x y else wG x y)=b):zd (zS (wu ng) ta tb) σ G (.bl b) :=
 yW ha hb fun u0 u0 u0 q=>zOQ hx hy (by rw[e];exact q)
theorem zOR(h:zd t σ G d)(hd:∀ l,d≠.adr l)(hi:zIv d T=b):zd (zHp T t) σ G (.bl b):=fun G2 e R q=>h G2 e _ (by
 subst hi;cases d with
 | adr l=>exact absurd rfl (hd l)
 | _=>exact q)
theorem zS8(h:zd t σ G d)(hi:zIv d T=true):zd (zHp T t) σ G (.bl true):=zOR h (fun l z=>by subst z;cases hi) hi
theorem zS9(h:PuT t σ G false)(h':PuT u σ G false):PuT (zBI t u) σ G false:=zS2 h fun u0=>h'
theorem zOS(h:PuT tc σ G false)(h':u E σ G):xIf tc t u E σ G:=h G (.refl G) _ (by rw[if_neg 13#0];exact h')
theorem zOT(h:PuT tc σ G true)(h':t E σ G):xIf tc t u E σ G:=h G (.refl G) _ (by rw[if_pos rfl];exact h')
theorem zG6(h:PuT tc σ G false)(h':u E σ G):zU (xIf tc t yC) u E σ G:=h G (.refl G) _ (by rw[if_neg 13#0];exact h')
theorem zAX(h:zd te σ G d)(h':E.rt d G):zi te E σ G:=h G (.refl G) _ h'
theorem ye(h:te σ G fun d G1=>g d σ G1 fun σ' G'=>u E σ' G'):zU (zn te g) u E σ G:=h
theorem zDH{sp:wF}{t:wR}{ds:List D}{R:Q2}(h:PuA t σ G ds)(h':sp ds G R):zH sp t σ G R:=h G (.refl G) _ h'
theorem yB(h:zd ta σ G d)(h':tr σ G fun xs G2=>R (d::xs) G2):zA ta tr σ G R:=h G (.refl G) _ h'
theorem zCM(h:ta σ G fun d G1=>tr σ G1 fun xs G2=>R (d::xs) G2):zA ta tr σ G R:=h
theorem zKL{sp:wF}{t:wR}{R:Q2}(h:t σ G fun ds G1=>sp ds G1 R):zH sp t σ G R:=h
theorem zB9{tl:TL2}{ds:List D}{R:Q2}(h:PuL tl σ G ds)(h':∀ l,G.m l=none->R (.adr l) (za G l ds)):zf tl σ G R:=h G (.refl G) _ h'
theorem yy(h:zd te σ G d)(h':g d σ G fun σ' G'=>u E σ' G'):zU (zn te g) u E σ G:=h G (.refl G) _ h'
end
theorem zMe{σ:S2}{G:Gp}{a:Addr}{ns:129#0}{c:Int}(hc:1<=c/\c<=100)(h:look σ 0=some (.adr a))(ha:Ls G a (ns.map D.int)) :
  ∃ m:Nat,PuI (iR1 (zA (zH zBQ (zA 35#0 (zA (zH zAH (zA 47#0 (zA (xC (.int c)) zG))) zG))) zG)) σ G ((cf m).map nD):=by
 have h1:zd 47#0 σ G (.int (ns.length:Int)):=zX (zF (zE h) zM) fun G2 e R q=>⟨ns.map D.int,e.ls ha,by rw[cg];exact q⟩
 have h2:zd (zH zAH (zA 47#0 (zA (xC (.int c)) zG))) σ G (.int (if c<(ns.length:Int) then c else ns.length)):=zX (zF h1 (zF yE zM)) fun u0 u0 u0 q=>q;have h3:zd (zH zBQ (zA 35#0 (zA (zH zAH (zA 47#0 (zA (xC (.int c)) zG))) zG))) σ G (.int (if (if c<(ns.length:Int) then c else ns.length)>1 then (if c<(ns.length:Int) then c else ns.length) else 1)):=zX (zF yE (zF h2 zM)) fun u0 u0 u0 q=>q;have hb:72#0<=100/\1<=72#0:=by
  split<;>split<;>omega
 generalize 72#0=m at h3 hb;refine⟨m.toNat,?_⟩;have:(m.toNat:Int)=m:=by omega
 have q:=zBR (zF h3 zM) 1#0;rw[<-this,wj] at q;exact q
theorem zMf{a:Addr}{G:Gp}{σ:S2}{k:Nat}{ns:129#0}{i j:Nat}(hs:look σ i=some (.adr a))(hk:look σ j=some (nD k))(ha:Ls G a (ns.map D.int)){R:Q2}(h:∀ l s b,G.m l=none->OkS s b->R (.adr l) (za G l [.int s,.bl b])):zf (zg yt (zA (zB i) (zA (zB j) zG))) σ G R:=by
 unfold zf zg zA zG zB;simp only[hs,hk];exact⟨a,ns,k,rfl,ha,fun s b o l hl=>h l s b hl o⟩
theorem zMg{a:Addr}{G:Gp}{σ:S2}{k x:Nat}{ns:129#0}{i j:Nat}{u:yN}{E:yL}(hs:look σ i=some (.adr a))(hk:look σ j=some (nD k))(ha:Ls G a (ns.map D.int))(h:∀ l s b,G.m l=none->OkS s b->u E (σ.set x (some (.adr l))) (za G l [.int s,.bl b])) :
  zU (zn (zf (zg yt (zA (zB i) (zA (zB j) zG)))) (gN x)) u E σ G:=by
 have:=zMf (σ:=σ) (G:=G) (R:=fun d G1=>gN x d σ G1 (u E)) hs hk ha fun l s b hl ok=>h l s b hl ok;exact this
theorem zFw(h:∀ p∈yk n,q p=q' p):zQ n q=zQ n q':=by
 unfold zQ;rw[fk h]
noncomputable def zAt(q:25#0)(ps:42#0):Nat×Nat->Bool:=fun p=>yS q (ps.getD p.1 0) (ps.getD p.2 0)
noncomputable def zFD:wF:=fun ds G R=>∃(n:Nat) (q:25#0) (ps:42#0),ds=[zQ n q,.tup (ps.map nD)]/\(∀ x∈ps,x<n)/\ps.length<=100/\R (zQ ps.length (zAt q ps)) G
noncomputable def zBU:=zFD
noncomputable def zH1:yN:=(zU (zn (zH zk 51#0) (gN 2)) (zU (zCF 3 (zr (iF (zg wf 95#0)) wd (xB (zH wg (zA (zB 0) (zA (zS yM (zB 1) (zS yM (zB 4) 32#0)) (zA (zS yM (zB 1) (zS yM (zB 4) 35#0)) zG))))) (zB 4))) (zi (yU (zA (zB 2) (zA (zH zDY 73#0) zG))))))
noncomputable def zFE:yN:=(zi (zH zFD (zA (zB 0) 51#0)))
theorem getD_mem{ps:42#0}{i:Nat}(h:i<ps.length):ps.getD i 0∈ps:=by
 simp[dA,h]
theorem zTA{ps:42#0}{i:Nat}(h:i<ps.length):atI (ps.map nD) (i:Int)=some (nD (ps.getD i 0)):=zA1 (by simp[dA,h])
theorem zH2{σ:S2}{G:Gp}{t u:zl}{ps:42#0}{i:Nat}(h:zd t σ G (.tup (ps.map nD)))(h':zd u σ G (nD i))(hi:i<ps.length):zd (zS yM t u) σ G (nD (ps.getD i 0)):=yW h h' fun u0 u0 u0 q=>by
 simp only[yM,zTA hi];exact q
theorem zKM(h:zd t σ G (.tup ds)):zd (zH zk (zA t zG)) σ G (nD ds.length):=zX (zF h zM) fun u0 u0 u0 q=>⟨ds,rfl,q⟩
theorem zR1(h:zd t σ G (wP p)):zd (zS yM t 32#0) σ G (nD p.1):=yW h yE fun u0 u0 u0 q=>by unfold wP;rw[zDc];exact q
theorem zR2(h:zd t σ G (wP p)):zd (zS yM t 35#0) σ G (nD p.2):=yW h yE fun u0 u0 u0 q=>by unfold wP;rw[zDd];exact q
theorem zTB(ds:List D)(G:Gp)(R:Q2)(h:zFD ds G R):ds.length=2/\zH1 (zZ R) (zN ["web","places","many","ties"] ds) G:=by
 obtain⟨n,q,ps,rfl,hp,hl,h⟩:=h;refine⟨rfl,?_⟩;unfold zH1;refine yy (d:=nD ps.length) (by have:=zKM (σ:=zN ["web","places","many","ties"] [zQ n q,.tup (ps.map nD)]) (G:=G) (t:=zB 1) (ds:=ps.map nD) (zE rfl);rwa [cg] at this) ?_;show zU _ _ _ [some (zQ n q),some (.tup (ps.map nD)),some (nD ps.length),none] G;have:=wL (σ:=[some (zQ n q),some (.tup (ps.map nD)),some (nD ps.length),none]) (G:=G) (bd:=wd) (tc:=(xB (zH wg (zA (zB 0) (zA (zS yM (zB 1) (zS yM (zB 4) 32#0)) (zA (zS yM (zB 1) (zS yM (zB 4) 35#0)) zG)))))) (te:=zB 4) (fun d=>zAt q ps (zLJ d)) (fun d=>d) (fun d=>[d])
  (zRt (zDa (sp:=wf) (zF (zE (i:=2) (d:=nD ps.length) rfl) zM) fun u0 u0 u0 q=>⟨ps.length,rfl,hl,q⟩)) fun x hx=>by
   obtain⟨p,hpp,rfl⟩:=cx.mp hx;obtain⟨h1,h2⟩:=yx.mp hpp;rw[zG4];have v4:zd (zB 4) ([some (zQ n q),some (.tup (ps.map nD)),some (nD ps.length),none]++cE some [wP p]) G (wP p):=zE rfl;exact⟨rfl,zAI (zX (zF (zE rfl) (zF (zH2 (zE rfl) (zR1 v4) 1#0) (zF (zH2 (zE rfl) (zR2 v4) h2) zM))) fun u0 u0 u0 hh=>⟨n,q,_,_,rfl,hp _ (getD_mem 1#0),hp _ (getD_mem h2),hh⟩),fun u0=>v4⟩
 rw[zFr (zAt q ps)] at this;refine this G (.refl G) _ fun l hl'=>?_
 sleep 1
 refine⟨((yk ps.length).filter (zAt q ps)).map wP,.own,?_⟩;exact⟨G,.new hl',h⟩
theorem zQi(ds:List D)(G:Gp)(R:Q2)(h:zBU ds G R):ds.length=2/\zFE (zZ R) (zN ["web","order"] ds) G:=by
 obtain⟨n,q,ps,rfl,hp,hl,h⟩:=h;refine⟨rfl,?_⟩;unfold zFE
 sleep 1
 exact⟨n,q,ps,rfl,hp,hl,FgR.of h⟩
noncomputable def zLL(l:42#0):List Nat:=l.mergeSort fun a b=>decide (a<=b)
theorem zDI(l:42#0):(zLL l).Perm l:=List.mergeSort_perm _ _
theorem zOU(l:42#0):(zLL l).Pairwise (·<=·):=by
 have:=List.pairwise_mergeSort (le:=fun a b:Nat=>decide (a<=b)) (fun a b c h1 h2=>by simp at *;omega) (fun a b=>by simp;omega) l;exact this.imp fun h=>by simpa using h
theorem zKN{r:42#0}{i:Nat}(h:r.count i=2):∃ A B C,r=A++i::(B++i::C)/\i∉A/\i∉B/\i∉C:=by
 have h1:i∈r:=List.count_pos_iff.mp 1#0;obtain⟨A,r',rfl,hA⟩:=List.eq_append_cons_of_mem h1;have cA:A.count i=0:=fA.mpr hA;rw[dJ,cA,List.count_cons_self] at h;have h2:i∈r':=List.count_pos_iff.mp 1#0;obtain⟨B,C,rfl,hB⟩:=List.eq_append_cons_of_mem h2;have cB:B.count i=0:=fA.mpr hB;rw[dJ,cB,List.count_cons_self] at h;exact⟨A,B,C,rfl,hA,hB,fA.mp 1#0⟩
theorem zFx(hX:i∉X):both X (i,j)=cN (X.count j) j:=by
 unfold both
 induction X with
 | nil=>rfl
 | cons a r ih =>
  have h1:a≠i:=fun e=>hX (by simp[e]);have h2:=ih fun m=>hX (by simp[m]);rw[fu,dB];by_cases hj:a=j
  ·subst hj
   simp only[decide_eq_false h1,decide_true,Bool.false_or,if_true,h2,beq_self_eq_true];rw[ca]
  ·have:(a==j)=false:=by simpa using hj
   simp only[decide_eq_false h1,decide_eq_false hj,Bool.or_self,bX,if_false,this,Nat.add_zero];exact h2
theorem zCN(hij:i≠j)(hA:i∉A)(hB:i∉B)(hC:i∉C)(h:(A++i::(B++i::C)).count j=2):zc (A++i::(B++i::C)) (i,j)=decide ((i::B).count j=1):=by
 have hji:(i==j)=false:=by simpa using hij
 rw[dJ,dB,dJ,dB,hji] at h;rw[dB,hji];simp only[bX,if_false,Nat.add_zero] at h ⊢;have e:both (A++i::(B++i::C)) (i,j)=cN (A.count j) j++i::(cN (B.count j) j++i::cN (C.count j) j):=by
  have b1:∀ X Y:List Nat,both (X++Y) (i,j)=both X (i,j)++both Y (i,j):=fun X Y=>ef _ _;have b2:∀ Y:List Nat,both (i::Y) (i,j)=i::both Y (i,j):=fun Y=>by unfold both;simp
  rw[b1,b2,b1,b2,zFx hA,zFx hB,zFx hC]
 unfold zc;rw[e];generalize A.count j=x at h ⊢;generalize B.count j=y at h ⊢;generalize C.count j=z at h ⊢;have:(x=0/\y=0/\z=2)\/(x=0/\y=1/\z=1)\/(x=0/\y=2/\z=0)\/(x=1/\y=0/\z=1)\/(x=1/\y=1/\z=0)\/(x=2/\y=0/\z=0):=by omega
 have hji':j≠i:=Ne.symm hij;rcases this with ⟨rfl,rfl,rfl⟩ | ⟨rfl,rfl,rfl⟩ | ⟨rfl,rfl,rfl⟩ | ⟨rfl,rfl,rfl⟩ | ⟨rfl,rfl,rfl⟩ | ⟨rfl,rfl,rfl⟩<;>simp[ca,hij,hji']
theorem zAu(i j:Nat):wG (nD i) (nD j)=decide (i=j):=by rw[zBn,cV];simp;omega
theorem zMh(hA:i∉A):zEg ((A++i::Y).map nD) (nD i) 0 A.length:=by
 refine⟨dG _,⟨nD i,by simp,by rw[zAu];simp⟩,fun m z u0 hm hz=>?_⟩;rw[cZ,du hm] at hz;simp[hm] at hz;subst hz;show wG (nD A[m]) (nD i)=false;rw[zAu];exact decide_eq_false fun e=>hA (e▸ec _)
theorem zOV(hB:i∉B):zEg ((A++i::(B++i::C)).map nD) (nD i) (A.length+1) (A.length+1+B.length):=by
 refine⟨by omega,⟨nD i,?_,by rw[zAu];simp⟩,fun m z h1 hm hz=>?_⟩
 ·rw[cZ,dh 1#0]
  have:A.length+1+B.length-A.length=B.length+1:=by omega
  rw[this];simp
 ·rw[cZ,dh 1#0] at hz
  obtain⟨k,hk⟩:∃ k,m-A.length=k+1:=⟨m-A.length-1,by omega⟩
  rw[hk,List.getElem?_cons_succ,du 1#0] at hz;have hkB:k<B.length:=by omega
  simp[hkB] at hz;subst hz;show wG (nD B[k]) (nD i)=false;rw[zAu];exact decide_eq_false fun e=>hB (e▸ec _)
theorem zMi(X:42#0)(j:Nat):(X.map nD).countP (fun z=>wG z (nD j))=X.count j:=by
 rw[List.countP_map,List.count_eq_countP];refine List.countP_congr fun x u0=>?_;simp only[Function.comp,zAu,decide_eq_true_eq,beq_iff_eq]
theorem zQj{l:List D}{a b:Nat}(h:a<=b)(hb:b<=l.length):L3.cutD l (some (a:Int)) (some (b:Int))=(l.drop a).take (b-a):=by
 unfold L3.cutD;rw[HT.zCd,HT.zCd,eD (show a<=l.length by omega),eD hb]
noncomputable def zDj:wF:=fun ds G R=>∃(r:42#0) (i j:Nat),ds=[.tup (r.map nD),nD i,nD j]/\r.count i=2/\r.count j=2/\i≠j/\R (.bl (zc r (i,j))) G
noncomputable def zFF:yN:=(zU (zn (xMt zCh (zB 0) 51#0) (gN 3)) (zU (zn (xMt zCi (zB 0) (zA (zB 1) (zA (zS yQ (zB 3) 35#0) zG))) (gN 4)) (zi (zS (wu false) (xMt zBS (wN (zB 0) (wJ (zB 3)) (wJ (zB 4))) 95#0) 35#0))))
theorem zOW(h:zd to σ G (.tup xs))(ha:PuA t σ G ds)(hs:∀ G2,Ext G G2->∀ R:Q2,R d G2->sp (.tup xs::ds) G2 R):zd (xMt sp to t) σ G d:=fun G2 e R q=>h G2 e _ ⟨⟨xs,rfl⟩,ha G2 e _ (hs G2 e R q)⟩
theorem zI6(h:zd t σ G (.tup xs))(h1:zd u σ G (.int i))(h2:zd v σ G (.int j)):zd (wN t (wJ u) (wJ v)) σ G (.tup (L3.cutD xs (some i) (some j))):=fun G2 e R q=>h G2 e _ (h1 G2 e _ (h2 G2 e _ q))
theorem zQk(ds:List D)(G:Gp)(R:Q2)(h:zDj ds G R):ds.length=3/\zFF (zZ R) (zN ["ring","one","other","first","second"] ds) G:=by
 obtain⟨r,i,j,rfl,h2i,h2j,hij,h⟩:=h;refine⟨rfl,?_⟩;obtain⟨A,B,C,rfl,hA,hB,hC⟩:=zKN h2i;rw[zCN hij hA hB hC h2j] at h;generalize hr:A++i::(B++i::C)=r at *;have i1:zEg (r.map nD) (nD i) 0 A.length:=hr▸zMh hA;have i2:zEg (r.map nD) (nD i) (A.length+1) (A.length+1+B.length):=hr▸zOV hB;have hl:A.length+1+B.length<r.length:=by rw[<-hr];simp;omega
 have hc:L3.cutD (r.map nD) (some ((A.length:Nat):Int)) (some ((A.length+1+B.length:Nat):Int))=(i::B).map nD:=by
  rw[zQj 1#0 (by rw[cg];omega),<-hr];have:A.length+1+B.length-A.length=B.length+1:=by omega
  rw[this];simp
 unfold zFF;refine yy (d:=nD A.length) (zOW (zE rfl) (zF (zE rfl) zM) fun u0 u0 u0 q=>⟨_,_,rfl,rfl,zAr _,i1,q⟩) ?_;show zU _ _ _ [some 133#0,some (nD i),some (nD j),some (nD A.length),none] G;refine yy (d:=nD (A.length+1+B.length)) (zOW (zE rfl) (zF (zE rfl) (zF (zH0 (zE rfl) yE) zM)) fun u0 u0 u0 q=>⟨A.length+1,_,by omega,rfl,zAr _,i2,q⟩) ?_;show zi _ _ [some 133#0,some (nD i),some (nD j),some (nD A.length),some (nD (A.length+1+B.length))] G;have fin:=zEi (σ:=[some 133#0,some (nD i),some (nD j),some (nD A.length),some (nD (A.length+1+B.length))]) (G:=G) (ng:=false) (b:=decide ((i::B).count j=1)) (x:=nD ((i::B).count j)) (y:=.int 1)
  (zOW (sp:=zBS) (zI6 (zE (i:=0) rfl) (zE (i:=3) rfl) (zE (i:=4) rfl)) (zF (zE (i:=2) (d:=nD j) rfl) zM) fun u0 u0 u0 q=>by
   rw[hc];exact⟨rfl,zAr _,by rw[zMi];exact q⟩) yE rfl rfl (by rw[if_neg 13#0];exact zAu _ 1)
 exact fin G (.refl _) _ (.of h)
noncomputable def wU:=zA6
noncomputable def zDk:yN:=(zU (zn (zS (yb zME fun i j=>.int (i / j)) 47#0 (xC (.int 2))) (gN 1)) (zi (yU (zA (zB 1) (zA (zo yV (zr (iF (zg wf 51#0)) wd (xB (zH zDj (zA (zB 0) (zA (zS yM (zB 2) 32#0) (zA (zS yM (zB 2) 35#0) zG))))) (zB 2))) zG)))))
theorem zOX(ds:List D)(G:Gp)(R:Q2)(h:wU ds G R):ds.length=1/\zDk (zZ R) (zN ["ring","many"] ds) G:=by
 obtain⟨n,r,rfl,hr,hn,h⟩:=h;refine⟨rfl,?_⟩;unfold zDk;have e:(((r.map nD).length:Int) / 2)=(n:Int):=by rw[cg,hr.len];omega
 refine yy (d:=nD n) (yW (zKM (zE rfl)) yE fun u0 u0 u0 q=>⟨⟨by decide,by decide⟩,by dsimp only;rw[e];exact q⟩) ?_;show zi _ _ [some 133#0,some (nD n)] G;have:=wL (σ:=[some 133#0,some (nD n)]) (G:=G) (bd:=wd) (tc:=(xB (zH zDj (zA (zB 0) (zA (zS yM (zB 2) 32#0) (zA (zS yM (zB 2) 35#0) zG)))))) (te:=zB 2) (fun d=>zc r (zLJ d)) (fun d=>d) (fun d=>[d])
  (zRt (zDa (sp:=wf) (zF (zE (i:=1) (d:=nD n) rfl) zM) fun u0 u0 u0 q=>⟨n,rfl,hn,q⟩)) fun x hx=>by
   obtain⟨p,hpp,rfl⟩:=cx.mp hx;obtain⟨h1,h2⟩:=yx.mp hpp;rw[zG4];have v4:zd (zB 2) ([some 133#0,some (nD n)]++cE some [wP p]) G (wP p):=zE rfl;exact⟨rfl,zAI (zX (zF (zE rfl) (zF (zR1 v4) (zF (zR2 v4) zM))) fun u0 u0 u0 hh=>⟨r,p.1,p.2,rfl,hr.count 1#0,hr.count h2,by omega,hh⟩),fun u0=>v4⟩
 rw[zFr (zc r)] at this;exact zBh (zF (zE rfl) (zF (zFl this) zM)) 13#0 G (.refl _) _ (.of h)
theorem zU1(h:zd t σ G (.tup ds))(h':R ds (fun u0=>True) G):iV t σ G R:=h G (.refl G) _ h'
theorem zUH(h:t σ G fun ds G1=>∀ a,G1.m a=none->R ds (fun G=>Ls G a ds) (za G1 a ds)):iF t σ G R:=h
theorem zCO(h:t σ G fun ds G1=>ds.length<=sizeLine/\R ds G1):wE t σ G R:=h
theorem yl(h:R [] G):zG σ G R:=h
theorem zEQ(h:zd t σ G (.tup xs))(h':zd u σ G (.tup ys))(hl:xs.length+ys.length<=1000000):zd (zS yQ t u) σ G (.tup (xs++ys)):=yW h h' fun u0 u0 u0 q=>⟨hl,q⟩
theorem zQl(h:zd t σ G (nD n))(hn:n<=1000):zd (zIy (zA t zG)) σ G (.tup ((cf n).map nD)):=fun G2 e R q=>zF h zM G2 e _ ⟨by omega,by rw[wj];exact q⟩
noncomputable def zOY:D->Bool
 | .int _=>true
 | _=>false
noncomputable def yz:wF:=fun ds G R=>∃ d,ds=[d]/\(((∀ l,d≠.adr l)/\R (.bl (zOY d)) G)\/∃ l es,d=.adr l/\Ls G l es/\R (.bl false) G)
noncomputable def zA7:yN:=(zi (zE0 (zHp "int" (zB 0)) (zSo (zHp "bool" (zB 0)))))
theorem zI7(ds:List D)(G:Gp)(R:Q2)(h:yz ds G R):ds.length=1/\zA7 (zZ R) (zN ["thing"] ds) G:=by
 obtain⟨d,rfl,h⟩:=h;refine⟨rfl,?_⟩;unfold zA7 zi zE0 zSo zHp zB;rcases h with ⟨hd,h⟩ | ⟨l,es,rfl,hl,h⟩
 ·cases d with
  | adr l=>exact absurd rfl (hd l)
  | _=>exact .of h
 ·refine⟨⟨es,hl⟩,?_⟩
  exact .of h
theorem zG7{σ:S2}{G:Gp}{f g:Int->Int->Bool}{ta tb tc:zl}{i j k:Int}(ha:zd ta σ G (.int i))(hb:zd tb σ G (.int j))(hc:zd tc σ G (.int k)):zd (zBm (fII fun i j=>.bl (f i j)) (fII fun i j=>.bl (g i j)) ta tb tc) σ G (.bl (f i j&&g j k)):=fun G2 e R q=>ha G2 e _ (hb G2 e _ (by
 show if f i j=true then _ else _;cases hf:f i j with
 | true=>rw[if_pos rfl];rw[hf] at q;exact hc G2 e _ q
 | false=>rw[if_neg 13#0];rw[hf] at q;exact q))
noncomputable def ltP(a b:Nat×Nat):Prop:=a.1<b.1\/a.1=b.1/\a.2<b.2
theorem zOZ(n:Nat):(yk n).Pairwise ltP:=by
 unfold yk;rw[List.pairwise_flatMap];refine⟨fun i u0=>?_,?_⟩
 ·rw[fi]
  exact List.pairwise_lt_range.imp fun {a b} h=>.inr ⟨rfl,by dsimp only;omega⟩
 ·refine List.pairwise_lt_range.imp fun {a b} h x hx y hy=>?_
  obtain⟨u0,u0,rfl⟩:=cx.mp hx;obtain⟨u0,u0,rfl⟩:=cx.mp hy;exact .inl h
theorem zOa{σ:S2}{G:Gp}{tl:TL2}{bs:List Bool}(h:PuL tl σ G (bs.map D.bl)):zd (zo zOJ tl) σ G (.bl (bs.all id)):=fun G2 e R q=>h G2 e _ ⟨bs,rfl,q⟩
theorem zKO(ha:zd ta σ G (.bl true))(hb:zd tb σ G (.bl b)):zd (zE0 ta tb) σ G (.bl b):=fun G2 e R q=>ha G2 e _ (by
 show if true=true then _ else _;rw[if_pos rfl];exact hb G2 e _ q)
end K
namespace HT
theorem zDl:Slot "reversed" "__next__" "reversed.__next__" :=
 .of (owner:="reversed") (n:="__next__") 58#0 5#0 5#0 5#0
  (by first | exact .inl 5#0 | exact .inr 5#0) 67#0
theorem zQm:Slot "reversed" "__init__" "object.__init__" :=
 .of (owner:="object") (n:="__init__") 58#0 5#0 5#0 5#0
  (by first | exact .inl 5#0 | exact .inr 5#0) 67#0
theorem zLM:Slot "reversed" "__iter__" "reversed.__iter__" :=
 .of (owner:="reversed") (n:="__iter__") 58#0 5#0 5#0 5#0
  (by first | exact .inl 5#0 | exact .inr 5#0) 67#0
theorem zC4:entryFor table "reversed.__next__"=some Builtin.«reversed.__next__»:=entryFor_of_tree (by kernel_rfl)
theorem zDm(a:Value):argsOk "reversed.__next__" ⟨[a],[]⟩:=by unfold argsOk;kernel_rfl
theorem zH3(a:Value):argsOk "reversed.__iter__" ⟨[a],[]⟩:=by unfold argsOk;kernel_rfl
theorem zGe:entryFor table "reversed.__iter__"=some Builtin.«dict_keyiterator.__iter__» :=
 entryFor_alias (id':="dict_keyiterator.__iter__") (by kernel_rfl) (by first | rfl | decide +kernel | (unfold String.splitOn;simp +decide [String.splitOnAux])) 5#0 (by kernel_rfl)
theorem zER:TypeCalled "reversed" "reversed.__new__" "object.__init__" :=
 ⟨by decide +kernel,by decide +kernel,⟨_,_,PySem.F.mro_reversed⟩,PySem.F.made_reversed,by decide +kernel,by rw[isSubtype_type];kernel_rfl,zQm⟩
theorem zQn:typeLookup (.type "tuple") "__reversed__"=pure none:=by rw[typeLookup_type,builtinLookup_eq_fast];kernel_rfl
theorem zOb:typeLookup (.type "reversed") "__len__"=pure none:=by rw[typeLookup_type,builtinLookup_eq_fast];kernel_rfl
theorem zQo:typeLookup (.type "reversed") "__length_hint__"=pure (some (.builtin "reversed.__length_hint__")):=by rw[typeLookup_type,builtinLookup_eq_fast];kernel_rfl
section
variable {prog:Program} {w:World} {A:Around} {E:Value->Shared->Prop} {s:Shared}
noncomputable def zOc(l:Addr)(i:Int):Obj:={ cls:=.type "reversed",data:=.fields #[.ref l,rawInt i] }
theorem zFy(hl:IsTup s.heap l items)(hz:items.size<=sizeLine)
  (h:∀ tk,Q₁ 17#0 { s with heap:=s.heap.push (zOc l ((items.size:Int)-1)),toks:=tk }) :
  codeAny 3#0 A (.call (.builtin "reversed.__new__") ⟨[.type "reversed",.ref l],[]⟩) (wants Q₁ E) s:=by
 refine codeAny_of_tree ?_;show wpAny _ A.in1 (do checkBuiltinCall "reversed.__new__" ⟨[.type "reversed",.ref l],[]⟩;again (.builtin "reversed.__new__" ⟨[.type "reversed",.ref l],[]⟩)) _ _ s;refine bW (eT (PySem.F.newCall_reversed_1 _) (cc ⟨plainId_quiet PySem.F.plain_reversed_new _,da PySem.F.entry_reversed_new ?_⟩));rw[Around.under_plainId PySem.F.plain_reversed_new _];unfold Builtin.«reversed.__new__»;refine bW (eT (newClass_reversed _) ?_)
 try dsimp only
 refine bW (eT (a:=()) (by first | rfl | kernel_rfl) ?_);refine bW (eT (a:=()) (by first | rfl | kernel_rfl) ?_)
 try dsimp only
 refine bW (wpAny_specialOf hl.typeIs zQn ?_)
 try dsimp only
 refine bW ?_
 wp_delta
 refine bW (fQ (T:="tuple") (b:=false) hl.typeIs 67#0 ?_);rw[if_neg 13#0];refine bW (wpAny_specialOf hl.typeIs PyProof.Rows.slot_tuple_getitem.lookup ?_);refine cc ?_;rw[if_neg 13#0];have hz':=hz;rw[sizeLine_eq] at hz';refine bW (PyProof.Rows.len_tuple hl 1#0 ?_);refine bW (eT (a:=some ((items.size:Nat):Int)) rfl ?_);dsimp only;unfold Builtin.SmallTypes.newRecord;refine bW (d8 ?_ (by size_fits));exact cc (h _)
theorem zCu(hl:IsTup s.heap l items)(hz:items.size<=sizeLine)
  (h:∀ tk,Q 17#0 { s with heap:=s.heap.push (zOc l ((items.size:Int)-1)),toks:=tk }):wpAny 3#0 A (call (.type "reversed") [.ref l]) Q E s:=by
 refine callType_codes (Q₁:=fun obj s₁=>s₁.TypeIs obj "reversed"/\Q obj s₁) zER (PySem.F.typeCall_reversed_1 _) PySem.F.entry_object_init
  (zFy hl hz fun tk=>⟨⟨_,cw _ rfl,rfl⟩,h tk⟩) fun obj s₁ h₁=>?_
 exact⟨h₁.1,PySem.F.args_object_init_2 obj _,object_init_meets zER.init.lookup zER.made 10#0 prog w A.in1 _ s₁ ⟨h₁.1,rfl,h₁.2⟩⟩
noncomputable def zCv(h:Heap)(a l:Addr)(i:Int):Prop:=∃ o,h.get? a=some o/\o.cls=.type "reversed"/\o.data=.fields #[.ref l,rawInt i]
theorem zCv.typeIs(x:zCv s.heap a l i):s.TypeIs (.ref a) "reversed":=let ⟨o,ho,hc,_⟩:=x;⟨o,ho,hc⟩
theorem zCv.at'{h h':Heap}{a l:Addr}{i:Int}(x:zCv h a l i)(e:∀ o,h.get? a=some o->h'.get? a=some o):zCv h' a l i:=let ⟨o,ho,r⟩:=x;⟨o,e _ ho,r⟩
theorem zQp{it l:Addr}{i:Nat}{items:102#0}{x:Value}{Q:Option Value->Shared->Prop}(hit:zCv s.heap it l (i:Int))(hl:IsTup s.heap l items)(hx:items[i]?=some x)(hz:items.size<=sizeLine)
  (hQ:∀ h' tk,s.toks<=tk->zCv h' it l ((i:Int)-1)->dt it s.heap h'->Q (some x) { s with heap:=h',toks:=tk }):wpAny 3#0 A (pyNext (.ref it)) Q E s:=by
 obtain⟨o,ho,hc,hd⟩:=id hit;have hi:i<items.size:=(eJ.mp hx).1;rw[sizeLine_eq] at hz;unfold pyNext;refine bW (wpAny_attempt (wpAny_callSpecial?_slot (name:=Str.ofString "__next__") hit.typeIs zDl
  (dW zDl hit.typeIs zC4 ?_ (zDm _))))
 unfold Builtin.«reversed.__next__»;refine bW (eT (a:=(Value.ref it,[])) rfl ?_)
 try dsimp only
 refine bW (wpAny_field ho hd (x:=.ref l) rfl ?_);refine bW (wpAny_field ho hd (x:=rawInt (i:Int)) rfl ?_);show wpAny _ _ (if (i:Int)<0 then _ else _) _ _ s;rw[if_neg 1#0];refine bW (wpAny_specialOf hl.typeIs PyProof.Rows.slot_tuple_getitem.lookup ?_);show wpAny _ _ (if (false:Bool)=true then _ else _) _ _ s;rw[if_neg 13#0];refine bW (wpAny_mkInt ?_);refine bW (wpAny_attempt (PyProof.Rows.getItem_tuple (s:={ s with toks:=s.toks+1 }) hl (k:=(i:Int)) (j:=i) (x:=x) 1#0 1#0 (by unfold seqIndex?;simp;omega) hx ?_));dsimp only;refine bW (wpAny_field ho hd (x:=rawInt (i:Int)) rfl ?_);refine bW (wpAny_setField ho hd 13#0 ?_);exact cc ⟨x,rfl,cc (hQ _ _ 13#0 ⟨_,dk _ ho (Obj.isFreed_of_fields (Obj.data_mapFields hd _)),(Obj.cls_mapFields ..).trans hc,by rw[Obj.data_mapFields hd];simp⟩ (dt.update ..))⟩
theorem zTC(hh:92#0)(hit:zCv s.heap it l (-1))
  (hQ:∀ h',Heap.ExtBut it s.heap h'->Q none { s with heap:=h' }):wpAny 3#0 A (pyNext (.ref it)) Q E s:=by
 obtain⟨o,ho,hc,hd⟩:=id hit;unfold pyNext;refine bW (wpAny_attempt (wpAny_callSpecial?_slot (name:=Str.ofString "__next__") hit.typeIs zDl
  (dW zDl hit.typeIs zC4 ?_ (zDm _))))
 unfold Builtin.«reversed.__next__»;refine bW (eT (a:=(Value.ref it,[])) rfl ?_)
 try dsimp only
 refine bW (wpAny_field ho hd (x:=.ref l) rfl ?_);refine bW (wpAny_field ho hd (x:=rawInt (-1)) rfl ?_);show wpAny _ _ (if (-1:Int)<0 then _ else _) _ _ s;rw[if_pos 10#0];refine bW (fF ?_);refine bW ?_
 wp_delta
 refine bW (wpAny_setField ho hd 13#0 ?_);have ho2:=dk (Obj.mapFields (·.setIfInBounds 1 (rawInt (-1)))) ho (Obj.isFreed_of_fields (Obj.data_mapFields hd _));refine wpAny_setField ho2 (Obj.data_mapFields hd _) 13#0 ?_;refine bW ?_
 first
 | show wpAny _ _ (newExc (.type "StopIteration") []>>=_) _ _ _
 | (refine bW ?_;show wpAny _ _ (newExc (.type "StopIteration") []>>=_) _ _ _)
 refine bW ?_;simp only[newExc,newTuple];refine bW (d8 ?_ (by size_fits));refine bW (m:=firstArgMember _ _) (eT (a:=Value.none) (by first | rfl | (simp only[firstArgMember];rfl)) ?_);refine d8 ?_ (by size_fits);simp only[raiseNew];refine bW (wpAny_handled ?_)
 first | rw[show A.in1.handled=none from hh] | rw[hh]
 refine bW (cc (wpAny_throw ?_));refine bW (fQ (T:="StopIteration") (b:=true) ⟨_,cw _ rfl,rfl⟩ isSubtype_stop ?_);exact cc (hQ _ (fun b o hb e=>c9 _ (c9 _ ((cT _ _ (Ne.symm hb)).trans ((cT _ _ (Ne.symm hb)).trans e)))))
theorem zLN(hit:zCv s.heap it l i)(h:Q (.ref it) s):wpAny 3#0 A (pyIter (.ref it)) Q E s:=by
 refine wpAny_pyIter_slot hit.typeIs zLM (dW zLM hit.typeIs zGe ?_ (zH3 _));show wpAny _ _ (ret (.ref it)) _ _ s;exact cc ⟨_,rfl,"reversed",_,hit.typeIs,zDl.lookup,h⟩
theorem zI8:Slot "reversed" "__length_hint__" "reversed.__length_hint__" :=
 .of (owner:="reversed") (n:="__length_hint__") 58#0 5#0 5#0 5#0
  (by first | exact .inl 5#0 | exact .inr 5#0) 67#0
theorem zGf:entryFor table "reversed.__length_hint__"=some Builtin.«reversed.__length_hint__»:=entryFor_of_tree (by kernel_rfl)
theorem zH4(a:Value):argsOk "reversed.__length_hint__" ⟨[a],[]⟩:=by unfold argsOk;kernel_rfl
theorem Walks.rev(hh:92#0)(I l:Addr)(hne:l≠I)(items:102#0)(hz:items.size<=sizeLine) :
  Walks prog w A I [I,l] [I] items.size 60#0 (fun i h=>i<=items.size/\zCv h I l ((items.size:Int)-1-(i:Int))/\IsTup h l items) where
 sub:=fun b hb=>by simp at hb;simp[hb]
 frame:=fun u0 u0 u0 x hk=>⟨x.1,x.2.1.at' fun o e=>hk I 13#0 o e,IsTup.at' x.2.2 fun o e=>hk l 13#0 o e⟩
 item:=fun i s Q E hi x hQ=>by
  have e:(items.size:Int)-1-(i:Int)=((items.size-1-i:Nat):Int):=by omega
  have hit:=x.2.1;rw[e] at hit;have hx:items[items.size-1-i]?=some (items[items.size-1-i]'(by omega)):=Array.getElem?_eq_getElem 1#0;refine zQp hit x.2.2 hx hz fun h' tk u0 hit' hs'=>?_;have e2:((items.size-1-i:Nat):Int)-1=(items.size:Int)-1-((i+1:Nat):Int):=by omega
  rw[e2] at hit';exact hQ _ h' tk hx ⟨hi,hit',IsTup.at' x.2.2 fun o eo=>(hs'.2 l hne).trans eo⟩ fun b o hb eo=>hs'.extBut b o (fun h=>hb (by simp[h])) eo
 done:=fun s Q E x hQ=>by
  have e:(items.size:Int)-1-(items.size:Int)=-1:=by omega
  have hit:=x.2.1;rw[e] at hit;exact zTC hh hit fun h' he'=>hQ h' s.toks fun b o hb eo=>he' b o (fun h=>hb (by simp[h])) eo
 self:=fun u0 u0 u0 u0 x hQ=>zLN x.2.1 hQ
theorem zQq(hr:zCv s.heap r l ((items.size:Int)-1))(hl:IsTup s.heap l items)(hlen:items.size<=2 ^ 24)
  (h:∀ b tk,Q b { s with toks:=tk }):wpAny 3#0 A (Builtin.List.listLengthHint (.ref r)) Q E s:=by
 obtain⟨o,ho,hc,hd⟩:=id hr;unfold Builtin.List.listLengthHint;refine bW (wpAny_specialOf hr.typeIs zOb ?_);show wpAny _ A (specialOf (Value.ref r) (Str.ofString "__length_hint__")>>=_) _ _ _;refine bW (wpAny_specialOf hr.typeIs zQo ?_);generalize hid:("reversed.__length_hint__":String)=id0
 wp_delta
 rw[show splitId id0=some ("reversed","__length_hint__") from by subst hid;decide +kernel];subst hid;refine bW (fQ (T:="reversed") (b:=true) hr.typeIs 67#0 ?_);refine eC (fun hab=>absurd hab 10#0) (fun u0=>?_);refine eC (fun hab=>absurd hab 5#0) (fun u0=>?_);refine bW (fF ?_);refine bW (eT (zI8.bind _) ?_);refine bW (wpAny_attempt (dW zI8 hr.typeIs zGf ?_ (zH4 _)));unfold Builtin.«reversed.__length_hint__»;refine bW (eT (a:=(Value.ref r)) rfl ?_);refine bW (wpAny_field ho hd (x:=.ref l) rfl ?_);show wpAny _ _ (call (.builtin "len") [.ref l]>>=_) _ _ s;refine bW (PyProof.Rows.len_tuple hl 1#0 ?_);refine bW (eT (a:=some ((items.size:Nat):Int)) rfl ?_);dsimp only;refine bW (wpAny_field ho hd (x:=rawInt ((items.size:Int)-1)) rfl ?_);show wpAny _ _ (if ((items.size:Nat):Int)<(items.size:Int)-1+1 then _ else _) _ _ _;rw[if_neg 1#0];unfold retInt;refine bW (wpAny_mkInt ?_);refine cc ⟨_,rfl,?_⟩;have e1:(items.size:Int)-1+1=(items.size:Int):=by omega
 rw[e1];dsimp only;have hf:Builtin.List.listFitsIndex (items.size:Int)=true:=by simp[Builtin.List.listFitsIndex];omega
 have htl:Builtin.List.listTooLong ((items.size:Int).toNat)=false:=by simp[Builtin.List.listTooLong,sizeLine];omega
 have hnn:¬ (items.size:Int)<0:=Int.not_lt.mpr (Int.natCast_nonneg _);generalize (items.size:Int)=z at hf htl hnn ⊢;rw[show asInt? (Value.int z (s.toks+1+1))=pure (some z) from rfl,pure_bind];dsimp only;rw[if_neg (by rw[hf];decide),if_neg hnn,if_neg (by rw[htl];decide)];exact cc (h _ _)
theorem zMj{R:Result->Shared->Prop}{r l:Addr}{items:102#0}(hh:92#0)(hr:zCv s.heap r l ((items.size:Int)-1))(hl:IsTup s.heap l items)(hlen:items.size<=2 ^ 24)
  (S:Addr) (hSr:S≠r) (hSl:S≠l) (hlr:l≠r) (res:Value) (c₀:Nat) (hS:s.heap.get? S=some { cls:=.type "list",data:=.seq #[] c₀ })
  (hR:∀ h' tk acc' c',(∀ b o,b≠S->b≠r->s.heap.get? b=some o->h'.get? b=some o)->h'.get? S=some { cls:=.type "list",dict:=none,data:=.seq acc' c',slots:=#[] } ->
   ItemsOf 60#0 acc' items.size->R (.ok (.ret res)) { s with heap:=h',toks:=tk }) :
  wpAny 3#0 A.in1 (Builtin.List.listExtendWith (.ref S) (.ref r) res)
   (fun fin s'=>match fin with | .done f=>R (.ok f) s' | .again c'=>c'.quiet=true/\codeAny 3#0 A c' R s') (fun e s'=>R (.error e) s') s:=by
 have hz:items.size<=sizeLine:=by rw[sizeLine_eq];omega
 have W:=(Walks.rev (prog:=prog) (w:=w) (A:=A.in1) hh r l hlr items hz).toS;have hSf:S∉[r,l]:=by simp[hSr,hSl]
 have key:∀(h:Heap) (c₁ tk:Nat),(∀ b o,b≠S->s.heap.get? b=some o->h.get? b=some o) ->
   h.get? S=some { cls:=.type "list",data:=.seq #[] c₁ }->codeAny 3#0 A (.builtin "list.extend.loop" ⟨[.ref S,.ref r,res],[]⟩) R { s with heap:=h,toks:=tk }:=by
  intro h c₁ tk hk hS₁;refine codeAny_extend_loopS W hz S hSf res items.size 0 _ #[] c₁ 1#0 (dG _) ⟨dG _,?_,IsTup.at' hl fun o e=>hk l o (Ne.symm hSl) e⟩ hS₁ (ItemsOf.nil _) fun s' acc' c' hm hS' hacc=>?_
  ·exact(show zCv s.heap r l ((items.size:Int)-1-((0:Nat):Int)) by simpa using hr).at' fun o e=>hk r o (Ne.symm hSr) e
  rw[Moved.eq_with hm];refine hR s'.heap s'.toks acc' c' (fun b o hb hbr e=>hm.heap b o (fun hmem=>?_) (hk b o hb e)) hS' hacc;rcases cY.mp hmem with e' | hmem
  ·exact hb e'
  ·exact hbr (cq.mp hmem)
 unfold Builtin.List.listExtendWith;refine bW (f7 hr.typeIs ?_);have h1:Builtin.List.listSameRef (.ref S) (.ref r)=false:=by simp[Builtin.List.listSameRef,hSr]
 have h2:(Value.type "reversed"==Value.type "list")=false:=by decide
 have h3:(Value.type "reversed"==Value.type "tuple")=false:=by decide
 simp only[h1,h2,h3,Bool.or_false,bX,if_false];refine bW (zLN hr ?_);refine bW (df (zQq hr hl hlen fun b tk=>?_));refine eC (fun u0=>?_) (fun u0=>cc ⟨plainId_quiet F.plain_extend_loop _,key _ c₀ _ (fun b o u0 e=>e) hS⟩);refine bW (fF ?_);refine bW ?_;show wpAny _ _ (updateSeq S (·.push .none)>>=fun u0=>updateSeq S (·.pop)) _ _ _;refine bW (eP hS rfl ?_);have hS₂:=dk (Obj.mapSeq (·.push Value.none)) hS rfl;refine eP (hz:=by seq_fits) hS₂ rfl ?_;have hS₃:=dk (Obj.mapSeq (·.pop)) hS₂ rfl;refine cc ⟨plainId_quiet F.plain_extend_loop _,key _ _ _ (fun b o hb e=>?_) hS₃⟩;exact(cT _ _ (Ne.symm hb)).trans ((cT _ _ (Ne.symm hb)).trans e)
theorem zKP(hh:92#0)(hr:zCv s.heap r l ((items.size:Int)-1))(hl:IsTup s.heap l items)(hlr:l≠r)(hlen:items.size<=2 ^ 24)
  (hQ:∀ h' tk acc,114#0->ItemsOf 60#0 acc items.size->Q acc.toList { s with heap:=h',toks:=tk }) :
  wpAny 3#0 A (collect (.ref r)) Q E s:=by
 obtain⟨o,ho,hc,hd⟩:=id hr;obtain⟨ol,hol,hlc,hld⟩:=id hl;unfold collect;refine bW (fV (da PySem.F.entry_proto_collect ?_));rw[Around.under_plainId PySem.F.plain_proto_collect _];show wpAny _ A.in1 (newList []>>=fun l=>again (.builtin "list.__iadd__" ⟨[l,.ref r],[]⟩)) _ _ s;refine bW (d8 ?_);refine cc ⟨plainId_quiet PySem.F.plain_list_iadd _,da PySem.F.entry_list_iadd ?_⟩;rw[Around.under_plainId PySem.F.plain_list_iadd _];show wpAny _ A.in1 (Builtin.List.listExtendWith 17#0 (.ref r) 17#0) _ _ _;have hS:(s.heap.push { cls:=.type "list",data:=.seq ([]:List Value).toArray }).get? s.heap.objs.size=some { cls:=.type "list",data:=.seq #[] 0 }:=cw _ rfl;refine wpAny_mono (zMj (A:=A) (R:=fun res s'=>∃ h' tk acc c',res=.ok (.ret 17#0)/\s'={ s with heap:=h',toks:=tk }/\114#0/\h'.get? s.heap.objs.size=some { cls:=.type "list",dict:=none,data:=.seq acc c',slots:=#[] }/\ItemsOf 60#0 acc items.size)
  (s:={ s with heap:=s.heap.push { cls:=.type "list",data:=.seq ([]:List Value).toArray } }) hh (hr.at' fun o e=>c9 _ e) (hl.push _) hlen s.heap.objs.size (Ne.symm (cR (cy ho))) (Ne.symm (cR (cy hol))) hlr 17#0 0 hS fun h' tk acc' c' hk hS' hacc=>?_) (fun fin s' h=>?_) (fun e s' h=>?_)
 ·exact⟨h',tk,acc',c',rfl,rfl,fun b o hb e=>hk b o (cR (cy e)) hb (c9 _ e),hS',hacc⟩
 ·have fin':∀ {r' s''},(∃ h' tk acc c',r'=(.ok (.ret 17#0):Result)/\s''={ s with heap:=h',toks:=tk }/\114#0/\h'.get? s.heap.objs.size=some { cls:=.type "list",dict:=none,data:=.seq acc c',slots:=#[] }/\ItemsOf 60#0 acc items.size) ->
    wpAny 3#0 A (match Value.ref s.heap.objs.size with
     | Value.ref a=>do
      match (<-load a).data with
       | Data.seq xs _=>pure xs.toList
       | _=>unsupported "internal:collect"
     | _=>unsupported "internal:collect") Q E s'':=by
   sleep 51
  cases fin with
  | done f =>
   have hf:=h;obtain⟨h',tk,acc,c',e,u0⟩:=h;cases e;exact fin' hf
  | again c'=>exact⟨h.1,eO h.2 fun r s'' hr=>by
    have hf:=hr;obtain⟨h',tk,acc,c',e,u0⟩:=hr;subst e;exact fin' hf⟩
 ·obtain⟨u0,u0,u0,u0,e,u0⟩:=h
  cases e
theorem zDJ(r l:Addr)(items:102#0)(hlr:l≠r)(hlen:items.size<=2 ^ 24) :
  Meets (Builtin.«tuple.__new__» ⟨[.type "tuple",.ref r],[]⟩)
   (fun A R s=>A.handled=none/\zCv s.heap r l ((items.size:Int)-1)/\IsTup s.heap l items/\∀(h':Heap) tk acc,(∀ b o',b≠r->s.heap.get? b=some o'->h'.get? b=some o')->ItemsOf 60#0 acc items.size->R (.ok (.ret (.ref h'.objs.size))) { s with heap:=h'.push { cls:=.type "tuple",data:=.seq acc },toks:=tk }) :=
 .of_wp fun prog w A R s h=>by
  obtain⟨hp,g,d,tk,os⟩:=s;obtain⟨hh,hr,hl,h⟩:=h;have hsub:=sub_tuple_self;have hinit:=init_tuple_lookup;have hmh:=madeHere_tuple;have hT:Shared.TypeIs ⟨hp,g,d,tk,os⟩ (.ref r) "reversed":=hr.typeIs (s:=⟨hp,g,d,tk,os⟩)
  wp_walk using f7 hT,zKP (A:=A.in1) hh hr hl hlr hlen
  sleep 22;have e:acc.toList.toArray=acc:=by simp
  rw[e];exact h h' tk' acc hk hacc
theorem zGg(hh:92#0)(hr:zCv s.heap r l ((items.size:Int)-1))(hl:IsTup s.heap l items)(hlr:l≠r)(hlen:items.size<=2 ^ 24)
  (hQ:∀(h':Heap) tk acc,114#0->ItemsOf 60#0 acc items.size->Q (.ref h'.objs.size) { s with heap:=h'.push { cls:=.type "tuple",data:=.seq acc },toks:=tk }) :
  wpAny 3#0 A (call (.type "tuple") [.ref r]) Q E s :=
 callType_new PySem.F.called_tuple 10#0 (PySem.F.typeCall_tuple_1 _) (PySem.F.newCall_tuple_1 _) (fun obj=>PySem.F.args_object_init_2 obj _) PySem.F.entry_tuple_new
  (zDJ r l items hlr hlen) ⟨hh,hr,hl,fun h' tk acc hk hacc=>⟨⟨_,cw _ rfl,rfl⟩,hQ h' tk acc hk hacc⟩⟩
theorem zMk{items acc:102#0}(h:ItemsOf 60#0 acc items.size):acc=items.toList.reverse.toArray:=by
 obtain⟨h1,h2⟩:=h;apply Array.ext_getElem?;intro i;by_cases hi:i<acc.size
 ·have e:=h2 i acc[i] (Array.getElem?_eq_getElem hi)
  rw[Array.getElem?_eq_getElem hi,<-e];simp only[List.getElem?_toArray];rw[List.getElem?_reverse (by simp;omega)];simp
 ·rw[Array.getElem?_eq_none 1#0,Array.getElem?_eq_none (by simp;omega)]
end
end HT
namespace L3
open L2
section
variable {X:Cx} {a b c e o:Expr} {es:List Expr} {pos p:Pos} {ta tb te:zl}
theorem zQr(hc:85#0)(hg:Gl X "tuple")(hm:X.mg "tuple"=none)(hg2:Gl X "reversed")(hm2:X.mg "reversed"=none)(ha:PA X [a] t)(hs:39#0)
  (he:112#0) (hpl:autoParam ((backTo pos' 33#0).any (·.1)=false) Zq4._auto_1) :
  PE X (.Call (.Name "tuple" p) [.Call (.Name "reversed" p2) [a] [] pos] [] pos') (fun σ H Q=>t σ H fun vs H1=>∃ d xs,vs=[.ref d]/\SqT X.K H1 d xs/\xs.length<=1000000/\∀ l,H1 l=none->Q (.ref l) (wY H1 l (.tup xs.reverse))):=by
 sleep 25;refine eN (wy I hg hm (show bootBuiltins "tuple"=some (.type "tuple") by decide +kernel) ?_ 10#0 10#0);refine PyProof.Rows.callWith_type1 ?_ he hpl;rw[he];show wpAny _ _ (spliced ((false,eval (.Call (.Name "reversed" p2) [a] [] pos) X.env)::backTo pos' 33#0)) _ _ s;refine Calls.spliced_cons ?_;refine eN (wy I hg2 hm2 (show bootBuiltins "reversed"=some (.type "reversed") by decide +kernel) ?_ 10#0 10#0);refine PyProof.Rows.callWith_type1 94#0 hs rfl;obtain⟨d,xs,rfl,hq,hz,q⟩:=q1;obtain⟨u,rfl,rx⟩:=vals1 r1;cases rx;obtain⟨its,rv,ht,u0⟩:=I1.tuple hq;have hsz:its.length<=1000000:=by rw[<-rv.length];exact hz
 have hlt:d<s1.heap.objs.size:=by obtain⟨o,ho,u0⟩:=ht;exact cy ho
 refine HT.zCu ht (by rw[sizeLine_eq];simp;omega) fun tk=>?_;show wpAny _ _ (spliced []) _ _ _;refine Calls.spliced_nil ?_;refine HT.zGg (l:=d) (items:=its.toArray) (s:={ s1 with heap:=s1.heap.push (HT.zOc d ((its.toArray.size:Int)-1)),toks:=tk }) (I.ok.hd hc) ⟨_,cw _ rfl,rfl,rfl⟩ (ht.push _) (cR hlt) (by simp;omega) fun h' tk' acc kp hacc=>?_;have I3:zV X pins σ H1 { s1 with heap:=h',toks:=tk' }:=I1.kept (t':=tk') fun b o e=>kp b o (cR (cy e)) (c9 _ e);have hn:H1 h'.objs.size=none:=I3.hok.fresh (cr _);refine⟨.ref h'.objs.size,_,I3.laid (t':=tk') (o:=.tup xs.reverse) (fun b ob q=>c9 _ q) (cr _) ?_,rfl,q _ hn⟩;refine⟨by rw[dM,sizeLine_eq];omega,its.reverse,zY.reverse rv,?_⟩;rw[HT.zMk hacc];exact zEx.new _ _
noncomputable def zKQ:wF:=fun ds G R=>match ds with | [.tup xs]=>xs.length<=1000000/\R (.tup xs.reverse) G | _=>False
theorem zTD(hc:85#0)(hg:Gl X "tuple")(hm:X.mg "tuple"=none)(hg2:Gl X "reversed")(hm2:X.mg "reversed"=none)(ha:A2 X [a] t)(hs:39#0)
  (he:112#0) (hpl:autoParam ((backTo pos' 33#0).any (·.1)=false) Zq4._auto_1) :
  E2 X (.Call (.Name "tuple" p) [.Call (.Name "reversed" p2) [a] [] pos] [] pos') (zH zKQ t):=by
 refine PE.mono (zQr hc hg hm hg2 hm2 ha hs he hpl) ?_;sleep 28;refine 132#0;unfold zKQ at q1;split at q1
 ·rename_i xs
  obtain⟨v,rfl,d2⟩:=zB7 d1;unfold zR at d2;obtain⟨d,us,rfl,s1,t1⟩:=d2;refine⟨d,us,rfl,s1,by rw[t1.length] at *;exact q1.1,fun l n=>k _ G1 q1.2 _ _ (g1.trans (.fresh n)) (r1.fresh n) ?_⟩;unfold zR;exact⟨l,_,rfl,.of zp,(t1.reverse).grow (.fresh n)⟩
 ·exact q1.elim
end
section
variable {X:Cx} {a b c e o:Expr} {es:List Expr} {pos p:Pos} {ta tb te:zl} {tl:TL2}
noncomputable def zE2(x y:129#0):List Int:=if HT.lexLt y x then y else x
noncomputable def zDn(nss:30#0):List Int:=nss.getD (argBest (HT.btT nss) (nss.length-1)) []
theorem zOd(x y z:129#0):zDn [x,y,z]=zE2 (zE2 x y) z:=by
 have e:zDn [x,y,z]=[x,y,z].getD (if HT.btT [x,y,z] 2 (if HT.btT [x,y,z] 1 0 then 1 else 0) then 2 else if HT.btT [x,y,z] 1 0 then 1 else 0) []:=rfl;rw[e];have e1:HT.btT [x,y,z] 1 0=HT.lexLt y x:=rfl;have e2:HT.btT [x,y,z] 2 1=HT.lexLt z y:=rfl;have e3:HT.btT [x,y,z] 2 0=HT.lexLt z x:=rfl;unfold zE2;rw[e1];by_cases h1:HT.lexLt y x=true
 ·simp only[h1,if_true,e2]
  by_cases h2:HT.lexLt z y=true
  ·simp[h2]
  ·simp[h2]
 ·simp only[h1,bX,if_false]
  rw[e3];by_cases h2:HT.lexLt z x=true
  ·simp[h2]
  ·simp[h2]
theorem zBs(bt:Nat->Nat->Bool):∀ n,argBest bt n<=n
 | 0=>cr _
 | n+1=>by
  unfold argBest;have:=zBs bt n;split<;>omega
noncomputable def zDo(K:15#0)(H:Hp)(as:List Addr)(nss:30#0):Prop:=as.length=nss.length/\∀(i:Nat) a ns,as[i]?=some a->nss[i]?=some ns->SqT K H a (ns.map V.int)
theorem zDo.at{pins:26#0}{s:Shared}{σ:L2.St}{H:Hp}{as:List Addr}{nss:30#0}(I:16#0)(h:zDo X.K H as nss):HT.zAR s.heap as nss:=by
 refine⟨h.1,fun i a ns h1 h2=>?_⟩;obtain⟨its,rv,ht,u0⟩:=I.tuple (h.2 i a ns h1 h2);exact⟨its,ht,intsAre_of rv⟩
theorem zKR(hc:85#0)(hu:X.A.units+10<cLine):wC X (.builtin "min") (fun xs H Q=>∃ a b c nss,xs=[.ref a,.ref b,.ref c]/\zDo X.K H [a,b,c] nss/\∀ d,[a,b,c][argBest (HT.btT nss) 2]?=some d->Q (.ref d) H):=by
 sleep 26;obtain⟨a,b,c,nss,rfl,ht,q⟩:=h;have:us=[.ref a,.ref b,.ref c]:=by
  cases r with
  | cons r1 r =>
   cases r with
   | cons r2 r =>
    cases r with
    | cons r3 r=>cases r;cases r1;cases r2;cases r3;rfl
 subst this;refine HT.min_three (I.ok.hd hc) (by show X.A.in1.units<cLine;simp[Around.in1] at *;omega) (ht.at I) fun h' tk v hv kp=>?_;have e:[Value.ref a,Value.ref b,Value.ref c]=[a,b,c].map Value.ref:=rfl;rw[e,cZ] at hv;cases q':[a,b,c][argBest (HT.btT nss) 2]? with
 | none=>rw[q'] at hv;cases hv
 | some d =>
  rw[q'] at hv;cases hv;exact⟨.ref d,H,I.kept (t':=tk) kp,rfl,q d q'⟩
noncomputable def tupI(ns:129#0):D:=.tup (ns.map D.int)
theorem zOe{K:15#0}{H:Hp}{ns:129#0}{v:V}(h:zR K H (tupI ns) v):∃ a,v=.ref a/\SqT K H a (ns.map V.int):=by
 unfold tupI zR at h;obtain⟨a,us,rfl,s1,t1⟩:=h;have:=t1.ints_inv;subst this;exact⟨a,rfl,s1⟩
theorem zEj{K:15#0}{H:Hp}{ns:129#0}{a:Addr}(h:SqT K H a (ns.map V.int)):zR K H (tupI ns) (.ref a):=by
 unfold tupI zR;exact⟨a,_,rfl,h,Dens.ints ns⟩
theorem zES{K:15#0}{H:Hp}:∀ {nss:30#0} {vs:List V},Dens K H (nss.map tupI) vs->∃ as,vs=as.map V.ref/\zDo K H as nss
 | [],vs,h=>by unfold Dens at h;exact⟨[],h,rfl,fun i a ns h1 h2=>by simp at h1⟩
 | ns::r,vs,h=>by
  rw[dq] at h;unfold Dens at h;obtain⟨x,y,rfl,h1,h2⟩:=h;obtain⟨a,rfl,s1⟩:=zOe h1;obtain⟨as,rfl,ha⟩:=zES h2;refine⟨a::as,rfl,by simp[ha.1],fun i a' ns' h1 h2=>?_⟩;cases i with
  | zero=>simp at h1 h2;subst h1 h2;exact s1
  | succ i=>exact ha.2 i a' ns' (by simpa using h1) (by simpa using h2)
noncomputable def zKS:wF:=fun ds G R=>∃ x y z:List Int,ds=[tupI x,tupI y,tupI z]/\R (tupI (zDn [x,y,z])) G
theorem zDo.pick{K:15#0}{H:Hp}{as:List Addr}{nss:30#0}(h:zDo K H as nss)(hp:0<nss.length){d:Addr}(hd:as[argBest (HT.btT nss) (as.length-1)]?=some d):zR K H (tupI (zDn nss)) (.ref d):=by
 rw[h.1] at hd;have hl:argBest (HT.btT nss) (nss.length-1)<nss.length:=by have:=zBs (HT.btT nss) (nss.length-1);omega
 refine zEj (h.2 _ d _ hd ?_);unfold zDn;simp[dA,hl]
theorem zTE(hr:yZ k X.A)(hc:85#0)(hg:Gl X "min")(hm:X.mg "min"=none)(ha:A2 X [e,e',e''] t)(he:autoParam (starEach [e,e',e''] X.env=21#0::starEach [e',e''] X.env) Zq4._auto_1)(hpl:autoParam ((backTo pos (starEach [e',e''] X.env)).any (·.1)=false) Zq4._auto_1) :
  E2 X (.Call (.Name "min" p) [e,e',e''] [] pos) (zH zKS t):=zE8 (zKR hc 71#0) (by
   rintro ds G R vs H Q ⟨x,y,z,rfl,h⟩ r d k;obtain⟨as,rfl,ha⟩:=zES (nss:=[x,y,z]) d
   match as,ha with
   | [a,b,c],ha=>exact⟨a,b,c,[x,y,z],rfl,ha,fun d hd=>k _ G h _ H 130#0 r (ha.pick 13#0 hd)⟩) hg hm 5#0 ha 10#0 10#0 he hpl
end
end L3
namespace HT
open PySem PyProof.Rows
theorem zOf(A:Around)(s:Shared)(a:Int)(t:Tok)(c:Int)(u:Tok)(prog:Program)(w:World)(E:12#0)(Q:12#0)(h:Q (.bool (decide (c<a))) s) :
  wpAny 3#0 A (richCompare .Gt (.int a t) (.int c u)) Q E s :=
 (PyProof.Rows.gt_int h:wpAny 3#0 A (compareOp .Gt (.int a t) (.int c u)) Q E s)
section
open PySem.SeqAt
open PySem.MeetsSeq PySem.MeetsSeq2 PySem.MeetsSeq3
theorem zGh(l b:Addr)(items items2:102#0)(n n2:Nat)(dd dd2:Option Addr)(sl sl2:Array (Option Value))(ns ms:129#0)(hi:IntsAre items.toList ns)(hj:IntsAre items2.toList ms) :
  Meets (Builtin.«tuple.__gt__» ⟨[.ref l,.ref b],[]⟩)
   (fun u0 R s=>s.heap.get? l=some { cls:=.type "tuple",dict:=dd,data:=.seq items n,slots:=sl }/\s.heap.get? b=some { cls:=.type "tuple",dict:=dd2,data:=.seq items2 n2,slots:=sl2 } /\
    R (.ok (.ret (.bool (lexLt ms ns)))) s) :=
 .of_wp fun prog w A R s h=>by
  obtain⟨hp,g,d,tk,os⟩:=s;obtain⟨hl,hb,h⟩:=h;have f2:=AutoSeq1.sub_tuple_tuple;have z1:items.size=ns.length:=by rw[<-hi.length];simp
  have z2:items2.size=ms.length:=by rw[<-hj.length];simp
  wp_walk using wpAny_loadPart' hl,wpAny_loadPart' hb,wpAny_forIn_list _ (fun rest b s'=>b.1=none/\s'=⟨hp,g,d,tk,os⟩/\∃(vs ws:40#0) (ns' ms':129#0),rest=vs.zip ws /\
   IntsAre vs ns'/\IntsAre ws ms'/\ns'.length+items2.size=ms'.length+items.size/\R (.ok (.ret (.bool (lexLt ms' ns')))) ⟨hp,g,d,tk,os⟩) _
  case turn =>
   rintro⟨y,x⟩ rest b s' ⟨hb',rfl,vs,ws,ns',ms',hz,hvi,hwi,hlen,hR⟩;cases hvi with
   | nil=>rw[List.zip_nil_left] at hz;cases hz
   | cons a t hvi' =>
    cases hwi with
    | nil=>rw[List.zip_nil_right] at hz;cases hz
    | cons c u hwi' =>
     rw[List.zip_cons_cons] at hz;injection hz with hyx hrest
     injection hyx with hy hx
     subst hy hx;rw[zAo] at hR;simp only[cb] at hlen;obtain⟨e,he,hiff⟩:=zIh A.in1 ⟨hp,g,d,tk,os⟩ a t c u;refine bW (he prog w _ _ ?_);cases e with
     | true =>
      rw[if_pos (hiff.mp rfl).symm] at hR
      wp_walk
      exact⟨rfl,rfl,_,_,_,_,hrest,hvi',hwi',by omega,hR⟩
     | false =>
      rw[if_neg (fun q=>absurd (hiff.mpr q.symm) eh)] at hR;have hri:=zOf A.in1 ⟨hp,g,d,tk,os⟩ a t c u prog w
      wp_walk using hri
      exact⟨_,rfl,by simpa using hR⟩
  case fin =>
   rintro⟨b1,b2⟩ s' ⟨hb',rfl,vs,ws,ns',ms',hz,hvi,hwi,hlen,hR⟩;simp only at hb';subst hb';have hv:lexLt ms' ns'=decide (items2.size<items.size):=by
    cases hvi with
    | nil =>
     cases hwi with
     | nil =>
      simp only[ci] at hlen;rw[zCx];exact(decide_eq_false 1#0).symm
     | cons c u hw =>
      simp only[ci,cb] at hlen;rw[zCE];exact(decide_eq_false 1#0).symm
    | cons a t hv =>
     cases hwi with
     | nil =>
      simp only[ci,cb] at hlen;rw[wa];exact(decide_eq_true 1#0).symm
     | cons c u hw =>
      rw[List.zip_cons_cons] at hz;cases hz
   rw[hv] at hR
   wp_walk
   exact⟨_,rfl,by simpa[Builtin.Tuple.tupleCompareSizes] using hR⟩
  case h =>
   exact⟨rfl,rfl,items.toList,items2.toList,ns,ms,rfl,hi,hj,by omega,h⟩
end
section
variable {prog:Program} {w:World} {A:Around} {E:Value->Shared->Prop} {s:Shared}
theorem zKT(hl:IsTup s.heap l items)(hb:IsTup s.heap b items2)(hi:IntsAre items.toList ns)(hj:IntsAre items2.toList ms)
  (hu:A.units<cLine) (h:Q (.bool (lexLt ms ns)) s):wpAny 3#0 A (compareOp .Gt (.ref l) (.ref b)) Q E s:=by
 obtain⟨⟨cls,dd,data,sl⟩,ho,hc,n,hd⟩:=id hl;sleep 20;exact richCompare_meets_room (op:=.Gt) ⟨_,ho,rfl⟩ ⟨_,ho2,rfl⟩ PySem.F.slot_tuple_gt PySem.F.entry_tuple_gt (PySem.F.args_tuple_gt_2 _ _) (zGh l b items items2 n n2 dd dd2 sl sl2 ns ms hi hj)
  ⟨ho,ho2,show Value.bool (lexLt ms ns)≠Value.notImplemented/\Q (.bool (lexLt ms ns)) s from⟨(fun x=>nomatch x),h⟩⟩ hu
end
end HT
namespace L3
open L2
section
variable {X:Cx} {a b c e o:Expr} {es:List Expr} {pos p:Pos} {ta tb te:zl}
noncomputable def zH5(t:zl)(tl th:TO2):TL2:=fun σ G R=>t σ G fun d G1=>tl σ G1 fun lo G2=>th σ G2 fun hi G3=>match d with | .adr l=>∃ ds,Ls G3 l ds/\R (cutD ds lo hi) G3 | _=>False
theorem zQs{lo hi:Option Expr}{tl th:TO2}{p2:Pos}(he:E2 X e te)(hl:O2 X lo tl)(hu:O2 X hi th):F2 X (.Subscript e (.Slice lo hi none p2) pos) (zH5 te tl th):=by
 refine PE.mono (zIj zQF he hl hu) ?_;sleep 17;refine 110#0;cases d with
 | adr l =>
  obtain⟨ds,ls,q3⟩:=q3;obtain⟨xs,s1,t1⟩:=r3.sq ls;unfold zR at d1;subst d1;have hl:=t1.length;refine⟨l,xs,rfl,s1,fun p hp=>k _ G3 q3 p _ _ (((g1.trans g2).trans g3).trans (.fresh hp)) (r3.fresh hp) (r3.free hp) zp ?_⟩;unfold cutD zIk;rw[hl];exact((t1.drop).take).grow (.fresh hp)
 | _=>exact q3.elim
end
end L3
namespace HT
section
variable {prog:Program} {w:World} {A:Around} {E:Value->Shared->Prop} {s:Shared}
end
end HT
namespace L3
open L2
section
variable {X:Cx} {a b c e o:Expr} {es:List Expr} {pos p:Pos} {ta tb te:zl}
theorem zY.rep(r:zY xs us):∀ n:Nat,zY (cN n xs).flatten (cN n us).flatten
 | 0=>.nil
 | n+1=>by
  rw[ca,ca,fj,fj];exact r.append (zY.rep r n)
end
end L3
namespace HT
section
variable {prog:Program} {w:World} {A:Around} {E:Value->Shared->Prop} {s:Shared}
end
end HT
namespace L3
open L2
section
variable {X:Cx} {a b c e o:Expr} {es:List Expr} {pos p:Pos} {ta tb te:zl}
end
end L3
namespace HZ
structure Zs (prog:Program) (w:World) (i l:Addr) (xs:Array Value) where
 It:Nat->Heap->Prop
 Sq:Heap->Prop
 item:∀(A:Around) (E:12#0) (s:Shared) (k:Nat) (x:Value) (Q:12#0),It k s.heap->Sq s.heap->xs[k]?=some x->(∀ h',It (k+1) h'->dt i s.heap h'->Q x { s with heap:=h' })->wpAny 3#0 A (Builtin.SmallTypes.nextOf (.ref i)) Q E s
 fin:∀(A:Around) (E:12#0) (s:Shared) (k:Nat) (Q:12#0),A.handled=none->It k s.heap->Sq s.heap->xs[k]?=none->(∀ h' e,Heap.ExtBut i s.heap h'->(∃ o,h'.get? e=some o/\o.cls=.type "StopIteration")->E (.ref e) { s with heap:=h' })->wpAny 3#0 A (Builtin.SmallTypes.nextOf (.ref i)) Q E s
 itAt:∀ {k:Nat} {h h':Heap},It k h->(∀ o,h.get? i=some o->h'.get? i=some o)->It k h'
 sqAt:∀ {h h':Heap},Sq h->(∀ o,h.get? l=some o->h'.get? l=some o)->Sq h'
 itHas:∀ {k:Nat} {h:Heap},It k h->∃ o,h.get? i=some o/\∀ v,o.data≠.cell v
theorem Zs.lt(Z:Zs prog w i l xs)(x:Z.It k h):i<h.objs.size:=let ⟨_,e,_⟩:=Z.itHas x;cy e
section
variable {prog:Program} {w:World} {A:Around} {E:Value->Shared->Prop} {s:Shared}
end
section
variable {prog:Program} {w:World} {A:Around} {E:Value->Shared->Prop} {s:Shared} {z a b i j l m:Addr} {xs ys:Array Value} (Z1:Zs prog w i l xs) (Z2:Zs prog w j m ys)
end
end HZ
namespace L2
open HZ
end L2
namespace L3
open L2
end L3
namespace HZ
section
variable {prog:Program} {w:World} {A:Around} {E:Value->Shared->Prop}
end
end HZ
namespace L2
open HZ
variable {X:Cx} {pos:Pos}
end L2
namespace L3
open L2
section
variable {X:Cx} {e:Expr} {te:zl} {pos p p2 p3 p4:Pos}
theorem zUI:Ps2 X body (fun u0 u0 u0=>False):=by
 rintro pins s σ H E I ⟨σ',G,D2,r,q,k⟩;exact q.elim
end
end L3
namespace HS
structure SB (a0:Array Keyed) (kd:SortKind) (z:SortSt):Prop where
 pm:(arrOf z).Perm a0
 kd:kindOf z=kd
 fl:failedOf z=none
 pe:pendingOf z=#[]
theorem SB.sz{a0:Array Keyed}{kd:SortKind}{z:SortSt}(b:SB a0 kd z):(arrOf z).size=a0.size:=b.pm.size_eq
section
variable {prog:Program} {w:World} {A:Around} {E:Value->Shared->Prop} {s:Shared} {a0:Array Keyed} {kd:SortKind} {κ:KeyKind}
noncomputable abbrev Ky(κ:KeyKind)(z:SortSt)(i:Nat):κ.α:=KK κ 41#0 i
variable (L:∀(z:SortSt) (i j:Nat) (Q:Option Bool->SortSt->Prop),SB a0 kd z->i<a0.size->j<a0.size->Q (some (κ.blt (Ky κ z i) (Ky κ z j))) z->wpS (model prog w) A E s (ltAt' i j) Q z)
include L
omit L in
end
end HS
namespace HM
open HS
noncomputable abbrev SM:=StateT SortSt Sem
noncomputable def zBt:Bool->Keyed->Array Keyed->Nat->Nat->Nat->SM (Option Nat):=sortPriv% PySem.Builtin.gallop
noncomputable def zI9:Array Keyed->Array Keyed->SM 74#0:=sortPriv% PySem.Builtin.mergeLo
noncomputable def zJA:Array Keyed->Array Keyed->SM 74#0:=sortPriv% PySem.Builtin.mergeHi
noncomputable def zJB:Nat->SM Unit:=sortPriv% PySem.Builtin.setMinGallop
noncomputable def ky(κ:KeyKind)(p:Keyed):κ.α:=(κ.keyOf p.1).getD κ.dflt
noncomputable def byd(left:Bool)(key:Keyed)(arr:Array Keyed)(base i:Nat):SM (Option Bool):=do
 let x <-elem' arr (base+i)
 if left=true then lt' x key
 else do
  let r <-lt' key x
  pure (r.map fun c=>!c)
section
variable {prog:Program} {w:World} {A:Around} {E:Value->Shared->Prop} {s:Shared} {kd:SortKind} {κ:KeyKind} {P:Keyed->Prop}
theorem zz(h:arr[i]?=some p)(q:Q p z):wpS 3#0 A E s (elem' arr i) Q z:=by
 rw[elem'_eq,h];exact cM q
theorem zOg{c:Prop}[Decidable c]{γ β:Type}{Q:β->SortSt->Prop}{z:SortSt}{T:SM β}{F:γ->SM β}{x:γ}(R:γ->SortSt->Prop)(h0:¬c->R x z)(h1:c->(∀ x z',R x z'->wpS 3#0 A E s (F x) Q z')->wpS 3#0 A E s T Q z)(H:∀ x z',R x z'->wpS 3#0 A E s (F x) Q z'):wpS 3#0 A E s (if c then T else F x) Q z:=by
 by_cases h:c
 ·rw[if_pos h]
  exact h1 h H
 ·rw[if_neg h]
  exact H _ _ (h0 h)
structure Turn (B:Nat->Bool) (n r:Nat):Prop where
 le:r<=n
 yes:∀ i,i<r->B i=true
 no:∀ i,r<=i->i<n->B i=false
variable (L:∀(z:SortSt) (x y:Keyed) (Q:Option Bool->SortSt->Prop),kindOf z=kd->P x->P y->Q (some (κ.blt (ky κ x) (ky κ y))) z->wpS (model prog w) A E s (lt' x y) Q z)
include L
theorem zTF{left:Bool}{key:Keyed}{arr:Array Keyed}{base i:Nat}{z:SortSt}{Q:Option Bool->SortSt->Prop}(hz:kindOf z=kd)(hk:P key)(ha:∀ p∈arr,P p)(hi:base+i<arr.size)
  (h:Q (some (if left=true then κ.blt (ky κ arr[base+i]) (ky κ key) else !κ.blt (ky κ key) (ky κ arr[base+i]))) z):wpS 3#0 A E s (byd left key arr base i) Q z:=by
 unfold byd;refine cH (zz (getElem?_pos arr _ hi) ?_);cases left with
 | true =>
  simp only[if_true] at h ⊢;exact L _ _ _ _ hz (ha _ (dS hi)) hk h
 | false =>
  simp only[bX,if_false] at h ⊢;exact cH (L _ _ _ _ hz hk (ha _ (dS hi)) (cM h))
theorem zAj(hz:kindOf z=kd)(hk:P key)(ha:∀ p∈arr,P p)(hb:base+n<=arr.size)(hh:hint<n)
  (hB:∀ i,(hi:base+i<arr.size)->i<n->(if left=true then κ.blt (ky κ arr[base+i]) (ky κ key) else !κ.blt (ky κ key) (ky κ arr[base+i]))=B i)
  (mo:∀ i j,i<=j->j<n->B j=true->B i=true) (h:∀ r,Turn B n r->Q (some r) z):wpS 3#0 A E s (zBt left key arr base n hint) Q z:=by
 have bd:∀ {i:Nat} {Q:Option Bool->SortSt->Prop},i<n->Q (some (B i)) z->wpS 3#0 A E s (byd left key arr base i) Q z:=fun {i Q} hi q=>zTF L hz hk ha 1#0 (by rw[hB i 1#0 hi];exact q);refine cH (m:=byd left key arr base hint) (bd hh ?_);dsimp only;generalize hf:(fun(x:Nat) (c:Option (Option Nat)×Nat×Nat)=>if c.2.1≥c.2.2 then (_:SM (ForInStep (Option (Option Nat)×Nat×Nat))) else _)=f3;revert f3;refine id ?_;intro f3 hf;have S3:∀ lo₀ hi₀:Nat,lo₀<=hi₀->hi₀<=n->(∀ i,i<lo₀->B i=true)->(∀ i,hi₀<=i->i<n->B i=false)->wpS 3#0 A E s (forIn [:n] ((none,lo₀,hi₀):Option (Option Nat)×Nat×Nat) f3) (fun c z''=>z''=z/\c.1=none/\Turn B n c.2.2) z:=by
  intro lo₀ hi₀ l1 l2 y1 y2;refine eB (β:=Option (Option Nat)×Nat×Nat) (I:=fun x c z''=>z''=z/\c.1=none/\c.2.1<=c.2.2/\c.2.2<=n/\c.2.2-c.2.1<=n-x/\(∀ i,i<c.2.1->B i=true)/\∀ i,c.2.2<=i->i<n->B i=false) (fun x c z'' x1 x2 hh=>?_) (fun c z'' hh=>?_) ⟨rfl,rfl,l1,l2,by dsimp only;omega,y1,y2⟩
  ·clear y1 y2 l1 l2
   obtain⟨c0,lo,hi⟩:=c;obtain⟨e1,e2,q1,q2,q3,q4,q5⟩:=hh;subst e1;rw[<-hf];dsimp only at e2 q1 q2 q3 q4 q5 ⊢;by_cases g:lo≥hi
   ·rw[if_pos g]
    exact cM ⟨rfl,rfl,q2,fun i hi'=>q4 i (by dsimp only at hi';omega),q5⟩
   ·rw[if_neg g]
    refine cH (m:=byd left key arr base (lo+(hi-lo) / 2)) (bd 1#0 ?_);dsimp only;cases e:B (lo+(hi-lo) / 2) with
    | true=>exact cM ⟨rfl,rfl,by dsimp only;omega,q2,by dsimp only;omega,fun i hi'=>mo i (lo+(hi-lo) / 2) (by dsimp only at hi';omega) 1#0 e,q5⟩
    | false =>
     refine cM ⟨rfl,rfl,by dsimp only;omega,by dsimp only;omega,by dsimp only;omega,q4,fun i i1 i2=>?_⟩;dsimp only at i1;cases e':B i with
     | false=>rfl
     | true=>rw[mo _ i i1 i2 e'] at e;cases e
  ·obtain⟨e1,e2,q1,q2,q3,q4,q5⟩:=hh
   exact⟨e1,e2,q2,fun i hi'=>q4 i 1#0,q5⟩
 clear hf;cases hr:B hint with
 | true =>
  rw[if_pos rfl];refine cH (fC (eB (β:=Option (Option Nat)×Nat×Nat) (I:=fun x c z'=>z'=z/\c.1=none/\c.2.1<c.2.2/\x+1<=c.2.2/\hint+c.2.1<n/\B (hint+c.2.1)=true) (Q:=fun c z'=>z'=z/\c.1=none/\c.2.1<c.2.2/\hint+c.2.1<n/\B (hint+c.2.1)=true/\(c.2.2≥n-hint\/B (hint+c.2.2)=false)) (fun x c z' x1 x2 ⟨e1,e2,q1,q2,q3,q4⟩=>?stp) (fun c z' ⟨e1,e2,q1,q2,q3,q4⟩=>⟨e1,e2,q1,q3,q4,.inl 1#0⟩) ⟨rfl,rfl,Nat.zero_lt_one,cr _,hh,hr⟩) fun c z' ⟨e1,e2,q1,q3,q4,q5⟩=>?pst)
  case stp =>
   obtain⟨c0,la,of⟩:=c;subst e1;dsimp only at e2 q1 q2 q3 q4 ⊢;by_cases g:of≥n-hint
   ·rw[if_pos g]
    exact cM ⟨rfl,rfl,q1,q3,q4,.inl g⟩
   ·rw[if_neg g]
    refine cH (m:=byd left key arr base (hint+of)) (bd 1#0 ?_);dsimp only;cases e:B (hint+of) with
    | true=>exact cM ⟨rfl,rfl,by dsimp only;omega,by dsimp only;omega,by dsimp only;omega,e⟩
    | false=>exact cM ⟨rfl,rfl,q1,q3,q4,.inr e⟩
  case pst =>
   obtain⟨c0,la,of⟩:=c;subst e1;dsimp only at e2 q1 q3 q4 q5 ⊢;rw[e2];dsimp only;have y1:∀ i,i<hint+la+1->B i=true:=fun i hi=>by
    exact mo i (hint+la) 1#0 q3 q4
   have y2:∀ i,hint+min of (n-hint)<=i->i<n->B i=false:=fun i i1 i2=>by
    rcases q5 with q5 | q5
    ·omega
    ·cases e':B i with
     | false=>rfl
     | true=>rw[mo _ i 1#0 i2 e'] at q5;cases q5
   have l1:hint+la+1<=hint+min of (n-hint):=by omega
   have l2:hint+min of (n-hint)<=n:=by omega
   refine cH (fC (S3 _ _ l1 l2 y1 y2) fun c z'' hh=>?_);obtain⟨c0,lo,hi⟩:=c;obtain⟨e1,e2,e3⟩:=hh;dsimp only at e2 e3 ⊢;subst e1;rw[e2];exact cM (h _ e3)
 | false =>
  rw[if_neg 13#0];refine cH (fC (eB (β:=Option (Option Nat)×Nat×Nat) (I:=fun x c z'=>z'=z/\c.1=none/\c.2.1<c.2.2/\x+1<=c.2.2/\c.2.1<=hint/\B (hint-c.2.1)=false) (Q:=fun c z'=>z'=z/\c.1=none/\c.2.1<c.2.2/\c.2.1<=hint/\B (hint-c.2.1)=false/\(c.2.2≥hint+1\/(c.2.2<=hint/\B (hint-c.2.2)=true))) (fun x c z' x1 x2 ⟨e1,e2,q1,q2,q3,q4⟩=>?stp) (fun c z' ⟨e1,e2,q1,q2,q3,q4⟩=>⟨e1,e2,q1,q3,q4,.inl 1#0⟩) ⟨rfl,rfl,Nat.zero_lt_one,cr _,dG _,hr⟩) fun c z' ⟨e1,e2,q1,q3,q4,q5⟩=>?pst)
  case stp =>
   obtain⟨c0,la,of⟩:=c;subst e1;dsimp only at e2 q1 q2 q3 q4 ⊢;by_cases g:of≥hint+1
   ·rw[if_pos g]
    exact cM ⟨rfl,rfl,q1,q3,q4,.inl g⟩
   ·rw[if_neg g]
    refine cH (m:=byd left key arr base (hint-of)) (bd 1#0 ?_);dsimp only;cases e:B (hint-of) with
    | true=>exact cM ⟨rfl,rfl,q1,q3,q4,.inr ⟨by dsimp only;omega,e⟩⟩
    | false=>exact cM ⟨rfl,rfl,by dsimp only;omega,by dsimp only;omega,by dsimp only;omega,e⟩
  case pst =>
   obtain⟨c0,la,of⟩:=c;subst e1;dsimp only at e2 q1 q3 q4 q5 ⊢;rw[e2];dsimp only;have y1:∀ i,i<hint+1-min of (hint+1)->B i=true:=fun i hi=>by
    rcases q5 with q5 | ⟨q5,q6⟩
    ·omega
    ·exact mo i (hint-of) 1#0 1#0 q6
   have y2:∀ i,hint-la<=i->i<n->B i=false:=fun i i1 i2=>by
    cases e':B i with
    | false=>rfl
    | true=>rw[mo _ i i1 i2 e'] at q4;cases q4
   have l1:hint+1-min of (hint+1)<=hint-la:=by omega
   have l2:hint-la<=n:=by omega
   refine cH (fC (S3 _ _ l1 l2 y1 y2) fun c z'' hh=>?_);obtain⟨c0,lo,hi⟩:=c;obtain⟨e1,e2,e3⟩:=hh;dsimp only at e2 e3 ⊢;subst e1;rw[e2];exact cM (h _ e3)
end
section
variable {κ:KeyKind}
theorem zv(h:i<xs.size):KK κ xs i=ky κ xs[i]:=by
 unfold KK ky;rw[getElem?_pos xs i h]
noncomputable def Srt(κ:KeyKind)(l:List Keyed):Prop:=l.Pairwise fun x y=>κ.kle (ky κ x) (ky κ y)
structure MO (κ:KeyKind) (a b r:Array Keyed):Prop where
 sr:Srt κ r.toList
 pm:r.toList.Perm (a.toList++b.toList)
structure MI (κ:KeyKind) (a b out:Array Keyed) (ia ib:Nat):Prop where
 sr:Srt κ out.toList
 pm:(out.toList++(a.toList.drop ia++b.toList.drop ib)).Perm (a.toList++b.toList)
 la:∀ x∈out.toList,∀ j,ia<=j->j<a.size->κ.kle (ky κ x) (KK κ a j)
 lb:∀ x∈out.toList,∀ j,ib<=j->j<b.size->κ.kle (ky κ x) (KK κ b j)
 sz:out.size=ia+ib
theorem zCP(h:SortedToK κ a a.size):Srt κ (a.toList.drop i):=by
 unfold Srt;rw[dR];intro j k hj hk jk;rw[dN,cC] at hj hk;have:=h (i+j) (i+k) 1#0 1#0;rw[zv 1#0,zv 1#0] at this;sleep 33
theorem wV(h:y∈a.toList.drop i):∃ j,i<=j/\j<a.size/\ky κ y=KK κ a j:=by
 obtain⟨j,hj,rfl⟩:=fE.mp h;rw[dN,cC] at hj;refine⟨i+j,by omega,by omega,?_⟩;rw[zv 1#0];simp
theorem zCn{a:Array Keyed}{i:Nat}:(a.extract i a.size).toList=a.toList.drop i:=by
 rw[eM,dY];rw[fq 13#0]
theorem wm(h1:Srt κ l)(h2:Srt κ m)(h:∀ x∈l,∀ y∈m,κ.kle (ky κ x) (ky κ y)):Srt κ (l++m):=List.pairwise_append.mpr ⟨h1,h2,h⟩
variable {a b out:Array Keyed} {ia ib:Nat}
theorem MI.doneA(m:MI κ a b out ia ib)(sa:SortedToK κ a a.size)(e:ib=b.size):MO κ a b (out++a.extract ia a.size++b.extract ib b.size):=by
 have e1:(out++a.extract ia a.size++b.extract ib b.size).toList=out.toList++(a.toList.drop ia++b.toList.drop ib):=by
  rw[dZ,dZ,zCn,zCn,cL]
 have e2:b.toList.drop ib=[]:=by rw[e,<-cC,List.drop_length]
 refine⟨?_,by rw[e1];exact m.pm⟩;rw[e1,e2,eW];refine wm m.sr (zCP sa) fun x hx y hy=>?_;obtain⟨j,j1,j2,j3⟩:=wV (κ:=κ) hy;rw[j3];exact m.la x hx j j1 j2
theorem MI.doneB(m:MI κ a b out ia ib)(sb:SortedToK κ b b.size)(e:ia=a.size):MO κ a b (out++a.extract ia a.size++b.extract ib b.size):=by
 have e1:(out++a.extract ia a.size++b.extract ib b.size).toList=out.toList++(a.toList.drop ia++b.toList.drop ib):=by
  rw[dZ,dZ,zCn,zCn,cL]
 have e2:a.toList.drop ia=[]:=by rw[e,<-cC,List.drop_length]
 refine⟨?_,by rw[e1];exact m.pm⟩;rw[e1,e2,ck];refine wm m.sr (zCP sb) fun x hx y hy=>?_;obtain⟨j,j1,j2,j3⟩:=wV (κ:=κ) hy;rw[j3];exact m.lb x hx j j1 j2
theorem MI.lastA(m:MI κ a b out ia ib)(sa:SortedToK κ a a.size)(sb:SortedToK κ b b.size)(la:∀ j,j<b.size->κ.kle (KK κ b j) (KK κ a (a.size-1)))(e:ia+1=a.size):MO κ a b (out++b.extract ib b.size++a.extract ia a.size):=by
 have e1:(out++b.extract ib b.size++a.extract ia a.size).toList=out.toList++(b.toList.drop ib++a.toList.drop ia):=by
  rw[dZ,dZ,zCn,zCn,cL]
 refine⟨?_,by rw[e1];exact(eX.append_left _ List.perm_append_comm).trans m.pm⟩;rw[e1];refine wm m.sr (wm (zCP sb) (zCP sa) fun x hx y hy=>?_) fun x hx y hy=>?_
 ·obtain⟨j,j1,j2,j3⟩:=wV (κ:=κ) hx
  obtain⟨k,k1,k2,k3⟩:=wV (κ:=κ) hy;rw[j3,k3,show k=a.size-1 by omega];exact la j j2
 ·rcases cG.mp hy with hy | hy
  ·obtain⟨j,j1,j2,j3⟩:=wV (κ:=κ) hy
   rw[j3];exact m.lb x hx j j1 j2
  ·obtain⟨j,j1,j2,j3⟩:=wV (κ:=κ) hy
   rw[j3];exact m.la x hx j j1 j2
theorem zG8(h:i<a.size):a.toList.drop i=a[i]::a.toList.drop (i+1):=by
 rw[List.drop_eq_getElem_cons (by simpa using h)];simp
theorem MI.pushA(m:MI κ a b out ia ib)(sa:SortedToK κ a a.size)(h:ia<a.size)(hb:∀ j,ib<=j->j<b.size->κ.kle (KK κ a ia) (KK κ b j)):MI κ a b (out.push a[ia]) (ia+1) ib:=by
 refine⟨?_,?_,fun x hx j j1 j2=>?_,fun x hx j j1 j2=>?_,by rw[en,m.sz];omega⟩
 ·rw[db]
  refine wm m.sr (fh _ _) fun x hx y hy=>?_;rw[cq.mp hy,<-zv h];exact m.la x hx ia (cr _) h
 ·rw[db,cL]
  have:=m.pm;rw[zG8 h] at this;exact this
 ·rw[db] at hx
  sleep 30
  ·exact m.la x hx j 1#0 j2
  ·rw[cq.mp hx,<-zv h]
   exact sa ia j 1#0 j2
 ·rw[db] at hx
  sleep 30
  ·exact m.lb x hx j j1 j2
  ·rw[cq.mp hx,<-zv h]
   exact hb j j1 j2
theorem MI.pushB(m:MI κ a b out ia ib)(sb:SortedToK κ b b.size)(h:ib<b.size)(ha:∀ j,ia<=j->j<a.size->κ.kle (KK κ b ib) (KK κ a j)):MI κ a b (out.push b[ib]) ia (ib+1):=by
 refine⟨?_,?_,fun x hx j j1 j2=>?_,fun x hx j j1 j2=>?_,by rw[en,m.sz];omega⟩
 ·rw[db]
  refine wm m.sr (fh _ _) fun x hx y hy=>?_;rw[cq.mp hy,<-zv h];exact m.lb x hx ib (cr _) h
 ·rw[db,cL]
  refine eX.trans ?_ m.pm;rw[zG8 h];refine eX.append_left _ ?_;show(b[ib]::(List.drop ia a.toList++List.drop (ib+1) b.toList)).Perm _;exact List.perm_middle.symm
 ·rw[db] at hx
  sleep 30
  ·exact m.la x hx j j1 j2
  ·rw[cq.mp hx,<-zv h]
   exact ha j j1 j2
 ·rw[db] at hx
  sleep 30
  ·exact m.lb x hx j 1#0 j2
  ·rw[cq.mp hx,<-zv h]
   exact sb ib j 1#0 j2
theorem zFz(h:i+k<a.size):a.extract i (i+(k+1))=(a.extract i (i+k)).push a[i+k]:=by
 apply Array.ext';rw[db,eM,eM,dY,dY,show i+(k+1)-i=k+1 by omega,show i+k-i=k by omega,List.take_add_one];congr 1;rw[List.getElem?_drop,dI (by simpa using h)];simp
theorem zDp:a.extract i (i+0)=#[]:=by
 apply Array.ext';rw[eM,dY];simp
theorem MI.manyA(sa:SortedToK κ a a.size)(m:MI κ a b out ia ib):∀ k,ia+k<=a.size->(∀ i,ia<=i->i<ia+k->∀ j,ib<=j->j<b.size->κ.kle (KK κ a i) (KK κ b j))->MI κ a b (out++a.extract ia (ia+k)) (ia+k) ib
 | 0,_,_=>by rw[zDp,Array.append_empty];exact m
 | k+1,hk,h=>by
  have:=(MI.manyA sa m k 1#0 fun i i1 i2=>h i i1 1#0).pushA sa 1#0 (h (ia+k) 1#0 1#0);rw[zFz 1#0,Array.append_push];exact this
theorem MI.manyB(sb:SortedToK κ b b.size)(m:MI κ a b out ia ib):∀ k,ib+k<=b.size->(∀ i,ib<=i->i<ib+k->∀ j,ia<=j->j<a.size->κ.kle (KK κ b i) (KK κ a j))->MI κ a b (out++b.extract ib (ib+k)) ia (ib+k)
 | 0,_,_=>by rw[zDp,Array.append_empty];exact m
 | k+1,hk,h=>by
  have:=(MI.manyB sb m k 1#0 fun i i1 i2=>h i i1 1#0).pushB sb 1#0 (h (ib+k) 1#0 1#0);rw[zFz 1#0,Array.append_push];exact this
end
structure Kp (z z':SortSt):Prop where
 kd:kindOf z'=kindOf z
 ar:arrOf z'=arrOf z
 pe:pendingOf z'=pendingOf z
 fl:failedOf z'=failedOf z
theorem Kp.refl(z:SortSt):Kp z z:=⟨rfl,rfl,rfl,rfl⟩
theorem Kp.trans(h:Kp z z')(h':Kp z' z''):Kp z z'':=⟨h'.kd.trans h.kd,h'.ar.trans h.ar,h'.pe.trans h.pe,h'.fl.trans h.fl⟩
section
variable {prog:Program} {w:World} {A:Around} {E:Value->Shared->Prop} {s:Shared} {kd:SortKind} {κ:KeyKind} {P:Keyed->Prop}
theorem zDq{g:Nat}{z:SortSt}{Q:Unit->SortSt->Prop}(h:∀ z',Kp z z'->Q () z'):wpS 3#0 A E s (zJB g) Q z:=wpS_modify (h _ ⟨rfl,rfl,rfl,rfl⟩)
theorem zLO{c:Prop}[Decidable c]{γ β:Type}{Q:β->SortSt->Prop}{z:SortSt}{F:γ->SM β}(x y:γ)(h:∀ u,wpS 3#0 A E s (F u) Q z):wpS 3#0 A E s (if c then F x else F y) Q z:=by
 split
 ·exact h x
 ·exact h y
theorem zLP{c:Prop}[Decidable c]{γ δ β:Type}{Q:β->SortSt->Prop}{z:SortSt}{T:SM β}{F:γ->δ->SM β}{x:γ}{y:δ}(R:γ->δ->Prop)(h0:¬c->R x y)(h1:c->(∀ x y,R x y->wpS 3#0 A E s (F x y) Q z)->wpS 3#0 A E s T Q z)(H:∀ x y,R x y->wpS 3#0 A E s (F x y) Q z):wpS 3#0 A E s (if c then T else F x y) Q z:=by
 by_cases h:c
 ·rw[if_pos h]
  exact h1 h H
 ·rw[if_neg h]
  exact H _ _ (h0 h)
variable (L:∀(z:SortSt) (x y:Keyed) (Q:Option Bool->SortSt->Prop),kindOf z=kd->P x->P y->Q (some (κ.blt (ky κ x) (ky κ y))) z->wpS (model prog w) A E s (lt' x y) Q z)
include L
theorem zKU(hz:kindOf z=kd)(pa:∀ p∈a,P p)(pb:∀ p∈b,P p)(ha:1<=a.size)(hb:1<=b.size)(sa:SortedToK κ a a.size)(sb:SortedToK κ b b.size)
  (fst:∀ j,j<a.size->κ.kle (KK κ b 0) (KK κ a j)) (lst:∀ j,j<b.size->κ.kle (KK κ b j) (KK κ a (a.size-1))) (h:∀ r z',MO κ a b r->Kp z z'->Q r z'):wpS 3#0 A E s (zI9 a b) Q z:=by
 sleep 57;dsimp only;generalize hf2:(fun(x:Nat) (c:Option (Array Keyed)×Array Keyed×Nat×Nat×Nat×Nat×Nat)=>(_:SM (ForInStep (Option 74#0×Array Keyed×Nat×Nat×Nat×Nat×Nat))))=f2;revert f2;refine id ?_;intro f2 hf2;generalize hf1:(fun(x:Nat) (c:Option (Array Keyed)×Array Keyed×Nat×Nat×Nat)=>(_:SM (ForInStep (Option 74#0×Array Keyed×Nat×Nat×Nat))))=f1;revert f1;refine id ?_;intro f1 hf1;have S2:∀(n0:Nat) (c:Option 74#0×Array Keyed×Nat×Nat×Nat×Nat×Nat) (z2:SortSt),Kp z z2/\c.1=none/\MI κ a b c.2.1 c.2.2.1 c.2.2.2.1/\c.2.2.1+1<a.size/\c.2.2.2.1<b.size/\n0+1<=c.2.1.size->wpS 3#0 A E s (forIn [:a.size+b.size] c f2) (fun c z'=>Kp z z'/\((∃ r,c.1=some r/\MO κ a b r)\/(c.1=none/\MI κ a b c.2.1 c.2.2.1 c.2.2.2.1/\c.2.2.1+1<a.size/\c.2.2.2.1<b.size/\n0+1<=c.2.1.size))) z2:=by
  intro n0 c z2 hi;clear hf1 f1;refine eB (β:=Option 74#0×Array Keyed×Nat×Nat×Nat×Nat×Nat) (I:=fun y c z'=>Kp z z'/\c.1=none/\MI κ a b c.2.1 c.2.2.1 c.2.2.2.1/\c.2.2.1+1<a.size/\c.2.2.2.1<b.size/\n0+1<=c.2.1.size) (fun y c z3 y1 y2 hh=>?_) (fun c z3 hh=>⟨hh.1,.inr hh.2⟩) hi;clear hi y1 y2;obtain⟨c0'',out'',ia'',ib'',mg',ac',bc'⟩:=c;obtain⟨k3,e4,m3,r1,r2,r3⟩:=hh;rw[<-hf2];clear hf2;dsimp only at e4 m3 r1 r2 r3 ⊢;have s3:=m3.sz;generalize mg'-1=mg3;apply zLO (c:=mg'>1) (γ:=Nat) mg3 mg';intro mg2;refine cH (m:=zJB _) (zDq fun z4 k4=>?_);have kz:=k3.trans k4;refine cH (m:=elem' b ib'') (zz (getElem?_pos b ib'' r2) ?_);refine cH (m:=zBt false b[ib''] a ia'' (a.size-ia'') 0) (zAj L (B:=fun t=>!κ.blt (KK κ b ib'') (KK κ a (ia''+t))) (kz.kd.trans hz) (pb _ (dS r2)) pa 1#0 1#0 (fun t h1 h2=>by rw[if_neg 13#0,zv h1,zv r2]) (fun t u tu un q=>?_) fun k tk=>?_)
  ·simp only[Bool.not_eq_true'] at q ⊢
   exact KeyOrd.kle_trans (sa _ _ 1#0 1#0) q
  dsimp only;have l4:=tk.le;have ya:∀ t,ia''<=t->t<ia''+k->∀ j,ib''<=j->j<b.size->κ.kle (KK κ a t) (KK κ b j):=fun t t1 t2 j j1 j2=>by
   have q:=tk.yes (t-ia'') 1#0;rw[show ia''+(t-ia'')=t by omega,Bool.not_eq_true'] at q;exact KeyOrd.kle_trans q (sb _ _ j1 j2)
  have na:∀ t,ia''+k<=t->t<a.size->κ.kle (KK κ b ib'') (KK κ a t):=fun t t1 t2=>by
   have q:=tk.no (t-ia'') 1#0 1#0;rw[show ia''+(t-ia'')=t by omega,Bool.not_eq_false'] at q;exact KeyOrd.kle_of_klt q
  apply @zLP prog w A E s (k>0) _ 74#0 Nat _ _ _ _ _ out'' ia'' (fun o i=>MI κ a b o i ib''/\i+1<a.size/\n0+1<=o.size/\∀ t,i<=t->t<a.size->κ.kle (KK κ b ib'') (KK κ a t))
  ·exact fun hk=>⟨m3,r1,r3,fun t t1 t2=>na t 1#0 t2⟩
  ·intro hk H
   have m4:=MI.manyA sa m3 k 1#0 ya;have s4:=m4.sz;by_cases c3:ia''+k+1=a.size
   ·rw[if_pos 111#0]
    exact cM ⟨kz,.inl ⟨_,rfl,m4.lastA sa sb lst c3⟩⟩
   rw[if_neg 111#0];by_cases c4:ia''+k=a.size
   ·rw[if_pos (by simpa using c4)]
    exact cM ⟨kz,.inl ⟨_,rfl,m4.doneB sb c4⟩⟩
   rw[if_neg (by simpa using c4)];exact H _ _ ⟨m4,by omega,by omega,na⟩
  intro o4 i4 hh;clear ya na tk l4 s3 m3 r1 r3;obtain⟨m4,r4,u4,na⟩:=hh;have i5:i4<a.size:=by omega
  refine cH (m:=elem' b ib'') (zz (getElem?_pos b ib'' r2) ?_);have m5:=MI.pushB m4 sb r2 na;have u5:n0+1<=(o4.push b[ib'']).size:=by rw[en];omega
  by_cases c5:ib''+1=b.size
  ·rw[if_pos (by simpa using c5)]
   exact cM ⟨kz,.inl ⟨_,rfl,m5.doneA sa c5⟩⟩
  rw[if_neg (by simpa using c5)];have r5:ib''+1<b.size:=by omega
  clear m4 u4 na c5;generalize o4.push b[ib'']=o5 at m5 u5 ⊢;generalize ib''+1=i6 at m5 r5 ⊢;refine cH (m:=elem' a i4) (zz (getElem?_pos a i4 i5) ?_);refine cH (m:=zBt true a[i4] b i6 (b.size-i6) 0) (zAj L (B:=fun t=>κ.blt (KK κ b (i6+t)) (KK κ a i4)) (kz.kd.trans hz) (pa _ (dS i5)) pb 1#0 1#0 (fun t h1 h2=>by rw[if_pos rfl,zv h1,zv i5]) (fun t u tu un q=>KeyOrd.klt_of_kle_of_klt (sb _ _ 1#0 1#0) q) fun k' tk'=>?_);dsimp only;have l6:=tk'.le;have nm:∀ t,i6+k'<=t->t<b.size->κ.kle (KK κ a i4) (KK κ b t):=fun t t1 t2=>by
   have q:=tk'.no (t-i6) 1#0 1#0;rw[show i6+(t-i6)=t by omega] at q;exact q
  apply @zLP prog w A E s (k'>0) _ 74#0 Nat _ _ _ _ _ o5 i6 (fun o i=>MI κ a b o i4 i/\i<b.size/\n0+1<=o.size/\∀ t,i<=t->t<b.size->κ.kle (KK κ a i4) (KK κ b t))
  ·exact fun hk'=>⟨m5,r5,u5,fun t t1 t2=>nm t 1#0 t2⟩
  ·intro hk' H
   have s5:=m5.sz;have m6:=MI.manyB sb m5 k' 1#0 fun t t1 t2 j j1 j2=>by
    have q:=tk'.yes (t-i6) 1#0;rw[show i6+(t-i6)=t by omega] at q;exact KeyOrd.kle_trans (KeyOrd.kle_of_klt q) (sa _ _ j1 j2)
   have s6:=m6.sz;by_cases c6:i6+k'=b.size
   ·rw[if_pos (by simpa using c6)]
    exact cM ⟨kz,.inl ⟨_,rfl,m6.doneA sa c6⟩⟩
   rw[if_neg (by simpa using c6)];exact H _ _ ⟨m6,by omega,by omega,nm⟩
  intro o6 i7 hh;clear nm tk' l6 m5 r5 u5;obtain⟨m6,r6,u6,nm⟩:=hh;refine cH (m:=elem' a i4) (zz (getElem?_pos a i4 i5) ?_);have m7:=MI.pushA m6 sa i5 nm;have s6:=m6.sz;have s7:=m7.sz;by_cases c7:i4+1+1=a.size
  ·rw[if_pos (by simpa using c7)]
   exact cM ⟨kz,.inl ⟨_,rfl,m7.lastA sa sb lst c7⟩⟩
  rw[if_neg (by simpa using c7)];split
  ·exact cM ⟨kz,.inr ⟨rfl,m7,by dsimp only;omega,r6,by dsimp only;omega⟩⟩
  ·exact cM ⟨kz,rfl,m7,by dsimp only;omega,r6,by dsimp only;omega⟩
 clear hf2;have S1:∀(c:Option 74#0×Array Keyed×Nat×Nat×Nat) (z1:SortSt),Kp z z1/\c.1=none/\MI κ a b c.2.1 c.2.2.1 c.2.2.2.1/\c.2.2.1+1<a.size/\c.2.2.2.1<b.size->wpS 3#0 A E s (forIn [:a.size+b.size] c f1) (fun c z'=>Kp z z'/\∃ r,c.1=some r/\MO κ a b r) z1:=by
  intro c z1 hi;refine eB (β:=Option 74#0×Array Keyed×Nat×Nat×Nat) (I:=fun x c z'=>Kp z z'/\c.1=none/\MI κ a b c.2.1 c.2.2.1 c.2.2.2.1/\c.2.2.1+1<a.size/\c.2.2.2.1<b.size/\x<=c.2.1.size) (fun x c z1 x1 x2 hh=>?_) (fun c z1 hh=>?_) ⟨hi.1,hi.2.1,hi.2.2.1,hi.2.2.2.1,hi.2.2.2.2,dG _⟩
  ·clear hi
   obtain⟨c0,out,ia,ib,mg⟩:=c;obtain⟨k1,e2,m1,q1,q2,q3⟩:=hh;rw[<-hf1];clear hf1;dsimp only at e2 m1 q1 q2 q3 ⊢;generalize hf0:(fun(x:Nat) (c:Option (Array Keyed)×Array Keyed×Nat×Nat×Nat×Nat)=>(_:SM (ForInStep (Option 74#0×Array Keyed×Nat×Nat×Nat×Nat))))=f0;revert f0;refine id ?_;intro f0 hf0;refine cH (fC (eB (β:=Option 74#0×Array Keyed×Nat×Nat×Nat×Nat) (I:=fun y c z'=>Kp z z'/\c.1=none/\MI κ a b c.2.1 c.2.2.1 c.2.2.2.1/\c.2.2.1+1<a.size/\c.2.2.2.1<b.size/\out.size+y<=c.2.1.size) (Q:=fun c z'=>Kp z z'/\((∃ r,c.1=some r/\MO κ a b r)\/(c.1=none/\MI κ a b c.2.1 c.2.2.1 c.2.2.2.1/\c.2.2.1+1<a.size/\c.2.2.2.1<b.size/\out.size+1<=c.2.1.size))) (fun y c z2 y1 y2 hh=>?stp1) (fun c z2 hh=>?fin1) ⟨k1,rfl,m1,q1,q2,by dsimp only;omega⟩) fun c z2 hh=>?pst1)
   case fin1 =>
    obtain⟨k2,e3,m2,p1,p2,p3⟩:=hh;exact⟨k2,.inr ⟨e3,m2,p1,p2,by omega⟩⟩
   case stp1 =>
    obtain⟨c0',out',ia',ib',ac,bc⟩:=c;obtain⟨k2,e3,m2,p1,p2,p3⟩:=hh;rw[<-hf0];clear hf0 S2;dsimp only at e3 m2 p1 p2 p3 ⊢;refine cH (m:=elem' b ib') (zz (getElem?_pos b ib' p2) ?_);refine cH (m:=elem' a ia') (zz (getElem?_pos a ia' 1#0) ?_);refine cH (m:=lt' b[ib'] a[ia']) (L _ _ _ _ (k2.kd.trans hz) (pb _ (dS p2)) (pa _ (dS _)) ?_);dsimp only;cases e:κ.blt (ky κ b[ib']) (ky κ a[ia']) with
    | true =>
     rw[if_pos rfl];refine cH (m:=elem' b ib') (zz (getElem?_pos b ib' p2) ?_);have m3:=m2.pushB sb p2 fun j j1 j2=>KeyOrd.kle_trans (KeyOrd.kle_of_klt (by rw[zv p2,zv 1#0];exact e)) (sa ia' j j1 j2);by_cases c3:ib'+1=b.size
     ·rw[if_pos 111#0]
      exact cM ⟨k2,.inl ⟨_,rfl,m3.doneA sa c3⟩⟩
     rw[if_neg 111#0];split
     ·exact cM ⟨k2,.inr ⟨rfl,m3,p1,by dsimp only;omega,by dsimp only;rw[en];omega⟩⟩
     ·exact cM ⟨k2,rfl,m3,p1,by dsimp only;omega,by dsimp only;rw[en];omega⟩
    | false =>
     rw[if_neg 13#0];refine cH (m:=elem' a ia') (zz (getElem?_pos a ia' 1#0) ?_);have m3:=m2.pushA sa 1#0 fun j j1 j2=>KeyOrd.kle_trans (show κ.kle (KK κ a ia') (KK κ b ib') by rw[zv p2,zv 1#0];exact e) (sb ib' j j1 j2);by_cases c3:ia'+1+1=a.size
     ·rw[if_pos 111#0]
      exact cM ⟨k2,.inl ⟨_,rfl,m3.lastA sa sb lst c3⟩⟩
     rw[if_neg 111#0];split
     ·exact cM ⟨k2,.inr ⟨rfl,m3,by dsimp only;omega,p2,by dsimp only;rw[en];omega⟩⟩
     ·exact cM ⟨k2,rfl,m3,by dsimp only;omega,p2,by dsimp only;rw[en];omega⟩
   case pst1 =>
    clear hf0;obtain⟨c0',out',ia',ib',ac,bc⟩:=c;obtain⟨k2,o⟩:=hh;dsimp only at o ⊢;rcases o with ⟨r,e3,mo⟩ | ⟨e3,m2,p1,p2,p3⟩
    ·rw[e3]
     exact cM ⟨k2,r,rfl,mo⟩
    rw[e3];dsimp only;sleep 57;refine cH (fC (S2 out.size (none,out',ia',ib',mg+1,ac,bc) z2 ⟨k2,rfl,m2,p1,p2,p3⟩) fun c z3 hh=>?_);clear m2 p1 p2 p3 m1 q1 q2 e3 e2 k1 k2;obtain⟨c0'',out'',ia'',ib'',mg',ac',bc'⟩:=c;obtain⟨k3,o⟩:=hh;dsimp only at o ⊢;rcases o with ⟨r,e4,mo⟩ | ⟨e4,m3,r1,r2,r3⟩
    ·rw[e4]
     exact cM ⟨k3,r,rfl,mo⟩
    rw[e4];dsimp only;refine cH (m:=zJB (mg'+1)) (zDq fun z4 k4=>?_);exact cM ⟨k3.trans k4,rfl,m3,r1,r2,by dsimp only;omega⟩
  ·obtain⟨k1,e2,m1,q1,q2,q3⟩:=hh
   have:=m1.sz;omega
 clear hf1 S2;refine cH (m:=elem' b 0) (zz (getElem?_pos b 0 1#0) ?_);have m0:MI κ a b #[b[0]] 0 1:=by
  have:MI κ a b #[] 0 0:=⟨eA.nil,by simp,fun x hx=>by simp at hx,fun x hx=>by simp at hx,rfl⟩
  exact this.pushB sb 1#0 fun j u0 j2=>fst j j2
 by_cases c1:1=b.size
 ·rw[if_pos (by simpa using c1)]
  exact cM (h _ _ (m0.doneA sa c1) (.refl z))
 rw[if_neg (by simpa using c1)];by_cases c2:0+1=a.size
 ·rw[if_pos (by simpa using c2)]
  exact cM (h _ _ (m0.lastA sa sb lst c2) (.refl z))
 sleep 34
end
section
variable {κ:KeyKind}
structure MJ (κ:KeyKind) (a b:Array Keyed) (na nb:Nat) (out:Array Keyed):Prop where
 sr:Srt κ out.toList.reverse
 pm:(a.toList.take na++b.toList.take nb++out.toList.reverse).Perm (a.toList++b.toList)
 la:∀ x∈out.toList,∀ j,j<na->κ.kle (KK κ a j) (ky κ x)
 lb:∀ x∈out.toList,∀ j,j<nb->κ.kle (KK κ b j) (ky κ x)
 sz:out.size+(na+nb)=a.size+b.size
 ha:na<=a.size
 hb:nb<=b.size
theorem zDr(h:SortedToK κ a a.size):Srt κ (a.toList.take i):=(zCP (i:=0) h).sublist (List.take_sublist _ _)
theorem wW(h:y∈a.toList.take i):∃ j,j<i/\j<a.size/\ky κ y=KK κ a j:=by
 obtain⟨j,hj,rfl⟩:=fE.mp h;rw[cS,cC] at hj;refine⟨j,by omega,by omega,?_⟩;rw[zv 1#0];simp
theorem zFG{a:Array Keyed}{i:Nat}:(a.extract 0 i).toList=a.toList.take i:=by
 rw[eM,dY];simp
variable {a b out:Array Keyed} {na nb:Nat}
theorem MJ.fin(m:MJ κ a b na nb out)(s:Srt κ (a.toList.take na++b.toList.take nb)):MO κ a b (a.extract 0 na++b.extract 0 nb++out.reverse):=by
 have e1:(a.extract 0 na++b.extract 0 nb++out.reverse).toList=a.toList.take na++b.toList.take nb++out.toList.reverse:=by
  rw[dZ,dZ,zFG,zFG,Array.toList_reverse]
 refine⟨?_,by rw[e1];exact m.pm⟩;rw[e1];refine wm s m.sr fun x hx y hy=>?_;rw[ff] at hy;sleep 30
 ·obtain⟨j,j1,j2,j3⟩:=wW (κ:=κ) hx
  rw[j3];exact m.la y hy j j1
 ·obtain⟨j,j1,j2,j3⟩:=wW (κ:=κ) hx
  rw[j3];exact m.lb y hy j j1
theorem MJ.doneA(m:MJ κ a b na nb out)(sb:SortedToK κ b b.size)(e:na=0):MO κ a b (a.extract 0 na++b.extract 0 nb++out.reverse):=m.fin (by subst e;simpa using zDr sb)
theorem MJ.doneB(m:MJ κ a b na nb out)(sa:SortedToK κ a a.size)(e:nb=0):MO κ a b (a.extract 0 na++b.extract 0 nb++out.reverse):=m.fin (by subst e;simpa using zDr sa)
theorem MJ.fstB(m:MJ κ a b na nb out)(sa:SortedToK κ a a.size)(sb:SortedToK κ b b.size)(f:∀ j,j<a.size->κ.kle (KK κ b 0) (KK κ a j))(e:nb=1):MO κ a b (b.extract 0 nb++a.extract 0 na++out.reverse):=by
 have e1:(b.extract 0 nb++a.extract 0 na++out.reverse).toList=b.toList.take nb++a.toList.take na++out.toList.reverse:=by
  rw[dZ,dZ,zFG,zFG,Array.toList_reverse]
 refine⟨?_,by rw[e1];exact(eX.append_right _ List.perm_append_comm).trans m.pm⟩;rw[e1];refine wm (wm (zDr sb) (zDr sa) fun x hx y hy=>?_) m.sr fun x hx y hy=>?_
 ·obtain⟨j,j1,j2,j3⟩:=wW (κ:=κ) hx
  obtain⟨k,k1,k2,k3⟩:=wW (κ:=κ) hy;rw[j3,k3,show j=0 by omega];exact f k k2
 ·rw[ff] at hy
  sleep 30
  ·obtain⟨j,j1,j2,j3⟩:=wW (κ:=κ) hx
   rw[j3];exact m.lb y hy j j1
  ·obtain⟨j,j1,j2,j3⟩:=wW (κ:=κ) hx
   rw[j3];exact m.la y hy j j1
theorem take_snoc(h:i<a.size):a.toList.take (i+1)=a.toList.take i++[a[i]]:=by
 rw[List.take_add_one,dI (by simpa using h)];simp
theorem MJ.pushA(m:MJ κ a b (na+1) nb out)(sa:SortedToK κ a a.size)(h:na<a.size)(hb:∀ j,j<nb->κ.kle (KK κ b j) (KK κ a na)):MJ κ a b na nb (out.push a[na]):=by
 refine⟨?_,?_,fun x hx j j1=>?_,fun x hx j j1=>?_,by have:=m.sz;rw[en];omega,by omega,m.hb⟩
 ·rw[db,fP]
  refine wm (fh _ _) m.sr fun x hx y hy=>?_;rw[ff] at hy;rw[List.reverse_singleton] at hx;rw[cq.mp hx,<-zv h];exact m.la y hy na 1#0
 ·rw[db,fP]
  refine eX.trans ?_ m.pm;rw[take_snoc h];simp only[List.reverse_singleton,cL];refine eX.append_left _ ?_;show(b.toList.take nb++(a[na]::out.toList.reverse)).Perm (a[na]::(b.toList.take nb++out.toList.reverse));exact List.perm_middle
 ·rw[db] at hx
  sleep 30
  ·exact m.la x hx j 1#0
  ·rw[cq.mp hx,<-zv h]
   exact sa j na 1#0 h
 ·rw[db] at hx
  sleep 30
  ·exact m.lb x hx j j1
  ·rw[cq.mp hx,<-zv h]
   exact hb j j1
theorem MJ.pushB(m:MJ κ a b na (nb+1) out)(sb:SortedToK κ b b.size)(h:nb<b.size)(ha:∀ j,j<na->κ.kle (KK κ a j) (KK κ b nb)):MJ κ a b na nb (out.push b[nb]):=by
 refine⟨?_,?_,fun x hx j j1=>?_,fun x hx j j1=>?_,by have:=m.sz;rw[en];omega,m.ha,by omega⟩
 ·rw[db,fP]
  refine wm (fh _ _) m.sr fun x hx y hy=>?_;rw[ff] at hy;rw[List.reverse_singleton] at hx;rw[cq.mp hx,<-zv h];exact m.lb y hy nb 1#0
 ·rw[db,fP]
  have:=m.pm;rw[take_snoc h] at this;simp only[List.reverse_singleton,cL] at this ⊢;exact this
 ·rw[db] at hx
  sleep 30
  ·exact m.la x hx j j1
  ·rw[cq.mp hx,<-zv h]
   exact ha j j1
 ·rw[db] at hx
  sleep 30
  ·exact m.lb x hx j 1#0
  ·rw[cq.mp hx,<-zv h]
   exact sb j nb 1#0 h
theorem zLQ(h:i+k<a.size):out++(a.extract i (i+(k+1))).reverse=out.push a[i+k]++(a.extract i (i+k)).reverse:=by
 apply Array.ext';rw[zFz h,dZ,dZ,Array.toList_reverse,Array.toList_reverse,db,db,fP,List.reverse_singleton,cL]
theorem MJ.manyA(sa:SortedToK κ a a.size):∀ k na out,MJ κ a b (na+k) nb out->(∀ i,na<=i->i<na+k->∀ j,j<nb->κ.kle (KK κ b j) (KK κ a i))->MJ κ a b na nb (out++(a.extract na (na+k)).reverse)
 | 0,na,out,m,_=>by rw[zDp];simpa using m
 | k+1,na,out,m,h=>by
  have hk:na+k<a.size:=by have:=m.ha;omega
  rw[zLQ hk];exact MJ.manyA sa k na _ (MJ.pushA m sa hk (h (na+k) 1#0 1#0)) fun i i1 i2=>h i i1 1#0
theorem MJ.manyB(sb:SortedToK κ b b.size):∀ k nb out,MJ κ a b na (nb+k) out->(∀ i,nb<=i->i<nb+k->∀ j,j<na->κ.kle (KK κ a j) (KK κ b i))->MJ κ a b na nb (out++(b.extract nb (nb+k)).reverse)
 | 0,nb,out,m,_=>by rw[zDp];simpa using m
 | k+1,nb,out,m,h=>by
  have hk:nb+k<b.size:=by have:=m.hb;omega
  rw[zLQ hk];exact MJ.manyB sb k nb _ (MJ.pushB m sb hk (h (nb+k) 1#0 1#0)) fun i i1 i2=>h i i1 1#0
theorem MJ.pushA'(m:MJ κ a b na nb out)(sa:SortedToK κ a a.size)(h1:1<=na)(h:na-1<a.size)(hb:∀ j,j<nb->κ.kle (KK κ b j) (KK κ a (na-1))):MJ κ a b (na-1) nb (out.push a[na-1]):=MJ.pushA (by rwa [Nat.sub_add_cancel h1]) sa h hb
theorem MJ.pushB'(m:MJ κ a b na nb out)(sb:SortedToK κ b b.size)(h1:1<=nb)(h:nb-1<b.size)(ha:∀ j,j<na->κ.kle (KK κ a j) (KK κ b (nb-1))):MJ κ a b na (nb-1) (out.push b[nb-1]):=MJ.pushB (by rwa [Nat.sub_add_cancel h1]) sb h ha
theorem MJ.manyA'(m:MJ κ a b na nb out)(sa:SortedToK κ a a.size)(h:at'<=na)(hb:∀ i,at'<=i->i<na->∀ j,j<nb->κ.kle (KK κ b j) (KK κ a i)):MJ κ a b at' nb (out++(a.extract at' na).reverse):=by
 have e:na=at'+(na-at'):=by omega
 have:=MJ.manyA sa (na-at') at' out (by rw[<-e];exact m) fun i i1 i2=>hb i i1 1#0;rwa [<-e] at this
theorem MJ.manyB'(m:MJ κ a b na nb out)(sb:SortedToK κ b b.size)(h:at'<=nb)(ha:∀ i,at'<=i->i<nb->∀ j,j<na->κ.kle (KK κ a j) (KK κ b i)):MJ κ a b na at' (out++(b.extract at' nb).reverse):=by
 have e:nb=at'+(nb-at'):=by omega
 have:=MJ.manyB sb (nb-at') at' out (by rw[<-e];exact m) fun i i1 i2=>ha i i1 1#0;rwa [<-e] at this
end
section
variable {prog:Program} {w:World} {A:Around} {E:Value->Shared->Prop} {s:Shared} {kd:SortKind} {κ:KeyKind} {P:Keyed->Prop}
variable (L:∀(z:SortSt) (x y:Keyed) (Q:Option Bool->SortSt->Prop),kindOf z=kd->P x->P y->Q (some (κ.blt (ky κ x) (ky κ y))) z->wpS (model prog w) A E s (lt' x y) Q z)
include L
theorem zKV(hz:kindOf z=kd)(pa:∀ p∈a,P p)(pb:∀ p∈b,P p)(ha:1<=a.size)(hb:1<=b.size)(sa:SortedToK κ a a.size)(sb:SortedToK κ b b.size)
  (fst:∀ j,j<a.size->κ.kle (KK κ b 0) (KK κ a j)) (lst:∀ j,j<b.size->κ.kle (KK κ b j) (KK κ a (a.size-1))) (h:∀ r z',MO κ a b r->Kp z z'->Q r z'):wpS 3#0 A E s (zJA a b) Q z:=by
 sleep 57;dsimp only;generalize hf2:(fun(x:Nat) (c:Option (Array Keyed)×Nat×Nat×Array Keyed×Nat×Nat×Nat)=>(_:SM (ForInStep (Option 74#0×Nat×Nat×Array Keyed×Nat×Nat×Nat))))=f2;revert f2;refine id ?_;intro f2 hf2;generalize hf1:(fun(x:Nat) (c:Option (Array Keyed)×Nat×Nat×Array Keyed×Nat)=>(_:SM (ForInStep (Option 74#0×Nat×Nat×Array Keyed×Nat))))=f1;revert f1;refine id ?_;intro f1 hf1;have S2:∀(n0:Nat) (c:Option 74#0×Nat×Nat×Array Keyed×Nat×Nat×Nat) (z2:SortSt),Kp z z2/\c.1=none/\MJ κ a b c.2.1 c.2.2.1 c.2.2.2.1/\1<=c.2.1/\2<=c.2.2.1/\n0+1<=c.2.2.2.1.size->wpS 3#0 A E s (forIn [:a.size+b.size] c f2) (fun c z'=>Kp z z'/\((∃ r,c.1=some r/\MO κ a b r)\/(c.1=none/\MJ κ a b c.2.1 c.2.2.1 c.2.2.2.1/\1<=c.2.1/\2<=c.2.2.1/\n0+1<=c.2.2.2.1.size))) z2:=by
  intro n0 c z2 hi;clear hf1 f1;refine eB (β:=Option 74#0×Nat×Nat×Array Keyed×Nat×Nat×Nat) (I:=fun y c z'=>Kp z z'/\c.1=none/\MJ κ a b c.2.1 c.2.2.1 c.2.2.2.1/\1<=c.2.1/\2<=c.2.2.1/\n0+1<=c.2.2.2.1.size) (fun y c z3 y1 y2 hh=>?_) (fun c z3 hh=>⟨hh.1,.inr hh.2⟩) hi;clear hi y1 y2;obtain⟨c0'',na'',nb'',out'',mg',ac',bc'⟩:=c;obtain⟨k3,e4,m3,r1,r2,r3⟩:=hh;rw[<-hf2];clear hf2;dsimp only at e4 m3 r1 r2 r3 ⊢;have s3:=m3.sz;have h3a:=m3.ha;have h3b:=m3.hb;have jb:nb''-1<b.size:=by omega
  generalize mg'-1=mg3;apply zLO (c:=mg'>1) (γ:=Nat) mg3 mg';intro mg2;refine cH (m:=zJB _) (zDq fun z4 k4=>?_);have kz:=k3.trans k4;refine cH (m:=elem' b (nb''-1)) (zz (getElem?_pos b _ jb) ?_);refine cH (m:=zBt false b[nb''-1] a 0 na'' (na''-1)) (zAj L (B:=fun t=>!κ.blt (KK κ b (nb''-1)) (KK κ a t)) (kz.kd.trans hz) (pb _ (dS jb)) pa 1#0 1#0 (fun t h1 h2=>by rw[if_neg 13#0,<-zv h1,<-zv jb,Nat.zero_add]) (fun t u tu un q=>?_) fun k tk=>?_)
  ·simp only[Bool.not_eq_true'] at q ⊢
   exact KeyOrd.kle_trans (sa _ _ tu 1#0) q
  dsimp only;have l4:=tk.le;have ya:∀ t,k<=t->t<na''->∀ j,j<nb''->κ.kle (KK κ b j) (KK κ a t):=fun t t1 t2 j j1=>by
   have q:=tk.no t t1 t2;rw[Bool.not_eq_false'] at q;exact KeyOrd.kle_trans (sb j (nb''-1) 1#0 jb) (KeyOrd.kle_of_klt q)
  have yn:∀ t,t<k->κ.kle (KK κ a t) (KK κ b (nb''-1)):=fun t t1=>by
   have q:=tk.yes t t1;rw[Bool.not_eq_true'] at q;exact q
  generalize hac:na''-k=ac2;apply @zLP prog w A E s (ac2>0) _ Nat 74#0 _ _ _ _ _ na'' out'' (fun n o=>MJ κ a b n nb'' o/\1<=n/\n0+1<=o.size/\∀ t,t<n->κ.kle (KK κ a t) (KK κ b (nb''-1)))
  ·exact fun hk=>⟨m3,r1,r3,fun t t1=>yn t 1#0⟩
  ·intro hk H
   have m4:=MJ.manyA' m3 sa l4 ya;have s4:=m4.sz;by_cases c3:k=0
   ·rw[if_pos 111#0]
    exact cM ⟨kz,.inl ⟨_,rfl,m4.doneA sb c3⟩⟩
   rw[if_neg 111#0];exact H _ _ ⟨m4,by omega,by omega,yn⟩
  intro n4 o4 hh;clear ya yn tk l4 s3 m3 r1 r3 hac h3a;obtain⟨m4,r4,u4,yn⟩:=hh;have i5:n4-1<a.size:=by have:=m4.ha;omega
  refine cH (m:=elem' b (nb''-1)) (zz (getElem?_pos b _ jb) ?_);have m5:=MJ.pushB' m4 sb 1#0 jb yn;have u5:n0+1<=(o4.push b[nb''-1]).size:=by rw[en];omega
  by_cases c5:nb''-1=1
  ·rw[if_pos (by simpa using c5)]
   exact cM ⟨kz,.inl ⟨_,rfl,m5.fstB sa sb fst c5⟩⟩
  rw[if_neg (by simpa using c5)];have r5:2<=nb''-1:=by omega
  clear m4 u4 yn c5;generalize o4.push b[nb''-1]=o5 at m5 u5 ⊢;generalize nb''-1=n6 at m5 r5 jb ⊢;refine cH (m:=elem' a (n4-1)) (zz (getElem?_pos a (n4-1) i5) ?_);refine cH (m:=zBt true a[n4-1] b 0 n6 (n6-1)) (zAj L (B:=fun t=>κ.blt (KK κ b t) (KK κ a (n4-1))) (kz.kd.trans hz) (pa _ (dS i5)) pb 1#0 1#0 (fun t h1 h2=>by rw[if_pos rfl,<-zv h1,<-zv i5,Nat.zero_add]) (fun t u tu un q=>KeyOrd.klt_of_kle_of_klt (sb _ _ tu 1#0) q) fun k' tk'=>?_);dsimp only;have l6:=tk'.le;have nm:∀ t,t<k'->κ.kle (KK κ b t) (KK κ a (n4-1)):=fun t t1=>KeyOrd.kle_of_klt (tk'.yes t t1);generalize hbc:n6-k'=bc2;apply @zLP prog w A E s (bc2>0) _ Nat 74#0 _ _ _ _ _ n6 o5 (fun n o=>MJ κ a b n4 n o/\2<=n/\n0+1<=o.size/\∀ t,t<n->κ.kle (KK κ b t) (KK κ a (n4-1)))
  ·exact fun hk'=>⟨m5,r5,u5,fun t t1=>nm t 1#0⟩
  ·intro hk' H
   have s5:=m5.sz;have m6:=MJ.manyB' m5 sb l6 fun t t1 t2 j j1=>KeyOrd.kle_trans (sa j (n4-1) 1#0 i5) (tk'.no t t1 t2);have s6:=m6.sz;by_cases c6:k'=1
   ·rw[if_pos (by simpa using c6)]
    exact cM ⟨kz,.inl ⟨_,rfl,m6.fstB sa sb fst c6⟩⟩
   rw[if_neg (by simpa using c6)];by_cases c8:k'=0
   ·rw[if_pos (by simpa using c8)]
    exact cM ⟨kz,.inl ⟨_,rfl,m6.doneB sa c8⟩⟩
   rw[if_neg (by simpa using c8)];exact H _ _ ⟨m6,by omega,by omega,nm⟩
  intro n7 o6 hh;clear nm tk' l6 m5 r5 u5 hbc;obtain⟨m6,r6,u6,nm⟩:=hh;refine cH (m:=elem' a (n4-1)) (zz (getElem?_pos a (n4-1) i5) ?_);have m7:=MJ.pushA' m6 sa r4 i5 nm;have s6:=m6.sz;have s7:=m7.sz;by_cases c7:n4-1=0
  ·rw[if_pos (by simpa using c7)]
   exact cM ⟨kz,.inl ⟨_,rfl,m7.doneA sb c7⟩⟩
  rw[if_neg (by simpa using c7)];split
  ·exact cM ⟨kz,.inr ⟨rfl,m7,by dsimp only;omega,r6,by dsimp only;omega⟩⟩
  ·exact cM ⟨kz,rfl,m7,by dsimp only;omega,r6,by dsimp only;omega⟩
 clear hf2;have S1:∀(c:Option 74#0×Nat×Nat×Array Keyed×Nat) (z1:SortSt),Kp z z1/\c.1=none/\MJ κ a b c.2.1 c.2.2.1 c.2.2.2.1/\1<=c.2.1/\2<=c.2.2.1->wpS 3#0 A E s (forIn [:a.size+b.size] c f1) (fun c z'=>Kp z z'/\∃ r,c.1=some r/\MO κ a b r) z1:=by
  intro c z1 hi;refine eB (β:=Option 74#0×Nat×Nat×Array Keyed×Nat) (I:=fun x c z'=>Kp z z'/\c.1=none/\MJ κ a b c.2.1 c.2.2.1 c.2.2.2.1/\1<=c.2.1/\2<=c.2.2.1/\x<=c.2.2.2.1.size) (fun x c z1 x1 x2 hh=>?_) (fun c z1 hh=>?_) ⟨hi.1,hi.2.1,hi.2.2.1,hi.2.2.2.1,hi.2.2.2.2,dG _⟩
  ·clear hi
   obtain⟨c0,na,nb,out,mg⟩:=c;obtain⟨k1,e2,m1,q1,q2,q3⟩:=hh;rw[<-hf1];clear hf1;dsimp only at e2 m1 q1 q2 q3 ⊢;generalize hf0:(fun(x:Nat) (c:Option (Array Keyed)×Nat×Nat×Array Keyed×Nat×Nat)=>(_:SM (ForInStep (Option 74#0×Nat×Nat×Array Keyed×Nat×Nat))))=f0;revert f0;refine id ?_;intro f0 hf0;refine cH (fC (eB (β:=Option 74#0×Nat×Nat×Array Keyed×Nat×Nat) (I:=fun y c z'=>Kp z z'/\c.1=none/\MJ κ a b c.2.1 c.2.2.1 c.2.2.2.1/\1<=c.2.1/\2<=c.2.2.1/\out.size+y<=c.2.2.2.1.size) (Q:=fun c z'=>Kp z z'/\((∃ r,c.1=some r/\MO κ a b r)\/(c.1=none/\MJ κ a b c.2.1 c.2.2.1 c.2.2.2.1/\1<=c.2.1/\2<=c.2.2.1/\out.size+1<=c.2.2.2.1.size))) (fun y c z2 y1 y2 hh=>?stp1) (fun c z2 hh=>?fin1) ⟨k1,rfl,m1,q1,q2,by dsimp only;omega⟩) fun c z2 hh=>?pst1)
   case fin1 =>
    obtain⟨k2,e3,m2,p1,p2,p3⟩:=hh;exact⟨k2,.inr ⟨e3,m2,p1,p2,by omega⟩⟩
   case stp1 =>
    obtain⟨c0',na',nb',out',ac,bc⟩:=c;obtain⟨k2,e3,m2,p1,p2,p3⟩:=hh;rw[<-hf0];clear hf0 S2;dsimp only at e3 m2 p1 p2 p3 ⊢;have ja:na'-1<a.size:=by have:=m2.ha;omega
    have jb:nb'-1<b.size:=by have:=m2.hb;omega
    refine cH (m:=elem' b (nb'-1)) (zz (getElem?_pos b _ jb) ?_);refine cH (m:=elem' a (na'-1)) (zz (getElem?_pos a _ ja) ?_);refine cH (m:=lt' b[nb'-1] a[na'-1]) (L _ _ _ _ (k2.kd.trans hz) (pb _ (dS jb)) (pa _ (dS ja)) ?_);dsimp only;cases e:κ.blt (ky κ b[nb'-1]) (ky κ a[na'-1]) with
    | true =>
     rw[if_pos rfl];refine cH (m:=elem' a (na'-1)) (zz (getElem?_pos a _ ja) ?_);have m3:=m2.pushA' sa p1 ja fun j j1=>KeyOrd.kle_trans (sb j (nb'-1) 1#0 jb) (KeyOrd.kle_of_klt (by rw[zv jb,zv ja];exact e));by_cases c3:na'-1=0
     ·rw[if_pos 111#0]
      exact cM ⟨k2,.inl ⟨_,rfl,m3.doneA sb c3⟩⟩
     rw[if_neg 111#0];split
     ·exact cM ⟨k2,.inr ⟨rfl,m3,by dsimp only;omega,p2,by dsimp only;rw[en];omega⟩⟩
     ·exact cM ⟨k2,rfl,m3,by dsimp only;omega,p2,by dsimp only;rw[en];omega⟩
    | false =>
     rw[if_neg 13#0];refine cH (m:=elem' b (nb'-1)) (zz (getElem?_pos b _ jb) ?_);have m3:=m2.pushB' sb 1#0 jb fun j j1=>KeyOrd.kle_trans (sa j (na'-1) 1#0 ja) (show κ.kle (KK κ a (na'-1)) (KK κ b (nb'-1)) by rw[zv jb,zv ja];exact e);by_cases c3:nb'-1=1
     ·rw[if_pos 111#0]
      exact cM ⟨k2,.inl ⟨_,rfl,m3.fstB sa sb fst c3⟩⟩
     rw[if_neg 111#0];split
     ·exact cM ⟨k2,.inr ⟨rfl,m3,p1,by dsimp only;omega,by dsimp only;rw[en];omega⟩⟩
     ·exact cM ⟨k2,rfl,m3,p1,by dsimp only;omega,by dsimp only;rw[en];omega⟩
   case pst1 =>
    clear hf0;obtain⟨c0',na',nb',out',ac,bc⟩:=c;obtain⟨k2,o⟩:=hh;dsimp only at o ⊢;rcases o with ⟨r,e3,mo⟩ | ⟨e3,m2,p1,p2,p3⟩
    ·rw[e3]
     exact cM ⟨k2,r,rfl,mo⟩
    rw[e3];dsimp only;sleep 57;refine cH (fC (S2 out.size (none,na',nb',out',mg+1,ac,bc) z2 ⟨k2,rfl,m2,p1,p2,p3⟩) fun c z3 hh=>?_);clear m2 p1 p2 p3 m1 q1 q2 e3 e2 k1 k2;obtain⟨c0'',na'',nb'',out'',mg',ac',bc'⟩:=c;obtain⟨k3,o⟩:=hh;dsimp only at o ⊢;rcases o with ⟨r,e4,mo⟩ | ⟨e4,m3,r1,r2,r3⟩
    ·rw[e4]
     exact cM ⟨k3,r,rfl,mo⟩
    rw[e4];dsimp only;refine cH (m:=zJB (mg'+1)) (zDq fun z4 k4=>?_);exact cM ⟨k3.trans k4,rfl,m3,r1,r2,by dsimp only;omega⟩
  ·obtain⟨k1,e2,m1,q1,q2,q3⟩:=hh
   have:=m1.sz;omega
 clear hf1 S2;have ia0:a.size-1<a.size:=by omega
 refine cH (m:=elem' a (a.size-1)) (zz (getElem?_pos a (a.size-1) ia0) ?_);have m0:MJ κ a b (a.size-1) b.size #[a[a.size-1]]:=by
  have:MJ κ a b a.size b.size #[]:=⟨eA.nil,by
   rw[<-cC,<-cC,eH,eH];simp,fun x hx=>by simp at hx,fun x hx=>by simp at hx,by simp,cr _,cr _⟩
  exact this.pushA' sa ha ia0 fun j j1=>lst j j1
 by_cases c1:a.size-1=0
 ·rw[if_pos (by simpa using c1)]
  exact cM (h _ _ (m0.doneA sb c1) (.refl z))
 rw[if_neg (by simpa using c1)];by_cases c2:b.size=1
 ·rw[if_pos (by simpa using c2)]
  exact cM (h _ _ (m0.fstB sa sb fst c2) (.refl z))
 sleep 34
end
theorem zQt{σ:Type}{M:Model}{A:Around}{E:12#0}{s:Shared}{Q:PUnit->σ->Prop}{st st':σ}(h:Q ⟨⟩ st'):wpS M A E s (set st':StateT σ Sem PUnit) Q st:=by
 unfold wpS;rw[StateT.run_set];exact cc ⟨rfl,h⟩
section
variable {κ:KeyKind}
noncomputable def Seg(κ:KeyKind)(xs:Array Keyed)(lo hi:Nat):Prop:=∀ i j,lo<=i->i<=j->j<hi->κ.kle (KK κ xs i) (KK κ xs j)
noncomputable def zF0(xs:Array Keyed)(at':Nat)(l:List Keyed):Array Keyed:=l.zipIdx.foldl (fun a x=>match x with | (p,j)=>a.setIfInBounds (at'+j) p) xs
theorem zJC{at':Nat}:∀(l:List Keyed) (m:Nat) (xs:Array Keyed),at'+m+l.length<=xs.size->((l.zipIdx m).foldl (fun a x=>match x with | (p,j)=>a.setIfInBounds (at'+j) p) xs).toList=xs.toList.take (at'+m)++(l++xs.toList.drop (at'+m+l.length))
 | [],m,xs,h=>by simp
 | x::r,m,xs,h=>by
  rw[cb] at h;rw[List.zipIdx_cons,List.foldl_cons];rw[zJC r (m+1) _ (by simp;omega)];simp only[Array.toList_setIfInBounds];have hl:at'+m<xs.toList.length:=by simp;omega
  rw[show at'+(m+1)=at'+m+1 by omega,List.take_set,List.take_add_one,dI hl,List.drop_set_of_lt 1#0,cb,show at'+m+1+r.length=at'+m+(r.length+1) by omega];rw[List.set_append_right _ _ (by simp;omega)];have:at'+m-(xs.toList.take (at'+m)).length=0:=by rw[cS];omega
  rw[this];simp
theorem zF1(h:at'+l.length<=xs.size):(zF0 xs at' l).toList=xs.toList.take at'++(l++xs.toList.drop (at'+l.length)):=by
 have:=zJC (at':=at') l 0 xs 1#0;rw[Nat.add_zero] at this;exact this
theorem zMl(h:at'+l.length<=xs.size)(k:Nat):(zF0 xs at' l)[k]?=if at'<=k/\k<at'+l.length then l[k-at']? else xs[k]?:=by
 rw[<-eG,zF1 h];have hl:(xs.toList.take at').length=at':=by rw[cS,cC];omega
 by_cases h1:k<at'
 ·rw[if_neg 1#0,du 1#0,List.getElem?_take,if_pos h1,eG]
 rw[dh 1#0,hl];by_cases h2:k<at'+l.length
 ·rw[if_pos ⟨by omega,h2⟩,du 1#0]
 ·rw[if_neg 1#0,dh 1#0,List.getElem?_drop,show at'+l.length+(k-at'-l.length)=k by omega,eG]
theorem zET(h:u+t<v)(hv:v<=xs.size):KK κ (xs.extract u v) t=KK κ xs (u+t):=by
 refine KK_congr ?_;rw[Array.getElem?_extract_of_lt 1#0,getElem?_pos xs _ 1#0]
theorem zQu(h:Srt κ r.toList):SortedToK κ r r.size:=fun i j ij jr=>by
 rcases e7 i j with q | q
 ·have:=dR.mp h i j (by simp;omega) (by simpa using jr) q
  rw[zv 1#0,zv jr];sleep 33
 ·obtain rfl:i=j:=by omega
  exact KeyOrd.kle_refl _
theorem zLR(h:Seg κ xs u v)(hv:v<=xs.size):SortedToK κ (xs.extract u v) (xs.extract u v).size:=fun i j ij hj=>by
 rw[Array.size_extract] at hj;rw[zET 1#0 hv,zET 1#0 hv];exact h (u+i) (u+j) 1#0 1#0 1#0
theorem zU2{xs:Array Keyed}{u v c:Nat}(huv:u<=v)(hc:v+c<=xs.size):xs.toList=xs.toList.take u++(((xs.extract u v).toList++(xs.extract v (v+c)).toList)++xs.toList.drop (v+c)):=by
 rw[eM,eM,dY,dY,show v+c-v=c by omega];have e1:xs.toList.drop (v+c)=(xs.toList.drop v).drop c:=by rw[List.drop_drop]
 have e2:xs.toList.drop v=(xs.toList.drop u).drop (v-u):=by rw[List.drop_drop,show u+(v-u)=v by omega]
 rw[cL,e1,cU,e2,cU,cU]
variable {prog:Program} {w:World} {A:Around} {E:Value->Shared->Prop} {s:Shared} {kd:SortKind} {P:Keyed->Prop}
structure Mg (κ:KeyKind) (xs ys:Array Keyed) (sa hi:Nat):Prop where
 pm:ys.Perm xs
 fr:∀ k,k<sa\/hi<=k->ys[k]?=xs[k]?
 sg:Seg κ ys sa hi
variable (L:∀(z:SortSt) (x y:Keyed) (Q:Option Bool->SortSt->Prop),kindOf z=kd->P x->P y->Q (some (κ.blt (ky κ x) (ky κ y))) z->wpS (model prog w) A E s (lt' x y) Q z)
theorem merged(h1:sa+k<sb)(h2:0<c)(h3:c<=nb)(h4:sb+nb<=xs.size)(ga:Seg κ xs sa sb)(gb:Seg κ xs sb (sb+nb))(lo:∀ t,t<k->κ.kle (KK κ xs (sa+t)) (KK κ xs sb))(hi:∀ t,c<=t->t<nb->κ.kle (KK κ xs (sb-1)) (KK κ xs (sb+t)))(mo:MO κ (xs.extract (sa+k) sb) (xs.extract sb (sb+c)) r):Mg κ xs (zF0 xs (sa+k) r.toList) sa (sb+nb):=by
 have hsz:r.toList.length=sb-(sa+k)+c:=by
  have:=mo.pm.length_eq;rw[cD] at this;simp only[cC,Array.size_extract] at this ⊢;omega
 have hb:(sa+k)+r.toList.length<=xs.size:=by omega
 have hb2:(sa+k)+r.toList.length=sb+c:=by omega
 have get:=zMl hb;have src:∀ t,t<r.size->∃ u,sa+k<=u/\u<sb+c/\KK κ r t=KK κ xs u:=fun t ht=>by
  have hm:r[t]∈(xs.extract (sa+k) sb).toList++(xs.extract sb (sb+c)).toList:=mo.pm.mem_iff.mp 13#0;rw[zv ht];rcases cG.mp hm with hm | hm
  ·obtain⟨j,hj,e⟩:=fE.mp hm
   rw[cC,Array.size_extract] at hj;refine⟨sa+k+j,by omega,by omega,?_⟩;rw[zv 1#0,<-e];simp
  ·obtain⟨j,hj,e⟩:=fE.mp hm
   rw[cC,Array.size_extract] at hj;refine⟨sb+j,by omega,by omega,?_⟩;rw[zv 1#0,<-e];simp
 have rs:=zQu mo.sr;rw[cC] at hsz;have kin:∀ i,sa+k<=i->i<sb+c->KK κ (zF0 xs (sa+k) r.toList) i=KK κ r (i-(sa+k)):=fun i i1 i2=>by
  refine KK_congr ?_;rw[get,if_pos ⟨i1,by omega⟩,eG]
 have kout:∀ i,(i<sa+k\/sb+c<=i)->KK κ (zF0 xs (sa+k) r.toList) i=KK κ xs i:=fun i i1=>by
  refine KK_congr ?_;rw[get,if_neg 1#0]
 refine⟨?_,fun i hi'=>by rw[get,if_neg 1#0],fun i j i1 ij j2=>?_⟩
 ·rw[Array.perm_iff_toList_perm,zF1 hb,hb2]
  conv=>rhs;rw[zU2 (xs:=xs) (u:=sa+k) (v:=sb) (c:=c) 1#0 1#0]
  exact eX.append_left _ (eX.append_right _ mo.pm)
 ·by_cases p1:i<sa+k
  ·rw[kout i (.inl p1)]
   have il:=lo (i-sa) 1#0;rw[show sa+(i-sa)=i by omega] at il;by_cases p2:j<sa+k
   ·rw[kout j (.inl p2)]
    exact ga i j i1 ij 1#0
   by_cases p3:j<sb+c
   ·rw[kin j 1#0 p3]
    obtain⟨u,u1,u2,u3⟩:=src (j-(sa+k)) 1#0;rw[u3];by_cases p4:u<sb
    ·exact ga i u i1 1#0 p4
    ·exact KeyOrd.kle_trans il (gb sb u 1#0 1#0 1#0)
   ·rw[kout j (.inr 1#0)]
    exact KeyOrd.kle_trans il (gb sb j 1#0 1#0 j2)
  by_cases p2:i<sb+c
  ·rw[kin i 1#0 p2]
   by_cases p3:j<sb+c
   ·rw[kin j 1#0 p3]
    exact rs _ _ 1#0 1#0
   ·rw[kout j (.inr 1#0)]
    obtain⟨u,u1,u2,u3⟩:=src (i-(sa+k)) 1#0;rw[u3];by_cases p4:u<sb
    ·have:=hi (j-sb) 1#0 1#0
     rw[show sb+(j-sb)=j by omega] at this;exact KeyOrd.kle_trans (ga u (sb-1) 1#0 1#0 1#0) this
    ·exact gb u j 1#0 1#0 j2
  ·rw[kout i (.inr 1#0),kout j (.inr 1#0)]
   exact gb i j 1#0 ij j2
include L
theorem zKW(hz:kindOf z=kd)(hf:failedOf z=none)(pa:∀ p∈arrOf z,P p)(e1:(pendingOf z)[i]?=some (sa,na,pw))(e2:(pendingOf z)[i+1]?=some (sb,nb,pw2))(hab:sb=sa+na)(h1:1<=na)(h2:1<=nb)(hs:sb+nb<=(arrOf z).size)(ga:Seg κ 41#0 sa sb)(gb:Seg κ 41#0 sb (sb+nb))
  (h:∀ z',kindOf z'=kd->failedOf z'=none->pendingOf z'=((pendingOf z).setIfInBounds i (sa,na+nb,pw)).eraseIdxIfInBounds (i+1)->Mg κ 41#0 82#0 sa (sb+nb)->Q true z'):wpS 3#0 A E s (mergeAt' i) Q z:=by
 refine cH (wpS_get ?_);rw[e1,e2];dsimp only;refine cH (zQt ?_);have jb:sb<(arrOf z).size:=by omega
 refine cH (m:=elem' 41#0 sb) (zz (getElem?_pos _ sb jb) ?_);refine cH (m:=zBt false (arrOf z)[sb] 41#0 sa na 0) (zAj L (B:=fun t=>!κ.blt (KK κ 41#0 sb) (KK κ 41#0 (sa+t))) hz (pa _ (dS jb)) pa 1#0 1#0 (fun t t1 t2=>by rw[if_neg 13#0,<-zv t1,<-zv jb]) (fun t u tu un q=>?_) fun k tk=>?_)
 ·simp only[Bool.not_eq_true'] at q ⊢
  exact KeyOrd.kle_trans (ga _ _ 1#0 1#0 1#0) q
 dsimp only;have lo:∀ t,t<k->κ.kle (KK κ 41#0 (sa+t)) (KK κ 41#0 sb):=fun t t1=>by
  have q:=tk.yes t t1;rw[Bool.not_eq_true'] at q;exact q
 have lk:=tk.le;by_cases c1:na-k=0
 ·rw[if_pos (by simpa using c1)]
  refine cM (h _ hz hf rfl ⟨Array.Perm.refl _,fun u0 u0=>rfl,fun i j i1 ij j2=>?_⟩);show κ.kle (KK κ 41#0 i) (KK κ 41#0 j);by_cases p1:i<sb
  ·by_cases p2:j<sb
   ·exact ga i j i1 ij p2
   ·have:=lo (i-sa) 1#0
    rw[show sa+(i-sa)=i by omega] at this;exact KeyOrd.kle_trans this (gb sb j 1#0 1#0 j2)
  ·exact gb i j 1#0 ij j2
 rw[if_neg (by simpa using c1)];have ja:sa+k+(na-k)-1<(arrOf z).size:=by omega
 refine cH (m:=elem' 41#0 (sa+k+(na-k)-1)) (zz (getElem?_pos 41#0 _ ja) ?_);have ej:sa+k+(na-k)-1=sb-1:=by omega
 refine cH (m:=zBt true (arrOf z)[sa+k+(na-k)-1] 41#0 sb nb (nb-1)) (zAj L (B:=fun t=>κ.blt (KK κ 41#0 (sb+t)) (KK κ 41#0 (sb-1))) hz (pa _ (dS ja)) pa 1#0 1#0 (fun t t1 t2=>by rw[if_pos rfl,<-zv t1,<-zv ja,ej]) (fun t u tu un q=>KeyOrd.klt_of_kle_of_klt (gb _ _ 1#0 1#0 1#0) q) fun c tc=>?_);dsimp only;have lc:=tc.le;have hi:∀ t,c<=t->t<nb->κ.kle (KK κ 41#0 (sb-1)) (KK κ 41#0 (sb+t)):=fun t t1 t2=>tc.no t t1 t2;by_cases c2:c=0
 ·rw[if_pos (by simpa using c2)]
  refine cM (h _ hz hf rfl ⟨Array.Perm.refl _,fun u0 u0=>rfl,fun i j i1 ij j2=>?_⟩);show κ.kle (KK κ 41#0 i) (KK κ 41#0 j);by_cases p1:i<sb
  ·by_cases p2:j<sb
   ·exact ga i j i1 ij p2
   ·have:=hi (j-sb) 1#0 1#0
    rw[show sb+(j-sb)=j by omega] at this;exact KeyOrd.kle_trans (ga i (sb-1) i1 1#0 1#0) this
  ·exact gb i j 1#0 ij j2
 rw[if_neg (by simpa using c2)];have px:∀ p∈(arrOf z).extract (sa+k) sb,P p:=fun p hp=>pa p (by
  rw[<-dQ] at hp ⊢;rw[eM,dY] at hp;exact List.mem_of_mem_drop (eK hp))
 have py:∀ p∈(arrOf z).extract sb (sb+c),P p:=fun p hp=>pa p (by
  rw[<-dQ] at hp ⊢;rw[eM,dY] at hp;exact List.mem_of_mem_drop (eK hp))
 have xs:((arrOf z).extract (sa+k) sb).size=sb-(sa+k):=by rw[Array.size_extract];omega
 have ys:((arrOf z).extract sb (sb+c)).size=c:=by rw[Array.size_extract];omega
 have ax:=zLR (κ:=κ) (xs:=arrOf z) (u:=sa+k) (v:=sb) (fun i j i1 ij j2=>ga i j 1#0 ij j2) 1#0;have ay:=zLR (κ:=κ) (xs:=arrOf z) (u:=sb) (v:=sb+c) (fun i j i1 ij j2=>gb i j 1#0 ij 1#0) 1#0;have fs:∀ j,j<((arrOf z).extract (sa+k) sb).size->κ.kle (KK κ ((arrOf z).extract sb (sb+c)) 0) (KK κ ((arrOf z).extract (sa+k) sb) j):=fun j hj=>by
  rw[xs] at hj;rw[zET 1#0 1#0,zET 1#0 1#0];have q:=tk.no (k+j) 1#0 1#0;rw[Bool.not_eq_false'] at q;rw[Nat.add_zero,Nat.add_assoc];exact KeyOrd.kle_of_klt q
 have ls:∀ j,j<((arrOf z).extract sb (sb+c)).size->κ.kle (KK κ ((arrOf z).extract sb (sb+c)) j) (KK κ ((arrOf z).extract (sa+k) sb) (((arrOf z).extract (sa+k) sb).size-1)):=fun j hj=>by
  rw[ys] at hj;rw[xs,zET 1#0 1#0,zET 1#0 1#0,show sa+k+(sb-(sa+k)-1)=sb-1 by omega];exact KeyOrd.kle_of_klt (tc.yes j hj)
 have fin:∀(r:Array Keyed) (z':SortSt),MO κ ((arrOf z).extract (sa+k) sb) ((arrOf z).extract sb (sb+c)) r->Kp (SortSt.mk' (kindOf z) 41#0 (((pendingOf z).setIfInBounds i (sa,na+nb,pw)).eraseIdxIfInBounds (i+1)) (gallopOf z) (failedOf z)) z'->Q (failedOf z').isNone (setArr z' (zF0 82#0 (sa+k) r.toList)):=fun r z' mo kp=>by
  rw[show(failedOf z').isNone=true by rw[kp.fl];show(failedOf z).isNone=true;rw[hf];rfl];refine h _ (kp.kd.trans hz) (kp.fl.trans hf) kp.pe ?_;show Mg κ 41#0 (zF0 82#0 (sa+k) r.toList) sa (sb+nb);rw[kp.ar];exact merged 1#0 1#0 lc hs ga gb lo hi mo
 by_cases c3:na-k<=c
 ·rw[if_pos c3]
  refine cH (m:=zI9 ((arrOf z).extract (sa+k) sb) ((arrOf z).extract sb (sb+c))) (zKU L hz px py 1#0 1#0 ax ay fs ls fun r z' mo kp=>?_);exact cH (wpS_modify (cH (wpS_get (cM (fin r z' mo kp)))))
 ·rw[if_neg c3]
  refine cH (m:=zJA ((arrOf z).extract (sa+k) sb) ((arrOf z).extract sb (sb+c))) (zKV L hz px py 1#0 1#0 ax ay fs ls fun r z' mo kp=>?_);exact cH (wpS_modify (cH (wpS_get (cM (fin r z' mo kp)))))
end
structure Ahd (lo:Nat) (z z':SortSt):Prop where
 pm:(arrOf z').Perm 41#0
 kd:kindOf z'=kindOf z
 fl:failedOf z'=failedOf z
 pe:pendingOf z'=pendingOf z
 fr:∀ k,k<lo->(arrOf z')[k]?=(arrOf z)[k]?
theorem Ahd.refl(lo:Nat)(z:SortSt):Ahd lo z z:=⟨Array.Perm.refl _,rfl,rfl,rfl,fun u0 u0=>rfl⟩
theorem Ahd.sz{lo:Nat}{z z':SortSt}(h:Ahd lo z z'):(arrOf z').size=(arrOf z).size:=h.pm.size_eq
theorem Ahd.all{lo:Nat}{z z':SortSt}{P:Keyed->Prop}(h:Ahd lo z z')(p:∀ x∈arrOf z,P x):∀ x∈arrOf z',P x:=fun x hx=>p x (h.pm.mem_iff.mp hx)
theorem Ahd.rev{lo i j:Nat}{z z':SortSt}(h:Ahd lo z z')(hi:lo<=i)(hj:j<=(arrOf z').size):Ahd lo z (setArr z' (mirror 82#0 i j ((j-i) / 2))):=by
 refine⟨(mirror_perm _ _ _ _).trans h.pm,h.kd,h.fl,h.pe,fun k hk=>?_⟩;show(mirror 82#0 i j ((j-i) / 2))[k]?=_;rw[getElem?_mirror_all hj,if_neg 1#0];exact h.fr k hk
theorem Ahd.down{lo i j:Nat}{z z':SortSt}(h:Ahd lo z z')(hi:lo<=i)(hij:i<=j)(hj:j<(arrOf z').size):Ahd lo z (setArr z' (bubble 82#0 j (j-i))):=by
 refine⟨(bubble_perm _ _ _).trans h.pm,h.kd,h.fl,h.pe,fun k hk=>?_⟩;show(bubble 82#0 j (j-i))[k]?=_;rw[getElem?_bubble hj (j-i) 1#0,if_neg 1#0,if_neg 1#0];exact h.fr k hk
section
variable {κ:KeyKind}
noncomputable def Dsc(κ:KeyKind)(xs:Array Keyed)(lo hi:Nat):Prop:=∀ i j,lo<=i->i<=j->j<hi->κ.kle (KK κ xs j) (KK κ xs i)
theorem Seg.more{xs:Array Keyed}{lo hi:Nat}(u:Seg κ xs lo hi)(h:lo<hi->κ.kle (KK κ xs (hi-1)) (KK κ xs hi)):Seg κ xs lo (hi+1):=fun i j i1 ij jm=>by
 rcases e7 j hi with q | q
 ·exact u i j i1 ij q
 obtain rfl:j=hi:=by omega
 rcases e7 i j with p | p
 ·exact KeyOrd.kle_trans (u i (j-1) i1 1#0 1#0) (h 1#0)
 ·obtain rfl:i=j:=by omega
  exact KeyOrd.kle_refl _
theorem Dsc.more{xs:Array Keyed}{lo hi:Nat}(u:Dsc κ xs lo hi)(h:lo<hi->κ.kle (KK κ xs hi) (KK κ xs (hi-1))):Dsc κ xs lo (hi+1):=fun i j i1 ij jm=>by
 rcases e7 j hi with q | q
 ·exact u i j i1 ij q
 obtain rfl:j=hi:=by omega
 rcases e7 i j with p | p
 ·exact KeyOrd.kle_trans (h 1#0) (u i (j-1) i1 1#0 1#0)
 ·obtain rfl:i=j:=by omega
  exact KeyOrd.kle_refl _
theorem Dsc.congr{xs ys:Array Keyed}{lo hi:Nat}(e:∀ i,KK κ ys i=KK κ xs i)(u:Dsc κ xs lo hi):Dsc κ ys lo hi:=fun i j i1 ij jm=>by rw[e,e];exact u i j i1 ij jm
theorem Dsc.turn{xs:Array Keyed}{lo hi:Nat}(u:Dsc κ xs lo hi)(h:hi<=xs.size):Seg κ (mirror xs lo hi ((hi-lo) / 2)) lo hi:=fun i j i1 ij jm=>by
 rw[KK_mirror h,KK_mirror h,if_pos ⟨i1,by omega⟩,if_pos ⟨by omega,jm⟩];exact u (lo+hi-1-j) (lo+hi-1-i) 1#0 1#0 1#0
structure Fal (κ:KeyKind) (xs:Array Keyed) (lo m c:Nat):Prop where
 dn:Dsc κ xs lo (lo+m)
 le:c+1<=m
 eq:∀ i,lo+m-(c+1)<=i->i<lo+m->KK κ xs i=KK κ xs (lo+m-1)
theorem Fal.one{xs:Array Keyed}{lo m:Nat}(d:Dsc κ xs lo (lo+m))(h:1<=m):Fal κ xs lo m 0:=⟨d,h,fun i h1 h2=>by rw[show i=lo+m-1 by omega]⟩
variable {prog:Program} {w:World} {A:Around} {E:Value->Shared->Prop} {s:Shared} {kd:SortKind} {P:Keyed->Prop}
variable (L:∀(z:SortSt) (x y:Keyed) (Q:Option Bool->SortSt->Prop),kindOf z=kd->P x->P y->Q (some (κ.blt (ky κ x) (ky κ y))) z->wpS (model prog w) A E s (lt' x y) Q z)
include L
theorem zCo{i j:Nat}{z:SortSt}{Q:Option Bool->SortSt->Prop}(hz:kindOf z=kd)(pa:∀ p∈arrOf z,P p)(hi:i<(arrOf z).size)(hj:j<(arrOf z).size)(h:Q (some (κ.blt (KK κ 41#0 i) (KK κ 41#0 j))) z):wpS 3#0 A E s (ltAt' i j) Q z:=by
 refine cH (wpS_get ?_);refine cH (m:=elem' 41#0 i) (zz (getElem?_pos 41#0 i hi) ?_);refine cH (m:=elem' 41#0 j) (zz (getElem?_pos 41#0 j hj) ?_);exact L _ _ _ _ hz (pa _ (dS hi)) (pa _ (dS hj)) (by rw[<-zv hi,<-zv hj];exact h)
theorem zJD{lo nrem:Nat}{z:SortSt}{Q:Option Nat->SortSt->Prop}(hz:kindOf z=kd)(pa:∀ p∈arrOf z,P p)(h1:1<=nrem)(hs:lo+nrem<=(arrOf z).size)
  (h:∀ n z',1<=n->n<=nrem->Ahd lo z z'->Seg κ 82#0 lo (lo+n)->Q (some n) z'):wpS 3#0 A E s (countRun' lo nrem) Q z:=by
 refine cH (fC (eB (β:=Option (Option Nat)×Nat) (I:=fun x c z'=>z'=z/\c=(none,x)/\Seg κ 41#0 lo (lo+x)) (Q:=fun c z'=>z'=z/\∃ n,c=(none,n)/\1<=n/\n<=nrem/\Seg κ 41#0 lo (lo+n)/\(n=nrem\/κ.klt (KK κ 41#0 (lo+n)) (KK κ 41#0 (lo+n-1)))) (fun x c z' x1 x2 ⟨e1,e2,u⟩=>?stp) (fun c z' ⟨e1,e2,u⟩=>?fin) ⟨rfl,rfl,fun i j i1 ij j2=>by obtain rfl:i=j:=1#0;exact KeyOrd.kle_refl _⟩) fun c z' ⟨e1,n,e2,n1,n2,u,o⟩=>?pst)
 case fin =>
  rw[show max 1 nrem=nrem by omega] at e2 u;exact⟨e1,nrem,e2,h1,cr _,u,.inl rfl⟩
 case stp =>
  subst e1 e2;refine cH (m:=ltAt' (lo+x) (lo+x-1)) (zCo L hz pa 1#0 1#0 ?_);dsimp only;cases q:κ.blt (KK κ 82#0 (lo+x)) (KK κ 82#0 (lo+x-1)) with
  | true=>exact cM ⟨rfl,x,rfl,x1,by omega,u,.inr q⟩
  | false=>exact cM ⟨rfl,rfl,Seg.more u fun u0=>q⟩
 case pst =>
  subst e1 e2;dsimp only;by_cases e:n=nrem
  ·rw[if_pos (by simpa using e)]
   exact cM (h n z' n1 n2 (.refl _ _) u)
  rw[if_neg (by simpa using e)];have lt:=o.resolve_left e;apply @zOg prog w A E s (n>1) _ Nat _ _ _ _ _ n (fun x z1=>n=x/\Ahd lo z' z1/\Dsc κ (arrOf z1) lo (lo+(n+1)))
  ·refine fun g=>⟨rfl,.refl lo z',?_⟩
   obtain rfl:n=1:=by omega
   exact Dsc.more (hi:=lo+1) (fun i j i1 ij j2=>by obtain rfl:i=j:=1#0;exact KeyOrd.kle_refl _) fun u0=>KeyOrd.kle_of_klt lt
  ·intro g H
   refine cH (m:=ltAt' lo (lo+n-1)) (zCo L hz pa 1#0 1#0 ?_);dsimp only;cases q:κ.blt (KK κ 82#0 lo) (KK κ 82#0 (lo+n-1)) with
   | true=>exact cM (h n z' n1 n2 (.refl _ _) u)
   | false =>
    have sz:lo+n<=(arrOf z').size:=by omega
    have al:∀ k,lo<=k->k<lo+n->KK κ 82#0 k=KK κ 82#0 (lo+n-1):=fun k k1 k2=>KeyOrd.kle_antisymm (u k (lo+n-1) k1 1#0 1#0) (KeyOrd.kle_trans q (u lo k (cr _) k1 k2));have d0:Dsc κ 82#0 lo (lo+n+1):=Dsc.more (fun i j i1 ij jn=>by rw[al i i1 1#0,al j 1#0 jn];exact KeyOrd.kle_refl _) fun u0=>KeyOrd.kle_of_klt lt;rw[if_neg 13#0];exact cH (m:=reverseSlice' lo (lo+n)) (wpS_reverse (H n _ ⟨rfl,(Ahd.refl lo z').rev (i:=lo) (j:=lo+n) (cr _) sz,Dsc.congr (KK_mirror_equal sz al) d0⟩))
  intro x z1 hh;obtain⟨e',a1,d1⟩:=hh;subst e';clear u lt o;sleep 57;refine cH (fC (eB (β:=Option (Option Nat)×Nat×Nat) (I:=fun x c z2=>∃ q,c=(none,x,q)/\Ahd lo z' z2/\Fal κ (arrOf z2) lo x q) (Q:=fun c z2=>∃ m q,c=(none,m,q)/\n+1<=m/\m<=nrem/\Ahd lo z' z2/\Fal κ (arrOf z2) lo m q) (fun m c z2 m1 m2 ⟨t,e3,a2,f2⟩=>?sp2) (fun c z2 ⟨t,e3,a2,f2⟩=>⟨nrem,t,by rw[e3,show max (n+1) nrem=nrem by omega],by omega,cr _,a2,by rwa [show max (n+1) nrem=nrem by omega] at f2⟩) ⟨0,rfl,a1,Fal.one d1 1#0⟩) fun c z2 ⟨m,t,e3,m1,m2,a2,f2⟩=>?ps2)
  case sp2 =>
   subst e3;have s2:=a2.sz;have fl2:=f2.le;refine cH (m:=ltAt' (lo+m) (lo+m-1)) (zCo L (a2.kd.trans hz) (a2.all pa) 1#0 1#0 ?_);dsimp only;cases q2:κ.blt (KK κ (arrOf z2) (lo+m)) (KK κ (arrOf z2) (lo+m-1)) with
   | true =>
    have d2:Dsc κ (arrOf z2) lo (lo+m+1):=Dsc.more f2.dn fun u0=>KeyOrd.kle_of_klt q2;simp only[if_true];by_cases hc:t>0
    ·rw[if_pos hc]
     refine cH (m:=reverseSlice' (lo+m-(t+1)) (lo+m)) (wpS_reverse (cM ⟨0,rfl,a2.rev 1#0 1#0,Fal.one ?_ 1#0⟩));exact Dsc.congr (KK_mirror_equal 1#0 f2.eq) d2
    ·rw[if_neg hc]
     exact cM ⟨0,rfl,a2,Fal.one d2 1#0⟩
   | false =>
    simp only[bX,if_false];refine cH (m:=ltAt' (lo+m-1) (lo+m)) (zCo L (a2.kd.trans hz) (a2.all pa) 1#0 1#0 ?_);dsimp only;cases q3:κ.blt (KK κ (arrOf z2) (lo+m-1)) (KK κ (arrOf z2) (lo+m)) with
    | true=>exact cM ⟨m,t,rfl,m1,by omega,a2,f2⟩
    | false =>
     have ek:KK κ (arrOf z2) (lo+m)=KK κ (arrOf z2) (lo+m-1):=KeyOrd.kle_antisymm q3 q2;simp only[bX,if_false];refine cM ⟨t+1,rfl,a2,Dsc.more f2.dn fun u0=>q3,by omega,fun i i1 i2=>?_⟩;rw[show lo+(m+1)-1=lo+m by omega];rcases e7 i (lo+m) with p | p
     ·rw[ek];exact f2.eq i 1#0 p
     ·rw[show i=lo+m by omega]
  case ps2 =>
   subst e3;have s2:=a2.sz;have fl2:=f2.le;dsimp only;apply @zOg prog w A E s (t>0) _ Nat _ _ _ _ _ m (fun x z5=>m=x/\Ahd lo z' z5/\Dsc κ (arrOf z5) lo (lo+m))
   ·exact fun u0=>⟨rfl,a2,f2.dn⟩
   ·intro hc H
    exact cH (m:=reverseSlice' (lo+m-(t+1)) (lo+m)) (wpS_reverse (H m _ ⟨rfl,a2.rev (i:=lo+m-(t+1)) (j:=lo+m) 1#0 1#0,Dsc.congr (KK_mirror_equal 1#0 f2.eq) f2.dn⟩))
   intro x z5 hh;obtain⟨e',a4,d4⟩:=hh;subst e';clear a2 f2 s2 fl2 a1 d1;have sw:=Ahd.sz a4;refine cH (m:=reverseSlice' lo (lo+m)) (wpS_reverse ?_);have a3:=Ahd.rev (i:=lo) (j:=lo+m) a4 (cr _) 1#0;have u3:Seg κ (arrOf (setArr z5 (mirror (arrOf z5) lo (lo+m) ((lo+m-lo) / 2)))) lo (lo+m):=Dsc.turn d4 1#0;generalize setArr z5 (mirror (arrOf z5) lo (lo+m) ((lo+m-lo) / 2))=z3 at a3 u3 ⊢;have s3:=a3.sz;refine cH (fC (eB (β:=Option (Option Nat)×Nat) (I:=fun x c z4=>z4=z3/\c=(none,x)/\Seg κ (arrOf z3) lo (lo+x)) (Q:=fun c z4=>z4=z3/\∃ y,c=(none,y)/\m<=y/\y<=nrem/\Seg κ (arrOf z3) lo (lo+y)) (fun x c z4 x1 x2 ⟨y1,y2,y3⟩=>?_) (fun c z4 ⟨y1,y2,y3⟩=>⟨y1,nrem,by rw[y2,show max m nrem=nrem by omega],m2,cr _,by rwa [show max m nrem=nrem by omega] at y3⟩) ⟨rfl,rfl,u3⟩) fun c z4 ⟨y1,y,y2,y3,y4,y5⟩=>?_)
   ·subst y1 y2
    refine cH (m:=ltAt' (lo+x) (lo+x-1)) (zCo L (a3.kd.trans hz) (a3.all pa) 1#0 1#0 ?_);dsimp only;cases q2:κ.blt (KK κ (arrOf z4) (lo+x)) (KK κ (arrOf z4) (lo+x-1)) with
    | true=>exact cM ⟨rfl,x,rfl,x1,by omega,y3⟩
    | false=>exact cM ⟨rfl,rfl,Seg.more y3 fun u0=>q2⟩
   ·subst y1 y2
    exact cM (h y z4 1#0 y4 a3 y5)
theorem zKX{lo m ok:Nat}{z:SortSt}{Q:Bool->SortSt->Prop}(hz:kindOf z=kd)(pa:∀ p∈arrOf z,P p)(h1:1<=ok)(hok:ok<=m)(hs:lo+m<=(arrOf z).size)(u:Seg κ 41#0 lo (lo+ok))
  (h:∀ z',Ahd lo z z'->Seg κ 82#0 lo (lo+m)->Q true z'):wpS 3#0 A E s (binarySort' lo m ok) Q z:=by
 refine cH (fC (eB (β:=Option Bool×Unit) (I:=fun k c z'=>c=(none,())/\k<=m/\Ahd lo z z'/\Seg κ 82#0 lo (lo+k)) (Q:=fun c z'=>c=(none,())/\Ahd lo z z'/\Seg κ 82#0 lo (lo+m)) (fun k c z' k1 k2 ⟨e,km,a1,u'⟩=>?stp) (fun c z' ⟨e,km,a1,u'⟩=>?fin) ⟨rfl,by omega,.refl _ _,by rwa [show max ok 1=ok by omega]⟩) fun c z' ⟨e,a1,u'⟩=>?pst)
 case fin=>exact⟨e,a1,by rwa [show max (max ok 1) m=m by omega] at u'⟩
 case pst =>
  subst e;exact cM (h z' a1 u')
 case stp =>
  subst e;have s1:=a1.sz;have hk:lo+k<(arrOf z').size:=by omega
  refine cH (fC (eB (β:=Option Bool×Nat×Nat) (I:=fun x c z''=>z''=z'/\∃ l r,c=(none,l,r)/\(l<=r/\r<=k/\r-l<=k-x)/\(∀ i,i<l->κ.kle (KK κ 82#0 (lo+i)) (KK κ 82#0 (lo+k)))/\∀ i,r<=i->i<k->κ.klt (KK κ 82#0 (lo+k)) (KK κ 82#0 (lo+i)))
   (Q:=fun c z''=>z''=z'/\∃ l,(∃ r,c=(none,l,r))/\l<=k/\(∀ i,i<l->κ.kle (KK κ 82#0 (lo+i)) (KK κ 82#0 (lo+k)))/\∀ i,l<=i->i<k->κ.klt (KK κ 82#0 (lo+k)) (KK κ 82#0 (lo+i))) (fun x c z'' x1 x2 ⟨e1,l,r,e2,⟨lr,rk,dx⟩,lw,hi⟩=>?is) (fun c z'' ⟨e1,l,r,e2,⟨lr,rk,dx⟩,lw,hi⟩=>?if_) ⟨rfl,0,k,rfl,⟨by omega,by omega,by omega⟩,fun i q=>by omega,fun i q1 q2=>by omega⟩) fun c z'' ⟨e1,l,⟨r,e2⟩,lk,lw,hi⟩=>?ip)
  case is =>
   subst e1 e2;dsimp only;by_cases g:l≥r
   ·rw[if_pos g]
    obtain rfl:l=r:=by omega
    exact cM ⟨rfl,l,⟨_,rfl⟩,rk,lw,hi⟩
   ·rw[if_neg g]
    refine cH (m:=ltAt' (lo+k) (lo+(l+r) / 2)) (zCo L (a1.kd.trans hz) (a1.all pa) hk 1#0 ?_);dsimp only;cases q:κ.blt (KK κ (arrOf z'') (lo+k)) (KK κ (arrOf z'') (lo+(l+r) / 2)) with
    | true=>exact cM ⟨rfl,l,(l+r) / 2,rfl,⟨by omega,by omega,by omega⟩,lw,fun i i1 i2=>KeyOrd.klt_of_klt_of_kle q (u' _ _ 1#0 1#0 1#0)⟩
    | false=>exact cM ⟨rfl,(l+r) / 2+1,r,rfl,⟨by omega,by omega,by omega⟩,fun i i1=>KeyOrd.kle_trans (u' (lo+i) (lo+(l+r) / 2) 1#0 1#0 1#0) (show κ.kle _ _ from q),hi⟩
  case if_ =>
   subst e1 e2;obtain rfl:l=r:=by omega
   exact⟨rfl,l,⟨_,rfl⟩,rk,lw,hi⟩
  case ip =>
   subst e1 e2;refine cH (m:=moveDown' (lo+k) (lo+l)) ?_;rw[moveDown'_eq];refine wpS_modify (cM ⟨rfl,by omega,a1.down 1#0 1#0 hk,fun i j i1 ij jk=>?_⟩);show κ.kle (KK κ (bubble (arrOf z'') (lo+k) (lo+k-(lo+l))) i) (KK κ (bubble (arrOf z'') (lo+k) (lo+k-(lo+l))) j);rw[KK_bubble hk 1#0,KK_bubble hk 1#0,show lo+k-(lo+k-(lo+l))=lo+l by omega];have lw':∀ t,lo<=t->t<lo+l->κ.kle (KK κ (arrOf z'') t) (KK κ (arrOf z'') (lo+k)):=fun t t1 t2=>by
    have:=lw (t-lo) 1#0;rwa [show lo+(t-lo)=t by omega] at this
   have hi':∀ t,lo+l<=t->t<lo+k->κ.klt (KK κ (arrOf z'') (lo+k)) (KK κ (arrOf z'') t):=fun t t1 t2=>by
    have:=hi (t-lo) 1#0 1#0;rwa [show lo+(t-lo)=t by omega] at this
   by_cases i2:i=lo+l
   ·rw[if_pos i2]
    by_cases j1:j=lo+l
    ·rw[if_pos j1];exact KeyOrd.kle_refl _
    ·rw[if_neg j1,if_pos 118#0]
     exact KeyOrd.kle_of_klt (hi' (j-1) 1#0 1#0)
   ·rw[if_neg i2]
    by_cases i3:lo+l<i/\i<=lo+k
    ·rw[if_pos i3,if_neg 1#0,if_pos 118#0]
     exact u' (i-1) (j-1) 1#0 1#0 1#0
    ·rw[if_neg i3]
     by_cases j1:j=lo+l
     ·rw[if_pos j1];exact lw' i i1 1#0
     ·rw[if_neg j1]
      by_cases j2:lo+l<j/\j<=lo+k
      ·rw[if_pos j2];exact u' i (j-1) i1 1#0 1#0
      ·rw[if_neg j2];exact u' i j i1 ij 1#0
end
section
variable {κ:KeyKind}
noncomputable def Runs(κ:KeyKind)(xs:Array Keyed):Nat->List (Nat×Nat×Nat)->Nat->Prop
 | lo,[],hi=>lo=hi
 | lo,t::r,hi=>t.1=lo/\1<=t.2.1/\Seg κ xs lo (lo+t.2.1)/\Runs κ xs (lo+t.2.1) r hi
theorem Runs.len:∀ {p:List (Nat×Nat×Nat)} {lo hi:Nat},Runs κ xs lo p hi->p.length+lo<=hi
 | [],lo,hi,h=>by have:lo=hi:=h;simp;omega
 | t::r,lo,hi,⟨_,h1,_,h2⟩=>by have:=Runs.len h2;rw[cb];omega
theorem Runs.app:∀ {p q:List (Nat×Nat×Nat)} {lo hi:Nat},Runs κ xs lo (p++q) hi↔∃ mid,Runs κ xs lo p mid/\Runs κ xs mid q hi
 | [],q,lo,hi=>⟨fun h=>⟨lo,rfl,h⟩,fun⟨mid,h1,h2⟩=>by have:lo=mid:=h1;subst this;exact h2⟩
 | t::r,q,lo,hi=>by
  constructor
  ·rintro⟨h1,h2,h3,h4⟩
   obtain⟨mid,h5,h6⟩:=Runs.app.mp h4;exact⟨mid,⟨h1,h2,h3,h5⟩,h6⟩
  ·rintro⟨mid,⟨h1,h2,h3,h5⟩,h6⟩
   exact⟨h1,h2,h3,Runs.app.mpr ⟨mid,h5,h6⟩⟩
theorem Seg.congr{xs ys:Array Keyed}{lo hi:Nat}(e:∀ k,lo<=k->k<hi->ys[k]?=xs[k]?)(h:Seg κ xs lo hi):Seg κ ys lo hi:=fun i j i1 ij j2=>by
 rw[KK_congr (e i i1 1#0),KK_congr (e j 1#0 j2)];exact h i j i1 ij j2
theorem Runs.congr:∀ {p:List (Nat×Nat×Nat)} {lo hi:Nat},(∀ k,lo<=k->k<hi->ys[k]?=xs[k]?)->Runs κ xs lo p hi->Runs κ ys lo p hi
 | [],lo,hi,_,h=>h
 | t::r,lo,hi,e,⟨h1,h2,h3,h4⟩=>by
  have:=h4.len;exact⟨h1,h2,h3.congr fun k k1 k2=>e k k1 1#0,Runs.congr (fun k k1 k2=>e k 1#0 k2) h4⟩
theorem Runs.power(hf:∀ t,(f t).1=t.1/\(f t).2.1=t.2.1):∀ {p:List (Nat×Nat×Nat)} {lo hi i:Nat},Runs κ xs lo p hi->Runs κ xs lo (p.modify i f) hi
 | [],lo,hi,i,h=>by simpa using h
 | t::r,lo,hi,0,⟨h1,h2,h3,h4⟩=>by
  rw[List.modify_zero_cons];obtain⟨f1,f2⟩:=hf t;exact⟨by rw[f1];exact h1,by rw[f2];exact h2,by rw[f2];exact h3,by rw[f2];exact h4⟩
 | t::r,lo,hi,i+1,⟨h1,h2,h3,h4⟩=>by
  rw[List.modify_succ_cons];exact⟨h1,h2,h3,Runs.power hf h4⟩
structure RS (κ:KeyKind) (a0:Array Keyed) (kd:SortKind) (lo:Nat) (z:SortSt):Prop where
 pm:(arrOf z).Perm a0
 kd:kindOf z=kd
 fl:failedOf z=none
 rn:Runs κ 41#0 0 (pendingOf z).toList lo
theorem RS.ahd{a0:Array Keyed}{kd:SortKind}{lo:Nat}{z z':SortSt}(r:RS κ a0 kd lo z)(a:Ahd lo z z'):RS κ a0 kd lo z':=⟨a.pm.trans r.pm,a.kd.trans r.kd,a.fl.trans r.fl,by rw[a.pe];exact r.rn.congr fun k u0 k2=>a.fr k k2⟩
theorem zMm{p:List (Nat×Nat×Nat)}{i:Nat}(h:i+1<p.length):∃ p1 x y p2,p=p1++x::y::p2/\p1.length=i:=by
 refine⟨p.take i,p[i],p[i+1],p.drop (i+2),?_,by rw[cS];omega⟩;rw[List.getElem_cons_drop,List.getElem_cons_drop,cU]
theorem zLS{p:Array (Nat×Nat×Nat)}{p1 p2:List (Nat×Nat×Nat)}{x y v:Nat×Nat×Nat}{i:Nat}(e:p.toList=p1++x::y::p2)(hi:p1.length=i):((p.setIfInBounds i v).eraseIdxIfInBounds (i+1)).toList=p1++v::p2:=by
 subst hi;have h2:p1.length+1<(p.setIfInBounds p1.length v).size:=by
  rw[Array.size_setIfInBounds,<-cC,e];simp
 rw[Array.eraseIdxIfInBounds,dif_pos h2,Array.toList_eraseIdx,Array.toList_setIfInBounds,e,List.set_append_right _ _ (cr _),Nat.sub_self,bY,List.eraseIdx_append_of_length_le 1#0];rw[show p1.length+1-p1.length=1 by omega];rfl
variable {prog:Program} {w:World} {A:Around} {E:Value->Shared->Prop} {s:Shared} {kd:SortKind} {P:Keyed->Prop} {a0:Array Keyed}
variable (L:∀(z:SortSt) (x y:Keyed) (Q:Option Bool->SortSt->Prop),kindOf z=kd->P x->P y->Q (some (κ.blt (ky κ x) (ky κ y))) z->wpS (model prog w) A E s (lt' x y) Q z)
include L
theorem zDs{i lo:Nat}{z:SortSt}{Q:Bool->SortSt->Prop}(pa:∀ p∈a0,P p)(r:RS κ a0 kd lo z)(hlo:lo<=a0.size)(hi:i+1<(pendingOf z).size)
  (h:∀ z',RS κ a0 kd lo z'->(pendingOf z').size+1=(pendingOf z).size->(∀ k,lo<=k->(arrOf z')[k]?=(arrOf z)[k]?)->Q true z'):wpS 3#0 A E s (mergeAt' i) Q z:=by
 obtain⟨p1,x,y,p2,e,hl⟩:=zMm (p:=(pendingOf z).toList) (i:=i) (by simpa using hi);have rn:=r.rn;rw[e] at rn;obtain⟨mid,r1,q1,q2,q3,q4,q5,q6,q7⟩:=Runs.app.mp rn;obtain⟨sa,na,pw⟩:=x;obtain⟨sb,nb,pw2⟩:=y;dsimp only at q1 q2 q3 q4 q5 q6 q7;subst q1 q4;have l7:=q7.len;have sz:=r.pm.size_eq;have e1:(pendingOf z)[i]?=some (sa,na,pw):=by
  rw[<-eG,e,dh 1#0,hl,Nat.sub_self];rfl
 have e2:(pendingOf z)[i+1]?=some (sa+na,nb,pw2):=by
  rw[<-eG,e,dh 1#0,hl,show i+1-i=1 by omega];rfl
 refine zKW L r.kd r.fl (fun p hp=>pa p (r.pm.mem_iff.mp hp)) e1 e2 rfl q2 q5 1#0 q3 q6 fun z' k1 k2 k3 mg=>h z' ⟨mg.pm.trans r.pm,k1,k2,?_⟩ ?_ fun k hk=>mg.fr k (.inr 1#0)
 ·rw[k3,zLS e hl]
  refine Runs.app.mpr ⟨sa,r1.congr fun k u0 k2=>mg.fr k (.inl k2),rfl,by show 1<=na+nb;omega,?_,?_⟩
  ·show Seg κ 82#0 sa (sa+(na+nb))
   rw[<-Nat.add_assoc];exact mg.sg
  ·show Runs κ 82#0 (sa+(na+nb)) p2 lo
   rw[<-Nat.add_assoc];exact q7.congr fun k k1 u0=>mg.fr k (.inr k1)
 ·have:=congrArg List.length (zLS (v:=(sa,na+nb,pw)) e hl)
  rw[<-k3,cC] at this;rw[this,<-cC (xs:=pendingOf z),e];simp;omega
end
section
variable {κ:KeyKind} {prog:Program} {w:World} {A:Around} {E:Value->Shared->Prop} {s:Shared} {kd:SortKind} {P:Keyed->Prop} {a0:Array Keyed}
theorem zQv[Decidable c](ha:a+1<m)(hb:b+1<m):(if c then a else b)+1<m:=by
 split
 ·exact ha
 ·exact hb
theorem RS.push{lo n pw:Nat}{z:SortSt}(r:RS κ a0 kd lo z)(u:Seg κ 41#0 lo (lo+n))(hn:1<=n):RS κ a0 kd (lo+n) (setPending z ((pendingOf z).push (lo,n,pw))):=by
 refine⟨r.pm,r.kd,r.fl,?_⟩;show Runs κ 41#0 0 ((pendingOf z).push (lo,n,pw)).toList (lo+n);rw[db];exact Runs.app.mpr ⟨lo,r.rn,rfl,hn,u,rfl⟩
theorem RS.repow{lo i:Nat}{z:SortSt}{f:Nat×Nat×Nat->Nat×Nat×Nat}(r:RS κ a0 kd lo z)(hf:∀ t,(f t).1=t.1/\(f t).2.1=t.2.1):RS κ a0 kd lo (setPending z ((pendingOf z).modify i f)):=by
 refine⟨r.pm,r.kd,r.fl,?_⟩;show Runs κ 41#0 0 ((pendingOf z).modify i f).toList lo;rw[Array.toList_modify];exact r.rn.power hf
variable (L:∀(z:SortSt) (x y:Keyed) (Q:Option Bool->SortSt->Prop),kindOf z=kd->P x->P y->Q (some (κ.blt (ky κ x) (ky κ y))) z->wpS (model prog w) A E s (lt' x y) Q z)
include L
theorem zOh(pa:∀ p∈a0,P p)(pm:(arrOf z).Perm a0)(hk:kindOf z=kd)(hf:failedOf z=none)(hp:pendingOf z=#[])(h1:1<=a0.size)
  (h:∀ z',(arrOf z').Perm a0->failedOf z'=none->SortedToK κ 82#0 a0.size->Q () z'):wpS 3#0 A E s sortRuns' Q z:=by
 have sz:=pm.size_eq;rw[sortRuns'_eq];refine cH (wpS_get ?_);dsimp only;rw[sz];generalize minRun' a0.size a0.size 0=mr;refine cH (fC (eB (I:=fun x c z'=>∃ lo,c=(none,lo)/\lo<=a0.size/\(x<=lo\/lo=a0.size)/\RS κ a0 kd lo z') (Q:=fun c z'=>c=(none,a0.size)/\RS κ a0 kd a0.size z') (fun x c z1 x1 x2 ⟨lo,e1,l1,l2,r1⟩=>?stp) (fun c z1 ⟨lo,e1,l1,l2,r1⟩=>?fin) ⟨0,rfl,by omega,.inl (cr _),pm,hk,hf,by rw[hp];rfl⟩) fun c z1 ⟨e1,r1⟩=>?pst)
 case fin =>
  obtain rfl:lo=a0.size:=by omega
  exact⟨e1,r1⟩
 case stp =>
  subst e1;dsimp only;by_cases g:lo≥a0.size
  ·rw[if_pos g]
   obtain rfl:lo=a0.size:=by omega
   exact cM ⟨rfl,r1⟩
  rw[if_neg g];have s1:=r1.pm.size_eq;refine cH (zJD L r1.kd (fun p q=>pa p (r1.pm.mem_iff.mp q)) 1#0 1#0 fun n z2 n1 n2 a2 u2=>?_);have r2:=r1.ahd a2;have s2:=r2.pm.size_eq;dsimp only;apply @zOg prog w A E s (n<mr) _ Nat _ _ _ _ _ n (fun n' z3=>1<=n'/\lo+n'<=a0.size/\RS κ a0 kd lo z3/\Seg κ (arrOf z3) lo (lo+n'))
  ·exact fun u0=>⟨n1,by omega,r2,u2⟩
  ·intro gn H
   sleep 57;have fn:n<=min (a0.size-lo) mr:=by omega
   have fs:lo+min (a0.size-lo) mr<=a0.size:=by omega
   generalize min (a0.size-lo) mr=fc at fn fs ⊢;refine cH (zKX L r2.kd (fun p q=>pa p (r2.pm.mem_iff.mp q)) n1 fn 1#0 u2 fun z3 a3 u3=>?_);rw[if_neg 13#0];exact H fc z3 ⟨by omega,by omega,r2.ahd a3,u3⟩
  intro fc z3 hh;obtain⟨f1,f2,r3,u3⟩:=hh;clear a2 u2 r2 s2 n1 n2;refine cH (wpS_get ?_);cases hb:(pendingOf z3).back? with
  | none=>exact cH (wpS_modify (cM ⟨lo+fc,rfl,by omega,by omega,r3.push u3 1#0⟩))
  | some t =>
   obtain⟨s1,n1,o1⟩:=t;dsimp only;refine cH (fC (eB (I:=fun u0 c z'=>c=(none,())/\RS κ a0 kd lo z'/\Seg κ 82#0 lo (lo+fc)) (Q:=fun c z'=>c=(none,())/\RS κ a0 kd lo z'/\Seg κ 82#0 lo (lo+fc)) (fun x c z4 x1 x2 ⟨e4,r4,u4⟩=>?ms) (fun c z4 q=>q) ⟨rfl,r3,u3⟩) fun c z4 ⟨e4,r4,u4⟩=>?mp)
   case ms =>
    subst e4;refine cH (wpS_get ?_);by_cases g2:(pendingOf z4).size>1
    ·rw[if_pos g2]
     rw[getElem?_pos (pendingOf z4) ((pendingOf z4).size-2) 1#0];dsimp only;split
     ·exact cM ⟨rfl,r4,u4⟩
     ·refine cH (zDs L pa r4 1#0 1#0 fun z5 r5 u0 f5=>?_)
      rw[if_neg 13#0];exact cM ⟨rfl,r5,u4.congr fun k k1 u0=>f5 k k1⟩
    ·rw[if_neg g2]
     exact cM ⟨rfl,r4,u4⟩
   case mp =>
    subst e4;dsimp only;refine cH (wpS_modify (cH (wpS_modify (cM ⟨lo+fc,rfl,by omega,by omega,?_⟩))));refine RS.push (RS.repow r4 ?_) u4 1#0;exact fun t=>⟨rfl,rfl⟩
 case pst =>
  subst e1;dsimp only;have ln:=r1.rn.len;rw[cC] at ln;refine cH (fC (eB (I:=fun x c z'=>c=(none,())/\RS κ a0 kd a0.size z'/\((pendingOf z').size+x<=a0.size\/(pendingOf z').size<=1)) (Q:=fun c z'=>c=(none,())/\RS κ a0 kd a0.size z'/\(pendingOf z').size<=1) (fun x c z4 x1 x2 ⟨e4,r4,o4⟩=>?ls) (fun c z4 ⟨e4,r4,o4⟩=>⟨e4,r4,by omega⟩) ⟨rfl,r1,.inl 1#0⟩) fun c z4 ⟨e4,r4,o4⟩=>?lp)
  case ls =>
   subst e4;refine cH (wpS_get ?_);by_cases g2:(pendingOf z4).size<=1
   ·rw[if_pos g2]
    exact cM ⟨rfl,r4,g2⟩
   ·rw[if_neg g2]
    refine cH (zDs L pa r4 (cr _) (zQv 1#0 1#0) fun z5 r5 q5 f5=>?_);rw[if_neg 13#0];exact cM ⟨rfl,r5,by omega⟩
  case lp =>
   subst e4;refine cM (h z4 r4.pm r4.fl ?_);have rn:=r4.rn;have lp:(pendingOf z4).toList.length<=1:=by simpa using o4
   match hpp:(pendingOf z4).toList,lp with
   | [],_ =>
    rw[hpp] at rn;have:0=a0.size:=rn;omega
   | [t],_ =>
    rw[hpp] at rn;obtain⟨t1,t2,t3,t4⟩:=rn;have:0+t.2.1=a0.size:=t4;rw[this] at t3;exact fun i j ij ja=>t3 i j (dG _) ij ja
end
end HM
namespace HS
noncomputable def ltI:List Int->List Int->Bool
 | [],[]=>false
 | [],_::_=>true
 | _::_,[]=>false
 | a::r,b::t=>if a=b then ltI r t else decide (a<b)
theorem zLT:∀ a,ltI a a=false
 | []=>rfl
 | x::r=>by show(if x=x then ltI r r else _)=false;rw[if_pos rfl];exact zLT r
theorem zG9:∀ a b c,ltI a b=true->ltI b c=true->ltI a c=true
 | [],[],_,h,_=>by cases h
 | [],_::_,[],_,h=>by cases h
 | [],_::_,_::_,_,_=>rfl
 | _::_,[],_,h,_=>by cases h
 | _::_,_::_,[],_,h=>by cases h
 | x::a,y::b,z::c,h,h'=>by
  simp only[ltI] at h h' ⊢;split at h<;>split at h'
  ·rename_i e1 e2;rw[if_pos (e1.trans e2)];exact zG9 a b c h h'
  ·rename_i e1 e2;subst e1;rw[if_neg e2];exact h'
  ·rename_i e1 e2;subst e2;rw[if_neg e1];exact h
  ·simp only[decide_eq_true_eq] at h h'
   rw[if_neg 1#0];simp;omega
theorem zLU:∀ a b c,ltI a c=true->ltI a b=true\/ltI b c=true
 | [],[],_,h=>.inr h
 | [],_::_,_,_=>.inl rfl
 | _::_,_,[],h=>by cases h
 | _::_,[],_::_,_=>.inr rfl
 | x::a,y::b,z::c,h=>by
  simp only[ltI] at h ⊢;split at h
  ·rename_i e1;subst e1
   by_cases e2:x=y
   ·subst e2;rw[if_pos rfl,if_pos rfl];exact zLU a b c h
   ·rw[if_neg e2,if_neg (Ne.symm e2)];simp;omega
  ·rename_i e1
   simp only[decide_eq_true_eq] at h;by_cases e2:x=y
   ·subst e2;right;rw[if_neg e1];simp;omega
   ·by_cases e3:y=z
    ·subst e3;left;rw[if_neg e2];simp;omega
    ·rw[if_neg e2,if_neg e3];simp;omega
theorem zFH:∀ a b,ltI a b=false->ltI b a=false->a=b
 | [],[],_,_=>rfl
 | [],_::_,h,_=>by cases h
 | _::_,[],_,h=>by cases h
 | x::a,y::b,h,h'=>by
  simp only[ltI] at h h';by_cases e:x=y
  ·subst e;rw[if_pos rfl] at h h';rw[zFH a b h h']
  ·rw[if_neg e] at h;rw[if_neg (Ne.symm e)] at h'
   simp only[decide_eq_false_iff_not] at h h';omega
noncomputable def tAt(h:Heap):Value->Option (List Int)
 | .ref a=>match h.get? a with
  | some o=>match o.data with
   | .seq its _=>some (its.toList.map numOf)
   | _=>none
  | none=>none
 | _=>none
noncomputable abbrev zA8(h:Heap):KeyKind where
 α:=List Int
 blt:=ltI
 irrefl:=zLT
 trans:=zG9
 negTrans:=zLU
 total:=zFH
 keyOf:=tAt h
 dflt:=[]
structure TI (h:Heap) (v:Value) (ns:List Int):Prop where
 ex:∃ a o its n,v=.ref a/\h.get? a=some o/\o.cls=.type "tuple"/\o.data=.seq its n/\IntsAre its.toList ns
 ne:ns≠[]
theorem TI.items(t:TI h v ns):tAt h v=some ns:=by
 obtain⟨a,o,its,n,rfl,e,u0,d,i⟩:=t.ex;unfold tAt;simp only[e,d];rw[i.nums]
theorem zH6(b:Bool)(x y:Value):keyLt' (tuples' b) x y=(do
  let xs <-Builtin.List.listItems x;let ys <-Builtin.List.listItems y
  for ((p,q),i) in (xs.toList.zip ys.toList).zipIdx do
   if !(<-eqBool p q) then return <-oneLt' (b&&i==0) p q
  return decide (xs.size<ys.size)):=rfl
section
variable {prog:Program} {w:World} {A:Around} {E:Value->Shared->Prop} {s:Shared}
theorem zKY(h:Q (decide (i<j)) s):wpAny 3#0 A (oneLt' b (.int i t) (.int j u)) Q E s:=by
 cases b with
 | true=>exact oneLt_int h
 | false =>
  rw[oneLt'_eq];simp only[bX,if_false];refine bW (m:=richCompare .Lt (.int i t) (.int j u)) (wpAny_lt_int ?_);exact eZ h
noncomputable def zEk:List Int->List Int->Option Bool
 | a::r,b::t=>if a=b then zEk r t else some (decide (a<b))
 | _,_=>none
theorem zJE:∀ ns ms,ltI ns ms=(zEk ns ms).getD (decide (ns.length<ms.length))
 | [],[]=>rfl
 | [],_::_=>by simp[ltI,zEk]
 | _::_,[]=>by simp[ltI,zEk]
 | a::r,b::t=>by
  simp only[ltI,zEk];split
  ·rw[zJE r t];simp
  ·rfl
theorem zLV:∀(ps qs:40#0) (ns ms:129#0) (k:Nat),IntsAre ps ns->IntsAre qs ms->Q (zEk ns ms,()) s ->
  wpAny 3#0 A (forIn ((ps.zip qs).zipIdx k) ((none,()):Option Bool×Unit) fun x r=>do
   let e <-eqBool x.1.1 x.1.2
   if (!e)=true then do
    let c <-oneLt' (b&&x.2==0) x.1.1 x.1.2
    pure (ForInStep.done (some c,()))
   else pure (ForInStep.yield (none,()))) Q E s
 | _,_,_,_,k,.nil,_,h=>by
  simp only[List.zip_nil_left,List.zipIdx_nil,List.forIn_nil];exact cc h
 | _,_,_,_,k,.cons a t i,.nil,h=>by
  simp only[List.zip_nil_right,List.zipIdx_nil,List.forIn_nil];exact cc h
 | _,_,_,_,k,.cons a t i,.cons c u j,h=>by
  simp only[List.zip_cons_cons,List.zipIdx_cons,List.forIn_cons];refine bW (bW (wpAny_eqBool_int ?_));simp only[zEk] at h;by_cases e:a=c
  ·subst e
   rw[if_pos rfl] at h;rw[if_neg 13#0];refine cc ?_;exact zLV _ _ _ _ (k+1) i j h
  ·rw[if_neg e] at h
   rw[if_pos (by simpa using e)];exact bW (zKY (cc (cc h)))
theorem zMn(hx:TI s.heap x ns)(hy:TI s.heap y ms)(h:Q (ltI ns ms) s):wpAny 3#0 A (keyLt' (tuples' b) x y) Q E s:=by
 obtain⟨a,o,its,n,rfl,e,u0,d,i⟩:=hx.ex;obtain⟨a',o',its',n',rfl,e',u0,d',i'⟩:=hy.ex;rw[zH6];refine bW (listItems_at e d (bW (listItems_at e' d' (bW ?_))));refine zLV (Q:=_) its.toList its'.toList ns ms 0 i i' ?_;rw[zJE] at h;cases q:zEk ns ms with
 | some c =>
  rw[q] at h;exact cc h
 | none =>
  rw[q] at h;refine cc ?_;have l1:=i.length;have l2:=i'.length;simp only[cC] at l1 l2;rw[l1,l2];exact h
theorem zMo(hv:TI s.heap v ns)(h:∀ i t,Q (some (.int i t)) s):wpAny 3#0 A (firstOfTuple' v) Q E s:=by
 obtain⟨a,o,its,n,rfl,e,c,d,i⟩:=hv.ex;show wpAny _ _ (do
  if (<-typeOf (.ref a)) != .type "tuple" then return none
  return (<-Builtin.List.listItems (.ref a))[0]?) _ _ _
 refine bW (f7 (T:="tuple") ⟨o,e,c⟩ ?_);rw[if_neg 10#0];refine bW (listItems_at e d (cc ?_));obtain⟨l⟩:=its;cases i with
 | nil=>exact absurd rfl hv.ne
 | cons k t r=>exact h k t
theorem zF2:∀(vs:40#0),(∀ v∈vs,∃ ns,TI s.heap v ns)->(∀ fs:List (Option Value),fs.length=vs.length->(∀ f∈fs,∃ i t,f=some (.int i t))->Q fs s)->wpAny 3#0 A (vs.mapM firstOfTuple') Q E s
 | [],_,h=>by
  simp only[List.mapM_nil];exact cc (h [] rfl 13#0)
 | v::r,hv,h=>by
  simp only[List.mapM_cons];obtain⟨ns,t⟩:=hv v 13#0;refine bW (zMo t fun i t'=>bW (zF2 r (fun u hu=>hv u (by simp[hu])) fun fs hl hf=>cc (h _ (by simp[hl]) fun f hm=>?_)));rcases cY.mp hm with e | e
  ·exact⟨i,t',e⟩
  ·exact hf f e
theorem zCA:∀ {vs:40#0},(∀ v∈vs,∃ i t,v=.int i t)->vs.mapM typeOf=pure (vs.map fun u0=>Value.type "int")
 | [],_=>by simp
 | v::r,h=>by
  obtain⟨i,t,rfl⟩:=h v 13#0;rw[List.mapM_cons,zCA fun u hu=>h u (by simp[hu])];show(pure (Value.type "int")>>=fun b=>pure _>>=fun bs=>pure (b::bs))=_;simp
theorem zA9:∀(fs:List (Option Value)),(∀ f∈fs,∃ i t,f=some (.int i t))->(∀ v∈fs.filterMap id,∃ i t,v=Value.int i t)/\(fs.filterMap id).length=fs.length
 | [],_=>⟨by simp,rfl⟩
 | f::r,h=>by
  obtain⟨i,t,rfl⟩:=h f 13#0;obtain⟨h1,h2⟩:=zA9 r fun g hg=>h g (by simp[hg]);simp only[List.filterMap_cons,id];exact⟨fun v hv=>by
   rcases cY.mp hv with e | e
   ·exact⟨i,t,e⟩
   ·exact h1 v e,by simp[h2]⟩
theorem zJF{vs:40#0}{Q:SortKind->Shared->Prop}(h2:1<=vs.length)(hv:∀ v∈vs,∃ ns,TI s.heap v ns)(h:Q (tuples' true) s):wpAny 3#0 A (keyKind' vs.toArray) Q E s:=by
 rw[keyKind'_eq];rw[List.mapM_toArray];refine bW ?_;rw[map_eq_pure_bind];refine bW (zF2 vs hv fun fs hl hf=>cc ?_);rw[if_pos (by
  simp only[List.all_toArray,em];intro f hm;obtain⟨i,t,rfl⟩:=hf f hm;rfl)]
 refine bW (fF (bW ?_));obtain⟨q1,q2⟩:=zA9 fs hf;rw[oneTypeOnly'_eq];have e0:fs.toArray.filterMap id=(fs.filterMap id).toArray:=by simp
 rw[e0,List.mapM_toArray,zCA q1];simp only[map_pure,pure_bind];cases q:fs.filterMap id with
 | nil=>rw[q] at q2;simp at q2;omega
 | cons u r =>
  have hall:((cE (fun u0=>Value.type "int") (u::r)).toArray.all fun x=>x==Value.type "int")=true:=by
   simp only[List.all_toArray,List.all_map,em];intro u0 u0;rfl
  have h0:(cE (fun u0=>Value.type "int") (u::r)).toArray[0]?=some (Value.type "int"):=by simp
  rw[h0];simp only[hall,if_true];refine cc (cc ?_);exact h
theorem zBV(ho:s.heap.get? a=some (seqObj "list" vs.toArray n))(hv:∀ v∈vs,(∃ ns,TI s.heap v ns)/\v≠.ref a)(h64:vs.length<10000)
  (h:∀ out:Array Value,out.toList.Perm vs->(∀ i j,i<=j->j<out.size->ltI ((tAt s.heap (out.getD j .none)).getD []) ((tAt s.heap (out.getD i .none)).getD [])=false)->P (.done (.ret .none)) { s with heap:=sortedHeap s.heap a vs out }) :
  wpAny 3#0 A (Builtin.«list.sort» ⟨[.ref a],[]⟩) P E s:=by
 rw[list_sort_plain];have ha:a<s.heap.objs.size:=cy ho;refine bW (listItems_at ho rfl (bW (listUpdate_at ho rfl ?_)));obtain⟨e1,ho1⟩:∃ e1,(s.heap.update a (Obj.mapSeq fun u0=>#[])).get? a=some (seqObj "list" #[] e1):=⟨_,get?_update_seq ho (fun u0=>#[])⟩
 refine bW (seqEpoch_at ho1 rfl (bW (wpAny_newTuple (bW (wpAny_newList (df ?_))))));have up:∀ c o,c≠a->s.heap.get? c=some o->(((s.heap.update a 113#0).push (seqObj "tuple" vs.toArray 0)).push 50#0).get? c=some o:=fun c o hc e=>c9 _ (c9 _ (by rw[eF _ _ _ _ hc];exact e));have ho6:(((s.heap.update a 113#0).push (seqObj "tuple" vs.toArray 0)).push 50#0).get? a=some (seqObj "list" #[] e1):=c9 _ (c9 _ ho1);show wpAny 3#0 A _ P E { s with heap:=(((s.heap.update a 113#0).push (seqObj "tuple" vs.toArray 0)).push 50#0) };generalize hg:((s.heap.update a 113#0).push (seqObj "tuple" vs.toArray 0)).push 50#0=g at up ho6 ⊢;have hv':∀ v∈vs,∃ ns,TI g v ns/\tAt s.heap v=some ns:=fun v hm=>by
  obtain⟨⟨ns,t⟩,na⟩:=hv v hm;have t':=t;obtain⟨⟨b,o,its,k,rfl,q1,q2,q3,q4⟩,ne⟩:=t;exact⟨ns,⟨⟨b,o,its,k,rfl,up b o (fun z=>na (by rw[z])) q1,q2,q3,q4⟩,ne⟩,t'.items⟩
 dsimp only;have fin:∀ z:SortSt,(arrOf z).Perm (pairsOf vs)->SortedToK (zA8 g) 41#0 (pairsOf vs).size->P (.done (.ret .none)) { s with heap:=g.update a (Obj.mapSeq fun u0=>(arrOf z).map (·.2)) }:=by
  intro z pm st;have pl:(arrOf z).toList.Perm (vs.zip vs):=by rw[<-pairsOf_toList];exact Array.perm_iff_toList_perm.mp pm
  have mem:∀ p∈(arrOf z).toList,p.1=p.2/\p.1∈vs:=fun p hp=>mem_zip_self (pl.mem_iff.mp hp);have:=h ((arrOf z).map (·.2)) (by
   have q:=pl.map (·.2);rw[Array.toList_map];refine q.trans (.of_eq ?_);rw[List.map_snd_zip (cr _)]) fun i j ij hj=>by
    have hj':j<(arrOf z).size:=by simpa using hj
    have hi':i<(arrOf z).size:=by omega
    have q:=st i j ij (by rw[<-pm.size_eq];exact hj');have gk:∀ k,(hk:k<(arrOf z).size)->KK (zA8 g) 41#0 k=(tAt s.heap (((arrOf z).map (·.2)).getD k .none)).getD []:=fun k hk=>by
     obtain⟨m1,m2⟩:=mem _ (show(arrOf z)[k]∈(arrOf z).toList by simp);obtain⟨ns,t1,t2⟩:=hv' _ m2;have e1:KK (zA8 g) 41#0 k=ns:=by
      unfold KK;rw[getElem?_pos _ k hk];show(tAt g (arrOf z)[k].1).getD []=ns;rw[t1.items];rfl
     have e2:((arrOf z).map (·.2)).getD k .none=(arrOf z)[k].1:=by
      rw[m1];simp[fw,hk]
     rw[e1,e2,t2];rfl
    rw[<-gk i hi',<-gk j hj'];exact q
  unfold sortedHeap at this;rw[hg] at this;exact this
 have hsz:vs.toArray.size=vs.length:=by simp
 by_cases h2:vs.toArray.size<2
 ·rw[if_pos h2,if_pos h2]
  refine bW (cc ?_);rw[StateT.run_pure];refine bW (cc (bW (seqEpoch_at ho6 rfl (bW (listUpdate_at ho6 rfl ?_ (hsz2:=by rw[Array.size_map];show(pairsOf vs).size<=_;rw[pairsOf_size,sizeLine_eq];omega))))));simp only[bne_self_eq_false,bX,if_false];refine cc (fin (SortSt.mk' general' (vs.toArray.zip vs.toArray) #[] 7 none) (Array.Perm.refl _) fun i j hij hj=>?_);obtain rfl:i=j:=by rw[pairsOf_size] at hj;omega
  exact KeyOrd.kle_refl _
 ·rw[if_neg h2,if_neg h2]
  refine bW (zJF (s:={ s with heap:=g }) 1#0 (fun v hm=>by obtain⟨ns,t,u0⟩:=hv' v hm;exact⟨ns,t⟩) ?_);have L:∀(z:SortSt) (x y:Keyed) (Q:Option Bool->SortSt->Prop),kindOf z=tuples' true->x∈pairsOf vs->y∈pairsOf vs->Q (some ((zA8 g).blt (HM.ky (zA8 g) x) (HM.ky (zA8 g) y))) z->wpS 3#0 A E { s with heap:=g } (lt' x y) Q z:=by
   intro z x y Q b hi hj q;have key:∀ p∈pairsOf vs,∃ ns,TI g p.1 ns/\HM.ky (zA8 g) p=ns:=fun p hk=>by
    have hm:p∈vs.zip vs:=by rw[<-pairsOf_toList];simpa using hk
    obtain⟨m1,m2⟩:=mem_zip_self hm;obtain⟨ns,t,u0⟩:=hv' _ m2;refine⟨ns,t,?_⟩;unfold HM.ky;show(tAt g p.1).getD []=ns;rw[t.items];rfl
   obtain⟨ns,x2,x3⟩:=key x hi;obtain⟨ms,y2,y3⟩:=key y hj;rw[x3,y3] at q;rw[lt'_eq];refine cH (wpS_get ?_);rw[b];exact cH (wpS_lift (wpAny_attempt (zMn (s:={ s with heap:=g }) x2 y2 ⟨rfl,cM q⟩)))
  refine bW (wpAny_mono (HM.zOh (a0:=pairsOf vs) L (z:=SortSt.mk' (tuples' true) (vs.toArray.zip vs.toArray) #[] 7 none) (Q:=fun u0 z'=>(arrOf z').Perm (pairsOf vs)/\failedOf z'=none/\SortedToK (zA8 g) 82#0 (pairsOf vs).size)
   (fun p hp=>hp) (Array.Perm.refl _) rfl rfl rfl (by rw[pairsOf_size];omega) fun z' a1 a2 a3=>⟨a1,a2,a3⟩) ?_ fun u0 u0 e=>e)
  rintro⟨⟨⟩,z'⟩ s' ⟨e',pm,hf,st⟩;subst e';dsimp only;refine bW (seqEpoch_at ho6 rfl (bW (listUpdate_at ho6 rfl ?_ (hsz2:=by refine dF (Nat.le_of_eq ((Array.size_map ..).trans (pm.size_eq.trans (pairsOf_size _)))) ?_;rw[sizeLine_eq];omega))));rw[hf];simp only[bne_self_eq_false,bX,if_false];exact cc (fin z' pm st)
theorem zF3(hv:∀ u∈vs,∃ ns,TI s.heap u ns)(h64:vs.length<1000)
  (hc:∀(Q':List Value->Shared->Prop),Q' vs { s with heap:=(s.heap.push 50#0).update s.heap.objs.size 55#0 }->wpAny 3#0 A.in1 (collect v) Q' E s)
  (h:∀ out:Array Value,out.toList.Perm vs->(out.toList.map fun u=>(tAt s.heap u).getD []).Pairwise 38#0->Q (.ref (s.heap.objs.size+1)) { s with heap:=sortedAll s.heap vs out }) :
  wpAny 3#0 A (call (.builtin "sorted") [v]) Q E s:=by
 sleep 32;refine bW (m:=checkCount "sorted" 1 1 _) (cc (bW (hc _ (bW (wpAny_newList ?_)))));have hsz:((s.heap.push 50#0).update s.heap.objs.size 55#0).objs.size=s.heap.objs.size+1:=by rw[Heap.size_update,size_push']
 have hoL:(((s.heap.push 50#0).update s.heap.objs.size 55#0).push 20#0).get? (s.heap.objs.size+1)=some 20#0:=by rw[<-hsz];exact cw _ rfl
 have old:∀ c o,s.heap.get? c=some o->(((s.heap.push 50#0).update s.heap.objs.size 55#0).push 20#0).get? c=some o:=fun c o e=>c9 _ (by
  rw[eF _ _ _ _ (cR (cy e))];exact c9 _ e)
 show wpAny _ _ _ _ _ { s with heap:=((s.heap.push 50#0).update s.heap.objs.size 55#0).push 20#0 };rw[hsz];have eqi:∀ u∈vs,tAt 19#0 u=tAt s.heap u/\(∃ ns,TI 19#0 u ns)/\u≠.ref (s.heap.objs.size+1):=fun u hu=>by
  obtain⟨ns,t⟩:=hv u hu;have t0:=t;obtain⟨⟨a,o,its,n,rfl,e1,e2,e3,e4⟩,ne⟩:=t;have t':TI 19#0 (.ref a) ns:=⟨⟨a,o,its,n,rfl,old a o e1,e2,e3,e4⟩,ne⟩
  refine⟨by rw[t'.items,t0.items],⟨ns,t'⟩,fun z=>?_⟩;cases z;exact absurd (cy e1) (Nat.not_lt.mpr (fB _))
 refine bW (df (dW slot_list_sort ⟨_,hoL,rfl⟩ entry_list_sort (zBV (s:={ s with heap:=((s.heap.push 50#0).update s.heap.objs.size 55#0).push 20#0 }) hoL (fun u hu=>(eqi u hu).2) 1#0 fun out pm so=>⟨_,rfl,cc ⟨_,rfl,h out pm ?_⟩⟩) (args_list_sort _)));rw[dR];intro i j hi hj ij;have hj':j<out.size:=by simpa using hj
 have hi':i<out.size:=by omega
 have q:=so i j (eY ij) hj';have g:∀ k,(hk:k<out.size)->tAt 19#0 (out.getD k .none)=tAt s.heap out[k]:=fun k hk=>by
  have e:out.getD k .none=out[k]:=by simp[fw,hk]
  rw[e];exact(eqi _ (pm.mem_iff.mp 13#0)).1
 rw[g i hi',g j hj'] at q;simpa using q
end
end HS
namespace L3
open L2 HS
section
variable {X:Cx} {e:Expr} {pos p:Pos} {tl:TL2}
noncomputable def tI(ns:129#0):D:=.tup (ns.map D.int)
theorem zFI{pins:26#0}{σ:L2.St}{H:Hp}{s:Shared}(I:16#0):∀ {nss:30#0} {ys:List V} {us:40#0},Dens X.K H (nss.map tI) ys->zY ys us->(∀ ns∈nss,ns≠[]) ->
  us.map (fun u=>(tAt s.heap u).getD [])=nss/\∀ u∈us,∃ a ns,u=.ref a/\TI s.heap u ns/\zR X.K H (tI ns) (.ref a)
 | [],ys,us,d,r,_=>by
  simp only[List.map_nil] at d;unfold Dens at d;subst d;cases r;exact⟨rfl,by simp⟩
 | ns::nss,ys,us,d,r,hne=>by
  simp only[dq] at d;unfold Dens at d;obtain⟨x,xs,rfl,d1,d2⟩:=d;cases r with
  | cons r1 r2 =>
   rename_i u us';obtain⟨q1,q2⟩:=zFI I d2 r2 fun n hn=>hne n (by simp[hn]);have d0:=d1;unfold tI zR at d1;obtain⟨a,zs,rfl,hs,hd⟩:=d1;sleep 60;cases (show u=Value.ref a from r1);have t:TI s.heap (.ref a) ns:=⟨⟨a,o,its.toArray,n,rfl,h1,h2,h3,by simpa using intsAre_of rv⟩,hne ns 13#0⟩
   refine⟨by rw[dq,q1,t.items];rfl,fun v hv=>?_⟩;rcases cY.mp hv with e | e
   ·subst e;exact⟨a,ns,rfl,t,d0⟩
   ·exact q2 v e
theorem zHA{pins:26#0}{σ:L2.St}{H:Hp}{s:Shared}(I:16#0):∀ {us:40#0},(∀ u∈us,∃ a ns,u=.ref a/\TI s.heap u ns/\zR X.K H (tI ns) (.ref a)) ->
  ∃ ys:List V,zY ys us/\Dens X.K H ((us.map fun u=>(tAt s.heap u).getD []).map tI) ys
 | [],_=>⟨[],.nil,.nil⟩
 | u::us,h=>by
  obtain⟨ys,v,d⟩:=zHA I (us:=us) fun w hw=>h w (cJ _ hw);obtain⟨a,ns,rfl,t,d1⟩:=h u 13#0;refine⟨.ref a::ys,.cons rfl v,?_⟩;simp only[dq];rw[t.items];exact .cons d1 d
theorem zH7:wC X (.builtin "sorted") (fun xs H Q=>∃(p:Addr) (ys:List V) (nss:30#0),xs=[.ref p]/\(SqL X.K H p ys\/SqT X.K H p ys)/\Dens X.K H (nss.map tI) ys/\nss.length<1000/\(∀ ns∈nss,ns≠[]) /\
  ∀(l:Addr) (ys':List V) (nss':30#0),H l=none->nss'.Perm nss->Dens X.K H (nss'.map tI) ys'->nss'.Pairwise 38#0->Q (.ref l) (wY H l (.lst ys'))):=by
 sleep 26;obtain⟨p,ys,nss,rfl,hq,hd,hz,hne,q⟩:=h;obtain⟨u,rfl,rx⟩:=vals1 r;cases rx;have fin:∀(its:40#0) (out:102#0),zY ys its->out.toList.Perm its->(out.toList.map fun u=>(tAt s.heap u).getD []).Pairwise 38#0->EP X pins σ Q (.ref (s.heap.objs.size+1)) { s with heap:=sortedAll s.heap its out }:=by
  intro its out rv pm so;obtain⟨q1,q2⟩:=zFI I hd rv hne;obtain⟨ys',rv',d'⟩:=zHA I (us:=out.toList) fun w hw=>q2 w (pm.mem_iff.mp hw);obtain⟨e,he⟩:=sortedAll_at s.heap its out;have hn:H (s.heap.objs.size+1)=none:=I.hok.fresh (fB _);refine⟨.ref (s.heap.objs.size+1),_,I.laid (t':=s.toks) (o:=.lst ys') (fun b u q=>sortedAll_old q) (fB _) ?_,rfl,q _ ys' _ hn (by rw[<-q1];exact pm.map _) d' so⟩;have hp:=pm.length_eq;have l1:=rv'.length;have l2:=rv.length;have l3:=hd.length;rw[cg] at l3;refine⟨?_,out.toList,e,rv',?_⟩
  ·rw[sizeLine_eq];omega
  ·rw[he]<;>rfl
 rcases hq with hq | hq
 ·obtain⟨its,rv,pl,u0⟩:=I.list hq
  obtain⟨q1,q2⟩:=zFI I hd rv hne;have l2:=rv.length;have l3:=hd.length;rw[cg] at l3;exact zF3 (vs:=its) (fun w hw=>by obtain⟨u0,ns,u0,t,u0⟩:=q2 w hw;exact⟨ns,t⟩) 1#0 (fun Q' hQ'=>collect_list pl.isList hQ' 101#0) fun out pm so=>fin its out rv pm so
 ·obtain⟨its,rv,pl,u0⟩:=I.tuple hq
  obtain⟨q1,q2⟩:=zFI I hd rv hne;have l2:=rv.length;have l3:=hd.length;rw[cg] at l3;exact zF3 (vs:=its) (fun w hw=>by obtain⟨u0,ns,u0,t,u0⟩:=q2 w hw;exact⟨ns,t⟩) 1#0 (fun Q' hQ'=>HT.zIx pl hQ') fun out pm so=>fin its out rv pm so
noncomputable def zEU(t:TL2):TL2:=fun σ G R=>t σ G fun ds G1=>∃ nss:List (List Int),ds=nss.map tI/\nss.length<1000/\(∀ ns∈nss,ns≠[])/\∀ nss':List (List Int),nss'.Perm nss->nss'.Pairwise 38#0->R (nss'.map tI) G1
theorem zKZ(hg:Gl X "sorted")(hm:X.mg "sorted"=none)(ha:F2 X e tl)(he:4#0)(hpl:8#0) :
  F2 X (.Call (.Name "sorted" p) [e] [] pos) (zEU tl):=by
 refine PE.mono (zDU zH7 hg hm boot_sorted (wZ ha zBH he) 10#0 10#0 he hpl) ?_;sleep 28;refine⟨σ,G,_,rl,q,fun ds G1 q1 l xs H1 g1 r1 n e1 d1=>?_⟩;obtain⟨nss,rfl,hl,hne,q1⟩:=q1;refine⟨l,xs,nss,rfl,.inl (.of e1),d1,hl,hne,fun l' ys' nss' n' h1 h2 h3=>?_⟩;exact k _ G1 (q1 nss' h1 h3) l' _ _ (g1.trans (.fresh n')) (r1.fresh n') (r1.free n') zp (h2.grow (.fresh n'))
end
end L3
namespace HT
section
variable {prog:Program} {w:World} {A:Around} {E:Value->Shared->Prop} {s:Shared}
end
end HT
namespace L3
open L2
section
variable {X:Cx} {a b c e o:Expr} {es:List Expr} {pos p:Pos} {ta tb te:zl}
end
section
variable {X:Cx} {a b c e o we:Expr} {es:List Expr} {pos p:Pos} {ta tb te tw:zl}
end
end L3
namespace HI
noncomputable def Ris(xs:Array Nat):Prop:=xs.toList.Pairwise (·<·)
theorem Ris.lt(h:Ris xs)(ik:i<k)(hk:k<xs.size):xs[i]'(Nat.lt_trans ik hk)<xs[k]:=by
 have:=dR.mp h i k (by simpa using Nat.lt_trans ik hk) (by simpa using hk) ik;sleep 33
theorem zOi(hr:Ris xs):∀(fuel lo hi:Nat),hi<=xs.size->lo<=hi->hi-lo<=fuel->(∀ i,(q:i<xs.size)->i<lo->xs[i]<j)->(∀ i,(q:i<xs.size)->hi<=i->j<=xs[i]) ->
  (∀ i,(q:i<xs.size)->i<cI.go xs j fuel lo hi->xs[i]<j)/\∀ i,(q:i<xs.size)->cI.go xs j fuel lo hi<=i->j<=xs[i]
 | 0,lo,hi,h1,h2,h3,a,b=>by
  unfold cI.go;obtain rfl:lo=hi:=by omega
  exact⟨fun i q e=>a i q e,fun i q e=>b i q e⟩
 | fuel+1,lo,hi,h1,h2,h3,a,b=>by
  unfold cI.go;by_cases c:lo<hi
  ·rw[if_pos c]
   dsimp only;have hm:(lo+hi) / 2<xs.size:=by omega
   have eg:xs.getD ((lo+hi) / 2) j=xs[(lo+hi) / 2]:=by simp[fw,hm]
   rw[eg];by_cases d:xs[(lo+hi) / 2]<j
   ·rw[if_pos d]
    refine zOi hr fuel ((lo+hi) / 2+1) hi h1 1#0 1#0 (fun i q e=>?_) b;rcases e7 i ((lo+hi) / 2) with z | z
    ·exact Nat.lt_trans (hr.lt z hm) d
    ·obtain rfl:i=(lo+hi) / 2:=by omega
     exact d
   ·rw[if_neg d]
    refine zOi hr fuel lo ((lo+hi) / 2) 1#0 1#0 1#0 a (fun i q e=>?_);rcases e7 ((lo+hi) / 2) i with z | z
    ·exact dF (Nat.not_lt.mp d) (eY (hr.lt z q))
    ·obtain rfl:i=(lo+hi) / 2:=by omega
     exact Nat.not_lt.mp d
  ·rw[if_neg c]
   obtain rfl:lo=hi:=by omega
   exact⟨fun i q e=>a i q e,fun i q e=>b i q e⟩
theorem zF4(hr:Ris xs):(∀ i,(q:i<xs.size)->i<cI xs j->xs[i]<j)/\∀ i,(q:i<xs.size)->cI xs j<=i->j<=xs[i]:=by
 unfold cI;exact zOi hr xs.size 0 xs.size (cr _) (dG _) 1#0 (fun i q e=>absurd e (fH _)) (fun i q e=>absurd q (Nat.not_lt.mpr e))
theorem zLW(hr:Ris xs)(hn:xs[cI xs j]?≠some j):Ris (dC xs (cI xs j) j):=by
 obtain⟨b1,b2⟩:=zF4 (j:=j) hr;generalize cI xs j=p at *;unfold Ris;rw[SetTable.toList_insertAt];have hd:∀ a∈xs.toList.drop p,j<a:=fun a ha=>by
  obtain⟨i,hi,rfl⟩:=fE.mp ha;rw[dN,cC] at hi;have hpi:p+i<xs.size:=by omega
  rw[List.getElem_drop,Array.getElem_toList];have h1:=b2 (p+i) hpi 1#0;rcases Nat.eq_or_lt_of_le h1 with e | e
  ·exfalso
   cases i with
   | zero =>
    apply hn;rw[getElem?_pos xs p 1#0];congr 1;simpa using e.symm
   | succ i =>
    have hp:p<xs.size:=by omega
    have:=b2 p hp (cr _);have l:=hr.lt (i:=p) (k:=p+(i+1)) 1#0 hpi;omega
  ·exact e
 have ht:∀ a∈xs.toList.take p,a<j:=fun a ha=>by
  obtain⟨i,hi,rfl⟩:=fE.mp ha;rw[cS,cC] at hi;rw[List.getElem_take,Array.getElem_toList];exact b1 i 1#0 1#0
 refine List.pairwise_append.mpr ⟨hr.sublist (List.take_sublist _ _),List.pairwise_cons.mpr ⟨hd,hr.sublist (List.drop_sublist _ _)⟩,fun a ha b hb=>?_⟩;rcases cY.mp hb with e | e
 ·rw[e];exact ht a ha
 ·exact Nat.lt_trans (ht a ha) (hd b e)
theorem zOj{t:SetTable}{j:Nat}(h:t.slot j=.empty\/t.slot j=.dummy):t.place[cI t.place j]?≠some j:=fun e=>by
 unfold SetTable.slot at h;simp only[e,beq_self_eq_true,if_true] at h;rcases h with h | h<;>cases h
theorem zBJ{β:Type}(f:Nat->Option β):∀ l:List Nat,((l.filterMap fun j=>(f j).map (j,·)).map (·.1)).Sublist l
 | []=>.slnil
 | a::r=>by
  rw[List.filterMap_cons];cases f a with
  | none=>exact .cons _ (zBJ f r)
  | some b=>exact .cons₂ _ (zBJ f r)
section
variable {prog:Program} {w:World} {A:Around} {E:Value->Shared->Prop} {s:Shared}
end
section
variable {prog:Program} {w:World} {A:Around} {R:Result->Shared->Prop} {I:Addr} {fp wr:List Addr} {G:Array GenState->Array GenState->Prop} {n:Nat} {P:Nat->Value->Prop} {St:Nat->Shared->Prop}
end
noncomputable abbrev ym(w:World):Bool:=!(w.params.followText "set-order")
noncomputable abbrev yX(w:World):Obj:={ cls:=.type "set",dict:=none,data:=.set #[] 0 (.fresh 0 0 (ym w)) }
section
variable {prog:Program} {w:World} {A:Around} {E:Value->Shared->Prop} {s:Shared}
theorem zAv(v:Value)(h:Q1 17#0 { s with heap:=s.heap.push (yX w) }) :
  codeAny 3#0 A (.call (.builtin "set.__new__") ⟨[.type "set",v],[]⟩) (wants Q1 E) s:=by
 refine codeAny_of_tree ?_;show wpAny _ A.in1 (do checkBuiltinCall "set.__new__" ⟨[.type "set",v],[]⟩;again (.builtin "set.__new__" ⟨[.type "set",v],[]⟩)) _ _ s;refine bW (eT (F.newCall_set_1 v) (cc ⟨plainId_quiet F.plain_set_new _,da F.entry_set_new ?_⟩));rw[Around.under_plainId F.plain_set_new _];unfold Builtin.«set.__new__» Builtin.Frozenset.newClass;have hsub:=sub_set_self;obtain⟨hp,g,d,tk,os⟩:=s;dsimp only
 wp_walk
 refine wpAny_askSetting (cc ?_);dsimp only;simp only[newObj];exact bW (wpAny_alloc (cc (cc h)))
end
theorem wn:Slot "set_iterator" "__next__" "set_iterator.__next__" :=
 .of (owner:="set_iterator") (n:="__next__") 58#0 5#0 5#0 5#0 (by first | exact .inl 5#0 | exact .inr 5#0) 67#0
theorem zHB:entryFor table "set_iterator.__next__"=some Builtin.«set_iterator.__next__»:=entryFor_of_tree (by kernel_rfl)
theorem zJG(v:Value):argsOk "set_iterator.__next__" ⟨[v],[]⟩:=by unfold argsOk;kernel_rfl
theorem zDt:entryFor table "set.__iter__"=some Builtin.«frozenset.__iter__»:=entryFor_alias (id':="frozenset.__iter__") (by kernel_rfl) rfl 5#0 (by kernel_rfl)
theorem zLX{α:Type}:∀(l:List α) (i:Nat) (h:i<l.length),([l[i]]++l.eraseIdx i).Perm l
 | a::r,0,_=>.refl _
 | a::r,i+1,h=>by
  have hi:i<r.length:=by simpa using h
  have q:=zLX r i hi;show([r[i]]++(a::r.eraseIdx i)).Perm (a::r);exact(eX.swap a r[i] _).trans (q.cons a)
theorem zLY(f:Nat->Nat):∀(n k:Nat) (l:List α) (out:Array α),l.length=n->(pickOrder.go f n k l out).toList.Perm (out.toList++l)
 | 0,k,l,out,h=>by
  have:l=[]:=eI.mp h;subst this;unfold pickOrder.go;simp
 | n+1,k,l,out,h=>by
  unfold pickOrder.go;have hi:f k%l.length<l.length:=Nat.mod_lt _ 1#0;rw[dI hi];dsimp only;refine(zLY f n (k+1) _ _ (by rw[List.length_eraseIdx_of_lt hi];omega)).trans ?_;rw[db,cL];refine eX.append_left _ ?_;exact zLX l _ hi
theorem zAk(f:Nat->Nat)(xs:Array α):(pickOrder f xs).toList.Perm xs.toList:=by
 unfold pickOrder;simpa using zLY f xs.size 0 xs.toList #[] 13#0
section
variable {prog:Program} {w:World} {A:Around} {E:Value->Shared->Prop} {s:Shared}
theorem zAw(h:Q (w.params.followText "set-order") s):wpAny 3#0 A setsByText Q E s:=by
 unfold setsByText;exact bW (wpAny_askSetting (cc h))
noncomputable abbrev zAT(f:Value)(i:Int)(a:Addr)(n:Nat)(ep:Nat):Obj:={ cls:=.type "set_iterator",dict:=none,data:=.fields #[f,rawInt i,.ref a,rawInt n,rawInt ep],slots:=#[] }
structure Sx (h:Heap) (a:Addr) (es:Array (Int×Value)) (ep:Nat) (t:SetTable):Prop where
 ex:∃ o,h.get? a=some o/\o.ExactSet/\o.data=.set es ep t
theorem Sx.keep{h h':Heap}{a:Addr}{es:80#0}{ep:Nat}{t:SetTable}(x:Sx h a es ep t)(k:∀ o,h.get? a=some o->h'.get? a=some o):Sx h' a es ep t:=let ⟨o,e,r⟩:=x.ex;⟨o,k o e,r⟩
noncomputable def Tells(prog:Program)(w:World)(a:Addr)(es:80#0)(ep:Nat)(t:SetTable)(sl:Nat->Nat)(xs:40#0):Prop :=
 ∀(A:Around) (E:12#0) (s:Shared) (i:Nat) (Q:Option (Value×Nat)->Shared->Prop),i<=xs.length->Sx s.heap a es ep t->Q ((xs[i]?).map fun v=>(v,sl (i+1))) s->wpAny 3#0 A (setNext a (sl i) i ep) Q E s
theorem zBu(hf:t.fits es.size=true)(hb:w.params.followText "set-order"=true):Tells prog w a es ep t (fun u0=>0) ((pickOrder (w.params.setOrder a ep) es).toList.map (·.2)):=by
 intro A E s i Q hi hx h;obtain⟨o,ho,u0,hd⟩:=hx.ex;unfold setNext;refine bW (di ho hd hf ?_);dsimp only;refine bW (zAw ?_);rw[hb];simp only[↓reduceIte,bne_self_eq_false,bX];refine bW ?_;unfold setWalk;refine bW (di ho hd hf ?_);dsimp only;refine bW (zAw ?_);rw[hb];simp only[↓reduceIte];refine bW (wpAny_askSetting (cc (cc ?_)));rw[cZ,Option.map_map,eG] at h;exact h
theorem below_at(hr:Ris xs)(hi:i<=xs.size):(i<xs.size->cI xs (if i=0 then 0 else xs.getD (i-1) 0+1)=i)/\(i=xs.size->xs.size<=cI xs (if i=0 then 0 else xs.getD (i-1) 0+1)):=by
 generalize hj:(if i=0 then 0 else xs.getD (i-1) 0+1)=j;obtain⟨b1,b2⟩:=zF4 (j:=j) hr;generalize cI xs j=p at b1 b2;have lo:i<=p:=by
  rcases e7 p i with q | q
  ·exfalso
   have h1:=b2 p 1#0 (cr _);rw[if_neg 1#0] at hj;have h0:i-1<xs.size:=by omega
   have e:xs.getD (i-1) 0=xs[i-1]:=by simp[fw,h0]
   rw[e] at hj;rcases e7 p (i-1) with z | z
   ·have:=hr.lt z h0;omega
   ·have e2:p=i-1:=by omega
    subst e2;omega
  ·exact q
 refine⟨fun h=>?_,fun h=>by omega⟩;rcases e7 i p with q | q
 ·exfalso
  have h1:=b1 i h q;by_cases z:i=0
  ·rw[if_pos z] at hj;omega
  ·rw[if_neg z] at hj
   have h0:i-1<xs.size:=by omega
   have e:xs.getD (i-1) 0=xs[i-1]:=by simp[fw,h0]
   have:=hr.lt (i:=i-1) (k:=i) 1#0 h;omega
 ·omega
theorem zBA(hf:t.fits es.size=true)(hr:Ris t.place)(hb:w.params.followText "set-order"=false)(hl:t.led=true)(hp:(!t.plain&&decide (es.size>1))=false) :
  Tells prog w a es ep t (fun i=>if i=0 then 0 else t.place.getD (i-1) 0+1) (es.toList.map (·.2)):=by
 intro A E s i Q hi hx h;obtain⟨o,ho,u0,hd⟩:=hx.ex;have hs:t.place.size=es.size:=by
  simp only[SetTable.fits,eS,beq_iff_eq] at hf;exact hf.1
 unfold setNext;refine bW (di ho hd hf ?_);dsimp only;refine bW (zAw ?_);rw[hb];simp only[bX,↓reduceIte];refine eC (fun q=>absurd (show(!t.plain&&decide (es.size>1))=true from q) (by rw[hp];decide)) (fun u0=>?_);refine bW (eC (fun q=>absurd q (by rw[hl];simp)) (fun u0=>cc (cc ?_)));rw[cg,cC] at hi;obtain⟨b1,b2⟩:=below_at hr (i:=i) 1#0;rw[cZ,Option.map_map,eG] at h;rcases e7 i es.size with q | q
 ·rw[b1 1#0,getElem?_pos es i q,getElem?_pos t.place i 1#0]
  rw[getElem?_pos es i q] at h;have e:t.place.getD (i+1-1) 0=t.place[i]'(by omega):=by simp[fw,hs,q]
  have h':Q (some (es[i].2,if i+1=0 then 0 else t.place.getD (i+1-1) 0+1)) s:=h;rw[if_neg 1#0,e] at h';exact h'
 ·have hn:es[cI t.place (if i=0 then 0 else t.place.getD (i-1) 0+1)]?=none:=by
   rw[Array.getElem?_eq_none_iff];have:=b2 1#0;omega
  have hn2:es[i]?=none:=by rw[Array.getElem?_eq_none_iff];exact q
  rw[hn];rw[hn2] at h;exact h
theorem zDu(T:Tells prog w a es ep t sl xs)(hf:t.fits es.size=true)(hx:xs.length=es.size)(hi:i<es.size)(hit:s.heap.get? it=some (zAT (rawInt (sl i)) i a es.size ep))(hS:Sx s.heap a es ep t)(hne:a≠it)
  (hQ:∀ h' v,xs[i]?=some v->h'.get? it=some (zAT (rawInt (sl (i+1))) ((i+1:Nat):Int) a es.size ep)->(∀ b o,b≠it->s.heap.get? b=some o->h'.get? b=some o)->Q (some v) { s with heap:=h' }):wpAny 3#0 A (pyNext (.ref it)) Q E s:=by
 have hT:s.TypeIs (.ref it) "set_iterator":=⟨_,hit,rfl⟩
 obtain⟨o,ho,u0,hd⟩:=hS.ex;unfold pyNext;sleep 18;simp only[bne_self_eq_false,bX,↓reduceIte];simp only[Int.toNat_natCast];refine bW (T _ _ _ i _ 1#0 hS ?_);rw[dI (show i<xs.length by omega)];refine bW (wpAny_setField_rec hit 13#0 fun h1 e1 s1=>bW (wpAny_setField_rec e1 13#0 fun h2 e2 s2=>cc ⟨_,rfl,cc (hQ h2 xs[i] (dI _) ?_ fun b o hb e=>s2.extBut _ _ hb (s1.extBut _ _ hb e))⟩));exact e2
theorem zQw{B:Around}{z:Shared}{Q:Fin->Shared->Prop}{E':12#0}(hh:B.handled=none)(h:∀ h' e,(∀ b o,z.heap.get? b=some o->h'.get? b=some o)->(∃ o,h'.get? e=some o/\o.cls=.type "StopIteration")->E' (.ref e) { z with heap:=h' }) :
  wpAny 3#0 B (do raiseNew (<-newExc (.type "StopIteration") [])) Q E' z:=by
 refine bW ?_;simp only[newExc,newTuple];refine bW (d8 (bW (m:=firstArgMember _ _) (eT (a:=Value.none) (by first | rfl | (simp only[firstArgMember];rfl)) (d8 ?_ (by size_fits)))) (by size_fits));simp only[raiseNew];refine bW (wpAny_handled ?_);rw[hh];exact bW (cc (wpAny_throw (h _ _ (fun b o e=>c9 _ (c9 _ e)) ⟨_,cw _ rfl,rfl⟩)))
theorem zFJ(hh:92#0)(T:Tells prog w a es ep t sl xs)(hf:t.fits es.size=true)(hx:xs.length=es.size)(hit:s.heap.get? it=some (zAT (rawInt (sl es.size)) es.size a es.size ep))(hS:Sx s.heap a es ep t)
  (hQ:∀ h',(∀ b o,b≠it->s.heap.get? b=some o->h'.get? b=some o)->Q none { s with heap:=h' }):wpAny 3#0 A (pyNext (.ref it)) Q E s:=by
 have hT:s.TypeIs (.ref it) "set_iterator":=⟨_,hit,rfl⟩
 obtain⟨o,ho,u0,hd⟩:=hS.ex;unfold pyNext;sleep 18;simp only[bne_self_eq_false,bX,↓reduceIte];simp only[Int.toNat_natCast];refine bW (T _ _ _ es.size _ 1#0 hS ?_);rw[List.getElem?_eq_none (show xs.length<=es.size by omega)];refine bW (wpAny_setField_rec hit 13#0 fun h1 e1 s1=>?_);refine zQw (by simpa using hh) fun h' e kp he=>?_;obtain⟨oe,q1,q2⟩:=he;refine bW (fQ (T:="StopIteration") (b:=true) ⟨oe,q1,q2⟩ isSubtype_stop (cc (hQ _ fun b o hb e=>kp _ _ (s1.extBut _ _ hb e))))
end
theorem zJH:Slot "set_iterator" "__iter__" "set_iterator.__iter__" :=
 .of (owner:="set_iterator") (n:="__iter__") 58#0 5#0 5#0 5#0 (by first | exact .inl 5#0 | exact .inr 5#0) 67#0
theorem zMp:entryFor table "set_iterator.__iter__"=some Builtin.«dict_keyiterator.__iter__» :=
 entryFor_alias (id':="dict_keyiterator.__iter__") (by kernel_rfl) (by first | rfl | decide +kernel | (unfold String.splitOn;simp +decide [String.splitOnAux])) 5#0 (by kernel_rfl)
theorem zOk(v:Value):argsOk "set_iterator.__iter__" ⟨[v],[]⟩:=by unfold argsOk;kernel_rfl
section
variable {prog:Program} {w:World} {A:Around} {E:Value->Shared->Prop} {s:Shared}
theorem zDv(h:s.heap.get? it=some (zAT f i a n ep))(q:Q (.ref it) s):wpAny 3#0 A (pyIter (.ref it)) Q E s:=by
 have hT:s.TypeIs (.ref it) "set_iterator":=⟨_,h,rfl⟩
 refine wpAny_pyIter_slot hT zJH (dW zJH hT zMp ?_ (zOk _));show wpAny _ _ (ret (.ref it)) _ _ s;exact cc ⟨_,rfl,"set_iterator",_,hT,wn.lookup,q⟩
theorem zBW(ho:s.heap.get? a=some o)(hc:o.cls=.type "set")(h:Q false s):wpAny 3#0 A (Builtin.List.listLengthHint (.ref a)) Q E s:=by
 unfold Builtin.List.listLengthHint;refine bW (wpAny_specialOf ⟨o,ho,hc⟩ F.slot_set_len.lookup ?_);generalize hid:("set.__len__":String)=id0
 wp_delta
 rw[show splitId id0=some ("set","__len__") from by subst hid;decide +kernel];subst hid;refine bW (fQ (T:="set") (b:=true) ⟨o,ho,hc⟩ 67#0 ?_);refine eC (fun hab=>absurd hab 10#0) (fun u0=>?_);refine eC (fun u0=>?_) (fun hab=>absurd 5#0 hab);exact bW (f7 (T:="set") ⟨o,ho,hc⟩ (cc h))
end
end HI
namespace L2
open HI
variable {X:Cx} {e:Expr} {t:TA} {p p2 pos pos2:Pos}
end L2
namespace L3
open L2
section
variable {X:Cx} {e:Expr} {p p2 pos pos2:Pos}
end
end L3
namespace HT3
open PySem
noncomputable abbrev Probe:=SetTable.Probe
noncomputable def adv(mask:Nat)(p:Probe):Probe :=
 if p.more>0 then { p with j:=p.j+1,more:=p.more-1 } else
 { p with j:=(eV mask p.i p.perturb).1,more:=dO mask (eV mask p.i p.perturb).1-(eV mask p.i p.perturb).1,i:=(eV mask p.i p.perturb).1,perturb:=(eV mask p.i p.perturb).2 }
theorem zF5(t:SetTable)(p:Probe):t.advance p=adv t.mask p:=by
 unfold SetTable.advance adv;split<;>rfl
theorem zMq(mask:Nat)(p:Probe)(d:Option Nat):adv mask { p with dummy:=d }={ adv mask p with dummy:=d }:=by
 unfold adv;split<;>rfl
noncomputable def yp(mask:Nat)(h:Int):Nat->Probe
 | 0=>{ j:=dH h%(mask+1),more:=dO mask (dH h%(mask+1))-dH h%(mask+1),i:=dH h%(mask+1),perturb:=dH h,dummy:=none }
 | n+1=>adv mask (yp mask h n)
noncomputable def lp(mask:Nat)(h:Int):Nat->Nat×Nat
 | 0=>(dH h%(mask+1),dH h)
 | n+1=>eV mask (lp mask h n).1 (lp mask h n).2
theorem zTG(mask i:Nat):dO mask i-i<=9:=by
 unfold dO;split<;>omega
section
variable {mask:Nat} {h:Int}
theorem zFK(e:yp mask h n=⟨i,r,i,q,none⟩):∀ m,m<=r->yp mask h (n+m)=⟨i+m,r-m,i,q,none⟩
 | 0,_=>by simpa using e
 | m+1,hm=>by
  have:=zFK e m 1#0;show adv mask (yp mask h (n+m))=_;rw[this];unfold adv;rw[if_pos (show r-m>0 by omega)];simp only[SetTable.Probe.mk.injEq,and_true];omega
theorem zOl:∀ k,∃ n,n<=10*k/\yp mask h n=⟨(lp mask h k).1,dO mask (lp mask h k).1-(lp mask h k).1,(lp mask h k).1,(lp mask h k).2,none⟩
 | 0=>⟨0,cr _,rfl⟩
 | k+1=>by
  obtain⟨n,hn,e⟩:=zOl k;have hr:=zTG mask (lp mask h k).1;have:=zFK e _ (cr _);refine⟨n+(dO mask (lp mask h k).1-(lp mask h k).1)+1,by omega,?_⟩;show adv mask (yp mask h _)=_;rw[this];unfold adv;rw[if_neg 13#0];rfl
theorem zOm:∀ k,(lp mask h k).2=dH h / 32 ^ k
 | 0=>by simp[lp]
 | k+1=>by
  show(eV mask (lp mask h k).1 (lp mask h k).2).2=_;unfold eV;simp only;rw[zOm k,Nat.div_div_eq_div_mul,f9]
theorem zQx:dH h<2 ^ 64:=by
 unfold dH;have h1:=Int.emod_lt_of_pos h (show(0:Int)<2 ^ 64 by decide);have h2:=Int.emod_nonneg h (show(2 ^ 64:Int)≠0 by decide);omega
theorem zU3(hk:13<=k):(lp mask h k).2=0:=by
 rw[zOm];apply Nat.div_eq_of_lt;have h1:=zQx (h:=h);have h2:32 ^ 13<=32 ^ k:=et 1#0 hk;have h3:(2:Nat) ^ 64<=32 ^ 13:=by decide
 omega
noncomputable def fM(M x:Nat):Nat:=(x*5+1)%M
noncomputable def itr(M:Nat):Nat->Nat->Nat
 | 0,x=>x
 | m+1,x=>fM M (itr M m x)
theorem zDw(M:Nat)(a:Nat):∀ b x,itr M (a+b) x=itr M a (itr M b x):=by
 induction a with
 | zero=>intro b x;simp[itr]
 | succ a ih=>intro b x;rw[Nat.add_right_comm];show fM M _=fM M _;rw[ih]
theorem zF6:∀ m,(lp mask h (13+m)).1=itr (mask+1) m (lp mask h 13).1
 | 0=>rfl
 | m+1=>by
  show(eV mask (lp mask h (13+m)).1 (lp mask h (13+m)).2).1=fM _ _;unfold eV fM;simp only;rw[zU3 1#0,zF6 m]
theorem zOn(k:Nat):(lp mask h k).1<mask+1:=by
 cases k with
 | zero=>exact Nat.mod_lt _ 1#0
 | succ k=>exact Nat.mod_lt _ 1#0
end
noncomputable def Cyc(M:Nat):Prop:=∀ i,i<M->∀ j,j<M->∃ m,m<M/\itr M m i=j
noncomputable def sm:Nat->Nat
 | 0=>0
 | m+1=>sm m*5+1
theorem zF7(hM:0<M):∀ m,itr M m 0=sm m%M
 | 0=>by simp[itr,sm]
 | m+1=>by
  show(itr M m 0*5+1)%M=(sm m*5+1)%M;rw[zF7 hM m,Nat.add_mod,Nat.mod_mul_mod,<-Nat.add_mod]
theorem zOo:∀ m,4*sm m+1=5 ^ m
 | 0=>rfl
 | m+1=>by
  have:=zOo m;show 4*(sm m*5+1)+1=5 ^ (m+1);rw[f9];omega
theorem zKa(a:Nat):∀ b,sm (a+b)=5 ^ b*sm a+sm b
 | 0=>by simp[sm]
 | b+1=>by
  show sm (a+b)*5+1=5 ^ (b+1)*sm a+(sm b*5+1);rw[zKa a b,f9,Nat.add_mul,Nat.mul_right_comm];omega
theorem zOp:∀ m,sm m%2=m%2
 | 0=>rfl
 | m+1=>by
  have:=zOp m;show(sm m*5+1)%2=(m+1)%2;omega
theorem zOq(e:Nat):sm (e+e)=2*((2*sm e+1)*sm e):=by
 rw[zKa,<-zOo e,<-Nat.mul_assoc,Nat.mul_add,Nat.mul_one,<-Nat.mul_assoc,Nat.add_mul,Nat.add_mul];simp only[Nat.mul_assoc];omega
theorem zOr:∀ k d,2 ^ k ∣ sm d->2 ^ k ∣ d
 | 0,d,_=>by simp
 | k+1,d,h=>by
  have h2:2 ∣ sm d:=Nat.dvd_trans ⟨2 ^ k,by rw[f9,Nat.mul_comm]⟩ h;have hp:=zOp d;obtain⟨e,rfl⟩:∃ e,d=e+e:=⟨d / 2,by omega⟩
  rw[zOq,f9,Nat.mul_comm (2 ^ k)] at h;have h:=Nat.dvd_of_mul_dvd_mul_left 1#0 h;have hc:Nat.Coprime (2 ^ k) (2*sm e+1):=Nat.Coprime.pow_left k (by
   show Nat.gcd 2 (2*sm e+1)=1;rw[Nat.gcd_rec,show(2*sm e+1)%2=1 by omega];rfl)
  obtain⟨c,hc⟩:=zOr k e (hc.dvd_of_dvd_mul_left h);exact⟨c,by rw[f9,Nat.mul_right_comm,<-hc];omega⟩
theorem zOs:∀ k,2 ^ k ∣ sm (2 ^ k)
 | 0=>by simp
 | k+1=>by
  rw[show(2:Nat) ^ (k+1)=2 ^ k+2 ^ k by rw[f9];omega,zOq];obtain⟨c,hc⟩:=zOs k;generalize sm (2 ^ k)=x at hc;rw[hc];exact⟨(2*(2 ^ k*c)+1)*c,by rw[Nat.mul_left_comm _ (2 ^ k) c,<-Nat.two_mul,Nat.mul_assoc 2 (2 ^ k)]⟩
theorem zOt(hab:a<=b)(hb:b-a<2 ^ k)(e:sm a%2 ^ k=sm b%2 ^ k):a=b:=by
 have e2:sm b=5 ^ a*sm (b-a)+sm a:=by
  have:=zKa (b-a) a;rw[show b-a+a=b by omega] at this;exact this
 have hd:2 ^ k ∣ 5 ^ a*sm (b-a):=by
  have:2 ^ k ∣ sm b-sm a:=Nat.dvd_of_mod_eq_zero (Nat.sub_mod_eq_zero_of_mod_eq e.symm);rw[e2,Nat.add_sub_cancel] at this;exact this
 have hc:Nat.Coprime (2 ^ k) (5 ^ a):=Nat.Coprime.pow k a 10#0;have h3:=zOr k (b-a) (hc.dvd_of_dvd_mul_left hd);rcases Nat.eq_zero_or_pos (b-a) with z | z
 ·omega
 ·have:=Nat.le_of_dvd z h3
  omega
theorem zLZ(k:Nat):Cyc (2 ^ k):=by
 have hM:0<2 ^ k:=Nat.pow_pos 1#0;have inj:∀ a b,a<=b->b<2 ^ k->sm a%2 ^ k=sm b%2 ^ k->a=b:=fun a b hab hb e=>zOt hab 1#0 e;have at0:∀ j,j<2 ^ k->∃ m,m<2 ^ k/\itr (2 ^ k) m 0=j:=fun j hj=>by
  have nd:((cf (2 ^ k)).map fun m=>sm m%2 ^ k).Nodup:=by
   refine fi.mpr (eA.imp_of_mem (fun {a b} ha hb (ne:a≠b) e=>ne ?_) fe);have ha:=cz.mp ha;have hb:=cz.mp hb;rcases Nat.le_total a b with z | z
   ·exact inj a b z hb e
   ·exact(inj b a z ha e.symm).symm
  by_cases q:j∈(cf (2 ^ k)).map fun m=>sm m%2 ^ k
  ·obtain⟨m,hm,e⟩:=cx.mp q
   exact⟨m,cz.mp hm,by rw[zF7 hM];exact e⟩
  ·exfalso
   have sub:((cf (2 ^ k)).map fun m=>sm m%2 ^ k) ⊆ (cf (2 ^ k)).filter (fun x=>decide (x≠j)):=fun x hx=>by
    obtain⟨m,u0,rfl⟩:=cx.mp hx;exact cQ.mpr ⟨cz.mpr (Nat.mod_lt _ hM),decide_eq_true fun z=>q (by rw[<-z];exact hx)⟩
   have h1:=nd.length_le_of_subset sub;have h2:((cf (2 ^ k)).filter (fun x=>decide (x≠j))).length<(cf (2 ^ k)).length:=List.length_filter_lt_length_iff_exists.mpr ⟨j,cz.mpr hj,by simp⟩;rw[cg] at h1;omega
 have hz:itr (2 ^ k) (2 ^ k) 0=0:=by
  rw[zF7 hM];exact Nat.mod_eq_zero_of_dvd (zOs k)
 intro i hi j hj;obtain⟨a,ha,rfl⟩:=at0 i hi;obtain⟨b,hb,rfl⟩:=at0 j hj;generalize 2 ^ k=M at *;rcases e7 b a with hab | hab
 ·refine⟨M+b-a,by omega,?_⟩
  rw[<-zDw,show M+b-a+a=b+M by omega,zDw,hz]
 ·refine⟨b-a,by omega,?_⟩
  rw[<-zDw,show b-a+a=b by omega]
theorem zLa(hi:i<2 ^ k)(h:m<=m')(hd:m'-m<2 ^ k)(e:itr (2 ^ k) m i=itr (2 ^ k) m' i):m=m':=by
 have hM:0<2 ^ k:=Nat.pow_pos 1#0;obtain⟨a,u0,rfl⟩:=zLZ k 0 hM i hi;rw[<-zDw,<-zDw,zF7 hM,zF7 hM] at e;have:=zOt (a:=m+a) (b:=m'+a) 1#0 1#0 e;omega
noncomputable def Msk(mask:Nat):Prop:=∃ k,3<=k/\mask+1=2 ^ k
theorem Msk.cyc(h:Msk mask):Cyc (mask+1):=by
 obtain⟨k,u0,e⟩:=h;rw[e];exact zLZ k
theorem Msk.ge(h:Msk mask):7<=mask:=by
 obtain⟨k,hk,e⟩:=h;have:2 ^ 3<=2 ^ k:=et 1#0 hk;omega
theorem Msk.odd(h:Msk mask):(mask%2==0)=false:=by
 obtain⟨k,hk,e⟩:=h;obtain⟨c,rfl⟩:∃ c,k=c+1:=⟨k-1,by omega⟩
 rw[f9] at e;have:mask%2=1:=by omega
 rw[this];rfl
theorem zJI(n:Nat):∀(fuel a:Nat),n<2 ^ a*2 ^ fuel->∃ b,a<=b/\dg.go n fuel (2 ^ a)=2 ^ b/\n<2 ^ b/\(b=a\/2 ^ b<=2*n)
 | 0,a,h=>⟨a,cr _,rfl,by simpa using h,.inl rfl⟩
 | fuel+1,a,h=>by
  unfold dg.go;by_cases q:2 ^ a<=n
  ·rw[if_pos q]
   obtain⟨b,h1,h2,h3,h4⟩:=zJI n fuel (a+1) (by rw[f9,Nat.mul_assoc,<-Nat.pow_succ'];exact h);refine⟨b,by omega,by rw[<-f9];exact h2,h3,.inr ?_⟩;rcases h4 with rfl | h4
   ·rw[f9];omega
   ·exact h4
  ·rw[if_neg q]
   exact⟨a,cr _,rfl,by omega,.inl rfl⟩
theorem zF8(h:n<=1000000):∃ b,3<=b/\dg n=2 ^ b/\n<2 ^ b/\(2 ^ b=8\/2 ^ b<=2*n):=by
 obtain⟨b,h1,h2,h3,h4⟩:=zJI n 64 3 (Nat.lt_of_le_of_lt h 10#0);refine⟨b,h1,h2,h3,?_⟩;rcases h4 with rfl | h4
 ·exact .inl rfl
 ·exact .inr h4
theorem heads(hm:Cyc (mask+1))(hj:j<=mask):∃ k,k<=13+mask/\(lp mask h k).1=j:=by
 obtain⟨m,h1,h2⟩:=hm (lp mask h 13).1 (zOn 13) j 1#0;exact⟨13+m,by omega,by rw[zF6];exact h2⟩
open HI (Ris)
noncomputable def Ent(t:SetTable)(es:80#0)(j:Nat)(h:Int)(x:Value):Prop:=∃ i:Nat,t.place[i]?=some j/\es[i]?=some (h,x)
noncomputable def zDx(t:SetTable)(j:Nat):Prop:=t.slot j≠.empty
theorem zJJ(hr:Ris xs)(e:xs[i]?=some j):cI xs j=i:=by
 obtain⟨b1,b2⟩:=HI.zF4 (j:=j) hr;obtain⟨hi,e⟩:=eJ.mp e;rcases Nat.lt_trichotomy (cI xs j) i with z | z | z
 ·have h1:=b2 (cI xs j) 1#0 (cr _)
  have h2:=hr.lt z hi;omega
 ·exact z
 ·have:=b1 i hi z
  omega
theorem zHC{t:SetTable}(hr:Ris t.place){i j:Nat}(e:t.place[i]?=some j):t.slot j=.live i:=by
 unfold SetTable.slot;simp only;rw[zJJ hr e,e];simp
theorem zQy{t:SetTable}{i j:Nat}(e:t.slot j=.live i):t.place[i]?=some j:=by
 unfold SetTable.slot at e;simp only at e;split at e
 ·rename_i q
  cases e;simpa using q
 ·split at e<;>cases e
theorem zH8(hr:Ris xs):f8 xs j=true↔j∈xs:=by
 unfold f8;constructor
 ·intro q
  have q:xs[cI xs j]?=some j:=by simpa using q
  exact Array.mem_of_getElem? q
 ·intro q
  obtain⟨i,hi,e⟩:=Array.getElem_of_mem q;have e':xs[i]?=some j:=by simp[hi,e]
  rw[zJJ hr e',e'];simp
theorem zAx(hr:Ris t.place)(hd:Ris t.dummies):zDx t j↔j∈t.place\/j∈t.dummies:=by
 unfold zDx;constructor
 ·intro q
  unfold SetTable.slot at q;simp only at q;split at q
  ·rename_i z
   exact .inl (Array.mem_of_getElem? (by simpa using z))
  ·split at q
   ·rename_i z
    exact .inr ((zH8 hd).mp z)
   ·exact(q rfl).elim
 ·rintro(q | q) z
  ·obtain⟨i,hi,e⟩:=Array.getElem_of_mem q
   rw[zHC hr (i:=i) (by simp[hi,e])] at z;cases z
  ·unfold SetTable.slot at z
   simp only at z;split at z
   ·cases z
   ·rw[if_pos ((zH8 hd).mpr q)] at z
    cases z
structure Tab (t:SetTable) (es:Array (Int×Value)):Prop where
 msk:Msk t.mask
 size:t.place.size=es.size
 ris:Ris t.place
 risD:Ris t.dummies
 le:∀ j∈t.place,j<=t.mask
 leD:∀ j∈t.dummies,j<=t.mask
 room:t.fill<=t.mask
 way:∀ j h x,Ent t es j h x->∃ n,(yp t.mask h n).j=j/\∀ m,m<n->zDx t (yp t.mask h m).j
 dis:∀ j∈t.dummies,j∉t.place
theorem zCQ{P:Nat->Prop}[DecidablePred P]{M:Nat}{l:42#0}(h:∀ j,j<M->P j->j∈l)(hl:l.length<M):∃ j,j<M/\¬ P j:=by
 by_cases q:∃ j,j<M/\¬ P j
 ·exact q
 ·have hs:cf M ⊆ l:=fun j hj=>by
   have hj:=cz.mp hj;by_cases z:P j
   ·exact h j hj z
   ·exact(q ⟨j,hj,z⟩).elim
  have:=List.Nodup.length_le_of_subset fe hs;simp at this;omega
theorem Tab.free(T:Tab t es):∃ j,j<=t.mask/\t.slot j=.empty:=by
 have:=zCQ (P:=fun j=>t.slot j≠.empty) (M:=t.mask+1) (l:=t.place.toList++t.dummies.toList) (fun j u0 q=>by
  rcases(zAx T.ris T.risD).mp q with z | z
  ·exact e9 _ (by simpa using z)
  ·exact dD _ (by simpa using z)) (by
  have:=T.room;unfold SetTable.fill at this;simp;omega)
 obtain⟨j,h1,h2⟩:=this;exact⟨j,by omega,Decidable.not_not.mp h2⟩
theorem zOu{p:Nat->Prop}:∀ n,p n->∃ m,m<=n/\p m/\∀ k,k<m->¬ p k:=by
 intro n
 induction n using Nat.strongRecOn with
 | ind n ih =>
  intro hn;by_cases q:∃ m,m<n/\p m
  ·obtain⟨m,hm,hp⟩:=q
   obtain⟨k,h1,h2⟩:=ih m hm hp;exact⟨k,by omega,h2⟩
  ·exact⟨n,cr _,hn,fun k hk z=>q ⟨k,hk,z⟩⟩
theorem Tab.stop(T:Tab t es)(h:Int):∃ N,N<=10*(13+t.fill)/\t.slot (yp t.mask h N).j=.empty/\∀ m,m<N->zDx t (yp t.mask h m).j:=by
 obtain⟨j,hj,he⟩:=T.free;obtain⟨kk,k3,ek⟩:=id T.msk;obtain⟨m0,h1,h2⟩:=T.msk.cyc (lp t.mask h 13).1 (zOn 13) j 1#0;obtain⟨m,hm0,hm,hmin⟩:=zOu (p:=fun m=>t.slot (lp t.mask h (13+m)).1=.empty) m0 (by
  show t.slot (lp t.mask h (13+m0)).1=.empty;rw[zF6,h2];exact he)
 have hfill:m<=t.fill:=by
  have nd:((cf m).map fun x=>(lp t.mask h (13+x)).1).Nodup:=by
   refine fi.mpr (eA.imp_of_mem (fun {a b} ha hb (ne:a≠b) e=>ne ?_) fe);have ha:=cz.mp ha;have hb:=cz.mp hb;rw[zF6,zF6] at e;have hl:=zOn (mask:=t.mask) (h:=h) 13;rw[ek] at e hl;rcases Nat.le_total a b with z | z
   ·exact zLa hl z 1#0 e
   ·exact(zLa hl z 1#0 e.symm).symm
  have sub:((cf m).map fun x=>(lp t.mask h (13+x)).1) ⊆ t.place.toList++t.dummies.toList:=fun x hx=>by
   obtain⟨y,hy,rfl⟩:=cx.mp hx;rcases(zAx T.ris T.risD).mp (hmin y (cz.mp hy)) with z | z
   ·exact e9 _ (by simpa using z)
   ·exact dD _ (by simpa using z)
  have:=nd.length_le_of_subset sub;unfold SetTable.fill;sleep 33
 obtain⟨n,h3,h4⟩:=zOl (mask:=t.mask) (h:=h) (13+m);have hn:n<=10*(13+t.fill):=by omega
 have e:t.slot (yp t.mask h n).j=.empty:=by rw[h4];exact hm
 have:∀ n,t.slot (yp t.mask h n).j=.empty->∃ N,N<=n/\t.slot (yp t.mask h N).j=.empty/\∀ m,m<N->zDx t (yp t.mask h m).j:=by
  intro n
  induction n using Nat.strongRecOn with
  | ind n ih =>
   intro q;by_cases z:∃ m,m<n/\t.slot (yp t.mask h m).j=.empty
   ·obtain⟨m,hm,q'⟩:=z
    obtain⟨N,h1,h2⟩:=ih m hm q';exact⟨N,by omega,h2⟩
   ·exact⟨n,cr _,q,fun m hm q'=>z ⟨m,hm,q'⟩⟩
 obtain⟨N,h1,h2,h3⟩:=this n e;exact⟨N,by omega,h2,h3⟩
open HI (Ris)
noncomputable abbrev At(mask:Nat)(h:Int)(n:Nat)(d:Option Nat):Probe:={ yp mask h n with dummy:=d }
theorem At.adv:adv mask (At mask h n d)=At mask h (n+1) d:=zMq mask (yp mask h n) d
noncomputable def zHD(t:SetTable)(h:Int)(N:Nat)(d:Option Nat):Prop:=∀ j,d=some j->t.slot j=.dummy/\∃ m,m<N/\(yp t.mask h m).j=j
theorem zOv(hs:t.slot (yp t.mask h n).j=.empty):f6.go t f h (fuel+1) (At t.mask h n d)=some (.empty (yp t.mask h n).j d):=by
 rw[f6.go];simp only[hs]
theorem zOw(hs:t.slot (yp t.mask h n).j=.dummy):f6.go t f h (fuel+1) (At t.mask h n d)=f6.go t f h fuel (At t.mask h (n+1) (some (yp t.mask h n).j)):=by
 rw[f6.go];simp only[hs];rw[zF5];exact congrArg _ (At.adv (n:=n) (d:=some (yp t.mask h n).j))
theorem zQz(hs:t.slot (yp t.mask h n).j=.live i):f6.go t f h (fuel+1) (At t.mask h n d)=if f i=h then some (.candidate (yp t.mask h n).j i (At t.mask h (n+1) d)) else f6.go t f h fuel (At t.mask h (n+1) d):=by
 rw[f6.go];simp only[hs];have e:t.advance (At t.mask h n d)=At t.mask h (n+1) d:=by rw[zF5];exact At.adv
 rw[e];by_cases hh:f i=h
 ·rw[if_pos hh,if_pos (by simpa using hh)]
 ·rw[if_neg hh,if_neg (by simpa using hh)]
theorem zMr(hN:t.slot (yp t.mask h N).j=.empty)(hF:∀ m,m<N->zDx t (yp t.mask h m).j) :
  ∀(k n fuel:Nat) (d:Option Nat),N-n=k->n<=N->k<fuel->zHD t h N d ->
   (∃ d',zHD t h N d'/\f6.go t f h fuel (At t.mask h n d)=some (.empty (yp t.mask h N).j d')/\∀ m,n<=m->m<N->∀ i,t.slot (yp t.mask h m).j=.live i->f i≠h) \/
   (∃ m i d',n<=m/\m<N/\zHD t h N d'/\t.slot (yp t.mask h m).j=.live i/\f i=h/\f6.go t f h fuel (At t.mask h n d)=some (.candidate (yp t.mask h m).j i (At t.mask h (m+1) d'))/\∀ m',n<=m'->m'<m->∀ i',t.slot (yp t.mask h m').j=.live i'->f i'≠h):=by
 intro k
 induction k with
 | zero =>
  intro n fuel d hk hn hf hd;obtain rfl:n=N:=by omega
  obtain⟨fuel,rfl⟩:∃ g,fuel=g+1:=⟨fuel-1,by omega⟩
  exact .inl ⟨d,hd,zOv hN,fun m h1 h2=>by omega⟩
 | succ k ih =>
  intro n fuel d hk hn hf hd;have lt:n<N:=by omega
  obtain⟨fuel,rfl⟩:∃ g,fuel=g+1:=⟨fuel-1,by omega⟩
  have fl:=hF n lt;cases hs:t.slot (yp t.mask h n).j with
  | empty=>exact(fl hs).elim
  | dummy =>
   rw[zOw hs];have hd':zHD t h N (some (yp t.mask h n).j):=fun j e=>by cases e;exact⟨hs,n,lt,rfl⟩
   rcases ih (n+1) fuel (some (yp t.mask h n).j) (by omega) (by omega) (by omega) hd' with ⟨d',a1,a2,a3⟩ | ⟨m,i,d',a1,a2,a3,a4,a5,a6,a7⟩
   ·refine .inl ⟨d',a1,a2,fun m h1 h2 i q=>?_⟩
    rcases Nat.eq_or_lt_of_le h1 with z | z
    ·subst z;rw[hs] at q;cases q
    ·exact a3 m 1#0 h2 i q
   ·refine .inr ⟨m,i,d',by omega,a2,a3,a4,a5,a6,fun m' h1 h2 i' q=>?_⟩
    rcases Nat.eq_or_lt_of_le h1 with z | z
    ·subst z;rw[hs] at q;cases q
    ·exact a7 m' 1#0 h2 i' q
  | live i0 =>
   rw[zQz hs];by_cases hh:f i0=h
   ·exact .inr ⟨n,i0,d,cr _,lt,hd,hs,hh,if_pos hh,fun m' h1 h2=>by omega⟩
   ·rw[if_neg hh]
    rcases ih (n+1) fuel d (by omega) (by omega) (by omega) hd with ⟨d',a1,a2,a3⟩ | ⟨m,i,d',a1,a2,a3,a4,a5,a6,a7⟩
    ·refine .inl ⟨d',a1,a2,fun m h1 h2 i q=>?_⟩
     rcases Nat.eq_or_lt_of_le h1 with z | z
     ·subst z;rw[hs] at q;cases q;exact hh
     ·exact a3 m 1#0 h2 i q
    ·refine .inr ⟨m,i,d',by omega,a2,a3,a4,a5,a6,fun m' h1 h2 i' q=>?_⟩
     rcases Nat.eq_or_lt_of_le h1 with z | z
     ·subst z;rw[hs] at q;cases q;exact hh
     ·exact a7 m' 1#0 h2 i' q
end HT3
namespace HT3
open PySem PySem.Spec
open HI (Ris)
section
variable {prog:Program} {w:World} {P:Addr->Prop} {A:Around} {E:Value->Shared->Prop} {s:Shared}
noncomputable abbrev TK(prog:Program)(w:World)(P:Addr->Prop)(h:Heap)(ns:129#0)(b:Addr):Prop:=IsTupleKey 134#0 h ns b/\P b
noncomputable abbrev hT(prog:Program)(w:World)(ns:129#0):Int:=tupleKeyHash 134#0 ns
theorem zJK(h:ItemsAre 134#0 ns vs):∀ v∈vs,∃ k t,v=.int k t:=by
 induction h with
 | nil=>intro v hv;cases hv
 | cons h1 _ ih =>
  intro v hv;rcases cY.mp hv with rfl | hv
  ·obtain⟨t,rfl⟩:=Value.isInt_shape h1;exact⟨_,_,rfl⟩
  ·exact ih v hv
theorem zOx(hb:105#0)(h:Q false s):wpAny 3#0 A (ofAClassStatement 8 (.ref b)) Q E s:=by
 obtain⟨o,its,n,ho,hc,hd,hi⟩:=hb.1;unfold ofAClassStatement;refine bW (f7 hb.1.typeIs ?_);simp only[beq_self_eq_true,↓reduceIte,pure_bind,Bool.not_true,bX];refine bW (fU ho hd ?_);simp only;sleep 50
 ·rintro v rest r s' ⟨hr,rfl,hall⟩
  obtain⟨k,t,rfl⟩:=hall v cK;unfold ofAClassStatement;refine bW (cc ?_);simp only[bX,if_false];exact cc ⟨rfl,rfl,fun u hu'=>hall u (cJ _ hu')⟩
 ·rintro⟨r1,r2⟩ s' ⟨hr,rfl,u0⟩
  simp only at hr;subst hr;exact cc h
theorem zJL(hb:105#0)(h:Q true s):wpAny 3#0 A (hashByValue 8 (.ref b)) Q E s:=by
 obtain⟨o,its,n,ho,hc,hd,hi⟩:=hb.1;unfold hashByValue;refine bW (wpAny_specialOf hb.1.typeIs F.slot_tuple_hash.lookup ?_);simp only;refine bW (fU ho hd ?_);simp only[Option.getD_some];sleep 50
 ·rintro v rest r s' ⟨hr,rfl,hall⟩
  obtain⟨k,t,rfl⟩:=hall v cK;unfold hashByValue;refine bW (cc ?_);simp only[Bool.not_true,bX,if_false];exact cc ⟨rfl,rfl,fun u hu'=>hall u (cJ _ hu')⟩
 ·rintro⟨r1,r2⟩ s' ⟨hr,rfl,u0⟩
  simp only at hr;subst hr;exact cc h
theorem zQ0(hb:105#0)(hl:∀ v∈l,∃ c ms,v=.ref c/\TK prog w P s.heap ms c)(h:Q false s):wpAny 3#0 A (searchCouldBeSeen (.ref b) l) Q E s:=by
 unfold searchCouldBeSeen;refine bW ?_;refine wpAny_forIn_list _ (fun rest r s'=>r.1=none/\s'=s/\∀ v∈rest,∃ c ms,v=Value.ref c/\TK prog w P s.heap ms c) _ ?_ ?_ _ _ ⟨rfl,rfl,hl⟩
 ·rintro v rest r s' ⟨hr,rfl,hall⟩
  obtain⟨c,ms,rfl,hc⟩:=hall v cK;have go:∀ u∈rest,∃ c ms,u=Value.ref c/\TK prog w P s'.heap ms c:=fun u hu'=>hall u (cJ _ hu');dsimp only;by_cases e:(b==c)=true
  ·rw[if_pos (by simp[e])]
   exact cc ⟨rfl,rfl,go⟩
  ·rw[if_neg (by simp[e,carriedByValue])]
   refine bW ((tupleKind 134#0).quiet (k:=ns) hb.1 ?_);simp only[Bool.not_true,bX,if_false];refine bW ((tupleKind 134#0).quiet (k:=ms) hc.1 ?_);simp only[Bool.not_true,bX,if_false];refine bW (zOx hb ?_);simp only[bX,if_false];refine bW (zOx hc ?_);simp only[bX,if_false];exact cc ⟨rfl,rfl,go⟩
 ·rintro⟨r1,r2⟩ s' ⟨hr,rfl,u0⟩
  simp only at hr;subst hr;exact cc h
noncomputable def OkT(prog:Program)(w:World)(P:Addr->Prop)(h:Heap)(es:80#0):Prop:=∀(i:Nat) (e:Int×Value),es[i]?=some e->∃ c ms,e=(hT prog w ms,.ref c)/\TK prog w P h ms c
noncomputable def sf(es:80#0)(i:Nat):Int:=(es[i]?.map (·.1)).getD 0
theorem zTH{b:Addr}{ns:129#0}{t:SetTable}{l:40#0}{K1 K2:Sem SetFound}{Q:SetFound->Shared->Prop}(hb:105#0)(hl:∀ v∈l,∃ c ms,v=.ref c/\TK prog w P s.heap ms c)(h:wpAny 3#0 A K2 Q E s) :
  wpAny 3#0 A (if (!t.led)=true then searchCouldBeSeen (.ref b) l>>=fun c=>if c=true then K1 else K2 else K2) Q E s:=by
 split
 ·refine bW (zQ0 hb hl ?_)
  rw[if_neg 13#0];exact h
 ·exact h
theorem zTI(hA:A.units<cLine)(ho:s.heap.get? a=some o)(hd:o.data=.set es ep t)(T:Tab t es)(ok:OkT prog w P s.heap es)(hb:105#0)
   (hNle:N<=10*(13+t.mask)) (hN:t.slot (yp t.mask 66#0 N).j=.empty) (hF:∀ m,m<N->zDx t (yp t.mask 66#0 m).j)
  (q1:∀(i:Nat) c,es[i]?=some (hT prog w ns,.ref c)->TK prog w P s.heap ns c->Q (.there (if adding then none else some i)) s)
  (q2:(∀(i:Nat) e c ms,es[i]?=some e->e.2=.ref c->TK prog w P s.heap ms c->ms≠ns)->∀ d,zHD t 66#0 N d->Q (.free (d.getD (yp t.mask 66#0 N).j) d.isSome) s) :
  ∀(k n fuel:Nat) (d:Option Nat) (stand:Option SetTable.Probe),N-n=k->n<=N->k<fuel->zHD t 66#0 N d->stand.getD (t.probeStart 66#0)=At t.mask 66#0 n d ->
   (∀ m,m<n->∀(i:Nat),t.slot (yp t.mask 66#0 m).j=.live i->∀ e c ms,es[i]?=some e->e.2=.ref c->TK prog w P s.heap ms c->ms≠ns)->wpAny 3#0 A (setSearchFrom a (.ref b) 66#0 adding fuel stand) Q E s:=by
 have hft:t.fits es.size=true:=by
  unfold SetTable.fits;simp[T.size,T.room]
 have hgw:t.gaveWay=false:=T.msk.odd;intro k
 induction k using Nat.strongRecOn with
 | ind k ih =>
  intro n fuel d stand hk hn hf hdm hst hno;obtain⟨fuel,rfl⟩:∃ g,fuel=g+1:=⟨fuel-1,by omega⟩
  unfold setSearchFrom;refine bW (di ho hd hft ?_);dsimp only;rw[hgw];simp only[bX,↓reduceIte];rw[hst];have met:=zMr (t:=t) (f:=sf es) (h:=hT prog w ns) hN hF (N-n) n (10*SetTable.turns t.mask) d rfl hn (by
   unfold SetTable.turns;omega) hdm
  generalize hp:f6 t _ _ _=r;rcases met with ⟨d',a1,a2,a3⟩ | ⟨m,i,d',a1,a2,a3,a4,a5,a6,a7⟩
  ·have hr:r=some (.empty (yp t.mask 66#0 N).j d'):=hp.symm.trans a2
   subst hr;dsimp only;have none:∀(i:Nat) e c ms,es[i]?=some e->e.2=.ref c->TK prog w P s.heap ms c->ms≠ns:=by
    intro i e c ms e1 e2 e3 e4;subst e4;obtain⟨c',ms',z1,z2⟩:=ok i e e1;have:c'=c:=by rw[z1] at e2;cases e2;rfl
    subst this;have:=z2.1.inj e3.1;subst this;have hi:i<t.place.size:=by rw[T.size];exact(eJ.mp e1).1
    have pl:t.place[i]?=some t.place[i]:=by simp[hi]
    obtain⟨n',w1,w2⟩:=T.way t.place[i] (hT prog w ms') (.ref c') ⟨i,pl,by rw[e1,z1]⟩;have sl:=zHC T.ris pl;have lt:n'<N:=by
     rcases Nat.lt_trichotomy n' N with z | z | z
     ·exact z
     ·subst z;rw[w1,sl] at hN;cases hN
     ·exact(w2 N z hN).elim
    rw[<-w1] at sl;rcases e7 n' n with z | z
    ·exact hno n' z i sl e c' ms' e1 e2 e3 rfl
    ·refine a3 n' z lt i sl ?_
     unfold sf;rw[e1,z1];rfl
   cases d' with
   | none=>exact cc (q2 none Option.none a1)
   | some dj =>
    dsimp only;have hdj:=(a1 dj rfl).1;rw[if_neg (by simp[hdj])];exact cc (q2 none (some dj) a1)
  ·have hr:r=some (.candidate (yp t.mask 66#0 m).j i (At t.mask 66#0 (m+1) d')):=hp.symm.trans a6
   subst hr;dsimp only;have pl:=zQy a4;have hi:i<es.size:=by rw[<-T.size];exact(eJ.mp pl).1
   obtain⟨c,ms,z1,z2⟩:=ok i es[i] (by simp[hi]);have ei:es[i]?=some (hT prog w ms,.ref c):=by simp[hi,z1]
   have hseen:∀ v∈(Array.filter (fun x=>x.1==hT prog w ns) es).toList.map (fun x=>x.2),∃ c ms,v=.ref c/\TK prog w P s.heap ms c:=fun v hv=>by
    obtain⟨e,he,rfl⟩:=cx.mp hv;rw[Array.toList_filter] at he;obtain⟨i',hi',e'⟩:=eE (cQ.mp he).1;obtain⟨c',ms',y1,y2⟩:=ok i' e (by rw[<-e'];simpa using hi');exact⟨c',ms',by rw[y1],y2⟩
   refine zTH hb hseen ?_;simp only[ei];refine bW (df ((tupleKind 134#0).eqBool (x:=ms) (y:=ns) hA z2.1 hb.1 ?_));refine bW (di ho hd hft ?_);dsimp only;have sm:t.sameMemory t.moves t.mask=some true:=by
    unfold SetTable.sameMemory;simp
   by_cases e:ms=ns
   ·subst e
    cases adding with
    | true =>
     rw[if_pos 13#0];exact cc (q1 i c ei z2)
    | false =>
     rw[if_neg 13#0,sm];simp only[↓reduceIte,a4,ei];refine bW (wpAny_isSame_ref_self ?_);simp only[↓reduceIte,pure_bind,decide_true];exact cc (q1 i c ei z2)
   ·rw[if_neg (by simp[e]),sm]
    simp only[↓reduceIte,a4,ei];refine bW (wpAny_isSame_ref_self ?_);simp only[↓reduceIte,pure_bind,decide_eq_true_eq,e];refine ih (N-(m+1)) 1#0 (m+1) fuel d' _ rfl 1#0 1#0 a3 rfl ?_;intro m' hm' i' sl' e' c' ms' f1 f2 f3 f4;subst f4;rcases e7 m' n with z | z
    ·exact hno m' z i' sl' e' c' ms' f1 f2 f3 rfl
    ·rcases Nat.eq_or_lt_of_le (Nat.le_of_lt_succ hm') with y | y
     ·subst y
      rw[a4] at sl';cases sl';rw[ei] at f1;cases f1;cases f2;exact e (z2.1.inj f3.1)
     ·obtain⟨c2,ms2,y1,y2⟩:=ok i' e' f1
      have:c2=c':=by rw[y1] at f2;cases f2;rfl
      subst this;have:=y2.1.inj f3.1;subst this;refine a7 m' z y i' sl' ?_;unfold sf;rw[f1,y1];rfl
end
open HI (Ris)
theorem zF9(mask:Nat)(h:Int):∀ n,(yp mask h n).j+(yp mask h n).more<=mask/\(yp mask h n).i<=mask
 | 0=>by
  have hi:dH h%(mask+1)<=mask:=by have:=Nat.mod_lt (dH h) (show 0<mask+1 by omega);omega
  show dH h%(mask+1)+(dO mask (dH h%(mask+1))-dH h%(mask+1))<=mask/\dH h%(mask+1)<=mask;generalize dH h%(mask+1)=i at *;unfold dO;split<;>omega
 | n+1=>by
  have ih:=zF9 mask h n;show(adv mask (yp mask h n)).j+(adv mask (yp mask h n)).more<=mask/\(adv mask (yp mask h n)).i<=mask;unfold adv;split
  ·simp only
   omega
  ·simp only
   have hi:(eV mask (yp mask h n).i (yp mask h n).perturb).1<=mask:=by
    unfold eV;simp only;have:=Nat.mod_lt ((yp mask h n).i*5+1+(yp mask h n).perturb / 32) (show 0<mask+1 by omega);omega
   generalize (eV mask (yp mask h n).i (yp mask h n).perturb).1=i at *;unfold dO;split<;>omega
theorem zFL:Ent t es j h x↔(j,(h,x))∈t.place.toList.zip es.toList:=by
 unfold Ent;rw[List.mem_iff_getElem?];constructor
 ·rintro⟨i,e1,e2⟩
  exact⟨i,by rw[List.getElem?_zip_eq_some];simpa using⟨e1,e2⟩⟩
 ·rintro⟨i,e⟩
  rw[List.getElem?_zip_eq_some] at e;exact⟨i,by simpa using e.1,by simpa using e.2⟩
theorem zQ1{α β:Type}{l:List α}{l':List β}(hl:l.length=l'.length)(p:Nat)(a:α)(b:β)(z:α×β):z∈(l.take p++a::l.drop p).zip (l'.take p++b::l'.drop p)↔z=(a,b)\/z∈l.zip l':=by
 rw[List.zip_append (by simp[hl])];have e:l.zip l'=(l.take p).zip (l'.take p)++(l.drop p).zip (l'.drop p):=by
  rw[<-List.zip_append (by simp[hl]),cU,cU]
 rw[e];simp only[List.zip_cons_cons,cG,cY];constructor
 ·rintro(h | h | h)
  ·exact .inr (.inl h)
  ·exact .inl h
  ·exact .inr (.inr h)
 ·rintro(h | h | h)
  ·exact .inr (.inl h)
  ·exact .inl h
  ·exact .inr (.inr h)
theorem zb(xs:Array α)(p:Nat):(cP xs p).toList=xs.toList.take p++xs.toList.drop (p+1):=by
 simp[cP,List.extract_eq_take_drop,fq]
theorem zH9{α:Type}(l:List α)(p:Nat):(l.take p++l.drop (p+1)).Sublist l:=by
 conv=>rhs;rw[<-cU p l]
 exact(List.Sublist.refl _).append (by rw[<-List.drop_drop];exact List.drop_sublist 1 _)
theorem zOy{α:Type}{l:List α}{p:Nat}{x y:α}(hp:l[p]?=some x)(hy:y∈l)(hne:y≠x):y∈l.take p++l.drop (p+1):=by
 rw[<-cU p l] at hy;rcases cG.mp hy with h | h
 ·exact e9 _ h
 ·obtain⟨hlt,e⟩:=cu.mp hp
  rw[List.drop_eq_getElem_cons hlt,e] at h;rcases cY.mp h with h | h
  ·exact(hne h).elim
  ·exact dD _ h
theorem zLb{α:Type}{l:List α}{p:Nat}{x:α}(hp:l[p]?=some x):l.Perm (x::(l.take p++l.drop (p+1))):=by
 obtain⟨hlt,e⟩:=cu.mp hp
 conv=>lhs;rw[<-cU p l,List.drop_eq_getElem_cons hlt,e]
 exact List.perm_middle
theorem zOz(hr:Ris xs)(hp:xs.toList[p]?=some j):j∉xs.toList.take p++xs.toList.drop (p+1):=by
 have nd:xs.toList.Nodup:=eA.imp (fun h=>cR h) hr;exact(eR.mp ((zLb hp).nodup_iff.mp nd)).1
theorem zHE(hr:Ris xs)(p:Nat):Ris (cP xs p):=by
 unfold Ris;rw[zb];exact eA.sublist (zH9 _ _) hr
section
variable {t:SetTable} {es:Array (Int×Value)} {j:Nat} {h:Int} {x:Value}
theorem zIA(hs:t.slot j=.dummy):f8 t.dummies j=true:=by
 unfold SetTable.slot at hs;simp only at hs;split at hs
 ·cases hs
 ·split at hs
  ·rename_i q;exact q
  ·cases hs
theorem zQ2(T:Tab t es):Ent (t.put j).1 (dC es (t.put j).2 (h,x)) j' h' x'↔(j'=j/\h'=h/\x'=x)\/Ent t es j' h' x':=by
 rw[zFL,zFL];show(j',(h',x'))∈(dC t.place (cI t.place j) j).toList.zip (dC es (cI t.place j) (h,x)).toList↔_;rw[SetTable.toList_insertAt,SetTable.toList_insertAt,zQ1 (by simpa using T.size)];simp
theorem zJM(T:Tab t es)(hnl:t.slot j=.empty\/t.slot j=.dummy)(rD:Ris (t.put j).1.dummies)(rP:Ris (t.put j).1.place)(hf:zDx t i):zDx (t.put j).1 i:=by
 rw[zAx rP rD];have pm:∀ y,y∈(t.put j).1.place↔y=j\/y∈t.place:=fun y=>by
  show y∈dC t.place (cI t.place j) j↔_;rw[<-dQ,(eu _ _ _).mem_iff];simp[or_comm]
 rcases(zAx T.ris T.risD).mp hf with q | q
 ·exact .inl ((pm i).mpr (.inr q))
 ·by_cases e:i=j
  ·exact .inl ((pm i).mpr (.inl e))
  ·refine .inr ?_
   show i∈44#0;split
   ·rename_i hh
    rw[<-dQ,zb];have hp:t.dummies.toList[cI t.dummies j]?=some j:=by
     unfold f8 at hh;simpa using hh
    exact zOy hp (by simpa using q) e
   ·exact q
theorem Tab.put(T:Tab t es)(hj:(yp t.mask h n).j=j)(hw:∀ m,m<n->zDx t (yp t.mask h m).j)(hnl:t.slot j=.empty\/t.slot j=.dummy)(rm:t.fill+1<=t.mask) :
  Tab (t.put j).1 (dC es (t.put j).2 (h,x))/\(t.put j).1.fill<=t.fill+1/\(t.slot j=.dummy->(t.put j).1.fill=t.fill):=by
 have hnl':t.place[cI t.place j]?≠some j:=HI.zOj hnl;have rP:Ris (t.put j).1.place:=HI.zLW T.ris hnl';have rD:Ris (t.put j).1.dummies:=by
  show Ris 44#0;split
  ·exact zHE T.risD _
  ·exact T.risD
 have jm:j<=t.mask:=by have:=(zF9 t.mask h n).1;omega
 have pz:(t.put j).1.place.size=t.place.size+1:=by
  have:=(eu t.place (cI t.place j) j).length_eq;show(dC t.place (cI t.place j) j).size=_;sleep 33
 have dz:(t.put j).1.dummies.size<=t.dummies.size/\(t.slot j=.dummy->(t.put j).1.dummies.size+1=t.dummies.size):=by
  show(if f8 t.dummies j then cP t.dummies (cI t.dummies j) else t.dummies).size<=_/\(_->(if f8 t.dummies j then cP t.dummies (cI t.dummies j) else t.dummies).size+1=_)
  split
  ·rename_i hh
   have hp:t.dummies.toList[cI t.dummies j]?=some j:=by
    unfold f8 at hh;simpa using hh
   have hlt:=(cu.mp hp).1;have e:(cP t.dummies (cI t.dummies j)).size=t.dummies.size-1:=by
    rw[<-cC,zb,cD,cS,dN];simp only[cC] at *;omega
   simp only[cC] at hlt;omega
  ·rename_i hh
   exact⟨cr _,fun q=>(hh (zIA q)).elim⟩
 have fz:(t.put j).1.fill=(t.put j).1.place.size+(t.put j).1.dummies.size:=rfl;have fz0:t.fill=t.place.size+t.dummies.size:=rfl;refine⟨⟨T.msk,?_,rP,rD,fun y hy=>?_,fun y hy=>?_,?_,fun j' h' x' he=>?_,fun y hy hy'=>?_⟩,by omega,fun q=>by have:=dz.2 q;omega⟩
 ·rw[pz,T.size]
  have:=(eu es (t.put j).2 (h,x)).length_eq;simp at this;omega
 ·have:y∈dC t.place (cI t.place j) j:=hy
  rw[<-dQ,(eu _ _ _).mem_iff] at this;rcases(by simpa using this:y∈t.place\/y=j) with q | q
  ·exact T.le y q
  ·rw[q];exact jm
 ·have:y∈44#0:=hy
  refine T.leD y ?_;split at this
  ·rw[<-dQ,zb] at this
   simpa using(zH9 _ _).subset this
  ·exact this
 ·show(t.put j).1.fill<=t.mask
  omega
 ·rcases(zQ2 T).mp he with ⟨rfl,rfl,rfl⟩ | q
  ·exact⟨n,hj,fun m hm=>zJM T hnl rD rP (hw m hm)⟩
  ·obtain⟨n',w1,w2⟩:=T.way j' h' x' q
   exact⟨n',w1,fun m hm=>zJM T hnl rD rP (w2 m hm)⟩
 ·have hz:y∈44#0:=hy
  have hz':y∈dC t.place (cI t.place j) j:=hy';clear hy hy';rw[<-dQ,(eu _ _ _).mem_iff] at hz';have hz':y∈t.place\/y=j:=by simpa using hz'
  by_cases hh:f8 t.dummies j=true
  ·rw[if_pos hh] at hz
   have hp:t.dummies.toList[cI t.dummies j]?=some j:=by
    unfold f8 at hh;simpa using hh
   rw[<-dQ,zb] at hz;rcases hz' with q | q
   ·exact T.dis y (by simpa using(zH9 _ _).subset hz) q
   ·rw[q] at hz
    exact zOz T.risD hp hz
  ·rw[if_neg hh] at hz
   rcases hz' with q | q
   ·exact T.dis y hz q
   ·rw[q] at hz
    exact hh ((zH8 T.risD).mpr hz)
end
section
variable {t:SetTable} {es:Array (Int×Value)} {i j:Nat}
theorem zTJ{α β:Type}{l:List α}{l':List β}(hl:l.length=l'.length)(p:Nat){z:α×β}(h:z∈(l.take p++l.drop (p+1)).zip (l'.take p++l'.drop (p+1))):z∈l.zip l':=by
 rw[List.zip_append (by simp[hl])] at h;have e:l.zip l'=(l.take p).zip (l'.take p)++(l.drop p).zip (l'.drop p):=by
  rw[<-List.zip_append (by simp[hl]),cU,cU]
 rw[e];rcases cG.mp h with q | q
 ·exact e9 _ q
 ·refine dD _ ?_
  rw[<-List.drop_drop,<-List.drop_drop] at q;generalize l.drop p=a at q ⊢;generalize l'.drop p=b at q ⊢;cases a with
  | nil=>simp at q
  | cons a0 a1 =>
   cases b with
   | nil=>simp at q
   | cons b0 b1 =>
    have q:z∈a1.zip b1:=by simpa using q
    show z∈(a0,b0)::a1.zip b1;exact cJ _ q
theorem Tab.drop(T:Tab t es)(hi:t.place[i]?=some j):Tab (t.drop i) (cP es i)/\(t.drop i).fill=t.fill:=by
 have ed:t.drop i={ t with place:=cP t.place i,dummies:=dC t.dummies (cI t.dummies j) j }:=by
  unfold SetTable.drop;rw[hi]
 have hp:t.place.toList[i]?=some j:=by simpa using hi
 have jp:j∈t.place:=Array.mem_of_getElem? hi;have jd:j∉t.dummies:=fun q=>T.dis j q jp;have hlt:i<t.place.size:=(eJ.mp hi).1;have rP:Ris (cP t.place i):=zHE T.ris i;have rD:Ris (dC t.dummies (cI t.dummies j) j):=HI.zLW T.risD fun q=>jd (Array.mem_of_getElem? q);have pz:(cP t.place i).size=t.place.size-1:=by
  rw[<-cC,zb,cD,cS,dN];simp only[cC];omega
 have ez:(cP es i).size=es.size-1:=by
  have:=T.size;rw[<-cC,zb,cD,cS,dN];simp only[cC];omega
 have dz:(dC t.dummies (cI t.dummies j) j).size=t.dummies.size+1:=by
  have:=(eu t.dummies (cI t.dummies j) j).length_eq;sleep 33
 have dm:∀ y,y∈dC t.dummies (cI t.dummies j) j↔y∈t.dummies\/y=j:=fun y=>by
  rw[<-dQ,(eu _ _ _).mem_iff];simp
 rw[ed];have fl:∀ y,zDx t y->zDx { t with place:=cP t.place i,dummies:=dC t.dummies (cI t.dummies j) j } y:=fun y q=>by
  rw[zAx rP rD];rcases(zAx T.ris T.risD).mp q with z | z
  ·by_cases e:y=j
   ·exact .inr ((dm y).mpr (.inr e))
   ·left
    show y∈cP t.place i;rw[<-dQ,zb];exact zOy hp (by simpa using z) e
  ·exact .inr ((dm y).mpr (.inl z))
 have sb:∀ y,y∈cP t.place i->y∈t.place:=fun y hy=>by
  rw[<-dQ,zb] at hy;simpa using(zH9 _ _).subset hy
 have fz:SetTable.fill { t with place:=cP t.place i,dummies:=dC t.dummies (cI t.dummies j) j }=t.fill:=by
  show(cP t.place i).size+(dC t.dummies (cI t.dummies j) j).size=t.place.size+t.dummies.size;omega
 refine⟨⟨T.msk,?_,rP,rD,fun y hy=>T.le y (sb y hy),fun y hy=>?_,?_,fun j' h' x' he=>?_,fun y hy hy'=>?_⟩,fz⟩
 ·show(cP t.place i).size=_
  rw[pz,ez,T.size]
 ·rcases(dm y).mp hy with q | q
  ·exact T.leD y q
  ·rw[q];exact T.le j jp
 ·rw[fz];exact T.room
 ·rw[zFL] at he
  have he:(j',(h',x'))∈(cP t.place i).toList.zip (cP es i).toList:=he;rw[zb,zb] at he;obtain⟨n',w1,w2⟩:=T.way j' h' x' (zFL.mpr (zTJ (by simpa using T.size) i he));exact⟨n',w1,fun m hm=>fl _ (w2 m hm)⟩
 ·rcases(dm y).mp hy with q | q
  ·exact T.dis y q (sb y hy')
  ·subst q
   have hy':y∈cP t.place i:=hy';rw[<-dQ,zb] at hy';exact zOz T.ris hp hy'
end
open HI (Ris)
noncomputable def hd(mask:Nat)(h:Int):Nat->Nat
 | 0=>0
 | k+1=>hd mask h k+(dO mask (lp mask h k).1-(lp mask h k).1)+1
section
variable {mask:Nat} {h:Int}
theorem zO0:∀ k,yp mask h (hd mask h k)=⟨(lp mask h k).1,dO mask (lp mask h k).1-(lp mask h k).1,(lp mask h k).1,(lp mask h k).2,none⟩
 | 0=>rfl
 | k+1=>by
  have:=zFK (zO0 k) _ (cr _);show adv mask (yp mask h (hd mask h k+(dO mask (lp mask h k).1-(lp mask h k).1)))=_;rw[this];unfold adv;rw[if_neg 13#0];rfl
theorem zKb(hm:m<=dO mask (lp mask h k).1-(lp mask h k).1):(yp mask h (hd mask h k+m)).j=(lp mask h k).1+m:=by rw[zFK (zO0 k) m hm]
theorem zTK(mask i:Nat):i<=dO mask i:=by
 unfold dO;split<;>omega
noncomputable def Tk(owner:Array (Option Nat))(j:Nat):Prop:=(owner.getD j (some 0)).isSome=true
theorem zO1(hR:¬ Tk owner (lp mask h R).1):∀(fuel r:Nat),r<=R->R-r<fuel->(∀ m,m<hd mask h r->Tk owner (yp mask h m).j) ->
  ∃ j n,fG.free mask owner fuel (lp mask h r).1 (lp mask h r).2=some j/\(yp mask h n).j=j/\¬ Tk owner j/\∀ m,m<n->Tk owner (yp mask h m).j:=by
 intro fuel
 induction fuel with
 | zero=>intro r u0 h;omega
 | succ fuel ih =>
  intro r hr hf hb;unfold fG.free;have hge:=zTK mask (lp mask h r).1;cases hfd:(cf (dO mask (lp mask h r).1+1-(lp mask h r).1)).find? fun k=>(owner.getD ((lp mask h r).1+k) (some 0)).isNone with
  | some k0 =>
   obtain⟨f1,f2,f3⟩:=List.find?_range_eq_some.mp hfd;have f2:=cz.mp f2;refine⟨(lp mask h r).1+k0,hd mask h r+k0,by simp only[hfd],?_,?_,?_⟩
   ·exact zKb 1#0
   ·unfold Tk
    rw[Option.isNone_iff_eq_none] at f1;rw[f1];simp
   ·intro m hm
    rcases e7 m (hd mask h r) with z | z
    ·exact hb m z
    ·obtain⟨d,rfl⟩:∃ d,m=hd mask h r+d:=⟨m-hd mask h r,by omega⟩
     rw[zKb 1#0];have:=f3 d 1#0;unfold Tk;cases q:owner.getD ((lp mask h r).1+d) (some 0) with
     | none=>rw[q] at this;simp at this
     | some _=>rfl
  | none =>
   rw[List.find?_range_eq_none] at hfd;have all:∀ d,d<=dO mask (lp mask h r).1-(lp mask h r).1->Tk owner ((lp mask h r).1+d):=fun d hd'=>by
    have:=hfd d 1#0;unfold Tk;cases q:owner.getD ((lp mask h r).1+d) (some 0) with
    | none=>rw[q] at this;simp at this
    | some _=>rfl
   have hne:r≠R:=fun e=>by
    subst e;exact hR (by simpa using all 0 (dG _))
   simp only;refine ih (r+1) 1#0 1#0 fun m hm=>?_;have hm:m<hd mask h r+(dO mask (lp mask h r).1-(lp mask h r).1)+1:=hm;rcases e7 m (hd mask h r) with z | z
   ·exact hb m z
   ·obtain⟨d,rfl⟩:∃ d,m=hd mask h r+d:=⟨m-hd mask h r,by omega⟩
    rw[zKb 1#0];exact all d 1#0
end
theorem zDy{β:Type}{f g:Nat->Option β}:∀ {l:42#0},(∀ i∈l,g i=f i)->l.filterMap g=l.filterMap f
 | [],_=>rfl
 | a::l,h=>by
  have ea:=h a cK;have ih:=zDy fun i hi=>h i (cJ _ hi);cases q:f a with
  | none=>rw[fN (ea.trans q),fN q,ih]
  | some c=>rw[eU (ea.trans q),eU q,ih]
theorem zO2{β:Type}{f:Nat->Option β}:∀ {l:42#0},(∀ i∈l,(f i).isSome=true)->(l.filterMap f).length=l.length
 | [],_=>rfl
 | a::l,h=>by
  have ih:=zO2 fun i hi=>h i (cJ _ hi);have ea:=h a cK;cases q:f a with
  | none=>rw[q] at ea;cases ea
  | some c=>rw[eU q,cb,cb,ih]
theorem zO3{β:Type}{f g:Nat->Option β}{j:Nat}{b:β}(hf:f j=none)(hg:g j=some b):∀ {l:42#0},l.Nodup->j∈l->(∀ i∈l,i≠j->g i=f i)->(l.filterMap g).Perm (b::l.filterMap f)
 | [],_,hj,_=>by cases hj
 | a::l,nd,hj,ho=>by
  obtain⟨n1,n2⟩:=eR.mp nd;by_cases e:a=j
  ·subst e
   have:l.filterMap g=l.filterMap f:=by
    apply zDy;intro i hi;exact ho i (cJ _ hi) fun e=>n1 (e▸hi)
   rw[eU hg,fN hf,this]
  ·have hj':j∈l:=by
    rcases cY.mp hj with q | q
    ·exact(e q.symm).elim
    ·exact q
   have ih:=zO3 hf hg n2 hj' fun i hi hne=>ho i (cJ _ hi) hne;have ea:=ho a cK e;cases q:f a with
   | none=>rw[fN (ea.trans q),fN q];exact ih
   | some c =>
    rw[eU (ea.trans q),eU q];exact(eX.cons c ih).trans (eX.swap _ _ _)
structure zIB (mask:Nat) (hs:List Int) (owner:Array (Option Nat)) (k:Nat):Prop where
 size:owner.size=mask+1
 way:∀(j k':Nat),owner.getD j none=some k'->∃ h n,hs[k']?=some h/\(yp mask h n).j=j/\∀ m,m<n->(owner.getD (yp mask h m).j none).isSome=true
 perm:((cf (mask+1)).filterMap fun j=>owner.getD j none).Perm (cf k)
theorem zIB.gap(I:zIB mask hs owner k)(hk:k<=mask):∃ j,j<=mask/\owner.getD j none=none:=by
 by_cases q:∃ j,j<=mask/\owner.getD j none=none
 ·exact q
 ·have:=zO2 (f:=fun j=>owner.getD j none) (l:=cf (mask+1)) fun i hi=>by
   have hi:=cz.mp hi;cases z:owner.getD i none with
   | none=>exact(q ⟨i,by omega,z⟩).elim
   | some _=>rfl
  rw[I.perm.length_eq,cX,cX] at this;omega
theorem zKc(I:zIB mask hs owner k)(hj:j<=mask):Tk owner j↔(owner.getD j none).isSome=true:=by
 have:j<owner.size:=by rw[I.size];omega
 unfold Tk;simp[fw,this]
theorem zIB.step(hm:Msk mask)(I:zIB mask hs owner k)(hk:k<=mask)(e:hs[k]?=some h) :
  ∃ j,fG.free mask owner (SetTable.turns mask) (dH h%(mask+1)) (dH h)=some j/\zIB mask hs (owner.setIfInBounds j (some k)) (k+1):=by
 obtain⟨j0,h1,h2⟩:=I.gap hk;obtain⟨R,r1,r2⟩:=heads (h:=h) hm.cyc h1;obtain⟨j,n,f1,f2,f3,f4⟩:=zO1 (mask:=mask) (h:=h) (owner:=owner) (R:=R) (by rw[r2,zKc I h1,h2];simp) (SetTable.turns mask) 0 (dG _) (by unfold SetTable.turns;omega) (fun m hm=>absurd hm (fH _));have hj:j<=mask:=by have:=(zF9 mask h n).1;omega
 have hjs:j<owner.size:=by rw[I.size];omega
 rw[zKc I hj] at f3;have fn:owner.getD j none=none:=by
  cases q:owner.getD j none with
  | none=>rfl
  | some _=>rw[q] at f3;exact(f3 rfl).elim
 have gs:∀ i,(owner.setIfInBounds j (some k)).getD i none=if i=j then some k else owner.getD i none:=fun i=>by
  by_cases e:i=j
  ·subst e;rw[if_pos rfl];simp[fw,hjs]
  ·rw[if_neg e]
   rw[Array.getD_eq_getD_getElem?,Array.getD_eq_getD_getElem?,Array.getElem?_setIfInBounds_ne (Ne.symm e)]
 have mono:∀ i,(owner.getD i none).isSome=true->((owner.setIfInBounds j (some k)).getD i none).isSome=true:=fun i q=>by
  rw[gs];split
  ·rfl
  ·exact q
 refine⟨j,f1,⟨by rw[Array.size_setIfInBounds];exact I.size,fun j' k' q=>?_,?_⟩⟩
 ·rw[gs] at q
  split at q
  ·rename_i e'
   cases q;refine⟨h,n,e,f2.trans e'.symm,fun m hm'=>mono _ ?_⟩;rw[<-zKc I (by have:=(zF9 mask h m).1;omega)];exact f4 m hm'
  ·obtain⟨h',n',w1,w2,w3⟩:=I.way j' k' q
   exact⟨h',n',w1,w2,fun m hm'=>mono _ (w3 m hm')⟩
 ·rw[show cf (k+1)=cf k++[k] from fm]
  refine(zO3 (f:=fun i=>owner.getD i none) (g:=fun i=>(owner.setIfInBounds j (some k)).getD i none) (j:=j) (b:=k) fn ((gs j).trans (if_pos rfl)) fe (cz.mpr 1#0) fun i u0 hne=>(gs i).trans (if_neg hne)).trans ?_;refine(eX.cons k I.perm).trans ?_;exact(List.perm_append_singleton k _).symm
theorem zO4{mask:Nat}(hm:Msk mask){hs:129#0}(hn:hs.length<=mask):∀(l done:129#0) (owner:Array (Option Nat)),hs=done++l->zIB mask hs owner done.length ->
  ∃ owner',(l.foldl (fun(acc:Option (Array (Option Nat)×Nat)) h=>do
   let (owner,k) <-acc;let j <-fG.free mask owner (SetTable.turns mask) (dH h%(mask+1)) (dH h)
   pure (owner.setIfInBounds j (some k),k+1)) (some (owner,done.length))).map (·.1)=some owner'/\zIB mask hs owner' hs.length
 | [],done,owner,e,I=>⟨owner,rfl,by rw[e,eW] at *;exact I⟩
 | h::l,done,owner,e,I=>by
  have hk:done.length<=mask:=by rw[e] at hn;simp at hn;omega
  obtain⟨j,f1,I'⟩:=I.step hm hk (h:=h) (by rw[e];simp);obtain⟨owner',g1,g2⟩:=zO4 hm hn l (done++[h]) (owner.setIfInBounds j (some done.length)) (by rw[e];simp) (by simpa using I');refine⟨owner',?_,g2⟩;rw[<-g1];rw[List.foldl_cons];congr 2;show(do
   let j <-fG.free mask owner (SetTable.turns mask) (dH h%(mask+1)) (dH h)
   pure (owner.setIfInBounds j (some done.length),done.length+1))=_
  rw[f1];simp
theorem zTL(hm:Msk mask)(hn:hashes.size<=mask):∃ owner,fG mask hashes=some owner/\zIB mask hashes.toList owner hashes.size:=by
 have g0:∀ j,(Array.replicate (mask+1) (none:Option Nat)).getD j none=none:=fun j=>by
  simp only[fw];split
  ·simp
  ·rfl
 obtain⟨owner,h1,h2⟩:=zO4 hm (hs:=hashes.toList) (by simpa using hn) hashes.toList [] (Array.replicate (mask+1) none) rfl ⟨by simp,fun j k' q=>(by rw[g0] at q;cases q),by
  have:((cf (mask+1)).filterMap fun j=>(Array.replicate (mask+1) (none:Option Nat)).getD j none)=[]:=by
   rw[zDy (f:=fun u0=>none) fun i u0=>g0 i];simp
  rw[this];exact .refl _⟩
 refine⟨owner,?_,by simpa using h2⟩;unfold fG;rw[<-Array.foldl_toList];exact h1
theorem zLc{mask finger moves:Nat}{led plain:Bool}{es:80#0}(hm:Msk mask)(hn:es.size<=mask) :
  ∃ t order,SetTable.laid mask finger moves led plain (es.map (·.1))=some (t,order)/\Tab t (order.filterMap (es[·]?))/\(order.filterMap (es[·]?)).toList.Perm es.toList/\t.mask=mask/\t.led=led/\t.plain=plain/\t.dummies=#[]/\t.place.size=es.size:=by
 obtain⟨owner,h1,I⟩:=zTL hm (hashes:=es.map (·.1)) (by simpa using hn);rw[Array.size_map] at I;have lk:∀ l:List Nat,(l.filterMap fun j=>(owner.getD j none).map (j,·)).map (·.2)=l.filterMap fun j=>owner.getD j none:=fun l=>by
  rw[List.map_filterMap];apply zDy;intro i u0;cases owner.getD i none<;>rfl
 have lm:∀(l:42#0) (p:Nat×Nat),p∈(l.filterMap fun j=>(owner.getD j none).map (j,·))↔p.1∈l/\owner.getD p.1 none=some p.2:=fun l p=>by
  rw[List.mem_filterMap];constructor
  ·rintro⟨j,hj,e⟩
   cases q:owner.getD j none with
   | none=>rw[q] at e;cases e
   | some k=>rw[q] at e;cases e;exact⟨hj,q⟩
  ·rintro⟨a,b⟩
   exact⟨p.1,a,by rw[b];rfl⟩
 have pm:=I.perm;have kn:∀ k∈((cf (mask+1)).filterMap fun j=>(owner.getD j none).map (j,·)).map (·.2),k<es.size:=fun k hk=>by
  rw[lk] at hk;exact cz.mp (pm.mem_iff.mp hk)
 have es':(((cf (mask+1)).filterMap fun j=>(owner.getD j none).map (j,·)).map (·.2)).filterMap (es[·]?)=(((cf (mask+1)).filterMap fun j=>(owner.getD j none).map (j,·)).map (·.2)).map fun k=>es.getD k (0,.none):=by
  have:∀ l:List Nat,(∀ k∈l,k<es.size)->l.filterMap (es[·]?)=l.map fun k=>es.getD k (0,.none):=by
   intro l
   induction l with
   | nil=>intro u0;rfl
   | cons a l ih =>
    intro hl;have ha:=hl a cK;rw[eU (b:=es.getD a (0,.none)) (by simp[fw,ha]),dq,ih fun k hk=>hl k (cJ _ hk)]
  exact this _ kn
 have hlen:((cf (mask+1)).filterMap fun j=>(owner.getD j none).map (j,·)).length=es.size:=by
  have:=congrArg List.length (lk (cf (mask+1)));rw[cg,pm.length_eq,cX] at this;exact this
 generalize hL:(cf (mask+1)).filterMap (fun j=>(owner.getD j none).map (j,·))=L at *;refine⟨{ mask,place:=(L.map (·.1)).toArray,dummies:=#[],finger,led,moves,plain },(L.map (·.2)).toArray,?_,?_⟩
 ·unfold SetTable.laid
  rw[h1];show some _=_;rw[hL]
 ·have eo:((L.map (·.2)).toArray.filterMap (es[·]?)).toList=L.map fun p=>es.getD p.2 (0,.none):=by
   rw[Array.toList_filterMap];show(L.map (·.2)).filterMap (es[·]?)=_;rw[es',de];rfl
  have rs:Ris (L.map (·.1)).toArray:=by
   unfold Ris;have:=HI.zBJ (fun j=>owner.getD j none) (cf (mask+1));rw[hL] at this;exact eA.sublist this List.pairwise_lt_range
  have ls:∀ p,p∈L->p.1<=mask/\owner.getD p.1 none=some p.2:=fun p hp=>by
   have:=(lm (cf (mask+1)) p).mp (by rw[hL];exact hp);exact⟨by have:=cz.mp this.1;omega,this.2⟩
  have rd:Ris (#[]:Array Nat):=eA.nil;refine⟨⟨hm,?_,rs,rd,fun j hj=>?_,fun j hj=>by simp at hj,?_,fun j h x he=>?_,fun j hj=>by simp at hj⟩,?_,rfl,rfl,rfl,rfl,?_⟩
  ·have:=congrArg List.length eo
   rw[cC,cg] at this;show(L.map (·.1)).toArray.size=_;rw[this];simp
  ·have:j∈L.map (·.1):=by simpa using hj
   obtain⟨p,hp,rfl⟩:=cx.mp this;exact(ls p hp).1
  ·show(L.map (·.1)).toArray.size+0<=mask
   simp;omega
  ·obtain⟨i,e1,e2⟩:=he
   have e1':(L.map (·.1))[i]?=some j:=by simpa using e1
   have e2':(L.map fun p=>es.getD p.2 (0,.none))[i]?=some (h,x):=by rw[<-eo];simpa using e2
   rw[cZ] at e1' e2';cases q:L[i]? with
   | none=>rw[q] at e1';cases e1'
   | some p =>
    rw[q] at e1' e2';have e1'':p.1=j:=by simpa using e1'
    have e2'':es.getD p.2 (0,.none)=(h,x):=by simpa using e2'
    obtain⟨u0,l2⟩:=ls p (cW q);obtain⟨h',n,w1,w2,w3⟩:=I.way p.1 p.2 l2;have hk:p.2<es.size:=kn p.2 (cx.mpr ⟨p,cW q,rfl⟩);have:h'=h:=by
     have w1':(es.map (·.1)).toList[p.2]?=some h':=w1;simp[hk] at w1';have:es[p.2]=(h,x):=by simpa[fw,hk] using e2''
     rw[this] at w1';exact w1'.symm
    subst this;refine⟨n,w2.trans e1'',fun m hm'=>?_⟩;rw[zAx rs rd];left;have:=w3 m hm';have lt:=(zF9 mask h' m).1;cases z:owner.getD (yp mask h' m).j none with
    | none=>rw[z] at this;cases this
    | some k2 =>
     have:((yp mask h' m).j,k2)∈L:=by
      rw[<-hL];exact(lm _ _).mpr ⟨cz.mpr (by simp only;omega),z⟩
     show(yp mask h' m).j∈(L.map (·.1)).toArray;simp only[List.mem_toArray];exact cx.mpr ⟨_,this,rfl⟩
  ·rw[eo]
   have e3:es.toList=(cf es.size).map fun k=>es.getD k (0,.none):=by
    apply List.ext_getElem
    ·simp
    ·intro i h1 h2
     have:i<es.size:=by simpa using h1
     simp[fw,this]
   rw[e3];have e4:(L.map fun p=>es.getD p.2 (0,.none))=(L.map (·.2)).map fun k=>es.getD k (0,.none):=by rw[de];rfl
   rw[e4];refine eX.map _ ?_;have:=lk (cf (mask+1));rw[hL] at this;rw[this];exact pm
  ·show(L.map (·.1)).toArray.size=_
   simp[hlen]
open HI (Ris)
noncomputable def zUJ:Value->Int
 | .int k _=>k
 | _=>0
noncomputable def kyT(h:Heap)(e:Int×Value):List Int:=match e.2 with
 | .ref c=>(match h.get? c with | some o=>(match o.data with | .seq its _=>its.toList.map zUJ | _=>[]) | none=>[])
 | _=>[]
section
variable {prog:Program} {w:World} {P:Addr->Prop} {A:Around} {E:Value->Shared->Prop} {s:Shared}
theorem zMs(h:ItemsAre 134#0 ns vs):vs.map zUJ=ns:=by
 induction h with
 | nil=>rfl
 | cons h1 _ ih =>
  obtain⟨t,rfl⟩:=Value.isInt_shape h1;rw[dq,ih];rfl
theorem zAY(x:TK prog w P h ns c)(n:Int):kyT h (n,.ref c)=ns:=by
 obtain⟨⟨o,its,m,ho,hc,hd,hi⟩,u0⟩:=x;unfold kyT;simp only[ho,hd];exact zMs hi
theorem OkT.mem(x:OkT prog w P h es):∀ e∈es.toList,∃ c,e=(hT prog w (kyT h e),.ref c)/\TK prog w P h (kyT h e) c:=fun e he=>by
 obtain⟨i,hi,rfl⟩:=eE he;obtain⟨c,ms,e1,e2⟩:=x i es.toList[i] (by simpa using hi);have:kyT h es.toList[i]=ms:=by rw[e1];exact zAY e2 _
 rw[this];exact⟨c,e1,e2⟩
theorem OkT.of{h:Heap}{es:80#0}(x:∀ e∈es.toList,∃ c ms,e=(hT prog w ms,.ref c)/\TK prog w P h ms c):OkT prog w P h es:=fun i e he=>x e (by
 have:=cW (l:=es.toList) (i:=i) (a:=e) (by simpa using he);exact this)
theorem OkT.perm(x:OkT prog w P h es)(p:es'.toList.Perm es.toList):OkT prog w P h es':=.of fun e he=>by
 obtain⟨c,e1,e2⟩:=x.mem e (p.mem_iff.mp he);exact⟨c,_,e1,e2⟩
theorem TK.keep{h h':Heap}{ns:129#0}{c:Addr}(x:TK prog w P h ns c)(k:∀ o,h.get? c=some o->h'.get? c=some o):TK prog w P h' ns c:=let ⟨⟨o,i,n,e,r⟩,q⟩:=x;⟨⟨o,i,n,k o e,r⟩,q⟩
theorem OkT.keep{h h':Heap}{es:80#0}(x:OkT prog w P h es)(k:∀ c o its n,h.get? c=some o->o.data=.seq its n->h'.get? c=some o):OkT prog w P h' es/\es.toList.map (kyT h')=es.toList.map (kyT h):=by
 have tk:∀ {ns c},TK prog w P h ns c->TK prog w P h' ns c:=fun {ns c} q=>let ⟨⟨o,i,n,e,c1,d,r⟩,q⟩:=q;⟨⟨o,i,n,k _ o i n e d,c1,d,r⟩,q⟩;refine⟨fun i e he=>?_,dL fun e he=>?_⟩
 ·obtain⟨c,ms,e1,e2⟩:=x i e he
  exact⟨c,ms,e1,tk e2⟩
 ·obtain⟨c,e1,e2⟩:=x.mem e he
  have h1:=zAY (tk e2) (hT prog w (kyT h e));rw[<-e1] at h1;exact h1
noncomputable def ST(prog:Program)(w:World)(P:Addr->Prop)(h:Heap)(a:Addr)(kys:30#0):Prop:=∃ o es ep t,h.get? a=some o/\o.ExactSet/\o.data=.set es ep t/\Tab t es/\OkT prog w P h es/\t.plain=true/\t.led=HI.ym w/\t.fill*5<t.mask*3/\kys.Perm (es.toList.map (kyT h))/\kys.Nodup/\t.dummies.size=0
theorem ST.keep{h h':Heap}{a:Addr}{kys:30#0}(x:ST prog w P h a kys)(k:∀ b o,h.get? b=some o->h'.get? b=some o):ST prog w P h' a kys:=by
 obtain⟨o,es,ep,t,h1,h2,h3,h4,h5,h6,h7,h8,h9,h10⟩:=x;obtain⟨k1,k2⟩:=h5.keep fun c o u0 u0 e u0=>k c o e;exact⟨o,es,ep,t,k _ _ h1,h2,h3,h4,k1,h6,h7,h8,by rw[k2];exact h9,h10⟩
theorem size_of(n:Nat)(h:n<=40000):Msk (dg (n*4)-1)/\n*5<(dg (n*4)-1)*3/\dg (n*4)<=600000:=by
 obtain⟨b,h1,h2,h3,h4⟩:=zF8 (n:=n*4) 1#0;rw[h2];exact⟨⟨b,h1,by omega⟩,by omega,by omega⟩
end
end HT3
namespace HT2
open PySem PySem.Spec HT3
open HI (Ris)
section
variable {prog:Program} {w:World} {P:Addr->Prop} {A:Around} {E:Value->Shared->Prop} {s:Shared}
noncomputable def ST(prog:Program)(w:World)(P:Addr->Prop)(h:Heap)(a:Addr)(kys:30#0):Prop:=∃ o es ep t,h.get? a=some o/\o.ExactSet/\o.data=.set es ep t/\Tab t es/\OkT prog w P h es/\t.plain=true/\t.led=HI.ym w/\t.fill*5<t.mask*3/\kys.Perm (es.toList.map (kyT h))/\kys.Nodup/\t.mask<=255
theorem ST.keep{h h':Heap}{a:Addr}{kys:30#0}(x:ST prog w P h a kys)(k:∀ b o,h.get? b=some o->h'.get? b=some o):ST prog w P h' a kys:=by
 obtain⟨o,es,ep,t,h1,h2,h3,h4,h5,h6,h7,h8,h9,h10⟩:=x;obtain⟨k1,k2⟩:=h5.keep fun c o u0 u0 e u0=>k c o e;exact⟨o,es,ep,t,k _ _ h1,h2,h3,h4,k1,h6,h7,h8,by rw[k2];exact h9,h10⟩
theorem size_of(n:Nat)(h:n<=63):Msk (dg (n*4)-1)/\n*5<(dg (n*4)-1)*3/\dg (n*4)<=256:=by
 obtain⟨b,h1,h2,h3,h4⟩:=zF8 (n:=n*4) 1#0;rw[h2];refine⟨⟨b,h1,by omega⟩,by omega,?_⟩;rcases h4 with h4 | h4
 ·omega
 ·have:b<9:=by
   refine Nat.lt_of_not_le fun hb=>?_;have:=et (n:=2) 1#0 hb;omega
  have:=et (n:=2) 1#0 (show b<=8 by omega);omega
end
end HT2
namespace HT3
open PySem PySem.Spec
open HI (Ris)
section
variable {prog:Program} {w:World} {P:Addr->Prop} {A:Around} {E:Value->Shared->Prop} {s:Shared}
theorem fits_of(T:Tab t es):t.fits es.size=true:=by
 unfold SetTable.fits;simp[T.size,T.room]
theorem zBB{h:Heap}{a:Addr}{o:Obj}{es:80#0}{ep:Nat}{t:SetTable}{es':80#0}{t':SetTable}(ho:h.get? a=some o)(hd:o.data=.set es ep t) :
  (h.update a (Obj.putSet es' t')).get? a=some { o with data:=.set es' (ep+1) t' }:=by
 rw[<-putSet_of es' t' hd];exact dk _ ho (by rw[putSet_of es' t' hd];rfl)
theorem zO5{a:Addr}{o:Obj}{es:80#0}{ep:Nat}{t:SetTable}{n:Nat}{Q:Unit->Shared->Prop}(ho:s.heap.get? a=some o)(hd:o.data=.set es ep t)(T:Tab t es)(hm:Msk (dg n-1))(hn:es.size<=dg n-1)(hz:dg n<=600000)
  (h:∀ es' t',Tab t' es'->es'.toList.Perm es.toList->t'.plain=t.plain->t'.led=t.led->t'.mask=dg n-1->t'.fill=es.size->Q () { s with heap:=s.heap.update a (Obj.putSet es' t') }) :
  wpAny 3#0 A (setRelay a n) Q E s:=by
 obtain⟨t',order,h1,h2,h3,h4,h5,h6,h7,h8⟩:=zLc (mask:=dg n-1) (finger:=t.finger) (moves:=t.movedTo (dg n-1)) (led:=t.led) (plain:=t.plain) hm hn;unfold setRelay;refine bW (di ho hd (fits_of T) ?_);dsimp only;rw[if_neg 101#0];have hr:t.relaid (es.map (·.1)) n=some (t',order):=h1;have sz:(order.filterMap (es[·]?)).size=es.size:=by
  have:=h3.length_eq;rw[cC,cC] at this;exact this
 refine bW (eT (a:=(order.filterMap (es[·]?),t')) ?_ ?_)
 ·rw[hr]
  show(if ((order.filterMap (es[·]?)).size != es.size)=true then _ else _)=_;rw[if_neg (by rw[sz];simp)]
 ·dsimp only
  refine wpAny_storeSet_of ho hd (h _ t' h2 h3 h6 h5 h4 ?_) ?_
  ·show t'.place.size+t'.dummies.size=_
   rw[h7,h8];rfl
  ·rw[sz,sizeLine_eq];omega
theorem zIC(hA:A.units<cLine)(hS:79#0)(hb:105#0)(room:kys.length<=9000)
  (h:∀ h' kys' r,dt a s.heap h'->ST prog w P h' a kys'->kys'.Perm (if ns∈kys then kys else kys++[ns])->Q r { s with heap:=h' }):wpAny 3#0 A (setAddHashed a (.ref b) 66#0) Q E s:=by
 obtain⟨o,es,ep,t,h1,h2,h3,h4,h5,h6,h7,h8,h9,h10,h11⟩:=id hS;have esz:es.size=kys.length:=by have:=h9.length_eq;simp at this;omega
 have hky:∀(i:Nat) e c ms,es[i]?=some e->e.2=.ref c->TK prog w P s.heap ms c->ms∈kys:=fun i e c ms e1 e2 e3=>by
  rw[h9.mem_iff];refine cx.mpr ⟨e,cW (l:=es.toList) (i:=i) (by simpa using e1),?_⟩;obtain⟨e0,ev⟩:=e;simp only at e2;subst e2;exact zAY e3 _
 unfold setAddHashed;refine df ?_;unfold setAddHashedIn;refine bW (di h1 h3 (fits_of h4) ?_);sleep 13
 ·have hin:ns∈kys:=hky i _ c ns e1 rfl e2
  simp only[↓reduceIte];refine cc ?_;exact h s.heap kys false ⟨rfl,fun u0 u0=>rfl⟩ hS (by rw[if_pos hin])
 ·have hnk:ns∉kys:=fun q=>by
   sleep 9
  dsimp only;sleep 29;have mge:7<=t.mask:=h4.msk.ge
  -- the place
  have hp:∃ n j,d.getD (yp t.mask 66#0 N).j=j/\(yp t.mask 66#0 n).j=j/\(∀ m,m<n->zDx t (yp t.mask 66#0 m).j)/\(t.slot j=.empty\/t.slot j=.dummy)/\(d.isSome=true->t.slot j=.dummy):=by
   cases d with
   | none=>exact⟨N,_,rfl,rfl,n3,.inl n2,fun q=>by cases q⟩
   | some j =>
    obtain⟨d1,m,d2,d3⟩:=hd j rfl;exact⟨m,j,rfl,d3,fun m' hm'=>n3 m' 1#0,.inr d1,fun u0=>d1⟩
  obtain⟨n,j,j1,j2,j3,j4,j5⟩:=hp;rw[j1];obtain⟨T',f1,f2⟩:=h4.put (x:=.ref b) j2 j3 j4 1#0;sleep 47;have pm:es'.toList.Perm (es.toList++[(hT prog w ns,.ref b)]):=by
   rw[<-hes'];have:=eu es (t.put j).2 (hT prog w ns,.ref b);sleep 33
  have sz':es'.size=es.size+1:=by have:=pm.length_eq;simp at this;omega
  rw[pl];simp only[↓reduceIte];refine bW (zJL hb ?_);simp only[↓reduceIte];refine bW (wpAny_storeSet_of h1 h3 ?_ 101#0)
  -- behind the store
  have ok1:OkT prog w P s.heap es':=.of fun e he=>by
   rcases cG.mp (pm.mem_iff.mp he) with q | q
   ·obtain⟨c,e1,e2⟩:=h5.mem e q;exact⟨c,_,e1,e2⟩
   ·rw[cq] at q;exact⟨b,ns,q,hb⟩
  have kp1:kys++[ns]=kys++[ns]:=rfl;have pk:(kys++[ns]).Perm (es'.toList.map (kyT s.heap)):=by
   refine eX.trans ?_ (pm.map _).symm;rw[dP];refine h9.append ?_;rw[List.map_singleton,zAY hb]
  have nd1:(kys++[ns]).Nodup:=fK.mpr ⟨h10,by simp,fun x hx y hy e=>by rw[cq] at hy;exact hnk (by rw[<-hy,<-e];exact hx)⟩;have fin:∀(es2:80#0) (t2:SetTable) (ep2:Nat) (h':Heap),dt a s.heap h'->h'.get? a=some { o with data:=.set es2 ep2 t2 }->Tab t2 es2->es2.toList.Perm es'.toList->t2.plain=true->t2.led=HI.ym w->t2.fill*5<t2.mask*3->t2.dummies.size=0->Q true { s with heap:=h' }:=fun es2 t2 ep2 h' sb g T2 p2 pl2 ld2 fl2 dm2=>by
   have kk:∀ c o' its n,s.heap.get? c=some o'->o'.data=.seq its n->h'.get? c=some o':=fun c o' its n e1 e2=>by
    sleep 58
   obtain⟨k1,k2⟩:=(ok1.perm p2).keep kk;refine h h' (kys++[ns]) true sb ⟨_,es2,ep2,t2,g,h2,rfl,T2,k1,pl2,ld2,fl2,?_,nd1,dm2⟩ (by rw[if_neg hnk]);rw[k2];exact pk.trans (p2.map _).symm
  sleep 46
  ·rw[if_pos hrl]
   have so:=size_of (es.size+1) 1#0;have gw:SetTable.grown (es.size+1)=(es.size+1)*4:=by unfold SetTable.grown;rw[if_neg 1#0]
   rw[gw];refine bW (zO5 (s:={ s with heap:=s.heap.update a (Obj.putSet es' (t.put j).1) }) g1 rfl T' so.1 (by rw[sz'];omega) so.2.2 fun es2 t2 T2 p2 pl2 ld2 mk2 fl2=>?_);refine cc 120#0
   ·rw[fl2,mk2,sz']
    exact so.2.1
   ·have a:=T2.size
    have b:=p2.length_eq;rw[cC,cC] at b;unfold SetTable.fill at fl2;omega
  ·rw[if_neg hrl]
   refine cc (fin es' (t.put j).1 _ _ s1 g1 T' (.refl _) pl ld ?_ ?_)
   rotate_left
   ·have a:=T'.size
    have c:=h4.size;unfold SetTable.fill at f1;omega
   cases hd':d.isSome with
   | true =>
    rw[f2 (j5 hd'),mk];exact h8
   | false =>
    rw[hd'] at hrl;have:(t.put j).1.tooFull=false:=by simpa using hrl
    unfold SetTable.tooFull at this;sleep 33
 ·have a:=h4.size
  unfold SetTable.fill at n1;omega
end
end HT3
namespace HT2
open PySem PySem.Spec HT3
open HI (Ris)
section
variable {prog:Program} {w:World} {P:Addr->Prop} {A:Around} {E:Value->Shared->Prop} {s:Shared}
theorem fits_of(T:Tab t es):t.fits es.size=true:=by
 unfold SetTable.fits;simp[T.size,T.room]
theorem zBB{h:Heap}{a:Addr}{o:Obj}{es:80#0}{ep:Nat}{t:SetTable}{es':80#0}{t':SetTable}(ho:h.get? a=some o)(hd:o.data=.set es ep t) :
  (h.update a (Obj.putSet es' t')).get? a=some { o with data:=.set es' (ep+1) t' }:=by
 rw[<-putSet_of es' t' hd];exact dk _ ho (by rw[putSet_of es' t' hd];rfl)
theorem zIC(hA:A.units<cLine)(hS:79#0)(hb:105#0)(room:kys.length<=60)
  (h:∀ h' kys' r,dt a s.heap h'->ST prog w P h' a kys'->kys'.Perm (if ns∈kys then kys else kys++[ns])->Q r { s with heap:=h' }):wpAny 3#0 A (setAddHashed a (.ref b) 66#0) Q E s:=by
 obtain⟨o,es,ep,t,h1,h2,h3,h4,h5,h6,h7,h8,h9,h10,h11⟩:=id hS;have esz:es.size=kys.length:=by have:=h9.length_eq;simp at this;omega
 have hky:∀(i:Nat) e c ms,es[i]?=some e->e.2=.ref c->TK prog w P s.heap ms c->ms∈kys:=fun i e c ms e1 e2 e3=>by
  rw[h9.mem_iff];refine cx.mpr ⟨e,cW (l:=es.toList) (i:=i) (by simpa using e1),?_⟩;obtain⟨e0,ev⟩:=e;simp only at e2;subst e2;exact zAY e3 _
 unfold setAddHashed;refine df ?_;unfold setAddHashedIn;refine bW (di h1 h3 (fits_of h4) ?_);sleep 13
 ·have hin:ns∈kys:=hky i _ c ns e1 rfl e2
  simp only[↓reduceIte];refine cc ?_;exact h s.heap kys false ⟨rfl,fun u0 u0=>rfl⟩ hS (by rw[if_pos hin])
 ·have hnk:ns∉kys:=fun q=>by
   sleep 9
  dsimp only;sleep 29;have mge:7<=t.mask:=h4.msk.ge
  -- the place
  have hp:∃ n j,d.getD (yp t.mask 66#0 N).j=j/\(yp t.mask 66#0 n).j=j/\(∀ m,m<n->zDx t (yp t.mask 66#0 m).j)/\(t.slot j=.empty\/t.slot j=.dummy)/\(d.isSome=true->t.slot j=.dummy):=by
   cases d with
   | none=>exact⟨N,_,rfl,rfl,n3,.inl n2,fun q=>by cases q⟩
   | some j =>
    obtain⟨d1,m,d2,d3⟩:=hd j rfl;exact⟨m,j,rfl,d3,fun m' hm'=>n3 m' 1#0,.inr d1,fun u0=>d1⟩
  obtain⟨n,j,j1,j2,j3,j4,j5⟩:=hp;rw[j1];obtain⟨T',f1,f2⟩:=h4.put (x:=.ref b) j2 j3 j4 1#0;sleep 47;have pm:es'.toList.Perm (es.toList++[(hT prog w ns,.ref b)]):=by
   rw[<-hes'];have:=eu es (t.put j).2 (hT prog w ns,.ref b);sleep 33
  have sz':es'.size=es.size+1:=by have:=pm.length_eq;simp at this;omega
  rw[pl];simp only[↓reduceIte];refine bW (zJL hb ?_);simp only[↓reduceIte];refine bW (wpAny_storeSet_of h1 h3 ?_ 101#0)
  -- behind the store
  have ok1:OkT prog w P s.heap es':=.of fun e he=>by
   rcases cG.mp (pm.mem_iff.mp he) with q | q
   ·obtain⟨c,e1,e2⟩:=h5.mem e q;exact⟨c,_,e1,e2⟩
   ·rw[cq] at q;exact⟨b,ns,q,hb⟩
  have kp1:kys++[ns]=kys++[ns]:=rfl;have pk:(kys++[ns]).Perm (es'.toList.map (kyT s.heap)):=by
   refine eX.trans ?_ (pm.map _).symm;rw[dP];refine h9.append ?_;rw[List.map_singleton,zAY hb]
  have nd1:(kys++[ns]).Nodup:=fK.mpr ⟨h10,by simp,fun x hx y hy e=>by rw[cq] at hy;exact hnk (by rw[<-hy,<-e];exact hx)⟩;have fin:∀(es2:80#0) (t2:SetTable) (ep2:Nat) (h':Heap),dt a s.heap h'->h'.get? a=some { o with data:=.set es2 ep2 t2 }->Tab t2 es2->es2.toList.Perm es'.toList->t2.plain=true->t2.led=HI.ym w->t2.fill*5<t2.mask*3->t2.mask<=255->Q true { s with heap:=h' }:=fun es2 t2 ep2 h' sb g T2 p2 pl2 ld2 fl2 mk2'=>by
   have kk:∀ c o' its n,s.heap.get? c=some o'->o'.data=.seq its n->h'.get? c=some o':=fun c o' its n e1 e2=>by
    sleep 58
   obtain⟨k1,k2⟩:=(ok1.perm p2).keep kk;refine h h' (kys++[ns]) true sb ⟨_,es2,ep2,t2,g,h2,rfl,T2,k1,pl2,ld2,fl2,?_,nd1,mk2'⟩ (by rw[if_neg hnk]);rw[k2];exact pk.trans (p2.map _).symm
  sleep 46
  ·rw[if_pos hrl]
   have so:=size_of (es.size+1) 1#0;have gw:SetTable.grown (es.size+1)=(es.size+1)*4:=by unfold SetTable.grown;rw[if_neg 1#0]
   rw[gw];refine bW (zO5 (s:={ s with heap:=s.heap.update a (Obj.putSet es' (t.put j).1) }) g1 rfl T' so.1 (by rw[sz'];omega) (by have:=so.2.2;omega) fun es2 t2 T2 p2 pl2 ld2 mk2 fl2=>?_);refine cc 120#0
   ·rw[fl2,mk2,sz']
    exact so.2.1
   ·have:=so.2.2
    omega
  ·rw[if_neg hrl]
   refine cc (fin es' (t.put j).1 _ _ s1 g1 T' (.refl _) pl ld ?_ (by have:(t.put j).1.mask=t.mask:=mk;omega));cases hd':d.isSome with
   | true =>
    rw[f2 (j5 hd'),mk];exact h8
   | false =>
    rw[hd'] at hrl;have:(t.put j).1.tooFull=false:=by simpa using hrl
    unfold SetTable.tooFull at this;sleep 33
 ·omega
end
end HT2
namespace HT2
open HT3
open HI (Ris yX ym zAv)
noncomputable def Kp(h0 h:Heap):Prop:=∀ b o,h0.get? b=some o->h.get? b=some o
section
variable {prog:Program} {w:World} {P:Addr->Prop} {A:Around} {R:Result->Shared->Prop} {h0:Heap} {S I:Addr} {fp wr:List Addr} {n:Nat} {its:Array Value} {val:Nat->List Int} {St:Nat->Heap->Prop} {g:Array GenState} {d:Drawn} {os:OsState}
theorem zCp(W:Walks prog w A.in1 I fp wr n (fun i v=>its[i]?=some v) St)(hA:A.in1.units<cLine)(hSf:S∉fp)(hS:h0.get? S=none)(hwr:∀ b∈wr,h0.get? b=none)(hwd:∀ i h,St i h->∀ b∈wr,∀ o,h.get? b=some o->∀ its n,o.data≠.seq its n)(hb:n<=60)
  (ht:∀ i v,its[i]?=some v->∃ c,v=.ref c/\TK prog w P h0 (val i) c) :
  ∀(k i:Nat) (h:Heap) (tk:Nat) (kys:30#0),n-i=k->i<=n->Kp h0 h->St i h->ST prog w P h S kys->kys.length<=i->(∀ x,x∈kys↔∃ m,m<i/\val m=x) ->
   122#0 ->
   codeAny 3#0 A (.builtin "set.update.loop" ⟨[.ref S,.ref I],[]⟩) R ⟨h,g,d,tk,os⟩:=by
 have hSw:S∉wr:=fun q=>hSf (W.sub _ q);have kpw:∀ {h h':Heap},Kp h0 h->128#0->Kp h0 h':=fun {h h'} kp e b o q=>e b o (fun z=>by rw[hwr b z] at q;cases q) (kp b o q);have stw:∀ {h h':Heap} {kys},ST prog w P h S kys->128#0->(∀ b o,b∈wr->h.get? b=some o->∀ its n,o.data≠.seq its n)->ST prog w P h' S kys:=fun {h h' kys} x e e2=>by
  obtain⟨o,es,ep,t,h1,h2,h3,h4,h5,h6,h7,h8,h9,h10⟩:=x;obtain⟨k1,k2⟩:=h5.keep fun c o its n q1 q2=>e c o (fun z=>e2 c o z q1 its n q2) q1;exact⟨o,es,ep,t,e _ _ hSw h1,h2,h3,h4,k1,h6,h7,h8,by rw[k2];exact h9,h10⟩
 intro k
 induction k with
 | zero =>
  intro i h tk kys hk hi kp st hst hl mem hR;obtain rfl:i=n:=by omega
  sleep 8;refine bW (W.done _ _ _ st fun h' tk' e=>cc (hR h' tk' kys (kpw kp e) (stw hst e fun b o z q=>hwd _ _ st b z o q) hl mem))
 | succ k ih =>
  intro i h tk kys hk hi kp st hst hl mem hR;have lt:i<n:=by omega
  sleep 8;refine bW (W.item i _ _ _ lt st fun v h1 tk1 hP st1 e1=>?_);obtain⟨c,rfl,hc⟩:=ht i v hP;have kp1:Kp h0 h1:=kpw kp e1;have hst1:=stw hst e1 fun b o z q=>hwd _ _ st b z o q;have hc1:TK prog w P h1 (val i) c:=hc.keep fun o q=>kp1 c o q;show wpAny _ A.in1 (holding [Value.ref c] (setAdd S (.ref c))>>=_) _ _ _;refine bW (df ?_);unfold setAdd;refine df (bW ((tupleKind 134#0).pyHash (k:=val i) hA hc1.1 ?_));refine zIC (s:=⟨h1,g,d,tk1+((val i).length+1),os⟩) hA hst1 hc1 1#0 fun h2 kys2 r sb st2 pm=>?_;have len2:kys2.length<=i+1:=by
   rw[pm.length_eq];split
   ·omega
   ·rw[cD];simp;omega
  have mem2:∀ x,x∈kys2↔∃ m,m<i+1/\val m=x:=fun x=>by
   rw[pm.mem_iff];constructor
   ·intro q
    split at q
    ·obtain⟨m,h1,h2⟩:=(mem x).mp q
     exact⟨m,by omega,h2⟩
    ·rcases cG.mp q with q | q
     ·obtain⟨m,h1,h2⟩:=(mem x).mp q
      exact⟨m,by omega,h2⟩
     ·rw[cq] at q
      exact⟨i,by omega,q.symm⟩
   ·rintro⟨m,h1,h2⟩
    rcases e7 m i with z | z
    ·have:=(mem x).mpr ⟨m,z,h2⟩
     split
     ·exact this
     ·exact e9 _ this
    ·obtain rfl:m=i:=by omega
     split
     ·rename_i q;rw[<-h2];exact q
     ·rw[<-h2];simp
  have kp2:Kp h0 h2:=fun b o q=>by
   rw[sb.2 b (fun z=>by subst z;rw[hS] at q;cases q)];exact kp1 b o q
  refine cc ⟨plainId_quiet F.plain_set_update_loop _,ih (i+1) h2 _ kys2 1#0 lt kp2 (W.frame _ _ _ st1 fun b hb' o e=>?_) st2 len2 mem2 hR⟩;rw[sb.2 b (fun q:b=S=>hSf (by rw[<-q];exact hb'))];exact e
end
end HT2
namespace HT2
open PySem PySem.Spec HT3
open HI (Ris)
section
variable {prog:Program} {w:World} {P:Addr->Prop} {A:Around} {E:Value->Shared->Prop} {s:Shared}
theorem zQ3(hA:A.units<cLine)(h1:s.heap.get? a=some o)(h3:o.data=.set es ep t)(h4:Tab t es)(h5:OkT prog w P s.heap es)(hmk:t.mask<=255)(hb:105#0)
  (q1:∀(i:Nat) c,es[i]?=some (hT prog w ns,.ref c)->TK prog w P s.heap ns c->Q (some i) s) (q2:(∀(i:Nat) e c ms,es[i]?=some e->e.2=.ref c->TK prog w P s.heap ms c->ms≠ns)->Q none s) :
  wpAny 3#0 A (setFind a (.ref b) 66#0) Q E s:=by
 unfold setFind setFindIn;sleep 29;rw[if_neg (by simp[byScan,Value.scannable])];obtain⟨N,n1,n2,n3⟩:=h4.stop 66#0;refine bW ?_;unfold setSearch;refine zTI (Q:=_) hA h1 h3 h4 h5 hb (by have:=h4.room;omega) n2 n3 (adding:=false) (fun i c e1 e2=>?_) (fun hno d hd=>?_) (N-0) 0 100000 none none rfl (dG _) ?_ (fun j q=>by cases q) rfl (fun m hm=>absurd hm (fH _))
 ·exact cc (q1 i c e1 e2)
 ·exact cc (q2 hno)
 ·have:=h4.room;omega
theorem zKd(hA:A.units<cLine)(hS:79#0)(hb:105#0)
  (h:∀ h' kys',dt a s.heap h'->ST prog w P h' a kys'->kys'.Perm (kys.erase ns)->Q (decide (ns∈kys)) { s with heap:=h' }):wpAny 3#0 A (setDiscardHashed a (.ref b) 66#0) Q E s:=by
 obtain⟨o,es,ep,t,h1,h2,h3,h4,h5,h6,h7,h8,h9,h10⟩:=id hS;unfold setDiscardHashed;refine bW (zQ3 hA h1 h3 h4 h5 h10.2 hb (fun i c e1 e2=>?_) (fun hno=>?_))
 ·dsimp only
  have hi:i<es.size:=(eJ.mp e1).1;have eL:es.toList[i]?=some (hT prog w ns,.ref c):=by simpa using e1
  have hin:ns∈kys:=by
   rw[h9.mem_iff];exact cx.mpr ⟨_,cW eL,zAY e2 _⟩
  have pl:t.place[i]?=some (t.place[i]'(by rw[h4.size];exact hi)):=by simp[h4.size,hi]
  obtain⟨T',fz⟩:=h4.drop pl;sleep 29;have sz:(cP es i).size<=es.size:=by
   rw[<-cC,zb,cD,cS,dN];simp only[cC];omega
  have esl:es.size<=255:=by
   have:=h4.size;have:=h4.room;have:t.fill=t.place.size+t.dummies.size:=rfl;rcases h4.msk with z | z | z | z | z | z<;>omega
  refine bW (wpAny_storeSet_of h1 h3 (bW (wpAny_point (cc ?_))) 101#0);have sb:dt a s.heap (s.heap.update a (Obj.putSet (cP es i) (t.drop i))):=dt.update ..;have g:=zBB (es':=cP es i) (t':=t.drop i) h1 h3;have pe:es.toList.Perm ((hT prog w ns,.ref c)::(cP es i).toList):=by rw[zb];exact zLb eL
  have ok1:OkT prog w P s.heap (cP es i):=.of fun e he=>by
   obtain⟨c,e1,e2⟩:=h5.mem e (pe.mem_iff.mpr (cJ _ he));exact⟨c,_,e1,e2⟩
  have kk:∀ c o' its n,s.heap.get? c=some o'->o'.data=.seq its n->(s.heap.update a (Obj.putSet (cP es i) (t.drop i))).get? c=some o':=fun c o' its n e1 e2=>by
   sleep 58
  obtain⟨k1,k2⟩:=ok1.keep kk;have pk:(kys.erase ns).Perm ((cP es i).toList.map (kyT s.heap)):=by
   have:=h9.trans (pe.map (kyT s.heap));rw[dq,zAY e2] at this;have:=this.erase ns;rwa [List.erase_cons_head] at this
  have dr:(t.drop i).mask=t.mask/\(t.drop i).plain=t.plain/\(t.drop i).led=t.led:=by
   unfold SetTable.drop;rw[pl];exact⟨rfl,rfl,rfl⟩
  have:=h _ (kys.erase ns) sb ⟨_,_,_,_,g,h2,rfl,T',k1,dr.2.1.trans h6,dr.2.2.trans h7,by rw[fz,dr.1];exact h8,by rw[k2];exact pk,h10.1.erase _,by rw[dr.1];exact h10.2⟩ (.refl _);rwa [decide_eq_true hin] at this
 ·have hnk:ns∉kys:=fun q=>by
   sleep 9
  dsimp only;refine cc ?_;have:=h s.heap kys ⟨rfl,fun u0 u0=>rfl⟩ hS (by rw[List.erase_of_not_mem hnk]);rwa [decide_eq_false hnk] at this
noncomputable def zJN(ns:129#0)(kys:30#0):List (List Int):=if ns∈kys then kys.erase ns else kys++[ns]
theorem zQ4(hA:A.units<cLine)(hS:79#0)(hb:105#0)(room:kys.length<=60)
  (h:∀ h' kys',dt a s.heap h'->ST prog w P h' a kys'->kys'.Perm (zJN ns kys)->Q () { s with heap:=h' }) :
  wpAny 3#0 A (holding [.ref b] do
   if !(<-setDiscardHashed a (.ref b) 66#0) then
    let _ <-setAddHashed a (.ref b) 66#0) Q E s:=by
 refine df (bW (zKd hA hS hb fun h1 kys1 sb1 st1 p1=>?_));by_cases hin:ns∈kys
 ·rw[decide_eq_true hin]
  simp only[Bool.not_true,bX,↓reduceIte];exact cc (h h1 kys1 sb1 st1 (by unfold zJN;rw[if_pos hin];exact p1))
 ·rw[decide_eq_false hin]
  simp only[Bool.not_false,↓reduceIte];rw[List.erase_of_not_mem hin] at p1;have hb1:TK prog w P h1 ns b:=by
   obtain⟨⟨o,i,n,e,c,d,r⟩,qp⟩:=hb;obtain⟨os,es,ep,t,g1,g2,g3,u0⟩:=hS;exact⟨⟨o,i,n,by rw[sb1.2 b (fun q=>by subst q;rw[g1] at e;cases e;rw[g3] at d;cases d)];exact e,c,d,r⟩,qp⟩
  refine bW (zIC (s:={ s with heap:=h1 }) hA st1 hb1 (by rw[p1.length_eq];exact room) fun h2 kys2 r sb2 st2 p2=>cc ?_);have hin1:ns∉kys1:=fun q=>hin (p1.mem_iff.mp q);rw[if_neg hin1] at p2;exact h h2 kys2 (sb1.trans sb2) st2 (by unfold zJN;rw[if_neg hin];exact p2.trans (p1.append_right _))
end
open HI (Ris yX ym)
section
variable {prog:Program} {w:World} {P:Addr->Prop} {A:Around} {E:Value->Shared->Prop} {s:Shared}
theorem zO6(n:Nat)(h:n<=60):Msk (dg ((0+n)*2)-1)/\(n=0\/n*5<(dg ((0+n)*2)-1)*3)/\dg ((0+n)*2)<=256:=by
 obtain⟨b,h1,h2,h3,h4⟩:=zF8 (n:=(0+n)*2) 1#0;rw[h2];have:8<=2 ^ b:=et (n:=2) 1#0 h1;exact⟨⟨b,h1,by omega⟩,by omega,by omega⟩
structure New (w:World) (h:Heap) (a:Addr) (n:Nat):Prop where
 ex:∃(o:Obj) (ep:Nat) (t:SetTable),h.get? a=some o/\o.ExactSet/\o.data=.set #[] ep t/\Tab t #[]/\t.plain=true/\t.led=ym w/\t.fill=0/\(n=0\/n*5<t.mask*3)/\t.mask<=255
theorem zQ5:Tab (.fresh 0 0 (ym w)) #[]:=⟨⟨3,cr _,rfl⟩,rfl,eA.nil,eA.nil,fun j hj=>(by simp[eQ] at hj),fun j hj=>(by simp[eQ] at hj),dG _,fun j h x he=>(by
 obtain⟨i,e,u0⟩:=he;simp[eQ] at e),fun j hj=>(by simp[eQ] at hj)⟩
theorem zUK{a:Addr}{n:Nat}{Q:Unit->Shared->Prop}(hn:n<=60)(h0:s.heap.get? a=some (yX w))(h:∀ h',dt a s.heap h'->New w h' a n->Q () { s with heap:=h' }):wpAny 3#0 A (setRoomFor a n) Q E s:=by
 unfold setRoomFor;refine bW (di h0 rfl (fits_of zQ5) ?_);have rf:(eQ 0 0 (ym w)).roomFor n=if n*5≥21 then some ((0+n)*2) else none:=by
  unfold SetTable.roomFor;show(if (0+n)*5≥7*3 then some ((0+n)*2) else none)=_;rw[Nat.zero_add]
 dsimp only;rw[rf];have so:=zO6 n hn;split
 ·rename_i wanted hw
  split at hw
  ·cases hw
   refine zO5 h0 rfl zQ5 so.1 (dG _) (by have:=so.2.2;omega) fun es' t' T' p pl ld mk fl=>?_;have:es'=#[]:=by
    have:=p.length_eq;sleep 33
   subst this;exact h _ (dt.update ..) ⟨_,_,t',zBB h0 rfl,⟨rfl,rfl,rfl⟩,rfl,T',pl,ld,fl,by rw[mk];exact so.2.1,by rw[mk];have:=so.2.2;omega⟩
  ·cases hw
 ·rename_i hw
  refine cc (h s.heap ⟨rfl,fun u0 u0=>rfl⟩ ⟨_,_,_,h0,⟨rfl,rfl,rfl⟩,rfl,zQ5,rfl,rfl,rfl,.inr ?_,(by show(7:Nat)<=255;decide)⟩);show n*5<7*3;rcases e7 (n*5) 21 with z | z
  ·exact z
  ·exact(hw _ (if_pos z)).elim
theorem zMt(har:a≠r)(h0:s.heap.get? a=some (yX w))(hS:ST prog w P s.heap r kys)(hn:kys.length<=60)
  (h:∀ h',dt a s.heap h'->ST prog w P h' a kys->Q () { s with heap:=h' }):wpAny 3#0 A (setMerge a r each) Q E s:=by
 obtain⟨o,es,ep,t,h1,h2,h3,h4,h5,h6,h7,h8,h9,h10⟩:=id hS;have esz:es.size=kys.length:=by have:=h9.length_eq;simp at this;omega
 unfold setMerge;rw[if_neg (by simpa using har)];sleep 29;have nt:∀ {h':Heap},dt a s.heap h'->∀ c o' its n,s.heap.get? c=some o'->o'.data=.seq its n->h'.get? c=some o':=fun {h'} sb c o' its n e1 e2=>by
  rw[sb.2 c (fun q=>by subst q;rw[h0] at e1;cases e1;cases e2)];exact e1
 by_cases he:es.isEmpty=true
 ·rw[if_pos he]
  have e0:es=#[]:=by simpa using he
  subst e0;have k0:kys=[]:=by simpa using esz.symm
  subst k0;exact cc (h s.heap ⟨rfl,fun u0 u0=>rfl⟩ ⟨_,#[],_,_,h0,⟨rfl,rfl,rfl⟩,rfl,zQ5,fun i e q=>(by simp at q),rfl,rfl,(by show 0*5<7*3;decide),.refl _,List.nodup_nil,(by show(7:Nat)<=255;decide)⟩)
 ·rw[if_neg he]
  refine bW (zUK (n:=es.size) 1#0 h0 fun h' sb nw=>?_);obtain⟨on,epn,tn,g1,g2,g3,g4,g5,g6,g7,g8,g9⟩:=nw.ex;have hpos:0<es.size:=by
   rcases Nat.eq_zero_or_pos es.size with z | z
   ·exact(he (by simpa using z)).elim
   ·exact z
  have g8:es.size*5<tn.mask*3:=by rcases g8 with z | z<;>omega
  refine bW (di (s:={ s with heap:=h' }) g1 g3 (fits_of g4) ?_);dsimp only;obtain⟨k1,k2⟩:=h5.keep (nt sb);have fin:∀(es2:80#0) (t2:SetTable),Tab t2 es2->es2.toList.Perm es.toList->t2.plain=true->t2.led=ym w->t2.fill*5<t2.mask*3->t2.mask<=255->es2.size<=sizeLine/\Q () { s with heap:=h'.update a (Obj.putSet es2 t2) }:=fun es2 t2 T2 p2 pl2 ld2 fl2 mb=>by
   have s2:es2.size=es.size:=by have:=p2.length_eq;sleep 33
   refine⟨by rw[s2,sizeLine_eq];omega,?_⟩;have sb2:dt a s.heap (h'.update a (Obj.putSet es2 t2)):=sb.trans (dt.update ..);obtain⟨j1,j2⟩:=(h5.perm p2).keep (nt sb2);refine h _ sb2 ⟨_,es2,_,t2,zBB g1 g3,g2,rfl,T2,j1,pl2,ld2,fl2,?_,h10.1,mb⟩;rw[j2];exact h9.trans (p2.map _).symm
  have rd:tn.road t=if (tn.mask==t.mask&&t.dummies.isEmpty)=true then .slotForSlot else .clean:=by
   unfold SetTable.road;rw[g7];rfl
  rw[rd];by_cases hs:(tn.mask==t.mask&&t.dummies.isEmpty)=true
  ·rw[if_pos hs]
   dsimp only;obtain⟨f1,f2⟩:=fin es { t with finger:=tn.finger,led:=tn.led&&t.led,moves:=tn.moves,plain:=tn.plain&&t.plain } ⟨h4.msk,h4.size,h4.ris,h4.risD,h4.le,h4.leD,h4.room,h4.way,h4.dis⟩ (.refl _) (by show(tn.plain&&t.plain)=true;rw[g5,h6];rfl) (by show(tn.led&&t.led)=_;rw[g6,h7];simp) h8 h10.2;exact wpAny_storeSet_of (s:={ s with heap:=h' }) g1 g3 f2 f1
  ·rw[if_neg hs]
   dsimp only;obtain⟨t',order,l1,l2,l3,l4,l5,l6,l7,l8⟩:=zLc (mask:=tn.mask) (finger:=tn.finger) (moves:=tn.moves) (led:=tn.led&&t.led) (plain:=tn.plain&&t.plain) (es:=es) g4.msk 1#0;have sz:(order.filterMap (es[·]?)).size=es.size:=by
    have:=l3.length_eq;rw[cC,cC] at this;exact this
   refine bW (eT (a:=(order.filterMap (es[·]?),t')) ?_ ?_)
   ·rw[l1]
    show(if ((order.filterMap (es[·]?)).size != es.size)=true then _ else _)=_;rw[if_neg (by rw[sz];simp)]
   ·dsimp only
    obtain⟨f1,f2⟩:=fin (order.filterMap (es[·]?)) t' l2 l3 (by rw[l6,g5,h6];rfl) (by rw[l5,g6,h7];simp) (by
     rw[l4];have:t'.fill=t'.place.size+t'.dummies.size:=rfl;rw[this,l7,l8];simpa using g8) (by rw[l4];exact g9)
    exact wpAny_storeSet_of (s:={ s with heap:=h' }) g1 g3 f2 f1
end
end HT2
namespace HT2
open HT3
open HI (Ris yX ym zAw zAk)
theorem zO7:isSubtype (.type "set") (.type "set")=pure true:=by rw[isSubtype_type];kernel_rfl
section
variable {prog:Program} {w:World} {P:Addr->Prop} {A:Around} {E:Value->Shared->Prop} {s:Shared}
theorem zID(ho:s.heap.get? a=some o)(hc:o.cls=.type "set")(h:Q true s):wpAny 3#0 A (Builtin.Frozenset.isAnySet (.ref a)) Q E s:=by
 unfold Builtin.Frozenset.isAnySet;unfold orM;refine bW (fQ (T:="set") (b:=true) ⟨o,ho,hc⟩ zO7 ?_);exact cc h
theorem zO8(hS:ST prog w P s.heap r kys)(hn:kys.length<=60)
  (h:∀ h',29#0->ST prog w P h' s.heap.objs.size kys->Q 17#0 { s with heap:=h' }):wpAny 3#0 A (Builtin.Frozenset.newFrom nm (.type "set") (.ref r)) Q E s:=by
 obtain⟨o,es,ep,t,h1,h2,h3,h4,u0⟩:=id hS;have lr:r<s.heap.objs.size:=cy h1;unfold Builtin.Frozenset.newFrom newSet;refine bW (bW (zAw ?_));dsimp only;refine d8 ?_;refine bW (m:=Builtin.Frozenset.addrOf _) (cc ?_);show wpAny _ _ (holding [Value.ref s.heap.objs.size] (Builtin.Frozenset.updateFrom nm s.heap.objs.size (.ref r))>>=fun u0=>pure (Value.ref s.heap.objs.size)) _ _ { s with heap:=s.heap.push (yX w) };have h0:(s.heap.push (yX w)).get? s.heap.objs.size=some (yX w):=cw _ rfl;have h1':(s.heap.push (yX w)).get? r=some o:=c9 _ h1;refine bW (df ?_);unfold Builtin.Frozenset.updateFrom;refine bW (zID (s:={ s with heap:=s.heap.push (yX w) }) h1' h2.1 ?_);rw[if_pos rfl];show wpAny _ _ (Builtin.Frozenset.merge nm s.heap.objs.size r) _ _ _;unfold Builtin.Frozenset.merge;refine bW (wpAny_setEpoch_of (s:={ s with heap:=s.heap.push (yX w) }) h1' h3 (fits_of h4) ?_);refine zMt (s:={ s with heap:=s.heap.push (yX w) }) (Nat.ne_of_gt lr) h0 (hS.keep fun b o e=>c9 _ e) hn fun h' sb st=>cc ?_;refine h h' (fun b o e=>?_) st;rw[sb.2 b (cR (cy e))];exact c9 _ e
theorem zO9{a c:Addr}{o:Obj}{es:80#0}{ep:Nat}{t:SetTable}{Q:Array (Int×Value)->Shared->Prop}(ho:s.heap.get? a=some o)(hd:o.data=.set es ep t)(hf:t.fits es.size=true)(pl:t.plain=true)(ld:t.led=ym w)
  (h:∀ xs:Array (Int×Value),xs.toList.Perm es.toList->Q xs s):wpAny 3#0 A (setWalkUnseen a [c] (some c)) Q E s:=by
 unfold setWalkUnseen;refine bW (di ho hd hf (bW (zAw ?_)));dsimp only;have hc:(w.params.followText "set-order"||(t.led&&t.plain)||decide (es.size<=1))=true:=by
  rw[pl,ld];unfold HI.ym;cases w.params.followText "set-order"<;>rfl
 rw[if_pos hc];unfold setWalk;refine bW (di ho hd hf (bW (zAw ?_)));cases bt:w.params.followText "set-order" with
 | true =>
  simp only[↓reduceIte];refine bW (wpAny_askSetting (cc (h _ (zAk _ es))))
 | false =>
  simp only[bX,↓reduceIte];have ld':t.led=true:=by rw[ld];unfold HI.ym;rw[bt];rfl
  refine eC (fun q=>absurd (show(!t.plain&&decide (es.size>1))=true from q) (by rw[pl];simp)) (fun u0=>?_);refine bW (eC (fun q=>absurd q (by rw[ld'];simp)) (fun u0=>cc (cc (h es (.refl _)))))
theorem ST.but(hS:ST prog w P h r kys)(hra:r≠a)(ha:∃ o es ep t,h.get? a=some o/\o.data=.set es ep t)(sb:dt a h h'):ST prog w P h' r kys:=by
 obtain⟨o,es,ep,t,h1,h2,h3,h4,h5,h6,h7,h8,h9,h10⟩:=hS;obtain⟨oa,ea,epa,ta,g1,g2⟩:=ha;obtain⟨k1,k2⟩:=h5.keep fun c o' its n e1 e2=>by
  rw[sb.2 c (fun q=>by subst q;rw[g1] at e1;cases e1;rw[g2] at e2;cases e2)];exact e1
 exact⟨o,es,ep,t,by rw[sb.2 r hra];exact h1,h2,h3,h4,k1,h6,h7,h8,by rw[k2];exact h9,h10⟩
theorem zPA(nd:kys.Nodup)(x:129#0):x∈zJN ns kys↔(if x=ns then x∉kys else x∈kys):=by
 unfold zJN;by_cases hin:ns∈kys
 ·rw[if_pos hin,nd.mem_erase_iff]
  by_cases e:x=ns
  ·subst e;simp[hin]
  ·simp[e]
 ·rw[if_neg hin,cG,cq]
  by_cases e:x=ns
  ·subst e;simp[hin]
  ·simp[e]
theorem zQ6{nm:String}{a l:Addr}{K0 kl U:30#0}{Q:Unit->Shared->Prop}(hA:A.units<cLine)(hal:l≠a)(hS:ST prog w P s.heap a K0)(hL:ST prog w P s.heap l kl)(hU:U.length<=60)(u1:∀ x∈K0,x∈U)(u2:∀ x∈kl,x∈U)
  (h:∀ h' kys,dt a s.heap h'->ST prog w P h' a kys->(∀ x,x∈kys↔¬ (x∈K0↔x∈kl))->kys.length<=60->Q () { s with heap:=h' }) :
  wpAny 3#0 A (Builtin.Frozenset.symmetricDifferenceUpdate nm a (.ref l)) Q E s:=by
 obtain⟨o,es,ep,t,h1,h2,h3,h4,h5,h6,h7,h8,h9,h10⟩:=id hL;obtain⟨oa,ea,epa,ta,g1,g2,g3,u0⟩:=id hS;unfold Builtin.Frozenset.symmetricDifferenceUpdate;rw[if_neg (by simpa using hal)];refine bW (f7 (T:="set") ⟨o,h1,h2.1⟩ ?_);rw[if_neg 10#0];refine bW (zID h1 h2.1 ?_);rw[if_pos rfl];refine bW (cc (bW (m:=Builtin.Frozenset.addrOf _) (cc ?_)));refine bW (wpAny_setEpoch_of h1 h3 (fits_of h4) (df ?_));refine bW (zO9 h1 h3 (fits_of h4) h6 h7 fun xs pm=>?_);rw[<-Array.forIn_toList];have key:∀ e∈xs.toList,∃ c,e=(hT prog w (kyT s.heap e),.ref c)/\TK prog w P s.heap (kyT s.heap e) c:=fun e he=>h5.mem e (pm.mem_iff.mp he);have kperm:(xs.toList.map (kyT s.heap)).Perm kl:=(pm.map _).trans h9.symm;have knd:(xs.toList.map (kyT s.heap)).Nodup:=kperm.nodup_iff.mpr h10.1;refine bW (wpAny_forIn_list _ (fun rest r s'=>∃ done h' kys,xs.toList=done++rest/\s'={ s with heap:=h' }/\dt a s.heap h'/\ST prog w P h' a kys/\∀ x,x∈kys↔¬ (x∈K0↔x∈done.map (kyT s.heap))) _ ?_ ?_ _ _ ⟨[],s.heap,K0,rfl,rfl,⟨rfl,fun u0 u0=>rfl⟩,hS,fun x=>by simp⟩)
 ·rintro e rest r s' ⟨done,h',kys,e1,rfl,sb,st,mem⟩
  have he:e∈xs.toList:=by rw[e1];simp
  obtain⟨c,e2,e3⟩:=key e he;generalize hns:kyT s.heap e=ns at e2 e3;subst e2;have e3':TK prog w P h' ns c:=by
   obtain⟨⟨o',i,n,q1,q2,q3,q4⟩,qp⟩:=e3;exact⟨⟨o',i,n,by rw[sb.2 c (fun q=>by subst q;rw[g1] at q1;cases q1;rw[g3] at q3;cases q3)];exact q1,q2,q3,q4⟩,qp⟩
  have hl':=hL.but hal ⟨oa,ea,epa,ta,g1,g3⟩ sb;have nd:kys.Nodup:=let ⟨_,_,_,_,_,_,_,_,_,_,_,_,_,q,_⟩:=st;q;have sub:∀ x∈kys,x∈U:=fun x hx=>by
   by_cases q:x∈K0
   ·exact u1 x q
   ·have:=(mem x).mp hx
    have:x∈done.map (kyT s.heap):=Classical.byContradiction fun z=>this ⟨fun y=>(q y).elim,fun y=>(z y).elim⟩;exact u2 x (kperm.mem_iff.mp (by rw[e1,dP];exact e9 _ this))
  have len:kys.length<=60:=dF (List.Nodup.length_le_of_subset nd sub) hU;dsimp only;refine bW (zQ4 (s:={ s with heap:=h' }) hA st e3' len fun h2 kys2 sb2 st2 p2=>?_);unfold Builtin.Frozenset.unchanged;have g1':h2.get? l=some o:=by rw[sb2.2 l hal,sb.2 l hal];exact h1
  refine bW (bW (wpAny_setEpoch_of (s:={ s with heap:=h2 }) g1' h3 (fits_of h4) ?_));rw[if_neg 13#0];refine cc (cc ⟨done++[(hT prog w ns,.ref c)],h2,kys2,by rw[e1];simp,rfl,sb.trans sb2,st2,fun x=>?_⟩);have nn:ns∉done.map (kyT s.heap):=fun q=>by
   rw[e1,dP,dq,hns] at knd;exact(fK.mp knd).2.2 ns q ns (cK) rfl
  rw[p2.mem_iff,zPA nd,dP,cG,List.map_singleton,hns,cq];by_cases e:x=ns
  ·subst e
   rw[if_pos rfl,mem x];simp only[nn,or_true,iff_true,iff_false,Classical.not_not,false_or]
  ·rw[if_neg e,mem x]
   simp only[e,or_false]
 ·rintro r s' ⟨done,h',kys,e1,rfl,sb,st,mem⟩
  rw[eW] at e1;have nd:kys.Nodup:=let ⟨_,_,_,_,_,_,_,_,_,_,_,_,_,q,_⟩:=st;q;have mm:∀ x,x∈kys↔¬ (x∈K0↔x∈kl):=fun x=>by rw[mem x,<-e1,kperm.mem_iff]
  have sub:∀ x∈kys,x∈U:=fun x hx=>by
   by_cases q:x∈K0
   ·exact u1 x q
   ·have:=(mm x).mp hx
    exact u2 x (Classical.byContradiction fun z=>this ⟨fun y=>(q y).elim,fun y=>(z y).elim⟩)
  exact cc (h h' kys sb st mm (dF (List.Nodup.length_le_of_subset nd sub) hU))
end
open HI (Ris yX ym zAv)
section
variable {prog:Program} {w:World} {P:Addr->Prop} {A:Around} {E:Value->Shared->Prop} {s:Shared}
theorem zIE{h:Heap}:ST prog w P (h.push (yX w)) h.objs.size []:=by
 refine⟨yX w,#[],0,.fresh 0 0 (ym w),cw _ rfl,⟨rfl,rfl,rfl⟩,rfl,116#0,fun i e he=>by simp at he,rfl,rfl,(by show 0*5<7*3;decide),.refl _,List.nodup_nil,(by show 7<=255;decide)⟩;obtain⟨i,e,u0⟩:=he;simp[eQ] at e
theorem zEV{l:Addr}{its:102#0}{val:Nat->List Int}{Q:12#0}(hh:92#0)(hA:A.in1.in1.in1.units<cLine)(hl:s.heap.IsList l its)(ht:142#0)(hb:its.size<=60)
  (h:∀(h':Heap) (tk:Nat) (kys:30#0),ST prog w P h' s.heap.objs.size kys->kys.length<=its.size->(∀ x,x∈kys↔∃ m,m<its.size/\val m=x)->Kp s.heap h'->Q 17#0 { s with heap:=h',toks:=tk }) :
  wpAny 3#0 A (call (.type "set") [.ref l]) Q E s:=by
 sleep 43;refine wpAny_call (codeAny_of_tree (show wpAny _ _ (callAny (.type "set") _) _ _ _ from cc ⟨Code.quiet_builtin _ 5#0,da F.entry_type_call ?_⟩));sleep 14
 sleep 11
 refine eO 70#0 fun r z hr=>?_;cases r with
 | error e=>exact hr
 | ok fl =>
  cases fl with
  | ret obj =>
   obtain⟨rfl,rfl⟩:=hr;have hT:Shared.TypeIs { s with heap:=s.heap.push (yX w) } 17#0 "set":=⟨_,cw _ rfl,rfl⟩
   have hli:=F.called_set.init.lookup;have hbi:=F.called_set.init.bind 17#0
   sleep 11
   refine eO 22#0 fun r2 z2 hr2=>?_
   ·obtain⟨ol,hol,hcl,nl,hdl⟩:=hl
    sleep 36;have hsls:isSubtype (.type "list") (.type "set")=pure false:=by rw[isSubtype_type];kernel_rfl
    have hslf:isSubtype (.type "list") (.type "frozenset")=pure false:=by rw[isSubtype_type];kernel_rfl
    have hne:(Value.type "list"==Value.type "dict")=false:=by decide
    have hl1:(s.heap.push (yX w)).IsList l its:=⟨_,hol',rfl,nl,rfl⟩
    sleep 44
    wp_walk
    subst hPI;refine wpAny_pyIter_list hl1 (bW (fV ?_));have lS:l<s.heap.objs.size:=cy hol;have hh3:A.in1.in1.in1.handled=none:=by simp[hh]
    have neI:l≠(s.heap.push (yX w)).objs.size:=by rw[er];exact cR (fI lS)
    have hSf:s.heap.objs.size∉[(s.heap.push (yX w)).objs.size,l]:=by
     sleep 62
    have st0:ST prog w P ((s.heap.push (yX w)).push { cls:=.type "list_iterator",data:=.fields #[.ref l,.int 0 0] }) s.heap.objs.size []:=zIE.keep fun b o e=>c9 _ e;refine zCp (h0:=s.heap) (Walks.list hh3 _ l neI its) hA hSf (fg (cr _)) (fun b hb'=>by
     rw[cq] at hb';rw[hb',er];exact fg (fB _)) (fun i h st b hb' o e its n q=>by
     rw[cq] at hb';subst hb';obtain⟨o2,e2,c2,d2⟩:=st.1;rw[e2] at e;cases e;rw[d2] at q;cases q) hb ht (its.size-0) 0 _ _ [] 1#0 (dG _) (fun b o e=>c9 _ (c9 _ e)) ⟨⟨_,cw _ rfl,rfl,rfl⟩,hl1.push _⟩ st0 (cr _) 140#0 ?_
    sleep 19
   ·cases r2 with
    | error e=>exact hr2
    | ok fl2 =>
     cases fl2 with
     | ret r =>
      obtain⟨rfl,h',tk,kys,rfl,st,len,mem,kp⟩:=hr2
      sleep 11
      exact h _ _ kys st len mem kp
     | _=>exact hr2.elim
  | _=>exact hr.elim
theorem zMu{l:Addr}{its:102#0}{val:Nat->List Int}{Q:12#0}(hh:92#0)(hA:A.in1.in1.in1.units<cLine)(hl:s.heap.IsTuple l its)(ht:142#0)(hb:its.size<=60)
  (h:∀(h':Heap) (tk:Nat) (kys:30#0),ST prog w P h' s.heap.objs.size kys->kys.length<=its.size->(∀ x,x∈kys↔∃ m,m<its.size/\val m=x)->Kp s.heap h'->Q 17#0 { s with heap:=h',toks:=tk }) :
  wpAny 3#0 A (call (.type "set") [.ref l]) Q E s:=by
 sleep 43;refine wpAny_call (codeAny_of_tree (show wpAny _ _ (callAny (.type "set") _) _ _ _ from cc ⟨Code.quiet_builtin _ 5#0,da F.entry_type_call ?_⟩));sleep 14
 sleep 11
 refine eO 70#0 fun r z hr=>?_;cases r with
 | error e=>exact hr
 | ok fl =>
  cases fl with
  | ret obj =>
   obtain⟨rfl,rfl⟩:=hr;have hT:Shared.TypeIs { s with heap:=s.heap.push (yX w) } 17#0 "set":=⟨_,cw _ rfl,rfl⟩
   have hli:=F.called_set.init.lookup;have hbi:=F.called_set.init.bind 17#0
   sleep 11
   refine eO 22#0 fun r2 z2 hr2=>?_
   ·obtain⟨ol,hol,hcl,nl,hdl⟩:=hl
    obtain⟨ocls,odict,odata,oslots⟩:=ol;simp only at hcl hdl;subst hcl;subst hdl;have hol':(s.heap.push (yX w)).get? l=some { cls:=.type "tuple",dict:=odict,data:=.seq its nl,slots:=oslots }:=c9 _ hol;have hsls:isSubtype (.type "tuple") (.type "set")=pure false:=by rw[isSubtype_type];kernel_rfl
    have hslf:isSubtype (.type "tuple") (.type "frozenset")=pure false:=by rw[isSubtype_type];kernel_rfl
    have hne:(Value.type "tuple"==Value.type "dict")=false:=by decide
    have hl1:(s.heap.push (yX w)).IsTuple l its:=⟨_,hol',rfl,nl,rfl⟩
    sleep 44
    wp_walk
    subst hPI;refine wpAny_pyIter_tuple hl1 (bW (fV ?_));have lS:l<s.heap.objs.size:=cy hol;have hh3:A.in1.in1.in1.handled=none:=by simp[hh]
    have neI:l≠(s.heap.push (yX w)).objs.size:=by rw[er];exact cR (fI lS)
    have hSf:s.heap.objs.size∉[(s.heap.push (yX w)).objs.size,l]:=by
     sleep 62
    have st0:ST prog w P ((s.heap.push (yX w)).push { cls:=.type "tuple_iterator",data:=.fields #[.ref l,.int 0 0] }) s.heap.objs.size []:=zIE.keep fun b o e=>c9 _ e;refine zCp (h0:=s.heap) (Walks.tuple hh3 _ l neI its) hA hSf (fg (cr _)) (fun b hb'=>by
     rw[cq] at hb';rw[hb',er];exact fg (fB _)) (fun i h st b hb' o e its n q=>by
     rw[cq] at hb';subst hb';obtain⟨o2,e2,c2,d2⟩:=st.1;rw[e2] at e;cases e;rw[d2] at q;cases q) hb ht (its.size-0) 0 _ _ [] 1#0 (dG _) (fun b o e=>c9 _ (c9 _ e)) ⟨⟨_,cw _ rfl,rfl,rfl⟩,hl1.push _⟩ st0 (cr _) 140#0 ?_
    sleep 19
   ·cases r2 with
    | error e=>exact hr2
    | ok fl2 =>
     cases fl2 with
     | ret r =>
      obtain⟨rfl,h',tk,kys,rfl,st,len,mem,kp⟩:=hr2
      sleep 11
      exact h _ _ kys st len mem kp
     | _=>exact hr2.elim
  | _=>exact hr.elim
end
open HI (Ris Sx Tells zAT zDu zFJ zDv zAw wn zDt zBu zBA zAk zBW)
section
variable {prog:Program} {w:World} {P:Addr->Prop} {A:Around} {E:Value->Shared->Prop} {s:Shared}
theorem zPB(hh:92#0)(T:Tells prog w a es ep t sl xs)(hf:t.fits es.size=true)(hx:xs.length=es.size)(hne:a≠it) :
  Walks prog w A it [it,a] [it] es.size (fun i v=>xs[i]?=some v) (fun i h=>h.get? it=some (zAT (rawInt (sl i)) i a es.size ep)/\Sx h a es ep t) where
 sub:=fun b hb=>by simp at hb ⊢;exact .inl hb
 frame:=fun i h h' st k=>⟨k it 13#0 _ st.1,st.2.keep fun o e=>k a 13#0 o e⟩
 item:=fun i s Q E hi st hQ=>zDu T hf hx hi st.1 st.2 hne fun h' v hxv e kp=>hQ _ h' s.toks hxv ⟨e,st.2.keep fun o q=>kp a o hne q⟩ fun b o hb q=>kp b o (by simpa using hb) q
 done:=fun s Q E st hQ=>zFJ hh T hf hx st.1 st.2 fun h' kp=>hQ h' s.toks fun b o hb q=>kp b o (by simpa using hb) q
 self:=fun i s Q E st hQ=>zDv st.1 hQ
noncomputable def Mem(prog:Program)(w:World)(P:Addr->Prop)(h:Heap)(xs:40#0)(kys:30#0):Prop:=(∀ v∈xs,∃ c ns,v=.ref c/\TK prog w P h ns c)/\(xs.map fun v=>kyT h (0,v)).Perm kys
theorem zEW(hS:79#0)
  (h:∀(h1:Heap) (it:Addr) (fp:List Addr) (St:Nat->Heap->Prop) (xs:40#0),(∀ b o,s.heap.get? b=some o->h1.get? b=some o)->(∀ b∈fp,b=a\/s.heap.objs.size<=b)->s.heap.objs.size<=it ->
   (∀ B:Around,B.handled=none->Walks prog w B it fp [it] xs.length (fun i v=>xs[i]?=some v) St)->St 0 h1->Mem prog w P s.heap xs kys->xs.length=kys.length->Q (.ref it) { s with heap:=h1 }):wpAny 3#0 A (pyIter (.ref a)) Q E s:=by
 obtain⟨o,es,ep,t,ho,hex,hd,T0,ok,pl,hl,fl,pk,nd⟩:=hS;have hf:=fits_of T0;have hr:=T0.ris;have hT:s.TypeIs (.ref a) "set":=⟨o,ho,hex.1⟩
 sleep 7;unfold setDrawn;refine bW (bW (di ho hd hf (bW (zAw (cc ?_)))));dsimp only;have fin:∀(sl:Nat->Nat) (xs:40#0),sl 0=0->Tells prog w a es ep t sl xs->xs.Perm (es.toList.map (·.2))->wpAny 3#0 A.in1 (do let e <-setEpoch a;let r <-newFields "set_iterator" [rawInt 0,rawInt 0,.ref a,rawInt es.size,rawInt e];ret r) (fun fin s'=>∃ v,fin=.done (.ret v)/\∃ T' r,s'.TypeIs v T'/\typeLookup (.type T') "__next__"=pure (some r)/\Q v s') E s:=fun sl xs h0 T pm=>by
  have hx:xs.length=es.size:=by rw[pm.length_eq];simp
  sleep 4
  ·simp only[cY,fb,or_false] at hb
   rcases hb with e | e
   ·exact .inr (Nat.le_of_eq e.symm)
   ·exact .inl e
  ·rw[h0];exact cw _ rfl
  ·obtain⟨e,he,rfl⟩:=cx.mp (pm.mem_iff.mp hv)
   obtain⟨c,e1,e2⟩:=ok.mem e he;exact⟨c,_,by rw[e1],e2⟩
  ·refine(pm.map _).trans ?_
   rw[de];exact pk.symm
  ·rw[hx]
   have:=pk.length_eq;simp at this;omega
 cases bt:w.params.followText "set-order" with
 | true =>
  rw[if_neg 13#0];exact fin (fun u0=>0) _ rfl (zBu hf bt) ((zAk (w.params.setOrder a ep) es).map _)
 | false =>
  have hl':t.led=true:=by rw[hl];unfold HI.ym;rw[bt];rfl
  have hp:(!t.plain&&decide (es.size>1))=false:=by rw[pl];rfl
  sleep 56
end
open HI (zBW)
open HS (TI tAt ltI zBV)
section
variable {prog:Program} {w:World} {P:Addr->Prop} {A:Around} {E:Value->Shared->Prop} {s:Shared}
theorem zDK(h:ItemsAre 134#0 ns vs):IntsAre vs ns:=by
 induction h with
 | nil=>exact .nil
 | cons h1 _ ih =>
  obtain⟨t,rfl⟩:=Value.isInt_shape h1;exact .cons _ _ ih
theorem zCR{R:Result->Shared->Prop}{a:Addr}{kys:30#0}(hh:92#0)(hS:79#0)(hlen:kys.length<=1000)(L:Addr)(res:Value)(c0:Nat)(hL:s.heap.get? L=some { cls:=.type "list",data:=.seq #[] c0 })
  (hR:∀ h' tk acc c,(∀ b o,b≠L->s.heap.get? b=some o->h'.get? b=some o)->h'.get? L=some { cls:=.type "list",dict:=none,data:=.seq acc c,slots:=#[] }->Mem prog w P s.heap acc.toList kys->acc.size=kys.length->R (.ok (.ret res)) { s with heap:=h',toks:=tk }) :
  wpAny 3#0 A.in1 (Builtin.List.listExtendWith (.ref L) (.ref a) res)
   (fun fin s'=>match fin with | .done f=>R (.ok f) s' | .again c'=>c'.quiet=true/\codeAny 3#0 A c' R s') (fun e s'=>R (.error e) s') s:=by
 obtain⟨o,es,ep,t,ho,hex,hrest⟩:=id hS;have La:L≠a:=fun e=>by rw[e,ho] at hL;cases hL;have:=hex.1;simp at this
 have lL:L<s.heap.objs.size:=cy hL;unfold Builtin.List.listExtendWith;refine bW (f7 (T:="set") ⟨o,ho,hex.1⟩ ?_);have h1:Builtin.List.listSameRef (.ref L) (.ref a)=false:=by simp[Builtin.List.listSameRef,La]
 have h2:(Value.type "set"==Value.type "list")=false:=by decide
 have h3:(Value.type "set"==Value.type "tuple")=false:=by decide
 simp only[h1,h2,h3,Bool.or_false,bX,if_false];refine bW (zEW hS fun g it fp St xs kp hfp hit W st me xl=>?_);have hSf:L∉fp:=fun q=>by
  rcases hfp L q with e | e
  ·exact La e
  ·exact absurd lL (Nat.not_lt.mpr e)
 have W1:=(W A.in1 (by simpa using hh)).toS;refine bW (df (zBW (s:={ s with heap:=g }) (kp a o ho) hex.1 ?_));have hL1:=kp L _ hL;refine eC (fun u0=>?_) (fun q=>absurd 5#0 q);refine bW (fF (bW ?_));sleep 21;have old:∀ b ob,b≠L->g.get? b=some ob->((g.update L (Obj.mapSeq (·.push Value.none))).update L (Obj.mapSeq (·.pop))).get? b=some ob:=fun b ob hb e=>by
  rw[eF _ _ _ _ hb,eF _ _ _ _ hb];exact e
 refine codeAny_extend_loopS W1 101#0 L hSf res xs.length 0 _ #[] _ rfl (dG _) ?_ hL3 (ItemsOf.nil _) fun s' acc c hm hL' hacc=>?_
 ·exact(W A.in1 (by simpa using hh)).frame 0 _ _ st fun b hb ob e=>old b ob (fun z=>hSf (by rw[<-z];exact hb)) e
 ·have ea:acc.toList=xs:=by
   refine List.ext_getElem (by simp[hacc.1]) fun i h1 h2=>?_;have hi:i<acc.size:=by simpa using h1
   have:xs[i]?=some acc[i]:=hacc.2 i acc[i] (getElem?_pos acc i hi);rw[dI h2] at this;have:=Option.some.inj this;rw[this];simp
  sleep 35
  ·exact hb e'
  ·exact absurd (cy e) (by rw[cq.mp hmem];exact Nat.not_lt.mpr hit)
theorem zBv(hh:92#0)(hS:79#0)(hlen:kys.length<=1000)
  (hQ:∀ h' tk vs,29#0->s.heap.objs.size<=h'.objs.size->Mem prog w P s.heap vs kys->vs.length=kys.length->Q vs { s with heap:=h',toks:=tk }):wpAny 3#0 A (collect (.ref a)) Q E s:=by
 sleep 10;show wpAny _ A.in1 (Builtin.List.listExtendWith 17#0 (.ref a) 17#0) _ _ _;have hL:(s.heap.push { cls:=.type "list",data:=.seq ([]:List Value).toArray }).get? s.heap.objs.size=some { cls:=.type "list",data:=.seq #[] 0 }:=cw _ rfl;have memb:∀ {vs:40#0},Mem prog w P 31#0 vs kys->Mem prog w P s.heap vs kys:=fun {vs} m=>by
  have back:∀ {ns c},TK prog w P 31#0 ns c->TK prog w P s.heap ns c:=fun {ns c} q=>by
   obtain⟨⟨ob,its,n,e,hc,r⟩,qp⟩:=q;refine⟨⟨ob,its,n,?_,hc,r⟩,qp⟩;by_cases z:c=s.heap.objs.size
   ·rw[z,cw _ rfl] at e
    cases e;simp at hc
   ·rw[Heap.get?_push_ne _ _ _ z] at e
    exact e
  refine⟨fun v hv=>?_,?_⟩
  ·obtain⟨c,ns,rfl,q⟩:=m.1 v hv
   exact⟨c,ns,rfl,back q⟩
  ·refine eX.trans (.of_eq (dL fun v hv=>?_)) m.2
   obtain⟨c,ns,rfl,q⟩:=m.1 v hv;rw[zAY (back q),zAY q]
 let Pst:Result->Shared->Prop:=fun res s'=>∃(h':Heap) (tk:Nat) (acc:102#0) (c:Nat),res=.ok (.ret 17#0)/\s'={ s with heap:=h',toks:=tk }/\29#0/\h'.get? s.heap.objs.size=some { cls:=.type "list",dict:=none,data:=.seq acc c,slots:=#[] }/\Mem prog w P s.heap acc.toList kys/\acc.size=kys.length;refine wpAny_mono (zCR (A:=A) (R:=Pst) (s:={ s with heap:=s.heap.push { cls:=.type "list",data:=.seq ([]:List Value).toArray } }) hh (hS.keep fun b o e=>c9 _ e) hlen s.heap.objs.size 17#0 0 hL fun h' tk acc c kp q1 q2 q3=>?_) (fun fin s' h=>?_) (fun e s' h=>?_)
 ·exact⟨h',tk,acc,c,rfl,rfl,fun b o e=>kp b o (cR (cy e)) (c9 _ e),q1,memb q2,q3⟩
 ·have fin':∀ {r' s''},Pst r' s''->wpAny 3#0 A (match Value.ref s.heap.objs.size with
     | Value.ref a=>do
      match (<-load a).data with
       | Data.seq xs _=>pure xs.toList
       | _=>unsupported "internal:collect"
     | _=>unsupported "internal:collect") Q E s'':=by
   sleep 45
  cases fin with
  | done f =>
   have hf:=h;obtain⟨h',tk,acc,c,e,u0⟩:=h;cases e;exact fin' hf
  | again c'=>exact⟨h.1,eO h.2 fun r s'' hr=>by
    have hf:=hr;obtain⟨h',tk,acc,c,e,u0⟩:=hr;subst e;exact fin' hf⟩
 ·obtain⟨u0,u0,u0,u0,e,u0⟩:=h
  cases e
theorem zCS(hh:92#0)(hS:79#0)(h64:kys.length<64)(hne:∀ ns∈kys,ns≠[])
  (h:∀ h' tk l (out:40#0) e,29#0->s.heap.objs.size<=l->h'.get? l=some (seqObj "list" out.toArray e)->Mem prog w P s.heap out kys->(out.map fun v=>kyT s.heap (0,v)).Pairwise 38#0->Q (.ref l) { s with heap:=h',toks:=tk }) :
  wpAny 3#0 A (call (.builtin "sorted") [.ref a]) Q E s:=by
 sleep 32;refine bW (m:=checkCount "sorted" 1 1 _) (cc (bW (zBv (by simpa using hh) hS 1#0 fun g tk vs kp lg me vl=>bW (wpAny_newList ?_ 101#0))));have hoL:(g.push 20#0).get? g.objs.size=some 20#0:=cw _ rfl;have up:∀ b o,s.heap.get? b=some o->(g.push 20#0).get? b=some o:=fun b o e=>c9 _ (kp b o e);show wpAny _ _ _ _ _ { s with heap:=g.push 20#0,toks:=tk };have ti:∀ v∈vs,TI (g.push 20#0) v (kyT s.heap (0,v))/\v≠.ref g.objs.size:=fun v hv=>by
  obtain⟨c,ns,rfl,q⟩:=me.1 v hv;sleep 31
 refine bW (df (dW slot_list_sort ⟨_,hoL,rfl⟩ entry_list_sort (zBV (s:={ s with heap:=g.push 20#0,toks:=tk }) hoL (fun v hv=>⟨⟨_,(ti v hv).1⟩,(ti v hv).2⟩) 1#0 fun out a2 a3=>⟨_,rfl,cc ⟨_,rfl,?_⟩⟩) (args_list_sort _)));have at1:((g.push 20#0).update g.objs.size 113#0).get? g.objs.size=some (seqObj "list" #[] _):=get?_update_seq hoL (fun u0=>#[]);have at2:((((g.push 20#0).update g.objs.size 113#0).push (seqObj "tuple" vs.toArray 0)).push 50#0).get? g.objs.size=some (seqObj "list" #[] _):=c9 _ (c9 _ at1);sleep 48
 ·have hb:b≠g.objs.size:=cR (cy (kp b o e))
  unfold sortedHeap;rw[eF _ _ _ _ hb];exact c9 _ (c9 _ (by rw[eF _ _ _ _ hb];exact c9 _ (kp b o e)))
 ·rw[dR]
  intro i j hi hj ij;have hj':j<out.size:=by simpa using hj
  have hi':i<out.size:=by omega
  have q:=a3 i j (eY ij) hj';have gt:∀ k,(hk:k<out.size)->(tAt (g.push 20#0) (out.getD k .none)).getD []=kyT s.heap (0,out[k]):=fun k hk=>by
   have e:out.getD k .none=out[k]:=by simp[fw,hk]
   rw[e,(ti out[k] (a2.mem_iff.mp 13#0)).1.items];rfl
  rw[gt i hi',gt j hj'] at q;simpa using q
end
theorem zLd:entryFor table "set.__xor__"=some Builtin.«frozenset.__xor__»:=entryFor_alias (id':="frozenset.__xor__") (by kernel_rfl) (by first | rfl | decide +kernel) 5#0 (by kernel_rfl)
section
variable {prog:Program} {w:World} {P:Addr->Prop} {A:Around} {E:Value->Shared->Prop} {s:Shared}
theorem zPC{l r:Addr}{kl kr U:30#0}{Q:12#0}(hA:A.in1.units<cLine)(hL:ST prog w P s.heap l kl)(hR:ST prog w P s.heap r kr)(hU:U.length<=60)(u1:∀ x∈kl,x∈U)(u2:∀ x∈kr,x∈U)
  (h:∀ h' kys,29#0->ST prog w P h' s.heap.objs.size kys->(∀ x,x∈kys↔¬ (x∈kr↔x∈kl))->kys.length<=60->Q 17#0 { s with heap:=h' }) :
  wpAny 3#0 A (binaryOp .BitXor (.ref l) (.ref r)) Q E s:=by
 obtain⟨ol,esl,epl,tl,l1,l2,l3,l4,u0⟩:=id hL;obtain⟨or,esr,epr,tr,r1,r2,r3,r4,u0⟩:=id hR;have hTl:s.TypeIs (.ref l) "set":=⟨ol,l1,l2.1⟩
 have hTr:s.TypeIs (.ref r) "set":=⟨or,r1,r2.1⟩
 have ll:l<s.heap.objs.size:=cy l1;have lr:kr.length<=60:=by
  have nd:kr.Nodup:=let ⟨_,_,_,_,_,_,_,_,_,_,_,_,_,q,_⟩:=hR;q;exact dF (List.Nodup.length_le_of_subset nd u2) hU
 refine wpAny_binaryOp_same hTl hTr F.fills_set_xor F.slot_set_xor (dW F.slot_set_xor hTl zLd ?_ (F.args_set_xor_2 _ _));show wpAny _ _ (Builtin.Frozenset.slot1 "__xor__" ⟨[.ref l,.ref r],[]⟩>>=_) _ _ _;refine bW (m:=Builtin.Frozenset.slot1 "__xor__" _) (show wpAny _ _ (pure (Value.ref l,Value.ref r)) _ _ _ from cc ?_);dsimp only;simp only[bX,↓reduceIte];unfold andM;refine bW (bW (zID l1 l2.1 ?_));refine zID r1 r2.1 ?_;simp only[Bool.not_true,bX,↓reduceIte];refine bW (m:=Builtin.Frozenset.addrOf _) (cc ?_);refine bW ?_;show wpAny _ _ (Builtin.Frozenset.baseOf l>>=_) _ _ _;unfold Builtin.Frozenset.baseOf;refine bW (bW (fQ (T:="set") (b:=true) hTl zO7 (cc ?_)));simp only[↓reduceIte];refine bW (zO8 hR lr fun h1 kp st=>?_);have hL1:ST prog w P h1 l kl:=hL.keep kp;show wpAny _ _ (holding [Value.ref s.heap.objs.size] (Builtin.Frozenset.symmetricDifferenceUpdate _ s.heap.objs.size (.ref l))>>=_) _ _ _;refine bW (df (zQ6 (s:={ s with heap:=h1 }) hA (cR ll) st hL1 hU u2 u1 fun h2 kys sb st2 mem len=>?_));refine cc (cc ⟨_,rfl,by simp,h h2 kys (fun b o e=>?_) st2 mem len⟩);rw[sb.2 b (cR (cy e))];exact kp b o e
end
end HT2
namespace L2
theorem zTM{X:Cx}{pins:26#0}{σ:St}{H:Hp}{s:Shared}{i:Nat}{x:Str}{pos:Pos}{v:V}{Q:12#0}(hN:X.N[i]?=some x)(hv:Vis X.env.scope x)(I:16#0)(e:σ[i]?=some (some v))(h:∀ u,RelV v u->Q u s)
  (hd:9#0) (hcd:84#0):wpAny 23#0 X.A (eval (.Name x pos) X.env) Q X.xe s:=by
 obtain⟨m,hn,hl⟩:=I.loc;obtain⟨u,r,l⟩:=hl i x v hN e hv;have fin:=h u r;rcases l with ⟨hk,hm⟩ | ⟨hk,c,hc,hcell⟩
 ·exact wpAny_Name (wpAny_loadName_local I.ok.kind hk hn hm fin) hd
 ·rcases hk with hk | hk
  ·exact wpAny_Name (wpAny_loadName_cell I.ok.kind hk hc hcell fin) hd
  ·exact wpAny_Name (wpAny_loadName_free I.ok.kind hk hc hcell fin hcd) hd
end L2
namespace L3
open L2 HT2 HS
open HT3 hiding ST
theorem zPD(h:IntsAre vs ns):ItemsAre 134#0 ns vs:=by
 induction h with
 | nil=>exact .nil
 | cons n t _ ih=>exact .cons (intKind_is _ _ _ _) ih
section
variable {X:Cx} {pins:List (Addr×Obj)} {σ:L2.St} {H:Hp} {s:Shared}
noncomputable def Pd(K:15#0)(H:Hp)(c:Addr):Prop:=∃ ms,zR K H (tI ms) (.ref c)
theorem zR3(I:16#0)(d:zR X.K H (tI ns) (.ref c)):TK X.prog X.w (Pd X.K H) s.heap ns c:=by
 refine⟨?_,ns,d⟩;unfold tI zR at d;obtain⟨a,zs,e,hs,hd⟩:=d;cases e;sleep 60;exact⟨o,its.toArray,n,h1,h2,h3,zPD (by simpa using intsAre_of rv)⟩
theorem zPE(I:16#0){nss:30#0}{ys:List V}{its:40#0}(d:Dens X.K H (nss.map tI) ys)(rv:zY ys its):∀ i v,its.toArray[i]?=some v->∃ c,v=.ref c/\TK X.prog X.w (Pd X.K H) s.heap (nss.getD i []) c:=fun i v hv=>by
 have hv:its[i]?=some v:=by simpa using hv
 have hi:=(cu.mp hv).1;have l1:=rv.length;have l2:=d.length;rw[cg] at l2;have hn:i<nss.length:=by omega
 sleep 61;obtain⟨a,zs,rfl,u0,u0⟩:=e5;cases (show v=Value.ref a from e4);have eg:nss.getD i []=nss[i]:=by simp[dA,hn]
 rw[eg];exact⟨a,rfl,zR3 I e2⟩
theorem zUL{h:Heap}(I:16#0):∀ {out:40#0},(∀ v∈out,∃ c ns,v=.ref c/\TK X.prog X.w (Pd X.K H) s.heap ns c)->∃ ys:List V,zY ys out/\Dens X.K H ((out.map fun v=>kyT s.heap (0,v)).map tI) ys
 | [],_=>⟨[],.nil,.nil⟩
 | v::out,hh=>by
  obtain⟨ys,r,d⟩:=zUL (h:=h) I (out:=out) fun v hv=>hh v (cJ _ hv);obtain⟨c,ns,rfl,tk⟩:=hh v cK;obtain⟨ms,dm⟩:=tk.2;have:=(zR3 I dm).1.inj tk.1;subst this;refine⟨.ref c::ys,.cons rfl r,?_⟩;simp only[dq];rw[zAY tk 0];exact .cons dm d
end
noncomputable def tXS(K:15#0)(j:Nat)(t:TA):TE:=fun σ H Q=>t σ H fun vs H1=>∃(p:Addr) (ys:List V) (nl:30#0) (q:Addr) (zs:List V) (nr U:30#0),vs=[.ref p]/\SqT K H1 p ys/\Dens K H1 (nl.map tI) ys/\σ[j]?=some (some (.ref q))/\SqL K H1 q zs/\Dens K H1 (nr.map tI) zs/\nl.length<=60/\nr.length<=60/\U.length<=60/\(∀ x∈nl,x∈U)/\(∀ x∈nr,x∈U)/\(∀ x∈U,x≠[]) /\
 ∀(l:Addr) (ys':List V) (nss':30#0),H1 l=none->nss'.Nodup->(∀ x,x∈nss'↔¬ (x∈nr↔x∈nl))->nss'.Pairwise 38#0->Dens K H1 (nss'.map tI) ys'->Q (.ref l) (wY H1 l (.lst ys'))
theorem zKe(hr:yZ k X.A)(hc:85#0)(hg:Gl X "sorted")(hm:X.mg "sorted"=none)(hg2:Gl X "set")(hm2:X.mg "set"=none)(ha:PA X [e] t)(hN:X.N[j]?=some x)(hv:Vis X.env.scope x)(hd:(x==("__debug__":Str))=false)(hcd:(x==("__classdict__":Str))=false)
  (he:starEach [.BinOp 59#0 .BitXor 88#0 pos3] X.env=(false,eval (.BinOp 59#0 .BitXor 88#0 pos3) X.env)::starEach [] X.env) (hpl:(backTo pos 33#0).any (·.1)=false)
  (he1:starEach [e] X.env=21#0::starEach [] X.env) (hpl1:(backTo pos1 33#0).any (·.1)=false)
  (he2:starEach [.Name x p3] X.env=(false,eval (.Name x p3) X.env)::starEach [] X.env) (hpl2:(backTo pos2 33#0).any (·.1)=false) :
  PE X (.Call (.Name "sorted" p) [.BinOp 59#0 .BitXor 88#0 pos3] [] pos) (tXS X.K j t):=by
 sleep 25;have hu:=hr.units;have uA:∀ n,n<=50->X.A.units+n<cLine:=fun n hn=>by omega
 refine eN (wy I hg hm boot_sorted (PyProof.Rows.callWith_builtin1 ?_ he hpl));rw[he];refine Calls.spliced_cons (wpAny_BinOp 136#0);obtain⟨p0,ys,nl,q,zs,nr,U,rfl,hp,dl,hj,hq,dr,n1,n2,nu,ul,ur,une,fin⟩:=q1;obtain⟨u,rfl,rx⟩:=vals1 r1;cases rx;obtain⟨its,rv,pt,u0⟩:=I1.tuple hp;have l1:=rv.length;have l2:=dl.length;rw[cg] at l2;refine zMu (P:=Pd X.K H1) (val:=fun i=>nl.getD i []) (I1.ok.hd hc) (by show X.A.units+3<cLine;exact uA 3 1#0) (show s1.heap.IsTuple p0 its.toArray from pt) (zPE I1 dl rv) (by rw[cF];omega) fun h1 tk1 kl stl u0 meml kp1=>?_;have I2:zV X pins σ H1 { s1 with heap:=h1,toks:=tk1 }:=I1.kept (t':=tk1) kp1;refine eN (wy I2 hg2 hm2 boot_set (PyProof.Rows.callWith_type1 ?_ he2 hpl2));rw[he2];refine Calls.spliced_cons (zTM hN hv I2 hj (fun u ru=>Calls.spliced_nil ?_) hd hcd);cases ru;obtain⟨its2,rv2,pl2,u0⟩:=I2.list hq;have l3:=rv2.length;have l4:=dr.length;rw[cg] at l4;refine zEV (P:=Pd X.K H1) (s:={ s1 with heap:=h1,toks:=tk1 }) (val:=fun i=>nr.getD i []) (I1.ok.hd hc) (by show X.A.units+3<cLine;exact uA 3 1#0) pl2.isList (zPE I2 dr rv2) (by rw[cF];omega) fun h2 tk2 kr str u0 memr kp2=>?_;have stl2:ST X.prog X.w (Pd X.K H1) h2 s1.heap.objs.size kl:=stl.keep kp2;have ml:∀ x,x∈kl↔x∈nl:=fun x=>by
  rw[meml x];constructor
  ·rintro⟨m,hm',rfl⟩
   rw[cF] at hm';have:m<nl.length:=by omega
   simp[dA,this]
  ·intro hx
   obtain⟨m,hm',rfl⟩:=eE hx;exact⟨m,by rw[cF];omega,by simp[dA,hm']⟩
 have mr:∀ x,x∈kr↔x∈nr:=fun x=>by
  rw[memr x];constructor
  ·rintro⟨m,hm',rfl⟩
   rw[cF] at hm';have:m<nr.length:=by omega
   simp[dA,this]
  ·intro hx
   obtain⟨m,hm',rfl⟩:=eE hx;exact⟨m,by rw[cF];omega,by simp[dA,hm']⟩
 refine zPC (s:={ s1 with heap:=h2,toks:=tk2 }) (P:=Pd X.K H1) (by show X.A.units+1<cLine;exact uA 1 1#0) stl2 str nu (fun x hx=>ul x ((ml x).mp hx)) (fun x hx=>ur x ((mr x).mp hx)) fun h3 kys kp3 st3 mem3 len3=>?_;refine Calls.spliced_nil ?_;have I3:zV X pins σ H1 { s1 with heap:=h3,toks:=tk2 }:=I1.kept (t':=tk2) fun b o e=>kp3 b o (kp2 b o (kp1 b o e));have mk:∀ x,x∈kys↔¬ (x∈nr↔x∈nl):=fun x=>by rw[mem3 x,ml x,mr x]
 have kne:∀ ns∈kys,ns≠[]:=fun ns hns=>une ns (by
  by_cases z:ns∈nr
  ·exact ur ns z
  ·exact ul ns (Classical.byContradiction fun y=>(mk ns).mp hns ⟨fun a=>(z a).elim,fun a=>(y a).elim⟩))
 refine zCS (s:={ s1 with heap:=h3,toks:=tk2 }) (P:=Pd X.K H1) (I1.ok.hd hc) st3 1#0 kne fun h4 tk4 l out ee kp4 hl4 hget me so=>?_;have sz:s1.heap.objs.size<=h3.objs.size:=by
  have g1:s1.heap.objs.size<h1.objs.size:=by obtain⟨o,u0,u0,u0,ho,u0⟩:=stl;exact cy ho
  have g2:s1.heap.objs.size<h2.objs.size:=by obtain⟨o,u0,u0,u0,ho,u0⟩:=stl2;exact cy ho
  have g3:h2.objs.size<h3.objs.size:=by obtain⟨o,u0,u0,u0,ho,u0⟩:=st3;exact cy ho
  omega
 have sl:s1.heap.objs.size<=l:=dF sz hl4;obtain⟨ys',rv',d'⟩:=zUL (h:=h4) I3 me.1;have hn:H1 l=none:=I1.hok.fresh sl;have nd:kys.Nodup:=let ⟨_,_,_,_,_,_,_,_,_,_,_,_,_,q,_⟩:=st3;q;have ol:out.length=kys.length:=by have:=me.2.length_eq;sleep 33
 refine⟨.ref l,_,I3.laid (t':=tk4) (o:=.lst ys') kp4 hl4 ⟨by have:=rv'.length;rw[sizeLine_eq];omega,out,ee,rv',by rw[hget]⟩,rfl,fin l ys' _ hn (me.2.nodup_iff.mpr nd) (fun x=>(me.2.mem_iff).trans (mk x)) so d'⟩
noncomputable def xXS(j:Nat)(t:wR):TL2:=fun σ G R=>t σ G fun ds G1=>match ds with
 | [.tup xs]=>∃(nl nr U:30#0) (q:Addr),xs=nl.map tI/\σ[j]?=some (some (.adr q))/\Ls G1 q (nr.map tI)/\nl.length<=60/\nr.length<=60/\U.length<=60/\(∀ x∈nl,x∈U)/\(∀ x∈nr,x∈U)/\(∀ x∈U,x≠[]) /\
  ∀ nss':List (List Int),nss'.Nodup->(∀ x,x∈nss'↔¬ (x∈nr↔x∈nl))->nss'.Pairwise 38#0->R (nss'.map tI) G1
 | _=>False
theorem zMv(j:Nat)(hr:yZ k X.A)(hc:85#0)(hg:Gl X "sorted")(hm:X.mg "sorted"=none)(hg2:Gl X "set")(hm2:X.mg "set"=none)(ha:A2 X [e] t)(hN:autoParam (X.N[j]?=some x) Zq4._auto_1)(hv:autoParam (Vis X.env.scope x) Zq6._auto_1)(hd:9#0)(hcd:84#0)
  (he:autoParam (starEach [.BinOp 59#0 .BitXor 88#0 pos3] X.env=(false,eval (.BinOp 59#0 .BitXor 88#0 pos3) X.env)::starEach [] X.env) Zq4._auto_1) (hpl:8#0)
  (he1:4#0) (hpl1:autoParam ((backTo pos1 33#0).any (·.1)=false) Zq4._auto_1)
  (he2:autoParam (starEach [.Name x p3] X.env=(false,eval (.Name x p3) X.env)::starEach [] X.env) Zq4._auto_1) (hpl2:autoParam ((backTo pos2 33#0).any (·.1)=false) Zq4._auto_1) :
  F2 X (.Call (.Name "sorted" p) [.BinOp 59#0 .BitXor 88#0 pos3] [] pos) (xXS j t):=by
 refine PE.mono (zKe hr hc hg hm hg2 hm2 ha hN hv hd hcd he hpl he1 hpl1 he2 hpl2) ?_;rintro σ1 H Q ⟨σ,G,R,rl,q,k'⟩;refine 132#0;split at q1
 ·rename_i xs
  obtain⟨nl,nr,U,qa,rfl,hj,hls,b1,b2,b3,b4,b5,b6,q1⟩:=q1;obtain⟨v,rfl,d2⟩:=zB7 d1;unfold zR at d2;obtain⟨a,us,rfl,h1,h2⟩:=d2;obtain⟨v2,e2,d3⟩:=rl.val j _ hj;unfold zR at d3;subst d3;obtain⟨zs,s1,t1⟩:=r1.sq hls;exact⟨a,us,nl,qa,zs,nr,U,rfl,h1,h2,e2,s1,t1,b1,b2,b3,b4,b5,b6,fun l' ys' nss' n' c1 c2 c3 c4=>k' _ G1 (q1 nss' c1 c2 c3) l' _ _ (g1.trans (.fresh n')) (r1.fresh n') (r1.free n') zp (c4.grow (.fresh n'))⟩
 ·exact q1.elim
end L3
namespace L3
open L2
section
variable {X:Cx} {elt iter:Expr} {pos:Pos} {te:zl} {ifs:List Expr} {sc:Scope} {N0:List Str} {wi:TI2} {tc:TT2}
end
end L3
namespace HZ
section
variable {prog:Program} {w:World} {A:Around} {E:Value->Shared->Prop} {s:Shared} {e it l:Addr} {xs:Array Value} (Z:Zs prog w it l xs)
end
end HZ
namespace L2
open HZ
end L2
namespace L3
open L2
end L3
namespace HZ
end HZ
namespace L2
open HZ
end L2
namespace L3
open L2
end L3
namespace HI
section
variable {prog:Program} {w:World} {A:Around} {E:Value->Shared->Prop} {s:Shared}
end
end HI
namespace L2
open HI
variable {X:Cx} {e:Expr} {t:TA} {p p2 pos pos2:Pos}
end L2
namespace L3
open L2
section
variable {X:Cx} {e:Expr} {p p2 pos pos2:Pos}
end
end L3
namespace L2
section
variable {X:Cx} {pos:Pos}
theorem zMw(hc:85#0):wC X (.builtin "sum") (fun xs H Q=>∃(l:Addr) (ns:129#0),xs=[.ref l]/\SqL X.K H l (ns.map V.int)/\ns.length<=100/\(∀ a∈ns,0<=a/\a<=1000000)/\Q (.int ns.sum) H):=by
 sleep 26;obtain⟨l,ns,rfl,hs,hp,hb,q⟩:=h;obtain⟨u,rfl,ru⟩:=vals1 r;cases (show u=Value.ref l from ru);obtain⟨its,rv,pl,hz⟩:=I.list hs;have hi:IntsAre its ns:=intsAre_of rv;have ha:AllInts its.toArray:=hi.allInts;have hn:numsOf its.toArray.toList=ns:=by rw[show its.toArray.toList=its from rfl,hi.numsOf]
 have hl:=pl.isList;have hl2:its.length=ns.length:=hi.length;have hz2:its.toArray.size=ns.length:=by simp;omega
 generalize its.toArray=arr at ha hn hl hz2;obtain⟨zs,rfl⟩:=ha.items;rw[nums_intItems] at hn;have hsz:zs.size=ns.length:=by simpa[intItems] using hz2
 have sm:∀(l:129#0),(∀ a∈l,0<=a/\a<=1000000)->0<=l.sum/\l.sum<=1000000*l.length:=fun l=>by
  induction l with
  | nil=>intro u0;simp
  | cons a r ih =>
   intro h;have h1:=h a cK;have h2:=ih fun x hx=>h x (cJ _ hx);rw[List.sum_cons,cb];omega
 refine sum_intList (I.ok.hd hc) hl (fun j hj=>?_) fun h' tk t' hk=>?_
 ·have hm:numAt zs j∈ns:=by rw[<-hn,numAt_eq];exact getD_mem (by rw[cg,cC];omega)
  have h1:=hb _ hm;rw[preSum_eq];have h2:=sm ((zs.toList.map (·.1)).take (j+1)) fun a ha=>hb a (by rw[<-hn];exact eK ha);have h3:((zs.toList.map (·.1)).take (j+1)).length<=100:=by
   have:(zs.toList.map (·.1)).length=zs.size:=by simp
   rw[cS,this];omega
  unfold InLong;exact⟨by constructor<;>omega,by constructor<;>omega⟩
 ·refine⟨.int _,H,I.kept (t':=tk) hk,⟨_,rfl⟩,?_⟩
  rw[preSum_eq,fq 13#0,hn];exact q
end
end L2
namespace L3
open L2
section
variable {X:Cx} {e o:Expr} {te to:zl} {t:wR} {tl:TL2} {pos p apos cpos:Pos}
noncomputable def zLe:wF:=fun ds G R=>∃ ns:List Int,ds=ns.map D.int/\ns.length<=100/\(∀ a∈ns,0<=a/\a<=1000000)/\R (.int ns.sum) G
theorem zLf(hc:85#0)(hg:Gl X "sum")(hm:X.mg "sum"=none)(ha:F2 X e tl)(he:4#0)(hpl:8#0) :
  E2 X (.Call (.Name "sum" p) [e] [] pos) (zo zLe tl):=zFj (zMw hc) (by
   rintro ds G R l xs H Q ⟨ns,rfl,hp,hb,h⟩ r e d k;have:=d.ints_inv;subst this;exact⟨l,ns,rfl,.of e,hp,hb,k _ G h _ H 130#0 r 37#0⟩) hg hm 5#0 ha 10#0 10#0 he hpl
theorem zU4{st:Stmt}:P2 X st (fun u0 u0 u0=>False):=by
 rintro pins s σ H E I ⟨σ',G,D2,r,q,k⟩;exact q.elim
end
end L3
namespace K
open L2 L3
theorem zPF(h:zd t σ G (.adr l))(h':zd u σ G (.int k))(hl:Ls G l ds)(e:atI ds k=some d):zd (zS yM t u) σ G d:=yW h h' fun G2 e2 R q=>⟨ds,d,e2.ls hl,e,q⟩
theorem zFM(ha:zd ta σ G (.bl a))(hb:a=true->zd tb σ G (.bl b)):zd (zE0 ta tb) σ G (.bl (a&&b)):=by
 cases a with
 | true=>exact zKO ha (hb rfl)
 | false=>exact fun G2 e R q=>ha G2 e _ (by show if false=true then _ else _;rw[if_neg 13#0];exact q)
theorem zTN(h:PuL tl σ G ds)(h':∀ l,G.m l=none->u E (σ.set i (some (.adr l))) (za G l ds)):zU (zCF i tl) u E σ G:=h G (.refl G) _ h'
theorem zQ7(h:PuT tc σ G b)(hy:b=true->zi te E σ G)(hn:b=false->u E σ G):zU (xIf tc (zi te) yC) u E σ G:=by
 cases b with
 | false=>exact zG6 h (hn rfl)
 | true=>exact h G (.refl G) _ (by rw[if_pos rfl];exact hy rfl)
theorem zBX{σ:S2}{G:Gp}{tl:TL2}{R:Q2}(h:tl σ G fun ds G1=>∀ l,G1.m l=none->R (.adr l) (za G1 l ds)):zf tl σ G R:=h
theorem zKf{σ:S2}{G:Gp}{f:D->D->Gp->Q2->Prop}{ta tb:zl}{R:Q2}(h:ta σ G fun x G1=>tb σ G1 fun y G2=>f x y G2 R):zS f ta tb σ G R:=h
theorem zTO(h:flat 8 d=true):∀ l,d≠.adr l:=fun l e=>by subst e;cases h
theorem zQ8(h:∀ xs,d≠.tup xs):zIv d "tuple"=false:=by
 cases d with
 | tup xs=>exact absurd rfl (h xs)
 | _=>rfl
theorem zQ9(h:zd t σ G (.adr l))(hl:Ls G l es):zd (zHp "tuple" t) σ G (.bl false):=fun G2 e R q=>h G2 e _ ⟨⟨es,e.ls hl⟩,q⟩
theorem zRA{α:Type}{xs:List α}(f:α->Bool):(xs.map fun d=>D.bl (f d))=(xs.map f).map D.bl:=by rw[de];rfl
theorem zGA(q:25#0)(i j:Nat):yS q i j=yS q j i:=by
 unfold yS;rw[Nat.min_comm,Nat.max_comm];congr 1;rw[cV];simp;omega
section
variable {n:Nat} {q:Nat×Nat->Bool}
end
theorem zDz(q:25#0)(ps:42#0)(a b:Nat):yS (zAt q ps) a b=yS q (ps.getD a 0) (ps.getD b 0):=by
 by_cases h:a=b
 ·subst h;simp[yS]
 ·have:yS (zAt q ps) a b=zAt q ps (min a b,max a b):=by unfold yS;simp[h]
  rw[this];unfold zAt;dsimp only;rcases Nat.le_total a b with hab | hab
  ·rw[eD hab,Nat.max_eq_right hab]
  ·rw[Nat.min_eq_right hab,Nat.max_eq_left hab,zGA]
section
variable {n:Nat} {q:Nat×Nat->Bool}
end
theorem zIF:∀ l:List Int,HT.lexLt l l=false
 | []=>rfl
 | a::r=>by rw[HT.zAo,if_pos rfl,zIF r]
theorem zLg:∀ x y:List Int,HT.lexLt x y=false->HT.lexLt y x=false->x=y
 | [],[],_,_=>rfl
 | [],b::s,h,_=>by rw[HT.wa] at h;cases h
 | a::r,[],_,h=>by rw[HT.wa] at h;cases h
 | a::r,b::s,h,h'=>by
  rw[HT.zAo] at h h';by_cases e:a=b
  ·subst e
   rw[if_pos rfl] at h h';rw[zLg r s h h']
  ·rw[if_neg e] at h
   rw[if_neg (Ne.symm e)] at h';simp at h h';omega
theorem zHF:∀ x y z:List Int,HT.lexLt x y=true->HT.lexLt y z=true->HT.lexLt x z=true
 | [],[],_,h,_=>by cases h
 | [],b::s,[],_,h=>by cases h
 | [],b::s,c::t,_,_=>rfl
 | a::r,[],_,h,_=>by cases h
 | a::r,b::s,[],_,h=>by cases h
 | a::r,b::s,c::t,h,h'=>by
  rw[HT.zAo] at h h' ⊢;by_cases e:a=b
  ·subst e
   rw[if_pos rfl] at h;by_cases e2:a=c
   ·subst e2
    rw[if_pos rfl] at h' ⊢;exact zHF r s t h h'
   ·rw[if_neg e2] at h' ⊢
    exact h'
  ·rw[if_neg e] at h
   simp at h;by_cases e2:b=c
   ·subst e2
    rw[if_neg e];simpa using h
   ·rw[if_neg e2] at h'
    simp at h';rw[if_neg 1#0];simp;omega
noncomputable def zHG(m:129#0)(L:30#0):Prop:=m∈L/\∀ x∈L,HT.lexLt x m=false
theorem zHG.uniq(h:zHG m L)(h':zHG m' L')(e:∀ x,x∈L↔x∈L'):m=m' :=
 zLg m m' (h'.2 m ((e m).mp h.1)) (h.2 m' ((e m').mpr h'.1))
theorem zJO(h:zHG m L):zHG (zE2 m x) (L++[x]):=by
 unfold zE2;cases q:HT.lexLt x m with
 | true =>
  rw[if_pos rfl];refine⟨by simp,fun y hy=>?_⟩;rcases cG.mp hy with hy | hy
  ·cases q2:HT.lexLt y x with
   | false=>rfl
   | true=>have:=h.2 y hy;rw[zHF y x m q2 q] at this;cases this
  ·rw[cq.mp hy];exact zIF x
 | false =>
  rw[if_neg 13#0];refine⟨cG.mpr (.inl h.1),fun y hy=>?_⟩;rcases cG.mp hy with hy | hy
  ·exact h.2 y hy
  ·rw[cq.mp hy];exact q
noncomputable def wv{α:Type}(l:List α)(b:Nat):List α:=l.drop b++l.take b
noncomputable def zAD(l:129#0):Nat->List Int
 | 0=>l
 | b+1=>zE2 (zE2 (zAD l b) (wv l b)) (wv l.reverse b)
noncomputable def yG(l:129#0):List Int:=zAD l l.length
noncomputable def zEl(l:129#0):Nat->List (List Int)
 | 0=>[l]
 | b+1=>(zEl l b++[wv l b])++[wv l.reverse b]
theorem zBC(l:129#0):∀ b,zHG (zAD l b) (zEl l b)
 | 0=>⟨by simp[zAD,zEl],fun x hx=>by simp[zEl] at hx;subst hx;exact zIF _⟩
 | b+1=>zJO (zJO (zBC l b))
theorem zHH:∀ {b:Nat},x∈zEl l b↔x=l\/∃ k,k<b/\(x=wv l k\/x=wv l.reverse k)
 | 0=>by simp[zEl]
 | b+1=>by
  unfold zEl;rw[cG,cG,zHH (b:=b),cq,cq];constructor
  ·rintro(((h | ⟨k,h1,h2⟩) | h) | h)
   ·exact .inl h
   ·exact .inr ⟨k,by omega,h2⟩
   ·exact .inr ⟨b,by omega,.inl h⟩
   ·exact .inr ⟨b,by omega,.inr h⟩
  ·rintro(h | ⟨k,h1,h2⟩)
   ·exact .inl (.inl (.inl h))
   ·by_cases e:k=b
    ·subst e
     rcases h2 with h2 | h2
     ·exact .inl (.inr h2)
     ·exact .inr h2
    ·exact .inl (.inl (.inr ⟨k,by omega,h2⟩))
theorem zGB(l:List α):wv l 0=l:=by simp[wv]
theorem zLh(l:List α)(h:b<=l.length):(wv l b).reverse=wv l.reverse (l.length-b):=by
 unfold wv;rw[fP,List.reverse_drop,List.reverse_take]
theorem zJP(h:x.length=y.length):(zE2 x y).length=x.length:=by
 unfold zE2;split<;>omega
theorem zFN(l:List α)(b:Nat):(wv l b).length=l.length:=by unfold wv;simp;omega
theorem zEm(l:129#0):∀ b,(zAD l b).length=l.length
 | 0=>rfl
 | b+1=>by
  unfold zAD;have e1:=zEm l b;have e2:(zE2 (zAD l b) (wv l b)).length=l.length:=by rw[zJP (by rw[e1,zFN]),e1]
  rw[zJP (by rw[e2,zFN,dM]),e2]
theorem zBw(f:α->β)(l:List α)(b:Nat):(wv l b).map f=wv (l.map f) b:=by unfold wv;simp
theorem zPG{l:List D}{k:Nat}(h:k<=l.length):L3.cutD l none (some (k:Int))=l.take k:=by
 unfold L3.cutD;rw[HT.zIi,HT.zCd];simp[h]
theorem zPH{l:List D}{k:Nat}(h:k<=l.length):L3.cutD l (some (k:Int)) none=l.drop k:=by
 unfold L3.cutD;rw[HT.zIi,HT.zCd,eD h];rw[fq 13#0]
theorem zR4(h:zd t σ G (.tup xs))(h1:zd u σ G (nD k))(hk:k<=xs.length):zd (wN t yw (wJ u)) σ G (.tup (xs.take k)):=fun G2 e R q=>h G2 e _ (h1 G2 e _ (by show R (.tup (L3.cutD xs none (some (k:Int)))) G2;rw[zPG hk];exact q))
theorem zLi(h:zd t σ G (.tup xs))(h1:zd u σ G (nD k))(hk:k<=xs.length):zd (wN t (wJ u) yw) σ G (.tup (xs.drop k)):=fun G2 e R q=>h G2 e _ (h1 G2 e _ (by show R (.tup (L3.cutD xs (some (k:Int)) none)) G2;rw[zPH hk];exact q))
theorem zTP(h:zd t σ G (.tup xs))(h1:zd u σ G (nD k))(hk:k<=xs.length)(hl:xs.length<=1000000):zd (zS yQ (wN t (wJ u) yw) (wN t yw (wJ u))) σ G (.tup (wv xs k)) :=
 zEQ (zLi h h1 hk) (zR4 h h1 hk) (by simp;omega)
noncomputable def yf:wF:=fun ds G R=>∃(xs:List D) (k:Nat),ds=[.tup xs,nD k]/\k<=xs.length/\xs.length<=1000/\R (.tup (wv xs k)) G
noncomputable def zAy:yN:=(zi (zS yQ (wN (zB 0) (wJ (zB 1)) yw) (wN (zB 0) yw (wJ (zB 1)))))
theorem zGC(ds:List D)(G:Gp)(R:Q2)(h:yf ds G R):ds.length=2/\zAy (zZ R) (zN ["ring","by"] ds) G:=by
 obtain⟨xs,k,rfl,hk,hl,h⟩:=h;exact⟨rfl,zAX (zTP (zE rfl) (zE rfl) hk 1#0) ⟨G,.refl _,h⟩⟩
noncomputable def zBD:wF:=fun ds G R=>∃ xs:List D,ds=[.tup xs]/\xs.length<=1000/\R (.tup xs.reverse) G
noncomputable def zDL:yN:=(zi (zH zKQ (zA (zB 0) zG)))
theorem zKg(ds:List D)(G:Gp)(R:Q2)(h:zBD ds G R):ds.length=1/\zDL (zZ R) (zN ["ring"] ds) G:=by
 obtain⟨xs,rfl,hl,h⟩:=h;exact⟨rfl,zAX (d:=.tup xs.reverse) (zX (zF (zE (d:=.tup xs) rfl) zM) fun u0 u0 u0 q=>⟨by omega,q⟩) ⟨G,.refl _,h⟩⟩
theorem zHI(l:129#0):flat 8 (tupI l)=true:=by
 unfold tupI;simp only[flat,em];intro d hd;obtain⟨k,u0,rfl⟩:=cx.mp hd;rfl
noncomputable def zx:wF:=fun ds G R=>∃ l:List Int,ds=[tupI l]/\l.length<=1000/\R (tupI (yG l)) G
noncomputable def zFO:yN:=(zU (zn (zH zBD (zA (zB 0) zG)) (gN 1)) (zU (zn (zB 0) (gN 2)) (zU (yq (iR1 (zA 47#0 zG)) (gN 3) (zn (zH zKS (zA (zB 2) (zA (zH yf (zA (zB 0) 73#0)) (zA (zH yf (zA (zB 1) 73#0)) zG)))) (gN 2))) (zi (zB 2)))))
theorem zHJ(h:zd t σ G (tupI l))(h1:zd u σ G (nD k))(hk:k<=l.length)(hl:l.length<=1000):zd (zH yf (zA t (zA u zG))) σ G (tupI (wv l k)) :=
 zX (zF h (zF h1 zM)) fun u0 u0 u0 q=>⟨l.map D.int,k,rfl,by simpa using hk,by simpa using hl,by rw[<-zBw];exact q⟩
theorem zJQ(h:zd t σ G (tupI l))(hl:l.length<=1000):zd (zH zBD (zA t zG)) σ G (tupI l.reverse) :=
 zX (zF h zM) fun u0 u0 u0 q=>⟨l.map D.int,rfl,by simpa using hl,by rw[<-List.map_reverse];exact q⟩
theorem zRB(h:zd t σ G (tupI x))(h1:zd u σ G (tupI y))(h2:zd v σ G (tupI z)):zd (zH zKS (zA t (zA u (zA v zG)))) σ G (tupI (zE2 (zE2 x y) z)) :=
 zX (zF h (zF h1 (zF h2 zM))) fun u0 u0 u0 q=>⟨x,y,z,rfl,by rw[zOd];exact q⟩
theorem zRC(h:zd t σ G (tupI l)):zd (zH zk (zA t zG)) σ G (nD l.length):=by
 have:=zKM (ds:=l.map D.int) h;rwa [cg] at this
theorem zRD(ds:List D)(G:Gp)(R:Q2)(h:zx ds G R):ds.length=1/\zFO (zZ R) (zN ["ring","back","best","by"] ds) G:=by
 obtain⟨l,rfl,hl,h⟩:=h;refine⟨rfl,?_⟩;unfold zFO;refine yy (zJQ (l:=l) (zE rfl) hl) ?_;refine yy (d:=tupI l) (zE rfl) ?_;refine zKH (n:=l.length) (zF (zRC (zE rfl)) zM) hl ?_;refine⟨fun i σ' G'=>(∃ o,σ'=[some (tupI l),some (tupI l.reverse),some (tupI (zAD l i)),o])/\G'=G,⟨⟨none,rfl⟩,rfl⟩,fun u0 u0 u0 u0 u0=>trivial,?_,?_⟩
 ·rintro i x σ' G' hi ⟨⟨o,rfl⟩,rfl⟩
  obtain⟨rfl,hi⟩:=zHy hi;show zn _ _ _ [some (tupI l),some (tupI l.reverse),some (tupI (zAD l i)),some (nD i)] G';refine zRB (zE rfl) (zHJ (l:=l) (k:=i) (zE rfl) (zE rfl) 1#0 hl) (zHJ (l:=l.reverse) (k:=i) (zE rfl) (zE rfl) (by rw[dM];omega) (by rw[dM];exact hl)) G' (.refl _) _ ?_;exact .of ⟨⟨some (nD i),rfl⟩,rfl⟩
 ·rintro σ' G' ⟨⟨o,rfl⟩,rfl⟩
  rw[cg,cX];show zi (zB 2) (zZ R) [some (tupI l),some (tupI l.reverse),some (tupI (zAD l l.length)),o] G';exact zAX (zE rfl) ⟨G',.refl _,h⟩
noncomputable def zD0:wF:=fun ds G R=>∃ l m:List Int,ds=[tupI l,tupI m]/\l.length<=1000/\m.length<=1000/\R (.bl (wG (tupI (yG l)) (tupI (yG m)))) G
noncomputable def zKh:yN:=(zi (zS (wu false) (zH zx (zA (zB 0) zG)) (zH zx 51#0)))
theorem zGD(hs:sp=zx)(h:zd t σ G (tupI l))(hl:l.length<=1000):zd (zH sp (zA t zG)) σ G (tupI (yG l)):=by
 subst hs;exact zX (zF h zM) fun u0 u0 u0 q=>⟨l,rfl,hl,q⟩
theorem zTQ(ds:List D)(G:Gp)(R:Q2)(h:zD0 ds G R):ds.length=2/\zKh (zZ R) (zN ["one","other"] ds) G:=by
 obtain⟨l,m,rfl,hl,hm,h⟩:=h;exact⟨rfl,zAX (zEi (zGD rfl (zE rfl) hl) (zGD rfl (zE rfl) hm) (zHI _) (zHI _) rfl) ⟨G,.refl _,h⟩⟩
noncomputable abbrev uD(l:42#0):D:=.tup (l.map nD)
theorem zR5(h:zd te σ G d)(h':g d σ G fun σ' G'=>E.nx σ' G'):zn te g E σ G:=h G (.refl G) _ h'
theorem zPI(h:te σ G fun d G1=>g d σ G1 fun σ' G'=>E.nx σ' G'):zn te g E σ G:=h
theorem zUM{σ:S2}{G:Gp}{ta tb:zl}{l:Addr}{R:List D->Gp->Prop}(h:zd ta σ G (.adr l))(h':tb σ G fun y G2=>match D.adr l,y with | .adr l,.adr m=>∃ xs ys,G2.m l=some xs/\G2.m m=some ys/\xs.length+ys.length<=1000000/\R (xs++ys) G2 | _,_=>False):zLG ta tb σ G R:=h G (.refl G) _ h'
theorem zAz(h:L3.Sub G G')(n:G'.m a=none):G.m a=none:=by
 cases q:G.m a with
 | none=>rfl
 | some u=>rw[h.m a u q] at n;cases n
end K
namespace K
open L3
theorem zIG(h:te σ G fun u0 G1=>E.nx σ G1):wH te E σ G:=h
end K
namespace K
open L2 L3
noncomputable def zJR(n:Nat):D->Bool
 | .int x=>decide (0<=x)&&decide (x<(n:Int))
 | _=>false
noncomputable def Bad(n:Nat)(d:D)(G:Gp):Prop:=(∃ xs,d=.tup xs/\(∀ x∈xs,flat 8 x=true)/\xs.length<=1000/\xs.all (zJR n)=false)\/((∀ xs,d≠.tup xs)/\∀ l,d≠.adr l)\/∃ l es,d=.adr l/\Ls G l es
noncomputable def Good(n:Nat)(d:D)(ps:42#0):Prop:=d=.tup (ps.map nD)/\(∀ x∈ps,x<n)/\ps.length<=60
theorem Bad.ext(h:Bad n d G)(e:Ext G G'):Bad n d G':=by
 rcases h with h | h | ⟨l,es,rfl,h⟩
 ·exact .inl h
 ·exact .inr (.inl h)
 ·exact .inr (.inr ⟨l,es,rfl,e.ls h⟩)
theorem zPJ{n:Nat}{ps:42#0}(h:∀ x∈ps,x<n):(ps.map nD).all (zJR n)=true:=by
 rw[List.all_map,em];intro x hx;have:=h x hx;simp only[Function.comp,nD,zJR,eS,decide_eq_true_eq];omega
noncomputable def zAE:wF:=fun ds G R=>∃(n:Nat) (d:D),ds=[nD n,d]/\((∃ ps,Good n d ps/\R (.bl true) G)\/(Bad n d G/\R (.bl false) G))
noncomputable def zAa:yN:=(zi (zE0 (zHp "tuple" (zB 1)) (zo zOJ (zr (iV (zB 1)) wd zBO (zE0 (zH yz 95#0) (zBm 86#0 46#0 32#0 (zB 2) (zB 0)))))))
theorem zIH(ds:List D)(G:Gp)(R:Q2)(h:zAE ds G R):ds.length=2/\zAa (zZ R) (zN ["many","thing"] ds) G:=by
 obtain⟨n,d,rfl,h⟩:=h;refine⟨rfl,?_⟩;unfold zAa;have tup:∀ xs:List D,(∀ x∈xs,flat 8 x=true)->R (.bl (xs.all (zJR n))) G->zi (zE0 (zHp "tuple" (zB 1)) (zo zOJ (zr (iV (zB 1)) wd zBO (zE0 (zH yz 95#0) (zBm 86#0 46#0 32#0 (zB 2) (zB 0)))))) (zZ R) (zN ["many","thing"] [nD n,.tup xs]) G:=fun xs fx hR=>by
  have m:=zEN (σ:=zN ["many","thing"] [nD n,.tup xs]) (G:=G) (bd:=wd) (te:=zE0 (zH yz 95#0) (zBm 86#0 46#0 32#0 (zB 2) (zB 0))) (fun d=>.bl (zJR n d)) (fun d=>[d]) (zCf (zE (i:=1) (d:=.tup xs) rfl)) fun x hx=>by
   refine⟨rfl,?_⟩;have na:=zTO (fx x hx);have num:zd (zH yz 95#0) (zN ["many","thing"] [nD n,.tup xs]++[some x]) G (.bl (zOY x)):=zX (zF (zE (d:=x) rfl) zM) fun u0 u0 u0 q=>⟨x,rfl,.inl ⟨na,q⟩⟩
   cases x with
   | int v=>exact zKO (show zd _ _ _ (.bl true) from num) (zG7 (f:=fun i j=>decide (i<=j)) (g:=fun i j=>decide (i<j)) (yE (d:=.int 0)) (zE rfl) (zE (i:=0) (d:=nD n) rfl))
   | _=>exact zFM (b:=false) num fun z=>by cases z
  rw[zRA] at m;have a:=zOa m;rw[List.all_map] at a;exact zAX (zKO (zS8 (T:="tuple") (d:=.tup xs) (zE rfl) rfl) a) (.of hR)
 rcases h with ⟨ps,⟨rfl,hp,u0⟩,h⟩ | ⟨hb,h⟩
 ·exact tup _ (zAr ps) (by rw[zPJ hp];exact h)
 ·rcases hb with ⟨xs,rfl,fx,u0,ha⟩ | ⟨h1,h2⟩ | ⟨l,es,rfl,hl⟩
  ·exact tup xs fx (by rw[ha];exact h)
  ·exact zAX (zFM (b:=false) (zOR (T:="tuple") (d:=d) (zE rfl) h2 (zQ8 h1)) fun z=>by cases z) (.of h)
  ·exact zAX (zFM (b:=false) (zQ9 (l:=l) (zE rfl) hl) fun z=>by cases z) (.of h)
noncomputable def zTR(ps:42#0):Bool:=(cf (ps.length-1)).all fun k=>decide (ps.getD k 0<ps.getD (k+1) 0)
theorem zPK:∀ ps:List Nat,zTR ps=true↔ps.Pairwise (·<·):=by
 intro ps;unfold zTR;rw[em];constructor
 ·intro h
  have step:∀ k,k+1<ps.length->ps.getD k 0<ps.getD (k+1) 0:=fun k hk=>of_decide_eq_true (h k (cz.mpr 1#0));have far:∀ m i,i+m+1<ps.length->ps.getD i 0<ps.getD (i+m+1) 0:=fun m=>by
   induction m with
   | zero=>intro i hi;exact step i hi
   | succ m ih=>intro i hi;exact Nat.lt_trans (ih i 1#0) (step (i+m+1) 1#0)
  rw[dR];intro i j hi hj hij;have:=far (j-i-1) i 1#0;rw[show i+(j-i-1)+1=j by omega] at this;simpa only[dA,hi,hj,dI,Option.getD_some] using this
 ·intro h k hk
  have hk':=cz.mp hk;have h1:k<ps.length:=by omega
  have h2:k+1<ps.length:=by omega
  refine decide_eq_true ?_;simp only[dA,h1,h2,dI,Option.getD_some];exact(dR.mp h) k (k+1) h1 h2 1#0
noncomputable def zAF:wF:=fun ds G R=>∃ ps:List Nat,ds=[.tup (ps.map nD)]/\ps.length<=1000/\R (.bl (zTR ps)) G
noncomputable def zAb:yN:=(zi (zo zOJ (zr (iR1 (zA (zS (fII fun i j=>.int (i-j)) 47#0 35#0) zG)) wd zBO (zS 46#0 (zS yM (zB 0) (zB 1)) (zS yM (zB 0) (zS yQ (zB 1) 35#0))))))
theorem zII(ds:List D)(G:Gp)(R:Q2)(h:zAF ds G R):ds.length=1/\zAb (zZ R) (zN ["things"] ds) G:=by
 obtain⟨ps,rfl,hl,h⟩:=h;refine⟨rfl,?_⟩;unfold zAb;have rg:PuI (iR1 (zA (zS (fII fun i j=>.int (i-j)) 47#0 35#0) zG)) (zN ["things"] [.tup (ps.map nD)]) G ((cf (ps.length-1)).map nD):=by
  have:=zBR (zF (zDZ (g:=fun i j=>.int (i-j)) (zCk (ps:=ps) (zE (σ:=zN ["things"] [.tup (ps.map nD)]) (G:=G) (i:=0) rfl)) (yE (d:=.int 1))) zM) 1#0;rw[show((ps.length:Int)-1).toNat=((ps.length-1:Nat):Int).toNat by omega,wj] at this;exact this
 have m:=zEN (bd:=wd) (te:=(zS 46#0 (zS yM (zB 0) (zB 1)) (zS yM (zB 0) (zS yQ (zB 1) 35#0)))) (fun d=>match d with | .int v=>.bl (decide (ps.getD v.toNat 0<ps.getD (v.toNat+1) 0)) | _=>.non) (fun d=>[d]) rg fun x hx=>by
  obtain⟨k,hk,rfl⟩:=cx.mp hx;have hk':=cz.mp hk;refine⟨rfl,?_⟩;have ad:zd (zS yQ (zB 1) 35#0) (zN ["things"] [.tup (ps.map nD)]++[some (nD k)]) G (nD (k+1)):=by
   have:=zH0 (σ:=zN ["things"] [.tup (ps.map nD)]++[some (nD k)]) (G:=G) (i:=(k:Int)) (j:=1) (zE (i:=1) rfl) yE;rwa [show(k:Int)+1=((k+1:Nat):Int) by omega] at this
  have:=zDZ (g:=fun i j=>.bl (decide (i<j))) (zFB (ps:=ps) (i:=k) (zE (σ:=zN ["things"] [.tup (ps.map nD)]++[some (nD k)]) (G:=G) (i:=0) rfl) (zE (i:=1) rfl) 1#0) (zFB (ps:=ps) (i:=k+1) (zE (i:=0) rfl) ad 1#0);have e:decide (((ps.getD k 0:Nat):Int)<((ps.getD (k+1) 0:Nat):Int))=decide (ps.getD k 0<ps.getD (k+1) 0):=by
   rw[cV];simp
  rw[e] at this;exact this
 have e:cE (fun d=>match d with | .int v=>D.bl (decide (ps.getD v.toNat 0<ps.getD (v.toNat+1) 0)) | _=>.non) ((cf (ps.length-1)).map nD)=((cf (ps.length-1)).map fun k=>decide (ps.getD k 0<ps.getD (k+1) 0)).map D.bl:=by
  rw[de,de];rfl
 rw[e] at m;have a:=zOa m;rw[List.all_map] at a;exact zAX a (.of h)
end K
namespace L3
open L2
section
variable {X:Cx} {a b e:Expr} {ta tb te:zl} {t:wR} {p pos:Pos}
theorem zJS(h:RelV v u):(u==Value.none)=decide (v=V.non):=by
 cases v with
 | non=>cases h;rfl
 | bl b=>cases h;rfl
 | int i=>obtain⟨u0,rfl⟩:=h;rfl
 | str i=>obtain⟨u0,rfl⟩:=h;rfl
 | byt i=>obtain⟨u0,rfl⟩:=h;rfl
 | flt i=>obtain⟨u0,rfl⟩:=h;rfl
 | ref i=>cases h;rfl
 | ty i=>cases h;rfl
theorem zNc:OpR X (compareOp .Is) (fun x y H Q=>y=.non/\Q (.bl (decide (x=.non))) H):=by
 sleep 5;obtain⟨rfl,q⟩:=h;cases ry;refine is_none_gen ?_;rw[zJS rx];exact⟨.bl _,H,I,rfl,q⟩
theorem zMx:OpR X (compareOp .IsNot) (fun x y H Q=>y=.non/\Q (.bl (!decide (x=.non))) H):=by
 sleep 5;obtain⟨rfl,q⟩:=h;cases ry;refine isnot_none_gen ?_;rw[zJS rx];exact⟨.bl _,H,I,rfl,q⟩
noncomputable def zHK:D->Bool
 | .non=>true
 | _=>false
theorem zRE{K:15#0}{H:Hp}{d:D}{v:V}(h:zR K H d v):decide (v=V.non)=zHK d:=by
 cases d with
 | non=>unfold zR at h;subst h;rfl
 | tup xs=>unfold zR at h;obtain⟨a,us,rfl,u0⟩:=h;rfl
 | dic a=>unfold zR at h;obtain⟨rfl,u0⟩:=h;rfl
 | _=>unfold zR at h;subst h;rfl
noncomputable def zE3(ng:Bool):D->D->Gp->Q2->Prop:=fun x y G R=>match y with | .non=>R (.bl (if ng then !zHK x else zHK x)) G | _=>False
theorem zLj{K:15#0}{ng:Bool}:Fit K (fun x y H Q=>y=V.non/\Q (.bl (if ng then !decide (x=V.non) else decide (x=V.non))) H) (zE3 ng):=by
 sleep 37;unfold zE3 at h;split at h
 ·unfold zR at d2
  refine⟨d2,k _ G h _ H 130#0 r ?_⟩;rw[zRE d1];unfold zR;rfl
 ·exact h.elim
theorem zUN(ha:138#0)(hb:E2 X b tb):E2 X (.Compare a [.Is] [b] pos) (zS (zE3 false) ta tb):=zGs zNc (zLj (ng:=false)) ha hb (zAO _)
theorem zJT(ha:138#0)(hb:E2 X b tb):T2 X (.Compare a [.IsNot] [b] pos) (xB (zS (zE3 true) ta tb)):=zDW zMx (zLj (ng:=true)) ha hb (zAO _)
end
end L3
namespace L3
open L2 HT2 HS
open HT3 hiding ST
end L3
namespace L3
open L2
section
variable {X:Cx} {e:Expr} {p pos:Pos}
end
section
variable {X:Cx} {a b:Expr} {ta tb:zl} {pos:Pos}
theorem zPL(ha:138#0)(hb:E2 X b tb):E2 X (.BinOp a .LShift b pos) (zS 68#0 ta tb):=zIp zSc (zDX fun u0 u0=>⟨rfl,rfl⟩) ha hb
theorem zLd(ha:138#0)(hb:E2 X b tb):E2 X (.BinOp a .BitXor b pos) (zS 124#0 ta tb):=zIp zSd 52#0 ha hb
end
theorem zJU(a b:Nat):(a ^^^ b)+2*(a &&& b)=a+b:=by
 induction a using Nat.strongRecOn generalizing b with
 | _ a ih =>
  by_cases h:a=0
  ·subst h;simp
  ·have h0:=ih (a / 2) 1#0 (b / 2)
   rw[<-Nat.xor_div_two,<-Nat.and_div_two] at h0;have h1:=@Nat.xor_mod_two_eq_one a b;have h2:=@Nat.and_mod_two_eq_one a b;have h3:(a ^^^ b)%2+2*((a &&& b)%2)=a%2+b%2:=by
    clear h0 ih h;rcases Nat.mod_two_eq_zero_or_one a with x | x<;>rcases Nat.mod_two_eq_zero_or_one b with y | y<;>rcases Nat.mod_two_eq_zero_or_one (a &&& b) with z | z<;>rcases Nat.mod_two_eq_zero_or_one (a ^^^ b) with w | w<;>rw[x,y,z,w]<;>rw[x,y,z] at h2<;>rw[x,y,w] at h1<;>simp at h1 h2 ⊢
   generalize a ^^^ b=u at h0 h3 ⊢;generalize a &&& b=v at h0 h3 ⊢;omega
theorem zKi(a b:Nat):Builtin.bitXor (a:Int) (b:Int)=((a ^^^ b:Nat):Int):=by
 have e:Builtin.bitAnd (a:Int) (b:Int)=((a &&& b:Nat):Int):=by
  unfold Builtin.bitAnd;have h1:decide ((0:Int)<=(a:Int))=true:=decide_eq_true 1#0;have h2:decide ((0:Int)<=(b:Int))=true:=decide_eq_true 1#0;rw[h1,h2];rfl
 have h:=zJU a b;rw[PyProof.Rows.bitXor_and,e];omega
end L3
namespace K
noncomputable def red(free:42#0)(x:Nat):Nat:=free.foldl (fun x b=>min x (x ^^^ b)) x
noncomputable def zC5(free:42#0)(row:Nat):List Nat:=if red free row≠0 then free++[red free row] else free
end K
namespace K
open L2 L3
theorem snoc_ind{P:List Nat->Prop}(nil:P [])(append_singleton:∀ l o,P l->P (l++[o]))(l:42#0):P l:=by
 rw[<-List.reverse_reverse l]
 induction l.reverse with
 | nil=>exact nil
 | cons a r ih=>rw[fJ];exact append_singleton _ _ ih
noncomputable def yo(l:42#0):Nat:=(l.map fun o=>2 ^ o).sum
theorem zRF:∀(l:42#0) (m:Nat),l.Pairwise (·<·)->(∀ x∈l,x<m)->yo l<2 ^ m:=by
 intro l
 induction l using snoc_ind with
 | nil=>intro m u0 u0;exact Nat.two_pow_pos m
 | append_singleton l o ih =>
  intro m hp hm;have hp':=List.pairwise_append.mp hp;have h1:=ih o hp'.1 fun x hx=>hp'.2.2 x hx o 13#0;have ho:=hm o 13#0;have h2:2 ^ (o+1)<=2 ^ m:=et 1#0 ho;unfold yo at *;rw[dP,List.sum_append];simp only[dq,List.map_nil,List.sum_cons,List.sum_nil];rw[f9] at h2;omega
theorem zPM:∀(l:42#0),l.Pairwise (·<·)->∀ i,(yo l).testBit i=decide (i∈l):=by
 intro l
 induction l using snoc_ind with
 | nil=>intro u0 i;simp[yo]
 | append_singleton l o ih =>
  intro hp i;have hp':=List.pairwise_append.mp hp;have hl:=zRF l o hp'.1 fun x hx=>hp'.2.2 x hx o 13#0;have h1:=ih hp'.1 i;have e:yo (l++[o])=2 ^ o*1+yo l:=by
   unfold yo;rw[dP,List.sum_append];simp;omega
  rw[e,Nat.testBit_two_pow_mul_add _ hl];by_cases hi:i<o
  ·rw[if_pos hi,h1]
   have:i≠o:=by omega
   simp[this]
  ·rw[if_neg hi]
   have hni:i∉l:=fun z=>by have:=hp'.2.2 i z o 13#0;omega
   by_cases hio:i=o
   ·subst hio;simp
   ·obtain⟨j,hj⟩:∃ j,i-o=j+1:=⟨i-o-1,by omega⟩
    rw[hj,Nat.testBit_succ];simp[hni,hio]
noncomputable def oth(n:Nat)(ps:42#0):List Nat:=(cf n).filter fun x=>!decide (x∈ps)
theorem zKj(h:x∈oth n ps):x<n:=cz.mp (cQ.mp h).1
theorem zRG(n:Nat)(ps:42#0):(oth n ps).length<=n:=by
 have:=dX (fun x=>!decide (x∈ps)) (cf n);rw[cX] at this;exact this
theorem zTS(h0:look σ 0=some (zQ n q))(ht:∀ k:Nat,zd t (σ++[nD k].map some) G (uD ps))(hk:∀ k:Nat,look (σ++[nD k].map some) i=some (nD k))(hn:n<=1000):PuL (zr (iR1 (zA 24#0 zG)) wd (xB (zS (fIn true) (zB i) t)) (zB i)) σ G ((oth n ps).map nD):=by
 have c:=wL (σ:=σ) (G:=G) (bd:=wd) (tc:=(xB (zS (fIn true) (zB i) t))) (te:=zB i) (fun d=>match d with | .int v=>!decide (v.toNat∈ps) | _=>false) (fun d=>d) (fun d=>[d])
  (show PuI (iR1 (zA 24#0 zG)) _ _ ((cf n).map nD) by
   rw[<-wj];exact zBR (zF (zB8 (zE h0)) zM) 1#0) fun x hx=>by
  obtain⟨k,hk',rfl⟩:=cx.mp hx;refine⟨rfl,zAI (zOO (zE (hk k)) (ht k) rfl (zAr ps) ?_),fun u0=>zE (hk k)⟩;rw[if_pos rfl,zKJ];rfl
 have e:cE (fun d=>d) (List.filter (fun d=>match d with | .int v=>!decide (v.toNat∈ps) | _=>false) ((cf n).map nD))=(oth n ps).map nD:=by
  rw[List.map_id',fo];rfl
 rw[e] at c;exact c
noncomputable def zBK:wF:=fun ds G R=>∃(n:Nat) (q:25#0) (ps:42#0),ds=[zQ n q,uD ps]/\n<=100/\R (uD (oth n ps)) G
noncomputable def zAc:yN:=(zi (zo yV (zr (iR1 (zA 24#0 zG)) wd (xB (zS (fIn true) (zB 2) (zB 1))) (zB 2))))
theorem zIJ(ds:List D)(G:Gp)(R:Q2)(h:zBK ds G R):ds.length=2/\zAc (zZ R) (zN ["web","places"] ds) G:=by
 obtain⟨n,q,ps,rfl,hn,h⟩:=h;refine⟨rfl,?_⟩;unfold zAc;exact zAX (zFl (zTS (σ:=zN ["web","places"] [zQ n q,uD ps]) (n:=n) (q:=q) rfl (fun k=>zE rfl) (fun k=>rfl) 1#0)) (.of h)
noncomputable def mask(q:25#0)(i:Nat)(os:42#0):Nat:=yo (os.filter (yS q i))
noncomputable def zEX:wF:=fun ds G R=>∃(n:Nat) (q:25#0) (i:Nat) (os:42#0),ds=[zQ n q,nD i,uD os]/\i<n/\(∀ x∈os,x<n)/\n<=9/\os.length<=50/\R (nD (mask q i os)) G
noncomputable def zD1:yN:=(zi (zo zLe (zr (iV (zB 2)) wd (xB (zH wg (zA (zB 0) (zA (zB 1) 73#0)))) (zS 68#0 35#0 (zB 3)))))
theorem zJV(l:42#0):(l.map fun(x:Nat)=>(x:Int)).sum=((l.sum:Nat):Int):=by
 induction l with
 | nil=>rfl
 | cons a r ih=>rw[dq,List.sum_cons,ih,List.sum_cons];omega
theorem zPN(ds:List D)(G:Gp)(R:Q2)(h:zEX ds G R):ds.length=3/\zD1 (zZ R) (zN ["web","place","others"] ds) G:=by
 obtain⟨n,q,i,os,rfl,hi,ho,hn,hl,h⟩:=h;refine⟨rfl,?_⟩;unfold zD1;have c:=wL (σ:=zN ["web","place","others"] [zQ n q,nD i,uD os]) (G:=G) (bd:=wd) (tc:=(xB (zH wg (zA (zB 0) (zA (zB 1) 73#0))))) (te:=(zS 68#0 35#0 (zB 3))) 109#0 107#0 (fun d=>[d]) (zCf (zE (i:=2) (d:=uD os) rfl)) fun x hx=>by
  obtain⟨k,hk,rfl⟩:=cx.mp hx;refine⟨rfl,zAI 144#0,fun u0=>yW (x:=.int 1) (y:=nD k) yE (zE rfl) fun u0 u0 u0 q'=>⟨⟨by omega,by have:=ho k hk;omega,by decide⟩,?_⟩⟩;dsimp only;have:(1:Int)*2 ^ ((k:Int)).toNat=((2 ^ k:Nat):Int):=by simp
  rw[this];exact q'
 have e:cE 107#0 (List.filter 109#0 (os.map nD))=(((os.filter (yS q i)).map fun o=>2 ^ o).map fun(x:Nat)=>(x:Int)).map D.int:=by
  rw[fo,de,de,de];rfl
 rw[e] at c;have s:zd (zo zLe (zr (iV (zB 2)) wd (xB (zH wg (zA (zB 0) (zA (zB 1) 73#0)))) (zS 68#0 35#0 (zB 3)))) (zN ["web","place","others"] [zQ n q,nD i,uD os]) G (nD (mask q i os)):=fun G2 e2 R' q'=>c G2 e2 _ ⟨_,rfl,by
   have:=dX (yS q i) os;simp only[cg];omega,fun a ha=>by
   obtain⟨b,hb,rfl⟩:=cx.mp ha;obtain⟨o,ho',rfl⟩:=cx.mp hb;have:=ho o (cQ.mp ho').1;have h2:2 ^ o<=2 ^ 9:=et 1#0 1#0;generalize 2 ^ o=z at h2 ⊢;omega,by rw[zJV];exact q'⟩
 exact zAX s (.of h)
noncomputable def rk(n:Nat)(q:25#0)(ps:42#0):List Nat:=(ps.map fun i=>mask q i (oth n ps)).foldl zC5 []
noncomputable def zBE:wF:=fun ds G R=>∃(n:Nat) (q:25#0) (ps:42#0),ds=[zQ n q,uD ps]/\n<=9/\(∀ x∈ps,x<n)/\ps.length<=50/\R (nD (rk n q ps).length) G
noncomputable def zBx:yN:=(zU (zn (zH zBK (zA (zB 0) 51#0)) (gN 2)) (zU (zn (zf (wE zG)) (gN 3)) (zU (yq (iV (zB 1)) (gN 4) (zU (zn (zH zEX (zA (zB 0) (zA (zB 4) 95#0))) (gN 5)) (zU (yq (iV (zB 3)) (gN 6) (zn (zH zAH (zA (zB 5) (zA (zS 124#0 (zB 5) (zB 6)) zG))) (gN 5))) (xIf (xB (zS (wu true) (zB 5) 32#0)) (wH (zHo (zB 3) (zA (zB 5) zG))) yC)))) (zi (zH zk 73#0)))))
theorem zMy(free:42#0)(row:Nat):(zC5 free row).length<=free.length+1:=by
 unfold zC5;split<;>simp
theorem zHL:∀(rows free:42#0),(rows.foldl zC5 free).length<=free.length+rows.length
 | [],free=>by simp
 | r::rows,free=>by
  rw[List.foldl_cons,cb];have:=zHL rows (zC5 free r);have:=zMy free r;omega
theorem zRH(h:zd t σ G (nD a))(h':zd u σ G (nD b)):zd (zH zAH (zA t (zA u zG))) σ G (nD (min a b)):=by
 have a3:zd (zH zAH (zA t (zA u zG))) σ G (.int (if (b:Int)<(a:Int) then (b:Int) else (a:Int))):=zX (zF h (zF h' zM)) fun u0 u0 u0 q=>q;have e:(if (b:Int)<(a:Int) then (b:Int) else (a:Int))=((min a b:Nat):Int):=by split<;>omega
 rw[e] at a3;exact a3
theorem zLk(h:zd t σ G (nD a))(h':zd u σ G (nD b)):zd (zS 124#0 t u) σ G (nD (a ^^^ b)):=by
 have:=zDZ (g:=fun i j=>.int (Builtin.bitXor i j)) h h';rw[zKi] at this;exact this
theorem zKk(ds:List D)(G:Gp)(R:Q2)(h:zBE ds G R):ds.length=2/\zBx (zZ R) (zN ["web","places","others","free","place","rest","row"] ds) G:=by
 obtain⟨n,q,ps,rfl,hn,hm,hl,h⟩:=h;refine⟨rfl,?_⟩;unfold zBx;rw[show zN ["web","places","others","free","place","rest","row"] [zQ n q,uD ps]=[some (zQ n q),some (uD ps),none,none,none,none,none] from rfl];refine yy (d:=uD (oth n ps)) (zX 143#0 fun u0 u0 u0 q'=>⟨n,q,ps,rfl,by omega,q'⟩) ?_;sleep 12;refine ye (zB9 (ds:=[]) 48#0 fun f hf=>?_);sleep 12;have hol:=zRG n ps;refine zCL (zU1 (ds:=ps.map nD) (zE rfl) (zAZ (fun k G'=>G'.m f=some ((((ps.take k).map fun i=>mask q i (oth n ps)).foldl zC5 []).map nD)/\L3.Sub G G') ⟨by simpa using zK,.new hf⟩ (fun u0 u0 u0=>trivial) ?_ ?_))
 ·rintro k x hx G2 ⟨h1,h2⟩
  obtain⟨i,hi,rfl⟩:=zCa hx;have hin:=hm i (cW hi);have hkl:k<ps.length:=(cu.mp hi).1;sleep 12;rw[yI hi,dP,List.foldl_append];simp only[dq,List.map_nil,List.foldl_cons,List.foldl_nil];have hfl:(((ps.take k).map fun i=>mask q i (oth n ps)).foldl zC5 []).length<=50:=by
   have:=zHL ((ps.take k).map fun i=>mask q i (oth n ps)) [];rw[cg,cS] at this;simp only[ci] at this;omega
  generalize ((ps.take k).map fun i=>mask q i (oth n ps)).foldl zC5 []=free at h1 hfl;refine yy (d:=nD (mask q i (oth n ps))) (zX (zF (zE rfl) 143#0) fun u0 u0 u0 q'=>⟨n,q,i,oth n ps,rfl,hin,fun x hx=>zKj hx,hn,by omega,q'⟩) ?_;sleep 12;generalize mask q i (oth n ps)=row;refine zCL (show iV _ _ _ _ from(zE (i:=3) (d:=.adr f) rfl) _ (.refl _) _ ⟨free.map nD,.inl h1,⟨fun j σ' G'=>σ'=[some (zQ n q),some (uD ps),some (uD (oth n ps)),some (.adr f),some (nD i),some (nD (red (free.take j) row)),none]/\G'=G2,⟨rfl,rfl⟩,?_,?_,?_⟩⟩)
  ·rintro j σ' G' u0 ⟨u0,rfl⟩
   exact .inl h1
  ·rintro j x σ' G' hx ⟨rfl,rfl⟩
   obtain⟨b,hb,rfl⟩:=zCa hx;sleep 12;refine zR5 (zRH (zE rfl) (zLk (zE rfl) (zE rfl))) ?_;sleep 12;refine⟨_,_,.keep (.keep (.keep (.keep (.keep (.keep (.skip .nil)))))),.refl _,?_,rfl⟩;rw[yI hb];unfold red;rw[List.foldl_append];rfl
  ·rintro σ' G' ⟨rfl,rfl⟩
   rw[cg,eH];have t:PuT (xB (zS (wu true) (zB 5) 32#0)) [some (zQ n q),some (uD ps),some (uD (oth n ps)),some (.adr f),some (nD i),some (nD (red free row)),none] G' (!decide (red free row=0)):=zAI (zEi (x:=nD (red free row)) (y:=nD 0) (zE rfl) yE rfl rfl (by rw[if_pos rfl,zAu]));by_cases hz:red free row=0
   ·rw[decide_eq_true hz] at t
    dsimp only;refine zOS t ⟨.keep (.keep 108#0),G',.refl _,?_,h2⟩;unfold zC5;rw[if_neg (fun z=>z hz)];exact h1
   ·rw[decide_eq_false hz] at t
    dsimp only;refine zOT t (zIG (zHz (d:=nD (red free row)) rfl h1 (fun Q q'=>zF (zE rfl) zM _ (.refl _) _ q') (by rw[cg];omega) ?_));refine⟨.keep (.keep 108#0),_,.refl _,?_,h2.put hf⟩;unfold zC5;rw[if_pos hz,zK];simp
 ·rintro G2 ⟨h1,h2⟩
  rw[cg,eH] at h1;dsimp only;exact zAX (d:=nD (rk n q ps).length) (zX (zF (zE (i:=3) (d:=.adr f) rfl) zM) fun u0 e u0 q'=>⟨_,e.ls (.inl h1),by rw[cg];exact q'⟩) ⟨G,h2,h⟩
noncomputable def zEY(n:Nat)(q:25#0)(ps:42#0):Bool:=decide (2<=ps.length)&&decide (ps.length+2<=n)&&decide ((rk n q ps).length<=1)
noncomputable def zCT:wF:=fun ds G R=>∃(n:Nat) (q:25#0) (ps:42#0),ds=[zQ n q,uD ps]/\n<=9/\(∀ x∈ps,x<n)/\ps.length<=50/\ps.Pairwise (·<·)/\R (.bl (zEY n q ps)) G
noncomputable def zBy:yN:=(zU (xIf (zBI (zAq (xB (zH zAE (zA 24#0 51#0)))) (zAq (xB (zH zAF 51#0)))) (zi (xC (.bl false))) yC) (zi (zE0 (zBm 86#0 86#0 (xC (.int 2)) (zH zk 51#0) (zS (fII fun i j=>.int (i-j)) 24#0 (xC (.int 2)))) (zS 86#0 (zH zBE (zA (zB 0) 51#0)) 35#0))))
theorem zKl(ds:List D)(G:Gp)(R:Q2)(h:zCT ds G R):ds.length=2/\zBy (zZ R) (zN ["web","places"] ds) G:=by
 obtain⟨n,q,ps,rfl,hn,hm,hl,hr,h⟩:=h;refine⟨rfl,?_⟩;unfold zBy;rw[show zN ["web","places"] [zQ n q,uD ps]=[some (zQ n q),some (uD ps)] from rfl];have c1:zd (zH zAE (zA 24#0 51#0)) [some (zQ n q),some (uD ps)] G (.bl true):=zX (zF (zB8 (zE rfl)) (zF (zE (d:=uD ps) rfl) zM)) fun u0 u0 u0 q'=>⟨n,_,rfl,.inl ⟨ps,⟨rfl,hm,by omega⟩,q'⟩⟩
 have c2:zd (zH zAF 51#0) [some (zQ n q),some (uD ps)] G (.bl true):=zX (zF (zE (d:=uD ps) rfl) zM) fun u0 u0 u0 q'=>⟨ps,rfl,by omega,by rw[(zPK ps).mpr hr];exact q'⟩
 refine zG6 (zS9 (zHr (b:=true) (zAI c1)) (zHr (b:=true) (zAI c2))) ?_;have a1:=zG7 (f:=fun i j=>decide (i<=j)) (g:=fun i j=>decide (i<=j)) (yE (σ:=[some (zQ n q),some (uD ps)]) (G:=G) (d:=.int 2)) (zCk (ps:=ps) (zE (i:=1) rfl)) (zDZ (g:=fun i j=>.int (i-j)) (zB8 (n:=n) (q:=q) (zE (i:=0) rfl)) (yE (d:=.int 2)));have a2:zd (zS 86#0 (zH zBE (zA (zB 0) 51#0)) 35#0) [some (zQ n q),some (uD ps)] G (.bl (decide (((rk n q ps).length:Int)<=1))):=zDZ (g:=fun i j=>.bl (decide (i<=j))) (zX (d:=nD (rk n q ps).length) 143#0 fun u0 u0 u0 q'=>⟨n,q,ps,rfl,hn,hm,hl,q'⟩) (yE (d:=.int 1));have:=zFM a1 fun u0=>a2;have e:((decide ((2:Int)<=(ps.length:Int))&&decide ((ps.length:Int)<=(n:Int)-2))&&decide (((rk n q ps).length:Int)<=1))=zEY n q ps:=by
  unfold zEY;rw[cV];simp only[eS,decide_eq_true_eq];omega
 rw[e] at this;exact zAX this (.of h)
end K
namespace K
open L2 L3 HS
end K
namespace L2
section
variable {X:Cx} {z:Str} {tg elt iter:Expr} {ifs:List Expr} {sc:Scope} {pos:Pos} {N0 own:List Str} {wi:TI} {g:TG} {tc:TT} {te:TE}
end
end L2
namespace L3
open L2
section
variable {X:Cx} {elt iter:Expr} {pos:Pos} {te:zl} {ifs:List Expr} {sc:Scope} {N0:List Str} {wi:TI2} {tc:TT2}
end
end L3
namespace K
open L2 L3
noncomputable def zIK(n:Nat)(ps:42#0):Prop:=ps.Pairwise (·<·)/\∀ x∈ps,x<n
theorem zIK.len(h:zIK n ps):ps.length<=n:=by
 have nd:ps.Nodup:=h.1.imp fun a=>cR a;have:=nd.length_le_of_subset (l₂:=cf n) fun x hx=>cz.mpr (h.2 x hx);rwa [cX] at this
theorem zIK.nil:zIK n []:=⟨.nil,fun x hx=>nomatch hx⟩
theorem zIK.all:zIK n (cf n):=⟨List.pairwise_lt_range,fun x hx=>cz.mp hx⟩
end K
namespace HZ
end HZ
namespace L2
open HZ
end L2
namespace L3
open L2
end L3
namespace K
open L2 L3 HS
theorem zIL(h:zd t σ G (.adr a))(hl:Ls G a xs):zd (zH zk (zA t zG)) σ G (nD xs.length):=zX (zF h zM) fun u0 e u0 q=>⟨xs,e.ls hl,q⟩
noncomputable def sdN:Nat->List (List Nat)
 | 0=>[[0]]
 | i+1=>sdN i++(sdN i).map (·++[i+1])
theorem zIM:∀ i,(sdN i).length=2 ^ i
 | 0=>rfl
 | i+1=>by
  rw[sdN,cD,cg,zIM i,f9];omega
theorem zD2:∀ i,∀ p∈sdN i,zIK (i+1) p/\p≠[]
 | 0,p,hp=>by
  rw[sdN,cq] at hp;subst hp;exact⟨⟨fh _ _,fun x hx=>by rw[cq.mp hx];omega⟩,by simp⟩
 | i+1,p,hp=>by
  rw[sdN] at hp;rcases cG.mp hp with hp | hp
  ·obtain⟨⟨h1,h2⟩,h3⟩:=zD2 i p hp
   exact⟨⟨h1,fun x hx=>fI (h2 x hx)⟩,h3⟩
  ·obtain⟨r,hr,rfl⟩:=cx.mp hp
   obtain⟨⟨h1,h2⟩,h3⟩:=zD2 i r hr;refine⟨⟨List.pairwise_append.mpr ⟨h1,fh _ _,fun a ha b hb=>by rw[cq.mp hb];exact h2 a ha⟩,fun x hx=>?_⟩,by simp⟩;sleep 30
   ·exact fI (h2 x hx)
   ·rw[cq.mp hx];omega
noncomputable def uI(p:42#0):List Int:=p.map fun(k:Nat)=>(k:Int)
theorem zTT(l:List (List Nat)):l.map uD=(l.map uI).map tI:=by
 rw[de];refine dL fun p u0=>?_;show D.tup (p.map nD)=D.tup ((uI p).map D.int);unfold uI;rw[de];rfl
noncomputable def zIN(n:Nat)(q:25#0):List (List Nat):=(sdN (n-1)).filter (zEY n q)
noncomputable def zBY:List D->Gp->100#0->Prop:=fun ds G R=>∃(n:Nat) (q:25#0),ds=[zQ n q]/\1<=n/\n<=9/\∀ m:List (List Int),m.Perm ((zIN n q).map uI)->m.Pairwise 38#0->R (m.map tI) G
theorem zJW:∀ ds G R R',62#0->zBY ds G R->zBY ds G R':=by
 rintro ds G R R' h ⟨n,q,e,h1,h9,k⟩;exact⟨n,q,e,h1,h9,fun m a b=>h _ _ (k m a b)⟩
theorem zIO(n:Nat):yD 1 n=(cf n).map fun k=>nD (k+1):=by
 unfold yD;refine dL fun k u0=>?_;show D.int _=D.int _;congr 1;omega
theorem zIP(h:((cf n).map fun k=>nD (k+1))[i]?=some x):x=nD (i+1)/\i<n:=by
 rw[cZ] at h;by_cases hi:i<n
 ·rw[List.getElem?_range hi] at h
  cases h;exact⟨rfl,hi⟩
 ·rw[List.getElem?_eq_none (by rw[cX];omega)] at h
  cases h
theorem zJX(h1:1<=n)(h9:n<=9)(hc:∀(l:Addr) (p:42#0) (σ1:Option D) (G':Gp),zIK n p->PuT tc [some (zQ n q),some (.adr l),σ1,some (uD p)] G' (zEY n q p))
  (h:∀ m:List (List Int),m.Perm ((zIN n q).map uI)->m.Pairwise 38#0->∀ l,G.m l=none->R (.adr l) (za G l (m.map tI))) :
  (zU (zn (zf (wE (zA (yU (zA 32#0 zG)) zG))) (gN 1)) (zU (yq (iR2 (zA 35#0 (zA 24#0 zG))) (gN 2) (zn (zf (zLG (zB 1) (zf (zr (iV (zB 1)) wd zBO (zS yQ (zB 3) (yU 95#0)))))) (gN 1))) (zi (zf (zEU (zr (iV (zB 1)) wd tc (zB 3))))))) (zZ R) [some (zQ n q),none,none] G:=by
 refine ye (zB9 (ds:=[uD [0]]) (fun G2 e R q=>zCO (zF (zBh (zF yE zM) 13#0) zM G2 e _ ⟨by rw[sizeLine_eq];simp,q⟩)) fun f hf=>?_);sleep 12;refine zFt (i:=1) (j:=n) (zF yE (zF (zB8 (q:=q) (zE rfl)) zM)) 1#0 ?_;rw[show((n:Int)-1).toNat=n-1 by omega,zIO];refine⟨fun i σ' G'=>∃ l σ1,σ'=[some (zQ n q),some (.adr l),σ1]/\G.m l=none/\G'.m l=some ((sdN i).map uD)/\L3.Sub G G',⟨f,none,rfl,hf,zK,.new hf⟩,fun u0 u0 u0 u0 u0=>trivial,?_,?_⟩
 ·rintro i x σ' G' hx ⟨l,σ1,rfl,hl,hg,sb⟩
  obtain⟨rfl,hi⟩:=zIP hx;sleep 12;have m:=zEN (σ:=[some (zQ n q),some (.adr l),some (nD (i+1))]) (G:=G') (bd:=wd) (te:=zS yQ (zB 3) (yU 95#0)) (fun d=>match d with | .tup xs=>.tup (xs++[nD (i+1)]) | _=>.non) (fun d=>[d]) (wS (zE (i:=1) rfl) (.inl hg)) fun x hx=>by
   obtain⟨p,hp,rfl⟩:=cx.mp hx;refine⟨rfl,zEQ (xs:=p.map nD) (ys:=[nD (i+1)]) (zE rfl) (zBh (zF (zE rfl) zM) 13#0) ?_⟩;have:=(zD2 i p hp).1.len;simp only[cg,cb,ci];omega
  have e:cE (fun d=>match d with | .tup xs=>D.tup (xs++[nD (i+1)]) | _=>.non) ((sdN i).map uD)=((sdN i).map (·++[i+1])).map uD:=by
   rw[de,de];refine dL fun p u0=>?_;simp[Function.comp]
  rw[e] at m;refine zPI (zBX (zUM (zE (d:=.adr l) rfl) (zB9 m fun k hk=>⟨_,_,by rw[ze (fun z=>by rw[z] at hg;rw[hg] at hk;cases hk)];exact hg,zK,?_,fun l' hl'=>?_⟩)))
  ·have a:=zIM i
   have b:2 ^ i<=2 ^ 8:=et (n:=2) 1#0 1#0;simp only[cg];omega
  ·have sb2:L3.Sub G (za G' k (((sdN i).map (·++[i+1])).map uD)):=sb.put (zAz sb hk)
   sleep 12;refine⟨[some (zQ n q),some (.adr l'),none],_,.keep (.keep (.skip .nil)),.refl _,l',none,rfl,zAz sb2 hl',?_,sb2.put (zAz sb2 hl')⟩;rw[zK,<-dP];rfl
 ·rintro σ' G' ⟨l,σ1,rfl,hl,hg,sb⟩
  rw[cg,cX] at hg;have hsd:∀ p∈sdN (n-1),zIK n p/\p≠[]:=fun p hp=>by
   have:=zD2 (n-1) p hp;rw[show n-1+1=n by omega] at this;exact this
  have c:=wL (σ:=[some (zQ n q),some (.adr l),σ1]) (G:=G') (bd:=wd) (tc:=tc) (te:=zB 3) (fun d=>match d with | .tup xs=>zEY n q (xs.map fun d=>match d with | .int v=>v.toNat | _=>0) | _=>false) (fun d=>d) (fun d=>[d]) (wS (zE (i:=1) rfl) (.inl hg)) fun x hx=>by
   obtain⟨p,hp,rfl⟩:=cx.mp hx;have ep:cE (fun d=>match d with | D.int v=>v.toNat | _=>0) (p.map nD)=p:=by
    rw[de]
    conv=>rhs;rw[<-List.map_id p]
    exact dL fun k u0=>rfl
   refine⟨rfl,?_,fun u0=>zE rfl⟩;show PuT tc _ _ (zEY n q (cE (fun d=>match d with | D.int v=>v.toNat | _=>0) (p.map nD)));rw[ep];exact hc l p σ1 G' (hsd p hp).1
  have e:cE (fun d=>d) (List.filter (fun d=>match d with | .tup xs=>zEY n q (xs.map fun d=>match d with | .int v=>v.toNat | _=>0) | _=>false) ((sdN (n-1)).map uD))=((zIN n q).map uI).map tI:=by
   rw[List.map_id',fo,<-zTT];congr 1;refine fk fun p u0=>?_;show zEY n q (cE (fun d=>match d with | D.int v=>v.toNat | _=>0) (p.map nD))=zEY n q p;congr 1;rw[de]
   conv=>rhs;rw[<-List.map_id p]
   exact dL fun k u0=>rfl
  rw[e] at c;refine c G' (.refl G') _ ⟨(zIN n q).map uI,rfl,?_,?_,fun m pm pw l' hl'=>?_⟩
  ·have a:=zIM (n-1)
   have b:2 ^ (n-1)<=2 ^ 8:=et (n:=2) 1#0 1#0;have c:=dX (zEY n q) (sdN (n-1));unfold zIN;rw[cg];omega
  ·intro ns hns
   obtain⟨p,hp,rfl⟩:=cx.mp hns;have:=(hsd p (cQ.mp hp).1).2;intro z;unfold uI at z;exact this (List.map_eq_nil_iff.mp z)
  ·refine⟨za G l' (m.map tI),115#0,h m pm pw l' (zAz sb hl')⟩
   by_cases ha:a=l'
   ·subst ha;rw[zK] at e;cases e;exact zK
   ·rw[ze ha] at e;rw[ze ha];exact sb.m a o e
noncomputable def zGE:yN:=(zU (zn (zf (wE (zA (yU (zA 32#0 zG)) zG))) (gN 1)) (zU (yq (iR2 (zA 35#0 (zA 24#0 zG))) (gN 2) (zn (zf (zLG (zB 1) (zf (zr (iV (zB 1)) wd zBO (zS yQ (zB 3) (yU 95#0)))))) (gN 1))) (zi (zf (zEU (zr (iV (zB 1)) wd (xB (zH zCT (zA (zB 0) 73#0))) (zB 3)))))))
theorem zPO(ds:List D)(G:Gp)(R:Q2)(h:spL zBY ds G R):ds.length=1/\zGE (zZ R) (zN ["web","sides","place"] ds) G:=by
 obtain⟨n,q,rfl,h1,h9,h⟩:=h;refine⟨rfl,zJX (tc:=_) h1 h9 (fun l p σ1 G' hp=>?_) h⟩;exact zAI (zX 143#0 fun u0 u0 u0 q'=>⟨n,q,p,rfl,h9,hp.2,by have:=hp.len;omega,hp.1,q'⟩)
end K
namespace K
open L3
noncomputable def zIQ(n:Nat)(q:25#0):Bool:=decide (5<=n)&&(sdN (n-1)).all fun p=>!zEY n q p
theorem zMz(n:Nat)(q:25#0):(decide (5<=n)&&(zIN n q).isEmpty)=zIQ n q:=by
 unfold zIQ zIN;congr 1;rw[cV,List.isEmpty_iff,List.filter_eq_nil_iff,em];refine forall_congr' fun p=>forall_congr' fun u0=>?_;cases zEY n q p<;>simp
noncomputable def mkW(r:42#0)(a j:Nat):Nat:=((r.drop a).take j).foldl (fun m x=>m ^^^ 2 ^ x) 0
noncomputable def tog(l:42#0)(x:Nat):List Nat:=if x∈l then l.filter (fun y=>decide (y≠x)) else l++[x]
noncomputable def odW(r:42#0)(a j:Nat):List Nat:=((r.drop a).take j).foldl tog []
theorem zIR:i∈tog l x↔(i∈l/\i≠x)\/(i=x/\x∉l):=by
 unfold tog;by_cases h:x∈l
 ·rw[if_pos h,cQ]
  simp only[decide_eq_true_eq];constructor
  ·intro q;exact .inl q
  ·rintro(q | ⟨u0,q⟩)
   ·exact q
   ·exact absurd h q
 ·rw[if_neg h,cG,cq]
  constructor
  ·rintro(q | q)
   ·exact .inl ⟨q,fun z=>h (by rw[<-z];exact q)⟩
   ·exact .inr ⟨q,h⟩
  ·rintro(q | q)
   ·exact .inl q.1
   ·exact .inr q.1
theorem zM0(h:l.Nodup):(tog l x).Nodup:=by
 unfold tog;by_cases hx:x∈l
 ·rw[if_pos hx];exact h.filter _
 ·rw[if_neg hx]
  exact fK.mpr ⟨h,by simp,fun a ha b hb e=>by rw[cq.mp hb] at e;exact hx (by rw[<-e];exact ha)⟩
theorem zHM:∀(xs l:42#0) (m:Nat),l.Nodup->(∀ i,m.testBit i=decide (i∈l))->(xs.foldl tog l).Nodup/\∀ i,(xs.foldl (fun m x=>m ^^^ 2 ^ x) m).testBit i=decide (i∈xs.foldl tog l)
 | [],l,m,h,e=>⟨h,e⟩
 | x::xs,l,m,h,e=>by
  refine zHM xs (tog l x) (m ^^^ 2 ^ x) (zM0 h) fun i=>?_;rw[Nat.testBit_xor,e,Nat.testBit_two_pow,cV];simp only[decide_eq_true_eq,bne_iff_ne,ne_eq,decide_eq_decide,zIR];by_cases h1:i∈l<;>by_cases h2:x=i
  ·subst h2;simp[h1]
  ·simp[h1,h2,Ne.symm h2,eq_comm]
  ·subst h2;simp[h1]
  ·simp[h1,h2,Ne.symm h2,eq_comm]
theorem zTU(r:42#0)(a j:Nat):(odW r a j).Nodup/\∀ i,(mkW r a j).testBit i=decide (i∈odW r a j):=zHM _ [] 0 List.nodup_nil fun i=>by simp
theorem zJY(h:a+j<r.length):mkW r a (j+1)=mkW r a j ^^^ 2 ^ (r.getD (a+j) 0):=by
 unfold mkW;have e:(r.drop a)[j]?=some (r.getD (a+j) 0):=by
  rw[List.getElem?_drop];simp[dA,h]
 rw[yI e,List.foldl_append];rfl
theorem zRI(h:r.length<=a+j):mkW r a (j+1)=mkW r a j:=by
 unfold mkW;rw[fq (by rw[dN];omega),fq (by rw[dN];omega)]
noncomputable def zEZ(r:42#0)(p a b:Nat):List Nat:=r.take a++[p]++(r.drop a).take (b-a)++[p]++r.drop b
noncomputable def zEa(r:42#0)(p W a j:Nat):List (List Nat):=((cf j).filter fun d=>decide (mkW r a d=W)).map fun d=>zEZ r p a (a+d)
noncomputable def wx(r:42#0)(p W:Nat):Nat->List (List Nat)
 | 0=>[]
 | i+1=>wx r p W i++zEa r p W (i+1) (r.length-i)
noncomputable def wch(r:42#0)(p W:Nat):List (List Nat):=wx r p W r.length
theorem zCq:zEa r p W a (j+1)=zEa r p W a j++(if mkW r a j=W then [zEZ r p a (a+j)] else []):=by
 unfold zEa;rw[fm,ef,dP];by_cases h:mkW r a j=W<;>simp[h]
theorem zJZ:∀ j,(∀ d,d+1<j->¬ (f d=true/\f (d+1)=true))->((cf j).filter f).length<=(j+1) / 2
 | 0,_=>by simp
 | 1,_=>by
  have:=dX f (cf 1);sleep 33
 | j+2,h=>by
  have ih:=zJZ j fun d hd=>h d 1#0;rw[fm,fm,ef,ef,cD,cD];have:=h j 1#0;cases h1:f j<;>cases h2:f (j+1)<;>simp_all<;>omega
theorem zGF(hj:a+j<=r.length+1):(zEa r p W a j).length<=(j+1) / 2:=by
 unfold zEa;rw[cg];refine zJZ j fun d hd=>?_;rintro⟨h1,h2⟩;have h1:=of_decide_eq_true h1;have h2:=of_decide_eq_true h2;rw[zJY 1#0,h1] at h2;have h3:=congrArg (fun z=>z ^^^ W) h2;simp only[Nat.xor_self] at h3;rw[Nat.xor_comm W,Nat.xor_assoc,Nat.xor_self,Nat.xor_zero] at h3;have:0<2 ^ (r.getD (a+d) 0):=Nat.pow_pos 1#0;omega
noncomputable def zPP(L:Nat):Nat->Nat
 | 0=>0
 | i+1=>zPP L i+(L-i+1) / 2
theorem zHN:∀ i,i<=r.length->(wx r p W i).length<=zPP r.length i
 | 0,_=>cr _
 | i+1,h=>by
  have:=zHN i 1#0 (r:=r) (p:=p) (W:=W);have h2:=zGF (r:=r) (p:=p) (W:=W) (a:=i+1) (j:=r.length-i) 1#0;show(wx r p W i++zEa r p W (i+1) (r.length-i)).length<=zPP r.length i+(r.length-i+1) / 2;rw[cD];omega
theorem zRJ(h:a<=b)(hb:b<=r.length):(zEZ r p a b).length=r.length+2/\∀ x∈zEZ r p a b,x=p\/x∈r:=by
 unfold zEZ;constructor
 ·simp only[cD,cS,dN,cb,ci]
  omega
 ·intro x hx
  simp only[cG,cY,fb,or_false] at hx;rcases hx with (((hx | hx) | hx) | hx) | hx
  ·exact .inr (eK hx)
  ·exact .inl hx
  ·exact .inr (List.mem_of_mem_drop (eK hx))
  ·exact .inl hx
  ·exact .inr (List.mem_of_mem_drop hx)
theorem zEb:∀ i,i<=r.length->x∈wx r p W i->x.length=r.length+2/\∀ y∈x,y=p\/y∈r
 | 0,_,h=>by cases h
 | i+1,hi,h=>by
  rcases cG.mp (show x∈wx r p W i++zEa r p W (i+1) (r.length-i) from h) with h | h
  ·exact zEb i 1#0 h
  ·obtain⟨d,hd,rfl⟩:=cx.mp h
   have hd:=cz.mp (cQ.mp hd).1;exact zRJ 1#0 1#0
noncomputable def nrQ(q:25#0)(p:Nat):List Nat:=(cf p).filter (yS q p)
noncomputable def rgs(q:25#0):Nat->List (List Nat)
 | 0=>[[0,0]]
 | i+1=>(rgs q i).flatMap fun r=>wch r (i+1) (yo (nrQ q (i+1)))
theorem zDM(q:25#0):∀ i,∀ r∈rgs q i,r.length=2*(i+1)/\∀ y∈r,y<=i
 | 0,r,h=>by
  rw[rgs,cq] at h;subst h;exact⟨rfl,fun y hy=>by simp at hy;omega⟩
 | i+1,r,h=>by
  obtain⟨s,hs,h⟩:=List.mem_flatMap.mp (show r∈(rgs q i).flatMap _ from h);obtain⟨h1,h2⟩:=zDM q i s hs;obtain⟨h3,h4⟩:=zEb s.length (cr _) h;refine⟨by omega,fun y hy=>?_⟩;rcases h4 y hy with rfl | z
  ·exact cr _
  ·have:=h2 y z;omega
theorem zGG{α β:Type}{f:α->List β}{c:Nat}:∀ l:List α,(∀ x∈l,(f x).length<=c)->(l.flatMap f).length<=l.length*c
 | [],_=>by simp
 | a::l,h=>by
  have h1:=h a (cK ..);have h2:=zGG l fun x hx=>h x (cJ _ hx);rw[List.flatMap_cons,cD,cb,Nat.add_mul];omega
noncomputable def zUO:Nat->Nat
 | 0=>1
 | i+1=>zUO i*zPP (2*(i+1)) (2*(i+1))
theorem zIS(q:25#0):∀ i,(rgs q i).length<=zUO i
 | 0=>cr _
 | i+1=>by
  have h1:=zGG (f:=fun r=>wch r (i+1) (yo (nrQ q (i+1)))) (c:=zPP (2*(i+1)) (2*(i+1))) (rgs q i) fun r hr=>by
   have:=zHN (r:=r) (p:=i+1) (W:=yo (nrQ q (i+1))) r.length (cr _);rw[(zDM q i r hr).1] at this;show(wx r _ _ r.length).length<=_;rw[(zDM q i r hr).1];exact this
  exact dF h1 (Nat.mul_le_mul_right _ (zIS q i))
theorem zM1(q:25#0)(h:i<=4):(rgs q i).length<=2880:=by
 refine dF (zIS q i) ?_
 match i,h with
 | 0,_=>decide
 | 1,_=>decide
 | 2,_=>decide
 | 3,_=>decide
 | 4,_=>decide
end K
namespace K
open L2 L3
section
variable {α:Type}
theorem zFP(X Y:List α):wv (X++Y) X.length=Y++X:=by unfold wv;simp
theorem zBZ{X Y:List α}{k:Nat}(h:X.length=k):wv (X++Y) k=Y++X:=by subst h;exact zFP X Y
theorem zIT(l:List α)(h:a+b<=l.length):wv (wv l a) b=wv l (a+b):=by
 have e:l=(l.take a++(l.drop a).take b)++l.drop (a+b):=by
  rw[<-List.take_add,cU]
 generalize hX:l.take a=X at e;generalize hY:(l.drop a).take b=Y at e;generalize hZ:l.drop (a+b)=Z at e;have lX:X.length=a:=by rw[<-hX,cS];omega
 have lY:Y.length=b:=by rw[<-hY,cS,dN];omega
 have t1:wv l a=Y++(Z++X):=by rw[e,cL,zBZ (X:=X) lX,cL]
 have t2:wv l (a+b)=Z++(X++Y):=by rw[e,zBZ (X:=X++Y) (by rw[cD,lX,lY])]
 rw[t1,t2,zBZ (X:=Y) lY,cL]
theorem zPQ(l:List α)(h:l.length<=a+b)(ha:a<=l.length)(hb:b<=l.length):wv (wv l a) b=wv l (a+b-l.length):=by
 generalize hc:a+b-l.length=c;have e:l=(l.take c++(l.take a).drop c)++l.drop a:=by
  have:l.take c=(l.take a).take c:=by rw[List.take_take,eD 1#0]
  rw[this,cU,cU]
 generalize hX:l.take c=X at e;generalize hY:(l.take a).drop c=Y at e;generalize hZ:l.drop a=Z at e;have lX:X.length=c:=by rw[<-hX,cS];omega
 have lY:Y.length=a-c:=by rw[<-hY,dN,cS];omega
 have lZ:Z.length=l.length-a:=by rw[<-hZ,dN]
 have t1:wv l a=(Z++X)++Y:=by rw[e,zBZ (X:=X++Y) (by rw[cD,lX,lY];omega),cL]
 rw[t1,zBZ (X:=Z++X) (by rw[cD,lX,lZ];omega),e,cL X Y Z,zBZ (X:=X) lX,cL]
theorem zFQ(l:List α):wv l l.length=l:=by unfold wv;simp
theorem zRK(l:List α)(ha:a<=l.length)(hb:b<=l.length):∃ c,c<=l.length/\wv (wv l a) b=wv l c:=by
 by_cases h:a+b<=l.length
 ·exact⟨a+b,h,zIT l h⟩
 ·exact⟨a+b-l.length,by omega,zPQ l 1#0 ha hb⟩
theorem zJa(l:List α)(k:Nat):(wv l k).Perm l:=by
 unfold wv;exact List.perm_append_comm.trans (by rw[cU])
noncomputable def Sim(l l':List α):Prop:=∃ k,k<=l.length/\(l'=wv l k\/l'=wv l.reverse k)
theorem Sim.refl(l:List α):Sim l l:=⟨0,by omega,.inl (zGB l).symm⟩
theorem Sim.len{l l':List α}(h:Sim l l'):l'.length=l.length:=by
 obtain⟨k,u0,rfl | rfl⟩:=h
 ·exact zFN l k
 ·rw[zFN,dM]
theorem Sim.perm{l l':List α}(h:Sim l l'):l'.Perm l:=by
 obtain⟨k,u0,rfl | rfl⟩:=h
 ·exact zJa l k
 ·exact(zJa _ k).trans (List.reverse_perm l)
theorem zLl(l:List α)(h:k<=l.length):(wv l.reverse k).reverse=wv l (l.length-k):=by
 rw[zLh _ (by rw[dM];exact h),List.reverse_reverse,dM]
theorem Sim.symm{l l':List α}(h:Sim l l'):Sim l' l:=by
 have hl:=h.len;obtain⟨k,hk,rfl | rfl⟩:=h
 ·refine⟨l.length-k,by rw[hl];omega,.inl ?_⟩
  rw[zIT l 1#0,show k+(l.length-k)=l.length by omega,zFQ]
 ·refine⟨k,by rw[hl];omega,.inr ?_⟩
  rw[zLl l hk,zIT l 1#0,show l.length-k+k=l.length by omega,zFQ]
theorem Sim.trans{l l' l'':List α}(h:Sim l l')(h':Sim l' l''):Sim l l'':=by
 have hl:=h.len;obtain⟨a,ha,rfl | rfl⟩:=h
 ·obtain⟨b,hb,rfl | rfl⟩:=h'
  ·rw[hl] at hb
   obtain⟨c,hc,e⟩:=zRK l ha hb;exact⟨c,hc,.inl e⟩
  ·rw[hl] at hb
   rw[zLh l ha];obtain⟨c,hc,e⟩:=zRK l.reverse (a:=l.length-a) (b:=b) (by rw[dM];omega) (by rw[dM];exact hb);exact⟨c,by rw[dM] at hc;exact hc,.inr e⟩
 ·obtain⟨b,hb,rfl | rfl⟩:=h'
  ·rw[hl] at hb
   obtain⟨c,hc,e⟩:=zRK l.reverse (a:=a) (b:=b) (by rw[dM];exact ha) (by rw[dM];exact hb);exact⟨c,by rw[dM] at hc;exact hc,.inr e⟩
  ·rw[hl] at hb
   rw[zLl l ha];obtain⟨c,hc,e⟩:=zRK l (a:=l.length-a) (b:=b) 1#0 hb;exact⟨c,hc,.inl e⟩
theorem Sim.map(f:α->β)(h:Sim l l'):Sim (l.map f) (l'.map f):=by
 obtain⟨k,hk,rfl | rfl⟩:=h
 ·exact⟨k,by rw[cg];exact hk,.inl (zBw f l k)⟩
 ·exact⟨k,by rw[cg];exact hk,.inr (by rw[zBw,List.map_reverse])⟩
end
theorem zCU:x∈zEl l l.length↔Sim l x:=by
 rw[zHH];constructor
 ·rintro(rfl | ⟨k,hk,h⟩)
  ·exact .refl _
  ·exact⟨k,by omega,h⟩
 ·rintro⟨k,hk,h⟩
  by_cases e:k<l.length
  ·exact .inr ⟨k,e,h⟩
  ·have:k=l.length:=by omega
   subst this;rcases h with h | h
   ·rw[zFQ] at h;exact .inl h
   ·have e2:wv l.reverse l.length=l.reverse:=by
     have:=zFQ l.reverse;rwa [dM] at this
    rw[e2] at h;by_cases z:l.length=0
    ·have:l=[]:=eI.mp z
     subst this;exact .inl h
    ·exact .inr ⟨0,by omega,.inr (by rw[zGB];exact h)⟩
theorem zAl(l:129#0):Sim l (yG l):=zCU.mp (zBC l l.length).1
theorem zDN(h:Sim l l'):yG l=yG l' :=
 (zBC l l.length).uniq (zBC l' l'.length) fun x=>by
  rw[zCU,zCU];exact⟨fun q=>h.symm.trans q,fun q=>h.trans q⟩
noncomputable def cst(r:42#0):List Int:=r.map fun(x:Nat)=>(x:Int)
theorem zM2(r:42#0):∃ r',yG (cst r)=cst r'/\Sim r r':=by
 obtain⟨k,hk,h | h⟩:=zAl (cst r)
 ·exact⟨wv r k,by rw[h];exact(zBw _ r k).symm,k,by simpa[cst] using hk,.inl rfl⟩
 ·refine⟨wv r.reverse k,?_,k,by simpa[cst] using hk,.inr rfl⟩
  rw[h];unfold cst;rw[zBw,List.map_reverse]
theorem Sim.ring(h:Sim r r')(hr:yu n r):yu n r':=h.perm.trans hr
noncomputable def zDO:List Nat->Bool
 | a::b::c::_=>decide (a≠b)&&decide (b≠c)
 | _=>false
theorem yF(r:42#0)(p:Nat×Nat):zc r p=zDO (both r p):=by
 unfold zc zDO;rfl
theorem four{w:42#0}{i j:Nat}(h:w.length=4)(hm:∀ x∈w,x=i\/x=j)(hi:w.count i=2)(hij:i≠j) :
  w=[i,i,j,j]\/w=[i,j,i,j]\/w=[i,j,j,i]\/w=[j,i,i,j]\/w=[j,i,j,i]\/w=[j,j,i,i]:=by
 match w,h with
 | [a,b,c,d],_ =>
  have ji:¬ j=i:=fun e=>hij e.symm;have ha:=hm a 13#0;have hb:=hm b 13#0;have hc:=hm c 13#0;have hd:=hm d 13#0;rcases ha with rfl | rfl<;>rcases hb with rfl | rfl<;>rcases hc with rfl | rfl<;>rcases hd with rfl | rfl<;>simp_all [dB]
theorem zLm(h:w.length=4)(hm:∀ x∈w,x=i\/x=j)(hi:w.count i=2)(hij:i≠j)(hk:k<=4):zDO (wv w k)=zDO w:=by
 have ji:¬ j=i:=fun e=>hij e.symm;have:k=0\/k=1\/k=2\/k=3\/k=4:=by omega
 rcases four h hm hi hij with rfl | rfl | rfl | rfl | rfl | rfl<;>rcases this with rfl | rfl | rfl | rfl | rfl<;>simp[wv,zDO,hij,ji]
theorem zRL(h:w.length=4)(hm:∀ x∈w,x=i\/x=j)(hi:w.count i=2)(hij:i≠j):zDO w.reverse=zDO w:=by
 have ji:¬ j=i:=fun e=>hij e.symm;rcases four h hm hi hij with rfl | rfl | rfl | rfl | rfl | rfl<;>simp[zDO,hij,ji]
theorem zGH(h:yu n r)(hp:p∈yk n):(both r p).length=4/\(∀ x∈both r p,x=p.1\/x=p.2)/\(both r p).count p.1=2/\p.1≠p.2:=by
 obtain⟨h1,h2⟩:=yx.mp hp;refine⟨zI5 h hp,fun x hx=>?_,?_,by omega⟩
 ·have:=(cQ.mp hx).2
  sleep 33
 ·unfold both
  rw[List.count_filter 13#0];exact h.count 1#0
theorem zHO(h:yu n r)(hp:p∈yk n)(k:Nat):zc (wv r k) p=zc r p:=by
 obtain⟨b1,b2,b3,b4⟩:=zGH h hp;rw[yF,yF];have e:both (wv r k) p=wv (both r p) (both (r.take k) p).length:=by
  have:both r p=both (r.take k) p++both (r.drop k) p:=by unfold both;rw[<-ef,cU]
  rw[this,zFP];unfold both wv;rw[ef]
 rw[e];refine zLm b1 b2 b3 b4 ?_;have:both r p=both (r.take k) p++both (r.drop k) p:=by unfold both;rw[<-ef,cU]
 have:=congrArg List.length this;rw[cD,b1] at this;omega
theorem zM3(h:yu n r)(hp:p∈yk n):zc r.reverse p=zc r p:=by
 obtain⟨b1,b2,b3,b4⟩:=zGH h hp;rw[yF,yF];have e:both r.reverse p=(both r p).reverse:=by unfold both;rw[List.filter_reverse]
 rw[e];exact zRL b1 b2 b3 b4
theorem zM4(r:42#0)(i j:Nat):both r (i,j)=both r (j,i):=by
 unfold both;exact fk fun x u0=>Bool.or_comm _ _
theorem zM5(hf:∀ x∈r,∀ y∈r,f x=f y->x=y)(hu:u∈r)(hv:v∈r):zc (r.map f) (f u,f v)=zc r (u,v):=by
 rw[yF,yF];have e:both (r.map f) (f u,f v)=(both r (u,v)).map f:=by
  unfold both;rw[fo];congr 1;refine fk fun x hx=>?_;have h1:(f x=f u)=(x=u):=propext ⟨fun q=>hf x hx u hu q,fun q=>by rw[q]⟩;have h2:(f x=f v)=(x=v):=propext ⟨fun q=>hf x hx v hv q,fun q=>by rw[q]⟩;simp[h1,h2]
 rw[e];have hm:∀ x∈both r (u,v),x∈r:=fun x hx=>(cQ.mp hx).1;generalize both r (u,v)=w at hm
 match w,hm with
 | [],_=>rfl
 | [a],_=>rfl
 | [a,b],_=>rfl
 | a::b::c::t,hm =>
  have ma:=hm a 13#0;have mb:=hm b 13#0;have mc:=hm c 13#0;have h1:(f a=f b)=(a=b):=propext ⟨fun q=>hf a ma b mb q,fun q=>by rw[q]⟩;have h2:(f b=f c)=(b=c):=propext ⟨fun q=>hf b mb c mc q,fun q=>by rw[q]⟩;simp[zDO,h1,h2]
noncomputable def nm(od:42#0)(x:Nat):Nat:=od.idxOf x
theorem zHP(nd:od.Nodup)(hi:i<od.length):nm od (od.getD i 0)=i:=by
 unfold nm;have:od.getD i 0=od[i]:=by simp[dA,hi]
 rw[this];exact List.Nodup.idxOf_getElem nd i hi
theorem zUP(h:x∈od):nm od x<od.length:=List.idxOf_lt_length_of_mem h
theorem zD3{od:42#0}{x:Nat}(h:x∈od):od.getD (nm od x) 0=x:=by
 have:=zUP h;simp only[dA,dI this,Option.getD_some];exact List.getElem_idxOf this
theorem zPR{od:42#0}(nd:od.Nodup):od.map (nm od)=cf od.length:=by
 apply List.ext_getElem
 ·simp
 ·intro i h1 h2
  rw[cg] at h1;have:=zHP nd h1;rw[show od.getD i 0=od[i] by simp[dA,h1]] at this;simp[this]
end K
namespace K
open L3
structure zw (q:Nat×Nat->Bool) (S w:List Nat):Prop where
 cnt:∀ x,w.count x=if x∈S then 2 else 0
 crs:∀ i∈S,∀ j∈S,i≠j->zc w (i,j)=yS q i j
theorem zw.mem(h:zw q S w):x∈w↔x∈S:=by
 rw[<-List.count_pos_iff,h.cnt x];by_cases hx:x∈S<;>simp[hx]
theorem zw.two(h:zw q S w)(hx:x∈S):w.count x=2:=by rw[h.cnt,if_pos hx]
theorem zw.congr(h:zw q S w)(e:∀ x,x∈S↔x∈T):zw q T w :=
 ⟨fun x=>by rw[h.cnt x];simp only[e x],fun i hi j hj n=>h.crs i ((e i).mpr hi) j ((e j).mpr hj) n⟩
theorem zJb(hi:p i=true)(hj:p j=true):both (w.filter p) (i,j)=both w (i,j):=by
 unfold both;rw[List.filter_filter];refine fk fun x u0=>?_;by_cases h1:x=i
 ·subst h1;simp[hi]
 ·by_cases h2:x=j
  ·subst h2;simp[hj]
  ·simp[h1,h2]
theorem zD4(hi:p i=true)(hj:p j=true):zc (w.filter p) (i,j)=zc w (i,j):=by
 rw[yF,yF,zJb hi hj]
theorem zw.sub(h:zw q S w)(hT:∀ x∈T,x∈S):zw q T (w.filter fun x=>decide (x∈T)):=by
 refine⟨fun x=>?_,fun i hi j hj n=>?_⟩
 ·by_cases hx:x∈T
  ·rw[if_pos hx,List.count_filter (by simp[hx]),h.two (hT x hx)]
  ·rw[if_neg hx]
   exact fA.mpr fun z=>hx (by simpa using(cQ.mp z).2)
 ·rw[zD4 (by simp[hi]) (by simp[hj])]
  exact h.crs i (hT i hi) j (hT j hj) n
theorem zHQ(hij:i≠j)(l:42#0):(both l (i,j)).length=l.count i+l.count j:=by
 unfold both
 induction l with
 | nil=>rfl
 | cons a r ih =>
  simp only[fu,dB];by_cases ha:a=i
  ·subst ha
   simp[hij,ih];omega
  ·by_cases hb:a=j
   ·subst hb;simp[ha,ih];omega
   ·simp[ha,hb,ih]
theorem zM6(hij:i≠j)(hi:(A++B).count i=2)(hj:(A++B).count j=2):zc (B++A) (i,j)=zc (A++B) (i,j):=by
 rw[yF,yF];have e:both (B++A) (i,j)=wv (both (A++B) (i,j)) (both A (i,j)).length:=by
  have b1:∀ X Y:List Nat,both (X++Y) (i,j)=both X (i,j)++both Y (i,j):=fun X Y=>ef _ _;rw[b1 A B,zFP,b1]
 have l4:=zHQ hij (A++B);have lA:(both A (i,j)).length<=(both (A++B) (i,j)).length:=by
  have b1:both (A++B) (i,j)=both A (i,j)++both B (i,j):=ef _ _;rw[b1,cD];omega
 rw[hi,hj] at l4;rw[e];refine zLm l4 (fun x hx=>?_) ?_ hij 1#0
 ·simpa using(cQ.mp hx).2
 ·unfold both;rw[List.count_filter 13#0];exact hi
theorem zw.rot(h:zw q S (A++B)):zw q S (B++A):=by
 refine⟨fun x=>?_,fun i hi j hj n=>?_⟩
 ·rw[<-h.cnt x,dJ,dJ,Nat.add_comm]
 ·rw[zM6 n (h.two hi) (h.two hj)]
  exact h.crs i hi j hj n
theorem zw.begin(h:zw q S w)(ho:o∈S):∃ t,zw q S (o::t):=by
 obtain⟨A,B,rfl⟩:=List.append_of_mem (h.mem.mpr ho);exact⟨B++A,h.rot⟩
theorem zDP(w:42#0)(i j:Nat):zc w (i,j)=zc w (j,i):=by rw[yF,yF,zM4]
theorem zJc(i:Nat):∀(B l:42#0),i∈B.foldl tog l↔(if i∈l then B.count i%2=0 else B.count i%2=1)
 | [],l=>by by_cases h:i∈l<;>simp[h]
 | x::B,l=>by
  rw[List.foldl_cons,zJc i B (tog l x),dB];by_cases hx:x=i
  ·subst hx
   have e:x∈tog l x↔x∉l:=by rw[zIR];simp
   by_cases h:x∈l
   ·simp only[e,h,not_true,if_false,if_true,beq_self_eq_true];omega
   ·simp only[e,h,not_false_iff,if_true,if_false,beq_self_eq_true];omega
  ·have e:i∈tog l x↔i∈l:=by rw[zIR];simp[Ne.symm hx]
   have:(x==i)=false:=by simpa using hx
   simp only[e,this,bX,if_false,Nat.add_zero]
theorem zLn(i:Nat):(mkW (A++B++C) A.length B.length).testBit i=decide (B.count i%2=1):=by
 rw[(zTU _ _ _).2 i];unfold odW;have e:((A++B++C).drop A.length).take B.length=B:=by
  rw[cL,List.drop_left];exact List.take_left' rfl
 rw[e,cV,decide_eq_true_eq,decide_eq_true_eq,zJc];simp
theorem zM7(h:l.Perm l'):yo l=yo l':=by
 unfold yo
 induction h with
 | nil=>rfl
 | cons x _ ih=>simp only[dq,List.sum_cons,ih]
 | swap x y l=>simp only[dq,List.sum_cons];omega
 | trans _ _ h1 h2=>exact h1.trans h2
theorem zCr(h:l.Nodup)(i:Nat):(yo l).testBit i=decide (i∈l):=by
 rw[<-zM7 (zDI l)];have hs:(zLL l).Pairwise (·<·):=by
  have nd:(zLL l).Nodup:=(zDI l).nodup_iff.mpr h;have:=(zOU l).and nd;exact this.imp fun⟨a,b⟩=>Nat.lt_of_le_of_ne a b
 rw[zPM _ hs i,cV,decide_eq_true_eq,decide_eq_true_eq];exact(zDI l).mem_iff
theorem zHR:∀ i,i<=r.length->(w∈wx r p W i↔∃ a d,1<=a/\a<=i/\a+d<=r.length/\mkW r a d=W/\w=zEZ r p a (a+d))
 | 0,_=>by
  constructor
  ·intro h;cases h
  ·rintro⟨a,d,h1,h2,u0⟩;omega
 | i+1,hi=>by
  show w∈wx r p W i++zEa r p W (i+1) (r.length-i)↔_;rw[cG,zHR i 1#0];unfold zEa;rw[cx];constructor
  ·rintro(⟨a,d,h1,h2,h3,h4,h5⟩ | ⟨d,hd,e⟩)
   ·exact⟨a,d,h1,by omega,h3,h4,h5⟩
   ·obtain⟨h1,h2⟩:=cQ.mp hd
    have h1:=cz.mp h1;exact⟨i+1,d,by omega,by omega,by omega,of_decide_eq_true h2,e.symm⟩
  ·rintro⟨a,d,h1,h2,h3,h4,h5⟩
   by_cases h:a<=i
   ·exact .inl ⟨a,d,h1,h,h3,h4,h5⟩
   ·obtain rfl:a=i+1:=by omega
    exact .inr ⟨d,cQ.mpr ⟨cz.mpr 1#0,decide_eq_true h4⟩,h5.symm⟩
theorem zLo:w∈wch r p W↔∃ A B C,A≠[]/\r=A++B++C/\mkW r A.length B.length=W/\w=A++p::(B++p::C):=by
 unfold wch;rw[zHR _ (cr _)];constructor
 ·rintro⟨a,d,h1,u0,h3,h4,rfl⟩
  refine⟨r.take a,(r.drop a).take d,r.drop (a+d),fun z=>?_,?_,?_,?_⟩
  ·have:=congrArg List.length z
   rw[cS,ci] at this;omega
  ·rw[cL,<-List.drop_drop,cU,cU]
  ·rw[cS,cS,dN,eD 1#0,eD 1#0];exact h4
  ·unfold zEZ
   rw[show a+d-a=d by omega];simp
 ·rintro⟨A,B,C,hA,rfl,hW,rfl⟩
  have hA':1<=A.length:=by cases A with | nil=>exact absurd rfl hA | cons a t=>simp
  refine⟨A.length,B.length,hA',by simp,by simp,hW,?_⟩;unfold zEZ;have e1:(A++B++C).take A.length=A:=by rw[cL];exact List.take_left' rfl
  have e2:((A++B++C).drop A.length).take B.length=B:=by rw[cL,List.drop_left];exact List.take_left' rfl
  have e3:(A++B++C).drop (A.length+B.length)=C:=by rw[<-cD];exact List.drop_left' rfl
  rw[show A.length+B.length-A.length=B.length by omega,e1,e2,e3];simp
theorem zFR(A B C:42#0)(p x:Nat):(A++p::(B++p::C)).count x=(A++B++C).count x+if p=x then 2 else 0:=by
 simp only[dJ,dB,beq_iff_eq];split<;>omega
theorem zGI{A B C:42#0}{p:Nat}(h:p∉A++B++C):(A++p::(B++p::C)).filter (fun x=>decide (x≠p))=A++B++C:=by
 have f:∀ X:List Nat,p∉X->X.filter (fun x=>decide (x≠p))=X:=fun X hX=>List.filter_eq_self.mpr fun x hx=>by
  have:x≠p:=fun e=>hX (e▸hx);simp[this]
 simp only[cG,not_or] at h;simp only[ef,fu,f A h.1.1,f B h.1.2,f C h.2];simp
theorem zw.put(h:zw q S r)(hp:p∉S)(nd:S.Nodup)(hw:w∈wch r p (yo (S.filter (yS q p)))):zw q (S++[p]) w/\w.filter (fun x=>decide (x≠p))=r/\w.head?=r.head?:=by
 obtain⟨A,B,C,hA,rfl,hW,rfl⟩:=zLo.mp hw;have hpr:p∉A++B++C:=fun z=>hp (h.mem.mp z);have hf:=zGI hpr;refine⟨⟨fun x=>?_,?_⟩,hf,?_⟩
 ·rw[zFR,h.cnt x]
  by_cases hx:p=x
  ·subst hx;simp[hp]
  ·simp[hx,Ne.symm hx]
 ·have old:∀ i∈S,∀ j∈S,i≠j->zc (A++p::(B++p::C)) (i,j)=yS q i j:=fun i hi j hj n=>by
   rw[<-h.crs i hi j hj n,<-hf];refine(zD4 ?_ ?_).symm
   ·have:i≠p:=fun e=>hp (e▸hi)
    simp[this]
   ·have:j≠p:=fun e=>hp (e▸hj)
    simp[this]
  have new:∀ j∈S,zc (A++p::(B++p::C)) (p,j)=yS q p j:=fun j hj=>by
   have hpj:p≠j:=fun e=>hp (e▸hj);simp only[cG,not_or] at hpr;have c2:(A++p::(B++p::C)).count j=2:=by rw[zFR,h.two hj,if_neg hpj]
   rw[zCN hpj hpr.1.1 hpr.1.2 hpr.2 c2];have b1:=zLn (A:=A) (B:=B) (C:=C) j;rw[hW,zCr (nd.filter _) j] at b1;have hB:B.count j<=2:=by have:=h.two hj;simp only[dJ] at this;omega
   have e:(p::B).count j=B.count j:=by rw[dB];simp[hpj]
   rw[e];have e2:decide (B.count j=1)=decide (B.count j%2=1):=by rw[decide_eq_decide];omega
   rw[e2,<-b1,cV,decide_eq_true_eq,cQ];simp[hj]
  intro i hi j hj n;rcases cG.mp hi with hi | hi<;>rcases cG.mp hj with hj | hj
  ·exact old i hi j hj n
  ·rw[cq.mp hj,zDP,zGA];exact new i hi
  ·rw[cq.mp hi];exact new j hj
  ·rw[cq.mp hi,cq.mp hj] at n;exact absurd rfl n
 ·cases A with
  | nil=>exact absurd rfl hA
  | cons a t=>rfl
theorem zw.cut(h:zw q (S++[p]) (o::t))(hp:p∉S)(nd:S.Nodup)(ho:o≠p):o::t∈wch ((o::t).filter fun x=>decide (x≠p)) p (yo (S.filter (yS q p))):=by
 obtain⟨A,B,C,e,hA,hB,hC⟩:=zKN (h.two (x:=p) 13#0);have hpr:p∉A++B++C:=by simp[hA,hB,hC]
 rw[e] at h ⊢;rw[zGI hpr];refine zLo.mpr ⟨A,B,C,fun z=>?_,rfl,?_,rfl⟩
 ·subst z
  rw[ck] at e;exact ho (List.cons.inj e).1
 ·refine Nat.eq_of_testBit_eq fun j=>?_
  rw[zLn,zCr (nd.filter _) j,cV,decide_eq_true_eq,decide_eq_true_eq,cQ];by_cases hj:j∈S
  ·have hpj:p≠j:=fun z=>hp (z▸hj)
   have c2:(A++p::(B++p::C)).count j=2:=h.two (by simp[hj]);have:=h.crs p 13#0 j (by simp[hj]) hpj;rw[zCN hpj hA hB hC c2] at this;rw[<-this];have e3:(p::B).count j=B.count j:=by rw[dB];simp[hpj]
   rw[zFR,if_neg hpj,dJ,dJ] at c2;rw[e3];simp only[hj,true_and,decide_eq_true_eq];omega
  ·simp only[hj,false_and,iff_false]
   have:B.count j=0:=by
    by_cases hpj:p=j
    ·subst hpj;exact fA.mpr hB
    ·have c0:=h.cnt j
     rw[if_neg (by simp[hj,Ne.symm hpj]),zFR,if_neg hpj,dJ,dJ] at c0;omega
   omega
noncomputable def zTV(q:25#0)(os:42#0)(k:Nat)(r:42#0):List (List Nat):=wch r (os.getD k 0) (yo ((os.take k).filter (yS q (os.getD k 0))))
noncomputable def wo(q:25#0)(os:42#0):Nat->Nat->List Nat->Option (List Nat)
 | 0,_,_=>none
 | d+1,k,r=>if k=os.length then some r else (zTV q os k r).findSome? (wo q os d (k+1))
theorem zAm{os:42#0}{k:Nat}(h:k<os.length):os.take (k+1)=os.take k++[os.getD k 0]:=yI (by simp[dA,h])
theorem zD5{os:42#0}{k:Nat}(nd:os.Nodup)(h:k<os.length):os.getD k 0∉os.take k:=by
 have:(os.take (k+1)).Nodup:=nd.sublist (List.take_sublist _ _);rw[zAm h] at this;intro z;exact(fK.mp this).2.2 _ z _ (cq.mpr rfl) rfl
theorem zEn{q:25#0}{os:42#0}(nd:os.Nodup):∀(d k:Nat) (r w:42#0),k<=os.length->zw q (os.take k) r->wo q os d k r=some w->zw q os w
 | 0,_,_,_,_,_,h=>by cases h
 | d+1,k,r,w,hk,ht,h=>by
  unfold wo at h;by_cases he:k=os.length
  ·rw[if_pos he] at h
   cases h;rw[he,eH] at ht;exact ht
  ·rw[if_neg he] at h
   obtain⟨x,hx,hw⟩:=List.exists_of_findSome?_eq_some h;have hk':k<os.length:=by omega
   refine zEn nd d (k+1) x w 1#0 ?_ hw;rw[zAm hk'];exact(ht.put (zD5 nd hk') (nd.sublist (List.take_sublist _ _)) hx).1
theorem zJd{os t:42#0}{o:Nat}(nd:os.Nodup){k:Nat}(hk:k<os.length):((o::t).filter fun x=>decide (x∈os.take (k+1))).filter (fun x=>decide (x≠os.getD k 0))=(o::t).filter fun x=>decide (x∈os.take k):=by
 rw[List.filter_filter];refine fk fun x u0=>?_;rw[zAm hk,cV];have:=zD5 nd hk;simp only[eS,decide_eq_true_eq,cG,cq];constructor
 ·rintro⟨h1,h2 | h2⟩
  ·exact h2
  ·exact absurd h2 h1
 ·intro h
  exact⟨fun z=>this (z▸h),.inl h⟩
theorem zGJ{q:25#0}{os t:42#0}{o:Nat}(nd:os.Nodup)(h0:∃ tl,os=o::tl)(ht:zw q os (o::t)):∀(d k:Nat),1<=k->k<=os.length->os.length<d+k->wo q os d k ((o::t).filter fun x=>decide (x∈os.take k))≠none
 | 0,k,_,h2,h3=>by omega
 | d+1,k,h1,h2,h3=>by
  unfold wo;by_cases he:k=os.length
  ·rw[if_pos he];simp
  ·rw[if_neg he]
   have hk:k<os.length:=by omega
   have ok:o∈os.take k:=by
    obtain⟨tl,rfl⟩:=h0;cases k with
    | zero=>omega
    | succ k=>simp
   have ok1:o∈os.take (k+1):=by rw[zAm hk];exact e9 _ ok
   have op:o≠os.getD k 0:=fun z=>zD5 nd hk (z▸ok);have T1:=ht.sub (T:=os.take (k+1)) fun x hx=>eK hx;have e1:(o::t).filter (fun x=>decide (x∈os.take (k+1)))=o::t.filter (fun x=>decide (x∈os.take (k+1))):=List.filter_cons_of_pos (by simp[ok1]);have e2:=zJd (t:=t) (o:=o) nd hk;rw[e1] at T1 e2;rw[zAm hk] at T1;have hm:=T1.cut (zD5 nd hk) (nd.sublist (List.take_sublist _ _)) op;rw[<-zAm hk,e2] at hm;have ih:=zGJ nd h0 ht d (k+1) 1#0 1#0 1#0;rw[e1] at ih;intro z;exact ih (List.findSome?_eq_none_iff.mp z _ hm)
noncomputable def Told(n:Nat)(q:25#0):Prop:=∃ w,zw q (cf n) w
theorem zJe(q:25#0)(o:Nat):zw q [o] [o,o]:=by
 refine⟨fun x=>?_,fun i hi j hj n=>?_⟩
 ·rw[dB,dB,List.count_nil]
  by_cases h:o=x
  ·subst h;simp
  ·simp[h,Ne.symm h]
 ·rw[cq.mp hi,cq.mp hj] at n
  exact absurd rfl n
structure Ord (n:Nat) (os:List Nat):Prop where
 nd:os.Nodup
 len:os.length=n
 lt:∀ x∈os,x<n
theorem Ord.mem{n:Nat}{os:42#0}(h:Ord n os)(x:Nat):x∈os↔x∈cf n:=by
 constructor
 ·intro q;exact cz.mpr (h.lt x q)
 ·intro q
  refine Classical.byContradiction fun hx=>?_;have:=(eR.mpr ⟨hx,h.nd⟩).length_le_of_subset (l₂:=cf n) fun y hy=>by
   rcases cY.mp hy with rfl | hy
   ·exact q
   ·exact cz.mpr (h.lt y hy)
  rw[cb,cX,h.len] at this;omega
theorem zM8(h:Ord n (o::tl))(d:Nat)(hd:n<=d) :
  (∀ w,wo q (o::tl) d 1 [o,o]=some w->zw q (cf n) w)/\(Told n q->wo q (o::tl) d 1 [o,o]≠none):=by
 constructor
 ·intro w hw
  exact(zEn h.nd d 1 _ w 13#0 (zJe q o) hw).congr h.mem
 ·rintro⟨w,hw⟩
  have hw2:zw q (o::tl) w:=hw.congr fun x=>(h.mem x).symm;obtain⟨t,ht⟩:=hw2.begin (cK ..);have:=zGJ h.nd ⟨tl,rfl⟩ ht d 1 (cr _) 13#0 (by rw[h.len];omega);have e:(o::t).filter (fun x=>decide (x∈(o::tl).take 1))=[o,o]:=by
   have c:=ht.two (x:=o) 13#0;have:∀ l:List Nat,l.filter (fun x=>decide (x∈(o::tl).take 1))=cN (l.count o) o:=by
    intro l
    induction l with
    | nil=>rfl
    | cons a r ih =>
     rw[fu,dB,ih];by_cases ha:a=o
     ·subst ha;simp[ca]
     ·have:(a==o)=false:=by simpa using ha
      simp[ha]
   rw[this,c];rfl
  rw[e] at this;exact this
theorem zw.ring(h:zw q (cf n) w):yu n w:=by
 refine List.perm_iff_count.mpr fun x=>?_;rw[h.cnt x,dJ,zEh];by_cases hx:x<n
 ·rw[if_pos (cz.mpr hx),if_pos hx]
 ·rw[if_neg (fun z=>hx (cz.mp z)),if_neg hx]
theorem zw.web(h:zw q (cf n) w):zQ n (zc w)=zQ n q:=zFw fun p hp=>by
 obtain⟨i,j⟩:=p;obtain⟨h1,h2⟩:=yx.mp hp;dsimp only at h1 h2;rw[h.crs i (cz.mpr 1#0) j (cz.mpr h2) 1#0];unfold yS;rw[eD 1#0,Nat.max_eq_right 1#0];simp;omega
theorem zLp(h:yu n w)(e:∀ p∈yk n,zc w p=q p):zw q (cf n) w:=by
 refine⟨fun x=>?_,fun i hi j hj ne=>?_⟩
 ·by_cases hx:x<n
  ·rw[if_pos (cz.mpr hx),h.count hx]
  ·rw[if_neg (fun z=>hx (cz.mp z))]
   exact fA.mpr fun z=>hx (h.mem.mp z)
 ·have hi:=cz.mp hi
  have hj:=cz.mp hj;unfold yS;rcases Nat.lt_or_gt_of_ne ne with z | z
  ·rw[e (i,j) (yx.mpr ⟨z,hj⟩),eD 1#0,Nat.max_eq_right 1#0];simp[ne]
  ·rw[zDP,e (j,i) (yx.mpr ⟨z,hi⟩),Nat.min_eq_right 1#0,Nat.max_eq_left 1#0];simp[ne]
theorem zD6(X Y:42#0)(p:Nat×Nat):both (X++Y) p=both X p++both Y p:=ef _ _
end K
namespace K
open L2 L3 HS
noncomputable def toI(p:Nat×Nat):List Int:=[(p.1:Int),(p.2:Int)]
theorem zLq(h:toI p=toI q):p=q:=by
 unfold toI at h;simp only[List.cons.injEq,and_true] at h;exact Prod.ext 1#0 1#0
theorem zKm(l:List (Nat×Nat)):l.map wP=(l.map toI).map tI:=by
 rw[de];rfl
noncomputable def inB(q:25#0)(i:Nat)(p:Nat×Nat):Bool:=yS q i p.1&&yS q i p.2
noncomputable def tq(q:25#0)(i:Nat)(p:Nat×Nat):Bool:=q p != inB q i p
noncomputable abbrev arL(n:Nat)(q:25#0)(i:Nat):List Nat:=(cf n).filter (yS q i)
noncomputable abbrev zGK(ar:42#0):List (Nat×Nat):=(yk ar.length).map fun p=>(ar.getD p.1 0,ar.getD p.2 0)
theorem zPS(hr:ar.Pairwise (·<·)):p∈zGK ar↔p.1<p.2/\p.1∈ar/\p.2∈ar:=by
 constructor
 ·intro h
  obtain⟨c,hc,rfl⟩:=cx.mp h;obtain⟨c1,c2⟩:=yx.mp hc;have h1:c.1<ar.length:=by omega
  have e1:ar.getD c.1 0=ar[c.1]:=by simp[dA,h1]
  have e2:ar.getD c.2 0=ar[c.2]:=by simp[dA,c2]
  simp only;rw[e1,e2];exact⟨dR.mp hr c.1 c.2 h1 c2 c1,ec _,ec _⟩
 ·rintro⟨h0,h1,h2⟩
  obtain⟨i,hi,e1⟩:=eE h1;obtain⟨j,hj,e2⟩:=eE h2;have hij:i<j:=by
   rcases Nat.lt_trichotomy i j with z | z | z
   ·exact z
   ·subst z;omega
   ·have:=dR.mp hr j i hj hi z
    omega
  refine cx.mpr ⟨(i,j),yx.mpr ⟨hij,hj⟩,?_⟩;have g1:ar.getD i 0=ar[i]:=by simp[dA,hi]
  have g2:ar.getD j 0=ar[j]:=by simp[dA,hj]
  simp only;rw[g1,g2,e1,e2]
theorem zIU:p∈zGK (arL n q i)↔p∈yk n/\inB q i p=true:=by
 rw[zPS (List.pairwise_lt_range.filter _),yx];unfold inB;simp only[cQ,cz,eS];constructor
 ·rintro⟨a,⟨b,c⟩,d,e⟩
  exact⟨⟨a,d⟩,c,e⟩
 ·rintro⟨⟨a,d⟩,c,e⟩
  exact⟨a,⟨by omega,c⟩,d,e⟩
theorem zUQ(h:ltP a b):ltI (toI b) (toI a)=false:=by
 unfold ltP at h;unfold toI;simp only[ltI];split
 ·split
  ·rfl
  ·simp only[decide_eq_false_iff_not];omega
 ·simp only[decide_eq_false_iff_not];omega
theorem zPT:∀ n,n<10->(yk n).length<=60:=by decide +kernel
theorem zM9(nd:nss.Nodup)(hm:∀ x,x∈nss↔¬ (x∈(zGK (arL n q i)).map toI↔x∈((yk n).filter q).map toI))(hs:nss.Pairwise 38#0):nss=((yk n).filter (tq q i)).map toI:=by
 have rs:((yk n).filter (tq q i)).Pairwise ltP:=(zOZ n).filter _;refine eX.eq_of_pairwise (fun a b u0 u0 h1 h2=>zFH a b h2 h1) hs ?_ ?_
 ·rw[fi]
  exact rs.imp zUQ
 ·have nd2:(((yk n).filter (tq q i)).map toI).Nodup:=by
   unfold List.Nodup;rw[fi];refine rs.imp fun h e=>?_;have:=zLq e;subst this;unfold ltP at h;omega
  refine(List.perm_ext_iff_of_nodup nd nd2).mpr fun x=>?_;rw[hm x];have m1:x∈(zGK (arL n q i)).map toI↔∃ p∈yk n,inB q i p=true/\toI p=x:=by
   rw[cx];constructor
   ·rintro⟨p,hp,e⟩;obtain⟨a,b⟩:=zIU.mp hp;exact⟨p,a,b,e⟩
   ·rintro⟨p,a,b,e⟩;exact⟨p,zIU.mpr ⟨a,b⟩,e⟩
  have m2:∀ f:Nat×Nat->Bool,x∈((yk n).filter f).map toI↔∃ p∈yk n,f p=true/\toI p=x:=fun f=>by
   rw[cx];constructor
   ·rintro⟨p,hp,e⟩;obtain⟨a,b⟩:=cQ.mp hp;exact⟨p,a,b,e⟩
   ·rintro⟨p,a,b,e⟩;exact⟨p,cQ.mpr ⟨a,b⟩,e⟩
  rw[m1,m2 q,m2 (tq q i)];by_cases hx:∃ p∈yk n,toI p=x
  ·obtain⟨p,hp,rfl⟩:=hx
   have s:∀ f:Nat×Nat->Bool,(∃ p'∈yk n,f p'=true/\toI p'=toI p)↔f p=true:=fun f=>by
    constructor
    ·rintro⟨p',u0,b,e⟩;rw[<-zLq e];exact b
    ·intro b;exact⟨p,hp,b,rfl⟩
   rw[s (inB q i),s q,s (tq q i)];unfold tq;cases q p<;>cases inB q i p<;>simp
  ·constructor
   ·intro h
    exact(h ⟨fun⟨p,a,_,e⟩=>(hx ⟨p,a,e⟩).elim,fun⟨p,a,_,e⟩=>(hx ⟨p,a,e⟩).elim⟩).elim
   ·rintro⟨p,a,u0,e⟩
    exact(hx ⟨p,a,e⟩).elim
noncomputable def yh:wF:=fun ds G R=>∃(n:Nat) (q:25#0) (i:Nat),ds=[zQ n q,nD i]/\i<n/\n<=9/\R (zQ n (tq q i)) G
noncomputable def zAd:yN:=(zU (zn (zf (zg yr (zA (zH zEO (zA (zB 0) 51#0)) zG))) (gN 2)) (zi (yU (zA 24#0 (zA (zo yV (xXS 2 (zA (zS yM (zB 0) 35#0) zG))) zG)))))
theorem zU5(h:zd ta σ G d)(h':tb σ G fun d2 G2=>[d,d2].length<=sizeLine/\E.rt (.tup [d,d2]) G2):zi (yU (zA ta (zA tb zG))) E σ G:=h G (.refl G) _ h'
theorem zTW{σ:S2}{G:Gp}{tl:TL2}{R:Q2}(h:tl σ G fun ds G1=>R (.tup ds) G1):zo yV tl σ G R:=h
theorem zU6(h:PuA t σ G [.tup xs])(h':∃(nl nr U:30#0) (q:Addr),xs=nl.map tI/\σ[j]?=some (some (.adr q))/\Ls G q (nr.map tI)/\nl.length<=60/\nr.length<=60/\U.length<=60/\(∀ x∈nl,x∈U)/\(∀ x∈nr,x∈U)/\(∀ x∈U,x≠[]) /\
  ∀ nss':List (List Int),nss'.Nodup->(∀ x,x∈nss'↔¬ (x∈nr↔x∈nl))->nss'.Pairwise 38#0->R (nss'.map tI) G):xXS j t σ G R:=h G (.refl G) _ h'
theorem zIV(ds:List D)(G:Gp)(R:Q2)(h:yh ds G R):ds.length=2/\zAd (zZ R) (zN ["web","place","near"] ds) G:=by
 obtain⟨n,q,i,rfl,hi,hn,h⟩:=h;refine⟨rfl,?_⟩;unfold zAd;have hal:(arL n q i).length<=n:=by
  have:=dX (yS q i) (cf n);sleep 33
 refine ye (zB9 (ds:=(zGK (arL n q i)).map wP) (zDa (zF (zX (d:=.tup ((arL n q i).map nD)) (zF (zE (d:=zQ n q) rfl) (zF (zE (d:=nD i) rfl) zM)) fun u0 u0 u0 hh=>⟨n,q,i,rfl,hi,by omega,hh⟩) zM) fun u0 u0 u0 hh=>⟨arL n q i,rfl,by omega,hh⟩) fun l hl=>?_);show zi _ _ [some (zQ n q),some (nD i),some (.adr l)] (za G l ((zGK (arL n q i)).map wP));refine zU5 (zB8 (zE (i:=0) rfl)) (zTW (zU6 (xs:=((yk n).filter q).map wP) (zF (zUG (zE (i:=0) rfl)) zM) ⟨((yk n).filter q).map toI,(zGK (arL n q i)).map toI,(yk n).map toI,l,zKm _,rfl,.inl (by rw[zK,zKm]),?_,?_,?_,?_,?_,?_,fun nss c1 c2 c3=>⟨by rw[sizeLine_eq];simp,?_⟩⟩))
 ·rw[cg]
  have:=dX q (yk n);have:=zPT n 1#0;omega
 ·rw[cg,cg]
  exact zPT _ 1#0
 ·rw[cg]
  exact zPT n 1#0
 ·intro x hx
  obtain⟨p,hp,rfl⟩:=cx.mp hx;exact cx.mpr ⟨p,(cQ.mp hp).1,rfl⟩
 ·intro x hx
  obtain⟨p,hp,rfl⟩:=cx.mp hx;exact cx.mpr ⟨p,(zIU.mp hp).1,rfl⟩
 ·intro x hx
  obtain⟨p,u0,rfl⟩:=cx.mp hx;unfold toI;simp
 ·rw[zM9 c1 c2 c3,<-zKm]
  exact⟨G,.new hl,h⟩
end K
namespace K
open L3
theorem zHS{f:Nat->Nat}{x:Nat}:∀ {w:42#0},(∀ y∈w,f y=f x->y=x)->(w.map f).count (f x)=w.count x
 | [],_=>rfl
 | a::w,h=>by
  rw[dq,dB,dB,zHS fun y hy=>h y (cJ _ hy)];by_cases e:a=x
  ·subst e;simp
  ·have:f a≠f x:=fun z=>e (h a (cK ..) z)
   simp[e,this]
theorem zw.map(h:zw q S w)(hf:∀ x∈S,∀ y∈S,f x=f y->x=y)(hq:∀ x∈S,∀ y∈S,x≠y->yS q' (f x) (f y)=yS q x y):zw q' (S.map f) (w.map f):=by
 refine⟨fun z=>?_,fun i hi j hj n=>?_⟩
 ·by_cases hz:z∈S.map f
  ·rw[if_pos hz]
   obtain⟨x,hx,rfl⟩:=cx.mp hz;rw[zHS fun y hy e=>hf y (h.mem.mp hy) x hx e];exact h.two hx
  ·rw[if_neg hz]
   refine fA.mpr fun m=>hz ?_;obtain⟨x,hx,rfl⟩:=cx.mp m;exact cx.mpr ⟨x,h.mem.mp hx,rfl⟩
 ·obtain⟨x,hx,rfl⟩:=cx.mp hi
  obtain⟨y,hy,rfl⟩:=cx.mp hj;have ne:x≠y:=fun e=>n (by rw[e]);rw[zM5 (fun a ha b hb e=>hf a (h.mem.mp ha) b (h.mem.mp hb) e) (h.mem.mpr hx) (h.mem.mpr hy),hq x hx y hy ne];exact h.crs x hx y hy ne
theorem zw.congrQ(h:zw q S w)(e:∀ x∈S,∀ y∈S,x≠y->yS q' x y=yS q x y):zw q' S w :=
 ⟨h.cnt,fun i hi j hj n=>by rw[e i hi j hj n];exact h.crs i hi j hj n⟩
theorem getD_at{ps:42#0}{k:Nat}(h:k<ps.length):ps.getD k 0∈ps:=by simp[dA,h]
theorem zNA(nd:ps.Nodup):(∃ w,zw q ps w)↔Told ps.length (zAt q ps):=by
 constructor
 ·rintro⟨w,h⟩
  have:=h.map (q':=zAt q ps) (f:=nm ps) (fun x hx y hy e=>by rw[<-zD3 hx,<-zD3 hy,e]) fun x hx y hy u0=>by rw[zDz,zD3 hx,zD3 hy]
  rw[zPR nd] at this;exact⟨_,this⟩
 ·rintro⟨w,h⟩
  have:=h.map (q':=q) (f:=fun k=>ps.getD k 0) (fun x hx y hy e=>by
   have hx:=cz.mp hx;have hy:=cz.mp hy;rw[<-zHP nd hx,<-zHP nd hy];exact congrArg _ e) fun x hx y hy u0=>by rw[zDz]
  have e:(cf ps.length).map (fun k=>ps.getD k 0)=ps:=by
   refine List.ext_getElem 13#0 fun i h1 h2=>?_;simp[dA,h2]
  rw[e] at this;exact⟨_,this⟩
theorem Told.sub(h:Told n q)(nd:ps.Nodup)(hl:∀ x∈ps,x<n):Told ps.length (zAt q ps):=by
 obtain⟨w,h⟩:=h;exact(zNA nd).mp ⟨_,h.sub (T:=ps) fun x hx=>cz.mpr (hl x hx)⟩
theorem zGL(h:i≠j):yS (tq q p) i j=(yS q i j != (yS q p i&&yS q p j)):=by
 unfold yS tq inB;rcases Nat.lt_or_gt_of_ne h with z | z
 ·simp only[eD (eY z),Nat.max_eq_right (eY z),h]
  simp[yS,h]
 ·simp only[Nat.min_eq_right (eY z),Nat.max_eq_left (eY z),h]
  simp[yS,h,Bool.and_comm]
noncomputable def zUR:List (List Bool):=[[true,true,false,false],[true,false,true,false],[true,false,false,true],[false,true,true,false],[false,true,false,true],[false,false,true,true]]
noncomputable def zRM:List Bool->Bool
 | a::b::c::_=>(a != b)&&(b != c)
 | _=>false
theorem zPU:∀ v∈zUR,∀ m:Fin 5,∀ k:Fin 5,m.val+k.val<=4->zRM (v.take m.val++((v.drop m.val).take k.val).reverse++v.drop (m.val+k.val))=(zRM v != (decide (((v.drop m.val).take k.val).count true=1)&&decide (((v.drop m.val).take k.val).count false=1))):=by decide +kernel
theorem zLr(hij:i≠j):∀ v:List Bool,zDO (v.map fun b=>bif b then i else j)=zRM v
 | []=>rfl
 | [_]=>rfl
 | [_,_]=>rfl
 | a::b::c::_=>by
  have ji:j≠i:=Ne.symm hij;cases a<;>cases b<;>cases c<;>simp[zDO,zRM,hij,ji]
theorem zLs{i j:Nat}(hij:i≠j)(v:List Bool):(v.map fun b=>bif b then i else j).count i=v.count true/\(v.map fun b=>bif b then i else j).count j=v.count false:=by
 have ji:j≠i:=Ne.symm hij
 induction v with
 | nil=>exact⟨rfl,rfl⟩
 | cons a v ih=>cases a<;>simp[dB,ih.1,ih.2,hij,ji]
theorem zPV(hij:i≠j)(h:w=[i,i,j,j]\/w=[i,j,i,j]\/w=[i,j,j,i]\/w=[j,i,i,j]\/w=[j,i,j,i]\/w=[j,j,i,i])(hmk:m+k<=4) :
  zDO (w.take m++((w.drop m).take k).reverse++w.drop (m+k))=(zDO w != (decide (((w.drop m).take k).count i=1)&&decide (((w.drop m).take k).count j=1))):=by
 obtain⟨v,hv,rfl⟩:∃ v∈zUR,w=v.map fun b=>bif b then i else j:=by
  rcases h with rfl | rfl | rfl | rfl | rfl | rfl
  ·exact⟨[true,true,false,false],by decide,rfl⟩
  ·exact⟨[true,false,true,false],by decide,rfl⟩
  ·exact⟨[true,false,false,true],by decide,rfl⟩
  ·exact⟨[false,true,true,false],by decide,rfl⟩
  ·exact⟨[false,true,false,true],by decide,rfl⟩
  ·exact⟨[false,false,true,true],by decide,rfl⟩
 rw[<-List.map_take,<-List.map_drop,<-List.map_take,<-List.map_drop,<-List.map_reverse,<-dP,<-dP,zLr hij,zLr hij,(zLs hij _).1,(zLs hij _).2];exact zPU v hv ⟨m,by omega⟩ ⟨k,by omega⟩ hmk
theorem zRN(hij:i≠j)(hl:(x++y++z).length=4)(hm:∀ u∈x++y++z,u=i\/u=j)(hi:(x++y++z).count i=2):zDO (x++y.reverse++z)=(zDO (x++y++z) != (decide (y.count i=1)&&decide (y.count j=1))):=by
 have:=zPV hij (four hl hm hi hij) (m:=x.length) (k:=y.length) (by simp only[cD] at hl;omega);have e1:(x++y++z).take x.length=x:=by rw[cL];exact List.take_left' rfl
 have e2:((x++y++z).drop x.length).take y.length=y:=by rw[cL,List.drop_left];exact List.take_left' rfl
 have e3:(x++y++z).drop (x.length+y.length)=z:=by rw[<-cD];exact List.drop_left' rfl
 rw[e1,e2,e3] at this;exact this
noncomputable def zA0(A B C:42#0)(p:Nat):List Nat:=A++p::(B.reverse++p::C)
theorem zAe(h1:p≠i)(h2:p≠j)(X:42#0):both (p::X) (i,j)=both X (i,j):=by
 unfold both;simp[h1,h2]
theorem zJf(X:42#0):(both X (i,j)).count i=X.count i:=by unfold both;rw[List.count_filter 13#0]
theorem zNB(X:42#0):(both X (i,j)).count j=X.count j:=by unfold both;rw[List.count_filter 13#0]
theorem zw.turn(h:zw q S (A++p::(B++p::C)))(hA:p∉A)(hB:p∉B)(hC:p∉C):zw (tq q p) S (zA0 A B C p):=by
 have hp:p∈S:=h.mem.mp 13#0;have cn:∀ x,(zA0 A B C p).count x=(A++p::(B++p::C)).count x:=fun x=>by
  unfold zA0;simp only[dJ,dB,List.count_reverse]
 have hBr:p∉B.reverse:=fun z=>hB (ff.mp z);have app:∀ j∈S,p≠j->yS q p j=decide (B.count j=1):=fun j hj n=>by
  rw[<-h.crs p hp j hj n,zCN n hA hB hC (h.two hj),dB];simp[n]
 refine⟨fun x=>by rw[cn];exact h.cnt x,fun i hi j hj n=>?_⟩;have withP:∀ j∈S,p≠j->zc (zA0 A B C p) (p,j)=yS (tq q p) p j:=fun j hj n=>by
  rw[zGL n,show yS q p p=false by unfold yS;simp,Bool.false_and,Bool.bne_false,app j hj n];unfold zA0;rw[zCN n hA hBr hC (by have:=cn j;unfold zA0 at this;rw[this];exact h.two hj),dB,List.count_reverse];simp[n]
 by_cases hpi:p=i
 ·subst hpi;exact withP j hj n
 ·by_cases hpj:p=j
  ·subst hpj
   rw[zDP,zGA];exact withP i hi (Ne.symm n)
  ·rw[zGL n,<-h.crs i hi j hj n,app i hi hpi,app j hj hpj,yF,yF]
   have e1:both (zA0 A B C p) (i,j)=both A (i,j)++(both B (i,j)).reverse++both C (i,j):=by
    unfold zA0;rw[zD6,zAe hpi hpj,zD6,zAe hpi hpj,cL];congr 2;unfold both;rw[List.filter_reverse]
   have e2:both (A++p::(B++p::C)) (i,j)=both A (i,j)++both B (i,j)++both C (i,j):=by
    rw[zD6,zAe hpi hpj,zD6,zAe hpi hpj,cL]
   rw[e1,e2];have l4:=zHQ n (A++p::(B++p::C));rw[h.two hi,h.two hj,e2] at l4;have:=zRN n (x:=both A (i,j)) (y:=both B (i,j)) (z:=both C (i,j)) l4 (fun u hu=>by
    rw[<-e2] at hu;simpa using(cQ.mp hu).2) (by rw[<-e2,zJf];exact h.two hi)
   rw[this,zJf,zNB]
theorem zUS(h:i≠j):yS (tq (tq q p) p) i j=yS q i j:=by
 have pp:∀ k,yS (tq q p) p k=yS q p k:=fun k=>by
  by_cases e:p=k
  ·subst e;unfold yS;simp
  ·rw[zGL e,show yS q p p=false by unfold yS;simp,Bool.false_and,Bool.bne_false]
 rw[zGL h,zGL h,pp,pp];cases yS q i j<;>cases yS q p i<;>cases yS q p j<;>rfl
end K
namespace L3
open L2
section
variable {X:Cx} {pins:List (Addr×Obj)} {σ1:L2.St} {H:Hp} {s:Shared} {A:Around}
end
section
variable {X:Cx} {a b:Expr} {pos p:Pos} {ta tb te:zl}
end
end L3
namespace K
open L2 L3
noncomputable def WkT(t:TT2)(σ:S2)(G:Gp)(b:Bool):Prop:=∀ G2,Ext G G2->∀ R:Bool->Gp->Prop,(∀ G3,Ext G2 G3->R b G3)->t σ G2 R
noncomputable def WkE(t:zl)(σ:S2)(G:Gp)(d:D):Prop:=∀ G2,Ext G G2->∀ R:D->Gp->Prop,(∀ G3,Ext G2 G3->R d G3)->t σ G2 R
theorem PuT.wk(h:PuT t σ G b):WkT t σ G b:=fun G2 e R q=>h G2 e R (q G2 (.refl _))
theorem zPW(p:D->Bool)(f:D->D)(us:D->List D)(hw:PuI wi σ G ds)
  (hx:∀ x∈ds,bd x=some (us x)/\WkT tc (σ++(us x).map some) G (p x)/\(p x=true->WkE te (σ++(us x).map some) G (f x))):PuL (zr wi bd tc te) σ G ((ds.filter p).map f):=by
 intro G2 e R q;refine hw G2 e _ fun gd G3 e3 hgd A nA=>?_;refine⟨fun i acc G'=>G'=za G3 A acc/\acc=((ds.take i).filter p).map f,⟨rfl,by simp⟩,?_,?_,?_⟩
 ·rintro i acc G' hi ⟨rfl,rfl⟩
  refine⟨hgd _ (.new nA),zK,?_⟩;rw[cg];exact dF (dX _ _) (by rw[cS];omega)
 ·rintro i x acc G' hi ⟨rfl,rfl⟩
  obtain⟨hb,ht,he⟩:=hx x (cW hi);rw[hb];dsimp only;have ex:Ext G (za G3 A (((ds.take i).filter p).map f)):=(e.trans e3).trans (.new nA);refine ht _ ex _ fun G5 e5=>?_;cases hp:p x with
  | false =>
   rw[if_neg 13#0];exact⟨_,e5.sub,rfl,by rw[yI hi];simp[hp]⟩
  | true =>
   rw[if_pos rfl];refine he hp _ (ex.trans e5) _ fun G6 e6=>?_;have e56:=e5.trans e6;refine⟨e56.sub.m _ _ zK,za G3 A (((ds.take i).filter p).map f++[f x]),⟨fun a o ha=>?_,fun a o ha=>e56.sub.ro a o ha⟩,rfl,by rw[yI hi];simp[hp]⟩;by_cases hz:a=A
   ·subst hz
    rw[zK] at ha ⊢;exact ha
   ·rw[ze hz] at ha ⊢
    exact e56.sub.m a o (by rw[ze hz];exact ha)
 ·rintro acc G' ⟨rfl,rfl⟩
  exact⟨G2,e3.own nA,e3.sub.trans (.new nA),by rw[eH];exact q⟩
end K
namespace K
open L2 L3 HS
theorem wA(h:t σ G fun ds G1=>sp ds G1 R):zg sp t σ G R:=h
theorem zAn(h:yq wi g tb { E with nx:=u E } σ G):zU (yq wi g tb) u E σ G:=h
theorem zLt(h:WkT tc σ G b)(hy:b=true->∀ G3,Ext G G3->t E σ G3)(hn:b=false->∀ G3,Ext G G3->u E σ G3):xIf tc t u E σ G:=h G (.refl G) _ fun G3 e=>by
 cases b
 ·rw[if_neg 13#0];exact hn rfl G3 e
 ·rw[if_pos rfl];exact hy rfl G3 e
theorem zNC(h:WkE t σ G (.bl b)):WkT (xB t) σ G b:=fun G2 e R q=>h G2 e _ q
theorem zTX(h:WkE ta σ G x)(h':zd tb σ G y)(hf:∀ G2 (R:Q2),R d G2->f x y G2 R):WkE (zS f ta tb) σ G d:=fun G2 e R q=>h G2 e _ fun G3 e3=>h' G3 (e.trans e3) _ (hf G3 R (q G3 e3))
theorem zTY(h:zd ta σ G x)(h':WkE tb σ G y)(hf:∀ G2 (R:Q2),R d G2->f x y G2 R):WkE (zS f ta tb) σ G d:=fun G2 e R q=>h G2 e _ (h' G2 e _ fun G3 e3=>hf G3 R (q G3 e3))
theorem zLu{σ:S2}{G:Gp}{to:zl}{t:wR}{R:Q2}{l:Addr}{xs:List D}(ho:zd to σ G (.adr l))(h:G.m l=some xs)(ht:t σ G fun ds G2=>match ds with | [d]=>∃ ys,G2.m l=some ys/\ys.length<=1000000/\R .non (za G2 l (ys++[d])) | _=>False):zHo to t σ G R:=by
 refine ho G (.refl G) _ ?_;show match G.m l with | some _=>_ | none=>_
 rw[h];have:∀(ds:List D) (G2:Gp),(match ds with | [d]=>∃ ys,G2.m l=some ys/\ys.length<=1000000/\R .non (za G2 l (ys++[d])) | _=>False)=(match ds with | [d]=>(match G2.m l with | some xs=>xs.length<=1000000/\R .non (za G2 l (xs++[d])) | none=>False) | _=>False):=fun ds G2=>by
  split
  ·rename_i d
   cases q:G2.m l with
   | none=>simp
   | some ys=>simp
  ·rfl
 simp only[this] at ht;exact ht
noncomputable def wX:wF:=fun ds G R=>∃(n:Nat) (q:25#0),ds=[zQ n q]/\1<=n/\n<=9/\R (.bl (zIQ n q)) G
noncomputable def zBz:yN:=(zi (zE0 (zS (fII fun i j=>.bl (decide (j<=i))) 24#0 (xC (.int 5))) (zS (wu false) (zf (zg zBY (zA (zB 0) zG))) (zf (wE zG)))))
theorem zKn(ds:List D)(G:Gp)(R:Q2)(h:wX ds G R):ds.length=1/\zBz (zZ R) (zN ["web"] ds) G:=by
 obtain⟨n,q,rfl,h1,h9,h⟩:=h;refine⟨rfl,?_⟩;unfold zBz;rw[show zN ["web"] [zQ n q]=[some (zQ n q)] from rfl];have a1:zd (zS (fII fun i j=>.bl (decide (j<=i))) 24#0 (xC (.int 5))) [some (zQ n q)] G (.bl (decide (5<=n))):=by
  have:=zDZ (g:=fun i j=>.bl (decide (j<=i))) (zB8 (q:=q) (n:=n) (zE (σ:=[some (zQ n q)]) (G:=G) (i:=0) rfl)) (yE (d:=.int 5));have e:decide ((5:Int)<=(n:Int))=decide (5<=n):=by rw[cV];simp only[decide_eq_true_eq];omega
  rw[<-e];exact this
 have d:=zMz n q;refine a1 G (.refl G) _ ?_;dsimp only;by_cases hn:5<=n
 ·rw[decide_eq_true hn,if_pos rfl]
  rw[decide_eq_true hn,Bool.true_and] at d;refine zKf (zBX (wA (yB (zE rfl) (yl ⟨n,q,rfl,h1,h9,fun m pm pw l hl=>zB9 (ds:=[]) 48#0 fun l2 hl2=>?_⟩))));have ne:l≠l2:=fun z=>by rw[<-z,zK] at hl2;cases hl2
  refine⟨m.map tI,[],.inl (by rw[ze ne];exact zK),.own,?_,(fun d hd=>by cases hd),?_⟩
  ·intro d hd
   obtain⟨ns,u0,rfl⟩:=cx.mp hd;show(ns.map D.int).all (flat 7)=true;rw[em];intro x hx;obtain⟨k,u0,rfl⟩:=cx.mp hx;rfl
  ·have e:(if false=true then !eqDs (m.map tI) [] else eqDs (m.map tI) [])=zIQ n q:=by
    rw[if_neg 13#0,<-d];have:=pm.length_eq;rw[cg] at this;cases m with
    | nil =>
     have:(zIN n q)=[]:=eI.mp this.symm;rw[this];rfl
    | cons a r =>
     cases hs:zIN n q with
     | nil=>rw[hs] at this;cases this
     | cons b t=>rfl
   rw[e];exact⟨G,(L3.Sub.new hl).trans (.new hl2),h⟩
 ·rw[decide_eq_false hn,if_neg 13#0]
  rw[decide_eq_false hn,Bool.false_and] at d;rw[<-d] at h;exact .of h
end K
namespace HT3
open HI (Ris yX ym zAv)
noncomputable def Kp(h0 h:Heap):Prop:=∀ b o,h0.get? b=some o->h.get? b=some o
section
variable {prog:Program} {w:World} {P:Addr->Prop} {A:Around} {R:Result->Shared->Prop} {h0:Heap} {S I:Addr} {fp wr:List Addr} {n:Nat} {its:Array Value} {val:Nat->List Int} {St:Nat->Heap->Prop} {g:Array GenState} {d:Drawn} {os:OsState}
theorem zCp(W:Walks prog w A.in1 I fp wr n (fun i v=>its[i]?=some v) St)(hA:A.in1.units<cLine)(hSf:S∉fp)(hS:h0.get? S=none)(hwr:∀ b∈wr,h0.get? b=none)(hwd:∀ i h,St i h->∀ b∈wr,∀ o,h.get? b=some o->∀ its n,o.data≠.seq its n)(hb:n<=9000)
  (ht:∀ i v,its[i]?=some v->∃ c,v=.ref c/\TK prog w P h0 (val i) c) :
  ∀(k i:Nat) (h:Heap) (tk:Nat) (kys:30#0),n-i=k->i<=n->Kp h0 h->St i h->ST prog w P h S kys->kys.length<=i->(∀ x,x∈kys↔∃ m,m<i/\val m=x) ->
   122#0 ->
   codeAny 3#0 A (.builtin "set.update.loop" ⟨[.ref S,.ref I],[]⟩) R ⟨h,g,d,tk,os⟩:=by
 have hSw:S∉wr:=fun q=>hSf (W.sub _ q);have kpw:∀ {h h':Heap},Kp h0 h->128#0->Kp h0 h':=fun {h h'} kp e b o q=>e b o (fun z=>by rw[hwr b z] at q;cases q) (kp b o q);have stw:∀ {h h':Heap} {kys},ST prog w P h S kys->128#0->(∀ b o,b∈wr->h.get? b=some o->∀ its n,o.data≠.seq its n)->ST prog w P h' S kys:=fun {h h' kys} x e e2=>by
  obtain⟨o,es,ep,t,h1,h2,h3,h4,h5,h6,h7,h8,h9,h10⟩:=x;obtain⟨k1,k2⟩:=h5.keep fun c o its n q1 q2=>e c o (fun z=>e2 c o z q1 its n q2) q1;exact⟨o,es,ep,t,e _ _ hSw h1,h2,h3,h4,k1,h6,h7,h8,by rw[k2];exact h9,h10⟩
 intro k
 induction k with
 | zero =>
  intro i h tk kys hk hi kp st hst hl mem hR;obtain rfl:i=n:=by omega
  sleep 8;refine bW (W.done _ _ _ st fun h' tk' e=>cc (hR h' tk' kys (kpw kp e) (stw hst e fun b o z q=>hwd _ _ st b z o q) hl mem))
 | succ k ih =>
  intro i h tk kys hk hi kp st hst hl mem hR;have lt:i<n:=by omega
  sleep 8;refine bW (W.item i _ _ _ lt st fun v h1 tk1 hP st1 e1=>?_);obtain⟨c,rfl,hc⟩:=ht i v hP;have kp1:Kp h0 h1:=kpw kp e1;have hst1:=stw hst e1 fun b o z q=>hwd _ _ st b z o q;have hc1:TK prog w P h1 (val i) c:=hc.keep fun o q=>kp1 c o q;show wpAny _ A.in1 (holding [Value.ref c] (setAdd S (.ref c))>>=_) _ _ _;refine bW (df ?_);unfold setAdd;refine df (bW ((tupleKind 134#0).pyHash (k:=val i) hA hc1.1 ?_));refine zIC (s:=⟨h1,g,d,tk1+((val i).length+1),os⟩) hA hst1 hc1 1#0 fun h2 kys2 r sb st2 pm=>?_;have len2:kys2.length<=i+1:=by
   rw[pm.length_eq];split
   ·omega
   ·rw[cD];simp;omega
  have mem2:∀ x,x∈kys2↔∃ m,m<i+1/\val m=x:=fun x=>by
   rw[pm.mem_iff];constructor
   ·intro q
    split at q
    ·obtain⟨m,h1,h2⟩:=(mem x).mp q
     exact⟨m,by omega,h2⟩
    ·rcases cG.mp q with q | q
     ·obtain⟨m,h1,h2⟩:=(mem x).mp q
      exact⟨m,by omega,h2⟩
     ·rw[cq] at q
      exact⟨i,by omega,q.symm⟩
   ·rintro⟨m,h1,h2⟩
    rcases e7 m i with z | z
    ·have:=(mem x).mpr ⟨m,z,h2⟩
     split
     ·exact this
     ·exact e9 _ this
    ·obtain rfl:m=i:=by omega
     split
     ·rename_i q;rw[<-h2];exact q
     ·rw[<-h2];simp
  have kp2:Kp h0 h2:=fun b o q=>by
   rw[sb.2 b (fun z=>by subst z;rw[hS] at q;cases q)];exact kp1 b o q
  refine cc ⟨plainId_quiet F.plain_set_update_loop _,ih (i+1) h2 _ kys2 1#0 lt kp2 (W.frame _ _ _ st1 fun b hb' o e=>?_) st2 len2 mem2 hR⟩;rw[sb.2 b (fun q:b=S=>hSf (by rw[<-q];exact hb'))];exact e
end
open HI (Ris yX ym zAv)
section
variable {prog:Program} {w:World} {P:Addr->Prop} {A:Around} {E:Value->Shared->Prop} {s:Shared}
theorem zIE{h:Heap}:ST prog w P (h.push (yX w)) h.objs.size []:=by
 refine⟨yX w,#[],0,.fresh 0 0 (ym w),cw _ rfl,⟨rfl,rfl,rfl⟩,rfl,116#0,fun i e he=>by simp at he,rfl,rfl,(by show 0*5<7*3;decide),.refl _,List.nodup_nil,rfl⟩;obtain⟨i,e,u0⟩:=he;simp[eQ] at e
theorem zEV{l:Addr}{its:102#0}{val:Nat->List Int}{Q:12#0}(hh:92#0)(hA:A.in1.in1.in1.units<cLine)(hl:s.heap.IsList l its)(ht:142#0)(hb:its.size<=9000)
  (h:∀(h':Heap) (tk:Nat) (kys:30#0),ST prog w P h' s.heap.objs.size kys->kys.length<=its.size->(∀ x,x∈kys↔∃ m,m<its.size/\val m=x)->Kp s.heap h'->Q 17#0 { s with heap:=h',toks:=tk }) :
  wpAny 3#0 A (call (.type "set") [.ref l]) Q E s:=by
 sleep 43;refine wpAny_call (codeAny_of_tree (show wpAny _ _ (callAny (.type "set") _) _ _ _ from cc ⟨Code.quiet_builtin _ 5#0,da F.entry_type_call ?_⟩));sleep 14
 sleep 11
 refine eO 70#0 fun r z hr=>?_;cases r with
 | error e=>exact hr
 | ok fl =>
  cases fl with
  | ret obj =>
   obtain⟨rfl,rfl⟩:=hr;have hT:Shared.TypeIs { s with heap:=s.heap.push (yX w) } 17#0 "set":=⟨_,cw _ rfl,rfl⟩
   have hli:=F.called_set.init.lookup;have hbi:=F.called_set.init.bind 17#0
   sleep 11
   refine eO 22#0 fun r2 z2 hr2=>?_
   ·obtain⟨ol,hol,hcl,nl,hdl⟩:=hl
    sleep 36;have hsls:isSubtype (.type "list") (.type "set")=pure false:=by rw[isSubtype_type];kernel_rfl
    have hslf:isSubtype (.type "list") (.type "frozenset")=pure false:=by rw[isSubtype_type];kernel_rfl
    have hne:(Value.type "list"==Value.type "dict")=false:=by decide
    have hl1:(s.heap.push (yX w)).IsList l its:=⟨_,hol',rfl,nl,rfl⟩
    sleep 44
    wp_walk
    subst hPI;refine wpAny_pyIter_list hl1 (bW (fV ?_));have lS:l<s.heap.objs.size:=cy hol;have hh3:A.in1.in1.in1.handled=none:=by simp[hh]
    have neI:l≠(s.heap.push (yX w)).objs.size:=by rw[er];exact cR (fI lS)
    have hSf:s.heap.objs.size∉[(s.heap.push (yX w)).objs.size,l]:=by
     sleep 62
    have st0:ST prog w P ((s.heap.push (yX w)).push { cls:=.type "list_iterator",data:=.fields #[.ref l,.int 0 0] }) s.heap.objs.size []:=zIE.keep fun b o e=>c9 _ e;refine zCp (h0:=s.heap) (Walks.list hh3 _ l neI its) hA hSf (fg (cr _)) (fun b hb'=>by
     rw[cq] at hb';rw[hb',er];exact fg (fB _)) (fun i h st b hb' o e its n q=>by
     rw[cq] at hb';subst hb';obtain⟨o2,e2,c2,d2⟩:=st.1;rw[e2] at e;cases e;rw[d2] at q;cases q) hb ht (its.size-0) 0 _ _ [] 1#0 (dG _) (fun b o e=>c9 _ (c9 _ e)) ⟨⟨_,cw _ rfl,rfl,rfl⟩,hl1.push _⟩ st0 (cr _) 140#0 ?_
    sleep 19
   ·cases r2 with
    | error e=>exact hr2
    | ok fl2 =>
     cases fl2 with
     | ret r =>
      obtain⟨rfl,h',tk,kys,rfl,st,len,mem,kp⟩:=hr2
      sleep 11
      exact h _ _ kys st len mem kp
     | _=>exact hr2.elim
  | _=>exact hr.elim
end
open HI (Ris Sx Tells zAT zDu zFJ zDv zAw wn zDt zBu zBA zAk zBW)
section
variable {prog:Program} {w:World} {P:Addr->Prop} {A:Around} {E:Value->Shared->Prop} {s:Shared}
theorem zPB(hh:92#0)(T:Tells prog w a es ep t sl xs)(hf:t.fits es.size=true)(hx:xs.length=es.size)(hne:a≠it) :
  Walks prog w A it [it,a] [it] es.size (fun i v=>xs[i]?=some v) (fun i h=>h.get? it=some (zAT (rawInt (sl i)) i a es.size ep)/\Sx h a es ep t) where
 sub:=fun b hb=>by simp at hb ⊢;exact .inl hb
 frame:=fun i h h' st k=>⟨k it 13#0 _ st.1,st.2.keep fun o e=>k a 13#0 o e⟩
 item:=fun i s Q E hi st hQ=>zDu T hf hx hi st.1 st.2 hne fun h' v hxv e kp=>hQ _ h' s.toks hxv ⟨e,st.2.keep fun o q=>kp a o hne q⟩ fun b o hb q=>kp b o (by simpa using hb) q
 done:=fun s Q E st hQ=>zFJ hh T hf hx st.1 st.2 fun h' kp=>hQ h' s.toks fun b o hb q=>kp b o (by simpa using hb) q
 self:=fun i s Q E st hQ=>zDv st.1 hQ
noncomputable def Mem(prog:Program)(w:World)(P:Addr->Prop)(h:Heap)(xs:40#0)(kys:30#0):Prop:=(∀ v∈xs,∃ c ns,v=.ref c/\TK prog w P h ns c)/\(xs.map fun v=>kyT h (0,v)).Perm kys
theorem zEW(hS:79#0)
  (h:∀(h1:Heap) (it:Addr) (fp:List Addr) (St:Nat->Heap->Prop) (xs:40#0),(∀ b o,s.heap.get? b=some o->h1.get? b=some o)->(∀ b∈fp,b=a\/s.heap.objs.size<=b)->s.heap.objs.size<=it ->
   (∀ B:Around,B.handled=none->Walks prog w B it fp [it] xs.length (fun i v=>xs[i]?=some v) St)->St 0 h1->Mem prog w P s.heap xs kys->xs.length=kys.length->Q (.ref it) { s with heap:=h1 }):wpAny 3#0 A (pyIter (.ref a)) Q E s:=by
 obtain⟨o,es,ep,t,ho,hex,hd,T0,ok,pl,hl,fl,pk,nd⟩:=hS;have hf:=fits_of T0;have hr:=T0.ris;have hT:s.TypeIs (.ref a) "set":=⟨o,ho,hex.1⟩
 sleep 7;unfold setDrawn;refine bW (bW (di ho hd hf (bW (zAw (cc ?_)))));dsimp only;have fin:∀(sl:Nat->Nat) (xs:40#0),sl 0=0->Tells prog w a es ep t sl xs->xs.Perm (es.toList.map (·.2))->wpAny 3#0 A.in1 (do let e <-setEpoch a;let r <-newFields "set_iterator" [rawInt 0,rawInt 0,.ref a,rawInt es.size,rawInt e];ret r) (fun fin s'=>∃ v,fin=.done (.ret v)/\∃ T' r,s'.TypeIs v T'/\typeLookup (.type T') "__next__"=pure (some r)/\Q v s') E s:=fun sl xs h0 T pm=>by
  have hx:xs.length=es.size:=by rw[pm.length_eq];simp
  sleep 4
  ·simp only[cY,fb,or_false] at hb
   rcases hb with e | e
   ·exact .inr (Nat.le_of_eq e.symm)
   ·exact .inl e
  ·rw[h0];exact cw _ rfl
  ·obtain⟨e,he,rfl⟩:=cx.mp (pm.mem_iff.mp hv)
   obtain⟨c,e1,e2⟩:=ok.mem e he;exact⟨c,_,by rw[e1],e2⟩
  ·refine(pm.map _).trans ?_
   rw[de];exact pk.symm
  ·rw[hx]
   have:=pk.length_eq;simp at this;omega
 cases bt:w.params.followText "set-order" with
 | true =>
  rw[if_neg 13#0];exact fin (fun u0=>0) _ rfl (zBu hf bt) ((zAk (w.params.setOrder a ep) es).map _)
 | false =>
  have hl':t.led=true:=by rw[hl];unfold HI.ym;rw[bt];rfl
  have hp:(!t.plain&&decide (es.size>1))=false:=by rw[pl];rfl
  sleep 56
end
open HI (zBW)
open HS (TI tAt ltI zBV)
section
variable {prog:Program} {w:World} {P:Addr->Prop} {A:Around} {E:Value->Shared->Prop} {s:Shared}
theorem zDK(h:ItemsAre 134#0 ns vs):IntsAre vs ns:=by
 induction h with
 | nil=>exact .nil
 | cons h1 _ ih =>
  obtain⟨t,rfl⟩:=Value.isInt_shape h1;exact .cons _ _ ih
theorem zCR{R:Result->Shared->Prop}{a:Addr}{kys:30#0}(hh:92#0)(hS:79#0)(hlen:kys.length<=10000)(L:Addr)(res:Value)(c0:Nat)(hL:s.heap.get? L=some { cls:=.type "list",data:=.seq #[] c0 })
  (hR:∀ h' tk acc c,(∀ b o,b≠L->s.heap.get? b=some o->h'.get? b=some o)->h'.get? L=some { cls:=.type "list",dict:=none,data:=.seq acc c,slots:=#[] }->Mem prog w P s.heap acc.toList kys->acc.size=kys.length->R (.ok (.ret res)) { s with heap:=h',toks:=tk }) :
  wpAny 3#0 A.in1 (Builtin.List.listExtendWith (.ref L) (.ref a) res)
   (fun fin s'=>match fin with | .done f=>R (.ok f) s' | .again c'=>c'.quiet=true/\codeAny 3#0 A c' R s') (fun e s'=>R (.error e) s') s:=by
 obtain⟨o,es,ep,t,ho,hex,hrest⟩:=id hS;have La:L≠a:=fun e=>by rw[e,ho] at hL;cases hL;have:=hex.1;simp at this
 have lL:L<s.heap.objs.size:=cy hL;unfold Builtin.List.listExtendWith;refine bW (f7 (T:="set") ⟨o,ho,hex.1⟩ ?_);have h1:Builtin.List.listSameRef (.ref L) (.ref a)=false:=by simp[Builtin.List.listSameRef,La]
 have h2:(Value.type "set"==Value.type "list")=false:=by decide
 have h3:(Value.type "set"==Value.type "tuple")=false:=by decide
 simp only[h1,h2,h3,Bool.or_false,bX,if_false];refine bW (zEW hS fun g it fp St xs kp hfp hit W st me xl=>?_);have hSf:L∉fp:=fun q=>by
  rcases hfp L q with e | e
  ·exact La e
  ·exact absurd lL (Nat.not_lt.mpr e)
 have W1:=(W A.in1 (by simpa using hh)).toS;refine bW (df (zBW (s:={ s with heap:=g }) (kp a o ho) hex.1 ?_));have hL1:=kp L _ hL;refine eC (fun u0=>?_) (fun q=>absurd 5#0 q);refine bW (fF (bW ?_));sleep 21;have old:∀ b ob,b≠L->g.get? b=some ob->((g.update L (Obj.mapSeq (·.push Value.none))).update L (Obj.mapSeq (·.pop))).get? b=some ob:=fun b ob hb e=>by
  rw[eF _ _ _ _ hb,eF _ _ _ _ hb];exact e
 refine codeAny_extend_loopS W1 101#0 L hSf res xs.length 0 _ #[] _ rfl (dG _) ?_ hL3 (ItemsOf.nil _) fun s' acc c hm hL' hacc=>?_
 ·exact(W A.in1 (by simpa using hh)).frame 0 _ _ st fun b hb ob e=>old b ob (fun z=>hSf (by rw[<-z];exact hb)) e
 ·have ea:acc.toList=xs:=by
   refine List.ext_getElem (by simp[hacc.1]) fun i h1 h2=>?_;have hi:i<acc.size:=by simpa using h1
   have:xs[i]?=some acc[i]:=hacc.2 i acc[i] (getElem?_pos acc i hi);rw[dI h2] at this;have:=Option.some.inj this;rw[this];simp
  sleep 35
  ·exact hb e'
  ·exact absurd (cy e) (by rw[cq.mp hmem];exact Nat.not_lt.mpr hit)
theorem zBv(hh:92#0)(hS:79#0)(hlen:kys.length<=10000)
  (hQ:∀ h' tk vs,29#0->s.heap.objs.size<=h'.objs.size->Mem prog w P s.heap vs kys->vs.length=kys.length->Q vs { s with heap:=h',toks:=tk }):wpAny 3#0 A (collect (.ref a)) Q E s:=by
 sleep 10;show wpAny _ A.in1 (Builtin.List.listExtendWith 17#0 (.ref a) 17#0) _ _ _;have hL:(s.heap.push { cls:=.type "list",data:=.seq ([]:List Value).toArray }).get? s.heap.objs.size=some { cls:=.type "list",data:=.seq #[] 0 }:=cw _ rfl;have memb:∀ {vs:40#0},Mem prog w P 31#0 vs kys->Mem prog w P s.heap vs kys:=fun {vs} m=>by
  have back:∀ {ns c},TK prog w P 31#0 ns c->TK prog w P s.heap ns c:=fun {ns c} q=>by
   obtain⟨⟨ob,its,n,e,hc,r⟩,qp⟩:=q;refine⟨⟨ob,its,n,?_,hc,r⟩,qp⟩;by_cases z:c=s.heap.objs.size
   ·rw[z,cw _ rfl] at e
    cases e;simp at hc
   ·rw[Heap.get?_push_ne _ _ _ z] at e
    exact e
  refine⟨fun v hv=>?_,?_⟩
  ·obtain⟨c,ns,rfl,q⟩:=m.1 v hv
   exact⟨c,ns,rfl,back q⟩
  ·refine eX.trans (.of_eq (dL fun v hv=>?_)) m.2
   obtain⟨c,ns,rfl,q⟩:=m.1 v hv;rw[zAY (back q),zAY q]
 let Pst:Result->Shared->Prop:=fun res s'=>∃(h':Heap) (tk:Nat) (acc:102#0) (c:Nat),res=.ok (.ret 17#0)/\s'={ s with heap:=h',toks:=tk }/\29#0/\h'.get? s.heap.objs.size=some { cls:=.type "list",dict:=none,data:=.seq acc c,slots:=#[] }/\Mem prog w P s.heap acc.toList kys/\acc.size=kys.length;refine wpAny_mono (zCR (A:=A) (R:=Pst) (s:={ s with heap:=s.heap.push { cls:=.type "list",data:=.seq ([]:List Value).toArray } }) hh (hS.keep fun b o e=>c9 _ e) hlen s.heap.objs.size 17#0 0 hL fun h' tk acc c kp q1 q2 q3=>?_) (fun fin s' h=>?_) (fun e s' h=>?_)
 ·exact⟨h',tk,acc,c,rfl,rfl,fun b o e=>kp b o (cR (cy e)) (c9 _ e),q1,memb q2,q3⟩
 ·have fin':∀ {r' s''},Pst r' s''->wpAny 3#0 A (match Value.ref s.heap.objs.size with
     | Value.ref a=>do
      match (<-load a).data with
       | Data.seq xs _=>pure xs.toList
       | _=>unsupported "internal:collect"
     | _=>unsupported "internal:collect") Q E s'':=by
   sleep 45
  cases fin with
  | done f =>
   have hf:=h;obtain⟨h',tk,acc,c,e,u0⟩:=h;cases e;exact fin' hf
  | again c'=>exact⟨h.1,eO h.2 fun r s'' hr=>by
    have hf:=hr;obtain⟨h',tk,acc,c,e,u0⟩:=hr;subst e;exact fin' hf⟩
 ·obtain⟨u0,u0,u0,u0,e,u0⟩:=h
  cases e
theorem zCS(hh:92#0)(hS:79#0)(h64:kys.length<9000)(hne:∀ ns∈kys,ns≠[])
  (h:∀ h' tk l (out:40#0) e,29#0->s.heap.objs.size<=l->h'.get? l=some (seqObj "list" out.toArray e)->Mem prog w P s.heap out kys->(out.map fun v=>kyT s.heap (0,v)).Pairwise 38#0->Q (.ref l) { s with heap:=h',toks:=tk }) :
  wpAny 3#0 A (call (.builtin "sorted") [.ref a]) Q E s:=by
 sleep 32;refine bW (m:=checkCount "sorted" 1 1 _) (cc (bW (zBv (by simpa using hh) hS 1#0 fun g tk vs kp lg me vl=>bW (wpAny_newList ?_ 101#0))));have hoL:(g.push 20#0).get? g.objs.size=some 20#0:=cw _ rfl;have up:∀ b o,s.heap.get? b=some o->(g.push 20#0).get? b=some o:=fun b o e=>c9 _ (kp b o e);show wpAny _ _ _ _ _ { s with heap:=g.push 20#0,toks:=tk };have ti:∀ v∈vs,TI (g.push 20#0) v (kyT s.heap (0,v))/\v≠.ref g.objs.size:=fun v hv=>by
  obtain⟨c,ns,rfl,q⟩:=me.1 v hv;sleep 31
 refine bW (df (dW slot_list_sort ⟨_,hoL,rfl⟩ entry_list_sort (zBV (s:={ s with heap:=g.push 20#0,toks:=tk }) hoL (fun v hv=>⟨⟨_,(ti v hv).1⟩,(ti v hv).2⟩) 1#0 fun out a2 a3=>⟨_,rfl,cc ⟨_,rfl,?_⟩⟩) (args_list_sort _)));have at1:((g.push 20#0).update g.objs.size 113#0).get? g.objs.size=some (seqObj "list" #[] _):=get?_update_seq hoL (fun u0=>#[]);have at2:((((g.push 20#0).update g.objs.size 113#0).push (seqObj "tuple" vs.toArray 0)).push 50#0).get? g.objs.size=some (seqObj "list" #[] _):=c9 _ (c9 _ at1);sleep 48
 ·have hb:b≠g.objs.size:=cR (cy (kp b o e))
  unfold sortedHeap;rw[eF _ _ _ _ hb];exact c9 _ (c9 _ (by rw[eF _ _ _ _ hb];exact c9 _ (kp b o e)))
 ·rw[dR]
  intro i j hi hj ij;have hj':j<out.size:=by simpa using hj
  have hi':i<out.size:=by omega
  have q:=a3 i j (eY ij) hj';have gt:∀ k,(hk:k<out.size)->(tAt (g.push 20#0) (out.getD k .none)).getD []=kyT s.heap (0,out[k]):=fun k hk=>by
   have e:out.getD k .none=out[k]:=by simp[fw,hk]
   rw[e,(ti out[k] (a2.mem_iff.mp 13#0)).1.items];rfl
  rw[gt i hi',gt j hj'] at q;simpa using q
end
end HT3
namespace L3
open L2 HT3 HS
theorem zND(h:IntsAre vs ns):ItemsAre 134#0 ns vs:=by
 induction h with
 | nil=>exact .nil
 | cons n t _ ih=>exact .cons (intKind_is _ _ _ _) ih
section
variable {X:Cx} {pins:List (Addr×Obj)} {σ:L2.St} {H:Hp} {s:Shared}
noncomputable def PdU(K:15#0)(H:Hp)(c:Addr):Prop:=∃ ms,zR K H (tI ms) (.ref c)
theorem zPX(I:16#0)(d:zR X.K H (tI ns) (.ref c)):TK X.prog X.w (PdU X.K H) s.heap ns c:=by
 refine⟨?_,ns,d⟩;unfold tI zR at d;obtain⟨a,zs,e,hs,hd⟩:=d;cases e;sleep 60;exact⟨o,its.toArray,n,h1,h2,h3,zND (by simpa using intsAre_of rv)⟩
theorem zRO(I:16#0){nss:30#0}{ys:List V}{its:40#0}(d:Dens X.K H (nss.map tI) ys)(rv:zY ys its):∀ i v,its.toArray[i]?=some v->∃ c,v=.ref c/\TK X.prog X.w (PdU X.K H) s.heap (nss.getD i []) c:=fun i v hv=>by
 have hv:its[i]?=some v:=by simpa using hv
 have hi:=(cu.mp hv).1;have l1:=rv.length;have l2:=d.length;rw[cg] at l2;have hn:i<nss.length:=by omega
 sleep 61;obtain⟨a,zs,rfl,u0,u0⟩:=e5;cases (show v=Value.ref a from e4);have eg:nss.getD i []=nss[i]:=by simp[dA,hn]
 rw[eg];exact⟨a,rfl,zPX I e2⟩
theorem zR6{h:Heap}(I:16#0):∀ {out:40#0},(∀ v∈out,∃ c ns,v=.ref c/\TK X.prog X.w (PdU X.K H) s.heap ns c)->∃ ys:List V,zY ys out/\Dens X.K H ((out.map fun v=>kyT s.heap (0,v)).map tI) ys
 | [],_=>⟨[],.nil,.nil⟩
 | v::out,hh=>by
  obtain⟨ys,r,d⟩:=zR6 (h:=h) I (out:=out) fun v hv=>hh v (cJ _ hv);obtain⟨c,ns,rfl,tk⟩:=hh v cK;obtain⟨ms,dm⟩:=tk.2;have:=(zPX I dm).1.inj tk.1;subst this;refine⟨.ref c::ys,.cons rfl r,?_⟩;simp only[dq];rw[zAY tk 0];exact .cons dm d
end
noncomputable def zU7(K:15#0)(t:TA):TE:=fun σ H Q=>t σ H fun vs H1=>∃(p:Addr) (ys:List V) (nl:30#0),vs=[.ref p]/\SqL K H1 p ys/\Dens K H1 (nl.map tI) ys/\nl.length<=8000/\(∀ x∈nl,x≠[]) /\
 ∀(l:Addr) (ys':List V) (nss':30#0),H1 l=none->nss'.Nodup->(∀ x,x∈nss'↔x∈nl)->nss'.Pairwise 38#0->Dens K H1 (nss'.map tI) ys'->Q (.ref l) (wY H1 l (.lst ys'))
theorem zEo(hr:yZ k X.A)(hc:85#0)(hg:Gl X "sorted")(hm:X.mg "sorted"=none)(hg2:Gl X "set")(hm2:X.mg "set"=none)(ha:PA X [e] t)
  (he:starEach [.Call (.Name "set" p1) [e] [] pos1] X.env=(false,eval 59#0 X.env)::starEach [] X.env) (hpl:(backTo pos 33#0).any (·.1)=false)
  (he1:starEach [e] X.env=21#0::starEach [] X.env) (hpl1:(backTo pos1 33#0).any (·.1)=false) :
  PE X 137#0 (zU7 X.K t):=by
 sleep 25;have hu:=hr.units;have uA:∀ n,n<=50->X.A.units+n<cLine:=fun n hn=>by omega
 refine eN (wy I hg hm boot_sorted (PyProof.Rows.callWith_builtin1 ?_ he hpl));rw[he];refine Calls.spliced_cons 136#0;obtain⟨p0,ys,nl,rfl,hp,dl,n1,une,fin⟩:=q1;obtain⟨u,rfl,rx⟩:=vals1 r1;cases rx;obtain⟨its,rv,pt,u0⟩:=I1.list hp;have l1:=rv.length;have l2:=dl.length;rw[cg] at l2;refine zEV (P:=PdU X.K H1) (val:=fun i=>nl.getD i []) (I1.ok.hd hc) (by show X.A.units+3<cLine;exact uA 3 1#0) pt.isList (zRO I1 dl rv) (by rw[cF];omega) fun h1 tk1 kl stl len1 meml kp1=>?_;refine Calls.spliced_nil ?_;have I2:zV X pins σ H1 { s1 with heap:=h1,toks:=tk1 }:=I1.kept (t':=tk1) kp1;have ml:∀ x,x∈kl↔x∈nl:=fun x=>by
  rw[meml x];constructor
  ·rintro⟨m,hm',rfl⟩
   rw[cF] at hm';have:m<nl.length:=by omega
   simp[dA,this]
  ·intro hx
   obtain⟨m,hm',rfl⟩:=eE hx;exact⟨m,by rw[cF];omega,by simp[dA,hm']⟩
 refine zCS (s:={ s1 with heap:=h1,toks:=tk1 }) (P:=PdU X.K H1) (I1.ok.hd hc) stl (by rw[cF] at len1;omega) (fun ns hns=>une ns ((ml ns).mp hns)) fun h4 tk4 l out ee kp4 hl4 hget me so=>?_;have sz:s1.heap.objs.size<=h1.objs.size:=by
  have g1:s1.heap.objs.size<h1.objs.size:=by obtain⟨o,u0,u0,u0,ho,u0⟩:=stl;exact cy ho
  omega
 have sl:s1.heap.objs.size<=l:=dF sz hl4;obtain⟨ys',rv',d'⟩:=zR6 (h:=h4) I2 me.1;have hn:H1 l=none:=I1.hok.fresh sl;have nd:kl.Nodup:=let ⟨_,_,_,_,_,_,_,_,_,_,_,_,_,q⟩:=stl;q.1;have ol:out.length=kl.length:=by have:=me.2.length_eq;sleep 33
 refine⟨.ref l,_,I2.laid (t':=tk4) (o:=.lst ys') kp4 hl4 ⟨by have:=rv'.length;rw[cF] at len1;rw[sizeLine_eq];omega,out,ee,rv',by rw[hget]⟩,rfl,fin l ys' _ hn (me.2.nodup_iff.mpr nd) (fun x=>(me.2.mem_iff).trans (ml x)) so d'⟩
noncomputable def zTZ(t:TL2):TL2:=fun σ G R=>t σ G fun ds G1=>∃ nl:List (List Int),ds=nl.map tI/\nl.length<=8000/\(∀ x∈nl,x≠[])/\∀ nss':List (List Int),nss'.Nodup->(∀ x,x∈nss'↔x∈nl)->nss'.Pairwise 38#0->R (nss'.map tI) G1
theorem zKo(hr:yZ k X.A)(hc:85#0)(hg:Gl X "sorted")(hm:X.mg "sorted"=none)(hg2:Gl X "set")(hm2:X.mg "set"=none)(ha:F2 X e t)
  (he:autoParam (starEach [.Call (.Name "set" p1) [e] [] pos1] X.env=(false,eval 59#0 X.env)::starEach [] X.env) Zq4._auto_1) (hpl:8#0)
  (he1:4#0) (hpl1:autoParam ((backTo pos1 33#0).any (·.1)=false) Zq4._auto_1) :
  F2 X 137#0 (zTZ t):=by
 refine PE.mono (zEo hr hc hg hm hg2 hm2 (wZ ha zBH he1) he hpl he1 hpl1) ?_;rintro σ1 H Q ⟨σ,G,R,rl,q,k'⟩;refine⟨σ,G,_,rl,q,fun ds G1 q1 l xs H1 g1 r1 n e1 d1=>?_⟩;obtain⟨nl,rfl,b1,b2,q1⟩:=q1;exact⟨l,xs,nl,rfl,.of e1,d1,b1,b2,fun l' ys' nss' n' c1 c2 c3 c4=>k' _ G1 (q1 nss' c1 c2 c3) l' _ _ (g1.trans (.fresh n')) (r1.fresh n') (r1.free n') zp (c4.grow (.fresh n'))⟩
end L3
namespace K
open L2 L3 HS
noncomputable def wp:wF:=fun ds G R=>∃ a b:Nat,ds=[nD a,nD b]/\a<=b/\R .non G
noncomputable def zAG:yN:=(xIf (xB (zS (fII fun i j=>.bl (decide (j<i))) (zB 0) (zB 1))) (fun u0 u0 u0=>False) yC)
theorem zGi(ds:List D)(G:Gp)(R:Q2)(h:wp ds G R):ds.length=2/\zAG (zZ R) (zN ["many","most"] ds) G:=by
 obtain⟨a,b,rfl,hab,h⟩:=h;refine⟨rfl,?_⟩;unfold zAG;have:=zDZ (g:=fun i j=>.bl (decide (j<i))) (zE (σ:=[some (nD a),some (nD b)]) (G:=G) (i:=0) (d:=nD a) rfl) (zE (i:=1) (d:=nD b) rfl);rw[decide_eq_false (show ¬ ((b:Int)<(a:Int)) by omega)] at this;exact zOS (σ:=[some (nD a),some (nD b)]) (zAI this) (FgR.of h)
theorem zRP{l:List D}{a b:Nat}(h:a<=b)(hb:b<=l.length):L3.cutD l (some (a:Int)) (some (b:Int))=(l.drop a).take (b-a):=by
 unfold L3.cutD;rw[HT.zCd,HT.zCd,eD hb,eD 1#0]
theorem zRQ(h0:look σ 0=some (uD r))(h1:look σ 1=some (nD p))(hu:zd u σ G (nD a))(hv:zd v σ G (nD b))(hab:a<=b)(hb:b<=r.length)(hl:r.length<=1000) :
  zd (zS yQ (zS yQ (zS yQ (zS yQ (wN (zB 0) yw (wJ u)) (yU 51#0)) (wN (zB 0) (wJ u) (wJ v))) (yU 51#0)) (wN (zB 0) (wJ v) yw)) σ G (uD (zEZ r p a b)):=by
 have lm:(r.map nD).length=r.length:=cg _;have s1:=zR4 (xs:=r.map nD) (zE (σ:=σ) (G:=G) h0) hu 1#0;have s2:=zI6 (xs:=r.map nD) (zE (σ:=σ) (G:=G) h0) hu hv;rw[zRP hab 1#0] at s2;have s3:=zLi (xs:=r.map nD) (zE (σ:=σ) (G:=G) h0) hv 1#0;have s4:zd (yU 51#0) σ G (.tup [nD p]):=zBh (zF (zE h1) zM) 13#0;have e:uD (zEZ r p a b)=.tup (((((r.map nD).take a++[nD p])++((r.map nD).drop a).take (b-a))++[nD p])++(r.map nD).drop b):=by
  show D.tup ((zEZ r p a b).map nD)=_;unfold zEZ;simp only[dP,List.map_take,List.map_drop,dq,List.map_nil]
 rw[e];refine zEQ (zEQ (zEQ (zEQ s1 s4 ?_) s2 ?_) s4 ?_) s3 ?_ <;>
 ·simp only[cD,cS,dN,cb,ci,cg]
  omega
theorem zRR(a n:Nat):yD (a:Int) n=(cf n).map fun k=>nD (a+k):=by
 unfold yD;refine dL fun k u0=>?_;show D.int _=D.int _;congr 1
theorem zRS(h:((cf n).map fun k=>nD (a+k))[i]?=some x):x=nD (a+i)/\i<n:=by
 rw[cZ] at h;by_cases hi:i<n
 ·rw[List.getElem?_range hi] at h
  cases h;exact⟨rfl,hi⟩
 ·rw[List.getElem?_eq_none (by rw[cX];omega)] at h
  cases h
theorem zRT(h:PuT tc σ G b)(hy:b=true->t { E with nx:=v E } σ G)(hn:b=false->u { E with nx:=v E } σ G):zU (xIf tc t u) v E σ G:=h G (.refl G) _ (by
 cases b
 ·rw[if_neg 13#0];exact hn rfl
 ·rw[if_pos rfl];exact hy rfl)
theorem ifB(h:PuT tc σ G b)(hy:b=true->t E σ G)(hn:b=false->u E σ G):xIf tc t u E σ G:=h G (.refl G) _ (by
 cases b
 ·rw[if_neg 13#0];exact hn rfl
 ·rw[if_pos rfl];exact hy rfl)
theorem zJg(h0:look σ 0=some (uD r)):zd (zS yQ 47#0 35#0) σ G (nD (r.length+1)):=zH0 (zCk (zE h0)) yE
noncomputable def yT:List D->Gp->100#0->Prop:=fun ds G R=>∃(r cs:42#0) (p:Nat) (l:Addr),ds=[uD r,nD p,.adr l]/\Ls G l (cs.map nD)/\r.length<=20/\(∀ x∈r,x<=9)/\(∀ x∈cs,x<=9)/\cs.length<=9/\R ((wch r p (yo cs)).map uD) G
theorem zCB:∀ ds G R R',62#0->yT ds G R->yT ds G R':=by
 rintro ds G R R' h ⟨r,cs,p,l,e,h1,h2,h3,h4,h5,q⟩;exact⟨r,cs,p,l,e,h1,h2,h3,h4,h5,h _ _ q⟩
noncomputable def zAf:yN:=(zU (zn (zo zLe (zr (iV (zB 2)) wd zBO (zS 68#0 35#0 (zB 8)))) (gN 3)) (zU (zn (zf (wE zG)) (gN 4)) (zU (yq (iR2 (zA 35#0 (zA (zS yQ 47#0 35#0) zG))) (gN 5) (zU (zn 32#0 (gN 6)) (yq (iR2 (zA (zB 5) (zA (zS yQ 47#0 35#0) zG))) (gN 7) (zU (xIf (xB (zS (wu false) (zB 6) (zB 3))) (wH (zHo (zB 4) (zA (zS yQ (zS yQ (zS yQ (zS yQ (wN (zB 0) yw (wJ (zB 5))) (yU 51#0)) (wN (zB 0) (wJ (zB 5)) (wJ (zB 7)))) (yU 51#0)) (wN (zB 0) (wJ (zB 7)) yw)) zG))) yC) (xIf (xB (zS 46#0 (zB 7) 47#0)) (zn (zS 124#0 (zB 6) (zS 68#0 35#0 (zS yM (zB 0) (zB 7)))) (gN 6)) yC))))) (zi (zB 4)))))
theorem zDQ(h:r.length<=20):∀ i,i<=r.length->(wx r p W i).length<=21*i
 | 0,_=>cr _
 | i+1,hi=>by
  have h1:=zDQ h i 1#0 (p:=p) (W:=W);have h2:=zGF (r:=r) (p:=p) (W:=W) (a:=i+1) (j:=r.length-i) 1#0;show(wx r p W i++zEa r p W (i+1) (r.length-i)).length<=_;rw[cD];omega
theorem zIW(ds:List D)(G:Gp)(R:Q2)(h:spL yT ds G R):ds.length=3/\zAf (zZ R) (zN ["ring","place","crossed","wanted","found","first","inside","second"] ds) G:=by
 obtain⟨r,cs,p,l,rfl,hl,hr,hrx,hcx,hcl,h⟩:=h;refine⟨rfl,?_⟩;unfold zAf;rw[show zN ["ring","place","crossed","wanted","found","first","inside","second"] [uD r,nD p,.adr l]=[some (uD r),some (nD p),some (.adr l),none,none,none,none,none] from rfl]
 -- wanted
 have c:=zEN (σ:=[some (uD r),some (nD p),some (.adr l),none,none,none,none,none]) (G:=G) (bd:=wd) (te:=(zS 68#0 35#0 (zB 8))) 107#0 (fun d=>[d]) (wS (zE (i:=2) (d:=.adr l) rfl) hl) fun x hx=>by
  obtain⟨k,hk,rfl⟩:=cx.mp hx;refine⟨rfl,yW (x:=.int 1) (y:=nD k) yE (zE rfl) fun u0 u0 u0 q'=>⟨⟨by omega,by have:=hcx k hk;omega,by decide⟩,?_⟩⟩;dsimp only;have:(1:Int)*2 ^ ((k:Int)).toNat=((2 ^ k:Nat):Int):=by simp
  rw[this];exact q'
 have e:cE 107#0 (cs.map nD)=((cs.map fun o=>2 ^ o).map fun(x:Nat)=>(x:Int)).map D.int:=by
  rw[de,de,de];rfl
 rw[e] at c;refine yy (d:=nD (yo cs)) (fun G2 e2 R' q'=>c G2 e2 _ ⟨_,rfl,by simp only[cg];omega,fun a ha=>by
   obtain⟨b,hb,rfl⟩:=cx.mp ha;obtain⟨o,ho',rfl⟩:=cx.mp hb;have:=hcx o ho';have h2:2 ^ o<=2 ^ 9:=et 1#0 1#0;generalize 2 ^ o=z at h2 ⊢;omega,by rw[zJV];exact q'⟩) ?_
 sleep 12;generalize yo cs=W at h;clear c e;refine ye (zB9 (ds:=[]) 48#0 fun f hf=>?_);sleep 12;refine zAn (zFt (i:=1) (j:=((r.length+1:Nat):Int)) (zF yE (zF (zJg rfl) zM)) 1#0 ?_);rw[show(((r.length+1:Nat):Int)-1).toNat=r.length by omega,zIO];refine zAZ (fun i G'=>G'.m f=some ((wx r p W i).map uD)/\L3.Sub G G') ⟨zK,.new hf⟩ (fun u0 u0 u0=>trivial) ?_ ?_
 ·rintro i x hx G1 ⟨gf,sb⟩
  obtain⟨rfl,hi⟩:=zIP hx;sleep 12;refine yy (d:=nD 0) yE ?_;sleep 12;refine zFt (i:=((i+1:Nat):Int)) (j:=((r.length+1:Nat):Int)) (zF (zE rfl) (zF (zJg rfl) zM)) 1#0 ?_;rw[show(((r.length+1:Nat):Int)-((i+1:Nat):Int)).toNat=r.length-i by omega,zRR];have wl:=zDQ (p:=p) (W:=W) hr i 1#0;refine⟨fun j σ' G'=>σ'=[some (uD r),some (nD p),some (.adr l),some (nD W),some (.adr f),some (nD (i+1)),some (nD (mkW r (i+1) j)),none]/\G'.m f=some ((wx r p W i++zEa r p W (i+1) j).map uD)/\L3.Sub G G',⟨rfl,?_,sb⟩,fun u0 u0 u0 u0 u0=>trivial,?_,?_⟩
  ·show G1.m f=some ((wx r p W i++[]).map uD)
   rw[eW];exact gf
  ·rintro j x σ' G2 hx ⟨rfl,gf2,sb2⟩
   obtain⟨rfl,hj⟩:=zRS hx;sleep 12;have wr:=zGF (r:=r) (p:=p) (W:=W) (a:=i+1) (j:=j) 1#0;have t1:PuT (xB (zS (wu false) (zB 6) (zB 3))) [some (uD r),some (nD p),some (.adr l),some (nD W),some (.adr f),some (nD (i+1)),some (nD (mkW r (i+1) j)),some (nD (i+1+j))] G2 (decide (mkW r (i+1) j=W)):=zAI (zEi (x:=nD (mkW r (i+1) j)) (y:=nD W) (zE rfl) (zE rfl) rfl rfl (by rw[if_neg 13#0,zAu]));have tail:∀(E:yL) (G3:Gp),G3.m f=some ((wx r p W i++zEa r p W (i+1) (j+1)).map uD)->L3.Sub G G3->(∀ o7,E.nx [some (uD r),some (nD p),some (.adr l),some (nD W),some (.adr f),some (nD (i+1)),some (nD (mkW r (i+1) (j+1))),o7] G3) ->
     (xIf (xB (zS 46#0 (zB 7) 47#0)) (zn (zS 124#0 (zB 6) (zS 68#0 35#0 (zS yM (zB 0) (zB 7)))) (gN 6)) yC) E [some (uD r),some (nD p),some (.adr l),some (nD W),some (.adr f),some (nD (i+1)),some (nD (mkW r (i+1) j)),some (nD (i+1+j))] G3:=fun E G3 g3 s3 fin=>by
    have t2:PuT (xB (zS 46#0 (zB 7) 47#0)) [some (uD r),some (nD p),some (.adr l),some (nD W),some (.adr f),some (nD (i+1)),some (nD (mkW r (i+1) j)),some (nD (i+1+j))] G3 (decide (i+1+j<r.length)):=by
     have:=zDZ (g:=fun i j=>.bl (decide (i<j))) (zE (σ:=[some (uD r),some (nD p),some (.adr l),some (nD W),some (.adr f),some (nD (i+1)),some (nD (mkW r (i+1) j)),some (nD (i+1+j))]) (G:=G3) (i:=7) (d:=nD (i+1+j)) rfl) (zCk (ps:=r) (zE (i:=0) rfl));have e:decide ((((i+1+j:Nat)):Int)<(r.length:Int))=decide (i+1+j<r.length):=by rw[cV];simp only[decide_eq_true_eq];omega
     rw[<-e];exact zAI this
    refine ifB t2 (fun hb=>?_) fun hb=>?_
    ·have hlt:=of_decide_eq_true hb
     have hx9:r.getD (i+1+j) 0<=9:=by
      have:r.getD (i+1+j) 0=r[i+1+j]:=by simp[dA,hlt]
      rw[this];exact hrx _ (ec _)
     refine zR5 (d:=nD (mkW r (i+1) j ^^^ 2 ^ (r.getD (i+1+j) 0))) (zLk (zE rfl) (yW (x:=.int 1) (y:=nD (r.getD (i+1+j) 0)) yE (zH2 (ps:=r) (zE rfl) (zE rfl) hlt) fun u0 u0 u0 q'=>⟨⟨by omega,by omega,by decide⟩,?_⟩)) ?_
     ·dsimp only
      have:(1:Int)*2 ^ (((r.getD (i+1+j) 0:Nat):Int)).toNat=((2 ^ (r.getD (i+1+j) 0):Nat):Int):=by simp
      rw[this];exact q'
     ·sleep 12
      rw[<-zJY hlt];exact fin _
    ·have hge:=of_decide_eq_false hb
     have:=fin (some (nD (i+1+j)));rw[zRI 1#0] at this;exact this
   refine zRT t1 (fun hb=>?_) fun hb=>?_
   ·have hW:=of_decide_eq_true hb
    refine zIG (zLu (l:=f) (zE rfl) gf2 (yB (d:=uD (zEZ r p (i+1) (i+1+j))) (zRQ rfl rfl (zE rfl) (zE rfl) 1#0 1#0 1#0) (yl ⟨_,gf2,by rw[cg,cD];omega,?_⟩)));refine tail _ _ ?_ (sb2.put hf) fun o7=>?_
    ·rw[zK,zCq,if_pos hW,<-cL]
     simp only[dP,dq,List.map_nil]
    ·refine⟨_,_,.keep (.keep (.keep (.keep (.keep (.keep (.keep (.skip .nil))))))),.refl _,rfl,?_,sb2.put hf⟩
     rw[zK,zCq,if_pos hW,<-cL];simp only[dP,dq,List.map_nil]
   ·have hW:=of_decide_eq_false hb
    refine tail _ _ ?_ sb2 fun o7=>?_
    ·rw[zCq,if_neg hW,eW];exact gf2
    ·refine⟨_,_,.keep (.keep (.keep (.keep (.keep (.keep (.keep (.skip .nil))))))),.refl _,rfl,?_,sb2⟩
     rw[zCq,if_neg hW,eW];exact gf2
  ·rintro σ' G2 ⟨rfl,gf2,sb2⟩
   rw[cg,cX] at gf2;exact⟨.keep (.keep (.keep 108#0)),G2,.refl _,gf2,sb2⟩
 ·rintro G1 ⟨gf,sb⟩
  rw[cg,cX] at gf;show FgR R (.adr f) G1;refine⟨za G f ((wch r p W).map uD),115#0,h f hf⟩;by_cases ha:a=f
  ·subst ha;rw[zK] at e;cases e;exact gf
  ·rw[ze ha] at e;exact sb.m a o e
theorem zNE(h:zd t σ G d)(hs:zFh G d ds):PuI (iV t) σ G ds:=by
 cases d with
 | tup xs =>
  have e:xs=ds:=hs;subst e;exact zCf h
 | adr l=>exact wS h hs
 | _=>exact hs.elim
noncomputable def zy:List D->Gp->100#0->Prop:=fun ds G R=>∃(n:Nat) (q:25#0) (i:Nat) (os:42#0) (d:D),ds=[zQ n q,nD i,d]/\zFh G d (os.map nD)/\i<n/\(∀ x∈os,x<n)/\R ((os.filter (yS q i)).map nD) G
theorem zAU:∀ ds G R R',62#0->zy ds G R->zy ds G R':=by
 rintro ds G R R' h ⟨n,q,i,os,d,e,hs,h1,h2,q'⟩;exact⟨n,q,i,os,d,e,hs,h1,h2,h _ _ q'⟩
noncomputable def zAg:yN:=(zi (zf (zr (iV (zB 2)) wd (xB (zH wg (zA (zB 0) (zA (zB 1) 73#0)))) (zB 3))))
theorem zIX(ds:List D)(G:Gp)(R:Q2)(h:spL zy ds G R):ds.length=3/\zAg (zZ R) (zN ["web","place","others"] ds) G:=by
 obtain⟨n,q,i,os,d,rfl,hs,hi,ho,h⟩:=h;refine⟨rfl,?_⟩;unfold zAg zi zf;have c:=wL (σ:=zN ["web","place","others"] [zQ n q,nD i,d]) (G:=G) (bd:=wd) (tc:=(xB (zH wg (zA (zB 0) (zA (zB 1) 73#0))))) (te:=zB 3) 109#0 (fun d=>d) (fun d=>[d]) (zNE (zE (i:=2) (d:=d) rfl) hs) fun x hx=>by
  obtain⟨k,hk,rfl⟩:=cx.mp hx;exact⟨rfl,zAI 144#0,fun u0=>zE rfl⟩
 have e:cE (fun d=>d) (List.filter 109#0 (os.map nD))=(os.filter (yS q i)).map nD:=by
  rw[List.map_id',fo];rfl
 rw[e] at c;exact c G (.refl G) _ fun l hl=>FgR.of (h l hl)
theorem zJh(h:r.length<=20):(wch r p W).length<=420:=by
 have:=zDQ (p:=p) (W:=W) h r.length (cr _);show(wx r p W r.length).length<=420;omega
noncomputable def yR:List D->Gp->100#0->Prop:=fun ds G R=>∃(rs:List (List Nat)) (cs:42#0) (p:Nat) (lr lc:Addr),ds=[.adr lr,nD p,.adr lc]/\Ls G lr (rs.map uD)/\Ls G lc (cs.map nD)/\(∀ r∈rs,r.length<=20/\∀ x∈r,x<=9)/\(∀ x∈cs,x<=9)/\cs.length<=9/\rs.length<=1000/\R ((rs.flatMap fun r=>wch r p (yo cs)).map uD) G
theorem zCw:∀ ds G R R',62#0->yR ds G R->yR ds G R':=by
 rintro ds G R R' h ⟨rs,cs,p,lr,lc,e,h1,h2,h3,h4,h5,h6,q⟩;exact⟨rs,cs,p,lr,lc,e,h1,h2,h3,h4,h5,h6,h _ _ q⟩
noncomputable def wB:yN:=(zU (zn (zf (wE zG)) (gN 3)) (zU (yq (iV (zB 0)) (gN 4) (wH (zN0 (zB 3) (zg yT (zA (zB 4) (zA (zB 1) 95#0)))))) (zi (zB 3))))
theorem zNF{rs:List (List Nat)}{g:List Nat->List (List Nat)}{k:Nat}{r:42#0}(h:rs[k]?=some r):((rs.take (k+1)).flatMap g).map uD=((rs.take k).flatMap g).map uD++(g r).map uD:=by
 rw[yI h,List.flatMap_append,dP];congr 1;simp
theorem zEc(ds:List D)(G:Gp)(R:Q2)(h:spL yR ds G R):ds.length=3/\wB (zZ R) (zN ["rings","place","crossed","longer","ring"] ds) G:=by
 obtain⟨rs,cs,p,lr,lc,rfl,hlr,hlc,hrs,hcx,hcl,hrl,h⟩:=h;refine⟨rfl,?_⟩;unfold wB;rw[show zN ["rings","place","crossed","longer","ring"] [.adr lr,nD p,.adr lc]=[some (.adr lr),some (nD p),some (.adr lc),none,none] from rfl];refine ye (zB9 (ds:=[]) 48#0 fun f hf=>?_);sleep 12;refine zAn (zCL (show iV _ _ _ _ from(zE (i:=0) (d:=.adr lr) rfl) _ (.refl _) _ ⟨rs.map uD,hlr.sub (.new hf),?_⟩));refine zAZ (fun k G'=>G'.m f=some (((rs.take k).flatMap fun r=>wch r p (yo cs)).map uD)/\L3.Sub G G') ⟨zK,.new hf⟩ (fun k G' ⟨_,sb⟩=>hlr.sub sb) ?_ ?_
 ·rintro k x hx G1 ⟨gf,sb⟩
  obtain⟨r,hr,rfl⟩:=zCa hx;obtain⟨r1,r2⟩:=hrs r (cW hr);sleep 12;have b1:=zJh (p:=p) (W:=yo cs) r1;have b2:=zGG (f:=fun r=>wch r p (yo cs)) (c:=420) (rs.take k) fun r hr=>zJh (hrs r (eK hr)).1;have b3:(rs.take k).length<=1000:=by rw[cS];omega
  refine zIG (zLK (i:=3) (l:=f) (zs:=(wch r p (yo cs)).map uD) rfl gf (fun Q q'=>wA (yB (zE rfl) (yB (zE rfl) (yB (zE rfl) (yl ⟨r,cs,p,lc,rfl,hlc.sub sb,r1,r2,hcx,hcl,q'⟩))))) (by rw[cg,cg];omega) ?_);refine⟨.keep (.keep (.keep (.keep (.skip .nil)))),_,.refl _,?_,sb.put hf⟩;rw[zK,zNF hr]
 ·rintro G1 ⟨gf,sb⟩
  rw[cg,eH] at gf;show FgR R (.adr f) G1;refine⟨za G f ((rs.flatMap fun r=>wch r p (yo cs)).map uD),115#0,h f hf⟩;by_cases ha:a=f
  ·subst ha;rw[zK] at e;cases e;exact gf
  ·rw[ze ha] at e;exact sb.m a o e
noncomputable def zAV(n:Nat)(q:25#0):List (List Int):=(rgs q (n-1)).map fun r=>yG (uI r)
noncomputable def zm:List D->Gp->100#0->Prop:=fun ds G R=>∃(n:Nat) (q:25#0),ds=[zQ n q]/\1<=n/\n<=5/\∀ m:List (List Int),m.Nodup->(∀ x,x∈m↔x∈zAV n q)->m.Pairwise 38#0->R (m.map tI) G
theorem wq:∀ ds G R R',62#0->zm ds G R->zm ds G R':=by
 rintro ds G R R' h ⟨n,q,e,h1,h5,k⟩;exact⟨n,q,e,h1,h5,fun m a b c=>h _ _ (k m a b c)⟩
theorem zPY{n:Nat}{q:25#0}{m m':30#0}(h:m.Nodup)(h':m'.Nodup)(e:∀ x,x∈m↔x∈zAV n q)(e':∀ x,x∈m'↔x∈zAV n q)(s:m.Pairwise 38#0)(s':m'.Pairwise 38#0):m=m' :=
 eX.eq_of_pairwise (fun a b u0 u0 x y=>zFH _ _ y x) s s' ((List.perm_ext_iff_of_nodup h h').mpr fun x=>(e x).trans (e' x).symm)
theorem zJi(h:n<=5):(zAV n q).length<=2880:=by
 unfold zAV;rw[cg];exact zM1 q 1#0
theorem zLv:∀ x∈zAV n q,x≠[]:=fun x hx z=>by
 obtain⟨r,hr,rfl⟩:=cx.mp hx;have h1:=zEm (uI r) (uI r).length;have h2:=(zDM q (n-1) r hr).1;have h3:(yG (uI r)).length=0:=by rw[z];rfl
 have h4:(yG (uI r)).length=(uI r).length:=h1;have h5:(uI r).length=r.length:=cg _;omega
theorem zRU(r:42#0):uD r=tupI (uI r):=by
 show D.tup (r.map nD)=D.tup ((uI r).map D.int);unfold uI;rw[de];rfl
theorem zRV(hs:sp=zx)(h1:look σ 1=some (.adr l))(hk:∀ d:D,look (σ++[some d]) k=some d)(hl:Ls G l ((rgs q (n-1)).map uD))(h5:n<=5):PuL (zr (iV (zB 1)) wd zBO (zH sp (zA (zB k) zG))) σ G ((zAV n q).map tI):=by
 have m:=zEN (σ:=σ) (G:=G) (bd:=wd) (te:=zH sp (zA (zB k) zG)) (fun d=>match d with | .tup xs=>tupI (yG (xs.map fun d=>match d with | .int v=>v | _=>0)) | _=>.non) (fun d=>[d]) (wS (zE h1) hl) fun x hx=>by
  obtain⟨r,hr,rfl⟩:=cx.mp hx;refine⟨rfl,?_⟩;have e:cE (fun d=>match d with | D.int v=>v | _=>0) (r.map nD)=uI r:=by
   rw[de];rfl
  show zd _ _ _ (tupI (yG (cE (fun d=>match d with | D.int v=>v | _=>0) (r.map nD))));rw[e];have h2:=(zDM q (n-1) r hr).1;have h3:(uI r).length=r.length:=cg _;refine zGD hs ?_ 1#0;rw[<-zRU];exact zE (hk (uD r))
 have e:cE (fun d=>match d with | .tup xs=>tupI (yG (xs.map fun d=>match d with | .int v=>v | _=>0)) | _=>.non) ((rgs q (n-1)).map uD)=(zAV n q).map tI:=by
  unfold zAV;rw[de,de];refine dL fun r u0=>?_;show tupI (yG (cE (fun d=>match d with | D.int v=>v | _=>0) (r.map nD)))=tI (yG (uI r));rw[de];rfl
 rw[e] at m;exact m
theorem zPZ(c:PuL tl σ G' ((zAV n q).map tI))(h5:n<=5)(sb:L3.Sub G G')
  (h:∀ m:List (List Int),m.Nodup->(∀ x,x∈m↔x∈zAV n q)->m.Pairwise 38#0->∀ l,G.m l=none->R (.adr l) (za G l (m.map tI))):zi (zf (zTZ tl)) (zZ R) σ G':=by
 refine c G' (.refl _) _ ⟨zAV n q,rfl,by have:=zJi (q:=q) h5;omega,zLv,fun m a1 a2 a3 l hl=>?_⟩;refine⟨za G l (m.map tI),115#0,h m a1 a2 a3 l (zAz sb hl)⟩;by_cases ha:a=l
 ·subst ha;rw[zK] at e;cases e;exact zK
 ·rw[ze ha] at e;rw[ze ha];exact sb.m a o e
theorem zTa(h:i<=4):∀ r∈rgs q i,r.length<=20/\∀ x∈r,x<=9:=fun r hr=>by
 obtain⟨h1,h2⟩:=zDM q i r hr;exact⟨by omega,fun x hx=>by have:=h2 x hx;omega⟩
theorem zPa(q:25#0)(h:i<=3):(rgs q i).length<=1000:=by
 refine dF (zIS q i) ?_
 match i,h with
 | 0,_=>decide
 | 1,_=>decide
 | 2,_=>decide
 | 3,_=>decide
theorem zTb:∀ x∈nrQ q p,x<p:=fun x hx=>cz.mp (cQ.mp hx).1
theorem zRW:(nrQ q p).length<=p:=by
 have:=dX (yS q p) (cf p);rw[cX] at this;exact this
noncomputable def zBF:yN:=(zU (wH (zH wp (zA 24#0 (zA (xC (.int 5)) zG)))) (zU (zn (zf (wE (zA (yU (zA 32#0 (zA 32#0 zG))) zG))) (gN 1)) (zU (yq (iR2 (zA 35#0 (zA 24#0 zG))) (gN 2) (zn (zf (zg yR (zA (zB 1) (zA (zB 2) (zA (zf (zg zy (zA (zB 0) (zA (zB 2) (zA (zIy 95#0) zG))))) zG))))) (gN 1))) (zi (zf (zTZ (zr (iV (zB 1)) wd zBO (zH zx 73#0))))))))
theorem zJj(ds:List D)(G:Gp)(R:Q2)(h:spL zm ds G R):ds.length=1/\zBF (zZ R) (zN ["web","rings","place"] ds) G:=by
 obtain⟨n,q,rfl,h1,h5,h⟩:=h;refine⟨rfl,?_⟩;unfold zBF;rw[show zN ["web","rings","place"] [zQ n q]=[some (zQ n q),none,none] from rfl];refine(show zU (wH _) _ _ _ _ from zDH (ds:=[nD n,nD 5]) (zF (zB8 (q:=q) (zE rfl)) (zF yE zM)) ⟨n,5,rfl,h5,?_⟩);refine ye (zB9 (ds:=[uD [0,0]]) (fun G2 e R q=>zCO (zF (zBh (zF yE (zF yE zM)) 13#0) zM G2 e _ ⟨by rw[sizeLine_eq];simp,q⟩)) fun f hf=>?_);sleep 12;refine zAn (zFt (i:=1) (j:=n) (zF yE (zF (zB8 (q:=q) (zE rfl)) zM)) 1#0 ?_);rw[show((n:Int)-1).toNat=n-1 by omega,zIO];refine⟨fun i σ' G'=>∃ l,σ'=[some (zQ n q),some (.adr l),none]/\G.m l=none/\G'.m l=some ((rgs q i).map uD)/\L3.Sub G G',⟨f,rfl,hf,zK,.new hf⟩,fun u0 u0 u0 u0 u0=>trivial,?_,?_⟩
 ·rintro i x σ' G' hx ⟨l,rfl,hl,hg,sb⟩
  obtain⟨rfl,hi⟩:=zIP hx;sleep 12;refine zPI (zBX (wA (yB (d:=.adr l) (zE rfl) (yB (d:=nD (i+1)) (zE rfl) (zCM (zBX (wA (yB (d:=zQ n q) (zE rfl) (yB (d:=nD (i+1)) (zE rfl) (yB (d:=uD (cf (i+1))) (zQl (zE rfl) 1#0) (yl ⟨n,q,i+1,cf (i+1),uD (cf (i+1)),rfl,rfl,by omega,?_,fun lc hlc=>?_⟩)))))))))))
  ·intro x hx
   have:=cz.mp hx;omega
  have nl:l≠lc:=fun z=>by rw[z] at hg;rw[hg] at hlc;cases hlc
  have sb2:L3.Sub G (za G' lc ((nrQ q (i+1)).map nD)):=sb.trans (.new hlc);refine yl ⟨rgs q i,nrQ q (i+1),i+1,l,lc,rfl,.inl (by rw[ze nl];exact hg),.own,zTa 1#0,fun x hx=>eY (d7 (zTb x hx) 1#0),dF zRW 1#0,zPa q 1#0,fun l' hl'=>?_⟩;sleep 12;exact⟨[some (zQ n q),some (.adr l'),none],_,.keep (.keep (.skip .nil)),.refl _,l',rfl,zAz sb2 hl',zK,sb2.put (zAz sb2 hl')⟩
 ·rintro σ' G' ⟨l,rfl,hl,hg,sb⟩
  rw[cg,cX] at hg;exact zPZ (zRV (k:=3) (σ:=[some (zQ n q),some (.adr l),none]) rfl rfl (fun u0=>rfl) (.inl hg) h5) h5 sb h
end K
namespace K
open L3
theorem zHT(q:25#0):∀ i,∀ r∈rgs q i,zw q (cf (i+1)) r
 | 0,r,h=>by
  rw[rgs,cq] at h;subst h;exact zJe q 0
 | i+1,r,h=>by
  obtain⟨s,hs,h⟩:=List.mem_flatMap.mp (show r∈(rgs q i).flatMap _ from h);rw[fm];exact((zHT q i s hs).put 13#0 fe h).1
theorem zJk(q:25#0):∀ i t,zw q (cf (i+1)) (0::t)->0::t∈rgs q i
 | 0,t,h=>by
  have hl:=h.ring.len;have h1:=h.two (x:=0) 13#0
  match t,hl with
  | [a],_ =>
   have:a<1:=h.ring.mem.mp 13#0;obtain rfl:a=0:=by omega
   exact cq.mpr rfl
 | i+1,t,h=>by
  rw[fm] at h;have hc:=h.cut 13#0 fe 1#0;refine List.mem_flatMap.mpr ⟨_,?_,hc⟩;have T:=h.sub (T:=cf (i+1)) fun x hx=>e9 _ hx;have e:(0::t).filter (fun x=>decide (x≠i+1))=(0::t).filter fun x=>decide (x∈cf (i+1)):=by
   refine fk fun x hx=>?_;have:=h.mem.mp hx;simp only[cG,cz,cq] at this;rw[cV];simp only[decide_eq_true_eq,cz];omega
  have e2:(0::t).filter (fun x=>decide (x∈cf (i+1)))=0::t.filter fun x=>decide (x∈cf (i+1)):=List.filter_cons_of_pos 13#0;rw[e,e2];rw[e2] at T;exact zJk q i _ T
theorem zIY(A B:List α):Sim (A++B) (B++A):=⟨A.length,by simp,.inl (zFP A B).symm⟩
theorem zLw(l:List α):Sim l l.reverse:=⟨0,dG _,.inr (zGB _).symm⟩
noncomputable abbrev LL(w:42#0):List Int:=yG (uI w)
theorem zKp(h:Sim w w'):LL w=LL w':=zDN (h.map _)
theorem zKq:∀ {w w':42#0},uI w=uI w'->w=w'
 | [],[],_=>rfl
 | [],_::_,h=>by cases h
 | _::_,[],h=>by cases h
 | a::w,b::w',h=>by
  obtain⟨h1,h2⟩:=List.cons.inj (show(a:Int)::uI w=(b:Int)::uI w' from h);rw[zKq h2,Int.ofNat.inj h1]
theorem zKr(h:Sim (uI w) (uI w')):Sim w w':=by
 obtain⟨k,hk,h | h⟩:=h
 ·refine⟨k,by simpa[uI] using hk,.inl (zKq ?_)⟩
  rw[h];exact(zBw _ w k).symm
 ·refine⟨k,by simpa[uI] using hk,.inr (zKq ?_)⟩
  rw[h];unfold uI;rw[zBw,List.map_reverse]
theorem zTc(h:LL w=LL w'):Sim w w':=by
 refine zKr ((zAl (uI w)).trans ?_);rw[show yG (uI w)=yG (uI w') from h];exact(zAl (uI w')).symm
theorem zw.sim(h:zw q (cf n) w)(s:Sim w w'):zw q (cf n) w':=by
 refine zLp (q:=q) (s.ring h.ring) fun p hp=>?_;obtain⟨i,j⟩:=p;obtain⟨h1,h2⟩:=yx.mp hp;dsimp only at h1 h2;have e:zc w' (i,j)=zc w (i,j):=by
  obtain⟨k,u0,rfl | rfl⟩:=s
  ·exact zHO h.ring hp k
  ·rw[zHO (n:=n) ((List.reverse_perm w).trans h.ring) hp k,zM3 h.ring hp]
 rw[e,h.crs i (cz.mpr 1#0) j (cz.mpr h2) 1#0];unfold yS;rw[eD 1#0,Nat.max_eq_right 1#0];simp;omega
theorem zCV(h1:1<=n):x∈zAV n q↔∃ w,zw q (cf n) w/\x=LL w:=by
 obtain⟨k,rfl⟩:∃ k,n=k+1:=⟨n-1,by omega⟩
 unfold zAV;rw[cx,show k+1-1=k from rfl];constructor
 ·rintro⟨r,hr,rfl⟩;exact⟨r,zHT q k r hr,rfl⟩
 ·rintro⟨w,hw,rfl⟩
  obtain⟨A,B,e⟩:=List.append_of_mem (hw.mem.mpr (show 0∈cf (k+1) by simp));rw[e] at hw ⊢;exact⟨0::B++A,zJk q k _ hw.rot,(zKp (zIY A (0::B))).symm⟩
theorem zNG(h1:1<=n)(h:x∈zAV n q):∃ w,zw q (cf n) w/\x=uI w/\yG x=x:=by
 obtain⟨w,hw,rfl⟩:=(zCV h1).mp h;obtain⟨r,e,s⟩:=zM2 w;refine⟨r,hw.sim s,e,?_⟩;exact(zDN (zAl (uI w))).symm
theorem zRX{α β:Type}{R:α->β->Prop}:∀ {m:List α} {m':List β},m.Nodup->(∀ x∈m,∃ y∈m',R x y)->(∀ x∈m,∀ x'∈m,∀ y,R x y->R x' y->x=x')->m.length<=m'.length:=by
 intro m m' nd h inj;obtain⟨f,hf⟩:∃ f:{ x // x∈m }->β,∀ x,f x∈m'/\R x.1 (f x):=⟨fun x=>Classical.choose (h x.1 x.2),fun x=>Classical.choose_spec (h x.1 x.2)⟩
 have nd2:(m.attach.map f).Nodup:=by
  have na:m.attach.Nodup:=by
   have:(m.attach.map Subtype.val).Nodup:=by rw[List.attach_map_subtype_val];exact nd
   exact(fi.mp this).imp fun ne e=>ne (by rw[e])
  refine fi.mpr (na.imp fun {a b} ne e=>ne (Subtype.ext (inj a.1 a.2 b.1 b.2 (f a) (hf a).2 (by rw[e];exact(hf b).2))))
 have:=nd2.length_le_of_subset (l₂:=m') fun y hy=>by
  obtain⟨x,u0,rfl⟩:=cx.mp hy;exact(hf x).1
 rw[cg,List.length_attach] at this;exact this
theorem zD7{n n':Nat}{q q':25#0}{m m':30#0}(h1:1<=n)(h1':1<=n')(nd:m.Nodup)(hm:∀ x,x∈m↔x∈zAV n q)(hm':∀ x,x∈m'↔x∈zAV n' q')(F:List Nat->List Nat->Prop)
  (hF:∀ w,zw q (cf n) w->∃ w',F w w'/\zw q' (cf n') w') (hS:∀ w1 w1' w2 w2',zw q (cf n) w1->zw q (cf n) w2->F w1 w1'->F w2 w2'->Sim w1' w2'->Sim w1 w2):m.length<=m'.length:=by
 refine zRX (R:=fun x y=>∃ w w',zw q (cf n) w/\F w w'/\x=LL w/\y=LL w') nd (fun x hx=>?_) ?_
 ·obtain⟨w,hw,rfl⟩:=(zCV h1).mp ((hm x).mp hx)
  obtain⟨w',f,hw'⟩:=hF w hw;exact⟨LL w',(hm' _).mpr ((zCV h1').mpr ⟨w',hw',rfl⟩),w,w',hw,f,rfl,rfl⟩
 ·rintro x u0 x' u0 y ⟨w1,w1',t1,f1,rfl,rfl⟩ ⟨w2,w2',t2,f2,rfl,e⟩
  exact zKp (hS w1 w1' w2 w2' t1 t2 f1 f2 (zTc e))
theorem zNH{n:Nat}{q:25#0}{od:42#0}{m m':30#0}(h1:1<=n)(hod:od.Perm (cf n))(nd:m.Nodup)(nd':m'.Nodup)(hm:∀ x,x∈m↔x∈zAV n q)(hm':∀ x,x∈m'↔x∈zAV od.length (zAt q od)):m'.length=m.length:=by
 have odn:od.Nodup:=hod.nodup_iff.mpr fe;have odln:od.length=n:=by rw[hod.length_eq,cX]
 have injN:∀ x∈od,∀ y∈od,nm od x=nm od y->x=y:=fun x hx y hy e=>by rw[<-zD3 hx,<-zD3 hy,e]
 have injG:∀ x,x<od.length->∀ y,y<od.length->od.getD x 0=od.getD y 0->x=y:=fun x hx y hy e=>by rw[<-zHP odn hx,<-zHP odn hy,e]
 refine Nat.le_antisymm ?_ ?_
 ·refine zD7 1#0 h1 nd' hm' hm (fun w w'=>w'=w.map fun k=>od.getD k 0) (fun w hw=>?_) ?_
  ·refine⟨_,rfl,?_⟩
   have:=hw.map (q':=q) (f:=fun k=>od.getD k 0) (fun x hx y hy e=>injG x (cz.mp hx) y (cz.mp hy) e) fun x hx y hy u0=>by rw[zDz]
   have e:(cf od.length).map (fun k=>od.getD k 0)=od:=by
    refine List.ext_getElem 13#0 fun i h1 h2=>?_;simp[dA,h2]
   rw[e] at this;exact this.congr fun x=>hod.mem_iff
  ·rintro w1 u0 w2 u0 t1 t2 rfl rfl s
   have:=s.map (nm od);have back:∀ w,zw (zAt q od) (cf od.length) w->(w.map fun k=>od.getD k 0).map (nm od)=w:=fun w hw=>by
    rw[de];refine(dL fun x hx=>?_).trans (List.map_id w);exact zHP odn (cz.mp (hw.mem.mp hx))
   rw[back _ t1,back _ t2] at this;exact this
 ·refine zD7 h1 1#0 nd hm hm' (fun w w'=>w'=w.map (nm od)) (fun w hw=>?_) ?_
  ·refine⟨_,rfl,?_⟩
   have:=(hw.congr fun x=>hod.mem_iff.symm).map (q':=zAt q od) (f:=nm od) injN fun x hx y hy u0=>by rw[zDz,zD3 hx,zD3 hy]
   rw[zPR odn] at this;exact this
  ·rintro w1 u0 w2 u0 t1 t2 rfl rfl s
   have:=s.map fun k=>od.getD k 0;have back:∀ w,zw q (cf n) w->(w.map (nm od)).map (fun k=>od.getD k 0)=w:=fun w hw=>by
    rw[de];refine(dL fun x hx=>?_).trans (List.map_id w);exact zD3 (hod.mem_iff.mpr (hw.mem.mp hx))
   rw[back _ t1,back _ t2] at this;exact this
noncomputable def zAJ(p:Nat)(w w':42#0):Prop:=∃ A B C,w=A++p::(B++p::C)/\w'=zA0 A B C p/\p∉A/\p∉B/\p∉C
theorem zHU(h:zAJ p w u)(h':zAJ p w v):u=v:=by
 obtain⟨A,B,C,rfl,rfl,hA,hB,hC⟩:=h;obtain⟨A',B',C',e,rfl,hA',hB',hC'⟩:=h';have spl:∀(X Y X' Y':42#0),p∉X->p∉X'->X++p::Y=X'++p::Y'->X=X'/\Y=Y':=by
  intro X
  induction X with
  | nil =>
   intro Y X' Y' u0 h' e;cases X' with
   | nil=>exact⟨rfl,(List.cons.inj e).2⟩
   | cons a t=>exact absurd (by rw[(List.cons.inj e).1];exact cK ..) h'
  | cons x X ih =>
   intro Y X' Y' h h' e;cases X' with
   | nil=>exact absurd (by rw[<-(List.cons.inj e).1];exact cK ..) h
   | cons a t =>
    obtain⟨e1,e2⟩:=List.cons.inj e;obtain⟨r1,r2⟩:=ih Y t Y' (fun z=>h (cJ _ z)) (fun z=>h' (cJ _ z)) e2;exact⟨by rw[e1,r1],r2⟩
 obtain⟨rfl,e2⟩:=spl _ _ _ _ hA hA' e;obtain⟨rfl,rfl⟩:=spl _ _ _ _ hB hB' e2;rfl
theorem zB0(h:zAJ p w u):zAJ p u w:=by
 obtain⟨A,B,C,rfl,rfl,hA,hB,hC⟩:=h;exact⟨A,B.reverse,C,rfl,by unfold zA0;rw[List.reverse_reverse],hA,fun z=>hB (ff.mp z),hC⟩
theorem zNI(h:zAJ p w u):zAJ p w.reverse u.reverse:=by
 obtain⟨A,B,C,rfl,rfl,hA,hB,hC⟩:=h;refine⟨C.reverse,B.reverse,A.reverse,by simp,?_,fun z=>hC (ff.mp z),fun z=>hB (ff.mp z),fun z=>hA (ff.mp z)⟩;unfold zA0;simp
theorem zNJ(h:zAJ p (x::t) u):∃ v,zAJ p (t++[x]) v/\Sim u v:=by
 obtain⟨A,B,C,e,rfl,hA,hB,hC⟩:=h;cases A with
 | nil =>
  obtain⟨rfl,rfl⟩:=List.cons.inj e;refine⟨zA0 B C [] x,⟨B,C,[],by simp,rfl,hB,hC,by simp⟩,?_⟩;unfold zA0;have s1:=zLw ([]++x::(B.reverse++x::C));have e1:([]++x::(B.reverse++x::C)).reverse=(C.reverse++[x])++(B++[x]):=by simp
  rw[e1] at s1;have s2:=zIY (C.reverse++[x]) (B++[x]);have e2:(B++[x])++(C.reverse++[x])=B++x::(C.reverse++x::[]):=by simp
  rw[e2] at s2;exact s1.trans s2
 | cons a A =>
  obtain⟨rfl,rfl⟩:=List.cons.inj e;have hx:p≠x:=fun z=>hA (by rw[z];exact cK ..);refine⟨zA0 A B (C++[x]) p,⟨A,B,C++[x],by simp,rfl,fun z=>hA (cJ _ z),hB,fun z=>?_⟩,?_⟩
  ·rcases cG.mp z with z | z
   ·exact hC z
   ·exact hx (cq.mp z)
  ·unfold zA0
   have s:=zIY [x] (A++p::(B.reverse++p::C));have e2:A++p::(B.reverse++p::C)++[x]=A++p::(B.reverse++p::(C++[x])):=by simp
   rw[e2] at s;exact s
theorem zHV:∀(X Y u:42#0),zAJ p (X++Y) u->∃ v,zAJ p (Y++X) v/\Sim u v
 | [],Y,u,h=>⟨u,by rw[eW];exact h,.refl u⟩
 | x::X,Y,u,h=>by
  obtain⟨v,hv,s⟩:=zNJ (x:=x) (t:=X++Y) h;rw[cL] at hv;obtain⟨v2,hv2,s2⟩:=zHV X (Y++[x]) v hv;rw[cL] at hv2;exact⟨v2,hv2,s.trans s2⟩
theorem zHW(h:zAJ p w u)(h':zAJ p w' u')(s:Sim w w'):Sim u u':=by
 have rot:∀(w:42#0) (k:Nat) (u:42#0),zAJ p w u->∃ v,zAJ p (wv w k) v/\Sim u v:=fun w k u h=>by
  unfold wv;rw[<-cU k w] at h;exact zHV _ _ u h
 obtain⟨k,u0,e | e⟩:=s
 ·obtain⟨v,hv,s⟩:=rot w k u h
  rw[<-e] at hv;rw[<-zHU hv h'];exact s
 ·obtain⟨v,hv,s⟩:=rot w.reverse k u.reverse (zNI h)
  rw[<-e] at hv;rw[<-zHU hv h'];exact(zLw u).trans s
theorem zKs{n p:Nat}{q:25#0}{m m':30#0}(hp:p<n)(nd:m.Nodup)(nd':m'.Nodup)(hm:∀ x,x∈m↔x∈zAV n q)(hm':∀ x,x∈m'↔x∈zAV n (tq q p)):m'.length=m.length:=by
 have mk:∀ {q:25#0} w,zw q (cf n) w->∃ w',zAJ p w w'/\zw (tq q p) (cf n) w':=fun {q} w hw=>by
  obtain⟨A,B,C,rfl,hA,hB,hC⟩:=zKN (hw.two (cz.mpr hp));exact⟨_,⟨A,B,C,rfl,rfl,hA,hB,hC⟩,hw.turn hA hB hC⟩
 refine Nat.le_antisymm ?_ ?_
 ·refine zD7 1#0 1#0 nd' hm' hm (zAJ p) (fun w hw=>?_) fun w1 w1' w2 w2' u0 u0 f1 f2 s=>zHW (zB0 f1) (zB0 f2) s
  obtain⟨w',f,hw'⟩:=mk w hw;exact⟨w',f,hw'.congrQ fun x u0 y u0 ne=>(zUS ne).symm⟩
 ·exact zD7 1#0 1#0 nd hm hm' (zAJ p) (fun w hw=>mk w hw) fun w1 w1' w2 w2' u0 u0 f1 f2 s=>zHW (zB0 f1) (zB0 f2) s
noncomputable def ixP(p:Nat×Nat):Nat:=p.1*(9-p.1) / 2+(p.2-p.1-1)
noncomputable def qOf(b:Nat)(p:Nat×Nat):Bool:=b.testBit (ixP p)
noncomputable def zUT(r r':42#0):Bool:=(cf 11).any fun k=>decide (r'=wv r k)||decide (r'=wv r.reverse k)
noncomputable def zUU(q:25#0):Bool:=match rgs q 4 with
 | []=>false
 | r::rs=>rs.all (zUT r)
noncomputable def zUV(q:25#0):Bool:=!zIQ 5 q||zUU q
theorem zRY:(cf 1024).all (fun b=>zUV (qOf b))=true:=by decide +kernel
theorem zPb:∀ p∈yk 5,∀ r∈yk 5,ixP p=ixP r->p=r:=by decide +kernel
theorem zUW:∀ p∈yk 5,ixP p<10:=by decide +kernel
theorem zRZ(q:25#0):∃ b,b<1024/\∀ p∈yk 5,qOf b p=q p:=by
 have nd:(((yk 5).filter q).map ixP).Nodup:=by
  have n0:((yk 5).filter q).Nodup:=(zG3 5).filter _;refine fi.mpr ((eA.and_mem.mp n0).imp fun {a b} ⟨ha,hb,ne⟩ e=>ne (zPb a (cQ.mp ha).1 b (cQ.mp hb).1 e))
 refine⟨yo (((yk 5).filter q).map ixP),?_,fun p hp=>?_⟩
 ·refine Nat.lt_pow_two_of_testBit (n:=10) _ fun i hi=>?_
  rw[zCr nd];refine decide_eq_false fun z=>?_;obtain⟨r,hr,rfl⟩:=cx.mp z;have:=zUW r (cQ.mp hr).1;omega
 ·unfold qOf
  rw[zCr nd,cV,decide_eq_true_eq,cx];constructor
  ·rintro⟨r,hr,e⟩
   obtain⟨h1,h2⟩:=cQ.mp hr;rw[<-zPb r h1 p hp e];exact h2
  ·intro h
   exact⟨p,cQ.mpr ⟨hp,h⟩,rfl⟩
theorem zPc(hl:r.length=10)(h:zUT r r'=true):Sim r r':=by
 obtain⟨k,hk,e⟩:=List.any_eq_true.mp h;have hk:=cz.mp hk;simp only[Bool.or_eq_true,decide_eq_true_eq] at e;exact⟨k,by omega,e⟩
end K
namespace HX
open HT
section
variable {prog:Program} {w:World} {A:Around} {R:Result->Shared->Prop} {I:Addr} {fp wr:List Addr} {n:Nat} {P:Nat->Value->Prop} {St:Nat->Heap->Prop}
structure zRa (prog:Program) (w:World) (A:Around) (P:Nat->Value->Prop) (bt:Nat->Nat->Bool) (wr:List Addr) (S:Addr) (Kp:Heap->Prop):Prop where
 cmp:∀ i j vi vj (s:Shared) (Q:12#0) (E:12#0),Kp s.heap->P i vi->P j vj->Q (.bool (bt i j)) s->wpAny 3#0 A (richCompare .Gt vi vj) Q E s
 keep:∀ h h':Heap,Kp h->(∀ b o,b∉wr->b≠S->h.get? b=some o->h'.get? b=some o)->Kp h'
theorem zPd(W:Walks prog w A.in1 I fp wr n P St)(bt:Nat->Nat->Bool)(S:Addr)(C  :zRa prog w A.in1 P bt wr S Kp)(hSf:S∉fp) :
  ∀(k j:Nat) (s:Shared) (vb:Value) (c:Nat),n-(j+1)=k->j+1<=n->St (j+1) s.heap->Kp s.heap->P (argBest bt j) vb ->
  s.heap.get? S=some { cls:=.type "list",dict:=none,data:=.seq #[vb,vb] c,slots:=#[] } ->
  (∀ v h' tk,P (argBest bt (n-1)) v->99#0->R (.ok (.ret v)) { s with heap:=h',toks:=tk }) ->
  codeAny 3#0 A (.builtin "max.loop" ⟨[.ref I,.none,.ref S],[]⟩) R s:=by
 have nw:S∉wr:=fun h=>hSf (W.sub _ h);have nm:(toString "max"++toString ".loop":String)="max.loop":=by decide
 intro k
 induction k with
 | zero =>
  intro j s vb c hk hj st kp pb hS fin;have hin:j+1=n:=by omega
  sleep 54;sleep 3;sleep 38;exact fin vb _ tk (by rw[<-hin];exact pb) fun b o h1 h2 e=>(cT _ _ (Ne.symm h2)).trans (hk' b o h1 e)
 | succ k ih =>
  intro j s vb c hk hj st kp pb hS fin;have lt:j+1<n:=by omega
  sleep 54;sleep 3;refine bW (fS (W.item (j+1) s _ _ lt st fun v h' tk pv st' hk'=>?_));have hS':=hk' S _ nw hS;have kp':Kp h':=C.keep _ _ kp fun b o h1 u0 e=>hk' b o h1 e;show wpAny _ A.in1 (tryCatch (holding [v,v] (richCompare .Gt v vb>>=_)) _>>=_) _ _ _;refine bW (fS (df (bW (C.cmp (j+1) (argBest bt j) v vb _ _ _ kp' pv pb ?_))));refine bW (df (eZ ?_));refine bW (wpAny_letGo (cc ?_));cases hb:bt (j+1) (argBest bt j) with
  | true =>
   simp only[if_true];refine bW ?_;refine eP hS' rfl (bW (wpAny_letGo ?_));rw[nm];refine cc ⟨plainId_quiet PySem.F.plain_max_loop _,ih (j+1) _ v _ 1#0 lt (W.frame _ _ _ st' fun b hbf o e=>?_) (C.keep _ _ kp' fun b o u0 h2 e=>(cT _ _ (Ne.symm h2)).trans e) (by simp only[argBest,hb,if_true];exact pv) (dk _ hS' rfl)
    fun v' h'' tk'' pv' hk''=>?_⟩
   ·sleep 55
   ·exact fin v' h'' tk'' pv' fun b o h1 h2 e=>hk'' b o h1 h2 ((cT _ _ (Ne.symm h2)).trans (hk' b o h1 e))
  | false =>
   simp only[bX,if_false];refine bW (wpAny_letGo ?_);rw[nm];refine cc ⟨plainId_quiet PySem.F.plain_max_loop _,ih (j+1) _ vb c 1#0 lt st' kp' (by simp only[argBest,hb,bX,if_false];exact pb) hS' fun v' h'' tk'' pv' hk''=>?_⟩;exact fin v' h'' tk'' pv' fun b o h1 h2 e=>hk'' b o h1 h2 (hk' b o h1 e)
theorem zNK(W:Walks prog w A.in1 I fp wr n P St)(bt:Nat->Nat->Bool)(S:Addr)(C  :zRa prog w A.in1 P bt wr S Kp)(hSf:S∉fp)(hn:0<n)(st:St 0 s.heap)(kp:Kp s.heap)
  (hS:s.heap.get? S=some { cls:=.type "list",dict:=none,data:=.seq #[] c,slots:=#[] })
  (fin:∀ v h' tk,P (argBest bt (n-1)) v->99#0->R (.ok (.ret v)) { s with heap:=h',toks:=tk }) :
  codeAny 3#0 A (.builtin "max.loop" ⟨[.ref I,.none,.ref S],[]⟩) R s:=by
 have nw:S∉wr:=fun h=>hSf (W.sub _ h);have nm:(toString "max"++toString ".loop":String)="max.loop":=by decide
 sleep 54;sleep 3;sleep 42;refine cc ⟨plainId_quiet PySem.F.plain_max_loop _,zPd W bt S C hSf _ 0 _ v _ rfl hn (W.frame _ _ _ st' fun b hbf o e=>?_) (C.keep _ _ kp fun b o h1 h2 e=>(cT _ _ (Ne.symm h2)).trans (hk' b o h1 e)) pv (dk _ hS' rfl) fun v' h'' tk'' pv' hk''=>?_⟩
 ·sleep 55
 ·exact fin v' h'' tk'' pv' fun b o h1 h2 e=>hk'' b o h1 h2 ((cT _ _ (Ne.symm h2)).trans (hk' b o h1 e))
end
section
variable {prog:Program} {w:World} {A:Around} {E:Value->Shared->Prop} {s:Shared}
noncomputable def gtT(nss:30#0)(i j:Nat):Bool:=lexLt (nss.getD j []) (nss.getD i [])
theorem zNL(hu:A.units<cLine)(h1:∀ a∈as,a∉wr)(h2:S∉as) :
  zRa prog w A (fun i v=>(as.map Value.ref)[i]?=some v) (gtT nss) wr S (fun h=>zAR h as nss) where
 cmp:=fun i j vi vj s Q E kp pi pj q=>by
  have gi:∀ {i:Nat} {v:Value},(as.map Value.ref)[i]?=some v->∃ a,as[i]?=some a/\v=Value.ref a:=fun {i v} e=>by
   rw[cZ] at e;cases q:as[i]? with
   | none=>rw[q] at e;cases e
   | some a=>rw[q] at e;cases e;exact⟨a,rfl,rfl⟩
  obtain⟨a,ea,rfl⟩:=gi pi;obtain⟨b,eb,rfl⟩:=gi pj;have li:i<nss.length:=by rw[<-kp.1];exact(cu.mp ea).1
  have lj:j<nss.length:=by rw[<-kp.1];exact(cu.mp eb).1
  obtain⟨its,t1,i1⟩:=kp.2 i a nss[i] ea 13#0;obtain⟨its2,t2,i2⟩:=kp.2 j b nss[j] eb 13#0;have e:gtT nss i j=lexLt nss[j] nss[i]:=by simp[gtT,dA,li,lj]
  rw[e] at q;exact zKT t1 t2 i1 i2 hu q
 keep:=fun h h' kp k=>kp.keep fun a ha o e=>k a o (h1 a ha) (fun z=>h2 (z▸ha)) e
noncomputable def zUX(prog:Program)(w:World)(A:Around)(Q:12#0)(it:Value)(s₂:Shared):Prop:=∃ I fp wr n P St bt Kp,it=.ref I/\Walks prog w A.in1 I fp wr n P St/\St 0 s₂.heap/\(∀ b∈fp,b<s₂.heap.objs.size)/\0<n/\zRa prog w A.in1 P bt wr s₂.heap.objs.size Kp/\Kp s₂.heap /\
 ∀ v h' tk,P (argBest bt (n-1)) v->(∀ b o,b∉wr->s₂.heap.get? b=some o->h'.get? b=some o)->Q v { s₂ with heap:=h',toks:=tk }
theorem zPe{Q:12#0}{it:Value}{s₂:Shared}(h₂:zUX prog w A Q it s₂):wpAny 3#0 A.in1 (newList []>>=fun best=>again (.builtin "max.loop" ⟨[it,.none,best],[]⟩)) (fun fin s'=>match fin with | .done f=>wants Q E (.ok f) s' | .again c'=>c'.quiet=true/\codeAny 3#0 A c' (wants Q E) s') (fun e s'=>wants Q E (.error e) s') s₂:=by
 obtain⟨I,fp,wr,n,P,St,bt,Kp,rfl,W,hst,hfp,hn,C,kp,hQ⟩:=h₂;refine bW (d8 ?_);have hSf:s₂.heap.objs.size∉fp:=fun hm=>el _ (hfp _ hm);refine cc ⟨plainId_quiet PySem.F.plain_max_loop _,zNK W bt s₂.heap.objs.size C hSf hn (W.frame _ _ _ hst fun b u0 o e=>c9 _ e) (C.keep _ _ kp fun b o u0 u0 e=>c9 _ e) (cw _ rfl) fun v h' tk hP hk=>?_⟩;exact hQ v h' tk hP fun b o hbw e=>hk b o hbw (cR (cy e)) (c9 _ e)
theorem zNM(h:wpAny 3#0 A.in1 (pyIter x) (zUX prog w A Q) E s) :
  wpAny 3#0 A (call (.builtin "max") [x]) Q E s:=by
 have nm:(toString "max"++toString ".loop":String)="max.loop":=by decide
 refine call_function_tree PySem.F.kind_max PySem.F.plain_max PySem.F.entry_max (PySem.F.args_max1 _) ?_;show wpAny _ A.in1 (Builtin.Builtins.bindParams "max" ["key","default"] 0 ⟨[],[]⟩>>=_) _ _ s;refine bW (eT (show Builtin.Builtins.bindParams "max" ["key","default"] 0 ⟨[],[]⟩=pure [none,none] from rfl) ?_);refine bW (cc ?_);refine bW (wpAny_mono h (fun it s₂ h₂=>?_) fun u0 u0 e=>e);have:=zPe (E:=E) h₂;rw[nm];exact this
theorem max_list(hh:92#0)(hu:A.in1.units<cLine)(hl:s.heap.IsList l (as.map Value.ref).toArray)(hne:0<as.length)(ht:zAR s.heap as nss)
  (h:∀ h' tk v,(as.map Value.ref)[argBest (gtT nss) (as.length-1)]?=some v->(∀ d o,s.heap.get? d=some o->h'.get? d=some o)->Q v { s with heap:=h',toks:=tk }) :
  wpAny 3#0 A (call (.builtin "max") [.ref l]) Q E s:=by
 refine zNM (wpAny_pyIter_list hl ?_);have la:∀ x∈as,x<s.heap.objs.size:=ht.lt;have ll:l<s.heap.objs.size:=by obtain⟨o,e,u0⟩:=hl;exact cy e
 refine⟨_,[_,l],[_],_,_,_,gtT nss,fun h=>zAR h as nss,rfl,Walks.list (A:=A.in1) hh _ l (cR ll) (as.map Value.ref).toArray,
  ⟨⟨_,cw _ rfl,rfl,rfl⟩,hl.push _⟩,fun d hd=>?_,by simpa using hne,?_,ht.keep fun x hx o e=>c9 _ e,fun v h' tk hP hk=>?_⟩
 ·show d<(s.heap.push _).objs.size
  rw[er];rcases cY.mp hd with rfl | hd
  ·exact fR _
  ·rcases cY.mp hd with rfl | hd
   ·exact fI ll
   ·cases hd
 ·have:=zNL (prog:=prog) (w:=w) (A:=A.in1) (as:=as) (nss:=nss) (wr:=[s.heap.objs.size]) (S:=s.heap.objs.size+1) hu (fun x hx z=>by
   have h1:=la x hx;rw[cq] at z;rw[z] at h1;exact absurd h1 (el _)) (fun z=>absurd (la _ z) (Nat.not_lt.mpr (fB _)))
  refine 103#0;show b≠(s.heap.push _).objs.size;rw[er];exact h2
 ·have hold:∀ d o,s.heap.get? d=some o->h'.get? d=some o:=fun d o e=>by
   refine hk d o (fun hm=>?_) (c9 _ e);rcases cY.mp hm with e1 | hm
   ·have:=cy e;rw[e1] at this;exact el _ this
   ·cases hm
  exact h h' tk v (by simpa using hP) hold
end
end HX
namespace L3
open L2
section
variable {X:Cx} {a b c e o:Expr} {es:List Expr} {pos p:Pos} {ta tb te:zl} {tl:TL2}
theorem zNN(hc:85#0)(hu:X.A.units+10<cLine):wC X (.builtin "max") (fun xs H Q=>∃ l as nss,xs=[.ref l]/\SqL X.K H l (as.map V.ref)/\0<as.length/\zDo X.K H as nss/\∀ d,as[argBest (HX.gtT nss) (as.length-1)]?=some d->Q (.ref d) H):=by
 sleep 26;obtain⟨l,as,nss,rfl,hs,hp,ht,q⟩:=h;obtain⟨u,rfl,rx⟩:=vals1 r;cases rx;obtain⟨its,rv,pl,hzz⟩:=I.list hs;have:its=as.map Value.ref:=by
  clear hs pl hzz hp ht q
  induction as generalizing its with
  | nil=>cases rv;rfl
  | cons a as ih =>
   rw[dq] at rv;cases rv with
   | cons r1 r2=>cases r1;rw[ih _ r2];rfl
 subst this;refine HX.max_list (I.ok.hd hc) (by show X.A.in1.units<cLine;simp[Around.in1] at *;omega) pl.isList hp (ht.at I) fun h' tk v hv kp=>?_;rw[cZ] at hv;cases q':as[argBest (HX.gtT nss) (as.length-1)]? with
 | none=>rw[q'] at hv;cases hv
 | some d =>
  rw[q'] at hv;cases hv;exact⟨.ref d,H,I.kept (t':=tk) kp,rfl,q d q'⟩
noncomputable def zB1(nss:30#0):List Int:=nss.getD (argBest (HX.gtT nss) (nss.length-1)) []
noncomputable def zPf:wF:=fun ds G R=>∃ nss:List (List Int),ds=nss.map tupI/\0<nss.length/\R (tupI (zB1 nss)) G
theorem zDo.pickG{K:15#0}{H:Hp}{as:List Addr}{nss:30#0}(h:zDo K H as nss)(hp:0<nss.length){d:Addr}(hd:as[argBest (HX.gtT nss) (as.length-1)]?=some d):zR K H (tupI (zB1 nss)) (.ref d):=by
 rw[h.1] at hd;have hl:argBest (HX.gtT nss) (nss.length-1)<nss.length:=by have:=zBs (HX.gtT nss) (nss.length-1);omega
 refine zEj (h.2 _ d _ hd ?_);unfold zB1;simp[dA,hl]
theorem zTd(hr:yZ k X.A)(hc:85#0)(hg:Gl X "max")(hm:X.mg "max"=none)(ha:F2 X e tl)(he:4#0)(hpl:8#0) :
  E2 X (.Call (.Name "max" p) [e] [] pos) (zo zPf tl):=zFj (zNN hc 71#0) (by
   rintro ds G R l xs H Q ⟨nss,rfl,hp,h⟩ r e d k;obtain⟨as,rfl,ha⟩:=zES d;exact⟨l,as,nss,rfl,.of e,by rw[ha.1];exact hp,ha,fun d hd=>k _ G h _ H 130#0 r (ha.pickG hp hd)⟩) hg hm 5#0 ha 10#0 10#0 he hpl
end
end L3
namespace K
open L2 L3 HS
theorem zRb(h:WkE t σ G x)(h':zd u σ G y):WkE (yU (zA t (zA u zG))) σ G (.tup [x,y]):=fun G2 e R q=>h G2 e _ fun G3 e3=>h' G3 (e.trans e3) _ ⟨by rw[sizeLine_eq];simp,q G3 e3⟩
theorem zJl(h:0<nss.length):zB1 nss∈nss:=by
 unfold zB1;have hl:argBest (HX.gtT nss) (nss.length-1)<nss.length:=by have:=zBs (HX.gtT nss) (nss.length-1);omega
 simp[dA,hl]
noncomputable def zNO(n:Nat)(q:25#0)(os:42#0):List (List Int):=(oth n os).map fun j=>[((os.filter (yS q j)).length:Int),(j:Int)]
noncomputable def zAK(n:Nat)(q:25#0):Nat->List Nat
 | 0=>[]
 | k+1=>zAK n q k++[((zB1 (zNO n q (zAK n q k))).getD 1 0).toNat]
theorem zPg{n:Nat}{os:42#0}(h:os.length<n):∃ y,y∈oth n os:=by
 obtain⟨y,h1,h2⟩:=HT3.zCQ (P:=fun j=>j∈os) (M:=n) (l:=os) (fun j u0 hj=>hj) h;exact⟨y,cQ.mpr ⟨cz.mpr h1,by simp[h2]⟩⟩
theorem zHX{n:Nat}{q:25#0}{os:42#0}(h:os.length<n):∃ z,z∈oth n os/\zB1 (zNO n q os)=[((os.filter (yS q z)).length:Int),(z:Int)]:=by
 obtain⟨y,hy⟩:=zPg h;obtain⟨z,hz,hz2⟩:=cx.mp (zJl (nss:=zNO n q os) (by unfold zNO;rw[cg];exact List.length_pos_of_mem hy));exact⟨z,hz,hz2.symm⟩
theorem zD8:∀ k,k<=n->(zAK n q k).Nodup/\(zAK n q k).length=k/\∀ x∈zAK n q k,x<n
 | 0,_=>⟨List.nodup_nil,rfl,fun x hx=>by cases hx⟩
 | k+1,hk=>by
  obtain⟨h1,h2,h3⟩:=zD8 (n:=n) (q:=q) k 1#0;obtain⟨z,hz,e⟩:=zHX (n:=n) (q:=q) (os:=zAK n q k) 1#0;have e2:zAK n q (k+1)=zAK n q k++[z]:=by rw[zAK,e];rfl
  rw[e2];have hzo:z∉zAK n q k:=by
   have:=(cQ.mp hz).2;sleep 33
  refine⟨fK.mpr ⟨h1,by simp,fun a ha b hb e=>by rw[cq.mp hb] at e;exact hzo (by rw[<-e];exact ha)⟩,by rw[cD,h2];rfl,fun x hx=>?_⟩;sleep 30
  ·exact h3 x hx
  ·rw[cq.mp hx];exact zKj hz
theorem zJm(n:Nat)(q:25#0):Ord n (zAK n q n):=⟨(zD8 n (cr n)).1,(zD8 n (cr n)).2.1,(zD8 n (cr n)).2.2⟩
noncomputable def yi:List D->Gp->100#0->Prop:=fun ds G R=>∃(n:Nat) (q:25#0),ds=[zQ n q]/\1<=n/\n<=9/\R ((zAK n q n).map nD) G
theorem zE4:∀ ds G R R',62#0->yi ds G R->yi ds G R':=by
 rintro ds G R R' h ⟨n,q,e,h1,h9,k⟩;exact⟨n,q,e,h1,h9,h _ _ k⟩
noncomputable def zAh:yN:=(zU (zn (zf (wE zG)) (gN 1)) (zU (zLH (xB (zS 46#0 (zH zk 51#0) 24#0)) (zU (zCF 2 (zr (iR1 (zA 24#0 zG)) wd (xB (zS (fIn true) (zB 3) (zB 1))) (zB 3))) (wH (zHo (zB 1) (zA (zS yM (zo zPf (zr (iV (zB 2)) wd zBO (yU (zA (zH zk (zA (zf (zg zy (zA (zB 0) (zA (zB 3) 51#0)))) zG)) 73#0)))) 35#0) zG))))) (zi (zB 1))))
theorem zIZ(ds:List D)(G:Gp)(R:Q2)(h:spL yi ds G R):ds.length=1/\zAh (zZ R) (zN ["web","order","rest"] ds) G:=by
 obtain⟨n,q,rfl,h1,h9,h⟩:=h;refine⟨rfl,?_⟩;unfold zAh;rw[show zN ["web","order","rest"] [zQ n q]=[some (zQ n q),none,none] from rfl];refine ye (zB9 (ds:=[]) 48#0 fun l hl=>?_);sleep 12;refine Fg.of ⟨fun m σ G'=>∃(os:42#0) (o:Option D),σ=[some (zQ n q),some (.adr l),o]/\m+os.length=n/\os=zAK n q os.length/\G'.m l=some (os.map nD)/\L3.Sub G G',⟨n,[],none,rfl,rfl,rfl,zK,.new hl⟩,?_⟩;rintro m σ G1 ⟨os,o,rfl,hm,hos,g1,sb⟩;obtain⟨nd,u0,hlt⟩:=zD8 (n:=n) (q:=q) os.length 1#0;rw[<-hos] at nd hlt;have t0:=zDZ (g:=fun i j=>.bl (decide (i<j))) (zIL (t:=zB 1) (σ:=[some (zQ n q),some (.adr l),o]) (G:=G1) (a:=l) (zE rfl) (.inl g1)) (zB8 (n:=n) (q:=q) (zE (i:=0) rfl));refine zAI t0 G1 (.refl _) _ ?_;rw[cg];by_cases hd:os.length<n
 ·rw[decide_eq_true 1#0,if_pos rfl]
  have c:=wL (σ:=[some (zQ n q),some (.adr l),o]) (G:=G1) (bd:=wd) (tc:=(xB (zS (fIn true) (zB 3) (zB 1)))) (te:=zB 3) (fun d=>match d with | .int v=>!decide (v.toNat∈os) | _=>false) (fun d=>d) (fun d=>[d])
   (show PuI (iR1 (zA 24#0 zG)) _ _ ((cf n).map nD) by
    rw[<-wj];exact zBR (zF (zB8 (q:=q) (zE rfl)) zM) 1#0) fun x hx=>by
   obtain⟨j,u0,rfl⟩:=cx.mp hx;refine⟨rfl,zAI (yW (x:=nD j) (y:=.adr l) (zE rfl) (zE rfl) fun G2 e R q'=>⟨os.map nD,e.ls (.inl g1),rfl,zAr os,?_⟩),fun u0=>zE rfl⟩;rw[if_pos rfl,zKJ];exact q'
  have e:cE (fun d=>d) (List.filter (fun d=>match d with | .int v=>!decide (v.toNat∈os) | _=>false) ((cf n).map nD))=(oth n os).map nD:=by
   rw[List.map_id',fo];rfl
  rw[e] at c;refine zTN c fun lr hlr=>?_;simp only[bZ,bY];have nlr:l≠lr:=fun z=>by rw[z] at g1;rw[g1] at hlr;cases hlr
  have g2:(za G1 lr ((oth n os).map nD)).m l=some (os.map nD):=by rw[ze nlr];exact g1
  have g2r:Ls (za G1 lr ((oth n os).map nD)) lr ((oth n os).map nD):=.own;have sb2:L3.Sub G (za G1 lr ((oth n os).map nD)):=sb.trans (.new hlr);generalize za G1 lr ((oth n os).map nD)=G2 at g2 g2r sb2;obtain⟨y,hy⟩:∃ y,y∈oth n os:=by
   obtain⟨y,h1,h2⟩:=HT3.zCQ (P:=fun j=>j∈os) (M:=n) (l:=os) (fun j u0 hj=>hj) hd;exact⟨y,cQ.mpr ⟨cz.mpr h1,by simp[h2]⟩⟩
  have cm:=zPW (σ:=[some (zQ n q),some (.adr l),some (.adr lr)]) (G:=G2) (bd:=wd) (tc:=zBO) (te:=yU (zA (zH zk (zA (zf (zg zy (zA (zB 0) (zA (zB 3) 51#0)))) zG)) 73#0)) (fun u0=>true) (fun d=>match d with | .int v=>.tup [nD (os.filter (yS q v.toNat)).length,.int v] | _=>.non) (fun d=>[d]) (wS (zE (i:=2) (d:=.adr lr) rfl) g2r) fun x hx=>by
   obtain⟨j,hj,rfl⟩:=cx.mp hx;refine⟨rfl,fun G3 e R q'=>q' G3 (.refl _),fun u0=>zRb (x:=nD (os.filter (yS q j)).length) (y:=nD j) (fun G3 e R q'=>?_) (zE rfl)⟩;refine(show zH zk _ _ _ _ from zCM (zBX (wA (yB (d:=zQ n q) (zE rfl) (yB (d:=nD j) (zE rfl) (yB (d:=.adr l) (zE rfl) (yl ⟨n,q,j,os,.adr l,rfl,e.ls (.inl g2),zKj hj,hlt,fun lt hlt'=>?_⟩)))))));exact yl ⟨_,.own,by rw[cg];exact q' _ (.new hlt')⟩
  rw[List.filter_eq_self.mpr (fun u0 u0=>rfl)] at cm;have e2:cE (fun d=>match d with | .int v=>D.tup [nD (os.filter (yS q v.toNat)).length,.int v] | _=>.non) ((oth n os).map nD)=((oth n os).map fun j=>[((os.filter (yS q j)).length:Int),(j:Int)]).map tupI:=by
   rw[de,de];rfl
  rw[e2] at cm;have ln:0<((oth n os).map fun j=>[((os.filter (yS q j)).length:Int),(j:Int)]).length:=by
   rw[cg];exact List.length_pos_of_mem hy
  obtain⟨z,hz,hz2⟩:=zHX (q:=q) hd;have hz2:=hz2.symm;unfold zNO at hz2;have pz:zd (zS yM (zo zPf (zr (iV (zB 2)) wd zBO (yU (zA (zH zk (zA (zf (zg zy (zA (zB 0) (zA (zB 3) 51#0)))) zG)) 73#0)))) 35#0) [some (zQ n q),some (.adr l),some (.adr lr)] G2 (nD z):=by
   refine yW (x:=tupI [((os.filter (yS q z)).length:Int),(z:Int)]) (y:=.int 1) (fun G3 e R q'=>cm G3 e _ ⟨_,rfl,ln,?_⟩) yE fun u0 u0 u0 q'=>q';rw[<-hz2];exact q'
  refine zIG (zLu (l:=l) (zE rfl) g2 (yB pz (yl ⟨_,g2,by rw[cg];omega,?_⟩)));refine⟨[some (zQ n q),some (.adr l),none],_,.keep (.keep (.skip .nil)),.refl _,m-1,by omega,os++[z],none,rfl,by rw[cD];simp only[cb,ci];omega,?_,?_,sb2.put hl⟩
  ·rw[cD,show([z]:List Nat).length=1 from rfl,zAK,<-hos]
   unfold zNO;rw[<-hz2];rfl
  ·rw[zK,dP];rfl
 ·rw[decide_eq_false 1#0,if_neg 13#0]
  have hlen:os.length=n:=by
   have:os.length<=n:=by
    have:=nd.length_le_of_subset (l₂:=cf n) fun x hx=>cz.mpr (hlt x hx);rw[cX] at this;exact this
   omega
  show FgR R (.adr l) G1;rw[hlen] at hos;rw[<-hos] at h;refine⟨za G l (os.map nD),115#0,h l hl⟩;by_cases ha:a=l
  ·subst ha;rw[zK] at e;cases e;exact g1
  ·rw[ze ha] at e;exact sb.m a o e
theorem zKt(h:zd t σ G (.adr l))(h1:zd u σ G (.int i))(hl:Ls G l ds)(q:R (L3.cutD ds none (some i)) G):zH5 t yw (wJ u) σ G R:=h G (.refl G) _ (h1 G (.refl G) _ ⟨ds,hl,q⟩)
noncomputable def zD9:Option (List Nat)->D
 | none=>.non
 | some r=>uD r
noncomputable def zAL(d:Nat):wF:=fun ds G R=>∃(n:Nat) (q:25#0) (os:42#0) (k:Nat) (r:42#0) (lo:Addr),ds=[zQ n q,.adr lo,nD k,uD r]/\Ls G lo (os.map nD)/\os.length=n/\n<=7/\(∀ x∈os,x<n)/\1<=k/\k<=n/\n<d+k/\r.length=2*k/\(∀ x∈r,x<=9)/\R (zD9 (wo q os d k r)) G
theorem zPh(h:zAL 0 ds G R):False:=by
 obtain⟨n,q,os,k,r,lo,u0,u0,u0,u0,u0,u0,h1,h2,u0⟩:=h;omega
noncomputable def zFS(d:Nat):yN:=(zU (xIf (xB (zS (wu false) (zB 2) (zH zk 51#0))) (zi (zB 3)) yC) (zU (zn (zS yM (zB 1) (zB 2)) (gN 4)) (zU (yq (iF (zg yT (zA (zB 3) (zA (zB 4) (zA (zf (zg zy (zA (zB 0) (zA (zB 4) (zA (zf (zH5 (zB 1) yw (wJ (zB 2)))) zG))))) zG))))) (gN 5) (zU (zn (zH (zAL d) (zA (zB 0) (zA (zB 1) (zA (zS yQ (zB 2) 35#0) (zA (zB 5) zG))))) (gN 6)) (xIf (xB (zS (zE3 true) (zB 6) (xC .non))) (zi (zB 6)) yC))) (zi (xC .non)))))
theorem zRc(d:Nat)(ds:List D)(G:Gp)(R:Q2)(h:zAL (d+1) ds G R):ds.length=4/\zFS d (zZ R) (zN ["web","order","done","ring","place","longer","found"] ds) G:=by
 obtain⟨n,q,os,k,r,lo,rfl,hlo,hon,hn,hlt,hk1,hkn,hd,hr,hrx,h⟩:=h;refine⟨rfl,?_⟩;unfold zFS;rw[show zN ["web","order","done","ring","place","longer","found"] [zQ n q,.adr lo,nD k,uD r]=[some (zQ n q),some (.adr lo),some (nD k),some (uD r),none,none,none] from rfl];have t0:PuT (xB (zS (wu false) (zB 2) (zH zk 51#0))) [some (zQ n q),some (.adr lo),some (nD k),some (uD r),none,none,none] G (decide (k=n)):=zAI (zEi (x:=nD k) (y:=nD n) (zE rfl) (by
  have:=zIL (t:=zB 1) (σ:=[some (zQ n q),some (.adr lo),some (nD k),some (uD r),none,none,none]) (G:=G) (a:=lo) (zE rfl) hlo;rw[cg,hon] at this;exact this) rfl rfl (by rw[if_neg 13#0,zAu]))
 refine zQ7 t0 (fun hb=>zAX (zE rfl) (.of (by rw[wo,if_pos (by rw[hon];exact of_decide_eq_true hb)] at h;exact h))) fun hb=>?_;have hkn':k<n:=by have:=of_decide_eq_false hb;omega
 have hko:k<os.length:=by omega
 rw[wo,if_neg 1#0] at h;have hwch:zTV q os k r=wch r os[k] (yo ((os.take k).filter (yS q os[k]))):=by unfold zTV;simp[dA,hko]
 rw[hwch] at h;clear hwch;have ixp:zd (zS yM (zB 1) (zB 2)) [some (zQ n q),some (.adr lo),some (nD k),some (uD r),none,none,none] G (nD os[k]):=zPF (k:=k) (zE (d:=.adr lo) rfl) (zE rfl) hlo (zA1 (by rw[cZ];simp[hko]));have hp:os[k]<n:=hlt _ (ec _);refine yy ixp ?_;sleep 12;generalize os[k]=p at hp h;refine zAn (zCL (zUH (wA (yB (d:=uD r) (zE rfl) (yB (d:=nD p) (zE rfl) (zCM (zBX (wA (yB (d:=zQ n q) (zE rfl) (yB (d:=nD p) (zE rfl) (zCM (zBX (zKt (i:=(k:Int)) (zE (i:=1) (d:=.adr lo) rfl) (zE (i:=2) (d:=nD k) rfl) hlo fun ls hls=>?_)))))))))))));rw[zPG (by rw[cg];omega),<-List.map_take];refine yl ⟨n,q,p,os.take k,.adr ls,rfl,.inl zK,hp,fun x hx=>hlt x (eK hx),fun lc hlc=>?_⟩;have cl:((os.take k).filter (yS q p)).length<=9:=by
  have a:=dX (yS q p) (os.take k);rw[cS] at a;omega
 refine yl ⟨r,(os.take k).filter (yS q p),p,lc,rfl,.own,by omega,hrx,fun x hx=>?_,cl,fun lw hlw=>?_⟩
 ·have:=hlt x (eK (cQ.mp hx).1);omega
 have hG3:(za 119#0 lw ((wch r p (yo 63#0)).map uD)).m lw=some ((wch r p (yo 63#0)).map uD):=zK;have sG:L3.Sub G (za 119#0 lw ((wch r p (yo 63#0)).map uD)):=((L3.Sub.new hls).trans (.new hlc)).trans (.new hlw);generalize za 119#0 lw ((wch r p (yo 63#0)).map uD)=G3 at sG hG3 ⊢;have own3:=hG3;clear hG3;generalize hws:wch r p (yo 63#0)=ws at h own3 ⊢;refine zAZ (fun i G'=>G'=G3/\∀ w∈ws.take i,wo q os d (k+1) w=none) ⟨rfl,fun w hw=>by simp at hw⟩ (fun i G' hI=>by rw[hI.1];exact .inl own3) ?_ ?_
 ·rintro i x hx G' ⟨rfl,hno⟩
  rw[cZ] at hx;obtain⟨w,hw,rfl⟩:=Option.map_eq_some_iff.mp hx;obtain⟨w1,w2⟩:=zEb r.length (cr _) (show w∈wx r p (yo 63#0) r.length from by rw[show wx r p (yo 63#0) r.length=ws from hws];exact cW hw);sleep 12;refine ye (zDH (ds:=[zQ n q,.adr lo,nD (k+1),uD w]) (zF (zE rfl) (zF (zE rfl) (zF (d:=nD (k+1)) (zH0 (i:=(k:Int)) (j:=1) (zE rfl) yE) (zF (zE rfl) zM)))) ⟨n,q,os,k+1,w,lo,rfl,hlo.sub sG,hon,hn,hlt,by omega,by omega,by omega,by omega,fun x hx=>?_,?_⟩)
  ·rcases w2 x hx with rfl | z
   ·omega
   ·exact hrx x z
  ·sleep 12
   cases hg:wo q os d (k+1) w with
   | none =>
    refine zOS (zAI (yW (x:=.non) (y:=.non) (zE rfl) yE fun u0 u0 u0 q'=>q')) ⟨.keep (.keep (.keep (.keep (.keep (.skip (.skip .nil)))))),_,.refl _,rfl,fun w' hw'=>?_⟩;rw[yI hw] at hw';rcases cG.mp hw' with z | z
    ·exact hno w' z
    ·rw[cq.mp z];exact hg
   | some r' =>
    refine zOT (zAI (yW (x:=uD r') (y:=.non) (zE rfl) yE fun u0 u0 u0 q'=>q')) (zAX (d:=uD r') (zE rfl) ⟨G,sG,?_⟩);have:ws.findSome? (wo q os d (k+1))=some r':=by
     have e:ws=ws.take i++w::ws.drop (i+1):=by
      have h1:ws=ws.take i++ws.drop i:=(cU i ws).symm;have h2:ws.drop i=w::ws.drop (i+1):=by
       obtain⟨hi,he⟩:=cu.mp hw;rw[List.drop_eq_getElem_cons hi,he]
      rw[<-h2];exact h1
     rw[e,List.findSome?_append,List.findSome?_eq_none_iff.mpr hno,List.findSome?_cons,hg];rfl
    rw[this] at h;exact h
 ·rintro G' ⟨rfl,hno⟩
  dsimp only;rw[cg,eH] at hno;rw[List.findSome?_eq_none_iff.mpr hno] at h;exact zAX (d:=.non) yE ⟨G,sG,h⟩
noncomputable def wt(n:Nat)(q:25#0):Option (List Nat):=match zAK n q n with
 | []=>none
 | o::tl=>wo q (o::tl) 8 1 [o,o]
theorem zJn(h1:1<=n)(h7:n<=7):(∀ w,wt n q=some w->zw q (cf n) w)/\(Told n q->wt n q≠none):=by
 have o:=zJm n q;unfold wt;cases h:zAK n q n with
 | nil=>rw[h] at o;have:=o.len;simp at this;omega
 | cons p t=>rw[h] at o;exact zM8 o 8 1#0
noncomputable def zAC:wF:=fun ds G R=>∃(n:Nat) (q:25#0),ds=[zQ n q]/\1<=n/\n<=7/\R (zD9 (wt n q)) G
noncomputable def zCs:yN:=(zU (wH (zH wp (zA 24#0 (zA (xC (.int 7)) zG)))) (zU (zn (zf (zg yi (zA (zB 0) zG))) (gN 1)) (zi (zH (zAL 8) (zA (zB 0) (zA (zB 1) (zA 35#0 (zA (yU (zA (zS yM (zB 1) 32#0) (zA (zS yM (zB 1) 32#0) zG))) zG))))))))
theorem zNP(ds:List D)(G:Gp)(R:Q2)(h:zAC ds G R):ds.length=1/\zCs (zZ R) (zN ["web","order"] ds) G:=by
 obtain⟨n,q,rfl,h1,h7,h⟩:=h;refine⟨rfl,?_⟩;unfold zCs;rw[show zN ["web","order"] [zQ n q]=[some (zQ n q),none] from rfl];refine(show zU (wH _) _ _ _ _ from zDH (ds:=[nD n,nD 7]) (zF (zB8 (q:=q) (zE rfl)) (zF yE zM)) ⟨n,7,rfl,h7,?_⟩);show zU (zn (zf (zg yi (zA (zB 0) zG))) (gN 1)) _ (zZ R) [some (zQ n q),none] G;refine ye (zBX (wA (yB (d:=zQ n q) (zE rfl) (yl ⟨n,q,rfl,h1,by omega,fun lo hlo=>?_⟩))));sleep 12;obtain⟨nd,hl,hlt⟩:=zJm n q;unfold wt at h;generalize zAK n q n=os at nd hl hlt hlo h ⊢;obtain⟨p,t,rfl⟩:∃ p t,os=p::t:=by
  cases os with
  | nil=>simp at hl;omega
  | cons p t=>exact⟨p,t,rfl⟩
 have ix:∀ {σ:S2},look σ 1=some (.adr lo)->zd (zS yM (zB 1) 32#0) σ (za G lo ((p::t).map nD)) (nD p):=fun {σ} hs=>zPF (k:=0) (zE hs) yE .own (zA1 (j:=0) rfl);have hp:=hlt p (cK ..);refine zDH (ds:=[zQ n q,.adr lo,nD 1,uD [p,p]]) (zF (zE rfl) (zF (zE rfl) (zF yE (zF (zBh (zF (ix rfl) (zF (ix rfl) zM)) 13#0) zM)))) ⟨n,q,p::t,1,[p,p],lo,rfl,.own,hl,h7,hlt,by omega,by omega,by omega,rfl,fun x hx=>?_,?_⟩
 ·simp only[cY,fb,or_false] at hx
  rcases hx with rfl | rfl<;>omega
 ·exact⟨G,.new hlo,h⟩
end K
namespace HT
section
variable {prog:Program} {w:World} {A:Around} {E:Value->Shared->Prop} {s:Shared}
end
end HT
namespace L3
open L2
section
variable {X:Cx} {a b c d e o:Expr} {es:List Expr} {pos p:Pos} {ta tb tc td te:zl} {tl:TL2}
end
section
variable {X:Cx} {a b e o:Expr} {pos p apos cpos:Pos} {ta tb te:zl} {tl:TL2} {t:wR}
end
section
variable {X:Cx} {a b o:Expr} {pos:Pos} {ta tb to:zl}
end
end L3
namespace K
open L2 L3
end K
namespace K
open L2 L3 HS
theorem zDR(n:Nat)(q:25#0):flat 8 (zQ n q)=true:=by
 unfold zQ;show([nD n,.tup (((yk n).filter q).map wP)]:List D).all (flat 7)=true;simp only[List.all_cons,List.all_nil,Bool.and_true,eS];refine⟨rfl,?_⟩;show(((yk n).filter q).map wP).all (flat 6)=true;rw[em];intro x hx;obtain⟨p,u0,rfl⟩:=cx.mp hx;rfl
noncomputable def zAM:wF:=fun ds G R=>∃(n:Nat) (r:42#0) (v:D),ds=[.tup (r.map nD),v]/\yu n r/\n<=100/\flat 8 v=true/\R (.bl (wG (zQ n (zc r)) v)) G
noncomputable def zFT:yN:=(zi (zS (wu false) (zH wU (zA (zB 0) zG)) (zB 1)))
theorem zRd(ds:List D)(G:Gp)(R:Q2)(h:zAM ds G R):ds.length=2/\zFT (zZ R) (zN ["ring","web"] ds) G:=by
 obtain⟨n,r,v,rfl,hr,hn,fv,h⟩:=h;refine⟨rfl,?_⟩;unfold zFT;exact zAX (zEi (x:=zQ n (zc r)) (y:=v) (zX (zF (zE rfl) zM) fun u0 u0 u0 q=>⟨n,r,rfl,hr,hn,q⟩) (zE rfl) (zDR _ _) fv rfl) (.of h)
theorem zPi(h:zd t σ G (uD w))(h':zd u σ G (zQ n q))(T:zw q (cf n) w)(hn:n<=100):zd (zH zAM (zA t (zA u zG))) σ G (.bl true) :=
 zX (zF h (zF h' zM)) fun G2 e R q'=>⟨n,w,_,rfl,T.ring,hn,zDR n q,by rw[T.web,zBP _ 8 (zDR n q)];exact q'⟩
theorem zKu(h:zd t σ G (zQ n q))(h':zd u σ G (.tup (ps.map nD)))(hl:∀ x∈ps,x<n)(hn:ps.length<=100):zd (zH zBU (zA t (zA u zG))) σ G (zQ ps.length (zAt q ps)) :=
 zX (zF h (zF h' zM)) fun u0 u0 u0 q'=>⟨n,q,ps,rfl,hl,hn,q'⟩
theorem zNQ(h:zd t σ G (zQ n q))(h1:1<=n)(h7:n<=7):zd (zH zAC (zA t zG)) σ G (zD9 (wt n q)) :=
 zX (zF h zM) fun u0 u0 u0 q'=>⟨n,q,rfl,h1,h7,q'⟩
theorem zNR(o:Option (List Nat)):zHK (zD9 o)=o.isNone:=by cases o<;>rfl
theorem zPj(ng:Bool)(h:zd t σ G (zD9 o)):zd (zS (zE3 ng) t (xC .non)) σ G (.bl (if ng then !o.isNone else o.isNone)):=yW h yE fun G2 e R q'=>by
 show R (.bl (if ng then !zHK (zD9 o) else zHK (zD9 o))) G2;rw[zNR];exact q'
theorem zUY(h1:1<=n)(h7:n<=7):(wt n q).isNone=true↔¬ Told n q:=by
 obtain⟨a,b⟩:=zJn (q:=q) h1 h7;cases h:wt n q with
 | none=>simp only[Option.isNone_none,true_iff];intro z;exact b z h
 | some w=>simp only[Option.isNone_some,bX,false_iff,Classical.not_not];exact⟨w,a w h⟩
theorem zRe(h:R (.int (i+j)) G):yQ (.int i) (.int j) G R:=h
theorem zFU(h:WkT t σ G false)(h':WkT u σ G false):WkT (zBI t u) σ G false:=fun G2 e R q=>h G2 e _ fun G3 e3=>by
 rw[if_neg 13#0];exact h' G3 (e.trans e3) _ fun G4 e4=>q G4 (e3.trans e4)
theorem zRf(ha:zd ta σ G (.bl a))(hb:WkE tb σ G (.bl b))(e:a=b):WkT (xB (zS (wu true) ta tb)) σ G false:=zNC (zTY ha hb fun G2 R q=>⟨rfl,rfl,by subst e;rw[if_pos rfl];cases a<;>exact q⟩)
end K
namespace L3
open L2 HS
noncomputable def zPk(t:zl):TL2:=fun σ G R=>t σ G fun d G1=>match d with
 | .adr l=>∃ nl:List (List Int),Ls G1 l (nl.map tI)/\nl.length<=8000/\(∀ x∈nl,x≠[])/\∀ nss':List (List Int),nss'.Nodup->(∀ x,x∈nss'↔x∈nl)->nss'.Pairwise 38#0->R (nss'.map tI) G1
 | _=>False
theorem zKv(hr:yZ k X.A)(hc:85#0)(hg:Gl X "sorted")(hm:X.mg "sorted"=none)(hg2:Gl X "set")(hm2:X.mg "set"=none)(ha:E2 X e t)
  (he:autoParam (starEach [.Call (.Name "set" p1) [e] [] pos1] X.env=(false,eval 59#0 X.env)::starEach [] X.env) Zq4._auto_1) (hpl:8#0)
  (he1:4#0) (hpl1:autoParam ((backTo pos1 33#0).any (·.1)=false) Zq4._auto_1) :
  F2 X 137#0 (zPk t):=by
 refine PE.mono (zEo hr hc hg hm hg2 hm2 (wZ ha zBH he1) he hpl he1 hpl1) ?_;rintro σ1 H Q ⟨σ,G,R,rl,q,k'⟩;refine⟨σ,G,_,rl,q,fun d G1 q1 v H1 g1 r1 d1=>?_⟩;split at q1
 ·rename_i l
  obtain⟨nl,e1,b1,b2,q1⟩:=q1;obtain⟨xs,s1,t1⟩:=r1.sq e1;unfold zR at d1;subst d1;exact⟨l,xs,nl,rfl,s1,t1,b1,b2,fun l' ys' nss' n' c1 c2 c3 c4=>k' _ G1 (q1 nss' c1 c2 c3) l' _ _ (g1.trans (.fresh n')) (r1.fresh n') (r1.free n') zp (c4.grow (.fresh n'))⟩
 ·exact q1.elim
end L3
namespace L3
open L2
noncomputable def cInt:Expr->Option Int
 | .Constant (.int i) _ _=>some i
 | _=>none
noncomputable def zPl:Expr->Option D
 | .Tuple [a,b] _ _=>match cInt a,cInt b with
  | some i,some j=>some (.tup [.int i,.int j])
  | _,_=>none
 | _=>none
noncomputable def zIa:List Expr->Option (List D)
 | []=>some []
 | e::es=>match zPl e,zIa es with
  | some d,some ds=>some (d::ds)
  | _,_=>none
noncomputable def zTe:Expr->Option D
 | .Tuple [a,.Tuple es _ _] _ _=>match cInt a,zIa es with
  | some i,some ds=>if ds.length<=1000 then some (.tup [.int i,.tup ds]) else none
  | _,_=>none
 | _=>none
section
variable {X:Cx}
theorem zHY(h:cInt e=some i):E2 X e (xC (.int i))/\∀ es,starEach (e::es) X.env=21#0::starEach es X.env:=by
 unfold cInt at h;split at h
 ·cases h;exact⟨zO,fun u0=>rfl⟩
 ·cases h
theorem zKw{x1}(h:A2 X es (fun u0 G R=>R ds G))(hl:ds.length<=1000):E2 X (.Tuple es x1 pos) (xC (.tup ds)):=by
 refine PE.mono (wb h) ?_;sleep 17;exact⟨σ,G,R,r,⟨by rw[sizeLine_eq];omega,q⟩,k⟩
theorem zEA(h:E2 X e (xC d))(h':A2 X es (fun u0 G R=>R ds G))(hs:starEach (e::es) X.env=21#0::starEach es X.env):A2 X (e::es) (fun u0 G R=>R (d::ds) G):=zC h h' hs
theorem zPm(h:zPl e=some d):E2 X e (xC d)/\∀ es,starEach (e::es) X.env=21#0::starEach es X.env:=by
 unfold zPl at h;split at h
 ·rename_i a b x1 pos
  split at h
  ·rename_i i j h1 h2
   cases h;exact⟨zKw (zEA (zHY h1).1 (zEA (zHY h2).1 zI ((zHY h2).2 _)) ((zHY h1).2 _)) 13#0,fun u0=>rfl⟩
  ·cases h
 ·cases h
theorem zLx:∀ {es:List Expr} {ds:List D},zIa es=some ds->A2 X es (fun u0 G R=>R ds G)
 | [],ds,h=>by cases h;exact zI
 | e::es,ds,h=>by
  unfold zIa at h;split at h
  ·rename_i d ds' h1 h2
   cases h;exact zEA (zPm h1).1 (zLx h2) ((zPm h1).2 _)
  ·cases h
theorem zTf(h:zTe e=some d):E2 X e (xC d):=by
 unfold zTe at h;split at h
 ·rename_i a es x1 p1 x2 p2
  split at h
  ·rename_i i ds h1 h2
   split at h
   ·rename_i hl
    cases h;exact zKw (zEA (zHY h1).1 (zEA (zKw (zLx h2) hl) zI rfl) ((zHY h1).2 _)) 13#0
   ·cases h
  ·cases h
 ·cases h
theorem zRg{e:Expr}{pos:Pos}{d:D}{x:Str}{pos':Pos}{rest:List Stmt}{u:yN}(i:Nat)(hN:X.N.Nodup)(h:zTe e=some d)(hi:X.N[i]?=some x)(hx:Loc X.env.scope x)(hs:swapsWith e (some (.Name x pos')) pos.line X.env=pure false)(hf:X.fn x=true\/X.env.scope.names.lookup x=some .local)(hr:Ps2 X rest u) :
  Ps2 X (.Assign [.Name x pos'] e pos::rest) (zU (zn (xC d) (gN i)) u):=zL (zq i hN (zTf h) hi hx hs hf) hr
end
end L3
namespace K
open L2 L3 HS
theorem zNS{b:Nat}{m:30#0}(hb:b<1024)(nd:m.Nodup)(hm:∀ x,x∈m↔x∈zAV 5 (qOf b))(hw:zIQ 5 (qOf b)=true):m.length=1:=by
 have c:=em.mp zRY b (cz.mpr hb);unfold zUV at c;rw[hw,Bool.not_true,Bool.false_or] at c;unfold zUU at c;cases hr:rgs (qOf b) 4 with
 | nil=>rw[hr] at c;cases c
 | cons r rs =>
  rw[hr] at c;have hl:r.length=10:=(zDM (qOf b) 4 r (by rw[hr];exact cK ..)).1;have e:∀ x,x∈zAV 5 (qOf b)↔x=LL r:=fun x=>by
   unfold zAV;rw[show 5-1=4 from rfl,hr,cx];constructor
   ·rintro⟨y,hy,rfl⟩
    rcases cY.mp hy with rfl | hy
    ·rfl
    ·exact(zKp (zPc hl (em.mp c y hy))).symm
   ·rintro rfl
    exact⟨r,cK ..,rfl⟩
  have:m.Perm [LL r]:=(List.perm_ext_iff_of_nodup nd 13#0).mpr fun x=>by rw[hm,e,cq]
  exact this.length_eq
theorem zTg(n:Nat)(q:25#0):∃ q',zQ n q=zQ n q'/\(n=5->∃ b,b<1024/\q'=qOf b):=by
 by_cases h:n=5
 ·subst h
  obtain⟨b,hb,e⟩:=zRZ q;exact⟨qOf b,zFw fun p hp=>(e p hp).symm,fun u0=>⟨b,hb,rfl⟩⟩
 ·exact⟨q,rfl,fun z=>absurd z h⟩
theorem zPn(w:42#0):tI (uI w)=uD w:=by
 show D.tup ((uI w).map D.int)=D.tup (w.map nD);unfold uI;rw[de];rfl
theorem yv(m:30#0):∀ d∈m.map tI,flat 8 d=true:=fun d hd=>by
 obtain⟨ns,u0,rfl⟩:=cx.mp hd;show(ns.map D.int).all (flat 7)=true;rw[em];intro x hx;obtain⟨k,u0,rfl⟩:=cx.mp hx;rfl
theorem zNT:eqDs (l.map tI) []=decide (l=[]):=by cases l<;>simp[eqDs]
theorem zPo(h:PuL tl σ G []):WkE (zS (wu true) (zf tl) (zf (wE zG))) σ G (.bl false):=fun G2 e R q' =>
 zKf (zBX (h G2 e _ fun a ha=>zB9 (ds:=[]) 48#0 fun b hb=>by
  have ne:a≠b:=fun z=>by rw[<-z,zK] at hb;cases hb
  refine⟨[],[],.inl (by rw[ze ne];exact zK),.own,(fun d hd=>by cases hd),(fun d hd=>by cases hd),?_⟩;exact q' _ ((Ext.new ha).trans (.new hb))))
theorem zJo:∀ a b:List Int,eqDs (a.map D.int) (b.map D.int)=decide (a=b)
 | [],[]=>by simp[eqDs]
 | [],_::_=>by simp[eqDs]
 | _::_,[]=>by simp[eqDs]
 | x::a,y::b=>by
  show(wG (.int x) (.int y)&&eqDs (a.map D.int) (b.map D.int))=_;rw[zJo a b,zBn,cV];simp
theorem zPp(m:30#0)(x:129#0):((m.map tI).any fun z=>wG z (tI x))=decide (x∈m):=by
 rw[List.any_map,cV,List.any_eq_true,decide_eq_true_eq];constructor
 ·rintro⟨y,hy,e⟩
  have:y=x:=by
   have e2:wG (tI y) (tI x)=true:=e;have e3:eqDs (y.map D.int) (x.map D.int)=true:=e2;rw[zJo] at e3;exact of_decide_eq_true e3
  rw[<-this];exact hy
 ·intro h
  refine⟨x,h,?_⟩;show wG (tI x) (tI x)=true;exact zBP _ 8 (yv [x] _ 13#0)
structure AR (n:Nat) (q:Nat×Nat->Bool) (m:List (List Int)):Prop where
 nd:m.Nodup
 mem:∀ x,x∈m↔x∈zAV n q
 so:m.Pairwise 38#0
theorem AR.len(h:AR n q m)(h5:n<=5):m.length<=2880:=dF (h.nd.length_le_of_subset fun x hx=>(h.mem x).mp hx) (zJi h5)
theorem zPq(h:zd t σ G (zQ n q))(h1:1<=n)(h5:n<=5)(k:∀ m,AR n q m->R (m.map tI) G):zg zm (zA t zG) σ G R :=
 wA (yB h (yl ⟨n,q,rfl,h1,h5,fun m a b c=>k m ⟨a,b,c⟩⟩))
theorem zHZ(h:zd t σ G (zQ n q))(h1:1<=n)(h5:n<=5)(hL:∀ m,AR n q m->m.length=L):WkE (zH zk (zA (zf (zg zm (zA t zG))) zG)) σ G (nD L):=fun G2 e R q' =>
 zKL (zCM (zBX (zPq (fun G3 e3=>h G3 (e.trans e3)) h1 h5 fun m am a ha=>yl ⟨m.map tI,.own,by rw[cg,hL m am];exact q' _ (.new ha)⟩)))
noncomputable abbrev zLy:yN:=(zU 93#0 (zU (xIf (xB (zS (wu true) (zf 121#0) (zf (wE zG)))) (zi (xC (.bl false))) yC) (zU (zn (zH zAC (zA (zB 5) zG)) (gN 7)) (zU 75#0 28#0))))
theorem zEB(h:WkT tc σ G false)(k:∀ G2,Ext G G2->v E σ G2):zU (xIf tc t yC) v E σ G:=h G (.refl G) _ fun G2 e=>by
 rw[if_neg 13#0];exact k G2 e
theorem zLz(ha:WkE ta σ G (nD a))(hb:zd tb σ G (nD b))(e:a=b):WkT (xB (zS (wu true) ta tb)) σ G false:=zNC (zTX ha hb fun G2 R q=>⟨rfl,rfl,by subst e;rw[if_pos rfl,zAu];simpa using q⟩)
theorem zKx(h1:1<=n)(h5:n<=5)(hq:n=5->∃ b,b<1024/\q=qOf b)(am:AR n q m)(hls:Ls G ls (m.map tI))(hne:ls≠l)(st:zAQ G l)
  (h:∀ G1 G' x7 x8,Ext G G1->DrS l G1 G'->E.nx [x0,x1,some (.adr l),x3,x4,some (zQ n q),some (.adr ls),x7,x8] G') :
  zLy E [x0,x1,some (.adr l),x3,x4,some (zQ n q),some (.adr ls),x7,x8] G:=by
 unfold zLy;have hl:=am.len h5;have mne:∀ x∈m,x≠[]:=fun x hx=>zLv x ((am.mem x).mp hx);have mt:∀ x∈m,∃ w,zw q (cf n) w/\x=uI w/\yG x=x:=fun x hx=>zNG h1 ((am.mem x).mp hx);have v6:∀ {G:Gp} {x7 x8:Option D},zd (zB 6) [x0,x1,some (.adr l),x3,x4,some (zQ n q),some (.adr ls),x7,x8] G (.adr ls):=fun {G x7 x8}=>zE rfl;have c1:WkT (xB (zS (wu true) (zf (zPk (zB 6))) (zB 6))) [x0,x1,some (.adr l),x3,x4,some (zQ n q),some (.adr ls),x7,x8] G false:=zNC fun G2 e R q'=>zKf (zBX (show zPk _ _ _ _ from v6 G2 e _ ⟨m,e.ls hls,by omega,mne,fun nss' a b c k hk=>v6 _ ((e.trans (.new hk))) _ (by
  obtain rfl:nss'=m:=zPY a am.nd (fun x=>(b x).trans (am.mem x)) am.mem c am.so;refine⟨nss'.map tI,nss'.map tI,.own,(e.ls hls).sub (.new hk),yv _,yv _,?_⟩;rw[if_pos rfl,eqDs_refl _ 8 (yv _)];exact q' _ (.new hk))⟩))
 have e0:∀ f:D->Bool,(∀ x∈m,f (tI x)=false)->cE (fun d=>d) (List.filter f (m.map tI))=[]:=fun f hf=>by
  rw[List.map_id',List.filter_eq_nil_iff];intro d hd;obtain⟨x,hx,rfl⟩:=cx.mp hd;rw[hf x hx];simp
 have c2:PuL (zr (iV (zB 6)) wd (zAq (xB (zH zAM (zA (zB 9) (zA (zB 5) zG))))) (zB 9)) [x0,x1,some (.adr l),x3,x4,some (zQ n q),some (.adr ls),x7,x8] G []:=by
  have:=wL (σ:=[x0,x1,some (.adr l),x3,x4,some (zQ n q),some (.adr ls),x7,x8]) (G:=G) (bd:=wd) (tc:=zAq (xB (zH zAM (zA (zB 9) (zA (zB 5) zG))))) (te:=zB 9) (fun u0=>false) (fun d=>d) (fun d=>[d]) (wS v6 hls) fun d hd=>by
   obtain⟨x,hx,rfl⟩:=cx.mp hd;obtain⟨w,hw,rfl,u0⟩:=mt x hx;refine⟨rfl,zHr (b:=true) (zAI (zPi (w:=w) (n:=n) (q:=q) (by rw[<-zPn];exact zE rfl) (zE rfl) hw 1#0)),fun z=>by cases z⟩
  rw[e0 _ fun x u0=>rfl] at this;exact this
 refine zEB (zFU c1 (zNC (zPo c2))) fun G1 e1=>?_;have hls1:=e1.ls hls;have c3:PuL 121#0 [x0,x1,some (.adr l),x3,x4,some (zQ n q),some (.adr ls),x7,x8] G1 []:=by
  have:=wL (σ:=[x0,x1,some (.adr l),x3,x4,some (zQ n q),some (.adr ls),x7,x8]) (G:=G1) (bd:=wd) (tc:=xB (zS (wu true) (zH zx (zA (zB 9) zG)) (zB 9))) (te:=zB 9) (fun u0=>false) (fun d=>d) (fun d=>[d]) (wS v6 hls1) fun d hd=>by
   obtain⟨x,hx,rfl⟩:=cx.mp hd;obtain⟨w,hw,ex,lx⟩:=mt x hx;have fx:=yv [x] (tI x) 13#0;have hxl:x.length<=1000:=by
    rw[ex];have:=hw.ring.len;show(w.map _).length<=1000;rw[cg];omega
   refine⟨rfl,zAI (zEi (x:=tI x) (y:=tI x) (zX (zF (zE (d:=tI x) rfl) zM) fun u0 u0 u0 q'=>⟨x,rfl,hxl,by rw[lx];exact q'⟩) (zE rfl) fx fx (by rw[if_pos rfl,zBP _ 8 fx];rfl)),fun z=>by cases z⟩
  rw[e0 _ fun x u0=>rfl] at this;exact this
 refine zEB (zNC (zPo c3)) fun G2 e2=>?_;have hls2:=e2.ls hls1;refine yy (zNQ (n:=n) (q:=q) (zE (i:=5) rfl) h1 1#0) ?_;sleep 12;have mem_of:∀ w,zw q (cf n) w->LL w∈m:=fun w hw=>(am.mem _).mpr ((zCV h1).mpr ⟨w,hw,rfl⟩);have hmt:m=[]↔¬ Told n q:=by
  constructor
  ·rintro rfl ⟨w,hw⟩;cases mem_of w hw
  ·intro z
   cases hm:m with
   | nil=>rfl
   | cons x t =>
    obtain⟨w,hw,u0⟩:=mt x (by rw[hm];exact cK ..);exact absurd ⟨w,hw⟩ z
 have b7:∀ {G:Gp} (ng:Bool),zd (zS (zE3 ng) (zB 7) (xC .non)) [x0,x1,some (.adr l),x3,x4,some (zQ n q),some (.adr ls),some (zD9 (wt n q)),x8] G (.bl (if ng then !(wt n q).isNone else (wt n q).isNone)):=fun {G} ng=>zPj ng (zE rfl);have w6:WkE (zS (wu false) (zB 6) (zf (wE zG))) [x0,x1,some (.adr l),x3,x4,some (zQ n q),some (.adr ls),some (zD9 (wt n q)),x8] G2 (.bl (decide (m=[]))):=fun G3 e R q'=>zKf (v6 G3 (.refl _) _ (zB9 (ds:=[]) 48#0 fun b hb=>by
  refine⟨m.map tI,[],(e.ls hls2).sub (.new hb),.own,yv _,(fun d hd=>by cases hd),?_⟩;rw[if_neg 13#0,zNT];exact q' _ (.new hb)))
 have q1:(wt n q).isNone=decide (m=[]):=by
  rw[cV,zUY h1 1#0,decide_eq_true_eq,hmt]
 have c5:WkT (zAp (xB (zS (zE3 true) (zB 7) (xC .non))) (xB (zS (fIn true) (zH zx (zA (zB 7) zG)) (zB 6)))) [x0,x1,some (.adr l),x3,x4,some (zQ n q),some (.adr ls),some (zD9 (wt n q)),x8] G2 false:=PuT.wk (by
  intro G3 e3 R q';refine zAI (b7 true) G3 (.refl _) _ ?_;rw[if_pos rfl];cases hr:wt n q with
  | none=>exact q'
  | some w =>
   rw[if_pos (by rfl)];have T:=(zJn (q:=q) h1 1#0).1 w hr;have hwl:(uI w).length<=1000:=by
    have:=T.ring.len;show(w.map _).length<=1000;rw[cg];omega
   refine zAI (yW (x:=tI (LL w)) (y:=.adr ls) (d:=.bl false) (zX (zF (d:=tI (uI w)) (by rw[zPn];exact zE rfl) zM) fun u0 u0 u0 q2=>⟨uI w,rfl,hwl,q2⟩) v6 fun G4 e4 R4 q4=>⟨m.map tI,(e3.trans e4).ls hls2,yv [LL w] _ 13#0,yv _,?_⟩) G3 (.refl _) _ q';rw[if_pos rfl,zPp,decide_eq_true (mem_of w T)];exact q4)
 refine zEB (zFU (zRf (b7 false) w6 q1) c5) fun G3 e3=>?_;have hls3:=e3.ls hls2;have ln:∀ {G:Gp} {x7 x8:Option D},Ls G ls (m.map tI)->zd (zH zk (zA (zB 6) zG)) [x0,x1,some (.adr l),x3,x4,some (zQ n q),some (.adr ls),x7,x8] G (nD m.length):=fun {G x7 x8} hz=>by
  have:=zIL (t:=zB 6) (σ:=[x0,x1,some (.adr l),x3,x4,some (zQ n q),some (.adr ls),x7,x8]) (G:=G) (a:=ls) v6 hz;rw[cg] at this;exact this
 have c6:PuT (zAp (xB (zH wX (zA (zB 5) zG))) (xB (zS (wu true) (zH zk (zA (zB 6) zG)) 35#0))) [x0,x1,some (.adr l),x3,x4,some (zQ n q),some (.adr ls),some (zD9 (wt n q)),x8] G3 false:=by
  intro G4 e4 R q';refine zAI (zX (d:=.bl (zIQ n q)) (zF (zE (i:=5) (d:=zQ n q) (σ:=[x0,x1,some (.adr l),x3,x4,some (zQ n q),some (.adr ls),some (zD9 (wt n q)),x8]) rfl) zM) fun u0 u0 u0 q2=>⟨n,q,rfl,h1,by omega,q2⟩) G4 (.refl _) _ ?_;cases hw:zIQ n q with
  | false=>rw[if_neg 13#0];exact q'
  | true =>
   rw[if_pos rfl];have n5:n=5:=by
    unfold zIQ at hw;have:=of_decide_eq_true (Bool.and_eq_true_iff.mp hw).1;omega
   obtain⟨b,hb,rfl⟩:=hq n5;subst n5;have m1:=zNS hb am.nd am.mem hw;refine zAI (zEi (x:=nD m.length) (y:=nD 1) (ln hls3) yE rfl rfl (by rw[if_pos rfl,zAu,m1];rfl)) G4 e4 _ q'
 refine zEB (PuT.wk c6) fun G4 e4=>?_;have hls4:=e4.ls hls3;have ex4:Ext G G4:=(e1.trans e2).trans (e3.trans e4);have st4:zAQ G4 l:=st.ext ex4.sub;refine ye (zDH (zF (zE (d:=.adr l) rfl) (zF (zB8 (n:=n) (q:=q) (zE rfl)) zM)) ⟨l,n,rfl,st4,by omega,fun od G5 hod d5=>?_⟩);sleep 12;have odln:od.length=n:=by rw[hod.length_eq,cX]
 have odl:∀ x∈od,x<n:=fun x hx=>cz.mp (hod.mem_iff.mp hx);have o0:od.getD 0 0<n:=odl _ (getD_at 1#0);have hls5:Ls G5 ls (m.map tI):=by
  rcases hls4 with z | z
  ·exact .inl (by rw[d5.ne hne];exact z)
  ·exact .inr (by rw[d5.ro];exact z)
 have vw:∀ {G:Gp},zd (zB 5) [x0,x1,some (.adr l),x3,x4,some (zQ n q),some (.adr ls),some (zD9 (wt n q)),some (.tup (od.map nD))] G (zQ n q):=fun {G}=>zE rfl;have vo:∀ {G:Gp},zd (zB 8) [x0,x1,some (.adr l),x3,x4,some (zQ n q),some (.adr ls),some (zD9 (wt n q)),some (.tup (od.map nD))] G (.tup (od.map nD)):=fun {G}=>zE rfl;have t1:=zLz (zHZ (zKu (G:=G5) vw vo odl 1#0) 1#0 1#0 fun m' am'=>zNH h1 hod am.nd am'.nd am.mem am'.mem) (ln hls5) rfl;have t2:=zLz (zHZ (zX (G:=G5) (sp:=yh) (d:=zQ n (tq q (od.getD 0 0))) (zF vw (zF (zH2 (i:=0) vo (yE (d:=nD 0)) 1#0) zM)) fun u0 u0 u0 q'=>⟨n,q,od.getD 0 0,rfl,o0,by omega,q'⟩) h1 h5 fun m' am'=>zKs o0 am.nd am'.nd am.mem am'.mem) (ln hls5) rfl;refine zLt (zFU t1 t2) (fun z=>by cases z) fun u0 G6 e6=>?_;exact h G4 G6 _ _ ex4 ⟨G5,d5,e6.sub⟩
noncomputable def zR7:List (Nat×Nat):=[(0,1),(0,4),(1,2),(2,3),(3,4)]
noncomputable def zEC:Nat×Nat->Bool:=fun p=>decide (p∈zR7)
theorem zUZ:zQ 5 zEC=.tup [nD 5,.tup (zR7.map wP)]:=by
 unfold zQ;congr 3
noncomputable def zL0:yN:=(zU (yq (iR1 (zA (zH zBQ (zA 35#0 (zA (zH zAH (zA 47#0 (zA (xC (.int 2)) zG))) zG))) zG)) (gN 1) (zU (zn (zf (zg yt (zA (zB 0) 51#0))) (gN 2)) (zU (zn (zH zBT (zA (zB 2) (zA (zS yQ 35#0 (zH yO (zA (zB 2) (zA (xC (.int 5)) zG)))) zG))) (gN 3)) (zU (zn (xC (.tup [.int 5,.tup [.tup [.int 0,.int 1],.tup [.int 0,.int 4],.tup [.int 1,.int 2],.tup [.int 2,.int 3],.tup [.int 3,.int 4]]])) (gN 4)) (zU (yq (iF (wE (zA (zH zDi (zA (zB 2) (zA (zS yM (zf (wE (zA (xC (.int 4)) (zA (xC (.int 4)) (zA (xC (.int 5)) zG))))) (zH yO (zA (zB 2) (zA (xC (.int 3)) zG)))) zG))) (zA (zH wU 73#0) (zA (zB 4) zG))))) (gN 5) (zU (zn (zf (zg zm (zA (zB 5) zG))) (gN 6)) (zU 93#0 (zU (xIf (xB (zS (wu true) (zf 121#0) (zf (wE zG)))) (zi (xC (.bl false))) yC) (zU (zn (zH zAC (zA (zB 5) zG)) (gN 7)) (zU 75#0 28#0)))))) (xIf (zBI (xB (zS (fIn true) (zH zx 73#0) (zf (zg zm (zA (zH wU 73#0) zG))))) (xB (zS (fIs true) (zH zD0 (zA (zB 3) (zA (zH zx 73#0) zG))) (xC (.bl true))))) (zi (xC (.bl false))) yC)))))) (zi (xC (.bl true))))
theorem zUa(ds:List D)(G:Gp)(R:Q2)(h:zG2 ds G R):ds.length=1/\zL0 (zZ R) (zN ["script","k","state","ring","five","web","some","found","order"] ds) G:=by
 obtain⟨a,ns,rfl,ha,u0,u0,h⟩:=h;refine⟨rfl,?_⟩;unfold zL0;obtain⟨m,hm⟩:=zMe (σ:=zN ["script","k","state","ring","five","web","some","found","order"] [.adr a]) (G:=G) (a:=a) (ns:=ns) (c:=2) 1#0 rfl (.inr ha);refine zAn (zN8 hm (fun x hx G1 e1=>?_) fun G1 e1=>show FgR R (.bl true) G1 from⟨G,e1.sub,h⟩);obtain⟨k,u0,rfl⟩:=cx.mp hx;refine zMg (σ:=[some (.adr a),some (nD k),none,none,none,none,none,none,none]) (i:=0) (j:=1) (x:=2) (ns:=ns) rfl rfl (e1.ls (.inr ha)) fun l s b hl ok=>?_;simp only[bZ,bY];have st0:zAQ (za G1 l [.int s,.bl b]) l:=⟨s,b,zK,ok⟩
 have sb0:L3.Sub G1 (za G1 l [.int s,.bl b]):=.new hl;generalize za G1 l [.int s,.bl b]=G2 at st0 sb0;have drS:∀ {G3 G4:Gp},L3.Sub G1 G3->Dr l G3 G4->L3.Sub G1 G4:=fun {G3 G4} hs d=>by
  obtain⟨s',b',rfl,u0⟩:=d;exact hs.put hl
 refine ye (zKL (yB (d:=.adr l) (zE rfl) (zCM (zKf (yE (d:=.int 1) G2 (.refl _) _ (zDH (zF (zE (d:=.adr l) rfl) (zF (yE (d:=nD 5)) zM)) ⟨l,5,rfl,st0,by omega,by omega,fun r0 G3 hr0 d3=>?_⟩))))));obtain⟨N,hN,N1,N5⟩:∃ N:Nat,((1:Int)+(r0:Int))=(N:Int)/\1<=N/\N<=5:=⟨1+r0,by omega,by omega,by omega⟩
 refine zRe ?_;rw[hN];refine yl ⟨l,N,rfl,d3.st,by omega,fun rg G4 hrg d4=>?_⟩;sleep 12;have sb4:=drS (drS sb0 d3) d4;have st4:=d4.st;refine yy (d:=zQ 5 zEC) (by rw[zUZ];exact yE) ?_;sleep 12;refine zAn (zCL (zUH (zCO (zCM (zKL (yB (d:=.adr l) (zE rfl) (zCM (zKf (zB9 (ds:=[nD 4,nD 4,nD 5]) (fun G2 e R q=>zCO (yB (d:=nD 4) yE (yB (d:=nD 4) yE (yB (d:=nD 5) yE (yl ⟨by rw[sizeLine_eq];simp,q⟩))))) fun c0 hc0=>?_)))))))));have c0l:c0≠l:=st4.ne hc0;refine zDH (zF (zE (d:=.adr l) rfl) (zF (yE (d:=nD 3)) zM)) ⟨l,3,rfl,st4.ext (.new hc0),by omega,by omega,fun t0 G5 ht0 d5=>?_⟩;have m5:G5.m c0=some [nD 4,nD 4,nD 5]:=by rw[d5.ne c0l];exact zK
 have sb5:=drS (sb4.trans (.new hc0)) d5;obtain⟨mo,hw0,mo1,mo5⟩:∃ mo:Nat,atI [nD 4,nD 4,nD 5] (t0:Int)=some (nD mo)/\1<=mo/\mo<=5:=by
  match t0,ht0 with
  | 0,_=>exact⟨4,rfl,by omega,by omega⟩
  | 1,_=>exact⟨4,rfl,by omega,by omega⟩
  | 2,_=>exact⟨5,rfl,by omega,by omega⟩
 refine⟨_,_,.inl m5,hw0,yl ⟨l,mo,rfl,d5.st,by omega,by omega,fun n1 q1 G6 h1 h15 d6=>?_⟩⟩;have sb6:=drS sb5 d6;have st6:=d6.st;have pwo:zd (zH wU 73#0) [some (.adr a),some (nD k),some (.adr l),some (.tup (rg.map nD)),some (zQ 5 zEC),none,none,none,none] G6 (zQ N (zc rg)):=zX (zF (zE (d:=.tup (rg.map nD)) rfl) zM) fun u0 u0 u0 q'=>⟨N,rg,rfl,hrg,by omega,q'⟩
 refine yB pwo (yB (d:=zQ 5 zEC) (zE rfl) (yl ⟨by rw[sizeLine_eq];simp,fun lw hlw=>?_⟩));have lwl:lw≠l:=st6.ne hlw;refine zAZ (fun i G'=>zAQ G' l/\L3.Sub G1 G'/\G'.m lw=some [zQ n1 q1,zQ N (zc rg),zQ 5 zEC]) ⟨st6.ext (.new hlw),sb6.trans (.new hlw),zK⟩ (fun i G' hI=>.inl hI.2.2) ?_ ?_
 ·rintro i x hx G7 ⟨st7,sb7,g7⟩
  have hxr:∃ n q,x=zQ n q/\1<=n/\n<=5:=by
   have hx:=cW hx;simp only[cY,fb,or_false] at hx;rcases hx with rfl | rfl | rfl
   ·exact⟨_,_,rfl,h1,by omega⟩
   ·exact⟨_,_,rfl,N1,N5⟩
   ·exact⟨_,_,rfl,by omega,by omega⟩
  obtain⟨n,q',rfl,n1',n5⟩:=hxr;obtain⟨q,eq,hq⟩:=zTg n q';rw[eq];sleep 12;refine ye (zBX (zPq (n:=n) (q:=q) (zE rfl) n1' n5 fun mm am ls hls=>?_));sleep 12;refine zKx n1' n5 hq am .own (st7.ne hls) (st7.ext (.new hls)) fun G8 G9 x7 x8 ex d9=>?_;refine⟨.keep (.keep (.keep (.keep (.keep (.skip (.skip (.skip (.skip .nil)))))))),G9,.refl _,d9.st,?_,?_⟩
  ·obtain⟨Gm,dm,sm⟩:=d9
   exact(drS (sb7.trans ((L3.Sub.new hls).trans ex.sub)) dm).trans sm
  ·obtain⟨Gm,dm,sm⟩:=d9
   refine sm.m _ _ ?_;rw[dm.ne lwl];exact ex.sub.m _ _ ((L3.Sub.new hls).m _ _ g7)
 ·rintro G7 ⟨st7,sb7,g7⟩
  dsimp only;have rl:(uI rg).length<=1000:=by
   have:=hrg.len;show(rg.map _).length<=1000;rw[cg];omega
  have lr:(yG (uI rg)).length<=1000:=by
   have:=(zAl (uI rg)).len;omega
  have vr:∀ {G:Gp},zd (zB 3) [some (.adr a),some (nD k),some (.adr l),some (.tup (rg.map nD)),some (zQ 5 zEC),none,none,none,none] G (tI (uI rg)):=fun {G}=>by rw[zPn];exact zE rfl
  have pl:∀ {G:Gp},zd (zH zx 73#0) [some (.adr a),some (nD k),some (.adr l),some (.tup (rg.map nD)),some (zQ 5 zEC),none,none,none,none] G (tI (LL rg)):=fun {G}=>zX (zF vr zM) fun u0 u0 u0 q'=>⟨uI rg,rfl,rl,q'⟩
  have t1:WkT (xB (zS (fIn true) (zH zx 73#0) (zf (zg zm (zA (zH wU 73#0) zG))))) [some (.adr a),some (nD k),some (.adr l),some (.tup (rg.map nD)),some (zQ 5 zEC),none,none,none,none] G7 false:=zNC fun G8 e8 R q'=>zKf (pl G8 (.refl _) _ (zBX (zPq (n:=N) (q:=zc rg) (zX (zF (zE (d:=.tup (rg.map nD)) rfl) zM) fun u0 u0 u0 q'=>⟨N,rg,rfl,hrg,by omega,q'⟩) N1 N5 fun mm am la hla=>⟨mm.map tI,.own,yv [LL rg] _ 13#0,yv _,by
   rw[if_pos rfl,zPp,decide_eq_true ((am.mem _).mpr ((zCV N1).mpr ⟨rg,zLp hrg fun p u0=>rfl,rfl⟩))];exact q' _ (.new hla)⟩)))
  have t2:PuT (xB (zS (fIs true) (zH zD0 (zA (zB 3) (zA (zH zx 73#0) zG))) (xC (.bl true)))) [some (.adr a),some (nD k),some (.adr l),some (.tup (rg.map nD)),some (zQ 5 zEC),none,none,none,none] G7 false:=zAI (yW (zX (d:=.bl true) (zF vr (zF pl zM)) fun u0 u0 u0 q'=>⟨uI rg,LL rg,rfl,rl,lr,by
   rw[<-zDN (zAl (uI rg)),zBP (tupI (yG (uI rg))) 8 (yv [yG (uI rg)] (tI (yG (uI rg))) 13#0)];exact q'⟩) yE fun u0 u0 u0 q'=>q')
  refine zLt (zFU t1 (PuT.wk t2)) (fun z=>by cases z) fun u0 G8 e8=>?_;exact⟨.keep (.skip (.skip (.skip (.skip (.skip (.skip (.skip (.skip .nil)))))))),sb7.trans e8.sub⟩
end K
namespace K
open L2 L3
noncomputable def Gv(K:15#0)(x:Str)(st:Stmt):Prop:=∃ f fd,PySem.W.nsIn K mainGlobals x=some (some (.ref f))/\Fun K x x st f fd
noncomputable def Gf(K:15#0)(mg:83#0)(x:Str)(st:Stmt):Prop:=∃ f fd,Fun K x x st f fd/\mg x=some (.ref f)
theorem Gv.of{K:15#0}{x:Str}{st:Stmt}{f:Addr}{oc:Value}{od an:Option Addr}{sl:Array (Option Value)}{kV dc pm cd ct:Value}(a:PySem.W.nsIn K mainGlobals x=some (some (.ref f)))(l:K.lookup f=some ⟨oc,od,.func (PySem.W.fnOf x x (zA2 st) (wK st) (zJ st) .none kV dc pm an cd ct),sl⟩)(c:PySem.W.codeIn K cd x=true)(k:PySem.W.keepIn K (.ref f)=true):Gv K x st:=⟨f,_,a,zNm (st:=st) l c k⟩
theorem Gv.gf{K:15#0}{x:Str}{st:Stmt}{h:Heap}{mg:83#0}(X:K.In h)(G:h.Ns mainGlobals mg)(g:Gv K x st):Gf K mg x st:=let ⟨f,fd,a,F⟩:=g;⟨f,fd,F,PySem.W.mg_of X G a⟩
noncomputable abbrev zEp:Stmt:=top 4
theorem zED:zT ["thing"] ["thing"] (zJ zEp):=2#0
noncomputable abbrev zB2:Stmt:=top 5
theorem zC6:zT ["many","thing"] ["many","thing"] (zJ zB2):=2#0
noncomputable abbrev zB3:Stmt:=top 6
theorem zC7:zT ["things"] ["things"] (zJ zB3):=2#0
noncomputable abbrev zL1:Stmt:=top 7
theorem zJp:zT ["many"] ["many"] (zJ zL1):=2#0
noncomputable abbrev zGM:Stmt:=top 8
theorem zEq:zT ["places","found","k","j"] ["places"] (zJ zGM):=2#0
noncomputable abbrev zC8:Stmt:=top 9
theorem zCW:zT ["many","most"] ["many","most"] (zJ zC8):=2#0
noncomputable abbrev zL2:Stmt:=top 11
theorem zJq:zT ["ring","one","other","first","second"] ["ring","one","other"] (zJ zL2):=2#0
noncomputable abbrev zGN:Stmt:=top 12
theorem zHa:zT ["ring","many"] ["ring"] (zJ zGN):=2#0
noncomputable abbrev zCX:Stmt:=top 13
theorem zCC:zT ["ring","by"] ["ring","by"] (zJ zCX):=2#0
noncomputable abbrev zGO:Stmt:=top 14
theorem zEr:zT ["ring"] ["ring"] (zJ zGO):=2#0
noncomputable abbrev zL3:Stmt:=top 15
theorem zJr:zT ["ring","back","best","by"] ["ring"] (zJ zL3):=2#0
noncomputable abbrev s_same:Stmt:=top 16
theorem zL4:zT ["one","other"] ["one","other"] (zJ s_same):=2#0
noncomputable abbrev zPr:Stmt:=top 18
theorem zL5:zT ["web","one","other"] ["web","one","other"] (zJ zPr):=2#0
noncomputable abbrev zGP:Stmt:=top 19
theorem zHb:zT ["web","place"] ["web","place"] (zJ zGP):=2#0
noncomputable abbrev zKy:Stmt:=top 20
theorem zL6:zT ["web","places","many","ties"] ["web","places"] (zJ zKy):=2#0
noncomputable abbrev zL7:Stmt:=top 21
theorem zJs:zT ["web","order"] ["web","order"] (zJ zL7):=2#0
noncomputable abbrev zL8:Stmt:=top 24
theorem zJt:zT ["ring","web"] ["ring","web"] (zJ zL8):=2#0
noncomputable abbrev zHc:Stmt:=top 25
theorem zGQ:zT ["web","order"] ["web"] (zJ zHc):=2#0
noncomputable abbrev zAi:Stmt:=top 26
theorem zC9:zT ["web","order","rest"] ["web"] (zJ zAi):=2#0
noncomputable abbrev zB4:Stmt:=top 27
theorem zDA:zT ["web","place","others"] ["web","place","others"] (zJ zB4):=2#0
noncomputable abbrev zFV:Stmt:=top 28
theorem zGR:zT ["web","order","done","ring","place","longer","found"] ["web","order","done","ring"] (zJ zFV):=2#0
noncomputable abbrev zB5:Stmt:=top 29
theorem zDB:zT ["ring","place","crossed","wanted","found","first","inside","second"] ["ring","place","crossed"] (zJ zB5):=2#0
noncomputable abbrev zB6:Stmt:=top 31
theorem zDC:zT ["web","places"] ["web","places"] (zJ zB6):=2#0
noncomputable abbrev zGS:Stmt:=top 32
theorem zEs:zT ["web","places","others","free","place","rest","row"] ["web","places"] (zJ zGS):=2#0
noncomputable abbrev zGT:Stmt:=top 33
theorem zHd:zT ["web","place","others"] ["web","place","others"] (zJ zGT):=2#0
noncomputable abbrev zGU:Stmt:=top 34
theorem zEt:zT ["web","places"] ["web","places"] (zJ zGU):=2#0
noncomputable abbrev zEE:Stmt:=top 35
theorem zHe:zT ["web","sides","place"] ["web"] (zJ zEE):=2#0
noncomputable abbrev zCY:Stmt:=top 39
theorem zEF:zT ["web","rings","place"] ["web"] (zJ zCY):=2#0
noncomputable abbrev zBa:Stmt:=top 40
theorem zBG:zT ["rings","place","crossed","longer","ring"] ["rings","place","crossed"] (zJ zBa):=2#0
noncomputable abbrev zGV:Stmt:=top 41
theorem zEu:zT ["web"] ["web"] (zJ zGV):=2#0
noncomputable abbrev zEG:Stmt:=top 43
theorem zDD:zT ["web","place","near"] ["web","place"] (zJ zEG):=2#0
noncomputable abbrev zEv:Stmt:=top 45
theorem zEH:zT ["script","k"] ["script","k"] (zJ zEv):=2#0
noncomputable abbrev zHf:Stmt:=top 46
theorem zGW:zT ["script","k","cell"] ["script","k"] (zJ zHf):=2#0
noncomputable abbrev zJu:Stmt:=top 47
theorem zHg:zT ["state","many","found","mixed"] ["state","many"] (zJ zJu):=2#0
noncomputable abbrev zEd:Stmt:=top 48
theorem zGX:zT ["many","found","one"] ["many"] (zJ zEd):=2#0
noncomputable abbrev zFW:Stmt:=top 49
theorem zJv:zT ["state","most","many","way","pairs_v","far"] ["state","most"] (zJ zFW):=2#0
noncomputable abbrev zGY:Stmt:=top 50
theorem zHh:zT ["state","many","left"] ["state","many"] (zJ zGY):=2#0
noncomputable abbrev zDS:Stmt:=top 51
theorem zEw:zT ["ring","many","found","one","other","some"] ["ring"] (zJ zDS):=2#0
noncomputable abbrev zEe:Stmt:=top 53
theorem zGZ:zT ["state","many","left"] ["state","many"] (zJ zEe):=2#0
noncomputable abbrev zCZ:Stmt:=top 54
theorem zPs:zT ["script","k","state","ring","five","web","some","found","order"] ["script"] (zJ zCZ):=2#0
section
variable {P:Program} {w:World} {K:PySem.W.Frag} {mg:Str->Option Value} {base:Heap}
theorem zNU(F:Gf K mg "grown" zFV):Df P w K mg base (k+1) "grown" ["web","order","done","ring"] (zAL 0):=by
 obtain⟨f,fd,F,hm⟩:=F;refine zh (fun u0 u0 u0=>False) F zGR hm (F.binds fun u0 u0 u0 u0 u0 u0 us hl=>match us,hl with | [_,_,_,_],_=>rfl) 6#0 (fun u0 u0 u0 h=>(zPh h).elim);exact zUI
theorem zAN(F:Gf K mg "grown" zFV)(ab:mg "len"=none)(a8:Df P w K mg base 2 "tied_among" ["web","place","others"] (spL zy))(bO:2<=k)(a9:Df P w K mg base 1 "with_chord" ["ring","place","crossed"] (spL yT))(bP:1<=k)(aO:Df P w K mg base k "grown" ["web","order","done","ring"] (zAL d)):Df P w K mg base (k+1) "grown" ["web","order","done","ring"] (zAL (d+1)):=by
 obtain⟨f,fd,F,hm⟩:=F;have nd:=(zGR).nd;refine zh (zFS d) F zGR hm (F.binds fun u0 u0 u0 u0 u0 u0 us hl=>match us,hl with | [_,_,_,_],_=>rfl) 6#0 (zRc d);unfold zFS;exact(zL (zBd (zJ9 hr (zD 2) (yj rfl ab 89#0)) (zP (zj (zD 3))) yd) (zL (zq 4 nd (yK (zD 1) (zD 2))) (zL (wO PassesOwn.never rfl (zIq (yc a9 zCB hr 1#0 rfl (zC (zD 3) (zC (zD 4) (zC (zu (yc a8 zAU hr 1#0 rfl (zC (zD 0) (zC (zD 4) (zC (zu (zQs (zD 1) zFn (zBi (zD 2)))) zI))))) zI))))) (wc 5 nd) (zL (zq 6 nd (zW aO hr 1#0 rfl (zC (zD 0) (zC (zD 1) (zC (wT (zD 2) zO) (zC (zD 5) zI)))))) (zP (zBd (zJT (zD 6) zK9) (zP (zj (zD 6))) yd)))) (zP (zj zK9)))))
theorem zTh(F:Fun K "law" "law" zCZ f fd)(aa:mg "range"=none)(b9:mg "max"=none)(aM:mg "min"=none)(ab:mg "len"=none)(aj:mg "sorted"=none)(ba:mg "set"=none)   (aD:Df P w K mg base 2 "_law_state" ["script","k"] (spL yt))(af:Df P w K mg base 1 "_law_take" ["state","many"] yO)(aC:Df P w K mg base 2 "_law_ring" ["state","many"] zBT)(aP:Df P w K mg base 3 "_law_web" ["state","most"] zDi)(au:Df P w K mg base 3 "web_of" ["ring"] wU)(ag:Df P w K mg base 3 "all_rings" ["web"] (spL zm))(aQ:Df P w K mg base 4 "tells" ["ring","web"] zAM)(ah:Df P w K mg base 2 "least" ["ring"] zx)(aE:Df P w K mg base 12 "ring_of" ["web"] zAC)(aA:Df P w K mg base 6 "is_whole" ["web"] wX)(aF:Df P w K mg base 2 "_law_order" ["state","many"] zAs)(aR:Df P w K mg base 4 "named" ["web","order"] zBU)(ak:Df P w K mg base 3 "web_turned" ["web","place"] yh)(bh:Df P w K mg base 3 "same" ["one","other"] zD0):zFY P w K mg base CX0 13 f fd ["script"] (lSp K zG2):=by
 have nd:=zPs.nd;refine zSz zL0 F zPs 6#0 zUa;unfold zL0;exact(zL (wO PassesOwn.never rfl (wI rfl aa (zC (zRq rfl rfl b9 (zC zO (zC (zNz rfl rfl aM (zC 78#0 (zC zO zI))) zI))) zI)) (wc 1 nd) (zL (zq 2 nd (zu (yc aD zHx hr 10#0 rfl (zC (zD 0) 89#0)))) (zL (zq 3 nd (zW aC hr 10#0 rfl (zC (zD 2) (zC (wT zO (zW af hr 10#0 rfl (zC (zD 2) (zC zO zI)))) zI)))) (@zRg _ _ _ _ _ _ _ _ 4 nd (by kernel_rfl) rfl (by first | exact Or.inl rfl | exact Or.inr rfl) rfl (by first | exact .inl rfl | exact .inr rfl | assumption) (zL (wO PassesOwn.never rfl (zIq (ww (zC (zW aP hr (by decide) rfl (zC (zD 2) (zC (yK (zu (ww (zC zO (zC zO (zC zO zI))))) (zW af hr (by decide) rfl (zC (zD 2) (zC zO zI)))) zI))) (zC (zW au hr (by decide) rfl (zC (zD 3) zI)) (zC (zD 4) zI))))) (wc 5 nd) (zL (zq 6 nd (zu (yc ag wq hr (by decide) rfl (zC (zD 5) zI)))) (zL (zBd (W2.test (w_or (zFg hr (zu (zKv hr rfl rfl aj rfl ba (zD 6))) (zD 6)) (zGv (zFg hr (zu (zBg "one" rfl (zt (osc:=zJ zCZ) (N:=["script","k","state","ring","five","web","some","found","order"]) (N0:=["!00","!01","!02","!03","!04","web","!06","!07","!08"]) (own:=["one"]) (by decide +kernel)) (zAW (zD 6)) (fun u0 u0 u0 u0 u0=>(wz (zNt (zCG (zW aQ hr 10#0 rfl (zC (zD 9) (zC (zD 5) zI))))))) (fun u0 u0 u0 u0 u0=>(zD 9)))) (zu (ww zI)))))) (zP (zj zFc)) yd) (zL (zBd (zFg hr (zu (zBg "one" rfl (zt (osc:=zJ zCZ) (N:=["script","k","state","ring","five","web","some","found","order"]) (N0:=["!00","!01","!02","!03","!04","!05","!06","!07","!08"]) (own:=["one"]) 5#0) (zAW (zD 6)) (fun u0 u0 u0 u0 u0=>(wz (zFg hr (zW ah hr 10#0 rfl (zC (zD 9) zI)) (zD 9)))) (fun u0 u0 u0 u0 u0=>(zD 9)))) (zu (ww zI))) (zP (zj zFc)) yd) (zL (zq 7 nd (zW aE hr 10#0 rfl (zC (zD 5) zI))) (zL (zBd (W2.test (w_or (zFg hr (zUN (zD 7) zK9) (zNw hr (zD 6) (zu (ww zI)))) (zGv (W2.test (w_and (zJT (zD 7) zK9) (zJ5 (zE7 hr (zW ah hr 10#0 rfl (zC (zD 7) zI)) (zD 6)))))))) (zP (zj zFc)) yd) (zL (zBd (W2.test (w_and (zCG (zW aA hr 10#0 rfl (zC (zD 5) zI))) (zJ5 (zFg hr (yj rfl ab (zC (zD 6) zI)) zO)))) (zP (zj zFc)) yd) (zL (zq 8 nd (zW aF hr 10#0 rfl (zC (zD 2) (zC (yK (zD 5) zO) zI)))) (zP (zBd (W2.test (w_or (zFg hr (yj rfl ab (zC (zu (yc ag wq hr 10#0 rfl (zC (zW aR hr 10#0 rfl (zC (zD 5) (zC (zD 8) zI))) zI))) zI)) (yj rfl ab (zC (zD 6) zI))) (zGv (zFg hr (yj rfl ab (zC (zu (yc ag wq hr 10#0 rfl (zC (zW ak hr 10#0 rfl (zC (zD 5) (zC (yK (zD 8) zO) zI))) zI))) zI)) (yj rfl ab (zC (zD 6) zI)))))) (zP (zj zFc)) yd)))))))))) (zP (zBd (W2.test (w_or (zE7 hr (zW ah hr 10#0 rfl (zC (zD 3) zI)) (zu (yc ag wq hr 10#0 rfl (zC (zW au hr 10#0 rfl (zC (zD 3) zI)) zI)))) (zGv (zQZ (zW bh hr 10#0 rfl (zC (zD 3) (zC (zW ah hr 10#0 rfl (zC (zD 3) zI)) zI))) zFc)))) (zP (zj zFc)) yd))))))) (zP (zj zFc)))
end
theorem zTi{l:PySem.W.OpenLaw}{w:World}{K:15#0}{h:Heap}{mg:83#0}{fa:Addr}(X:K.In h)(G:h.Ns mainGlobals mg)(hfa:mg "law"=some (.ref fa))
  {f39:Addr} {od39 an39:Option Addr} {sl39:Array (Option Value)} {oc39 kV39 dc39 pm39 cd39 ct39:Value} {aL:Tok} {aS:Tok} {aH:Tok}
  (gv0:Gv K "is_number" zEp)
  (gv1:Gv K "are_places" zB2)
  (gv2:Gv K "is_rising" zB3)
  (gv3:Gv K "pairs" zL1)
  (gv4:Gv K "pairs_of" zGM)
  (gv5:Gv K "refuse_more" zC8)
  (gv6:Gv K "cross" zL2)
  (gv7:Gv K "web_of" zGN)
  (gv8:Gv K "turned_round" zCX)
  (gv9:Gv K "mirrored" zGO)
  (gv10:Gv K "least" zL3)
  (gv11:Gv K "same" s_same)
  (gv12:Gv K "tied" zPr)
  (gv13:Gv K "around" zGP)
  (gv14:Gv K "kept" zKy)
  (gv15:Gv K "named" zL7)
  (gv16:Gv K "tells" zL8)
  (gv17:Gv K "ring_of" zHc)
  (gv18:Gv K "near_order" zAi)
  (gv19:Gv K "tied_among" zB4)
  (gv20:Gv K "grown" zFV)
  (gv21:Gv K "with_chord" zB5)
  (gv22:Gv K "other_side" zB6)
  (gv23:Gv K "cut_rank" zGS)
  (gv24:Gv K "row_of" zGT)
  (gv25:Gv K "is_split" zGU)
  (gv26:Gv K "splits" zEE)
  (gv27:Gv K "all_rings" zCY)
  (gv28:Gv K "all_with_chord" zBa)
  (gv29:Gv K "is_whole" zGV)
  (gv30:Gv K "web_turned" zEG)
  (gv31:Gv K "_law_cell_at" zEv)
  (gv32:Gv K "_law_state" zHf)
  (gv33:Gv K "_law_take" zJu)
  (gv34:Gv K "_law_pairs" zEd)
  (gv35:Gv K "_law_web" zFW)
  (gv36:Gv K "_law_ring" zGY)
  (gv37:Gv K "_law_web_of" zDS)
  (gv38:Gv K "_law_order" zEe)
  (a39:PySem.W.nsIn K mainGlobals "law"=some (some (.ref f39))) (l39:K.lookup f39=some ⟨oc39,od39,.func (PySem.W.fnOf "law" "law" (zA2 zCZ) (wK zCZ) (zJ zCZ) .none kV39 dc39 pm39 an39 cd39 ct39),sl39⟩) (c39:PySem.W.codeIn K cd39 "law"=true) (k39:PySem.W.keepIn K (.ref f39)=true)
  (ao:PySem.W.nsIn K mainGlobals "MOST_FOUND"=some (some (.int 7 aL)))
  (av:PySem.W.nsIn K mainGlobals "MOST_TOLD"=some (some (.int 5 aS)))
  (ai:PySem.W.nsIn K mainGlobals "FEWEST_WHOLE"=some (some (.int 5 aH)))
  (ap:PySem.W.nsIn K mainGlobals "isinstance"=some none)
  (bu:PySem.W.nsIn K mainGlobals "int"=some none)
  (bi:PySem.W.nsIn K mainGlobals "bool"=some none)
  (aT:PySem.W.nsIn K mainGlobals "tuple"=some none)
  (bv:PySem.W.nsIn K mainGlobals "all"=some none)
  (aU:PySem.W.nsIn K mainGlobals "range"=some none)
  (bw:PySem.W.nsIn K mainGlobals "len"=some none)
  (aB:PySem.W.nsIn K mainGlobals "reversed"=some none)
  (bx:PySem.W.nsIn K mainGlobals "min"=some none)
  (bz:PySem.W.nsIn K mainGlobals "max"=some none)
  (bA:PySem.W.nsIn K mainGlobals "sum"=some none)
  (aI:PySem.W.nsIn K mainGlobals "sorted"=some none)
  (bB:PySem.W.nsIn K mainGlobals "set"=some none)
  (bj:PySem.W.nsIn K mainGlobals "list"=some none) :
  ∃ fd:FuncData,(∀(s:Shared) (v:Value),BindsTo s fd ⟨[v],[]⟩ [("script",v)])/\∀ base:Heap,K.In base->base.Ns mainGlobals mg->zFY l.prog w K mg base CX0 13 fa fd ["script"] (lSp K zG2):=by
 have e:=hfa.symm.trans (PySem.W.mg_of X G a39);cases e;have aV:=PySem.W.mg_of X G ao;have bb:=PySem.W.mg_of X G av;have aJ:=PySem.W.mg_of X G ai;have aq:=PySem.W.mg_none_of X G ap;have bV:=PySem.W.mg_none_of X G bu;have bT:=PySem.W.mg_none_of X G bi;have ae:=PySem.W.mg_none_of X G aT;have bR:=PySem.W.mg_none_of X G bv;have aa:=PySem.W.mg_none_of X G aU;have ab:=PySem.W.mg_none_of X G bw;have bm:=PySem.W.mg_none_of X G aB;have aM:=PySem.W.mg_none_of X G bx;have b9:=PySem.W.mg_none_of X G bz;have bS:=PySem.W.mg_none_of X G bA;have aj:=PySem.W.mg_none_of X G aI;have ba:=PySem.W.mg_none_of X G bB;have bC:=PySem.W.mg_none_of X G bj;refine⟨PySem.W.fnOf "law" "law" (zA2 zCZ) (wK zCZ) (zJ zCZ) .none kV39 dc39 pm39 an39 cd39 ct39,fun s v=>.of_eq rfl,fun base kb u0 =>?_⟩;have bf:Df l.prog w K mg base 1 "is_number" ["thing"] yz:=by
  obtain⟨f,fd,F,hm⟩:=Gv.gf X G gv0;have nd:=(zED).nd;refine zh zA7 F zED hm 14#0 6#0 zI7;unfold zA7;exact(zP (zj (zIs (zN2 (T:="int") rfl aq rfl bV 5#0 (zD 0)) (zIr (zT9 (zN2 (T:="bool") rfl aq rfl bT 5#0 (zD 0)))))))
 have aW:Df l.prog w K mg base 1 "is_rising" ["things"] zAF:=by
  obtain⟨f,fd,F,hm⟩:=Gv.gf X G gv2;have nd:=(zC7).nd;refine zh zAb F zC7 hm 14#0 6#0 zII;unfold zAb;exact(zP (zj (zRy rfl rfl bR (zBg "k" rfl (zt (osc:=zJ zB3) (N:=["things"]) (N0:=["things"]) (own:=["k"]) 5#0) (wI rfl aa (zC (zLC 78#0 zO) zI)) 106#0 (fun u0 u0 u0 u0 u0=>(zUt (yK (zD 0) (zD 1)) (yK (zD 0) (wT (zD 1) zO))))))))
 have aK:Df l.prog w K mg base 1 "pairs_of" ["places"] (spL yr):=by
  obtain⟨f,fd,F,hm⟩:=Gv.gf X G gv4;have nd:=(zEq).nd;refine zh zBq F zEq hm 14#0 6#0 zKI;unfold zBq;exact(zL (zq 1 nd (zu (ww zI))) (zL (wO PassesOwn.never rfl (wI rfl aa (zC 78#0 zI)) (wc 2 nd) (zP (wO PassesOwn.never rfl (zBM rfl aa (zC (wT (zD 2) zO) (zC 78#0 zI))) (wc 3 nd) (zP (zBc (zCJ (zD 1) (zC (wb (zC (yK (zD 0) (zD 2)) (zC (yK (zD 0) (zD 3)) zI))) zI))))))) (zP (zj (zD 1)))))
 have az:Df l.prog w K mg base 1 "refuse_more" ["many","most"] wp:=by
  obtain⟨f,fd,F,hm⟩:=Gv.gf X G gv5;have nd:=(zCW).nd;refine zh zAG F zCW hm 7#0 6#0 zGi;unfold zAG;exact(zP (zBd (zUw (zD 0) (zD 1)) (zP zU4) yd))
 have bQ:Df l.prog w K mg base 1 "cross" ["ring","one","other"] zDj:=by
  obtain⟨f,fd,F,hm⟩:=Gv.gf X G gv6;have nd:=(zJq).nd;refine zh zFF F zJq hm 49#0 6#0 zQk;unfold zFF;exact(zL (zq 3 nd (zOD hr (zD 0) 89#0)) (zL (zq 4 nd (zOE hr (zD 0) (zC (zD 1) (zC (wT (zD 3) zO) zI)))) (zP (zj (zNw hr (zOF hr (zCg (zD 0) (zBi (zD 3)) (zBi (zD 4))) 141#0) zO)))))
 have aw:Df l.prog w K mg base 1 "turned_round" ["ring","by"] yf:=by
  obtain⟨f,fd,F,hm⟩:=Gv.gf X G gv8;have nd:=(zCC).nd;refine zh zAy F zCC hm 7#0 6#0 zGC;unfold zAy;exact(zP (zj (wT (zCg (zD 0) (zBi (zD 1)) zFn) (zCg (zD 0) zFn (zBi (zD 1))))))
 have bn:Df l.prog w K mg base 1 "mirrored" ["ring"] zBD:=by
  obtain⟨f,fd,F,hm⟩:=Gv.gf X G gv9;have nd:=(zEr).nd;refine zh zDL F zEr hm 14#0 6#0 zKg;unfold zDL;exact(zP (zj (zTD rfl rfl ae rfl bm (zC (zD 0) zI))))
 have aX:Df l.prog w K mg base 1 "tied" ["web","one","other"] wg:=by
  obtain⟨f,fd,F,hm⟩:=Gv.gf X G gv12;have nd:=(zL5).nd;refine zh zHw F zL5 hm 49#0 6#0 zS7;unfold zHw;exact(zP (zj (zUy hr (wb (zC (zNz rfl rfl aM (zC (zD 1) 141#0)) (zC (zRq rfl rfl b9 (zC (zD 1) 141#0)) zI))) 96#0)))
 have a9:Df l.prog w K mg base 1 "with_chord" ["ring","place","crossed"] (spL yT):=by
  obtain⟨f,fd,F,hm⟩:=Gv.gf X G gv21;have nd:=(zDB).nd;refine zh zAf F zDB hm 49#0 6#0 zIW;unfold zAf;exact(zL (zq 3 nd (zLf rfl rfl bS (zBg "other" rfl (zt (osc:=zJ zB5) (N:=["ring","place","crossed","wanted","found","first","inside","second"]) (N0:=["!00","!01","!02","!03","!04","!05","!06","!07"]) (own:=["other"]) 5#0) (zAW (zD 2)) 106#0 (fun u0 u0 u0 u0 u0=>(zPL zO (zD 8)))))) (zL (zq 4 nd (zu (ww zI))) (zL (wO PassesOwn.never rfl (zBM rfl aa (zC zO (zC (wT 78#0 zO) zI))) (wc 5 nd) (zL (zq 6 nd zO) (zP (wO PassesOwn.never rfl (zBM rfl aa (zC (zD 5) (zC (wT 78#0 zO) zI))) (wc 7 nd) (zL (zBd (zJ9 hr (zD 6) (zD 3)) (zP (zBc (zCJ (zD 4) (zC (wT (wT (wT (wT (zCg (zD 0) zFn (zBi (zD 5))) (wb 89#0)) (zCg (zD 0) (zBi (zD 5)) (zBi (zD 7)))) (wb 89#0)) (zCg (zD 0) (zBi (zD 7)) zFn)) zI)))) yd) (zP (zBd (zSp (zD 7) 78#0) (zP (zq 6 nd (zLd (zD 6) (zPL zO (yK (zD 0) (zD 7)))))) yd))))))) (zP (zj (zD 4))))))
 have aY:Df l.prog w K mg base 1 "other_side" ["web","places"] zBK:=by
  obtain⟨f,fd,F,hm⟩:=Gv.gf X G gv22;have nd:=(zDC).nd;refine zh zAc F zDC hm 7#0 6#0 zIJ;unfold zAc;exact(zP (zj (zCH rfl ae (zBg "place" rfl (zt (osc:=zJ zB6) (N:=["web","places"]) (N0:=["!00","places"]) (own:=["place"]) 5#0) (wI rfl aa (zC 96#0 zI)) (fun u0 u0 u0 u0 u0=>(wz (zE7 hr (zD 2) (zD 1)))) (fun u0 u0 u0 u0 u0=>(zD 2))))))
 have bg:Df l.prog w K mg base 1 "_law_cell_at" ["script","k"] zBp:=by
  obtain⟨f,fd,F,hm⟩:=Gv.gf X G gv31;have nd:=(zEH).nd;refine zh zA4 F zEH hm 7#0 6#0 zI4;unfold zA4;exact(zL (zBd (zSp (zD 1) 78#0) (zP (zj (yK (zD 0) (zD 1)))) yd) (zP (zj zO)))
 have af:Df l.prog w K mg base 1 "_law_take" ["state","many"] yO:=by
  obtain⟨f,fd,F,hm⟩:=Gv.gf X G gv33;have nd:=(zHg).nd;refine zh zDg F zHg hm 7#0 6#0 zON;unfold zDg;exact(zL (zBd (zCG 96#0) (zL (zq 2 nd (zGw 96#0 (zD 1))) (zL (zRn (zHn 96#0 (zD 1)) (zT6 (zD 0) zO)) (zP (zj (zD 2))))) yd) (zL (zRn (zGw (wT (zEL 96#0 zO) zO) zO) (zT6 (zD 0) zO)) (zL (zq 3 nd (zGw (wT (wT (zEL 96#0 96#0) (zEL zO 96#0)) zO) zO)) (zL (zq 3 nd (zGw (wT (zEL (zD 3) (zD 3)) (zEL zO (zD 3))) zO)) (zP (zj (zGw (zHn (zD 3) zO) (zD 1))))))))
 have aN:Df l.prog w K mg base 1 "_law_pairs" ["many"] (spL zAB):=by
  obtain⟨f,fd,F,hm⟩:=Gv.gf X G gv34;have nd:=(zGX).nd;refine zh zCl F zGX hm 14#0 6#0 zMc;unfold zCl;exact(zL (zq 1 nd (zu (ww zI))) (zL (wO PassesOwn.never rfl (wI rfl aa (zC (zD 0) zI)) (wc 2 nd) (zP (zBc (zIu (zD 1) (zBg "other" rfl (zt (osc:=zJ zEd) (N:=["many","found","one"]) (N0:=["!00","!01","one"]) (own:=["other"]) 5#0) (zBM rfl aa (zC (wT (zD 2) zO) (zC (zD 0) zI))) 106#0 (fun u0 u0 u0 u0 u0=>(wb (zC (zD 2) (zC (zD 3) zI))))))))) (zP (zj (zD 1)))))
 have aZ:Df l.prog w K mg base 2 "are_places" ["many","thing"] zAE:=by
  obtain⟨f,fd,F,hm⟩:=Gv.gf X G gv1;have nd:=(zC6).nd;refine zh zAa F zC6 hm 7#0 6#0 zIH;unfold zAa;exact(zP (zj (zIs (zN2 (T:="tuple") rfl aq rfl ae 5#0 (zD 1)) (zIr (zRy rfl rfl bR (zBg "place" rfl (zt (osc:=zJ zB2) (N:=["many","thing"]) (N0:=["many","!01"]) (own:=["place"]) 5#0) (zAW (zD 1)) 106#0 (fun u0 u0 u0 u0 u0=>(zIs (zW bf hr 10#0 rfl 141#0) (zIr (zRz zK2 zNb 52#0 52#0 zO (zD 2) (zD 0)))))))))))
 have br:Df l.prog w K mg base 2 "pairs" ["many"] (spL wf):=by
  obtain⟨f,fd,F,hm⟩:=Gv.gf X G gv3;have nd:=(zJp).nd;refine zh zFA F zJp hm 14#0 6#0 zQe;unfold zFA;exact(zP (zj (zu (yc aK zC2 hr 10#0 rfl (zC (zN6 rfl rfl ae rfl aa (zC (zD 0) zI)) zI)))))
 have ah:Df l.prog w K mg base 2 "least" ["ring"] zx:=by
  obtain⟨f,fd,F,hm⟩:=Gv.gf X G gv10;have nd:=(zJr).nd;refine zh zFO F zJr hm 14#0 6#0 zRD;unfold zFO;exact(zL (zq 1 nd (zW bn hr 10#0 rfl (zC (zD 0) zI))) (zL (zq 2 nd (zD 0)) (zL (wO PassesOwn.never rfl (wI rfl aa (zC 78#0 zI)) (wc 3 nd) (zP (zq 2 nd (zTE hr rfl rfl aM (zC (zD 2) (zC (zW aw hr 10#0 rfl (zC (zD 0) (zC (zD 3) zI))) (zC (zW aw hr 10#0 rfl (zC (zD 1) (zC (zD 3) zI))) zI))))))) (zP (zj (zD 2))))))
 have bD:Df l.prog w K mg base 2 "around" ["web","place"] zEO:=by
  obtain⟨f,fd,F,hm⟩:=Gv.gf X G gv13;have nd:=(zHb).nd;refine zh zDf F zHb hm 7#0 6#0 zOL;unfold zDf;exact(zP (zj (zCH rfl ae (zBg "other" rfl (zt (osc:=zJ zGP) (N:=["web","place"]) (N0:=["web","place"]) (own:=["other"]) 5#0) (wI rfl aa (zC 96#0 zI)) (fun u0 u0 u0 u0 u0=>(wz (zCG (zW aX hr 10#0 rfl (zC (zD 0) (zC (zD 1) 141#0)))))) (fun u0 u0 u0 u0 u0=>(zD 2))))))
 have a8:Df l.prog w K mg base 2 "tied_among" ["web","place","others"] (spL zy):=by
  obtain⟨f,fd,F,hm⟩:=Gv.gf X G gv19;have nd:=(zDA).nd;refine zh zAg F zDA hm 49#0 6#0 zIX;unfold zAg;exact(zP (zj (zu (zBg "other" rfl (zt (osc:=zJ zB4) (N:=["web","place","others"]) (N0:=["web","place","!02"]) (own:=["other"]) 5#0) (zAW (zD 2)) (fun u0 u0 u0 u0 u0=>(wz (zCG (zW aX hr 10#0 rfl (zC (zD 0) (zC (zD 1) (zC (zD 3) zI))))))) (fun u0 u0 u0 u0 u0=>(zD 3))))))
 have bE:Df l.prog w K mg base 2 "row_of" ["web","place","others"] zEX:=by
  obtain⟨f,fd,F,hm⟩:=Gv.gf X G gv24;have nd:=(zHd).nd;refine zh zD1 F zHd hm 49#0 6#0 zPN;unfold zD1;exact(zP (zj (zLf rfl rfl bS (zBg "other" rfl (zt (osc:=zJ zGT) (N:=["web","place","others"]) (N0:=["web","place","!02"]) (own:=["other"]) 5#0) (zAW (zD 2)) (fun u0 u0 u0 u0 u0=>(wz (zCG (zW aX hr 10#0 rfl (zC (zD 0) (zC (zD 1) (zC (zD 3) zI))))))) (fun u0 u0 u0 u0 u0=>(zPL zO (zD 3)))))))
 have aG:Df l.prog w K mg base 2 "all_with_chord" ["rings","place","crossed"] (spL yR):=by
  obtain⟨f,fd,F,hm⟩:=Gv.gf X G gv28;have nd:=(zBG).nd;refine zh wB F zBG hm 49#0 6#0 zEc;unfold wB;exact(zL (zq 3 nd (zu (ww zI))) (zL (wO PassesOwn.never rfl (zAW (zD 0)) (wc 4 nd) (zP (zBc (zIu (zD 3) (yc a9 zCB hr 10#0 rfl (zC (zD 4) (zC (zD 1) 141#0))))))) (zP (zj (zD 3)))))
 have aD:Df l.prog w K mg base 2 "_law_state" ["script","k"] (spL yt):=by
  obtain⟨f,fd,F,hm⟩:=Gv.gf X G gv32;have nd:=(zGW).nd;refine zh zCj F zGW hm 7#0 6#0 zMa;unfold zCj;exact(zL (zq 2 nd (zW bg hr 10#0 rfl (zC (zD 0) 89#0))) (zL (zBd (zUx (zD 2) (zRo zO zO)) (zP (zj (zu (ww (zC (zLC (zD 2) (zRo zO zO)) (zC zFc zI)))))) yd) (zP (zj (zu (ww (zC (zGw (zD 2) zO) (zC zFc zI))))))))
 have aC:Df l.prog w K mg base 2 "_law_ring" ["state","many"] zBT:=by
  obtain⟨f,fd,F,hm⟩:=Gv.gf X G gv36;have nd:=(zHh).nd;refine zh zDh F zHh hm 7#0 6#0 zOP;unfold zDh;exact(zL (zq 2 nd (zu (zUA (zu (zLF rfl rfl bC rfl aa 89#0)) zO))) (zP (zj (zCH rfl ae (zBg "k" rfl (zt (osc:=zJ zGY) (N:=["state","many","left"]) (N0:=["state","!01","left"]) (own:=["k"]) 5#0) (wI rfl aa (zC (zEL zO (zD 1)) zI)) 106#0 (fun u0 u0 u0 u0 u0=>(zRr (zD 2) (zC (zW af hr 10#0 rfl (zC (zD 0) (zC (yj rfl ab 141#0) zI))) zI))))))))
 have bo:Df l.prog w K mg base 2 "_law_web_of" ["ring"] zA6:=by
  obtain⟨f,fd,F,hm⟩:=Gv.gf X G gv37;have nd:=(zEw).nd;refine zh zBr F zEw hm 14#0 6#0 zKK;unfold zBr;exact(zL (zq 1 nd (zHn 78#0 zO)) (zL (zq 2 nd (zu (ww zI))) (zL (wO PassesOwn.never rfl (zIq (yc aN zDe hr 10#0 rfl 89#0)) (zT5 3 4 rfl nd) (zL (zHq 5 "place" rfl (zt (osc:=zJ zDS) (N:=["ring","many","found","one","other","some"]) (N0:=["!00","!01","!02","one","other","!05"]) (own:=["place"]) 5#0) (zAW (zD 0)) (fun u0 u0 u0 u0 u0=>(wz (zUz hr (zD 6) (wb (zC (zD 3) (zC (zD 4) zI)))))) (fun u0 u0 u0 u0 u0=>(zD 6)) nd) (zP (zBd (W2.test (w_and (zFg hr (yK (zD 5) zO) (yK (zD 5) zO)) (zJ5 (zFg hr (yK (zD 5) zO) (yK (zD 5) zO))))) (zP (zBc (zCJ (zD 2) (zC (wb (zC (zD 3) (zC (zD 4) zI))) zI)))) yd)))) (zP (zj (wb (zC (zD 1) (zC (zLE rfl ae 141#0) zI))))))))
 have aF:Df l.prog w K mg base 2 "_law_order" ["state","many"] zAs:=by
  obtain⟨f,fd,F,hm⟩:=Gv.gf X G gv38;have nd:=(zGZ).nd;refine zh zCm F zGZ hm 7#0 6#0 zMd;unfold zCm;exact(zL (zq 2 nd (zu (zLF rfl rfl bC rfl aa 89#0))) (zP (zj (zCH rfl ae (zBg "k" rfl (zt (osc:=zJ zEe) (N:=["state","many","left"]) (N0:=["state","!01","left"]) (own:=["k"]) 5#0) (wI rfl aa 89#0) 106#0 (fun u0 u0 u0 u0 u0=>(zRr (zD 2) (zC (zW af hr 10#0 rfl (zC (zD 0) (zC (yj rfl ab 141#0) zI))) zI))))))))
 have au:Df l.prog w K mg base 3 "web_of" ["ring"] wU:=by
  obtain⟨f,fd,F,hm⟩:=Gv.gf X G gv7;have nd:=(zHa).nd;refine zh zDk F zHa hm 14#0 6#0 zOX;unfold zDk;exact(zL (zq 1 nd (zHn 78#0 zO)) (zP (zj (wb (zC (zD 1) (zC (zCH rfl ae (zBg "pair" rfl (zt (osc:=zJ zGN) (N:=["ring","many"]) (N0:=["ring","!01"]) (own:=["pair"]) 5#0) (zIq (yc br zDF hr 10#0 rfl 89#0)) (fun u0 u0 u0 u0 u0=>(wz (zCG (zW bQ hr 10#0 rfl (zC (zD 0) (zC (yK (zD 2) zO) (zC (yK (zD 2) zO) zI))))))) (fun u0 u0 u0 u0 u0=>(zD 2)))) zI))))))
 have bh:Df l.prog w K mg base 3 "same" ["one","other"] zD0:=by
  obtain⟨f,fd,F,hm⟩:=Gv.gf X G gv11;have nd:=(zL4).nd;refine zh zKh F zL4 hm 7#0 6#0 zTQ;unfold zKh;exact(zP (zj (zNw hr (zW ah hr 10#0 rfl (zC (zD 0) zI)) (zW ah hr 10#0 rfl 89#0))))
 have bU:Df l.prog w K mg base 3 "kept" ["web","places"] zFD:=by
  obtain⟨f,fd,F,hm⟩:=Gv.gf X G gv14;have nd:=(zL6).nd;refine zh zH1 F zL6 hm 7#0 6#0 zTB;unfold zH1;exact(zL (zq 2 nd (yj rfl ab 89#0)) (zL (zHq 3 "pair" rfl (zt (osc:=zJ zKy) (N:=["web","places","many","ties"]) (N0:=["web","places","!02","!03"]) (own:=["pair"]) 5#0) (zIq (yc br zDF hr 10#0 rfl 141#0)) (fun u0 u0 u0 u0 u0=>(wz (zCG (zW aX hr 10#0 rfl (zC (zD 0) (zC (yK (zD 1) (yK (zD 4) zO)) (zC (yK (zD 1) (yK (zD 4) zO)) zI))))))) (fun u0 u0 u0 u0 u0=>(zD 4)) nd) (zP (zj (wb (zC (zD 2) (zC (zLE rfl ae (zC (zD 3) zI)) zI)))))))
 have b8:Df l.prog w K mg base 3 "near_order" ["web"] (spL yi):=by
  obtain⟨f,fd,F,hm⟩:=Gv.gf X G gv18;have nd:=(zC9).nd;refine zh zAh F zC9 hm 14#0 6#0 zIZ;unfold zAh;exact(zL (zq 1 nd (zu (ww zI))) (zL (zN7 PassesOwn.never (zSp (yj rfl ab 89#0) 96#0) (zL (zHq 2 "place" rfl (zt (osc:=zJ zAi) (N:=["web","order","rest"]) (N0:=["!00","order","!02"]) (own:=["place"]) 5#0) (wI rfl aa (zC 96#0 zI)) (fun u0 u0 u0 u0 u0=>(wz (zE7 hr (zD 3) (zD 1)))) (fun u0 u0 u0 u0 u0=>(zD 3)) nd) (zP (zBc (zCJ (zD 1) (zC (yK (zTd hr rfl rfl b9 (zBg "place" rfl (zt (osc:=zJ zAi) (N:=["web","order","rest"]) (N0:=["web","order","!02"]) (own:=["place"]) 5#0) (zAW (zD 2)) 106#0 (fun u0 u0 u0 u0 u0=>(wb (zC (yj rfl ab (zC (zu (yc a8 zAU hr 10#0 rfl (zC (zD 0) (zC (zD 3) 89#0)))) zI)) (zC (zD 3) zI)))))) zO) zI)))))) (zP (zj (zD 1)))))
 have bp:Df l.prog w K mg base 3 "cut_rank" ["web","places"] zBE:=by
  obtain⟨f,fd,F,hm⟩:=Gv.gf X G gv23;have nd:=(zEs).nd;refine zh zBx F zEs hm 7#0 6#0 zKk;unfold zBx;exact(zL (zq 2 nd (zW aY hr 10#0 rfl (zC (zD 0) 89#0))) (zL (zq 3 nd (zu (ww zI))) (zL (wO PassesOwn.never rfl (zAW (zD 1)) (wc 4 nd) (zL (zq 5 nd (zW bE hr 10#0 rfl (zC (zD 0) (zC (zD 4) 141#0)))) (zL (wO PassesOwn.never rfl (zAW (zD 3)) (wc 6 nd) (zP (zq 5 nd (zNz rfl rfl aM (zC (zD 5) (zC (zLd (zD 5) (zD 6)) zI)))))) (zP (zBd (zFg hr (zD 5) zO) (zP (zBc (zCJ (zD 3) (zC (zD 5) zI)))) yd))))) (zP (zj (yj rfl ab (zC (zD 3) zI)))))))
 have ag:Df l.prog w K mg base 3 "all_rings" ["web"] (spL zm):=by
  obtain⟨f,fd,F,hm⟩:=Gv.gf X G gv27;have nd:=(zEF).nd;refine zh zBF F zEF hm 14#0 6#0 zJj;unfold zBF;exact(zL (zBc (zW az hr 10#0 rfl (zC 96#0 (zC (zHv rfl bb) zI)))) (zL (zq 1 nd (zu (ww (zC (wb (zC zO (zC zO zI))) zI)))) (zL (wO PassesOwn.never rfl (zBM rfl aa (zC zO (zC 96#0 zI))) (wc 2 nd) (zP (zq 1 nd (zu (yc aG zCw hr 10#0 rfl (zC (zD 1) (zC (zD 2) (zC (zu (yc a8 zAU hr 10#0 rfl (zC (zD 0) (zC (zD 2) (zC (zN6 rfl rfl ae rfl aa 141#0) zI))))) zI)))))))) (zP (zj (zu (zKo hr rfl rfl aj rfl ba (zBg "ring" rfl (zt (osc:=zJ zCY) (N:=["web","rings","place"]) (N0:=["!00","!01","!02"]) (own:=["ring"]) 5#0) (zAW (zD 1)) 106#0 (fun u0 u0 u0 u0 u0=>(zW ah hr 10#0 rfl (zC (zD 3) zI)))))))))))
 have ak:Df l.prog w K mg base 3 "web_turned" ["web","place"] yh:=by
  obtain⟨f,fd,F,hm⟩:=Gv.gf X G gv30;have nd:=(zDD).nd;refine zh zAd F zDD hm 7#0 6#0 zIV;unfold zAd;exact(zL (zq 2 nd (zu (yc aK zC2 hr 10#0 rfl (zC (zW bD hr 10#0 rfl (zC (zD 0) 89#0)) zI)))) (zP (zj (wb (zC 96#0 (zC (zCH rfl ae (zMv 2 hr rfl rfl aj rfl ba (zC 96#0 zI))) zI))))))
 have aP:Df l.prog w K mg base 3 "_law_web" ["state","most"] zDi:=by
  obtain⟨f,fd,F,hm⟩:=Gv.gf X G gv35;have nd:=(zJv).nd;refine zh zFC F zJv hm 7#0 6#0 zQh;unfold zFC;exact(zL (zq 2 nd (wT zO (zW af hr 10#0 rfl (zC (zD 0) 89#0)))) (zL (zq 3 nd (zW af hr 10#0 rfl (zC (zD 0) (zC zO zI)))) (zL (zq 4 nd (zu (yc aN zDe hr 10#0 rfl 141#0))) (zL (zBd (zJ9 hr (zD 3) zO) (zP (zj (zW bo hr 10#0 rfl (zC (zW aC hr 10#0 rfl (zC (zD 0) 141#0)) zI)))) yd) (zL (zBd (zJ9 hr (zD 3) zO) (zP (zj (wb (zC (zD 2) (zC (zCH rfl ae (zBg "pair" rfl (zt (osc:=zJ zFW) (N:=["state","most","many","way","pairs_v","far"]) (N0:=["state","!01","!02","!03","!04","!05"]) (own:=["pair"]) 5#0) (zAW (zD 4)) (fun u0 u0 u0 u0 u0=>(wz (W2.test (w_or (zJ9 hr (yK (zD 6) zO) (wT (yK (zD 6) zO) zO)) (zGv (zJ9 hr (zW af hr 10#0 rfl (zC (zD 0) (zC zO zI))) zO)))))) (fun u0 u0 u0 u0 u0=>(zD 6)))) zI))))) yd) (zL (zq 5 nd (yK (zu (ww (zC zO (zC zO (zC zO zI))))) (zLC (zD 3) zO))) (zP (zj (wb (zC (zD 2) (zC (zCH rfl ae (zBg "pair" rfl (zt (osc:=zJ zFW) (N:=["state","most","many","way","pairs_v","far"]) (N0:=["state","!01","!02","!03","!04","far"]) (own:=["pair"]) 5#0) (zAW (zD 4)) (fun u0 u0 u0 u0 u0=>(wz (zJ9 hr (zW af hr 10#0 rfl (zC (zD 0) (zC (zD 5) zI))) zO))) (fun u0 u0 u0 u0 u0=>(zD 6)))) zI)))))))))))
 have aR:Df l.prog w K mg base 4 "named" ["web","order"] zBU:=by
  obtain⟨f,fd,F,hm⟩:=Gv.gf X G gv15;have nd:=(zJs).nd;refine zh zFE F zJs hm 7#0 6#0 zQi;unfold zFE;exact(zP (zj (zW bU hr 10#0 rfl (zC (zD 0) 89#0))))
 have aQ:Df l.prog w K mg base 4 "tells" ["ring","web"] zAM:=by
  obtain⟨f,fd,F,hm⟩:=Gv.gf X G gv16;have nd:=(zJt).nd;refine zh zFT F zJt hm 7#0 6#0 zRd;unfold zFT;exact(zP (zj (zNw hr (zW au hr 10#0 rfl (zC (zD 0) zI)) (zD 1))))
 have bq:Df l.prog w K mg base 4 "is_split" ["web","places"] zCT:=by
  obtain⟨f,fd,F,hm⟩:=Gv.gf X G gv25;have nd:=(zEt).nd;refine zh zBy F zEt hm 7#0 6#0 zKl;unfold zBy;exact(zL (zBd (W2.test (w_or (zNt (zCG (zW aZ hr 10#0 rfl (zC 96#0 89#0)))) (zGv (zNt (zCG (zW aW hr 10#0 rfl 89#0)))))) (zP (zj zFc)) yd) (zP (zj (zIs (zRz zK2 zK2 52#0 52#0 zO (yj rfl ab 89#0) (zLC 96#0 zO)) (zIr (zUu (zW bp hr 10#0 rfl (zC (zD 0) 89#0)) zO))))))
 have bF:Df l.prog w K mg base 5 "splits" ["web"] (spL zBY):=by
  obtain⟨f,fd,F,hm⟩:=Gv.gf X G gv26;have nd:=(zHe).nd;refine zh zGE F zHe hm 14#0 6#0 zPO;unfold zGE;exact(zL (zq 1 nd (zu (ww (zC (wb (zC zO zI)) zI)))) (zL (wO PassesOwn.never rfl (zBM rfl aa (zC zO (zC 96#0 zI))) (wc 2 nd) (zP (zq 1 nd (zu (zUC (zD 1) (zu (zBg "side" rfl (zt (osc:=zJ zEE) (N:=["web","sides","place"]) (N0:=["!00","!01","place"]) (own:=["side"]) 5#0) (zAW (zD 1)) 106#0 (fun u0 u0 u0 u0 u0=>(wT (zD 3) (wb 141#0)))))))))) (zP (zj (zu (zKZ rfl aj (zBg "side" rfl (zt (osc:=zJ zEE) (N:=["web","sides","place"]) (N0:=["web","!01","!02"]) (own:=["side"]) 5#0) (zAW (zD 1)) (fun u0 u0 u0 u0 u0=>(wz (zCG (zW bq hr 10#0 rfl (zC (zD 0) (zC (zD 3) zI)))))) (fun u0 u0 u0 u0 u0=>(zD 3)))))))))
 have aA:Df l.prog w K mg base 6 "is_whole" ["web"] wX:=by
  obtain⟨f,fd,F,hm⟩:=Gv.gf X G gv29;have nd:=(zEu).nd;refine zh zBz F zEu hm 14#0 6#0 zKn;unfold zBz;exact(zP (zj (zIs (zUv 96#0 (zHv rfl aJ)) (zIr (zNw hr (zu (yc bF zJW hr 10#0 rfl (zC (zD 0) zI))) (zu (ww zI)))))))
 have bG:Df l.prog w K mg base 3 "grown" ["web","order","done","ring"] (zAL 0):=zNU (Gv.gf X G gv20);have bH:=zAN (P:=l.prog) (w:=w) (base:=base) (Gv.gf X G gv20) ab a8 10#0 a9 10#0 bG;have bI:=zAN (P:=l.prog) (w:=w) (base:=base) (Gv.gf X G gv20) ab a8 10#0 a9 10#0 bH;have bJ:=zAN (P:=l.prog) (w:=w) (base:=base) (Gv.gf X G gv20) ab a8 10#0 a9 10#0 bI;have bK:=zAN (P:=l.prog) (w:=w) (base:=base) (Gv.gf X G gv20) ab a8 10#0 a9 10#0 bJ;have bL:=zAN (P:=l.prog) (w:=w) (base:=base) (Gv.gf X G gv20) ab a8 10#0 a9 10#0 bK;have bM:=zAN (P:=l.prog) (w:=w) (base:=base) (Gv.gf X G gv20) ab a8 10#0 a9 10#0 bL;have bN:=zAN (P:=l.prog) (w:=w) (base:=base) (Gv.gf X G gv20) ab a8 10#0 a9 10#0 bM;have aO:=zAN (P:=l.prog) (w:=w) (base:=base) (Gv.gf X G gv20) ab a8 10#0 a9 10#0 bN;have aE:Df l.prog w K mg base 12 "ring_of" ["web"] zAC:=by
  obtain⟨f,fd,F,hm⟩:=Gv.gf X G gv17;have nd:=(zGQ).nd;refine zh zCs F zGQ hm 14#0 6#0 zNP;unfold zCs;exact(zL (zBc (zW az hr 10#0 rfl (zC 96#0 (zC (zHv rfl aV) zI)))) (zL (zq 1 nd (zu (yc b8 zE4 hr 10#0 rfl (zC (zD 0) zI)))) (zP (zj (zW aO hr 10#0 rfl (zC (zD 0) (zC (zD 1) (zC zO (zC (wb (zC (yK (zD 1) zO) (zC (yK (zD 1) zO) zI))) zI)))))))))
 exact zTh (zNm (st:=zCZ) l39 c39 k39) aa b9 aM ab aj ba aD af aC aP au ag aQ ah aE aA aF aR ak bh
end K
open PySem PySem.W PyProof.Rows
set_option maxRecDepth 100000 in
set_option maxHeartbeats 0 in
theorem PySem.Challenge.cw_chordwebs_k73_whole_rings_of_webs_holds : PySem.Challenge.rw_chordwebs_k73_whole_rings_of_webs.Holds := by
 w_on;o_law
 refine holds_open (q:=K.kq) (d:=?d) (kwd:=?kw) (XP:=XL K.kq []) (YP:=(kHook K.kf K.ka K.ke).says) K.hl ?h1 ?h2 ?h3 XL.keeps ?h4 ?h5 ?h6 ?h7 ?h8 ?h9 ?h10 ?h11 ?hw ?hc
 (case h1=>exact(kHook K.kf K.ka K.ke).of)
 (case h2=>exact(kHook K.kf K.ka K.ke).keeps)
 (case h3=>intro s e;exact xl_of s (Bool.and_eq_true_iff.mp e).1)
 (case h4=>rfl)
 (case h5=>rfl)
 (case h6=>rfl)
 (case h7=>intro s e;exact recFacts_of (Bool.and_eq_true_iff.mp e).2)
 (case h8=>rfl)
 (case h9=>assumption)
 (case h10=>decide +kernel)
 (case h11=>exact⟨rfl,rfl,rfl,rfl,rfl,by decide +kernel⟩)
 (case hw=>w_witness2)
 k_fill
 refine L3.zN9 (l:=PySem.Challenge.rw_chordwebs_k73_whole_rings_of_webs) (k:=13) rfl rfl ⟨rfl,by decide,by decide⟩ (fun w h Y=>⟨PySem.W.kIn_of Y,[],fun u0=>"",⟨(fun u0 h=>nomatch h),(fun u0 h=>nomatch h),(fun u0 h=>nomatch h),fun x hx=>nomatch hx⟩⟩) ?F
 case F =>
  intro w mg fa h KX G hmg;refine' K.zTi KX G hmg ?gv0 ?gv1 ?gv2 ?gv3 ?gv4 ?gv5 ?gv6 ?gv7 ?gv8 ?gv9 ?gv10 ?gv11 ?gv12 ?gv13 ?gv14 ?gv15 ?gv16 ?gv17 ?gv18 ?gv19 ?gv20 ?gv21 ?gv22 ?gv23 ?gv24 ?gv25 ?gv26 ?gv27 ?gv28 ?gv29 ?gv30 ?gv31 ?gv32 ?gv33 ?gv34 ?gv35 ?gv36 ?gv37 ?gv38 ?a39 ?l39 ?c39 ?k39 ?ao ?av ?ai ?ap ?bu ?bi ?aT ?bv ?aU ?bw ?aB ?bx ?bz ?bA ?aI ?bB ?bj
  (case gv0 | gv1 | gv2 | gv3 | gv4 | gv5 | gv6 | gv7 | gv8 | gv9 | gv10 | gv11 | gv12 | gv13 | gv14 | gv15 | gv16 | gv17 | gv18 | gv19 | gv20 | gv21 | gv22 | gv23 | gv24 | gv25 | gv26 | gv27 | gv28 | gv29 | gv30 | gv31 | gv32 | gv33 | gv34 | gv35 | gv36 | gv37 | gv38=>apply K.Gv.of;(case a=>k_is);(case l=>k_is);(case c=>k_is);(case k=>k_is))
  (case a39 | l39 | c39 | k39 | ao | av | ai | ap | bu | bi | aT | bv | aU | bw | aB | bx | bz | bA | aI | bB | bj=>k_is)
#print axioms PySem.Challenge.cw_chordwebs_k73_whole_rings_of_webs_holds
