import PyProof.Rows.All
import Wide.All
import OpenK.AllK
import Wide.FinOn
import PyProof.EqAt
import PyProof.EqKinds
import PyProof.TupleCall
import KE.BitLaws
import Open.SpecLaws
import KE.OsHead
import KE.OsGo
import KE.KTryMore
import PyProof.Rows.SetFrom
import OpenK.KRaise
import KE.KTryOn
import VaamoaSpec
import PySem.Challenge.RW0_payinglists_s01_answers
import PyVaamoa
import PyProof.ExcBaseAll.Exception
import PySem.Challenge.RW_payinglists_s01_answers
set_option linter.all false
set_option Elab.async false
set_option maxRecDepth 100000
set_option maxHeartbeats 4000000
macro "dk!" : tactic => `(tactic| decide +kernel)
macro "t!" n:Lean.Parser.Command.declId s:Lean.Parser.Command.declSig v:Lean.Parser.Command.declVal : command => `(theorem $n:declId $s:declSig $v:declVal)
macro "e!" t:term : tactic => `(tactic| exact $t)
macro "r!" t:term : tactic => `(tactic| refine $t)
macro "o!" p:Lean.Parser.Tactic.rcasesPatMed ":=" t:term : tactic => `(tactic| obtain $p:rcasesPatMed := $t)
set_option hygiene false
macro "v!" : command => `(variable {P : Program} {w : World} {K : PySem.W.Frag} {mg : Str → Option Value} {base : Heap} {a : Ad})
macro:max "FA!" : term => `(aK P w K mg base (bA P w))
macro:max "FB!" : term => `(aK P w K mg base Yt)
set_option hygiene true
set_option hygiene false
macro "w!" : tactic => `(tactic| omega)
macro:max "n!" : term => `(if_neg)
macro "~" d:Lean.Parser.Term.letDecl : tactic => `(tactic| have $d:letDecl)
macro:max "%aa" : term => `(Option.bind_eq_some_iff.mp)
macro:max "%ab" : term => `(Option.map_eq_some_iff.mp)
macro:max "%ac" : term => `(List.length_map)
macro:max "%ad" : term => `(Str.ofString)
macro:max "%ae" : term => `(List.getElem?_eq_some_iff.mp)
macro:max "%af" : term => `(List.mem_cons_of_mem)
macro:max "%ag" : term => `(PySem.W.Frag)
macro:max "%ah" : term => `(PySem.F.plainAttrs_list)
macro:max "%ai" : term => `(Nat.lt_of_le_of_lt)
macro:max "%aj" : term => `(Nat.le_trans)
macro:max "%ak" : term => `(List.mem_cons.mp)
macro:max "%al" : term => `(List.getElem?_map)
macro:max "%am" : term => `(Nat.le_refl)
macro:max "%an" : term => `(List.mem_cons_self)
macro:max "%ao" : term => `(Bool.false_ne_true)
macro:max "%ap" : term => `(Heap.get?_push_of_some)
macro:max "%aq" : term => `(List.length_append)
macro:max "%ar" : term => `(PySem.boot_len)
macro:max "%as" : term => `(PySem.F.type_list_append)
macro:max "%at" : term => `(PySem.F.slot_list_append)
macro:max "%au" : term => `(Or.inl)
macro:max "%av" : term => `(Heap.lt_size)
macro:max "%aw" : term => `(PySem.W.nsIn)
macro:max "%ax" : term => `(Option.bind_some)
macro:max "%ay" : term => `(List.take_add_one)
macro:max "%az" : term => `(List.all_eq_true.mp)
macro:max "%aA" : term => `(Heap.get?_push_size)
macro:max "%aB" : term => `(Nat.lt_of_lt_of_le)
macro:max "%aC" : term => `(List.take_of_length_le)
macro:max "%aD" : term => `(Option.some.inj)
macro:max "%aE" : term => `(Nat.zero_le)
macro:max "%aF" : term => `(Vaamoa.Value)
macro:max "%aG" : term => `(List.size_toArray)
macro:max "%aH" : term => `(List.length_take)
macro:max "%aI" : term => `(PySem.W.exmOne)
macro:max "%aJ" : term => `(Nat.ne_of_lt)
macro:max "%aK" : term => `(PySem.mem_of_lookup)
macro:max "%aL" : term => `(Value.ref)
macro:max "%aM" : term => `(List.map_cons)
macro:max "%aN" : term => `(List.mem_singleton.mp)
macro:max "%aO" : term => `(Sum.inr)
macro:max "%aP" : term => `(Vaamoa.Kind)
macro:max "%aQ" : term => `(Vaamoa.Fun)
macro:max "%aR" : term => `(PySem.W.keepIn)
macro:max "%aS" : term => `(PySem.W.findIn)
macro:max "%aT" : term => `(List.drop_eq_getElem_cons)
macro:max "%aU" : term => `(List.length_drop)
macro:max "%aV" : term => `(List.length_cons)
macro:max "%aW" : term => `(List.getElem?_eq_getElem)
macro:max "%aX" : term => `(PySem.W.mg_none_of)
macro:max "%aY" : term => `(PySem.F.type_list_pop)
macro:max "%aZ" : term => `(PySem.F.slot_list_pop)
macro:max "%ba" : term => `(List.mem_append_right)
macro:max "%bb" : term => `(UInt8.ofNat)
macro:max "%bc" : term => `(List.length_reverse)
macro:max "%bd" : term => `(List.map_append)
macro:max "%be" : term => `(Bool.noConfusion)
macro:max "%bf" : term => `(False.elim)
macro:max "%bg" : term => `(List.mem_of_getElem?)
macro:max "%bh" : term => `(Builtin.Str.strSliceIndices)
macro:max "%bi" : term => `(Heap.size_push)
macro:max "%bj" : term => `(Vaamoa.Tick)
macro:max "%bk" : term => `(PySem.W.kia_one)
macro:max "%bl" : term => `(Bool.eq_iff_iff)
macro:max "%bm" : term => `(Bool.and_eq_true)
macro:max "%bn" : term => `(List.flatMap_cons)
macro:max "%bo" : term => `(Decidable.byContradiction)
macro:max "%bp" : term => `(PySem.W.hideAll)
macro:max "%bq" : term => `(List.length_filter_le)
macro:max "%br" : term => `(Vaamoa.both)
macro:max "%bs" : term => `(List.take_length)
macro:max "%bt" : term => `(Array.getElem?_eq_some_iff.mp)
macro:max "%bu" : term => `(List.mem_take_iff_getElem.mp)
macro:max "%bv" : term => `(Vaamoa.without)
macro:max "%bw" : term => `(Vaamoa.Env)
macro:max "%bx" : term => `(Nat.add_le_add_left)
macro:max "%by" : term => `(List.find?_cons)
macro:max "%bz" : term => `(PySem.W.fnOf)
macro:max "%bA" : term => `(List.mem_append.mp)
macro:max "%bB" : term => `(Vaamoa.runWith)
macro:max "%bC" : term => `(List.mem_of_find?_eq_some)
macro:max "%bD" : term => `(PySem.W.instObj)
macro:max "%bE" : term => `(PySem.W.emptyDict)
macro:max "%bF" : term => `(PySem.F.type_list_extend)
macro:max "%bG" : term => `(PySem.F.slot_list_extend)
macro:max "%bH" : term => `(List.mem_map.mp)
macro:max "%bI" : term => `(List.append_nil)
macro:max "%bJ" : term => `(Nat.lt_irrefl)
macro:max "%bK" : term => `(List.isPrefixOf_iff_prefix.mp)
macro:max "%bL" : term => `(PyVaamoa.shape)
macro:max "%bM" : term => `(PyProof.Rows.boot_dict)
macro:max "%bN" : term => `(Calls.callWith_builtin)
macro:max "%bO" : term => `(List.filter_append)
macro:max "%bP" : term => `(Nat.min_eq_left)
macro:max "%bQ" : term => `(List.length_singleton)
macro:max "%bR" : term => `(List.length)
macro:max "%bS" : term => `(List.getElem?_eq_none)
macro:max "%bT" : term => `(Value.none)
macro:max "%bU" : term => `(Nat.lt_succ_of_lt)
macro:max "%bV" : term => `(PySem.W.codeIn)
macro:max "%bW" : term => `(PySem.W.plainGet)
macro:max "%bX" : term => `(Nat.succ_le_succ)
macro:max "%bY" : term => `(Nat.min_le_right)
macro:max "%bZ" : term => `(List.map_congr_left)
macro:max "%ca" : term => `(Vaamoa.bound)
macro:max "%cb" : term => `(Builtin.List.listTooLong)
macro:max "%cc" : term => `(PySem.StrLaws.sliceText)
macro:max "%cd" : term => `(List.mem_singleton.mpr)
macro:max "%ce" : term => `(List.drop_eq_nil_of_le)
macro:max "%cf" : term => `(Value.type)
macro:max "%cg" : term => `(Vaamoa.step)
macro:max "%ch" : term => `(Vaamoa.Call)
macro:max "%ci" : term => `(PySem.W.hasDictIn)
macro:max "%cj" : term => `(PyProof.Rows.boot_int)
macro:max "%ck" : term => `(List.all_eq_true)
macro:max "%cl" : term => `(List.mem_append_left)
macro:max "%cm" : term => `(Vaamoa.either)
macro:max "%cn" : term => `(PySem.W.mg_of)
macro:max "%co" : term => `(List.sum_cons)
macro:max "%cp" : term => `(List.any_cons)
macro:max "%cq" : term => `(Sum.inl)
macro:max "%cr" : term => `(Array.length_toList)
macro:max "%cs" : term => `(List.length_eq_zero_iff.mp)
macro:max "%ct" : term => `(List.isPrefixOf_iff_prefix)
macro:max "%cu" : term => `(List.map_map)
macro:max "%cv" : term => `(Heap.SameBut)
macro:max "%cw" : term => `(Codec.encAll)
macro:max "%cx" : term => `(Calls.spliced_cons)
macro:max "%cy" : term => `(List.drop_zero)
macro:max "%cz" : term => `(List.drop_drop)
macro:max "%cA" : term => `(True.intro)
macro:max "%cB" : term => `(PySem.W.plainOver)
macro:max "%cC" : term => `(Nat.le_of_succ_le)
macro:max "%cD" : term => `(List.append_assoc)
macro:max "%cE" : term => `(Vaamoa.Out_)
macro:max "%cF" : term => `(PyVaamoa.answers)
macro:max "%cG" : term => `(Nat.lt_succ_self)
macro:max "%cH" : term => `(Nat.le_add_right)
macro:max "%cI" : term => `(List.filter_cons)
macro:max "%cJ" : term => `(List.getElem?_set_self)
macro:max "%cK" : term => `(Heap.get?_update_other)
set_option hygiene true
macro:max "sc!" : term => `(⟨rfl,rfl,rfl,by dk!,rfl,by dk!,by dk!⟩)
set_option hygiene false
macro:max "aa!" : term => `(λcdv A outer s H vs Q E hr h=>?_)
macro:max "ab!" : term => `(λvs H Q E h=>?_)
macro:max "ac!" : term => `(["node","bound","named"])
macro:max "ad!" : term => `(ao (pv 0) rfl)
macro:max "ae!" : term => `(["run","node","bound"])
macro:max "af!" : term => `(model X.prog X.w)
macro:max "ag!" : term => `(by decide)
macro:max "ah!" : term => `(["holder","feed"])
macro:max "ai!" : term => `(by simp)
macro:max "aj!" : term => `(cellsFrom (s3.heap.objs.size+1) scope.names (cH X.env.cells scope.names []))
macro:max "ak!" : term => `(aF (bH (pv 0) T.aN T.bJ GT hr T.bI .nil aB (aa cN ag)))
macro:max "al!" : term => `(%au rfl)
macro:max "am!" : term => `(X.yI s H scope (compEnvC scope cl C X.env) fp)
macro:max "an!" : term => `(Addr×Obj)
macro:max "ao!" : term => `(gp (bA P w) P w K mg base N qual scope f cd A outer s H E)
macro:max "ap!" : term => `(strOf x)
macro:max "aq!" : term => `(by intro z;e! absurd z.1 (by dk!))
macro:max "ar!" : term => `(λ_ _=>rfl)
macro:max "as!" : term => `(ao (pv 1) rfl)
macro:max "at!" : term => `(t.drop i)
macro:max "au!" : term => `(aa (pv 2) ag)
macro:max "av!" : term => `(.ListComp elt [⟨tg,iter,ifs,0⟩] scope pos)
macro:max "aw!" : term => `(["self","node","bound"])
macro:max "ax!" : term => `(bL cI rfl rfl T.aS T.bj)
macro:max "ay!" : term => `(.lst ((((p.length:Int)::(p.take n).flatMap Vo).map V.int)++(V.int (((fu.params.map λq=>kindNumber q.kind).map V.int).length:Nat)::(fu.params.map λq=>kindNumber q.kind).map V.int)))
macro:max "az!" : term => `(model prog w)
macro:max "aA!" : term => `(s.heap.objs.size+1)
macro:max "aB!" : term => `(if gn < 0 then _ else given p[gn.toNat]? 3 _)
macro:max "aC!" : term => `(by simp only[aj];w!)
macro:max "aD!" : term => `(aQ (v:=.int 0) rfl g1 ⟨t1,rfl⟩)
macro:max "aE!" : term => `(x == ("__debug__":Str))
macro:max "aF!" : term => `(aa (pv 1) ag)
macro:max "aG!" : term => `([V.int (nodeNumber z.1)]++(V.int (((codes (textOf z.1)).map λn=>V.int (n:Nat)).length:Nat)::(codes (textOf z.1)).map λn=>V.int (n:Nat)))
macro:max "aH!" : term => `(["self","signs"])
macro:max "aI!" : term => `(X.yI s3 H3 scope ce fp)
macro:max "aJ!" : term => `(aQ (v:=.int 1) rfl g2 ⟨t2,rfl⟩)
macro:max "aK!" : term => `((∀ σ' H',N σ' H'->∃ m',m' < m/\W (i+1) m' σ' H'))
macro:max "aL!" : term => `(.lst [])
macro:max "aM!" : term => `(["self","kind","used"])
macro:max "aN!" : term => `(["program","function","rows","allowed"])
macro:max "aO!" : term => `(%bz x qual (rb st) (kX st) (au st) .none kV doc pm an cdv ct)
macro:max "aP!" : term => `(aa (pv 0) ag)
macro:max "aQ!" : term => `(.dK kvs)
macro:max "aR!" : term => `(cG aZ ad! aI ar!)
macro:max "aS!" : term => `(aF (bH (pv 0) T.aW T.cv GC hr T.cu .nil aM (aa (cG aZ as! aI ar!) au!)))
macro:max "aT!" : term => `(by simp[deepOf];w!)
macro:max "aU!" : term => `(.inl rfl)
macro:max "aV!" : term => `(Str×Addr)
macro:max "aW!" : term => `(["kind","node","bound","named"])
macro:max "aX!" : term => `(cO (pv 1) T.dS T.bS GN hr T.bR .nil aM)
macro:max "aY!" : term => `(.ins a.bU dx (Hr c (i+1:Nat)))
macro:max "aZ!" : term => `(["first","second"])
macro:max "a0!" : term => `((false,eval e X.env))
macro:max "a1!" : term => `(["wanted","node","bound","named"])
macro:max "a2!" : term => `(.ref a.aD)
macro:max "a3!" : term => `(["self","name","parameters","result","body"])
macro:max "a4!" : term => `(.inr ap!)
macro:max "a5!" : term => `(aR aJ rfl T.dm %ar (aa ad! ag))
macro:max "a6!" : term => `(notedBy az! A env λe s'=>R (.error e) s')
macro:max "a7!" : term => `(["self","node","bound","parts_done"])
macro:max "a8!" : term => `(["reader"])
macro:max "a9!" : term => `(DB (l:Nat) (d:Nat) (sa:Nat) (sa:Nat) (strOf (word T0)) 0 nm pt)
macro:max "ba!" : term => `(cQ I q ai!)
macro:max "bb!" : term => `(.lst [V.int 0,V.int (acc.steps:Nat),V.int (paidBy acc.ticks),V.int (peakBy acc.ticks)])
macro:max "bc!" : term => `(aa (pv 1) au!)
macro:max "bd!" : term => `(wpAny_typeNameOfWhole_keyiter hit.typeIs (wpAny_pure ?_))
macro:max "be!" : term => `(["self","label","depth","starts_at"])
macro:max "bf!" : term => `(λq'=>hb (by simp[q']))
macro:max "bg!" : term => `(compPost af! X.A X.xe use Qf (.ref D) s3.heap.objs.size)
macro:max "bh!" : term => `(["functions","function","values","allowed"])
macro:max "bi!" : term => `(k₀ == NameKind.free && sc.kind == .function && sc.names.lookup n == some .cell)
macro:max "bj!" : term => `(az GA hr rfl T.qg T.mw.kp T.qf .nil aB (aa (pv 0) aF!))
macro:max "bk!" : term => `(["self","text","functions","nodes"])
macro:max "bl!" : term => `(["program","node"])
macro:max "bm!" : term => `(λb=>H b=none)
macro:max "bn!" : term => `(.lst (gs.take i).reverse)
macro:max "bo!" : term => `(uG %ah %aZ %aY uH ad!)
macro:max "bp!" : term => `(.lst (((s'.acc.ticks.length:Int)::(s'.acc.ticks.take i).flatMap Vn).map V.int))
macro:max "bq!" : term => `((gp (bA P w) P w K mg base N qual scope f cd A outer s H E).yI s3 H3 bsc ce fp)
macro:max "br!" : term => `(by rw[wordOf];dk!)
macro:max "bs!" : term => `(.lst (V.int (n:Nat)::gr).reverse)
macro:max "bt!" : term => `((codes x).map λn=>V.int (n:Nat))
macro:max "bu!" : term => `(wpAny_typeNameOf_keyiter hit.typeIs (wpAny_pure ?_))
macro:max "bv!" : term => `(["node","first","second","bound"])
macro:max "bw!" : term => `(["name","bound"])
macro:max "bx!" : term => `((∀ b∈fp,H' b=none))
macro:max "by!" : term => `(upd H4 D (.lst (acc++[y])))
macro:max "bz!" : term => `(own.map (·.2))
macro:max "bA!" : term => `(he pins s σ H _ I h)
macro:max "bB!" : term => `(ha pins s σ H _ I h)
macro:max "bC!" : term => `(cO (pv 0) T.aN T.dR GW hr T.dQ .nil aM)
macro:max "bD!" : term => `(EP X pins σ Q)
macro:max "bE!" : term => `(ao (pv 2) rfl)
macro:max "bF!" : term => `(s3.heap.push {cls:=.type "dict",data:=.dict #[]})
macro:max "bG!" : term => `(.lst (fs.map V.ref))
macro:max "bH!" : term => `(starEach es X.env)
macro:max "bI!" : term => `(s.heap.push {cls:=.type "dict",data:=.dict #[]})
macro:max "bJ!" : term => `(DB (l:Nat) (d:Nat) (sa:Nat) (sa:Nat) "" 0 nm pt)
macro:max "bK!" : term => `(λz=>nomatch z)
macro:max "bL!" : term => `(ao (pv 4) rfl)
macro:max "bM!" : term => `(.ins a.bu dx (DB (ps.length:Nat) (d:Nat) (i:Nat) (i:Nat) "" 0 nm pt))
macro:max "bN!" : term => `(["self","functions","allowed"])
macro:max "bO!" : term => `(.lst gr.reverse)
macro:max "bP!" : term => `(λb o _ e=>S b o e)
macro:max "bQ!" : term => `(bf (pv 0) (pv 1) rfl)
macro:max "bR!" : term => `(.builtin "type.__call__" ⟨.ref C::us,kw⟩)
macro:max "bS!" : term => `(.lst ((t.map λb=>(b.toNat:Int)).map V.int))
macro:max "bT!" : term => `(.lst (tl.map V.int++[V.int (((ans.map V.int).length:Nat):Int)]))
macro:max "bU!" : term => `(["reader","node","sort"])
macro:max "bV!" : term => `((∀ x c,X.env.cells.lookup x=some c->c≠b))
macro:max "bW!" : term => `((∀ H',Nx H'->∃ m',m' < m/\W (i+1) m' H'))
macro:max "bX!" : term => `(strOf y)
macro:max "bY!" : term => `(hz (by rw[c];dk!))
macro:max "bZ!" : term => `(aa (pv 3) ag)
macro:max "b0!" : term => `(.ins a.cU hx (G4 [.ref g]))
macro:max "b1!" : term => `(["reader","node"])
macro:max "b2!" : term => `(.lst (((xs.drop (i+1)).take k).map V.int))
macro:max "b3!" : term => `(List Key×Addr×Value)
macro:max "b4!" : term => `(I.ok.hd hc)
macro:max "b5!" : term => `(upd H2 D aL!)
macro:max "b6!" : term => `(some (.ref f))
macro:max "b7!" : term => `(s.acc.ticks++[⟨l,k⟩])
macro:max "b8!" : term => `(ha pos pins s σ H _ I h)
macro:max "b9!" : term => `(by rw[%ac];w!)
macro:max "ca!" : term => `(ao (pv 3) rfl)
macro:max "cb!" : term => `(.lst (gs.drop i).reverse)
macro:max "cc!" : term => `(kvs.any λkv=>decide (kv.1=k))
macro:max "cd!" : term => `(ho pins s σ H _ I h)
macro:max "ce!" : term => `(bf (pv 0) (pv 2) rfl)
macro:max "cf!" : term => `(["program","asked"])
macro:max "cg!" : term => `(p.map λf=>f.name)
macro:max "ch!" : term => `(aA.upd ai!)
macro:max "ci!" : term => `(a == sysModules)
macro:max "cj!" : term => `(["number","greatest"])
macro:max "ck!" : term => `(some (.builtin "object.__setattr__"))
macro:max "cl!" : term => `(by simp only[List.size_toArray]<;>w!)
macro:max "cm!" : term => `(az GSee hr rfl T.FJ T.Dl.kp T.FI .nil aB (aa aR! bc!))
macro:max "cn!" : term => `(HT.qT z.length 0 lo)
macro:max "co!" : term => `((((fs.map V.ref).length:Nat):Int)<=n)
macro:max "cp!" : term => `(jQ a.ip 2 wB)
macro:max "cq!" : term => `(gp CX P w K mg base N qual scope f cdv A outer s H E)
macro:max "cr!" : term => `(Option Value)
macro:max "cs!" : term => `(λb=>S b=none)
macro:max "ct!" : term => `(some (.ref C))
macro:max "cu!" : term => `(aU K "Reader")
macro:max "cv!" : term => `(Str×NameKind)
macro:max "cw!" : term => `(.builtin id)
macro:max "cx!" : term => `(cG aZ as! aI ar!)
macro:max "cy!" : term => `(az GF hr rfl T.pC T.kR.kp T.pB .nil aB (aa ad! au!))
macro:max "cz!" : term => `(HT.qT z.length z.length hi)
macro:max "cA!" : term => `(["node","kind","bound"])
macro:max "cB!" : term => `(bf (pv 0) (cz ag) rfl)
macro:max "cC!" : term => `(.ref s.heap.objs.size)
macro:max "cD!" : term => `(.dK (putK kvs a4! uv))
macro:max "cE!" : term => `(.ins a.fD dx (ES nd most 0 0 0 tl gl kl cd false))
macro:max "cF!" : term => `(b∈X.ex∨X.CO.heap.objs.size<=b)
macro:max "cG!" : term => `(λ_ _ _ _ _=>t9)
macro:max "cH!" : term => `(["self","kind","name"])
macro:max "cI!" : term => `(["functions"])
macro:max "cJ!" : term => `((∀ u∈vs,RD A u))
macro:max "cK!" : term => `(hi pins s σ H _ I h)
macro:max "cL!" : term => `(gj (by dk!))
macro:max "cM!" : term => `(ascii "call")
macro:max "cN!" : term => `(List Key×V)
macro:max "cO!" : term => `(.lst [V.str bX!,V.str (strOf z)])
macro:max "cP!" : term => `(.Call (.Name x p) (e::es) [] pos)
macro:max "cQ!" : term => `(λb o hb e=>(sb.2 b hb).trans e)
macro:max "cR!" : term => `(.ins a.bU dx (Hr c (i+1+1:Nat)))
macro:max "cS!" : term => `(kvs.map λkv=>if kv.1=k then (kv.1,y) else kv)
macro:max "cT!" : term => `(["function","values"])
macro:max "cU!" : term => `(.lst (ks.map V.ref))
macro:max "cV!" : term => `(strOf (wordOf e))
macro:max "cW!" : term => `(neH c _ q (λ_ _ z=>nomatch z))
macro:max "cX!" : term => `(aa (aQ (v:=.int 400) rfl g1 ⟨t1,rfl⟩) ag)
macro:max "cY!" : term => `(aU K "Feed")
macro:max "cZ!" : term => `(by intro z;cases z)
macro:max "c0!" : term => `(az GN hr rfl T.uo T.qd.kp T.um .nil aB aP!)
macro:max "c1!" : term => `(I.cx.fresh (%am _))
macro:max "c2!" : term => `(.ins C dx fs)
macro:max "c3!" : term => `(upd H7 pl (.lst ([V.ref p4]++[V.ref p7])))
macro:max "c4!" : term => `(48+d.val)
macro:max "c5!" : term => `(((%aO (strOf z.1):Key),id z.2))
macro:max "c6!" : term => `(model P w)
macro:max "c7!" : term => `(λv x=>mC R.ok H2 x v)
macro:max "c8!" : term => `(["program","label"])
macro:max "c9!" : term => `(valuesFor u as bs)
macro:max "da!" : term => `(.lst xs)
macro:max "db!" : term => `(.ins a.bU dx (Hr c (j:Nat)))
macro:max "dc!" : term => `(envOfC qual scope s.heap.objs.size f cd)
macro:max "dd!" : term => `(aR aJ rfl T.dm %ar (aa (ao ad! rfl) ag))
macro:max "de!" : term => `(["used","names"])
macro:max "df!" : term => `((∃ m,W 0 m (upd H1 D aL!)))
macro:max "dg!" : term => `(λv x=>mC R.ok H x v)
macro:max "dh!" : term => `(word at!)
macro:max "di!" : term => `(oU a false)
macro:max "dj!" : term => `(keywordEach [] X.env)
macro:max "dk!" : term => `(cO (pv 1) T.dS T.gc G2 hr T.gb .nil aM)
macro:max "dl!" : term => `(by simp;w!)
macro:max "dm!" : term => `(by rw[bz (.ifz l c x y)];dsimp only;w!)
macro:max "dn!" : term => `(bf (pv 0) (pv 3) rfl)
macro:max "do!" : term => `(aU K "Run")
macro:max "dp!" : term => `(Ne.symm n9)
macro:max "dq!" : term => `(Ne.symm n8)
macro:max "dr!" : term => `(%aJ (%aB (%av e) (I.ok.Vq x c hfn hc)))
macro:max "ds!" : term => `(["reader","depth"])
macro:max "dt!" : term => `(λb=>!ends b)
macro:max "du!" : term => `(λ_ _ _ e=>e)
macro:max "dv!" : term => `(word T0)
macro:max "dw!" : term => `(lookup env x)
macro:max "dx!" : term => `(br cL! (br (i1 g.1) (br (i2 g.2) no)))
macro:max "dy!" : term => `(bf (pv 0) aI rfl)
macro:max "dz!" : term => `(.ref it)
macro:max "dA!" : term => `(.ref a.bZ)
macro:max "dB!" : term => `(vs.toArray.toList.map toV)
macro:max "dC!" : term => `(.type "method_descriptor")
macro:max "dD!" : term => `(λb o _ e=>S1 b o e)
macro:max "dE!" : term => `(wpAny_pure ?_)
macro:max "dF!" : term => `(ho pins s1 σ H1 _ I1 q1)
macro:max "dG!" : term => `(Sl [.str ap!,.ref pl,bT kd,.ref bp])
macro:max "dH!" : term => `(.inr rfl)
macro:max "dI!" : term => `(s.long=true∨WT p most f.result s)
macro:max "dJ!" : term => `(peakBy s.acc.ticks)
macro:max "dK!" : term => `(aQ (v:=.int 9) rfl g1 ⟨t1,rfl⟩)
macro:max "dL!" : term => `(K1.mono k1)
macro:max "dM!" : term => `((nodesOf h++nodesOf t).map labelOf)
macro:max "dN!" : term => `(((%cq (c:Int):Key),V.str ⟨#[c]⟩))
macro:max "dO!" : term => `(λb o hb e=>eb b o hb e)
macro:max "dP!" : term => `(startM f ws)
macro:max "dQ!" : term => `(bL cI rfl rfl T.fF T.tL)
macro:max "dR!" : term => `(ascii "nil")
macro:max "dS!" : term => `(.Compare a [op] [b] pos)
macro:max "dT!" : term => `(%ba _ (%ba _ (wJ hb e)))
macro:max "dU!" : term => `(λb=>S b=none∨b=p∨b=nm∨b=pt)
macro:max "dV!" : term => `(["self","calls"])
macro:max "dW!" : term => `(["function","rows"])
macro:max "dX!" : term => `(typed pr env y)
macro:max "dY!" : term => `(typed pr env x)
macro:max "dZ!" : term => `(by simpa using h2)
macro:max "d0!" : term => `(by rw[e];e! True.intro)
macro:max "d1!" : term => `(br (i1 g.2.1) (br (i2 g.2.2) no))
macro:max "d2!" : term => `(aa (pv 4) ag)
macro:max "d3!" : term => `(I.base.free b o e n hx)
macro:max "d4!" : term => `(.tup xs)
macro:max "d5!" : term => `(.tup [V.int l,V.int k])
macro:max "d6!" : term => `(.Attribute o name apos)
macro:max "d7!" : term => `(%bD C s.heap.objs.size)
macro:max "d8!" : term => `(%aB (%av e) I.ok.above)
macro:max "d9!" : term => `(λb=>H b=none/\b≠fl)
macro:max "ea!" : term => `(x.length<=Vaamoa.LONG)
macro:max "eb!" : term => `(tupleKind_room_in1 hu)
macro:max "ec!" : term => `((∃ m,W 0 m σ H))
macro:max "ed!" : term => `(vs.map toV)
macro:max "ee!" : term => `(made H f dx a.bU (LM [.ref c]))
macro:max "ef!" : term => `(if most<=a.steps then _ else _)
macro:max "eg!" : term => `(by simpa using e)
macro:max "eh!" : term => `(aa as! ag)
macro:max "ei!" : term => `(aR aJ rfl T.dm %ar (aa bE! ag))
macro:max "ej!" : term => `(%ad (toString (valueOf x:Int)))
macro:max "ek!" : term => `(["self","node"])
macro:max "el!" : term => `(["self","name"])
macro:max "em!" : term => `(ao (pv 5) rfl)
macro:max "en!" : term => `(.dT kvs)
macro:max "eo!" : term => `(f.params.zip [as,bs])
macro:max "ep!" : term => `(cH X.env.cells scope.names [])
macro:max "eq!" : term => `(.lst [V.int (nodeNumber z.1)])
macro:max "er!" : term => `(.Name x pos)
macro:max "es!" : term => `(W5 s'.acc.ticks)
macro:max "et!" : term => `(Value->Sem Unit)
macro:max "eu!" : term => `(Uo [.ref tl,.ref fl,.ref nl])
macro:max "ev!" : term => `(.tup (k.map kV))
macro:max "ew!" : term => `(.lst [V.ref p4])
macro:max "ex!" : term => `(.Attribute o m apos)
macro:max "ey!" : term => `(["run","task"])
macro:max "ez!" : term => `(λ_ _=>False)
macro:max "eA!" : term => `(eval o X.env)
macro:max "eB!" : term => `(aq e nD)
macro:max "eC!" : term => `(Bx [.ref nd,.ref bd,.bl bk])
macro:max "eD!" : term => `(κ×Value)
macro:max "eE!" : term => `(ps.zip us)
macro:max "eF!" : term => `(aa ad! ag)
macro:max "eG!" : term => `(.ref a.cB)
macro:max "eH!" : term => `(.ref a.ba)
macro:max "eI!" : term => `(wipe σ vs)
macro:max "eJ!" : term => `(typed pr env e)
macro:max "eK!" : term => `(paidBy s.acc.ticks)
macro:max "eL!" : term => `(by simp[z])
macro:max "eM!" : term => `(ascii "number")
macro:max "eN!" : term => `(aQ (v:=.ref fd) rfl gF rfl)
macro:max "eO!" : term => `(Str×Value)
macro:max "eP!" : term => `(K w.params)
macro:max "eQ!" : term => `(.ql od u)
macro:max "eR!" : term => `(putK kvs a4! (bT t1.kind))
macro:max "eS!" : term => `(by simpa using Ne.symm n4)
macro:max "eT!" : term => `(by simpa using Ne.symm n3)
macro:max "eU!" : term => `(by simpa using Ne.symm n2)
macro:max "eV!" : term => `(apos.endLine == cpos.line)
macro:max "eW!" : term => `(IH t env b _ _ b2 (by w!))
macro:max "eX!" : term => `(I.base.keep b o e n hb hx)
macro:max "eY!" : term => `(%bp B [s3.heap.objs.size])
macro:max "eZ!" : term => `(tZ I hg hm ?_ hdb)
macro:max "e0!" : term => `(by simpa using ct)
macro:max "e1!" : term => `(by rw[%ac,%ac];w!)
macro:max "e2!" : term => `(.case l x c y z g)
macro:max "e3!" : term => `(hb pins s1 σ H1 _ I1 q1)
macro:max "e4!" : term => `(f.params.map λq=>q.name)
macro:max "e5!" : term => `(ascii "share")
macro:max "e6!" : term => `(apos.endLine == pos.line)
macro:max "e7!" : term => `(aa (pv 0) bc!)
macro:max "e8!" : term => `(Sum.inr.inj e)
macro:max "e9!" : term => `(λ_=>rfl)
macro:max "fa!" : term => `(f (.int i t) (.int j u))
macro:max "fb!" : term => `(er Et (er Et Er))
macro:max "fc!" : term => `(by simpa using h)
macro:max "fd!" : term => `(by rw[et,eb];rfl)
macro:max "fe!" : term => `(Str×Nat)
macro:max "ff!" : term => `(List Int)
macro:max "fg!" : term => `(.ref a.fE)
macro:max "fh!" : term => `(%af _ (%af _ hq))
macro:max "fi!" : term => `(["kind","row"])
macro:max "fj!" : term => `(λc v hc q=>k c v ?_ q)
macro:max "fk!" : term => `(ys.map V.str)
macro:max "fl!" : term => `(upd H vl bn!)
macro:max "fm!" : term => `(strOf t)
macro:max "fn!" : term => `(start N vs)
macro:max "fo!" : term => `(starEach (e::es) X.env)
macro:max "fp!" : term => `(nst b o e hb)
macro:max "fq!" : term => `(bG i8 (pv 2) cN (cy _))
macro:max "fr!" : term => `(bG i8 (pv 1) cN (cy _))
macro:max "fs!" : term => `(ascii "tick")
macro:max "ft!" : term => `(ascii "name")
macro:max "fu!" : term => `(ascii "cons")
macro:max "fv!" : term => `(ascii "case")
macro:max "fw!" : term => `(aT (d+1) x++aT (d+1) y)
macro:max "fx!" : term => `(aT (d+1) h++aT (d+1) t)
macro:max "fy!" : term => `(aR aJ rfl T.dm %ar aP!)
macro:max "fz!" : term => `(aR aJ rfl T.dm %ar aF!)
macro:max "fA!" : term => `(Key×Value)
macro:max "fB!" : term => `(IH h env a1 _ _ h1' fu)
macro:max "fC!" : term => `(I.tok _)
macro:max "fD!" : term => `(Codec.app r.args r.f a)
macro:max "fE!" : term => `(.tup [x,y])
macro:max "fF!" : term => `(%ad "tick")
macro:max "fG!" : term => `(λb=>H b≠none)
macro:max "fH!" : term => `(paramText q2++r)
macro:max "fI!" : term => `(eval iter X.env)
macro:max "fJ!" : term => `(Nat.le_of_eq hD)
macro:max "fK!" : term => `(λb=>b∉[h,f]/\b≠t)
macro:max "fL!" : term => `(List.mem_cons_self ..)
macro:max "fM!" : term => `(wipe σ bz!)
macro:max "fN!" : term => `(wL hu (pv 2) cx! ar!)
macro:max "fO!" : term => `(upd H f aY!)
macro:max "fP!" : term => `(ts.reverse.map V.ref)
macro:max "fQ!" : term => `(k1.trans k2)
macro:max "fR!" : term => `(hc pins s σ H _ I h)
macro:max "fS!" : term => `(h pins s σ H _ I hw)
macro:max "fT!" : term => `(h pins s σ H Q I hw)
macro:max "fU!" : term => `(by simp at z;simp[z])
macro:max "fV!" : term => `(bt h++(bt t++[[41]]))
macro:max "fW!" : term => `(ascii "sub")
macro:max "fX!" : term => `(ascii "let")
macro:max "fY!" : term => `(ascii "add")
macro:max "fZ!" : term => `(TP X pins σ Q)
macro:max "f0!" : term => `(S6.trans S7)
macro:max "f1!" : term => `(S1.trans S2)
macro:max "f2!" : term => `(Rb _ (sr _))
macro:max "f3!" : term => `(ER a a.ba λ_ f _=>f)
macro:max "f4!" : term => `(.str ap!)
macro:max "f5!" : term => `(.lst acc)
macro:max "f6!" : term => `(.inl ⟨_,_,_,rfl⟩)
macro:max "f7!" : term => `(.fresh 0 0 led)
macro:max "f8!" : term => `(.cons l x y)
macro:max "f9!" : term => `(%bB p 400 u ws)
macro:max "ga!" : term => `(["program"])
macro:max "gb!" : term => `(["calls"])
macro:max "gc!" : term => `(vs++dvs)
macro:max "gd!" : term => `(upd H a o)
macro:max "ge!" : term => `(bF ns ndx)
macro:max "gf!" : term => `(aH (pv 2))
macro:max "gg!" : term => `(aH (pv 1))
macro:max "gh!" : term => `(.ref fx)
macro:max "gi!" : term => `(.ref fl)
macro:max "gj!" : term => `(λb o _ e=>S6 b o e)
macro:max "gk!" : term => `(by rw[%aG];w!)
macro:max "gl!" : term => `(bN X.prog X.w)
macro:max "gm!" : term => `(aa (pv 2) bZ!)
macro:max "gn!" : term => `(Nat.le_refl _)
macro:max "go!" : term => `(.letE l x c y)
macro:max "gp!" : term => `(λe=>by rw[e];e! h)
macro:max "gq!" : term => `(tupleKind (bN P w))
macro:max "gr!" : term => `(rawInt ((i:Int)+1))
macro:max "gs!" : term => `(progText p)
macro:max "gt!" : term => `(ascii "if")
macro:max "gu!" : term => `(Z2.same S3)
macro:max "gv!" : term => `(Or.inr rfl)
macro:max "gw!" : term => `(Mb rfl rfl rfl rfl)
macro:max "gx!" : term => `(%ad "cons")
set_option hygiene true
namespace L2
open PySem PySem.Spec PyProof.Rows
abbrev Key:=Sum Int Str
def CM:Key->Value->Bool
 | .inl k,v=>Value.isInt k v
 | .inr x,v=>Value.isStrOf x v
def Yz(w:World):Key->Int
 | .inl k=>hashInt k
 | .inr x=>hashStr w x
t! eZ:∀ {k:Key} {v:Value},CM k v=true->(∃ i t,k=%cq i/\v=Value.int i t)∨(∃ x t,k=%aO x/\v=Value.str x t)
 | .inl i,v,h=>by
  o!⟨t,e⟩:=Value.isInt_shape (k:=i) (v:=v) h;e! .inl ⟨i,t,rfl,e⟩
 | .inr x,v,h=>by
  o!⟨t,e⟩:=Value.isStrOf_shape (x:=x) (v:=v) h;e! .inr ⟨x,t,rfl,e⟩
t! Q9(i:Int)(t:Tok):CM (.inl i) (.int i t)=true:=by simp[CM,Value.isInt]
t! Rf(x:Str)(t:Tok):CM (.inr x) (.str x t)=true:=by simp[CM,Value.isStrOf]
t! W8(a b:Int):decide ((%cq a:Key)=%cq b)=(a == b):=by
 by_cases e:a=b
 ·subst e;simp
 ·~h:¬ (%cq a:Key)=%cq b:=λq=>e (Sum.inl.inj q)
  rw[decide_eq_false h];e! (beq_eq_false_iff_ne.mpr e).symm
t! W9(a b:Str):decide ((%aO a:Key)=%aO b)=decide (a=b):=by
 by_cases e:a=b
 ·subst e;simp
 ·~h:¬ (%aO a:Key)=%aO b:=λq=>e (Sum.inr.inj q)
  rw[decide_eq_false h,decide_eq_false e]
t! Xa(a:Int)(b:Str):decide ((%cq a:Key)=%aO b)=false:=decide_eq_false (λq=>nomatch q)
t! Xb(a:Str)(b:Int):decide ((%aO a:Key)=%cq b)=false:=decide_eq_false (λq=>nomatch q)
def bN(prog:Program)(w:World):PySem.KeyKind prog w Key where
 is:=CM
 hash:=Yz w
 inj:=λv a b ha hb=>by
  rcases eZ ha with ⟨i,t,rfl,rfl⟩ | ⟨x,t,rfl,rfl⟩
  ·rcases eZ hb with ⟨j,u,rfl,e⟩ | ⟨y,u,rfl,e⟩
   ·injection e with e1 _;rw[e1]
   ·e! nomatch e
  ·rcases eZ hb with ⟨j,u,rfl,e⟩ | ⟨y,u,rfl,e⟩
   ·e! nomatch e
   ·injection e with e1 _;rw[e1]
 byValue:=λk v h=>by
  rcases eZ h with ⟨i,t,rfl,rfl⟩ | ⟨x,t,rfl,rfl⟩<;>rfl
 pyHash:=λhv h=>by
  rcases eZ hv with ⟨i,t,rfl,rfl⟩ | ⟨x,t,rfl,rfl⟩
  ·e! wpAny_pyHash_int h
  ·e! wpAny_pyHash_str h
 eqBool:=λhu hv h=>by
  rcases eZ hu with ⟨i,t,rfl,rfl⟩ | ⟨x,t,rfl,rfl⟩
  ·rcases eZ hv with ⟨j,u,rfl,rfl⟩ | ⟨y,u,rfl,rfl⟩
   ·rw[W8] at h;e! wpAny_eqBool_int h
   ·rw[Xa] at h;e! SeqAt.EqAt.int_str i t y u _ _ _ _ h
  ·rcases eZ hv with ⟨j,u,rfl,rfl⟩ | ⟨y,u,rfl,rfl⟩
   ·rw[Xb] at h;e! SeqAt.EqAt.str_int x t j u _ _ _ _ h
   ·rw[W9] at h;e! wpAny_eqBool_str h
 «strs»:=λk x t v h=>by
  rcases eZ h with ⟨i,u,rfl,e⟩ | ⟨y,u,rfl,e⟩
  ·e! nomatch e
  ·injection e with e1 _
   subst e1;cases v<;>rfl
t! M5(prog:Program)(w:World)(i:Int)(t:Tok):(bN prog w).is (.inl i) (.int i t)=true:=Q9 i t
t! M6(prog:Program)(w:World)(x:Str)(t:Tok):(bN prog w).is (.inr x) (.str x t)=true:=Rf x t
end L2
namespace L2
open PySem PySem.Spec PyProof.Rows
inductive V where
 | fK | bl (b:Bool) | int (i:Int) | str (x:Str) | MY (b:Array UInt8) | Xc (b:UInt64) | ref (a:Addr) | ty (n:String)
 deriving DecidableEq
def RelV:V->Value->Prop
 | .fK,u=>u=%bT
 | .bl b,u=>u=Value.bool b
 | .int i,u=>∃ t,u=Value.int i t
 | .str x,u=>∃ t,u=Value.str x t
 | .MY b,u=>∃ t,u=Value.bytes b t
 | .Xc b,u=>∃ t,u=Value.float b t
 | .ref a,u=>u=%aL a
 | .ty n,u=>u=%cf n
abbrev Vals:List V->List Value->Prop:=Paired RelV
t! Vals.length{xs:List V}{us:List Value}(r:Vals xs us):xs.length=us.length:=Paired.length r
t! Vals.get:∀ {xs:List V} {us:List Value} {i:Nat} {x:V},Vals xs us->xs[i]?=some x->∃ u,us[i]?=some u/\RelV x u
 | _,_,_,_,.nil,e=>by simp at e
 | _,_,0,_,.cons r _,e=>by simp at e;subst e;e! ⟨_,rfl,r⟩
 | _,_,i+1,x,.cons _ t,e=>by
  o!⟨u,h1,h2⟩:=Vals.get (i:=i) (x:=x) t eg!;e! ⟨u,by simpa using h1,h2⟩
t! Vals.append:∀ {xs ys:List V} {us ws:List Value},Vals xs us->Vals ys ws->Vals (xs++ys) (us++ws)
 | _,_,_,_,.nil,s=>s
 | _,_,_,_,.cons r t,s=>.cons r (Vals.append t s)
t! Vals.take:∀ {xs:List V} {us:List Value} (n:Nat),Vals xs us->Vals (xs.take n) (us.take n)
 | _,_,0,_=>.nil
 | _,_,_+1,.nil=>.nil
 | _,_,n+1,.cons r t=>.cons r (Vals.take n t)
t! Vals.drop:∀ {xs:List V} {us:List Value} (n:Nat),Vals xs us->Vals (xs.drop n) (us.drop n)
 | _,_,0,r=>r
 | _,_,_+1,.nil=>.nil
 | _,_,n+1,.cons _ t=>Vals.drop n t
def wI:Option V->Option Value->Prop
 | some v,some u=>RelV v u
 | none,none=>True
 | _,_=>False
def KV{κ:Type}:List (κ×V)->List eD!->Prop:=Paired λ(p:κ×V) (q:κ×Value)=>p.1=q.1/\RelV p.2 q.2
def kV:Key->V
 | .inl i=>.int i
 | .inr x=>.str x
inductive HO where
 | lst (xs:List V)
 | tup (xs:List V)
 | dK (kvs:List (Key×V)) | dT (kvs:List (List Key×V))
 | set (S:Int->Bool) (n:Nat)
 | ins (C dx:Addr) (fs:List (Str×V))
 | own (x:Addr)
 | xd (fs:List (Str×V))
 | met (f x:Addr)
 | ZH (lo hi:Int)
 | ql (o:Obj) (u:HO)
 | Xd (ps:Array Value)
 | ext (φ:Heap->Prop)
abbrev Hp:=Addr->Option HO
def upd(H:Hp)(a:Addr)(o:HO):Hp:=λb=>if b=a then some o else H b
t! ae{H:Hp}{a:Addr}{o:HO}:upd H a o a=some o:=by unfold upd;rw[if_pos rfl]
t! ai{H:Hp}{a b:Addr}{o:HO}(h:b≠a):upd H a o b=H b:=by unfold upd;rw[n! h]
t! aC{H:Hp}{a:Addr}{o u:HO}:upd gd! a u=upd H a u:=by
 funext b;unfold upd;split<;>rfl
t! SV{H:Hp}{a b:Addr}{o u:HO}(h:H a=some o)(h':H b=some u)(d:o≠u):a≠b:=by
 intro e;subst e;rw[h] at h';e! d (Option.some.inj h')
t! aq{H:Hp}{a b:Addr}{o:HO}(h:H a=some o)(h':H b=none):a≠b:=by
 intro e;subst e;rw[h] at h';cases h'
section
variable (P:Program) (w:World)
def eS(H:Hp)(h:Heap)(a:Addr):HO->Prop
 | .lst xs=>xs.length<=sizeLine/\∃ (its:List Value) (n:Nat),Vals xs its/\h.get? a=some {cls:=.type "list",data:=.seq its.toArray n}
 | .tup xs=>xs.length<=sizeLine/\∃ its:List Value,Vals xs its/\IsTup h a its.toArray
 | .dK kvs=>kvs.length<=sizeLine/\ci!=false/\∃ vs,KV kvs vs/\h.DictOf (bN P w) a vs
 | .dT kvs=>kvs.length<=sizeLine/\ci!=false/\∃ xs:List b3!,
   Paired (λ(p:List Key×V) (q:List Key×Addr×Value)=>p.1=q.1/\H q.2.1=some (.tup (p.1.map kV))/\RelV p.2 q.2.2) kvs xs /\
   ∃ o es ep,h.get? a=some o/\o.ExactDict/\o.data=.dict es ep/\es.toList=xs.map (entryOfKey gq!)/\(xs.map (·.1)).Nodup
 | .set S n=>h.SetOf (intKind P w) a S n
 | .ins C dx fs=>H dx=some (.own a)/\fs.length<=1000/\dx≠a/\h.get? a=some (%bD C dx) /\
   ∃ mA,h.Ns1 dx mA/\(∀ f,wI (fs.lookup f) (mA f))/\PySem.Within mA (fs.map (·.1))
 | .own _=>∃ o,h.get? a=some o
 | .xd fs=>∃ mA,h.Ns1 a mA/\∀ f,wI (fs.lookup f) (mA f)
 | .ZH lo hi=>∃ t u v,h.get? a=some {cls:=.type "range",data:=.fields #[.int lo t,.int hi u,.int 1 v]}
 | .ql o u=>h.get? a=some o/\eS H h a u
 | .Xd ps=>h.get? a=some {cls:=.none,data:=.fields ps}
 | .met f x=>h.get? a=some (PySem.W.methodObj (.ref f) (.ref x))
 | .ext φ=>φ h/\(∃ o,h.get? a=some o)/\∀ h1 h2:Heap,φ h1->(∀ o,h1.get? a=some o->h2.get? a=some o)->φ h2
def yc(H:Hp)(h:Heap):Prop:=∀ a o,H a=some o->eS P w H h a o
end
section
variable {P:Program} {w:World} {H H':Hp} {h h':Heap} {a:Addr} {o:HO}
t! eS.lt(x:eS P w H h a o):a < h.objs.size:=by
 cases o with
 | lst xs=>obtain ⟨_,_,_,_,e⟩:=x;e! %av e
 | tup xs=>obtain ⟨_,_,_,p⟩:=x;e! p.lt
 | dK kvs=>obtain ⟨_,_,_,_,o,_,_,e,_⟩:=x;e! %av e
 | dT kvs=>obtain ⟨_,_,_,_,o,_,_,e,_⟩:=x;e! %av e
 | set S n=>obtain ⟨o,_,_,_,e,_⟩:=x;e! %av e
 | ins C dx fs=>obtain ⟨_,_,_,e,_⟩:=x;e! %av e
 | own y=>obtain ⟨_,e⟩:=x;e! %av e
 | xd fs=>obtain ⟨_,⟨_,_,_,e,_⟩,_⟩:=x;e! %av e
 | ZH lo hi=>obtain ⟨_,_,_,e⟩:=x;e! %av e
 | ql ob u=>obtain ⟨e,_⟩:=x;e! %av e
 | Xd ps=>e! %av (show h.get? a=some _ from x)
 | met f y=>e! %av (show h.get? a=some _ from x)
 | ext φ=>obtain ⟨_,⟨_,e⟩,_⟩:=x;e! %av e
t! Paired.Xe{α β:Type}{F G:α->β->Prop}:∀ {l₁:List α} {l₂:List β},Paired F l₁ l₂->(∀ a b,F a b->G a b)->Paired G l₁ l₂
 | _,_,.nil,_=>.nil
 | _,_,.cons r t,f=>.cons (f _ _ r) (Paired.Xe t f)
t! eS.Gm(x:eS P w H h a o)(k:∀ b u,(b=a∨H b=some (.own a))->h.get? b=some u->h'.get? b=some u)
  (ho:∀ b,H b=some (.own a)->H' b=some (.own a)) (ht:∀ b xs,H b=some d4!->H' b=some d4!):eS P w H' h' a o:=by
 induction o with
 | lst xs=>obtain ⟨z,its,n,r,e⟩:=x;e! ⟨z,its,n,r,k _ _ aU! e⟩
 | tup xs=>obtain ⟨z,its,r,ob,e,c⟩:=x;e! ⟨z,its,r,ob,k _ _ aU! e,c⟩
 | dK kvs=>obtain ⟨z,y,vs,r,ob,es,ep,e,c⟩:=x;e! ⟨z,y,vs,r,ob,es,ep,k _ _ aU! e,c⟩
 | dT kvs =>
  o!⟨z,y,xs,r,ob,es,ep,e,c⟩:=x;e! ⟨z,y,xs,Paired.Xe r λp q z=>⟨z.1,ht _ _ z.2.1,z.2.2⟩,ob,es,ep,k _ _ aU! e,c⟩
 | set S n=>obtain ⟨ob,es,ep,t,e,c⟩:=x;e! ⟨ob,es,ep,t,k _ _ aU! e,c⟩
 | ins C dx fs =>
  o!⟨d,z,ne,e,mA,⟨od,es,ep,e2,c⟩,r⟩:=x;e! ⟨ho _ d,z,ne,k _ _ aU! e,mA,⟨od,es,ep,k _ _ (.inr d) e2,c⟩,r⟩
 | own y=>obtain ⟨ob,e⟩:=x;e! ⟨ob,k _ _ aU! e⟩
 | xd fs=>obtain ⟨mA,⟨od,es,ep,e,c⟩,r⟩:=x;e! ⟨mA,⟨od,es,ep,k _ _ aU! e,c⟩,r⟩
 | ZH lo hi=>obtain ⟨t,u,v,e⟩:=x;e! ⟨t,u,v,k _ _ aU! e⟩
 | ql ob u ih=>obtain ⟨e,q⟩:=x;e! ⟨k _ _ aU! e,ih q⟩
 | Xd ps =>
  ~e:h.get? a=some {cls:=.none,data:=.fields ps}:=x;show h'.get? a=some {cls:=.none,data:=.fields ps};e! k a _ aU! e
 | met f y =>
  ~e:h.get? a=some (PySem.W.methodObj (.ref f) (.ref y)):=x;show h'.get? a=some (PySem.W.methodObj (.ref f) (.ref y));e! k a _ aU! e
 | ext φ=>obtain ⟨p,⟨o,e⟩,st⟩:=x;e! ⟨st _ _ p λo q=>k _ _ aU! q,⟨o,k _ _ aU! e⟩,st⟩
t! yc.lt(x:yc P w H h)(e:H a=some o):a < h.objs.size:=(x a o e).lt
t! yc.fresh(x:yc P w H h)(e:h.objs.size<=a):H a=none:=by
 cases q:H a with
 | none=>rfl
 | some u=>e! absurd (%aB (x.lt q) e) (%bJ _)
t! yc.kept(x:yc P w H h)(k:∀ b u,h.get? b=some u->h'.get? b=some u):yc P w H h':=λa o e =>
 (x a o e).Gm (λb u _ q=>k b u q) (λ_ q=>q) λ_ _ q=>q
t! yc.laid(x:yc P w H h)(k:∀ b u,h.get? b=some u->h'.get? b=some u)(hp:h.objs.size<=a)(new:eS P w gd! h' a o):yc P w gd! h':=λb u e=>by
 ~hn:=x.fresh hp;by_cases hb:b=a
 ·subst hb;rw[ae] at e;cases e;e! new
 ·rw[ai hb] at e;e! (x b u e).Gm (λc v _ q=>k c v q) (λc q=>by rw[ai (aq q hn)];e! q) λc xs q=>by rw[ai (aq q hn)];e! q
end
def Rd(H:Hp)(a:Addr)(u:HO):Prop:=H a=some u∨∃ o,H a=some (.ql o u)
t! Rd.ok{P:Program}{w:World}{H:Hp}{h:Heap}{a:Addr}{u:HO}(r:Rd H a u)(x:yc P w H h):eS P w H h a u:=by
 rcases r with r | ⟨o,r⟩
 ·e! x a u r
 ·o!⟨_,q⟩:=x a _ r;e! q
def WD:Option HO->Prop
 | some (.lst _)=>True
 | some (.dK _)=>True
 | some (.dT _)=>True
 | some (.set _ _)=>True
 | some (.ins _ _ _)=>True
 | some (.ext _)=>True
 | _=>False
section
variable {P:Program} {w:World} {H:Hp} {h h':Heap} {x e:Addr} {o':HO}
t! yc.write(ok:yc P w H h)(mu:WD (H x))(he:e=x∨H e=some (.own x))(k:∀ b u,b≠e->h.get? b=some u->h'.get? b=some u)(heo:∃ u,h'.get? e=some u)
  (new:eS P w (upd H x o') h' x o'):yc P w (upd H x o') h':=λb u q=>by
 ~nown:∀ c y,H c=some (.own y)->c≠x:=λc y r z=>by subst z;rw[r] at mu;e! mu
 ~ntup:∀ c xs,H c=some d4!->c≠x:=λc xs r z=>by subst z;rw[r] at mu;e! mu
 by_cases hb:b=x
 ·subst hb;rw[ae] at q;cases q;e! new
 ·rw[ai hb] at q;by_cases hbe:b=e
  ·~q':H b=some (.own x):=by
    rcases he with z | z
    ·e! absurd (hbe.trans z) hb
    ·rw[hbe];e! z
   rw[q] at q';cases q';o!⟨v,hv⟩:=heo;e! ⟨v,by rw[hbe];e! hv⟩
  ·r! (ok b u q).Gm (λc v hc r=>k c v ?_ r) (λc r=>by rw[ai (nown c b r)];e! r) λc xs r=>by rw[ai (ntup c xs r)];e! r
   rcases hc with rfl | hc
   ·e! hbe
   ·rintro rfl;rcases he with z | z
    ·e! nown c b hc z
    ·rw[hc] at z;cases z;e! hb rfl
end
structure Un (fs ex:List Addr) (H H':Hp) (h h':Heap):Prop where
 keep:∀ b o,h.get? b=some o->H b=none->b∉fs->b∉ex->h'.get? b=some o
 slot:∀ b o,h.get? b=some o->H b=none->b∈fs->b∉ex->∃ sl,h'.get? b=some {o with slots:=sl}
 free:∀ b o,h.get? b=some o->H b=none->b∉ex->H' b=none
 there:∀ b o,h.get? b=some o->b∉ex->∃ o',h'.get? b=some o'
 Gn:∀ b xs,H b=some d4!->H' b=some d4!
 CN:∀ b o u,H b=some (.ql o u)->H' b=some (.ql o u)
 Gp:∀ b ps,H b=some (.Xd ps)->∃ more,H' b=some (.Xd (ps++more))
section
variable {fs fs' ex ex':List Addr} {H H1 H2:Hp} {h h1 h2 h':Heap} {a x e:Addr} {o:HO}
t! Un.any(u:Un fs ex H H1 h h1){b:Addr}{ob:Obj}(q:h.get? b=some ob)(n:H b=none)(hx:b∉ex):∃ sl,h1.get? b=some {ob with slots:=sl}:=by
 by_cases hb:b∈fs
 ·e! u.slot b ob q n hb hx
 ·e! ⟨ob.slots,u.keep b ob q n hb hx⟩
t! Un.kept(k:∀ b u,h.get? b=some u->h'.get? b=some u):Un fs ex H H h h' :=
 ⟨λb ob q _ _ _=>k b ob q,λb ob q _ _ _=>⟨ob.slots,k b ob q⟩,λ_ _ _ n _=>n,λb ob q _=>⟨ob,k b ob q⟩,λ_ _ q=>q,λ_ _ _ q=>q,λ_ ps q=>⟨#[],by rw[q];simp⟩⟩
t! Un.refl:Un fs ex H H h h:=Un.kept λ_ _ q=>q
t! Un.laid(k:∀ b u,h.get? b=some u->h'.get? b=some u)(hp:h.objs.size<=a)(hn:H a=none):Un fs ex H gd! h h' where
 keep:=λb u q _ _ _=>k b u q
 slot:=λb u q _ _ _=>⟨u.slots,k b u q⟩
 free:=λb u q n _=>by rw[ai (%aJ (%aB (%av q) hp))];e! n
 there:=λb u q _=>⟨u,k b u q⟩
 Gn:=λb xs q=>by rw[ai (aq q hn)];e! q
 CN:=λb u xs q=>by rw[ai (aq q hn)];e! q
 Gp:=λb ps q=>⟨#[],by rw[ai (aq q hn),q];simp⟩
t! Un.write(mu:WD (H x))(he:e=x∨H e=some (.own x))(k:∀ b u,b≠e->h.get? b=some u->h'.get? b=some u)(heo:∃ u,h'.get? e=some u):Un fs ex H (upd H x o) h h':=by
 ~hx:∀ b,H b=none->b≠x:=λb n z=>by subst z;rw[n] at mu;e! mu
 ~hb:∀ b,H b=none->b≠e:=λb n z=>by
  subst z;rcases he with r | r
  ·e! hx b n r
  ·rw[n] at r;cases r
 ~hm:∀ b u,H b=some u->¬ WD (some u)->b≠x:=λb u q nm z=>by subst z;rw[q] at mu;e! nm mu
 r! ⟨λb u q n _ _=>k b u (hb b n) q,λb u q n _ _=>⟨u.slots,k b u (hb b n) q⟩,λb u q n _=>by rw[ai (hx b n)];e! n,λb u q _=>?_,
  λb xs q=>by rw[ai (hm b _ q λz=>z)];e! q,λb u xs q=>by rw[ai (hm b _ q λz=>z)];e! q,λb ps q=>⟨#[],by rw[ai (hm b _ q λz=>z),q];simp⟩⟩
 by_cases hbe:b=e
 ·subst hbe;e! heo
 ·e! ⟨u,k b u hbe q⟩
end
def Zo(h:Heap)(H:Hp):List Addr:=(List.range h.objs.size).filter λa=>(H a).isSome
def LV(h:Heap)(H:Hp):Heap:=%bp h (Zo h H)
t! Rg(h:Heap)(H:Hp):(LV h H).objs.size=h.objs.size:=PySem.W.hideAll_size _ _
t! SW{h:Heap}{H:Hp}{b:Addr}{o:Obj}(e:h.get? b=some o)(n:H b=none):(LV h H).get? b=some o :=
 PySem.W.hideAll_get _ e λhm=>by
  ~q:(H b).isSome=true:=(List.mem_filter.mp hm).2;rw[n] at q;simp at q
t! Vp{h:Heap}{H:Hp}{b:Addr}{o:Obj}(e:(LV h H).get? b=some o):h.get? b=some o/\H b=none:=by
 ~e':h.get? b=some o:=PySem.W.of_hideAll (Zo h H) e;r! ⟨e',?_⟩;cases q:H b with
 | none=>rfl
 | some x =>
  ~hm:b∈Zo h H:=List.mem_filter.mpr ⟨List.mem_range.mpr (Heap.lt_size e'),by simp[q]⟩;~z:(LV h H).get? b=none:=PySem.W.hideAll_none (Zo h H) hm;rw[z] at e;cases e
end L2
namespace L2
open PySem PySem.Spec PyProof.Rows
structure Mod (K:PySem.W.Frag) (mg:Str->Option Value) (base:Heap):Prop where
 Yu:K.In base
 glob:base.Ns mainGlobals mg
 blt:∃ mb,base.Ns builtinsNs mb/\∀ x:Str,x≠"__name__"->mb x=bootBuiltins x
 nolimit:base.NoLimit
structure Cx where
 prog:Program
 w:World
 K:%ag
 mg:Str->Option Value
 base:Heap
 A:Around
 N:List Str
 CO:Shared
 SX:Hp
 env:Env
 outer:List Env
 stack:List Env
 ex:List Addr
 fn:Str->Bool
 calm:Bool
 pn:List an!
 xe:Value->Shared->Prop
def yd(l:List Env):List Addr:=l.filterMap (·.frame)
abbrev Cx.fs(X:Cx):List Addr:=yd X.outer
def YA(sc:Scope)(x:Str):Prop:=sc.names.lookup x=some .local∨sc.names.lookup x=some .cell∨sc.names.lookup x=some .free
def Loc(sc:Scope)(x:Str):Prop:=sc.names.lookup x=some .local∨sc.names.lookup x=some .cell
def Look(env:Env)(h:Heap)(m:Str->Option Value)(x:Str)(u:Value):Prop :=
 (env.kindOf x=some .local/\m x=some u)∨((env.kindOf x=some .cell∨env.kindOf x=some .free)/\∃ c,env.cells.lookup x=some c/\h.IsCell c (some u))
structure Cx.Ok (X:Cx):Prop where
 mod:Mod X.K X.mg X.base
 kind:X.env.scope.kind=.function
 glob:X.env.globals=mainGlobals
 blt:X.env.builtins=builtinsNs
 above:X.CO.heap.objs.size<=X.env.locals
 inj:∀ x y c,X.env.cells.lookup x=some c->X.env.cells.lookup y=some c->x=y
 has:∀ x,(X.env.kindOf x=some .cell∨X.env.kindOf x=some .free)->∃ c,X.env.cells.lookup x=some c
 Vq:∀ x c,X.fn x=true->X.env.cells.lookup x=some c->X.CO.heap.objs.size<=c
 hd:X.calm=true->X.A.handled=none
 frames:X.A.frames=some X.stack
 WE:X.stack=X.outer∨(X.stack=X.env::X.outer/\X.env.frame=some X.env.locals)
 Vk:∀ b∈X.ex,b≠X.env.locals/\∀ x c,X.env.cells.lookup x=some c->c≠b
 bs:∀ b o,X.base.get? b=some o->X.CO.heap.get? b=some o/\X.SX b=none
 Ri:X.base.objs.size<=X.CO.heap.objs.size
 LW:∀ b o,X.base.get? b=some o->b∉X.ex
 JT:∀ b∈X.ex,b∉X.fs
 i6:X.CO.heap.FunFrames X.base X.outer
 Rk:∀ b∈X.fs,X.SX b=none
structure Inv (X:Cx) (pins:List (Addr×Obj)) (σ:List (Option V)) (H:Hp) (s:Shared):Prop where
 ok:X.Ok
 os:s.os=X.CO.os
 bare:AllBare s.gens
 base:Un X.fs X.ex X.SX H X.CO.heap s.heap
 loc:∃ m,s.heap.Ns X.env.locals m/\∀ (i:Nat) (x:Str) (v:V),X.N[i]?=some x->σ[i]?=some (some v)->YA X.env.scope x->∃ u,RelV v u/\Look X.env s.heap m x u
 cell:∀ x c,X.env.cells.lookup x=some c->∃ v,s.heap.IsCell c v
 free:H X.env.locals=none
 pH:∀ x c,X.env.cells.lookup x=some c->H c=none
 pin:∀ p∈X.pn++pins,s.heap.get? p.1=some p.2/\H p.1=none/\p.1≠X.env.locals/\p.1∉X.fs/\∀ v,p.2.data≠.cell v
 cx:yc X.prog X.w H s.heap
 len:σ.length=X.N.length
section
variable {X:Cx} {pins:List (Addr×Obj)} {σ:List (Option V)} {H H':Hp} {s:Shared} {h':Heap}
t! Cx.Ok.ZJ(ok:X.Ok){b:Addr}{o:Obj}(e:X.base.get? b=some o):b∉X.fs:=λhb=>by
 have:=(ok.i6.mem hb).1;rw[e] at this;cases this
t! Inv.bs(I:Inv X pins σ H s):∀ b o,X.base.get? b=some o->s.heap.get? b=some o/\H b=none:=λb o e =>
 ⟨I.base.keep b o (I.ok.bs b o e).1 (I.ok.bs b o e).2 (I.ok.ZJ e) (I.ok.LW b o e),I.base.free b o (I.ok.bs b o e).1 (I.ok.bs b o e).2 (I.ok.LW b o e)⟩
t! Inv.bk(I:Inv X pins σ H s):∀ b o,X.base.get? b=some o->s.heap.get? b=some o:=λb o e=>(I.bs b o e).1
t! Inv.mod(I:Inv X pins σ H s):Mod X.K X.mg X.base:=I.ok.mod
t! Inv.Ai(I:Inv X pins σ H s):X.K.In s.heap:=I.ok.mod.Yu.keeps I.bk
t! Inv.lt(I:Inv X pins σ H s):X.env.locals < s.heap.objs.size:=let ⟨_,hn,_⟩:=I.loc;hn.lt
t! Inv.sz(I:Inv X pins σ H s):X.CO.heap.objs.size<=s.heap.objs.size:=%aj I.ok.above (Nat.le_of_lt I.lt)
t! Inv.ZK(I:Inv X pins σ H s){a:Addr}(h:s.heap.objs.size<=a):a∉X.fs:=λhb=>by
 o!⟨_,o,ho,_⟩:=I.ok.i6.mem hb;e! absurd (%aB (%av ho) (%aj I.sz h)) (%bJ _)
t! Inv.Xf(I:Inv X pins σ H s):∀ x c,X.env.cells.lookup x=some c->c≠X.env.locals:=λx c e z=>by
 o!⟨v,o,ho,hd⟩:=I.cell x c e;o!⟨m,⟨o',es,ep,ho',hd',_⟩,_⟩:=I.loc;rw[z,ho'] at ho;cases ho;rw[hd'] at hd;cases hd
t! Inv.i6(I:Inv X pins σ H s):s.heap.FunFrames X.base X.outer:=by
 ~all:∀ (l:List Env),(∀ b∈yd l,b∈X.fs)->X.CO.heap.FunFrames X.base l->s.heap.FunFrames X.base l:=by
  intro l
  induction l with
  | nil=>intro _ _;trivial
  | cons env r ih =>
   intro hs hl;o!⟨hk,⟨L,o,hf,hn,ho,hd⟩,hr⟩:=hl;~hL:L∈X.fs:=hs L (by unfold yd;rw[List.filterMap_cons,hf];e! List.mem_cons_self);o!⟨sl,e⟩:=I.base.slot L o ho (I.ok.Rk L hL) hL λz=>I.ok.JT L z hL
   e! ⟨hk,⟨L,_,hf,hn,e,hd⟩,ih (λb hb=>hs b (by unfold yd;rw[List.filterMap_cons,hf];e! List.mem_cons_of_mem _ hb)) hr⟩
 e! all X.outer (λ_ hb=>hb) I.ok.i6
t! Inv.stack(I:Inv X pins σ H s):s.heap.FunFrames X.base X.stack:=by
 rcases I.ok.WE with e | ⟨e,hf⟩
 ·rw[e];e! I.i6
 ·rw[e];o!⟨m,hn,_⟩:=I.loc;r! .cons (by rw[I.ok.kind];decide) hf hn ?_ I.i6;e! Heap.get?_none_of_le (%aj I.ok.Ri I.ok.above)
t! Inv.DS(I:Inv X pins σ H s):∀ b∈yd X.stack,b∈X.env.locals::X.fs:=λb hb=>by
 rcases I.ok.WE with e | ⟨e,hf⟩
 ·rw[e] at hb;e! %af _ hb
 ·rw[e] at hb;unfold yd at hb;rw[List.filterMap_cons,hf] at hb;e! hb
t! Inv.G9(I:Inv X pins σ H s):∀ b∈yd X.stack,H b=none:=λb hb=>by
 rcases %ak (I.DS b hb) with e | hb
 ·rw[e];e! I.free
 ·o!⟨_,o,ho,_⟩:=I.ok.i6.mem hb;e! I.base.free b o ho (I.ok.Rk b hb) λz=>I.ok.JT b z hb
t! Inv.step{g':Array GenState}{t':Nat}{d':Drawn}{ch:List Addr}(I:Inv X pins σ H s)
  (hch:∀ b∈ch,cF!/\b≠X.env.locals/\bV!/\∀ p∈X.pn++pins,p.1≠b)
  (keep:∀ b o,b≠X.env.locals->b∉X.fs->b∉ch->s.heap.get? b=some o->H b=none->h'.get? b=some o)
  (slot:∀ b o,b≠X.env.locals->b∈X.fs->b∉ch->s.heap.get? b=some o->H b=none->∃ sl,h'.get? b=some {o with slots:=sl}) (free:∀ b o,b∉ch->s.heap.get? b=some o->H b=none->H' b=none)
  (there:∀ b o,b∉ch->s.heap.get? b=some o->∃ o',h'.get? b=some o')
  (Gn:∀ b xs,H b=some d4!->H' b=some d4!) (CN:∀ b o u,H b=some (.ql o u)->H' b=some (.ql o u)) (Gp:∀ b ps,H b=some (.Xd ps)->∃ more,H' b=some (.Xd (ps++more)))
  (ns:∀ m,s.heap.Ns X.env.locals m->h'.Ns X.env.locals m) (cx:yc X.prog X.w H' h') (hg:AllBare g') :
  Inv X pins σ H' {s with heap:=h',gens:=g',drawn:=d',toks:=t'}:=by
 ~neL:∀ b o,X.CO.heap.get? b=some o->b≠X.env.locals:=λb o e=>%aJ d8!
 ~neC:∀ b o,X.CO.heap.get? b=some o->b∉X.ex->b∉ch:=λb o e hx hb=>by
  rcases (hch b hb).1 with z | z
  ·e! hx z
  ·e! absurd (%aB (%av e) z) (%bJ _)
 ~cellK:∀ x c,X.env.cells.lookup x=some c->∀ v,s.heap.IsCell c v->h'.IsCell c v:=λx c e v ⟨o,ho,hd⟩=>by
  ~nch:c∉ch:=λz=>(hch c z).2.2.1 x c e rfl
  by_cases hc:c∈X.fs
  ·o!⟨sl,q⟩:=slot c o (I.Xf x c e) hc nch ho (I.pH x c e);e! ⟨_,q,hd⟩
  ·e! ⟨o,keep c o (I.Xf x c e) hc nch ho (I.pH x c e),hd⟩
 r! ⟨I.ok,I.os,hg,⟨λb o e n hb hx=>?_,λb o e n hb hx=>?_,λb o e n hx=>?_,λb o e hx=>?_,λb xs e=>Gn b xs (I.base.Gn b xs e),λb o xs e=>CN b o xs (I.base.CN b o xs e),λb ps e=>?_⟩,?_,λx c e=>?_,?_,λx c e=>?_,λp hp=>?_,cx,I.len⟩
 ·e! keep b o (neL b o e) hb (neC b o e hx) eX! d3!
 ·o!⟨sl,e1⟩:=I.base.slot b o e n hb hx;o!⟨sl',e2⟩:=slot b _ (neL b o e) hb (neC b o e hx) e1 d3!;e! ⟨sl',e2⟩
 ·o!⟨o',e1⟩:=I.base.there b o e hx;e! free b o' (neC b o e hx) e1 d3!
 ·o!⟨o',e1⟩:=I.base.there b o e hx;e! there b o' (neC b o e hx) e1
 ·o!⟨m1,e1⟩:=I.base.Gp b ps e;o!⟨m2,e2⟩:=Gp b _ e1;e! ⟨m1++m2,by rw[e2,Array.append_assoc]⟩
 ·o!⟨m,hn,hl⟩:=I.loc;r! ⟨m,ns m hn,λi x v e1 e2 e3=>?_⟩;o!⟨u,r,l⟩:=hl i x v e1 e2 e3;r! ⟨u,r,?_⟩;rcases l with l | ⟨k,c,e,z⟩
  ·e! .inl l
  ·e! .inr ⟨k,c,e,cellK x c e _ z⟩
 ·o!⟨v,z⟩:=I.cell x c e;e! ⟨v,cellK x c e v z⟩
 ·o!⟨m,⟨o,_,_,ho,_⟩,_⟩:=I.loc;e! free _ o (λz=>(hch _ z).2.1 rfl) ho I.free
 ·o!⟨v,o,ho,hd⟩:=I.cell x c e;e! free c o (λz=>(hch c z).2.2.1 x c e rfl) ho (I.pH x c e)
 ·o!⟨e,n,ne,nf,d⟩:=I.pin p hp;~nch:p.1∉ch:=λz=>(hch p.1 z).2.2.2 p hp rfl
  e! ⟨keep p.1 p.2 ne nf nch e n,free p.1 p.2 nch e n,ne,nf,d⟩
t! Inv.un{t':Nat}(I:Inv X pins σ H s)(u:Un X.fs [] H H' s.heap h')(cx:yc X.prog X.w H' h'):Inv X pins σ H' {s with heap:=h',toks:=t'}:=by
 o!⟨m,⟨o,es,ep,ho,r⟩,_⟩:=id I.loc;o!⟨sl,hL⟩:=u.any ho I.free ai!;e! I.step (g':=s.gens) (d':=s.drawn) (ch:=[]) (λ_ z=>nomatch z) (λb o _ hb _ e n=>u.keep b o e n hb ai!) (λb o _ hb _ e n=>u.slot b o e n hb ai!) (λb o _ e n=>u.free b o e n ai!) (λb o _ e=>u.there b o e ai!) u.Gn u.CN u.Gp (λm' hm=>by
  o!⟨o',es',ep',ho',r'⟩:=hm;rw[ho] at ho';cases ho';e! ⟨_,es',ep',hL,r'⟩) cx I.bare
t! Inv.call{g':Array GenState}{t':Nat}{d':Drawn}{ch:List Addr}(I:Inv X pins σ H s)(u:Un (yd X.stack) ch H H' s.heap h')(cx:yc X.prog X.w H' h')(hg:AllBare g')
  (hch:∀ b∈ch,cF!/\b≠X.env.locals/\bV!/\∀ p∈X.pn++pins,p.1≠b) :
  Inv X pins σ H' {s with heap:=h',gens:=g',drawn:=d',toks:=t'}:=by
 o!⟨m,⟨o,es,ep,ho,r⟩,_⟩:=id I.loc;o!⟨sl,hL⟩:=u.any ho I.free λz=>(hch _ z).2.1 rfl
 e! I.step (ch:=ch) hch (λb o hL hb hc e n=>u.keep b o e n (λz=>(%ak (I.DS b z)).elim hL hb) hc) (λb o _ _ hc e n=>u.any e n hc) (λb o hc e n=>u.free b o e n hc) (λb o hc e=>u.there b o e hc) u.Gn u.CN u.Gp (λm' hm=>by
  o!⟨o',es',ep',ho',r'⟩:=hm;rw[ho] at ho';cases ho';e! ⟨_,es',ep',hL,r'⟩) cx hg
t! Inv.turned{t':Nat}{it:Addr}(I:Inv X pins σ H s)(k:∀ b o,b≠it->s.heap.get? b=some o->h'.get? b=some o)(hn:H it=none)(hL:it≠X.env.locals)
  (h1:it∈X.ex∨X.CO.heap.objs.size<=it) (h2:∀ x c,X.env.cells.lookup x=some c->c≠it) (h3:∀ p∈X.pn++pins,p.1≠it):Inv X pins σ H {s with heap:=h',toks:=t'}:=by
 ~nit:∀ b u,H b=some u->b≠it:=λb u e z=>by rw[z,hn] at e;cases e
 r! I.step (g':=s.gens) (d':=s.drawn) (ch:=[it]) (λb hb=>?_) (λb o _ _ hc e _=>k b o (λz=>hc eL!) e) (λb o _ _ hc e _=>⟨o.slots,k b o (λz=>hc eL!) e⟩) (λ_ _ _ _ n=>n)
  (λb o hc e=>⟨o,k b o (λz=>hc eL!) e⟩) (λ_ _ e=>e) du! (λb ps e=>⟨#[],by rw[e];simp⟩) (λm hm=>?_) (λb u e=>?_) I.bare
 ·~e:b=it:=by simpa using hb
  subst e;e! ⟨h1,hL,h2,h3⟩
 ·o!⟨o,es,ep,ho,r⟩:=hm;e! ⟨o,es,ep,k _ o (Ne.symm hL) ho,r⟩
 ·r! (I.cx b u e).Gm fj! (λ_ q=>q) λ_ _ q=>q
  rcases hc with z | z
  ·rw[z];e! nit b u e
  ·e! nit c _ z
t! Inv.tok(I:Inv X pins σ H s)(t:Nat):Inv X pins σ H {s with toks:=t}:=I.un (h':=s.heap) (t':=t) Un.refl I.cx
t! Inv.kept{t':Nat}(I:Inv X pins σ H s)(k:∀ b u,s.heap.get? b=some u->h'.get? b=some u):Inv X pins σ H {s with heap:=h',toks:=t'}:=I.un (Un.kept k) (I.cx.kept k)
t! Inv.laid{a:Addr}{o:HO}{t':Nat}(I:Inv X pins σ H s)(k:∀ b u,s.heap.get? b=some u->h'.get? b=some u)(hp:s.heap.objs.size<=a)(new:eS X.prog X.w gd! h' a o) :
  Inv X pins σ gd! {s with heap:=h',toks:=t'}:=I.un (Un.laid k hp (I.cx.fresh hp)) (I.cx.laid k hp new)
t! Inv.write{x e:Addr}{o:HO}{t':Nat}(I:Inv X pins σ H s)(mu:WD (H x))(he:e=x∨H e=some (.own x))(k:∀ b u,b≠e->s.heap.get? b=some u->h'.get? b=some u)(heo:∃ u,h'.get? e=some u)
  (new:eS X.prog X.w (upd H x o) h' x o):Inv X pins σ (upd H x o) {s with heap:=h',toks:=t'}:=I.un (Un.write mu he k heo) (I.cx.write mu he k heo new)
t! Inv.weak{σ':List (Option V)}(I:Inv X pins σ H s)(hl:σ'.length=σ.length)(w:∀ (i:Nat) v,σ'[i]?=some (some v)->σ[i]?=some (some v)):Inv X pins σ' H s :=
 ⟨I.ok,I.os,I.bare,I.base,let ⟨m,hn,hl'⟩:=I.loc;⟨m,hn,λi x v e1 e2 e3=>hl' i x v e1 (w i v e2) e3⟩,I.cell,I.free,I.pH,I.pin,I.cx,hl.trans I.len⟩
t! Inv.Qq{pins':List an!}(I:Inv X pins σ H s)(h:∀ p∈pins',s.heap.get? p.1=some p.2/\H p.1=none/\p.1≠X.env.locals/\p.1∉X.fs/\∀ v,p.2.data≠.cell v):Inv X pins' σ H s :=
 ⟨I.ok,I.os,I.bare,I.base,I.loc,I.cell,I.free,I.pH,λp hp=>(%bA hp).elim (λz=>I.pin p (%cl _ z)) (h p),I.cx,I.len⟩
t! Hx{N:List Str}(hN:N.Nodup){i j:Nat}{x:Str}(a:N[i]?=some x)(b:N[j]?=some x):i=j:=by
 o!⟨h1,e1⟩:=%ae a;o!⟨h2,e2⟩:=%ae b;e! (List.getElem_inj hN).mp (e1.trans e2.symm)
t! Ko{M:Model}{A:Around}{E:Value->Shared->Prop}{i:Nat}{x:Str}{v:V}{u:Value}{Q:Unit->Shared->Prop}(I:Inv X pins σ H s)(hN:X.N.Nodup)(hi:X.N[i]?=some x)(hx:Loc X.env.scope x)(r:RelV v u)
  (h:∀ s',Inv X pins (σ.set i (some v)) H s'->(∃ a,%cv a s.heap s'.heap/\(a=X.env.locals∨X.env.cells.lookup x=some a))->Q () s') (hf:X.fn x=true∨X.env.scope.names.lookup x=some .local:=by first | exact .inl rfl | exact .inr rfl | assumption):wpAny M A (storeName X.env x u) Q E s:=by
 o!⟨m,hn,hl⟩:=id I.loc;~hcls:(X.env.scope.kind == .class || (X.env.scope.kind == .module && X.env.locals != X.env.globals))=false:=by rw[I.ok.kind];rfl
 ~hiσ:i < σ.length:=by rw[I.len];e! (%ae hi).1
 ~Xf:=I.Xf;~tracked:∀ {a:Addr} {h':Heap},(∃ o,s.heap.get? a=some o/\H a=none)->%cv a s.heap h'->yc X.prog X.w H h':=λ{a h'} ha hs b ob e=>by
  o!⟨_,_,hfree⟩:=ha;r! (I.cx b ob e).Gm (λc w' hc q=>(hs.2 c ?_).trans q) (λ_ q=>q) λ_ _ q=>q
  rintro rfl;rcases hc with rfl | hc
  ·rw[hfree] at e;cases e
  ·rw[hfree] at hc;cases hc
 rcases hx with hk | hk
 ·r! wpAny_storeName_local hk hn (λh' hn' hs=>?_) hcls;o!⟨oL,_,_,hoL,_⟩:=id hn;r! h _ ⟨I.ok,I.os,I.bare,⟨λb o e n hb hx=>?_,λb o e n hb hx=>?_,I.base.free,λb o e hx=>?_,I.base.Gn,I.base.CN,I.base.Gp⟩,⟨_,hn',λj y v' e1 e2 e3=>?_⟩,λy c e=>?_,I.free,I.pH,λp hp=>?_,tracked ⟨oL,hoL,I.free⟩ hs,by simpa using I.len⟩ ⟨_,hs,.inl rfl⟩
  ·e! (hs.2 b (%aJ d8!)).trans eX!
  ·o!⟨sl,e1⟩:=I.base.slot b o e n hb hx;e! ⟨sl,(hs.2 b (%aJ d8!)).trans e1⟩
  ·o!⟨o',e1⟩:=I.base.there b o e hx;e! ⟨o',(hs.2 b (%aJ d8!)).trans e1⟩
  ·by_cases hj:j=i
   ·subst hj;rw[hi] at e1;cases e1;rw[%cJ hiσ] at e2;cases e2;e! ⟨u,r,.inl ⟨hk,by simp⟩⟩
   ·rw[List.getElem?_set_ne (Ne.symm hj)] at e2;o!⟨u',r',q⟩:=hl j y v' e1 e2 e3;r! ⟨u',r',?_⟩;rcases q with ⟨k,e⟩ | ⟨k,c,e,z⟩
    ·r! .inl ⟨k,?_⟩;have:y≠x:=λe=>hj (Hx hN e1 (e ▸ hi))
     simp[this,e]
    ·e! .inr ⟨k,c,e,z.sameBut hs (Xf y c e)⟩
  ·o!⟨w',z⟩:=I.cell y c e;e! ⟨w',z.sameBut hs (Xf y c e)⟩
  ·o!⟨e,n,ne,nf,d⟩:=I.pin p hp;e! ⟨(hs.2 p.1 ne).trans e,n,ne,nf,d⟩
 ·~hfn:X.fn x=true:=by
   rcases hf with z | z
   ·e! z
   ·rw[z] at hk;cases hk
  o!⟨c,hc⟩:=I.ok.has x (.inl hk);o!⟨w',z⟩:=I.cell x c hc;r! wpAny_storeName_cell I.ok.kind hk hc z (λh' hc' hs=>?_);o!⟨oc,hoc,hocd⟩:=id z;r! h {s with heap:=h'} ⟨I.ok,I.os,I.bare,⟨λb o e n hb hx=>?_,λb o e n hb hx=>?_,I.base.free,λb o e hx=>?_,I.base.Gn,I.base.CN,I.base.Gp⟩,⟨m,hn.sameBut hs (Ne.symm (Xf x c hc)),λj y v' e1 e2 e3=>?_⟩,λy c' e=>?_,I.free,I.pH,λp hp=>?_,tracked ⟨oc,hoc,I.pH x c hc⟩ hs,by simpa using I.len⟩ ⟨c,hs,.inr hc⟩
  ·e! (hs.2 b dr!).trans eX!
  ·o!⟨sl,e1⟩:=I.base.slot b o e n hb hx;e! ⟨sl,(hs.2 b dr!).trans e1⟩
  ·o!⟨o',e1⟩:=I.base.there b o e hx;e! ⟨o',(hs.2 b dr!).trans e1⟩
  ·by_cases hj:j=i
   ·subst hj;rw[hi] at e1;cases e1;rw[%cJ hiσ] at e2;cases e2;e! ⟨u,r,.inr ⟨.inl hk,c,hc,hc'⟩⟩
   ·rw[List.getElem?_set_ne (Ne.symm hj)] at e2;o!⟨u',r',q⟩:=hl j y v' e1 e2 e3;r! ⟨u',r',?_⟩;rcases q with q | ⟨k,c',e,z'⟩
    ·e! .inl q
    ·r! .inr ⟨k,c',e,z'.sameBut hs ?_⟩;rintro rfl;e! hj (Hx hN e1 (I.ok.inj _ _ _ e hc ▸ hi))
  ·by_cases hcc:c'=c
   ·subst hcc;e! ⟨_,hc'⟩
   ·o!⟨w2,z2⟩:=I.cell y c' e;e! ⟨w2,z2.sameBut hs hcc⟩
  ·o!⟨e,n,ne,nf,d⟩:=I.pin p hp;r! ⟨(hs.2 p.1 ?_).trans e,n,ne,nf,d⟩;intro q;rw[q,hoc] at e;~q':oc=p.2:=%aD e;e! d w' (by rw[←q'];e! hocd)
t! M7{M:Model}{A:Around}{E:Value->Shared->Prop}{i:Nat}{x:Str}{v:V}{u:Value}{Q:Unit->Shared->Prop}(I:Inv X pins σ H s)(hN:X.N.Nodup)(hi:X.N[i]?=some x)(hx:Loc X.env.scope x)(r:RelV v u)
  (h:∀ s',Inv X pins (σ.set i (some v)) H s'->Q () s') (hf:X.fn x=true∨X.env.scope.names.lookup x=some .local:=by first | exact .inl rfl | exact .inr rfl | assumption):wpAny M A (storeName X.env x u) Q E s :=
 Ko I hN hi hx r (λs' I' _=>h s' I') hf
t! Inv.Kp{s':Shared}{ch:List Addr}(I:Inv X pins σ H s)(ho:s'.os=s.os)(u:Un (yd X.stack) ch H H' s.heap s'.heap)(cx:yc X.prog X.w H' s'.heap)(hg:AllBare s'.gens)
  (hch:∀ b∈ch,cF!/\b≠X.env.locals/\bV!/\∀ p∈X.pn++pins,p.1≠b):Inv X pins σ H' s':=by
 o!⟨h',g',d',t',o'⟩:=s';~e:o'=s.os:=ho;subst e;e! I.call (g':=g') (t':=t') (d':=d') u cx hg hch
end
abbrev XK:=Value->Option Addr->Hp->Prop
abbrev St:=List (Option V)
abbrev VK:=V->Hp->Prop
abbrev TE:=St->Hp->VK->Prop
abbrev TT:=St->Hp->(Bool->Hp->Prop)->Prop
abbrev TA:=St->Hp->(List V->Hp->Prop)->Prop
structure Ends where
 nx:St->Hp->Prop
 rt:VK
 bk:St->Hp->Prop:=λ_ _=>False
 ct:St->Hp->Prop:=λ_ _=>False
abbrev TS:=Ends->St->Hp->Prop
def EP(X:Cx)(pins:List an!)(σ:St)(Q:VK)(u:Value)(s':Shared):Prop:=∃ v H',Inv X pins σ H' s'/\RelV v u/\Q v H'
def TP(X:Cx)(pins:List an!)(σ:St)(Q:Bool->Hp->Prop)(b:Bool)(s':Shared):Prop:=∃ H',Inv X pins σ H' s'/\Q b H'
def AP(X:Cx)(pins:List an!)(σ:St)(Q:List V->Hp->Prop)(us:List Value)(s':Shared):Prop:=∃ vs H',Inv X pins σ H' s'/\Vals vs us/\Q vs H'
def SP(X:Cx)(pins:List an!)(D:Ends)(f:Flow)(s':Shared):Prop :=
 match f with
 | .next=>∃ σ' H',Inv X pins σ' H' s'/\D.nx σ' H'
 | .brk=>∃ σ' H',Inv X pins σ' H' s'/\D.bk σ' H'
 | .cont=>∃ σ' H',Inv X pins σ' H' s'/\D.ct σ' H'
 | .ret u=>∃ v σ' H',Inv X pins σ' H' s'/\RelV v u/\D.rt v H'
def PE(X:Cx)(e:Expr)(t:TE):Prop :=
 ∀ (pins:List an!) (s:Shared) (σ:St) (H:Hp) (Q:VK),Inv X pins σ H s->t σ H Q->wpAny af! X.A (eval e X.env) bD! X.xe s
def PT(X:Cx)(e:Expr)(t:TT):Prop :=
 ∀ (pins:List an!) (s:Shared) (σ:St) (H:Hp) (Q:Bool->Hp->Prop),Inv X pins σ H s->t σ H Q->wpAny af! X.A (isTrue e X.env (eval e X.env)) fZ! X.xe s
def PW(X:Cx)(e:Expr)(t:TT):Prop :=
 ∀ (whole:Sem Value) (pins:List an!) (s:Shared) (σ:St) (H:Hp) (Q:Bool->Hp->Prop),Inv X pins σ H s->t σ H Q->wpAny af! X.A (isTrue e X.env whole) fZ! X.xe s
t! PW.pt{X:Cx}{e:Expr}{t:TT}(h:PW X e t):PT X e t:=h _
def PA(X:Cx)(es:List Expr)(t:TA):Prop :=
 ∀ (pos:Pos) (pins:List an!) (s:Shared) (σ:St) (H:Hp) (Q:List V->Hp->Prop),Inv X pins σ H s->t σ H Q->wpAny af! X.A (spliced (backTo pos bH!)) (AP X pins σ Q) X.xe s
def PS(X:Cx)(st:Stmt)(t:TS):Prop :=
 ∀ (pins:List an!) (s:Shared) (σ:St) (H:Hp) (D:Ends),Inv X pins σ H s->t D σ H->wpAny af! X.A (exec st X.env) (SP X pins D) X.xe s
def MZ(X:Cx)(st:List Stmt)(t:TS):Prop :=
 ∀ (pins:List an!) (s:Shared) (σ:St) (H:Hp) (D:Ends),Inv X pins σ H s->t D σ H->wpAny af! X.A (execs st X.env) (SP X pins D) X.xe s
t! fH{α:Type}{t:Sem α}{Q Q':α->Shared->Prop}{M:Model}{A:Around}{E:Value->Shared->Prop}{s:Shared}(h:wpAny M A t Q E s)(hQ:∀ a s,Q a s->Q' a s):wpAny M A t Q' E s:=wpAny_mono h hQ λ_ _ x=>x
end L2
namespace L2
open PySem PySem.Spec PyProof.Rows
section
variable {X:Cx}
t! bin{a b:Expr}{ta tb:TE}(ha:PE X a ta)(hb:PE X b tb){pins:List an!}{s:Shared}{σ:St}{H:Hp}{R:V->V->Hp->Prop}(I:Inv X pins σ H s)(h:ta σ H λx H1=>tb σ H1 λy H2=>R x y H2)
  {α:Type} {Q:α->Shared->Prop} {f:Value->Value->Sem α}
  (hf:∀ v u s2 x y H2,Inv X pins σ H2 s2->RelV x v->RelV y u->R x y H2->wpAny af! X.A (f v u) Q X.xe s2) :
  wpAny af! X.A (eval a X.env) (λv s₁=>wpAny af! X.A (eval b X.env) (λu s₂=>wpAny af! X.A (f v u) Q X.xe s₂) X.xe s₁) X.xe s:=by
 r! fH bB! λv s1 ⟨x,H1,I1,r1,q1⟩=>?_
 r! fH e3! λu s2 ⟨y,H2,I2,r2,q2⟩=>?_
 e! hf v u s2 x y H2 I2 r1 r2 q2
def i7(i:Nat):TE:=fun σ H Q=>∃ v,σ[i]?=some (some v)/\Q v H
def tC(v:V):TE:=λ_ H Q=>Q v H
t! Xg{i:Nat}{x:Str}{pos:Pos}(hN:X.N[i]?=some x)(hv:YA X.env.scope x)(hd:aE!=false:=by decide)(hcd:(x == ("__classdict__":Str))=false:=by decide):PE X er! (i7 i):=by
 intro pins s σ H Q I h;o!⟨v,e,h⟩:=h;o!⟨m,hn,hl⟩:=I.loc;o!⟨u,r,l⟩:=hl i x v hN e hv;~fin:EP X pins σ Q u s:=⟨v,H,I,r,h⟩;rcases l with ⟨hk,hm⟩ | ⟨hk,c,hc,hcell⟩
 ·e! wpAny_Name (wpAny_loadName_local I.ok.kind hk hn hm fin) hd
 ·rcases hk with hk | hk
  ·e! wpAny_Name (wpAny_loadName_cell I.ok.kind hk hc hcell fin) hd
  ·e! wpAny_Name (wpAny_loadName_free I.ok.kind hk hc hcell fin hcd) hd
t! aI{i j pos}:PE X (.Constant (.int i) j pos) (tC (.int i)):=λ_ _ _ H _ I h=>wpAny_Constant_int ⟨.int i,H,I.tok _,⟨_,rfl⟩,h⟩
t! Hy{b j pos}:PE X (.Constant (.bool b) j pos) (tC (.bl b)):=λ_ _ _ H _ I h=>Constant_bool ⟨.bl b,H,I,rfl,h⟩
t! cN{x j pos}:PE X (.Constant (.str x) j pos) (tC (.str x)):=λ_ _ _ H _ I h=>Calls.Constant_str ⟨.str x,H,I.tok _,⟨_,rfl⟩,h⟩
def Gl(X:Cx)(x:Str):Prop:=X.env.kindOf x=some .globalImplicit
t! tZ{E:Value->Shared->Prop}{pins:List an!}{s:Shared}{σ:St}{H:Hp}{x:Str}{u:Value}{pos:Pos}{Q:Value->Shared->Prop}(I:Inv X pins σ H s)(hg:Gl X x)(hm:X.mg x=some u)(h:Q u s)
  (hd:aE!=false:=by decide):wpAny af! X.A (eval er! X.env) Q E s :=
 Calls.Name_function_global I.ok.kind hg (Calls.loadGlobal_global (by rw[I.ok.glob];e! I.mod.glob.keeps I.bk) hm h) hd
t! Hz{E:Value->Shared->Prop}{pins:List an!}{s:Shared}{σ:St}{H:Hp}{x:Str}{u:Value}{pos:Pos}{Q:Value->Shared->Prop}(I:Inv X pins σ H s)(hg:Gl X x)(hm:X.mg x=none)(hv:bootBuiltins x=some u)(h:Q u s)
  (hn:x≠"__name__":=by decide) (hd:aE!=false:=by decide):wpAny af! X.A (eval er! X.env) Q E s:=by
 o!⟨mb,h1,h2⟩:=I.mod.blt;e! Calls.Name_function_global I.ok.kind hg (Calls.loadGlobal_builtin (by rw[I.ok.glob];e! I.mod.glob.keeps I.bk) hm (by rw[I.ok.blt];e! h1.keeps I.bk) ((h2 x hn).trans hv) h) hd
t! aQ{x:Str}{v:V}{u:Value}{pos:Pos}(hg:Gl X x)(hm:X.mg x=some u)(r:RelV v u)(hd:aE!=false:=by decide):PE X er! (tC v) :=
 λ_ _ _ H _ I h=>tZ I hg hm ⟨v,H,I,r,h⟩ hd
t! Vr{x:Str}{v:V}{u:Value}{pos:Pos}(hg:Gl X x)(hm:X.mg x=none)(hv:bootBuiltins x=some u)(r:RelV v u)(hn:x≠"__name__":=by decide)(hd:aE!=false:=by decide):PE X er! (tC v) :=
 λ_ _ _ H _ I h=>Hz I hg hm hv ⟨v,H,I,r,h⟩ hn hd
def t2I(ta tb:TE)(k:Int->Int->Hp->Prop):St->Hp->Prop:=fun σ H=>ta σ H λx H1=>tb σ H1 λy H2=>∃ i j,x=.int i/\y=.int j/\k i j H2
def ZL(ta tb:TE):TE:=fun σ H Q=>t2I ta tb (λi j H2=>Q (.int (i+j)) H2) σ H
variable {a b:Expr} {ta tb:TE} {pos:Pos}
t! OC(ha:PE X a ta)(hb:PE X b tb):PE X (.BinOp a .Add b pos) (ZL ta tb):=by
 intro pins s σ H Q I h;r! wpAny_BinOp (bin ha hb I h λv u s2 x y H2 I2 rx ry q=>?_);o!⟨i,j,rfl,rfl,q⟩:=q;o!⟨t,rfl⟩:=rx;o!⟨t',rfl⟩:=ry;e! add_int ⟨.int _,H2,I2.tok _,⟨_,rfl⟩,q⟩
def PC(X:Cx)(op:CmpOp)(a b:Expr)(t:TE):Prop :=
 ∀ (pins:List an!) (s:Shared) (σ:St) (H:Hp) (Q:VK),Inv X pins σ H s->t σ H Q ->
  wpAny af! X.A (eval a X.env) (λv s₁=>wpAny af! X.A (eval b X.env) (λu s₂=>wpAny af! X.A (compareOp op v u) bD! X.xe s₂) X.xe s₁) X.xe s
t! M8(b:Expr){op:CmpOp}(h:op≠.In)(h2:op≠.NotIn):behindInMarks op b=false:=by
 ~e1:(op == CmpOp.In)=false:=by cases op<;>first | rfl | exact absurd rfl h
 ~e2:(op == CmpOp.NotIn)=false:=by cases op<;>first | rfl | exact absurd rfl h2
 cases b<;>simp[behindInMarks,e1,e2]
def SY(p:Int->Int->Bool)(ta tb:TE):TE:=fun σ H Q=>t2I ta tb (λi j H2=>Q (.bl (p i j)) H2) σ H
abbrev tLt:TE->TE->TE:=SY λi j=>decide (i < j)
abbrev tLe:TE->TE->TE:=SY λi j=>decide (i<=j)
abbrev tGt:TE->TE->TE:=SY λi j=>decide (j < i)
abbrev tGe:TE->TE->TE:=SY λi j=>decide (j<=i)
t! LX{op:CmpOp}{p:Int->Int->Bool}(ha:PE X a ta)(hb:PE X b tb)
  (rule:∀ (i j:Int) (t u:Tok) (Q:Value->Shared->Prop) (s:Shared),Q (.bool (p i j)) s->wpAny af! X.A (compareOp op (.int i t) (.int j u)) Q X.xe s):PC X op a b (SY p ta tb):=by
 intro pins s σ H Q I h;r! bin ha hb I h λv u s2 x y H2 I2 rx ry q=>?_
 o!⟨i,j,rfl,rfl,q⟩:=q;o!⟨t,rfl⟩:=rx;o!⟨t',rfl⟩:=ry;e! rule i j t t' _ s2 ⟨.bl _,H2,I2,rfl,q⟩
t! Kq(ha:PE X a ta)(hb:PE X b tb):PC X .Lt a b (tLt ta tb):=LX ha hb λ_ _ _ _ _ _ h=>lt_int h
t! YB(ha:PE X a ta)(hb:PE X b tb):PC X .LtE a b (tLe ta tb):=LX ha hb λ_ _ _ _ _ _ h=>le_int h
t! S9(ha:PE X a ta)(hb:PE X b tb):PC X .Gt a b (tGt ta tb):=LX ha hb λ_ _ _ _ _ _ h=>gt_int h
t! WG(ha:PE X a ta)(hb:PE X b tb):PC X .GtE a b (tGe ta tb):=LX ha hb λ_ _ _ _ _ _ h=>ge_int h
def tB(t:TE):TT:=fun σ H Q=>t σ H λx H1=>∃ c,x=.bl c/\Q c H1
t! Xh{op:CmpOp}{t:TE}(h:PC X op a b t)(h1:behindInMarks op b=false:=by first | exact M8 _ ag! ag! | rfl):PE X dS! t:=λpins s σ H Q I hw=>wpAny_Compare1 fT! h1
t! jR{op:CmpOp}{t:TE}(h:PC X op a b t)(h1:behindInMarks op b=false:=by first | exact M8 _ ag! ag! | rfl):PT X dS! (tB t):=by
 intro pins s σ H Q I hw;r! wpAny_isTrue_Compare1 (fH fS! λv s1 h1=>fH h1 λu s2 h2=>fH h2 λc s3 ⟨x,H1,I1,r1,q1⟩=>?_) h1;o!⟨d,rfl,q⟩:=q1;cases r1;e! wpAny_truthy_bool ⟨H1,I1,q⟩
t! qo{e:Expr}{t:TE}(h:PE X e t)(he:∀ whole,isTrue e X.env whole=(do let v ←whole;standAt e.pos;holding [v] (truthy v)):=by intro _;rfl):PT X e (tB t):=by
 intro pins s σ H Q I hw;r! isTrue_plain (fH fS! λv s1 ⟨x,H1,I1,r1,q1⟩=>?_) (he _);o!⟨d,rfl,q⟩:=q1;cases r1;e! wpAny_truthy_bool ⟨H1,I1,q⟩
variable {tA tB':TT} {rest:List Expr}
def ZM(t u:TT):TT:=fun σ H Q=>t σ H λc H1=>if c=true then u σ H1 Q else Q false H1
def ZN(t u:TT):TT:=fun σ H Q=>t σ H λc H1=>if c=true then Q true H1 else u σ H1 Q
def YC(t:TT):TT:=fun σ H Q=>t σ H λc H1=>Q (!c) H1
t! Hc(ha:PT X a tA):PW X (.BoolOp .And [a] pos) tA:=by
 intro wh pins s σ H Q I h;r! isTrue_and (fH (ha pins s σ H Q I h) λc s1 e=>?_);cases c with
 | true=>e! isTrue_and_nil e
 | false=>e! e
t! BG(ha:PT X a tA):PW X (.BoolOp .Or [a] pos) tA:=by
 intro wh pins s σ H Q I h;r! isTrue_or (fH (ha pins s σ H Q I h) λc s1 e=>?_);cases c with
 | false=>e! isTrue_or_nil e
 | true=>e! e
t! LY(ha:PT X a tA)(hb:PW X (.BoolOp .And (b::rest) pos) tB'):PW X (.BoolOp .And (a::b::rest) pos) (ZM tA tB'):=by
 intro wh pins s σ H Q I h;r! isTrue_and (fH bB! λc s1 ⟨H1,I1,q1⟩=>?_);cases c with
 | true=>e! hb wh pins s1 σ H1 Q I1 q1
 | false=>e! ⟨H1,I1,q1⟩
t! Fj(ha:PT X a tA)(hb:PW X (.BoolOp .Or (b::rest) pos) tB'):PW X (.BoolOp .Or (a::b::rest) pos) (ZN tA tB'):=by
 intro wh pins s σ H Q I h;r! isTrue_or (fH bB! λc s1 ⟨H1,I1,q1⟩=>?_);cases c with
 | true=>e! ⟨H1,I1,q1⟩
 | false=>e! hb wh pins s1 σ H1 Q I1 q1
t! yJ(ha:PT X a tA):PT X (.UnaryOp .Not a pos) (YC tA):=by
 intro pins s σ H Q I h;e! isTrue_not (ha pins s σ H (λc H1=>Q (!c) H1) I h)
def YD(ta tb:TE):TE:=fun σ H Q=>ta σ H λx H1=>∃ c,x=.bl c/\if c=true then tb σ H1 Q else Q (.bl false) H1
t! Ta{op}{t:TE}(h:PE X a t):PE X (.BoolOp op [a] pos) t:=λpins s σ H Q I hw=>BoolOp_one fT!
t! LZ(ha:PE X a ta)(hb:PE X (.BoolOp .And (b::rest) pos) tb):PE X (.BoolOp .And (a::b::rest) pos) (YD ta tb):=by
 intro pins s σ H Q I h;r! BoolOp_and (fH bB! λv s1 ⟨x,H1,I1,r1,q1⟩=>?_);o!⟨c,rfl,q1⟩:=q1;cases r1;r! wpAny_truthy_bool ?_;cases c with
 | true=>e! hb pins s1 σ H1 Q I1 q1
 | false=>e! ⟨.bl false,H1,I1,rfl,q1⟩
def tIf(t:TT)(ta tb:TE):TE:=fun σ H Q=>t σ H λc H1=>if c=true then ta σ H1 Q else tb σ H1 Q
t! HD{c:Expr}(hc:PT X c tA)(ha:PE X a ta)(hb:PE X b tb):PE X (.IfExp c a b pos) (tIf tA ta tb):=by
 intro pins s σ H Q I h;r! wpAny_IfExp (fH fR! λd s1 ⟨H1,I1,q1⟩=>?_);cases d with
 | true=>e! ha pins s1 σ H1 Q I1 q1
 | false=>e! hb pins s1 σ H1 Q I1 q1
end
end L2
namespace L2
open PySem PySem.Spec PyProof.Rows
def aX(K:%ag)(H:Hp)(a:Addr)(xs:List V):Prop :=
 Rd H a da! ∨
  ∃ (o:Obj) (its:Array Value) (n:Nat),K.lookup a=some o/\o.cls=.type "list"/\o.dict=none/\o.data=.seq its n/\its.size<=sizeLine/\Vals xs its.toList
def JQ(K:%ag)(H:Hp)(a:Addr)(xs:List V):Prop :=
 Rd H a d4! ∨
  ∃ (o:Obj) (its:Array Value) (n:Nat),K.lookup a=some o/\o.cls=.type "tuple"/\o.data=.seq its n/\its.size<=sizeLine/\Vals xs its.toList
def ZO:Value->Option V
 | .none=>some .fK
 | .bool b=>some (.bl b)
 | .int i _=>some (.int i)
 | .str x _=>some (.str x)
 | .bytes b _=>some (.MY b)
 | .float b _=>some (.Xc b)
 | .ref a=>some (.ref a)
 | .type n=>some (.ty n)
 | _=>none
t! RelV.abs{x:V}{u:Value}(r:RelV x u):ZO u=some x:=by
 cases x with
 | fK=>cases r;rfl
 | bl _=>cases r;rfl
 | int _=>obtain ⟨t,rfl⟩:=r;rfl
 | str _=>obtain ⟨t,rfl⟩:=r;rfl
 | MY _=>obtain ⟨t,rfl⟩:=r;rfl
 | Xc _=>obtain ⟨t,rfl⟩:=r;rfl
 | ref _=>cases r;rfl
 | ty _=>cases r;rfl
t! RelV.inj{x y:V}{u:Value}(r:RelV x u)(q:RelV y u):x=y:=%aD (r.abs.symm.trans q.abs)
t! Vals.inj:∀ {xs ys:List V} {us:List Value},Vals xs us->Vals ys us->xs=ys
 | _,_,_,.nil,.nil=>rfl
 | _,_,_,.cons r t,.cons r' t'=>by rw[r.inj r',Vals.inj t t']
section
variable {X:Cx} {pins:List (Addr×Obj)} {σ:St} {H:Hp} {s:Shared} {a:Addr} {xs ys:List V}
t! aX.of{K:%ag}(h:H a=some da!):aX K H a xs:=.inl (.inl h)
t! JQ.of{K:%ag}(h:H a=some d4!):JQ K H a xs:=.inl (.inl h)
t! Inv.list(I:Inv X pins σ H s)(h:aX X.K H a xs):∃ its:List Value,Vals xs its/\PlainL s.heap a its.toArray/\xs.length<=sizeLine:=by
 rcases h with h | ⟨o,its,n,hk,hc,hd,hs,hz,r⟩
 ·o!⟨z,its,n,r,e⟩:=h.ok I.cx;e! ⟨its,r,⟨_,n,e,rfl,rfl,rfl⟩,z⟩
 ·r! ⟨its.toList,r,⟨o,n,I.Ai a o hk,hc,hd,by simpa using hs⟩,?_⟩;~e:=r.length;simp only[Array.length_toList] at e;w!
t! Inv.tuple(I:Inv X pins σ H s)(h:JQ X.K H a xs):∃ its:List Value,Vals xs its/\IsTup s.heap a its.toArray/\xs.length<=sizeLine:=by
 rcases h with h | ⟨o,its,n,hk,hc,hs,hz,r⟩
 ·o!⟨z,its,r,p⟩:=h.ok I.cx;e! ⟨its,r,p,z⟩
 ·r! ⟨its.toList,r,⟨o,I.Ai a o hk,hc,n,by simpa using hs⟩,?_⟩;~e:=r.length;simp only[Array.length_toList] at e;w!
t! Inv.CP(I:Inv X pins σ H s)(h:aX X.K H a xs)(h':aX X.K H a ys):xs=ys:=by
 o!⟨its,r,⟨o,n,e,_,_,d⟩,_⟩:=I.list h;o!⟨its',r',⟨o',n',e',_,_,d'⟩,_⟩:=I.list h';rw[e] at e';cases e';rw[d] at d';injection d' with d1 _
 have:its=its':=by simpa using congrArg Array.toList d1
 subst this;e! r.inj r'
end
abbrev Cx.Gq(X:Cx)(E:Value->Shared->Prop):Cx:={X with xe:=E}
abbrev Cx.Zp(X:Cx):Cx:=X.Gq λ_ _=>False
t! Cx.Ok.Gq{X:Cx}(ok:X.Ok)(E:Value->Shared->Prop):(X.Gq E).Ok :=
 ⟨ok.mod,ok.kind,ok.glob,ok.blt,ok.above,ok.inj,ok.has,ok.Vq,ok.hd,ok.frames,ok.WE,ok.Vk,ok.bs,ok.Ri,ok.LW,ok.JT,ok.i6,ok.Rk⟩
t! Cx.Ok.uF{X:Cx}{E:Value->Shared->Prop}(ok:(X.Gq E).Ok):X.Ok :=
 ⟨ok.mod,ok.kind,ok.glob,ok.blt,ok.above,ok.inj,ok.has,ok.Vq,ok.hd,ok.frames,ok.WE,ok.Vk,ok.bs,ok.Ri,ok.LW,ok.JT,ok.i6,ok.Rk⟩
section
variable {X:Cx} {pins:List (Addr×Obj)} {σ:St} {H:Hp} {s:Shared} {E:Value->Shared->Prop}
t! Inv.Gq(I:Inv X pins σ H s)(E:Value->Shared->Prop):Inv (X.Gq E) pins σ H s:=⟨I.ok.Gq E,I.os,I.bare,I.base,I.loc,I.cell,I.free,I.pH,I.pin,I.cx,I.len⟩
t! Inv.uF(I:Inv (X.Gq E) pins σ H s):Inv X pins σ H s:=⟨I.ok.uF,I.os,I.bare,I.base,I.loc,I.cell,I.free,I.pH,I.pin,I.cx,I.len⟩
t! SP.uF{D:Ends}{f:Flow}{s':Shared}(h:SP (X.Gq E) pins D f s'):SP X pins D f s':=by
 cases f with
 | next=>obtain ⟨σ',H',I,q⟩:=h;e! ⟨σ',H',I.uF,q⟩
 | brk=>obtain ⟨σ',H',I,q⟩:=h;e! ⟨σ',H',I.uF,q⟩
 | cont=>obtain ⟨σ',H',I,q⟩:=h;e! ⟨σ',H',I.uF,q⟩
 | ret u=>obtain ⟨v,σ',H',I,r,q⟩:=h;e! ⟨v,σ',H',I.uF,r,q⟩
t! MZ.Zp{st:List Stmt}{t:TS}(h:MZ X.Zp st t):MZ X st t:=λpins s σ H D I hw =>
 wpAny_mono (h pins s σ H D (I.Gq _) hw) (λ_ _ q=>q.uF) λ_ _ z=>%bf z
end
section
variable {X:Cx} {st:Stmt} {rest:List Stmt} {t u:TS} {e:Expr} {te:TE} {pos:Pos}
def WH:TS:=λD σ H=>D.nx σ H
def Vs(t u:TS):TS:=λD σ H=>t {D with nx:=u D} σ H
t! bD:MZ X [] WH:=λ_ _ σ H _ I h=>wpAny_execs_nil ⟨σ,H,I,h⟩
t! af(h1:PS X st t)(h2:MZ X rest u):MZ X (st::rest) (Vs t u):=by
 intro pins s σ H D I h;r! wpAny_execs_cons (fH (h1 pins s σ H {D with nx:=u D} I h) λf s1 q=>?_);cases f with
 | next =>
  o!⟨σ',H',I',q⟩:=q;e! h2 pins s1 σ' H' D I' q
 | ret v=>e! q
 | brk=>e! q
 | cont=>e! q
t! ah(h1:PS X st t):MZ X [st] t:=by
 intro pins s σ H D I h;r! wpAny_execs_cons (fH (h1 pins s σ H D I h) λf s1 q=>?_);cases f with
 | next=>e! wpAny_execs_nil q
 | ret v=>e! q
 | brk=>e! q
 | cont=>e! q
t! Inv.quiet{pins:List an!}{σ:St}{H:Hp}{s:Shared}(I:Inv X pins σ H s):interactive X.env=false:=by simp[interactive,I.ok.kind]
def WI(te:TE):TS:=λD σ H=>te σ H λ_ H1=>D.nx σ H1
t! aF(he:PE X e te)(hs:swapsWith e none pos.line X.env=pure false:=by rfl):PS X (.Expr e pos) (WI te):=by
 intro pins s σ H D I h;e! wpAny_Expr_any (fH bA! λv s1 ⟨x,H1,I1,r1,q1⟩=>⟨σ,H1,I1,q1⟩) I.quiet hs
def Rl(te:TE):TS:=λD σ H=>te σ H D.rt
t! aH(he:PE X e te):PS X (.Return (some e) pos) (Rl te):=by
 intro pins s σ H D I h;e! wpAny_Return_some (fH bA! λv s1 ⟨x,H1,I1,r1,q1⟩=>⟨x,σ,H1,I1,r1,q1⟩)
def YE(c:TT)(t u:TS):TS:=λD σ H=>c σ H λb H1=>if b=true then t D σ H1 else u D σ H1
t! cE{c:Expr}{a b:List Stmt}{tc:TT}(hc:PT X c tc)(ha:MZ X a t)(hb:MZ X b u):PS X (.If c a b pos) (YE tc t u):=by
 intro pins s σ H D I h;r! wpAny_If (fH fR! λd s1 ⟨H1,I1,q1⟩=>?_);cases d with
 | true=>e! ha pins s1 σ H1 D I1 q1
 | false=>e! hb pins s1 σ H1 D I1 q1
def Xi:TS:=λ_ _ _=>False
t! Rm{sts:List Stmt}:MZ X sts Xi:=λ_ _ _ _ _ _ h=>h.elim
end
abbrev TG:=V->St->Hp->(St->Hp->Prop)->Prop
abbrev Xj:=List V->St->Hp->(St->Hp->Prop)->Prop
def PG(X:Cx)(target:Expr)(t:TG):Prop :=
 ∀ (pins:List an!) (s:Shared) (σ:St) (H:Hp) (v:V) (u:Value) (Q:St->Hp->Prop),Inv X pins σ H s->RelV v u->t v σ H Q ->
  wpAny af! X.A (assign target X.env u) (λ_ s'=>∃ σ' H',Inv X pins σ' H' s'/\Q σ' H') X.xe s
def Zq(X:Cx)(ts:List Expr)(t:Xj):Prop :=
 ∀ (pins:List an!) (s:Shared) (σ:St) (H:Hp) (vs:List V) (us:List Value) (Q:St->Hp->Prop),Inv X pins σ H s->Vals vs us->t vs σ H Q ->
  wpAny af! X.A (assignInOrder ((assignEach ts X.env).map (·.2)) us) (λ_ s'=>∃ σ' H',Inv X pins σ' H' s'/\Q σ' H') X.xe s
section
variable {X:Cx} {pos:Pos}
def nM(i:Nat):TG:=λv σ H Q=>Q (σ.set i (some v)) H
t! cb{i:Nat}{x:Str}(hN:X.N.Nodup)(hi:X.N[i]?=some x)(hx:Loc X.env.scope x)(hf:X.fn x=true∨X.env.scope.names.lookup x=some .local:=by first | exact .inl rfl | exact .inr rfl | assumption):PG X er! (nM i):=by
 intro pins s σ H v u Q I r h;e! wpAny_assign_Name (M7 I hN hi hx r (λs' I'=>⟨_,H,I',h⟩) hf)
def Xk:Xj:=λvs σ H Q=>vs=[]/\Q σ H
def M9(t:TG)(u:Xj):Xj:=λvs σ H Q=>∃ v r,vs=v::r/\t v σ H fun σ' H'=>u r σ' H' Q
t! L3:Zq X [] Xk:=by
 intro pins s σ H vs us Q I r h;o!⟨e,h⟩:=h;subst e;cases r;e! assignInOrder_nil ⟨σ,H,I,h⟩
t! vM{e:Expr}{es:List Expr}{t:TG}{u:Xj}(h1:PG X e t)(h2:Zq X es u)
  (hs:(assignEach (e::es) X.env).map (·.2)=assign e X.env::(assignEach es X.env).map (·.2):=by rfl):Zq X (e::es) (M9 t u):=by
 intro pins s σ H vs us Q I r h;o!⟨v,vr,e1,h⟩:=h;subst e1;cases r with
 | cons r rr =>
  rw[hs];r! assignInOrder_cons (fH (h1 pins s σ H _ _ _ I r h) λ_ s1 ⟨σ1,H1,I1,q1⟩=>?_);e! h2 pins s1 σ1 H1 _ _ Q I1 rr q1
def Xl(K:%ag)(n:Nat)(t:Xj):TG:=λv σ H Q=>∃ a xs,v=.ref a/\JQ K H a xs/\xs.length=n/\t xs σ H Q
t! OD{es:List Expr}{k:Nat}{t:Xj}{n:Nat}(hc:X.calm=true)(h:Zq X es t)
  (hn:(assignEach es X.env).length=n:=by rfl) (hst:(assignEach es X.env).findIdx? (·.1)=none:=by rfl):PG X (.Tuple es k pos) (Xl X.K n t):=by
 intro pins s σ H v u Q I r hw;o!⟨a,xs,e1,hq,hl,hw⟩:=hw;subst e1;cases r;o!⟨its,rv,ht,hz⟩:=I.tuple hq;r! assign_Tuple_tuple b4! ht (by simp[hn,←hl,rv.length]) hst λh' hx=>?_
 ~I1:Inv X pins σ H {s with heap:=h'}:=I.kept (t':=s.toks) λb o e=>hx b o (%aJ (%av e)) e
 e! h pins _ σ H xs _ Q I1 (by simpa using rv) hw
def YF(te:TE)(g:TG):TS:=λD σ H=>te σ H λx H1=>g x σ H1 D.nx
t! aE{i:Nat}{x:Str}{e:Expr}{te:TE}{pos':Pos}(hN:X.N.Nodup)(hi:X.N[i]?=some x)(hx:Loc X.env.scope x)(he:PE X e te)(hs:swapsWith e (some (.Name x pos')) pos.line X.env=pure false:=by rfl)(hf:X.fn x=true∨X.env.scope.names.lookup x=some .local:=by first | exact .inl rfl | exact .inr rfl | assumption) :
  PS X (.Assign [.Name x pos'] e pos) (YF te (nM i)):=by
 intro pins s σ H D I h;r! wpAny_Assign_Name (fH bA! λv s1 ⟨y,H1,I1,r1,q1⟩=>?_) hs;e! M7 I1 hN hi hx r1 (λs2 I2=>⟨_,H1,I2,q1⟩) hf
end
section
variable {X:Cx} {pos:Pos}
def Xm(c:TT)(tb:TS):TS:=λD σ H=>∃ W:Nat->St->Hp->Prop,(∃ m,W m σ H)/\∀ m σ H,W m σ H ->
 c σ H λb H1=>if b=true then ∃ N:St->Hp->Prop,(∀ σ' H',N σ' H'->∃ m',m' < m/\W m' σ' H')/\tb {D with nx:=N,ct:=N,bk:=D.nx} σ H1 else D.nx σ H1
t! yK{c:Expr}{body:List Stmt}{tc:TT}{tb:TS}(hp:PassesOwn af! X.A X.env X.xe)(hc:PT X c tc)(hb:MZ X body tb):PS X (.While c body [] pos) (Xm tc tb):=by
 intro pins s σ H D I h;o!⟨W,⟨m0,w0⟩,turn⟩:=h;r! wpAny_While (codeAny_whileLoop (λn s'=>∃ σ' H',Inv X pins σ' H' s'/\W n σ' H') ?_ m0 ⟨σ,H,I,w0⟩);rintro n s1 ⟨σ1,H1,I1,w1⟩;r! wpAny_passesOwn hp (fH (hc pins s1 σ1 H1 _ I1 (turn n σ1 H1 w1)) λb s2 ⟨H2,I2,q2⟩=>?_);cases b with
 | true =>
  o!⟨N,hN,q2⟩:=q2;rw[if_pos rfl];r! wpAny_passesOwn hp (fH (hb pins s2 σ1 H2 _ I2 q2) λf s3 q3=>?_);cases f with
  | next =>
   o!⟨σ3,H3,I3,n3⟩:=q3;o!⟨m',hm,w3⟩:=hN σ3 H3 n3;e! ⟨m',hm,σ3,H3,I3,w3⟩
  | cont =>
   o!⟨σ3,H3,I3,n3⟩:=q3;o!⟨m',hm,w3⟩:=hN σ3 H3 n3;e! ⟨m',hm,σ3,H3,I3,w3⟩
  | brk=>e! q3
  | ret v=>e! q3
 | false =>
  rw[n! %ao];e! wpAny_execs_nil ⟨σ1,H2,I2,q2⟩
end
structure It where
 go:Nat->Hp->Prop
 Tb:Nat->Hp->V->Hp->Prop
 stop:Nat->Hp->Prop
def yH(X:Cx)(pins:List an!)(H:Hp)(b:Addr):Prop :=
 H b=none/\b≠X.env.locals/\b∉X.fs/\cF!/\bV!/\∀ p∈X.pn++pins,p.1≠b
t! Inv.Tc{X:Cx}{pins:List an!}{σ:St}{H H':Hp}{s:Shared}{b:Addr}(I:Inv X pins σ H s)(hb:s.heap.objs.size<=b)(hn:H' b=none):yH X pins H' b:=by
 r! ⟨hn,Nat.ne_of_gt (%aB I.lt hb),I.ZK hb,.inr (%aj I.sz hb),λx c e z=>?_,λp hp z=>?_⟩
 ·o!⟨v,q⟩:=I.cell x c e;e! absurd (%aB q.lt (by rw[z];e! hb)) (%bJ _)
 ·e! absurd (%aB (%av (I.pin p hp).1) (by rw[z];e! hb)) (%bJ _)
structure Turn (P:Program) (w:World) (K:PySem.W.Frag) (tg:Expr) (J:It) (fp:List Addr) (it:Addr) (tn:Nat->Heap->Prop):Prop where
 mem:it∈fp
 obj:∀ i h,tn i h->∀ b∈fp,∃ o,h.get? b=some o/\∀ v,o.data≠.cell v
 keep:∀ i h h',tn i h->(∀ b∈fp,∀ o,h.get? b=some o->h'.get? b=some o)->tn i h'
 item:∀ (X:Cx),X.prog=P->X.w=w->X.K=K->X.calm=true->∀ (i:Nat) (pins:List an!) (s:Shared) (σ:St) (H:Hp) (E:Value->Shared->Prop),Inv X pins σ H s->(∀ b∈fp,yH X pins H b)->tn i s.heap->J.go i H ->
  wpAny c6! X.A (pyNext dz!) (λr s1=>∃ u,r=some u /\
   wpAny c6! X.A (letOwnedTupleGo tg dz! u) (λ_ s2=>∃ x H',Inv X pins σ H' s2/\RelV x u/\J.Tb i H x H'/\tn (i+1) s2.heap/\∀ b∈fp,H' b=none) E s1) E s
 done:∀ (X:Cx),X.prog=P->X.w=w->X.K=K->X.calm=true->∀ (i:Nat) (pins:List an!) (s:Shared) (σ:St) (H:Hp) (E:Value->Shared->Prop),Inv X pins σ H s->(∀ b∈fp,yH X pins H b)->tn i s.heap->J.stop i H ->
  wpAny c6! X.A (pyNext dz!) (λr s1=>r=none/\Inv X pins σ H s1) E s
 self:∀ (A:Around) (i:Nat) (s:Shared) (Q:Value->Shared->Prop) (E:Value->Shared->Prop),tn i s.heap->Q dz! s->wpAny c6! A (pyIter dz!) Q E s
abbrev TI:=St->Hp->(It->Hp->Prop)->Prop
def PIE(X:Cx)(pins:List an!)(σ:St)(tg:Expr)(R:It->Hp->Prop)(itv:Value)(s2:Shared):Prop :=
 ∃ (it:Addr) (fp:List Addr) (tn:Nat->Heap->Prop) (J:It) (H':Hp),itv=.ref it/\Inv X pins σ H' s2/\Turn X.prog X.w X.K tg J fp it tn/\tn 0 s2.heap/\(∀ b∈fp,yH X pins H' b)/\R J H'
def PI(X:Cx)(tg iter:Expr)(wi:TI):Prop :=
 ∀ (pins:List an!) (s:Shared) (σ:St) (H:Hp) (R:It->Hp->Prop),Inv X pins σ H s->wi σ H R ->
  wpAny af! X.A fI! (λv s1=>wpAny af! X.A (pyIter v) (PIE X pins σ tg R) X.xe s1) X.xe s
t! Na{M:Model}{A:Around}{E:Value->Shared->Prop}{s:Shared}{tg:Expr}{it:Addr}{u:Value}{o:Obj}{n:String}{vs:Array Value}{Q:Unit->Shared->Prop}(ho:s.heap.get? it=some o)(hc:o.cls=.type n)(hd:o.data=.fields vs)
  (hn:["enumerate","zip","dict_itemiterator","dict_reverseitemiterator","odict_iterator","itertools.zip_longest","itertools.pairwise"].contains n=false) (hQ:Q () s):wpAny M A (letOwnedTupleGo tg dz! u) Q E s:=by
 unfold letOwnedTupleGo;cases tg<;>first
  | exact wpAny_pure hQ
  | (cases u<;>first
    | exact wpAny_pure hQ
    | (refine wpAny_bind (wpAny_load ho ?_);rw[hc,hd];show wpAny M A (if (["enumerate","zip","dict_itemiterator","dict_reverseitemiterator","odict_iterator","itertools.zip_longest","itertools.pairwise"].contains n && vs[0]? == some (rawInt _))=true then _ else _) Q E s;rw[n! (by intro h;rw[hn,Bool.false_and] at h;cases h)];e! wpAny_pure hQ))
def WJ(K:%ag)(a:Addr):It :=
 ⟨λi H=>∃ xs x,aX K H a xs/\xs[i]?=some x,λi H x H'=>H'=H/\∀ xs,aX K H a xs->xs[i]?=some x,λi H=>∃ xs,aX K H a xs/\xs.length<=i⟩
t! Rn{P:Program}{w:World}{K:%ag}{tg:Expr}(a it:Addr):Turn P w K tg (WJ K a) [it] it (λi h=>h.IsListIter it a i) where
 mem:=by simp
 obj:=λi h st b hb=>by
  ~e:b=it:=by simpa using hb
  subst e;o!⟨o,e,c,d⟩:=st;e! ⟨o,e,λv z=>by rw[d] at z;cases z⟩
 keep:=λi h h' st k=>st.at λo e=>k it ai! o e
 item:=by
  intro X hP hw hK hc i pins s σ H E I hf st hg;subst hP hw hK;o!⟨xs,x,hq,hx⟩:=hg;o!⟨its,rv,p,hz⟩:=I.list hq;o!⟨u,hu,ru⟩:=rv.get hx;o!⟨f0,f1,f2,f3,f4,f5⟩:=hf it ai!;r! wpAny_pyNext_list_item st p.isList (x:=u) (by simpa using hu) λh' st' sb=>?_
  ~I1:Inv X pins σ H {s with heap:=h'}:=I.turned (t':=s.toks) cQ! f0 f1 f3 f4 f5;o!⟨o,e,c,d⟩:=id st';e! ⟨u,rfl,Na (s:={s with heap:=h'}) e c d ag! ⟨x,H,I1,ru,⟨rfl,λys hy=>by rw[I.CP hy hq];e! hx⟩,st',λb hb=>(hf b hb).1⟩⟩
 done:=by
  intro X hP hw hK hc i pins s σ H E I hf st hg;subst hP hw hK;o!⟨xs,hq,hx⟩:=hg;o!⟨its,rv,p,hz⟩:=I.list hq;o!⟨f0,f1,f2,f3,f4,f5⟩:=hf it ai!;~hl:=rv.length;e! wpAny_pyNext_list_end b4! st p.isList dl! λh' eb=>⟨rfl,I.turned (t':=s.toks) dO! f0 f1 f3 f4 f5⟩
 self:=λ_ _ _ _ _ st h=>wpAny_pyIter_listiter st h
end L2
namespace L2
open PySem PySem.Spec PyProof.Rows
section
variable {X:Cx} {tg:Expr}
def YG(K:%ag)(tl:TE):TI:=fun σ H R=>tl σ H λx H1=>∃ a,x=.ref a/\(∃ xs,aX K H1 a xs)/\R (WJ K a) H1
t! fR{l:Expr}{tl:TE}(hl:PE X l tl):PI X tg l (YG X.K tl):=by
 intro pins s σ H R I h;r! fH (hl pins s σ H _ I h) λv s1 ⟨x,H1,I1,r1,q1⟩=>?_
 o!⟨a,e,⟨xs,hq⟩,q⟩:=q1;subst e;cases r1;o!⟨its,rv,p,hz⟩:=I1.list hq;r! wpAny_pyIter_list p.isList ?_;r! ⟨s1.heap.objs.size,[s1.heap.objs.size],_,_,H1,rfl,I1.kept (t':=s1.toks) λb o e=>%ap _ e,Rn a _,⟨_,%aA _ rfl,rfl,rfl⟩,λb hb=>?_,q⟩;~e:b=s1.heap.objs.size:=by simpa using hb
 subst e;e! I1.Tc (%am _) (I1.cx.fresh (%am _))
def ZP(wi:TI)(g:TG)(tb:TS):TS:=λD σ H=>wi σ H λJ H1=>∃ W:Nat->Nat->St->Hp->Prop,(∃ m,W 0 m σ H1)/\∀ i m σ H,W i m σ H ->
 (J.stop i H/\D.nx σ H)∨(J.go i H/\∃ N:St->Hp->Prop,aK!/\∀ x H',J.Tb i H x H'->g x σ H' fun σ2 H2=>tb {D with nx:=N,ct:=N,bk:=D.nx} σ2 H2)
def DT(fp:List Addr)(h:Heap):List an!:=fp.filterMap λb=>(h.get? b).map λo=>(b,o)
t! wJ{fp:List Addr}{h:Heap}{b:Addr}{o:Obj}(hb:b∈fp)(e:h.get? b=some o):(b,o)∈DT fp h:=List.mem_filterMap.mpr ⟨b,hb,by rw[e];rfl⟩
t! Ro{fp:List Addr}{h:Heap}{p:Addr×Obj}(hp:p∈DT fp h):p.1∈fp/\h.get? p.1=some p.2:=by
 o!⟨b,hb,e⟩:=List.mem_filterMap.mp hp;cases q:h.get? b with
 | none=>rw[q] at e;cases e
 | some o =>
  rw[q] at e;~e':(b,o)=p:=%aD e;subst e';e! ⟨hb,q⟩
t! Inv.pinned{pins:List an!}{σ:St}{H:Hp}{s:Shared}{fp:List Addr}(I:Inv X pins σ H s)(hf:∀ b∈fp,yH X pins H b)(ho:∀ b∈fp,∃ o,s.heap.get? b=some o/\∀ v,o.data≠.cell v):Inv X (pins++DT fp s.heap) σ H s :=
 I.Qq λp hp=>(%bA hp).elim (λz=>I.pin p (%ba _ z)) λz=>by
  o!⟨hb,e⟩:=Ro z;o!⟨f0,f1,f2,_⟩:=hf p.1 hb;o!⟨o,e',d⟩:=ho p.1 hb;rw[e] at e';cases e';e! ⟨e,f0,f1,f2,d⟩
t! Inv.yL{pins pl:List an!}{σ:St}{H:Hp}{s:Shared}(I:Inv X (pins++pl) σ H s):Inv X pins σ H s:=I.Qq λp hp=>I.pin p (%ba _ (%cl _ hp))
t! lJ{iter:Expr}{body:List Stmt}{wi:TI}{g:TG}{tb:TS}{pos:Pos}(hp:PassesOwn af! X.A X.env X.xe)(hc:X.calm=true)(hi:PI X tg iter wi)(hg:PG X tg g)(hb:MZ X body tb)
  (hs:∀ x,foldedSetIterable iter X.env x=pure x:=by intro _;rfl):PS X (.For tg iter body [] pos) (ZP wi g tb):=by
 intro pins s σ H D I h;r! wpAny_For (fH cK! λv s1 h1=>fH h1 λitv s2 h2=>?_) hs;o!⟨it,fp,tn,J,H2,e,I2,T,st2,f2,W,⟨m0,w0⟩,turn⟩:=h2;subst e;~stat:∀ {H':Hp},bx!->∀ b∈fp,yH X pins H' b:=λhn b hb=>⟨hn b hb,(f2 b hb).2⟩
 r! codeAny_forLoop_any (λn s'=>∃ i σ' H',Inv X pins σ' H' s'/\tn i s'.heap/\bx!/\W i n σ' H') ?_ m0 ⟨0,σ,H2,I2,st2,λb hb=>(f2 b hb).1,w0⟩;rintro n s3 ⟨i,σ3,H3,I3,st3,fr3,w3⟩;rcases turn i n σ3 H3 w3 with ⟨stop,qn⟩ | ⟨go,N,hN,step⟩
 ·r! wpAny_passesOwn hp (fH (T.done X rfl rfl rfl hc i pins s3 σ3 H3 X.xe I3 (stat fr3) st3 stop) λr s4 ⟨hr,I4⟩=>?_);subst hr;e! wpAny_execs_nil ⟨σ3,H3,I4,qn⟩
 ·r! wpAny_passesOwn hp (fH (T.item X rfl rfl rfl hc i pins s3 σ3 H3 X.xe I3 (stat fr3) st3 go) λr s4 ⟨u,hr,h4⟩=>?_);subst hr;r! wpAny_passesOwn hp (fH h4 λ_ s5 ⟨x,H5,I5,r5,y5,st5,fr5⟩=>?_);~I5':=I5.pinned (stat fr5) (T.obj _ _ st5);r! wpAny_passesOwn hp (fH (hg _ s5 σ3 H5 x u _ I5' r5 (step x H5 y5)) λ_ s6 ⟨σ6,H6,I6,q6⟩=>?_);r! wpAny_passesOwn hp (fH (hb _ s6 σ6 H6 _ I6 q6) λf s7 q7=>?_);~again:∀ {σ7:St} {H7:Hp},Inv X (pins++DT fp s5.heap) σ7 H7 s7->N σ7 H7->∃ m,m < n/\∃ i σ' H',Inv X pins σ' H' s7/\tn i s7.heap/\bx!/\W i m σ' H':=λ{σ7 H7} I7 n7=>by
   o!⟨m',hm,w7⟩:=hN σ7 H7 n7;r! ⟨m',hm,i+1,σ7,H7,I7.yL,T.keep _ _ _ st5 λb hb o e=>(I7.pin (b,o) dT!).1,λb hb=>?_,w7⟩;o!⟨o,e,d⟩:=T.obj _ _ st5 b hb;e! (I7.pin (b,o) dT!).2.1
  cases f with
  | next=>obtain ⟨σ7,H7,I7,n7⟩:=q7;e! again I7 n7
  | cont=>obtain ⟨σ7,H7,I7,n7⟩:=q7;e! again I7 n7
  | brk=>obtain ⟨σ7,H7,I7,q7⟩:=q7;e! ⟨σ7,H7,I7.yL,q7⟩
  | ret v=>obtain ⟨x7,σ7,H7,I7,r7,q7⟩:=q7;e! ⟨x7,σ7,H7,I7.yL,r7,q7⟩
end
t! pI{K:%ag}{a:Addr}{xs:List V}{g:TG}{tb:TS}{D:Ends}{σ:St}{H:Hp}(Pv:Nat->St->Hp->Prop)(h0:Pv 0 σ H)(hl:∀ i σ H,i<=xs.length->Pv i σ H->aX K H a xs)
  (hs:∀ i x σ H,xs[i]?=some x->Pv i σ H->g x σ H fun σ2 H2=>tb {D with nx:=Pv (i+1),ct:=Pv (i+1),bk:=D.nx} σ2 H2) (hd:∀ σ H,Pv xs.length σ H->D.nx σ H) :
  ∃ W:Nat->Nat->St->Hp->Prop,ec!/\∀ i m σ H,W i m σ H ->
   ((WJ K a).stop i H/\D.nx σ H)∨((WJ K a).go i H/\∃ N:St->Hp->Prop,aK!/\∀ x H',(WJ K a).Tb i H x H'->g x σ H' fun σ2 H2=>tb {D with nx:=N,ct:=N,bk:=D.nx} σ2 H2):=by
 r! ⟨λi m σ H=>m=xs.length - i/\i<=xs.length/\Pv i σ H,⟨xs.length,by simp,Nat.zero_le _,h0⟩,?_⟩;rintro i m σ H ⟨rfl,hi,p⟩;~q:=hl i σ H hi p;by_cases hlt:i < xs.length
 ·r! .inr ⟨⟨xs,xs[i],q,by simp[hlt]⟩,Pv (i+1),fun σ' H' p'=>⟨xs.length - (i+1),by w!,rfl,hlt,p'⟩,λx H' y=>?_⟩;o!⟨e,y⟩:=y;subst e;e! hs i x σ _ (y xs q) p
 ·~e:i=xs.length:=by w!
  subst e;e! .inl ⟨⟨xs,q,%am _⟩,hd σ H p⟩
end L2
namespace L2
open PySem PySem.Spec PyProof.Rows
abbrev R2:=V->V->Hp->VK->Prop
def M1(X:Cx)(f:Value->Value->Sem Value)(r:R2):Prop :=
 ∀ (pins:List an!) (s:Shared) (σ:St) (H:Hp) (x y:V) (v u:Value) (Q:VK),Inv X pins σ H s->RelV x v->RelV y u->r x y H Q ->
  wpAny af! X.A (f v u) bD! X.xe s
def sf(X:Cx)(f:Value)(r:List V->Hp->VK->Prop):Prop :=
 ∀ (pins:List an!) (s:Shared) (σ:St) (H:Hp) (xs:List V) (us:List Value) (Q:VK),Inv X pins σ H s->Vals xs us->r xs H Q ->
  wpAny af! X.A (call f us) bD! X.xe s
def ZQ(X:Cx)(r:V->Hp->(Bool->Hp->Prop)->Prop):Prop :=
 ∀ (pins:List an!) (s:Shared) (σ:St) (H:Hp) (x:V) (v:Value) (Q:Bool->Hp->Prop),Inv X pins σ H s->RelV x v->r x H Q ->
  wpAny af! X.A (truthy v) fZ! X.xe s
def Vl(r:R2)(ta tb:TE):TE:=fun σ H Q=>ta σ H λx H1=>tb σ H1 λy H2=>r x y H2 Q
def rI(C:Int->Int->Prop)(g:Int->Int->V):R2:=λx y H Q=>∃ i j,x=.int i/\y=.int j/\C i j/\Q (g i j) H
def Xn(g:Int->Int->V):R2:=λx y H Q=>∃ i j,x=.int i/\y=.int j/\Q (g i j) H
section
variable {X:Cx} {a b c:Expr} {ta tb tc:TE} {pos:Pos}
t! Xo(ha:PE X a ta)(hb:PE X b tb){pins:List an!}{s:Shared}{σ:St}{H:Hp}{R:V->V->Hp->Prop}(I:Inv X pins σ H s)
  (h:ta σ H λx H1=>tb σ H1 λy H2=>R x y H2) {Q:Value->Shared->Prop} {f:Value->Value->Sem Value}
  (hf:∀ v u s2 x y H2,Inv X pins σ H2 s2->RelV x v->RelV y u->R x y H2->wpAny af! X.A (f v u) Q X.xe s2) :
  wpAny af! X.A (eval a X.env) (λv s₁=>wpAny af! X.A (eval b X.env) (λu s₂=>wpAny af! X.A (f v u) Q X.xe s₂) X.xe s₁) X.xe s:=by
 r! fH bB! λv s1 ⟨x,H1,I1,r1,q1⟩=>?_
 r! fH e3! λu s2 ⟨y,H2,I2,r2,q2⟩=>?_
 e! hf v u s2 x y H2 I2 r1 r2 q2
t! yM{op:Operator}{r:R2}(ho:M1 X (binaryOp op) r)(ha:PE X a ta)(hb:PE X b tb):PE X (.BinOp a op b pos) (Vl r ta tb):=by
 intro pins s σ H Q I h;e! wpAny_BinOp (Xo ha hb I h λv u s2 x y H2 I2 rx ry q=>ho pins s2 σ H2 x y v u Q I2 rx ry q)
t! opI{f:Value->Value->Sem Value}{C:Int->Int->Prop}{g:Int->Int->Int}
  (rule:∀ (i j:Int) (t u:Tok) (s:Shared) (Q:Value->Shared->Prop) (E:Value->Shared->Prop),C i j->Q (.int (g i j) s.toks) {s with toks:=s.toks+1}->wpAny af! X.A fa! Q E s) :
  M1 X f (rI C λi j=>.int (g i j)):=by
 intro pins s σ H x y v u Q I rx ry h;o!⟨i,j,rfl,rfl,hc,q⟩:=h;o!⟨t,rfl⟩:=rx;o!⟨t',rfl⟩:=ry;e! rule i j t t' s _ _ hc ⟨.int (g i j),H,I.tok _,⟨_,rfl⟩,q⟩
t! YH{f:Value->Value->Sem Value}{g:Int->Int->Int}
  (rule:∀ (i j:Int) (t u:Tok) (s:Shared) (Q:Value->Shared->Prop) (E:Value->Shared->Prop),Q (.int (g i j) s.toks) {s with toks:=s.toks+1}->wpAny af! X.A fa! Q E s) :
  M1 X f (Xn λi j=>.int (g i j)):=by
 intro pins s σ H x y v u Q I rx ry h;o!⟨i,j,rfl,rfl,q⟩:=h;o!⟨t,rfl⟩:=rx;o!⟨t',rfl⟩:=ry;e! rule i j t t' s _ _ ⟨.int (g i j),H,I.tok _,⟨_,rfl⟩,q⟩
t! Xp{f:Value->Value->Sem Value}{g:Int->Int->Bool}
  (rule:∀ (i j:Int) (t u:Tok) (s:Shared) (Q:Value->Shared->Prop) (E:Value->Shared->Prop),Q (.bool (g i j)) s->wpAny af! X.A fa! Q E s) :
  M1 X f (Xn λi j=>.bl (g i j)):=by
 intro pins s σ H x y v u Q I rx ry h;o!⟨i,j,rfl,rfl,q⟩:=h;o!⟨t,rfl⟩:=rx;o!⟨t',rfl⟩:=ry;e! rule i j t t' s _ _ ⟨.bl (g i j),H,I,rfl,q⟩
def Xq(i j:Int):Prop:=(-(2 ^ 64) < i/\i < 2 ^ 64)∨(-(2 ^ 64) < j/\j < 2 ^ 64)
t! Xq.ok{i j:Int}(h:Xq i j):IntMulOk i j:=by
 rcases h with ⟨h1,h2⟩ | ⟨h1,h2⟩
 ·e! .of_left (intBits_le_64 h1 h2)
 ·e! .of_right (intBits_le_64 h1 h2)
t! Xr:M1 X (binaryOp .Add) (Xn λi j=>.int (i+j)):=YH λ_ _ _ _ _ _ _ q=>add_int q
t! Td:M1 X (binaryOp .Sub) (Xn λi j=>.int (i - j)):=YH λ_ _ _ _ _ _ _ q=>sub_int q
t! Te:M1 X (binaryOp .Mult) (rI Xq λi j=>.int (i * j)):=opI λ_ _ _ _ _ _ _ hc q=>mul_int q hc.ok
t! Xs:M1 X (binaryOp .Mod) (rI (λ_ j=>0 < j) λi j=>.int (i % j)):=opI λi j _ _ _ _ _ hc q=>by
 ~h1:(0:Int) < j:=hc;e! mod_int' (by w!) (by rw[Int.fmod_eq_emod_of_nonneg i (by w!)];e! q)
end
def Xt:V->V->Bool
 | .fK,.fK=>true | .fK,.int _=>true | .int _,.fK=>true | .fK,.bl _=>true | .bl _,.fK=>true | .fK,.str _=>true | .str _,.fK=>true
 | .int _,.int _=>true | .bl _,.bl _=>true | .str _,.str _=>true | .MY _,.MY _=>true
 | .int _,.str _=>true | .str _,.int _=>true | .bl _,.str _=>true | .str _,.bl _=>true
 | _,_=>false
def Zr:R2:=λx y H Q=>Xt x y=true/\Q (.bl (decide (x=y))) H
def rNe:R2:=λx y H Q=>Xt x y=true/\Q (.bl (!decide (x=y))) H
t! Qr{i j:Int}:decide (V.int i=V.int j)=(i == j):=by
 rw[%bl];simp
t! Tf{i j:Bool}:decide (V.bl i=V.bl j)=(i == j):=by
 rw[%bl];simp
t! Qs{i j:Str}:decide (V.str i=V.str j)=(i == j):=by
 rw[%bl];simp
t! Qt{i j:Array UInt8}:decide (V.MY i=V.MY j)=(i.toList == j.toList):=by
 rw[%bl];cases i;cases j;simp
section
variable {X:Cx} {a b c:Expr} {ta tb tc:TE} {pos:Pos}
t! cQ{pins:List an!}{σ:St}{H:Hp}{s:Shared}{Q:VK}{k k':Bool}(I:Inv X pins σ H s)(q:Q (.bl k) H)(e:k=k'):EP X pins σ Q (.bool k') s:=by
 subst e;e! ⟨.bl k,H,I,rfl,q⟩
t! i8:M1 X (compareOp .Eq) Zr:=by
 intro pins s σ H x y v u Q I rx ry h;o!⟨hs,q⟩:=h;cases x with
 | fK =>
  cases rx;cases y with
  | fK=>cases ry;e! PySem.EqNone.eq_none_none ba!
  | bl j=>cases ry;e! PySem.EqNone.eq_none_bool ba!
  | int j=>obtain ⟨t',rfl⟩:=ry;e! PySem.EqNone.eq_none_int ba!
  | str j=>obtain ⟨t',rfl⟩:=ry;e! PySem.EqNone.eq_none_str ba!
  | _=>e! absurd (show false=true from hs) %ao
 | bl i =>
  cases rx;cases y with
  | fK=>cases ry;e! PySem.EqNone.eq_bool_none ba!
  | bl j=>cases ry;e! eq_bool (cQ I q Tf)
  | str j=>obtain ⟨t',rfl⟩:=ry;e! PySem.EqMixed.eq_bool_str ba!
  | _=>e! absurd (show false=true from hs) %ao
 | int i =>
  o!⟨t,rfl⟩:=rx;cases y with
  | fK=>cases ry;e! PySem.EqNone.eq_int_none ba!
  | int j=>obtain ⟨t',rfl⟩:=ry;e! eq_int (cQ I q Qr)
  | str j=>obtain ⟨t',rfl⟩:=ry;e! PySem.EqMixed.eq_int_str ba!
  | _=>e! absurd (show false=true from hs) %ao
 | str i =>
  o!⟨t,rfl⟩:=rx;cases y with
  | fK=>cases ry;e! PySem.EqNone.eq_str_none ba!
  | bl j=>cases ry;e! PySem.EqMixed.eq_str_bool ba!
  | int j=>obtain ⟨t',rfl⟩:=ry;e! PySem.EqMixed.eq_str_int ba!
  | str j=>obtain ⟨t',rfl⟩:=ry;e! eq_str (cQ I q Qs)
  | _=>e! absurd (show false=true from hs) %ao
 | MY i =>
  o!⟨t,rfl⟩:=rx;cases y with
  | MY j=>obtain ⟨t',rfl⟩:=ry;e! PySem.W.eq_bytes (cQ I q Qt)
  | _=>e! absurd (show false=true from hs) %ao
 | _=>cases y<;>exact absurd (show false=true from hs) %ao
t! Kr:M1 X (compareOp .NotEq) rNe:=by
 intro pins s σ H x y v u Q I rx ry h;o!⟨hs,q⟩:=h;cases x with
 | fK =>
  cases rx;cases y with
  | fK=>cases ry;e! PySem.EqNone.ne_none_none ba!
  | bl j=>cases ry;e! PySem.EqNone.ne_none_bool ba!
  | int j=>obtain ⟨t',rfl⟩:=ry;e! PySem.EqNone.ne_none_int ba!
  | str j=>obtain ⟨t',rfl⟩:=ry;e! PySem.EqNone.ne_none_str ba!
  | _=>e! absurd (show false=true from hs) %ao
 | bl i =>
  cases rx;cases y with
  | fK=>cases ry;e! PySem.EqNone.ne_bool_none ba!
  | bl j=>cases ry;e! ne_bool (cQ I q (congrArg not Tf))
  | str j=>obtain ⟨t',rfl⟩:=ry;e! PySem.EqMixed.ne_bool_str ba!
  | _=>e! absurd (show false=true from hs) %ao
 | int i =>
  o!⟨t,rfl⟩:=rx;cases y with
  | fK=>cases ry;e! PySem.EqNone.ne_int_none ba!
  | int j=>obtain ⟨t',rfl⟩:=ry;e! ne_int (cQ I q (congrArg not Qr))
  | str j=>obtain ⟨t',rfl⟩:=ry;e! PySem.EqMixed.ne_int_str ba!
  | _=>e! absurd (show false=true from hs) %ao
 | str i =>
  o!⟨t,rfl⟩:=rx;cases y with
  | fK=>cases ry;e! PySem.EqNone.ne_str_none ba!
  | bl j=>cases ry;e! PySem.EqMixed.ne_str_bool ba!
  | int j=>obtain ⟨t',rfl⟩:=ry;e! PySem.EqMixed.ne_str_int ba!
  | str j=>obtain ⟨t',rfl⟩:=ry;e! ne_str (cQ I q (congrArg not Qs))
  | _=>e! absurd (show false=true from hs) %ao
 | MY i =>
  o!⟨t,rfl⟩:=rx;cases y with
  | MY j=>obtain ⟨t',rfl⟩:=ry;e! PySem.W.ne_bytes (cQ I q (congrArg not Qt))
  | _=>e! absurd (show false=true from hs) %ao
 | _=>cases y<;>exact absurd (show false=true from hs) %ao
t! YI:M1 X (compareOp .Lt) (Xn λi j=>.bl (decide (i < j))):=Xp λ_ _ _ _ _ _ _ q=>lt_int q
t! WL:M1 X (compareOp .LtE) (Xn λi j=>.bl (decide (i<=j))):=Xp λ_ _ _ _ _ _ _ q=>le_int q
t! WM:M1 X (compareOp .Gt) (Xn λi j=>.bl (decide (j < i))):=Xp λ_ _ _ _ _ _ _ q=>gt_int q
t! cy(b:Expr){op:CmpOp}(h:op≠.In:=by decide)(h2:op≠.NotIn:=by decide):behindInMarks op b=false:=by
 ~e1:(op == CmpOp.In)=false:=by cases op<;>first | rfl | exact absurd rfl h
 ~e2:(op == CmpOp.NotIn)=false:=by cases op<;>first | rfl | exact absurd rfl h2
 cases b<;>simp[behindInMarks,e1,e2]
t! CQ{op:CmpOp}{r:R2}(ho:M1 X (compareOp op) r)(ha:PE X a ta)(hb:PE X b tb)(hm:behindInMarks op b=false):PE X dS! (Vl r ta tb):=by
 intro pins s σ H Q I h;e! wpAny_Compare1 (Xo ha hb I h λv u s2 x y H2 I2 rx ry q=>ho pins s2 σ H2 x y v u Q I2 rx ry q) hm
def Nb(t:TE):TT:=fun σ H Q=>t σ H λx H'=>∃ k,x=.bl k/\Q k H'
t! bG{op:CmpOp}{r:R2}(ho:M1 X (compareOp op) r)(ha:PE X a ta)(hb:PE X b tb)(hm:behindInMarks op b=false):PT X dS! (Nb (Vl r ta tb)):=by
 intro pins s σ H Q I h;r! wpAny_isTrue_Compare1 (fH bB! λv s1 ⟨x,H1,I1,r1,q1⟩=>fH e3! λu s2 ⟨y,H2,I2,r2,q2⟩ =>
  fH (ho pins s2 σ H2 x y v u _ I2 r1 r2 q2) λc s3 ⟨z,H3,I3,r3,k,e,q3⟩=>?_) hm
 subst e;cases r3;e! wpAny_truthy_bool ⟨H3,I3,q3⟩
def YJ(K:%ag)(x:V)(H:Hp)(k:Bool):Prop :=
 match x with
 | .fK=>k=false
 | .bl b=>k=b
 | .int i=>k=(i != 0)
 | .str y=>y.length<=sizeLine/\k=((y.length:Int) != 0)
 | .MY y=>y.size<=sizeLine/\k=((y.size:Int) != 0)
 | .ref p=>(∃ xs,aX K H p xs/\k=!xs.isEmpty)∨(∃ xs,JQ K H p xs/\k=!xs.isEmpty)∨∃ kvs,H p=some aQ!/\k=!kvs.isEmpty
 | _=>False
t! OE{κ:Type}{kvs:List (κ×V)}{vs:List eD!}(r:KV kvs vs):(!vs.isEmpty)=!kvs.isEmpty:=by
 cases r<;>rfl
t! HE{xs:List V}{its:List Value}(r:Vals xs its):(!its.toArray.isEmpty)=!xs.isEmpty:=by
 cases r<;>simp
t! DU:(sizeLine:Nat) < 2 ^ 63:=by rw[sizeLine_eq];decide
t! Xu:ZQ X (λx H Q=>∃ k,YJ X.K x H k/\Q k H):=by
 intro pins s σ H x v Q I rx h;o!⟨k,e,q⟩:=h;~hl:=DU;~hs:sizeLine=16777216:=sizeLine_eq;cases x with
 | fK =>
  cases rx;~e':k=false:=e;subst e';e! truthy_none ⟨H,I,q⟩
 | bl b =>
  cases rx;~e':k=b:=e;subst e';e! wpAny_truthy_bool ⟨H,I,q⟩
 | int i =>
  o!⟨t,rfl⟩:=rx;~e':k=(i != 0):=e;subst e';e! PySem.P.truthy_int ⟨H,I,q⟩
 | str y =>
  o!⟨t,rfl⟩:=rx;obtain ⟨hy,e'⟩:y.length<=sizeLine/\k=((y.length:Int) != 0):=e;subst e';e! PySem.P.truthy_str (by w!) ⟨H,I.tok _,q⟩
 | MY y =>
  o!⟨t,rfl⟩:=rx;obtain ⟨hy,e'⟩:y.size<=sizeLine/\k=((y.size:Int) != 0):=e;subst e';e! PySem.W.truthy_bytes (by w!) ⟨H,I.tok _,q⟩
 | ref p =>
  cases rx;~e':(∃ xs,aX X.K H p xs/\k=!xs.isEmpty)∨(∃ xs,JQ X.K H p xs/\k=!xs.isEmpty)∨∃ kvs,H p=some aQ!/\k=!kvs.isEmpty:=e;rcases e' with ⟨xs,hx,e'⟩ | ⟨xs,hx,e'⟩ | ⟨kvs,hx,e'⟩
  ·subst e';o!⟨its,r,pl,hz⟩:=I.list hx;~hlen:=r.length;e! wpAny_truthy_list pl.isList (by simp only[List.size_toArray];w!) ⟨H,I.tok _,by rw[HE r];e! q⟩
  ·subst e';o!⟨its,r,pl,hz⟩:=I.tuple hx;~hlen:=r.length;e! truthy_tuple pl (by simp only[List.size_toArray];w!) ⟨H,I.tok _,by rw[HE r];e! q⟩
  ·subst e';obtain ⟨hz,hS,vs,r,m⟩:kvs.length<=sizeLine/\(p == sysModules)=false/\∃ vs,KV kvs vs/\s.heap.DictOf (bN X.prog X.w) p vs:=I.cx p _ hx;~hlen:kvs.length=vs.length:=Paired.length r;e! wpAny_truthy_dict hS m (by w!) ⟨H,I.tok _,by rw[OE r];e! q⟩
 | _=>e! (show False from e).elim
t! pJ(ha:PE X a ta)(he:∀ whole,isTrue a X.env whole=(do let v ←whole;standAt a.pos;holding [v] (truthy v))) :
  PT X a (fun σ H Q=>ta σ H λx H'=>∃ k,YJ X.K x H' k/\Q k H'):=by
 intro pins s σ H Q I h;e! isTrue_plain (fH bB! λv s1 ⟨x,H1,I1,r1,q1⟩=>Xu pins s1 σ H1 x v Q I1 r1 q1) (he _)
t! vals1{x:V}{us:List Value}(r:Vals [x] us):∃ u,us=[u]/\RelV x u:=by
 cases r with
 | cons r1 r2=>cases r2;e! ⟨_,rfl,r1⟩
t! vals2{x y:V}{us:List Value}(r:Vals [x,y] us):∃ u w',us=[u,w']/\RelV x u/\RelV y w':=by
 cases r with
 | cons r1 r2 =>
  cases r2 with
  | cons r3 r4=>cases r4;e! ⟨_,_,rfl,r1,r3⟩
t! Ks(hc:X.calm=true):sf X (.builtin "max") (λxs H Q=>∃ i j,xs=[.int i,.int j]/\Q (.int (if j > i then j else i)) H):=by
 intro pins s σ H xs us Q I r h;o!⟨i,j,rfl,q⟩:=h;o!⟨u,w',rfl,⟨t,rfl⟩,⟨t',rfl⟩⟩:=vals2 r;r! max_two_ints b4! λh' tk k=>⟨_,H,I.kept k,?_,q⟩
 by_cases hj:j > i
 ·rw[if_pos hj,if_pos hj];e! ⟨_,rfl⟩
 ·rw[n! hj,n! hj];e! ⟨_,rfl⟩
t! L4:sf X (.type "str") (λxs H Q=>∃ i,xs=[.int i]/\i.natAbs.log2 < 1920/\Q (.str (toString i)) H):=by
 intro pins s σ H xs us Q I r h;o!⟨i,rfl,hz,q⟩:=h;o!⟨u,rfl,t,rfl⟩:=vals1 r;e! PySem.P.str_of_int hz ⟨.str _,H,I.tok _,⟨_,rfl⟩,q⟩
t! Nc:sf X (.builtin "ord") (λxs H Q=>∃ x,xs=[.str x]/\x.length=1/\Q (.int (x.cps.getD 0 0:Nat)) H):=by
 intro pins s σ H xs us Q I r h;o!⟨x,rfl,hz,q⟩:=h;o!⟨u,rfl,t,rfl⟩:=vals1 r;e! ord_of_one hz ⟨.int _,H,I.tok _,⟨_,rfl⟩,q⟩
end
end L2
namespace L2
open PySem PySem.Spec PyProof.Rows
structure OF (h:Heap) (x dx C:Addr) (mA:Str->Option Value):Prop where
 obj:h.get? x=some (%bD C dx)
 ns:h.Ns1 dx mA
 ne:dx≠x
t! Rp{h:Heap}{dx:Addr}{mA:Str->Option Value}(n:h.Ns1 dx mA):∃ od,h.get? dx=some od/\∀ name,PySem.W.lookIn name od=some (mA name):=by
 o!⟨o,es,ep,ho,hd,hk,_,hm⟩:=n;r! ⟨o,ho,λname=>?_⟩;~e:=hm name;unfold nsFind findBy at e;rw[←Array.find?_toList] at e;unfold PySem.W.lookIn;rw[hd];dsimp only;split
 ·rename_i y q
  rw[q] at e;e! congrArg some e
 ·rename_i q
  rw[q] at e;~a:es.toList.any (·.refKey)=false:=by
   rw[List.any_eq_false];intro y hy;o!⟨z,t,hkey⟩:=hk y (Array.mem_toList_iff.mp hy);simp[DictEntry.refKey,hkey]
  ~a':¬ es.toList.any (·.refKey)=true:=by rw[a];e! %ao
  rw[n! a'];e! congrArg some e
t! OF.look{h:Heap}{x dx C:Addr}{mA:Str->Option Value}(I:OF h x dx C mA):∃ od,PySem.W.InstAt h x (%bD C dx) C (some od)/\∀ name,PySem.W.lookIn name od=some (mA name) :=
 let ⟨od,ho,hl⟩:=Rp I.ns
 ⟨od,⟨I.obj,rfl,rfl,ho⟩,hl⟩
section
variable {prog:Program} {w:World} {A:Around} {E:Value->Shared->Prop} {s:Shared} {K:PySem.W.Frag} {x dx C f:Addr} {mA:Str->Option Value} {name:Str} {v:Value}
t! get_map{expr:Bool}{Q:Value->Shared->Prop}(X:K.In s.heap)(I:OF s.heap x dx C mA)(hg:%bW K C name=true)(hh:%ci K C=true)
  (ha:%aS K (.ref C) name=some none) (hv:mA name=some v) (hv':PySem.W.handedIn v=true) (h:Q v {s with toks:=s.toks+1}) :
  wpAny az! A (getAttr (.ref x) name expr) Q E s:=by
 o!⟨od,J,hl⟩:=I.look;e! PySem.W.get_value X J (PySem.W.plainGet_of hg).1 (PySem.W.findObj_own hh ha rfl (by rw[hl,hv])) hv' h
t! Tg{pl:Sem Bool}{Q:Value×List Value->Shared->Prop}(X:K.In s.heap)(I:OF s.heap x dx C mA)(hg:%bW K C name=true)
  (hf:%aS K (.ref C) name=some b6!) (ht:PySem.W.isFn K (.ref f)=true) (hv:mA name=none) (h:Q (.ref f,[.ref x]) s) :
  wpAny az! A (getMethod (.ref x) name pl) Q E s:=by
 o!⟨od,J,hl⟩:=I.look;e! PySem.W.method_fn X J (PySem.W.plainGet_of hg).1 (PySem.W.plainGet_of hg).2 hf (beq_iff_eq.mp ht) (by show (PySem.W.lookIn name od).map (·.isSome)=some false;rw[hl,hv];rfl) h
t! Vt{ns:List Str}{Q:Unit->Shared->Prop}(X:K.In s.heap)(I:OF s.heap x dx C mA)
  (hs:%aS K (.ref C) "__setattr__"=some ck!) (hp:%cB K C=true) (ht:PySem.W.takerIn K C name=some none) (hh:%ci K C=true)
  (hw:PySem.Within mA ns) (hsz:ns.length<=sizeLine)
  (h:∀ h',OF h' x dx C (λy=>if y=name then some v else mA y)->%cv dx s.heap h'->Q () {s with heap:=h',toks:=s.toks+2}) :
  wpAny az! A (setAttr (.ref x) name v) Q E s:=by
 o!⟨od,J,hl⟩:=I.look;r! PySem.W.set_plain X J hs (PySem.W.osa_open (s:={s with toks:=s.toks+1}) (r:=none) X J hp ht λb=>?_);o!⟨cd,hc,hd'⟩:=PySem.W.any_some hh;~hx:s.heap.get? x=some ⟨.ref C,some dx,.plain,#[]⟩:=I.obj;r! wpAny_bind (wpAny_pure (wpAny_bind (wpAny_bind (wpAny_loadPart hx (wpAny_bind (PySem.W.Looks.here (s:={s with toks:=s.toks+1}) (PySem.W.looks_clsIn X hc) ?_))))));rw[hd'];r! wpAny_pure (a:=some dx) (wpAny_bind (wpAny_pure (wpAny_bind ?_)));r! wpAny_nsSet1 (s:={s with toks:=s.toks+1}) I.ns λh' hn2 hs2=>?_
 o!⟨oD,esD,epD,hoD,hdD,hcD⟩:=hn2.count (PySem.Within.cons name v hw);r! wpAny_bind (wpAny_lookBehind hoD (by rw[hdD];e! pastItsLine_dict (%aj hcD (by rw[%aV];w!))) ?_);e! wpAny_pure (h _ ⟨(hs2.2 _ (Ne.symm I.ne)).trans I.obj,hn2,I.ne⟩ hs2)
t! Th{R:Result->Shared->Prop}{vs:List Value}{kw:List eO!}(X:K.In s.heap)(hm:PySem.W.makesIn K C=true)
  (hi:%aS K (.ref C) "__init__"=some b6!) (hf:PySem.W.typeIn K (.ref f)=some (.type "function"))
  (h:codeAny az! (A.under (.builtin "type.__call__" ⟨.ref C::vs,kw⟩)) (.call (.ref f) ⟨.ref aA!::vs,kw⟩) (PySem.W.InitBack aA! R)
   {s with heap:=(s.heap.push %bE).push d7!}) :
  codeAny az! A (.call (.ref C) ⟨vs,kw⟩) R s:=by
 o!⟨hh,g,d,t,os⟩:=s;e! PySem.W.make_core (PySem.W.makes_of X hm) (PySem.W.looks_findIn X hi) (λself=>PySem.W.bind_fn X self hf) aU! h
end
def nL(f:Str)(v:V):List (Str×V)->List (Str×V)
 | []=>[(f,v)]
 | (g,x)::r=>if g=f then (g,v)::r else (g,x)::nL f v r
t! Fm(f g:Str)(v:V):∀ fs:List (Str×V),(nL f v fs).lookup g=if g=f then some v else fs.lookup g
 | []=>by
  show List.lookup g [(f,v)]=_;by_cases h:g=f
  ·~hb:(g == f)=true:=beq_iff_eq.mpr h;simp only[List.lookup,hb,if_pos h]
  ·~hb:(g == f)=false:=beq_eq_false_iff_ne.mpr h;simp only[List.lookup,hb,if_neg h]
 | (k,x)::r=>by
  ~ih:=Fm f g v r;rw[show nL f v ((k,x)::r)=(if k=f then (k,v)::r else (k,x)::nL f v r) from rfl];by_cases hk:k=f
  ·rw[if_pos hk];by_cases h:g=k
   ·~hb:(g == k)=true:=beq_iff_eq.mpr h;simp only[List.lookup,hb,if_pos (h.trans hk)]
   ·~hb:(g == k)=false:=beq_eq_false_iff_ne.mpr h;simp only[List.lookup,hb,if_neg (λe:g=f=>h (e.trans hk.symm))]
  ·rw[n! hk];by_cases h:g=k
   ·~hb:(g == k)=true:=beq_iff_eq.mpr h;simp only[List.lookup,hb,if_neg (λe:g=f=>hk (h.symm.trans e))]
   ·~hb:(g == k)=false:=beq_eq_false_iff_ne.mpr h;simp only[List.lookup,hb];e! ih
t! DV(f:Str)(v:V):∀ fs:List (Str×V),f∈(nL f v fs).map (·.1)/\∀ g,g∈fs.map (·.1)->g∈(nL f v fs).map (·.1)
 | []=>⟨by simp[nL],λg h=>by simp at h⟩
 | (k,x)::r=>by
  o!⟨i1,i2⟩:=DV f v r;rw[show nL f v ((k,x)::r)=(if k=f then (k,v)::r else (k,x)::nL f v r) from rfl];by_cases hk:k=f
  ·rw[if_pos hk];subst hk;e! ⟨by simp,λg h=>by simpa using h⟩
  ·rw[n! hk];r! ⟨?_,λg h=>?_⟩
   ·rw[%aM];e! %af _ i1
   ·rw[%aM] at h ⊢;rcases %ak h with e | e
    ·e! List.mem_cons.mpr (.inl e)
    ·e! %af _ (i2 g e)
t! Fo(f:Str)(v:V):∀ fs:List (Str×V),(nL f v fs).length<=fs.length+1
 | []=>by simp[nL]
 | (k,x)::r=>by
  ~ih:=Fo f v r;rw[show nL f v ((k,x)::r)=(if k=f then (k,v)::r else (k,x)::nL f v r) from rfl];by_cases hk:k=f
  ·rw[if_pos hk,%aV,%aV];w!
  ·rw[n! hk,%aV,%aV];w!
t! wI.some_of{v:V}{o:Option Value}(r:wI (some v) o):∃ u,o=some u/\RelV v u:=by
 cases o with
 | none=>e! (show False from r).elim
 | some u=>e! ⟨u,rfl,r⟩
t! wI.none_of{o:Option Value}(r:wI none o):o=none:=by
 cases o with
 | none=>rfl
 | some u=>e! (show False from r).elim
t! Rq{v:V}{u:Value}(r:RelV v u):PySem.W.handedIn u=true:=by
 cases v with
 | fK=>cases (show u=%bT from r);rfl
 | bl b=>cases (show u=Value.bool b from r);rfl
 | int i=>obtain ⟨t,e⟩:=(show ∃ t,u=Value.int i t from r);cases e;rfl
 | str x=>obtain ⟨t,e⟩:=(show ∃ t,u=Value.str x t from r);cases e;rfl
 | MY b=>obtain ⟨t,e⟩:=(show ∃ t,u=Value.bytes b t from r);cases e;rfl
 | Xc b=>obtain ⟨t,e⟩:=(show ∃ t,u=Value.float b t from r);cases e;rfl
 | ref a=>cases (show u=%aL a from r);rfl
 | ty n=>cases (show u=%cf n from r);rfl
section
variable {P:Program} {w:World} {H H':Hp} {h h':Heap} {a C dx:Addr} {fs fs':List (Str×V)}
t! Hd(cx:yc P w H h)(e:H a=some c2!):∃ mA,OF h a dx C mA/\(∀ f,wI (fs.lookup f) (mA f))/\PySem.Within mA (fs.map (·.1))/\fs.length<=1000/\H dx=some (.own a):=by
 o!⟨d,z,ne,ob,mA,n,r,q⟩:=(show eS P w H h a c2! from cx a _ e);e! ⟨mA,⟨ob,n,ne⟩,r,q,z,d⟩
end
structure JR (K:PySem.W.Frag) (C:Addr):Prop where
 pg:%bW K C Str.empty=true
 hd:%ci K C=true
 po:%cB K C=true
 sa:%aS K (.ref C) "__setattr__"=some ck!
t! JR.get{K:%ag}{C:Addr}(c:JR K C)(f:Str):%bW K C f=true:=c.pg
def bq(K:%ag)(C:Addr)(f:Str):Prop:=%aS K (.ref C) f=some none
t! bq.YK{K:%ag}{C:Addr}{f:Str}(n:bq K C f):PySem.W.takerIn K C f=some none:=by
 unfold PySem.W.takerIn;rw[show PySem.W.findIn K (.ref C) f=some none from n];rfl
structure Meth (K:PySem.W.Frag) (C:Addr) (m:Str) (f:Addr):Prop where
 at_:%aS K (.ref C) m=some b6!
 fn:PySem.W.isFn K (.ref f)=true
 kp:%aR K (.ref f)=true
section
variable {X:Cx} {pins:List (Addr×Obj)} {σ:St} {H:Hp} {s:Shared} {a C dx:Addr} {fs:List (Str×V)} {f:Str} {v:V} {A:Around} {E:Value->Shared->Prop}
t! HF{b:Bool}{Q:Value->Shared->Prop}(I:Inv X pins σ H s)(e:H a=some c2!)(c:JR X.K C)(n:bq X.K C f)(l:fs.lookup f=some v)
  (h:∀ u s',Inv X pins σ H s'->RelV v u->Q u s'):wpAny af! A (getAttr (.ref a) f b) Q E s:=by
 o!⟨mA,O,r,_,_,_⟩:=Hd I.cx e;o!⟨u,hu,ru⟩:=wI.some_of (v:=v) (o:=mA f) (by rw[←l];e! r f);e! get_map I.Ai O (c.get f) c.hd n hu (Rq ru) (h u _ fC! ru)
t! HG{m:Str}{g:Addr}{pl:Sem Bool}{Q:Value×List Value->Shared->Prop}(I:Inv X pins σ H s)(e:H a=some c2!)(c:JR X.K C)(k:Meth X.K C m g)(l:fs.lookup m=none)
  (h:Q (.ref g,[.ref a]) s):wpAny af! A (getMethod (.ref a) m pl) Q E s:=by
 o!⟨mA,O,r,_,_,_⟩:=Hd I.cx e;~hn:mA m=none:=wI.none_of (by rw[←l];e! r m);e! Tg I.Ai O (c.get m) k.at_ k.fn hn h
t! HH{y:V}{u:Value}{Q:Unit->Shared->Prop}(I:Inv X pins σ H s)(e:H a=some c2!)(c:JR X.K C)(n:bq X.K C f)(hl:fs.length < 1000)(ry:RelV y u)
  (h:∀ s',Inv X pins σ (upd H a (.ins C dx (nL f y fs))) s'->Q () s'):wpAny af! A (setAttr (.ref a) f u) Q E s:=by
 o!⟨mA,O,r,wi,_,ho⟩:=Hd I.cx e;~hz:(fs.map (·.1)).length<=sizeLine:=by rw[%ac,sizeLine_eq];w!
 r! Vt I.Ai O c.sa c.po n.YK c.hd wi hz λh' O' sb=>h _ ?_
 ~hd:∃ o,h'.get? dx=some o:=let ⟨o,_,_,e',_⟩:=O'.ns;⟨o,e'⟩
 r! I.write (x:=a) (e:=dx) d0! (.inr ho) (λb q hb z=>(sb.2 b hb).trans z) hd ?_;r! ⟨by rw[ai O.ne];e! ho,?_,O.ne,O'.obj,_,O'.ns,λg=>?_,λg hg=>?_⟩
 ·have:=Fo f y fs;w!
 ·show wI ((nL f y fs).lookup g) (if g=f then some u else mA g);rw[Fm];by_cases q:g=f
  ·rw[if_pos q,if_pos q];e! ry
  ·rw[n! q,n! q];e! r g
 ·by_cases q:g=f
  ·rw[q];e! (DV f y fs).1
  ·r! (DV f y fs).2 g (wi g λz=>hg ?_);show (if g=f then some u else mA g)=none;rw[n! q];e! z
t! Inv.made(I:Inv X pins σ H s):Inv X pins σ (upd (upd H s.heap.objs.size (.own aA!)) aA! (.ins C s.heap.objs.size []))
  {s with heap:=(s.heap.push %bE).push d7!}:=by
 ~e1:(s.heap.push %bE).get? s.heap.objs.size=some %bE:=%aA s.heap rfl;~e2:((s.heap.push %bE).push d7!).get? aA!=some d7!:=by
  have:=%aA (s.heap.push %bE) (o:=%bD C s.heap.objs.size) rfl
  rwa [%bi] at this
 ~e3:(s.heap.push PySem.W.emptyDict).Ns s.heap.objs.size (λ_=>none):=⟨PySem.W.emptyDict,#[],_,e1,rfl,(λe he=>absurd he ai!),λ_=>rfl⟩;~I1:=I.laid (a:=s.heap.objs.size) (o:=.own aA!) (h':=s.heap.push %bE) (t':=s.toks) (λb u q=>%ap _ q) (%am _) ⟨_,e1⟩;r! I1.laid (a:=s.heap.objs.size+1) (o:=.ins C s.heap.objs.size []) (t':=s.toks) (λb u q=>%ap _ q) (Nat.le_of_eq (%bi _ _)) ?_;~ne:s.heap.objs.size≠s.heap.objs.size+1:=%aJ (%cG _);r! ⟨by rw[ai ne,ae],%aE _,ne,e2,λ_=>none,(Heap.Ns1.of_empty e3).at λo q=>%ap _ q,λ_=>True.intro,λy hy=>absurd rfl hy⟩
t! Vu{prog:Program}{w:World}{env:Env}{e:Expr}{f:Str}{pos:Pos}{s:Shared}{Q:Value->Shared->Prop}(hb:attributeBase e f env (eval e env)=eval e env)
  (h:wpAny az! A (eval e env) (λo s₁=>wpAny az! A (getAttr o f true) Q E s₁) E s):wpAny az! A (eval (.Attribute e f pos) env) Q E s :=
 Attribute_any_ h (by rw[arm_eval_Attribute,hb])
end
def wK(K:%ag)(ta:TE)(f:Str):TE:=fun σ H Q=>ta σ H λx H1=>∃ a C dx fs v,x=.ref a/\H1 a=some c2!/\JR K C/\bq K C f/\fs.lookup f=some v/\Q v H1
def YL(K:%ag)(ta tv:TE)(f:Str):TS:=λD σ H=>tv σ H λy H1=>ta σ H1 λx H2=>∃ a C dx fs,x=.ref a/\H2 a=some c2!/\JR K C/\bq K C f/\fs.length < 1000 /\
 D.nx σ (upd H2 a (.ins C dx (nL f y fs)))
def YM(X:Cx)(op:Operator)(rd:V->V->Hp->VK->Prop):Prop :=
 ∀ (pins:List an!) (s:Shared) (σ:St) (H:Hp) (x y:V) (u v:Value) (Q:VK),Inv X pins σ H s->RelV x u->RelV y v->rd x y H Q->wpAny af! X.A (inplaceOp op u v) bD! X.xe s
def Vv(K:%ag)(ta tv:TE)(rd:V->V->Hp->VK->Prop)(f:Str):TS:=λD σ H=>ta σ H λx H1=>∃ a C dx fs v,x=.ref a/\H1 a=some c2!/\JR K C/\bq K C f/\fs.lookup f=some v /\
 tv σ H1 λy H2=>rd v y H2 λz H3=>∃ dx' fs',H3 a=some (.ins C dx' fs')/\fs'.length < 1000/\D.nx σ (upd H3 a (.ins C dx' (nL f z fs')))
section
variable {X:Cx} {o e value:Expr} {f:Str} {pos pos' tpos:Pos} {ta tv:TE}
t! ao(he:PE X e ta)(hb:attributeBase e f X.env (eval e X.env)=eval e X.env):PE X (.Attribute e f pos) (wK X.K ta f):=by
 intro pins s σ H Q I h;r! Vu hb (fH bA! λu s1 ⟨x,H1,I1,rx,a,C,dx,fs,v,ex,ea,c,n,l,q⟩=>?_);subst ex;obtain rfl:u=%aL a:=rx;e! HF I1 ea c n l λu' s2 I2 ru=>⟨v,H1,I2,ru,q⟩
t! bf(ha:PE X o ta)(hv:PE X value tv)(hs:swapsWith value (some (.Attribute o f pos')) pos.line X.env=pure false):PS X (.Assign [.Attribute o f pos'] value pos) (YL X.K ta tv f):=by
 intro pins s σ H D I h;r! plainObj_wpAny_Assign_Attribute (fH (hv pins s σ H _ I h) λu s1 ⟨y,H1,I1,ry,q⟩=>fH (ha pins s1 σ H1 _ I1 q) λov s2 ⟨x,H2,I2,rx,a,C,dx,fs,ex,ea,c,n,l,q2⟩=>?_) hs;subst ex;obtain rfl:ov=%aL a:=rx;e! HH I2 ea c n l ry λs3 I3=>⟨σ,_,I3,q2⟩
t! rN{op:Operator}{rd:V->V->Hp->VK->Prop}(ha:PE X o ta)(hv:PE X value tv)(hop:YM X op rd):PS X (.AugAssign (.Attribute o f tpos) op value pos) (Vv X.K ta tv rd f):=by
 intro pins s σ H D I h;r! wpAny_AugAssign_AttributeAny (fH bB! λov s1 ⟨x,H1,I1,rx,a,C,dx,fs,v,ex,ea,c,n,l,q⟩=>?_);subst ex;obtain rfl:ov=%aL a:=rx;r! HF I1 ea c n l λu s2 I2 ru=>fH (hv pins s2 σ H1 _ I2 q) λw3 s3 ⟨y,H2,I3,ry,q3⟩=>fH (hop pins s3 σ H2 v y u w3 _ I3 ru ry q3) λw4 s4 ⟨z,H3,I4,rz,dx',fs',ea',l',q4⟩=>?_
 e! HH I4 ea' c n l' rz λs5 I5=>⟨σ,_,I5,q4⟩
def ZR:V->V->Hp->VK->Prop:=λx y H Q=>∃ i j,x=.int i/\y=.int j/\Q (.int (i+j)) H
t! DW:YM X .Add ZR:=by
 rintro pins s σ H x y u v Q I rx ry ⟨i,j,rfl,rfl,q⟩;o!⟨t,rfl⟩:=(show ∃ t,u=Value.int i t from rx);o!⟨t',rfl⟩:=(show ∃ t',v=Value.int j t' from ry);e! PyProof.Rows.iadd_int ⟨.int (i+j),H,I.tok _,⟨_,rfl⟩,q⟩
end
section
variable {X:Cx} {pins:List (Addr×Obj)} {σ:St} {H:Hp} {s:Shared} {A:Around} {E:Value->Shared->Prop} {Q:Value->Shared->Prop} {c:Value} {b:Bool}
inductive Gr (K:PySem.W.Frag) (H:Hp):V->Value->Prop where
 | fK:Gr K H .fK (.type "NoneType")
 | bl (x:Bool):Gr K H (.bl x) (.type "bool")
 | int (i:Int):Gr K H (.int i) (.type "int")
 | str (x:Str):Gr K H (.str x) (.type "str")
 | Xc (x:UInt64):Gr K H (.Xc x) (.type "float")
 | lst {a:Addr} {xs:List V} (e:H a=some (.lst xs)):Gr K H (.ref a) (.type "list")
 | ql {a:Addr} {o:Obj} {xs:List V} (e:H a=some (.ql o (.lst xs))):Gr K H (.ref a) (.type "list")
 | tup {a:Addr} {xs:List V} (e:H a=some (.tup xs)):Gr K H (.ref a) (.type "tuple")
 | dK {a:Addr} {kvs:List (Key×V)} (e:H a=some (.dK kvs)):Gr K H (.ref a) (.type "dict")
 | dT {a:Addr} {kvs:List (List Key×V)} (e:H a=some (.dT kvs)):Gr K H (.ref a) (.type "dict")
 | ins {a C dx:Addr} {fs:List (Str×V)} (e:H a=some (.ins C dx fs)) (cl:JR K C) (ha:%aS K (.ref C) "__class__"=some (some (.builtin "object.__class__")))
   (hn:PySem.W.specialIn K (.builtin "object.__class__") "__get__"=some (some (.builtin "getset_descriptor.__get__"))) (htk:PySem.W.takesIn K (.builtin "object.__class__")=some true)
   (hm:PySem.W.mroIn K C (.type "object")=some true):Gr K H (.ref a) (.ref C)
t! Kt{x:V}{u t:Value}(I:Inv X pins σ H s)(rx:RelV x u)(ty:Gr X.K H x t)(e:PySem.W.kitOne X.K t c=some b)(h:∀ tk,Q (.bool b) {s with toks:=tk}) :
  wpAny af! A (call (.builtin "isinstance") [u,c]) Q E s:=by
 cases ty with
 | fK=>cases (show u=%bT from rx);e! %bk PySem.W.kitx_none I.Ai %cA e bK! h
 | bl y=>cases (show u=Value.bool y from rx);e! %bk PySem.W.kitx_bool I.Ai %cA e bK! h
 | int i=>obtain ⟨t,q⟩:=(show ∃ t,u=Value.int i t from rx);cases q;e! %bk PySem.W.kitx_int I.Ai %cA e bK! h
 | str y=>obtain ⟨t,q⟩:=(show ∃ t,u=Value.str y t from rx);cases q;e! %bk PySem.W.kitx_str I.Ai %cA e bK! h
 | Xc y=>obtain ⟨t,q⟩:=(show ∃ t,u=Value.float y t from rx);cases q;e! %bk PySem.W.kitx_float I.Ai %cA e bK! h
 | @lst a xs ea =>
  cases (show u=%aL a from rx);o!⟨_,_,n,_,h1⟩:=(show eS X.prog X.w H s.heap a da! from I.cx a _ ea);e! %bk PySem.W.kitx_list I.Ai ⟨_,h1,rfl⟩ e bK! h
 | @ql a ob xs ea =>
  cases (show u=%aL a from rx);o!⟨_,_,_,n,_,h1⟩:=(show eS X.prog X.w H s.heap a (.ql ob da!) from I.cx a _ ea);e! %bk PySem.W.kitx_list I.Ai ⟨_,h1,rfl⟩ e bK! h
 | @tup a xs ea =>
  cases (show u=%aL a from rx);o!⟨_,_,_,p⟩:=(show eS X.prog X.w H s.heap a d4! from I.cx a _ ea);o!⟨o,h1,h2,_⟩:=p;e! %bk PySem.W.kitx_tuple I.Ai ⟨o,h1,h2⟩ e bK! h
 | @dK a kvs ea =>
  cases (show u=%aL a from rx);o!⟨_,_,vs,_,p⟩:=(show eS X.prog X.w H s.heap a aQ! from I.cx a _ ea);o!⟨o,es,ep,h1,h2,_⟩:=p;e! %bk PySem.W.kitx_dict I.Ai ⟨o,h1,h2.1⟩ e bK! h
 | @dT a kvs ea =>
  cases (show u=%aL a from rx);o!⟨_,_,xs,_,o,es,ep,h1,h2,_⟩:=(show eS X.prog X.w H s.heap a en! from I.cx a _ ea);e! %bk PySem.W.kitx_dict I.Ai ⟨o,h1,h2.1⟩ e bK! h
 | @ins a C dx fs ea cl ha hn htk hm =>
  cases (show u=%aL a from rx);o!⟨mA,O,_⟩:=Hd I.cx ea;o!⟨od,J,_⟩:=O.look;e! %bk (PySem.W.kitx_own (cl.get _) cl.hd ha hn htk hm) I.Ai J e bK! h
end
end L2
namespace L2
open PySem PySem.Spec PyProof.Rows
structure mB (k:Nat) (A:Around):Prop where
 hd:A.handled=none
 dp:A.depth+3 * k+5 < recursionLimit
 un:A.units+16 * k+200 < cLine
t! mB.mono{j k:Nat}{A:Around}(r:mB k A)(h:j<=k):mB j A:=⟨r.hd,by have:=r.dp;w!,by have:=r.un;w!⟩
t! mB.deeper{k:Nat}{A:Around}(r:mB (k+1) A)(env:Env):mB k (A.deeper env) :=
 ⟨r.hd,by have:=r.dp;show A.depth+1+3 * k+5 < _;w!,by have:=r.un;show A.units+3+16 * k+200 < _;w!⟩
t! OG{A:Around}{C:Addr}{us:List Value}{kw:List eO!}:(A.under bR!).depth=A.depth+1:=by
 first | rfl | simp[Around.under,Code.weight,Code.isCreation,Code.isGuard,Code.isCaller,Code.frames,Code.isFrame,guardIds]
t! OH{A:Around}{C:Addr}{us:List Value}{kw:List eO!}:(A.under bR!).units=A.units+1:=by
 first | rfl | simp[Around.under,Code.cUnits,Code.frames,Code.isFrame]
t! mB.make{k:Nat}{A:Around}(r:mB (k+1) A)(C:Addr)(us:List Value)(kw:List eO!):mB k (A.under bR!) :=
 ⟨r.hd,by have:=r.dp;rw[OG];w!,by have:=r.un;rw[OH];w!⟩
t! mB.depth{k:Nat}{A:Around}(r:mB k A):A.depth < recursionLimit:=by have:=r.dp;w!
t! mB.units{k:Nat}{A:Around}(r:mB k A):A.units+64 < cLine:=by have:=r.un;w!
def Gs:TA:=λ_ H Q=>Q [] H
def ye(ta:TE)(tr:TA):TA:=fun σ H Q=>ta σ H λx H1=>tr σ H1 λxs H2=>Q (x::xs) H2
section
variable {X:Cx} {e:Expr} {es:List Expr} {te:TE} {t:TA} {pos:Pos}
t! ag:PA X [] Gs:=λ_ _ _ _ H Q I h=>Calls.spliced_nil ⟨[],H,I,.nil,h⟩
t! aa(ha:PE X e te)(hr:PA X es t)(hs:starEach (e::es) X.env=a0!::starEach es X.env:=by rfl):PA X (e::es) (ye te t):=by
 intro pos pins s σ H Q I h;rw[hs];show wpAny _ _ (spliced (a0!::backTo pos bH!)) _ _ s;r! %cx (fH bB! λu s1 ⟨x,H1,I1,r1,q1⟩=>?_);e! fH (hr pos pins s1 σ H1 _ I1 q1) λus s2 ⟨xs,H2,I2,r2,q2⟩=>⟨x::xs,H2,I2,.cons r1 r2,q2⟩
def ZS(t:TA):TE:=fun σ H Q=>t σ H λxs H1=>xs.length<=sizeLine/\∀ p,H1 p=none->Q (.ref p) (upd H1 p d4!)
def YN(t:TA):TE:=fun σ H Q=>t σ H λxs H1=>xs.length<=sizeLine/\∀ p,H1 p=none->Q (.ref p) (upd H1 p da!)
t! Xv{x1}(h:PA X es t):PE X (.Tuple es x1 pos) (ZS t):=by
 intro pins s σ H Q I hq;r! wpAny_Tuple_spliced (fH (h pos pins s σ H _ I hq) λus s1 ⟨xs,H1,I1,r,z,q⟩=>⟨by rw[←r.length];e! z,?_⟩);~hf:H1 s1.heap.objs.size=none:=I1.cx.fresh (%am _);r! ⟨.ref s1.heap.objs.size,upd H1 s1.heap.objs.size d4!,I1.laid (t':=s1.toks) (λb u e=>%ap _ e) (%am _) ?_,rfl,q _ hf⟩;e! ⟨z,us,r,⟨_,%aA _ rfl,rfl,_,rfl⟩⟩
t! cz(h:PA X es t):PE X (.List es pos) (YN t):=by
 intro pins s σ H Q I hq;r! wpAny_List_spliced (fH (h pos pins s σ H _ I hq) λus s1 ⟨xs,H1,I1,r,z,q⟩=>⟨by rw[←r.length];e! z,?_⟩);~hf:H1 s1.heap.objs.size=none:=I1.cx.fresh (%am _);r! ⟨.ref s1.heap.objs.size,upd H1 s1.heap.objs.size da!,I1.laid (t':=s1.toks) (λb u e=>%ap _ e) (%am _) ?_,rfl,q _ hf⟩;e! ⟨z,us,0,r,%aA _ rfl⟩
end
abbrev Sp:=List V->Hp->VK->XK->Prop
abbrev M3:=List Env->Hp->Shared->XK->Value->Shared->Prop
structure OI (P:Program) (w:World) (K:PySem.W.Frag) (mg:Str->Option Value) (base:Heap) (A:Around) (outer:List Env) (s:Shared) (H:Hp):Prop where
 frames:A.frames=some outer
 mod:Mod K mg base
 bs:∀ b o,base.get? b=some o->s.heap.get? b=some o/\H b=none
 Ri:base.objs.size<=s.heap.objs.size
 i6:s.heap.FunFrames base outer
 Rk:∀ b∈yd outer,H b=none
 cx:yc P w H s.heap
 bare:AllBare s.gens
def CE(outer:List Env)(P:Program)(w:World)(H:Hp)(s:Shared)(Q:VK)(u:Value)(s':Shared):Prop :=
 ∃ v H',s'.os=s.os/\AllBare s'.gens/\Un (yd outer) [] H H' s.heap s'.heap/\yc P w H' s'.heap/\RelV v u/\Q v H'
def CR(CX:M3)(outer:List Env)(P:Program)(w:World)(H:Hp)(s:Shared)(Q:VK)(E:XK)(r:Result)(s':Shared):Prop :=
 match r with
 | .ok (.ret u)=>CE outer P w H s Q u s'
 | .ok _=>False
 | .error e=>CX outer H s E e s'
structure aK (P:Program) (w:World) (K:PySem.W.Frag) (mg:Str->Option Value) (base:Heap) (CX:M3) (k:Nat) (f:Addr) (fd:FuncData) (ps:List Str) (sp:Sp):Prop where
 len:∀ vs H Q E,sp vs H Q E->vs.length=ps.length
 run:∀ (A:Around) (outer:List Env) (s:Shared) (H:Hp) (args:Args) (us:List Value) (vs:List V) (Q:VK) (E:XK),mB k A->OI P w K mg base A outer s H->BindsTo s fd args eE!->Vals vs us->sp vs H Q E ->
  codeAny c6! A (.call (.ref f) args) (CR CX outer P w H s Q E) s
t! aK.mono{P:Program}{w:World}{K:%ag}{mg:Str->Option Value}{base:Heap}{CX:M3}{j k:Nat}{f:Addr}{fd:FuncData}{ps:List Str}{sp:Sp}(F:aK P w K mg base CX j f fd ps sp)(h:j<=k) :
  aK P w K mg base CX k f fd ps sp:=⟨F.len,λA outer s H args us vs Q E hr=>F.run A outer s H args us vs Q E (hr.mono h)⟩
t! OI.make{P:Program}{w:World}{K:%ag}{mg:Str->Option Value}{base:Heap}{A:Around}{outer:List Env}{s:Shared}{H:Hp}(e:OI P w K mg base A outer s H)(C:Addr)(us:List Value)(kw:List eO!) :
  OI P w K mg base (A.under bR!) outer s H:=⟨by first | exact e.frames | (simpa[Around.under,Code.envs,Code.isFrame,pushEnvs] using e.frames),e.mod,e.bs,e.Ri,e.i6,e.Rk,e.cx,e.bare⟩
section
variable {X:Cx} {pins:List (Addr×Obj)} {σ:St} {H:Hp} {s s':Shared}
t! Inv.Xw(I:Inv X pins σ H s):OI X.prog X.w X.K X.mg X.base X.A X.stack s H :=
 ⟨I.ok.frames,I.ok.mod,I.bs,%aj I.ok.Ri I.sz,I.stack,I.G9,I.cx,I.bare⟩
t! Inv.after{Q:VK}{u:Value}(I:Inv X pins σ H s)(h:CE X.stack X.prog X.w H s Q u s'):EP X pins σ Q u s':=by
 o!⟨v,H',os,bare,un,cx,r,q⟩:=h;o!⟨hh,g,d,t,os'⟩:=s';obtain rfl:os'=s.os:=os;e! ⟨v,H',I.call (h':=hh) (g':=g) (d':=d) (t':=t) (ch:=[]) un cx bare (λb z=>absurd z ai!),r,q⟩
end
def Qu(sp:Sp)(dvs:List V)(E:XK)(t:TA):TE:=fun σ H Q=>t σ H λvs H1=>sp gc! H1 Q E
def Ti(C:Addr)(m:Str)(sp:Sp)(dvs:List V)(E:XK)(ta:TE)(t:TA):TE:=fun σ H Q=>ta σ H λx H1=>∃ a dx fs,x=.ref a/\H1 a=some c2!/\fs.lookup m=none /\
 t σ H1 λvs H2=>sp (x::gc!) H2 Q E
def WN(C:Addr)(sp:Sp)(dvs:List V)(E:XK)(t:TA):TE:=fun σ H Q=>t σ H λvs H1=>∀ x dx,H1 x=none->H1 dx=none->dx≠x ->
 sp (.ref x::gc!) (upd (upd H1 dx (.own x)) x (.ins C dx [])) (λv H2=>v=.fK/\Q (.ref x) H2) E
def Binds(K:%ag)(fd:FuncData)(ps:List Str)(ds:List Value):Prop :=
 ∀ (s:Shared) (us:List Value),K.In s.heap->(us++ds).length=ps.length->BindsTo s fd ⟨us,[]⟩ (ps.zip (us++ds))
t! Binds.all{K:%ag}{fd:FuncData}{ps:List Str}(h:∀ us:List Value,us.length=ps.length->bindArgs fd ⟨us,[]⟩=pure eE!):Binds K fd ps []:=λs us _ hl=>by
 rw[%bI] at hl ⊢;e! .of_eq (h us hl)
def Passes(CX:M3)(X:Cx)(E:XK):Prop:=∀ (pins:List an!) (σ:St) (H:Hp) (s:Shared) (e:Value) (s':Shared),Inv X pins σ H s->CX X.stack H s E e s'->X.xe e s'
section
variable {X:Cx} {CX:M3} {k:Nat} {f C:Addr} {fd:FuncData} {ps:List Str} {sp:Sp} {dvs:List V} {ds:List Value} {E:XK} {x m:Str} {p pos apos:Pos} {e o:Expr} {es:List Expr} {ta:TE} {t:TA}
t! L5{pins:List an!}{σ:St}{H:Hp}{s:Shared}{Q:VK}{us:List Value}{vs:List V}(F:aK X.prog X.w X.K X.mg X.base CX k f fd ps sp)(hr:mB k X.A)(hb:Binds X.K fd ps ds)(hd:Vals dvs ds)(hx:Passes CX X E)
  (I:Inv X pins σ H s) (r:Vals vs us) (h:sp gc! H Q E):wpAny af! X.A (call (.ref f) us) bD! X.xe s:=by
 ~r2:Vals gc! (us++ds):=r.append hd;~hl:(us++ds).length=ps.length:=by rw[←r2.length];e! F.len _ _ _ _ h
 r! wpAny_call (codeAny_mono (F.run X.A X.stack s H ⟨us,[]⟩ (us++ds) gc! Q E hr I.Xw (hb s us I.Ai hl) r2 h) λr s' hq=>?_);cases r with
 | error e=>e! hx pins σ H s e s' I hq
 | ok fl =>
  cases fl with
  | ret u=>e! I.after hq
  | next=>e! %bf hq
  | brk=>e! %bf hq
  | cont=>e! %bf hq
t! az(F:aK X.prog X.w X.K X.mg X.base CX k f fd ps sp)(hr:mB k X.A)(hg:Gl X x)(hm:X.mg x=some (.ref f))(hk:%aR X.K (.ref f)=true)(hb:Binds X.K fd ps ds)(hd:Vals dvs ds)(hx:Passes CX X E)
  (ha:PA X (e::es) t) (hdb:aE!=false:=by decide) (he:starEach (e::es) X.env=a0!::starEach es X.env:=by rfl) (hpl:(backTo pos bH!).any (·.1)=false:=by rfl) :
  PE X cP! (Qu sp dvs E t):=by
 intro pins s σ H Q I h;r! wpAny_Call_Name_kw eZ!;r! PySem.W.callWith_K (h₀:=X.base) I.ok.mod.Yu hk (fH b8! λus s1 ⟨vs,H1,I1,r,q⟩=>⟨I1.Ai,?_⟩) he hpl;e! L5 F hr hb hd hx I1 r q
t! Tj(F:aK X.prog X.w X.K X.mg X.base CX k f fd ps sp)(hr:mB k X.A)(hg:Gl X x)(hm:X.mg x=some (.ref f))(hk:%aR X.K (.ref f)=true)(hb:Binds X.K fd ps ds)(hd:Vals dvs ds)(hx:Passes CX X E)
  (hdb:aE!=false:=by decide):PE X (.Call (.Name x p) [] [] pos) (Qu sp dvs E Gs):=by
 intro pins s σ H Q I h;r! wpAny_Call_Name_kw eZ!;e! PySem.W.callWith_K0 I.Ai hk (L5 (us:=[]) F hr hb hd hx I .nil h)
t! bH{pl:Sem Bool}(he:PE X o ta)(c:JR X.K C)(hm:Meth X.K C m f)(F:aK X.prog X.w X.K X.mg X.base CX k f fd ps sp)(hr:mB k X.A)(hb:Binds X.K fd ps ds)(hd:Vals dvs ds)(hx:Passes CX X E)(ha:PA X (e::es) t)
  (hst:starEach (e::es) X.env=a0!::starEach es X.env:=by rfl) (hpl:(backTo pos bH!).any (·.1)=false:=by rfl)
  (ht:eval (.Call ex! (e::es) [] pos) X.env=(do
   let ov ←eval o X.env
   standAt apos.atName
   let (f,first) ←holding [ov] (getMethod ov m pl)
   callWith pos f first (backTo pos fo!) (backToKw pos dj!)):=by rfl) :
  PE X (.Call ex! (e::es) [] pos) (Ti C m sp dvs E ta t):=by
 intro pins s σ H Q I h;r! PySem.W.methodCall_KW (pl:=pl) (fH bA! λu s1 ⟨x,H1,I1,rx,a,dx,fs,ex,ea,l,q⟩=>?_) ht;subst ex;obtain rfl:u=%aL a:=rx;r! HG I1 ea c hm l ?_;r! PySem.W.callWith_K (first:=[.ref a]) (h₀:=X.base) I.ok.mod.Yu hm.kp (fH (ha pos pins s1 σ H1 _ I1 q) λus s2 ⟨vs,H2,I2,r,q2⟩=>⟨I2.Ai,?_⟩) hst hpl;e! L5 (us:=.ref a::us) (vs:=.ref a::vs) F hr hb hd hx I2 (.cons rfl r) q2
t! cO{pl:Sem Bool}(he:PE X o ta)(c:JR X.K C)(hm:Meth X.K C m f)(F:aK X.prog X.w X.K X.mg X.base CX k f fd ps sp)(hr:mB k X.A)(hb:Binds X.K fd ps ds)(hd:Vals dvs ds)(hx:Passes CX X E)
  (ht:eval (.Call ex! [] [] pos) X.env=(do
   let ov ←eval o X.env
   standAt apos.atName
   let (f,first) ←holding [ov] (getMethod ov m pl)
   callWith pos f first (backTo pos (starEach [] X.env)) (backToKw pos dj!)):=by rfl) :
  PE X (.Call ex! [] [] pos) (Ti C m sp dvs E ta Gs):=by
 intro pins s σ H Q I h;r! PySem.W.methodCall_KW (pl:=pl) (fH bA! λu s1 ⟨x,H1,I1,rx,a,dx,fs,ex,ea,l,q⟩=>?_) ht;subst ex;obtain rfl:u=%aL a:=rx;r! HG I1 ea c hm l ?_;e! PySem.W.callWith_K0 (first:=[.ref a]) I1.Ai hm.kp (L5 (us:=[.ref a]) (vs:=[.ref a]) F hr hb hd hx I1 (.cons rfl .nil) q)
structure Mk (K:PySem.W.Frag) (C f:Addr):Prop where
 makes:PySem.W.makesIn K C=true
 init:%aS K (.ref C) "__init__"=some b6!
 fn:PySem.W.isFn K (.ref f)=true
 kp:%aR K (.ref C)=true
t! Nd{pins:List an!}{σ:St}{H:Hp}{s:Shared}{Q:VK}{us:List Value}{vs:List V}(M:Mk X.K C f)(F:aK X.prog X.w X.K X.mg X.base CX k f fd ps sp)(hr:mB (k+1) X.A)(hb:Binds X.K fd ps ds)(hd:Vals dvs ds)
  (hx:Passes CX X E) (I:Inv X pins σ H s) (r:Vals vs us)
  (h:∀ x dx,H x=none->H dx=none->dx≠x->sp (.ref x::gc!) (upd (upd H dx (.own x)) x (.ins C dx [])) (λv H2=>v=.fK/\Q (.ref x) H2) E) :
  wpAny af! X.A (call (.ref C) us) bD! X.xe s:=by
 ~hq:=h aA! s.heap.objs.size (I.cx.fresh (Nat.le_succ _)) c1! (%aJ (%cG _));~I2:=Inv.made (C:=C) I;~r2:Vals (V.ref aA!::gc!) (%aL aA!::(us++ds)):=.cons rfl (r.append hd);~hl:(%aL aA!::us++ds).length=ps.length:=by
  ~e:=r2.length;rw[F.len _ _ _ _ hq] at e;e! e.symm
 r! wpAny_call (Th (f:=f) I.Ai M.makes M.init (beq_iff_eq.mp M.fn) (codeAny_mono (F.run _ X.stack _ _ ⟨%aL aA!::us,[]⟩ (%aL aA!::(us++ds)) _ _ E (hr.make C us [])
  (I2.Xw.make C us []) (hb _ (%aL aA!::us) I2.Ai hl) r2 hq) λr s' hq'=>?_))
 cases r with
 | error e=>e! hx pins σ _ _ e s' I2 hq'
 | ok fl =>
  cases fl with
  | ret u =>
   o!⟨v,H',I3,rv,ev,q3⟩:=I2.after hq';subst ev;e! ⟨rv,⟨V.ref aA!,H',I3,rfl,q3⟩⟩
  | next=>e! %bf hq'
  | brk=>e! %bf hq'
  | cont=>e! %bf hq'
t! eI(M:Mk X.K C f)(F:aK X.prog X.w X.K X.mg X.base CX k f fd ps sp)(hr:mB (k+1) X.A)(hg:Gl X x)(hm:X.mg x=some (.ref C))(hb:Binds X.K fd ps ds)(hd:Vals dvs ds)(hx:Passes CX X E)
  (ha:PA X (e::es) t) (hdb:aE!=false:=by decide) (he:starEach (e::es) X.env=a0!::starEach es X.env:=by rfl) (hpl:(backTo pos bH!).any (·.1)=false:=by rfl) :
  PE X cP! (WN C sp dvs E t):=by
 intro pins s σ H Q I h;r! wpAny_Call_Name_kw eZ!;r! PySem.W.callWith_K (h₀:=X.base) I.ok.mod.Yu M.kp (fH b8! λus s1 ⟨vs,H1,I1,r,q⟩=>⟨I1.Ai,?_⟩) he hpl;e! Nd M F hr hb hd hx I1 r q
t! Tn(M:Mk X.K C f)(F:aK X.prog X.w X.K X.mg X.base CX k f fd ps sp)(hr:mB (k+1) X.A)(hg:Gl X x)(hm:X.mg x=some (.ref C))(hb:Binds X.K fd ps ds)(hd:Vals dvs ds)(hx:Passes CX X E)
  (hdb:aE!=false:=by decide):PE X (.Call (.Name x p) [] [] pos) (WN C sp dvs E Gs):=by
 intro pins s σ H Q I h;r! wpAny_Call_Name_kw eZ!;e! PySem.W.callWith_K0 I.Ai M.kp (Nd (us:=[]) M F hr hb hd hx I .nil h)
end
section
variable {X:Cx} {CX:M3} {k:Nat} {f C:Addr} {fd:FuncData} {ps ks:List Str} {sp:Sp} {E:XK} {x m:Str} {p pos apos kpos:Pos} {e o:Expr} {es:List Expr} {kws:List Keyword} {te ta:TE} {t tk:TA} {nm:Option Str}
variable {g:List Value->List Value->List Value} {gV:List V->List V->List V}
end
structure ax (N P:List Str) (sc:Scope):Prop where
 kind:sc.kind=.function
 co:sc.isCoroutine=false
 gen:sc.isGenerator=false
 nd:N.Nodup
 pre:N.take P.length=P
 par:∀ x∈P,sc.names.lookup x=some .local∨sc.names.lookup x=some .cell
 Xx:∀ y∈sc.names,y.2≠.free
t! Ku{kindOf:Str->Option NameKind}{x:Str}:∀ {binds:List eO!} {m:Str->Option Value},(∀ v,(x,v)∉binds)->bindL kindOf binds m x=m x
 | [],_,_=>rfl
 | (n,v)::r,m,h=>by
  unfold bindL;rw[Ku λw hw=>h w (%af _ hw)];split
  ·have:x≠n:=by rintro rfl;e! h v %an
   simp[this]
  ·rfl
t! Kv{kindOf:Str->Option NameKind}{x:Str}:∀ {binds:List eO!} {m:Str->Option Value},(∀ v,(x,v)∉binds)->bindC kindOf binds m x=m x
 | [],_,_=>rfl
 | (n,v)::r,m,h=>by
  unfold bindC;rw[Kv λw hw=>h w (%af _ hw)];split
  ·rfl
  ·have:x≠n:=by rintro rfl;e! h v %an
   simp[this]
t! Kw{kindOf:Str->Option NameKind}{x:Str}{v:Value}:∀ {P:List Str} {vs:List Value} {i:Nat} {m:Str->Option Value},P.Nodup->P[i]?=some x->vs[i]?=some v->kindOf x=some .local ->
  bindL kindOf (P.zip vs) m x=some v
 | [],_,_,_,_,h,_,_=>by simp at h
 | _::_,[],_,_,_,_,h,_=>by simp at h
 | p::P,w::vs,0,m,nd,h1,h2,hk=>by
  simp at h1 h2;subst h1;subst h2;show bindL kindOf ((p,w)::P.zip vs) m p=_;unfold bindL;rw[Ku λv hv=>(List.nodup_cons.mp nd).1 (List.of_mem_zip hv).1,if_pos hk];simp
 | p::P,w::vs,i+1,m,nd,h1,h2,hk=>by
  show bindL kindOf ((p,w)::P.zip vs) m x=_;unfold bindL;e! Kw (i:=i) (List.nodup_cons.mp nd).2 (by simpa using h1) dZ! hk
t! Kx{kindOf:Str->Option NameKind}{x:Str}{v:Value}:∀ {P:List Str} {vs:List Value} {i:Nat} {m:Str->Option Value},P.Nodup->P[i]?=some x->vs[i]?=some v->kindOf x≠some .local ->
  bindC kindOf (P.zip vs) m x=some v
 | [],_,_,_,_,h,_,_=>by simp at h
 | _::_,[],_,_,_,_,h,_=>by simp at h
 | p::P,w::vs,0,m,nd,h1,h2,hk=>by
  simp at h1 h2;subst h1;subst h2;show bindC kindOf ((p,w)::P.zip vs) m p=_;unfold bindC;rw[Kv λv hv=>(List.nodup_cons.mp nd).1 (List.of_mem_zip hv).1,n! hk];simp
 | p::P,w::vs,i+1,m,nd,h1,h2,hk=>by
  show bindC kindOf ((p,w)::P.zip vs) m x=_;unfold bindC;e! Kx (i:=i) (List.nodup_cons.mp nd).2 (by simpa using h1) dZ! hk
def start(N:List Str)(vs:List V):St:=vs.map some++List.replicate (N.length - vs.length) none
def gp(CX:M3)(P:Program)(w:World)(K:%ag)(mg:Str->Option Value)(base:Heap)(N:List Str)(qual:Str)(scope:Scope)(f:Addr)(cd:Value)(A:Around)(outer:List Env)(s:Shared)(H:Hp)(E:XK):Cx where
 prog:=P
 w:=w
 K:=K
 mg:=mg
 base:=base
 A:=A.deeper dc!
 N:=N
 CO:=s
 SX:=H
 env:=envOfC qual scope s.heap.objs.size f cd
 outer:=outer
 stack:=envOfC qual scope s.heap.objs.size f cd::outer
 ex:=[]
 calm:=true
 fn:=λ_=>true
 pn:=[]
 xe:=λe s'=>wpAny c6! (A.deeper dc!) (leaving dc! e) (λ_ s''=>CX outer H s E e s'') (λe' s''=>CX outer H s E e' s'') s'
t! Nf{sc:Scope}{n:Nat}{x:Str}(h:sc.names.lookup x=some .cell):∃ c,(cellsFrom n sc.names []).lookup x=some c:=by
 ~q:=PySem.W.cellsFrom_some sc.names n [] (.inl h);e! Option.isSome_iff_exists.mp q
t! Rr{CX:M3}{P:Program}{w:World}{K:%ag}{mg:Str->Option Value}{base:Heap}{N ps:List Str}{qual:Str}{scope:Scope}{f:Addr}{cd:Value}{A:Around}{outer:List Env}{s s1:Shared}{H:Hp}{E:XK}{us:List Value}{vs:List V}
  (S:ax N ps scope) (hd:A.handled=none) (e0:OI P w K mg base A outer s H) (hl:vs.length=ps.length) (r:Vals vs us)
  (x:InCallC s s.heap.objs.size (bindL (envOfC qual scope s.heap.objs.size f cd).kindOf eE! λ_=>none) (cellsFrom aA! scope.names []) (bindC (envOfC qual scope s.heap.objs.size f cd).kindOf eE! λ_=>none) s1) :
  Inv (gp CX P w K mg base N qual scope f cd A outer s H E) [] fn! H s1:=by
 ~hpl:ps.length<=N.length:=by have:=congrArg List.length S.pre;rw[%aH] at this;w!
 o!⟨h1,tk,rfl,hk⟩:=x.done;~noA:∀ b:Addr,b∉(gp CX P w K mg base N qual scope f cd A outer s H E).ex:=λb z=>absurd (show b∈([]:List Addr) from z) ai!
 r! ⟨⟨e0.mod,S.kind,rfl,rfl,%am _,λy z c h1 h2=>?_,λy hy=>?_,λy c _ h=>?_,λ_=>hd,Around.frames_deeper e0.frames,.inr ⟨rfl,rfl⟩,λb z=>absurd z (noA b),e0.bs,e0.Ri,λb _ _=>noA b,λb z=>absurd z (noA b),e0.i6,e0.Rk⟩,
  rfl,e0.bare,Un.kept hk,⟨_,x.toInCall.ns,λi y v h1 h2 h3=>?_⟩,λy c h=>⟨_,x.cell y c h⟩,e0.cx.fresh gn!,λy c h=>?_,λp hp=>absurd (show p∈([]:List an!) from hp) ai!,e0.cx.kept hk,?_⟩
 ·e! name_of_addr x.apart (%aK h1) (%aK h2)
 ·~hy:scope.names.lookup y=some .cell∨scope.names.lookup y=some .free:=hy;rcases hy with hy | hy
  ·e! Nf hy
  ·e! absurd rfl (S.Xx _ (%aK hy))
 ·e! Nat.le_of_lt (x.above y c (%aK h))
 ·~hi:i < vs.length:=by
   unfold start at h2;by_cases hi:i < vs.length
   ·e! hi
   ·rw[List.getElem?_append_right (by simpa using hi)] at h2;rw[List.getElem?_replicate] at h2;split at h2<;>cases h2
  ~ha:vs[i]?=some v:=by
   unfold start at h2;rw[List.getElem?_append_left (by simpa using hi),List.getElem?_map] at h2;cases e:vs[i]? with
   | none=>rw[e] at h2;cases h2
   | some a=>rw[e] at h2;cases h2;rfl
  o!⟨u,hu,rv⟩:=r.get ha;~hp:ps[i]?=some y:=by
   rw[←S.pre,List.getElem?_take_of_lt (by w!)];e! h1
  ~ndP:ps.Nodup:=by rw[←S.pre];e! S.nd.sublist (List.take_sublist _ _)
  r! ⟨u,rv,?_⟩;rcases S.par y (%bg hp) with k | k
  ·e! .inl ⟨k,Kw ndP hp hu k⟩
  ·o!⟨c,e⟩:=Nf (n:=s.heap.objs.size+1) k;r! .inr ⟨.inl k,c,e,?_⟩;~q:=x.cell y c e;rw[Kx ndP hp hu (by show scope.names.lookup y≠_;rw[k];decide)] at q;e! q
 ·e! e0.cx.fresh (Nat.le_of_lt (x.above y c (%aK h)))
 ·unfold start;show _=N.length;rw[%aq,%ac,List.length_replicate];w!
t! WO{CX:M3}{P:Program}{w:World}{K:%ag}{mg:Str->Option Value}{base:Heap}{k:Nat}{f:Addr}{name qual:Str}{params:Arguments}{body:List Stmt}{scope:Scope}{dV kV doc pm cdv ct oc:Value}{an od:Option Addr}
  {osl:Array cr!} {N ps:List Str} {sp:Sp} (lk:K.lookup f=some ⟨oc,od,.func (%bz name qual params body scope dV kV doc pm an cdv ct),osl⟩) (hcd:%bV K cdv qual=true) (S:ax N ps scope)
  (len:∀ vs H Q E,sp vs H Q E->vs.length=ps.length)
  (hbody:∀ (A:Around) (outer:List Env) (s:Shared) (H:Hp) (vs:List V) (Q:VK) (E:XK),mB k (A.deeper (envOfC qual scope s.heap.objs.size f cdv))->sp vs H Q E ->
   ∃ t,MZ cq! body t/\t {nx:=λ_ H'=>Q .fK H',rt:=Q} fn! H) :
  aK P w K mg base CX (k+1) f (%bz name qual params body scope dV kV doc pm an cdv ct) ps sp:=by
 r! ⟨len,λA outer s H args us vs Q E hr e0 hb r hsp=>?_⟩;~hl:=len _ _ _ _ hsp;~KX:K.In s.heap:=e0.mod.Yu.keeps λb o e=>(e0.bs b o e).1
 ~lim:s.heap.NoLimit:=e0.mod.nolimit.keeps λb o e=>(e0.bs b o e).1
 ~hkind:∀ y∈ps.zip us,scope.names.lookup y.1=some .local∨(scope.names.lookup y.1=some .cell/\((cellsFrom aA! scope.names []).lookup y.1).isSome=true):=λ⟨n,v⟩ hy=>by
  rcases S.par n (List.of_mem_zip hy).1 with q | q
  ·e! .inl q
  ·e! .inr ⟨q,PySem.W.cellsFrom_some _ _ _ (.inl q)⟩
 r! codeAny_call_function hr.depth (KX _ _ lk) rfl S.co S.gen rfl (PySem.W.codeRec_of KX hcd) (hb _ _ _ _ ?_);r! wpAny_newFunctionEnv_cells S.kind hkind λenv he s1 x=>?_
 subst he;r! ⟨lim.keeps x.toInCall.keep,codeAny_func ?_⟩;o!⟨t,ht,hq⟩:=hbody A outer s H vs Q E (hr.deeper _) hsp;~I:Inv cq! [] fn! H s1:=Rr S hr.hd e0 hl r x;r! wpAny_mono (ht [] s1 fn! H _ I hq) (λfl s' hs=>?_) λe s' hs=>hs
 ~fin:∀ {σ':St} {H':Hp} {v:V} {u:Value},Inv cq! [] σ' H' s'->RelV v u->Q v H'->CE outer P w H s Q u s' :=
  λ{σ' H' v u} J rv q=>⟨v,H',J.os,J.bare,J.base,J.cx,rv,q⟩
 cases fl with
 | ret u =>
  o!⟨v,σ',H',J,rv,q⟩:=hs;e! fin J rv q
 | next =>
  o!⟨σ',H',J,q⟩:=hs;e! fin (v:=V.fK) (u:=%bT) J rfl q
 | brk =>
  o!⟨_,_,_,q⟩:=hs;e! %bf q
 | cont =>
  o!⟨_,_,_,q⟩:=hs;e! %bf q
end L2
namespace L2
open PySem PySem.Spec PyProof.Rows
section
variable {X:Cx} {x:Str} {p pos:Pos} {e:Expr} {es:List Expr} {t:TA} {id T:String} {r:List V->Hp->VK->Prop}
def YO(r:List V->Hp->VK->Prop)(t:TA):TE:=fun σ H Q=>t σ H λvs H1=>r vs H1 Q
t! aR(hc:sf X cw! r)(hg:Gl X x)(hm:X.mg x=none)(hv:bootBuiltins x=some cw!)(ha:PA X (e::es) t)(hn:x≠"__name__":=by decide)(hdb:aE!=false:=by decide)
  (he:starEach (e::es) X.env=a0!::starEach es X.env:=by rfl) (hpl:(backTo pos bH!).any (·.1)=false:=by rfl):PE X cP! (YO r t):=by
 intro pins s σ H Q I h;r! wpAny_Call_Name_kw (Hz I hg hm hv ?_ hn hdb);e! PyProof.Rows.callWith_builtin1 (fH b8! λus s1 ⟨vs,H1,I1,r1,q1⟩=>hc pins s1 σ H1 vs us Q I1 r1 q1) he hpl
t! gL(hc:sf X (.type T) r)(hg:Gl X x)(hm:X.mg x=none)(hv:bootBuiltins x=some (.type T))(ha:PA X (e::es) t)(hn:x≠"__name__":=by decide)(hdb:aE!=false:=by decide)
  (he:starEach (e::es) X.env=a0!::starEach es X.env:=by rfl) (hpl:(backTo pos bH!).any (·.1)=false:=by rfl):PE X cP! (YO r t):=by
 intro pins s σ H Q I h;r! wpAny_Call_Name_kw (Hz I hg hm hv ?_ hn hdb);e! PyProof.Rows.callWith_type1 (fH b8! λus s1 ⟨vs,H1,I1,r1,q1⟩=>hc pins s1 σ H1 vs us Q I1 r1 q1) he hpl
end
end L2
namespace HT
open PySem PyProof.Rows
section
open PySem.SeqAt
open PySem.AutoSeq1 (wpAny_loadPart')
open PySem.MeetsSeq PySem.MeetsSeq2 PySem.MeetsSeq3
end
section
variable {prog:Program} {w:World} {A:Around} {E:Value->Shared->Prop} {s:Shared}
def qT(n d:Nat):Option Int->Nat
 | none=>d
 | some v=>if v < 0 then (v+(n:Int)).toNat else min v.toNat n
t! Ng(n d:Nat):qT n d none=d:=rfl
t! t6(n d k:Nat):qT n d (some (k:Int))=min k n:=by
 show (if (k:Int) < 0 then ((k:Int)+(n:Int)).toNat else min (k:Int).toNat n)=min k n;rw[n! (by w!),Int.toNat_natCast]
t! To(n d:Nat)(hd:d<=n)(o:Option Int):qT n d o<=n:=by
 cases o with
 | none=>e! hd
 | some v =>
  show (if v < 0 then (v+(n:Int)).toNat else min v.toNat n)<=n;by_cases hv:v < 0
  ·rw[if_pos hv];w!
  ·rw[n! hv];e! %bY _ _
end
end HT
namespace L2
open PySem PySem.Spec PyProof.Rows
abbrev TO:=St->Hp->(Option Int->Hp->Prop)->Prop
def PO(X:Cx)(e:Option Expr)(t:TO):Prop :=
 ∀ (pins:List an!) (s:Shared) (σ:St) (H:Hp) (Q:Option Int->Hp->Prop),Inv X pins σ H s->t σ H Q ->
  wpAny af! X.A (evalPart e X.env) (λu s'=>∃ o H',Inv X pins σ H' s'/\IsPart u o/\Q o H') X.xe s
def Vw:TO:=λ_ H Q=>Q none H
def Tq(t:TE):TO:=fun σ H Q=>t σ H λx H1=>∃ i,x=.int i/\Q (some i) H1
section
variable {X:Cx} {e:Expr} {te:TE} {lo hi:Option Expr} {tl th:TO} {pos p2:Pos}
t! He:PO X none Vw:=by
 intro pins s σ H Q I h;rw[evalPart_none];e! wpAny_pure ⟨none,H,I,.none,h⟩
t! pd(h:PE X e te):PO X (some e) (Tq te):=by
 intro pins s σ H Q I hw;rw[evalPart_some];r! fH fS! λu s1 ⟨x,H1,I1,r1,q1⟩=>?_
 o!⟨i,rfl,q⟩:=q1;o!⟨t,rfl⟩:=r1;e! ⟨some i,H1,I1,.int i t,q⟩
def ZT(X:Cx)(r:V->Option Int->Option Int->Hp->VK->Prop):Prop :=
 ∀ (pins:List an!) (s:Shared) (σ:St) (H:Hp) (x:V) (v vl vu:Value) (lo hi:Option Int) (sl:Addr) (Q:VK),Inv X pins σ H s->RelV x v->s.heap.IsSliceOf sl vl vu .none->IsPart vl lo->IsPart vu hi->r x lo hi H Q ->
  ∃ T id,typeLookup (.type T) "__getitem__"=pure (some cw!)/\s.TypeIs v T/\wpAny af! X.A (getItem v (.ref sl)) bD! X.xe s
def tSl(r:V->Option Int->Option Int->Hp->VK->Prop)(te:TE)(tl th:TO):TE:=fun σ H Q=>te σ H λx H1=>tl σ H1 λl H2=>th σ H2 λu H3=>r x l u H3 Q
t! si{r:V->Option Int->Option Int->Hp->VK->Prop}(hr:ZT X r)(he:PE X e te)(hl:PO X lo tl)(hu:PO X hi th):PE X (.Subscript e (.Slice lo hi none p2) pos) (tSl r te tl th):=by
 intro pins s σ H Q I h;r! Subscript_ (fH bA! λv s1 ⟨x,H1,I1,r1,q1⟩=>?_);r! wpAny_Slice (fH (hl pins s1 σ H1 _ I1 q1) λvl s2 ⟨l,H2,I2,pl,q2⟩=>fH (hu pins s2 σ H2 _ I2 q2) λvu s3 ⟨u,H3,I3,pu,q3⟩=>?_);rw[evalPart_none];r! wpAny_pure ?_;~I4:Inv X pins σ H3 {s3 with heap:=s3.heap.push {cls:=.type "slice",data:=.fields #[vl,vu,.none]}}:=I3.kept (t':=s3.toks) λb ob q=>%ap _ q
 o!⟨T,id,hT,ht,hg⟩:=hr pins {s3 with heap:=s3.heap.push {cls:=.type "slice",data:=.fields #[vl,vu,.none]}} σ H3 x v vl vu l u s3.heap.objs.size Q I4 r1 (Heap.IsSliceOf.new ..) pl pu q3;show wpAny af! X.A (subscriptTail e (.Slice lo hi none p2) v (.ref s3.heap.objs.size)) bD! X.xe {s3 with heap:=s3.heap.push {cls:=.type "slice",data:=.fields #[vl,vu,.none]}};e! tail_any (ops:=[.ref s3.heap.objs.size,v]) ht hT hg (by with_unfolding_all rfl)
def JU(xs:List V)(lo hi:Option Int):List V:=(xs.drop (HT.qT xs.length 0 lo)).take (HT.qT xs.length xs.length hi - HT.qT xs.length 0 lo)
t! Nh(xs:List V)(lo hi:Option Int):(JU xs lo hi).length<=xs.length:=by
 unfold JU;rw[%aH,%aU];w!
end
end L2
namespace L2
open PySem PySem.Spec PyProof.Rows
def Yv(n:Nat)(i:Int):Option Nat:=if 0<=i then (if i < n then some i.toNat else none) else if -(n:Int)<=i then some (i+n).toNat else none
def Vx{α:Type}(xs:List α)(i:Int):Option α:=(Yv xs.length i).bind λj=>xs[j]?
t! Vy{n:Nat}{i:Int}{j:Nat}(h:Yv n i=some j):seqIndex? i n=some j/\j < n/\-(n:Int)<=i/\i < n:=by
 unfold Yv at h;by_cases h0:0<=i
 ·rw[if_pos h0] at h;by_cases h1:i < n
  ·rw[if_pos h1] at h;~e:i.toNat=j:=%aD h;e! ⟨by rw[seqIndex_of h0 h1,e],by w!,by w!,h1⟩
  ·rw[n! h1] at h;cases h
 ·rw[n! h0] at h;by_cases h1:-(n:Int)<=i
  ·rw[if_pos h1] at h;~e:(i+n).toNat=j:=%aD h;e! ⟨by rw[seqIndex_neg (by w!) h1,e],by w!,h1,by w!⟩
  ·rw[n! h1] at h;cases h
t! L6{α:Type}{xs:List α}{i:Int}{v:α}(h:Vx xs i=some v):∃ j,seqIndex? i xs.length=some j/\xs[j]?=some v/\j < xs.length/\-(xs.length:Int)<=i/\i < xs.length:=by
 unfold Vx at h;cases e:Yv xs.length i with
 | none=>rw[e] at h;cases h
 | some j =>
  rw[e] at h;o!⟨h1,h2,h3,h4⟩:=Vy e;e! ⟨j,h1,h,h2,h3,h4⟩
t! CS{α:Type}{xs:List α}{j:Nat}{v:α}(h:xs[j]?=some v):Vx xs (j:Int)=some v:=by
 ~hj:j < xs.length:=(%ae h).1;~e:Yv xs.length (j:Int)=some j:=by
  unfold Yv;rw[if_pos (by w!),if_pos (by w!)];simp
 unfold Vx;rw[e];e! h
def Vz(b:Expr):Prop:=∀ o i,subscripted b false o i=operate [o,i] (getItem o i)
def Zs(X:Cx)(r:R2):Prop :=
 ∀ (value slice:Expr) (pins:List an!) (s:Shared) (σ:St) (H:Hp) (x y:V) (v u:Value) (Q:VK),Inv X pins σ H s->RelV x v->RelV y u->r x y H Q ->
  subscripted slice false v u=operate [v,u] (getItem v u)->wpAny af! X.A (subscriptTail value slice v u) bD! X.xe s
def Tr(X:Cx)(id:String)(r:V->List V->Hp->VK->Prop):Prop :=
 ∀ (pins:List an!) (s:Shared) (σ:St) (H:Hp) (x:V) (xs:List V) (v:Value) (us:List Value) (Q:VK),Inv X pins σ H s->RelV x v->Vals xs us->r x xs H Q ->
  wpAny af! X.A (call cw! (v::us)) bD! X.xe s
section
variable {X:Cx} {a b:Expr} {ta tb:TE} {pos:Pos}
t! cG{r:R2}(hr:Zs X r)(ha:PE X a ta)(hb:PE X b tb)(hs:Vz b):PE X (.Subscript a b pos) (Vl r ta tb):=by
 intro pins s σ H Q I h;e! Subscript_ (Xo ha hb I h λv u s2 x y H2 I2 rx ry q=>hr a b pins s2 σ H2 x y v u Q I2 rx ry q (hs _ _))
def ZU(K:%ag):R2:=λx y H Q=>∃ p xs i v,x=.ref p/\y=.int i/\aX K H p xs/\Vx xs i=some v/\Q v H
def Xy(K:%ag):R2:=λx y H Q=>∃ p xs i v,x=.ref p/\y=.int i/\JQ K H p xs/\Vx xs i=some v/\Q v H
def ZV:R2:=λx y H Q=>∃ z i c,x=.str z/\y=.int i/\z.length<=sizeLine/\Vx z.cps.toList i=some c/\Q (.str ⟨#[c]⟩) H
t! aZ:Zs X (ZU X.K):=by
 intro value slice pins s σ H x y v u Q I rx ry h hs;o!⟨p,xs,i,z,rfl,rfl,hq,he,q⟩:=h;cases rx;o!⟨t,rfl⟩:=ry;o!⟨its,r,pl,hz⟩:=I.list hq;o!⟨j,h1,h2,h3,h4,h5⟩:=L6 he;o!⟨w,ew,rw'⟩:=r.get h2;~hl:=r.length;~hn:=DU;~fin:EP X pins σ Q w s:=⟨z,H,I,rw',q⟩;by_cases h0:0<=i
 ·~hj:i.toNat=j:=by
   rw[seqIndex_of h0 h5] at h1;e! %aD h1
  e! item_listR pl.isList h0 (by w!) (by rw[hj];simpa using ew) fin hs
 ·~hj:(i+(its.toArray.size:Int)).toNat=j:=by
   rw[seqIndex_neg (by w!) h4] at h1;rw[%aG,←hl];e! %aD h1
  e! subscriptTail_builtinR (x:=w) pl.isList.typeIs slot_list_getitem.lookup
   (wpAny_getItem_list_neg (Q:=λr s'=>r=w/\EP X pins σ Q r s') pl.isList (by w!) (by rw[List.size_toArray]<;>w!) (by w!) (by rw[hj];simpa using ew) ⟨rfl,fin⟩) hs
t! Ts:Zs X (Xy X.K):=by
 intro value slice pins s σ H x y v u Q I rx ry h hs;o!⟨p,xs,i,z,rfl,rfl,hq,he,q⟩:=h;cases rx;o!⟨t,rfl⟩:=ry;o!⟨its,r,pl,hz⟩:=I.tuple hq;o!⟨j,h1,h2,h3,h4,h5⟩:=L6 he;o!⟨w,ew,rw'⟩:=r.get h2;~hl:=r.length;~hn:=DU;~fin:EP X pins σ Q w s:=⟨z,H,I,rw',q⟩;e! subscriptTail_builtinR (x:=w) pl.typeIs slot_tuple_getitem.lookup
  (getItem_tuple (j:=j) (Q:=λr s'=>r=w/\EP X pins σ Q r s') pl (by w!) (by w!) (by rw[List.size_toArray,←hl];e! h1) (by simpa using ew) ⟨rfl,fin⟩) hs
t! Xz:Zs X ZV:=by
 intro value slice pins s σ H x y v u Q I rx ry h hs;o!⟨z,i,c,rfl,rfl,hz,he,q⟩:=h;o!⟨t,rfl⟩:=rx;o!⟨t',rfl⟩:=ry;o!⟨j,h1,h2,h3,h4,h5⟩:=L6 he;~hl:z.cps.toList.length=z.length:=by simp[Str.length]
 rw[hl] at h1 h4 h5;~hn:=DU;e! tail_any (typeIs_str s z t) slot_str_getitem.lookup (getItem_str (c:=c) (by
  ~e1:decide (i < -(2 ^ 63:Int))=false:=decide_eq_false (by w!);~e2:decide (i ≥ 2 ^ 63)=false:=decide_eq_false (by w!);rw[e1,e2,Bool.or_false]) (by rw[h1];simpa using h2) ⟨.str ⟨#[c]⟩,H,I.tok _,⟨_,rfl⟩,q⟩) hs
t! L7(lo hi:Option Int)(n:Nat):(sliceBounds lo hi none n).1=((HT.qT n 0 lo:Nat):Int)/\(sliceBounds lo hi none n).2.1=((HT.qT n n hi:Nat):Int)/\(sliceBounds lo hi none n).2.2=1:=by
 r! ⟨?_,?_,rfl⟩
 ·cases lo with
  | none=>simp[sliceBounds,HT.qT]
  | some i =>
   simp only[sliceBounds,HT.qT,Option.getD_none,show (1:Int) > 0 by decide,if_true];by_cases h:i < 0
   ·simp only[h,if_true]<;>w!
   ·simp only[h,if_false]<;>w!
 ·cases hi with
  | none=>simp[sliceBounds,HT.qT]
  | some i =>
   simp only[sliceBounds,HT.qT,Option.getD_none,show (1:Int) > 0 by decide,if_true];by_cases h:i < 0
   ·simp only[h,if_true]<;>w!
   ·simp only[h,if_false]<;>w!
t! JV(its:List Value)(lo hi:Option Int):slicePick its.toArray lo hi none=((its.drop (HT.qT its.length 0 lo)).take (HT.qT its.length its.length hi - HT.qT its.length 0 lo)).toArray:=by
 o!⟨h1,h2,h3⟩:=L7 lo hi its.toArray.size;unfold slicePick;rw[h1,h2,h3];simp only[sliceRange_one,pick_run,List.size_toArray]<;>rfl
def ZW(K:%ag):V->Option Int->Option Int->Hp->VK->Prop:=λx lo hi H Q=>∃ a xs,x=.ref a/\aX K H a xs/\∀ p,H p=none->Q (.ref p) (upd H p (.lst (JU xs lo hi)))
t! CT:ZT X (ZW X.K):=by
 intro pins s σ H x v vl vu lo hi sl Q I rx hs pl pu h;o!⟨a,xs,rfl,hx,q⟩:=h;cases rx;o!⟨its,r,ht,hz⟩:=I.list hx;~hlen:=r.length;r! ⟨"list",_,slot_list_getitem.lookup,ht.isList.typeIs,?_⟩;r! wpAny_getItem_list_slice ht.isList hs pl pu .none ai! ?_ (by rw[List.size_toArray]<;>w!);rw[JV,←hlen];r! ⟨.ref s.heap.objs.size,_,I.laid (t':=s.toks) (o:=.lst (JU xs lo hi)) (λb ob q=>%ap _ q) (%am _) ?_,rfl,q _ c1!⟩;e! ⟨%aj (Nh xs lo hi) hz,_,0,(r.drop (HT.qT xs.length 0 lo)).take (HT.qT xs.length xs.length hi - HT.qT xs.length 0 lo),%aA _ rfl⟩
def Fp:V->Bool
 | .fK=>true
 | .bl _=>true
 | .int _=>true
 | .str _=>true
 | _=>false
def WQ:V->V->Bool
 | .fK,.fK=>true
 | .bl a,.bl b=>a == b
 | .bl a,.int b=>(if a then 1 else 0) == b
 | .int a,.bl b=>a == (if b then 1 else 0)
 | .int a,.int b=>a == b
 | .str a,.str b=>a == b
 | _,_=>false
t! XA{A:Around}{s:Shared}{y x:V}{u v:Value}(ry:RelV y u)(rx:RelV x v)(fy:Fp y=true)(fx:Fp x=true):SeqAt.EqAt A s u v (WQ y x):=by
 cases y with
 | fK =>
  cases ry;cases x with
  | fK=>cases rx;e! SeqAt.EqAt.same _
  | bl b=>cases rx;e! SeqAt.EqAt.none_bool b
  | int b=>obtain ⟨t,rfl⟩:=rx;e! SeqAt.EqAt.none_int b t
  | str b=>obtain ⟨t,rfl⟩:=rx;e! SeqAt.EqAt.none_str b t
  | _=>e! absurd (show false=true from fx) %ao
 | bl a =>
  cases ry;cases x with
  | fK=>cases rx;e! SeqAt.EqAt.bool_none a
  | bl b=>cases rx;e! SeqAt.EqAt.bool_bool a b
  | int b=>obtain ⟨t,rfl⟩:=rx;e! SeqAt.EqAt.bool_int a b t
  | str b=>obtain ⟨t,rfl⟩:=rx;e! SeqAt.EqAt.bool_str a b t
  | _=>e! absurd (show false=true from fx) %ao
 | int a =>
  o!⟨t',rfl⟩:=ry;cases x with
  | fK=>cases rx;e! SeqAt.EqAt.int_none a t'
  | bl b=>cases rx;e! SeqAt.EqAt.int_bool a t' b
  | int b=>obtain ⟨t,rfl⟩:=rx;e! SeqAt.EqAt.int_int a t' b t
  | str b=>obtain ⟨t,rfl⟩:=rx;e! SeqAt.EqAt.int_str a t' b t
  | _=>e! absurd (show false=true from fx) %ao
 | str a =>
  o!⟨t',rfl⟩:=ry;cases x with
  | fK=>cases rx;e! SeqAt.EqAt.str_none a t'
  | bl b=>cases rx;e! SeqAt.EqAt.str_bool a t' b
  | int b=>obtain ⟨t,rfl⟩:=rx;e! SeqAt.EqAt.str_int a t' b t
  | str b=>obtain ⟨t,rfl⟩:=rx;e! SeqAt.EqAt.str_str a t' b t
  | _=>e! absurd (show false=true from fx) %ao
 | _=>e! absurd (show false=true from fy) %ao
def VB(x:V)(u:Value):Bool:=match u with
 | .none=>WQ .fK x
 | .bool b=>WQ (.bl b) x
 | .int i _=>WQ (.int i) x
 | .str z _=>WQ (.str z) x
 | _=>false
t! Tt{x y:V}{u:Value}(r:RelV y u)(f:Fp y=true):VB x u=WQ y x:=by
 cases y with
 | fK=>cases r;rfl
 | bl b=>cases r;rfl
 | int i=>obtain ⟨t,rfl⟩:=r;rfl
 | str z=>obtain ⟨t,rfl⟩:=r;rfl
 | _=>e! absurd (show false=true from f) %ao
t! L8{x:V}:∀ {xs:List V} {us:List Value},Vals xs us->xs.all Fp=true->us.any (VB x)=xs.any λy=>WQ y x
 | _,_,.nil,_=>rfl
 | y::xs,u::us,.cons r t,f=>by
  rw[List.all_cons,%bm] at f;rw[%cp,%cp,Tt r f.1,L8 t f.2]
t! HI{A:Around}{s:Shared}{x:V}{v:Value}(rx:RelV x v)(fx:Fp x=true):∀ {xs:List V} {us:List Value},Vals xs us->xs.all Fp=true->∀ u∈us,SeqAt.EqAt A s u v (VB x u)
 | _,_,.nil,_=>λu hu=>by cases hu
 | y::xs,u::us,.cons r t,f=>λu' hu=>by
  rw[List.all_cons,%bm] at f;rcases %ak hu with rfl | hu
  ·rw[Tt r f.1];e! XA r rx f.1 fx
  ·e! HI rx fx t f.2 u' hu
def YQ(x:V)(xs:List V):Bool:=xs.any λy=>WQ y x
def rIn(K:%ag)(neg:Bool):R2:=λx y H Q=>∃ p xs,y=.ref p/\(aX K H p xs∨JQ K H p xs)/\Fp x=true/\xs.all Fp=true/\Q (.bl (if neg then !YQ x xs else YQ x xs)) H
t! CU:M1 X (compareOp .NotIn) (rIn X.K true):=by
 intro pins s σ H x y v u Q I rx ry h;o!⟨p,xs,rfl,hq,fx,fs,q⟩:=h;cases ry;rcases hq with hq | hq
 ·o!⟨its,r,pl,hz⟩:=I.list hq;r! SeqAt.notIn_listAt (VB x) pl.isList (λw hw=>HI rx fx r fs w (by simpa using hw)) ⟨.bl _,H,I,rfl,?_⟩;rw[show its.toArray.any (VB x)=its.any (VB x) by simp,L8 r fs];e! q
 ·o!⟨its,r,pl,hz⟩:=I.tuple hq;r! SeqAt.notIn_tupleAt (VB x) pl (λw hw=>HI rx fx r fs w (by simpa using hw)) ⟨.bl _,H,I,rfl,?_⟩;rw[show its.toArray.any (VB x)=its.any (VB x) by simp,L8 r fs];e! q
t! aJ:sf X (.builtin "len") (λxs H Q=>∃ p ys,xs=[.ref p]/\(aX X.K H p ys∨JQ X.K H p ys)/\Q (.int ys.length) H):=by
 intro pins s σ H xs us Q I r h;o!⟨p,ys,rfl,hq,q⟩:=h;o!⟨u,rfl,rx⟩:=vals1 r;cases rx;~hn:=DU;rcases hq with hq | hq
 ·o!⟨its,r',pl,hz⟩:=I.list hq;~hlen:=r'.length;e! Calls.call_len_list pl.isList cl! ⟨.int ys.length,H,I.tok _,⟨s.toks+1,by rw[List.size_toArray,hlen]⟩,q⟩
 ·o!⟨its,r',pl,hz⟩:=I.tuple hq;~hlen:=r'.length;e! len_tuple pl cl! ⟨.int ys.length,H,I.tok _,⟨s.toks+1,by rw[List.size_toArray,hlen]⟩,q⟩
t! js:sf X (.builtin "len") (λxs H Q=>∃ z,xs=[.str z]/\z.length<=sizeLine/\Q (.int z.length) H):=by
 intro pins s σ H xs us Q I r h;o!⟨z,rfl,hz,q⟩:=h;o!⟨u,rfl,t,rfl⟩:=vals1 r;~hn:=DU;e! len_str (by w!) ⟨.int z.length,H,I.tok _,⟨_,rfl⟩,q⟩
t! L9:sf X (.type "list") (λxs H Q=>∃ p ys,xs=[.ref p]/\(aX X.K H p ys∨JQ X.K H p ys)/\∀ l,H l=none->Q (.ref l) (upd H l (.lst ys))):=by
 intro pins s σ H xs us Q I r h;o!⟨p,ys,rfl,hq,q⟩:=h;o!⟨u,rfl,rx⟩:=vals1 r;cases rx;~fin:∀ (its:List Value),Vals ys its->ys.length<=sizeLine->∀ (h':Heap) (c':Nat),(∀ b o',s.heap.get? b=some o'->h'.get? b=some o') ->
   h'.get? s.heap.objs.size=some {cls:=.type "list",dict:=none,data:=.seq its.toArray c',slots:=#[]}->EP X pins σ Q cC! {s with heap:=h'}:=λits r' hz h' c' kp e =>
  ⟨.ref s.heap.objs.size,_,I.laid (t':=s.toks) kp (%am _) (show eS X.prog X.w _ h' _ (.lst ys) from ⟨hz,its,c',r',e⟩),rfl,q _ c1!⟩
 rcases hq with hq | hq
 ·o!⟨its,r',pl,hz⟩:=I.list hq;~hlen:=r'.length;o!⟨o,ho,hc,n,hd⟩:=pl.isList;e! call_list_seq p aU! ho hc hd (λh' c' kp e=>fin its r' hz h' c' kp e) cl!
 ·o!⟨its,r',pl,hz⟩:=I.tuple hq;~hlen:=r'.length;o!⟨o,ho,hc,n,hd⟩:=pl;e! call_list_seq p dH! ho hc hd (λh' c' kp e=>fin its r' hz h' c' kp e) cl!
def ZX(K:%ag)(T:String)(x:V)(H:Hp):Prop:=match x with
 | .str _=>T="str"
 | .int _=>T="int"
 | .ref p=>(T="list"/\∃ xs,aX K H p xs)∨(T="tuple"/\∃ o,K.lookup p=some o/\o.cls=.type "tuple"/\o.dict=none) ∨
   (T="dict"/\((∃ kvs,H p=some aQ!)∨∃ kvs,H p=some en!))∨(T="set"/\∃ S n,H p=some (.set S n))
 | _=>False
t! Tu{pins:List an!}{σ:St}{H:Hp}{s:Shared}{T:String}{x:V}{v:Value}(I:Inv X pins σ H s)(r:RelV x v)(ty:ZX X.K T x H) :
  s.TypeIs v T/\∀ a,v=.ref a->∃ ob,s.heap.get? a=some ob/\ob.dict=none:=by
 cases x with
 | str z =>
  o!⟨t,rfl⟩:=r;cases (show T="str" from ty);e! ⟨typeIs_str s z t,λ_ e=>nomatch e⟩
 | int i =>
  o!⟨t,rfl⟩:=r;cases (show T="int" from ty);e! ⟨typeIs_int s i t,λ_ e=>nomatch e⟩
 | ref p =>
  cases r;rcases ty with ⟨rfl,xs,hq⟩ | ⟨rfl,o,hk,hc,hd⟩ | ⟨rfl,hk⟩ | ⟨rfl,S,n,hk⟩
  ·o!⟨its,_,pl,_⟩:=I.list hq;r! ⟨pl.isList.typeIs,λa e=>?_⟩;cases e;o!⟨o,n,e,c,hd,_⟩:=pl;e! ⟨o,e,hd⟩
  ·r! ⟨⟨o,I.Ai p o hk,hc⟩,λa e=>?_⟩;cases e;e! ⟨o,I.Ai _ o hk,hd⟩
  ·~z:∃ o,s.heap.get? p=some o/\o.ExactDict:=by
    rcases hk with ⟨kvs,hk⟩ | ⟨kvs,hk⟩
    ·o!⟨_,_,_,_,o,_,_,e,ex,_⟩:=I.cx p _ hk;e! ⟨o,e,ex⟩
    ·o!⟨_,_,_,_,o,_,_,e,ex,_⟩:=I.cx p _ hk;e! ⟨o,e,ex⟩
   o!⟨o,e,ex⟩:=z;r! ⟨⟨o,e,ex.1⟩,λa e2=>?_⟩;cases e2;e! ⟨o,e,ex.2.1⟩
  ·o!⟨o,_,_,_,e,ex,_⟩:=I.cx p _ hk;r! ⟨⟨o,e,ex.1⟩,λa e2=>?_⟩;cases e2;e! ⟨o,e,ex.2.1⟩
 | _=>e! %bf ty
def ZY(K:%ag)(T:String)(r:V->List V->Hp->VK->Prop)(to:TE):TE:=fun σ H Q=>to σ H λx H1=>ZX K T x H1/\r x [] H1 Q
def tBM(K:%ag)(T:String)(r:V->List V->Hp->VK->Prop)(to:TE)(t:TA):TE:=fun σ H Q=>to σ H λx H1=>ZX K T x H1/\t σ H1 λxs H2=>r x xs H2 Q
variable {o e:Expr} {es:List Expr} {to:TE} {t:TA} {name:Str} {apos cpos:Pos} {T id:String} {r:V->List V->Hp->VK->Prop}
t! uG(pa:PlainAttrs T)(slot:Slot T name id)(hty:typeOf cw!=pure dC!)(hm:Tr X id r)(ho:PE X o to)
  (hbase:attributeBase o name X.env eA!=eval o X.env:=by rfl) (hline:eV!=true:=by rfl):PE X (.Call d6! [] [] cpos) (ZY X.K T r to):=by
 intro pins s σ H Q I h;r! wpAny_Call_method0_late hbase hline (fH cd! λv s1 ⟨x,H1,I1,r1,ty,q1⟩=>?_);o!⟨h1,h2⟩:=Tu I1 r1 ty;e! ⟨T,id,pa,slot,hty,h1,h2,%bN rfl (PySem.evalArgs_none (hm pins s1 σ H1 x [] v [] Q I1 r1 .nil q1))⟩
t! hG(pa:PlainAttrs T)(slot:Slot T name id)(hty:typeOf cw!=pure dC!)(hm:Tr X id r)(ho:PE X o to)(ha:PA X (e::es) t)
  (hbase:attributeBase o name X.env eA!=eval o X.env:=by rfl)
  (hfew:((backTo cpos fo!).all (λx=>!x.1) && (backToKw cpos dj!).all (λx=>x.1.isSome)
   && decide ((e::es).length+([]:List Keyword).length+(if ([]:List Keyword).isEmpty then 0 else 1) < 30))=true:=by rfl)
  (hline:eV!=true:=by rfl) (hs:starEach (e::es) X.env=a0!::starEach es X.env:=by rfl) (hplain:(backTo cpos bH!).any (·.1)=false:=by rfl) :
  PE X (.Call d6! (e::es) [] cpos) (tBM X.K T r to t):=by
 intro pins s σ H Q I h;r! wpAny_Call_method_late hbase hfew hline rfl (fH cd! λv s1 ⟨x,H1,I1,r1,ty,q1⟩=>?_);o!⟨h1,h2⟩:=Tu I1 r1 ty;r! ⟨T,id,pa,slot,hty,h1,h2,?_⟩;~hA:=ha cpos pins s1 σ H1 _ I1 q1;rw[hs] at hA ⊢;r! %bN (by show (false || (backTo cpos bH!).any (·.1))=false;rw[hplain]<;>rfl) (Calls.evalArgs_plain ?_);e! fH hA λus s2 ⟨vs,H2,I2,r2,q2⟩=>hm pins s2 σ H2 x vs v us Q I2 r1 r2 q2
end
end L2
namespace L2
open PySem PySem.Spec PyProof.Rows
def Yw(X:Cx)(id:String)(r:V->List V->Hp->VK->Prop):Prop :=
 ∀ (pins:List an!) (s:Shared) (σ:St) (H:Hp) (x:V) (xs:List V) (v:Value) (us:List Value) (Q:VK),Inv X pins σ H s->RelV x v->Vals xs us->r x xs H Q ->
  wpAny af! X.A (call cw! (v::us)) bD! X.xe s
t! Vals.one:∀ {x:V} {us:List Value},Vals [x] us->∃ u,us=[u]/\RelV x u
 | _,_,.cons r .nil=>⟨_,rfl,r⟩
t! Vals.two:∀ {x y:V} {us:List Value},Vals [x,y] us->∃ u v,us=[u,v]/\RelV x u/\RelV y v
 | _,_,_,.cons r (.cons q .nil)=>⟨_,_,rfl,r,q⟩
t! Vals.zero:∀ {us:List Value},Vals [] us->us=[]
 | _,.nil=>rfl
t! Vals.dropLast{xs:List V}{us:List Value}(h:Vals xs us):Vals xs.dropLast us.dropLast:=by
 induction h with
 | nil=>e! .nil
 | cons r t ih =>
  cases t with
  | nil=>e! .nil
  | cons q t'=>e! .cons r ih
t! OJ{α:Type}(l:List α):l.eraseIdx (l.length - 1)=l.dropLast:=by
 induction l with
 | nil=>rfl
 | cons a r ih =>
  cases r with
  | nil=>rfl
  | cons b r =>
   ~e:(a::b::r).length - 1=((b::r).length - 1)+1:=by
    ~h1:(a::b::r).length=r.length+2:=rfl;~h2:(b::r).length=r.length+1:=rfl;w!
   rw[e,List.eraseIdx_cons_succ,ih]
   all_goals rfl
section
variable {X:Cx} {pins:List (Addr×Obj)} {σ:St} {H:Hp} {s:Shared} {l b:Addr} {xs ys zs:List V}
t! Inv.Tv{its its':List Value}{n:Nat}{f:Array Value->Array Value}{t':Nat}(I:Inv X pins σ H s)(hH:H l=some da!)
  (e:s.heap.get? l=some {cls:=.type "list",data:=.seq its.toArray n}) (hf:f its.toArray=its'.toArray) (hv:Vals ys its') (hz:ys.length<=sizeLine) :
  Inv X pins σ (upd H l (.lst ys)) {s with heap:=s.heap.update l (Obj.mapSeq f),toks:=t'}:=by
 ~q:=PySem.IsL.update e f;rw[hf] at q;r! I.write (x:=l) (e:=l) (by rw[hH];e! trivial) aU! (λb' u hb hu=>(%cK s.heap (Obj.mapSeq f) (Ne.symm hb)).trans hu) ⟨_,q⟩ ?_;e! ⟨hz,its',_,hv,q⟩
t! Inv.Z7{its:List Value}{t':Nat}(I:Inv X pins σ H s)(hv:Vals ys its)(hz:ys.length<=sizeLine) :
  Inv X pins σ (upd H s.heap.objs.size (.lst ys)) {s with heap:=s.heap.push {cls:=.type "list",data:=.seq its.toArray},toks:=t'} :=
 I.laid (λ_ _ q=>%ap _ q) (%am _) ⟨hz,its,0,hv,%aA _ rfl⟩
t! Inv.fresh(I:Inv X pins σ H s):H s.heap.objs.size=none:=I.cx.fresh (%am _)
t! Inv.Ni(I:Inv X pins σ H s)(hH:H l=some da!):xs.length<=sizeLine/\∃ (its:List Value) (n:Nat),Vals xs its/\xs.length=its.length/\s.heap.get? l=some {cls:=.type "list",data:=.seq its.toArray n}:=by
 o!⟨z,its,n,r,e⟩:=I.cx l _ hH;e! ⟨z,its,n,r,r.length,e⟩
t! Nj{n:Nat}(h:n<=sizeLine):%cb n=false:=by
 unfold Builtin.List.listTooLong;e! decide_eq_false (by w!)
end
section
variable {X:Cx}
def VC:V->List V->Hp->VK->Prop:=λx vs H Q=>∃ l xs y,x=.ref l/\vs=[y]/\H l=some da!/\xs.length < sizeLine/\Q .fK (upd H l (.lst (xs++[y])))
t! cM:Yw X "list.append" VC:=by
 intro pins s σ H x vs v us Q I rx rv h;o!⟨l,xs,y,rfl,rfl,hH,hz,q⟩:=h;cases rx;o!⟨u,rfl,ru⟩:=rv.one;o!⟨z,its,n,r,hl,e⟩:=I.Ni hH;r! call_meets F.slot_list_append ⟨_,e,rfl⟩ F.entry_list_append (F.args_list_append_2 _ _) (PySem.list_append l its.toArray n u gk!) ⟨e,?_⟩;r! ⟨.fK,_,I.Tv (its':=its++[u]) hH e ai! (r.append (.cons ru .nil)) ?_,rfl,q⟩;rw[%aq,%bQ];w!
def VD:V->List V->Hp->VK->Prop:=λx vs H Q=>∃ l b xs zs,x=.ref l/\vs=[.ref b]/\H l=some da!/\H b=some (.lst zs)/\xs.length+zs.length<=sizeLine/\Q .fK (upd H l (.lst (xs++zs)))
t! Aj:Yw X "list.extend" VD:=by
 intro pins s σ H x vs v us Q I rx rv h;o!⟨l,b,xs,zs,rfl,rfl,hH,hB,hz,q⟩:=h;cases rx;o!⟨u,rfl,ru⟩:=rv.one;cases ru;o!⟨z,its,n,r,hl,e⟩:=I.Ni hH;o!⟨z2,its2,n2,r2,hl2,e2⟩:=I.Ni hB;~hsz:its.toArray.size+its2.toArray.size<=sizeLine:=by rw[%aG,%aG];w!
 ~hlong:¬ (!its.toArray.isEmpty && %cb (its.toArray.size+its2.toArray.size))=true:=by
  rw[Nj hsz,Bool.and_false];e! %ao
 r! call_meets F.slot_list_extend ⟨_,e,rfl⟩ F.entry_list_extend (F.args_list_extend_2 _ _)
  (AutoSeq1.list_extend_list_list_0 l its.toArray n b its2.toArray n2 hlong gk! (by w!)) ⟨e,e2,?_⟩
 r! ⟨.fK,_,I.Tv (its':=its++its2) hH e ai! (r.append r2) ?_,rfl,q⟩;rw[%aq];w!
def Z8:V->List V->Hp->VK->Prop:=λx vs H Q=>∃ l xs y,x=.ref l/\vs=[]/\H l=some da!/\xs[xs.length - 1]?=some y/\Q y (upd H l (.lst xs.dropLast))
t! uH:Yw X "list.pop" Z8:=by
 intro pins s σ H x vs v us Q I rx rv h;o!⟨l,xs,y,rfl,rfl,hH,hy,q⟩:=h;cases rx;~hus:=rv.zero;subst hus;o!⟨z,its,n,r,hl,e⟩:=I.Ni hH;o!⟨u,hu,ru⟩:=r.get hy;~hy':its.toArray[its.toArray.size - 1]?=some u:=by
  show its.toArray[its.length - 1]?=some u;rw[←Array.getElem?_toList,←hl];e! hu
 r! call_meets F.slot_list_pop ⟨_,e,rfl⟩ F.entry_list_pop (F.args_list_pop_1 _) (MeetsSeq.list_pop_last l its.toArray n u hy' (by rw[%aG];w!)) ⟨e,?_⟩;r! ⟨y,_,I.Tv (its':=its.dropLast) hH e ?_ r.dropLast ?_,ru,q⟩
 ·show its.toArray.eraseIdxIfInBounds (its.toArray.size - 1)=its.dropLast.toArray;rw[%aG,List.eraseIdxIfInBounds_toArray,OJ]
 ·rw[List.length_dropLast];w!
def Z9:R2:=λx y H Q=>∃ l b xs zs,x=.ref l/\y=.ref b/\H l=some da!/\H b=some (.lst zs)/\xs.length+zs.length<=sizeLine/\∀ p,H p=none->Q (.ref p) (upd H p (.lst (xs++zs)))
t! HJ:M1 X (binaryOp .Add) Z9:=by
 intro pins s σ H x y v u Q I rx ry h;o!⟨l,b,xs,zs,rfl,rfl,hH,hB,hz,q⟩:=h;cases rx;cases ry;o!⟨z,its,n,r,hl,e⟩:=I.Ni hH;o!⟨z2,its2,n2,r2,hl2,e2⟩:=I.Ni hB;r! PySem.P.add_list e e2 ?_ (by rw[%aG,%aG];w!);~ea:its.toArray++its2.toArray=(its++its2).toArray:=by simp
 rw[ea];e! ⟨.ref _,_,I.Z7 (t':=s.toks) (r.append r2) (by rw[%aq];w!),rfl,q _ I.fresh⟩
end
section
variable {prog:Program} {w:World} {A:Around} {E:Value->Shared->Prop} {s:Shared}
set_option maxRecDepth 100000 in
end
section
variable {X:Cx}
end
end L2
namespace L2
open PySem PySem.Spec PyProof.Rows
t! Vals.ints:∀ {ns:List Int} {us:List Value},Vals (ns.map V.int) us->IntsAre us ns
 | [],us,h=>by
  rw[List.map_nil] at h;cases h;e! IntsAre.nil
 | n::ns,us,h=>by
  rw[%aM] at h;cases h with
  | cons r t =>
   o!⟨k,rfl⟩:=r;e! IntsAre.cons n k (Vals.ints t)
t! Vals.YR{a:Addr}{us:List Value}(r:Vals [V.ref a] us):us=[%aL a]:=by
 cases r with
 | cons r t =>
  cases t;cases r;rfl
section
variable {prog:Program} {w:World} {A:Around} {E:Value->Shared->Prop} {s:Shared} {l:Addr} {its:List Value} {ns:List Int} {Q:Value->Shared->Prop}
t! VE(hh:A.handled=none)(hl:s.heap.IsList l its.toArray)(hi:IntsAre its ns)
  (h:∀ h' tk t',(∀ b o,s.heap.get? b=some o->h'.get? b=some o)->Q (.int ns.sum t') {s with heap:=h',toks:=tk}):wpAny az! A (call (.builtin "sum") [.ref l]) Q E s:=by
 o!⟨xs,e⟩:=hi.allInts.items;~hn:numsOf (intItems xs).toList=ns:=by rw[←e];e! hi.numsOf
 rw[nums_intItems] at hn;rw[e] at hl;r! PySem.sum_intListG hh hl λh' tk t' hk=>?_
 have:=h h' tk t' hk;rw[preSum_eq,List.take_of_length_le ai!,hn];e! this
t! VF(hh:A.handled=none)(hl:s.heap.IsList l its.toArray)(hi:IntsAre its ns)(hne:0 < ns.length)
  (h:∀ h' tk M t',(∀ b o,s.heap.get? b=some o->h'.get? b=some o)->M∈ns->(∀ a,a∈ns->a<=M)->Q (.int M t') {s with heap:=h',toks:=tk}):wpAny az! A (call (.builtin "max") [.ref l]) Q E s:=by
 o!⟨xs,e⟩:=hi.allInts.items;~hn:numsOf (intItems xs).toList=ns:=by rw[←e];e! hi.numsOf
 rw[nums_intItems] at hn;subst hn;rw[e] at hl;~hsz:0 < xs.size:=by simpa using hne
 r! PySem.max_intList hh hl hsz λv h' tk hv hk=>?_
 o!⟨t,rfl⟩:=intItems_at hv;o!⟨h1,h2⟩:=argBest_gt (numAt xs) (xs.size - 1);r! h h' tk _ t hk ?_ λa ha=>?_
 ·rw[numAt_eq];e! PySem.getD_mem (by rw[%ac,%cr];w!)
 ·o!⟨j,hj,rfl⟩:=mem_getD ha;rw[%ac,%cr] at hj;rw[←numAt_eq];e! h2 j (by w!)
end
section
variable {X:Cx}
def za0(K:%ag):List V->Hp->VK->Prop:=λvs H Q=>∃ (a:Addr) (ns:List Int),vs=[V.ref a]/\aX K H a (ns.map V.int)/\Q (.int ns.sum) H
def za1(K:%ag):List V->Hp->VK->Prop:=λvs H Q=>∃ (a:Addr) (ns:List Int),vs=[V.ref a]/\aX K H a (ns.map V.int)/\0 < ns.length/\∀ m,m∈ns->(∀ y,y∈ns->y<=m)->Q (.int m) H
t! XB(hc:X.calm=true):sf X (.builtin "sum") (za0 X.K):=by
 intro pins s σ H vs us Q I r h;o!⟨a,ns,rfl,hs,q⟩:=h;o!⟨its,rv,hl,_⟩:=I.list hs;rw[Vals.YR r];e! VE b4! hl.isList rv.ints λh' tk t' hk=>⟨.int _,H,I.kept hk,⟨_,rfl⟩,q⟩
t! XC(hc:X.calm=true):sf X (.builtin "max") (za1 X.K):=by
 intro pins s σ H vs us Q I r h;o!⟨a,ns,rfl,hs,hne,q⟩:=h;o!⟨its,rv,hl,_⟩:=I.list hs;rw[Vals.YR r];e! VF b4! hl.isList rv.ints hne λh' tk m t' hk h1 h2=>⟨.int _,H,I.kept hk,⟨_,rfl⟩,q m h1 h2⟩
end
section
variable {X:Cx}
end
section
variable {X:Cx}
end
section
variable {X:Cx}
end
section
variable {X:Cx} {pins:List (Addr×Obj)} {σ:St} {H:Hp} {s:Shared}
end
section
variable {X:Cx}
end
end L2
namespace L2
open PySem PySem.Spec PyProof.Rows
abbrev Tw(h:Heap)(c:Addr)(v:Option Value):Prop:=h.IsCell c v
def za2(scope sc:Scope):Scope :=
 {scope with names:=scope.names.map λ(n,k)=>if (k == .free && sc.kind == .function && sc.names.lookup n == some .cell) then (n,.cell) else (n,k)}
def cH(cells:List aV!):List cv!->List aV!->List aV!
 | [],acc=>acc
 | (n,k)::r,acc=>if k == .free then cH cells r ((n,(cells.lookup n).getD 0)::acc) else cH cells r acc
t! CV(env:Env)(f:Str×NameKind->List aV!->Sem (ForInStep (List aV!)))
  (hf:∀ n k c,f (n,k) c=if k == .free then (do let a ←cellOf env n;pure (.yield ((n,a)::c))) else pure (.yield c)) :
  ∀ (names:List cv!) (acc:List aV!),(∀ y∈names,y.2=.free->∃ c,env.cells.lookup y.1=some c)->forIn names acc f=pure (cH env.cells names acc)
 | [],acc,_=>by rw[List.forIn_nil];rfl
 | (n,k)::r,acc,h=>by
  rw[List.forIn_cons,hf];~ih:=λacc=>CV env f hf r acc λy hy=>h y (%af _ hy)
  unfold cH;by_cases hk:(k == NameKind.free)=true
  ·rw[if_pos hk,if_pos hk];o!⟨c,hc⟩:=h (n,k) List.mem_cons_self (by simpa using hk);~e:cellOf env n=pure c:=by unfold cellOf;rw[hc]
   rw[e];~e2:(env.cells.lookup n).getD 0=c:=by rw[hc];rfl
   rw[e2];e! ih _
  ·rw[n! hk,n! hk];e! ih _
t! HK{scope:Scope}{env:Env}(h:∀ y∈scope.names,y.2=.free->∃ c,env.cells.lookup y.1=some c):closureFor scope env=pure (cH env.cells scope.names []):=by
 simp only[closureFor];rw[CV env _ (λn k c=>rfl) scope.names [] h];rfl
t! mem_lookup{α:Type}:∀ {l:List (Str×α)} {n:Str} {c:α},(n,c)∈l->∃ c',l.lookup n=some c'
 | (k,v)::r,n,c,h=>by
  rw[List.lookup_cons];cases hb:n == k with
  | true=>e! ⟨_,rfl⟩
  | false =>
   rcases %ak h with e | h
   ·cases e;simp at hb
   ·e! mem_lookup h
t! t7{cells:List aV!}:∀ {names:List cv!} {acc:List aV!} {n:Str} {c:Addr},(n,c)∈cH cells names acc->(n,c)∈acc∨((n,.free)∈names/\c=(cells.lookup n).getD 0)
 | [],_,_,_,h=>.inl h
 | (m,k)::r,acc,n,c,h=>by
  unfold cH at h;split at h
  ·rename_i hk
   ~hk:k=.free:=by simpa using hk
   rcases t7 h with h | ⟨h1,h2⟩
   ·rcases %ak h with e | h
    ·cases e;e! .inr ⟨hk ▸ %an,rfl⟩
    ·e! .inl h
   ·e! .inr ⟨%af _ h1,h2⟩
  ·rcases t7 h with h | ⟨h1,h2⟩
   ·e! .inl h
   ·e! .inr ⟨%af _ h1,h2⟩
t! yN{cells:List aV!}:∀ {names:List cv!} {acc:List aV!} {p:Str×Addr},p∈acc->p∈cH cells names acc
 | [],_,_,h=>h
 | (m,k)::r,acc,p,h=>by
  unfold cH;split
  ·e! yN (%af _ h)
  ·e! yN h
t! yO{cells:List aV!}:∀ {names:List cv!} {acc:List aV!} {n:Str},(n,.free)∈names->(n,(cells.lookup n).getD 0)∈cH cells names acc
 | (m,k)::r,acc,n,h=>by
  unfold cH;rcases %ak h with e | h
  ·cases e;e! yN %an
  ·split
   ·e! yO h
   ·e! yO h
t! vN:∀ {names:List cv!} {h:Heap} {acc:List aV!} {x:Str} {c:Addr},(x,c)∈cellsFrom h.objs.size names acc ->
  (x,c)∈acc∨((x,.cell)∈names/\h.objs.size<=c/\Tw (pushCells h names) c none)
 | [],_,_,_,_,h=>.inl h
 | (n,k)::r,h,acc,x,c,hm=>by
  unfold cellsFrom at hm;unfold pushCells;split at hm
  ·rename_i hk
   rw[if_pos hk];~hk:k=.cell:=by simpa using hk
   rw[←%bi h {cls:=.type "cell",data:=.cell none}] at hm;rcases vN hm with hm | ⟨h1,h2,h3⟩
   ·rcases %ak hm with e | hm
    ·cases e;e! .inr ⟨hk ▸ %an,%am _,_,pushCells_keeps r _ _ _ (%aA _ rfl),rfl⟩
    ·e! .inl hm
   ·rw[%bi] at h2;e! .inr ⟨%af _ h1,%cC h2,h3⟩
  ·rename_i hk
   rw[n! hk];rcases vN hm with hm | ⟨h1,h2,h3⟩
   ·e! .inl hm
   ·e! .inr ⟨%af _ h1,h2,h3⟩
t! Ak:∀ {names:List cv!} {n:Nat} {acc:List aV!} {p:Str×Addr},p∈acc->p∈cellsFrom n names acc
 | [],_,_,_,h=>h
 | (m,k)::r,n,acc,p,h=>by
  unfold cellsFrom;split
  ·e! Ak (%af _ h)
  ·e! Ak h
t! DX:∀ {names:List cv!} {n:Nat} {acc:List aV!} {x:Str},(x,.cell)∈names->∃ c,(x,c)∈cellsFrom n names acc
 | (m,k)::r,n,acc,x,h=>by
  unfold cellsFrom;rcases %ak h with e | h
  ·cases e;e! ⟨n,Ak %an⟩
  ·split
   ·e! DX h
   ·e! DX h
t! DY:∀ {names:List cv!} {h:Heap} {acc:List aV!} {x y:Str} {c:Addr},(∀ p∈acc,p.2 < h.objs.size)->(∀ x y c,(x,c)∈acc->(y,c)∈acc->x=y) ->
  (x,c)∈cellsFrom h.objs.size names acc->(y,c)∈cellsFrom h.objs.size names acc->x=y
 | [],_,_,_,_,_,_,hi,h1,h2=>hi _ _ _ h1 h2
 | (n,k)::r,h,acc,x,y,c,hl,hi,h1,h2=>by
  unfold cellsFrom at h1 h2;split at h1
  ·rename_i hk
   rw[if_pos hk] at h2;rw[←%bi h {cls:=.type "cell",data:=.cell none}] at h1 h2;r! DY (h:=h.push _) (λp hp=>?_) (λx y c a b=>?_) h1 h2
   ·rw[%bi];rcases %ak hp with rfl | hp
    ·e! %cG _
    ·e! %bU (hl p hp)
   ·rcases %ak a with e | a<;>rcases %ak b with e' | b
    ·cases e;cases e';rfl
    ·cases e;e! absurd (hl _ b) (%bJ _)
    ·cases e';e! absurd (hl _ a) (%bJ _)
    ·e! hi _ _ _ a b
  ·rename_i hk
   rw[n! hk] at h2;e! DY hl hi h1 h2
t! Fq{M:Model}{A:Around}{E:Value->Shared->Prop}{s:Shared}{scope:Scope}{globals:Addr}{closure:List aV!}{qual:Str}{func:Option Addr}{code:Value}{around:Env}{builtins:Addr}{Q:Env->Shared->Prop}
  (h:Q (newEnv scope s.heap.objs.size globals (cellsFrom aA! scope.names closure) qual func code (some around) builtins)
   {s with heap:=pushCells bI! scope.names}) :
  wpAny M A (newFunctionEnv scope globals closure [] qual func code (some around) builtins) Q E s:=by
 simp only[newFunctionEnv,Option.isSome_some,if_true];r! wpAny_bind (wpAny_alloc ?_);r! wpAny_bind (wpAny_layCells _ (λn k c=>rfl) scope.names closure _ _ ?_);rw[show ({s with heap:=s.heap.push {cls:=.type "dict",data:=.dict #[]}}:Shared).heap.objs.size=s.heap.objs.size+1 from Heap.size_push ..];rw[List.forIn_nil];e! wpAny_bind (wpAny_pure (wpAny_pure h))
t! yP{sc:Scope}:∀ {names:List cv!} {x:Str} {k:NameKind},
  (names.map λ(n,k)=>if (k == NameKind.free && sc.kind == .function && sc.names.lookup n == some .cell) then (n,NameKind.cell) else (n,k)).lookup x=some k ->
  ∃ k',names.lookup x=some k'/\(k=k'∨(k'=.free/\k=.cell))
 | [],_,_,h=>by simp at h
 | (n,k₀)::r,x,k,h=>by
  ~ih:=@yP sc r x k;~h':List.lookup x ((if bi!=true then (n,NameKind.cell) else (n,k₀))::(r.map _))=some k:=h;cases hx:x == n with
  | true =>
   simp only[List.lookup_cons,hx];by_cases hc:bi!=true
   ·rw[if_pos hc] at h';simp only[List.lookup_cons,hx] at h';cases h';simp only[Bool.and_eq_true,beq_iff_eq] at hc;e! ⟨k₀,rfl,.inr ⟨hc.1.1,rfl⟩⟩
   ·rw[n! hc] at h';simp only[List.lookup_cons,hx] at h';cases h';e! ⟨_,rfl,.inl rfl⟩
  | false =>
   simp only[List.lookup_cons,hx];by_cases hc:bi!=true
   ·rw[if_pos hc] at h';simp only[List.lookup_cons,hx] at h';e! ih h'
   ·rw[n! hc] at h';simp only[List.lookup_cons,hx] at h';e! ih h'
structure HL (N:List Str) (sc scope:Scope) (own:List (Str×Nat)):Prop where
 kind:scope.kind=.function
 uniq:∀ y∈scope.names,scope.names.lookup y.1=some y.2
 ix:∀ p∈own,N[p.2]?=some p.1
 free:∀ y∈scope.names,y.2=.free->sc.names.lookup y.1=some .cell∨sc.names.lookup y.1=some .free
 own:∀ y∈scope.names,y.2=.local∨y.2=.cell->y.1∈own.map (·.1)∨y.1∉N
def wipe(σ:St):List Nat->St
 | []=>σ
 | v::vs=>(wipe σ vs).set v none
t! t8(σ:St):∀ vs:List Nat,(wipe σ vs).length=σ.length
 | []=>rfl
 | v::vs=>by unfold wipe;rw[List.length_set,t8 σ vs]
t! Al{σ:St}{i:Nat}{x:V}:∀ {vs:List Nat},(wipe σ vs)[i]?=some (some x)->σ[i]?=some (some x)/\i∉vs
 | [],h=>⟨h,by simp⟩
 | v::vs,h=>by
  unfold wipe at h;by_cases hi:v=i
  ·subst hi;by_cases hv:v < (wipe σ vs).length
   ·rw[%cJ hv] at h;cases h
   ·rw[List.getElem?_eq_none (by simpa using hv)] at h;cases h
  ·rw[List.getElem?_set_ne hi] at h;o!⟨h1,h2⟩:=Al h;e! ⟨h1,by simp only[List.mem_cons,not_or];e! ⟨λe=>hi e.symm,h2⟩⟩
abbrev Cx.yI(X:Cx)(s:Shared)(H:Hp)(scope:Scope)(cenv:Env)(fp:List Addr):Cx:={X with CO:=s,SX:=H,env:=cenv,outer:=X.stack,ex:=fp,fn:=λx=>scope.names.lookup x == some .cell,pn:=[],xe:=λ_ _=>False}
section
variable {X:Cx} {pins:List (Addr×Obj)} {σ:St} {H:Hp} {s:Shared}
t! Fs{scope:Scope}{own:List fe!}{fp:List Addr}(I:Inv X pins σ H s)(ok:HL X.N X.env.scope scope own)(hN:X.N.Nodup)(hfp:∀ b∈fp,yH X pins H b/\b < s.heap.objs.size) :
  Inv (X.yI s H scope (compEnvC scope (cellsFrom aA! scope.names ep!) s.heap.objs.size X.env) fp) [] fM! H {s with heap:=pushCells bI! scope.names}:=by
 ~hfree:∀ y∈scope.names,y.2=.free->∃ c,X.env.cells.lookup y.1=some c:=λy hy e=>by
  rcases ok.free y hy e with k | k
  ·e! I.ok.has _ (.inl k)
  ·e! I.ok.has _ (.inr k)
 generalize hcenv:compEnvC scope (cellsFrom aA! scope.names ep!) s.heap.objs.size X.env=cenv;~kp:∀ b o,s.heap.get? b=some o->(pushCells bI! scope.names).get? b=some o:=λb o e=>pushCells_keeps _ _ _ _ (%ap _ e)
 ~hL:cenv.locals=s.heap.objs.size:=by rw[←hcenv];rfl
 ~hcl:cenv.cells=cellsFrom aA! scope.names ep!:=by rw[←hcenv];rfl
 ~hsc:cenv.scope=za2 scope X.env.scope:=by rw[←hcenv];rfl
 rw[←%bi s.heap {cls:=.type "dict",data:=.dict #[]}] at hcl;~cm:∀ {y c},(y,c)∈cH X.env.cells scope.names []->X.env.cells.lookup y=some c/\c < s.heap.objs.size:=λ{y c} hm=>by
  rcases t7 hm with hm | ⟨h1,rfl⟩
  ·cases hm
  ·o!⟨c,hc⟩:=hfree _ h1 rfl;rw[hc];o!⟨w,z⟩:=I.cell _ _ hc;e! ⟨rfl,z.lt⟩
 ~mem:∀ {y c},cenv.cells.lookup y=some c->(X.env.cells.lookup y=some c/\c < s.heap.objs.size)∨(s.heap.objs.size+1<=c/\Tw (pushCells bI! scope.names) c none):=λ{y c} e=>by
  rw[hcl] at e;rcases vN (%aK e) with hm | ⟨_,h2,h3⟩
  ·e! .inl (cm hm)
  ·rw[%bi] at h2;e! .inr ⟨h2,h3⟩
 ~look:∀ {y},scope.names.lookup y=some .free->∃ c,cenv.cells.lookup y=some c/\X.env.cells.lookup y=some c:=λ{y} hl=>by
  ~hy:(y,NameKind.free)∈scope.names:=%aK hl;o!⟨c',e'⟩:=mem_lookup (Ak (names:=scope.names) (n:=(s.heap.push {cls:=.type "dict",data:=.dict #[]}).objs.size) (yO (cells:=X.env.cells) (acc:=[]) hy));rw[←hcl] at e';r! ⟨c',e',?_⟩;rw[hcl] at e';rcases vN (%aK e') with hm | ⟨h1,_,_⟩
  ·e! (cm hm).1
  ·have:=ok.uniq _ h1;rw[hl] at this;cases this
 ~okB:(X.yI s H scope cenv fp).Ok:=by
  r! ⟨I.ok.mod,by show cenv.scope.kind=_;rw[hsc];e! ok.kind,by show cenv.globals=_;rw[←hcenv];e! I.ok.glob,by show cenv.builtins=_;rw[←hcenv];e! I.ok.blt,by show s.heap.objs.size<=cenv.locals;rw[hL];e! %am _,
   λy z c e1 e2=>?_,λy hy=>?_,λy c z e=>?_,I.ok.hd,I.ok.frames,.inl rfl,λb hb=>⟨?_,λy c e z=>?_⟩,I.bs,%aj I.ok.Ri I.sz,λb o e hb=>?_,λb hb z=>?_,I.stack,I.G9⟩
  ·~e1:cenv.cells.lookup y=some c:=e1;~e2:cenv.cells.lookup z=some c:=e2;rw[hcl] at e1 e2;r! DY (λp hp=>?_) (λy z c a b=>I.ok.inj y z c (cm a).1 (cm b).1) (%aK e1) (%aK e2);rw[%bi];e! %bU (cm (y:=p.1) (c:=p.2) hp).2
  ·show ∃ c,cenv.cells.lookup y=some c;~key:∀ k,cenv.kindOf y=some k->(k=.cell∨k=.free)->∃ c,cenv.cells.lookup y=some c:=λk hk hk'=>by
    unfold Env.kindOf at hk;rw[hsc] at hk;o!⟨k',e,r⟩:=yP hk;have:k'=.cell∨k'=.free:=by
     rcases r with rfl | ⟨rfl,_⟩
     ·e! hk'
     ·e! .inr rfl
    rcases this with rfl | rfl
    ·o!⟨c,hm⟩:=DX (n:=(s.heap.push {cls:=.type "dict",data:=.dict #[]}).objs.size) (acc:=cH X.env.cells scope.names []) (%aK e);o!⟨c',e'⟩:=mem_lookup hm;e! ⟨c',by rw[hcl];e! e'⟩
    ·o!⟨c,h1,_⟩:=look e;e! ⟨c,h1⟩
   rcases hy with hy | hy
   ·e! key _ hy aU!
   ·e! key _ hy dH!
  ·~z:(scope.names.lookup y == some NameKind.cell)=true:=z;~z:scope.names.lookup y=some .cell:=by simpa using z
   ~e:cenv.cells.lookup y=some c:=e;rw[hcl] at e;rcases vN (%aK e) with hm | ⟨_,h2,_⟩
   ·rcases t7 hm with hm | ⟨h1,_⟩
    ·cases hm
    ·~q:=ok.uniq _ h1;rw[z] at q;cases q
   ·rw[%bi] at h2;e! %cC h2
  ·show b≠cenv.locals;rw[hL];e! %aJ (hfp b hb).2
  ·~e:cenv.cells.lookup y=some c:=e;rcases mem e with ⟨h1,_⟩ | ⟨h1,_⟩
   ·e! (hfp b hb).1.2.2.2.2.1 y c h1 z
   ·~h2:s.heap.objs.size+1<=b:=by rw[←z];e! h1
    e! absurd (%aB (hfp b hb).2 (%cC h2)) (%bJ _)
  ·rcases (hfp b hb).1.2.2.2.1 with z | z
   ·e! I.ok.LW b o e z
   ·e! absurd (%aB (%av e) (%aj I.ok.Ri z)) (%bJ _)
  ·rcases %ak (I.DS b z) with z | z
   ·e! (hfp b hb).1.2.1 z
   ·e! (hfp b hb).1.2.2.1 z
 r! ⟨okB,rfl,I.bare,Un.kept kp,⟨λ_=>none,?_,λi y av e1 e2 e3=>?_⟩,λy c e=>?_,?_,λy c e=>?_,λp hp=>?_,I.cx.kept kp,by rw[t8];e! I.len⟩
 ·show Heap.Ns _ cenv.locals _;rw[hL];e! Heap.Ns.keeps (Heap.Ns.new ..) λb o e=>pushCells_keeps _ _ _ _ e
 ·o!⟨e2,hne⟩:=Al e2;~hfr:scope.names.lookup y=some .free/\(cenv.kindOf y=some .cell∨cenv.kindOf y=some .free):=by
   ~key:∀ k,cenv.scope.names.lookup y=some k->k=.local∨k=.cell∨k=.free->scope.names.lookup y=some .free/\(cenv.kindOf y=some .cell∨cenv.kindOf y=some .free):=λk hk hk'=>by
    ~hk0:=hk;rw[hsc] at hk;o!⟨k',e,r⟩:=yP hk;~no:¬ (k'=.local∨k'=.cell):=λhh=>by
     rcases ok.own _ (%aK e) hh with e' | e'
     ·o!⟨p,hp,hpy⟩:=%bH e';~e3:=ok.ix p hp;have:p.1=y:=hpy;rw[this] at e3;e! hne (List.mem_map.mpr ⟨p,hp,Hx hN e3 e1⟩)
     ·e! e' (%bg e1)
    rcases r with rfl | ⟨rfl,rfl⟩
    ·rcases hk' with rfl | rfl | rfl
     ·e! absurd aU! no
     ·e! absurd dH! no
     ·e! ⟨e,.inr hk0⟩
    ·e! ⟨e,.inl hk0⟩
   ~e3:YA cenv.scope y:=e3;rcases e3 with e3 | e3 | e3
   ·e! key _ e3 aU!
   ·e! key _ e3 (.inr aU!)
   ·e! key _ e3 (.inr dH!)
  o!⟨m,hn,hl⟩:=I.loc;~hvis:YA X.env.scope y:=(ok.free _ (%aK hfr.1) rfl).elim (λk=>.inr (.inl k)) (λk=>.inr (.inr k));o!⟨w,r,q⟩:=hl i y av e1 e2 hvis;r! ⟨w,r,.inr ⟨hfr.2,?_⟩⟩;o!⟨c,h1,h2⟩:=look hfr.1;rcases q with ⟨k,_⟩ | ⟨_,c',e',z⟩
  ·~k:X.env.scope.names.lookup y=some .local:=k;rcases ok.free _ (%aK hfr.1) rfl with k' | k'<;>rw[show X.env.scope.names.lookup y=_ from k'] at k<;>cases k
  ·rw[h2] at e';cases e';e! ⟨c,h1,z.keeps kp⟩
 ·~e:cenv.cells.lookup y=some c:=e;rcases mem e with ⟨h1,_⟩ | ⟨_,z⟩
  ·o!⟨w,z⟩:=I.cell y c h1;e! ⟨w,z.keeps kp⟩
  ·e! ⟨_,z⟩
 ·show H cenv.locals=none;rw[hL];e! I.cx.fresh (%am _)
 ·~e:cenv.cells.lookup y=some c:=e;rcases mem e with ⟨h1,_⟩ | ⟨h1,_⟩
  ·e! I.pH y c h1
  ·e! I.cx.fresh (%cC h1)
 ·e! absurd (show p∈([]:List an!)++[] from hp) ai!
t! Tx{E:Value->Shared->Prop}{D:Addr}{xs:List V}{y:V}{v:Value}{Q:Value->Shared->Prop}(I:Inv X pins σ H s)(hD:H D=some da!)(hz:xs.length < sizeLine)(r:RelV y v)
  (h:∀ s',Inv X pins σ (upd H D (.lst (xs++[y]))) s'->Q .none s'):wpAny af! X.A (call (.builtin "list.append") [.ref D,v]) Q E s:=by
 o!⟨hz',its,n,ri,e⟩:=I.cx D _ hD;~hl:=ri.length;r! append_at (hsz:=by rw[%aG];w!) e λh' sb ho'=>?_
 r! h {s with heap:=h'} (I.write (t':=s.toks) (by rw[hD];trivial) aU! (λb u hb q=>(sb.2 b hb).trans q) ⟨_,ho'⟩ ⟨by rw[%aq];e! hz,its++[v],n+1,ri.append (.cons r .nil),?_⟩);rw[ho'];simp
def XD(X:Cx)(ifs:List Expr)(t:TT):Prop :=
 ∀ (pins:List an!) (s:Shared) (σ:St) (H:Hp) (Q:Bool->Hp->Prop),Inv X pins σ H s->t σ H Q ->
  wpAny af! X.A (forIn ifs true λc r=>if r=true then do let ok ←isTrue c X.env (eval c X.env);pure (ForInStep.yield ok) else pure (ForInStep.yield r)) fZ! X.xe s
def HM:TT:=λ_ H Q=>Q true H
t! t9:XD X [] HM:=λ_ _ _ H _ I h=>wpAny_tests_nil ⟨H,I,h⟩
t! Ma{c:Expr}{t:TT}(h:PT X c t):XD X [c] t:=λpins s σ H Q I hw=>wpAny_tests_one fT!
end
t! HN{α:Type}{t:Sem α}{Q Q':α->Shared->Prop}{M:Model}{A:Around}{E:Value->Shared->Prop}{s:Shared}(h:wpAny M A t Q ez! s)(hQ:∀ a s,Q a s->Q' a s):wpAny M A t Q' E s:=wpAny_mono h hQ λ_ _ z=>%bf z
t! CW{prog:Program}{w:World}{A:Around}{R:Result->Shared->Prop}{s:Shared}{elt target iter:Expr}{ifs:List Expr}{scope:Scope}{pos:Pos}{it acc:Value}{env:Env}(I:Nat->Shared->Prop)
  (turn:∀ n s,I n s->wpAny az! A (pyNext it) (λr s₁=>match r with
   | none=>R (.ok .next) s₁
   | some v=>wpAny az! A (letOwnedTupleGo target it v) (λ_ s₁'=>wpAny az! A (assign target env v) (λ_ s₂ =>
     wpAny az! A (forIn ifs true λc r=>if r=true then do let ok ←isTrue c env (eval c env);pure (ForInStep.yield ok) else pure (ForInStep.yield r)) (λok s₃ =>
      if ok=true then wpAny az! A (eval elt env) (λx s₄ =>
       wpAny az! A (call (.builtin "list.append") [acc,x]) (λ_ s₅=>∃ m,m < n/\I m s₅) a6! s₄) a6! s₃
      else ∃ m,m < n/\I m s₃) a6! s₂) a6! s₁') a6! s₁) a6! s)
  (n:Nat) (h:I n s) :
  codeAny az! A (.compLoop (.ListComp elt [⟨target,iter,ifs,0⟩] scope pos) 0 it acc env) R s:=by
 r! codeAny_loop rfl I (λn s hI=>?_) n h;show wpAny _ A ((compTurn (.ListComp elt [⟨target,iter,ifs,0⟩] scope pos) 0 it acc env).onRaise (λx=>do noteFrame x env;theTreesLotGoes x)) _ _ s;r! wpAny_noted ?_;rw[compTurn_list];r! wpAny_bind (wpAny_standAt (wpAny_bind (wpAny_mono (turn n s hI) (λr s₁ h₁=>?_) λ_ _ h'=>h')));cases r with
 | none=>e! wpAny_pure h₁
 | some v =>
  r! wpAny_bind (wpAny_mono h₁ (λ_ s₁' h₁'=>?_) λ_ _ h'=>h');r! wpAny_bind (wpAny_mono h₁' (λ_ s₂ h₂=>wpAny_bind (wpAny_mono h₂ (λok s₃ h₃=>?_) λ_ _ h'=>h')) λ_ _ h'=>h');cases ok with
  | false=>e! wpAny_pure ⟨rfl,h₃⟩
  | true =>
   e! wpAny_bind (wpAny_bind (wpAny_mono h₃ (λx s₄ h₄=>wpAny_bind (wpAny_mono h₄ (λ_ s₅ h₅=>wpAny_pure (wpAny_pure ⟨rfl,h₅⟩)) λ_ _ h'=>h')) λ_ _ h'=>h'))
section
variable {X:Cx}
def XE(wi:TI)(g:TG)(tt:TT)(te:TE)(vs:List Nat):TE:=fun σ H Q=>wi σ H λJ H1=>∀ D,H1 D=none->∃ W:Nat->Nat->Hp->Prop,df!/\∀ i m H,W i m H ->
 (J.stop i H/\Q (.ref D) H)∨(J.go i H/\∃ Nx:Hp->Prop,bW!/\∀ x H',J.Tb i H x H'->g x eI! H' fun σ2 H2=>wipe σ2 vs=wipe σ vs/\tt σ2 H2 λb H3 =>
  if b=true then te σ2 H3 λy H4=>∃ acc,H4 D=some f5!/\acc.length < sizeLine/\Nx by! else Nx H3)
t! Qv{pins:List an!}{s:Shared}{σ:St}{H:Hp}{Q:VK}{elt tg iter:Expr}{ifs:List Expr}{scope:Scope}{own:List fe!}{pos pos':Pos}{wi:TI}{g:TG}{tt:TT}{te:TE}{use:Option et!}{Qf:Value->Shared->Prop}
  (hc:X.calm=true) (hN:X.N.Nodup) (I:Inv X pins σ H s) (hi:PI X tg iter wi) (ok:HL X.N X.env.scope scope own)
  (hg:∀ (s:Shared) (H:Hp) (C:Addr) (cl:List aV!) (fp:List Addr),PG am! tg g) (ht:∀ (s:Shared) (H:Hp) (C:Addr) (cl:List aV!) (fp:List Addr),XD am! ifs tt)
  (he:∀ (s:Shared) (H:Hp) (C:Addr) (cl:List aV!) (fp:List Addr),PE am! elt te) (hs:∀ x,foldedSetIterable iter X.env x=pure x)
  (h:XE wi g tt te bz! σ H Q)
  (hRR:∀ D C s' m H',Inv X pins σ H' s'->Q (.ref D) H'->s'.heap.Ns C m->yH X pins H' C->compPost af! X.A X.xe use Qf (.ref D) C (.ok .next) s') :
  wpAny af! X.A (comprehension av! scope X.env pos' (newList []) false fI! use) Qf X.xe s:=by
 ~hfree:∀ y∈scope.names,y.2=.free->∃ c,X.env.cells.lookup y.1=some c:=λy hy e=>by
  rcases ok.free y hy e with k | k
  ·e! I.ok.has _ (.inl k)
  ·e! I.ok.has _ (.inr k)
 r! wpAny_comprehension_free (use:=use) rfl hs (HK hfree) ok.kind (λy hy e=>by rw[ok.uniq y hy,e])
  (fH cK! λxv s1 hx=>fH hx λitv s2 h2=>?_)
 o!⟨it,fp,tn,J,H2,e,I2,T,st2,f2,q⟩:=h2;subst e;r! wpAny_newObj_type (Fq ?_) (by show 0<=sizeLine;decide);generalize hD:s2.heap.objs.size=D;~hDn:H2 D=none:=I2.cx.fresh fJ!;o!⟨W,⟨m0,w0⟩,turn⟩:=q D hDn;generalize hs3:({s2 with heap:=s2.heap.push {cls:=.type "list",data:=.seq ([]:List Value).toArray}}:Shared)=s3;~I3:Inv X pins σ b5! s3:=by
  rw[←hs3];r! I2.laid (t':=s2.toks) (λb o e=>%ap _ e) fJ! ⟨%aE _,[],0,.nil,?_⟩;rw[←hD];e! %aA _ rfl
 ~h3:s3.heap=s2.heap.push {cls:=.type "list",data:=.seq ([]:List Value).toArray}:=by rw[←hs3]
 ~sz:∀ b∈fp,b < s2.heap.objs.size:=λb hb=>by
  o!⟨o,e,_⟩:=T.obj _ _ st2 b hb;e! %av e
 ~f3:∀ b∈fp,yH X pins b5! b/\b < s3.heap.objs.size:=λb hb=>by
  ~hlt:=sz b hb;r! ⟨⟨?_,(f2 b hb).2⟩,by rw[h3,%bi];e! %bU hlt⟩;rw[ai (by rw[←hD];e! %aJ hlt)];e! (f2 b hb).1
 ~st3:tn 0 s3.heap:=T.keep _ _ _ st2 λb _ o e=>by rw[h3];e! %ap _ e
 ~I4:=Fs I3 ok hN f3;~pg:=hg s3 b5! s3.heap.objs.size aj! fp;~pt:=ht s3 b5! s3.heap.objs.size aj! fp;~pe:=he s3 b5! s3.heap.objs.size aj! fp;show codeAny _ _ (.compStart av! 0 dz! (.ref D) (compEnvC scope aj! s3.heap.objs.size X.env)) bg! {s3 with heap:=pushCells bF! scope.names};~nfp:∀ b∈fp,b5! b=none:=λb hb=>(f3 b hb).1.1
 generalize hce:compEnvC scope aj! s3.heap.objs.size X.env=ce at I4 pg pt pe ⊢;~cL:ce.locals=s3.heap.objs.size:=by subst hce;rfl
 generalize hH3:upd H2 D aL!=H3 at I3 I4 pg pt pe w0 nfp f3;generalize hs4:({s3 with heap:=pushCells bF! scope.names}:Shared)=s4 at I4 ⊢;~st4:tn 0 s4.heap:=T.keep _ _ _ st3 λb _ o e=>by rw[←hs4];e! pushCells_keeps _ _ _ _ (%ap _ e)
 ~stat:∀ {σ':St} {H':Hp} {s':Shared},Inv aI! [] σ' H' s'->bx!->∀ b∈fp,yH aI! [] H' b:=λ{σ' H' s'} I' hn b hb =>
  ⟨hn b hb,(I'.ok.Vk b hb).1,I'.ok.JT b hb,.inl hb,λx c e=>(I'.ok.Vk b hb).2 x c e,λp hp=>absurd (show p∈([]:List an!)++[] from hp) ai!⟩
 ~loop:codeAny af! X.A (.compLoop av! 0 dz! (.ref D) ce) bg! s4:=by
  r! CW (λn s'=>∃ i H',Inv aI! [] fM! H' s'/\tn i s'.heap/\bx!/\W i n H') ?_ m0 ⟨0,H3,I4,st4,nfp,w0⟩;rintro n s5 ⟨i,H5,I5,st5,n5,w5⟩;rcases turn i n H5 w5 with ⟨stop,qq⟩ | ⟨go,Nx,hNx,step⟩
  ·~td:=T.done aI! rfl rfl rfl hc i [] s5 _ H5 ez! I5 (stat I5 n5) st5 stop;r! HN td λr s6 ⟨hr,I6⟩=>?_
   subst hr;~I7:Inv X pins σ H5 s6:=I3.Kp (ch:=fp) I6.os I6.base I6.cx I6.bare λb hb=>⟨(f3 b hb).1.2.2.2.1,(f3 b hb).1.2.1,(f3 b hb).1.2.2.2.2.1,(f3 b hb).1.2.2.2.2.2⟩
   ~nC:H5 s3.heap.objs.size=none:=by
    ~z:H5 ce.locals=none:=I6.free;rw[cL] at z;e! z
   o!⟨m,hn,_⟩:=I6.loc;~hn:s6.heap.Ns ce.locals m:=hn;rw[cL] at hn;e! hRR D s3.heap.objs.size s6 m H5 I7 qq hn (I3.Tc (%am _) nC)
  ·~ti:=T.item aI! rfl rfl rfl hc i [] s5 _ H5 ez! I5 (stat I5 n5) st5 go;r! HN ti λr s6 ⟨u,hr,h6⟩=>?_
   subst hr;r! HN h6 λ_ s7 ⟨x,H7,I7,r7,y7,st7,n7⟩=>?_
   ~I7':=I7.pinned (stat I7 n7) (T.obj _ _ st7);r! HN (pg _ s7 _ H7 x u _ I7' r7 (step x H7 y7)) λ_ s8 ⟨σ8,H8,I8,hw8,q8⟩=>?_
   r! HN (pt _ s8 σ8 H8 _ I8 q8) λb s9 ⟨H9,I9,q9⟩=>?_
   ~fin:∀ {s':Shared} {H':Hp},Inv aI! ([]++DT fp s7.heap) σ8 H' s'->Nx H'->∃ m,m < n/\∃ i H',Inv aI! [] fM! H' s'/\tn i s'.heap/\bx!/\W i m H':=λ{s' H'} I' nx=>by
    o!⟨m',hm,w'⟩:=hNx H' nx;~pin':∀ b∈fp,∀ o,s7.heap.get? b=some o->s'.heap.get? b=some o/\H' b=none:=λb hb o e =>
     let z:=I'.pin (b,o) dT!
     ⟨z.1,z.2.1⟩
    ~hl:(wipe σ bz!).length=σ8.length:=by rw[←hw8,t8]
    r! ⟨m',hm,i+1,H',(I'.yL (pins:=[])).weak hl (λj v e=>?_),T.keep _ _ _ st7 λb hb o e=>(pin' b hb o e).1,λb hb=>?_,w'⟩
    ·rw[←hw8] at e;e! (Al e).1
    ·o!⟨o,e,_⟩:=T.obj _ _ st7 b hb;e! (pin' b hb o e).2
   cases b with
   | false =>
    simp only[Bool.false_eq_true,if_false] at q9 ⊢;e! fin I9 q9
   | true =>
    simp only[if_true] at q9 ⊢;r! HN (pe _ s9 σ8 H9 _ I9 q9) λz s10 ⟨yv,H10,I10,r10,acc,hD10,hz10,nx⟩=>?_
    e! Tx (X:=X.yI s3 H3 scope ce fp) I10 hD10 hz10 r10 λs11 I11=>fin I11 nx
 e! codeAny_compStart_list loop (T.self X.A 0 _ _ _ st4 loop)
t! HP{elt tg iter:Expr}{ifs:List Expr}{scope:Scope}{own:List fe!}{pos:Pos}{wi:TI}{g:TG}{tt:TT}{te:TE}(hc:X.calm=true)(hN:X.N.Nodup)(hi:PI X tg iter wi)(ok:HL X.N X.env.scope scope own)
  (hg:∀ (s:Shared) (H:Hp) (C:Addr) (cl:List aV!) (fp:List Addr),PG am! tg g) (ht:∀ (s:Shared) (H:Hp) (C:Addr) (cl:List aV!) (fp:List Addr),XD am! ifs tt)
  (he:∀ (s:Shared) (H:Hp) (C:Addr) (cl:List aV!) (fp:List Addr),PE am! elt te) (hs:∀ x,foldedSetIterable iter X.env x=pure x:=by intro _;rfl) :
  PE X av! (XE wi g tt te bz!):=by
 intro pins s σ H Q I h;rw[eval_ListComp];r! Qv hc hN I hi ok hg ht he hs h λD C s' m H' I' q hn f=>⟨m,hn,λh'' sb=>?_⟩
 o!⟨f0,f1,f2,f3,f4,f5⟩:=f;e! ⟨.ref D,H',I'.turned (t':=s'.toks) cQ! f0 f1 f3 f4 f5,rfl,q⟩
t! HQ{i:Nat}{y:Str}{py:Pos}{elt tg iter:Expr}{ifs:List Expr}{scope:Scope}{own:List fe!}{pos spos:Pos}{wi:TI}{g:TG}{tt:TT}{te:TE}(hc:X.calm=true)(hN:X.N.Nodup)(hy:X.N[i]?=some y)(hyl:X.env.scope.names.lookup y=some .local)
  (hsw:swapsWith av! (some (.Name y py)) spos.line X.env=pure true) (hi:PI X tg iter wi) (ok:HL X.N X.env.scope scope own)
  (hg:∀ (s:Shared) (H:Hp) (C:Addr) (cl:List aV!) (fp:List Addr),PG am! tg g) (ht:∀ (s:Shared) (H:Hp) (C:Addr) (cl:List aV!) (fp:List Addr),XD am! ifs tt)
  (he:∀ (s:Shared) (H:Hp) (C:Addr) (cl:List aV!) (fp:List Addr),PE am! elt te) (hs:∀ x,foldedSetIterable iter X.env x=pure x:=by intro _;rfl) :
  PS X (.Assign [.Name y py] av! spos) (YF (XE wi g tt te bz!) (nM i)):=by
 intro pins s σ H D I h;rw[exec_Assign_Name_used _ _ _ _ hsw];r! wpAny_bind (wpAny_standAt (wpAny_bind ?_));show wpAny _ X.A (do let _ ←comprehension av! scope X.env (firstIterPos [⟨tg,iter,ifs,0⟩] pos) (newList []) false fI! (some (assign (.Name y py) X.env))) _ _ s;~h:XE wi g tt te bz! σ H (λx H1=>nM i x σ H1 D.nx):=h;r! wpAny_bind (fH (Qv (Qf:=λ_ s'=>SP X pins D .next s') hc hN I hi ok hg ht he hs h λL C s' m H' I' q hn f=>?_) λ_ s' hq=>wpAny_pure (wpAny_pure hq));show wpAny _ _ (assign (.Name y py) X.env (.ref L)) _ _ _;r! wpAny_assign_Name (Ko (v:=V.ref L) I' hN hy (.inl hyl) rfl (λs2 I2 ⟨a,sb,ha⟩=>?_) (.inr hyl));o!⟨f0,f1,f2,f3,f4,f5⟩:=f;~haC:C≠a:=by
  rcases ha with z | z
  ·rw[z];e! f1
  ·e! λe=>f4 y a z e.symm
 r! ⟨m,hn.sameBut sb haC,λh3 sb3=>?_⟩;e! ⟨_,H',I2.turned (t':=s2.toks) (λb o hb e=>(sb3.2 b hb).trans e) f0 f1 f3 f4 f5,q⟩
t! Mb{elt:Expr}{gs:List Comprehension}{scope:Scope}{pos py:Pos}{y:Str}{l:Nat}{env:Env}(hk:env.scope.kind=.function)(hy:env.scope.names.lookup y=some .local)(hl:(py.line == pos.line)=true)
  (ha:(scope.names.any λ(n,k)=>n == y && (k == .local || k == .cell))=false):swapsWith (.ListComp elt gs scope pos) (some (.Name y py)) l env=pure true:=by
 ~ky:env.kindOf y=some .local:=hy;~hb:env.blockKind=.function:=by unfold Env.blockKind;rw[hk];rfl
 unfold swapsWith;simp only[hb,ky,ha,Expr.pos,hl];rfl
end
t! ra{K:%ag}{a:Addr}{xs:List V}{g:TG}{tt:TT}{te:TE}{vs:List Nat}{σ:St}{H1:Hp}{D:Addr}{Qd:Hp->Prop}(Pv:Nat->Hp->Prop)(h0:Pv 0 (upd H1 D aL!))(hl:∀ i H,i<=xs.length->Pv i H->aX K H a xs)
  (hs:∀ i x H,xs[i]?=some x->Pv i H->g x eI! H fun σ2 H2=>wipe σ2 vs=wipe σ vs/\tt σ2 H2 λb H3 =>
   if b=true then te σ2 H3 λy H4=>∃ acc,H4 D=some f5!/\acc.length < sizeLine/\Pv (i+1) by! else Pv (i+1) H3) (hd:∀ H,Pv xs.length H->Qd H) :
  ∃ W:Nat->Nat->Hp->Prop,df!/\∀ i m H,W i m H ->
   ((WJ K a).stop i H/\Qd H)∨((WJ K a).go i H/\∃ Nx:Hp->Prop,bW!/\∀ x H',(WJ K a).Tb i H x H'->g x eI! H' fun σ2 H2=>wipe σ2 vs=wipe σ vs/\tt σ2 H2 λb H3 =>
    if b=true then te σ2 H3 λy H4=>∃ acc,H4 D=some f5!/\acc.length < sizeLine/\Nx by! else Nx H3):=by
 r! ⟨λi m H=>m=xs.length - i/\i<=xs.length/\Pv i H,⟨xs.length,by simp,Nat.zero_le _,h0⟩,?_⟩;rintro i m H ⟨rfl,hi,p⟩;~q:=hl i H hi p;by_cases hlt:i < xs.length
 ·r! .inr ⟨⟨xs,xs[i],q,by simp[hlt]⟩,Pv (i+1),λH' p'=>⟨xs.length - (i+1),by w!,rfl,hlt,p'⟩,λx H' y=>?_⟩;o!⟨e,y⟩:=y;subst e;e! hs i x _ (y xs q) p
 ·~e:i=xs.length:=by w!
  subst e;e! .inl ⟨⟨xs,q,%am _⟩,hd H p⟩
def YS(N:List Str)(sc scope:Scope)(own:List fe!):Bool :=
 (match scope.kind with | .function=>true | _=>false) && (scope.names.all λy=>decide (scope.names.lookup y.1=some y.2)) && (own.all λp=>decide (N[p.2]?=some p.1)) &&
  (scope.names.all λy=>match y.2 with
   | .free=>(match sc.names.lookup y.1 with | some .cell=>true | some .free=>true | _=>false)
   | .local=>decide (y.1∈own.map (·.1)) || decide (y.1∉N)
   | .cell=>decide (y.1∈own.map (·.1)) || decide (y.1∉N)
   | _=>true)
t! i9{N:List Str}{sc scope:Scope}{own:List fe!}(h:YS N sc scope own=true):HL N sc scope own:=by
 unfold YS at h;simp only[Bool.and_eq_true,List.all_eq_true,decide_eq_true_eq] at h;o!⟨⟨⟨h1,h2⟩,h3⟩,h4⟩:=h;r! ⟨?_,h2,h3,λy hy e=>?_,λy hy e=>?_⟩
 ·split at h1
  ·assumption
  ·cases h1
 ·~q:=h4 y hy;simp only[e] at q;split at q<;>first | exact .inl (by assumption) | exact .inr (by assumption) | cases q
 ·~q:=h4 y hy;rcases e with e | e<;>(simp only[e,Bool.or_eq_true,decide_eq_true_eq] at q;e! q)
end L2
namespace L2
open PySem PySem.Spec PyProof.Rows
section
variable {prog:Program} {w:World} {A:Around} {R:Result->Shared->Prop} {s:Shared} {elt t0 i0 t1 i1:Expr} {ifs0 ifs1:List Expr} {scope:Scope} {pos:Pos} {it acc:Value} {env:Env}
end
section
variable {X:Cx}
end
end L2
namespace L2
open PySem PySem.Spec PyProof.Rows
section
variable {κ:Type} [DecidableEq κ]
def cA(kvs:List (κ×V))(k:κ):Option V:=(kvs.find? λkv=>decide (kv.1=k)).map (·.2)
def putK(kvs:List (κ×V))(k:κ)(v:V):List (κ×V) :=
 if cc!=true then kvs.map (λkv=>if kv.1=k then (kv.1,v) else kv) else kvs++[(k,v)]
t! fS{p:κ×V}{r:List (κ×V)}{k:κ}(e:p.1=k):cA (p::r) k=some p.2:=by simp[cA,List.find?_cons,e]
t! fT{p:κ×V}{r:List (κ×V)}{k:κ}(e:¬ p.1=k):cA (p::r) k=cA r k:=by simp[cA,List.find?_cons,e]
t! vO(k:κ):∀ kvs:List (κ×V),cc!=(cA kvs k).isSome
 | []=>rfl
 | p::r=>by
  rw[%cp];by_cases e:p.1=k
  ·simp only[fS e,decide_eq_true e,Bool.true_or,Option.isSome_some]
  ·rw[fT e,decide_eq_false e,Bool.false_or];e! vO k r
t! Nk(k j:κ)(y:V):∀ kvs:List (κ×V),cA cS! j=(cA kvs j).map λx=>if j=k then y else x
 | []=>rfl
 | p::r=>by
  ~ih:=Nk k j y r;rw[%aM];by_cases h:p.1=k
  ·rw[if_pos h];by_cases e:p.1=j
   ·rw[fS (p:=(p.1,y)) e,fS e,Option.map_some,if_pos (e.symm.trans h)]
   ·rw[fT (p:=(p.1,y)) e,fT e,ih]
  ·rw[n! h];by_cases e:p.1=j
   ·rw[fS (p:=p) e,fS e,Option.map_some,n! (λz=>h (e.trans z))]
   ·rw[fT (p:=p) e,fT e,ih]
t! Ky(k j:κ)(y:V):∀ kvs:List (κ×V),cA kvs k=none->cA (kvs++[(k,y)]) j=if j=k then some y else cA kvs j
 | [],_=>by
  by_cases e:k=j
  ·rw[if_pos e.symm];e! fS (p:=(k,y)) e
  ·rw[n! (λz=>e z.symm)];e! fT (p:=(k,y)) e
 | p::r,hn=>by
  rw[List.cons_append];~hk:¬ p.1=k:=λz=>by rw[fS z] at hn;cases hn
  rw[fT hk] at hn;~ih:=Ky k j y r hn;by_cases e:p.1=j
  ·rw[fS e,fS e,n! (λz=>hk (e.trans z))]
  ·rw[fT e,fT e,ih]
t! j1(kvs:List (κ×V))(k j:κ)(y:V):cA (putK kvs k y) j=if j=k then some y else cA kvs j:=by
 unfold putK;by_cases a:cc!=true
 ·rw[if_pos a,Nk];rw[vO] at a;by_cases e:j=k
  ·o!⟨x,hx⟩:=Option.isSome_iff_exists.mp a;rw[if_pos e,e,hx,Option.map_some,if_pos rfl]
  ·rw[n! e];cases cA kvs j with
   | none=>rfl
   | some x=>rw[Option.map_some,n! e]
 ·rw[n! a];r! Ky k j y kvs ?_;rw[vO] at a;cases q:cA kvs k with
  | none=>rfl
  | some x=>rw[q] at a;e! (a rfl).elim
t! cT(kvs:List (κ×V))(k:κ)(v:V):(putK kvs k v).length<=kvs.length+1:=by
 unfold putK;split
 ·rw[%ac];w!
 ·rw[%aq,%aV,List.length_nil];w!
t! Nl{kvs:List (κ×V)}{k:κ}(v:V)(h:cA kvs k=none):putK kvs k v=kvs++[(k,v)]:=by
 unfold putK;rw[vO,h];e! n! ag!
t! wI.rO{o:Option V}{u:Option Value}(r:wI o u):o.isSome=u.isSome:=by
 cases o with
 | none=>cases u with
  | none=>rfl
  | some _=>e! (show False from r).elim
 | some _=>cases u with
  | none=>e! (show False from r).elim
  | some _=>rfl
t! wI.getD{o:Option V}{u:Option Value}{d:V}{d':Value}(r:wI o u)(rd:RelV d d'):RelV (o.getD d) (u.getD d'):=by
 cases o with
 | none=>cases u with
  | none=>e! rd
  | some _=>e! (show False from r).elim
 | some _=>cases u with
  | none=>e! (show False from r).elim
  | some _=>e! r
t! KV.val{kvs:List (κ×V)}{vs:List eD!}(r:KV kvs vs)(k:κ):wI (cA kvs k) (valueAt vs k):=by
 unfold KV at r
 induction r with
 | nil=>e! %cA
 | @cons p q ps qs h t ih =>
  o!⟨h1,h2⟩:=h;by_cases e:p.1=k
  ·~e':q.1=k:=h1.symm.trans e;~b:valueAt (q::qs) k=some q.2:=by simp[valueAt,List.find?_cons,e']
   rw[fS e,b];e! h2
  ·~e':¬ q.1=k:=λz=>e (h1.trans z)
   ~b:valueAt (q::qs) k=valueAt qs k:=by simp[valueAt,List.find?_cons,e']
   rw[fT e,b];e! ih
t! KV.any{kvs:List (κ×V)}{vs:List eD!}(r:KV kvs vs)(k:κ):cc!=vs.any λkv=>decide (kv.1=k):=by
 unfold KV at r
 induction r with
 | nil=>rfl
 | cons h t ih=>rw[%cp,%cp,ih,h.1]
t! KV.XF{kvs:List (κ×V)}{vs:List eD!}(r:KV kvs vs)(k:κ){y:V}{u:Value}(ry:RelV y u) :
  KV cS! (vs.map λkv=>if kv.1=k then (kv.1,u) else kv):=by
 unfold KV at r ⊢
 induction r with
 | nil=>e! .nil
 | @cons p q ps qs h t ih =>
  rw[%aM,%aM];r! .cons ?_ ih;o!⟨h1,h2⟩:=h;by_cases e:p.1=k
  ·rw[if_pos e,if_pos (h1.symm.trans e)];e! ⟨h1,ry⟩
  ·rw[n! e,n! (λz=>e (h1.trans z))];e! ⟨h1,h2⟩
t! KV.put{kvs:List (κ×V)}{vs:List eD!}(r:KV kvs vs)(k:κ){y:V}{u:Value}(ry:RelV y u):KV (putK kvs k y) (stored vs k u):=by
 unfold putK stored;rw[r.any k];by_cases e:(vs.any λkv=>decide (kv.1=k))=true
 ·rw[if_pos e,if_pos e];e! r.XF k ry
 ·rw[n! e,n! e];e! Paired.snoc r ⟨rfl,ry⟩
t! KV.length{kvs:List (κ×V)}{vs:List eD!}(r:KV kvs vs):kvs.length=vs.length:=Paired.length r
end
t! A5{P:Program}{w:World}{k:Key}{u:Value}(r:RelV (kV k) u):(bN P w).is k u=true:=by
 cases k with
 | inl i=>obtain ⟨t,e⟩:=(show ∃ t,u=Value.int i t from r);subst e;e! M5 P w i t
 | inr x=>obtain ⟨t,e⟩:=(show ∃ t,u=Value.str x t from r);subst e;e! M6 P w x t
t! Kz{P:Program}{w:World}:∀ {ks:List Key} {us:List Value},Vals (ks.map kV) us->ItemsAre (bN P w) ks us
 | [],_,r=>by rw[List.map_nil] at r;cases r;e! .nil
 | k::ks,_,r=>by
  rw[%aM] at r;cases r with
  | cons h t=>e! .cons (A5 h) (Kz t)
abbrev KT(H:Hp):List cN!->List b3!->Prop:=Paired λp q=>p.1=q.1/\H q.2.1=some (.tup (p.1.map kV))/\RelV p.2 q.2.2
t! KT.val{H:Hp}{kvs:List cN!}{xs:List b3!}(r:KT H kvs xs)(k:List Key):wI (cA kvs k) ((atKey xs k).map (·.2)):=by
 induction r with
 | nil=>e! %cA
 | @cons p q ps qs h t ih =>
  o!⟨h1,_,h2⟩:=h;by_cases e:p.1=k
  ·~e':q.1=k:=h1.symm.trans e;~b:atKey (q::qs) k=some q.2:=by simp[atKey,List.find?_cons,e']
   rw[fS e,b];e! h2
  ·~e':¬ q.1=k:=λz=>e (h1.trans z)
   ~b:atKey (q::qs) k=atKey qs k:=by simp[atKey,List.find?_cons,e']
   rw[fT e,b];e! ih
t! KT.XF{H:Hp}{kvs:List cN!}{xs:List b3!}(r:KT H kvs xs)(k:List Key){y:V}{u:Value}(ry:RelV y u) :
  KT H cS! (xs.map (putAt k u)):=by
 induction r with
 | nil=>e! .nil
 | @cons p q ps qs h t ih =>
  rw[%aM,%aM];r! .cons ?_ ih;o!⟨h1,h2,h3⟩:=h;unfold putAt;by_cases e:p.1=k
  ·rw[if_pos e,if_pos (h1.symm.trans e)];e! ⟨h1,h2,ry⟩
  ·rw[n! e,n! (λz=>e (h1.trans z))];e! ⟨h1,h2,h3⟩
t! KT.put{H:Hp}{kvs:List cN!}{xs:List b3!}(r:KT H kvs xs)(k:List Key){b:Addr}{y:V}{u:Value}(hb:H b=some ev!)(ry:RelV y u) :
  KT H (putK kvs k y) (storedH xs k b u):=by
 ~e:cc!=(atKey xs k).isSome:=by
  rw[vO,(r.val k).rO,Option.isSome_map]
 unfold putK storedH;rw[e];by_cases q:(atKey xs k).isSome=true
 ·rw[if_pos q,if_pos q];e! r.XF k ry
 ·rw[n! q,n! q];e! Paired.snoc r ⟨rfl,hb,ry⟩
t! KT.keeps{H H':Hp}{kvs:List cN!}{xs:List b3!}(r:KT H kvs xs)(ht:∀ b ys,H b=some (.tup ys)->H' b=some (.tup ys)):KT H' kvs xs :=
 Paired.Xe r λ_ _ z=>⟨z.1,ht _ _ z.2.1,z.2.2⟩
section
variable {P:Program} {w:World} {H:Hp} {h:Heap} {a:Addr}
t! WR{u:HO}(ok:yc P w H h)(e:Rd H a u):eS P w H h a u:=e.ok ok
t! Ft{kvs:List (Key×V)}(ok:yc P w H h)(e:Rd H a aQ!):kvs.length<=sizeLine/\ci!=false/\∃ vs,KV kvs vs/\h.DictOf (bN P w) a vs :=
 show eS P w H h a aQ! from WR ok e
t! Qw{kvs:List (Key×V)}(ok:yc P w H h)(e:H a=some aQ!):kvs.length<=sizeLine/\ci!=false/\∃ vs,KV kvs vs/\h.DictOf (bN P w) a vs:=Ft ok (.inl e)
t! DZ{ks:List Key}(ok:yc P w H h)(e:H a=some (.tup (ks.map kV))):(tupleKind (bN P w)).is h ks a:=by
 o!⟨_,its,r,o,h1,h2,n,h3⟩:=(show eS P w H h a (.tup (ks.map kV)) from ok a _ e);e! ⟨o,its.toArray,n,h1,h2,h3,by simpa using Kz r⟩
t! HR{kvs:List cN!}(ok:yc P w H h)(e:Rd H a en!):kvs.length<=sizeLine/\ci!=false /\
  ∃ xs,KT H kvs xs/\h.DictOfH gq! a xs:=by
 o!⟨z,y,xs,r,o,es,ep,h1,h2,h3,h4,h5⟩:=(show eS P w H h a en! from WR ok e);r! ⟨z,y,xs,r,o,es,ep,h1,h2,h3,h4,λx hx=>?_,h5⟩;~all:∀ {l:List cN!} {m:List b3!},KT H l m->∀ x∈m,(tupleKind (bN P w)).is h x.1 x.2.1:=by
  intro l m q
  induction q with
  | nil=>intro x hx;e! nomatch hx
  | @cons p q ps qs hq t ih =>
   intro x hx;rcases %ak hx with e | hx
   ·subst e;e! DZ ok (by rw[←hq.1];e! hq.2.1)
   ·e! ih x hx
 e! all r x hx
t! YT{kvs:List cN!}(ok:yc P w H h)(e:H a=some en!):kvs.length<=sizeLine/\ci!=false /\
  ∃ xs,KT H kvs xs/\h.DictOfH gq! a xs:=HR ok (.inl e)
end
def nP(H:Hp)(a:Addr)(y:V)(r:Option V):Prop :=
 (∃ kvs k,Rd H a aQ!/\y=kV k/\r=cA kvs k)∨∃ kvs k b,Rd H a en!/\y=.ref b/\H b=some ev!/\r=cA kvs k
def AW(H:Hp)(a:Addr)(y v:V)(H':Hp):Prop :=
 (∃ kvs k,H a=some aQ!/\y=kV k/\kvs.length < sizeLine/\H'=upd H a (.dK (putK kvs k v))) ∨
 ∃ kvs k b,H a=some en!/\y=.ref b/\H b=some ev!/\kvs.length < sizeLine/\H'=upd H a (.dT (putK kvs k v))
t! nP.k{H:Hp}{a:Addr}{kvs:List (Key×V)}{k:Key}(e:H a=some aQ!):nP H a (kV k) (cA kvs k):=.inl ⟨kvs,k,.inl e,rfl,rfl⟩
t! AW.k{H:Hp}{a:Addr}{kvs:List (Key×V)}{k:Key}{v:V}(e:H a=some aQ!)(hl:kvs.length < sizeLine):AW H a (kV k) v (upd H a (.dK (putK kvs k v))):=.inl ⟨kvs,k,e,rfl,hl,rfl⟩
section
variable {X:Cx} {pins:List (Addr×Obj)} {σ:St} {H:Hp} {s:Shared} {a:Addr} {y v:V} {u r:Value} {o:Option V} {A:Around} {E:Value->Shared->Prop}
t! Inv.big(I:Inv X pins σ H s):sysModules < s.heap.objs.size:=by
 ~h:mainGlobals < s.heap.objs.size:=(I.mod.glob.keeps I.bk).lt;e! Nat.lt_trans ag! h
t! Ru{Q:Value->Shared->Prop}(hu:A.units+1 < cLine)(I:Inv X pins σ H s)(g:nP H a y (some v))(ry:RelV y u)(h:∀ w' s',Inv X pins σ H s'->RelV v w'->Q w' s') :
  wpAny af! A (getItem (.ref a) u) Q E s:=by
 rcases g with ⟨kvs,k,e,ey,l⟩ | ⟨kvs,k,b,e,ey,eb,l⟩
 ·subst ey;o!⟨z,hd,vs,rel,dd⟩:=Ft I.cx e;o!⟨w',hw,rw'⟩:=wI.some_of (v:=v) (o:=valueAt vs k) (by rw[l];e! rel.val k);e! wpAny_getItem_of (A5 ry) dd.mapOf hw (h w' _ fC! rw')
 ·subst ey;cases (show u=%aL b from ry);o!⟨z,hd,xs,rel,dd⟩:=HR I.cx e;o!⟨w',hw,rw'⟩:=wI.some_of (v:=v) (o:=(atKey xs k).map (·.2)) (by rw[l];e! rel.val k);o!⟨p,hp,hp2⟩:=%ab hw;r! wpAny_getItem_heap eb! (DZ I.cx eb) dd hp ?_;rw[hp2];e! h w' _ fC! rw'
t! za3{Q:Value->Shared->Prop}(hu:A.units+1 < cLine)(I:Inv X pins σ H s)(g:nP H a y o)(ry:RelV y u)(h:∀ s',Inv X pins σ H s'->Q (.bool o.isSome) s') :
  wpAny af! A (compareOp .In u (.ref a)) Q E s:=by
 rcases g with ⟨kvs,k,e,ey,l⟩ | ⟨kvs,k,b,e,ey,eb,l⟩
 ·subst ey;o!⟨z,hd,vs,rel,dd⟩:=Ft I.cx e;r! wpAny_in_of (A5 ry) hd dd.mapOf ?_;rw[←(rel.val k).rO,←l];e! h _ fC!
 ·subst ey;cases (show u=%aL b from ry);o!⟨z,hd,xs,rel,dd⟩:=HR I.cx e;r! wpAny_in_heap eb! (DZ I.cx eb) hd dd ?_;~q:=(rel.val k).rO;rw[Option.isSome_map] at q;rw[←q,←l];e! h _ fC!
t! VG{Q:Value->Shared->Prop}(hu:A.units+1 < cLine)(I:Inv X pins σ H s)(g:nP H a y o)(ry:RelV y u)(h:∀ s',Inv X pins σ H s'->Q (.bool (!o.isSome)) s') :
  wpAny af! A (compareOp .NotIn u (.ref a)) Q E s:=by
 rcases g with ⟨kvs,k,e,ey,l⟩ | ⟨kvs,k,b,e,ey,eb,l⟩
 ·subst ey;o!⟨z,hd,vs,rel,dd⟩:=Ft I.cx e;r! wpAny_notIn_of (A5 ry) hd dd.mapOf ?_;rw[←(rel.val k).rO,←l];e! h _ fC!
 ·subst ey;cases (show u=%aL b from ry);o!⟨z,hd,xs,rel,dd⟩:=HR I.cx e;r! wpAny_notIn_heap eb! (DZ I.cx eb) hd dd ?_;~q:=(rel.val k).rO;rw[Option.isSome_map] at q;rw[←q,←l];e! h _ fC!
t! Hf{h':Heap}{t':Nat}{ob:HO}(I:Inv X pins σ H s)(mu:WD (H a))(hs:%cv a s.heap h')(he:∃ q,h'.get? a=some q)(new:eS X.prog X.w (upd H a ob) h' a ob) :
  Inv X pins σ (upd H a ob) {s with heap:=h',toks:=t'} :=
 I.write (x:=a) (e:=a) mu aU! (λb q hb z=>(hs.2 b hb).trans z) he new
t! Md{P:Program}{w:World}{H':Hp}{h':Heap}{kvs:List (Key×V)}{vs:List fA!}(z:kvs.length<=sizeLine)(hd:ci!=false)(rel:KV kvs vs)(dd:h'.DictOf (bN P w) a vs) :
  eS P w H' h' a aQ!:=⟨z,hd,vs,rel,dd⟩
t! Rv{H':Hp}{Q:Unit->Shared->Prop}(hu:A.units+1 < cLine)(I:Inv X pins σ H s)(g:AW H a y v H')(ry:RelV y u)(rv:RelV v r)(h:∀ s',Inv X pins σ H' s'->Q () s') :
  wpAny af! A (setItem (.ref a) u r) Q E s:=by
 rcases g with ⟨kvs,k,e,ey,l,eH⟩ | ⟨kvs,k,b,e,ey,eb,l,eH⟩
 ·subst ey eH;o!⟨z,hd,vs,rel,dd⟩:=Qw I.cx e;~hz:vs.length<=sizeLine:=by rw[←rel.length];e! z
  ~hl:(putK kvs k v).length<=sizeLine:=by have:=cT kvs k v;w!
  r! wpAny_setItem_pairs (hsz:=hz) (A5 ry) dd λh' dd' hs=>h _ ?_
  ~he:∃ q,h'.get? a=some q:=let ⟨q,_,_,hq,_⟩:=dd';⟨q,hq⟩
  e! Hf I d0! hs he (Md hl hd (rel.put k rv) dd')
 ·subst ey eH;cases (show u=%aL b from ry);o!⟨z,hd,xs,rel,dd⟩:=YT I.cx e;~hz:xs.length<=sizeLine:=by rw[←Paired.length rel];e! z
  ~hl:(putK kvs k v).length<=sizeLine:=by have:=cT kvs k v;w!
  r! wpAny_setItem_heap (hsz:=hz) eb! (DZ I.cx eb) dd λh' dd' hs=>h _ ?_
  o!⟨q,es,ep,hq,h2,h3,h4,_,h5⟩:=dd';r! Hf I d0! hs ⟨q,hq⟩ ⟨hl,hd,_,(rel.put k eb rv).keeps λc ys ec=>?_,q,es,ep,hq,h2,h3,h4,h5⟩;rw[ai (SV ec e bK!)];e! ec
end
section
variable {X:Cx} {pins:List (Addr×Obj)} {σ:St} {H:Hp} {s:Shared} {a:Addr} {kvs:List (Key×V)} {k:Key} {u:Value} {A:Around} {E:Value->Shared->Prop}
end
def XG(i:Expr):Prop:=∀ ov iv,subscripted i false ov iv=operate [ov,iv] (getItem ov iv)
t! Qx{prog:Program}{w:World}{A:Around}{E:Value->Shared->Prop}{s:Shared}{env:Env}{value slice:Expr}{pos:Pos}{T id:String}{Q:Value->Shared->Prop}
  (hl:typeLookup (.type T) "__getitem__"=pure (some cw!)) (hs:XG slice)
  (h:wpAny az! A (eval value env) (λo s₁=>wpAny az! A (eval slice env) (λi s₂=>s₂.TypeIs o T/\wpAny az! A (getItem o i) Q E s₂) E s₁) E s) :
  wpAny az! A (eval (.Subscript value slice pos) env) Q E s:=by
 r! Subscript_ (wpAny_mono h (λo s₁ h₁=>wpAny_mono h₁ (λi s₂ h₂=>?_) λ_ _ x=>x) λ_ _ x=>x);o!⟨hT,h₂⟩:=h₂;unfold subscriptTail;r! wpAny_bind ?_;rw[getitemInPython_of_ne hT.not_modules];r! wpAny_bind (wpAny_specialOf hT hl ?_);~fin:wpAny az! A (subscripted slice false o i) (λr s₃=>wpAny az! A (letTemporaryGo value o r >>= λ_=>pure r) Q E s₃) E s₂:=by
  rw[hs o i];e! wpAny_operating (wpAny_mono h₂ (λr s₃ h₃=>wpAny_bind (wpAny_letTemporaryGo (wpAny_pure h₃))) λ_ _ x=>x)
 first
  | exact wpAny_pure (wpAny_bind fin)
  | exact wpAny_bind (wpAny_pure (wpAny_bind fin))
  | exact wpAny_bind fin
t! Nm{X:Cx}{pins:List an!}{σ:St}{H:Hp}{s:Shared}{a:Addr}{y:V}{o:Option V}(I:Inv X pins σ H s)(g:nP H a y o):s.TypeIs (.ref a) "dict":=by
 rcases g with ⟨kvs,k,e,_,_⟩ | ⟨kvs,k,b,e,_,_,_⟩
 ·o!⟨_,_,vs,_,dd⟩:=Ft I.cx e;e! dd.typeIs
 ·o!⟨_,_,xs,_,dd⟩:=HR I.cx e;e! dd.typeIs
def YU(td ty:TE):TE:=fun σ H Q=>td σ H λx H1=>ty σ H1 λy H2=>∃ a v,x=.ref a/\nP H2 a y (some v)/\Q v H2
def za4(ty td:TE):TE:=fun σ H Q=>ty σ H λy H1=>td σ H1 λx H2=>∃ a o,x=.ref a/\nP H2 a y o/\Q (.bl o.isSome) H2
def VH(ty td:TE):TE:=fun σ H Q=>ty σ H λy H1=>td σ H1 λx H2=>∃ a o,x=.ref a/\nP H2 a y o/\Q (.bl (!o.isSome)) H2
def YV(td ty tv:TE):TS:=λD σ H=>tv σ H λv H1=>td σ H1 λx H2=>ty σ H2 λy H3=>∃ a H4,x=.ref a/\AW H3 a y v H4/\D.nx σ H4
section
variable {X:Cx} {o i e value:Expr} {pos pos' tpos:Pos} {td ty tv:TE}
t! wL(hu:X.A.units+1 < cLine)(ho:PE X o td)(hi:PE X i ty)(hs:XG i):PE X (.Subscript o i pos) (YU td ty):=by
 intro pins s σ H Q I h;r! Qx PySem.F.slot_dict_getitem.lookup hs (fH cd! λu s1 ⟨x,H1,I1,rx,q1⟩=>fH (hi pins s1 σ H1 _ I1 q1) λiv s2 ⟨y,H2,I2,ry,a,v,ex,g,q2⟩=>?_);subst ex;obtain rfl:u=%aL a:=rx;e! ⟨Nm I2 g,Ru hu I2 g ry λw' s3 I3 rw'=>⟨v,H2,I3,rw',q2⟩⟩
t! XH(hu:X.A.units+1 < cLine)(hi:PE X i ty)(ho:PE X o td):PC X .In i o (za4 ty td):=by
 intro pins s σ H Q I h;r! fH cK! λiv s1 ⟨y,H1,I1,ry,q1⟩=>fH dF! λu s2 ⟨x,H2,I2,rx,a,ov,ex,g,q2⟩=>?_
 subst ex;obtain rfl:u=%aL a:=rx;e! za3 hu I2 g ry λs3 I3=>⟨.bl ov.isSome,H2,I3,rfl,q2⟩
t! D0(hu:X.A.units+1 < cLine)(hi:PE X i ty)(ho:PE X o td):PC X .NotIn i o (VH ty td):=by
 intro pins s σ H Q I h;r! fH cK! λiv s1 ⟨y,H1,I1,ry,q1⟩=>fH dF! λu s2 ⟨x,H2,I2,rx,a,ov,ex,g,q2⟩=>?_
 subst ex;obtain rfl:u=%aL a:=rx;e! VG hu I2 g ry λs3 I3=>⟨.bl (!ov.isSome),H2,I3,rfl,q2⟩
t! kW(hu:X.A.units+1 < cLine)(ho:PE X o td)(hi:PE X i ty)(hv:PE X value tv)(hs:swapsWith value (some (.Subscript o i pos')) pos.line X.env=pure false) :
  PS X (.Assign [.Subscript o i pos'] value pos) (YV td ty tv):=by
 intro pins s σ H D I h;r! wpAny_Assign_Subscript (fH (hv pins s σ H _ I h) λr s1 ⟨v,H1,I1,rv,q1⟩=>fH dF! λu s2 ⟨x,H2,I2,rx,q2⟩=>fH (hi pins s2 σ H2 _ I2 q2) λiv s3 ⟨y,H3,I3,ry,a,H4,ex,g,q3⟩=>?_) hs;subst ex;obtain rfl:u=%aL a:=rx;e! Rv hu I3 g ry rv λs4 I4=>⟨σ,H4,I4,q3⟩
end
t! Nn{P:Program}{w:World}{H:Hp}(h:Heap)(hb:sysModules < h.objs.size):eS P w H (h.push {cls:=.type "dict",data:=.dict #[]}) h.objs.size (.dK []) :=
 ⟨%aE _,beq_eq_false_iff_ne.mpr (Ne.symm (%aJ hb)),[],.nil,Heap.DictOf.new h⟩
def XI:TE:=λ_ H Q=>∀ p,H p=none->Q (.ref p) (upd H p (.dK []))
section
variable {X:Cx} {pos:Pos}
t! j3:PE X (.Dict [] [] pos) XI:=λpins s σ H Q I h =>
 wpAny_Dict_empty ⟨.ref s.heap.objs.size,_,I.laid (a:=s.heap.objs.size) (o:=.dK []) (t':=s.toks) (λ_ _ q=>%ap _ q) (%am _) (Nn s.heap I.big),rfl,h _ c1!⟩
end
def OK:List (TE×TE)->St->Hp->(List (V×V)->Hp->Prop)->Prop
 | [],_,H,Q=>Q [] H
 | (tk,tv)::r,σ,H,Q=>tk σ H λx H1=>tv σ H1 λy H2=>OK r σ H2 λps H3=>Q ((x,y)::ps) H3
abbrev VV:List (V×V)->List (Value×Value)->Prop:=Paired λp q=>RelV p.1 q.1/\RelV p.2 q.2
def Zt(X:Cx)(pos:Pos)(keys:List (Option Expr))(values:List Expr)(trs:List (TE×TE)):Prop :=
 ∀ (pins:List an!) (s:Shared) (σ:St) (H:Hp) (Q:List (V×V)->Hp->Prop),Inv X pins σ H s->OK trs σ H Q ->
  wpAny af! X.A (evalPairs (pairTrees keys values X.env pos)) (λvs s'=>∃ ps H',Inv X pins σ H' s'/\VV ps vs/\Q ps H') X.xe s
t! VI{X:Cx}{pos:Pos}:Zt X pos [] [] []:=λpins s σ H Q I h=>pairTrees_nil_walk ⟨[],H,I,.nil,h⟩
t! Tz{X:Cx}{pos:Pos}{k v:Expr}{ks:List (Option Expr)}{vs:List Expr}{tk tv:TE}{trs:List (TE×TE)}(hk:PE X k tk)(hv:PE X v tv)(hr:Zt X pos ks vs trs) :
  Zt X pos (some k::ks) (v::vs) ((tk,tv)::trs):=λpins s σ H Q I h =>
 pairTrees_cons_walk (fH (hk pins s σ H _ I h) λu s1 ⟨x,H1,I1,rx,q1⟩=>fH (hv pins s1 σ H1 _ I1 q1) λw2 s2 ⟨y,H2,I2,ry,q2⟩ =>
  fH (hr pins s2 σ H2 _ I2 q2) λws s3 ⟨ps,H3,I3,rel,q3⟩=>⟨(x,y)::ps,H3,I3,.cons ⟨rx,ry⟩ rel,q3⟩)
def yQ(kvs more:List (Key×V)):List (Key×V):=more.foldl (λacc kv=>putK acc kv.1 kv.2) kvs
t! KV.merge:∀ {more:List (Key×V)} {rs:List fA!} {kvs:List (Key×V)} {vs:List fA!},KV more rs->KV kvs vs->KV (yQ kvs more) (merged vs rs):=by
 intro more rs kvs vs r;unfold KV at r
 induction r generalizing kvs vs with
 | nil=>intro q;e! q
 | @cons p q ps qs h t ih =>
  intro r0;~e:KV (putK kvs p.1 p.2) (stored vs q.1 q.2):=by
   have:=r0.put p.1 h.2;rw[←h.1];e! this
  e! ih e
t! uI:∀ (more kvs:List (Key×V)),(yQ kvs more).length<=kvs.length+more.length
 | [],kvs=>by show kvs.length<=kvs.length+0;w!
 | p::r,kvs=>by
  ~h1:=uI r (putK kvs p.1 p.2);~h2:=cT kvs p.1 p.2;show (yQ (putK kvs p.1 p.2) r).length<=_;rw[%aV];w!
t! HS{P:Program}{w:World}:∀ {kvs:List (Key×V)} {ws:List (Value×Value)},VV (kvs.map λkv=>(kV kv.1,kv.2)) ws->∃ rs,Carries (bN P w) ws rs/\KV kvs rs
 | [],_,r=>by rw[List.map_nil] at r;cases r;e! ⟨[],True.intro,.nil⟩
 | p::kvs,_,r=>by
  rw[%aM] at r;cases r with
  | @cons a b as bs h t =>
   o!⟨rs,c,q⟩:=HS (P:=P) (w:=w) t;o!⟨b1,b2⟩:=b;e! ⟨(p.1,b2)::rs,⟨A5 h.1,rfl,c⟩,.cons ⟨rfl,h.2⟩ q⟩
def YW(trs:List (TE×TE)):TE:=fun σ H Q=>∀ p,H p=none->OK trs σ (upd H p (.dK [])) λps H2=>H2 p=some (.dK [])/\∃ kvs:List (Key×V),ps=kvs.map (λkv=>(kV kv.1,kv.2))/\kvs.length<=15/\Q (.ref p) (upd H2 p (.dK (yQ [] kvs)))
t! VJ{X:Cx}{pos:Pos}{keys:List (Option Expr)}{values:List Expr}{trs:List (TE×TE)}(h:Zt X pos keys values trs)(hall:keys.all (·.isSome)=true)(hl:keys.length=values.length)(h0:keys≠[])
  (h15:keys.length<=15):PE X (.Dict keys values pos) (YW trs):=by
 intro pins s σ H Q I q;~hn:=I.cx.fresh (%am s.heap.objs.size);~I1:=I.laid (a:=s.heap.objs.size) (o:=.dK []) (h':=s.heap.push {cls:=.type "dict",data:=.dict #[]}) (t':=s.toks) (λ_ _ q=>%ap _ q) (%am _) (Nn s.heap I.big);r! wpAny_Dict_walk (knd:=bN X.prog X.w) hall hl h0 h15 (fH (h pins _ σ _ _ I1 (q _ hn)) λws s2 ⟨ps,H2,I2,rel,e,kvs,ep,lk,q2⟩=>?_);subst ep;o!⟨rs,c,rk⟩:=HS (P:=X.prog) (w:=X.w) rel;o!⟨z,hd,vs0,r0,dd⟩:=Qw I2.cx e;cases r0;r! ⟨rs,c,dd,λh' dd' hs=>⟨.ref s.heap.objs.size,_,?_,rfl,q2⟩⟩;~hz:(yQ [] kvs).length<=sizeLine:=by
  ~h1:=uI kvs [];rw[List.length_nil] at h1;rw[sizeLine_eq];w!
 ~he:∃ q,h'.get? s.heap.objs.size=some q:=let ⟨q,_,_,hq,_⟩:=dd';⟨q,hq⟩
 e! Hf I2 d0! hs he (Md hz hd (rk.merge .nil) dd')
structure M2 (X:Cx) (o:Expr) (m:Str) (apos:Pos) (e f:Expr) (cpos:Pos):Prop where
 base:attributeBase o m X.env eA!=eval o X.env
 YX:((backTo cpos (starEach [e,f] X.env)).all (λx=>!x.1) && (backToKw cpos dj!).all (λx=>x.1.isSome)
  && decide (([e,f]:List Expr).length+([]:List Keyword).length+(if ([]:List Keyword).isEmpty then 0 else 1) < 30))=true
 line:eV!=true
 trees:backTo cpos (starEach [e,f] X.env)=[a0!,(false,eval f X.env)]
def IsD(H:Hp)(a:Addr):Prop:=(∃ kvs,Rd H a aQ!)∨∃ kvs,Rd H a en!
t! XJ{X:Cx}{pins:List an!}{σ:St}{H:Hp}{s:Shared}{a:Addr}(I:Inv X pins σ H s)(d:IsD H a) :
  s.TypeIs (.ref a) "dict"/\(∀ b,%aL a=.ref b->∃ ob,s.heap.get? b=some ob/\ob.dict=none)/\ci!=false:=by
 rcases d with ⟨kvs,e⟩ | ⟨kvs,e⟩
 ·o!⟨_,hd,vs,_,dd⟩:=Ft I.cx e;r! ⟨dd.typeIs,λb q=>?_,hd⟩;cases q;o!⟨ob,_,_,h1,h2,_⟩:=dd;e! ⟨ob,h1,h2.2.1⟩
 ·o!⟨_,hd,xs,_,dd⟩:=HR I.cx e;r! ⟨dd.typeIs,λb q=>?_,hd⟩;cases q;o!⟨ob,_,_,h1,h2,_⟩:=dd;e! ⟨ob,h1,h2.2.1⟩
section
variable {X:Cx} {pins:List (Addr×Obj)} {σ:St} {H:Hp} {s:Shared} {a:Addr} {y d:V} {u r:Value} {o:Option V} {A:Around} {E:Value->Shared->Prop}
t! XM{Q:Value->Shared->Prop}(hu:A.units+1 < cLine)(I:Inv X pins σ H s)(g:nP H a y o)(ry:RelV y u)(rd:RelV d r)(h:∀ w' s',Inv X pins σ H s'->RelV (o.getD d) w'->Q w' s') :
  wpAny af! A (call (.builtin "dict.get") [.ref a,u,r]) Q E s:=by
 rcases g with ⟨kvs,k,e,ey,l⟩ | ⟨kvs,k,b,e,ey,eb,l⟩
 ·subst ey;o!⟨z,hd,vs,rel,dd⟩:=Ft I.cx e;r! call_meetsIn PySem.F.slot_dict_get dd.typeIs PySem.F.entry_dict_get (PySem.F.args_dict_get_3 _ _ _) (meets_dict_get_default gl! a (A5 ry) hd r) ⟨_,dd.mapOf,h _ _ fC! ?_⟩;rw[l];e! (rel.val k).getD rd
 ·subst ey;cases (show u=%aL b from ry);o!⟨z,hd,xs,rel,dd⟩:=HR I.cx e;r! call_meetsIn PySem.F.slot_dict_get dd.typeIs PySem.F.entry_dict_get (PySem.F.args_dict_get_3 _ _ _) (meetsH_dict_get_default (tupleKind gl!) a b hd r) ⟨tupleKind_room_in1 hu,k,xs,DZ I.cx eb,dd,h _ _ fC! ?_⟩;rw[l];e! (rel.val k).getD rd
end
def TB(td ty tx:TE):TE:=fun σ H Q=>td σ H λx H1=>∃ a,x=.ref a/\IsD H1 a/\ty σ H1 λy H2=>tx σ H2 λz H3=>∃ o,nP H3 a y o/\Q (o.getD z) H3
section
variable {X:Cx} {o e f:Expr} {apos cpos:Pos} {td ty tx:TE}
t! Np(hu:X.A.units+1 < cLine)(ho:PE X o td)(he:PE X e ty)(hf:PE X f tx)(m:M2 X o "get" apos e f cpos):PE X (.Call (.Attribute o "get" apos) [e,f] [] cpos) (TB td ty tx):=by
 intro pins s σ H Q I h;r! wpAny_Call_method m.base m.YX m.line PySem.F.plainAttrs_dict PySem.F.slot_dict_get PySem.F.type_dict_get (fH cd! λu s1 ⟨x,H1,I1,rx,a,ex,d,q1⟩=>?_);subst ex;obtain rfl:u=%aL a:=rx;o!⟨t1,t2,_⟩:=XJ I1 d;r! ⟨t1,t2,?_⟩;rw[m.trees];r! %bN rfl (Calls.evalArgs_plain (%cx (fH (he pins s1 σ H1 _ I1 q1) λiv s2 ⟨y,H2,I2,ry,q2⟩ =>
  %cx (fH (hf pins s2 σ H2 _ I2 q2) λfv s3 ⟨z,H3,I3,rz,ov,g,q3⟩=>Calls.spliced_nil ?_))))
 e! XM hu I3 g ry rz λw' s4 I4 rw'=>⟨_,H3,I4,rw',q3⟩
end
section
variable {X:Cx} {pins:List (Addr×Obj)} {σ:St} {H:Hp} {s:Shared} {a:Addr} {kvs:List (Key×V)} {A:Around} {E:Value->Shared->Prop}
t! TC{Q:Value->Shared->Prop}(I:Inv X pins σ H s)(e:Rd H a aQ!)(h:∀ p s',H p=none->Inv X pins σ (upd H p aQ!) s'->Q (.ref p) s'):wpAny af! A (call (.type "dict") [.ref a]) Q E s:=by
 o!⟨z,hd,vs,rel,dd⟩:=Ft I.cx e;r! kt_call_dict hd dd (by rw[←rel.length];e! z) λh' dd' hs=>?_
 r! h _ _ c1! (I.laid (a:=s.heap.objs.size) (o:=.dK kvs) (t':=s.toks) (λb q hq=>?_) (%am _) (Md z (beq_eq_false_iff_ne.mpr (Ne.symm (%aJ I.big))) rel dd'));e! (hs.2 b (%aJ (%av hq))).trans (%ap _ hq)
end
section
variable {X:Cx} {pins:List (Addr×Obj)} {σ:St} {H:Hp} {s:Shared} {a:Addr} {y:V} {u:Value} {A:Around} {E:Value->Shared->Prop}
end
end L2
namespace L2
open PySem PySem.Spec PyProof.Rows
section
variable {prog:Program} {w:World} {A:Around} {E:Value->Shared->Prop}
end
section
variable {X:Cx}
end
end L2
namespace L2
open PySem PySem.Spec PyProof.Rows
t! HU:bootBuiltins "reversed"=some (.type "reversed"):=by dk!
section
variable {X:Cx} {pins:List (Addr×Obj)} {σ:St} {H:Hp} {s:Shared} {h':Heap}
t! Inv.VL{t':Nat}{ch:List Addr}(I:Inv X pins σ H s)(k:∀ b o,b∉ch->s.heap.get? b=some o->h'.get? b=some o)(hf:∀ b∈ch,yH X pins H b):Inv X pins σ H {s with heap:=h',toks:=t'}:=by
 ~nit:∀ b u,H b=some u->b∉ch:=λb u e z=>by
  ~q:=(hf b z).1;rw[q] at e;cases e
 r! I.step (g':=s.gens) (d':=s.drawn) (ch:=ch) (λb hb=>⟨(hf b hb).2.2.2.1,(hf b hb).2.1,(hf b hb).2.2.2.2.1,(hf b hb).2.2.2.2.2⟩) (λb o _ _ hc e _=>k b o hc e) (λb o _ _ hc e _=>⟨o.slots,k b o hc e⟩)
  (λ_ _ _ _ n=>n) (λb o hc e=>⟨o,k b o hc e⟩) (λ_ _ e=>e) du! (λb ps e=>⟨#[],by rw[e];simp⟩) (λm hm=>?_) (λb u e=>?_) I.bare
 ·o!⟨o,es,ep,ho,r⟩:=hm;e! ⟨o,es,ep,k _ o (λz=>(hf _ z).2.1 rfl) ho,r⟩
 ·r! (I.cx b u e).Gm fj! (λ_ q=>q) λ_ _ q=>q
  rcases hc with z | z
  ·rw[z];e! nit b u e
  ·e! nit c _ z
t! Inv.Rw{t':Nat}{ch:List Addr}{T:Addr}{ob:HO}(I:Inv X pins σ H s)(k:∀ b o,b∉ch->s.heap.get? b=some o->h'.get? b=some o)(hf:∀ b∈ch,yH X pins H b)(hT:s.heap.objs.size<=T)
  (new:eS X.prog X.w (upd H T ob) h' T ob):Inv X pins σ (upd H T ob) {s with heap:=h',toks:=t'}:=by
 ~hn:H T=none:=I.cx.fresh hT;~nit:∀ b u,H b=some u->b∉ch:=λb u e z=>by
  ~q:=(hf b z).1;rw[q] at e;cases e
 r! I.step (g':=s.gens) (d':=s.drawn) (ch:=ch) (λb hb=>⟨(hf b hb).2.2.2.1,(hf b hb).2.1,(hf b hb).2.2.2.2.1,(hf b hb).2.2.2.2.2⟩) (λb o _ _ hc e _=>k b o hc e) (λb o _ _ hc e _=>⟨o.slots,k b o hc e⟩)
  (λb o _ e n=>?_) (λb o hc e=>⟨o,k b o hc e⟩) (λb xs e=>?_) (λb o u e=>?_) (λb ps e=>⟨#[],?_⟩) (λm hm=>?_) (λb u e=>?_) I.bare
 ·rw[ai (%aJ (%aB (%av e) hT))];e! n
 ·rw[ai (aq e hn)];e! e
 ·rw[ai (aq e hn)];e! e
 ·rw[ai (aq e hn),e];simp
 ·o!⟨o,es,ep,ho,r⟩:=hm;e! ⟨o,es,ep,k _ o (λz=>(hf _ z).2.1 rfl) ho,r⟩
 ·by_cases hb:b=T
  ·subst hb;rw[ae] at e;cases e;e! new
  ·rw[ai hb] at e;r! (I.cx b u e).Gm fj! (λc q=>by rw[ai (aq q hn)];e! q) λc xs q=>by rw[ai (aq q hn)];e! q
   rcases hc with z | z
   ·rw[z];e! nit b u e
   ·e! nit c _ z
t! Inv.lock{d:Addr}{u:HO}(I:Inv X pins σ H s)(h:H d=some u)(mu:WD (some u)):∃ od,Inv X pins σ (upd H d eQ!) s:=by
 ~x:=I.cx d u h;~ex:∃ od,s.heap.get? d=some od:=by
  cases u with
  | lst xs=>obtain ⟨_,_,_,_,e⟩:=x;e! ⟨_,e⟩
  | dK kvs=>obtain ⟨_,_,_,_,o,_,_,e,_⟩:=x;e! ⟨o,e⟩
  | dT kvs=>obtain ⟨_,_,_,_,o,_,_,e,_⟩:=x;e! ⟨o,e⟩
  | set S n=>obtain ⟨o,_,_,_,e,_⟩:=x;e! ⟨o,e⟩
  | ins C dx fs=>obtain ⟨_,_,_,e,_⟩:=x;e! ⟨_,e⟩
  | ext φ=>obtain ⟨_,⟨_,e⟩,_⟩:=x;e! ⟨_,e⟩
  | _=>e! %bf mu
 o!⟨od,e⟩:=ex;~new:eS X.prog X.w (upd H d eQ!) s.heap d eQ!:=by
  r! ⟨e,x.Gm (λb v _ q=>q) (λb q=>?_) λb xs q=>?_⟩
  ·rw[ai (λz=>by rw[z,h] at q;cases q;e! mu)];e! q
  ·rw[ai (λz=>by rw[z,h] at q;cases q;e! mu)];e! q
 e! ⟨od,I.write (x:=d) (e:=d) (t':=s.toks) (h':=s.heap) (by rw[h];e! mu) aU! (λb v _ q=>q) ⟨od,e⟩ new⟩
t! Inv.Qy{d:Addr}{u:HO}(I:Inv X pins σ H s)(h:H d=some u)(mu:WD (some u)):∀ o' u',X.SX d≠some (.ql o' u'):=λo' u' e=>by
 ~q:=I.base.CN d o' u' e;rw[h] at q;cases q;e! mu
t! Inv.unlock{d:Addr}{od:Obj}{u:HO}(I:Inv X pins σ H s)(h:H d=some eQ!)(hn:∀ o' u',X.SX d≠some (.ql o' u')):Inv X pins σ (upd H d u) s:=by
 ~neH:∀ b o,H b=some o->(∀ o' u',o≠.ql o' u')->b≠d:=λb o e hne z=>by
  rw[z,h] at e;cases e;e! hne _ _ rfl
 ~neN:∀ b,H b=none->b≠d:=λb e z=>by rw[z,h] at e;cases e
 r! ⟨I.ok,I.os,I.bare,⟨I.base.keep,I.base.slot,λb o e n hx=>?_,I.base.there,λb xs e=>?_,λb o x e=>?_,λb ps e=>?_⟩,I.loc,I.cell,?_,λx c e=>?_,λp hp=>?_,λb o e=>?_,I.len⟩
 ·rw[ai (neN b d3!)];e! I.base.free b o e n hx
 ·~q:=I.base.Gn b xs e;rw[ai (neH b _ q (λ_ _ z=>nomatch z))];e! q
 ·~q:=I.base.CN b o x e;rw[ai (λz=>by rw[z] at e;e! hn _ _ e)];e! q
 ·o!⟨m,q⟩:=I.base.Gp b ps e;e! ⟨m,by rw[ai (neH b _ q (λ_ _ z=>nomatch z))];e! q⟩
 ·rw[ai (neN _ I.free)];e! I.free
 ·rw[ai (neN c (I.pH x c e))];e! I.pH x c e
 ·o!⟨e,n,r⟩:=I.pin p hp;e! ⟨e,by rw[ai (neN _ n)];e! n,r⟩
 ·by_cases hb:b=d
  ·rw[hb,ae] at e;cases e;rw[hb];o!⟨_,x⟩:=I.cx d _ h;e! x.Gm (λc v _ q=>q) (λc q=>by rw[ai cW!];e! q) λc xs q=>by rw[ai cW!];e! q
  ·rw[ai hb] at e;e! (I.cx b o e).Gm (λc v _ q=>q) (λc q=>by rw[ai cW!];e! q) λc xs q=>by rw[ai cW!];e! q
end
def YY(t:TS):TS:=λD σ H=>∃ d u,H d=some u/\WD (some u)/\∀ od,t ⟨fun σ' H'=>H' d=some eQ!/\D.nx σ' (upd H' d u),λv H'=>H' d=some eQ!/\D.rt v (upd H' d u),fun σ' H'=>H' d=some eQ!/\D.bk σ' (upd H' d u),fun σ' H'=>H' d=some eQ!/\D.ct σ' (upd H' d u)⟩ σ (upd H d eQ!)
section
variable {X:Cx}
t! Qz{st:Stmt}{t:TS}(h:PS X st t):PS X st (YY t):=by
 intro pins s σ H D I hw;o!⟨d,u,hd,mu,hw⟩:=hw;o!⟨od,I1⟩:=I.lock hd mu;r! fH (h pins s σ _ _ I1 (hw od)) λf s1 q=>?_
 cases f with
 | next=>obtain ⟨σ',H',I2,e,q⟩:=q;e! ⟨σ',_,I2.unlock e (I.Qy hd mu),q⟩
 | brk=>obtain ⟨σ',H',I2,e,q⟩:=q;e! ⟨σ',_,I2.unlock e (I.Qy hd mu),q⟩
 | cont=>obtain ⟨σ',H',I2,e,q⟩:=q;e! ⟨σ',_,I2.unlock e (I.Qy hd mu),q⟩
 | ret v=>obtain ⟨x,σ',H',I2,r,e,q⟩:=q;e! ⟨x,σ',_,I2.unlock e (I.Qy hd mu),r,q⟩
t! HV{tg:Expr}{pins:List an!}{σ:St}{H:Hp}{s:Shared}{R:It->Hp->Prop}{J:It}{tn:Nat->Heap->Prop}{tk:Nat}(I:Inv X pins σ H s)(o:Obj)
  (T:Turn X.prog X.w X.K tg J [s.heap.objs.size] s.heap.objs.size tn) (st:tn 0 (s.heap.push o)) (q:R J H):PIE X pins σ tg R cC! {s with heap:=s.heap.push o,toks:=tk}:=by
 r! ⟨s.heap.objs.size,[s.heap.objs.size],tn,J,H,rfl,I.kept λb ob e=>%ap _ e,T,st,λb hb=>?_,q⟩;~e:b=s.heap.objs.size:=by simpa using hb
 subst e;e! I.Tc (%am _) c1!
end
section
variable {X:Cx} {tg:Expr}
end
def YZ(K:%ag)(a:Addr)(n:Nat):It :=
 ⟨λi H=>i < n/\∃ (xs:List V) (x:V),aX K H a xs/\xs[n - 1 - i]?=some x,λi H x H'=>H'=H/\∀ xs,aX K H a xs->xs[n - 1 - i]?=some x,λi _=>n<=i⟩
t! TF{P:Program}{w:World}{K:%ag}{tg:Expr}(a it:Addr)(n:Nat):Turn P w K tg (YZ K a n) [it] it (λi h=>i<=n/\h.IsRevIter it a ((n:Int) - 1 - (i:Nat))) where
 mem:=by simp
 obj:=λi h st b hb=>by
  ~e:b=it:=by simpa using hb
  subst e;o!⟨_,o,e,c,d⟩:=st;e! ⟨o,e,λv z=>by rw[d] at z;cases z⟩
 keep:=λi h h' st k=>⟨st.1,st.2.at λo e=>k it ai! o e⟩
 item:=by
  intro X hP hw hK hc i pins s σ H E I hf st hg;subst hP hw hK;o!⟨hin,xs,x,hq,hx⟩:=hg;o!⟨its,rv,p,hz⟩:=I.list hq;o!⟨u,hu,ru⟩:=rv.get hx;o!⟨f0,f1,f2,f3,f4,f5⟩:=hf it ai!;o!⟨_,hit⟩:=st;~e1:(n:Int) - 1 - ((i:Nat):Int)=((n - 1 - i:Nat):Int):=by w!
  rw[e1] at hit;r! wpAny_pyNext_rev_item hit p.isList (x:=u) (by simpa using hu) λh' st' sb=>?_
  ~e2:((n - 1 - i:Nat):Int) - 1=(n:Int) - 1 - ((i+1:Nat):Int):=by w!
  rw[e2] at st';~I1:Inv X pins σ H {s with heap:=h'}:=I.turned (t':=s.toks) cQ! f0 f1 f3 f4 f5;o!⟨o,e,c,d⟩:=id st';e! ⟨u,rfl,Na (s:={s with heap:=h'}) e c d ag! ⟨x,H,I1,ru,⟨rfl,λys hy=>by rw[I.CP hy hq];e! hx⟩,⟨hin,st'⟩,λb hb=>(hf b hb).1⟩⟩
 done:=by
  intro X hP hw hK hc i pins s σ H E I hf st hg;subst hP hw hK;o!⟨f0,f1,f2,f3,f4,f5⟩:=hf it ai!;o!⟨hin,hit⟩:=st;~hge:n<=i:=hg;~e1:(n:Int) - 1 - ((i:Nat):Int)=-1:=by w!
  rw[e1] at hit;e! wpAny_pyNext_rev_end b4! hit λh' eb=>⟨rfl,I.turned (t':=s.toks) dO! f0 f1 f3 f4 f5⟩
 self:=λA i s Q E st h=>wpAny_pyIter_revIter st.2 h
def za5(K:%ag)(ta:TA):TI:=fun σ H R=>ta σ H λvs H1=>∃ (a:Addr) (xs:List V),vs=[.ref a]/\aX K H1 a xs/\R (YZ K a xs.length) H1
section
variable {X:Cx} {tg:Expr}
t! Nq{e:Expr}{ta:TA}{p pos:Pos}(hg:Gl X "reversed")(hm:X.mg "reversed"=none)(ha:PA X [e] ta)(hs:starEach [e] X.env=[a0!]:=by rfl):PI X tg (.Call (.Name "reversed" p) [e] [] pos) (za5 X.K ta):=by
 intro pins s σ H R I h;r! Call_ (Hz I hg hm HU (PyProof.Rows.callWith_type1 (fH b8! λus s1 ⟨vs,H1,I1,r1,q1⟩=>?_) hs rfl));o!⟨a,xs,e,hq,q⟩:=q1;subst e;cases r1 with
 | cons r rr =>
  cases rr;cases r;o!⟨its,rv,p',hz⟩:=I1.list hq;~hl:=rv.length;~e1:((its.toArray.size:Nat):Int) - 1=(xs.length:Int) - 1 - ((0:Nat):Int):=by simp only[List.size_toArray];w!
  r! call_reversed_list p'.isList (wpAny_pyIter_revIter (l:=a) (i:=((its.toArray.size:Nat):Int) - 1) ⟨_,%aA _ rfl,rfl,rfl⟩ ?_);r! HV (tk:=s1.toks) I1 _ (TF a _ xs.length) ⟨%aE _,?_⟩ q;rw[←e1];e! ⟨_,%aA _ rfl,rfl,rfl⟩
end
def WS(x:Str):It:=⟨λi _=>i < x.cps.size,λi H v H'=>H'=H/\∃ c,x.cps[i]?=some c/\v=.str ⟨#[c]⟩,λi _=>x.cps.size<=i⟩
t! Nr{P:Program}{w:World}{K:%ag}{tg:Expr}(it:Addr)(x:Str)(t:Tok)(ty:String)(hty:ty="str_ascii_iterator"∨ty="str_iterator") :
  Turn P w K tg (WS x) [it] it (λi h=>h.IsStrIter it ty x t i) where
 mem:=by simp
 obj:=λi h st b hb=>by
  ~e:b=it:=by simpa using hb
  subst e;o!⟨o,e,c,d⟩:=st;e! ⟨o,e,λv z=>by rw[d] at z;cases z⟩
 keep:=λi h h' st k=>let ⟨o,ho,r⟩:=st;⟨o,k it ai! o ho,r⟩
 item:=by
  intro X hP hw hK hc i pins s σ H E I hf st hg;subst hP hw hK;o!⟨f0,f1,f2,f3,f4,f5⟩:=hf it ai!;~W:Walks X.prog X.w X.A it [it] [it] x.cps.size (SignAt x) (λi h=>h.IsStrIter it ty x t i):=by
   rcases hty with e | e
   ·rw[e];e! Walks.strAscii b4! it x t
   ·rw[e];e! Walks.strWide b4! it x t
  ~hno:["enumerate","zip","dict_itemiterator","dict_reverseitemiterator","odict_iterator","itertools.zip_longest","itertools.pairwise"].contains ty=false:=by
   rcases hty with e | e
   ·rw[e];decide
   ·rw[e];decide
  r! W.item i s _ _ hg st λv h' tk hv st' kk=>?_
  o!⟨c,u,hcx,rfl⟩:=hv;~I1:Inv X pins σ H {s with heap:=h',toks:=tk}:=I.turned (λb o hb e=>kk b o (by simpa using hb) e) f0 f1 f3 f4 f5;o!⟨oi,e,cc,dd⟩:=id st';e! ⟨_,rfl,Na (s:={s with heap:=h',toks:=tk}) e cc dd hno ⟨.str ⟨#[c]⟩,H,I1,⟨u,rfl⟩,⟨rfl,c,hcx,rfl⟩,st',λb hb=>(hf b hb).1⟩⟩
 done:=by
  intro X hP hw hK hc i pins s σ H E I hf st hg;subst hP hw hK;o!⟨f0,f1,f2,f3,f4,f5⟩:=hf it ai!;~hx:x.cps[i]?=none:=Array.getElem?_eq_none hg;rcases hty with e | e
  ·rw[e] at st;e! wpAny_pyNext_ascii_end b4! st hx λh' eb=>⟨rfl,I.turned (t':=s.toks) dO! f0 f1 f3 f4 f5⟩
  ·rw[e] at st;e! wpAny_pyNext_wide_end b4! st hx λh' eb=>⟨rfl,I.turned (t':=s.toks) dO! f0 f1 f3 f4 f5⟩
 self:=λA i s Q E st h=>by
  rcases hty with e | e
  ·rw[e] at st;e! wpAny_pyIter_striter_ascii st h
  ·rw[e] at st;e! wpAny_pyIter_striter_wide st h
def za6(te:TE):TI:=fun σ H R=>te σ H λv H1=>∃ x,v=.str x/\R (WS x) H1
t! OL{X:Cx}{tg e:Expr}{te:TE}(he:PE X e te):PI X tg e (za6 te):=by
 intro pins s σ H R I h;r! fH bA! λv s1 ⟨y,H1,I1,r1,x,ex,q⟩=>?_
 subst ex;o!⟨t,rfl⟩:=r1;cases ha:x.cps.all (· < 128)
 ·e! wpAny_pyIter_wide ha (HV (tk:=s1.toks) I1 _ (Nr _ x t "str_iterator" dH!) ⟨_,%aA _ rfl,rfl,rfl⟩ q)
 ·e! wpAny_pyIter_ascii ha (HV (tk:=s1.toks) I1 _ (Nr _ x t "str_ascii_iterator" aU!) ⟨_,%aA _ rfl,rfl,rfl⟩ q)
section
variable {prog:Program} {w:World} {A:Around} {E:Value->Shared->Prop} {s:Shared}
t! KH{d:Addr}{o:Obj}{es:Array DictEntry}{ep:Nat}{Q:Value->Shared->Prop}(hd:(d == sysModules)=false)(ho:s.heap.get? d=some o)(hc:o.ExactDict)(hdat:o.data=.dict es ep)
  (hQ:Q cC! {s with heap:=s.heap.push {cls:=.type "dict_keyiterator",data:=.fields #[.ref d,.int 0 0,.int es.size 0,.int ep 0]}}) :
  wpAny az! A (pyIter (.ref d)) Q E s:=by
 ~hT:s.TypeIs (.ref d) "dict":=⟨o,ho,hc.1⟩;r! wpAny_pyIter_slot hT F.slot_dict_iter (wpAny_call_entry F.slot_dict_iter hT F.entry_dict_iter ?_ (F.args_dict_iter_1 _));unfold Builtin.«dict.__iter__»;r! wpAny_bind ?_;unfold Builtin.Dict.dictSlotNone;r! wpAny_bind (wpAny_notOrdered_dict hT ?_);show wpAny _ _ (pure (%aL d)) _ _ s;r! wpAny_pure ?_;show wpAny _ _ (Builtin.Dict.showsAll d >>= _) _ _ s;unfold Builtin.Dict.showsAll;rw[n! (by rw[hd];e! %ao)];r! wpAny_bind dE!;r! wpAny_bind (wpAny_dictEntries ho hdat ?_);r! wpAny_bind (wpAny_dictEpoch ho hdat ?_);r! wpAny_bind (wpAny_newObj_type (wpAny_pure ⟨_,rfl,"dict_keyiterator",_,⟨_,%aA _ rfl,rfl⟩,F.slot_dict_keyiterator_next.lookup,?_⟩));simpa[rawInt] using hQ
t! JW{it d:Addr}{i n ep:Nat}{od:Obj}{es:Array DictEntry}{en:DictEntry}{Q:Option Value->Shared->Prop}(hit:s.heap.IsKeyIter it d i n ep)(hod:s.heap.get? d=some od)(hdd:od.data=.dict es ep)
  (hsz:es.size=n) (hx:es[i]?=some en) (hQ:∀ h',h'.IsKeyIter it d (i+1) n ep->%cv it s.heap h'->Q (some en.key) {s with heap:=h'}):wpAny az! A (pyNext dz!) Q E s:=by
 o!⟨o,ho,hc,hd⟩:=id hit;unfold pyNext;r! wpAny_bind (wpAny_attempt (wpAny_callSpecial?_slot (name:=%ad "__next__") hit.typeIs F.slot_dict_keyiterator_next
  (wpAny_call_entry F.slot_dict_keyiterator_next hit.typeIs F.entry_dict_keyiterator_next ?_ (F.args_dict_keyiterator_next_1 _))))
 r! wpAny_bind dE!;r! wpAny_bind ?_;r! wpAny_bind ?_
 first | refine wpAny_bind bd! | refine wpAny_bind bu!
 r! wpAny_bind (wpAny_fieldsOf ho hd ?_);~hown:Builtin.Dict_items.ownsTuple "dict_keyiterator"=false:=by decide
 simp only[hown,Bool.false_eq_true,if_false];show wpAny _ _ (if (%aL d == %bT)=true then _ else _) _ _ s;rw[n! (show ¬ ((Value.ref d == Value.none)=true) from %ao)];r! wpAny_bind dE!;r! wpAny_bind (wpAny_dictEntries hod hdd ?_);rw[if_neg (by rw[hsz];simp)];r! wpAny_bind dE!;r! wpAny_bind (wpAny_dictEpoch hod hdd ?_);rw[if_neg ai!];r! wpAny_pure ?_;o!⟨hlt',hen⟩:=%bt hx;simp only[show ¬ ((i:Int) < 0) from by w!,if_false,Int.toNat_natCast,Array.getElem?_eq_getElem hlt'];r! wpAny_bind ?_
 first | refine wpAny_bind bd! | refine wpAny_bind bu!
 r! wpAny_bind (wpAny_isOneOf_keyiter hit.typeIs ?_);show wpAny _ _ (setField dz! 1 gr! >>= _) _ _ s;r! wpAny_bind (wpAny_setField ho hd ai! ?_);~hit':(s.heap.update it (Obj.mapFields (·.setIfInBounds 1 gr!))).IsKeyIter it d (i+1) n ep :=
  ⟨_,Heap.get?_update_self _ ho (Obj.isFreed_of_fields (Obj.data_mapFields hd _)),(Obj.cls_mapFields ..).trans hc,by rw[Obj.data_mapFields hd];simp[rawInt]⟩
 r! wpAny_bind (wpAny_holding ?_);r! wpAny_bind (wpAny_isOneOf_keyiter (s:={s with heap:=s.heap.update it (Obj.mapFields (·.setIfInBounds 1 gr!))}) hit'.typeIs ?_);show wpAny _ _ (pure es[i].key) _ _ _;rw[hen];e! wpAny_pure (wpAny_pure ⟨_,rfl,wpAny_pure (hQ _ hit' (Heap.SameBut.update ..))⟩)
t! CY{it d:Addr}{i n ep:Nat}{od:Obj}{es:Array DictEntry}{Q:Option Value->Shared->Prop}(hh:A.handled=none)(hit:s.heap.IsKeyIter it d i n ep)(hod:s.heap.get? d=some od)(hdd:od.data=.dict es ep)
  (hsz:es.size=n) (hge:n<=i) (hQ:∀ h',Heap.ExtBut it s.heap h'->Q none {s with heap:=h'}):wpAny az! A (pyNext dz!) Q E s:=by
 o!⟨o,ho,hc,hd⟩:=id hit;unfold pyNext;r! wpAny_bind (wpAny_attempt (wpAny_callSpecial?_slot (name:=%ad "__next__") hit.typeIs F.slot_dict_keyiterator_next
  (wpAny_call_entry F.slot_dict_keyiterator_next hit.typeIs F.entry_dict_keyiterator_next ?_ (F.args_dict_keyiterator_next_1 _))))
 r! wpAny_bind dE!;r! wpAny_bind ?_;r! wpAny_bind ?_
 first | refine wpAny_bind bd! | refine wpAny_bind bu!
 r! wpAny_bind (wpAny_fieldsOf ho hd ?_);~hown:Builtin.Dict_items.ownsTuple "dict_keyiterator"=false:=by decide
 simp only[hown,Bool.false_eq_true,if_false];show wpAny _ _ (if (%aL d == %bT)=true then _ else _) _ _ s;rw[n! (show ¬ ((Value.ref d == Value.none)=true) from %ao)];r! wpAny_bind dE!;r! wpAny_bind (wpAny_dictEntries hod hdd ?_);rw[if_neg (by rw[hsz];simp)];r! wpAny_bind dE!;r! wpAny_bind (wpAny_dictEpoch hod hdd ?_);rw[if_neg ai!];r! wpAny_pure ?_;~hge':es.size<=i:=by rw[hsz];e! hge
 simp only[show ¬ ((i:Int) < 0) from by w!,if_false,Int.toNat_natCast,Array.getElem?_eq_none hge'];r! wpAny_bind ?_
 first | refine wpAny_bind bd! | refine wpAny_bind bu!
 show wpAny _ _ (setField dz! 0 .none >>= _) _ _ s;r! wpAny_bind (wpAny_setField ho hd ai! ?_);show wpAny _ _ (newExc (.type "StopIteration") [] >>= _) _ _ _;r! wpAny_bind ?_;simp only[newExc,newTuple];r! wpAny_bind (wpAny_newObj_type ?_ (by size_fits));r! wpAny_bind (m:=firstArgMember _ _) (wpAny_of_eq (a:=Value.none) (by first | rfl | (simp only[firstArgMember];rfl)) ?_);r! wpAny_newObj_type ?_ (by size_fits);simp only[raiseNew];r! wpAny_bind (wpAny_handled ?_);rw[show A.in1.handled=none from hh];r! wpAny_bind (wpAny_pure (wpAny_throw ?_));r! wpAny_bind (wpAny_isInstance (T:="StopIteration") (b:=true) ⟨_,%aA _ rfl,rfl⟩ isSubtype_stop ?_);e! wpAny_pure (hQ _ (((Heap.SameBut.update ..).extBut.push _).push _))
end
t! XN{κ:Type}{kvs:List (κ×V)}{vs:List eD!}(h:KV kvs vs):∀ {i:Nat} {k:κ} {v:V},kvs[i]?=some (k,v)->∃ u,vs[i]?=some (k,u)/\RelV v u:=by
 unfold KV at h
 induction h with
 | nil=>intro i k v e;simp at e
 | @cons a b l₁ l₂ r t ih =>
  intro i k v e;cases i with
  | zero =>
   simp only[List.getElem?_cons_zero,Option.some.injEq] at e;subst e;r! ⟨b.2,?_,r.2⟩;simp only[List.getElem?_cons_zero];e! congrArg some (Prod.ext r.1.symm rfl)
  | succ j =>
   simp only[List.getElem?_cons_succ] at e ⊢;e! ih e
t! OM{α β:Type}{G:α->β->Prop}{l₁:List α}{l₂:List β}(h:Paired G l₁ l₂):∀ {i:Nat} {a:α},l₁[i]?=some a->∃ b,l₂[i]?=some b/\G a b:=by
 induction h with
 | nil=>intro i a e;simp at e
 | @cons a b l₁ l₂ r t ih =>
  intro i a' e;cases i with
  | zero =>
   simp only[List.getElem?_cons_zero,Option.some.injEq] at e;subst e;e! ⟨b,rfl,r⟩
  | succ j =>
   simp only[List.getElem?_cons_succ] at e ⊢;e! ih e
t! TH{k:Key}{u:Value}(h:CM k u=true):RelV (kV k) u:=by
 rcases eZ h with ⟨i,t,rfl,rfl⟩ | ⟨x,t,rfl,rfl⟩
 ·e! ⟨t,rfl⟩
 ·e! ⟨t,rfl⟩
section
variable {X:Cx} {pins:List (Addr×Obj)} {σ:St} {H:Hp} {s:Shared} {d:Addr} {o:Obj}
t! Inv.XO{kvs:List (Key×V)}(I:Inv X pins σ H s)(h:H d=some (.ql o aQ!)) :
  (d == sysModules)=false/\s.heap.get? d=some o/\o.ExactDict/\∃ (es:Array DictEntry) (ep:Nat) (vs:List fA!),o.data=.dict es ep/\es.size=kvs.length/\KV kvs vs/\s.heap.DictAt gl! d vs ep:=by
 o!⟨hd,z,hs,vs,kv,o',es,ep,ho,hx,hdt,r⟩:=I.cx d _ h;rw[hd] at ho;cases ho;r! ⟨hs,hd,hx,es,ep,vs,hdt,?_,kv,o,es,hd,hx,hdt,r⟩;~l1:=r.2.1.length;~l2:kvs.length=vs.length:=Paired.length kv;rw[%cr] at l1;w!
t! Inv.XQ{kvs:List cN!}(I:Inv X pins σ H s)(h:H d=some (.ql o en!)) :
  (d == sysModules)=false/\s.heap.get? d=some o/\o.ExactDict/\∃ (es:Array DictEntry) (ep:Nat),o.data=.dict es ep/\es.size=kvs.length /\
   ∀ (i:Nat) (k:List Key) (v:V),kvs[i]?=some (k,v)->∃ (en:DictEntry) (q:Addr),es[i]?=some en/\en.key=.ref q/\H q=some ev!:=by
 o!⟨hd,z,hs,xs,pr,o',es,ep,ho,hx,hdt,he,_⟩:=I.cx d _ h;rw[hd] at ho;cases ho;r! ⟨hs,hd,hx,es,ep,hdt,?_,λi k v e=>?_⟩
 ·~l1:es.size=xs.length:=size_of_entries he;~l2:kvs.length=xs.length:=Paired.length pr;w!
 ·o!⟨b,hb,e1,e2,_⟩:=OM pr e;~q:=entry_at he i;rw[hb] at q;e! ⟨_,b.2.1,q,rfl,e2⟩
end
def Y0(d:Addr)(o:Obj)(kvs:List (Key×V)):It :=
 ⟨λi H=>H d=some (.ql o aQ!)/\i < kvs.length,λi H x H'=>H'=H/\∃ k v,kvs[i]?=some (k,v)/\x=kV k,λi H=>H d=some (.ql o aQ!)/\kvs.length<=i⟩
def Y1(d:Addr)(o:Obj)(kvs:List cN!):It :=
 ⟨λi H=>H d=some (.ql o en!)/\i < kvs.length,λi H x H'=>H'=H/\∃ (k:List Key) (v:V) (q:Addr),kvs[i]?=some (k,v)/\x=.ref q/\H q=some ev!,λi H=>H d=some (.ql o en!)/\kvs.length<=i⟩
t! Hg{o:Obj}{es es':Array DictEntry}{ep ep':Nat}(h:o.data=.dict es ep)(h':o.data=.dict es' ep'):es'=es/\ep'=ep:=by
 rw[h] at h';cases h';e! ⟨rfl,rfl⟩
section
variable {P:Program} {w:World} {K:PySem.W.Frag} {tg:Expr} {d:Addr} {o:Obj} {es:Array DictEntry} {ep:Nat}
t! Rx{kvs:List (Key×V)}(it:Addr)(hod:o.data=.dict es ep):Turn P w K tg (Y0 d o kvs) [it] it (λi h=>h.IsKeyIter it d i kvs.length ep) where
 mem:=by simp
 obj:=λi h st b hb=>by
  ~e:b=it:=by simpa using hb
  subst e;o!⟨oi,e,c,dd⟩:=st;e! ⟨oi,e,λv z=>by rw[dd] at z;cases z⟩
 keep:=λi h h' st k=>st.at λoi e=>k it ai! oi e
 item:=by
  intro X hP hw hK hc i pins s σ H E I hf st hg;subst hP hw hK;o!⟨hd,hi⟩:=hg;o!⟨f0,f1,f2,f3,f4,f5⟩:=hf it ai!;o!⟨hs,hgd,hx,es',ep',vs,hdt,hsz,kv,hm⟩:=I.XO hd;o!⟨rfl,rfl⟩:=Hg hod hdt;obtain ⟨⟨k,v⟩,hkv⟩:∃ p,kvs[i]?=some p:=⟨kvs[i],%aW hi⟩;o!⟨u,hu,ru⟩:=XN kv hkv;~hl:kvs.length=vs.length:=Paired.length kv;rw[hl] at st;r! wpAny_pyNext_dict_item st hm hu λkey h' hkey st' sb=>?_
  ~I1:Inv X pins σ H {s with heap:=h'}:=I.turned (t':=s.toks) (λb ob hb e=>(sb.2 b hb).trans e) f0 f1 f3 f4 f5;o!⟨oi,e,c,dd⟩:=id st';r! ⟨key,rfl,Na (s:={s with heap:=h'}) e c dd ag! ⟨kV k,H,I1,TH (show CM k key=true from hkey),⟨rfl,k,v,hkv,rfl⟩,?_,λb hb=>(hf b hb).1⟩⟩;show h'.IsKeyIter it d (i+1) kvs.length _;rw[hl];e! st'
 done:=by
  intro X hP hw hK hc i pins s σ H E I hf st hg;subst hP hw hK;o!⟨hd,hi⟩:=hg;o!⟨f0,f1,f2,f3,f4,f5⟩:=hf it ai!;o!⟨hs,hgd,hx,es',ep',vs,hdt,hsz,kv,hm⟩:=I.XO hd;o!⟨rfl,rfl⟩:=Hg hod hdt;e! CY b4! st hgd hdt hsz hi λh' eb=>⟨rfl,I.turned (t':=s.toks) (λb ob hb e=>eb b ob hb e) f0 f1 f3 f4 f5⟩
 self:=λA i s Q E st h=>wpAny_pyIter_keyiter st h
t! ON{kvs:List cN!}(it:Addr)(hod:o.data=.dict es ep):Turn P w K tg (Y1 d o kvs) [it] it (λi h=>h.IsKeyIter it d i kvs.length ep) where
 mem:=by simp
 obj:=λi h st b hb=>by
  ~e:b=it:=by simpa using hb
  subst e;o!⟨oi,e,c,dd⟩:=st;e! ⟨oi,e,λv z=>by rw[dd] at z;cases z⟩
 keep:=λi h h' st k=>st.at λoi e=>k it ai! oi e
 item:=by
  intro X hP hw hK hc i pins s σ H E I hf st hg;subst hP hw hK;o!⟨hd,hi⟩:=hg;o!⟨f0,f1,f2,f3,f4,f5⟩:=hf it ai!;o!⟨hs,hgd,hx,es',ep',hdt,hsz,ent⟩:=I.XQ hd;o!⟨rfl,rfl⟩:=Hg hod hdt;obtain ⟨⟨k,v⟩,hkv⟩:∃ p,kvs[i]?=some p:=⟨kvs[i],%aW hi⟩;o!⟨en,q,hen,hkey,hq⟩:=ent i k v hkv;r! JW st hgd hdt hsz hen λh' st' sb=>?_
  ~I1:Inv X pins σ H {s with heap:=h'}:=I.turned (t':=s.toks) (λb ob hb e=>(sb.2 b hb).trans e) f0 f1 f3 f4 f5;o!⟨oi,e,c,dd⟩:=id st';e! ⟨en.key,rfl,Na (s:={s with heap:=h'}) e c dd ag! ⟨.ref q,H,I1,hkey,⟨rfl,k,v,q,hkv,rfl,hq⟩,st',λb hb=>(hf b hb).1⟩⟩
 done:=by
  intro X hP hw hK hc i pins s σ H E I hf st hg;subst hP hw hK;o!⟨hd,hi⟩:=hg;o!⟨f0,f1,f2,f3,f4,f5⟩:=hf it ai!;o!⟨hs,hgd,hx,es',ep',hdt,hsz,ent⟩:=I.XQ hd;o!⟨rfl,rfl⟩:=Hg hod hdt;e! CY b4! st hgd hdt hsz hi λh' eb=>⟨rfl,I.turned (t':=s.toks) (λb ob hb e=>eb b ob hb e) f0 f1 f3 f4 f5⟩
 self:=λA i s Q E st h=>by
  r! wpAny_pyIter_slot st.typeIs F.slot_dict_keyiterator_iter (wpAny_call_entry F.slot_dict_keyiterator_iter st.typeIs F.entry_dict_keyiterator_iter ?_ (F.args_dict_keyiterator_iter_1 _));show wpAny _ _ (ret dz!) _ _ s;e! wpAny_pure ⟨_,rfl,"dict_keyiterator",_,st.typeIs,F.slot_dict_keyiterator_next.lookup,h⟩
end
def Y2(td:TE):TI:=fun σ H R=>td σ H λx H1=>∃ d o,x=.ref d/\((∃ kvs,H1 d=some (.ql o aQ!)/\R (Y0 d o kvs) H1)∨∃ kvs,H1 d=some (.ql o en!)/\R (Y1 d o kvs) H1)
section
variable {X:Cx} {tg e:Expr} {td:TE} {apos cpos:Pos}
t! QA(he:PE X e td):PI X tg e (Y2 td):=by
 intro pins s σ H R I h;r! fH bA! λu s1 ⟨x,H1,I1,rx,d,o,ex,q⟩=>?_
 subst ex;obtain rfl:u=%aL d:=rx;rcases q with ⟨kvs,hd,q⟩ | ⟨kvs,hd,q⟩
 ·o!⟨hs,hgd,hx,es,ep,vs,hdt,hsz,kv,hm⟩:=I1.XO hd;r! KH hs hgd hx hdt (HV (tk:=s1.toks) I1 _ (Rx _ hdt) ⟨_,%aA _ rfl,rfl,?_⟩ q);rw[hsz]<;>rfl
 ·o!⟨hs,hgd,hx,es,ep,hdt,hsz,ent⟩:=I1.XQ hd;r! KH hs hgd hx hdt (HV (tk:=s1.toks) I1 _ (ON _ hdt) ⟨_,%aA _ rfl,rfl,?_⟩ q);rw[hsz]<;>rfl
end
t! Ry:bootBuiltins "zip"=some (.type "zip"):=by dk!
def WU(K:%ag)(a b:Addr):It :=
 ⟨λi H=>∃ (xs ys:List V) (x y:V),aX K H a xs/\aX K H b ys/\xs[i]?=some x/\ys[i]?=some y,
  λi H v H'=>∃ T x y,v=.ref T/\H T=none/\H'=upd H T fE!/\(∀ xs,aX K H a xs->xs[i]?=some x)/\∀ ys,aX K H b ys->ys[i]?=some y,
  λi H=>∃ xs ys:List V,aX K H a xs/\aX K H b ys/\(xs.length<=i∨ys.length<=i)⟩
t! TJ{P:Program}{w:World}{K:%ag}{elts:List Expr}{kk:Nat}{tpos:Pos}{a b z TI TO i1 i2:Addr}(D:ZipApart z TI TO i1 i2 a b) :
  Turn P w K (.Tuple elts kk tpos) (WU K a b) [z,TI,TO,i1,i2] z (λi h=>IsZip h z TI TO .none/\IsPair h TI (.ref i1) (.ref i2)/\(∃ x y,IsPair h TO x y)/\h.IsListIter i1 a i/\h.IsListIter i2 b i) where
 mem:=by simp
 obj:=λi h st c hc=>by
  o!⟨hz,hTI,⟨x,y,hTO⟩,⟨o1,e1,_,d1⟩,⟨o2,e2,_,d2⟩⟩:=st;~e':c=z∨c=TI∨c=TO∨c=i1∨c=i2:=by simpa using hc
  rcases e' with q | q | q | q | q
  ·rw[q];e! ⟨_,hz,λv q=>nomatch q⟩
  ·rw[q];e! ⟨_,hTI,λv q=>nomatch q⟩
  ·rw[q];e! ⟨_,hTO,λv q=>nomatch q⟩
  ·rw[q];e! ⟨o1,e1,λv q=>by rw[d1] at q;cases q⟩
  ·rw[q];e! ⟨o2,e2,λv q=>by rw[d2] at q;cases q⟩
 keep:=λi h h' st k=>by
  o!⟨hz,hTI,⟨x,y,hTO⟩,h1,h2⟩:=st;e! ⟨k z ai! _ hz,k TI ai! _ hTI,⟨x,y,k TO ai! _ hTO⟩,h1.at λo q=>k i1 ai! o q,h2.at λo q=>k i2 ai! o q⟩
 item:=by
  intro X hP hw hK hc i pins s σ H E I hf st hg;subst hP hw hK;o!⟨hz,hTI,⟨x0,y0,hTO⟩,h1,h2⟩:=st;o!⟨xs,ys,x,y,hqx,hqy,hx,hy⟩:=hg;o!⟨its,rv,p,_⟩:=I.list hqx;o!⟨its2,rv2,p2,_⟩:=I.list hqy;o!⟨u,hu,ru⟩:=rv.get hx;o!⟨u2,hu2,ru2⟩:=rv2.get hy;~hzl:z < s.heap.objs.size:=%av hz;r! wpAny_pyNext_zip_item D hz hTI hTO h1 h2 p.isList p2.isList (x:=u) (y:=u2) (by simpa using hu) (by simpa using hu2) λh' z' TO' h1' h2' hT hsz hk=>?_
  r! ⟨_,rfl,wpAny_letOwnedTupleGo_zip (s:={s with heap:=h'}) z' λh'' z'' sb=>?_⟩;~hT2:h''.get? s.heap.objs.size=some {cls:=.type "tuple",data:=.seq #[u,u2]}:=(sb.2 _ (Nat.ne_of_gt hzl)).trans hT;~new:eS X.prog X.w (upd H s.heap.objs.size fE!) h'' s.heap.objs.size fE! :=
   ⟨by show 2<=sizeLine;decide,[u,u2],.cons ru (.cons ru2 .nil),⟨_,hT2,rfl,_,rfl⟩⟩
  ~I1:Inv X pins σ (upd H s.heap.objs.size fE!) {s with heap:=h''} :=
   I.Rw (t':=s.toks) (ch:=[z,TI,TO,i1,i2]) (λc o hb q=>(sb.2 c bf!).trans (hk c o bf! bf! bf! bf! q)) hf gn! new
  r! ⟨.ref s.heap.objs.size,_,I1,rfl,⟨_,x,y,rfl,I.cx.fresh (%am _),rfl,λl hl=>by rw[I.CP hl hqx];e! hx,λl hl=>by rw[I.CP hl hqy];e! hy⟩,⟨z'',?_,⟨u,u2,?_⟩,?_,?_⟩,λc hcm=>?_⟩
  ·e! (sb.2 _ D.TIz).trans (hk _ _ D.TIz D.TITO D.TIi1 D.TIi2 hTI)
  ·e! (sb.2 _ D.TOz).trans TO'
  ·e! h1'.at λo q=>(sb.2 _ D.i1z).trans q
  ·e! h2'.at λo q=>(sb.2 _ D.i2z).trans q
  ·~hlt:c < s.heap.objs.size:=by
    ~e':c=z∨c=TI∨c=TO∨c=i1∨c=i2:=by simpa using hcm
    rcases e' with q | q | q | q | q
    ·rw[q];e! hzl
    ·rw[q];e! %av hTI
    ·rw[q];e! %av hTO
    ·rw[q];obtain ⟨_,e1,_⟩:=h1;e! %av e1
    ·rw[q];obtain ⟨_,e2,_⟩:=h2;e! %av e2
   rw[ai (%aJ hlt)];e! (hf c hcm).1
 done:=by
  intro X hP hw hK hc i pins s σ H E I hf st hg;subst hP hw hK;o!⟨hz,hTI,⟨x0,y0,hTO⟩,h1,h2⟩:=st;o!⟨xs,ys,hqx,hqy,hend⟩:=hg;o!⟨its,rv,p,_⟩:=I.list hqx;o!⟨its2,rv2,p2,_⟩:=I.list hqy;~l1:=rv.length;~l2:=rv2.length;~he:its.toArray[i]?=none∨its2.toArray[i]?=none:=by
   rcases hend with q | q
   ·e! .inl dl!
   ·e! .inr dl!
  e! wpAny_pyNext_zip_end b4! D hz hTI hTO h1 h2 p.isList p2.isList he λh' hk=>⟨rfl,I.VL (t':=s.toks) (ch:=[z,TI,TO,i1,i2]) (λc o hb q =>
   hk c o bf! bf! bf! bf! q) hf⟩
 self:=λA i s Q E st h=>wpAny_pyIter_zip st.1 h
def Y3(K:%ag)(ta:TA):TI:=fun σ H R=>ta σ H λvs H1=>∃ a b xs ys,vs=[.ref a,.ref b]/\aX K H1 a xs/\aX K H1 b ys/\R (WU K a b) H1
t! OO{X:Cx}{e e2:Expr}{ta:TA}{p pos tpos:Pos}{elts:List Expr}{kk:Nat}(hg:Gl X "zip")(hm:X.mg "zip"=none)(ha:PA X [e,e2] ta)
  (hs:starEach [e,e2] X.env=a0!::starEach [e2] X.env:=by rfl) (hpl:(backTo pos (starEach [e2] X.env)).any (·.1)=false:=by rfl) :
  PI X (.Tuple elts kk tpos) (.Call (.Name "zip" p) [e,e2] [] pos) (Y3 X.K ta):=by
 intro pins s σ H R I h;r! Call_ (Hz I hg hm Ry (PyProof.Rows.callWith_type1 (fH b8! λus s1 ⟨vs,H1,I1,r1,q1⟩=>?_) hs hpl));o!⟨a,b,xs,ys,ex,hqx,hqy,q⟩:=q1;subst ex;cases r1 with
 | cons r rr =>
  cases rr with
  | cons r' rr =>
   cases rr;cases r;cases r';o!⟨its,rv,p1,_⟩:=I1.list hqx;o!⟨its2,rv2,p2,_⟩:=I1.list hqy;~la:a < s1.heap.objs.size:=p1.lt;~lb:b < s1.heap.objs.size:=p2.lt;r! call_zip_2 p1.isList p2.isList λh' hz hTI hTO h1 h2 hsz hk=>wpAny_pyIter_zip hz ?_
   ~I2:Inv X pins σ H1 {s1 with heap:=h'}:=I1.kept (t':=s1.toks) hk;r! ⟨s1.heap.objs.size+4,[s1.heap.objs.size+4,s1.heap.objs.size+2,s1.heap.objs.size+3,s1.heap.objs.size,s1.heap.objs.size+1],_,_,H1,rfl,I2,TJ (PySem.W.ktu_apart s1.heap.objs.size a b la lb),⟨hz,hTI,⟨_,_,hTO⟩,h1,h2⟩,λc hcm=>?_,q⟩;~e':c=s1.heap.objs.size+4∨c=s1.heap.objs.size+2∨c=s1.heap.objs.size+3∨c=s1.heap.objs.size∨c=s1.heap.objs.size+1:=by simpa using hcm
   ~hle:s1.heap.objs.size<=c:=by
    rcases e' with z | z | z | z | z
    ·rw[z];e! %cH _ _
    ·rw[z];e! %cH _ _
    ·rw[z];e! %cH _ _
    ·rw[z];e! %am _
    ·rw[z];e! %cH _ _
   e! I1.Tc hle (I1.cx.fresh hle)
end L2
section
namespace za7
open PySem PyProof.Rows
end za7
end
section
namespace TL
open PySem PySem.Builtin PySem.Builtin.Str PySem.StrLaws
abbrev tl(x:Str):List Nat:=x.cps.toList
t! XR{x y:Str}(h:tl x=tl y):x=y:=Str.ext' (Array.toList_inj.mp h)
t! KJ(x y:Str):tl (x++y)=tl x++tl y:=by
 show (x++y).cps.toList=_;rw[Str.cps_append,Array.toList_append]
def Nt(S:List Nat):List (List Nat)->List Nat
 | []=>[]
 | [p]=>p
 | p::q::r=>p++(S++Nt S (q::r))
t! QB(y:Str):∀ parts:List Str,tl (Str.join y parts)=Nt (tl y) (parts.map tl)
 | []=>rfl
 | [_]=>rfl
 | x::z::r=>by
  show tl (x++y++Str.join y (z::r))=tl x++(tl y++Nt (tl y) ((z::r).map tl));rw[KJ,KJ,QB y (z::r),%cD]
t! join_eq(y:Str)(parts:List Str):Txt.join y parts=Str.join y parts:=glued_eq_join y parts
end TL
end
namespace L2
open PySem PySem.Spec PyProof.Rows
t! wM:∀ {ys:List Str} {us:List Value},Vals fk! us->StrsAre us ys
 | [],_,.nil=>.nil
 | y::ys,_,.cons r t=>by
  o!⟨k,rfl⟩:=r;e! .cons y k (wM t)
section
variable {X:Cx} {pins:List (Addr×Obj)} {σ:St} {H:Hp} {s:Shared} {Q:VK}
end
section
variable {X:Cx}
t! VM:Tr X "str.join" (λx xs H Q=>∃ a p,∃ ys:List Str,x=.str a/\xs=[.ref p]/\(aX X.K H p fk!∨JQ X.K H p fk!) /\
  (ys.map (·.length)).sum+ys.length * a.length<=16777216/\Q (.str (Txt.join a ys)) H):=by
 intro pins s σ H x xs v us Q I rx rs h;o!⟨a,p,ys,rfl,rfl,hp,hz,h⟩:=h;o!⟨t,rfl⟩:=rx;cases rs with
 | cons r1 rs =>
  cases rs;cases r1;rcases hp with hp | hp
  ·o!⟨its,r,⟨o,n,ho,hc,_,hd⟩,_⟩:=I.list hp;e! PyProof.Rows.join_list (items:=its.toArray) ⟨o,ho,hc,n,hd⟩ (by rw[List.toList_toArray];e! wM r) hz λt' k=>⟨.str _,H,I.tok k,⟨t',rfl⟩,h⟩
  ·o!⟨its,r,ht,_⟩:=I.tuple hp;e! PyProof.Rows.join_tuple (items:=its.toArray) ht (by rw[List.toList_toArray];e! wM r) hz λt' k=>⟨.str _,H,I.tok k,⟨t',rfl⟩,h⟩
t! mt0{id:String}{C:Str->Prop}{g:Str->V}(rule:∀ (a:Str) (t:Tok) (s:Shared) (Q:Value->Shared->Prop),C a->(∀ (u:Value) (k:Nat),RelV (g a) u->Q u {s with toks:=k}) ->
  wpAny af! X.A (call cw! [.str a t]) Q X.xe s):Tr X id (λx xs H Q=>∃ a,x=.str a/\xs=[]/\C a/\Q (g a) H):=by
 intro pins s σ H x xs v us Q I rx rs h;o!⟨a,rfl,rfl,hc,h⟩:=h;o!⟨t,rfl⟩:=rx;cases rs;e! rule a t s _ hc λu k r=>⟨g a,H,I.tok k,r,h⟩
t! HW:Tr X "str.isdigit" (λx xs H Q=>∃ a,x=.str a/\xs=[]/\True/\Q (.bl (Txt.isdigit a)) H) :=
 mt0 (C:=λ_=>True) (g:=λa=>.bl (Txt.isdigit a)) λ_ _ s _ _ h=>PySem.SC.isdigit (h _ s.toks rfl)
t! OP:Tr X "str.isalpha" (λx xs H Q=>∃ a,x=.str a/\xs=[]/\True/\Q (.bl (Txt.isalpha a)) H) :=
 mt0 (C:=λ_=>True) (g:=λa=>.bl (Txt.isalpha a)) λ_ _ s _ _ h=>PySem.SC.isalpha (h _ s.toks rfl)
t! mt1{id:String}{g:Str->Str->V}(rule:∀ (a b:Str) (t u:Tok) (s:Shared) (Q:Value->Shared->Prop),(∀ (v:Value) (k:Nat),RelV (g a b) v->Q v {s with toks:=k}) ->
  wpAny af! X.A (call cw! [.str a t,.str b u]) Q X.xe s):Tr X id (λx xs H Q=>∃ a b,x=.str a/\xs=[.str b]/\Q (g a b) H):=by
 intro pins s σ H x xs v us Q I rx rs h;o!⟨a,b,rfl,rfl,h⟩:=h;o!⟨t,rfl⟩:=rx;cases rs with
 | cons r1 rs =>
  cases rs;o!⟨u,rfl⟩:=r1;e! rule a b t u s _ λv k r=>⟨g a b,H,I.tok k,r,h⟩
t! JX:Tr X "str.startswith" (λx xs H Q=>∃ a b,x=.str a/\xs=[.str b]/\Q (.bl (Txt.startswith a b)) H) :=
 mt1 (g:=λa b=>.bl (Txt.startswith a b)) λ_ _ _ _ s _ h=>PySem.SC.startswith (h _ s.toks rfl)
t! wN:sf X (.type "int") (λxs H Q=>∃ a n,xs=[.str a]/\PySem.intText? a=some n/\a.length<=640/\Q (.int n) H):=by
 intro pins s σ H xs us Q I rs h;o!⟨a,n,rfl,hn,hl,h⟩:=h;cases rs with
 | cons r1 rs =>
  cases rs;o!⟨t,rfl⟩:=r1;e! PySem.W.KIN.call_text hn hl ⟨.int n,H,I.tok _,⟨_,rfl⟩,h⟩
end
section
variable {X:Cx} {o e:Expr} {to te:TE}
def tM0(r:V->List V->Hp->VK->Prop)(to:TE):TE:=fun σ H Q=>to σ H λx H1=>(∃ a,x=.str a)/\r x [] H1 Q
def tM1(r:V->List V->Hp->VK->Prop)(to te:TE):TE:=fun σ H Q=>to σ H λx H1=>(∃ a,x=.str a)/\te σ H1 λy H2=>r x [y] H2 Q
t! TK{id:String}{name:Str}{apos pos:Pos}{r:V->List V->Hp->VK->Prop}(slot:Slot "str" name id)(ty:typeOf cw!=pure dC!)(rule:Tr X id r)(ho:PE X o to)
  (hbase:attributeBase o name X.env eA!=eval o X.env:=by rfl) (hline:e6!=true:=by rfl):PE X (.Call d6! [] [] pos) (tM0 r to):=by
 intro pins s σ H Q I h;r! PySem.Call_method0 hbase hline (fH cd! λv s1 ⟨x,H1,I1,r1,q1⟩=>?_);o!⟨⟨a,rfl⟩,q1⟩:=q1;o!⟨t,rfl⟩:=_root_.id r1;e! ⟨"str",_,F.plainAttrs_str,slot,ty,typeIs_str _ _ _,(λ_ e=>nomatch e),%bN rfl (PySem.evalArgs_none (rule pins s1 σ H1 _ [] _ [] Q I1 r1 .nil q1))⟩
t! WV{id:String}{name:Str}{apos pos:Pos}{r:V->List V->Hp->VK->Prop}(slot:Slot "str" name id)(ty:typeOf cw!=pure dC!)(rule:Tr X id r)(ho:PE X o to)(he:PE X e te)
  (hs:starEach [e] X.env=[a0!]:=by rfl) (hbase:attributeBase o name X.env eA!=eval o X.env:=by rfl) (hline:e6!=true:=by rfl) :
  PE X (.Call d6! [e] [] pos) (tM1 r to te):=by
 intro pins s σ H Q I h;r! PySem.Call_method1 hbase hs hline (fH cd! λv s1 ⟨x,H1,I1,r1,q1⟩=>?_);o!⟨⟨a,rfl⟩,q1⟩:=q1;o!⟨t,rfl⟩:=_root_.id r1;r! ⟨"str",_,F.plainAttrs_str,slot,ty,typeIs_str _ _ _,(λ_ e=>nomatch e),%bN rfl (Calls.evalArgs_plain (%cx ?_))⟩;e! fH (he pins s1 σ H1 _ I1 q1) λu s2 ⟨y,H2,I2,r2,q2⟩=>Calls.spliced_nil (rule pins s2 σ H2 _ [y] _ [u] Q I2 r1 (.cons r2 .nil) q2)
t! VN{apos pos:Pos}(ho:PE X o to)(he:PE X e te)(hs:starEach [e] X.env=[a0!]:=by rfl)(hbase:attributeBase o "join" X.env eA!=eval o X.env:=by rfl)(hline:e6!=true:=by rfl) :
  PE X (.Call (.Attribute o "join" apos) [e] [] pos) (tM1 (λx xs H Q=>∃ a p,∃ ys:List Str,x=.str a/\xs=[.ref p]/\(aX X.K H p fk!∨JQ X.K H p fk!) /\
   (ys.map (·.length)).sum+ys.length * a.length<=16777216/\Q (.str (Txt.join a ys)) H) to te) :=
 WV F.slot_str_join F.type_str_join VM ho he hs hbase hline
end
end L2
namespace L2
open PySem PySem.Spec PyProof.Rows
section
variable {X:Cx}
t! JY:M1 X (compareOp .NotIn) (λx y H Q=>∃ (c:Nat) (z:Str),x=.str ⟨#[c]⟩/\y=.str z/\Q (.bl (!decide (c∈z.cps.toList))) H):=by
 intro pins s σ H x y v u Q I rx ry h;o!⟨c,z,rfl,rfl,q⟩:=h;o!⟨t,rfl⟩:=rx;o!⟨t',rfl⟩:=ry;e! PyProof.Rows.notIn_str (cQ I q (congrArg Bool.not (PySem.StrLaws.found_one z c).symm))
end
t! IsPart.raw{v:Value}{o:Option Int}(p:IsPart v o):∃ l:Option (Int×Tok),v=partValue l/\l.map (·.1)=o:=by
 cases p with
 | none=>e! ⟨none,rfl,rfl⟩
 | int i t=>e! ⟨some (i,t),rfl,rfl⟩
def Nu(n d:Nat):Option Int->Int
 | none=>(d:Int)
 | some i=>max 0 (min (if i < 0 then i+(n:Int) else i) (n:Int))
t! Nv(n d:Nat)(o:Option Int):Nu n d o=((HT.qT n d o:Nat):Int):=by
 cases o with
 | none=>rfl
 | some v =>
  show max (0:Int) (min (if v < 0 then v+(n:Int) else v) (n:Int))=(((if v < 0 then (v+(n:Int)).toNat else min v.toNat n):Nat):Int);by_cases hv:v < 0
  ·simp only[if_pos hv];w!
  ·simp only[if_neg hv];w!
t! Rz(a b:Option Int)(n:Nat):%bh a b 1 n=sliceRange (Nu n 0 a) (Nu n n b) 1:=by
 ~h1:((1:Int) > 0)=True:=by simp
 cases a<;>cases b<;>first
  | rfl
  | (simp only[Builtin.Str.strSliceIndices,Nu,h1,if_true];rfl)
  | simp[Builtin.Str.strSliceIndices,Nu]
t! za8(a b:Option Int)(n:Nat):%bh a b 1 n=(List.range (HT.qT n n b - HT.qT n 0 a)).map (λk=>HT.qT n 0 a+k):=by
 rw[Rz,Nv,Nv];generalize HT.qT n 0 a=p;generalize HT.qT n n b=q;simp only[sliceRange,show ((1:Int) > 0)=True from by simp,if_true];by_cases hlt:(p:Int) < q
 ·~e3:(((q:Int) - p+1 - 1) / 1).toNat=q - p:=by first | w! | (simp;done) | (simp;w!)
  simp only[hlt,if_true,e3];r! %bZ λk _=>?_
  w!
 ·have:q - p=0:=by w!
  simp[hlt,this]
def OQ(z:Str)(lo hi:Option Int):Str :=
 ⟨((z.cps.toList.drop cn!).take (HT.qT z.length z.length hi - HT.qT z.length 0 lo)).toArray⟩
t! A6(z:Str)(lo hi:Option Int):%cc z lo hi=OQ z lo hi:=by
 ~h1:HT.qT z.length 0 lo<=z.length:=HT.To _ _ (%aE _) _;~h2:HT.qT z.length z.length hi<=z.length:=HT.To _ _ (%am _) _;~hp:HT.qT z.length 0 lo<=max cn! cz!:=Nat.le_max_left _ _;~hq:max cn! cz!<=z.length:=Nat.max_le.mpr ⟨h1,h2⟩;~hd:max cn! cz! - HT.qT z.length 0 lo=HT.qT z.length z.length hi - HT.qT z.length 0 lo:=by w!
 ~e:%bh lo hi 1 z.length =
   %bh (some ((HT.qT z.length 0 lo:Nat):Int)) (some ((max cn! cz!:Nat):Int)) 1 z.length:=by
  rw[PySem.StrLaws.strSliceIndices_plain hp hq,hd,za8]
 ~e2:%cc z lo hi =
   %cc z (some ((HT.qT z.length 0 lo:Nat):Int)) (some ((max cn! cz!:Nat):Int)):=by
  unfold PySem.StrLaws.sliceText;rw[e]
 rw[e2,PySem.StrLaws.sliceText_nat z hp hq,hd];rfl
t! Nw(z:Str)(lo hi:Option Int):(OQ z lo hi).length<=z.length:=by
 show (((z.cps.toList.drop cn!).take (HT.qT z.length z.length hi - HT.qT z.length 0 lo)).toArray).size<=z.cps.size;rw[%aG,%aH,%aU,%cr];w!
def Y4:V->Option Int->Option Int->Hp->VK->Prop:=λx lo hi H Q=>∃ z,x=.str z/\z.length<=sizeLine/\Q (.str (OQ z lo hi)) H
t! TM{X:Cx}:ZT X Y4:=by
 intro pins s σ H x v vl vu lo hi sl Q I rx hs pl pu h;o!⟨z,rfl,hz,q⟩:=h;o!⟨t,rfl⟩:=rx;o!⟨os,hos,hcs,hds⟩:=hs;o!⟨l,rfl,rfl⟩:=IsPart.raw pl;o!⟨u,rfl,rfl⟩:=IsPart.raw pu;r! ⟨"str",_,F.slot_str_getitem.lookup,typeIs_str _ _ _,?_⟩;r! wpAny_getItem_str_slice (l:=l) (u:=u) (st:=none) ⟨os,hos,hcs,hds⟩ rfl ?_;~hl:(%cc z (l.map (·.1)) (u.map (·.1))).length<=sizeLine:=by
  rw[A6];e! %aj (Nw z _ _) hz
 rw[←A6] at q;unfold PySem.StrLaws.sliceText at q hl;show Made.post (if ((1:Int) == 1 && (%bh (l.map (·.1)) (u.map (·.1)) 1 z.length).length == z.length)=true then Made.val (.str z t)
  else Made.str ⟨((%bh (l.map (·.1)) (u.map (·.1)) 1 z.length).filterMap (z.cps[·]?)).toArray⟩) bD! s
 by_cases c:((1:Int) == 1 && (%bh (l.map (·.1)) (u.map (·.1)) 1 z.length).length == z.length)=true
 ·rw[if_pos c] at q ⊢;e! ⟨.str z,H,I,⟨t,rfl⟩,q⟩
 ·rw[n! c] at q hl ⊢;e! ⟨hl,.str _,H,I.tok _,⟨_,rfl⟩,q⟩
end L2
namespace Att
open PySem PySem.W PySem.Calls PyProof.Rows
section
variable {prog:Program} {w:World} {A:Around} {E:Value->Shared->Prop} {s:Shared} {K:Frag}
end
end Att
namespace L2
open PySem PySem.Spec PyProof.Rows
end L2
namespace L2
open PySem PySem.Spec PyProof.Rows
end L2
namespace L2
open PySem PySem.Spec PyProof.Rows
def inClass(s:Stmt)(j:Nat):Stmt:=match s with
 | .ClassDef _ _ _ body _ _ _ _ _ _ _=>body.getD j (.Pass ⟨0,0,0,0⟩)
 | _=>.Pass ⟨0,0,0,0⟩
def rb(s:Stmt):Arguments:=match s with
 | .FunctionDef _ a _ _ _ _ _ _ _ _=>a
 | _=>{posonlyargs:=[],args:=[],vararg:=none,kwonlyargs:=[],kw_defaults:=[],kwarg:=none,defaults:=[]}
def kX(s:Stmt):List Stmt:=match s with
 | .FunctionDef _ _ b _ _ _ _ _ _ _=>b
 | _=>[]
def au(s:Stmt):Scope:=match s with
 | .FunctionDef _ _ _ _ _ _ sc _ _ _=>sc
 | _=>{kind:=.function,names:=[],isGenerator:=false,isCoroutine:=false}
abbrev Yt:M3:=λ_ _ _ _ _ _=>False
abbrev E0:XK:=λ_ _ _=>False
t! aM{X:Cx}:Passes Yt X E0:=λ_ _ _ _ _ _ _ h=>h.elim
structure Fun (K:PySem.W.Frag) (x qual:Str) (st:Stmt) (f:Addr) (fd:FuncData):Prop where
 ex:∃ (oc:Value) (od:Option Addr) (kV doc pm:Value) (an:Option Addr) (cdv ct:Value) (osl:Array cr!),
  fd=%bz x qual (rb st) (kX st) (au st) .none kV doc pm an cdv ct/\K.lookup f=some ⟨oc,od,.func fd,osl⟩/\%bV K cdv qual=true
 kp:%aR K (.ref f)=true
section
variable {P:Program} {w:World} {K:PySem.W.Frag} {mg:Str->Option Value} {base:Heap}
t! Fun.ok{x qual:Str}{st:Stmt}{f:Addr}{fd:FuncData}{N ps:List Str}{k:Nat}{sp:Sp}(F:Fun K x qual st f fd)(S:ax N ps (au st))(len:∀ vs H Q E,sp vs H Q E->vs.length=ps.length)
  (hbody:∀ (cdv:Value) (A:Around) (outer:List Env) (s:Shared) (H:Hp) (vs:List V) (Q:VK) (E:XK),mB k (A.deeper (envOfC qual (au st) s.heap.objs.size f cdv))->sp vs H Q E ->
   ∃ t,MZ (gp Yt P w K mg base N qual (au st) f cdv A outer s H E).Zp (kX st) t/\t {nx:=λ_ H'=>Q .fK H',rt:=Q} fn! H):FB! (k+1) f fd ps sp:=by
 o!⟨oc,od,kV,doc,pm,an,cdv,ct,osl,rfl,lk,hcd⟩:=F.ex;r! WO lk hcd S len λA outer s H vs Q E hr hsp=>?_
 o!⟨t,h,q⟩:=hbody cdv A outer s H vs Q E hr hsp;e! ⟨t,h.Zp,q⟩
t! Fun.binds{x qual:Str}{st:Stmt}{f:Addr}{fd:FuncData}{ps:List Str}(F:Fun K x qual st f fd)
  (h:∀ (kV doc pm:Value) (an:Option Addr) (cdv ct:Value) (us:List Value),us.length=ps.length->bindArgs aO! ⟨us,[]⟩=pure eE!):Binds K fd ps []:=by
 o!⟨oc,od,kV,doc,pm,an,cdv,ct,osl,rfl,lk,hcd⟩:=F.ex;e! .all (h kV doc pm an cdv ct)
t! TN{x qual:Str}{st:Stmt}{f:Addr}{oc:Value}{od an:Option Addr}{osl:Array cr!}{kV doc pm cdv ct:Value}(l:K.lookup f=some ⟨oc,od,.func aO!,osl⟩)
  (c:%bV K cdv qual=true) (k:%aR K (.ref f)=true):Fun K x qual st f aO!:=⟨⟨oc,od,kV,doc,pm,an,cdv,ct,osl,rfl,l,c⟩,k⟩
end
t! nN{A:Around}{k:Nat}(hr:mB k A):A.units+1 < cLine:=%ai (%bx (by decide:1<=64) _) hr.units
section
variable {X:Cx}
t! pv(i:Nat){x:Str}{pos:Pos}(hN:X.N[i]?=some x:=by rfl)(hv:YA X.env.scope x:=by first | exact %au rfl | exact Or.inr al! | exact Or.inr gv!)(hd:aE!=false:=by decide)
  (hcd:(x == ("__classdict__":Str))=false:=by decide):PE X er! (i7 i):=Xg hN hv hd hcd
end
t! bY{A B:Prop}(h:B):if false=true then A else B:=by
 rw[n! %ao];e! h
t! bO{A B:Prop}(h:A):if true=true then A else B:=by
 rw[if_pos rfl];e! h
def bc(H H':Hp):Prop:=∀ b o,H b=some o->H' b=some o
t! bc.refl(H:Hp):bc H H:=λ_ _ h=>h
t! bc.trans{H H1 H2:Hp}(a:bc H H1)(b:bc H1 H2):bc H H2:=λc o h=>b c o (a c o h)
t! bc.free{H H':Hp}(e:bc H H'){l:Addr}(h:H' l=Option.none):H l=Option.none:=by
 cases q:H l with
 | none=>rfl
 | some o =>
  rw[e l o q] at h;cases h
t! bc.seq{K:%ag}{H H':Hp}{a:Addr}{xs:List V}(e:bc H H')(h:aX K H a xs):aX K H' a xs:=by
 rcases h with (h | ⟨o,h⟩) | h
 ·e! .inl (.inl (e _ _ h))
 ·e! .inl (.inr ⟨o,e _ _ h⟩)
 ·e! .inr h
section
variable {κ:Type} [DecidableEq κ]
end
end L2
section
namespace L2
open PySem PySem.Spec PyProof.Rows
open PySem.W (WData Codec OpenSpec Well WellAll ReadsW ReadsAllW)
mutual
inductive Dw (K:PySem.W.Frag) (H:Hp):V->WData->Prop
 | fK:Dw K H .fK .none
 | bl (b:Bool):Dw K H (.bl b) (.bool b)
 | int (i:Int):Dw K H (.int i) (.int i)
 | str (x:Str):Dw K H (.str x) (.str x)
 | MY (b:Array UInt8):Dw K H (.MY b) (.bytes b.toList)
 | lst {a:Addr} {xs:List V} {ds:List WData}:aX K H a xs->yf K H xs ds->Dw K H (.ref a) (.list ds)
 | tup {a:Addr} {xs:List V} {ds:List WData}:JQ K H a xs->yf K H xs ds->Dw K H (.ref a) (.tuple ds)
inductive yf (K:PySem.W.Frag) (H:Hp):List V->List WData->Prop
 | nil:yf K H [] []
 | cons {v:V} {vs:List V} {d:WData} {ds:List WData}:Dw K H v d->yf K H vs ds->yf K H (v::vs) (d::ds)
end
t! QC{K:%ag}{H:Hp}:∀ ns:List Int,yf K H (ns.map V.int) (ns.map WData.int)
 | []=>.nil
 | n::r=>.cons (.int n) (QC r)
t! QD{K:%ag}{H:Hp}:∀ (ns:List Int) (xs:List V),yf K H xs (ns.map WData.int)->xs=ns.map V.int
 | [],xs,h=>by
  cases h;rfl
 | n::r,xs,h=>by
  cases h with
  | cons h1 h2 =>
   cases h1;rw[QD r _ h2]<;>rfl
section
variable {P:Program} {w:World} {K:PySem.W.Frag} {H:Hp} {h:Heap} {R:PySem.W.WRecords} {cl:Str->Option Addr}
t! XS{a:Addr}{xs:List V}(cx:yc P w H h)(KX:K.In h)(q:aX K H a xs):∃ (its:List Value) (o:Obj) (n:Nat),Vals xs its/\h.get? a=some o/\o.cls=.type "list"/\o.data=.seq its.toArray n:=by
 rcases q with q | ⟨o,its,n,e,hc,_,hd,_,hv⟩
 ·o!⟨_,its,n,hv,e⟩:=(show eS P w H h a da! from q.ok cx);e! ⟨its,_,n,hv,e,rfl,rfl⟩
 ·e! ⟨its.toList,o,n,hv,KX _ _ e,hc,by simp[hd]⟩
t! XT{a:Addr}{xs:List V}(cx:yc P w H h)(KX:K.In h)(q:JQ K H a xs):∃ (its:List Value) (o:Obj) (n:Nat),Vals xs its/\h.get? a=some o/\o.cls=.type "tuple"/\o.data=.seq its.toArray n:=by
 rcases q with q | ⟨o,its,n,e,hc,hd,_,hv⟩
 ·o!⟨_,its,hv,o,e,hc,n,hd⟩:=(show eS P w H h a d4! from q.ok cx);e! ⟨its,o,n,hv,e,hc,hd⟩
 ·e! ⟨its.toList,o,n,hv,KX _ _ e,hc,by simp[hd]⟩
mutual
t! Dw.reads(cx:yc P w H h)(KX:K.In h):∀ (d:WData) (v:V) (u:Value),Dw K H v d->RelV v u->∃ as,ReadsW R cl h u d as
 | .none,_,_,x,r=>by
  cases x;cases r;e! ⟨_,ReadsW.none⟩
 | .bool b,_,_,x,r=>by
  cases x;cases r;e! ⟨_,ReadsW.bool b⟩
 | .int i,_,_,x,r=>by
  cases x;o!⟨t,rfl⟩:=r;e! ⟨_,ReadsW.int i t⟩
 | .str s,_,_,x,r=>by
  cases x;o!⟨t,rfl⟩:=r;e! ⟨_,ReadsW.str s t⟩
 | .bytes b,_,_,x,r=>by
  cases x;o!⟨t,rfl⟩:=r;e! ⟨_,ReadsW.bytes _ t⟩
 | .list ds,_,_,x,r=>by
  cases x with
  | lst hs ha =>
   cases r;o!⟨its,o,n,rv,ho,hc,hd⟩:=XS cx KX hs;o!⟨as,hr⟩:=Dw.readsAll cx KX ds _ its ha rv;e! ⟨_,ReadsW.list ho hc hd hr⟩
 | .tuple ds,_,_,x,r=>by
  cases x with
  | tup hs ha =>
   cases r;o!⟨its,o,n,rv,ho,hc,hd⟩:=XT cx KX hs;o!⟨as,hr⟩:=Dw.readsAll cx KX ds _ its ha rv;e! ⟨_,ReadsW.tuple ho hc hd hr⟩
 | .float _,_,_,x,_=>by cases x
 | .dict _,_,_,x,_=>by cases x
 | .bytearray _,_,_,x,_=>by cases x
 | .set _,_,_,x,_=>by cases x
 | .frozenset _,_,_,x,_=>by cases x
 | .obj _ _,_,_,x,_=>by cases x
t! Dw.readsAll(cx:yc P w H h)(KX:K.In h):∀ (ds:List WData) (vs:List V) (us:List Value),yf K H vs ds->Vals vs us->∃ as,ReadsAllW R cl h us ds as
 | [],_,_,x,r=>by
  cases x;cases r;e! ⟨_,ReadsAllW.nil⟩
 | d::ds,_,_,x,r=>by
  cases x with
  | cons h1 h2 =>
   cases r with
   | cons r1 r2 =>
    o!⟨as,q1⟩:=Dw.reads cx KX d _ _ h1 r1;o!⟨bs,q2⟩:=Dw.readsAll cx KX ds _ _ h2 r2;e! ⟨_,ReadsAllW.cons q1 q2⟩
end
end
mutual
def QE:WData->Bool
 | .none=>true
 | .bool _=>true
 | .int _=>true
 | .str _=>true
 | .bytes _=>true
 | .list xs=>Gu xs
 | .tuple xs=>Gu xs
 | _=>false
def Gu:List WData->Bool
 | []=>true
 | x::r=>QE x && Gu r
end
t! Ny{α:Type}{f:α->WData}(h:∀ a,QE (f a)=true):∀ l:List α,Gu (l.map f)=true
 | []=>rfl
 | x::r=>by
  show (QE (f x) && Gu (r.map f))=true;rw[h x,Ny h r]<;>rfl
t! yR:∀ (c:Codec) (a:c.denote),QE (c.enc a)=true
 | .unit,_=>rfl
 | .bool,_=>rfl
 | .int _ _,_=>rfl
 | .nat _ _,_=>rfl
 | .u8,_=>rfl
 | .bytes _ _,_=>rfl
 | .text _ _ _ _,_=>rfl
 | .list _ _ c,a=>Ny (λx=>yR c x) a
 | .pair c d,a=>by
  show (QE (c.enc a.1) && (QE (d.enc a.2) && true))=true;rw[yR c a.1,yR d a.2]<;>rfl
 | .triple c d e,a=>by
  show (QE (c.enc a.1) && (QE (d.enc a.2.1) && (QE (e.enc a.2.2) && true)))=true;rw[yR c a.1,yR d a.2.1,yR e a.2.2]<;>rfl
 | .option c,none=>rfl
 | .option c,some x=>yR c x
t! KL:∀ (cs:List Codec) (a:Codec.denoteAll cs),Gu (%cw cs a)=true
 | [],_=>rfl
 | c::cs,a=>by
  show (QE (c.enc a.1) && Gu (%cw cs a.2))=true;rw[yR c a.1,KL cs a.2]<;>rfl
t! BH:∀ {xs:List WData} {d:WData},d∈xs->d.weight<=WData.weightAll xs
 | [],d,h=>absurd h ai!
 | x::r,d,h=>by
  show d.weight<=x.weight+1+WData.weightAll r;rcases %ak h with e | m
  ·rw[e];w!
  ·~z:=BH m;w!
def toV:Value->V
 | .none=>.fK
 | .bool b=>.bl b
 | .int i _=>.int i
 | .str x _=>.str x
 | .bytes b _=>.MY b
 | .ref a=>.ref a
 | _=>.fK
def RD(A:List Addr):Value->Prop
 | .none=>True
 | .bool _=>True
 | .int _ _=>True
 | .str _ _=>True
 | .bytes _ _=>True
 | .ref a=>a∈A
 | _=>False
t! RD.mono{A B:List Addr}(h:∀ a∈A,a∈B):∀ {u:Value},RD A u->RD B u:=λ{u} x=>by
 cases u with
 | ref a=>e! h a x
 | none=>trivial
 | bool b=>trivial
 | int i t=>trivial
 | str s t=>trivial
 | bytes b t=>trivial
 | _=>e! %bf x
t! TQ{A:List Addr}{u:Value}(x:RD A u):RelV (toV u) u:=by
 cases u with
 | ref a=>rfl
 | none=>rfl
 | bool b=>rfl
 | int i t=>e! ⟨t,rfl⟩
 | str s t=>e! ⟨t,rfl⟩
 | bytes b t=>e! ⟨t,rfl⟩
 | _=>e! %bf x
t! vP{A:List Addr}:∀ {vs:List Value},cJ!->Vals ed! vs
 | [],_=>.nil
 | u::r,h=>.cons (TQ (h u fL!)) (vP λx hx=>h x (%af _ hx))
def yg(h:Heap)(A:List Addr)(a:Addr):Prop:=∃ vs:List Value,vs.length<=sizeLine/\cJ! /\
 (h.get? a=some {cls:=.type "list",data:=.seq vs.toArray}∨h.get? a=some {cls:=.type "tuple",data:=.seq vs.toArray})
t! yg.mono{h:Heap}{A B:List Addr}{a:Addr}(k:∀ a∈A,a∈B)(x:yg h A a):yg h B a:=by
 o!⟨vs,h1,h2,h3⟩:=x;e! ⟨vs,h1,λu hu=>(h2 u hu).mono k,h3⟩
t! ua{P:Params}{h:Heap}:∀ {vs:List Value} {ds:List WData},WellAll P h vs ds->vs.length=ds.length
 | _,_,.nil=>rfl
 | _,_,.cons _ b=>by
  show _+1=_+1;rw[ua b]
t! KN{P:Params}{h:Heap}{v:Value}{ds:List WData}(x:Well P h v (.list ds)):∃ (a:Addr) (vs:List Value),v=.ref a/\h.get? a=some {cls:=.type "list",data:=.seq vs.toArray}/\WellAll P h vs ds:=by
 cases x with
 | list ho hall=>e! ⟨_,_,rfl,ho,hall⟩
t! HY{P:Params}{h:Heap}{v:Value}{ds:List WData}(x:Well P h v (.tuple ds)):∃ (a:Addr) (vs:List Value),v=.ref a/\h.get? a=some {cls:=.type "tuple",data:=.seq vs.toArray}/\WellAll P h vs ds:=by
 cases x with
 | tuple ho hall=>e! ⟨_,_,rfl,ho,hall⟩
t! KO{P:Params}{h:Heap}{us:List Value}{d:WData}{ds:List WData}(x:WellAll P h us (d::ds)):∃ (v:Value) (vs:List Value),us=v::vs/\Well P h v d/\WellAll P h vs ds:=by
 cases x with
 | cons a b=>e! ⟨_,_,rfl,a,b⟩
t! QF{n:Nat}(h:n<=1048576):n<=sizeLine:=%aj h ag!
section
variable {P:Params} {h:Heap}
mutual
t! TR:∀ (d:WData) (v:Value),Well P h v d->QE d=true->d.weight<=1048576->∃ A:List Addr,RD A v/\∀ a∈A,yg h A a
 | .none,_,x,_,_=>by
  cases x;e! ⟨[],trivial,λa m=>absurd m ai!⟩
 | .bool b,_,x,_,_=>by
  cases x;e! ⟨[],trivial,λa m=>absurd m ai!⟩
 | .int i,_,x,_,_=>by
  cases x;e! ⟨[],trivial,λa m=>absurd m ai!⟩
 | .str s,_,x,_,_=>by
  cases x;e! ⟨[],trivial,λa m=>absurd m ai!⟩
 | .bytes b,_,x,_,_=>by
  cases x;e! ⟨[],trivial,λa m=>absurd m ai!⟩
 | .list ds,_,x,p,z=>by
  o!⟨a,vs,rfl,ho,hall⟩:=KN x;~z2:WData.weightAll ds<=1048576:=z;o!⟨A,h1,h2⟩:=CZ ds _ hall p λd hd=>%aj (BH hd) z2
  ~k:∀ b∈A,b∈a::A:=λb hb=>%af _ hb
  r! ⟨a::A,List.mem_cons_self ..,λb hb=>?_⟩;rcases %ak hb with e | m
  ·rw[e];e! ⟨vs,QF (by rw[ua hall];e! %aj (PySem.W.length_le_weightAllW ds) z2),λu hu=>(h1 u hu).mono k,.inl ho⟩
  ·e! (h2 b m).mono k
 | .tuple ds,_,x,p,z=>by
  o!⟨a,vs,rfl,ho,hall⟩:=HY x;~z2:WData.weightAll ds<=1048576:=z;o!⟨A,h1,h2⟩:=CZ ds _ hall p λd hd=>%aj (BH hd) z2
  ~k:∀ b∈A,b∈a::A:=λb hb=>%af _ hb
  r! ⟨a::A,List.mem_cons_self ..,λb hb=>?_⟩;rcases %ak hb with e | m
  ·rw[e];e! ⟨vs,QF (by rw[ua hall];e! %aj (PySem.W.length_le_weightAllW ds) z2),λu hu=>(h1 u hu).mono k,.inr ho⟩
  ·e! (h2 b m).mono k
 | .float _,_,_,p,_=>%be (show false=true from p)
 | .dict _,_,_,p,_=>%be (show false=true from p)
 | .bytearray _,_,_,p,_=>%be (show false=true from p)
 | .set _,_,_,p,_=>%be (show false=true from p)
 | .frozenset _,_,_,p,_=>%be (show false=true from p)
 | .obj _ _,_,_,p,_=>%be (show false=true from p)
t! CZ:∀ (ds:List WData) (vs:List Value),WellAll P h vs ds->Gu ds=true->(∀ d∈ds,d.weight<=1048576)->∃ A:List Addr,cJ!/\∀ a∈A,yg h A a
 | [],_,x,_,_=>by
  cases x;e! ⟨[],λu m=>absurd m ai!,λa m=>absurd m ai!⟩
 | d::ds,_,x,p,z=>by
  o!⟨v,vs,rfl,x1,x2⟩:=KO x;~q:QE d=true/\Gu ds=true:=Bool.and_eq_true_iff.mp p;o!⟨A,a1,a2⟩:=TR d v x1 q.1 (z d fL!);o!⟨B,b1,b2⟩:=CZ ds vs x2 q.2 λe he=>z e (%af _ he)
  ~kA:∀ b∈A,b∈A++B:=λb hb=>List.mem_append.mpr (.inl hb)
  ~kB:∀ b∈B,b∈A++B:=λb hb=>List.mem_append.mpr (.inr hb)
  r! ⟨A++B,λu hu=>?_,λb hb=>?_⟩
  ·rcases %ak hu with e | m
   ·rw[e];e! a1.mono kA
   ·e! (b1 u m).mono kB
  ·rcases %bA hb with m | m
   ·e! (a2 b m).mono kA
   ·e! (b2 b m).mono kB
end
end
def VO(o:Obj):Option HO:=match o.data with
 | .seq vs _=>if (o.cls == %cf "list")=true then some (.ql o (.lst (vs.toList.map toV))) else some (.ql o (.tup (vs.toList.map toV)))
 | _=>none
def wO(K:%ag)(h:Heap)(A:List Addr):Hp:=λb=>if b∈A then (if (K.lookup b).isNone=true then (h.get? b).bind VO else none) else none
def Nz(H:Hp):Prop:=∀ b,H b=none∨∃ o u,H b=some (.ql o u)
t! NA(vs:List Value):VO {cls:=.type "list",data:=.seq vs.toArray}=some (.ql {cls:=.type "list",data:=.seq vs.toArray} (.lst ed!)):=by
 show (if (%cf "list" == %cf "list")=true then some (HO.ql {cls:=.type "list",data:=.seq vs.toArray} (.lst dB!)) else some (HO.ql {cls:=.type "list",data:=.seq vs.toArray} (.tup dB!)))=_;rw[if_pos (beq_self_eq_true _)]
t! NC(vs:List Value):VO {cls:=.type "tuple",data:=.seq vs.toArray}=some (.ql {cls:=.type "tuple",data:=.seq vs.toArray} (.tup ed!)):=by
 show (if (%cf "tuple" == %cf "list")=true then some (HO.ql {cls:=.type "tuple",data:=.seq vs.toArray} (.lst dB!)) else some (HO.ql {cls:=.type "tuple",data:=.seq vs.toArray} (.tup dB!)))=_;rw[n! ag!]
section
variable {P:Program} {w:World} {K:PySem.W.Frag} {h:Heap} {A:List Addr}
t! Hi{b:Addr}{o:Obj}(hb:b∈A)(hk:K.lookup b=none)(e:h.get? b=some o):wO K h A b=VO o:=by
 unfold wO;rw[if_pos hb,hk,if_pos (show (none:Option Obj).isNone=true from rfl),e]<;>rfl
t! VP{b:Addr}{u:HO}(q:wO K h A b=some u):b∈A/\K.lookup b=none:=by
 unfold wO at q;by_cases hb:b∈A
 ·rw[if_pos hb] at q;cases hk:K.lookup b with
  | none=>e! ⟨hb,rfl⟩
  | some o =>
   rw[hk,if_neg ai!] at q;cases q
 ·rw[n! hb] at q;cases q
t! Hj(ar:∀ a∈A,yg h A a){b:Addr}{u:HO}(q:wO K h A b=some u):K.lookup b=none/\∃ vs:List Value,vs.length<=sizeLine/\cJ! /\
  ((h.get? b=some {cls:=.type "list",data:=.seq vs.toArray}/\u=.ql {cls:=.type "list",data:=.seq vs.toArray} (.lst ed!)) ∨
   (h.get? b=some {cls:=.type "tuple",data:=.seq vs.toArray}/\u=.ql {cls:=.type "tuple",data:=.seq vs.toArray} (.tup ed!))):=by
 o!⟨hb,hk⟩:=VP q;o!⟨vs,h1,h2,h3⟩:=ar b hb;r! ⟨hk,vs,h1,h2,?_⟩;rcases h3 with e | e
 ·rw[Hi hb hk e,NA] at q;e! .inl ⟨e,(%aD q).symm⟩
 ·rw[Hi hb hk e,NC] at q;e! .inr ⟨e,(%aD q).symm⟩
t! RE(ar:∀ a∈A,yg h A a):Nz (wO K h A):=λb=>by
 cases q:wO K h A b with
 | none=>e! .inl rfl
 | some u =>
  o!⟨_,vs,_,_,⟨_,e⟩ | ⟨_,e⟩⟩:=Hj ar q
  ·e! .inr ⟨_,_,by rw[e]⟩
  ·e! .inr ⟨_,_,by rw[e]⟩
t! VQ(ar:∀ a∈A,yg h A a):yc P w (wO K h A) h:=λb u q=>by
 o!⟨_,vs,h1,h2,⟨e,rfl⟩ | ⟨e,rfl⟩⟩:=Hj ar q
 ·e! ⟨e,by rw[%ac];e! h1,vs,_,vP h2,e⟩
 ·e! ⟨e,by rw[%ac];e! h1,vs,vP h2,_,e,rfl,_,rfl⟩
t! Hk{c c':Value}{vs us:List Value}(e:(some {cls:=c,data:=.seq vs.toArray}:Option Obj)=some {cls:=c',data:=.seq us.toArray}):c=c'/\vs=us:=by
 ~e1:=%aD e;~e2:c=c':=congrArg Obj.cls e1;~e3:Data.seq vs.toArray=Data.seq us.toArray:=congrArg Obj.data e1;injection e3 with e4
 r! ⟨e2,?_⟩;~e5:=congrArg Array.toList e4;simpa using e5
t! za9(KX:K.In h)(ar:∀ a∈A,yg h A a){a:Addr}{vs:List Value}(ha:a∈A)(e:h.get? a=some {cls:=.type "list",data:=.seq vs.toArray}):cJ!/\aX K (wO K h A) a ed!:=by
 o!⟨us,h1,h2,h3⟩:=ar a ha;~hu:us=vs:=by
  rcases h3 with q | q
  ·rw[e] at q;e! (Hk q).2.symm
  ·rw[e] at q;e! absurd (Value.type.inj (Hk q).1) ag!
 subst hu;r! ⟨h2,?_⟩;cases hk:K.lookup a with
 | none=>e! .inl (.inr ⟨_,by rw[Hi ha hk e,NA]⟩)
 | some o =>
  ~e2:=KX a o hk;rw[e] at e2;obtain rfl:=%aD e2;e! .inr ⟨_,us.toArray,_,hk,rfl,rfl,rfl,by rw[List.size_toArray];e! h1,by simpa using vP h2⟩
t! zb0(KX:K.In h)(ar:∀ a∈A,yg h A a){a:Addr}{vs:List Value}(ha:a∈A)(e:h.get? a=some {cls:=.type "tuple",data:=.seq vs.toArray}):cJ!/\JQ K (wO K h A) a ed!:=by
 o!⟨us,h1,h2,h3⟩:=ar a ha;~hu:us=vs:=by
  rcases h3 with q | q
  ·rw[e] at q;e! absurd (Value.type.inj (Hk q).1) ag!
  ·rw[e] at q;e! (Hk q).2.symm
 subst hu;r! ⟨h2,?_⟩;cases hk:K.lookup a with
 | none=>e! .inl (.inr ⟨_,by rw[Hi ha hk e,NC]⟩)
 | some o =>
  ~e2:=KX a o hk;rw[e] at e2;obtain rfl:=%aD e2;e! .inr ⟨_,us.toArray,_,hk,rfl,rfl,by rw[List.size_toArray];e! h1,by simpa using vP h2⟩
mutual
t! XU{Pm:Params}(KX:K.In h)(ar:∀ a∈A,yg h A a):∀ (d:WData) (v:Value),Well Pm h v d->QE d=true->RD A v->Dw K (wO K h A) (toV v) d
 | .none,_,x,_,_=>by
  cases x;e! .fK
 | .bool b,_,x,_,_=>by
  cases x;e! .bl b
 | .int i,_,x,_,_=>by
  cases x;e! .int i
 | .str s,_,x,_,_=>by
  cases x;e! .str s
 | .bytes b,_,x,_,_=>by
  cases x;~z:=Dw.MY (K:=K) (H:=wO K h A) b.toArray;e! z
 | .list ds,_,x,p,hu=>by
  o!⟨a,vs,rfl,ho,hall⟩:=KN x;o!⟨h2,hs⟩:=za9 KX ar hu ho;e! .lst hs (Me KX ar ds _ hall p h2)
 | .tuple ds,_,x,p,hu=>by
  o!⟨a,vs,rfl,ho,hall⟩:=HY x;o!⟨h2,hs⟩:=zb0 KX ar hu ho;e! .tup hs (Me KX ar ds _ hall p h2)
 | .float _,_,_,p,_=>%be (show false=true from p)
 | .dict _,_,_,p,_=>%be (show false=true from p)
 | .bytearray _,_,_,p,_=>%be (show false=true from p)
 | .set _,_,_,p,_=>%be (show false=true from p)
 | .frozenset _,_,_,p,_=>%be (show false=true from p)
 | .obj _ _,_,_,p,_=>%be (show false=true from p)
t! Me{Pm:Params}(KX:K.In h)(ar:∀ a∈A,yg h A a):∀ (ds:List WData) (vs:List Value),WellAll Pm h vs ds->Gu ds=true->cJ!->yf K (wO K h A) ed! ds
 | [],_,x,_,_=>by
  cases x;e! .nil
 | d::ds,_,x,p,hu=>by
  o!⟨v,vs,rfl,x1,x2⟩:=KO x;~q:QE d=true/\Gu ds=true:=Bool.and_eq_true_iff.mp p;e! .cons (XU KX ar d v x1 q.1 (hu _ fL!)) (Me KX ar ds vs x2 q.2 λu m=>hu u (%af _ m))
end
end
t! RF{P:Program}{w:World}{K:%ag}{mg mb:Str->Option Value}{CX:M3}{k:Nat}{fa:Addr}{fd:FuncData}{ps:List Str}{sp:Sp}{s₁:Shared}{vals:List Value}{ds:List WData}{R:PySem.W.WRecords}{cl:Str->Option Addr}{d0:WData}
  (KX:K.In s₁.heap) (hns:s₁.heap.Ns mainGlobals mg) (hb:s₁.heap.Ns builtinsNs mb) (hbb:∀ x:Str,x≠"__name__"->mb x=bootBuiltins x) (hlim:s₁.heap.NoLimit) (hg:s₁.gens=#[])
  (hwl:WellAll w.params s₁.heap vals ds) (hpl:Gu ds=true) (hwt:∀ d∈ds,d.weight<=1048576) (hr:mB k callerA)
  (F:∀ base:Heap,K.In base->base.Ns mainGlobals mg->aK P w K mg base CX k fa fd ps sp) (hbind:∀ (s:Shared) (us:List Value),us.length=ps.length->BindsTo s fd ⟨us,[]⟩ eE!) (hlen:ds.length=ps.length)
  (hsp:∀ (H:Hp) (xs:List V),Nz H->yf K H xs ds->sp xs H (λv H'=>Dw K H' v d0) λ_ _ _=>False)
  (hCX:∀ H e s',CX [] H s₁ (λ_ _ _=>False) e s'->False) :
  codeAny c6! callerA (.call (.ref fa) ⟨vals,[]⟩) (λr s'=>∃ u as,r=.ok (.ret u)/\ReadsW R cl s'.heap u d0 as/\OldK s₁.heap s'.heap/\s'.os=s₁.os/\AllBare s'.gens) s₁:=by
 o!⟨A,ho,ar⟩:=CZ ds vals hwl hpl hwt;~hO:Nz (wO K s₁.heap A):=RE ar;~cx:yc P w (wO K s₁.heap A) s₁.heap:=VQ ar;~hS:=Me KX ar ds vals hwl hpl ho;~hV:=vP ho;~hK:∀ b u,wO K s₁.heap A b=some u->K.lookup b=none:=λb u q=>(Hj ar q).1
 ~noA:∀ {b:Addr} {o:Obj} {es:Array DictEntry} {ep:Nat},s₁.heap.get? b=some o->o.data=.dict es ep->wO K s₁.heap A b=none:=λ{b o es ep} e d=>by
  cases q:wO K s₁.heap A b with
  | none=>rfl
  | some u =>
   o!⟨_,vs,_,_,⟨e2,_⟩ | ⟨e2,_⟩⟩:=Hj ar q
   ·rw[e2] at e;cases e;~d':Data.seq vs.toArray _=Data.dict es ep:=d;cases d'
   ·rw[e2] at e;cases e;~d':Data.seq vs.toArray _=Data.dict es ep:=d;cases d'
 generalize wO K s₁.heap A=H at hO cx hS hK noA;~base_of:∀ {b:Addr} {o:Obj},s₁.heap.get? b=some o->H b=none->(LV s₁.heap H).get? b=some o:=λe n=>SW e n
 ~nsK:∀ {b:Addr} {m:Str->Option Value},s₁.heap.Ns b m->(LV s₁.heap H).Ns b m:=λ{b m} ⟨o,es,ep,e,d,r⟩=>⟨o,es,ep,base_of e (noA e d),d,r⟩
 ~nK:∀ b o,K.lookup b=some o->H b=none:=λb o e=>by
  cases q:H b with
  | none=>rfl
  | some u =>
   rw[hK b u q] at e;cases e
 ~hKb:K.In (LV s₁.heap H):=λb o e=>base_of (KX b o e) (nK b o e)
 ~hM:Mod K mg (LV s₁.heap H):=⟨hKb,nsK hns,⟨mb,nsK hb,hbb⟩,let ⟨mc,h1,h2⟩:=hlim;⟨mc,nsK h1,h2⟩⟩;~e0:OI P w K mg (LV s₁.heap H) callerA [] s₁ H:=⟨rfl,hM,λb o e=>Vp e,Nat.le_of_eq (Rg _ _),trivial,λb hb=>absurd (show b∈([]:List Addr) from hb) ai!,cx,.of_eq hg⟩;~hl:vals.length=ps.length:=by rw[ua hwl];e! hlen
 r! codeAny_mono ((F _ hKb (nsK hns)).run callerA [] s₁ H ⟨vals,[]⟩ vals (vals.map toV) _ _ hr e0 (hbind s₁ vals hl) hV (hsp H _ hO hS)) λr s' x=>?_
 cases r with
 | error e=>e! (hCX H e s' x).elim
 | ok fl =>
  cases fl with
  | next=>e! %bf x
  | brk=>e! %bf x
  | cont=>e! %bf x
  | ret u =>
   o!⟨v,H',os,bare,un,hok',r',q⟩:=x;~kept:∀ b o,s₁.heap.get? b=some o->s'.heap.get? b=some o:=λb o e=>by
    cases q2:H b with
    | none=>e! un.keep b o e q2 (by intro z;e! absurd (show b∈([]:List Addr) from z) ai!) ai!
    | some u2 =>
     rcases hO b with z | ⟨ob,u3,z⟩
     ·rw[q2] at z;cases z
     ·~z2:=un.CN b ob _ z;o!⟨e1,_⟩:=cx b _ z;o!⟨e2,_⟩:=hok' b _ z2;rw[e] at e1;cases e1;e! e2
   ~KX':K.In s'.heap:=λb o e=>kept b o (KX b o e)
   o!⟨as,hrd⟩:=Dw.reads (R:=R) (cl:=cl) hok' KX' d0 v u q r';e! ⟨u,as,rfl,hrd,OldK.of_keep kept,os,bare⟩
t! HZ{ds:List WData}(h:WData.layableAll ds=true):∀ d∈ds,d.weight<=1048576:=λd hd =>
 (PySem.W.layableW_iff.mp (%az h d hd)).2.2
t! H0:∀ (cs:List Codec) (a:Codec.denoteAll cs),(%cw cs a).length=cs.length
 | [],_=>rfl
 | c::cs,a=>by
  show (%cw cs a.2).length+1=cs.length+1;rw[H0 cs a.2]
t! RG{r:OpenSpec}{k:Nat}{q:Program}{loose:List Str}{XP:(Str->Option Value)->Heap->Prop}{YP:World->Heap->Prop}{d:DefRec}{K:Params->%ag}{CX:World->M3}{ps:List Str}{sp:World->Sp}
  (hwell:r.wellSaid=true) (hdf:d.params.defaults=[]) (hlen:r.args.length=ps.length) (hr:mB k callerA)
  (hY:∀ (w:World) (h:Heap),YP w h->(K w.params).In h)
  (F:∀ (w:World) (mg:Str->Option Value) (fa:Addr) (h:Heap),YP w h->(K w.params).In h->h.Ns mainGlobals mg->mg d.name=some (.ref fa) ->
   ∃ fd:FuncData,(∀ (s:Shared) (us:List Value),us.length=ps.length->BindsTo s fd ⟨us,[]⟩ eE!) /\
    ∀ base:Heap,(K w.params).In base->base.Ns mainGlobals mg->aK r.prog w eP! mg base (CX w) k fa fd ps (sp w))
  (hsp:∀ (w:World) (H:Hp) (xs:List V) (a:Codec.denoteAll r.args),Nz H->Codec.withinAll r.args a=true->Codec.app r.args r.asked a=true->yf eP! H xs (%cw r.args a) ->
   sp w xs H (λv H'=>Dw eP! H' v (r.ret.enc fD!)) λ_ _ _=>False)
  (hCX:∀ (w:World) (H:Hp) (s:Shared) (e:Value) (s':Shared),CX w [] H s (λ_ _ _=>False) e s'->False) :
  PySem.W.WalkOS q loose XP YP r d [] (λf vs=>PySem.call f vs):=by
 intro w CO s₁ mg mb G Y fa o pm cd doc dV kV ho hd hcd hD hmg hg args vals as hpre hlay hrd hwl hlo;o!⟨a,e1,e2⟩:=PySem.W.os_pre_some hpre;o!⟨e3,hwi⟩:=Codec.encAll_of_decAll r.args args a e1;subst e3;~KX:=hY w _ Y;o!⟨fd,hb,hF⟩:=F w mg fa _ Y KX G.T.g hmg;r! PySem.W.enter_call (codeAny_mono (RF (R:=[]) (cl:=classAt CO.heap) (d0:=r.ret.enc fD!) KX G.T.g G.T.b G.T.builtins G.T.nolimit hg hwl (KL _ _) (HZ hlay) hr hF hb (by rw[H0];e! hlen)
  (λH xs hO hS=>hsp w H xs a hO hwi e2 hS) λH e s'=>hCX w H s₁ e s') λr' s' hq=>?_)
 o!⟨u,as',rfl,h1,h2,h3,h4⟩:=hq;e! ⟨.inl ⟨u,_,as',rfl,λ_=>rfl,h1,(OpenSpec.post_iff hwell hwi _ _).mpr rfl,λz=>%be (show false=true from z)⟩,h2,h3,h4⟩
t! OR{r:OpenSpec}{k:Nat}{q:Program}{loose:List Str}{XP:(Str->Option Value)->Heap->Prop}{YP:World->Heap->Prop}{d:DefRec}{K:Params->%ag}{CX:M3}{ps:List Str}{sp:%ag->Sp}
  (hwell:r.wellSaid=true) (hdf:d.params.defaults=[]) (hlen:r.args.length=ps.length) (hr:mB k callerA)
  (hY:∀ (w:World) (h:Heap),YP w h->(K w.params).In h)
  (F:∀ (w:World) (mg:Str->Option Value) (fa:Addr) (h:Heap),YP w h->(K w.params).In h->h.Ns mainGlobals mg->mg d.name=some (.ref fa) ->
   ∃ fd:FuncData,(∀ (s:Shared) (us:List Value),us.length=ps.length->BindsTo s fd ⟨us,[]⟩ eE!) /\
    ∀ base:Heap,(K w.params).In base->base.Ns mainGlobals mg->aK r.prog w eP! mg base CX k fa fd ps (sp eP!))
  (hsp:∀ (K:%ag) (H:Hp) (xs:List V) (a:Codec.denoteAll r.args),Nz H->Codec.withinAll r.args a=true->Codec.app r.args r.asked a=true->yf K H xs (%cw r.args a) ->
   sp K xs H (λv H'=>Dw K H' v (r.ret.enc fD!)) λ_ _ _=>False)
  (hCX:∀ (H:Hp) (s:Shared) (e:Value) (s':Shared),CX [] H s (λ_ _ _=>False) e s'->False) :
  PySem.W.WalkOS q loose XP YP r d [] (λf vs=>PySem.call f vs) :=
 RG (K:=K) (CX:=λ_=>CX) (sp:=λw=>sp eP!) hwell hdf hlen hr hY F (λw H xs a h1 h2 h3 h4=>hsp eP! H xs a h1 h2 h3 h4) λ_ H s e s'=>hCX H s e s'
end L2
end
namespace L2
open PySem PySem.Spec PyProof.Rows
def bA(P:Program)(w:World):M3:=λouter H s E e s' =>
 ∃ (a C t:Addr) (H':Hp) (B:Heap),e=.ref a/\s'.os=s.os/\AllBare s'.gens/\Un (yd outer) [] H H' s.heap s'.heap/\yc P w H' B /\
  (∀ b o,s.heap.get? b=some o->H b=none->b∉yd outer->B.get? b=some o) /\
  (∀ b o,s.heap.get? b=some o->b∉yd outer->∃ o',B.get? b=some o') /\
  Heap.FlyingW B outer a (.ref C) (.ref t) s'.heap/\E (.ref C) none H'
def Ia(CX:M3)(X:Cx)(E:XK)(σ:St):Prop:=∀ (pins:List an!) (H:Hp) (s:Shared) (e:Value) (s':Shared),Inv X pins σ H s->CX X.stack H s E e s'->X.xe e s'
t! Passes.at{CX:M3}{X:Cx}{E:XK}(h:Passes CX X E)(σ:St):Ia CX X E σ:=λpins H s e s'=>h pins σ H s e s'
section
variable {P:Program} {w:World} {K:PySem.W.Frag} {mg:Str->Option Value} {base:Heap} {N:List Str} {qual:Str} {scope:Scope} {f:Addr} {cd:Value} {A:Around} {outer:List Env} {s:Shared} {H:Hp} {E:XK}
variable {pins:List (Addr×Obj)} {σ:St} {H1:Hp} {s1:Shared}
t! QG{X:Cx}(hex:X.ex=[]){H2:Hp}{s2:Shared}{h3 B:Heap}(I1:Inv X pins σ H1 s1)(I2:Un X.fs [] X.SX H2 X.CO.heap s2.heap)
  (b1:∀ b o,s1.heap.get? b=some o->H1 b=none->b∉yd X.stack->B.get? b=some o) (b2:∀ b o,s1.heap.get? b=some o->b∉yd X.stack->∃ o',B.get? b=some o')
  (st:B.StaysIn h3) (sl:s2.heap.UpToSlots h3) :
  Un X.fs [] X.SX H2 X.CO.heap h3/\(∀ b o,X.CO.heap.get? b=some o->X.SX b=none->b∉X.fs->B.get? b=some o)/\(∀ b o,X.CO.heap.get? b=some o->b∉X.fs->∃ o',B.get? b=some o'):=by
 ~neL:∀ b o,X.CO.heap.get? b=some o->b≠X.env.locals:=λb o e=>%aJ (%aB (%av e) I1.ok.above)
 ~nst:∀ b o,X.CO.heap.get? b=some o->b∉X.fs->b∉yd X.stack:=λb o e n hb=>by
  rcases %ak (I1.DS b hb) with z | z
  ·e! neL b o e z
  ·e! n z
 ~nex:∀ b:Addr,b∉X.ex:=λb hb=>by rw[hex] at hb;cases hb
 ~c1:∀ b o,X.CO.heap.get? b=some o->X.SX b=none->b∉X.fs->B.get? b=some o:=λb o e n hb =>
  b1 b o (I1.base.keep b o e n hb (nex b)) (I1.base.free b o e n (nex b)) fp!
 ~c2:∀ b o,X.CO.heap.get? b=some o->b∉X.fs->∃ o',B.get? b=some o':=λb o e hb=>by
  o!⟨o1,e1⟩:=I1.base.there b o e (nex b);e! b2 b o1 e1 fp!
 ~c3:∀ b o,X.CO.heap.get? b=some o->b∈X.fs->∃ sl,h3.get? b=some {o with slots:=sl}:=λb o e hb=>by
  o!⟨sl1,e1⟩:=I2.slot b o e (I1.ok.Rk b hb) hb ai!;o!⟨_,o',ho',hd⟩:=I1.ok.i6.mem hb;rw[e] at ho';cases ho';o!⟨sl2,e2⟩:=sl b _ e1 hd;e! ⟨sl2,e2⟩
 r! ⟨⟨λb o e n hb _=>st b o (c1 b o e n hb),λb o e n hb _=>c3 b o e hb,I2.free,λb o e _=>?_,I2.Gn,I2.CN,I2.Gp⟩,c1,c2⟩;by_cases hb:b∈X.fs
 ·o!⟨sl',e'⟩:=c3 b o e hb;e! ⟨_,e'⟩
 ·o!⟨o',e'⟩:=c2 b o e hb;e! ⟨o',st b o' e'⟩
t! aB:Passes (bA P w) ao! E:=by
 intro pins σ H1 s1 e s' I h;o!⟨a,C,t,H',B,rfl,os,bare,un,cx,b1,b2,Mg,q⟩:=h;~I':Inv ao! pins σ H' s':=I.Kp os un (cx.kept Mg.1) bare λb z=>absurd z ai!
 show wpAny _ _ (leaving _ _) _ _ _;r! wpAny_leaves_onW (outer:=outer) I.ok.frames rfl Mg λh3 fly3 sl=>?_
 o!⟨u3,c1,c2⟩:=QG rfl I I'.base b1 b2 fly3.1 sl;e! ⟨a,C,t,H',B,rfl,I'.os,bare,u3,cx,c1,c2,fly3,q⟩
def Raises(X:Cx)(E:XK):Prop:=∀ (pins:List an!) (σ:St) (H:Hp) (s:Shared) (a C:Addr) (h':Heap),Inv X pins σ H s->Heap.MadeExcOf s.heap h' a (.ref C) []->E (.ref C) none H->X.xe (.ref a) {s with heap:=h'}
t! cI:Raises ao! E:=by
 intro pins σ H1 s1 a C h' I made q;show wpAny _ _ (leaving _ _) _ _ _;~fr:s1.heap.FunFrames base (gp (bA P w) P w K mg base N qual scope f cd A outer s H E).stack:=I.stack;~hin:∀ env∈(gp (bA P w) P w K mg base N qual scope f cd A outer s H E).stack,∀ b,env.frame=some b->b∈yd (gp (bA P w) P w K mg base N qual scope f cd A outer s H E).stack:=λenv he b hb=>List.mem_filterMap.mpr ⟨env,he,hb⟩
 ~fr2:=PySem.W.funFrames_hide (as:=yd (gp (bA P w) P w K mg base N qual scope f cd A outer s H E).stack) fr hin;~b1:∀ b o,s1.heap.get? b=some o->b∉yd (gp (bA P w) P w K mg base N qual scope f cd A outer s H E).stack->(%bp s1.heap (yd (gp (bA P w) P w K mg base N qual scope f cd A outer s H E).stack)).get? b=some o:=λb o e hb=>PySem.W.hideAll_get _ e hb
 ~hokB:yc P w H1 (%bp s1.heap (yd (gp (bA P w) P w K mg base N qual scope f cd A outer s H E).stack)):=λb o e =>
  (I.cx b o e).Gm (λc v hc q=>b1 c v q λhm=>by
   ~z:=I.G9 c hm;rcases hc with y | y
   ·rw[y,e] at z;cases z
   ·rw[y] at z;cases z) (λ_ q=>q) λ_ _ q=>q
 r! wpAny_leaves_madeW (outer:=outer) I.ok.frames rfl (λb o q=>PySem.W.of_hideAll _ q) fr2 made λh3 t fly3 tup nt sl=>?_
 ~I':Inv ao! pins σ H1 {s1 with heap:=h'}:=I.kept (t':=s1.toks) made.keeps;o!⟨u3,c1,c2⟩:=QG rfl I I'.base (λb o e _ hb=>b1 b o e hb) (λb o e hb=>⟨o,b1 b o e hb⟩) fly3.1 sl;e! ⟨a,C,t,H1,_,rfl,I'.os,I'.bare,u3,hokB,c1,c2,fly3,q⟩
end
structure OS (K:PySem.W.Frag) (C:Addr):Prop where
 ex:∃ (B newId initId:String) (bm:List Value),ExcBaseFacts B newId initId bm/\PySem.W.excIn K C bm newId=true
section
variable {X:Cx} {E:XK} {x:Str} {C:Addr} {np cpos pos:Pos}
t! XW{K:%ag}{h:Heap}{mg:Str->Option Value}{bmB:List Value}{newId:String}(Y:K.In h)(hm:mg x=some (.ref C))(q:PySem.W.excIn K C bmB newId=true):OwnCls x C bmB newId mg h:=by
 r! ⟨hm,?_⟩;unfold PySem.W.excIn at q;split at q
 ·rename_i dd cd sl ho
  split at q
  ·rename_i C' bm k0 k1 k2 k3 n k5 hm hs
   simp only[Bool.and_eq_true,beq_iff_eq,Bool.not_eq_true'] at q;o!⟨⟨⟨⟨⟨rfl,rfl⟩,hdel⟩,ht⟩,cx⟩,hni⟩:=q;o!⟨nm,bs,mro,ns,qn,hd,sn,sub,ab,col,del⟩:=cd;dsimp only at hm hdel cx hni;subst hm hdel;~hsl:sl=#[k0,k1,k2,k3,some (.builtin n),k5]:=by
    o!⟨l⟩:=sl;simp only at hs;rw[hs]
   subst hsl;e! ⟨bm,ns,nm,qn,bs,hd,sn,sub,ab,col,dd,k0,k1,k2,k3,k5,_,Y _ _ ho,.of_isNs (PySem.W.isNs_of_in Y cx),PySem.W.nsMap_none_of_in Y cx hni,PySem.W.tail_of_in Y ht⟩
  ·cases q
 ·cases q
def TU(C:Addr)(E:XK):TS:=λ_ _ H=>E (.ref C) none H
t! bL(hr:Raises X E)(hc:X.calm=true)(hg:Gl X x)(hm:X.mg x=some (.ref C))(c:OS X.K C)(hd:aE!=false:=by decide) :
  PS X (.Raise (some (.Call (.Name x np) [] [] cpos)) none pos) (TU C E):=by
 intro pins s σ H D I h;o!⟨B,newId,initId,bm,FB,q⟩:=c.ex;~O:=XW I.Ai hm q;o!⟨tl,N,nm,qn,bs,hdct,sn,sub,ab,col,dd,k0,k1,k2,k3,k5,mN,hC,hN,hni,T⟩:=O.obj;r! wpAny_Raise_call_subT (C:=C) (nm:=nm) (q:=qn) (N:=N) (bs:=bs) (bm:=tl) (hdct:=hdct) (sn:=sn) (sub:=sub) (ab:=ab) (col:=col) (dd:=dd) (k0:=k0) (k1:=k1) (k2:=k2) (k3:=k3) (k5:=k5)
  FB (mN:=mN) (T.hasType FB.hasBase) b4! rfl hni (tZ I hg hm ⟨rfl,?_⟩ hd)
 e! evalArgs_empty ⟨rfl,%aE _,hC,hN,T,λh' a made=>hr pins σ H s a C h' I made h⟩
end
section
variable {P:Program} {w:World} {K:PySem.W.Frag} {mg:Str->Option Value} {base:Heap}
t! Fun.kY{x qual:Str}{st:Stmt}{f:Addr}{fd:FuncData}{N ps:List Str}{k:Nat}{sp:Sp}(F:Fun K x qual st f fd)(S:ax N ps (au st))(len:∀ vs H Q E,sp vs H Q E->vs.length=ps.length)
  (hbody:∀ (cdv:Value) (A:Around) (outer:List Env) (s:Shared) (H:Hp) (vs:List V) (Q:VK) (E:XK),mB k (A.deeper (envOfC qual (au st) s.heap.objs.size f cdv))->sp vs H Q E ->
   ∃ t,MZ (gp (bA P w) P w K mg base N qual (au st) f cdv A outer s H E) (kX st) t/\t {nx:=λ_ H'=>Q .fK H',rt:=Q} fn! H):aK P w K mg base (bA P w) (k+1) f fd ps sp:=by
 o!⟨oc,od,kV,doc,pm,an,cdv,ct,osl,rfl,lk,hcd⟩:=F.ex;e! WO lk hcd S len λA outer s H vs Q E hr hsp=>hbody cdv A outer s H vs Q E hr hsp
t! aK.up{k:Nat}{f:Addr}{fd:FuncData}{ps:List Str}{sp:Sp}(F:FB! k f fd ps sp):aK P w K mg base (bA P w) k f fd ps sp :=
 ⟨F.len,λA outer s H args us vs Q E hr e0 hb hv hs=>codeAny_mono (F.run A outer s H args us vs Q E hr e0 hb hv hs) λr s' h=>by
  cases r with
  | error e=>e! %bf h
  | ok fl=>cases fl<;>exact h⟩
end
section
variable {X:Cx} {CX:M3} {c e:Expr} {es:List Expr} {tc:TE} {t:TA} {pos:Pos}
def XX(X:Cx)(CX:M3)(tc:TE)(t:TA):TE:=fun σ H Q=>tc σ H λv H1=>∃ (f:Addr) (fd:FuncData) (ps:List Str) (sp:Sp) (k:Nat) (E:XK),v=.ref f/\aK X.prog X.w X.K X.mg X.base CX k f fd ps sp/\mB k X.A /\
 %aR X.K (.ref f)=true/\Binds X.K fd ps []/\Ia CX X E σ/\t σ H1 λvs H2=>sp vs H2 Q E
t! C0(hc:PE X c tc)(ha:PA X (e::es) t)(he:starEach (e::es) X.env=a0!::starEach es X.env:=by rfl)(hpl:(backTo pos bH!).any (·.1)=false:=by rfl)
  (hev:eval (.Call c (e::es) [] pos) X.env=(do callWith pos (←eval c X.env) [] (backTo pos fo!) (backToKw pos dj!)):=by rfl) :
  PE X (.Call c (e::es) [] pos) (XX X CX tc t):=by
 intro pins s σ H Q I h;r! Call_ (fH fR! λu s1 ⟨v,H1,I1,r1,q1⟩=>?_) hev;o!⟨f,fd,ps,sp,k,E,rfl,F,hr,hk,hb,hx,q⟩:=q1;obtain rfl:u=%aL f:=r1;r! PySem.W.callWith_K (h₀:=X.base) I1.ok.mod.Yu hk (fH (ha pos pins s1 σ H1 _ I1 q) λus s2 ⟨vs,H2,I2,r,q2⟩=>⟨I2.Ai,?_⟩) he hpl;~hl:(us++[]).length=ps.length:=by rw[%bI,←r.length];e! F.len _ _ _ _ q2
 ~hbb:=hb s2 us I2.Ai hl;rw[%bI] at hbb;r! wpAny_call (codeAny_mono (F.run X.A X.stack s2 H2 ⟨us,[]⟩ us vs Q E hr I2.Xw hbb r q2) λr s' hq=>?_);cases r with
 | error e=>e! hx pins H2 s2 e s' I2 hq
 | ok fl =>
  cases fl with
  | ret u=>e! I2.after hq
  | next=>e! %bf hq
  | brk=>e! %bf hq
  | cont=>e! %bf hq
end
section
variable {X:Cx}
abbrev Cx.sj(X:Cx)(e:Value):Cx:={X with A:=X.A.mark (some e),calm:=false,xe:=λ_ _=>False}
t! Cx.Ok.sj{X:Cx}(ok:X.Ok)(e:Value):(X.sj e).Ok :=
 ⟨ok.mod,ok.kind,ok.glob,ok.blt,ok.above,ok.inj,ok.has,ok.Vq,λz=>(by cases z),by show (X.A.mark (some e)).frames=_;first | exact ok.frames | (rw[←ok.frames];rfl),ok.WE,ok.Vk,ok.bs,ok.Ri,ok.LW,ok.JT,ok.i6,ok.Rk⟩
t! Inv.sj{pins:List an!}{σ:St}{H:Hp}{s:Shared}(I:Inv X pins σ H s)(e:Value):Inv (X.sj e) pins σ H s:=⟨I.ok.sj e,I.os,I.bare,I.base,I.loc,I.cell,I.free,I.pH,I.pin,I.cx,I.len⟩
t! Cx.Ok.ub{X:Cx}{e:Value}(ok:(X.sj e).Ok)(hd:X.calm=true->X.A.handled=none):X.Ok :=
 ⟨ok.mod,ok.kind,ok.glob,ok.blt,ok.above,ok.inj,ok.has,ok.Vq,hd,by have z:(X.A.mark (some e)).frames=_:=ok.frames;first | exact z | (rw[←z];rfl),ok.WE,ok.Vk,ok.bs,ok.Ri,ok.LW,ok.JT,ok.i6,ok.Rk⟩
t! Inv.ub{pins:List an!}{σ:St}{H:Hp}{s:Shared}{e:Value}(I:Inv (X.sj e) pins σ H s)(hd:X.calm=true->X.A.handled=none):Inv X pins σ H s:=⟨I.ok.ub hd,I.os,I.bare,I.base,I.loc,I.cell,I.free,I.pH,I.pin,I.cx,I.len⟩
t! SP.ub{pins:List an!}{D:Ends}{f:Flow}{s':Shared}{e:Value}(h:SP (X.sj e) pins D f s')(hd:X.calm=true->X.A.handled=none):SP X pins D f s':=by
 cases f with
 | next=>obtain ⟨σ',H',I,q⟩:=h;e! ⟨σ',H',I.ub hd,q⟩
 | brk=>obtain ⟨σ',H',I,q⟩:=h;e! ⟨σ',H',I.ub hd,q⟩
 | cont=>obtain ⟨σ',H',I,q⟩:=h;e! ⟨σ',H',I.ub hd,q⟩
 | ret u=>obtain ⟨v,σ',H',I,r,q⟩:=h;e! ⟨v,σ',H',I.ub hd,r,q⟩
structure Fl (X:Cx) (H1:Hp) (s1:Shared) (a C t0:Addr) (H':Hp) (B:Heap) (s:Shared):Prop where
 os:s.os=s1.os
 bare:AllBare s.gens
 un:Un (yd X.stack) [] H1 H' s1.heap s.heap
 cx:yc X.prog X.w H' B
 b1:∀ b o,s1.heap.get? b=some o->H1 b=none->b∉yd X.stack->B.get? b=some o
 b2:∀ b o,s1.heap.get? b=some o->b∉yd X.stack->∃ o',B.get? b=some o'
 Mg:Heap.FlyingW B X.stack a (.ref C) (.ref t0) s.heap
t! Fl.on{pins:List an!}{σ:St}{H1 H':Hp}{s1 s:Shared}{a C t0:Addr}{B h':Heap}(I:Inv X pins σ H1 s1)(F:Fl X H1 s1 a C t0 H' B s)(sl:s.heap.UpToSlots h')(Mg:Heap.FlyingW B X.stack a (.ref C) (.ref t0) h') :
  Fl X H1 s1 a C t0 H' B {s with heap:=h'}:=by
 ~c3:∀ b o,s1.heap.get? b=some o->b∈yd X.stack->∃ sl,h'.get? b=some {o with slots:=sl}:=λb o e hb=>by
  o!⟨sl1,e1⟩:=F.un.slot b o e (I.G9 b hb) hb ai!;o!⟨_,o',ho',hd⟩:=I.stack.mem hb;rw[e] at ho';cases ho';o!⟨sl2,e2⟩:=sl b _ e1 hd;e! ⟨sl2,e2⟩
 r! ⟨F.os,F.bare,⟨λb o e n hb _=>Mg.1 b o (F.b1 b o e n hb),λb o e _ hb _=>c3 b o e hb,F.un.free,λb o e _=>?_,F.un.Gn,F.un.CN,F.un.Gp⟩,F.cx,F.b1,F.b2,Mg⟩;by_cases hb:b∈yd X.stack
 ·o!⟨sl',e'⟩:=c3 b o e hb;e! ⟨_,e'⟩
 ·o!⟨o',e'⟩:=F.b2 b o e hb;e! ⟨o',Mg.1 b o' e'⟩
t! Fl.inv{pins:List an!}{σ:St}{H1 H':Hp}{s1 s:Shared}{a C t0:Addr}{B:Heap}(I:Inv X pins σ H1 s1)(F:Fl X H1 s1 a C t0 H' B s):Inv X pins σ H' s :=
 I.Kp F.os F.un (F.cx.kept F.Mg.1) F.bare λb z=>absurd z ai!
def PH(X:Cx)(hs:List ExceptHandler)(C:Addr)(t:TS):Prop :=
 ∀ (pins:List an!) (σ:St) (H1:Hp) (s1 s:Shared) (D:Ends) (a t0:Addr) (H':Hp) (B:Heap),Inv X pins σ H1 s1->Fl X H1 s1 a C t0 H' B s->t D σ H' ->
  wpAny af! X.A (handleBy (.ref a) X.env hs) (SP X pins D) X.xe s
variable {x:Str} {C D:Addr} {np pos:Pos} {nm:Option Str} {b0:Stmt} {body sj:List Stmt} {hs rest:List ExceptHandler} {t:TS}
t! pf(hg:Gl X x)(hm:X.mg x=some (.ref D))(hx:%aI X.K (.ref C) (.ref D)=some false)(h:PH X rest C t)(hd:aE!=false:=by decide) :
  PH X (.ExceptHandler (some (.Name x np)) nm body pos::rest) C t:=by
 intro pins σ H1 s1 s D' a t0 H' B I F q;~J:=(F.inv I).sj (.ref a);o!⟨ob,hob,hc⟩:=F.Mg.there;~LT:PySem.W.Looks af! s.heap (typeOf (.ref a)) (.ref C):=by
  rw[←hc];e! (PySem.W.Looks.ld hob).andThen .now
 r! wpAny_handleBy_cons (codeAny_handlers_test (tZ J hg hm ?_ hd)) (by intro q;cases q);e! (PySem.W.exm_one (F.inv I).Ai LT hx).here (h pins σ H1 s1 s D' a t0 H' B I F q)
t! Ic(hg:Gl X x)(hm:X.mg x=some (.ref D))(hx:%aI X.K (.ref C) (.ref D)=some true)(hcalm:X.calm=true)(h:∀ e,MZ (X.sj e) (b0::sj) t)(hd:aE!=false:=by decide) :
  PH X (.ExceptHandler (some (.Name x np)) none (b0::sj) pos::rest) C t:=by
 intro pins σ H1 s1 s D' a t0 H' B I F q;~J:=(F.inv I).sj (.ref a);o!⟨ob,hob,hc⟩:=F.Mg.there;~LT:PySem.W.Looks af! s.heap (typeOf (.ref a)) (.ref C):=by
  rw[←hc];e! (PySem.W.Looks.ld hob).andThen .now
 r! wpAny_handleBy_cons (codeAny_handlers_test (tZ J hg hm ?_ hd)) (by intro q;cases q);r! (PySem.W.exm_one (F.inv I).Ai LT hx).here (codeAny_handlers_suite ?_);r! lands_againW F.Mg λh6 fly6 sl6=>?_
 ~F6:=F.on I sl6 fly6;e! wpAny_mono (h (.ref a) pins _ σ H' D' ((F6.inv I).sj (.ref a)) q) (λf s2 z=>SP.ub z I.ok.hd) λ_ _ z=>%bf z
abbrev Cx.OT(X:Cx)(pins:List an!)(hs:List ExceptHandler)(D:Ends):Cx:={X with
 pn:=X.pn++pins
 xe:=λe s'=>wpAny af! X.A (noteFrame e X.env) (λ_ s2=>wpAny af! X.A (setFlight e none) (λ_ s3=>wpAny af! X.A (handleBy e X.env hs) (SP X pins D) X.xe s3) X.xe s2) X.xe s'}
t! Inv.OT{pins:List an!}{σ:St}{H:Hp}{s:Shared}{D:Ends}(I:Inv X pins σ H s):Inv (X.OT pins hs D) [] σ H s :=
 ⟨⟨I.ok.mod,I.ok.kind,I.ok.glob,I.ok.blt,I.ok.above,I.ok.inj,I.ok.has,I.ok.Vq,I.ok.hd,I.ok.frames,I.ok.WE,I.ok.Vk,I.ok.bs,I.ok.Ri,I.ok.LW,I.ok.JT,I.ok.i6,I.ok.Rk⟩,I.os,I.bare,I.base,I.loc,I.cell,I.free,I.pH,
  λp hp=>I.pin p (by simpa using hp),I.cx,I.len⟩
t! Inv.Ie{pins pins':List an!}{σ:St}{H:Hp}{s:Shared}{D:Ends}(I:Inv (X.OT pins hs D) pins' σ H s):Inv X pins σ H s :=
 ⟨⟨I.ok.mod,I.ok.kind,I.ok.glob,I.ok.blt,I.ok.above,I.ok.inj,I.ok.has,I.ok.Vq,I.ok.hd,I.ok.frames,I.ok.WE,I.ok.Vk,I.ok.bs,I.ok.Ri,I.ok.LW,I.ok.JT,I.ok.i6,I.ok.Rk⟩,I.os,I.bare,I.base,I.loc,I.cell,I.free,I.pH,
  λp hp=>I.pin p (%cl _ hp),I.cx,I.len⟩
t! SP.Ie{pins pins':List an!}{D D':Ends}{f:Flow}{s':Shared}(h:SP (X.OT pins hs D') pins' D f s'):SP X pins D f s':=by
 cases f with
 | next=>obtain ⟨σ',H',I,q⟩:=h;e! ⟨σ',H',I.Ie,q⟩
 | brk=>obtain ⟨σ',H',I,q⟩:=h;e! ⟨σ',H',I.Ie,q⟩
 | cont=>obtain ⟨σ',H',I,q⟩:=h;e! ⟨σ',H',I.Ie,q⟩
 | ret u=>obtain ⟨v,σ',H',I,r,q⟩:=h;e! ⟨v,σ',H',I.Ie,r,q⟩
def Y5(CC:Addr->Prop)(th:Addr->TS)(D:Ends)(σ:St):XK:=λc _ H'=>∃ C,c=.ref C/\CC C/\th C D σ H'
t! OU{CC:Addr->Prop}{th:Addr->TS}{pins:List an!}{D:Ends}{σ:St}{env:Env}{outer:List Env}{L:Addr}(hst:X.stack=X.env::outer)(hf:X.env.frame=some L)(hh:∀ C,CC C->PH X hs C (th C)) :
  Ia (bA X.prog X.w) (X.OT pins hs D) (Y5 CC th D σ) σ:=by
 intro pins' H1 s1 e s' I h;o!⟨a,C,t,H',B,rfl,os,bare,un,cx,b1,b2,Mg,C',ec,hc,q⟩:=h;cases ec;~I1:Inv X pins σ H1 s1:=I.Ie;~F0:Fl X H1 s1 a C t H' B s':=⟨os,bare,un,cx,b1,b2,Mg⟩;show wpAny _ _ (noteFrame _ _) _ _ _;~fly':Heap.FlyingW B (X.env::outer) a (.ref C) (.ref t) s'.heap:=by rw[←hst];e! Mg
 ~fr':X.A.frames=some (X.env::outer):=by rw[←hst];e! I1.ok.frames
 r! wpAny_looks_onW fr' hf fly' λh4 held4 sl4=>?_
 r! wpAny_landsW held4 λh5 fly5 sl5=>?_
 ~F5:=F0.on (h':=h5) I1 (sl4.trans sl5) (by rw[hst];e! fly5);e! hh C hc pins σ H1 s1 _ D a t H' B I1 F5 q
t! XY{h0:ExceptHandler}{tb:List an!->St->Ends->TS}(hb:∀ pins σ D,MZ (X.OT pins (h0::hs) D) body (tb pins σ D)) :
  PS X (.Try body (h0::hs) [] [] pos) (λD σ H=>∀ pins,tb pins σ D D σ H):=by
 intro pins s σ H D I h;r! wpAny_Try_except (wpAny_mono (hb pins σ D [] s σ H D I.OT (h pins)) (λf s1 q=>?_) λe s1 z=>z);~q':=SP.Ie q;cases f with
 | next=>e! wpAny_execs_nil q'
 | ret v=>e! q'
 | brk=>e! q'
 | cont=>e! q'
end
end L2
namespace L2
open PySem PySem.Spec PyProof.Rows
structure KD (P:Program) (w:World) (K:PySem.W.Frag) (a:Addr) (kvs:List (Key×V)):Prop where
 sys:ci!=false
 here:∃ vs,KV kvs vs/\∀ h:Heap,K.In h->h.DictOf (bN P w) a vs
def Y6(a:Addr)(kvs:List (Key×V))(td ty:TE):TE:=fun σ H Q=>td σ H λx H1=>ty σ H1 λy H2=>∃ k v,x=.ref a/\y=kV k/\cA kvs k=some v/\Q v H2
def VR(a:Addr)(kvs:List (Key×V))(ty td:TE):TE:=fun σ H Q=>ty σ H λy H1=>td σ H1 λx H2=>∃ k,x=.ref a/\y=kV k/\Q (.bl (!(cA kvs k).isSome)) H2
section
variable {X:Cx} {o i:Expr} {pos:Pos} {td ty:TE} {a:Addr} {kvs:List (Key×V)}
t! Am(d:KD X.prog X.w X.K a kvs)(ho:PE X o td)(hi:PE X i ty)(hs:XG i):PE X (.Subscript o i pos) (Y6 a kvs td ty):=by
 intro pins s σ H Q I h;r! Qx PySem.F.slot_dict_getitem.lookup hs (fH cd! λu s1 ⟨x,H1,I1,rx,q1⟩=>fH (hi pins s1 σ H1 _ I1 q1) λiv s2 ⟨y,H2,I2,ry,k,v,ex,ey,l,q2⟩=>?_);subst ex ey;obtain rfl:u=%aL a:=rx;o!⟨vs,rel,at_⟩:=d.here;~dd:=at_ _ I2.Ai
 o!⟨w',hw,rw'⟩:=wI.some_of (v:=v) (o:=valueAt vs k) (by rw[←l];e! rel.val k);e! ⟨dd.typeIs,wpAny_getItem_of (A5 ry) dd.mapOf hw ⟨v,H2,I2.tok _,rw',q2⟩⟩
t! RH(d:KD X.prog X.w X.K a kvs)(hi:PE X i ty)(ho:PE X o td):PC X .NotIn i o (VR a kvs ty td):=by
 intro pins s σ H Q I h;r! fH cK! λiv s1 ⟨y,H1,I1,ry,q1⟩=>fH dF! λu s2 ⟨x,H2,I2,rx,k,ex,ey,q2⟩=>?_
 subst ex ey;obtain rfl:u=%aL a:=rx;o!⟨vs,rel,at_⟩:=d.here;r! wpAny_notIn_of (A5 ry) d.sys (at_ _ I2.Ai).mapOf ?_;rw[←(rel.val k).rO];e! ⟨.bl (!(cA kvs k).isSome),H2,I2.tok _,rfl,q2⟩
end
section
variable {X:Cx}
t! sk:sf X (.type "dict") (λxs H Q=>∃ (a:Addr) (kvs:List (Key×V)),xs=[.ref a]/\Rd H a aQ!/\∀ p,H p=none->Q (.ref p) (upd H p aQ!)):=by
 intro pins s σ H xs us Q I r h;o!⟨a,kvs,rfl,ha,q⟩:=h;o!⟨u,rfl,ru⟩:=vals1 r;cases ru;e! TC I ha λp s' hp I'=>⟨.ref p,_,I',rfl,q p hp⟩
end
t! KV.len{kvs:List (Key×V)}{vs:List fA!}(r:KV kvs vs):kvs.length=vs.length:=Paired.length r
section
variable {X:Cx}
def VS:V->List V->Hp->VK->Prop:=λx vs H Q=>∃ d e kvs more,x=.ref d/\vs=[.ref e]/\d≠e/\H d=some aQ!/\H e=some (.dK more)/\kvs.length+more.length<=sizeLine/\Q .fK (upd H d (.dK (yQ kvs more)))
t! RI:Yw X "dict.update" VS:=by
 intro pins s σ H x vs v us Q I rx rv h;o!⟨d,e,kvs,more,rfl,rfl,hne,hd,he,hz,q⟩:=h;cases rx;o!⟨u,rfl,ru⟩:=rv.one;cases ru;o!⟨z1,sd,vs1,r1,d1⟩:=Qw I.cx hd;o!⟨z2,se,vs2,r2,d2⟩:=Qw I.cx he;r! call_meetsIn F.slot_dict_update d1.typeIs F.entry_dict_update (F.args_dict_update_2 _ _) (meets_dict_update gl! d e hne se) ⟨vs1,vs2,d1,d2,by rw[←r1.len,←r2.len];e! hz,λh' k1 k2 sm=>?_⟩;r! ⟨.fK,_,Hf (t':=s.toks) I (by rw[hd];e! trivial) sm (let ⟨o,_,_,ho,_⟩:=k1;⟨o,ho⟩) (Md ?_ sd (KV.merge r2 r1) k1),rfl,q⟩;~l1:=uI more kvs;w!
def TV:V->List V->Hp->VK->Prop:=λx vs H Q=>∃ l xs y,x=.ref l/\vs=[.int 0,y]/\H l=some da!/\xs.length < sizeLine/\Q .fK (upd H l (.lst (y::xs)))
t! OV:Yw X "list.insert" TV:=by
 intro pins s σ H x vs v us Q I rx rv h;o!⟨l,xs,y,rfl,rfl,hH,hz,q⟩:=h;cases rx;o!⟨u0,u,rfl,⟨t0,rfl⟩,ru⟩:=rv.two;o!⟨z,its,n,r,hl,e⟩:=I.Ni hH;r! call_meets F.slot_list_insert ⟨_,e,rfl⟩ F.entry_list_insert (F.args_list_insert_3 _ _ _) (PySem.AutoListH.list_insert_list_int_val_1 l its.toArray n 0 t0 u ag! gk!) ⟨e,?_⟩;r! ⟨.fK,_,I.Tv (its':=u::its) hH e ?_ (.cons ru r) ?_,rfl,q⟩
 ·show (its.toArray.extract 0 (min (Int.toNat 0) its.toArray.size)).push u++its.toArray.extract (min (Int.toNat 0) its.toArray.size)=_;simp
 ·rw[%aV];w!
t! JZ(l:Addr)(its:Array Value)(n:Nat)(b:Addr)(dct:Option Addr)(more:Array Value)(k:Nat)(sl:Array cr!)(h0:¬(!its.isEmpty && %cb (its.size+more.size))=true)(h1:its.size<=sizeLine)(h2:its.size+more.size<=sizeLine+1) :
  Meets (Builtin.«list.extend» ⟨[.ref l,.ref b],[]⟩) (λ_ R s=>s.heap.get? l=some {cls:=.type "list",data:=.seq its n}/\s.heap.get? b=some ⟨.type "tuple",dct,.seq more k,sl⟩ /\
   R (.ok (.ret %bT)) {s with heap:=s.heap.update l (Obj.mapSeq λx=>x++more),toks:=s.toks}) :=
 .of_wp λprog w A R s h=>by
  o!⟨hp,g,d,tk,os⟩:=s;o!⟨hl,hb,h⟩:=h;~z1:=AutoSeq1.idx_int;~z2:=AutoSeq1.sub_tuple_tuple;~z3:=AutoSeq1.sub_list_list;~z4:=AutoSeq1.sub_tuple_list;~z5:=AutoSeq1.sub_list_tuple;~hz:(its++more).size<=sizeLine+1:=by rw[Array.size_append];e! h2
  wp_walk using (wpAny_updateSeq hl rfl (hz:=h1) (_hz':=hz)),wpAny_loadPart' hl,wpAny_loadPart' hb
  e! ⟨_,rfl,h⟩
def TX:V->List V->Hp->VK->Prop:=λx vs H Q=>∃ l b xs zs,x=.ref l/\vs=[.ref b]/\H l=some da!/\H b=some (.tup zs)/\xs.length+zs.length<=sizeLine/\Q .fK (upd H l (.lst (xs++zs)))
t! OW:Yw X "list.extend" TX:=by
 intro pins s σ H x vs v us Q I rx rv h;o!⟨l,b,xs,zs,rfl,rfl,hH,hB,hz,q⟩:=h;cases rx;o!⟨u,rfl,ru⟩:=rv.one;cases ru;o!⟨z,its,n,r,hl,e⟩:=I.Ni hH;o!⟨z2,its2,r2,⟨oc,od,odt,osl⟩,e2,c2,n2,d2⟩:=(show eS X.prog X.w H s.heap b (.tup zs) from I.cx b _ hB);dsimp only at c2 d2;subst c2 d2;~hl2:=r2.length;~hs:its.toArray.size+its2.toArray.size<=sizeLine:=by rw[%aG,%aG];w!
 ~hlong:¬ (!its.toArray.isEmpty && %cb (its.toArray.size+its2.toArray.size))=true:=by
  rw[Nj hs,Bool.and_false];e! %ao
 r! call_meets F.slot_list_extend ⟨_,e,rfl⟩ F.entry_list_extend (F.args_list_extend_2 _ _) (JZ l its.toArray n b od its2.toArray n2 osl hlong gk! (by w!)) ⟨e,e2,?_⟩;r! ⟨.fK,_,I.Tv (its':=its++its2) hH e ai! (r.append r2) ?_,rfl,q⟩;rw[%aq];w!
t! Ig:Tr X "str.startswith" (λx xs H Q=>∃ a b i,x=.str a/\xs=[.str b,.int i]/\Q (.bl (Txt.startswith3 a b i)) H):=by
 intro pins s σ H x xs v us Q I rx rs h;o!⟨a,b,i,rfl,rfl,q⟩:=h;o!⟨t,rfl⟩:=rx;o!⟨u0,u1,rfl,⟨t0,rfl⟩,⟨t1,rfl⟩⟩:=rs.two;e! PySem.SC.startswith3 ⟨.bl (Txt.startswith3 a b i),H,I,rfl,q⟩
t! TY:sf X (.builtin "isinstance") (λxs H Q=>∃ x b,xs=[x,.ty "int"]/\((b=true/\∃ i,x=.int i)∨(b=false/\∃ a ys,x=.ref a/\H a=some (.lst ys)))/\Q (.bl b) H):=by
 intro pins s σ H xs us Q I r h;o!⟨x,b,rfl,c,q⟩:=h;o!⟨u,u2,rfl,ru,ru2⟩:=r.two;cases ru2;rcases c with ⟨rfl,i,rfl⟩ | ⟨rfl,a,ys,rfl,ha⟩
 ·e! Kt (t:=.type "int") I ru (.int i) (by kernel_rfl) λtk=>⟨.bl true,H,I.tok _,rfl,q⟩
 ·e! Kt (t:=.type "list") I ru (.lst ha) (by kernel_rfl) λtk=>⟨.bl false,H,I.tok _,rfl,q⟩
end
end L2
namespace L2
open PySem PySem.Spec PyProof.Rows
def ND(P:Program)(w:World)(ks:List Key)(i:Nat)(h:Heap)(S:Addr):Prop :=
 ∃ (T:Key->Bool) (n:Nat),h.SetOf (bN P w) S T n/\(∀ k,T k=true↔k∈ks.take i)/\n<=i/\(n=i↔(ks.take i).Nodup)
t! ND.moved{P:Program}{w:World}{ks:List Key}{i:Nat}{h h':Heap}{S:Addr}(q:ND P w ks i h S)(k:∀ o,h.get? S=some o->h'.get? S=some o):ND P w ks i h' S:=by
 o!⟨T,n,⟨o,es,ep,t,ho,rest⟩,r⟩:=q;e! ⟨T,n,⟨o,es,ep,t,k o ho,rest⟩,r⟩
t! OX{ks:List Key}{i:Nat}{k:Key}(e:ks[i]?=some k):(ks.take (i+1)).Nodup↔(ks.take i).Nodup/\k∉ks.take i:=by
 ~q:ks.take (i+1)=ks.take i++[k]:=by
  rw[%ay,e];rfl
 rw[q,List.nodup_append];constructor
 ·rintro ⟨h1,_,h3⟩;e! ⟨h1,λm=>h3 k m k ai! rfl⟩
 ·rintro ⟨h1,h2⟩;r! ⟨h1,by simp,λa ha b hb=>?_⟩;cases %aN hb;rintro rfl;e! h2 ha
t! TZ{ks:List Key}{i:Nat}{k k':Key}(e:ks[i]?=some k):k'∈ks.take (i+1)↔k'∈ks.take i∨k'=k:=by
 ~q:ks.take (i+1)=ks.take i++[k]:=by
  rw[%ay,e];rfl
 rw[q,List.mem_append,List.mem_singleton]
section
variable {prog:Program} {w:World} {A:Around} {R:Result->Shared->Prop} {J:Addr} {fp wr:List Addr} {G:Array GenState->Array GenState->Prop} {m:Nat} {Pi:Nat->Value->Prop} {St:Nat->Shared->Prop}
t! T2(W:WalksS prog w A.in1 J fp wr G m Pi St)(S:Addr)(out:S∉fp)(ks:List Key)(hv:∀ i v,Pi i v->∃ k,ks[i]?=some k/\(bN prog w).is k v=true/\v.scannable=true)(hm:m+1 < scanBound) :
  ∀ (d i:Nat) (s:Shared),m=i+d->St i s->ND prog w ks i s.heap S ->
   (∀ s',Moved (S::wr) G s s'->ND prog w ks m s'.heap S->R (.ok (.ret .none)) s')->codeAny az! A (.builtin "set.update.loop" ⟨[.ref S,.ref J],[]⟩) R s:=by
 ~out2:S∉wr:=λz=>out (W.sub _ z)
 ~more:∀ b∈wr,b∈S::wr:=λb z=>%af _ z
 intro d
 induction d with
 | zero =>
  intro i s hd st q hR;cases (show m=i from hd);r! codeAny_builtin F.entry_set_update_loop ?_;rw[Around.under_plainId F.plain_set_update_loop _];show wpAny _ A.in1 (pyNext (.ref J) >>= _) _ _ s;e! wpAny_bind (W.done s _ _ st λs' mv=>(wpAny_pure (hR s' (mv.mono more) (q.moved λo ho=>mv.heap S _ out2 ho)):wpAny _ A.in1 (ret %bT) _ _ s'))
 | succ d ih =>
  intro i s hd st q hR;r! codeAny_builtin F.entry_set_update_loop ?_;rw[Around.under_plainId F.plain_set_update_loop _];show wpAny _ A.in1 (pyNext (.ref J) >>= _) _ _ s;r! wpAny_bind (W.item i s _ _ (by w!) st λv s' pv st' mv=>?_);o!⟨k,ek,ik,sc⟩:=hv i v pv;o!⟨T,n,so,mem,ni,nd⟩:=q.moved (h':=s'.heap) λo ho=>mv.heap S _ out2 ho
  show wpAny _ A.in1 (holding [v] (setAdd S v) >>= _) _ _ s';r! wpAny_bind (wpAny_holding ?_);unfold setAdd;r! wpAny_holding (wpAny_bind ((bN prog w).pyHash (k:=k) ik ?_));r! wpAny_setAddHashed_of (knd:=bN prog w) (s:={s' with toks:=s'.toks+1}) ik sc so (by w!) λh' sb so'=>?_
  ~q':ND prog w ks (i+1) h' S:=by
   r! ⟨_,_,so',λk'=>?_,?_,?_⟩
   ·rw[Bool.or_eq_true,mem k',TZ ek,decide_eq_true_eq]
   ·split<;>w!
   ·rw[OX ek,←nd,←mem k];cases T k with
    | true =>
     simp only[if_true,not_true_eq_false,and_false,iff_false];w!
    | false =>
     simp only[Bool.false_eq_true,if_false,not_false_eq_true,and_true];w!
  r! wpAny_pure ⟨plainId_quiet F.plain_set_update_loop _,ih (i+1) _ (by w!) (W.frame _ s' _ _ st' (Nat.le_succ _) λb hb o e=>?_) q' λs2 mv2 q2=>?_⟩
  ·rw[sb.2 b λz:b=S=>out (by rw[←z];e! hb)];e! e
  ·r! hR s2 (Moved.trans W.gtrans ((mv.mono more).then_heap (Nat.le_succ _) λb o hb e=>?_) mv2) q2;rw[sb.2 b λz:b=S=>hb (by rw[z];e! %an)];e! e
end
t! RJ{P:Program}{w:World}{h:Heap}{a:Addr}{led:Bool}(e:h.get? a=some {cls:=.type "set",dict:=none,data:=.set #[] 0 f7!})(hz:0 < scanBound):h.SetOf (bN P w) a (λ_=>false) 0 :=
 ⟨_,#[],0,_,e,⟨rfl,rfl,rfl⟩,rfl,λx hx=>by simp at hx,λk=>by simp,hz,rfl,rfl⟩
section
variable {prog:Program} {w:World} {A:Around} {E:Value->Shared->Prop} {s:Shared}
set_option maxHeartbeats 3200000 in
t! NF{l:Addr}{its:Array Value}{ks:List Key}{Q:Value->Shared->Prop}(hh:A.handled=none)(hl:s.heap.IsList l its)
  (hv:∀ (i:Nat) (v:Value),its[i]?=some v->∃ k,ks[i]?=some k/\(bN prog w).is k v=true/\v.scannable=true) (hm:its.size+1 < scanBound)
  (h:∀ (h':Heap) (tk:Nat),ND prog w ks its.size h' s.heap.objs.size->(∀ b o,b < s.heap.objs.size->s.heap.get? b=some o->h'.get? b=some o)->Q cC! {s with heap:=h',toks:=tk}) :
  wpAny az! A (call (.type "set") [.ref l]) Q E s:=by
 ~cs:=PySem.F.called_set;o!⟨c,tl,hmro⟩:=cs.mro;~c1:=cs.made;~c2:=cs.sub;~c3:=cs.notType;~c4:=cs.canCreate;~c5:=PySem.F.typeCall_set_1 (.ref l);r! wpAny_call (codeAny_of_tree (show wpAny _ _ (callAny (.type "set") _) _ _ _ from wpAny_pure ⟨Code.quiet_builtin _ (by dk!),codeAny_builtin PySem.F.entry_type_call ?_⟩));rw[Around.under_plain (weight_type_call_type "set" [.ref l] []) rfl]
 repeat (any_goals (first | assumption | wp_step))
 r! codeAny_mono (code_set_new_1 (.ref l) (E:=E) (Q₁:=λobj s1=>∃ led:Bool,obj=.ref s.heap.objs.size/\s1={s with heap:=s.heap.push {cls:=.type "set",dict:=none,data:=.set #[] 0 f7!}}) λled=>⟨led,rfl,rfl⟩) λr s1 hr=>?_
 cases r with
 | error e=>e! hr
 | ok fl =>
  cases fl with
  | next=>e! hr.elim
  | brk=>e! hr.elim
  | cont=>e! hr.elim
  | ret obj =>
   o!⟨led,rfl,rfl⟩:=hr;generalize eN:s.heap.push {cls:=.type "set",dict:=none,data:=.set #[] 0 f7!}=hN;~hS:hN.get? s.heap.objs.size=some {cls:=.type "set",dict:=none,data:=.set #[] 0 f7!}:=by rw[←eN];e! %aA _ rfl
   ~szN:hN.objs.size=s.heap.objs.size+1:=by rw[←eN,%bi]
   ~keep:∀ b o,s.heap.get? b=some o->hN.get? b=some o:=λb o e=>by rw[←eN];e! %ap _ e
   ~hT:Shared.TypeIs {s with heap:=hN} cC! "set":=⟨_,hS,rfl⟩;~i1:=cs.init.lookup;~i2:=cs.init.bind cC!
   repeat (any_goals (first | assumption | wp_step))
   r! codeAny_mono (codeAny_call_builtin (R:=wants (λr s2=>r=.none/\∃ h' tk,s2={s with heap:=h',toks:=tk}/\ND prog w ks its.size h' s.heap.objs.size/\(∀ b o,b < s.heap.objs.size->s.heap.get? b=some o->h'.get? b=some o)) E)
    cs.init.plain PySem.F.entry_set_init (check_set_init_1 hT ?_)) λr2 s2 hr2=>?_
   ·o!⟨⟨oc,odc,odt,osl⟩,Ih,hcl,nl,hdl⟩:=hl;dsimp only at hcl hdl;subst hcl hdl;~hol':=keep _ _ Ih;~g1:=PySem.F.sub_list_set;~g2:=PySem.F.sub_list_frozenset;~g3:(%cf "list" == %cf "dict")=false:=by decide
    ~hl1:hN.IsList l its:=⟨_,hol',rfl,nl,rfl⟩;unfold Builtin.«set.__init__» noKeywords Builtin.Frozenset.updateFrom;generalize hPI:pyIter=PI
    wp_walk
    subst hPI;r! wpAny_pyIter_list hl1 (wpAny_bind (wpAny_runValue ?_));~lt:l < s.heap.objs.size:=%av Ih;~nJ:l≠hN.objs.size:=by rw[szN];e! %aJ (%bU lt)
    ~out:s.heap.objs.size∉[hN.objs.size,l]:=by
     simp only[List.mem_cons,List.not_mem_nil,or_false,not_or];e! ⟨by rw[szN];e! %aJ (%cG _),Nat.ne_of_gt lt⟩
    r! T2 ((Walks.list (by simp[hh]) _ l nJ its).toS) s.heap.objs.size out ks hv hm its.size 0 _ (by w!) ⟨⟨_,Heap.get?_push_size _ rfl,rfl,rfl⟩,hl1.push _⟩ ?z0 ?zR
    case z0 =>
     r! ⟨λ_=>false,0,RJ (Heap.get?_push_of_some _ hS) (by unfold scanBound;w!),λk=>by simp,Nat.le_refl _,by simp⟩
    case zR =>
     intro s' mv q';o!⟨h',g',d',tk',os'⟩:=s';~e1:g'=s.gens:=mv.gens;~e2:d'=s.drawn:=mv.drawn;~e3:os'=s.os:=mv.os;subst e1 e2 e3;show wpAny _ _ _ _ _ _;r! wpAny_pure ((wpAny_pure ⟨rfl,h',tk',rfl,q',λb o hb e=>mv.heap b o ?_ (%ap _ (keep b o e))⟩:wpAny _ _ (ret %bT) _ _ _));simp only[List.mem_cons,List.not_mem_nil,or_false,not_or];e! ⟨%aJ hb,by rw[szN];e! %aJ (%bU hb)⟩
   ·cases r2 with
    | error e=>e! hr2
    | ok fl2 =>
     cases fl2 with
     | ret r =>
      o!⟨rfl,h',tk,rfl,q',k'⟩:=hr2
      repeat (any_goals (first | assumption | wp_step))
      e! h _ _ q' k'
     | next=>e! hr2.elim
     | brk=>e! hr2.elim
     | cont=>e! hr2.elim
end
def T3(P:Program)(w:World)(a:Addr)(n:Nat):HO:=.ext λh=>∃ T,h.SetOf (bN P w) a T n
section
variable {X:Cx}
t! T4{k:Key}{v:Value}(r:RelV (kV k) v):v.scannable=true:=by
 cases k with
 | inl i=>obtain ⟨t,rfl⟩:=r;rfl
 | inr x=>obtain ⟨t,rfl⟩:=r;rfl
t! XZ(hc:X.calm=true):sf X (.type "set") (λxs H Q=>∃ (a:Addr) (ks:List Key),xs=[.ref a]/\aX X.K H a (ks.map kV)/\ks.length+1 < scanBound /\
  ∀ p n,H p=none->(n=ks.length↔ks.Nodup)->Q (.ref p) (upd H p (T3 X.prog X.w p n))):=by
 intro pins s σ H xs us Q I r h;o!⟨a,ks,rfl,ha,hz,q⟩:=h;o!⟨u,rfl,ru⟩:=vals1 r;cases ru;o!⟨its,rv,pl,hl⟩:=I.list ha;~len:=rv.length;rw[%ac] at len;r! NF (ks:=ks) b4! pl.isList (λi v hv=>?_) (by rw[%aG,←len];e! hz) λh' tk q' k'=>?_
 ·~hi:i < ks.length:=by
   ~z:=(%bt hv).1;rw[%aG,←len] at z;e! z
  ~ek:ks[i]?=some ks[i]:=%aW hi;o!⟨v',e1,r1⟩:=rv.get (i:=i) (x:=kV ks[i]) (by rw[%al,ek];rfl);~e2:its[i]?=some v:=by simpa using hv
  rw[e1] at e2;cases e2;e! ⟨_,ek,A5 r1,T4 r1⟩
 ·o!⟨T,n,so,mem,ni,nd⟩:=q';rw[%aG,←len,%bs] at nd;~hn:=I.cx.fresh (%am s.heap.objs.size);r! ⟨.ref s.heap.objs.size,_,I.laid (a:=s.heap.objs.size) (o:=T3 X.prog X.w s.heap.objs.size n) (t':=tk) (λb u e=>k' b u (%av e) e) (%am _) ⟨⟨T,so⟩,let ⟨o,_,_,_,ho,_⟩:=so;⟨o,ho⟩,λh1 h2 ⟨T1,o,es,ep,t,ho,rest⟩ kk=>⟨T1,o,es,ep,t,kk o ho,rest⟩⟩,rfl,q _ n hn nd⟩
t! RK:sf X (.builtin "len") (λxs H Q=>∃ a n,xs=[V.ref a]/\H a=some (T3 X.prog X.w a n)/\Q (.int n) H):=by
 intro pins s σ H xs us Q I r h;o!⟨a,n,rfl,ha,q⟩:=h;o!⟨u,rfl,ru⟩:=vals1 r;cases ru;o!⟨⟨T,o,es,ep,t,ho,hex,hd,hel,hmem,hb,hf,hn⟩,_⟩:=(show eS X.prog X.w H s.heap a (T3 X.prog X.w a n) from I.cx a _ ha);~small:(es.size:Int) < 2 ^ 63:=by
  unfold scanBound at hb;have:(es.size:Int) < 4096:=by w!
  e! Int.lt_of_lt_of_le this ag!
 r! call_len_set ho hex hd hf small ⟨.int n,H,I.tok _,⟨s.toks+1,?_⟩,q⟩;rw[hn]
end
end L2
namespace L2
open PySem PySem.Spec PyProof.Rows
section
variable {M:Model} {A:Around} {X0:Value->Shared->Prop} {s:Shared}
t! RL{env env':Env}(h:env'.frame=env.frame)(e:Value):noteFrame e env'=noteFrame e env:=by
 unfold noteFrame PySem.frameOf;rw[h]
def T5(B:Heap)(l:List Env)(e:Addr)(cls a0:Value)(h:Heap):Prop:=B.StaysIn h/\B.get? e=none/\h.FunFrames B l/\∃ fl,h.TracedAtW B e cls a0 fl
t! T6{B:Heap}{env:Env}{outer:List Env}{L e:Addr}{cls a0:Value}{Q:Unit->Shared->Prop}(hfr:A.frames=some (env::outer))(hf:env.frame=some L)(hx:T5 B (env::outer) e cls a0 s.heap)
  (q:∀ h',Heap.HeldW B (env::outer) e cls a0 L h'->s.heap.UpToSlots h'->Q () {s with heap:=h'}):wpAny M A (noteFrame (.ref e) env) Q X0 s:=by
 o!⟨kb,en,fr,fl,tr⟩:=hx;by_cases c:(fl == rawInt L)=true
 ·~z:fl=rawInt L:=by simpa using c
  subst z;e! wpAny_noteFrame_againW hf tr (q s.heap ⟨kb,en,fr,tr⟩ (Heap.UpToSlots.refl _))
 ·o!⟨oe,vs,T,oT,ts,he,⟨rfl,h0⟩,hd,h1,nT,neT,hT,hdT,h3⟩:=tr;unfold noteFrame;simp only[hf];r! wpAny_bind (wpAny_field he hd h1 ?_);rw[if_pos ai!];r! wpAny_bind (wpAny_field hT hdT h3 ?_);rw[n! c];r! wpAny_bind (wpAny_setField hT hdT (%bt h3).1 ?_);~oth:∀ b,b≠T->(s.heap.update T (Obj.mapFields (·.setIfInBounds 3 %bT))).get? b=s.heap.get? b:=λb n=>%cK _ _ (Ne.symm n)
  ~nor:∀ b o,s.heap.get? b=some o->(∀ vs,o.data≠.fields vs)->b≠T:=λb o e n z=>n ts (by rw[z,hT] at e;cases e;e! hdT)
  r! wpAny_entryW hfr (fr.of_keeps λb o e n=>⟨o,by rw[oth b (nor b o e n)];e! e,rfl⟩) hf (by rw[oth _ (Ne.symm neT)];e! he) (λb o e=>by rw[oth b λz=>by rw[z,nT] at e;cases e];e! kb b o e) en hd (%bt h1).1 h0 λh' z=>?_
  o!⟨k1,k2,k3,k4⟩:=z;e! q h' ⟨k1,en,k2,k3⟩ λb o e n=>k4 b o (by rw[oth b (nor b o e n)];e! e) n
t! OY{B:Heap}{l:List Env}{e:Addr}{cls a0:Value}{fr:Option Addr}{Q:Unit->Shared->Prop}(hx:T5 B l e cls a0 s.heap)(q:∀ h',T5 B l e cls a0 h'->s.heap.UpToSlots h'->Q () {s with heap:=h'}):wpAny M A (setFlight (.ref e) fr) Q X0 s:=by
 o!⟨kb,en,ff,fl,oe,vs,T,oT,ts,he,hc,hd,h1,nT,neT,hT,hdT,h3⟩:=hx;~sz:3 < ts.size:=(%bt h3).1;~oth:∀ b,b≠T->(s.heap.update T (Obj.mapFields (·.setIfInBounds 3 (fr.elim %bT λf=>rawInt f)))).get? b=s.heap.get? b:=λb n=>%cK _ _ (Ne.symm n)
 ~nor:∀ b o,s.heap.get? b=some o->(∀ vs,o.data≠.fields vs)->b≠T:=λb o e n z=>n ts (by rw[z,hT] at e;cases e;e! hdT)
 unfold setFlight;r! wpAny_bind (wpAny_field he hd h1 ?_);rw[if_pos ai!];r! wpAny_setField hT hdT sz (q _ ⟨λb o e=>by rw[oth b λz=>by rw[z,nT] at e;cases e];e! kb b o e,en,ff.of_keeps λb o e n=>⟨o,by rw[oth b (nor b o e n)];e! e,rfl⟩,fr.elim Value.none λf=>rawInt f,oe,vs,T,_,_,by rw[oth _ (Ne.symm neT)];e! he,hc,hd,h1,nT,neT,
  Heap.get?_update_self _ hT (Obj.isFreed_of_fields (Obj.data_mapFields hdT _)),Obj.data_mapFields hdT _,by simp[sz]⟩ λb o e n=>⟨o.slots,by rw[oth b (nor b o e n)];e! e⟩)
t! RM{B:Heap}{env:Env}{outer:List Env}{L e:Addr}{cls a0:Value}{Q:Unit->Shared->Prop}(hfr:A.frames=some (env::outer))(hf:env.frame=some L)(hx:T5 B (env::outer) e cls a0 s.heap)
  (q:∀ h',Heap.FlyingW B outer e cls a0 h'->s.heap.UpToSlots h'->Q () {s with heap:=h'}):wpAny M A (leaving env (.ref e)) Q X0 s:=by
 unfold leaving;r! wpAny_bind (T6 hfr hf hx λh1 held sl=>wpAny_landsW held λh2 Mg sl2=>?_);o!⟨k1,k2,⟨_,_,k3⟩,k4⟩:=Mg;e! q h2 ⟨k1,k2,k3,k4⟩ (sl.trans sl2)
end
section
variable {P:Program} {w:World} {K:PySem.W.Frag} {mg:Str->Option Value} {base:Heap} {N:List Str} {qual:Str} {scope:Scope} {f:Addr} {cd:Value} {A:Around} {outer:List Env} {s:Shared} {H:Hp} {E:XK}
t! T7{pins pins':List an!}{σ σ':St}{H3 Hh:Hp}{s3 sh s':Shared}{bsc:Scope}{ce:Env}{fp:List Addr}{use:Option et!}{Qf:Value->Shared->Prop}{acc e:Value}
  (I3:Inv ao! pins σ H3 s3) (hce:ce.frame=(gp (bA P w) P w K mg base N qual scope f cd A outer s H E).env.frame) (hcl:ce.locals=s3.heap.objs.size)
  (f3:∀ b∈fp,yH ao! pins H3 b)
  (I:Inv bq! pins' σ' Hh sh) (h:bA P w (gp (bA P w) P w K mg base N qual scope f cd A outer s H E).stack Hh sh E e s') :
  notedBy c6! (gp (bA P w) P w K mg base N qual scope f cd A outer s H E).A ce (λe s'=>compPost c6! (gp (bA P w) P w K mg base N qual scope f cd A outer s H E).A (gp (bA P w) P w K mg base N qual scope f cd A outer s H E).xe use Qf acc s3.heap.objs.size (.error e) s') e s':=by
 o!⟨a,C,t,H',B,rfl,os,bare,un,cx,b1,b2,Mg,q⟩:=h;~I':Inv bq! pins' σ' H' s':=I.Kp os un (cx.kept Mg.1) bare λb z=>absurd z ai!
 ~I7:Inv ao! pins σ H' s':=I3.Kp (ch:=fp) I'.os I'.base I'.cx I'.bare λb hb=>⟨(f3 b hb).2.2.2.1,(f3 b hb).2.1,(f3 b hb).2.2.2.2.1,(f3 b hb).2.2.2.2.2⟩
 o!⟨m,hn,_⟩:=I'.loc;~hn:s'.heap.Ns ce.locals m:=hn;rw[hcl] at hn;~nC:H' s3.heap.objs.size=none:=by
  ~z:H' ce.locals=none:=I'.free;rw[hcl] at z;e! z
 ~nCh:∀ {b:Addr} {o:Obj},s.heap.get? b=some o->b≠s3.heap.objs.size:=λe z=>absurd (%av e) (by rw[z];e! Nat.not_lt.mpr I3.sz)
 ~nfp:∀ {b:Addr} {o:Obj},s.heap.get? b=some o->b∉fp:=λ{b o} e hb=>by
  rcases (f3 b hb).2.2.2.1 with z | z
  ·cases z
  ·e! absurd (%av e) (Nat.not_lt.mpr z)
 show wpAny _ _ (noteFrame (.ref a) ce) _ _ s';rw[RL hce];r! wpAny_looks_onW I3.ok.frames rfl Mg λh1 held sl1=>?_
 ~goal:∃ m,h1.Ns s3.heap.objs.size m/\∀ h2,%cv s3.heap.objs.size h1 h2->∀ cenv:Env,cenv.locals=s3.heap.objs.size->wpAny c6! (gp (bA P w) P w K mg base N qual scope f cd A outer s H E).A (PySem.passOn "comprehension.variables-let-go" (.ref a) cenv:Sem Value) ez! (gp (bA P w) P w K mg base N qual scope f cd A outer s H E).xe {s' with heap:=h2}:=by
  r! ⟨m,sl1.ns hn,λh2 sb cenv _=>?_⟩;~kB:(%bp B [s3.heap.objs.size]).StaysIn B:=λb o e=>PySem.W.of_hideAll _ e
  ~held':=PySem.W.heldW_base kB held;~ne:∀ {b:Addr} {o:Obj},(PySem.W.hideAll B [s3.heap.objs.size]).get? b=some o->b≠s3.heap.objs.size:=λe z=>by rw[z,PySem.W.hideAll_none _ (%cd rfl)] at e;cases e
  ~nfr:∀ b∈yd (gp (bA P w) P w K mg base N qual scope f cd A outer s H E).stack,b≠s3.heap.objs.size:=λb hb z=>by
   rcases %ak (I3.DS b hb) with y | y
   ·e! %aJ I3.lt (y.symm.trans z)
   ·o!⟨_,o,ho,_⟩:=I3.ok.i6.mem y;e! nCh ho z
  o!⟨k1,k2,k3,oe,vs,T,oT,ts,he,hc,hd,hv1,nT,neT,hT,hdT,hv3⟩:=held';o!⟨oC,es,ep,hoC,hdC,_⟩:=sl1.ns hn;~eC:a≠s3.heap.objs.size:=λz=>by
   rw[z,hoC] at he;cases he;rw[hdC] at hd;cases hd
  ~tC:T≠s3.heap.objs.size:=λz=>by
   rw[z,hoC] at hT;cases hT;rw[hdC] at hdT;cases hdT
  ~ffr:∀ l:List Env,(∀ b∈yd l,b≠s3.heap.objs.size)->h1.FunFrames eY! l->h2.FunFrames eY! l:=by
   intro l
   induction l with
   | nil=>intro _ _;trivial
   | cons en r ih =>
    rintro hb ⟨y1,⟨L,o,y2,y3,y4,y5⟩,y6⟩;~hL:L∈yd (en::r):=by unfold yd;rw[List.filterMap_cons,y2];e! List.mem_cons_self
    r! ⟨y1,⟨L,o,y2,y3,by rw[sb.2 L (hb L hL)];e! y4,y5⟩,ih (λb hb'=>hb b ?_) y6⟩;unfold yd at hb' ⊢;rw[List.filterMap_cons,y2];e! %af _ hb'
  ~HX:T5 eY! (gp (bA P w) P w K mg base N qual scope f cd A outer s H E).stack a (.ref C) (.ref t) h2 :=
   ⟨λb o e=>by rw[sb.2 b (ne e)];e! k1 b o e,k2,ffr _ nfr k3,_,oe,vs,T,oT,ts,by rw[sb.2 _ eC];e! he,hc,hd,hv1,nT,neT,by rw[sb.2 _ tC];e! hT,hdT,hv3⟩
  unfold PySem.passOn;r! wpAny_bind (wpAny_field (show h2.get? a=some oe by rw[sb.2 _ eC];e! he) hd hv1 ?_);rw[if_neg ai!];r! wpAny_bind (OY (s:={s' with heap:=h2}) HX λh4 HX4 sl4=>wpAny_throw ?_);show wpAny _ _ (leaving _ _) _ _ _;r! RM (outer:=outer) I3.ok.frames rfl HX4 λh5 fly5 sl5=>?_
  ~nst:∀ b o,s.heap.get? b=some o->b∉yd outer->b∉yd (gp (bA P w) P w K mg base N qual scope f cd A outer s H E).stack:=λb o e n hb=>by
   rcases %ak (I3.DS b hb) with z | z
   ·e! %aJ (%aB (%av e) I3.ok.above) z
   ·e! n z
  ~c1:∀ b o,s.heap.get? b=some o->H b=none->b∉yd outer->(%bp B [s3.heap.objs.size]).get? b=some o:=λb o e n hb=>by
   ~e3:=I3.base.keep b o e n hb cZ!;~n3:=I3.base.free b o e n cZ!;~eh:=I.base.keep b o e3 n3 fp! (nfp e);~nh:=I.base.free b o e3 n3 (nfp e);e! PySem.W.hideAll_get _ (b1 b o eh nh fp!) (by simpa using nCh e)
  ~c2:∀ b o,s.heap.get? b=some o->b∉yd outer->∃ o',(%bp B [s3.heap.objs.size]).get? b=some o':=λb o e hb=>by
   o!⟨o3,e3⟩:=I3.base.there b o e cZ!;o!⟨oh,eh⟩:=I.base.there b o3 e3 (nfp e);o!⟨o',e'⟩:=b2 b oh eh fp!;e! ⟨o',PySem.W.hideAll_get _ e' (by simpa using nCh e)⟩
  ~c3:∀ b o,s.heap.get? b=some o->b∈yd outer->∃ sl,h5.get? b=some {o with slots:=sl}:=λb o e hb=>by
   o!⟨sl',e1⟩:=I7.base.slot b o e (I3.ok.Rk b hb) hb cZ!;o!⟨_,o',ho',hd'⟩:=I3.ok.i6.mem hb;~ho':s.heap.get? b=some o':=ho';rw[e] at ho';cases ho';o!⟨x1,y1⟩:=sl1 b _ e1 hd';~y2:h2.get? b=some {o with slots:=x1}:=by rw[sb.2 b (nCh e)];e! y1
   o!⟨x3,y3⟩:=sl4 b _ y2 hd';o!⟨x4,y4⟩:=sl5 b _ y3 hd';e! ⟨x4,y4⟩
  r! ⟨a,C,t,H',%bp B [s3.heap.objs.size],rfl,I7.os,I7.bare,⟨λb o e n hb _=>fly5.1 b o (c1 b o e n hb),λb o e n hb _=>c3 b o e hb,I7.base.free,λb o e _=>?_,I7.base.Gn,I7.base.CN,I7.base.Gp⟩,?_,c1,c2,fly5,q⟩
  ·by_cases hb:b∈yd outer
   ·o!⟨x,y⟩:=c3 b o e hb;e! ⟨_,y⟩
   ·o!⟨o',e'⟩:=c2 b o e hb;e! ⟨o',fly5.1 b o' e'⟩
  ·intro b o e;e! (cx b o e).Gm (λc v hc' q'=>PySem.W.hideAll_get _ q' (by
    rw[List.mem_singleton];intro z;rcases hc' with y | y
    ·rw[←y,z,nC] at e;cases e
    ·rw[z,nC] at y;cases y)) (λ_ q=>q) λ_ _ q=>q
 cases use with
 | none=>e! goal
 | some u=>e! goal
t! T8:∀ (pins pins':List an!) (σ σ':St) (H3 Hh:Hp) (s3 sh s':Shared) (bsc:Scope) (ce:Env) (fp:List Addr) (use:Option et!) (Qf:Value->Shared->Prop) (acc e:Value),Inv ao! pins σ H3 s3->ce.frame=(gp (bA P w) P w K mg base N qual scope f cd A outer s H E).env.frame->ce.locals=s3.heap.objs.size->(∀ b∈fp,yH ao! pins H3 b) ->
  Inv bq! pins' σ' Hh sh->bA P w (gp (bA P w) P w K mg base N qual scope f cd A outer s H E).stack Hh sh E e s' ->
  notedBy c6! (gp (bA P w) P w K mg base N qual scope f cd A outer s H E).A ce (λe s'=>compPost c6! (gp (bA P w) P w K mg base N qual scope f cd A outer s H E).A (gp (bA P w) P w K mg base N qual scope f cd A outer s H E).xe use Qf acc s3.heap.objs.size (.error e) s') e s' :=
 λ_ _ _ _ _ _ _ _ _ _ _ _ _ _ _ _ I3 hce hcl f3 I h=>T7 I3 hce hcl f3 I h
end
abbrev X1(X:Cx)(P:Program)(w:World)(E:XK)(s:Shared)(H:Hp)(scope:Scope)(ce:Env)(fp:List Addr):Cx:=(X.yI s H scope ce fp).Gq λe s'=>∃ (pins:List an!) (σ:St) (Hh:Hp) (sh:Shared),Inv (X.yI s H scope ce fp) pins σ Hh sh/\bA P w X.stack Hh sh E e s'
t! VT{X:Cx}{P:Program}{w:World}{E:XK}{s:Shared}{H:Hp}{scope:Scope}{ce:Env}{fp:List Addr}:Passes (bA P w) (X1 X P w E s H scope ce fp) E:=λpins σ H s e s' I h=>⟨pins,σ,H,s,I.uF,h⟩
def T9(X:Cx)(P:Program)(w:World)(E:XK):Prop:=∀ (pins pins':List an!) (σ σ':St) (H3 Hh:Hp) (s3 sh s':Shared) (bsc:Scope) (ce:Env) (fp:List Addr) (use:Option et!) (Qf:Value->Shared->Prop) (acc e:Value),Inv X pins σ H3 s3->ce.frame=X.env.frame->ce.locals=s3.heap.objs.size->(∀ b∈fp,yH X pins H3 b) ->
 Inv (X.yI s3 H3 bsc ce fp) pins' σ' Hh sh->bA P w X.stack Hh sh E e s'->notedBy af! X.A ce (λe s'=>compPost af! X.A X.xe use Qf acc s3.heap.objs.size (.error e) s') e s'
t! X2{P:Program}{w:World}{K:%ag}{mg:Str->Option Value}{base:Heap}{N:List Str}{qual:Str}{scope:Scope}{f:Addr}{cd:Value}{A:Around}{outer:List Env}{s:Shared}{H:Hp}{E:XK}:T9 ao! P w E:=T8
section
variable {X:Cx}
t! Ua{P:Program}{w:World}{E:XK}{pins:List an!}{s:Shared}{σ:St}{H:Hp}{Q:VK}{elt tg iter:Expr}{ifs:List Expr}{scope:Scope}{own:List fe!}{pos pos':Pos}{wi:TI}{g:TG}{tt:TT}{te:TE}{use:Option et!}{Qf:Value->Shared->Prop}
  (hc:X.calm=true) (hN:X.N.Nodup) (I:Inv X pins σ H s) (hi:PI X tg iter wi) (ok:HL X.N X.env.scope scope own)
  (hg:∀ (s:Shared) (H:Hp) (C:Addr) (cl:List aV!) (fp:List Addr),PG am! tg g) (ht:∀ (s:Shared) (H:Hp) (C:Addr) (cl:List aV!) (fp:List Addr),XD am! ifs tt)
  (hpc:T9 X P w E) (he:∀ (s:Shared) (H:Hp) (C:Addr) (cl:List aV!) (fp:List Addr),PE (X1 X P w E s H scope (compEnvC scope cl C X.env) fp) elt te) (hs:∀ x,foldedSetIterable iter X.env x=pure x)
  (h:XE wi g tt te bz! σ H Q)
  (hRR:∀ D C s' m H',Inv X pins σ H' s'->Q (.ref D) H'->s'.heap.Ns C m->yH X pins H' C->compPost af! X.A X.xe use Qf (.ref D) C (.ok .next) s') :
  wpAny af! X.A (comprehension av! scope X.env pos' (newList []) false fI! use) Qf X.xe s:=by
 ~hfree:∀ y∈scope.names,y.2=.free->∃ c,X.env.cells.lookup y.1=some c:=λy hy e=>by
  rcases ok.free y hy e with k | k
  ·e! I.ok.has _ (.inl k)
  ·e! I.ok.has _ (.inr k)
 r! wpAny_comprehension_free (use:=use) rfl hs (HK hfree) ok.kind (λy hy e=>by rw[ok.uniq y hy,e])
  (fH cK! λxv s1 hx=>fH hx λitv s2 h2=>?_)
 o!⟨it,fp,tn,J,H2,e,I2,T,st2,f2,q⟩:=h2;subst e;r! wpAny_newObj_type (Fq ?_) (by show 0<=sizeLine;decide);generalize hD:s2.heap.objs.size=D;~hDn:H2 D=none:=I2.cx.fresh fJ!;o!⟨W,⟨m0,w0⟩,turn⟩:=q D hDn;generalize hs3:({s2 with heap:=s2.heap.push {cls:=.type "list",data:=.seq ([]:List Value).toArray}}:Shared)=s3;~I3:Inv X pins σ b5! s3:=by
  rw[←hs3];r! I2.laid (t':=s2.toks) (λb o e=>%ap _ e) fJ! ⟨%aE _,[],0,.nil,?_⟩;rw[←hD];e! %aA _ rfl
 ~h3:s3.heap=s2.heap.push {cls:=.type "list",data:=.seq ([]:List Value).toArray}:=by rw[←hs3]
 ~sz:∀ b∈fp,b < s2.heap.objs.size:=λb hb=>by
  o!⟨o,e,_⟩:=T.obj _ _ st2 b hb;e! %av e
 ~f3:∀ b∈fp,yH X pins b5! b/\b < s3.heap.objs.size:=λb hb=>by
  ~hlt:=sz b hb;r! ⟨⟨?_,(f2 b hb).2⟩,by rw[h3,%bi];e! %bU hlt⟩;rw[ai (by rw[←hD];e! %aJ hlt)];e! (f2 b hb).1
 ~st3:tn 0 s3.heap:=T.keep _ _ _ st2 λb _ o e=>by rw[h3];e! %ap _ e
 ~I4:=Fs I3 ok hN f3;~pg:=hg s3 b5! s3.heap.objs.size aj! fp;~pt:=ht s3 b5! s3.heap.objs.size aj! fp;~pe:=he s3 b5! s3.heap.objs.size aj! fp;show codeAny _ _ (.compStart av! 0 dz! (.ref D) (compEnvC scope aj! s3.heap.objs.size X.env)) bg! {s3 with heap:=pushCells bF! scope.names};~nfp:∀ b∈fp,b5! b=none:=λb hb=>(f3 b hb).1.1
 generalize hce:compEnvC scope aj! s3.heap.objs.size X.env=ce at I4 pg pt pe ⊢;~cL:ce.locals=s3.heap.objs.size:=by subst hce;rfl
 ~cF:ce.frame=X.env.frame:=by subst hce;rfl
 generalize hH3:upd H2 D aL!=H3 at I3 I4 pg pt pe w0 nfp f3;generalize hs4:({s3 with heap:=pushCells bF! scope.names}:Shared)=s4 at I4 ⊢;~st4:tn 0 s4.heap:=T.keep _ _ _ st3 λb _ o e=>by rw[←hs4];e! pushCells_keeps _ _ _ _ (%ap _ e)
 ~stat:∀ {σ':St} {H':Hp} {s':Shared},Inv aI! [] σ' H' s'->bx!->∀ b∈fp,yH aI! [] H' b:=λ{σ' H' s'} I' hn b hb =>
  ⟨hn b hb,(I'.ok.Vk b hb).1,I'.ok.JT b hb,.inl hb,λx c e=>(I'.ok.Vk b hb).2 x c e,λp hp=>absurd (show p∈([]:List an!)++[] from hp) ai!⟩
 ~loop:codeAny af! X.A (.compLoop av! 0 dz! (.ref D) ce) bg! s4:=by
  r! CW (λn s'=>∃ i H',Inv aI! [] fM! H' s'/\tn i s'.heap/\bx!/\W i n H') ?_ m0 ⟨0,H3,I4,st4,nfp,w0⟩;rintro n s5 ⟨i,H5,I5,st5,n5,w5⟩;rcases turn i n H5 w5 with ⟨stop,qq⟩ | ⟨go,Nx,hNx,step⟩
  ·~td:=T.done aI! rfl rfl rfl hc i [] s5 _ H5 ez! I5 (stat I5 n5) st5 stop;r! HN td λr s6 ⟨hr,I6⟩=>?_
   subst hr;~I7:Inv X pins σ H5 s6:=I3.Kp (ch:=fp) I6.os I6.base I6.cx I6.bare λb hb=>⟨(f3 b hb).1.2.2.2.1,(f3 b hb).1.2.1,(f3 b hb).1.2.2.2.2.1,(f3 b hb).1.2.2.2.2.2⟩
   ~nC:H5 s3.heap.objs.size=none:=by
    ~z:H5 ce.locals=none:=I6.free;rw[cL] at z;e! z
   o!⟨m,hn,_⟩:=I6.loc;~hn:s6.heap.Ns ce.locals m:=hn;rw[cL] at hn;e! hRR D s3.heap.objs.size s6 m H5 I7 qq hn (I3.Tc (%am _) nC)
  ·~ti:=T.item aI! rfl rfl rfl hc i [] s5 _ H5 ez! I5 (stat I5 n5) st5 go;r! HN ti λr s6 ⟨u,hr,h6⟩=>?_
   subst hr;r! HN h6 λ_ s7 ⟨x,H7,I7,r7,y7,st7,n7⟩=>?_
   ~I7':=I7.pinned (stat I7 n7) (T.obj _ _ st7);r! HN (pg _ s7 _ H7 x u _ I7' r7 (step x H7 y7)) λ_ s8 ⟨σ8,H8,I8,hw8,q8⟩=>?_
   r! HN (pt _ s8 σ8 H8 _ I8 q8) λb s9 ⟨H9,I9,q9⟩=>?_
   ~fin:∀ {s':Shared} {H':Hp},Inv aI! ([]++DT fp s7.heap) σ8 H' s'->Nx H'->∃ m,m < n/\∃ i H',Inv aI! [] fM! H' s'/\tn i s'.heap/\bx!/\W i m H':=λ{s' H'} I' nx=>by
    o!⟨m',hm,w'⟩:=hNx H' nx;~pin':∀ b∈fp,∀ o,s7.heap.get? b=some o->s'.heap.get? b=some o/\H' b=none:=λb hb o e =>
     let z:=I'.pin (b,o) dT!
     ⟨z.1,z.2.1⟩
    ~hl:(wipe σ bz!).length=σ8.length:=by rw[←hw8,t8]
    r! ⟨m',hm,i+1,H',(I'.yL (pins:=[])).weak hl (λj v e=>?_),T.keep _ _ _ st7 λb hb o e=>(pin' b hb o e).1,λb hb=>?_,w'⟩
    ·rw[←hw8] at e;e! (Al e).1
    ·o!⟨o,e,_⟩:=T.obj _ _ st7 b hb;e! (pin' b hb o e).2
   cases b with
   | false =>
    simp only[Bool.false_eq_true,if_false] at q9 ⊢;e! fin I9 q9
   | true =>
    simp only[if_true] at q9 ⊢;r! wpAny_mono (pe _ s9 σ8 H9 _ (I9.Gq _) q9) (λz s10 ⟨yv,H10,I10,r10,acc,hD10,hz10,nx⟩=>?_) λe s' ⟨pins',σ',Hh,sh,Ib,hx⟩=>hpc pins pins' σ σ' H3 Hh s3 sh s' scope ce fp use Qf (.ref D) e I3 cF cL (λb hb=>(f3 b hb).1) Ib hx
    e! Tx (X:=X.yI s3 H3 scope ce fp) I10.uF hD10 hz10 r10 λs11 I11=>fin I11 nx
 e! codeAny_compStart_list loop (T.self X.A 0 _ _ _ st4 loop)
t! X3{P:Program}{w:World}{E:XK}{elt tg iter:Expr}{ifs:List Expr}{scope:Scope}{own:List fe!}{pos:Pos}{wi:TI}{g:TG}{tt:TT}{te:TE}(hc:X.calm=true)(hN:X.N.Nodup)(hi:PI X tg iter wi)(ok:HL X.N X.env.scope scope own)
  (hg:∀ (s:Shared) (H:Hp) (C:Addr) (cl:List aV!) (fp:List Addr),PG am! tg g) (ht:∀ (s:Shared) (H:Hp) (C:Addr) (cl:List aV!) (fp:List Addr),XD am! ifs tt)
  (hpc:T9 X P w E) (he:∀ (s:Shared) (H:Hp) (C:Addr) (cl:List aV!) (fp:List Addr),PE (X1 X P w E s H scope (compEnvC scope cl C X.env) fp) elt te) (hs:∀ x,foldedSetIterable iter X.env x=pure x:=by intro _;rfl) :
  PE X av! (XE wi g tt te bz!):=by
 intro pins s σ H Q I h;rw[eval_ListComp];r! Ua hc hN I hi ok hg ht hpc he hs h λD C s' m H' I' q hn f=>⟨m,hn,λh'' sb=>?_⟩
 o!⟨f0,f1,f2,f3,f4,f5⟩:=f;e! ⟨.ref D,H',I'.turned (t':=s'.toks) cQ! f0 f1 f3 f4 f5,rfl,q⟩
end
end L2
namespace Pay
open Vaamoa
def ends(b:UInt8):Bool:=b == 10 || (b == 32 || (b == 40 || b == 41))
def word(t:Text):Text:=t.takeWhile λb=>!ends b
def off(t:Text):Text:=t.dropWhile λb=>!ends b
t! fU(t:Text):word t++off t=t:=List.takeWhile_append_dropWhile
def Stop(r:Text):Prop:=∀ b s,r=b::s->ends b=true
def Plain(x:Text):Prop:=∀ b∈x,ends b=false
t! pL:∀ {x r:Text},Plain x->Stop r->word (x++r)=x
 | [],[],_,_=>rfl
 | [],b::s,_,h=>by
  ~e:=h b s rfl;show (b::s).takeWhile _=[];rw[List.takeWhile_cons,e];rfl
 | b::x,r,hp,h=>by
  ~e:=hp b %an;show (b::(x++r)).takeWhile _=b::x;rw[List.takeWhile_cons,e];e! congrArg (List.cons b) (pL (λc hc=>hp c (%af _ hc)) h)
t! uc:∀ {x r:Text},Plain x->Stop r->off (x++r)=r
 | [],[],_,_=>rfl
 | [],b::s,_,h=>by
  ~e:=h b s rfl;show (b::s).dropWhile _=b::s;rw[List.dropWhile_cons,e];rfl
 | b::x,r,hp,h=>by
  ~e:=hp b %an;show (b::(x++r)).dropWhile _=r;rw[List.dropWhile_cons,e];e! uc (λc hc=>hp c (%af _ hc)) h
t! vQ{b:UInt8}{r:Text}(h:ends b=true):Stop (b::r):=λc s e=>by cases e;e! h
t! iC{p:UInt8->Prop}(h:∀ n:Fin 256,p (%bb n.val))(b:UInt8):p b:=by
 ~e:=h ⟨b.toNat,b.toNat_lt⟩;simpa using e
t! NG:∀ b:UInt8,isSmall b=true->ends b=false:=iC (by dk!)
t! fq{x:Text}(h:isName x=true):Plain x:=λb hb=>by
 unfold isName at h;simp only[Bool.and_eq_true] at h;e! NG b (%az h.2.2.1 b hb)
t! Hl{x:Text}(h:isName x=true):x≠[]:=λe=>by
 subst e;e! absurd h (by dk!)
t! gq{n:Nat}(h:n<=99):Plain (decimal n):=by
 ~all:∀ k:Fin 100,(decimal k.val).all dt!=true:=by dk!
 ~e:=all ⟨n,by w!⟩;intro b hb;~q:=%az e b hb;simpa using q
t! nQ{n:Nat}(h:n<=99):numberOf (decimal n)=some n:=by
 ~all:∀ k:Fin 100,numberOf (decimal k.val)=some k.val:=by dk!
 e! all ⟨n,by w!⟩
t! Ii{n:Nat}(h:n<=99):decimal n≠[]:=by
 ~all:∀ k:Fin 100,decimal k.val≠[]:=by dk!
 e! all ⟨n,by w!⟩
t! iV{w:Text}{k:Nat}(h:numberOf w=some k):w=decimal k/\k<=99:=by
 unfold numberOf at h;split at h
 ·rename_i c
  cases h;r! ⟨c.2.2,?_⟩
  match w,c with
  | [],_=>e! %aE _
  | [a],c =>
   ~ha:=%az c.2.1 a %an;~hv:∀ b:UInt8,isDigit b=true->b.toNat - 48<=9:=iC (by dk!);have:=hv a ha;show 0 * 10+(a.toNat - 48)<=99;w!
  | [a,b],c =>
   ~ha:=%az c.2.1 a %an;~hb:=%az c.2.1 b (%af _ %an);~hv:∀ b:UInt8,isDigit b=true->b.toNat - 48<=9:=iC (by dk!);~h1:=hv a ha;~h2:=hv b hb;show (0 * 10+(a.toNat - 48)) * 10+(b.toNat - 48)<=99;w!
  | a::b::d::r,c =>
   have:=c.1;simp at this
 ·cases h
t! yS{x:Text}(h:isName x=true):numberOf x=none:=by
 cases e:numberOf x with
 | none=>rfl
 | some k =>
  o!⟨e1,e2⟩:=iV e;~all:∀ k:Fin 100,isName (decimal k.val)=false:=by dk!
  ~q:=all ⟨k,by w!⟩;rw[e1] at h;rw[h] at q;cases q
t! Fu:isName dR!=false:=by dk!
t! A8:numberOf dR!=none:=by dk!
t! D1{p:Int->Prop}(h:∀ n:Fin 19,p ((n.val:Int) - 9)){k:Int}(hk:k.natAbs<=9):p k:=by
 ~e:p ((((k+9).toNat:Nat):Int) - 9):=h ⟨(k+9).toNat,by w!⟩;~q:(((k+9).toNat:Nat):Int) - 9=k:=by w!
 rw[q] at e;e! e
t! Fv{k:Int}(h:k.natAbs<=9):costOf (costText k)=some k:=D1 (p:=λk=>costOf (costText k)=some k) (by dk!) h
t! BI{k:Int}(h:k.natAbs<=9):Plain (costText k):=by
 ~e:=D1 (p:=λk=>(costText k).all dt!=true) (by dk!) h;intro b hb;~q:=%az e b hb;simpa using q
t! VU{k:Int}(h:k.natAbs<=9):costText k≠[]:=D1 (p:=λk=>costText k≠[]) (by dk!) h
t! NH{w:Text}{k:Int}(h:costOf w=some k):w=costText k/\k.natAbs<=9:=by
 unfold costOf at h;split at h
 ·rename_i r
  cases e:numberOf r with
  | none=>rw[e] at h;cases h
  | some n =>
   rw[e] at h;o!⟨e1,_⟩:=iV e;simp only[Option.bind_some] at h;split at h
   ·cases h
   ·rename_i c
    cases h;r! ⟨?_,by w!⟩;unfold costText;rw[if_pos (by w!),e1];congr 2;w!
 ·cases e:numberOf w with
  | none=>rw[e] at h;cases h
  | some n =>
   rw[e] at h;o!⟨e1,_⟩:=iV e;simp only[Option.bind_some] at h;split at h
   ·cases h
   ·rename_i c
    cases h;r! ⟨?_,by w!⟩;unfold costText;rw[n! (by w!),e1];congr 1
end Pay
namespace Pay
open Vaamoa
def aj(e:Expr):Nat:=(nodesOf e).length
inductive Mh where
 | N | K | E
deriving DecidableEq
structure yT where
 names:List Text
 num:Int
 parts:List Expr
 next:Nat
 rest:Text
abbrev JS:=Nat->Text->Option (Expr×Nat×Text)
def iD:Text->Option Text
 | []=>none
 | b::r=>if b=32 then some r else none
def pM:Text->Option Text
 | []=>none
 | b::r=>if b=41 then some r else none
def ig(t:Text):Option (Text×Text):=if isName (word t)=true then some (word t,off t) else none
def ph(t:Text):Option (Int×Text):=(costOf (word t)).map λk=>(k,off t)
def bE(rd:JS):Mh->yT->Option yT
 | .N,p=>(iD p.rest).bind λt=>(ig t).map λz=>{p with names:=p.names++[z.1],rest:=z.2}
 | .K,p=>(iD p.rest).bind λt=>(ph t).map λz=>{p with num:=z.1,rest:=z.2}
 | .E,p=>(iD p.rest).bind λt=>(rd p.next t).map λz=>{p with parts:=p.parts++[z.1],next:=z.2.1,rest:=z.2.2}
def pieces(rd:JS):List Mh->yT->Option yT
 | [],p=>some p
 | c::r,p=>(bE rd c p).bind (pieces rd r)
def formOf(w:Text):Option (List Mh) :=
 if w=ascii "cons" then some [.E,.E]
 else if w=ascii "add" then some [.E,.E]
 else if w=ascii "sub" then some [.E,.E]
 else if w=ascii "if" then some [.E,.E,.E]
 else if w=ascii "case" then some [.N,.E,.N,.N,.E]
 else if w=ascii "let" then some [.N,.E,.E]
 else if w=ascii "call" then some [.N,.E]
 else if w=ascii "tick" then some [.K,.E]
 else if w=ascii "share" then some [.N,.N,.N,.E]
 else none
def build(w:Text)(n:Nat)(p:yT):Option Expr :=
 if w=ascii "cons" then (match p.names,p.parts with | [],[a,b]=>some (.cons n a b) | _,_=>none)
 else if w=ascii "add" then (match p.names,p.parts with | [],[a,b]=>some (.add n a b) | _,_=>none)
 else if w=ascii "sub" then (match p.names,p.parts with | [],[a,b]=>some (.sub n a b) | _,_=>none)
 else if w=ascii "if" then (match p.names,p.parts with | [],[a,b,c]=>some (.ifz n a b c) | _,_=>none)
 else if w=ascii "case" then (match p.names,p.parts with | [x,h,t],[e,c]=>some (.case n x e h t c) | _,_=>none)
 else if w=ascii "let" then (match p.names,p.parts with | [x],[d,b]=>some (.letE n x d b) | _,_=>none)
 else if w=ascii "call" then (match p.names,p.parts with | [g],[a]=>some (.call1 n g a) | [g],[a,b]=>some (.call2 n g a b) | _,_=>none)
 else if w=ascii "tick" then (match p.names,p.parts with | [],[e]=>some (.tick n p.num e) | _,_=>none)
 else if w=ascii "share" then (match p.names,p.parts with | [x,y,z],[e]=>some (.share n x y z e) | _,_=>none)
 else none
def more(rd:JS)(w:Text)(p:yT):Option yT:=if w=ascii "call"/\p.rest.head?=some 32 then bE rd .E p else some p
def Ij(rd:JS)(n:Nat)(t:Text):Option (Expr×Nat×Text) :=
 (formOf (word t)).bind λls=>(pieces rd ls ⟨[],0,[],n+1,off t⟩).bind λp=>(more rd (word t) p).bind λq=>(pM q.rest).bind λr=>(build (word t) n q).map λe=>(e,q.next,r)
def single(n:Nat)(t:Text):Option (Expr×Nat×Text) :=
 if word t=ascii "nil" then some (.nil n,n+1,off t) else match numberOf (word t) with
  | some k=>some (.num n k,n+1,off t)
  | none=>if isName (word t)=true then some (.var n (word t),n+1,off t) else none
def gI:Nat->JS
 | 0,_,_=>none
 | f+1,n,t=>if 60<=n then none else if t.head?=some 40 then Ij (gI f) n t.tail else single n t
def cf:Expr->Prop
 | .num _ n=>n<=99
 | .var _ x=>isName x=true
 | .nil _=>True
 | .cons _ h t=>cf h/\cf t
 | .add _ a b=>cf a/\cf b
 | .sub _ a b=>cf a/\cf b
 | .ifz _ c a b=>cf c/\cf a/\cf b
 | .case _ x e h t c=>isName x=true/\cf e/\isName h=true/\isName t=true/\cf c
 | .letE _ x d b=>isName x=true/\cf d/\cf b
 | .call1 _ g a=>isName g=true/\cf a
 | .call2 _ g a b=>isName g=true/\cf a/\cf b
 | .tick _ k e=>k.natAbs<=9/\cf e
 | .share _ x y z e=>isName x=true/\isName y=true/\isName z=true/\cf e
def jS:Nat->Expr->Prop
 | n,.num l _=>l=n
 | n,.var l _=>l=n
 | n,.nil l=>l=n
 | n,.cons l h t=>l=n/\jS (n+1) h/\jS (n+1+aj h) t
 | n,.add l h t=>l=n/\jS (n+1) h/\jS (n+1+aj h) t
 | n,.sub l h t=>l=n/\jS (n+1) h/\jS (n+1+aj h) t
 | n,.ifz l c a b=>l=n/\jS (n+1) c/\jS (n+1+aj c) a/\jS (n+1+aj c+aj a) b
 | n,.case l _ e _ _ c=>l=n/\jS (n+1) e/\jS (n+1+aj e) c
 | n,.letE l _ d b=>l=n/\jS (n+1) d/\jS (n+1+aj d) b
 | n,.call1 l _ a=>l=n/\jS (n+1) a
 | n,.call2 l _ a b=>l=n/\jS (n+1) a/\jS (n+1+aj a) b
 | n,.tick l _ e=>l=n/\jS (n+1) e
 | n,.share l _ _ _ e=>l=n/\jS (n+1) e
t! OZ(w a b r:Text):inBrackets [w,a,b]++r=40::(w++32::(a++32::(b++41::r))):=by simp[inBrackets,spaced,gluedBy]
t! VW(w a b c r:Text):inBrackets [w,a,b,c]++r=40::(w++32::(a++32::(b++32::(c++41::r)))):=by simp[inBrackets,spaced,gluedBy]
t! br5(w a b c d r:Text):inBrackets [w,a,b,c,d]++r=40::(w++32::(a++32::(b++32::(c++32::(d++41::r))))):=by simp[inBrackets,spaced,gluedBy]
t! br6(w a b c d e r:Text):inBrackets [w,a,b,c,d,e]++r=40::(w++32::(a++32::(b++32::(c++32::(d++32::(e++41::r)))))):=by simp[inBrackets,spaced,gluedBy]
t! uJ{t r:Text}(h:iD t=some r):t=32::r:=by
 cases t with
 | nil=>cases h
 | cons b s =>
  by_cases e:b=32
  ·subst e;simp[iD] at h;rw[h]
  ·simp[iD,e] at h
t! J0{t r:Text}(h:pM t=some r):t=41::r:=by
 cases t with
 | nil=>cases h
 | cons b s =>
  by_cases e:b=41
  ·subst e;simp[pM] at h;rw[h]
  ·simp[pM,e] at h
t! mD{rd:JS}{p q:yT}(h:bE rd .N p=some q):∃ x,isName x=true/\p.rest=32::(x++q.rest)/\q.names=p.names++[x]/\q.num=p.num/\q.parts=p.parts/\q.next=p.next:=by
 unfold bE at h;o!⟨t,h1,h2⟩:=%aa h;o!⟨z,h3,h4⟩:=%ab h2;unfold ig at h3;split at h3
 ·rename_i c
  cases h3;subst h4;e! ⟨word t,c,by rw[uJ h1];show _=32::(word t++off t);rw[fU],rfl,rfl,rfl,rfl⟩
 ·cases h3
t! QH{rd:JS}{p q:yT}(h:bE rd .K p=some q):p.rest=32::(costText q.num++q.rest)/\q.num.natAbs<=9/\q.names=p.names/\q.parts=p.parts/\q.next=p.next:=by
 unfold bE at h;o!⟨t,h1,h2⟩:=%aa h;o!⟨z,h3,h4⟩:=%ab h2;unfold ph at h3;o!⟨k,h5,h6⟩:=%ab h3;subst h6;subst h4;o!⟨e1,e2⟩:=NH h5;e! ⟨by rw[uJ h1];show _=32::(costText k++off t);rw[←e1,fU],e2,rfl,rfl,rfl⟩
def Snd(f:Nat)(rd:JS):Prop:=∀ n t e n' t',rd n t=some (e,n',t')->t=textOf e++t'/\n'=n+aj e/\jS n e/\deepOf e < f/\cf e/\n'<=60
t! fI{f:Nat}{rd:JS}(S:Snd f rd){p q:yT}(h:bE rd .E p=some q):∃ e,p.rest=32::(textOf e++q.rest)/\q.parts=p.parts++[e]/\q.next=p.next+aj e/\jS p.next e/\deepOf e < f/\cf e/\q.next<=60/\q.names=p.names/\q.num=p.num:=by
 unfold bE at h;o!⟨t,h1,h2⟩:=%aa h;o!⟨z,h3,h4⟩:=%ab h2;subst h4;o!⟨e,n',t'⟩:=z;o!⟨a1,a2,a3,a4,a5,a6⟩:=S _ _ _ _ _ h3;e! ⟨e,by rw[uJ h1,a1],rfl,a2,a3,a4,a5,a6,rfl,rfl⟩
t! O0{f:Nat}{rd:JS}(S:Snd f rd){n:Nat}{t:Text}{e:Expr}{n':Nat}{t':Text}(h:Ij rd n t=some (e,n',t')) :
  40::t=textOf e++t'/\n'=n+aj e/\jS n e/\deepOf e < f+1/\cf e/\n'<=60:=by
 unfold Ij at h;o!⟨ls,h1,h⟩:=%aa h;o!⟨p,h2,h⟩:=%aa h;o!⟨q,h3,h⟩:=%aa h;o!⟨r,h4,h⟩:=%aa h;o!⟨e',h5,h⟩:=%ab h;cases h;~hr:=J0 h4;~ht:t=word t++off t:=(fU t).symm;unfold formOf at h1;unfold build at h5;unfold more at h3;generalize word t=w at *;generalize off t=o at *;split at h1
 ·rename_i c
  cases h1;subst c;rw[n! aq!] at h3;cases h3;simp only[pieces,Option.bind_some,Option.bind_eq_some_iff,Option.some.injEq] at h2;o!⟨q1,k1,q2,k2,rfl⟩:=h2;o!⟨a,a1,a2,a3,a4,a5,a6,a7,a8,a9⟩:=fI S k1;o!⟨b,b1,b2,b3,b4,b5,b6,b7,b8,b9⟩:=fI S k2;simp only at a1 a8 a2 a3 a4;rw[if_pos rfl,b8,a8,b2,a2] at h5;cases h5;rw[a3] at b4;~z7:=b7;rw[b3,a3] at z7 ⊢;r! ⟨?_,by simp only[aj,nodesOf,List.length_cons,List.length_append] at *;w!,⟨rfl,a4,b4⟩,by simp only[deepOf];w!,⟨a6,b6⟩,z7⟩;rw[textOf,OZ,ht,a1,b1,hr]
 split at h1
 ·rename_i c
  cases h1;subst c;rw[n! aq!] at h3;cases h3;simp only[pieces,Option.bind_some,Option.bind_eq_some_iff,Option.some.injEq] at h2;o!⟨q1,k1,q2,k2,rfl⟩:=h2;o!⟨a,a1,a2,a3,a4,a5,a6,a7,a8,a9⟩:=fI S k1;o!⟨b,b1,b2,b3,b4,b5,b6,b7,b8,b9⟩:=fI S k2;simp only at a1 a8 a2 a3 a4;rw[n! (by dk!),if_pos rfl,b8,a8,b2,a2] at h5;cases h5;rw[a3] at b4;~z7:=b7;rw[b3,a3] at z7 ⊢;r! ⟨?_,by simp only[aj,nodesOf,List.length_cons,List.length_append] at *;w!,⟨rfl,a4,b4⟩,by simp only[deepOf];w!,⟨a6,b6⟩,z7⟩;rw[textOf,OZ,ht,a1,b1,hr]
 split at h1
 ·rename_i c
  cases h1;subst c;rw[n! aq!] at h3;cases h3;simp only[pieces,Option.bind_some,Option.bind_eq_some_iff,Option.some.injEq] at h2;o!⟨q1,k1,q2,k2,rfl⟩:=h2;o!⟨a,a1,a2,a3,a4,a5,a6,a7,a8,a9⟩:=fI S k1;o!⟨b,b1,b2,b3,b4,b5,b6,b7,b8,b9⟩:=fI S k2;simp only at a1 a8 a2 a3 a4;rw[n! (by dk!),n! (by dk!),if_pos rfl,b8,a8,b2,a2] at h5;cases h5;rw[a3] at b4;~z7:=b7;rw[b3,a3] at z7 ⊢;r! ⟨?_,by simp only[aj,nodesOf,List.length_cons,List.length_append] at *;w!,⟨rfl,a4,b4⟩,by simp only[deepOf];w!,⟨a6,b6⟩,z7⟩;rw[textOf,OZ,ht,a1,b1,hr]
 split at h1
 ·rename_i c
  cases h1;subst c;rw[n! aq!] at h3;cases h3;simp only[pieces,Option.bind_some,Option.bind_eq_some_iff,Option.some.injEq] at h2;o!⟨q1,k1,q2,k2,q3,k3,rfl⟩:=h2;o!⟨a,a1,a2,a3,a4,a5,a6,a7,a8,a9⟩:=fI S k1;o!⟨b,b1,b2,b3,b4,b5,b6,b7,b8,b9⟩:=fI S k2;o!⟨c,c1,c2,c3,c4,c5,c6,c7,c8,c9⟩:=fI S k3;simp only at a1 a8 a2 a3 a4;rw[n! (by dk!),n! (by dk!),n! (by dk!),if_pos rfl,c8,b8,a8,c2,b2,a2] at h5;cases h5;rw[a3] at b4;rw[b3,a3] at c4;~z7:=c7;rw[c3,b3,a3] at z7 ⊢;r! ⟨?_,by simp only[aj,nodesOf,List.length_cons,List.length_append] at *;w!,⟨rfl,a4,b4,c4⟩,by simp only[deepOf];w!,⟨a6,b6,c6⟩,z7⟩;rw[textOf,VW,ht,a1,b1,c1,hr]
 split at h1
 ·rename_i c
  cases h1;subst c;rw[n! aq!] at h3;cases h3;simp only[pieces,Option.bind_some,Option.bind_eq_some_iff,Option.some.injEq] at h2;o!⟨q1,k1,q2,k2,q3,k3,q4,k4,q5,k5,rfl⟩:=h2;o!⟨a,a0,a1,a8,a9,a2,a3⟩:=mD k1;o!⟨b,b1,b2,b3,b4,b5,b6,b7,b8,b9⟩:=fI S k2;o!⟨c,c0,c1,c8,c9,c2,c3⟩:=mD k3;o!⟨d,d0,d1,d8,d9,d2,d3⟩:=mD k4;o!⟨e,e1,e2,e3,e4,e5,e6,e7,e8,e9⟩:=fI S k5;simp only at a1 a8 a2 a3;rw[n! (by dk!),n! (by dk!),n! (by dk!),n! (by dk!),if_pos rfl,e8,d8,c8,b8,a8,e2,d2,c2,b2,a2] at h5;cases h5;rw[a3] at b4;rw[d3,c3,b3,a3] at e4;~z7:=e7;rw[e3,d3,c3,b3,a3] at z7 ⊢;r! ⟨?_,by simp only[aj,nodesOf,List.length_cons,List.length_append] at *;w!,⟨rfl,b4,e4⟩,by simp only[deepOf];w!,⟨a0,b6,c0,d0,e6⟩,z7⟩;rw[textOf,br6,ht,a1,b1,c1,d1,e1,hr]
 split at h1
 ·rename_i c
  cases h1;subst c;rw[n! aq!] at h3;cases h3;simp only[pieces,Option.bind_some,Option.bind_eq_some_iff,Option.some.injEq] at h2;o!⟨q1,k1,q2,k2,q3,k3,rfl⟩:=h2;o!⟨a,a0,a1,a8,a9,a2,a3⟩:=mD k1;o!⟨b,b1,b2,b3,b4,b5,b6,b7,b8,b9⟩:=fI S k2;o!⟨c,c1,c2,c3,c4,c5,c6,c7,c8,c9⟩:=fI S k3;simp only at a1 a8 a2 a3;rw[n! (by dk!),n! (by dk!),n! (by dk!),n! (by dk!),n! (by dk!),if_pos rfl,c8,b8,a8,c2,b2,a2] at h5;cases h5;rw[a3] at b4;rw[b3,a3] at c4;~z7:=c7;rw[c3,b3,a3] at z7 ⊢;r! ⟨?_,by simp only[aj,nodesOf,List.length_cons,List.length_append] at *;w!,⟨rfl,b4,c4⟩,by simp only[deepOf];w!,⟨a0,b6,c6⟩,z7⟩;rw[textOf,VW,ht,a1,b1,c1,hr]
 split at h1
 ·rename_i c
  cases h1;subst c;simp only[pieces,Option.bind_some,Option.bind_eq_some_iff,Option.some.injEq] at h2;o!⟨q1,k1,q2,k2,rfl⟩:=h2;by_cases c2:q2.rest.head?=some 32
  ·rw[if_pos ⟨rfl,c2⟩] at h3;~k3:=h3;o!⟨a,a0,a1,a8,a9,a2,a3⟩:=mD k1;o!⟨b,b1,b2,b3,b4,b5,b6,b7,b8,b9⟩:=fI S k2;o!⟨c,c1,c2,c3,c4,c5,c6,c7,c8,c9⟩:=fI S k3;simp only at a1 a8 a2 a3;rw[n! (by dk!),n! (by dk!),n! (by dk!),n! (by dk!),n! (by dk!),n! (by dk!),if_pos rfl,c8,b8,a8,c2,b2,a2] at h5;cases h5;rw[a3] at b4;rw[b3,a3] at c4;~z7:=c7;rw[c3,b3,a3] at z7 ⊢;r! ⟨?_,by simp only[aj,nodesOf,List.length_cons,List.length_append] at *;w!,⟨rfl,b4,c4⟩,by simp only[deepOf];w!,⟨a0,b6,c6⟩,z7⟩;rw[textOf,VW,ht,a1,b1,c1,hr]
  ·rw[n! (λz=>c2 z.2)] at h3;cases h3;o!⟨a,a0,a1,a8,a9,a2,a3⟩:=mD k1;o!⟨b,b1,b2,b3,b4,b5,b6,b7,b8,b9⟩:=fI S k2;simp only at a1 a8 a2 a3;rw[n! (by dk!),n! (by dk!),n! (by dk!),n! (by dk!),n! (by dk!),n! (by dk!),if_pos rfl,b8,a8,b2,a2] at h5;cases h5;rw[a3] at b4;~z7:=b7;rw[b3,a3] at z7 ⊢;r! ⟨?_,by simp only[aj,nodesOf,List.length_cons,List.length_append] at *;w!,⟨rfl,b4⟩,by simp only[deepOf];w!,⟨a0,b6⟩,z7⟩;rw[textOf,OZ,ht,a1,b1,hr]
 split at h1
 ·rename_i c
  cases h1;subst c;rw[n! aq!] at h3;cases h3;simp only[pieces,Option.bind_some,Option.bind_eq_some_iff,Option.some.injEq] at h2;o!⟨q1,k1,q2,k2,rfl⟩:=h2;o!⟨a1,a0,a8,a2,a3⟩:=QH k1;o!⟨b,b1,b2,b3,b4,b5,b6,b7,b8,b9⟩:=fI S k2;rw[←b9] at a0 a1;simp only at a1 a8 a2 a3;rw[n! (by dk!),n! (by dk!),n! (by dk!),n! (by dk!),n! (by dk!),n! (by dk!),n! (by dk!),if_pos rfl,b8,a8,b2,a2] at h5;cases h5;rw[a3] at b4;~z7:=b7;rw[b3,a3] at z7 ⊢;r! ⟨?_,by simp only[aj,nodesOf,List.length_cons,List.length_append] at *;w!,⟨rfl,b4⟩,by simp only[deepOf];w!,⟨a0,b6⟩,z7⟩;rw[textOf,OZ,ht,a1,b1,hr]
 split at h1
 ·rename_i c
  cases h1;subst c;rw[n! aq!] at h3;cases h3;simp only[pieces,Option.bind_some,Option.bind_eq_some_iff,Option.some.injEq] at h2;o!⟨q1,k1,q2,k2,q3,k3,q4,k4,rfl⟩:=h2;o!⟨a,a0,a1,a8,a9,a2,a3⟩:=mD k1;o!⟨b,b0,b1,b8,b9,b2,b3⟩:=mD k2;o!⟨c,c0,c1,c8,c9,c2,c3⟩:=mD k3;o!⟨d,d1,d2,d3,d4,d5,d6,d7,d8,d9⟩:=fI S k4;simp only at a1 a8 a2 a3;rw[n! (by dk!),n! (by dk!),n! (by dk!),n! (by dk!),n! (by dk!),n! (by dk!),n! (by dk!),n! (by dk!),if_pos rfl,d8,c8,b8,a8,d2,c2,b2,a2] at h5;cases h5;rw[c3,b3,a3] at d4;~z7:=d7;rw[d3,c3,b3,a3] at z7 ⊢;r! ⟨?_,by simp only[aj,nodesOf,List.length_cons,List.length_append] at *;w!,⟨rfl,d4⟩,by simp only[deepOf];w!,⟨a0,b0,c0,d6⟩,z7⟩;rw[textOf,br5,ht,a1,b1,c1,d1,hr]
 ·cases h1
t! Mi{n:Nat}{t:Text}{e:Expr}{n':Nat}{t':Text}(h:single n t=some (e,n',t'))(hn:n < 60) :
  t=textOf e++t'/\n'=n+aj e/\jS n e/\deepOf e=0/\cf e/\n'<=60:=by
 unfold single at h;split at h
 ·rename_i c
  cases h;r! ⟨?_,rfl,rfl,rfl,trivial,hn⟩;rw[textOf,←c,fU]
 ·split at h
  ·rename_i k c
   cases h;o!⟨e1,e2⟩:=iV c;r! ⟨?_,rfl,rfl,rfl,e2,hn⟩;rw[textOf,←e1,fU]
  ·split at h
   ·rename_i c
    cases h;r! ⟨?_,rfl,rfl,rfl,c,hn⟩;rw[textOf,fU]
   ·cases h
t! Ao:∀ f,Snd f (gI f)
 | 0=>λn t e n' t' h=>by cases h
 | f+1=>λn t e n' t' h=>by
  unfold gI at h;split at h
  ·cases h
  ·rename_i hn
   split at h
   ·rename_i c
    ~q:=O0 (Ao f) h;cases t with
    | nil=>cases c
    | cons b s =>
     ~e:b=40:=%aD c;subst e;e! q
   ·o!⟨a1,a2,a3,a4,a5,a6⟩:=Mi h (by w!);e! ⟨a1,a2,a3,by w!,a5,a6⟩
t! blank_eq(t:Text):iD (32::t)=some t:=by simp[iD]
t! NI(t:Text):pM (41::t)=some t:=by simp[pM]
t! BJ{x r:Text}(h:isName x=true)(s:Stop r):ig (x++r)=some (x,r):=by
 unfold ig;rw[pL (fq h) s,uc (fq h) s,if_pos h]
t! O1{k:Int}{r:Text}(h:k.natAbs<=9)(s:Stop r):ph (costText k++r)=some (k,r):=by
 unfold ph;rw[pL (BI h) s,uc (BI h) s,Fv h];rfl
t! jt(r:Text):Stop (32::r):=vQ ag!
t! sr(r:Text):Stop (41::r):=vQ ag!
t! pN{rd:JS}{p:yT}{x r:Text}(e:p.rest=32::(x++r))(h:isName x=true)(s:Stop r):bE rd .N p=some {p with names:=p.names++[x],rest:=r}:=by
 simp only[bE,e,blank_eq,Option.bind_some,BJ h s,Option.map_some]
t! pK{rd:JS}{p:yT}{k:Int}{r:Text}(e:p.rest=32::(costText k++r))(h:k.natAbs<=9)(s:Stop r):bE rd .K p=some {p with num:=k,rest:=r}:=by
 simp only[bE,e,blank_eq,Option.bind_some,O1 h s,Option.map_some]
t! pE{rd:JS}{p:yT}{a:Expr}{n:Nat}{t r:Text}(e:p.rest=32::t)(h:rd p.next t=some (a,n,r)):bE rd .E p=some {p with parts:=p.parts++[a],next:=n,rest:=r}:=by
 simp only[bE,e,blank_eq,Option.bind_some,h,Option.map_some]
t! O2{w r:Text}(h:w.all dt!=true):word (w++32::r)=w/\off (w++32::r)=32::r:=by
 ~pl:Plain w:=λb hb=>by
  ~q:=%az h b hb;simpa using q
 e! ⟨pL pl (jt r),uc pl (jt r)⟩
t! pj{rd:JS}{n:Nat}{w r:Text}{ls:List Mh}{p q:yT}{t':Text}{e:Expr}(hw:w.all dt!=true)(h1:formOf w=some ls)(h2:pieces rd ls ⟨[],0,[],n+1,32::r⟩=some p)(h3:more rd w p=some q)(h4:q.rest=41::t')(h5:build w n q=some e) :
  Ij rd n (w++32::r)=some (e,q.next,t'):=by
 o!⟨e1,e2⟩:=O2 (w:=w) (r:=r) hw;simp only[Ij,e1,e2,h1,Option.bind_some,h2,h3,h4,NI,h5,Option.map_some]
t! ud{rd:JS}{w:Text}{p:yT}(h:w≠ascii "call"):more rd w p=some p:=by
 unfold more;rw[n! λz=>h z.1]
t! j6{f n:Nat}{t:Text}(h:n < 60):gI (f+1) n (40::t)=Ij (gI f) n t:=by
 rw[gI,n! (by w!),if_pos (show (40::t:Text).head?=some 40 from rfl)];rfl
t! BK{f n:Nat}{x r:Text}(h:n < 60)(hp:Plain x)(hx:x≠[]):gI (f+1) n (x++r)=single n (x++r):=by
 rw[gI,n! (by w!),n!];cases x with
 | nil=>e! absurd rfl hx
 | cons b s =>
  intro z;~e:b=40:=%aD z;~q:=hp b %an;rw[e] at q;e! absurd q ag!
t! size_pos(e:Expr):1<=aj e:=by cases e<;>simp[aj,nodesOf]
t! VX:∀ (e:Expr) (f n:Nat) (r:Text),cf e->jS n e->deepOf e < f->n+aj e<=60->Stop r->gI f n (textOf e++r)=some (e,n+aj e,r):=by
 intro e
 induction e with
 | num l k =>
  intro f n r g lb d z st;obtain ⟨f,rfl⟩:∃ g,f=g+1:=⟨f - 1,by w!⟩;~g':k<=99:=g;~hn:n < 60:=by have:=size_pos (.num l k);w!
  cases (show l=n from lb);~e2:ascii "nil"≠decimal k:=λq=>by
   ~e3:=nQ g';rw[←q,A8] at e3;cases e3
  rw[textOf,BK hn (gq g') (Ii g'),single,pL (gq g') st,uc (gq g') st,n! (λq=>e2 q.symm),nQ g'];rfl
 | var l x =>
  intro f n r g lb d z st;obtain ⟨f,rfl⟩:∃ g,f=g+1:=⟨f - 1,by w!⟩;~g':isName x=true:=g;~hn:n < 60:=by have:=size_pos (.var l x);w!
  cases (show l=n from lb);~e2:x≠ascii "nil":=λq=>by
   rw[q,Fu] at g';cases g'
  rw[textOf,BK hn (fq g') (Hl g'),single,pL (fq g') st,uc (fq g') st,n! e2,yS g'];show (if isName x=true then _ else _)=_;rw[if_pos g'];rfl
 | nil l =>
  intro f n r g lb d z st;obtain ⟨f,rfl⟩:∃ g,f=g+1:=⟨f - 1,by w!⟩;~hn:n < 60:=by have:=size_pos (.nil l);w!
  ~pl:Plain dR!:=λb hb=>by
   ~q:(ascii "nil").all dt!=true:=by dk!
   ~q2:=%az q b hb;simpa using q2
  cases (show l=n from lb);rw[textOf,BK hn pl (by dk!),single,pL pl st,uc pl st,if_pos rfl];rfl
 | cons l h t ihh iht =>
  intro f n r gd lb dp sz st;obtain ⟨f,rfl⟩:∃ g,f=g+1:=⟨f - 1,by w!⟩;o!⟨Gh,Gt⟩:=gd;o!⟨rfl,Lh,Lt⟩:=lb;simp only[deepOf] at dp;simp only[aj,nodesOf,List.length_cons,List.length_append] at sz;~hn:l < 60:=by w!
  rw[textOf,OZ,j6 hn];~Rh:=λr' st'=>ihh f (l+1) r' Gh Lh (by w!) aC! st'
  ~Rt:=λr' st'=>iht f (l+1+aj h) r' Gt Lt (by w!) aC! st'
  ~P0:bE (gI f) .E ⟨[],0,[],l+1,32::(textOf h++32::(textOf t++41::r))⟩=some ⟨[],0,[h],l+1+aj h,32::(textOf t++41::r)⟩:=pE (a:=h) rfl (Rh _ (jt _));~P1:bE (gI f) .E ⟨[],0,[h],l+1+aj h,32::(textOf t++41::r)⟩=some ⟨[],0,[h,t],l+1+aj h+aj t,41::r⟩:=pE (a:=t) rfl (Rt _ (sr _));~PP:pieces (gI f) [.E,.E] ⟨[],0,[],l+1,32::(textOf h++32::(textOf t++41::r))⟩=some ⟨[],0,[h,t],l+1+aj h+aj t,41::r⟩:=by
   simp only[pieces,P0,P1,Option.bind_some]
  ~M:more (gI f) fu! ⟨[],0,[h,t],l+1+aj h+aj t,41::r⟩=some ⟨[],0,[h,t],l+1+aj h+aj t,41::r⟩:=ud (by dk!);rw[pj (ls:=[.E,.E]) (by dk!) (by dk!) PP M rfl (show build fu! l ⟨[],0,[h,t],l+1+aj h+aj t,41::r⟩=some (.cons l h t) by unfold build;rw[if_pos rfl])];simp only[aj,nodesOf,List.length_cons,List.length_append,Option.some.injEq,Prod.mk.injEq,true_and,and_true];w!
 | add l a b iha ihb =>
  intro f n r gd lb dp sz st;obtain ⟨f,rfl⟩:∃ g,f=g+1:=⟨f - 1,by w!⟩;o!⟨Ga,Gb⟩:=gd;o!⟨rfl,La,Lb⟩:=lb;simp only[deepOf] at dp;simp only[aj,nodesOf,List.length_cons,List.length_append] at sz;~hn:l < 60:=by w!
  rw[textOf,OZ,j6 hn];~Ra:=λr' st'=>iha f (l+1) r' Ga La (by w!) aC! st'
  ~Rb:=λr' st'=>ihb f (l+1+aj a) r' Gb Lb (by w!) aC! st'
  ~P0:bE (gI f) .E ⟨[],0,[],l+1,32::(textOf a++32::(textOf b++41::r))⟩=some ⟨[],0,[a],l+1+aj a,32::(textOf b++41::r)⟩:=pE (a:=a) rfl (Ra _ (jt _));~P1:bE (gI f) .E ⟨[],0,[a],l+1+aj a,32::(textOf b++41::r)⟩=some ⟨[],0,[a,b],l+1+aj a+aj b,41::r⟩:=pE (a:=b) rfl f2!;~PP:pieces (gI f) [.E,.E] ⟨[],0,[],l+1,32::(textOf a++32::(textOf b++41::r))⟩=some ⟨[],0,[a,b],l+1+aj a+aj b,41::r⟩:=by
   simp only[pieces,P0,P1,Option.bind_some]
  ~M:more (gI f) fY! ⟨[],0,[a,b],l+1+aj a+aj b,41::r⟩=some ⟨[],0,[a,b],l+1+aj a+aj b,41::r⟩:=ud (by dk!);rw[pj (ls:=[.E,.E]) (by dk!) (by dk!) PP M rfl (show build fY! l ⟨[],0,[a,b],l+1+aj a+aj b,41::r⟩=some (.add l a b) by unfold build;rw[n! (by dk!),if_pos rfl])];simp only[aj,nodesOf,List.length_cons,List.length_append,Option.some.injEq,Prod.mk.injEq,true_and,and_true];w!
 | sub l a b iha ihb =>
  intro f n r gd lb dp sz st;obtain ⟨f,rfl⟩:∃ g,f=g+1:=⟨f - 1,by w!⟩;o!⟨Ga,Gb⟩:=gd;o!⟨rfl,La,Lb⟩:=lb;simp only[deepOf] at dp;simp only[aj,nodesOf,List.length_cons,List.length_append] at sz;~hn:l < 60:=by w!
  rw[textOf,OZ,j6 hn];~Ra:=λr' st'=>iha f (l+1) r' Ga La (by w!) aC! st'
  ~Rb:=λr' st'=>ihb f (l+1+aj a) r' Gb Lb (by w!) aC! st'
  ~P0:bE (gI f) .E ⟨[],0,[],l+1,32::(textOf a++32::(textOf b++41::r))⟩=some ⟨[],0,[a],l+1+aj a,32::(textOf b++41::r)⟩:=pE (a:=a) rfl (Ra _ (jt _));~P1:bE (gI f) .E ⟨[],0,[a],l+1+aj a,32::(textOf b++41::r)⟩=some ⟨[],0,[a,b],l+1+aj a+aj b,41::r⟩:=pE (a:=b) rfl f2!;~PP:pieces (gI f) [.E,.E] ⟨[],0,[],l+1,32::(textOf a++32::(textOf b++41::r))⟩=some ⟨[],0,[a,b],l+1+aj a+aj b,41::r⟩:=by
   simp only[pieces,P0,P1,Option.bind_some]
  ~M:more (gI f) fW! ⟨[],0,[a,b],l+1+aj a+aj b,41::r⟩=some ⟨[],0,[a,b],l+1+aj a+aj b,41::r⟩:=ud (by dk!);rw[pj (ls:=[.E,.E]) (by dk!) (by dk!) PP M rfl (show build fW! l ⟨[],0,[a,b],l+1+aj a+aj b,41::r⟩=some (.sub l a b) by unfold build;rw[n! (by dk!),n! (by dk!),if_pos rfl])];simp only[aj,nodesOf,List.length_cons,List.length_append,Option.some.injEq,Prod.mk.injEq,true_and,and_true];w!
 | ifz l c a b ihc iha ihb =>
  intro f n r gd lb dp sz st;obtain ⟨f,rfl⟩:∃ g,f=g+1:=⟨f - 1,by w!⟩;o!⟨Gc,Ga,Gb⟩:=gd;o!⟨rfl,Lc,La,Lb⟩:=lb;simp only[deepOf] at dp;simp only[aj,nodesOf,List.length_cons,List.length_append] at sz;~hn:l < 60:=by w!
  rw[textOf,VW,j6 hn];~Rc:=λr' st'=>ihc f (l+1) r' Gc Lc (by w!) aC! st'
  ~Ra:=λr' st'=>iha f (l+1+aj c) r' Ga La (by w!) aC! st'
  ~Rb:=λr' st'=>ihb f (l+1+aj c+aj a) r' Gb Lb (by w!) aC! st'
  ~P0:bE (gI f) .E ⟨[],0,[],l+1,32::(textOf c++32::(textOf a++32::(textOf b++41::r)))⟩=some ⟨[],0,[c],l+1+aj c,32::(textOf a++32::(textOf b++41::r))⟩:=pE (a:=c) rfl (Rc _ (jt _));~P1:bE (gI f) .E ⟨[],0,[c],l+1+aj c,32::(textOf a++32::(textOf b++41::r))⟩=some ⟨[],0,[c,a],l+1+aj c+aj a,32::(textOf b++41::r)⟩:=pE (a:=a) rfl (Ra _ (jt _));~P2:bE (gI f) .E ⟨[],0,[c,a],l+1+aj c+aj a,32::(textOf b++41::r)⟩=some ⟨[],0,[c,a,b],l+1+aj c+aj a+aj b,41::r⟩:=pE (a:=b) rfl f2!;~PP:pieces (gI f) [.E,.E,.E] ⟨[],0,[],l+1,32::(textOf c++32::(textOf a++32::(textOf b++41::r)))⟩=some ⟨[],0,[c,a,b],l+1+aj c+aj a+aj b,41::r⟩:=by
   simp only[pieces,P0,P1,P2,Option.bind_some]
  ~M:more (gI f) gt! ⟨[],0,[c,a,b],l+1+aj c+aj a+aj b,41::r⟩=some ⟨[],0,[c,a,b],l+1+aj c+aj a+aj b,41::r⟩:=ud (by dk!);rw[pj (ls:=[.E,.E,.E]) (by dk!) (by dk!) PP M rfl (show build gt! l ⟨[],0,[c,a,b],l+1+aj c+aj a+aj b,41::r⟩=some (.ifz l c a b) by unfold build;rw[n! (by dk!),n! (by dk!),n! (by dk!),if_pos rfl])];simp only[aj,nodesOf,List.length_cons,List.length_append,Option.some.injEq,Prod.mk.injEq,true_and,and_true];w!
 | case l x e h t c ihe ihc =>
  intro f n r gd lb dp sz st;obtain ⟨f,rfl⟩:∃ g,f=g+1:=⟨f - 1,by w!⟩;o!⟨Gx,Ge,Gh,Gt,Gc⟩:=gd;o!⟨rfl,Le,Lc⟩:=lb;simp only[deepOf] at dp;simp only[aj,nodesOf,List.length_cons,List.length_append] at sz;~hn:l < 60:=by w!
  rw[textOf,br6,j6 hn];~Re:=λr' st'=>ihe f (l+1) r' Ge Le (by w!) aC! st'
  ~Rc:=λr' st'=>ihc f (l+1+aj e) r' Gc Lc (by w!) aC! st'
  ~P0:bE (gI f) .N ⟨[],0,[],l+1,32::(x++32::(textOf e++32::(h++32::(t++32::(textOf c++41::r)))))⟩=some ⟨[x],0,[],l+1,32::(textOf e++32::(h++32::(t++32::(textOf c++41::r))))⟩:=pN (x:=x) rfl Gx (jt _);~P1:bE (gI f) .E ⟨[x],0,[],l+1,32::(textOf e++32::(h++32::(t++32::(textOf c++41::r))))⟩=some ⟨[x],0,[e],l+1+aj e,32::(h++32::(t++32::(textOf c++41::r)))⟩:=pE (a:=e) rfl (Re _ (jt _));~P2:bE (gI f) .N ⟨[x],0,[e],l+1+aj e,32::(h++32::(t++32::(textOf c++41::r)))⟩=some ⟨[x,h],0,[e],l+1+aj e,32::(t++32::(textOf c++41::r))⟩:=pN (x:=h) rfl Gh (jt _);~P3:bE (gI f) .N ⟨[x,h],0,[e],l+1+aj e,32::(t++32::(textOf c++41::r))⟩=some ⟨[x,h,t],0,[e],l+1+aj e,32::(textOf c++41::r)⟩:=pN (x:=t) rfl Gt (jt _);~P4:bE (gI f) .E ⟨[x,h,t],0,[e],l+1+aj e,32::(textOf c++41::r)⟩=some ⟨[x,h,t],0,[e,c],l+1+aj e+aj c,41::r⟩:=pE (a:=c) rfl (Rc _ (sr _));~PP:pieces (gI f) [.N,.E,.N,.N,.E] ⟨[],0,[],l+1,32::(x++32::(textOf e++32::(h++32::(t++32::(textOf c++41::r)))))⟩=some ⟨[x,h,t],0,[e,c],l+1+aj e+aj c,41::r⟩:=by
   simp only[pieces,P0,P1,P2,P3,P4,Option.bind_some]
  ~M:more (gI f) fv! ⟨[x,h,t],0,[e,c],l+1+aj e+aj c,41::r⟩=some ⟨[x,h,t],0,[e,c],l+1+aj e+aj c,41::r⟩:=ud (by dk!);rw[pj (ls:=[.N,.E,.N,.N,.E]) (by dk!) (by dk!) PP M rfl (show build fv! l ⟨[x,h,t],0,[e,c],l+1+aj e+aj c,41::r⟩=some (.case l x e h t c) by unfold build;rw[n! (by dk!),n! (by dk!),n! (by dk!),n! (by dk!),if_pos rfl])];simp only[aj,nodesOf,List.length_cons,List.length_append,Option.some.injEq,Prod.mk.injEq,true_and,and_true];w!
 | letE l x d b ihd ihb =>
  intro f n r gd lb dp sz st;obtain ⟨f,rfl⟩:∃ g,f=g+1:=⟨f - 1,by w!⟩;o!⟨Gx,Gd,Gb⟩:=gd;o!⟨rfl,Ld,Lb⟩:=lb;simp only[deepOf] at dp;simp only[aj,nodesOf,List.length_cons,List.length_append] at sz;~hn:l < 60:=by w!
  rw[textOf,VW,j6 hn];~Rd:=λr' st'=>ihd f (l+1) r' Gd Ld (by w!) aC! st'
  ~Rb:=λr' st'=>ihb f (l+1+aj d) r' Gb Lb (by w!) aC! st'
  ~P0:bE (gI f) .N ⟨[],0,[],l+1,32::(x++32::(textOf d++32::(textOf b++41::r)))⟩=some ⟨[x],0,[],l+1,32::(textOf d++32::(textOf b++41::r))⟩:=pN (x:=x) rfl Gx (jt _);~P1:bE (gI f) .E ⟨[x],0,[],l+1,32::(textOf d++32::(textOf b++41::r))⟩=some ⟨[x],0,[d],l+1+aj d,32::(textOf b++41::r)⟩:=pE (a:=d) rfl (Rd _ (jt _));~P2:bE (gI f) .E ⟨[x],0,[d],l+1+aj d,32::(textOf b++41::r)⟩=some ⟨[x],0,[d,b],l+1+aj d+aj b,41::r⟩:=pE (a:=b) rfl f2!;~PP:pieces (gI f) [.N,.E,.E] ⟨[],0,[],l+1,32::(x++32::(textOf d++32::(textOf b++41::r)))⟩=some ⟨[x],0,[d,b],l+1+aj d+aj b,41::r⟩:=by
   simp only[pieces,P0,P1,P2,Option.bind_some]
  ~M:more (gI f) fX! ⟨[x],0,[d,b],l+1+aj d+aj b,41::r⟩=some ⟨[x],0,[d,b],l+1+aj d+aj b,41::r⟩:=ud (by dk!);rw[pj (ls:=[.N,.E,.E]) (by dk!) (by dk!) PP M rfl (show build fX! l ⟨[x],0,[d,b],l+1+aj d+aj b,41::r⟩=some (.letE l x d b) by unfold build;rw[n! (by dk!),n! (by dk!),n! (by dk!),n! (by dk!),n! (by dk!),if_pos rfl])];simp only[aj,nodesOf,List.length_cons,List.length_append,Option.some.injEq,Prod.mk.injEq,true_and,and_true];w!
 | call1 l g a iha =>
  intro f n r gd lb dp sz st;obtain ⟨f,rfl⟩:∃ g,f=g+1:=⟨f - 1,by w!⟩;o!⟨Gg,Ga⟩:=gd;o!⟨rfl,La⟩:=lb;simp only[deepOf] at dp;simp only[aj,nodesOf,List.length_cons,List.length_append] at sz;~hn:l < 60:=by w!
  rw[textOf,OZ,j6 hn];~Ra:=λr' st'=>iha f (l+1) r' Ga La (by w!) aC! st'
  ~P0:bE (gI f) .N ⟨[],0,[],l+1,32::(g++32::(textOf a++41::r))⟩=some ⟨[g],0,[],l+1,32::(textOf a++41::r)⟩:=pN (x:=g) rfl Gg (jt _);~P1:bE (gI f) .E ⟨[g],0,[],l+1,32::(textOf a++41::r)⟩=some ⟨[g],0,[a],l+1+aj a,41::r⟩:=pE (a:=a) rfl (Ra _ (sr _));~PP:pieces (gI f) [.N,.E] ⟨[],0,[],l+1,32::(g++32::(textOf a++41::r))⟩=some ⟨[g],0,[a],l+1+aj a,41::r⟩:=by
   simp only[pieces,P0,P1,Option.bind_some]
  ~M:more (gI f) cM! ⟨[g],0,[a],l+1+aj a,41::r⟩=some ⟨[g],0,[a],l+1+aj a,41::r⟩:=by
   unfold more;rw[n!];intro z;e! absurd z.2 (by show ¬ (some (41:UInt8)=some 32);decide)
  rw[pj (ls:=[.N,.E]) (by dk!) (by dk!) PP M rfl (show build cM! l ⟨[g],0,[a],l+1+aj a,41::r⟩=some (.call1 l g a) by unfold build;rw[n! (by dk!),n! (by dk!),n! (by dk!),n! (by dk!),n! (by dk!),n! (by dk!),if_pos rfl])];simp only[aj,nodesOf,List.length_cons,List.length_append,Option.some.injEq,Prod.mk.injEq,true_and,and_true];w!
 | call2 l g a b iha ihb =>
  intro f n r gd lb dp sz st;obtain ⟨f,rfl⟩:∃ g,f=g+1:=⟨f - 1,by w!⟩;o!⟨Gg,Ga,Gb⟩:=gd;o!⟨rfl,La,Lb⟩:=lb;simp only[deepOf] at dp;simp only[aj,nodesOf,List.length_cons,List.length_append] at sz;~hn:l < 60:=by w!
  rw[textOf,VW,j6 hn];~Ra:=λr' st'=>iha f (l+1) r' Ga La (by w!) aC! st'
  ~Rb:=λr' st'=>ihb f (l+1+aj a) r' Gb Lb (by w!) aC! st'
  ~P0:bE (gI f) .N ⟨[],0,[],l+1,32::(g++32::(textOf a++32::(textOf b++41::r)))⟩=some ⟨[g],0,[],l+1,32::(textOf a++32::(textOf b++41::r))⟩:=pN (x:=g) rfl Gg (jt _);~P1:bE (gI f) .E ⟨[g],0,[],l+1,32::(textOf a++32::(textOf b++41::r))⟩=some ⟨[g],0,[a],l+1+aj a,32::(textOf b++41::r)⟩:=pE (a:=a) rfl (Ra _ (jt _));~P2:bE (gI f) .E ⟨[g],0,[a],l+1+aj a,32::(textOf b++41::r)⟩=some ⟨[g],0,[a,b],l+1+aj a+aj b,41::r⟩:=pE (a:=b) rfl f2!;~PP:pieces (gI f) [.N,.E] ⟨[],0,[],l+1,32::(g++32::(textOf a++32::(textOf b++41::r)))⟩=some ⟨[g],0,[a],l+1+aj a,32::(textOf b++41::r)⟩:=by
   simp only[pieces,P0,P1,Option.bind_some]
  ~M:more (gI f) cM! ⟨[g],0,[a],l+1+aj a,32::(textOf b++41::r)⟩=some ⟨[g],0,[a,b],l+1+aj a+aj b,41::r⟩:=by
   unfold more;rw[if_pos ⟨rfl,rfl⟩];e! P2
  rw[pj (ls:=[.N,.E]) (by dk!) (by dk!) PP M rfl (show build cM! l ⟨[g],0,[a,b],l+1+aj a+aj b,41::r⟩=some (.call2 l g a b) by unfold build;rw[n! (by dk!),n! (by dk!),n! (by dk!),n! (by dk!),n! (by dk!),n! (by dk!),if_pos rfl])];simp only[aj,nodesOf,List.length_cons,List.length_append,Option.some.injEq,Prod.mk.injEq,true_and,and_true];w!
 | tick l k e ihe =>
  intro f n r gd lb dp sz st;obtain ⟨f,rfl⟩:∃ g,f=g+1:=⟨f - 1,by w!⟩;o!⟨Gk,Ge⟩:=gd;o!⟨rfl,Le⟩:=lb;simp only[deepOf] at dp;simp only[aj,nodesOf,List.length_cons,List.length_append] at sz;~hn:l < 60:=by w!
  rw[textOf,OZ,j6 hn];~Re:=λr' st'=>ihe f (l+1) r' Ge Le (by w!) aC! st'
  ~P0:bE (gI f) .K ⟨[],0,[],l+1,32::(costText k++32::(textOf e++41::r))⟩=some ⟨[],k,[],l+1,32::(textOf e++41::r)⟩:=pK (k:=k) rfl Gk (jt _);~P1:bE (gI f) .E ⟨[],k,[],l+1,32::(textOf e++41::r)⟩=some ⟨[],k,[e],l+1+aj e,41::r⟩:=pE (a:=e) rfl (Re _ (sr _));~PP:pieces (gI f) [.K,.E] ⟨[],0,[],l+1,32::(costText k++32::(textOf e++41::r))⟩=some ⟨[],k,[e],l+1+aj e,41::r⟩:=by
   simp only[pieces,P0,P1,Option.bind_some]
  ~M:more (gI f) fs! ⟨[],k,[e],l+1+aj e,41::r⟩=some ⟨[],k,[e],l+1+aj e,41::r⟩:=ud (by dk!);rw[pj (ls:=[.K,.E]) (by dk!) (by dk!) PP M rfl (show build fs! l ⟨[],k,[e],l+1+aj e,41::r⟩=some (.tick l k e) by unfold build;rw[n! (by dk!),n! (by dk!),n! (by dk!),n! (by dk!),n! (by dk!),n! (by dk!),n! (by dk!),if_pos rfl])];simp only[aj,nodesOf,List.length_cons,List.length_append,Option.some.injEq,Prod.mk.injEq,true_and,and_true];w!
 | share l x y z e ihe =>
  intro f n r gd lb dp sz st;obtain ⟨f,rfl⟩:∃ g,f=g+1:=⟨f - 1,by w!⟩;o!⟨Gx,Gy,Gz,Ge⟩:=gd;o!⟨rfl,Le⟩:=lb;simp only[deepOf] at dp;simp only[aj,nodesOf,List.length_cons,List.length_append] at sz;~hn:l < 60:=by w!
  rw[textOf,br5,j6 hn];~Re:=λr' st'=>ihe f (l+1) r' Ge Le (by w!) aC! st'
  ~P0:bE (gI f) .N ⟨[],0,[],l+1,32::(x++32::(y++32::(z++32::(textOf e++41::r))))⟩=some ⟨[x],0,[],l+1,32::(y++32::(z++32::(textOf e++41::r)))⟩:=pN (x:=x) rfl Gx (jt _);~P1:bE (gI f) .N ⟨[x],0,[],l+1,32::(y++32::(z++32::(textOf e++41::r)))⟩=some ⟨[x,y],0,[],l+1,32::(z++32::(textOf e++41::r))⟩:=pN (x:=y) rfl Gy (jt _);~P2:bE (gI f) .N ⟨[x,y],0,[],l+1,32::(z++32::(textOf e++41::r))⟩=some ⟨[x,y,z],0,[],l+1,32::(textOf e++41::r)⟩:=pN (x:=z) rfl Gz (jt _);~P3:bE (gI f) .E ⟨[x,y,z],0,[],l+1,32::(textOf e++41::r)⟩=some ⟨[x,y,z],0,[e],l+1+aj e,41::r⟩:=pE (a:=e) rfl (Re _ (sr _));~PP:pieces (gI f) [.N,.N,.N,.E] ⟨[],0,[],l+1,32::(x++32::(y++32::(z++32::(textOf e++41::r))))⟩=some ⟨[x,y,z],0,[e],l+1+aj e,41::r⟩:=by
   simp only[pieces,P0,P1,P2,P3,Option.bind_some]
  ~M:more (gI f) e5! ⟨[x,y,z],0,[e],l+1+aj e,41::r⟩=some ⟨[x,y,z],0,[e],l+1+aj e,41::r⟩:=ud (by dk!);rw[pj (ls:=[.N,.N,.N,.E]) (by dk!) (by dk!) PP M rfl (show build e5! l ⟨[x,y,z],0,[e],l+1+aj e,41::r⟩=some (.share l x y z e) by unfold build;rw[n! (by dk!),n! (by dk!),n! (by dk!),n! (by dk!),n! (by dk!),n! (by dk!),n! (by dk!),n! (by dk!),if_pos rfl])];simp only[aj,nodesOf,List.length_cons,List.length_append,Option.some.injEq,Prod.mk.injEq,true_and,and_true];w!
end Pay
namespace Pay
open Vaamoa
def bg(p t:Text):Option Text:=if p.isPrefixOf t=true then some (t.drop p.length) else none
def mE(t:Text):Option (Kind×Text):=(kindRead (word t)).map λk=>(k,off t)
def dH(t:Text):Option (Param×Text) :=
 (bg [40] t).bind λt1=>(mE t1).bind λk=>(bg [32] k.2).bind λt2=>(ig t2).bind λx=>(bg [41] x.2).map λt3=>(⟨k.1,x.1⟩,t3)
def wQ(t:Text):Option (List Param×Text) :=
 (dH t).bind λq=>if q.2.head?=some 32 then (dH q.2.tail).map λr=>([q.1,r.1],r.2) else some ([q.1],q.2)
def uK(n:Nat)(t:Text):Option (Fun×Nat×Text) :=
 (bg (ascii "(fun ") t).bind λt1=>(ig t1).bind λx=>(bg (ascii " (") x.2).bind λt2=>(wQ t2).bind λps =>
  if distinct (ps.1.map λq=>q.name)=false then none else (bg (ascii ") ") ps.2).bind λt3=>(mE t3).bind λk=>(bg [32] k.2).bind λt4 =>
   (gI 10 n t4).bind λb=>(bg [41,10] b.2.2).map λt5=>(⟨x.1,ps.1,k.1,b.1⟩,b.2.1,t5)
def dX:Nat->Nat->Text->Option Prog
 | 0,_,t=>if t=[] then some [] else none
 | f+1,n,t=>if t=[] then some [] else (uK n t).bind λz=>(dX f z.2.1 z.2.2).map λl=>z.1::l
def C1(t:Text):Option Prog:=(dX 4 0 t).bind λp=>if p=[]∨distinct cg!=false then none else some p
structure A9 (f:Fun):Prop where
 name:isName f.name=true
 least:1<=f.params.length
 most:f.params.length<=2
 AX:∀ q∈f.params,isName q.name=true
 dist:distinct e4!=true
 deep:deepOf f.body<=9
 body:cf f.body
def fV(p:Prog):Nat:=(p.map λf=>aj f.body).sum
def J1:Nat->Prog->Prop
 | _,[]=>True
 | n,f::r=>jS n f.body/\J1 (n+aj f.body) r
structure qU (p:Prog):Prop where
 least:1<=p.length
 most:p.length<=4
 dist:distinct cg!=true
 VY:J1 0 p
 size:fV p<=60
 i6:∀ f∈p,A9 f
t! fW{p t r:Text}(h:bg p t=some r):t=p++r:=by
 unfold bg at h;split at h
 ·rename_i c
  cases h;o!⟨s,rfl⟩:=%bK c;rw[List.drop_left]
 ·cases h
t! gu(p r:Text):bg p (p++r)=some r:=by
 unfold bg;rw[if_pos (List.isPrefixOf_iff_prefix.mpr ⟨r,rfl⟩),List.drop_left]
t! wR(k:Kind):Plain (kindText k):=by
 ~q:(kindText k).all dt!=true:=by cases k<;>dk!
 intro b hb;~q2:=%az q b hb;simpa using q2
t! uL(k:Kind):kindRead (kindText k)=some k:=by cases k<;>dk!
t! J3{w:Text}{k:Kind}(h:kindRead w=some k):w=kindText k:=by
 unfold kindRead at h;split at h
 ·rename_i c
  cases h;e! c
 ·split at h
  ·rename_i c
   cases h;e! c
  ·cases h
t! C2{t r:Text}{k:Kind}(h:mE t=some (k,r)):t=kindText k++r:=by
 unfold mE at h;o!⟨k',h1,h2⟩:=%ab h;cases h2;rw[←J3 h1,fU]
t! Ik{k:Kind}{r:Text}(s:Stop r):mE (kindText k++r)=some (k,r):=by
 unfold mE;rw[pL (wR k) s,uc (wR k) s,uL];rfl
t! wU{t x r:Text}(h:ig t=some (x,r)):t=x++r/\isName x=true:=by
 unfold ig at h;split at h
 ·rename_i c
  cases h;e! ⟨(fU t).symm,c⟩
 ·cases h
t! wV(q:Param)(r:Text):paramText q++r=40::(kindText q.kind++32::(q.name++41::r)):=by
 simp[paramText,inBrackets,spaced,gluedBy]
t! Ba{t r:Text}{q:Param}(h:dH t=some (q,r)):t=paramText q++r/\isName q.name=true:=by
 unfold dH at h;o!⟨t1,h1,h⟩:=%aa h;o!⟨k,h2,h⟩:=%aa h;o!⟨t2,h3,h⟩:=%aa h;o!⟨x,h4,h⟩:=%aa h;o!⟨t3,h5,h⟩:=%ab h;cases h;o!⟨e4,n4⟩:=wU h4;r! ⟨?_,n4⟩;rw[wV,fW h1,C2 h2,fW h3,e4,fW h5];rfl
t! yU{q:Param}{r:Text}(h:isName q.name=true):dH (paramText q++r)=some (q,r):=by
 rw[wV];unfold dH;~e1:bg [40] (40::(kindText q.kind++32::(q.name++41::r)))=some (kindText q.kind++32::(q.name++41::r)):=gu [40] _;~e3:bg [32] (32::(q.name++41::r))=some (q.name++41::r):=gu [32] _;~e5:bg [41] (41::r)=some r:=gu [41] _;simp only[e1,Option.bind_some,Ik (jt _),e3,BJ h (sr _),e5,Option.map_some]
t! wW(f:Fun)(r:Text):funText f++r=ascii "(fun "++(f.name++(ascii " ("++(spaced (f.params.map paramText)++(ascii ") "++(kindText f.result++([32]++(textOf f.body++([41,10]++r)))))))):=by
 ~a1:ascii "(fun "=40::(ascii "fun"++[32]):=by dk!
 ~a2:ascii " ("=[32,40]:=by dk!
 ~a3:ascii ") "=[41,32]:=by dk!
 simp[funText,inBrackets,spaced,gluedBy,a1,a2,a3]
t! Mj{t r:Text}{ps:List Param}(h:wQ t=some (ps,r)):t=spaced (ps.map paramText)++r/\1<=ps.length/\ps.length<=2/\∀ q∈ps,isName q.name=true:=by
 unfold wQ at h;o!⟨q,h1,h⟩:=%aa h;o!⟨e1,n1⟩:=Ba h1;split at h
 ·rename_i c
  o!⟨q2,h2,h⟩:=%ab h;cases h;o!⟨e2,n2⟩:=Ba h2;~e3:q.2=32::q.2.tail:=by
   cases z:q.2 with
   | nil=>rw[z] at c;cases c
   | cons b s =>
    rw[z] at c;have:b=32:=%aD c;rw[this];rfl
  r! ⟨?_,by simp,by simp,λa ha=>?_⟩
  ·rw[e1,e3,e2];simp[spaced,gluedBy]
  ·simp at ha;rcases ha with rfl | rfl
   ·e! n1
   ·e! n2
 ·cases h;r! ⟨?_,by simp,by simp,λa ha=>?_⟩
  ·rw[e1];simp[spaced,gluedBy]
  ·simp at ha;subst ha;e! n1
t! O3{ps:List Param}{r:Text}(h1:1<=ps.length)(h2:ps.length<=2)(hn:∀ q∈ps,isName q.name=true)(hr:r.head?≠some 32):wQ (spaced (ps.map paramText)++r)=some (ps,r):=by
 unfold wQ
 match ps,h1,h2,hn with
 | [q],_,_,hn =>
  ~e:spaced ([q].map paramText)++r=paramText q++r:=by simp[spaced,gluedBy]
  rw[e,yU (hn q ai!),Option.bind_some,if_neg hr]
 | [q,q2],_,_,hn =>
  ~e:spaced ([q,q2].map paramText)++r=paramText q++(32::fH!):=by simp[spaced,gluedBy]
  rw[e,yU (hn q ai!),Option.bind_some,if_pos (show (32::fH!:Text).head?=some 32 from rfl)];show (dH fH!).map _=_;rw[yU (hn q2 ai!)];rfl
 | _::_::_::_,_,h2,_=>simp at h2
t! Fw{n n':Nat}{t r:Text}{f:Fun}(h:uK n t=some (f,n',r)):t=funText f++r/\n'=n+aj f.body/\jS n f.body/\A9 f/\n'<=60:=by
 unfold uK at h;o!⟨t1,h1,h⟩:=%aa h;o!⟨x,h2,h⟩:=%aa h;o!⟨t2,h3,h⟩:=%aa h;o!⟨ps,h4,h⟩:=%aa h;split at h
 ·cases h
 rename_i c
 o!⟨t3,h5,h⟩:=%aa h;o!⟨k,h6,h⟩:=%aa h;o!⟨t4,h7,h⟩:=%aa h;o!⟨b,h8,h⟩:=%aa h;o!⟨t5,h9,h⟩:=%ab h;cases h;o!⟨x1,x2⟩:=wU h2;o!⟨p1,p2,p3,p4⟩:=Mj h4;o!⟨b1,b2,b3,b4,b5,b6⟩:=Ao 10 _ _ _ _ _ h8;r! ⟨?_,b2,b3,⟨x2,p2,p3,p4,by simpa using c,by show deepOf b.1<=9;w!,b5⟩,b6⟩;rw[wW,fW h1,x1,fW h3,p1,fW h5,C2 h6,fW h7,b1,fW h9]
t! RN{n:Nat}{r:Text}{f:Fun}(g:A9 f)(lb:jS n f.body)(sz:n+aj f.body<=60):uK n (funText f++r)=some (f,n+aj f.body,r):=by
 rw[wW];unfold uK;~a2:∀ u:Text,Stop (ascii " ("++u):=λu=>by
  ~e:ascii " ("=[32,40]:=by dk!
  rw[e];e! vQ ag!
 ~a3:∀ u:Text,(ascii ") "++u).head?≠some 32:=λu=>by
  ~e:ascii ") "=[41,32]:=by dk!
  rw[e];show ¬ (some (41:UInt8)=some 32)
  decide
 ~a4:Stop ([41,10]++r):=vQ ag!;~a5:∀ u:Text,Stop ([32]++u):=λu=>vQ ag!
 simp only[gu,Option.bind_some,BJ g.name (a2 _),O3 g.least g.most g.AX (a3 _),g.dist,Bool.true_eq_false,if_false,Ik (a5 _)];~b:=VX f.body 10 n ([41,10]++r) g.body lb (by have:=g.deep;w!) sz a4;simp only[b,Option.bind_some,gu,Option.map_some]
t! O4(f:Fun)(r:Text):funText f++r≠[]:=by
 rw[wW];~a1:ascii "(fun "=40::(ascii "fun"++[32]):=by dk!
 rw[a1];intro h;cases h
t! C3:∀ {f n:Nat} {t:Text} {p:Prog},dX f n t=some p->n<=60->t=progText p/\p.length<=f/\J1 n p/\n+fV p<=60/\∀ g∈p,A9 g
 | 0,n,t,p,h,hn=>by
  unfold dX at h;split at h
  ·rename_i c
   cases h;e! ⟨c,%am _,trivial,hn,λg hg=>by cases hg⟩
  ·cases h
 | f+1,n,t,p,h,hn=>by
  unfold dX at h;split at h
  ·rename_i c
   cases h;e! ⟨c,%aE _,trivial,hn,λg hg=>by cases hg⟩
  ·o!⟨z,h1,h⟩:=%aa h;o!⟨l,h2,h⟩:=%ab h;cases h;o!⟨g,n',t'⟩:=z;o!⟨a1,a2,a3,a4,a5⟩:=Fw h1;o!⟨b1,b2,b3,b4,b5⟩:=C3 h2 a5;simp only at a2 b1 b3 b4;subst a2;r! ⟨?_,by simp;e! b2,⟨a3,b3⟩,?_,λq hq=>?_⟩
   ·rw[a1,b1];simp[progText]
   ·simp only[fV,List.map_cons,List.sum_cons] at *;w!
   ·rcases %ak hq with e | e
    ·rw[e];e! a4
    ·e! b5 q e
t! Il:∀ {f n:Nat} {p:Prog},p.length<=f->J1 n p->n+fV p<=60->(∀ g∈p,A9 g)->dX f n gs!=some p
 | 0,n,[],_,_,_,_=>rfl
 | f+1,n,[],_,_,_,_=>rfl
 | 0,n,_::_,h,_,_,_=>by simp at h
 | f+1,n,g::p,h,lb,sz,hg=>by
  ~sz':n+(aj g.body+fV p)<=60:=by simpa[fV] using sz
  ~e:progText (g::p)=funText g++progText p:=by simp[progText]
  rw[dX,e,if_neg (O4 g _),RN (hg g ai!) lb.1 (by w!)];simp only[Option.bind_some];rw[Il fc! lb.2 (by w!) λq hq=>hg q (by simp[hq])];rfl
t! vR{t:Text}{p:Prog}:C1 t=some p↔qU p/\progText p=t:=by
 constructor
 ·intro h;unfold C1 at h;o!⟨q,h1,h⟩:=%aa h;split at h
  ·cases h
  ·rename_i c
   cases h;o!⟨a1,a2,a3,a4,a5⟩:=C3 h1 (by w!);r! ⟨⟨?_,a2,?_,a3,by w!,a5⟩,a1.symm⟩
   ·cases p with
    | nil=>e! absurd al! c
    | cons _ _=>simp
   ·cases z:distinct cg! with
    | true=>rfl
    | false=>e! absurd (Or.inr z) c
 ·rintro ⟨g,rfl⟩;unfold C1;rw[Il g.most g.VY (by have:=g.size;w!) g.i6,%ax,n!];rintro (e | e)
  ·have:=g.least;rw[e] at this;simp at this
  ·rw[g.dist] at e;cases e
end Pay
namespace Pay
open Vaamoa
def bt:Expr->List Text
 | .num _ n=>[decimal n]
 | .var _ x=>[x]
 | .nil _=>[ascii "nil"]
 | .cons _ h t=>[40]::ascii "cons"::fV!
 | .add _ h t=>[40]::ascii "add"::fV!
 | .sub _ h t=>[40]::ascii "sub"::fV!
 | .ifz _ c a b=>[40]::ascii "if"::(bt c++(bt a++(bt b++[[41]])))
 | .case _ x e h t c=>[40]::ascii "case"::x::(bt e++(h::t::(bt c++[[41]])))
 | .letE _ x d b=>[40]::ascii "let"::x::(bt d++(bt b++[[41]]))
 | .call1 _ g a=>[40]::ascii "call"::g::(bt a++[[41]])
 | .call2 _ g a b=>[40]::ascii "call"::g::(bt a++(bt b++[[41]]))
 | .tick _ k e=>[40]::ascii "tick"::costText k::(bt e++[[41]])
 | .share _ x y z e=>[40]::ascii "share"::x::y::z::(bt e++[[41]])
t! KQ:∀ {x:Text} {w r:Text},Plain x->tokensOf w (x++r)=tokensOf (w++x) r
 | [],w,r,_=>by simp
 | b::x,w,r,h=>by
  ~e:=h b %an;~ne:∀ c:UInt8,ends c=false->¬ (c=40∨c=41)/\¬ (c=32∨c=10):=iC (by dk!);o!⟨n1,n2⟩:=ne b e;show tokensOf w (b::(x++r))=_;rw[tokensOf,n! n1,n! n2,KQ λc hc=>h c (%af _ hc)];simp
t! mF{x r:Text}(hp:Plain x)(hx:x≠[])(hr:Stop r):tokensOf [] (x++r)=x::tokensOf [] r:=by
 ~nx:x.isEmpty=false:=by cases x with | nil=>e! absurd rfl hx | cons _ _=>rfl
 rw[KQ hp,List.nil_append];cases r with
 | nil=>rw[tokensOf,tokensOf,nx];rfl
 | cons b s =>
  ~e:=hr b s rfl;~ne:∀ c:UInt8,ends c=true->(c=40∨c=41)∨(¬ (c=40∨c=41)/\(c=32∨c=10)):=iC (by dk!);rcases ne b e with c | ⟨c,d⟩
  ·rw[tokensOf,if_pos c,tokensOf,if_pos c,nx];rfl
  ·rw[tokensOf,n! c,if_pos d,tokensOf,n! c,if_pos d,nx];rfl
t! vS(r:Text):tokensOf [] (40::r)=[40]::tokensOf [] r:=by rw[tokensOf,if_pos (Or.inl rfl)];rfl
t! vT(r:Text):tokensOf [] (41::r)=[41]::tokensOf [] r:=by rw[tokensOf,if_pos gv!];rfl
t! su(r:Text):tokensOf [] (32::r)=tokensOf [] r:=by rw[tokensOf,n! ag!,if_pos (Or.inl rfl)];rfl
t! Y7(r:Text):tokensOf [] (10::r)=tokensOf [] r:=by rw[tokensOf,n! ag!,if_pos gv!];rfl
t! NJ{w:Text}(h:w.all dt!=true):Plain w:=λb hb=>by
 ~q:=%az h b hb;simpa using q
t! yV{w:Text}(r:Text)(h:w.all dt!=true)(h0:w≠[]):tokensOf [] (w++32::r)=w::tokensOf [] r:=by
 rw[mF (NJ h) h0 (jt r),su]
t! Bb{x r:Text}(h:isName x=true):tokensOf [] (x++32::r)=x::tokensOf [] r:=by
 rw[mF (fq h) (Hl h) (jt r),su]
t! Y8:∀ (e:Expr) (r:Text),cf e->Stop r->tokensOf [] (textOf e++r)=bt e++tokensOf [] r:=by
 intro e
 induction e with
 | num l k=>intro r g st;rw[textOf,mF (gq g) (Ii g) st];rfl
 | var l x=>intro r g st;rw[textOf,mF (fq g) (Hl g) st];rfl
 | nil l=>intro r g st;rw[textOf,mF (NJ (by dk!)) (by dk!) st];rfl
 | cons l h t ih1 ih2 =>
  intro r g st;rw[textOf,OZ,vS,yV _ (by dk!) (by dk!),ih1 _ g.1 (jt _),su,ih2 _ g.2 (sr _),vT];simp[bt]
 | add l h t ih1 ih2 =>
  intro r g st;rw[textOf,OZ,vS,yV _ (by dk!) (by dk!),ih1 _ g.1 (jt _),su,ih2 _ g.2 (sr _),vT];simp[bt]
 | sub l h t ih1 ih2 =>
  intro r g st;rw[textOf,OZ,vS,yV _ (by dk!) (by dk!),ih1 _ g.1 (jt _),su,ih2 _ g.2 (sr _),vT];simp[bt]
 | ifz l c a b ih0 ih1 ih2 =>
  intro r g st;rw[textOf,VW,vS,yV _ (by dk!) (by dk!),ih0 _ g.1 (jt _),su,ih1 _ g.2.1 (jt _),su,ih2 _ g.2.2 (sr _),vT];simp[bt]
 | case l x e h t c ih1 ih2 =>
  intro r g st;o!⟨g1,g2,g3,g4,g5⟩:=g;rw[textOf,br6,vS,yV _ (by dk!) (by dk!),Bb g1,ih1 _ g2 (jt _),su,Bb g3,Bb g4,ih2 _ g5 (sr _),vT];simp[bt]
 | letE l x d b ih1 ih2 =>
  intro r g st;o!⟨g1,g2,g3⟩:=g;rw[textOf,VW,vS,yV _ (by dk!) (by dk!),Bb g1,ih1 _ g2 (jt _),su,ih2 _ g3 (sr _),vT];simp[bt]
 | call1 l f a ih1 =>
  intro r g st;o!⟨g1,g2⟩:=g;rw[textOf,OZ,vS,yV _ (by dk!) (by dk!),Bb g1,ih1 _ g2 (sr _),vT];simp[bt]
 | call2 l f a b ih1 ih2 =>
  intro r g st;o!⟨g1,g2,g3⟩:=g;rw[textOf,VW,vS,yV _ (by dk!) (by dk!),Bb g1,ih1 _ g2 (jt _),su,ih2 _ g3 (sr _),vT];simp[bt]
 | tick l k e ih1 =>
  intro r g st;o!⟨g1,g2⟩:=g;rw[textOf,OZ,vS,yV _ (by dk!) (by dk!),mF (BI g1) (VU g1) (jt _),su,ih1 _ g2 (sr _),vT];simp[bt]
 | share l x y z e ih1 =>
  intro r g st;o!⟨g1,g2,g3,g4⟩:=g;rw[textOf,br5,vS,yV _ (by dk!) (by dk!),Bb g1,Bb g2,Bb g3,ih1 _ g4 (sr _),vT];simp[bt]
t! vU{x:Text}(h:Plain x){b:UInt8}(hb:ends b=true):x≠[b]:=λe=>by
 subst e;have:=h b %an;rw[hb] at this;cases this
t! RO(e:Expr)(g:cf e):∃ t r,bt e=t::r/\t≠[41]:=by
 cases e<;>first
  | exact ⟨_,_,rfl,by decide⟩
  | exact ⟨_,_,rfl,vU (gq g) (by decide)⟩
  | exact ⟨_,_,rfl,vU (fq g) (by decide)⟩
  | exact ⟨_,_,rfl,by dk!⟩
t! gw(e e':Expr)(n:Nat)(r:List Text):closing ⟨e,n,[41]::r⟩ e'=some ⟨e',n,r⟩:=rfl
t! Ub:∀ (e:Expr) (f n:Nat) (r:List Text),cf e->jS n e->(bt e).length<=f->Vaamoa.read f n (bt e++r)=some ⟨e,n+aj e,r⟩:=by
 intro e
 induction e with
 | num l k =>
  intro f n r g lb hf;obtain ⟨f,rfl⟩:∃ g,f=g+1:=⟨f - 1,by simp[bt] at hf;w!⟩;cases (show l=n from lb);simp only[bt,List.singleton_append,Vaamoa.read];rw[n! (vU (gq g) ag!),if_pos (vU (gq g) ag!),nQ g];rfl
 | var l x =>
  intro f n r g lb hf;obtain ⟨f,rfl⟩:∃ g,f=g+1:=⟨f - 1,by simp[bt] at hf;w!⟩;~g':isName x=true:=g;~e2:x≠ascii "nil":=λq=>by
   rw[q,Fu] at g';cases g'
  cases (show l=n from lb);simp only[bt,List.singleton_append,Vaamoa.read];rw[n! (vU (fq g) ag!),if_pos (vU (fq g) ag!),yS g];show (if x=ascii "nil" then _ else _)=_;rw[n! e2];rfl
 | nil l =>
  intro f n r g lb hf;obtain ⟨f,rfl⟩:∃ g,f=g+1:=⟨f - 1,by simp[bt] at hf;w!⟩;cases (show l=n from lb);simp only[bt,List.singleton_append,Vaamoa.read];rw[n! (by dk!),if_pos (by dk!),A8];rfl
 | cons l h t ih1 ih2 =>
  intro f n r g lb hf;o!⟨rfl,L1,L2⟩:=lb;simp only[bt,List.length_cons,List.length_append,List.length_nil] at hf;obtain ⟨f,rfl⟩:∃ g,f=g+1:=⟨f - 1,by w!⟩;simp only[bt,List.cons_append,List.append_assoc,Vaamoa.read];rw[n! ag!,n! ag!,if_pos trivial,ih1 f _ _ g.1 L1 (by w!)];simp only[Option.bind_some];rw[ih2 f _ _ g.2 L2 (by w!)];simp only[Option.bind_some,List.nil_append,gw,aj,nodesOf,List.length_cons,List.length_append];congr 2;w!
 | add l h t ih1 ih2 =>
  intro f n r g lb hf;o!⟨rfl,L1,L2⟩:=lb;simp only[bt,List.length_cons,List.length_append,List.length_nil] at hf;obtain ⟨f,rfl⟩:∃ g,f=g+1:=⟨f - 1,by w!⟩;simp only[bt,List.cons_append,List.append_assoc,Vaamoa.read];rw[n! ag!,n! ag!,n! (by dk!),if_pos trivial,ih1 f _ _ g.1 L1 (by w!)];simp only[Option.bind_some];rw[ih2 f _ _ g.2 L2 (by w!)];simp only[Option.bind_some,List.nil_append,gw,aj,nodesOf,List.length_cons,List.length_append];congr 2;w!
 | sub l h t ih1 ih2 =>
  intro f n r g lb hf;o!⟨rfl,L1,L2⟩:=lb;simp only[bt,List.length_cons,List.length_append,List.length_nil] at hf;obtain ⟨f,rfl⟩:∃ g,f=g+1:=⟨f - 1,by w!⟩;simp only[bt,List.cons_append,List.append_assoc,Vaamoa.read];rw[n! ag!,n! ag!,n! (by dk!),n! (by dk!),if_pos trivial,ih1 f _ _ g.1 L1 (by w!)];simp only[Option.bind_some];rw[ih2 f _ _ g.2 L2 (by w!)];simp only[Option.bind_some,List.nil_append,gw,aj,nodesOf,List.length_cons,List.length_append];congr 2;w!
 | ifz l c a b ih0 ih1 ih2 =>
  intro f n r g lb hf;o!⟨rfl,L0,L1,L2⟩:=lb;simp only[bt,List.length_cons,List.length_append,List.length_nil] at hf;obtain ⟨f,rfl⟩:∃ g,f=g+1:=⟨f - 1,by w!⟩;simp only[bt,List.cons_append,List.append_assoc,Vaamoa.read];rw[n! ag!,n! ag!,n! (by dk!),n! (by dk!),n! (by dk!),if_pos trivial,ih0 f _ _ g.1 L0 (by w!)];simp only[Option.bind_some];rw[ih1 f _ _ g.2.1 L1 (by w!)];simp only[Option.bind_some];rw[ih2 f _ _ g.2.2 L2 (by w!)];simp only[Option.bind_some,List.nil_append,gw,aj,nodesOf,List.length_cons,List.length_append];congr 2;w!
 | case l x e h t c ih1 ih2 =>
  intro f n r g lb hf;o!⟨rfl,L1,L2⟩:=lb;o!⟨g1,g2,g3,g4,g5⟩:=g;simp only[bt,List.length_cons,List.length_append,List.length_nil] at hf;obtain ⟨f,rfl⟩:∃ g,f=g+1:=⟨f - 1,by w!⟩;simp only[bt,List.cons_append,List.append_assoc,Vaamoa.read];rw[n! ag!,n! ag!,n! (by dk!),n! (by dk!),n! (by dk!),n! (by dk!),if_pos trivial,ih1 f _ _ g2 L1 (by w!)];simp only[Option.bind_some];rw[ih2 f _ _ g5 L2 (by w!)];simp only[Option.bind_some,List.nil_append,gw,aj,nodesOf,List.length_cons,List.length_append];congr 2;w!
 | letE l x d b ih1 ih2 =>
  intro f n r g lb hf;o!⟨rfl,L1,L2⟩:=lb;o!⟨g1,g2,g3⟩:=g;simp only[bt,List.length_cons,List.length_append,List.length_nil] at hf;obtain ⟨f,rfl⟩:∃ g,f=g+1:=⟨f - 1,by w!⟩;simp only[bt,List.cons_append,List.append_assoc,Vaamoa.read];rw[n! ag!,n! ag!,n! (by dk!),n! (by dk!),n! (by dk!),n! (by dk!),n! (by dk!),if_pos trivial,ih1 f _ _ g2 L1 (by w!)];simp only[Option.bind_some];rw[ih2 f _ _ g3 L2 (by w!)];simp only[Option.bind_some,List.nil_append,gw,aj,nodesOf,List.length_cons,List.length_append];congr 2;w!
 | call1 l u a ih1 =>
  intro f n r g lb hf;o!⟨rfl,L1⟩:=lb;o!⟨g1,g2⟩:=g;simp only[bt,List.length_cons,List.length_append,List.length_nil] at hf;obtain ⟨f,rfl⟩:∃ g,f=g+1:=⟨f - 1,by w!⟩;simp only[bt,List.cons_append,List.append_assoc,Vaamoa.read];rw[n! ag!,n! ag!,n! (by dk!),n! (by dk!),n! (by dk!),n! (by dk!),n! (by dk!),n! (by dk!),if_pos trivial,ih1 f _ _ g2 L1 (by w!)];simp only[Option.bind_some,List.nil_append,gw,aj,nodesOf,List.length_cons,List.length_append];congr 2;w!
 | call2 l u a b ih1 ih2 =>
  intro f n r g lb hf;o!⟨rfl,L1,L2⟩:=lb;o!⟨g1,g2,g3⟩:=g;simp only[bt,List.length_cons,List.length_append,List.length_nil] at hf;obtain ⟨f,rfl⟩:∃ g,f=g+1:=⟨f - 1,by w!⟩;simp only[bt,List.cons_append,List.append_assoc,Vaamoa.read];rw[n! ag!,n! ag!,n! (by dk!),n! (by dk!),n! (by dk!),n! (by dk!),n! (by dk!),n! (by dk!),if_pos trivial,ih1 f _ _ g2 L1 (by w!)];simp only[Option.bind_some];o!⟨t0,r0,e0,n0⟩:=RO b g3;~ec:closing ⟨a,l+1+aj a,bt b++[41]::([]++r)⟩ (.call1 l u a)=none:=by
   rw[e0];unfold closing;simp only[List.cons_append];rw[n! n0]
  rw[ec];simp only;rw[ih2 f _ _ g3 L2 (by w!)];simp only[Option.bind_some,List.cons_append,List.nil_append,gw,aj,nodesOf,List.length_cons,List.length_append];congr 2;w!
 | tick l k e ih1 =>
  intro f n r g lb hf;o!⟨rfl,L1⟩:=lb;o!⟨g1,g2⟩:=g;simp only[bt,List.length_cons,List.length_append,List.length_nil] at hf;obtain ⟨f,rfl⟩:∃ g,f=g+1:=⟨f - 1,by w!⟩;simp only[bt,List.cons_append,List.append_assoc,Vaamoa.read];rw[n! ag!,n! ag!,n! (by dk!),n! (by dk!),n! (by dk!),n! (by dk!),n! (by dk!),n! (by dk!),n! (by dk!),if_pos trivial,Fv g1];simp only[Option.bind_some];rw[ih1 f _ _ g2 L1 (by w!)];simp only[Option.bind_some,List.nil_append,gw,aj,nodesOf,List.length_cons,List.length_append];congr 2;w!
 | share l x y z e ih1 =>
  intro f n r g lb hf;o!⟨rfl,L1⟩:=lb;o!⟨g1,g2,g3,g4⟩:=g;simp only[bt,List.length_cons,List.length_append,List.length_nil] at hf;obtain ⟨f,rfl⟩:∃ g,f=g+1:=⟨f - 1,by w!⟩;simp only[bt,List.cons_append,List.append_assoc,Vaamoa.read];rw[n! ag!,n! ag!,n! (by dk!),n! (by dk!),n! (by dk!),n! (by dk!),n! (by dk!),n! (by dk!),n! (by dk!),n! (by dk!),if_pos trivial,ih1 f _ _ g4 L1 (by w!)];simp only[Option.bind_some,List.nil_append,gw,aj,nodesOf,List.length_cons,List.length_append];congr 2;w!
end Pay
namespace Pay
open Vaamoa
def NK(ps:List Param):List Text:=ps.flatMap λq=>[[40],kindText q.kind,q.name,[41]]
def NL(f:Fun):List Text:=[40]::ascii "fun"::f.name::[40]::(NK f.params++([41]::kindText f.result::(bt f.body++[[41]])))
def Fx(p:Prog):List Text:=p.flatMap NL
t! QI(k:Kind):kindText k≠[]:=by cases k<;>dk!
t! D2{q:Param}{r:Text}(h:isName q.name=true):tokensOf [] (paramText q++r)=[40]::kindText q.kind::q.name::[41]::tokensOf [] r:=by
 rw[wV,vS,mF (wR _) (QI _) (jt _),su,mF (fq h) (Hl h) (sr _),vT]
t! O5{ps:List Param}{r:Text}(h1:1<=ps.length)(h2:ps.length<=2)(hn:∀ q∈ps,isName q.name=true):tokensOf [] (spaced (ps.map paramText)++r)=NK ps++tokensOf [] r:=by
 match ps,h1,h2,hn with
 | [q],_,_,hn =>
  ~e:spaced ([q].map paramText)++r=paramText q++r:=by simp[spaced,gluedBy]
  rw[e,D2 (hn q ai!)];rfl
 | [q,q2],_,_,hn =>
  ~e:spaced ([q,q2].map paramText)++r=paramText q++(32::fH!):=by simp[spaced,gluedBy]
  rw[e,D2 (hn q ai!),su,D2 (hn q2 ai!)];rfl
 | _::_::_::_,_,h2,_=>simp at h2
t! VZ{f:Fun}{r:Text}(g:A9 f):tokensOf [] (funText f++r)=NL f++tokensOf [] r:=by
 ~a1:ascii "(fun "=40::(ascii "fun"++[32]):=by dk!
 ~a2:ascii " ("=[32,40]:=by dk!
 ~a3:ascii ") "=[41,32]:=by dk!
 rw[wW,a1,a2,a3];simp only[List.cons_append,List.append_assoc,List.nil_append];rw[vS,yV _ (by dk!) (by dk!),Bb g.name,vS,O5 g.least g.most g.AX,vT,su,
  mF (wR _) (QI _) (jt _),su,Y8 _ _ g.body (sr _),vT,Y7]
 simp[NL]
t! NM:∀ {p:Prog},(∀ f∈p,A9 f)->tokensOf [] gs!=Fx p
 | [],_=>rfl
 | f::p,h=>by
  ~e:progText (f::p)=funText f++progText p:=by simp[progText]
  rw[e,VZ (h f ai!),NM λg hg=>h g (by simp[hg])];simp[Fx]
t! V4(r:List Text):paramsOff ([41]::r)=some ([],r):=by
 match r with
 | []=>rfl
 | [_]=>rfl
 | [_,_]=>rfl
 | _::_::_::_=>rfl
t! QJ:∀ (ps:List Param) (r:List Text),paramsOff (NK ps++([41]::r))=some (ps,r)
 | [],r=>V4 r
 | q::ps,r=>by
  show paramsOff ([40]::kindText q.kind::q.name::[41]::(NK ps++([41]::r)))=_;rw[paramsOff,n! ag!,if_pos ⟨rfl,rfl⟩,uL];simp only[Option.bind_some];rw[QJ ps r];rfl
t! C4:∀ (p:Prog) (f n:Nat),(∀ g∈p,A9 g)->J1 n p->p.length+1<=f->funsRead f n (Fx p)=some p
 | [],f,n,_,_,hf=>by
  obtain ⟨f,rfl⟩:∃ g,f=g+1:=⟨f - 1,by simp at hf;w!⟩;rfl
 | g::p,f,n,hg,lb,hf=>by
  obtain ⟨f,rfl⟩:∃ g,f=g+1:=⟨f - 1,by simp at hf;w!⟩;~e:Fx (g::p)=[40]::ascii "fun"::g.name::[40]::(NK g.params++([41]::(kindText g.result::(bt g.body++([41]::Fx p))))):=by simp[Fx,NL]
  ~gg:=hg g ai!;rw[e,funsRead];simp only;rw[if_pos ai!,QJ];simp only[Option.bind_some,uL];rw[Ub g.body _ n _ gg.body lb.1 dl!];simp only[Option.bind_some];rw[if_pos trivial,C4 p f _ (λq hq=>hg q (by simp[hq])) lb.2 (by simp at hf;w!)];rfl
t! Im:∀ (p:Prog),p.length<=(Fx p).length
 | []=>%am _
 | g::p=>by
  have:=Im p;simp only[Fx,List.flatMap_cons,List.length_append,List.length_cons,NL] at *;w!
t! C5(n a b:Nat):List.range' n (a+b)=List.range' n a++List.range' (n+a) b:=by
 rw[List.range'_append_1]
t! KR:∀ (e:Expr) (n:Nat),jS n e↔(nodesOf e).map labelOf=List.range' n (aj e):=by
 intro e;~pos:∀ {l:List Nat} {m n k:Nat},m::l=List.range' n (k+1)↔m=n/\l=List.range' (n+1) k:=by
  intro l m n k;rw[List.range'_succ];simp
 ~two:∀ {a b:List Nat} {n i j:Nat},a.length=i->b.length=j->(a++b=List.range' n (i+j)↔a=List.range' n i/\b=List.range' (n+i) j):=by
  intro a b n i j h1 h2;rw[C5];constructor
  ·intro h;e! List.append_inj h (by simp[h1])
  ·rintro ⟨h,h'⟩;rw[h,h']
 ~len:∀ e:Expr,((nodesOf e).map labelOf).length=aj e:=λe=>by simp[aj]
 ~sz:∀ (x:Expr) (l:List Expr),(x::l).length=l.length+1:=λ_ _=>rfl
 induction e with
 | num l k=>intro n;simp[jS,nodesOf,aj,labelOf]
 | var l x=>intro n;simp[jS,nodesOf,aj,labelOf]
 | nil l=>intro n;simp[jS,nodesOf,aj,labelOf]
 | cons l h t ih1 ih2 =>
  intro n;~e:aj (.cons l h t)=aj h+aj t+1:=by simp[aj,nodesOf]
  rw[e];show _↔l::dM!=_;rw[%bd,pos,two (len h) (len t),←ih1,←ih2];rfl
 | add l h t ih1 ih2 =>
  intro n;~e:aj (.add l h t)=aj h+aj t+1:=by simp[aj,nodesOf]
  rw[e];show _↔l::dM!=_;rw[%bd,pos,two (len h) (len t),←ih1,←ih2];rfl
 | sub l h t ih1 ih2 =>
  intro n;~e:aj (.sub l h t)=aj h+aj t+1:=by simp[aj,nodesOf]
  rw[e];show _↔l::dM!=_;rw[%bd,pos,two (len h) (len t),←ih1,←ih2];rfl
 | ifz l c a b ih0 ih1 ih2 =>
  intro n;~e:aj (.ifz l c a b)=aj c+(aj a+aj b)+1:=by simp[aj,nodesOf]
  rw[e];show _↔l::((nodesOf c++(nodesOf a++nodesOf b)).map labelOf)=_;rw[%bd,%bd,pos,two (len c) (by rw[%aq,len,len]),two (len a) (len b),←ih0,←ih1,←ih2];rfl
 | case l x e h t c ih1 ih2 =>
  intro n;~e':aj (.case l x e h t c)=aj e+aj c+1:=by simp[aj,nodesOf]
  rw[e'];show _↔l::((nodesOf e++nodesOf c).map labelOf)=_;rw[%bd,pos,two (len e) (len c),←ih1,←ih2];rfl
 | letE l x d b ih1 ih2 =>
  intro n;~e':aj (.letE l x d b)=aj d+aj b+1:=by simp[aj,nodesOf]
  rw[e'];show _↔l::((nodesOf d++nodesOf b).map labelOf)=_;rw[%bd,pos,two (len d) (len b),←ih1,←ih2];rfl
 | call1 l g a ih1 =>
  intro n;~e':aj (.call1 l g a)=aj a+1:=by simp[aj,nodesOf]
  rw[e'];show _↔l::((nodesOf a).map labelOf)=_;rw[pos,←ih1];rfl
 | call2 l g a b ih1 ih2 =>
  intro n;~e':aj (.call2 l g a b)=aj a+aj b+1:=by simp[aj,nodesOf]
  rw[e'];show _↔l::((nodesOf a++nodesOf b).map labelOf)=_;rw[%bd,pos,two (len a) (len b),←ih1,←ih2];rfl
 | tick l k e ih1 =>
  intro n;~e':aj (.tick l k e)=aj e+1:=by simp[aj,nodesOf]
  rw[e'];show _↔l::((nodesOf e).map labelOf)=_;rw[pos,←ih1];rfl
 | share l x y z e ih1 =>
  intro n;~e':aj (.share l x y z e)=aj e+1:=by simp[aj,nodesOf]
  rw[e'];show _↔l::((nodesOf e).map labelOf)=_;rw[pos,←ih1];rfl
t! wX:∀ (p:Prog),(labels p).length=fV p
 | []=>rfl
 | f::p=>by
  have:=wX p;simp only[labels,allNodes,List.length_map,fV,List.map_cons,List.sum_cons,List.flatMap_cons,List.length_append] at *;rw[this];rfl
t! sv:∀ (p:Prog) (n:Nat),J1 n p↔labels p=List.range' n (fV p)
 | [],n=>by simp[J1,labels,allNodes,fV]
 | f::p,n=>by
  ~ih:=sv p (n+aj f.body);~e:labels (f::p)=(nodesOf f.body).map labelOf++labels p:=by simp[labels,allNodes]
  ~es:fV (f::p)=aj f.body+fV p:=by simp[fV]
  rw[J1,KR,ih,e,es,C5];constructor
  ·rintro ⟨h,h'⟩;rw[h,h']
  ·intro h;e! List.append_inj h (by simp[aj])
t! BL{p:Prog}{f:Name}{g:Fun}(h:funAt p f=some g):g∈p/\g.name=f:=by
 unfold funAt at h;e! ⟨List.mem_of_find?_eq_some h,by simpa using List.find?_some h⟩
t! O6{env:List Param}{x:Name}{k:Kind}(h:kindIn env x=some k):∃ q∈env,q.name=x:=by
 unfold kindIn at h;o!⟨q,h1,h2⟩:=%ab h;e! ⟨q,List.mem_of_find?_eq_some h1,by simpa using List.find?_some h1⟩
def KS(env:List Param):Prop:=∀ q∈env,isName q.name=true
t! KS.has{env:List Param}(h:KS env){x:Name}{k:Kind}(e:kindIn env x=some k):isName x=true:=by
 o!⟨q,h1,h2⟩:=O6 e;rw[←h2];e! h q h1
t! KS.put{env:List Param}(h:KS env){q:Param}(hq:isName q.name=true):KS (q::env):=λa ha=>by
 rcases %ak ha with e | e
 ·rw[e];e! hq
 ·e! h a e
t! eQ{k:Kind}{o:Option Typed}{u:List Name}(h:needs k o=some u):∃ t,o=some t/\t.kind=k/\t.uses=u:=by
 unfold needs at h;o!⟨t,h1,h2⟩:=%aa h;split at h2
 ·rename_i c
  cases h2;e! ⟨t,h1,c,rfl⟩
 ·cases h2
t! O7{p:Prog}(hp:∀ f∈p,isName f.name=true):∀ (e:Expr) (env:List Param) (t:Typed),KS env->typed p env e=some t->cf e:=by
 intro e
 induction e with
 | num l n =>
  intro env t ok h;unfold typed at h;split at h
  ·rename_i c;e! c
  ·cases h
 | var l x =>
  intro env t ok h;unfold typed at h;o!⟨k,h1,_⟩:=%ab h;e! ok.has h1
 | nil l=>intro env t ok h;trivial
 | cons l a b ih1 ih2 =>
  intro env t ok h;unfold typed at h;o!⟨u,h1,h⟩:=%aa h;o!⟨v,h2,h⟩:=%aa h;o!⟨t1,e1,_⟩:=eQ h1;o!⟨t2,e2,_⟩:=eQ h2;e! ⟨ih1 env t1 ok e1,ih2 env t2 ok e2⟩
 | add l a b ih1 ih2 =>
  intro env t ok h;unfold typed at h;o!⟨u,h1,h⟩:=%aa h;o!⟨v,h2,h⟩:=%aa h;o!⟨t1,e1,_⟩:=eQ h1;o!⟨t2,e2,_⟩:=eQ h2;e! ⟨ih1 env t1 ok e1,ih2 env t2 ok e2⟩
 | sub l a b ih1 ih2 =>
  intro env t ok h;unfold typed at h;o!⟨u,h1,h⟩:=%aa h;o!⟨v,h2,h⟩:=%aa h;o!⟨t1,e1,_⟩:=eQ h1;o!⟨t2,e2,_⟩:=eQ h2;e! ⟨ih1 env t1 ok e1,ih2 env t2 ok e2⟩
 | ifz l c a b ih0 ih1 ih2 =>
  intro env t ok h;unfold typed at h;o!⟨u,h0,h⟩:=%aa h;o!⟨s,h1,h⟩:=%aa h;o!⟨v,h2,h⟩:=%aa h;o!⟨t0,e0,_⟩:=eQ h0;o!⟨t2,e2,_⟩:=eQ h2;e! ⟨ih0 env t0 ok e0,ih1 env s ok h1,ih2 env t2 ok e2⟩
 | case l x e h' t' c ih1 ih2 =>
  intro env t ok h;unfold typed at h;split at h
  ·cases h
  ·rename_i cc
   ~c1:kindIn env x=some .list:=%bo λz=>cc (.inl z)
   ~c2:isName h'=true:=by cases z:isName h' with | true=>rfl | false=>e! absurd (.inr (.inl z)) cc
   ~c3:isName t'=true:=by cases z:isName t' with | true=>rfl | false=>e! absurd (.inr (.inr (.inl z))) cc
   o!⟨s,h1,h⟩:=%aa h;o!⟨v,h2,h⟩:=%aa h;o!⟨t2,e2,_⟩:=eQ h2;e! ⟨ok.has c1,ih1 env s ok h1,c2,c3,ih2 _ t2 ((ok.put (q:=⟨.list,t'⟩) c3).put (q:=⟨.num,h'⟩) c2) e2⟩
 | letE l x d b ih1 ih2 =>
  intro env t ok h;unfold typed at h;split at h
  ·cases h
  ·rename_i cc
   ~c2:isName x=true:=by cases z:isName x with | true=>rfl | false=>e! absurd z cc
   o!⟨s,h1,h⟩:=%aa h;o!⟨r,h2,h⟩:=%aa h;e! ⟨c2,ih1 env s ok h1,ih2 _ r (ok.put (q:=⟨s.kind,x⟩) c2) h2⟩
 | call1 l g a ih1 =>
  intro env t ok h;unfold typed at h;o!⟨u,h1,h⟩:=%aa h;o!⟨m1,m2⟩:=BL h1;split at h
  ·o!⟨v,h2,_⟩:=%ab h;o!⟨t2,e2,_⟩:=eQ h2;e! ⟨by rw[←m2];e! hp u m1,ih1 env t2 ok e2⟩
  ·cases h
 | call2 l g a b ih1 ih2 =>
  intro env t ok h;unfold typed at h;o!⟨u,h1,h⟩:=%aa h;o!⟨m1,m2⟩:=BL h1;split at h
  ·o!⟨v,h2,h⟩:=%aa h;o!⟨v',h3,h⟩:=%aa h;o!⟨t2,e2,_⟩:=eQ h2;o!⟨t3,e3,_⟩:=eQ h3;e! ⟨by rw[←m2];e! hp u m1,ih1 env t2 ok e2,ih2 env t3 ok e3⟩
  ·cases h
 | tick l k e ih1 =>
  intro env t ok h;unfold typed at h;split at h
  ·cases h
  ·rename_i c
   e! ⟨by unfold COST at c;w!,ih1 env t ok h⟩
 | share l x y z e ih1 =>
  intro env t ok h;unfold typed at h;split at h
  ·cases h
  ·rename_i cc
   ~c1:kindIn env x=some .list:=%bo λz=>cc (.inl z)
   ~c2:isName y=true:=by cases q:isName y with | true=>rfl | false=>e! absurd (.inr (.inl q)) cc
   ~c3:isName z=true:=by cases q:isName z with | true=>rfl | false=>e! absurd (.inr (.inr (.inl q))) cc
   o!⟨r,h1,h⟩:=%aa h;e! ⟨ok.has c1,c2,c3,ih1 _ r ((ok.put (q:=⟨.list,z⟩) c3).put (q:=⟨.list,y⟩) c2) h1⟩
def uM(p:Prog)(f:Fun):Bool:=(typed p f.params f.body).any λt=>t.kind == f.result
t! Io{p:Prog}:isProg p=true↔qU p/\p.all (uM p)=true:=by
 unfold isProg isFun uM;simp only[Bool.and_eq_true,decide_eq_true_eq,List.all_eq_true,beq_iff_eq];constructor
 ·rintro ⟨h1,h2,h3,h4,h5,h6⟩;~nm:∀ f∈p,isName f.name=true:=λf hf=>(h6 f hf).1
  r! ⟨⟨h1,h2,h3,?_,?_,λf hf=>?_⟩,λf hf=>(h6 f hf).2.2.2.2.2.2⟩
  ·rw[sv,h4,wX,List.range_eq_range']
  ·rw[←wX];e! h5
  ·o!⟨a1,a2,a3,a4,a5,a6,a7⟩:=h6 f hf;~a4':∀ q∈f.params,isName q.name=true:=a4;r! ⟨a1,a2,a3,a4',a5,a6,?_⟩;cases ht:typed p f.params f.body with
   | none=>rw[ht] at a7;cases a7
   | some t=>e! O7 nm f.body f.params t a4' ht
 ·rintro ⟨g,h⟩;r! ⟨g.least,g.most,g.dist,?_,by rw[wX];e! g.size,λf hf=>?_⟩
  ·~q:=(sv p 0).mp g.VY;rw[q,List.length_range',List.range_eq_range']
  ·~gf:=g.i6 f hf;e! ⟨gf.name,gf.least,gf.most,gf.AX,gf.dist,gf.deep,h f hf⟩
t! O8{t:Text}{p:Prog}:progOf t=some p↔isProg p=true/\progText p=t:=by
 constructor
 ·intro h;unfold progOf at h;o!⟨q,h1,h⟩:=%aa h;split at h
  ·rename_i c
   cases h;rw[%bm] at c;e! ⟨c.1,beq_iff_eq.mp c.2⟩
  ·cases h
 ·rintro ⟨h,rfl⟩;o!⟨g,_⟩:=Io.mp h;unfold progOf;~e:funsRead ((tokensOf [] gs!).length+1) 0 (tokensOf [] gs!)=some p:=by
   rw[NM g.i6];e! C4 p _ 0 g.i6 g.VY (by have:=Im p;w!)
  simp only[e,Option.bind_some];rw[if_pos (by rw[h,beq_self_eq_true];rfl)]
def pO(t:Text):Option Prog:=(C1 t).bind λp=>if p.all (uM p)=true then some p else none
t! RP(t:Text):progOf t=pO t:=by
 ~key:∀ p,progOf t=some p↔pO t=some p:=λp=>by
  rw[O8,Io];unfold pO;rw[Option.bind_eq_some_iff];constructor
  ·rintro ⟨⟨g,h⟩,e⟩;e! ⟨p,vR.mpr ⟨g,e⟩,if_pos h⟩
  ·rintro ⟨q,h1,h2⟩;split at h2
   ·rename_i c
    cases h2;o!⟨g,e⟩:=vR.mp h1;e! ⟨⟨g,c⟩,e⟩
   ·cases h2
 cases e:progOf t with
 | some p=>e! ((key p).mp e).symm
 | none =>
  cases e':pO t with
  | none=>rfl
  | some p=>rw[(key p).mpr e'] at e;cases e
end Pay
namespace Pay
open Vaamoa
structure Ap where
 e:Expr
 env:Env
 back:Bool
structure nI where
 tasks:List Ap
 given:List Value
 acc:Acc
 long:Bool
abbrev dG(e:Expr)(env:Env):Ap:=⟨e,env,false⟩
abbrev KU(e:Expr)(env:Env):Ap:=⟨e,env,true⟩
def two(g:List Value)(k:Value->Value->List Value->nI)(z:nI):nI:=match g with
 | w::v::r=>k v w r
 | _=>z
def one(g:List Value)(k:Value->List Value->nI)(z:nI):nI:=match g with
 | v::r=>k v r
 | _=>z
def mi(rest:List Ap)(g:List Value)(env:Env)(a:Acc):Expr->nI
 | .num _ n=>⟨rest,.num n::g,a,false⟩
 | .var _ x=>⟨rest,lookup env x::g,a,false⟩
 | .nil _=>⟨rest,.list []::g,a,false⟩
 | .cons l h t=>⟨dG h env::dG t env::KU (.cons l h t) env::rest,g,a,false⟩
 | .add l h t=>⟨dG h env::dG t env::KU (.add l h t) env::rest,g,a,false⟩
 | .sub l h t=>⟨dG h env::dG t env::KU (.sub l h t) env::rest,g,a,false⟩
 | .ifz l c x y=>⟨dG c env::KU (.ifz l c x y) env::rest,g,a,false⟩
 | .case _ x n h t c=>(match listIn dw! with
  | []=>⟨dG n env::rest,g,a,false⟩
  | k::r=>⟨dG c (⟨h,.num k⟩::⟨t,.list r⟩::env)::rest,g,a,false⟩)
 | .letE l x d b=>⟨dG d env::KU (.letE l x d b) env::rest,g,a,false⟩
 | .call1 l u x=>⟨dG x env::KU (.call1 l u x) env::rest,g,a,false⟩
 | .call2 l u x y=>⟨dG x env::dG y env::KU (.call2 l u x y) env::rest,g,a,false⟩
 | .tick l k d=>⟨dG d env::rest,g,{a with ticks:=a.ticks++[⟨l,k⟩]},false⟩
 | .share _ x y z d=>⟨dG d (⟨y,lookup env x⟩::⟨z,lookup env x⟩::env)::rest,g,a,false⟩
def fin(p:Prog)(rest:List Ap)(g:List Value)(env:Env)(a:Acc)(z:nI):Expr->nI
 | .cons _ _ _=>two g (λv w r=>if LIST<=(listIn w).length then ⟨rest,r,a,true⟩ else ⟨rest,.list (numIn v::listIn w)::r,a,false⟩) z
 | .add _ _ _=>two g (λv w r=>⟨rest,.num ((numIn v+numIn w) % MOD)::r,a,false⟩) z
 | .sub _ _ _=>two g (λv w r=>⟨rest,.num (numIn v - numIn w)::r,a,false⟩) z
 | .ifz _ _ x y=>one g (λv r=>⟨dG (if numIn v=0 then x else y) env::rest,r,a,false⟩) z
 | .letE _ x _ b=>one g (λv r=>⟨dG b (⟨x,v⟩::env)::rest,r,a,false⟩) z
 | .call1 _ u _=>one g (λv r=>match funAt p u with
  | some f=>⟨dG f.body (bound f [v])::rest,r,{a with calls:=a.calls++[u]},false⟩
  | none=>⟨rest,r,a,true⟩) z
 | .call2 _ u _ _=>two g (λv w r=>match funAt p u with
  | some f=>⟨dG f.body (bound f [v,w])::rest,r,{a with calls:=a.calls++[u]},false⟩
  | none=>⟨rest,r,a,true⟩) z
 | _=>z
def gM(p:Prog)(most:Nat)(s:nI):nI:=match s.tasks with
 | []=>s
 | ⟨e,env,true⟩::rest=>fin p rest s.given env s.acc s e
 | ⟨e,env,false⟩::rest=>if most<=s.acc.steps then ⟨rest,s.given,s.acc,true⟩ else mi rest s.given env {s.acc with steps:=s.acc.steps+1} e
def halted(s:nI):Prop:=s.tasks=[]∨s.long=true
inductive dI (p:Prog) (most:Nat):nI->nI->Prop where
 | refl (s:nI):dI p most s s
 | step {s t:nI}:¬ halted s->dI p most (gM p most s) t->dI p most s t
t! dI.trans{p:Prog}{most:Nat}{a b c:nI}(h:dI p most a b)(k:dI p most b c):dI p most a c:=by
 induction h with
 | refl _=>e! k
 | step n _ ih=>e! .step n (ih k)
t! dI.one{p:Prog}{most:Nat}{a b:nI}(n:¬ halted a)(e:gM p most a=b):dI p most a b:=.step n (by rw[e];e! .refl _)
t! dI.det{p:Prog}{most:Nat}{s a b:nI}(h:dI p most s a)(k:dI p most s b)(ha:halted a)(hb:halted b):a=b:=by
 induction h with
 | refl s =>
  cases k with
  | refl _=>rfl
  | step n _=>e! absurd ha n
 | step n _ ih =>
  cases k with
  | refl _=>e! absurd hb n
  | step _ k=>e! ih k ha
t! ju{t:Ap}{r:List Ap}{g:List Value}{a:Acc}:¬ halted ⟨t::r,g,a,false⟩:=λh=>by
 rcases h with h | h
 ·cases h
 ·cases h
def Reach(p:Prog)(most:Nat)(s:nI)(rest:List Ap)(g:List Value)(a:Acc):Out->Prop
 | .done v b=>dI p most s ⟨rest,v::g,b,false⟩/\a.steps<=b.steps/\b.steps<=most
 | .long b=>(∃ ts gs,dI p most s ⟨ts,gs,b,true⟩)/\a.steps<=b.steps/\b.steps<=most
t! Reach.pre{p:Prog}{most:Nat}{s s':nI}{rest:List Ap}{g:List Value}{a a':Acc}{o:Out}(h:dI p most s s')(k:Reach p most s' rest g a' o)(le:a.steps<=a'.steps):Reach p most s rest g a o:=by
 cases o with
 | done v b=>e! ⟨h.trans k.1,%aj le k.2.1,k.2.2⟩
 | long b =>
  o!⟨⟨ts,gs,q⟩,k1,k2⟩:=k;e! ⟨⟨ts,gs,h.trans q⟩,%aj le k1,k2⟩
t! Reach.bind{p:Prog}{most:Nat}{s:nI}{r1 rest:List Ap}{g1 g:List Value}{a:Acc}{o:Out}{k:Value->Acc->Out}(h:Reach p most s r1 g1 a o)
  (hk:∀ v b,o=.done v b->a.steps<=b.steps->b.steps<=most->Reach p most ⟨r1,v::g1,b,false⟩ rest g b (k v b)):Reach p most s rest g a (andThen o k):=by
 cases o with
 | done v b=>e! Reach.pre h.1 (hk v b rfl h.2.1 h.2.2) h.2.1
 | long b=>e! h
t! Ip{p:Prog}{most:Nat}:∀ (f:Nat) (e:Expr) (env:Env) (a:Acc) (rest:List Ap) (g:List Value),a.steps<=most->most < f+a.steps ->
  Reach p most ⟨dG e env::rest,g,a,false⟩ rest g a (eval p most f env e a)
 | 0,e,env,a,rest,g,h1,h2=>by w!
 | f+1,e,env,a,rest,g,h1,h2=>by
  ~IH:=λe env (a:Acc) rest g h1 h2=>Ip (p:=p) (most:=most) f e env a rest g h1 h2
  rw[eval];by_cases hl:most<=a.steps
  ·rw[if_pos hl];e! ⟨⟨rest,g,dI.one ju (by simp only[gM];rw[if_pos hl])⟩,Nat.le_refl _,h1⟩
  rw[n! hl];~h3:a.steps+1<=most:=by w!
  ~st:dI p most ⟨dG e env::rest,g,a,false⟩ (mi rest g env {a with steps:=a.steps+1} e):=dI.one ju (by simp only[gM];rw[if_neg hl]);~le:a.steps<=({a with steps:=a.steps+1}:Acc).steps:=Nat.le_succ _;r! Reach.pre st ?_ le;~fu:most < f+({a with steps:=a.steps+1}:Acc).steps:=by show most < f+(a.steps+1);w!
  ~h1':({a with steps:=a.steps+1}:Acc).steps<=most:=h3;generalize ({a with steps:=a.steps+1}:Acc)=a1 at *;cases e with
  | num l n=>e! ⟨.refl _,%am _,h1'⟩
  | var l x=>e! ⟨.refl _,%am _,h1'⟩
  | nil l=>e! ⟨.refl _,%am _,h1'⟩
  | cons l h t =>
   r! Reach.bind fB! λv b _ b1 b2=>?_
   r! Reach.bind eW! λw c _ c1 c2=>?_
   by_cases hc:LIST<=(listIn w).length
   ·rw[if_pos hc];e! ⟨⟨_,_,dI.one ju (by simp only[gM,fin,two];rw[if_pos hc])⟩,Nat.le_refl _,c2⟩
   ·rw[n! hc];e! ⟨dI.one ju (by simp only[gM,fin,two];rw[if_neg hc]),Nat.le_refl _,c2⟩
  | add l h t =>
   r! Reach.bind fB! λv b _ b1 b2=>?_
   r! Reach.bind eW! λw c _ c1 c2=>?_
   e! ⟨dI.one ju rfl,%am _,c2⟩
  | sub l h t =>
   r! Reach.bind fB! λv b _ b1 b2=>?_
   r! Reach.bind eW! λw c _ c1 c2=>?_
   e! ⟨dI.one ju rfl,%am _,c2⟩
  | ifz l c x y =>
   r! Reach.bind (IH c env a1 _ _ h1' fu) λv b _ b1 b2=>?_
   e! Reach.pre (dI.one ju rfl) (IH _ env b _ _ b2 (by w!)) (%am _)
  | case l x n h t c =>
   simp only[mi];cases z:listIn dw! with
   | nil=>e! IH n env a1 _ _ h1' fu
   | cons k r=>e! IH c _ a1 _ _ h1' fu
  | letE l x d b =>
   r! Reach.bind (IH d env a1 _ _ h1' fu) λv c _ c1 c2=>?_
   e! Reach.pre (dI.one ju rfl) (IH b _ c _ _ c2 (by w!)) (%am _)
  | call1 l u x =>
   r! Reach.bind (IH x env a1 _ _ h1' fu) λv b _ b1 b2=>?_
   cases z:funAt p u with
   | none=>e! ⟨⟨rest,g,dI.one ju (by simp only[gM,fin,one,z])⟩,Nat.le_refl _,b2⟩
   | some w=>e! Reach.pre (a':={b with calls:=b.calls++[u]}) (dI.one ju (by simp only[gM,fin,one,z])) (IH w.body _ {b with calls:=b.calls++[u]} _ _ b2 (by show most < f+b.steps;w!)) gn!
  | call2 l u x y =>
   r! Reach.bind (IH x env a1 _ _ h1' fu) λv b _ b1 b2=>?_
   r! Reach.bind (IH y env b _ _ b2 (by w!)) λw c _ c1 c2=>?_
   cases z:funAt p u with
   | none=>e! ⟨⟨rest,g,dI.one ju (by simp only[gM,fin,two,z])⟩,Nat.le_refl _,c2⟩
   | some q=>e! Reach.pre (a':={c with calls:=c.calls++[u]}) (dI.one ju (by simp only[gM,fin,two,z])) (IH q.body _ {c with calls:=c.calls++[u]} _ _ c2 (by show most < f+c.steps;w!)) gn!
  | tick l k d =>
   e! IH d env {a1 with ticks:=a1.ticks++[⟨l,k⟩]} rest g h1' fu
  | share l x y z d =>
   e! IH d _ a1 rest g h1' fu
def startM(g:Fun)(vs:List Value):nI:=⟨[dG g.body (bound g vs)],[],nothing,false⟩
t! Ml{p:Prog}{most:Nat}{g:Fun}{vs:List Value}{s:nI}(h:dI p most (startM g vs) s)(hs:halted s) :
  (s.long=false/\∃ v,s.given=[v]/\runWith p most g vs=.done v s.acc)∨(s.long=true/\runWith p most g vs=.long s.acc):=by
 ~R:=Ip (p:=p) (most:=most) (most+1) g.body (bound g vs) nothing [] [] (%aE _) (by show most < most+1+0;w!);unfold runWith;cases e:eval p most (most+1) (bound g vs) g.body nothing with
 | done v b =>
  rw[e] at R;cases dI.det h R.1 hs aU!;e! .inl ⟨rfl,v,rfl,rfl⟩
 | long b =>
  rw[e] at R;o!⟨⟨ts,gs,q⟩,_⟩:=R;cases dI.det h q hs dH!;e! .inr ⟨rfl,rfl⟩
def cP:Value->Kind
 | .num _=>.num
 | .list _=>.list
def Iq:Value->Prop
 | .num n=>n<=99
 | .list l=>l.length<=40/\∀ n∈l,n<=99
def ja(env:Env):List Param:=env.map λb=>⟨cP b.value,b.name⟩
t! O9(env:Env)(x:Name):kindIn (ja env) x=(env.find? λb=>b.name == x).map λb=>cP b.value:=by
 induction env with
 | nil=>rfl
 | cons b r ih =>
  unfold kindIn ja at *;rw[%aM,%by,%by];cases e:b.name == x with
  | true=>rfl
  | false=>e! ih
t! pP{env:Env}{x:Name}{k:Kind}(h:kindIn (ja env) x=some k):∃ b,(env.find? λb=>b.name == x)=some b/\lookup env x=b.value/\cP b.value=k:=by
 rw[O9] at h;o!⟨b,h1,h2⟩:=%ab h;e! ⟨b,h1,by unfold lookup;rw[h1];rfl,h2⟩
t! mj{v:Value}(h:cP v=.num):∃ n,v=.num n:=by
 cases v with
 | num n=>e! ⟨n,rfl⟩
 | list l=>cases h
t! wY{v:Value}(h:cP v=.list):∃ l,v=.list l:=by
 cases v with
 | num n=>cases h
 | list l=>e! ⟨l,rfl⟩
inductive Fits (p:Prog) (r:Kind):List Ap->List Kind->Prop where
 | nil:Fits p r [] [r]
 | dG {e:Expr} {env:Env} {t:Typed} {rest:List Ap} {gs:List Kind}:typed p (ja env) e=some t->Fits p r rest (t.kind::gs)->Fits p r (dG e env::rest) gs
 | cons {l:Nat} {a b:Expr} {env:Env} {rest:List Ap} {gs:List Kind}:Fits p r rest (.list::gs)->Fits p r (KU (.cons l a b) env::rest) (.list::.num::gs)
 | add {l:Nat} {a b:Expr} {env:Env} {rest:List Ap} {gs:List Kind}:Fits p r rest (.num::gs)->Fits p r (KU (.add l a b) env::rest) (.num::.num::gs)
 | sub {l:Nat} {a b:Expr} {env:Env} {rest:List Ap} {gs:List Kind}:Fits p r rest (.num::gs)->Fits p r (KU (.sub l a b) env::rest) (.num::.num::gs)
 | ifz {l:Nat} {c x y:Expr} {env:Env} {s s':Typed} {rest:List Ap} {gs:List Kind}:typed p (ja env) x=some s->typed p (ja env) y=some s'->s'.kind=s.kind->Fits p r rest (s.kind::gs) ->
   Fits p r (KU (.ifz l c x y) env::rest) (.num::gs)
 | letE {l:Nat} {x:Name} {d b:Expr} {env:Env} {k:Kind} {t:Typed} {rest:List Ap} {gs:List Kind}:typed p (⟨k,x⟩::ja env) b=some t->Fits p r rest (t.kind::gs)->Fits p r (KU (.letE l x d b) env::rest) (k::gs)
 | call1 {l:Nat} {u:Name} {a:Expr} {env:Env} {f:Fun} {q:Param} {rest:List Ap} {gs:List Kind}:funAt p u=some f->f.params=[q]->Fits p r rest (f.result::gs)->Fits p r (KU (.call1 l u a) env::rest) (q.kind::gs)
 | call2 {l:Nat} {u:Name} {a b:Expr} {env:Env} {f:Fun} {q q':Param} {rest:List Ap} {gs:List Kind}:funAt p u=some f->f.params=[q,q']->Fits p r rest (f.result::gs)->Fits p r (KU (.call2 l u a b) env::rest) (q'.kind::q.kind::gs)
structure WT (p:Prog) (most:Nat) (r:Kind) (s:nI):Prop where
 fits:Fits p r s.tasks (s.given.map cP)
 vals:∀ v∈s.given,Iq v
 envs:∀ t∈s.tasks,∀ b∈t.env,Iq b.value
 steps:s.acc.steps<=most
t! Mm{env:Env}{x:Name}(h:∀ b∈env,Iq b.value){k:Kind}(e:kindIn (ja env) x=some k):Iq dw!:=by
 o!⟨b,h1,h2,_⟩:=pP e;rw[h2];e! h b (%bC h1)
t! eR{k:Kind}{o:Option Typed}{u:List Name}(h:needs k o=some u):∃ t,o=some t/\t.kind=k:=by
 unfold needs at h;o!⟨t,h1,h2⟩:=%aa h;split at h2
 ·rename_i c
  e! ⟨t,h1,c⟩
 ·cases h2
def Ir(p:Prog):Prop:=∀ f∈p,∃ t,typed p f.params f.body=some t/\t.kind=f.result
t! KW{f:Fun}{q:Param}{v:Value}(h:f.params=[q])(hv:cP v=q.kind):ja (bound f [v])=f.params:=by
 unfold ja bound;rw[h];simp[hv]
t! KY{f:Fun}{q q':Param}{v w:Value}(h:f.params=[q,q'])(hv:cP v=q.kind)(hw:cP w=q'.kind):ja (bound f [v,w])=f.params:=by
 unfold ja bound;rw[h];simp[hv,hw]
t! Iu{f:Fun}{vs:List Value}(h:∀ v∈vs,Iq v):∀ b∈bound f vs,Iq b.value:=by
 intro b hb;unfold bound at hb;o!⟨z,hz,rfl⟩:=%bH hb;e! h _ (List.of_mem_zip hz).2
t! map_two{g:List Value}{a b:Kind}{gs:List Kind}(h:g.map cP=a::b::gs):∃ w v r,g=w::v::r/\cP w=a/\cP v=b/\r.map cP=gs:=by
 match g,h with
 | w::v::r,h=>cases h;e! ⟨w,v,r,rfl,rfl,rfl,rfl⟩
t! map_one{g:List Value}{a:Kind}{gs:List Kind}(h:g.map cP=a::gs):∃ v r,g=v::r/\cP v=a/\r.map cP=gs:=by
 match g,h with
 | v::r,h=>cases h;e! ⟨v,r,rfl,rfl,rfl⟩
t! D3{p:Prog}{u:Name}{f:Fun}(h:funAt p u=some f):f∈p:=by
 unfold funAt at h;e! %bC h
t! V5{p:Prog}{most:Nat}{r:Kind}(kp:Ir p){s:nI}(w:WT p most r s)(h:¬ halted s):(gM p most s).long=true∨WT p most r (gM p most s):=by
 o!⟨tasks,g,a,lg⟩:=s;cases tasks with
 | nil=>e! absurd aU! h
 | cons t rest =>
  o!⟨F,V,E,S⟩:=w;dsimp only at F V E S;~Er:∀ t∈rest,∀ b∈t.env,Iq b.value:=λt ht=>E t (%af _ ht)
  ~Et:=E t %an;~er:∀ {t':Ap} {ts:List Ap},(∀ b∈t'.env,Iq b.value)->(∀ t∈ts,∀ b∈t.env,Iq b.value)->∀ t∈t'::ts,∀ b∈t.env,Iq b.value:=λh1 h2 t ht=>by
   rcases %ak ht with e | e
   ·rw[e];e! h1
   ·e! h2 t e
  ~vr:∀ {v:Value} {vs:List Value},Iq v->(∀ v∈vs,Iq v)->∀ x∈v::vs,Iq x:=λh1 h2 x hx=>by
   rcases %ak hx with e | e
   ·rw[e];e! h1
   ·e! h2 x e
  generalize hg:g.map cP=gk at F;cases F with
  | @dG e env t _ _ ht F =>
   show (if most<=a.steps then _ else _:nI).long=true∨WT p most r ef!;by_cases hl:most<=a.steps
   ·rw[if_pos hl];e! .inl rfl
   rw[n! hl];right;~S':({a with steps:=a.steps+1}:Acc).steps<=most:=by show a.steps+1<=most;w!
   generalize ({a with steps:=a.steps+1}:Acc)=a1 at *;~Et:∀ b∈env,Iq b.value:=Et;subst hg;cases e with
   | num l n =>
    unfold typed at ht;split at ht
    ·rename_i c
     cases ht;e! ⟨F,vr c V,Er,S'⟩
    ·cases ht
   | var l x =>
    unfold typed at ht;o!⟨k,h1,h2⟩:=%ab ht;subst h2;o!⟨b,_,h3,h4⟩:=pP h1;r! ⟨?_,vr (Mm Et h1) V,Er,S'⟩;show Fits p r rest (cP dw!::_);rw[h3,h4];e! F
   | nil l =>
    cases ht;e! ⟨F,vr ⟨by simp,λn hn=>by cases hn⟩ V,Er,S'⟩
   | cons l x y =>
    unfold typed at ht;o!⟨u,h1,ht⟩:=%aa ht;o!⟨v,h2,ht⟩:=%aa ht;o!⟨z,h3,h4⟩:=%ab ht;o!⟨t1,e1,k1⟩:=eR h1;o!⟨t2,e2,k2⟩:=eR h2;subst h4;r! ⟨.dG e1 (.dG e2 ?_),V,er Et fb!,S'⟩;rw[k1,k2];e! .cons F
   | add l x y =>
    unfold typed at ht;o!⟨u,h1,ht⟩:=%aa ht;o!⟨v,h2,ht⟩:=%aa ht;o!⟨z,h3,h4⟩:=%ab ht;o!⟨t1,e1,k1⟩:=eR h1;o!⟨t2,e2,k2⟩:=eR h2;subst h4;r! ⟨.dG e1 (.dG e2 ?_),V,er Et fb!,S'⟩;rw[k1,k2];e! .add F
   | sub l x y =>
    unfold typed at ht;o!⟨u,h1,ht⟩:=%aa ht;o!⟨v,h2,ht⟩:=%aa ht;o!⟨z,h3,h4⟩:=%ab ht;o!⟨t1,e1,k1⟩:=eR h1;o!⟨t2,e2,k2⟩:=eR h2;subst h4;r! ⟨.dG e1 (.dG e2 ?_),V,er Et fb!,S'⟩;rw[k1,k2];e! .sub F
   | ifz l c x y =>
    unfold typed at ht;o!⟨u,h1,ht⟩:=%aa ht;o!⟨s,h2,ht⟩:=%aa ht;o!⟨v,h3,ht⟩:=%aa ht;o!⟨z,_,h4⟩:=%ab ht;o!⟨t1,e1,k1⟩:=eR h1;o!⟨t3,e3,k3⟩:=eR h3;subst h4;r! ⟨.dG e1 ?_,V,er Et (er Et Er),S'⟩;rw[k1];e! .ifz h2 e3 k3 F
   | case l x n h' t' c =>
    unfold typed at ht;split at ht
    ·cases ht
    ·rename_i cc
     ~c1:kindIn (ja env) x=some .list:=%bo λz=>cc (.inl z)
     o!⟨s,h2,ht⟩:=%aa ht;o!⟨v,h3,ht⟩:=%aa ht;o!⟨z,_,h4⟩:=%ab ht;o!⟨t3,e3,k3⟩:=eR h3;subst h4;o!⟨b,_,b1,b2⟩:=pP c1;o!⟨ls,b3⟩:=wY b2;~ok:=Mm Et c1;rw[b1,b3] at ok;simp only[mi];rw[b1,b3];cases ls with
     | nil=>e! ⟨.dG h2 F,V,er Et Er,S'⟩
     | cons k m =>
      r! ⟨.dG (t:=t3) e3 (by rw[k3];e! F),V,er (λb hb=>?_) Er,S'⟩;~o1:=ok.1;~o2:=ok.2;simp only[List.length_cons] at o1;rcases %ak hb with e | hb
      ·rw[e];e! o2 k %an
      ·rcases %ak hb with e | hb
       ·rw[e];e! ⟨by w!,λn hn=>o2 n (%af _ hn)⟩
       ·e! Et b hb
   | letE l x d b =>
    unfold typed at ht;split at ht
    ·cases ht
    ·o!⟨s,h2,ht⟩:=%aa ht;o!⟨v,h3,ht⟩:=%aa ht;o!⟨z,_,h4⟩:=%ab ht;subst h4;e! ⟨.dG h2 (.letE h3 F),V,er Et (er Et Er),S'⟩
   | call1 l u x =>
    unfold typed at ht;o!⟨f,h1,ht⟩:=%aa ht;split at ht
    ·rename_i q hq
     o!⟨z,h2,h4⟩:=%ab ht;o!⟨t1,e1,k1⟩:=eR h2;subst h4;r! ⟨.dG e1 ?_,V,er Et (er Et Er),S'⟩;rw[k1];e! .call1 h1 hq F
    ·cases ht
   | call2 l u x y =>
    unfold typed at ht;o!⟨f,h1,ht⟩:=%aa ht;split at ht
    ·rename_i q q' hq
     o!⟨v1,h2,ht⟩:=%aa ht;o!⟨v2,h3,ht⟩:=%aa ht;o!⟨z,_,h4⟩:=%ab ht;o!⟨t1,e1,k1⟩:=eR h2;o!⟨t2,e2,k2⟩:=eR h3;subst h4;r! ⟨.dG e1 (.dG e2 ?_),V,er Et fb!,S'⟩;rw[k1,k2];e! .call2 h1 hq F
    ·cases ht
   | tick l k d =>
    unfold typed at ht;split at ht
    ·cases ht
    ·e! ⟨.dG ht F,V,er Et Er,S'⟩
   | share l x y z d =>
    unfold typed at ht;split at ht
    ·cases ht
    ·rename_i cc
     ~c1:kindIn (ja env) x=some .list:=%bo λz=>cc (.inl z)
     o!⟨s,h2,ht⟩:=%aa ht;o!⟨z',_,h4⟩:=%ab ht;subst h4;o!⟨b,_,b1,b2⟩:=pP c1;~ok:=Mm Et c1;r! ⟨.dG (t:=s) ?_ F,V,er (λb' hb=>?_) Er,S'⟩
     ·show typed p (⟨cP dw!,y⟩::⟨cP dw!,z⟩::ja env) d=some s;rw[b1,b2];e! h2
     ·rcases %ak hb with e | hb
      ·rw[e];e! ok
      ·rcases %ak hb with e | hb
       ·rw[e];e! ok
       ·e! Et b' hb
  | @cons l x y env _ gs F =>
   o!⟨w,v,m,rfl,k1,k2,k3⟩:=map_two hg;o!⟨ls,rfl⟩:=wY k1;o!⟨n,rfl⟩:=mj k2;subst k3;show (if LIST<=ls.length then _ else _:nI).long=true∨WT p most r (if LIST<=ls.length then _ else _);by_cases hl:LIST<=ls.length
   ·rw[if_pos hl];e! .inl rfl
   ·rw[n! hl];right;~o1:=V _ %an;~o2:=V _ (%af _ %an);unfold LIST at hl;r! ⟨F,vr ⟨?_,λx hx=>?_⟩ λq hq=>V q fh!,Er,S⟩
    ·show (n::ls).length<=40;simp only[List.length_cons];w!
    ·rcases %ak (show x∈n::ls from hx) with e | e
     ·rw[e];e! o2
     ·e! o1.2 x e
  | @add l x y env _ gs F =>
   o!⟨w,v,m,rfl,k1,k2,k3⟩:=map_two hg;subst k3;right;r! ⟨F,vr ?_ λq hq=>V q fh!,Er,S⟩;show (numIn v+numIn w) % MOD<=99;unfold MOD;w!
  | @sub l x y env _ gs F =>
   o!⟨w,v,m,rfl,k1,k2,k3⟩:=map_two hg;o!⟨n,rfl⟩:=mj k2;subst k3;right;r! ⟨F,vr ?_ λq hq=>V q fh!,Er,S⟩;~o2:n<=99:=V _ (%af _ %an);show n - numIn w<=99;w!
  | @ifz l c x y env s s' _ gs h1 h2 h3 F =>
   o!⟨v,m,rfl,k1,k3⟩:=map_one hg;subst k3;right;r! ⟨?_,λq hq=>V q (%af _ hq),er Et Er,S⟩;show Fits p r (dG (if numIn v=0 then x else y) env::rest) _;split
   ·e! .dG h1 F
   ·e! .dG h2 (by rw[h3];e! F)
  | @letE l x d b env k t _ gs h1 F =>
   o!⟨v,m,rfl,k1,k3⟩:=map_one hg;subst k1 k3;right;r! ⟨.dG h1 F,λq hq=>V q (%af _ hq),er (λb hb=>?_) Er,S⟩;rcases %ak hb with e | hb
   ·rw[e];e! V v %an
   ·e! Et b hb
  | @call1 l u x env f q _ gs h1 h2 F =>
   o!⟨v,m,rfl,k1,k3⟩:=map_one hg;subst k3;right;o!⟨t,ht,hk⟩:=kp f (D3 h1);simp only[gM,fin,one,h1];r! ⟨.dG (t:=t) (by rw[KW h2 k1];e! ht) (by rw[hk];e! F),λq hq=>V q (%af _ hq),er (Iu λx hx=>?_) Er,S⟩;cases %aN hx;e! V v %an
  | @call2 l u x y env f q q' _ gs h1 h2 F =>
   o!⟨w,v,m,rfl,k1,k2,k3⟩:=map_two hg;subst k3;right;o!⟨t,ht,hk⟩:=kp f (D3 h1);simp only[gM,fin,two,h1];r! ⟨.dG (t:=t) (by rw[KY h2 k2 k1];e! ht) (by rw[hk];e! F),λq hq=>V q fh!,er (Iu λx hx=>?_) Er,S⟩;rcases %ak hx with e | hx
   ·rw[e];e! V v (%af _ %an)
   ·cases %aN hx;e! V w %an
def weight(t:Ap):Nat:=if t.back=true then 2 else 1
def AY(most:Nat)(s:nI):Nat:=4 * (most - s.acc.steps)+(s.tasks.map weight).sum+(if s.long=true then 0 else 1)
t! RQ{p:Prog}{most:Nat}{r:Kind}{s:nI}(w:WT p most r s)(h:¬ halted s):AY most (gM p most s) < AY most s:=by
 o!⟨tasks,g,a,lg⟩:=s;~hlg:lg=false:=by
  cases lg with
  | false=>rfl
  | true=>e! absurd dH! h
 subst hlg;cases tasks with
 | nil=>e! absurd aU! h
 | cons t rest =>
  o!⟨F,V,E,S⟩:=w;dsimp only at F V E S;generalize hg:g.map cP=gk at F;~fl:(if (false:Bool)=true then 0 else 1)=1:=rfl;~tr:(if (true:Bool)=true then 0 else 1)=0:=rfl;~w1:∀ e env,weight (dG e env)=1:=λ_ _=>rfl
  ~w2:∀ e env,weight (KU e env)=2:=λ_ _=>rfl
  cases F with
  | @dG e env t _ _ ht F =>
   show AY most ef! < _;by_cases hl:most<=a.steps
   ·rw[if_pos hl];simp only[AY,List.map_cons,List.sum_cons,w1,Bool.false_eq_true,if_false,if_true];w!
   ·rw[n! hl];cases e<;>first
     | (simp only[mi,AY,List.map_cons,List.sum_cons,w1,w2,Bool.false_eq_true,if_false,if_true];w!)
     | skip
    simp only[mi];split<;>(simp only[AY,List.map_cons,List.sum_cons,w1,w2,Bool.false_eq_true,if_false,if_true];w!)
  | @cons l x y env _ gs F =>
   o!⟨w,v,m,rfl,k1,k2,k3⟩:=map_two hg;show AY most (if LIST<=(listIn w).length then _ else _) < _;split<;>(simp only[AY,List.map_cons,List.sum_cons,w1,w2,Bool.false_eq_true,if_false,if_true];w!)
  | @add l x y env _ gs F =>
   o!⟨w,v,m,rfl,k1,k2,k3⟩:=map_two hg;simp only[gM,fin,two,AY,List.map_cons,List.sum_cons,w1,w2,Bool.false_eq_true,if_false,if_true];w!
  | @sub l x y env _ gs F =>
   o!⟨w,v,m,rfl,k1,k2,k3⟩:=map_two hg;simp only[gM,fin,two,AY,List.map_cons,List.sum_cons,w1,w2,Bool.false_eq_true,if_false,if_true];w!
  | @ifz l c x y env s s' _ gs h1 h2 h3 F =>
   o!⟨v,m,rfl,k1,k3⟩:=map_one hg;simp only[gM,fin,one,AY,List.map_cons,List.sum_cons,w1,w2,Bool.false_eq_true,if_false,if_true];w!
  | @letE l x d b env k t _ gs h1 F =>
   o!⟨v,m,rfl,k1,k3⟩:=map_one hg;simp only[gM,fin,one,AY,List.map_cons,List.sum_cons,w1,w2,Bool.false_eq_true,if_false,if_true];w!
  | @call1 l u x env f q _ gs h1 h2 F =>
   o!⟨v,m,rfl,k1,k3⟩:=map_one hg;simp only[gM,fin,one,h1,AY,List.map_cons,List.sum_cons,w1,w2,Bool.false_eq_true,if_false,if_true];w!
  | @call2 l u x y env f q q' _ gs h1 h2 F =>
   o!⟨w,v,m,rfl,k1,k2,k3⟩:=map_two hg;simp only[gM,fin,two,h1,AY,List.map_cons,List.sum_cons,w1,w2,Bool.false_eq_true,if_false,if_true];w!
t! Uc{p:Prog}{most:Nat}{g:Fun}{vs:List Value}(kp:Ir p)(hg:g∈p)(ty:ja (bound g vs)=g.params)(hv:∀ v∈vs,Iq v):WT p most g.result (startM g vs):=by
 o!⟨t,ht,hk⟩:=kp g hg;r! ⟨.dG (t:=t) (by rw[ty];e! ht) (by rw[hk];e! .nil),λv hv=>(by cases hv),λt ht b hb=>?_,%aE _⟩;cases %aN ht;e! Iu hv b hb
end Pay
namespace Pay
open Vaamoa
structure Sz (n:Nat) (s:nI):Prop where
 tk:s.tasks.length<=1+2 * n
 gv:s.given.length<=n
 ev:∀ t∈s.tasks,t.env.length<=2+2 * n
 ti:s.acc.ticks.length<=n
 ca:s.acc.calls.length<=n
t! D4(f:Fun)(vs:List Value):(bound f vs).length<=vs.length:=by
 unfold bound;simp;w!
t! V6{p:Prog}{most n:Nat}{s:nI}(h:Sz n s):Sz (n+1) (gM p most s):=by
 o!⟨tasks,g,a,lg⟩:=s;o!⟨h1,h2,h3,h4,h5⟩:=h;dsimp only at h1 h2 h3 h4 h5;~E3:∀ {ts:List Ap},(∀ t∈ts,t.env.length<=2+2 * n)->∀ t∈ts,t.env.length<=2+2 * (n+1):=λh t ht=>%aj (h t ht) (by w!)
 ~E4:∀ {t:Ap} {ts:List Ap},t.env.length<=2+2 * (n+1)->(∀ t∈ts,t.env.length<=2+2 * (n+1))->∀ t'∈t::ts,t'.env.length<=2+2 * (n+1):=λh k t' ht=>by
  rcases %ak ht with rfl | ht
  ·e! h
  ·e! k t' ht
 ~B1:∀ (f:Fun) (v:Value),(bound f [v]).length<=2+2 * (n+1):=λf v=>Nat.le_trans (D4 f [v]) dl!
 ~B2:∀ (f:Fun) (v w:Value),(bound f [v,w]).length<=2+2 * (n+1):=λf v w=>Nat.le_trans (D4 f [v,w]) ai!
 cases tasks with
 | nil=>e! ⟨by simp[gM],by show g.length<=n+1;w!,λt ht=>(by cases ht),by show a.ticks.length<=n+1;w!,by show a.calls.length<=n+1;w!⟩
 | cons t rest =>
  o!⟨e,env,bk⟩:=t;~hr:∀ t∈rest,t.env.length<=2+2 * (n+1):=E3 λt ht=>h3 t (%af _ ht)
  ~he:env.length<=2+2 * n:=h3 _ %an;~he':env.length<=2+2 * (n+1):=by w!
  simp only[List.length_cons] at h1;cases bk with
  | true =>
   show Sz (n+1) (fin p rest g env a ⟨⟨e,env,true⟩::rest,g,a,lg⟩ e);~Z:Sz (n+1) ⟨⟨e,env,true⟩::rest,g,a,lg⟩:=⟨by show rest.length+1<=_;w!,by show g.length<=n+1;w!,E4 he' hr,by show a.ticks.length<=n+1;w!,by show a.calls.length<=n+1;w!⟩;~two':∀ {k:Value->Value->List Value->nI},(∀ v w r,r.length+2<=n->Sz (n+1) (k v w r))->Sz (n+1) (two g k ⟨⟨e,env,true⟩::rest,g,a,lg⟩):=λhk=>by
    match g,h2,Z with
    | [],_,Z=>e! Z
    | [_],_,Z=>e! Z
    | w::v::r,h2,_=>e! hk v w r dZ!
   ~one':∀ {k:Value->List Value->nI},(∀ v r,r.length+1<=n->Sz (n+1) (k v r))->Sz (n+1) (one g k ⟨⟨e,env,true⟩::rest,g,a,lg⟩):=λhk=>by
    match g,h2,Z with
    | [],_,Z=>e! Z
    | v::r,h2,_=>e! hk v r dZ!
   cases e with
   | cons l x y =>
    r! two' λv w r hr'=>?_
    split
    ·e! ⟨by dsimp only;w!,by dsimp only;w!,hr,by dsimp only;w!,by dsimp only;w!⟩
    ·e! ⟨by dsimp only;w!,by simp;w!,hr,by dsimp only;w!,by dsimp only;w!⟩
   | add l x y=>e! two' λv w r hr'=>⟨by dsimp only;w!,by simp;w!,hr,by dsimp only;w!,by dsimp only;w!⟩
   | sub l x y=>e! two' λv w r hr'=>⟨by dsimp only;w!,by simp;w!,hr,by dsimp only;w!,by dsimp only;w!⟩
   | ifz l c x y=>e! one' λv r hr'=>⟨by simp;w!,by dsimp only;w!,E4 he' hr,by dsimp only;w!,by dsimp only;w!⟩
   | letE l x d b=>e! one' λv r hr'=>⟨by simp;w!,by dsimp only;w!,E4 dl! hr,by dsimp only;w!,by dsimp only;w!⟩
   | call1 l u x =>
    r! one' λv r hr'=>?_
    cases funAt p u with
    | none=>e! ⟨by dsimp only;w!,by dsimp only;w!,hr,by dsimp only;w!,by dsimp only;w!⟩
    | some f=>e! ⟨by simp;w!,by dsimp only;w!,E4 (B1 f v) hr,by dsimp only;w!,by simp;w!⟩
   | call2 l u x y =>
    r! two' λv w r hr'=>?_
    cases funAt p u with
    | none=>e! ⟨by dsimp only;w!,by dsimp only;w!,hr,by dsimp only;w!,by dsimp only;w!⟩
    | some f=>e! ⟨by simp;w!,by dsimp only;w!,E4 (B2 f v w) hr,by dsimp only;w!,by simp;w!⟩
   | num l k=>e! Z
   | var l x=>e! Z
   | nil l=>e! Z
   | case l x c y z w=>e! Z
   | tick l k x=>e! Z
   | share l x y z c=>e! Z
  | false =>
   show Sz (n+1) ef!;split
   ·e! ⟨by dsimp only;w!,by dsimp only;w!,hr,by dsimp only;w!,by dsimp only;w!⟩
   ·cases e with
    | num l k=>e! ⟨by simp only[mi];w!,by simp[mi];w!,hr,by simp only[mi];w!,by simp only[mi];w!⟩
    | var l x=>e! ⟨by simp only[mi];w!,by simp[mi];w!,hr,by simp only[mi];w!,by simp only[mi];w!⟩
    | nil l=>e! ⟨by simp only[mi];w!,by simp[mi];w!,hr,by simp only[mi];w!,by simp only[mi];w!⟩
    | cons l x y=>e! ⟨by simp[mi];w!,by simp only[mi];w!,E4 he' (E4 he' (E4 he' hr)),by simp only[mi];w!,by simp only[mi];w!⟩
    | add l x y=>e! ⟨by simp[mi];w!,by simp only[mi];w!,E4 he' (E4 he' (E4 he' hr)),by simp only[mi];w!,by simp only[mi];w!⟩
    | sub l x y=>e! ⟨by simp[mi];w!,by simp only[mi];w!,E4 he' (E4 he' (E4 he' hr)),by simp only[mi];w!,by simp only[mi];w!⟩
    | ifz l c x y=>e! ⟨by simp[mi];w!,by simp only[mi];w!,E4 he' (E4 he' hr),by simp only[mi];w!,by simp only[mi];w!⟩
    | letE l x d b=>e! ⟨by simp[mi];w!,by simp only[mi];w!,E4 he' (E4 he' hr),by simp only[mi];w!,by simp only[mi];w!⟩
    | call1 l u x=>e! ⟨by simp[mi];w!,by simp only[mi];w!,E4 he' (E4 he' hr),by simp only[mi];w!,by simp only[mi];w!⟩
    | call2 l u x y=>e! ⟨by simp[mi];w!,by simp only[mi];w!,E4 he' (E4 he' (E4 he' hr)),by simp only[mi];w!,by simp only[mi];w!⟩
    | tick l k x=>e! ⟨by simp[mi];w!,by simp only[mi];w!,E4 he' hr,by simp[mi];w!,by simp only[mi];w!⟩
    | share l x y z c=>e! ⟨by simp[mi];w!,by simp only[mi];w!,E4 dl! hr,by simp only[mi];w!,by simp only[mi];w!⟩
    | case l x c y z w =>
     simp only[mi];split
     ·e! ⟨by simp;w!,by dsimp only;w!,E4 he' hr,by dsimp only;w!,by dsimp only;w!⟩
     ·e! ⟨by simp;w!,by dsimp only;w!,E4 dl! hr,by dsimp only;w!,by dsimp only;w!⟩
t! Ud(g:Fun)(vs:List Value)(h:vs.length<=2):Sz 0 (startM g vs):=⟨by simp[startM],by simp[startM],λt ht=>(by
 cases %aN ht;e! Nat.le_trans (D4 g vs) (by w!)),by simp[startM,nothing],by simp[startM,nothing]⟩
end Pay
namespace Pay
open PySem L2
def top(i:Nat):Stmt:=PySem.Challenge.pw_payinglists_s01_answers.main.body.getD i (.Pass ⟨0,0,0,0⟩)
abbrev yW:Stmt:=inClass (top 3) 0
t! Mn:ax be! be! (au yW):=sc!
abbrev nR:Stmt:=inClass (top 4) 0
t! C6:ax cH! cH! (au nR):=sc!
abbrev qp:Stmt:=inClass (top 5) 0
t! D5:ax a3! a3! (au qp):=sc!
abbrev sx:Stmt:=inClass (top 6) 0
t! Gv:ax bk! bk! (au sx):=sc!
abbrev D6:Stmt:=top 7
t! BM:ax ["functions","named","function"] cI! (au D6):=sc!
abbrev yX:Stmt:=inClass (top 10) 0
t! Mo:ax a7! a7! (au yX):=sc!
abbrev BN:Stmt:=inClass (top 11) 0
t! NN:ax bN! bN! (au BN):=sc!
abbrev uN:Stmt:=inClass (top 11) 1
t! Iv:ax aw! aw! (au uN):=sc!
abbrev lK:Stmt:=inClass (top 11) 2
t! AZ:ax aw! aw! (au lK):=sc!
abbrev D7:Stmt:=inClass (top 11) 3
t! Pa:ax ek! ek! (au D7):=sc!
abbrev qt:Stmt:=inClass (top 11) 4
t! D8:ax el! el! (au qt):=sc!
abbrev Iw:Stmt:=top 12
t! K0:ax ["functions","function","values","allowed","run"] bh! (au Iw):=sc!
abbrev BO:Stmt:=top 13
t! ue:ax ["function","values","bound","parameter","value"] cT! (au BO):=sc!
abbrev X4:Stmt:=top 14
t! Y9:ax ey! ey! (au X4):=sc!
abbrev sA:Stmt:=top 15
t! Gw:ax ae! ae! (au sA):=sc!
abbrev wZ:Stmt:=top 16
t! J4:ax ae! ae! (au wZ):=sc!
abbrev yY:Stmt:=top 17
t! Mp:ax ae! ae! (au yY):=sc!
abbrev uO:Stmt:=top 18
t! yZ:ax ["run","node","bound","part"] ae! (au uO):=sc!
abbrev lL:Stmt:=top 19
t! A0:ax ae! ae! (au lL):=sc!
abbrev w6:Stmt:=top 20
t! Bc:ax ["run","node","bound","value"] ae! (au w6):=sc!
abbrev uP:Stmt:=top 21
t! y8:ax ["run","node","bound","value"] ae! (au uP):=sc!
abbrev jT:Stmt:=top 22
t! pQ:ax ["node","first","second","bound","within"] bv! (au jT):=sc!
abbrev w8:Stmt:=top 24
t! J5:ax ae! ae! (au w8):=sc!
abbrev BP:Stmt:=top 25
t! y9:ax ["run","node","bound","rest","number"] ae! (au BP):=sc!
abbrev D9:Stmt:=top 26
t! BQ:ax ["run","node","bound","second","first"] ae! (au D9):=sc!
abbrev Ea:Stmt:=top 27
t! BR:ax ["run","node","bound","second","first"] ae! (au Ea):=sc!
abbrev Iy:Stmt:=top 28
t! RS:ax ae! ae! (au Iy):=sc!
abbrev Eb:Stmt:=top 29
t! Iz:ax ["run","node","bound","within"] ae! (au Eb):=sc!
abbrev BS:Stmt:=top 30
t! za:ax ["run","node","bound","called","values"] ae! (au BS):=sc!
abbrev zb:Stmt:=inClass (top 40) 0
t! Mq:ax aM! aM! (au zb):=sc!
abbrev sC:Stmt:=top 41
t! iE:ax ["functions","named","function","bound","parameter"] cI! (au sC):=sc!
abbrev Ue:Stmt:=top 42
t! X5:ax ac! ac! (au Ue):=sc!
abbrev IA:Stmt:=top 43
t! Lf:ax ["kind","node","bound","named","seen"] aW! (au IA):=sc!
abbrev zc:Stmt:=top 44
t! mG:ax ["wanted","node","bound","named","used","kind","part"] a1! (au zc):=sc!
abbrev Pb:Stmt:=top 45
t! QK:ax ["first","second","name"] aZ! (au Pb):=sc!
abbrev IB:Stmt:=top 46
t! Lg:ax ["first","second","used"] aZ! (au IB):=sc!
abbrev Ec:Stmt:=top 47
t! BU:ax ["used","names","left","name"] de! (au Ec):=sc!
abbrev w9:Stmt:=top 48
t! J6:ax ac! ac! (au w9):=sc!
abbrev Ed:Stmt:=top 49
t! Pc:ax ac! ac! (au Ed):=sc!
abbrev BV:Stmt:=top 50
t! NP:ax ac! ac! (au BV):=sc!
abbrev Ug:Stmt:=top 51
t! X6:ax bw! bw! (au Ug):=sc!
abbrev BX:Stmt:=top 52
t! Fy:ax ["name","bound","seen"] bw! (au BX):=sc!
abbrev BY:Stmt:=top 53
t! NQ:ax ac! ac! (au BY):=sc!
abbrev qu:Stmt:=top 54
t! Ee:ax ac! ac! (au qu):=sc!
abbrev IC:Stmt:=top 55
t! Aq:ax ["node","bound","named","used","second","third"] ac! (au IC):=sc!
abbrev BZ:Stmt:=top 56
t! pR:ax ["node","bound","named","used","empty","within","full"] ac! (au BZ):=sc!
abbrev zd:Stmt:=top 57
t! rf:ax ["node","bound","named","used","within","part"] ac! (au zd):=sc!
abbrev mH:Stmt:=top 58
t! sD:ax ["node","kind","bound","within"] cA! (au mH):=sc!
abbrev Ef:Stmt:=top 60
t! xa:ax ["node","bound","named","first","within","second"] ac! (au Ef):=sc!
abbrev B0:Stmt:=top 61
t! uf:ax ["node","bound","named","called","wanted","parameter"] ac! (au B0):=sc!
abbrev B3:Stmt:=top 62
t! NR:ax ac! ac! (au B3):=sc!
abbrev uQ:Stmt:=inClass (top 73) 0
t! ID:ax aH! aH! (au uQ):=sc!
abbrev uR:Stmt:=inClass (top 73) 1
t! IE:ax aH! aH! (au uR):=sc!
abbrev uS:Stmt:=inClass (top 73) 2
t! IF:ax aH! aH! (au uS):=sc!
abbrev lM:Stmt:=inClass (top 73) 3
t! qV:ax ["self","start"] ["self"] (au lM):=sc!
abbrev qv:Stmt:=inClass (top 73) 4
t! Eg:ax ["self"] ["self"] (au qv):=sc!
abbrev B4:Stmt:=top 74
t! pS:ax ["text","known","sign","signs","byte"] ["text"] (au B4):=sc!
abbrev nS:Stmt:=top 75
t! iZ:ax ["reader","functions","function"] a8! (au nS):=sc!
abbrev iF:Stmt:=top 76
t! dM:ax ["reader","name","parameters","result","body","parameter"] a8! (au iF):=sc!
abbrev nU:Stmt:=top 77
t! mI:ax ["reader","kind","name"] a8! (au nU):=sc!
abbrev nV:Stmt:=top 78
t! C7:ax ["names"] ["names"] (au nV):=sc!
abbrev ze:Stmt:=top 79
t! C8:ax ["reader","word"] a8! (au ze):=sc!
abbrev zf:Stmt:=top 80
t! C9:ax ["reader","word"] a8! (au zf):=sc!
abbrev Eh:Stmt:=top 81
t! Pd:ax ["word"] ["word"] (au Eh):=sc!
abbrev zg:Stmt:=top 82
t! Mr:ax ["word"] ["word"] (au zg):=sc!
abbrev lN:Stmt:=top 83
t! jU:ax ["reader","word","digits"] a8! (au lN):=sc!
abbrev mJ:Stmt:=top 84
t! lO:ax ["reader","depth","node"] ds! (au mJ):=sc!
abbrev uT:Stmt:=top 85
t! zh:ax ["reader","node","word"] b1! (au uT):=sc!
abbrev zi:Stmt:=top 86
t! Dd:ax bU! b1! (au zi):=sc!
abbrev xb:Stmt:=top 87
t! J7:ax bU! bU! (au xb):=sc!
abbrev xc:Stmt:=top 93
t! uU:ax ["text","reader","functions"] ["text"] (au xc):=sc!
abbrev uV:Stmt:=top 94
t! sF:ax ["sign"] [] (au uV):=sc!
abbrev xf:Stmt:=top 95
t! uW:ax bl! ga! (au xf):=sc!
abbrev uX:Stmt:=top 96
t! IG:ax ["node"] ["node"] (au uX):=sc!
abbrev Ei:Stmt:=top 97
t! Pe:ax bl! bl! (au Ei):=sc!
abbrev mK:Stmt:=top 98
t! lP:ax ["program","node","begun","function"] bl! (au mK):=sc!
abbrev zj:Stmt:=inClass (top 109) 0
t! Ms:ax dV! dV! (au zj):=sc!
abbrev lQ:Stmt:=inClass (top 109) 1
t! qW:ax ["self","number"] ["self"] (au lQ):=sc!
abbrev qw:Stmt:=inClass (top 109) 2
t! nW:ax ["self","size","row"] ["self"] (au qw):=sc!
abbrev jb:Stmt:=inClass (top 109) 3
t! nO:ax ["self","first"] ["self"] (au jb):=sc!
abbrev qz:Stmt:=inClass (top 109) 4
t! Ej:ax ["self"] ["self"] (au qz):=sc!
abbrev uY:Stmt:=inClass (top 110) 0
t! II:ax ["self"] ["self"] (au uY):=sc!
abbrev Ek:Stmt:=top 111
t! sG:ax ["calls","feed","holder","told","answer"] gb! (au Ek):=sc!
abbrev gJ:Stmt:=top 112
t! pT:ax ["holder","feed","number"] ah! (au gJ):=sc!
abbrev nX:Stmt:=top 113
t! De:ax ah! ah! (au nX):=sc!
abbrev uZ:Stmt:=top 114
t! IJ:ax ah! ah! (au uZ):=sc!
abbrev rP:Stmt:=top 115
t! Pf:ax ["row"] ["row"] (au rP):=sc!
abbrev sH:Stmt:=top 116
t! iG:ax ["holder","feed","told","function","parameter"] ah! (au sH):=sc!
abbrev xg:Stmt:=top 117
t! J8:ax ah! ah! (au xg):=sc!
abbrev xh:Stmt:=top 118
t! Bd:ax ["run","account"] ["run"] (au xh):=sc!
abbrev xi:Stmt:=top 119
t! J9:ax ["value"] ["value"] (au xi):=sc!
abbrev sI:Stmt:=top 120
t! kZ:ax ["holder","feed","run","told","tick"] ah! (au sI):=sc!
abbrev qA:Stmt:=top 121
t! dN:ax ["holder","feed","run","nodes","told","node","payments","tick"] ah! (au qA):=sc!
abbrev sJ:Stmt:=top 122
t! lh:ax ["holder","feed","run","function"] ah! (au sJ):=sc!
abbrev qB:Stmt:=top 123
t! fg:ax ["holder","feed","asked","times","rows","function","run"] ah! (au qB):=sc!
abbrev qC:Stmt:=top 124
t! gN:ax ["holder","feed","asked","allowed","rows","function"] ah! (au qC):=sc!
abbrev va:Stmt:=top 125
t! sL:ax ["holder","feed","program","node"] ah! (au va):=sc!
abbrev vd:Stmt:=top 126
t! jc:ax ["holder","feed","program","deepest","node"] ah! (au vd):=sc!
abbrev zk:Stmt:=top 127
t! rg:ax ["holder","feed","asked","rows","function"] ah! (au zk):=sc!
abbrev IK:Stmt:=top 128
t! RT:ax aN! aN! (au IK):=sc!
abbrev ve:Stmt:=top 129
t! IL:ax cf! cf! (au ve):=sc!
abbrev El:Stmt:=top 130
t! Pg:ax c8! c8! (au El):=sc!
abbrev nY:Stmt:=top 131
t! Df:ax cj! cj! (au nY):=sc!
abbrev zl:Stmt:=top 132
t! rh:ax ["function","rows","parameter","row"] dW! (au zl):=sc!
abbrev B5:Stmt:=top 133
t! Fz:ax ["kind","row","number"] fi! (au B5):=sc!
structure Ad where
 pU:Addr
 pV:FuncData
 gO:Addr
 gP:FuncData
 iH:Addr
 iI:FuncData
 jd:Addr
 je:FuncData
 rQ:Addr
 rR:FuncData
 ml:Addr
 mm:FuncData
 sM:Addr
 sO:FuncData
 bV:Addr
 bW:FuncData
 dO:Addr
 dP:FuncData
 vV:Addr
 vW:FuncData
 iJ:Addr
 iK:FuncData
 zm:Addr
 zo:FuncData
 nZ:Addr
 oa:FuncData
 Uh:Addr
 Ui:FuncData
 ft:Addr
 mL:FuncData
 jv:Addr
 rj:FuncData
 mn:Addr
 ug:FuncData
 cp:Addr
 pk:FuncData
 cg:Addr
 ij:FuncData
 jw:Addr
 rm:FuncData
 iW:Addr
 pw:FuncData
 du:Addr
 dv:FuncData
 jx:Addr
 rp:FuncData
 om:Addr
 xj:FuncData
 rS:Addr
 Ar:FuncData
 rT:Addr
 As:FuncData
 vX:Addr
 Dg:FuncData
 rU:Addr
 Au:FuncData
 oo:Addr
 xk:FuncData
 cJ:Addr
 cK:FuncData
 jf:Addr
 jg:FuncData
 sP:Addr
 sQ:FuncData
 mM:Addr
 mO:FuncData
 hJ:Addr
 hU:FuncData
 f_both:Addr
 xl:FuncData
 sR:Addr
 sS:FuncData
 ou:Addr
 ow:FuncData
 il:Addr
 rq:FuncData
 ox:Addr
 Av:FuncData
 lR:Addr
 xm:FuncData
 Li:Addr
 Lj:FuncData
 oy:Addr
 oz:FuncData
 lS:Addr
 xn:FuncData
 cq:Addr
 ll:FuncData
 sT:Addr
 Dh:FuncData
 lT:Addr
 xo:FuncData
 jh:Addr
 uh:FuncData
 eJ:Addr
 eK:FuncData
 oA:Addr
 Aw:FuncData
 lU:Addr
 xp:FuncData
 lV:Addr
 xq:FuncData
 j8:Addr
 kh:FuncData
 fb:Addr
 fc:FuncData
 gx:Addr
 gy:FuncData
 bP:Addr
 bQ:FuncData
 iL:Addr
 iM:FuncData
 sU:Addr
 sV:FuncData
 gQ:Addr
 gR:FuncData
 fL:Addr
 iN:FuncData
 gT:Addr
 gU:FuncData
 fh:Addr
 fi:FuncData
 mq:Addr
 mr:FuncData
 ji:Addr
 jj:FuncData
 rV:Addr
 rW:FuncData
 pW:Addr
 pX:FuncData
 fw:Addr
 fz:FuncData
 eM:Addr
 eO:FuncData
 kj:Addr
 ku:FuncData
 pY:Addr
 pZ:FuncData
 mP:Addr
 mQ:FuncData
 jy:Addr
 jz:FuncData
 kD:Addr
 kG:FuncData
 jA:Addr
 jC:FuncData
 kI:Addr
 kJ:FuncData
 vY:Addr
 vZ:FuncData
 fX:Addr
 fY:FuncData
 p6:Addr
 p8:FuncData
 bB:Addr
 bC:FuncData
 fM:Addr
 fN:FuncData
 cj:Addr
 ck:FuncData
 iO:Addr
 iP:FuncData
 kK:Addr
 kL:FuncData
 Ax:Addr
 Ay:FuncData
 eU:Addr
 eV:FuncData
 gX:Addr
 jD:FuncData
 kM:Addr
 px:FuncData
 jE:Addr
 jF:FuncData
 jk:Addr
 mR:FuncData
 mS:Addr
 rA:FuncData
 jG:Addr
 jH:FuncData
 mT:Addr
 mU:FuncData
 jl:Addr
 mV:FuncData
 iQ:Addr
 ly:FuncData
 jm:Addr
 mW:FuncData
 iR:Addr
 lA:FuncData
 iS:Addr
 lB:FuncData
 kN:Addr
 pz:FuncData
 kO:Addr
 pA:FuncData
 hX:Addr
 hZ:FuncData
 sW:Addr
 sX:FuncData
 gz:Addr
 gC:FuncData
 wa:Addr
 wb:FuncData
 fj:Addr
 fk:FuncData
 p9:Addr
 qb:FuncData
 sY:Addr
 sZ:FuncData
 bu:Addr
 dA:Addr
 cZ:Addr
 fO:Addr
 jn:Addr
 fD:Addr
 aD:Addr
 ba:Addr
 bZ:Addr
 fE:Addr
 cB:Addr
 ip:Addr
 da:Addr
 bU:Addr
 cU:Addr
structure eo (K:PySem.W.Frag) (mg:Str->Option Value) (a:Ad):Prop where
 FC:Fun K "__init__" "Node.__init__" yW a.pU a.pV
 FD:Binds K a.pV be! []
 FE:Mk K a.bu a.pU
 wc:Fun K "__init__" "Parameter.__init__" nR a.gO a.gP
 we:Binds K a.gP cH! []
 wg:Mk K a.dA a.gO
 yh:Fun K "__init__" "Function.__init__" qp a.iH a.iI
 yi:Binds K a.iI a3! []
 yj:Mk K a.cZ a.iH
 zp:Fun K "__init__" "Program.__init__" sx a.jd a.je
 zq:Binds K a.je bk! []
 zr:Mk K a.fO a.jd
 Az:Fun K "by_name" "by_name" D6 a.rQ a.rR
 Em:Binds K a.rR cI! []
 En:mg "by_name"=some (.ref a.rQ)
 FF:Fun K "__init__" "Task.__init__" yX a.ml a.mm
 zt:Binds K a.mm a7! []
 zu:Mk K a.jn a.ml
 IM:Fun K "__init__" "Run.__init__" BN a.sM a.sO
 IP:Binds K a.sO bN! []
 IQ:Mk K a.fD a.sM
 Be:Fun K "come_to" "Run.come_to" uN a.bV a.bW
 cu:Binds K a.bW aw! []
 cv:Meth K a.fD "come_to" a.bV
 tj:Fun K "come_back_to" "Run.come_back_to" lK a.dO a.dP
 lW:Binds K a.dP aw! []
 lX:Meth K a.fD "come_back_to" a.dO
 Lk:Fun K "pay" "Run.pay" D7 a.vV a.vW
 Ll:Binds K a.vW ek! []
 Lm:Meth K a.fD "pay" a.vV
 yk:Fun K "note_call" "Run.note_call" qt a.iJ a.iK
 yl:Binds K a.iK el! []
 ym:Meth K a.fD "note_call" a.iJ
 IT:Fun K "run_of" "run_of" Iw a.zm a.zo
 NS:Binds K a.zo bh! []
 NT:mg "run_of"=some (.ref a.zm)
 xr:Fun K "bound_by" "bound_by" BO a.nZ a.oa
 B6:Binds K a.oa cT! []
 B7:mg "bound_by"=some (.ref a.nZ)
 X7:Fun K "do" "do" X4 a.Uh a.Ui
 Za:Binds K a.Ui ey! []
 Zb:mg "do"=some (.ref a.Uh)
 tq:Fun K "begin_number" "begin_number" sA a.ft a.mL
 zv:Binds K a.mL ae! []
 IU:mg "begin_number"=some (.ref a.ft)
 xt:Fun K "begin_name" "begin_name" wZ a.jv a.rj
 Di:Binds K a.rj ae! []
 Mt:mg "begin_name"=some (.ref a.jv)
 zw:Fun K "begin_nil" "begin_nil" yY a.mn a.ug
 FG:Binds K a.ug ae! []
 NU:mg "begin_nil"=some (.ref a.mn)
 gD:Fun K "begin_parts" "begin_parts" uO a.cp a.pk
 iX:Binds K a.pk ae! []
 Ka:mg "begin_parts"=some (.ref a.cp)
 iq:Fun K "begin_first_part" "begin_first_part" lL a.cg a.ij
 lY:Binds K a.ij ae! []
 B8:mg "begin_first_part"=some (.ref a.cg)
 xu:Fun K "begin_case" "begin_case" w6 a.jw a.rm
 Dj:Binds K a.rm ae! []
 Mu:mg "begin_case"=some (.ref a.jw)
 vg:Fun K "begin_share" "begin_share" uP a.iW a.pw
 Bf:Binds K a.pw ae! []
 Kb:mg "begin_share"=some (.ref a.iW)
 gK:Fun K "bind_pair" "bind_pair" jT a.du a.dv
 jV:Binds K a.dv bv! []
 jW:mg "bind_pair_machine"=some (.ref a.du)
 xw:Fun K "begin_tick" "begin_tick" w8 a.jx a.rp
 Dk:Binds K a.rp ae! []
 Mv:mg "begin_tick"=some (.ref a.jx)
 B9:Fun K "end_cons" "end_cons" BP a.om a.xj
 IV:Binds K a.xj ae! []
 Ph:mg "end_cons"=some (.ref a.om)
 Eo:Fun K "end_add" "end_add" D9 a.rS a.Ar
 Ln:Binds K a.Ar ae! []
 RU:mg "end_add"=some (.ref a.rS)
 Ep:Fun K "end_sub" "end_sub" Ea a.rT a.As
 Lo:Binds K a.As ae! []
 RV:mg "end_sub"=some (.ref a.rT)
 IW:Fun K "end_if" "end_if" Iy a.vX a.Dg
 NV:Binds K a.Dg ae! []
 Uj:mg "end_if"=some (.ref a.vX)
 Es:Fun K "end_let" "end_let" Eb a.rU a.Au
 Lp:Binds K a.Au ae! []
 RX:mg "end_let"=some (.ref a.rU)
 xx:Fun K "end_call" "end_call" BS a.oo a.xk
 Ca:Binds K a.xk ae! []
 Pj:mg "end_call"=some (.ref a.oo)
 FH:Fun K "__init__" "Seen.__init__" zb a.cJ a.cK
 dC:Binds K a.cK aM! []
 dD:Mk K a.ip a.cJ
 tu:Fun K "look_through" "look_through" sC a.jf a.jg
 zx:Binds K a.jg cI! []
 zy:mg "look_through"=some (.ref a.jf)
 Dl:Fun K "see" "see" Ue a.sP a.sQ
 FI:Binds K a.sQ ac! []
 FJ:mg "see"=some (.ref a.sP)
 tw:Fun K "see_as" "see_as" IA a.mM a.mO
 wj:Binds K a.mO aW! []
 wm:mg "see_as"=some (.ref a.mM)
 qc:Fun K "see_parts" "see_parts" zc a.hJ a.hU
 ui:Binds K a.hU a1! []
 uj:mg "see_parts"=some (.ref a.hJ)
 Cb:Fun K "both" "both" Pb a.f_both a.xl
 Eu:Binds K a.xl aZ! []
 Ew:mg "both"=some (.ref a.f_both)
 zA:Fun K "either" "either" IB a.sR a.sS
 Dm:Binds K a.sS aZ! []
 Dn:mg "either"=some (.ref a.sR)
 wo:Fun K "without" "without" Ec a.ou a.ow
 AA:Binds K a.ow de! []
 AD:mg "without"=some (.ref a.ou)
 rB:Fun K "see_number" "see_number" w9 a.il a.rq
 xy:Binds K a.rq ac! []
 Mw:mg "see_number"=some (.ref a.il)
 AE:Fun K "see_nil" "see_nil" Ed a.ox a.Av
 Ey:Binds K a.Av ac! []
 RY:mg "see_nil"=some (.ref a.ox)
 xA:Fun K "see_name" "see_name" BV a.lR a.xm
 Cc:Binds K a.xm ac! []
 Pk:mg "see_name"=some (.ref a.lR)
 QL:Fun K "use" "use" Ug a.Li a.Lj
 Uk:Binds K a.Lj bw! []
 Ul:mg "use"=some (.ref a.Li)
 xB:Fun K "use_list" "use_list" BX a.oy a.oz
 Cd:Binds K a.oz bw! []
 Ce:mg "use_list"=some (.ref a.oy)
 Cf:Fun K "see_cons" "see_cons" BY a.lS a.xn
 IX:Binds K a.xn ac! []
 Pl:mg "see_cons"=some (.ref a.lS)
 lC:Fun K "see_reckoning" "see_reckoning" qu a.cq a.ll
 qD:Binds K a.ll ac! []
 GG:mg "see_reckoning"=some (.ref a.cq)
 IY:Fun K "see_if" "see_if" IC a.sT a.Dh
 NW:Binds K a.Dh ac! []
 Um:mg "see_if"=some (.ref a.sT)
 Cg:Fun K "see_case" "see_case" BZ a.lT a.xo
 IZ:Binds K a.xo ac! []
 Pn:mg "see_case"=some (.ref a.lT)
 zB:Fun K "see_share" "see_share" zd a.jh a.uh
 FK:Binds K a.uh ac! []
 NX:mg "see_share"=some (.ref a.jh)
 i4:Fun K "bind_pair" "bind_pair" mH a.eJ a.eK
 mX:Binds K a.eK cA! []
 mY:mg "bind_pair_kinds"=some (.ref a.eJ)
 Ez:Fun K "see_let" "see_let" Ef a.oA a.Aw
 Lq:Binds K a.Aw ac! []
 RZ:mg "see_let"=some (.ref a.oA)
 xC:Fun K "see_call" "see_call" B0 a.lU a.xp
 Ci:Binds K a.xp ac! []
 Po:mg "see_call"=some (.ref a.lU)
 Cj:Fun K "see_tick" "see_tick" B3 a.lV a.xq
 I0:Binds K a.xq ac! []
 Pp:mg "see_tick"=some (.ref a.lV)
 Bg:Fun K "__init__" "Reader.__init__" uQ a.j8 a.kh
 Bh:Binds K a.kh aH! []
 Bi:Mk K a.da a.j8
 Bj:Fun K "sees" "Reader.sees" uR a.fb a.fc
 kP:Binds K a.fc aH! []
 kQ:Meth K a.da "sees" a.fb
 Bk:Fun K "take" "Reader.take" uS a.gx a.gy
 bI:Binds K a.gy aH! []
 bJ:Meth K a.da "take" a.gx
 tD:Fun K "take_word" "Reader.take_word" lM a.bP a.bQ
 dQ:Binds K a.bQ ["self"] []
 dR:Meth K a.da "take_word" a.bP
 yo:Fun K "at_end" "Reader.at_end" qv a.iL a.iM
 yp:Binds K a.iM ["self"] []
 yq:Meth K a.da "at_end" a.iL
 Ck:Fun K "signs_of" "signs_of" B4 a.sU a.sV
 Ja:Binds K a.sV ["text"] []
 Jb:mg "signs_of"=some (.ref a.sU)
 oE:Fun K "read_functions" "read_functions" nS a.gQ a.gR
 wq:Binds K a.gR a8! []
 wt:mg "read_functions"=some (.ref a.gQ)
 qE:Fun K "read_function" "read_function" iF a.fL a.iN
 yr:Binds K a.iN a8! []
 yt:mg "read_function"=some (.ref a.fL)
 jI:Fun K "read_parameter" "read_parameter" nU a.gT a.gU
 oG:Binds K a.gU a8! []
 oH:mg "read_parameter"=some (.ref a.gT)
 jJ:Fun K "refuse_doubles" "refuse_doubles" nV a.fh a.fi
 oI:Binds K a.fi ["names"] []
 oJ:mg "refuse_doubles"=some (.ref a.fh)
 uk:Fun K "read_kind" "read_kind" ze a.mq a.mr
 zC:Binds K a.mr a8! []
 zD:mg "read_kind"=some (.ref a.mq)
 qd:Fun K "read_name" "read_name" zf a.ji a.jj
 um:Binds K a.jj a8! []
 uo:mg "read_name"=some (.ref a.ji)
 AH:Fun K "is_name" "is_name" Eh a.rV a.rW
 EA:Binds K a.rW ["word"] []
 EC:mg "is_name"=some (.ref a.rV)
 zE:Fun K "is_number" "is_number" zg a.pW a.pX
 FL:Binds K a.pX ["word"] []
 FN:mg "is_number"=some (.ref a.pW)
 lZ:Fun K "read_tick_number" "read_tick_number" lN a.fw a.fz
 tE:Binds K a.fz a8! []
 tF:mg "read_tick_number"=some (.ref a.fw)
 fZ:Fun K "read_expression" "read_expression" mJ a.eM a.eO
 mZ:Binds K a.eO ds! []
 m6:mg "read_expression"=some (.ref a.eM)
 vh:Fun K "read_single" "read_single" uT a.kj a.ku
 Bl:Binds K a.ku b1! []
 Bm:mg "read_single"=some (.ref a.kj)
 zF:Fun K "read_form" "read_form" zi a.pY a.pZ
 FO:Binds K a.pZ b1! []
 FP:mg "read_form"=some (.ref a.pY)
 rC:Fun K "read_piece" "read_piece" xb a.mP a.mQ
 xD:Binds K a.mQ bU! []
 xE:mg "read_piece"=some (.ref a.mP)
 rD:Fun K "program_of" "program_of" xc a.jy a.jz
 xF:Binds K a.jz ["text"] []
 xG:mg "program_of"=some (.ref a.jy)
 vi:Fun K "new_program" "new_program" uV a.kD a.kG
 Bn:Binds K a.kG [] []
 Bo:mg "new_program"=some (.ref a.kD)
 rE:Fun K "tick_nodes" "tick_nodes" xf a.jA a.jC
 xH:Binds K a.jC ga! []
 xI:mg "tick_nodes"=some (.ref a.jA)
 vj:Fun K "form_number" "form_number" uX a.kI a.kJ
 Bp:Binds K a.kJ ["node"] []
 Bq:mg "form_number"=some (.ref a.kI)
 ED:Fun K "text_of" "text_of" Ei a.vY a.vZ
 Lr:Binds K a.vZ bl! []
 Ls:mg "text_of"=some (.ref a.vY)
 m7:Fun K "function_number" "function_number" mK a.fX a.fY
 uq:Binds K a.fY bl! []
 ur:mg "function_number"=some (.ref a.fX)
 FQ:Fun K "__init__" "Feed.__init__" zj a.p6 a.p8
 FR:Binds K a.p8 dV! []
 FT:Mk K a.bU a.p6
 tG:Fun K "take_number" "Feed.take_number" lQ a.bB a.bC
 bR:Binds K a.bC ["self"] []
 bS:Meth K a.bU "take_number" a.bB
 yu:Fun K "take_row" "Feed.take_row" qw a.fM a.fN
 lD:Binds K a.fN ["self"] []
 lE:Meth K a.bU "take_row" a.fM
 qe:Fun K "take_two_rows" "Feed.take_two_rows" jb a.cj a.ck
 gb:Binds K a.ck ["self"] []
 gc:Meth K a.bU "take_two_rows" a.cj
 yw:Fun K "has_more" "Feed.has_more" qz a.iO a.iP
 yx:Binds K a.iP ["self"] []
 yy:Meth K a.bU "has_more" a.iO
 Br:Fun K "__init__" "Holder.__init__" uY a.kK a.kL
 Bs:Binds K a.kL ["self"] []
 Bt:Mk K a.cU a.kK
 Lu:Fun K "answers" "answers" Ek a.Ax a.Ay
 R0:Binds K a.Ay gb! []
 Sa:mg "answers"=some (.ref a.Ax)
 jX:Fun K "answer_or_refusal" "answer_or_refusal" gJ a.eU a.eV
 qX:Binds K a.eV ah! []
 qY:mg "answer_or_refusal"=some (.ref a.eU)
 oK:Fun K "answer_program" "answer_program" nX a.gX a.jD
 wu:Binds K a.jD ah! []
 EF:mg "answer_program"=some (.ref a.gX)
 vk:Fun K "answer_show" "answer_show" uZ a.kM a.px
 Bu:Binds K a.px ah! []
 Kc:mg "answer_show"=some (.ref a.kM)
 oM:Fun K "counted" "counted" rP a.jE a.jF
 rX:Binds K a.jF ["row"] []
 rY:mg "counted"=some (.ref a.jE)
 tH:Fun K "answer_kinds" "answer_kinds" sH a.jk a.mR
 zG:Binds K a.mR ah! []
 Jc:mg "answer_kinds"=some (.ref a.jk)
 xJ:Fun K "answer_run" "answer_run" xg a.mS a.rA
 Dp:Binds K a.rA ah! []
 Mx:mg "answer_run"=some (.ref a.mS)
 rF:Fun K "account_of" "account_of" xh a.jG a.jH
 xK:Binds K a.jH ["run"] []
 xM:mg "account_of"=some (.ref a.jG)
 xN:Fun K "told_value" "told_value" xi a.mT a.mU
 Dq:Binds K a.mU ["value"] []
 Dr:mg "told_value"=some (.ref a.mT)
 tI:Fun K "answer_ticks" "answer_ticks" sI a.jl a.mV
 zH:Binds K a.mV ah! []
 Jd:mg "answer_ticks"=some (.ref a.jl)
 qF:Fun K "answer_counts" "answer_counts" qA a.iQ a.ly
 yA:Binds K a.ly ah! []
 GJ:mg "answer_counts"=some (.ref a.iQ)
 tJ:Fun K "answer_calls" "answer_calls" sJ a.jm a.mW
 zI:Binds K a.mW ah! []
 Je:mg "answer_calls"=some (.ref a.jm)
 qG:Fun K "answer_scaled" "answer_scaled" qB a.iR a.lA
 yB:Binds K a.lA ah! []
 GQ:mg "answer_scaled"=some (.ref a.iR)
 qH:Fun K "answer_within" "answer_within" qC a.iS a.lB
 yC:Binds K a.lB ah! []
 GX:mg "answer_within"=some (.ref a.iS)
 vm:Fun K "answer_node" "answer_node" va a.kN a.pz
 Bv:Binds K a.pz ah! []
 Kd:mg "answer_node"=some (.ref a.kN)
 vn:Fun K "answer_size" "answer_size" vd a.kO a.pA
 Bw:Binds K a.pA ah! []
 Ke:mg "answer_size"=some (.ref a.kO)
 mw:Fun K "asked_run" "asked_run" zk a.hX a.hZ
 qf:Binds K a.hZ ah! []
 qg:mg "asked_run"=some (.ref a.hX)
 zJ:Fun K "run_on" "run_on" IK a.sW a.sX
 Ds:Binds K a.sX aN! []
 Dt:mg "run_on"=some (.ref a.sW)
 kR:Fun K "function_of" "function_of" ve a.gz a.gC
 pB:Binds K a.gC cf! []
 pC:mg "function_of"=some (.ref a.gz)
 EG:Fun K "node_of" "node_of" El a.wa a.wb
 Lv:Binds K a.wb c8! []
 Lw:mg "node_of"=some (.ref a.wa)
 jK:Fun K "refuse_outside" "refuse_outside" nY a.fj a.fk
 oO:Binds K a.fk cj! []
 oP:mg "refuse_outside"=some (.ref a.fj)
 zK:Fun K "values_of" "values_of" zl a.p9 a.qb
 FV:Binds K a.qb dW! []
 FW:mg "values_of"=some (.ref a.p9)
 Cm:Fun K "value_of" "value_of" B5 a.sY a.sZ
 Jf:Binds K a.sZ fi! []
 Jg:mg "value_of"=some (.ref a.sY)
 EH:mg "Node"=some (.ref a.bu)
 aG:JR K a.bu
 mx:mg "Parameter"=some (.ref a.dA)
 fe:JR K a.dA
 oQ:mg "Function"=some (.ref a.cZ)
 bw:JR K a.cZ
 rZ:mg "Program"=some (.ref a.fO)
 bX:JR K a.fO
 Co:mg "Task"=some (.ref a.jn)
 tK:JR K a.jn
 Lx:mg "Run"=some (.ref a.fD)
 aW:JR K a.fD
 aS:mg "NoProgram"=some a2!
 bj:OS K a.aD
 eX:mg "NoFunction"=some eH!
 Du:OS K a.ba
 fF:mg "NoValues"=some dA!
 tL:OS K a.bZ
 tM:mg "NoNode"=some fg!
 NY:OS K a.fE
 jL:mg "OutOfRange"=some eG!
 Dv:OS K a.cB
 jY:mg "Seen"=some (.ref a.ip)
 ir:JR K a.ip
 wx:mg "Reader"=some (.ref a.da)
 aN:JR K a.da
 EI:mg "Feed"=some (.ref a.bU)
 dS:JR K a.bU
 wy:mg "Holder"=some (.ref a.cU)
 dJ:JR K a.cU
 eY:bq K a.bu "label"
 jM:bq K a.bu "depth"
 gY:bq K a.bu "starts_at"
 gZ:bq K a.bu "ends_at"
 bM:bq K a.bu "word"
 dY:bq K a.bu "number"
 aP:bq K a.bu "names"
 aO:bq K a.bu "parts"
 cV:bq K a.dA "kind"
 dU:bq K a.dA "name"
 dE:bq K a.cZ "name"
 bb:bq K a.cZ "parameters"
 dc:bq K a.cZ "result"
 dF:bq K a.cZ "body"
 g6:bq K a.fO "text"
 aV:bq K a.fO "functions"
 cw:bq K a.fO "nodes"
 ia:bq K a.jn "node"
 jN:bq K a.jn "bound"
 gh:bq K a.jn "parts_done"
 qh:bq K a.fD "named"
 kT:bq K a.fD "allowed"
 ib:bq K a.fD "tasks"
 bo:bq K a.fD "given"
 ic:bq K a.fD "steps"
 iu:bq K a.fD "paid"
 iw:bq K a.fD "peak"
 ie:bq K a.fD "ticks"
 cR:bq K a.fD "times_called"
 cY:bq K a.fD "is_long"
 cW:bq K a.ip "kind"
 eD:bq K a.ip "used"
 dh:bq K a.da "signs"
 bx:bq K a.da "place"
 eE:bq K a.da "nodes"
 iy:bq K a.bU "calls"
 dZ:bq K a.bU "place"
 aL:bq K a.cU "program"
 jo:∃ t,mg "NUMBER"=some (.int 0 t)
 qI:∃ t,mg "LIST"=some (.int 1 t)
 m8:∃ t,mg "LONGEST_LIST"=some (.int 40 t)
 Hm:∃ t,mg "SIGNS"=some (.str (%ad "\n ()-0123456789abcdefghijklmnopqrstuvwxyz") t)
 uu:∃ t,mg "WORD_ENDS"=some (.str (%ad "\n ()") t)
 jO:∃ t,mg "MOST_FUNCTIONS"=some (.int 4 t)
 m9:∃ t,mg "MOST_NODES"=some (.int 60 t)
 wz:∃ t,mg "DEEPEST"=some (.int 9 t)
 nj:∃ t,mg "LONGEST_NAME"=some (.int 4 t)
 xO:∃ t,mg "NEW_TEXT"=some (.str (%ad "(fun f ((n x)) n x)\n") t)
 lF:∃ t,mg "CALL_WITH_ONE"=some (.int 9 t)
 lG:∃ t,mg "CALL_WITH_TWO"=some (.int 10 t)
 i5:∃ t,mg "GREATEST_NUMBER"=some (.int 99 t)
 lH:∃ t,mg "LONGEST_GIVEN"=some (.int 12 t)
 rG:∃ t,mg "MOST_TIMES"=some (.int 9 t)
 fP:∃ t,mg "STEPS_ALLOWED"=some (.int 400 t)
 rH:∃ t,mg "NO_PROGRAM"=some (.int (-1) t)
 ux:∃ t,mg "NO_VALUES"=some (.int (-2) t)
 pD:∃ t,mg "NO_FUNCTION"=some (.int (-3) t)
 AI:∃ t,mg "NO_NODE"=some (.int (-4) t)
 nv:∃ t,mg "OUT_OF_RANGE"=some (.int (-5) t)
 zL:mg "dict"=none
 Jh:mg "int"=none
 rJ:mg "isinstance"=none
 dm:mg "len"=none
 My:mg "list"=none
 Ly:mg "max"=none
 N0:mg "ord"=none
 xP:mg "reversed"=none
 QM:mg "set"=none
 QN:mg "str"=none
 QO:mg "sum"=none
 Lz:mg "zip"=none
end Pay
namespace Pay
open PySem L2
abbrev Text:=Vaamoa.Text
def codes(t:Text):List Nat:=t.map UInt8.toNat
def strOf(t:Text):Str:=⟨(codes t).toArray⟩
t! qi(t:Text):(strOf t).cps.toList=codes t:=rfl
t! bh(t:Text):(strOf t).length=t.length:=by simp[strOf,codes,Str.length]
t! LA{a b:Text}(h:codes a=codes b):a=b:=by
 unfold codes at h;e! List.map_inj_right (λx y e=>UInt8.toNat_inj.mp e) |>.mp h
t! iY{a b:Text}(h:strOf a=strOf b):a=b:=by
 ~e:(strOf a).cps.toList=(strOf b).cps.toList:=by rw[h]
 e! LA e
t! oR{a b:Text}:strOf a=strOf b↔a=b:=⟨iY,λh=>by rw[h]⟩
t! Sd(a b:Text):codes (a++b)=codes a++codes b:=%bd
t! my(t:Text):(codes t).length=t.length:=%ac _
t! Se{t y:Text}{i:Nat}(h:i<=t.length):Txt.startswith3 fm! bX! i=y.isPrefixOf at!:=by
 unfold Txt.startswith3;~e:fromIndex (strOf t).length (i:Int)=i:=by unfold fromIndex;w!
 rw[e,PySem.StrLaws.subAt_eq,bh,bh,qi,qi];rw[%bl,%bm,decide_eq_true_eq,beq_iff_eq,%ct];~c:codes at!=(codes t).drop i:=by simp[codes]
 constructor
 ·rintro ⟨h1,h2⟩;rw[←c] at h2;~h3:codes ((t.drop i).take y.length)=codes y:=by rw[←h2];simp[codes]
  rw[←LA h3];e! List.take_prefix _ _
 ·rintro ⟨r,e⟩;~l:=congrArg %bR e;rw[%aq,%aU] at l;r! ⟨by w!,?_⟩;rw[←c,←e,Sd,←my y,List.take_left]
def sign(b:UInt8):Bool:=b == 10 || b == 32 || b == 40 || b == 41 || b == 45 || Vaamoa.isDigit b || Vaamoa.isSmall b
def X8(x:Str)(i:Int)(nl:Addr):List (Str×V):=[("signs",.str x),("place",.int i),("nodes",.ref nl)]
structure g7 (a:Ad) (H:Hp) (r:Addr) (t:Text) (i:Nat) (nl:Addr) (ps:List Addr):Prop where
 obj:∃ dx,H r=some (.ins a.da dx (X8 fm! i nl))
 lst:H nl=some (.lst (ps.map V.ref))
 le:i<=t.length
 long:t.length<=2000
 sgn:∀ b∈t,sign b=true
structure aA (S:List Addr) (H H':Hp):Prop where
 keep:∀ b o,H b=some o->b∉S->H' b=some o
 live:∀ b o,H b=some o->∃ o',H' b=some o'
t! aA.refl(S:List Addr)(H:Hp):aA S H H:=⟨λ_ _ h _=>h,λ_ o h=>⟨o,h⟩⟩
t! aA.trans{S:List Addr}{H H1 H2:Hp}(x:aA S H H1)(y:aA S H1 H2):aA S H H2:=⟨λb o h n=>y.keep b o (x.keep b o h n) n,λb o h=>let ⟨o',e⟩:=x.live b o h;y.live b o' e⟩
t! aA.mono{S S':List Addr}{H H1:Hp}(x:aA S H H1)(h:∀ b∈S,b∈S'):aA S' H H1:=⟨λb o e n=>x.keep b o e λz=>n (h b z),x.live⟩
t! aA.of_same{S:List Addr}{H H1:Hp}(x:bc H H1):aA S H H1:=⟨λb o e _=>x b o e,λb o e=>⟨o,x b o e⟩⟩
t! aA.upd{S:List Addr}{H:Hp}{p:Addr}{o:HO}(h:p∈S):aA S H (upd H p o):=⟨λb u e n=>by rw[ai λz=>n (by rw[z];e! h)];e! e,λb u e=>by
 by_cases z:b=p
 ·e! ⟨o,by rw[z];e! ae⟩
 ·e! ⟨u,by rw[ai z];e! e⟩⟩
t! aA.new{S:List Addr}{H:Hp}{p:Addr}{o:HO}(h:H p=none):aA S H (L2.upd H p o):=aA.of_same λb u e=>by rw[ai (aq e h)];e! e
t! aA.none{S:List Addr}{H H1:Hp}(x:aA S H H1){b:Addr}(h:H1 b=none):H b=none:=by
 cases e:H b with
 | none=>rfl
 | some o =>
  o!⟨o',e'⟩:=x.live b o e;rw[h] at e';cases e'
t! iz{n:Nat}(h:n<=2000):n<=sizeLine:=%aj h ag!
section
variable {P:Program} {w:World} {K:PySem.W.Frag} {mg:Str->Option Value} {base:Heap} {a:Ad}
def Ji(a:Ad):Sp:=λvs H Q _=>∃ r t i nl ps y,vs=[.ref r,.str bX!]/\g7 a H r t i nl ps/\Q (.bl (y.isPrefixOf at!)) H
t! Hn(T:eo K mg a):FB! 1 a.fb a.fc aH! (Ji a):=by
 r! T.Bj.ok IE ab! aa!
 ·o!⟨r,t,i,nl,ps,y,rfl,_⟩:=h;rfl
 o!⟨r,t,i,nl,ps,y,rfl,R,q⟩:=h;r! ⟨_,ah (aH (hG PySem.F.plainAttrs_str PySem.F.slot_str_startswith PySem.F.type_str_startswith Ig ad! (aa (pv 1) eF!))),?_⟩;o!⟨dx,hr1⟩:=R.obj;r! ⟨_,rfl,r,_,dx,_,_,rfl,hr1,T.aN,T.dh,rfl,rfl,_,rfl,_,rfl,r,_,dx,_,_,rfl,hr1,T.aN,T.bx,rfl,_,_,_,rfl,rfl,?_⟩;rw[Se R.le];e! q
def QP(a:Ad):Sp:=λvs H Q _=>∃ r t i nl ps,vs=[.ref r]/\g7 a H r t i nl ps/\Q (.bl (decide (t.drop i=[]))) H
t! Sf(T:eo K mg a):FB! 1 a.iL a.iM ["self"] (QP a):=by
 r! T.yo.ok Eg ab! aa!
 ·o!⟨r,t,i,nl,ps,rfl,_⟩:=h;rfl
 o!⟨r,t,i,nl,ps,rfl,R,q⟩:=h;r! ⟨_,ah (aH (CQ i8 ad! (aR js rfl T.dm %ar eF!) (cy _))),?_⟩;o!⟨dx,hr1⟩:=R.obj;r! ⟨_,rfl,r,_,dx,_,_,rfl,hr1,T.aN,T.bx,rfl,_,rfl,r,_,dx,_,_,rfl,hr1,T.aN,T.dh,rfl,_,rfl,by rw[bh];e! iz R.long,rfl,?_⟩;~e:decide (V.int (i:Int)=V.int ((strOf t).length:Int))=decide (t.drop i=[]):=by
  rw[decide_eq_decide,V.int.injEq,bh,List.drop_eq_nil_iff];have:=R.le;w!
 rw[e];e! q
def Jj(a:Ad):Sp:=λvs H Q E=>∃ r t i nl ps y,vs=[.ref r,.str bX!]/\g7 a H r t i nl ps /\
 (∀ H' u,bg y at!=some u->g7 a H' r t (i+y.length) nl ps->u=t.drop (i+y.length)->aA [r] H H'->Q .fK H')/\(bg y at!=none->E a2! none H)
t! g7.move{H:Hp}{r nl:Addr}{t:Text}{i j:Nat}{ps:List Addr}(R:g7 a H r t i nl ps)(hj:j<=t.length){dx:Addr}(e:H r=some (.ins a.da dx (X8 fm! i nl))) :
  g7 a (upd H r (.ins a.da dx (X8 fm! j nl))) r t j nl ps :=
 ⟨⟨dx,ae⟩,by rw[ai (SV R.lst e cZ!)];e! R.lst,hj,R.long,R.sgn⟩
t! Mz(T:eo K mg a):aK P w K mg base (bA P w) 2 a.gx a.gy aH! (Jj a):=by
 ~GS:FB! 1 a.fb a.fc aH! (Ji a):=Hn T;r! T.Bk.kY IF ab! aa!
 ·o!⟨r,t,i,nl,ps,y,rfl,_⟩:=h;rfl
 o!⟨r,t,i,nl,ps,y,rfl,R,q1,q2⟩:=h;r! ⟨_,af (cE (yJ (qo (bH (pv 0) T.aN T.kQ GS hr T.kP .nil aM aF!))) (ah ax!) bD)
  (ah (rN (pv 0) (aR js rfl T.dm %ar aF!) DW)),?_⟩
 o!⟨dx,hr1⟩:=R.obj;r! ⟨_,rfl,r,dx,_,rfl,hr1,rfl,_,rfl,r,t,i,nl,ps,y,rfl,R,_,rfl,?_⟩;cases c:y.isPrefixOf at! with
 | false =>
  r! bO (q2 ?_);unfold bg;rw[c];rfl
 | true =>
  r! bY ?_;o!⟨u,eu⟩:=%bK c;~l:=congrArg %bR eu;rw[%aq,%aU] at l;r! ⟨_,rfl,r,_,dx,_,_,rfl,hr1,T.aN,T.bx,rfl,_,rfl,_,rfl,by rw[bh];e! iz (by have:=R.long;have:=R.le;w!),_,_,rfl,rfl,dx,_,hr1,by show 3 < 1000;decide,?_⟩;~le:=R.le;~R':=R.move (j:=i+y.length) (by w!) hr1;~ef:nL "place" (V.int ((i:Int)+((strOf y).length:Nat))) (X8 fm! i nl)=X8 fm! ((i+y.length:Nat):Int) nl:=by
   rw[bh];show ([("signs",_),("place",V.int ((i:Int)+(y.length:Nat))),("nodes",_)]:List (Str×V))=_;rw[←Int.natCast_add];rfl
  ~et:bg y at!=some u:=by rw[←eu,gu]
  rw[←ef] at R';e! q1 _ u et R' (by rw[←List.drop_drop,←eu,List.drop_left]) ch!
end
end Pay
namespace Pay
open PySem L2
t! QQ:∀ (u:Text) (k:Nat),k<=(word u).length->((∃ b,u[k]?=some b/\ends b=false)↔k < (word u).length)
 | [],k,h=>by simp[word] at *
 | c::u,k,h=>by
  unfold word at h ⊢;rw[List.takeWhile_cons] at h ⊢;cases e:ends c with
  | true =>
   rw[e] at h;simp at h;subst h;simp[e]
  | false =>
   rw[e] at h;simp only[Bool.not_false,if_true,List.length_cons] at h ⊢;cases k with
   | zero=>simp[e]
   | succ k =>
    ~ih:=QQ u k (by unfold word;w!);unfold word at ih;rw[List.getElem?_cons_succ,ih];w!
t! Dx(u:Text):(word u).length<=u.length:=by
 have:=congrArg %bR (fU u);rw[%aq] at this;w!
t! Sh(u:Text):u.take (word u).length=word u:=by
 conv=>lhs;rw[←fU u]
 rw[List.take_left' (by rw[fU])]
t! Si(u:Text):u.drop (word u).length=off u:=by
 conv=>lhs;rw[←fU u]
 rw[List.drop_left' (by rw[fU])]
t! Sj{t:Text}{i j:Nat}(hi:i<=t.length)(h:j<=t.length):OQ fm! (some (i:Int)) (some (j:Int))=strOf ((t.drop i).take (j - i)):=by
 unfold OQ;rw[HT.t6,HT.t6,bh,qi];unfold strOf;congr 2;unfold codes;rw[List.map_take,List.map_drop];rw[%bP hi,%bP h]
t! V7(b:UInt8):decide (b.toNat∈(%ad "\n ()").cps.toList)=ends b:=by
 ~e:(%ad "\n ()").cps.toList=[10,32,40,41]:=by dk!
 rw[e];e! iC (p:=λb=>decide (b.toNat∈[10,32,40,41])=ends b) (by dk!) b
section
variable {P:Program} {w:World} {K:PySem.W.Frag} {mg:Str->Option Value} {base:Heap} {a:Ad}
def EJ(a:Ad):Sp:=λvs H Q _=>∃ r t i nl ps,vs=[.ref r]/\g7 a H r t i nl ps /\
 (∀ H' j,g7 a H' r t j nl ps->t.drop j=off at!->aA [r] H H'->Q (.str (strOf dh!)) H')
t! Dy(T:eo K mg a):FB! 1 a.bP a.bQ ["self"] (EJ a):=by
 r! T.tD.ok qV ab! aa!
 ·o!⟨r,t,i,nl,ps,rfl,_⟩:=h;rfl
 o!⟨r,t,i,nl,ps,rfl,R,q⟩:=h;o!⟨tk,gW⟩:=T.uu;r! ⟨_,af (aE (i:=1) qV.nd rfl al! ad!)
  (af (yK PassesOwn.never (PW.pt (LY (bG YI ad! (aR js rfl T.dm %ar eF!) (cy _))
    (Hc (bG JY (cG Xz ad! ad! ar!) (aQ (v:=.str (%ad "\n ()")) rfl gW ⟨tk,rfl⟩) rfl))))
    (ah (rN (pv 0) aI DW)))
  (ah (aH (si TM ad! (pd (pv 1)) (pd ad!))))),?_⟩
 o!⟨dx,hr1⟩:=R.obj;r! ⟨_,rfl,r,_,dx,_,_,rfl,hr1,T.aN,T.bx,rfl,?_⟩;~le:=R.le;~wl:=Dx at!;rw[%aU] at wl;~lng:=R.long;r! ⟨λm σ H'=>∃ j,m=t.length - j/\i<=j/\j<=i+(word at!).length/\g7 a H' r t j nl ps/\aA [r] H H'/\σ=[some (.ref r),some (.int i)],⟨_,i,rfl,%am _,by w!,R,aA.refl _ _,rfl⟩,?_⟩;rintro m σ H' ⟨j,rfl,h1,h2,R',kp,rfl⟩;o!⟨dx',hr2⟩:=R'.obj;~le':=R'.le;~key:=QQ at! (j - i) (by w!);~ix:(t.drop i)[j - i]?=t[j]?:=by rw[List.getElem?_drop];congr 1;w!
 rw[ix] at key;r! ⟨_,rfl,r,_,dx',_,_,rfl,hr2,T.aN,T.bx,rfl,_,rfl,r,_,dx',_,_,rfl,hr2,T.aN,T.dh,rfl,_,rfl,by rw[bh];e! iz lng,_,_,rfl,rfl,_,rfl,?_⟩;~fin:j=i+(word at!).length->Q (.str (strOf dh!)) H':=λe=>by
  r! q H' j R' ?_ kp;rw[e,←%cz,Si]
 ~ret:j=i+(word at!).length->(Rl (tSl Y4 (wK K (i7 0) "signs") (Tq (i7 1)) (Tq (wK K (i7 0) "place")))) {nx:=λ_ H'=>Q .fK H',rt:=Q} [some (.ref r),some (.int i)] H':=λe=>by
  r! ⟨_,rfl,r,_,dx',_,_,rfl,hr2,T.aN,T.dh,rfl,_,rfl,_,rfl,_,rfl,r,_,dx',_,_,rfl,hr2,T.aN,T.bx,rfl,_,rfl,_,rfl,by rw[bh];e! iz lng,?_⟩;rw[Sj le le',e,Nat.add_sub_cancel_left,Sh];e! fin e
 by_cases c:j < t.length
 ·~c1:decide ((j:Int) < ((strOf t).length:Nat))=true:=by
   rw[decide_eq_true_eq,bh];w!
  rw[c1];r! bO ?_;~eb:t[j]?=some t[j]:=%aW c;~ea:Vx (strOf t).cps.toList ((j:Nat):Int)=some (t[j].toNat):=CS (by rw[qi,codes,%al,eb];rfl);r! ⟨_,rfl,r,_,dx',_,_,rfl,hr2,T.aN,T.dh,rfl,_,rfl,r,_,dx',_,_,rfl,hr2,T.aN,T.bx,rfl,_,_,_,rfl,rfl,by rw[bh];e! iz lng,ea,_,_,rfl,rfl,_,rfl,?_⟩;rw[V7];cases ce:ends t[j] with
  | false =>
   r! bO ?_;~lt:j - i < (word at!).length:=key.mp ⟨t[j],eb,ce⟩;r! ⟨fun σ' H2=>∃ j',j'=j+1/\g7 a H2 r t j' nl ps/\aA [r] H H2/\σ'=[some (.ref r),some (.int i)],?_,?_⟩
   ·rintro σ' H2 ⟨j',rfl,R2,k2,rfl⟩;e! ⟨t.length - (j+1),by w!,j+1,rfl,by w!,by w!,R2,k2,rfl⟩
   ·r! ⟨_,rfl,r,_,dx',_,_,rfl,hr2,T.aN,T.bx,rfl,_,_,rfl,rfl,dx',_,hr2,by show 3 < 1000;decide,j+1,rfl,?_,kp.trans ch!,rfl⟩;~R2:=R'.move (j:=j+1) (by w!) hr2;e! R2
  | true =>
   r! bY (ret ?_);~nl2:¬ (j - i < (word at!).length):=λz=>by
    o!⟨b,e1,e2⟩:=key.mpr z;rw[eb] at e1;cases e1;rw[ce] at e2;cases e2
   w!
 ·~c1:decide ((j:Int) < ((strOf t).length:Nat))=false:=by
   rw[decide_eq_false_iff_not,bh];w!
  rw[c1];r! bY (bY (ret ?_));~nl2:¬ (j - i < (word at!).length):=λz=>by
   o!⟨b,e1,e2⟩:=key.mpr z;rw[%bS (by w!)] at e1;cases e1
  w!
end
end Pay
namespace Pay
open PySem L2
open Vaamoa (isName isSmall isDigit numberOf decimal valueOf costOf costText kindRead ascii)
t! Pq:∀ b:UInt8,sign b=true->Unicode.isAlpha b.toNat=isSmall b:=iC (by dk!)
t! Pr:∀ b:UInt8,sign b=true->Unicode.isDigit b.toNat=isDigit b:=iC (by dk!)
t! LB{f:Nat->Bool}{g:UInt8->Bool}{w:Text}(h:∀ b∈w,f b.toNat=g b):(strOf w).cps.all f=w.all g:=by
 rw[←Array.all_toList,qi,codes,List.all_map];rw[%bl,%ck,%ck];e! ⟨λq b hb=>by rw[←h b hb];e! q b hb,λq b hb=>by show f b.toNat=true;rw[h b hb];e! q b hb⟩
def qm(w:Text):Prop:=∀ b∈w,sign b=true
t! qm.word{t:Text}(h:qm t):qm (word t):=λb hb=>h b (by rw[←fU t];e! %cl _ hb)
t! qm.drop{t:Text}(h:qm t)(i:Nat):qm at!:=λb hb=>h b (List.mem_of_mem_drop hb)
t! Pu{w:Text}(h:qm w):Txt.isalpha (strOf w)=(!w.isEmpty && w.all isSmall):=by
 unfold Txt.isalpha;rw[LB (g:=isSmall) λb hb=>Pq b (h b hb),bh];congr 1;cases w<;>simp
t! Jk{w:Text}(h:qm w):Txt.isdigit (strOf w)=(!w.isEmpty && w.all isDigit):=by
 unfold Txt.isdigit;rw[LB (g:=isDigit) λb hb=>Pr b (h b hb),bh];congr 1;cases w<;>simp
t! X9:∀ d:Fin 10,intText? (strOf [%bb c4!])=some (d.val:Int):=by dk!
t! zb4:∀ d e:Fin 10,intText? (strOf [%bb c4!,%bb (48+e.val)])=some ((10 * d.val+e.val:Nat):Int):=by dk!
t! WW:∀ d:Fin 10,intText? (strOf [45,%bb c4!])=some (-(d.val:Int)):=by dk!
t! str1:∀ d:Fin 100,(%ad (toString (d.val:Int)))=strOf (decimal d.val):=by dk!
t! Dz:∀ b:UInt8,isDigit b=true->∃ d:Fin 10,b=%bb c4!:=iC (by dk!)
t! Jl{w:Text}(h0:w≠[])(h2:w.length<=2)(hd:w.all isDigit=true):intText? (strOf w)=some (valueOf w:Int)/\valueOf w<=99:=by
 match w,h0,h2,hd with
 | [b],_,_,hd =>
  o!⟨d,rfl⟩:=Dz b (List.all_eq_true.mp hd b ai!);~v:∀ d:Fin 10,valueOf [%bb c4!]=d.val:=by dk!
  rw[X9,v];e! ⟨rfl,by have:=d.isLt;w!⟩
 | [b,c],_,_,hd =>
  o!⟨d,rfl⟩:=Dz b (List.all_eq_true.mp hd b ai!);o!⟨e,rfl⟩:=Dz c (List.all_eq_true.mp hd c ai!);~v:∀ d e:Fin 10,valueOf [%bb c4!,%bb (48+e.val)]=10 * d.val+e.val:=by dk!
  rw[zb4,v];e! ⟨rfl,by have:=d.isLt;have:=e.isLt;w!⟩
 | _::_::_::_,_,h2,_=>simp at h2
t! FY(w:Text):numberOf w=if w.length<=2/\w.all isDigit=true/\w=decimal (valueOf w) then some (valueOf w) else none:=rfl
structure SR (P:Program) (w:World) (K:PySem.W.Frag) (mg:Str->Option Value) (a:Ad):Prop where
 RESERVED:∃ tp,mg "RESERVED"=some (.ref tp)/\∀ H:Hp,JQ K H tp (Vaamoa.RESERVED.map λx=>V.str ap!)
section
variable {P:Program} {w:World} {K:PySem.W.Frag} {mg:Str->Option Value} {base:Heap} {a:Ad}
t! Jm{x:Text}:∀ {l:List Text},YQ f4! (l.map λx=>V.str ap!)=l.contains x
 | []=>rfl
 | y::r=>by
  unfold YQ;rw[%aM,%cp,List.contains_cons];~ih:=Jm (x:=x) (l:=r);unfold YQ at ih;rw[ih];congr 1;show decide _=_;rw[%bl,decide_eq_true_eq,beq_iff_eq];e! ⟨λh=>(iY h).symm,λh=>by rw[h]⟩
def Jn:Sp:=λvs H Q _=>∃ x,vs=[.str ap!]/\qm x/\x.length<=2000/\Q (.bl (isName x)) H
t! Jo(T:eo K mg a)(Cn:SR P w K mg a):FB! 1 a.rV a.rW ["word"] Jn:=by
 r! T.AH.ok Pd ab! aa!
 ·o!⟨x,rfl,_⟩:=h;rfl
 o!⟨x,rfl,sg,lx,q⟩:=h;o!⟨t1,g1⟩:=T.nj;o!⟨tp,g2,sq⟩:=Cn.RESERVED;r! ⟨_,ah (aH (LZ (TK PySem.F.slot_str_isalpha PySem.F.type_str_isalpha OP (pv 0)) (LZ (CQ WL (aR js rfl T.dm %ar aP!) (aQ (v:=.int 4) rfl g1 ⟨t1,rfl⟩) (cy _))
  (Ta (CQ CU (pv 0) (aQ (v:=.ref tp) rfl g2 rfl) rfl))))),?_⟩
 r! ⟨_,rfl,⟨_,rfl⟩,_,rfl,rfl,trivial,_,rfl,?_⟩;rw[Pu sg];~q':Q (.bl (!x.isEmpty && (decide ea! && (x.all isSmall && !Vaamoa.RESERVED.contains x)))) H:=q;cases c1:(!x.isEmpty && x.all isSmall) with
 | false =>
  r! bY ?_;~e:(!x.isEmpty && (decide ea! && (x.all isSmall && !Vaamoa.RESERVED.contains x)))=false:=by
   rw[Bool.and_eq_false_iff] at c1;rcases c1 with z | z<;>simp[z]
  rw[e] at q';e! q'
 | true =>
  r! bO ⟨_,rfl,_,rfl,by rw[bh];e! iz lx,_,_,rfl,rfl,_,rfl,?_⟩;rw[%bm] at c1;rw[c1.1,c1.2,Bool.true_and,Bool.true_and] at q';~e2:decide (((strOf x).length:Int)<=4)=decide ea!:=by
   rw[decide_eq_decide,bh];unfold Vaamoa.LONG;w!
  rw[e2];cases c2:decide ea! with
  | false =>
   rw[c2] at q';e! bY q'
  | true =>
   rw[c2,Bool.true_and] at q';r! bO ⟨_,rfl,tp,_,rfl,.inr (sq H),rfl,?_,?_⟩
   ·rw[%ck];intro v hv;o!⟨y,_,rfl⟩:=%bH hv;rfl
   ·rw[Jm];e! q'
def Jp:Sp:=λvs H Q _=>∃ x,vs=[.str ap!]/\qm x/\x.length<=2000/\Q (.bl (numberOf x).isSome) H
t! MA(T:eo K mg a):FB! 1 a.pW a.pX ["word"] Jp:=by
 r! T.zE.ok Mr ab! aa!
 ·o!⟨x,rfl,_⟩:=h;rfl
 o!⟨x,rfl,sg,lx,q⟩:=h;r! ⟨_,ah (aH (LZ (TK PySem.F.slot_str_isdigit PySem.F.type_str_isdigit HW (pv 0)) (LZ (CQ WL (aR js rfl T.dm %ar aP!) aI (cy _))
  (Ta (CQ i8 (pv 0) (gL L4 rfl T.QN PyProof.Rows.boot_str (aa (gL wN rfl T.Jh %cj aP!) ag)) (cy _)))))),?_⟩
 r! ⟨_,rfl,⟨_,rfl⟩,_,rfl,rfl,trivial,_,rfl,?_⟩;rw[Jk sg];rw[FY] at q;~e0:x=[]->decimal (valueOf x)≠x:=by
  rintro rfl
  dk!
 cases c1:(!x.isEmpty && x.all isDigit) with
 | false =>
  r! bY ?_;rw[n!] at q
  ·e! q
  ·rintro ⟨_,h2,h3⟩;rw[h2,Bool.and_true] at c1;cases x with
   | nil=>e! e0 rfl h3.symm
   | cons _ _=>cases c1
 | true =>
  r! bO ⟨_,rfl,_,rfl,by rw[bh];e! iz lx,_,_,rfl,rfl,_,rfl,?_⟩;rw[%bm] at c1;~nx:x≠[]:=by
   rintro rfl;e! absurd c1.1 ag!
  ~e2:decide (((strOf x).length:Int)<=2)=decide (x.length<=2):=by
   rw[decide_eq_decide,bh];w!
  rw[e2];by_cases c2:x.length<=2
  ·rw[decide_eq_true c2];o!⟨d1,d2⟩:=Jl nx c2 c1.2;r! bO ⟨_,rfl,_,rfl,_,_,rfl,d1,by rw[bh];w!,_,rfl,?_,rfl,?_⟩
   ·have:((valueOf x:Int)).natAbs < 2 ^ 1920:=%ai (show ((valueOf x:Int)).natAbs<=99 by w!) (by dk!);by_cases z:((valueOf x:Int)).natAbs=0
    ·rw[z];decide
    ·e! (Nat.log2_lt z).mpr this
   ·~e3:ej!=strOf (decimal (valueOf x)):=str1 ⟨valueOf x,by w!⟩;~e4:decide (V.str ap!=V.str ej!)=decide (x=decimal (valueOf x)):=by
     rw[decide_eq_decide,V.str.injEq,e3,oR]
    show Q (.bl (decide (V.str ap!=V.str ej!))) H;rw[e4];by_cases c3:x=decimal (valueOf x)
    ·rw[if_pos ⟨c2,c1.2,c3⟩] at q;rw[decide_eq_true c3];e! q
    ·rw[n! λz=>c3 z.2.2] at q;rw[decide_eq_false c3];e! q
  ·rw[decide_eq_false c2];rw[n! λz=>c2 z.1] at q;e! bY q
def bT:%aP->V
 | .num=>.int 0
 | .list=>.int 1
def Pw(a:Ad):Sp:=λvs H Q E=>∃ r t i nl ps,vs=[.ref r]/\g7 a H r t i nl ps /\
 (∀ H' j k u,mE at!=some (k,u)->g7 a H' r t j nl ps->t.drop j=u->aA [r] H H'->Q (bT k) H') /\
 (∀ H',mE at!=none->aA [r] H H'->E a2! none H')
t! DA(T:eo K mg a):aK P w K mg base (bA P w) 2 a.mq a.mr a8! (Pw a):=by
 ~GW:FB! 1 a.bP a.bQ ["self"] (EJ a):=Dy T;r! T.uk.kY C8 ab! aa!
 ·o!⟨r,t,i,nl,ps,rfl,_⟩:=h;rfl
 o!⟨r,t,i,nl,ps,rfl,R,q1,q2⟩:=h;o!⟨t1,g1⟩:=T.jo;o!⟨t2,g2⟩:=T.qI;r! ⟨_,af (aE (i:=1) C8.nd rfl al! bC!)
  (af (cE fr! (ah (aH aD!)) bD)
  (af (cE fr! (ah (aH aJ!)) bD)
  (ah ax!))),?_⟩
 o!⟨dx,hr1⟩:=R.obj;r! ⟨_,rfl,r,dx,_,rfl,hr1,rfl,r,t,i,nl,ps,rfl,R,λH' j R' ej kp=>?_⟩;~sn:%ad "n"=strOf (ascii "n"):=by dk!
 ~sl:%ad "l"=strOf (ascii "l"):=by dk!
 ~ko:mE at!=(kindRead dh!).map λk=>(k,off at!):=rfl
 unfold kindRead at ko;r! ⟨_,rfl,rfl,_,rfl,?_⟩;~e1:decide (V.str (strOf dh!)=V.str (Str.ofString "n"))=decide (word at!=ascii "n"):=by rw[decide_eq_decide,V.str.injEq,sn,oR]
 ~e2:decide (V.str (strOf dh!)=V.str (Str.ofString "l"))=decide (word at!=ascii "l"):=by rw[decide_eq_decide,V.str.injEq,sl,oR]
 rw[e1];by_cases c1:word at!=ascii "n"
 ·rw[decide_eq_true c1];rw[if_pos c1] at ko;e! bO (q1 H' j .num _ ko R' ej kp)
 ·rw[decide_eq_false c1];rw[n! c1] at ko;r! bY ⟨_,rfl,rfl,_,rfl,?_⟩;rw[e2];by_cases c2:word at!=ascii "l"
  ·rw[decide_eq_true c2];rw[if_pos c2] at ko;e! bO (q1 H' j .list _ ko R' ej kp)
  ·rw[decide_eq_false c2];rw[n! c2] at ko;e! bY (q2 H' ko kp)
def MB(a:Ad):Sp:=λvs H Q E=>∃ r t i nl ps,vs=[.ref r]/\g7 a H r t i nl ps /\
 (∀ H' j x u,ig at!=some (x,u)->g7 a H' r t j nl ps->t.drop j=u->aA [r] H H'->Q f4! H') /\
 (∀ H',ig at!=none->aA [r] H H'->E a2! none H')
t! xQ(T:eo K mg a)(Cn:SR P w K mg a):aK P w K mg base (bA P w) 2 a.ji a.jj a8! (MB a):=by
 ~GW:FB! 1 a.bP a.bQ ["self"] (EJ a):=Dy T;~GN:FB! 1 a.rV a.rW ["word"] Jn:=Jo T Cn;r! T.qd.kY C9 ab! aa!
 ·o!⟨r,t,i,nl,ps,rfl,_⟩:=h;rfl
 o!⟨r,t,i,nl,ps,rfl,R,q1,q2⟩:=h;r! ⟨_,af (aE (i:=1) C9.nd rfl al! bC!)
  (af (cE (yJ (qo (az GN hr rfl T.EC T.AH.kp T.EA .nil aM aF!))) (ah ax!) bD)
  (ah gg!)),?_⟩
 o!⟨dx,hr1⟩:=R.obj;r! ⟨_,rfl,r,dx,_,rfl,hr1,rfl,r,t,i,nl,ps,rfl,R,λH' j R' ej kp=>?_⟩;~sg:qm t:=R.sgn;~lw:=Dx at!;rw[%aU] at lw;r! ⟨_,rfl,_,rfl,(sg.drop i).word,by have:=R.long;w!,_,rfl,?_⟩;~no:ig at!=if isName dh!=true then some (word at!,off at!) else none:=rfl
 cases c:isName dh! with
 | true =>
  rw[if_pos c] at no;e! bY ⟨_,rfl,q1 H' j _ _ no R' ej kp⟩
 | false =>
  rw[n! (by rw[c];e! %ao)] at no;e! bO (q2 H' no kp)
end
end Pay
namespace Pay
open PySem L2
open Vaamoa (isName isSmall isDigit numberOf decimal valueOf costOf costText kindRead ascii distinct)
def made(H:Hp)(x dx C:Addr)(f:List (Str×V)):Hp:=upd (upd H dx (.own x)) x (.ins C dx f)
t! AJ{H:Hp}{x dx C:Addr}{f:List (Str×V)}:made H x dx C f x=some (.ins C dx f):=ae
t! bF{H:Hp}{x dx C:Addr}{f:List (Str×V)}(hx:H x=none)(hd:H dx=none):bc H (made H x dx C f):=λb o e=>by
 unfold made;rw[ai (aq e hx),ai (aq e hd)];e! e
t! wA{H:Hp}{x dx C:Addr}{f:List (Str×V)}{b:Addr}(h:made H x dx C f b=none):H b=none/\b≠x/\b≠dx:=by
 unfold made at h;by_cases h1:b=x
 ·rw[h1,ae] at h;cases h
 ·rw[ai h1] at h;by_cases h2:b=dx
  ·rw[h2,ae] at h;cases h
  ·rw[ai h2] at h;e! ⟨h,h1,h2⟩
def jQ(C:Addr)(n:Nat)(f:List V->List (Str×V)):Sp:=λvs H Q _=>∃ (x dx:Addr) (us:List V),vs=.ref x::us/\us.length=n/\H x=some (.ins C dx [])/\Q .fK (upd H x (.ins C dx (f us)))
section
variable {P:Program} {w:World} {K:PySem.W.Frag} {mg:Str->Option Value} {base:Heap} {a:Ad}
def Sk(us:List V):List (Str×V):=match us with
 | [k,x]=>[("kind",k),("name",x)]
 | _=>[]
t! MC(T:eo K mg a):FB! 1 a.gO a.gP cH! (jQ a.dA 2 Sk):=by
 r! T.wc.ok C6 ab! aa!
 ·o!⟨x,dx,us,rfl,hl,_⟩:=h;show us.length+1=3;w!
 o!⟨x,dx,us,rfl,hl,hx,q⟩:=h
 match us,hl with
 | [k,y],_ =>
  r! ⟨_,af bQ! (ah ce!),?_⟩;r! ⟨_,rfl,_,rfl,x,_,dx,_,rfl,hx,T.fe,T.cV,by show 0 < 1000;decide,?_⟩;r! ⟨_,rfl,_,rfl,x,_,dx,_,rfl,ae,T.fe,T.dU,by show 1 < 1000;decide,?_⟩;rw[aC];e! q
def Sl(us:List V):List (Str×V):=match us with
 | [n,p,r,b]=>[("name",n),("parameters",p),("result",r),("body",b)]
 | _=>[]
t! N6(T:eo K mg a):FB! 1 a.iH a.iI a3! (jQ a.cZ 4 Sl):=by
 r! T.yh.ok D5 ab! aa!
 ·o!⟨x,dx,us,rfl,hl,_⟩:=h;show us.length+1=5;w!
 o!⟨x,dx,us,rfl,hl,hx,q⟩:=h
 match us,hl with
 | [n,p,r,b],_ =>
  r! ⟨_,af bQ! (af ce! (af dn! (ah (bf (pv 0) (pv 4) rfl)))),?_⟩;r! ⟨_,rfl,_,rfl,x,_,dx,_,rfl,hx,T.bw,T.dE,by show 0 < 1000;decide,?_⟩;r! ⟨_,rfl,_,rfl,x,_,dx,_,rfl,ae,T.bw,T.bb,by show 1 < 1000;decide,?_⟩;r! ⟨_,rfl,_,rfl,x,_,dx,_,rfl,ae,T.bw,T.dc,by show 2 < 1000;decide,?_⟩;r! ⟨_,rfl,_,rfl,x,_,dx,_,rfl,ae,T.bw,T.dF,by show 3 < 1000;decide,?_⟩;rw[aC,aC,aC];e! q
def Uo(us:List V):List (Str×V):=match us with
 | [t,f,n]=>[("text",t),("functions",f),("nodes",n)]
 | _=>[]
t! Px(T:eo K mg a):FB! 1 a.jd a.je bk! (jQ a.fO 3 Uo):=by
 r! T.zp.ok Gv ab! aa!
 ·o!⟨x,dx,us,rfl,hl,_⟩:=h;show us.length+1=4;w!
 o!⟨x,dx,us,rfl,hl,hx,q⟩:=h
 match us,hl with
 | [t,f,n],_ =>
  r! ⟨_,af bQ! (af ce! (ah dn!)),?_⟩;r! ⟨_,rfl,_,rfl,x,_,dx,_,rfl,hx,T.bX,T.g6,by show 0 < 1000;decide,?_⟩;r! ⟨_,rfl,_,rfl,x,_,dx,_,rfl,ae,T.bX,T.aV,by show 1 < 1000;decide,?_⟩;r! ⟨_,rfl,_,rfl,x,_,dx,_,rfl,ae,T.bX,T.cw,by show 2 < 1000;decide,?_⟩;rw[aC,aC];e! q
def wB(us:List V):List (Str×V):=match us with
 | [k,u]=>[("kind",k),("used",u)]
 | _=>[]
t! pF(T:eo K mg a):FB! 1 a.cJ a.cK aM! cp!:=by
 r! T.FH.ok Mq ab! aa!
 ·o!⟨x,dx,us,rfl,hl,_⟩:=h;show us.length+1=3;w!
 o!⟨x,dx,us,rfl,hl,hx,q⟩:=h
 match us,hl with
 | [k,y],_ =>
  r! ⟨_,af bQ! (ah ce!),?_⟩;r! ⟨_,rfl,_,rfl,x,_,dx,_,rfl,hx,T.ir,T.cW,by show 0 < 1000;decide,?_⟩;r! ⟨_,rfl,_,rfl,x,_,dx,_,rfl,ae,T.ir,T.eD,by show 1 < 1000;decide,?_⟩;rw[aC];e! q
def Bx(us:List V):List (Str×V):=match us with
 | [n,b,d]=>[("node",n),("bound",b),("parts_done",d)]
 | _=>[]
t! QR(T:eo K mg a):FB! 1 a.ml a.mm a7! (jQ a.jn 3 Bx):=by
 r! T.FF.ok Mo ab! aa!
 ·o!⟨x,dx,us,rfl,hl,_⟩:=h;show us.length+1=4;w!
 o!⟨x,dx,us,rfl,hl,hx,q⟩:=h
 match us,hl with
 | [t,f,n],_ =>
  r! ⟨_,af bQ! (af ce! (ah dn!)),?_⟩;r! ⟨_,rfl,_,rfl,x,_,dx,_,rfl,hx,T.tK,T.ia,by show 0 < 1000;decide,?_⟩;r! ⟨_,rfl,_,rfl,x,_,dx,_,rfl,ae,T.tK,T.jN,by show 1 < 1000;decide,?_⟩;r! ⟨_,rfl,_,rfl,x,_,dx,_,rfl,ae,T.tK,T.gh,by show 2 < 1000;decide,?_⟩;rw[aC,aC];e! q
def LC(a:Ad):Sp:=λvs H Q _=>∃ (x dx:Addr) (y:Str),vs=[.ref x,.str y]/\H x=some (.ins a.da dx [])/\∀ nl,H nl=none->Q .fK (upd (upd H nl aL!) x (.ins a.da dx (X8 y 0 nl)))
t! iT{H:Hp}{x y:Addr}{o u:HO}(h:x≠y):upd (upd H x o) y u=upd (upd H y u) x o:=by
 funext b
 unfold upd;by_cases h1:b=y
 ·by_cases h2:b=x
  ·e! absurd (h2.symm.trans h1) h
  ·rw[if_pos h1,n! h2,if_pos h1]
 ·by_cases h2:b=x
  ·rw[n! h1,if_pos h2,if_pos h2]
  ·rw[n! h1,n! h2,n! h2,n! h1]
t! Sm(T:eo K mg a):FB! 1 a.j8 a.kh aH! (LC a):=by
 r! T.Bg.ok ID ab! aa!
 ·o!⟨x,dx,y,rfl,_⟩:=h;rfl
 o!⟨x,dx,y,rfl,hx,q⟩:=h;r! ⟨_,af bQ! (af dy! (ah cB!)),?_⟩;r! ⟨_,rfl,_,rfl,x,_,dx,_,rfl,hx,T.aN,T.dh,by show 0 < 1000;decide,?_⟩;r! ⟨_,rfl,x,_,dx,_,rfl,ae,T.aN,T.bx,by show 1 < 1000;decide,?_⟩;r! ⟨%aE _,λnl hnl=>?_⟩;~ne:x≠nl:=aq ae hnl;r! ⟨_,rfl,x,_,dx,_,rfl,by rw[ai ne];e! ae,T.aN,T.eE,by show 2 < 1000;decide,?_⟩;rw[aC] at hnl;rw[ai ne.symm] at hnl;~e:=q nl hnl;rw[aC,iT ne,aC];e! e
def DB(l d sa ea:Int)(x:Str)(n:Int)(nm pt:Addr):List (Str×V):=[("label",.int l),("depth",.int d),("starts_at",.int sa),("ends_at",.int ea),("word",.str x),("number",.int n),("names",.ref nm),("parts",.ref pt)]
def QS(a:Ad):Sp:=λvs H Q _=>∃ (x dx:Addr) (l d sa:Int),vs=[.ref x,.int l,.int d,.int sa]/\H x=some (.ins a.bu dx [])/\∀ nm pt,H nm=none->H pt=none->nm≠pt ->
 Q .fK (upd (upd (upd H nm aL!) pt aL!) x (.ins a.bu dx (DB l d sa sa "" 0 nm pt)))
t! V8(T:eo K mg a):FB! 1 a.pU a.pV be! (QS a):=by
 r! T.FC.ok Mn ab! aa!
 ·o!⟨x,dx,l,d,sa,rfl,_⟩:=h;rfl
 o!⟨x,dx,l,d,sa,rfl,hx,q⟩:=h;r! ⟨_,af bQ! (af ce! (af dn! (af dn! (af (bf (pv 0) cN rfl) (af dy! (af cB! (ah cB!))))))),?_⟩;r! ⟨_,rfl,_,rfl,x,_,dx,_,rfl,hx,T.aG,T.eY,by show 0 < 1000;decide,?_⟩;r! ⟨_,rfl,_,rfl,x,_,dx,_,rfl,ae,T.aG,T.jM,by show 1 < 1000;decide,?_⟩;r! ⟨_,rfl,_,rfl,x,_,dx,_,rfl,ae,T.aG,T.gY,by show 2 < 1000;decide,?_⟩;r! ⟨_,rfl,_,rfl,x,_,dx,_,rfl,ae,T.aG,T.gZ,by show 3 < 1000;decide,?_⟩;r! ⟨_,rfl,x,_,dx,_,rfl,ae,T.aG,T.bM,by show 4 < 1000;decide,?_⟩;r! ⟨_,rfl,x,_,dx,_,rfl,ae,T.aG,T.dY,by show 5 < 1000;decide,?_⟩;rw[aC,aC,aC,aC,aC];r! ⟨%aE _,λnm hnm=>?_⟩;~n1:x≠nm:=aq ae hnm;rw[ai n1.symm] at hnm;r! ⟨_,rfl,x,_,dx,_,rfl,by rw[ai n1];e! ae,T.aG,T.aP,by show 6 < 1000;decide,?_⟩;rw[iT n1,aC];r! ⟨%aE _,λpt hpt=>?_⟩;~n2:x≠pt:=aq ae hpt;rw[ai n2.symm] at hpt;~n3:nm≠pt:=aq ae hpt;rw[ai n3.symm] at hpt;r! ⟨_,rfl,x,_,dx,_,rfl,by rw[ai n2];e! ae,T.aG,T.aO,by show 7 < 1000;decide,?_⟩;rw[iT n2,aC];e! q nm pt hnm hpt n3
end
end Pay
namespace Pay
open PySem L2
open Vaamoa (isName isSmall isDigit numberOf decimal valueOf costOf costText kindRead ascii distinct)
def dg(x:Text):Text:=if x.head?=some 45 then x.tail else x
t! dash(x:Text):Txt.startswith (strOf x) (%ad "-")=decide (x.head?=some 45):=by
 ~e:%ad "-"=strOf [45]:=by dk!
 unfold Txt.startswith;rw[e,PySem.StrLaws.subAt_eq,bh,bh,qi,qi];cases x with
 | nil=>rfl
 | cons b r =>
  ~q:∀ b:UInt8,([b.toNat] == codes [45])=decide (b=45):=iC (by dk!);~h:List.take [(45:UInt8)].length (List.drop 0 (codes (b::r)))=[b.toNat]:=rfl;rw[h,q];simp
t! zb5(x:Text):OQ ap! (some 1) none=strOf x.tail:=by
 unfold OQ;~e:HT.qT (strOf x).length 0 (some 1)=min 1 (strOf x).length:=HT.t6 _ _ 1;rw[e,HT.Ng,bh,qi];unfold strOf;congr 2;cases x with
 | nil=>rfl
 | cons b r =>
  simp only[List.length_cons,List.tail_cons];rw[%bP (by w!)];show List.take (r.length+1 - 1) (codes r)=codes r;rw[%aC (by rw[my];w!)]
t! wC{x:Text}:x.length=1/\(!x.isEmpty && x.all isDigit)=true↔∃ d:Fin 10,x=[%bb c4!]:=by
 constructor
 ·rintro ⟨h1,h2⟩
  match x,h1 with
  | [b],_ =>
   rw[%bm] at h2;o!⟨d,e⟩:=Dz b (List.all_eq_true.mp h2.2 b ai!);e! ⟨d,by rw[e]⟩
 ·rintro ⟨d,rfl⟩;~q:∀ d:Fin 10,(!([%bb c4!]:Text).isEmpty && ([%bb c4!]:Text).all isDigit)=true:=by dk!
  e! ⟨rfl,q d⟩
t! By{n:Nat}(h:n<=9):decimal n=[%bb (48+n)]:=by
 ~q:∀ n:Fin 10,decimal n.val=[%bb (48+n.val)]:=by dk!
 e! q ⟨n,by w!⟩
t! QT(x:Text):costOf x=if (dg x).length=1/\(!(dg x).isEmpty && (dg x).all isDigit)=true/\x≠ascii "-0" then intText? ap! else none:=by
 ~a0:ascii "-0"=[45,48]:=by dk!
 cases x with
 | nil=>dk!
 | cons b r =>
  by_cases hb:b=45
  ·subst hb;~e:dg (45::r)=r:=rfl;rw[e];by_cases c:r.length=1/\(!r.isEmpty && r.all isDigit)=true
   ·o!⟨d,rfl⟩:=wC.mp c;~q:∀ d:Fin 10,costOf [45,%bb c4!]=if ([45,%bb c4!]:Text)≠[45,48] then some (-(d.val:Int)) else none:=by dk!
    rw[q,WW,a0];by_cases z:([45,%bb c4!]:Text)≠[45,48]
    ·rw[if_pos z,if_pos ⟨c.1,c.2,z⟩]
    ·rw[n! z,n! λy=>z y.2.2]
   ·rw[n! λy=>c ⟨y.1,y.2.1⟩];show (numberOf r).bind _=none;cases n:numberOf r with
    | none=>rfl
    | some k =>
     o!⟨e1,_⟩:=iV n;simp only[Option.bind_some];by_cases z:k=0∨9 < k
     ·rw[if_pos z]
     ·exfalso;rw[By (by w!)] at e1;e! c (wC.mpr ⟨⟨k,by w!⟩,e1⟩)
  ·~e:dg (b::r)=b::r:=by
    unfold dg;rw[n!];intro z;e! hb (%aD z)
   rw[e];~ec:costOf (b::r)=(numberOf (b::r)).bind λn=>if 9 < n then none else some (n:Int):=by
    unfold costOf;split
    ·rename_i h
     cases h;e! absurd rfl hb
    ·rfl
   rw[ec];by_cases c:(b::r).length=1/\(!(b::r).isEmpty && (b::r).all isDigit)=true
   ·o!⟨d,hd⟩:=wC.mp c;~z:b::r≠ascii "-0":=by
     rw[a0];intro y;cases y;e! hb rfl
    rw[if_pos ⟨c.1,c.2,z⟩,hd,X9];~q:∀ d:Fin 10,((numberOf [%bb c4!]).bind λn=>if 9 < n then none else some (n:Int))=some (d.val:Int):=by dk!
    e! q d
   ·rw[n! λy=>c ⟨y.1,y.2.1⟩];cases n:numberOf (b::r) with
    | none=>rfl
    | some k =>
     o!⟨e1,_⟩:=iV n;simp only[Option.bind_some];by_cases z:9 < k
     ·rw[if_pos z]
     ·exfalso;rw[By (by w!)] at e1;e! c (wC.mpr ⟨⟨k,by w!⟩,e1⟩)
t! rK{l:List Text}:distinct l=true↔l.Nodup:=by
 induction l with
 | nil=>simp[distinct]
 | cons x r ih =>
  rw[distinct,%bm,ih,List.nodup_cons];simp
section
variable {P:Program} {w:World} {K:PySem.W.Frag} {mg:Str->Option Value} {base:Heap} {a:Ad}
t! qm.dg{x:Text}(h:qm x):qm (dg x):=λb hb=>by
 unfold Pay.dg at hb;split at hb
 ·e! h b (List.mem_of_mem_tail hb)
 ·e! h b hb
t! Ya(x:Text):(dg x).length<=x.length:=by
 unfold dg;split
 ·rw[List.length_tail];w!
 ·e! %am _
def Up(a:Ad):Sp:=λvs H Q E=>∃ r t i nl ps,vs=[.ref r]/\g7 a H r t i nl ps /\
 (∀ H' j k u,ph at!=some (k,u)->g7 a H' r t j nl ps->t.drop j=u->aA [r] H H'->Q (.int k) H') /\
 (∀ H',ph at!=none->aA [r] H H'->E a2! none H')
t! A1(T:eo K mg a):aK P w K mg base (bA P w) 2 a.fw a.fz a8! (Up a):=by
 ~GW:FB! 1 a.bP a.bQ ["self"] (EJ a):=Dy T;r! T.lZ.kY jU ab! aa!
 ·o!⟨r,t,i,nl,ps,rfl,_⟩:=h;rfl
 o!⟨r,t,i,nl,ps,rfl,R,q1,q2⟩:=h;r! ⟨_,af (aE (i:=1) jU.nd rfl al! bC!)
  (af (aE (i:=2) jU.nd rfl al! (HD (qo (WV PySem.F.slot_str_startswith PySem.F.type_str_startswith JX (pv 1) cN)) (si TM (pv 1) (pd aI) He) (pv 1)))
  (af (cE (PW.pt (Fj (bG Kr (aR js rfl T.dm %ar au!) aI (cy _)) (Fj (yJ (qo (TK PySem.F.slot_str_isdigit PySem.F.type_str_isdigit HW (pv 2))))
    (BG fr!)))) (ah ax!) bD)
  (ah (aH (gL wN rfl T.Jh %cj aF!))))),?_⟩
 o!⟨dx,hr1⟩:=R.obj;r! ⟨_,rfl,r,dx,_,rfl,hr1,rfl,r,t,i,nl,ps,rfl,R,λH' j R' ej kp=>?_⟩;~sg:qm dh!:=((show qm t from R.sgn).drop i).word;~lw:=Dx at!;rw[%aU] at lw;~lng:=R.long;~ko:ph at!=(costOf dh!).map λk=>(k,off at!):=rfl
 rw[QT] at ko;generalize word at!=x at *;r! ⟨_,rfl,⟨_,rfl⟩,_,_,rfl,rfl,_,rfl,?_⟩;~a0:%ad "-0"=strOf (ascii "-0"):=by dk!
 ~rest:(Vs (YE (ZN (Nb (Vl rNe (YO (λxs H Q=>∃ z,xs=[V.str z]/\z.length<=sizeLine/\Q (V.int z.length) H) (ye (i7 2) Gs)) (tC (.int 1))))
   (ZN (YC (tB (tM0 (λx xs H Q=>∃ a,x=V.str a/\xs=[]/\True/\Q (V.bl (Txt.isdigit a)) H) (i7 2)))) (Nb (Vl Zr (i7 1) (tC (.str (%ad "-0"))))))) (TU a.aD E) WH)
   (Rl (YO (λxs H Q=>∃ b n,xs=[V.str b]/\intText? b=some n/\b.length<=640/\Q (V.int n) H) (ye (i7 1) Gs)))) {nx:=λ_ H'=>Q .fK H',rt:=Q} [some (.ref r),some f4!,some (.str (strOf (dg x)))] H':=by
  ~ld:=Ya x;r! ⟨_,rfl,_,rfl,by rw[bh];e! iz (by w!),rfl,_,rfl,?_⟩;~e1:(!decide (V.int ((strOf (dg x)).length:Int)=V.int 1))=!decide ((dg x).length=1):=by
   congr 1;rw[decide_eq_decide,V.int.injEq,bh];w!
  rw[e1];by_cases c1:(dg x).length=1
  ·rw[decide_eq_true c1];r! bY ⟨_,rfl,⟨_,rfl⟩,_,rfl,rfl,trivial,_,rfl,?_⟩;rw[Jk sg.dg];cases c2:(!(dg x).isEmpty && (dg x).all isDigit) with
   | false =>
    rw[n! (λy=>by rw[c2] at y;e! absurd y.2.1 %ao)] at ko;e! bO (bO (q2 H' ko kp))
   | true =>
    r! bY ⟨_,rfl,rfl,_,rfl,?_⟩;~e3:decide (V.str ap!=V.str (Str.ofString "-0"))=decide (x=ascii "-0"):=by rw[decide_eq_decide,V.str.injEq,a0,oR]
    rw[e3];by_cases c3:x=ascii "-0"
    ·rw[decide_eq_true c3];rw[n! λy=>y.2.2 c3] at ko;e! bO (q2 H' ko kp)
    ·rw[decide_eq_false c3];rw[if_pos ⟨c1,c2,c3⟩] at ko;~ex:∃ n,intText? ap!=some n:=by
      ~cd:=QT x;rw[if_pos ⟨c1,c2,c3⟩] at cd;o!⟨d,hd⟩:=wC.mp ⟨c1,c2⟩;unfold dg at hd;split at hd
      ·rename_i hh
       cases x with
       | nil=>cases hh
       | cons b u =>
        have:b=45:=%aD hh;subst this;~hd':u=[%bb c4!]:=hd;rw[hd'];e! ⟨_,WW d⟩
      ·rw[hd];e! ⟨_,X9 d⟩
     o!⟨n,en⟩:=ex;rw[en] at ko;~l2:x.length<=(dg x).length+1:=by
      unfold dg;split
      ·rw[List.length_tail];w!
      ·w!
     e! bY ⟨_,rfl,_,n,rfl,en,(by rw[bh];w!),q1 H' j n _ ko R' ej kp⟩
  ·rw[decide_eq_false c1];rw[n! λy=>c1 y.1] at ko;e! bO (bO (q2 H' ko kp))
 rw[dash];by_cases ch:x.head?=some 45
 ·rw[decide_eq_true ch];~ed:dg x=x.tail:=by unfold dg;rw[if_pos ch]
  rw[ed] at rest;r! bO ⟨_,rfl,_,rfl,_,rfl,by rw[bh];e! iz (by w!),?_⟩;rw[zb5];e! rest
 ·rw[decide_eq_false ch];~ed:dg x=x:=by unfold dg;rw[n! ch]
  rw[ed] at rest;e! bY ⟨_,rfl,rest⟩
def EK(K:%ag)(a:Ad):Sp:=λvs H Q E=>∃ l xs,vs=[.ref l]/\aX K H l (xs.map λx=>V.str ap!)/\xs.length<=10/\(distinct xs=true->∀ H',bc H H'->Q .fK H')/\(distinct xs=false->∀ H',bc H H'->E a2! none H')
t! ay{H:Hp}{p:Addr}(h:H p=none)(o:HO):bc H (upd H p o):=λb u q=>by rw[ai (aq q h)];e! q
t! uy(T:eo K mg a):aK P w K mg base (bA P w) 1 a.fh a.fi ["names"] (EK K a):=by
 r! T.jJ.kY C7 ab! aa!
 ·o!⟨l,xs,rfl,_⟩:=h;rfl
 o!⟨l,xs,rfl,sq,hl,q1,q2⟩:=h;r! ⟨_,ah (cE (bG Kr (aR RK rfl T.dm %ar (aa (gL (XZ rfl) rfl T.QM PyProof.Rows.boot_set aP!) ag)) fy! (cy _))
  (ah ax!) bD),?_⟩
 ~ek:(xs.map λx=>V.str ap!)=(xs.map λx=>(Sum.inr ap!:Key)).map kV:=by simp[kV]
 r! ⟨_,rfl,l,xs.map λx=>Sum.inr ap!,rfl,by rw[←ek];e! sq,by rw[List.length_map];unfold scanBound;w!,λp n hp hn=>?_⟩;~sm:=ay hp (T3 P w p n);r! ⟨p,n,rfl,ae,_,rfl,l,_,rfl,.inl (sm.seq sq),rfl,_,rfl,?_⟩;rw[%ac] at hn;~nd:(xs.map λx=>(%aO ap!:Key)).Nodup↔distinct xs=true:=by
  rw[rK];constructor
  ·intro h;e! List.Pairwise.of_map _ (λx y e z=>e (by rw[z])) h
  ·intro h;e! List.Pairwise.map _ (λx y e z=>e (iY (Sum.inr.inj z))) h
 rw[nd] at hn;~e1:(!decide (V.int (n:Int)=V.int (((xs.map λx=>V.str ap!).length:Nat):Int)))=!decide (n=xs.length):=by
  congr 1;rw[decide_eq_decide,V.int.injEq,%ac];w!
 rw[e1];by_cases c:n=xs.length
 ·rw[decide_eq_true c];e! bY (q1 (hn.mp c) _ sm)
 ·rw[decide_eq_false c];r! bO (q2 ?_ _ sm);cases z:distinct xs with
  | false=>rfl
  | true=>e! absurd (hn.mpr z) c
end
end Pay
namespace Pay
open PySem L2
open Vaamoa (isName Param ascii distinct labelOf deepOf nodesOf textOf)
t! s40:%ad "("=strOf [40]:=by dk!
t! Zu:%ad " "=strOf [32]:=by dk!
t! s41:%ad ")"=strOf [41]:=by dk!
section
variable {P:Program} {w:World} {K:PySem.W.Frag} {mg:Str->Option Value} {base:Heap} {a:Ad}
def DC(a:Ad)(H:Hp)(p:Addr)(q:Param):Prop:=∃ dx,H p=some (.ins a.dA dx (Sk [bT q.kind,.str (strOf q.name)]))
t! DC.keep{S:List Addr}{H H':Hp}{p:Addr}{q:Param}(h:DC a H p q)(k:aA S H H')(n:p∉S):DC a H' p q:=let ⟨dx,e⟩:=h;⟨dx,k.keep _ _ e n⟩
def QU(a:Ad):Sp:=λvs H Q E=>∃ r t i nl ps,vs=[.ref r]/\g7 a H r t i nl ps /\
 (∀ H' j q u p,dH at!=some (q,u)->g7 a H' r t j nl ps->t.drop j=u->aA [r] H H'->DC a H' p q->H p=none->Q (.ref p) H') /\
 (∀ H',dH at!=none->aA [r] H H'->E a2! none H')
t! aA.same{S:List Addr}{H H1 H2:Hp}(x:aA S H H1)(y:bc H1 H2):aA S H H2:=x.trans (aA.of_same y)
t! g7.same{H H':Hp}{r nl:Addr}{t:Text}{i:Nat}{ps:List Addr}(R:g7 a H r t i nl ps)(s:bc H H'):g7 a H' r t i nl ps :=
 ⟨let ⟨dx,e⟩:=R.obj;⟨dx,s _ _ e⟩,s _ _ R.lst,R.le,R.long,R.sgn⟩
t! DD(T:eo K mg a)(Cn:SR P w K mg a):aK P w K mg base (bA P w) 3 a.gT a.gU a8! (QU a):=by
 ~GT:aK P w K mg base (bA P w) 2 a.gx a.gy aH! (Jj a):=Mz T;~GK:aK P w K mg base (bA P w) 2 a.mq a.mr a8! (Pw a):=DA T;~GN:aK P w K mg base (bA P w) 2 a.ji a.jj a8! (MB a):=xQ T Cn;~GI:FB! 1 a.gO a.gP cH! (jQ a.dA 2 Sk):=MC T;r! T.jI.kY mI ab! aa!
 ·o!⟨r,t,i,nl,ps,rfl,_⟩:=h;rfl
 o!⟨r,t,i,nl,ps,rfl,R,q1,q2⟩:=h;r! ⟨_,af ak!
  (af (aE (i:=1) mI.nd rfl al! (az GK hr rfl T.zD T.uk.kp T.zC .nil aB aP!))
  (af ak!
  (af (aE (i:=2) mI.nd rfl al! c0!)
  (af ak!
  (ah (aH (eI T.wg GI hr rfl T.mx T.we .nil aM bc!))))))),?_⟩
 o!⟨d0,o0⟩:=R.obj;rw[s40,Zu,s41];r! ⟨_,rfl,r,d0,_,rfl,o0,rfl,r,t,i,nl,ps,[40],rfl,R,λH1 u1 e1 R1 f1 k1=>?_,λe1=>?_⟩
 rotate_left
 ·e! q2 H (by unfold dH;rw[e1];rfl) (aA.refl _ _)
 r! ⟨_,rfl,r,t,_,nl,ps,rfl,R1,λH2 j2 kd u2 e2 R2 f2 k2=>?_,λH2 e2 k2=>?_⟩
 rotate_left
 ·e! q2 H2 (by unfold dH;rw[e1,Option.bind_some,f1,e2];rfl) fQ!
 o!⟨d2,o2⟩:=R2.obj;r! ⟨_,rfl,r,d2,_,rfl,o2,rfl,r,t,j2,nl,ps,[32],rfl,R2,λH3 u3 e3 R3 f3 k3=>?_,λe3=>?_⟩
 rotate_left
 ·e! q2 H2 (by unfold dH;rw[e1,Option.bind_some,f1,e2,Option.bind_some];show (bg [32] u2).bind _=_;rw[←f2,e3];rfl) fQ!
 r! ⟨_,rfl,r,t,_,nl,ps,rfl,R3,λH4 j4 x u4 e4 R4 f4 k4=>?_,λH4 e4 k4=>?_⟩
 rotate_left
 ·e! q2 H4 (by unfold dH;rw[e1,Option.bind_some,f1,e2,Option.bind_some];show (bg [32] u2).bind _=_;rw[←f2,e3,Option.bind_some,f3,e4];rfl) (((k1.trans k2).trans k3).trans k4)
 o!⟨d4,o4⟩:=R4.obj;~kk:=((k1.trans k2).trans k3).trans k4;r! ⟨_,rfl,r,d4,_,rfl,o4,rfl,r,t,j4,nl,ps,[41],rfl,R4,λH5 u5 e5 R5 f5 k5=>?_,λe5=>?_⟩
 rotate_left
 ·e! q2 H4 (by unfold dH;rw[e1,Option.bind_some,f1,e2,Option.bind_some];show (bg [32] u2).bind _=_;rw[←f2,e3,Option.bind_some,f3,e4,Option.bind_some];show (bg [41] u4).map _=_;rw[←f4,e5];rfl) kk
 r! ⟨_,rfl,_,rfl,λp dx np nd ne=>?_⟩;r! ⟨p,dx,[_,_],rfl,rfl,ae,rfl,?_⟩;rw[aC];~sm:bc H5 (made H5 p dx a.dA (Sk [bT kd,.str ap!])):=bF np nd;~pe:dH at!=some (⟨kd,x⟩,u5):=by
  unfold dH;rw[e1,%ax,f1,e2,%ax];show (bg [32] u2).bind _=_;rw[←f2,e3,%ax,f3,e4,%ax];show (bg [41] u4).map _=_;rw[←f4,e5];rfl
 e! q1 _ _ ⟨kd,x⟩ u5 p pe (R5.same sm) f5.symm ((kk.trans k5).same sm) ⟨dx,AJ⟩ ((kk.trans k5).none np)
end
end Pay
namespace Pay
open PySem L2
open Vaamoa (isName ascii labelOf deepOf nodesOf textOf numberOf)
abbrev Ex:=Vaamoa.Expr
def eF(a:Ad)(ok:Addr->Prop)(H:Hp)(p:Addr)(l d:Nat)(x:Text)(n:Int)(ns:List Text)(qs:List Addr):Prop :=
 ∃ dx nm pt,(∃ sa ea:Int,H p=some (.ins a.bu dx (DB l d sa ea ap! n nm pt)))/\H nm=some (.lst (ns.map λy=>V.str bX!))/\H pt=some (.lst (qs.map V.ref))/\ok p/\ok nm/\ok pt
def aY(a:Ad)(ok:Addr->Prop)(H:Hp):Ex->Nat->Addr->Prop
 | .num l n,d,p=>eF a ok H p l d eM! n [] []
 | .var l x,d,p=>eF a ok H p l d ft! 0 [x] []
 | .nil l,d,p=>eF a ok H p l d dR! 0 [] []
 | .cons l h t,d,p=>∃ q1 q2,eF a ok H p l d fu! 0 [] [q1,q2]/\aY a ok H h (d+1) q1/\aY a ok H t (d+1) q2
 | .add l h t,d,p=>∃ q1 q2,eF a ok H p l d fY! 0 [] [q1,q2]/\aY a ok H h (d+1) q1/\aY a ok H t (d+1) q2
 | .sub l h t,d,p=>∃ q1 q2,eF a ok H p l d fW! 0 [] [q1,q2]/\aY a ok H h (d+1) q1/\aY a ok H t (d+1) q2
 | .ifz l c x y,d,p=>∃ q1 q2 q3,eF a ok H p l d gt! 0 [] [q1,q2,q3]/\aY a ok H c (d+1) q1/\aY a ok H x (d+1) q2/\aY a ok H y (d+1) q3
 | .case l x e h t c,d,p=>∃ q1 q2,eF a ok H p l d fv! 0 [x,h,t] [q1,q2]/\aY a ok H e (d+1) q1/\aY a ok H c (d+1) q2
 | .letE l x e b,d,p=>∃ q1 q2,eF a ok H p l d fX! 0 [x] [q1,q2]/\aY a ok H e (d+1) q1/\aY a ok H b (d+1) q2
 | .call1 l g x,d,p=>∃ q1,eF a ok H p l d cM! 0 [g] [q1]/\aY a ok H x (d+1) q1
 | .call2 l g x y,d,p=>∃ q1 q2,eF a ok H p l d cM! 0 [g] [q1,q2]/\aY a ok H x (d+1) q1/\aY a ok H y (d+1) q2
 | .tick l k e,d,p=>∃ q1,eF a ok H p l d fs! k [] [q1]/\aY a ok H e (d+1) q1
 | .share l x y z e,d,p=>∃ q1,eF a ok H p l d e5! 0 [x,y,z] [q1]/\aY a ok H e (d+1) q1
def aT:Nat->Ex->List (Ex×Nat)
 | d,.num l n=>[(.num l n,d)]
 | d,.var l x=>[(.var l x,d)]
 | d,.nil l=>[(.nil l,d)]
 | d,.cons l h t=>(.cons l h t,d)::fx!
 | d,.add l h t=>(.add l h t,d)::fx!
 | d,.sub l h t=>(.sub l h t,d)::fx!
 | d,.ifz l c x y=>(.ifz l c x y,d)::(aT (d+1) c++fw!)
 | d,.case l x e h t c=>(.case l x e h t c,d)::(aT (d+1) e++aT (d+1) c)
 | d,.letE l x e b=>(.letE l x e b,d)::(aT (d+1) e++aT (d+1) b)
 | d,.call1 l g x=>(.call1 l g x,d)::aT (d+1) x
 | d,.call2 l g x y=>(.call2 l g x y,d)::fw!
 | d,.tick l k e=>(.tick l k e,d)::aT (d+1) e
 | d,.share l x y z e=>(.share l x y z e,d)::aT (d+1) e
def tN(a:Ad)(ok:Addr->Prop)(H:Hp):List Addr->List (Ex×Nat)->Prop
 | [],[]=>True
 | p::ps,z::zs=>aY a ok H z.1 z.2 p/\tN a ok H ps zs
 | _,_=>False
t! tN.app{a:Ad}{ok:Addr->Prop}{H:Hp}:∀ {ps qs:List Addr} {l m:List (Ex×Nat)},tN a ok H ps l->tN a ok H qs m->tN a ok H (ps++qs) (l++m)
 | [],_,[],_,_,h=>h
 | _::_,_,_::_,_,h,k=>⟨h.1,tN.app h.2 k⟩
 | [],_,_::_,_,h,_=>h.elim
 | _::_,_,[],_,h,_=>h.elim
t! tN.len{a:Ad}{ok:Addr->Prop}{H:Hp}:∀ {ps:List Addr} {l:List (Ex×Nat)},tN a ok H ps l->ps.length=l.length
 | [],[],_=>rfl
 | _::_,_::_,h=>congrArg (·+1) (tN.len h.2)
 | [],_::_,h=>h.elim
 | _::_,[],h=>h.elim
def Yx(a:Ad)(t:Text)(ok:Addr->Prop)(H:Hp)(e:Ex)(p:Addr):Prop:=∃ dx l d sa x n nm pt,H p=some (.ins a.bu dx (DB l d (sa:Nat) ((sa+(textOf e).length:Nat):Int) x n nm pt))/\ok p/\∃ u,t.drop sa=textOf e++u
def eP(a:Ad)(t:Text)(ok:Addr->Prop)(H:Hp):List Addr->List (Ex×Nat)->Prop
 | [],[]=>True
 | p::ps,z::zs=>(aY a ok H z.1 z.2 p/\Yx a t ok H z.1 p)/\eP a t ok H ps zs
 | _,_=>False
t! eP.app{a:Ad}{t:Text}{ok:Addr->Prop}{H:Hp}:∀ {ps qs:List Addr} {l m:List (Ex×Nat)},eP a t ok H ps l->eP a t ok H qs m->eP a t ok H (ps++qs) (l++m)
 | [],_,[],_,_,h=>h
 | _::_,_,_::_,_,h,k=>⟨h.1,eP.app h.2 k⟩
 | [],_,_::_,_,h,_=>h.elim
 | _::_,_,[],_,h,_=>h.elim
t! eP.len{a:Ad}{t:Text}{ok:Addr->Prop}{H:Hp}:∀ {ps:List Addr} {l:List (Ex×Nat)},eP a t ok H ps l->ps.length=l.length
 | [],[],_=>rfl
 | _::_,_::_,h=>congrArg (·+1) (eP.len h.2)
 | [],_::_,h=>h.elim
 | _::_,[],h=>h.elim
section
variable {a:Ad} {ok ok':Addr->Prop} {H H':Hp}
t! eF.turn{p:Addr}{l d:Nat}{x:Text}{n:Int}{ns:List Text}{qs:List Addr}(h:eF a ok H p l d x n ns qs)(k:∀ b o,ok b->H b=some o->H' b=some o)(m:∀ b,ok b->ok' b):eF a ok' H' p l d x n ns qs:=by
 o!⟨dx,nm,pt,⟨sa,ea,h1⟩,h2,h3,o1,o2,o3⟩:=h;e! ⟨dx,nm,pt,⟨sa,ea,k _ _ o1 h1⟩,k _ _ o2 h2,k _ _ o3 h3,m _ o1,m _ o2,m _ o3⟩
t! aY.turn(k:∀ b o,ok b->H b=some o->H' b=some o)(m:∀ b,ok b->ok' b):∀ {e:Ex} {d:Nat} {p:Addr},aY a ok H e d p->aY a ok' H' e d p:=by
 intro e
 induction e with
 | num l n=>intro d p h;e! eF.turn h k m
 | var l x=>intro d p h;e! eF.turn h k m
 | nil l=>intro d p h;e! eF.turn h k m
 | cons l x y i1 i2=>rintro d p ⟨q1,q2,o,h1,h2⟩;e! ⟨q1,q2,o.turn k m,i1 h1,i2 h2⟩
 | add l x y i1 i2=>rintro d p ⟨q1,q2,o,h1,h2⟩;e! ⟨q1,q2,o.turn k m,i1 h1,i2 h2⟩
 | sub l x y i1 i2=>rintro d p ⟨q1,q2,o,h1,h2⟩;e! ⟨q1,q2,o.turn k m,i1 h1,i2 h2⟩
 | ifz l c x y i0 i1 i2=>rintro d p ⟨q1,q2,q3,o,h0,h1,h2⟩;e! ⟨q1,q2,q3,o.turn k m,i0 h0,i1 h1,i2 h2⟩
 | case l x e h t c i1 i2=>rintro d p ⟨q1,q2,o,h1,h2⟩;e! ⟨q1,q2,o.turn k m,i1 h1,i2 h2⟩
 | letE l x e b i1 i2=>rintro d p ⟨q1,q2,o,h1,h2⟩;e! ⟨q1,q2,o.turn k m,i1 h1,i2 h2⟩
 | call1 l g x i1=>rintro d p ⟨q1,o,h1⟩;e! ⟨q1,o.turn k m,i1 h1⟩
 | call2 l g x y i1 i2=>rintro d p ⟨q1,q2,o,h1,h2⟩;e! ⟨q1,q2,o.turn k m,i1 h1,i2 h2⟩
 | tick l j e i1=>rintro d p ⟨q1,o,h1⟩;e! ⟨q1,o.turn k m,i1 h1⟩
 | share l x y z e i1=>rintro d p ⟨q1,o,h1⟩;e! ⟨q1,o.turn k m,i1 h1⟩
t! tN.turn(k:∀ b o,ok b->H b=some o->H' b=some o)(m:∀ b,ok b->ok' b):∀ {ps:List Addr} {l:List (Ex×Nat)},tN a ok H ps l->tN a ok' H' ps l
 | [],[],_=>trivial
 | _::_,_::_,h=>⟨h.1.turn k m,tN.turn k m h.2⟩
 | [],_::_,h=>h.elim
 | _::_,[],h=>h.elim
t! Yx.turn{t:Text}(k:∀ b o,ok b->H b=some o->H' b=some o)(m:∀ b,ok b->ok' b){e:Ex}{p:Addr}(h:Yx a t ok H e p):Yx a t ok' H' e p:=by
 o!⟨dx,l,d,sa,x,n,nm,pt,h1,h2,h3⟩:=h;e! ⟨dx,l,d,sa,x,n,nm,pt,k _ _ h2 h1,m _ h2,h3⟩
t! eP.turn{t:Text}(k:∀ b o,ok b->H b=some o->H' b=some o)(m:∀ b,ok b->ok' b):∀ {ps:List Addr} {l:List (Ex×Nat)},eP a t ok H ps l->eP a t ok' H' ps l
 | [],[],_=>trivial
 | _::_,_::_,h=>⟨⟨h.1.1.turn k m,h.1.2.turn k m⟩,eP.turn k m h.2⟩
 | [],_::_,h=>h.elim
 | _::_,[],h=>h.elim
end
t! Cp:∀ (e:Ex) (d:Nat),(aT d e).length=aj e:=by
 intro e
 induction e<;>intro d<;>simp_all [aT,aj,nodesOf]
def Py:Mh->Nat
 | .N=>78
 | .K=>75
 | .E=>69
structure Pt (a:Ad) (S H:Hp) (r:Addr) (t:Text) (nl:Addr) (ps:List Addr) (p dx nm pt:Addr) (l d sa ea:Nat) (x:Text) (pc:yT):Prop where
 rd:∃ i qs,g7 a H r t i nl (ps++qs)/\t.drop i=pc.rest/\pc.next=(ps++qs).length/\eP a t cs! H qs (pc.parts.flatMap (aT (d+1)))
 obj:H p=some (.ins a.bu dx (DB l d sa ea ap! pc.num nm pt))
 Yb:H nm=some (.lst (pc.names.map λy=>V.str bX!))
 Yy:∃ ks:List Addr,H pt=some cU!/\tN a cs! H ks (pc.parts.map λe=>(e,d+1))
 ne:[r,nl,p,nm,pt].Nodup
 big:pc.next<=60/\pc.names.length<=10/\pc.parts.length<=10
 sm:S r≠none/\S nl≠none/\S p≠none/\S nm≠none/\S pt≠none
def Zc(rd:JS):Mh->yT->Option yT
 | .N,p=>(ig p.rest).map λz=>{p with names:=p.names++[z.1],rest:=z.2}
 | .K,p=>(ph p.rest).map λz=>{p with num:=z.1,rest:=z.2}
 | .E,p=>(rd p.next p.rest).map λz=>{p with parts:=p.parts++[z.1],next:=z.2.1,rest:=z.2.2}
t! r6(rd:JS)(c:Mh)(p:yT):bE rd c p=(iD p.rest).bind λt=>Zc rd c {p with rest:=t}:=by cases c<;>rfl
t! xR(t:Text):iD t=bg [32] t:=by
 cases t with
 | nil=>rfl
 | cons b r =>
  by_cases h:b=32
  ·subst h;rw[blank_eq];e! (gu [32] r).symm
  ·unfold bg;show (if b=32 then some r else none)=_;rw[n! h,n!];intro z;o!⟨s,e⟩:=%bK z;cases e;e! h rfl
section
variable {P:Program} {w:World} {K:PySem.W.Frag} {mg:Str->Option Value} {base:Heap} {a:Ad}
def Pz(a:Ad)(f:Nat):Sp:=λvs H Q E=>∃ r t i nl ps d,vs=[.ref r,.int (d:Nat)]/\g7 a H r t i nl ps/\ps.length<=60/\d+f=10 /\
 (∀ H' j e n' u p qs,gI f ps.length at!=some (e,n',u)->g7 a H' r t j nl (ps++qs)->t.drop j=u->n'=(ps++qs).length->aA [r,nl] H H' ->
  aY a bm! H' e d p->eP a t bm! H' qs (aT d e)->Q (.ref p) H') /\
 (∀ H',gI f ps.length at!=none->aA [r,nl] H H'->E a2! none H')
def QV(a:Ad)(f:Nat):Sp:=λvs H Q E=>∃ S r t nl ps p dx nm pt l d sa ea x pc c,vs=[.ref r,.ref p,.str ⟨#[Py c]⟩]/\aA [r,nl,p,nm,pt] S H/\Pt a S H r t nl ps p dx nm pt l d sa ea x pc/\d+1+f=10 /\
 pc.names.length<=9/\pc.parts.length<=9 /\
 (∀ H' pc',Zc (gI f) c pc=some pc'->Pt a S H' r t nl ps p dx nm pt l d sa ea x pc'->aA [r,nl,p,nm,pt] S H'->Q .fK H') /\
 (∀ H',Zc (gI f) c pc=none->aA [r,nl,p,nm,pt] S H'->E a2! none H')
t! Pt.out{S H:Hp}{r:Addr}{t:Text}{nl:Addr}{ps:List Addr}{p dx nm pt:Addr}{l d sa ea:Nat}{x:Text}{pc:yT}(Z:Pt a S H r t nl ps p dx nm pt l d sa ea x pc){b:Addr}(h:S b=none):b∉[r,nl,p,nm,pt]:=by
 o!⟨s1,s2,s3,s4,s5⟩:=Z.sm;intro m;simp only[List.mem_cons,List.not_mem_nil,or_false] at m;rcases m with rfl | rfl | rfl | rfl | rfl
 ·e! s1 h
 ·e! s2 h
 ·e! s3 h
 ·e! s4 h
 ·e! s5 h
t! Pt.read{S H H':Hp}{r:Addr}{t:Text}{nl:Addr}{ps qs:List Addr}{p dx nm pt:Addr}{l d sa ea:Nat}{x:Text}{pc:yT}{j:Nat}(Z:Pt a S H r t nl ps p dx nm pt l d sa ea x pc)(k:aA [r] H H')(R:g7 a H' r t j nl (ps++qs))
  (al:eP a t cs! H qs (pc.parts.flatMap (aT (d+1)))) (hn:pc.next=(ps++qs).length):Pt a S H' r t nl ps p dx nm pt l d sa ea x {pc with rest:=t.drop j}:=by
 ~ne:=Z.ne;simp only[List.nodup_cons,List.mem_cons,List.not_mem_nil,or_false,not_or] at ne;o!⟨⟨n1,n2,n3,n4⟩,⟨n5,n6,n7⟩,⟨n8,n9⟩,n10,_⟩:=ne;~kk:∀ b o,S b=none->H b=some o->H' b=some o:=λb o hb e=>k.keep b o e λz=>Z.out hb fU!
 o!⟨ks,e1,e2⟩:=Z.Yy;e! ⟨⟨j,qs,R,rfl,hn,al.turn kk λ_ h=>h⟩,k.keep _ _ Z.obj eU!,k.keep _ _ Z.Yb eT!,⟨ks,k.keep _ _ e1 eS!,e2.turn kk λ_ h=>h⟩,Z.ne,Z.big,Z.sm⟩
t! Pt.ends{S H:Hp}{r:Addr}{t:Text}{nl:Addr}{ps:List Addr}{p dx nm pt:Addr}{l d sa ea:Nat}{x:Text}{pc:yT}(Z:Pt a S H r t nl ps p dx nm pt l d sa ea x pc)(eb:Nat):Pt a S (upd H p (.ins a.bu dx (DB l d sa eb ap! pc.num nm pt))) r t nl ps p dx nm pt l d sa eb x pc:=by
 ~ne:=Z.ne;simp only[List.nodup_cons,List.mem_cons,List.not_mem_nil,or_false,not_or] at ne;o!⟨⟨n1,n2,n3,n4⟩,⟨n5,n6,n7⟩,⟨n8,n9⟩,n10,_⟩:=ne;~kk:∀ b o,S b=none->H b=some o->upd H p (.ins a.bu dx (DB l d sa eb ap! pc.num nm pt)) b=some o:=λb o hb e=>by
  rw[ai λz=>Z.out hb eL!];e! e
 o!⟨ks,e1,e2⟩:=Z.Yy;o!⟨i,qs,R,er,en,al⟩:=Z.rd;o!⟨dr,or_⟩:=R.obj;e! ⟨⟨i,qs,⟨⟨dr,by rw[ai n2];e! or_⟩,by rw[ai n5];e! R.lst,R.le,R.long,R.sgn⟩,er,en,al.turn kk λ_ h=>h⟩,ae,by rw[ai dq!];e! Z.Yb,⟨ks,by rw[ai dp!];e! e1,e2.turn kk λ_ h=>h⟩,Z.ne,Z.big,Z.sm⟩
t! up1{r nl p nm pt:Addr}:∀ b∈[r],b∈[r,nl,p,nm,pt]:=λb h=>by simp at h;simp[h]
t! up2{r nl p nm pt:Addr}:∀ b∈[r,nl],b∈[r,nl,p,nm,pt]:=λb h=>by
 simp only[List.mem_cons,List.not_mem_nil,or_false] at h;rcases h with h | h<;>simp[h]
t! Kf{f k:Nat}(T:eo K mg a)(Cn:SR P w K mg a)(hk:2<=k)(GE:aK P w K mg base (bA P w) k a.eM a.eO ds! (Pz a f)) :
  aK P w K mg base (bA P w) (k+1) a.mP a.mQ bU! (QV a f):=by
 ~GN:aK P w K mg base (bA P w) k a.ji a.jj a8! (MB a):=(xQ T Cn).mono hk;~GK:aK P w K mg base (bA P w) k a.fw a.fz a8! (Up a):=(A1 T).mono hk;r! T.rC.kY J7 ab! aa!
 ·o!⟨S,r,t,nl,ps,p,dx,nm,pt,l,d,sa,ea,x,pc,c,rfl,_⟩:=h;rfl
 o!⟨S,r,t,nl,ps,p,dx,nm,pt,l,d,sa,ea,x,pc,c,rfl,ks,Z,hd,b1,b2,q1,q2⟩:=h;r! ⟨_,ah (cE fq!
   (ah (aF (hG %ah %at %as cM as! (aa c0! ag))))
   (ah (cE fq!
    (ah (bf (pv 1) (az GK hr rfl T.tF T.lZ.kp T.tE .nil aB aP!) rfl))
    (ah (aF (hG %ah %at %as cM as! (aa (az GE hr rfl T.m6 T.fZ.kp T.mZ .nil aB (aa (pv 0) (aa (yM Xr as! aI) ag))) ag))))))),?_⟩
 o!⟨i,qs,R,er,en,al⟩:=Z.rd;o!⟨kd,e1,e2⟩:=Z.Yy;~ne:=Z.ne;simp only[List.nodup_cons,List.mem_cons,List.not_mem_nil,or_false,not_or] at ne;o!⟨⟨n1,n2,n3,n4⟩,⟨n5,n6,n7⟩,⟨n8,n9⟩,n10,_⟩:=ne;~g1:decide (V.str (⟨#[Py c]⟩:Str)=V.str (%ad "N"))=decide (c=.N):=by cases c<;>dk!
 ~g2:decide (V.str (⟨#[Py c]⟩:Str)=V.str (%ad "K"))=decide (c=.K):=by cases c<;>dk!
 r! ⟨_,rfl,rfl,_,rfl,?_⟩;rw[g1];cases c with
 | N =>
  r! bO ⟨_,rfl,p,_,dx,_,_,rfl,Z.obj,T.aG,T.aP,rfl,.inl ⟨rfl,_,aX.of Z.Yb⟩,_,rfl,r,t,i,nl,_,rfl,R,λH1 j y u e3 R1 f1 k1=>?_,λH1 e3 k1=>?_⟩
  ·~Z1:=Z.read k1 R1 al en;r! ⟨nm,_,_,rfl,rfl,Z1.Yb,by rw[%ac];e! %ai b1 ag!,?_⟩;r! q1 _ {pc with names:=pc.names++[y],rest:=u} (by show (ig pc.rest).map _=_;rw[←er,e3];rfl) ?_ ((ks.trans (k1.mono up1)).trans ch!);o!⟨i1,q1',R1',er1,en1,al1⟩:=Z1.rd;o!⟨kd1,e11,e21⟩:=Z1.Yy;~kk:∀ b o,S b=none->H1 b=some o->upd H1 nm (.lst ((pc.names.map λy=>V.str bX!)++[V.str bX!])) b=some o:=λb o hb e=>by
    rw[ai λz=>Z.out hb eL!];e! e
   o!⟨dr,or_⟩:=R1'.obj;r! ⟨⟨i1,q1',⟨⟨dr,by rw[ai n3];e! or_⟩,by rw[ai n6];e! R1'.lst,R1'.le,R1'.long,R1'.sgn⟩,by rw[←f1];e! er1,en1,al1.turn kk λ_ h=>h⟩,by rw[ai n8];e! Z1.obj,?_,⟨kd1,by rw[ai (Ne.symm n10)];e! e11,e21.turn kk λ_ h=>h⟩,Z.ne,?_,Z.sm⟩
   ·rw[ae];simp
   ·o!⟨z1,z2,z3⟩:=Z.big;e! ⟨z1,by rw[%aq,%bQ];w!,z3⟩
  ·e! q2 H1 (by show (ig pc.rest).map _=_;rw[←er,e3];rfl) (ks.trans (k1.mono up1))
 | K =>
  r! bY ⟨_,rfl,rfl,_,rfl,?_⟩;rw[g2];r! bO ⟨_,rfl,r,t,i,nl,_,rfl,R,λH1 j y u e3 R1 f1 k1=>?_,λH1 e3 k1=>?_⟩
  ·~Z1:=Z.read k1 R1 al en;r! ⟨_,rfl,p,_,dx,_,rfl,Z1.obj,T.aG,T.dY,by show 8 < 1000;decide,?_⟩;r! q1 _ {pc with num:=y,rest:=u} (by show (ph pc.rest).map _=_;rw[←er,e3];rfl) ?_ ((ks.trans (k1.mono up1)).trans ch!);o!⟨i1,q1',R1',er1,en1,al1⟩:=Z1.rd;o!⟨kd1,e11,e21⟩:=Z1.Yy;~kk:∀ b o,S b=none->H1 b=some o->upd H1 p (.ins a.bu dx (nL "number" (V.int y) (DB l d sa ea ap! pc.num nm pt))) b=some o:=λb o hb e=>by
    rw[ai λz=>Z.out hb eL!];e! e
   o!⟨dr,or_⟩:=R1'.obj;r! ⟨⟨i1,q1',⟨⟨dr,by rw[ai n2];e! or_⟩,by rw[ai n5];e! R1'.lst,R1'.le,R1'.long,R1'.sgn⟩,by rw[←f1];e! er1,en1,al1.turn kk λ_ h=>h⟩,?_,by rw[ai dq!];e! Z1.Yb,⟨kd1,by rw[ai dp!];e! e11,e21.turn kk λ_ h=>h⟩,Z.ne,Z.big,Z.sm⟩;rw[ae];rfl
  ·e! q2 H1 (by show (ph pc.rest).map _=_;rw[←er,e3];rfl) (ks.trans (k1.mono up1))
 | E =>
  r! bY ⟨_,rfl,rfl,_,rfl,?_⟩;rw[g2];r! bY ⟨_,rfl,p,_,dx,_,_,rfl,Z.obj,T.aG,T.aO,rfl,.inl ⟨rfl,_,aX.of e1⟩,_,rfl,_,rfl,p,_,dx,_,_,rfl,Z.obj,T.aG,T.jM,rfl,_,_,rfl,rfl,?_⟩;r! ⟨r,t,i,nl,_,d+1,by show [V.ref r,V.int ((d:Int)+1)]=_;rw[Int.natCast_add];rfl,R,by rw[←en];e! Z.big.1,by w!,λH1 j e n' u k qk e3 R1 f1 hn k1 nk ak=>?_,λH1 e3 k1=>?_⟩
  ·~kH:∀ b,H b=none->S b=none:=λb hb=>ks.none hb
   ~kk0:∀ b o,S b=none->H b=some o->H1 b=some o:=λb o hb e=>k1.keep b o e λz=>Z.out hb (by
    simp only[List.mem_cons,List.not_mem_nil,or_false] at z;rcases z with z | z<;>simp[z])
   ~o1:H1 pt=some (.lst (kd.map V.ref)):=k1.keep _ _ e1 (by simp only[List.mem_cons,List.not_mem_nil,or_false,not_or];e! ⟨Ne.symm n4,Ne.symm n7⟩);~lk:kd.length=pc.parts.length:=by have:=e2.len;simpa using this
   r! ⟨pt,_,_,rfl,rfl,o1,by rw[%ac,lk];e! %ai b2 ag!,?_⟩;r! q1 _ {pc with parts:=pc.parts++[e],next:=n',rest:=u} (by show (gI f pc.next pc.rest).map _=_;rw[←er,en,e3];rfl) ?_ ((ks.trans (k1.mono up2)).trans ch!);~kk:∀ b o,S b=none->H1 b=some o->upd H1 pt (.lst (kd.map V.ref++[V.ref k])) b=some o:=λb o hb e=>by
    rw[ai λz=>Z.out hb eL!];e! e
   o!⟨dr,or_⟩:=R1.obj;~hs:=Ao f _ _ _ _ _ e3;r! ⟨⟨j,qs++qk,⟨⟨dr,by rw[ai n4];e! or_⟩,by rw[ai n7,←%cD];e! R1.lst,R1.le,R1.long,R1.sgn⟩,f1,by rw[hn,%cD],?_⟩,?_,?_,⟨kd++[k],?_,?_⟩,Z.ne,?_,Z.sm⟩
   ·rw[List.flatMap_append];r! eP.app ((al.turn kk0 λ_ h=>h).turn kk λ_ h=>h) ?_;simp only[List.flatMap_cons,List.flatMap_nil,List.append_nil];e! (ak.turn (ok':=λb=>S b=none) (H':=H1) du! kH).turn kk λ_ h=>h
   ·rw[ai n9];e! k1.keep _ _ Z.obj (by simp only[List.mem_cons,List.not_mem_nil,or_false,not_or];e! ⟨Ne.symm n2,Ne.symm n5⟩)
   ·rw[ai n10];e! k1.keep _ _ Z.Yb (by simp only[List.mem_cons,List.not_mem_nil,or_false,not_or];e! ⟨Ne.symm n3,Ne.symm n6⟩)
   ·rw[ae];simp
   ·rw[%bd];e! tN.app ((e2.turn kk0 λ_ h=>h).turn kk λ_ h=>h) ⟨(nk.turn (ok':=λb=>S b=none) (H':=H1) du! kH).turn kk λ_ h=>h,trivial⟩
   ·o!⟨z1,z2,z3⟩:=Z.big;e! ⟨hs.2.2.2.2.2,z2,by rw[%aq,%bQ];w!⟩
  ·e! q2 H1 (by show (gI f pc.next pc.rest).map _=_;rw[←er,en,e3];rfl) (ks.trans (k1.mono up2))
end
end Pay
namespace Pay
open PySem L2
open Vaamoa (isName ascii labelOf deepOf nodesOf textOf numberOf)
t! QW{x:Str}{g:TG}{tb:TS}{D:Ends}{σ:St}{H:Hp}(Pv:Nat->St->Hp->Prop)(h0:Pv 0 σ H)
  (hs:∀ (i:Nat) (c:Nat) (σ:St) (H:Hp),x.cps[i]?=some c->Pv i σ H->g (.str ⟨#[c]⟩) σ H fun σ2 H2=>tb {D with nx:=Pv (i+1),ct:=Pv (i+1),bk:=D.nx} σ2 H2) (hd:∀ σ H,Pv x.cps.size σ H->D.nx σ H) :
  ∃ W:Nat->Nat->St->Hp->Prop,ec!/\∀ i m σ H,W i m σ H ->
   ((WS x).stop i H/\D.nx σ H)∨((WS x).go i H/\∃ N:St->Hp->Prop,aK!/\∀ v H',(WS x).Tb i H v H'->g v σ H' fun σ2 H2=>tb {D with nx:=N,ct:=N,bk:=D.nx} σ2 H2):=by
 r! ⟨λi m σ H=>m=x.cps.size - i/\i<=x.cps.size/\Pv i σ H,⟨x.cps.size,by simp,Nat.zero_le _,h0⟩,?_⟩;rintro i m σ H ⟨rfl,hi,p⟩;by_cases hlt:i < x.cps.size
 ·r! .inr ⟨hlt,Pv (i+1),fun σ' H' p'=>⟨x.cps.size - (i+1),by w!,rfl,hlt,p'⟩,λv H' y=>?_⟩;o!⟨rfl,c,hc,rfl⟩:=y;e! hs i c σ _ hc p
 ·~e:i=x.cps.size:=by w!
  subst e;e! .inl ⟨%am _,hd σ H p⟩
def lets(ls:List Mh):Str:=⟨(ls.map Py).toArray⟩
def Ho:List (Key×V):=[(.inr gx!,.str (%ad "EE")),(.inr (%ad "add"),.str (%ad "EE")),(.inr (%ad "sub"),.str (%ad "EE")),(.inr (%ad "if"),.str (%ad "EEE")),
 (.inr (%ad "case"),.str (%ad "NENNE")),(.inr (%ad "let"),.str (%ad "NEE")),(.inr (%ad "call"),.str (%ad "NE")),(.inr fF!,.str (%ad "KE")),(.inr (%ad "share"),.str (%ad "NNNE"))]
def EL:List (Text×List Mh):=[(ascii "cons",[.E,.E]),(ascii "add",[.E,.E]),(ascii "sub",[.E,.E]),(ascii "if",[.E,.E,.E]),(ascii "case",[.N,.E,.N,.N,.E]),(ascii "let",[.N,.E,.E]),(ascii "call",[.N,.E]),(ascii "tick",[.K,.E]),(ascii "share",[.N,.N,.N,.E])]
t! Uq:Ho=EL.map λz=>(%aO (strOf z.1),V.str (lets z.2)):=by dk!
t! AL{α:Type}(g:α->V):∀ (l:List (Text×α)) (x:Text),cA (l.map λz=>((%aO (strOf z.1):Key),g z.2)) a4!=(l.find? λz=>z.1 == x).map λz=>g z.2
 | [],x=>rfl
 | z::r,x=>by
  rw[%aM,%by];by_cases h:z.1=x
  ·rw[fS (by rw[h]),beq_iff_eq.mpr h];rfl
  ·rw[fT (λe=>h (iY e8!)),AL g r x,beq_eq_false_iff_ne.mpr h]
t! aw{α:Type}{x w:Text}{y:α}{r:List (Text×α)}:(((w,y)::r).find? λz=>z.1 == x).map (λz=>z.2)=if x=w then some y else (r.find? λz=>z.1 == x).map λz=>z.2:=by
 rw[%by];by_cases h:x=w
 ·rw[if_pos h,beq_iff_eq.mpr h.symm];rfl
 ·rw[n! h,beq_eq_false_iff_ne.mpr (Ne.symm h)]
t! uz(x:Text):formOf x=(EL.find? λz=>z.1 == x).map λz=>z.2:=by
 unfold formOf EL;simp only[aw];rfl
t! LD(x:Text):cA Ho a4!=(formOf x).map λls=>V.str (lets ls):=by
 rw[Uq,AL (λls=>V.str (lets ls)),uz,Option.map_map];rfl
t! N7{x:Text}{ls:List Mh}(h:formOf x=some ls):ls.length<=5:=by
 rw[uz] at h;o!⟨z,h1,rfl⟩:=%ab h;~q:∀ z∈EL,z.2.length<=5:=by dk!
 e! q z (%bC h1)
t! Sn{x:Text}{ls:List Mh}(h:formOf x=some ls)(hx:x≠ascii "tick"):Mh.K∉ls:=by
 rw[uz] at h;o!⟨z,h1,rfl⟩:=%ab h;~q:∀ z∈EL,z.1=ascii "tick"∨Mh.K∉z.2:=by dk!
 ~e:z.1=x:=by simpa using List.find?_some h1
 rcases q z (%bC h1) with y | y
 ·e! absurd (e.symm.trans y) hx
 ·e! y
t! Cq(rd:JS):∀ (l m:List Mh) (p:yT),pieces rd (l++m) p=(pieces rd l p).bind (pieces rd m)
 | [],m,p=>rfl
 | c::l,m,p=>by
  show (bE rd c p).bind _=((bE rd c p).bind _).bind _;rw[Option.bind_assoc];congr 1
  funext q
  e! Cq rd l m q
t! LF{rd:JS}{c:Mh}{p q:yT}(h:bE rd c p=some q)(hc:c≠.K):q.num=p.num:=by
 cases c with
 | K=>e! absurd rfl hc
 | N=>obtain ⟨_,_,_,_,e,_⟩:=mD h;e! e
 | E =>
  unfold bE at h;o!⟨t,h1,h2⟩:=%aa h;o!⟨z,h3,h4⟩:=%ab h2;rw[←h4]
t! Jq{rd:JS}:∀ {ls:List Mh} {p q:yT},pieces rd ls p=some q->Mh.K∉ls->q.num=p.num
 | [],p,q,h,_=>by cases h;rfl
 | c::ls,p,q,h,hk=>by
  o!⟨m,h1,h2⟩:=%aa (show (bE rd c p).bind (pieces rd ls)=some q from h);rw[Jq h2 λz=>hk (%af _ z),LF h1 λz=>hk (by rw[z];e! %an)]
t! Ur{rd:JS}{c:Mh}{p q:yT}(h:Zc rd c p=some q):q.names.length<=p.names.length+1/\q.parts.length<=p.parts.length+1:=by
 cases c<;>(unfold Zc at h;obtain ⟨z,h3,h4⟩:=Option.map_eq_some_iff.mp h;rw[←h4];simp)
section
variable {P:Program} {w:World} {K:PySem.W.Frag} {mg:Str->Option Value} {base:Heap} {a:Ad}
t! WX{S H:Hp}{r:Addr}{t:Text}{nl:Addr}{ps:List Addr}{p dx nm pt:Addr}{l d sa ea:Nat}{x:Text}{pc:yT}{e:Ex}(Z:Pt a S H r t nl ps p dx nm pt l d sa ea x pc)(hb:build x l pc=some e)(hz:x≠ascii "tick"->pc.num=0) :
  aY a dU! H e d p/\aT d e=(e,d)::pc.parts.flatMap (aT (d+1)):=by
 o!⟨ks,e1,e2⟩:=Z.Yy;~o:=Z.obj;~m:=Z.Yb;~wk:∀ {e:Ex} {k:Addr},aY a cs! H e (d+1) k->aY a dU! H e (d+1) k:=λh=>h.turn du! λb h=>.inl h
 ~mk:∀ {y:Text} {n:Int} {ns:List Text} {qs:List Addr},x=y->pc.num=n->pc.names=ns->ks=qs->eF a dU! H p l d y n ns qs:=by
  rintro y n ns qs rfl rfl rfl rfl;e! ⟨dx,nm,pt,⟨_,_,o⟩,m,e1,.inr aU!,.inr (.inr aU!),.inr (.inr dH!)⟩
 ~one:∀ {u:Ex},pc.parts=[u]->∃ k,ks=[k]/\aY a cs! H u (d+1) k:=by
  intro u hu;rw[hu] at e2
  match ks,e2 with
  | [k],h=>e! ⟨k,rfl,h.1⟩
 ~two:∀ {u v:Ex},pc.parts=[u,v]->∃ k k',ks=[k,k']/\aY a cs! H u (d+1) k/\aY a cs! H v (d+1) k':=by
  intro u v hu;rw[hu] at e2
  match ks,e2 with
  | [k,k'],h=>e! ⟨k,k',rfl,h.1,h.2.1⟩
 ~three:∀ {u v y:Ex},pc.parts=[u,v,y]->∃ k k' k2,ks=[k,k',k2]/\aY a cs! H u (d+1) k/\aY a cs! H v (d+1) k'/\aY a cs! H y (d+1) k2:=by
  intro u v y hu;rw[hu] at e2
  match ks,e2 with
  | [k,k',k2],h=>e! ⟨k,k',k2,rfl,h.1,h.2.1,h.2.2.1⟩
 unfold build at hb;split at hb
 ·rename_i c
  split at hb
  ·rename_i u v h1 h2
   cases hb;o!⟨k,k',rfl,n1,n2⟩:=two h2;e! ⟨⟨k,k',mk c bY! h1 rfl,wk n1,wk n2⟩,by rw[h2];simp[aT]⟩
  ·cases hb
 split at hb
 ·rename_i c
  split at hb
  ·rename_i u v h1 h2
   cases hb;o!⟨k,k',rfl,n1,n2⟩:=two h2;e! ⟨⟨k,k',mk c bY! h1 rfl,wk n1,wk n2⟩,by rw[h2];simp[aT]⟩
  ·cases hb
 split at hb
 ·rename_i c
  split at hb
  ·rename_i u v h1 h2
   cases hb;o!⟨k,k',rfl,n1,n2⟩:=two h2;e! ⟨⟨k,k',mk c bY! h1 rfl,wk n1,wk n2⟩,by rw[h2];simp[aT]⟩
  ·cases hb
 split at hb
 ·rename_i c
  split at hb
  ·rename_i u v y h1 h2
   cases hb;o!⟨k,k',k2,rfl,n1,n2,n3⟩:=three h2;e! ⟨⟨k,k',k2,mk c bY! h1 rfl,wk n1,wk n2,wk n3⟩,by rw[h2];simp[aT]⟩
  ·cases hb
 split at hb
 ·rename_i c
  split at hb
  ·rename_i y1 y2 y3 u v h1 h2
   cases hb;o!⟨k,k',rfl,n1,n2⟩:=two h2;e! ⟨⟨k,k',mk c bY! h1 rfl,wk n1,wk n2⟩,by rw[h2];simp[aT]⟩
  ·cases hb
 split at hb
 ·rename_i c
  split at hb
  ·rename_i y1 u v h1 h2
   cases hb;o!⟨k,k',rfl,n1,n2⟩:=two h2;e! ⟨⟨k,k',mk c bY! h1 rfl,wk n1,wk n2⟩,by rw[h2];simp[aT]⟩
  ·cases hb
 split at hb
 ·rename_i c
  split at hb
  ·rename_i y1 u h1 h2
   cases hb;o!⟨k,rfl,n1⟩:=one h2;e! ⟨⟨k,mk c bY! h1 rfl,wk n1⟩,by rw[h2];simp[aT]⟩
  ·rename_i y1 u v h1 h2
   cases hb;o!⟨k,k',rfl,n1,n2⟩:=two h2;e! ⟨⟨k,k',mk c bY! h1 rfl,wk n1,wk n2⟩,by rw[h2];simp[aT]⟩
  ·cases hb
 split at hb
 ·rename_i c
  split at hb
  ·rename_i u h1 h2
   cases hb;o!⟨k,rfl,n1⟩:=one h2;e! ⟨⟨k,mk c rfl h1 rfl,wk n1⟩,by rw[h2];simp[aT]⟩
  ·cases hb
 split at hb
 ·rename_i c
  split at hb
  ·rename_i y1 y2 y3 u h1 h2
   cases hb;o!⟨k,rfl,n1⟩:=one h2;e! ⟨⟨k,mk c bY! h1 rfl,wk n1⟩,by rw[h2];simp[aT]⟩
  ·cases hb
 ·cases hb
t! PB{rd:JS}{x:Text}{ls:List Mh}{n l:Nat}{o:Text}{q pc:yT}(h1:formOf x=some ls)(h2:pieces rd ls ⟨[],0,[],n,o⟩=some q)(h3:more rd x q=some pc):∃ e,build x l pc=some e:=by
 ~sN:∀ {p q:yT},bE rd .N p=some q->∃ y,q.names=p.names++[y]/\q.parts=p.parts:=λh=>let ⟨y,_,_,e1,_,e2,_⟩:=mD h;⟨y,e1,e2⟩
 ~sK:∀ {p q:yT},bE rd .K p=some q->q.names=p.names/\q.parts=p.parts:=λh=>let ⟨_,_,e1,e2,_⟩:=QH h;⟨e1,e2⟩
 ~sE:∀ {p q:yT},bE rd .E p=some q->∃ y,q.parts=p.parts++[y]/\q.names=p.names:=λh=>by
  unfold bE at h;o!⟨t,g1,g2⟩:=%aa h;o!⟨z,g3,g4⟩:=%ab g2;rw[←g4];e! ⟨_,rfl,rfl⟩
 rw[uz] at h1;o!⟨z,g1,rfl⟩:=%ab h1;~e:z.1=x:=by simpa using List.find?_some g1
 subst e;~mem:=%bC g1;unfold EL at mem;simp only[List.mem_cons,List.not_mem_nil,or_false] at mem;unfold more at h3;rcases mem with rfl | rfl | rfl | rfl | rfl | rfl | rfl | rfl | rfl
 all_goals simp only[pieces,Option.bind_some,Option.bind_eq_some_iff,Option.some.injEq] at h2
 ·rw[n! aq!] at h3;cases h3;o!⟨p1,k1,p2,k2,rfl⟩:=h2;o!⟨y1,a1,b1⟩:=sE k1;o!⟨y2,a2,b2⟩:=sE k2;e! ⟨.cons l y1 y2,by unfold build;rw[if_pos rfl,b2,b1,a2,a1];rfl⟩
 ·rw[n! aq!] at h3;cases h3;o!⟨p1,k1,p2,k2,rfl⟩:=h2;o!⟨y1,a1,b1⟩:=sE k1;o!⟨y2,a2,b2⟩:=sE k2;e! ⟨.add l y1 y2,by unfold build;rw[n! (by dk!),if_pos rfl,b2,b1,a2,a1];rfl⟩
 ·rw[n! aq!] at h3;cases h3;o!⟨p1,k1,p2,k2,rfl⟩:=h2;o!⟨y1,a1,b1⟩:=sE k1;o!⟨y2,a2,b2⟩:=sE k2;e! ⟨.sub l y1 y2,by unfold build;rw[n! (by dk!),n! (by dk!),if_pos rfl,b2,b1,a2,a1];rfl⟩
 ·rw[n! aq!] at h3;cases h3;o!⟨p1,k1,p2,k2,p3,k3,rfl⟩:=h2;o!⟨y1,a1,b1⟩:=sE k1;o!⟨y2,a2,b2⟩:=sE k2;o!⟨y3,a3,b3⟩:=sE k3;e! ⟨.ifz l y1 y2 y3,by unfold build;rw[n! (by dk!),n! (by dk!),n! (by dk!),if_pos rfl,b3,b2,b1,a3,a2,a1];rfl⟩
 ·rw[n! aq!] at h3;cases h3;o!⟨p1,k1,p2,k2,p3,k3,p4,k4,p5,k5,rfl⟩:=h2;o!⟨y1,a1,b1⟩:=sN k1;o!⟨y2,a2,b2⟩:=sE k2;o!⟨y3,a3,b3⟩:=sN k3;o!⟨y4,a4,b4⟩:=sN k4;o!⟨y5,a5,b5⟩:=sE k5;e! ⟨.case l y1 y2 y3 y4 y5,by unfold build;rw[n! (by dk!),n! (by dk!),n! (by dk!),n! (by dk!),if_pos rfl,b5,a4,a3,b2,a1,a5,b4,b3,a2,b1];rfl⟩
 ·rw[n! aq!] at h3;cases h3;o!⟨p1,k1,p2,k2,p3,k3,rfl⟩:=h2;o!⟨y1,a1,b1⟩:=sN k1;o!⟨y2,a2,b2⟩:=sE k2;o!⟨y3,a3,b3⟩:=sE k3;e! ⟨.letE l y1 y2 y3,by unfold build;rw[n! (by dk!),n! (by dk!),n! (by dk!),n! (by dk!),n! (by dk!),if_pos rfl,b3,b2,a1,a3,a2,b1];rfl⟩
 ·o!⟨p1,k1,p2,k2,rfl⟩:=h2;o!⟨y1,a1,b1⟩:=sN k1;o!⟨y2,a2,b2⟩:=sE k2;split at h3
  ·o!⟨y3,a3,b3⟩:=sE h3;e! ⟨.call2 l y1 y2 y3,by unfold build;rw[n! (by dk!),n! (by dk!),n! (by dk!),n! (by dk!),n! (by dk!),n! (by dk!),if_pos rfl,b3,b2,a1,a3,a2,b1];rfl⟩
  ·cases h3;e! ⟨.call1 l y1 y2,by unfold build;rw[n! (by dk!),n! (by dk!),n! (by dk!),n! (by dk!),n! (by dk!),n! (by dk!),if_pos rfl,b2,a1,a2,b1];rfl⟩
 ·rw[n! aq!] at h3;cases h3;o!⟨p1,k1,p2,k2,rfl⟩:=h2;o!⟨a1,b1⟩:=sK k1;o!⟨y2,a2,b2⟩:=sE k2;e! ⟨.tick l p2.num y2,by unfold build;rw[n! (by dk!),n! (by dk!),n! (by dk!),n! (by dk!),n! (by dk!),n! (by dk!),n! (by dk!),if_pos rfl,b2,a1,a2,b1];rfl⟩
 ·rw[n! aq!] at h3;cases h3;o!⟨p1,k1,p2,k2,p3,k3,p4,k4,rfl⟩:=h2;o!⟨y1,a1,b1⟩:=sN k1;o!⟨y2,a2,b2⟩:=sN k2;o!⟨y3,a3,b3⟩:=sN k3;o!⟨y4,a4,b4⟩:=sE k4;e! ⟨.share l y1 y2 y3 y4,by unfold build;rw[n! (by dk!),n! (by dk!),n! (by dk!),n! (by dk!),n! (by dk!),n! (by dk!),n! (by dk!),n! (by dk!),if_pos rfl,b4,a3,a2,a1,a4,b3,b2,b1];rfl⟩
end
end Pay
namespace Pay
open PySem L2
open Vaamoa (isName ascii labelOf deepOf nodesOf textOf numberOf)
structure WY (P:Program) (w:World) (K:PySem.W.Frag) (mg:Str->Option Value) (a:Ad):Prop where
 Us:∃ d,mg "FORMS"=some (.ref d)/\KD P w K d Ho
t! Jr(t:Text):pM t=bg [41] t:=by
 cases t with
 | nil=>rfl
 | cons b r =>
  by_cases h:b=41
  ·subst h;rw[NI];e! (gu [41] r).symm
  ·unfold bg;show (if b=41 then some r else none)=_;rw[n! h,n!];intro z;o!⟨s,e⟩:=%bK z;cases e;e! h rfl
t! WZ(t:Text):([32]:Text).isPrefixOf t=decide (t.head?=some 32):=by
 cases t with
 | nil=>rfl
 | cons b r =>
  rw[%bl,%ct,decide_eq_true_eq];constructor
  ·rintro ⟨s,e⟩;cases e;rfl
  ·intro h;cases (%aD h:b=32);e! ⟨r,rfl⟩
section
variable {P:Program} {w:World} {K:PySem.W.Frag} {mg:Str->Option Value} {base:Heap} {a:Ad}
def Ut(a:Ad)(f:Nat):Sp:=λvs H Q E=>∃ r t i nl ps p dx nm pt l d sa,vs=[.ref r,.ref p]/\g7 a H r t i nl ps/\ps.length=l+1/\l+1<=60/\(t.drop i).head?=some 40/\d+1+f=10 /\
 H p=some (.ins a.bu dx bJ!)/\H nm=some aL!/\H pt=some aL!/\[r,nl,p,nm,pt].Nodup /\
 (∀ H' j e n' u qs x n L,Ij (gI f) l (t.drop i).tail=some (e,n',u)->g7 a H' r t j nl (ps++qs)->t.drop j=u->n'=(ps++qs).length->aA [r,nl,p,nm,pt] H H' ->
  H' p=some (.ins a.bu dx (DB (l:Nat) (d:Nat) (sa:Nat) (sa:Nat) x n nm pt))->(∀ ea:Nat,aY a (λb=>H b=none∨b=p∨b=nm∨b=pt) (upd H' p (.ins a.bu dx (DB (l:Nat) (d:Nat) (sa:Nat) (ea:Nat) x n nm pt))) e d p)->aT d e=(e,d)::L->eP a t bm! H' qs L->Q .fK H') /\
 (∀ H',Ij (gI f) l (t.drop i).tail=none->aA [r,nl,p,nm,pt] H H'->E a2! none H')
t! MD{f k:Nat}(T:eo K mg a)(Dc:WY P w K mg a)(hk:2<=k)(GP:aK P w K mg base (bA P w) k a.mP a.mQ bU! (QV a f)) :
  aK P w K mg base (bA P w) (k+1) a.pY a.pZ b1! (Ut a f):=by
 ~GT:aK P w K mg base (bA P w) k a.gx a.gy aH! (Jj a):=(Mz T).mono hk;~GW:FB! k a.bP a.bQ ["self"] (EJ a):=(Dy T).mono (by w!);~GS:FB! k a.fb a.fc aH! (Ji a):=(Hn T).mono (by w!);r! T.zF.kY Dd ab! aa!
 ·o!⟨r,t,i,nl,ps,p,dx,nm,pt,l,d,sa,rfl,_⟩:=h;rfl
 o!⟨r,t,i,nl,ps,p,dx,nm,pt,l,d,sa,rfl,R,hl,hl2,h40,hd,op,on,ot,nd,q1,q2⟩:=h;o!⟨fd,gF,kF⟩:=Dc.Us;r! ⟨_,af ak!
  (af (bf (pv 1) bC! rfl)
  (af (cE (jR (RH kF as! eN!) rfl) (ah ax!) bD)
  (af (lJ PassesOwn.leaving rfl (OL (Am kF eN! as! ar!)) (cb (i:=2) Dd.nd rfl al!)
   (af ak!
    (ah (aF (az GP hr rfl T.xE T.rC.kp T.xD .nil aB e7!)))))
  (af (cE (PW.pt (LY (bG i8 as! cN (cy _)) (Hc (qo (bH (pv 0) T.aN T.kQ GS hr T.kP .nil aM (aa cN ag))))))
   (af ak!
    (ah (aF (az GP hr rfl T.xE T.rC.kp T.xD .nil aB (aa (pv 0) (aa (pv 1) (aa cN ag)))))))
   bD)
  (ah ak!))))),?_⟩
 rw[s40,Zu,s41];~nd':=nd;simp only[List.nodup_cons,List.mem_cons,List.not_mem_nil,or_false,not_or] at nd';o!⟨⟨n1,n2,n3,n4⟩,⟨n5,n6,n7⟩,⟨n8,n9⟩,n10,_⟩:=nd';o!⟨d0,o0⟩:=R.obj;~et:t.drop i=40::(t.drop i).tail:=by
  cases z:t.drop i with
  | nil=>rw[z] at h40;cases h40
  | cons b u =>
   rw[z] at h40;cases (%aD h40:b=40);rfl
 ~e40:bg [40] at!=some (t.drop i).tail:=by
  conv=>lhs;rw[et]
  e! gu [40] _
 r! ⟨_,rfl,r,d0,_,rfl,o0,rfl,r,t,i,nl,ps,[40],rfl,R,λH1 u1 e1 R1 f1 k1=>?_,λe1=>by rw[e40] at e1;cases e1⟩;rw[e40] at e1;cases e1;o!⟨d1,o1⟩:=R1.obj;r! ⟨_,rfl,r,d1,_,rfl,o1,rfl,r,t,_,nl,ps,rfl,R1,λH2 j2 R2 f2 k2=>?_⟩;rw[←f1] at f2 ⊢;generalize hT:(t.drop i).tail=T0 at *;~kr:aA [r] H H2:=k1.trans k2;~op2:H2 p=_:=kr.keep _ _ op eU!;~on2:H2 nm=_:=kr.keep _ _ on eT!;~ot2:H2 pt=_:=kr.keep _ _ ot eS!;r! ⟨_,rfl,p,_,dx,_,rfl,op2,T.aG,T.bM,by show 8 < 1000;decide,?_⟩;~efs:nL "word" (V.str (strOf dv!)) bJ!=DB (l:Nat) (d:Nat) (sa:Nat) (sa:Nat) (strOf dv!) 0 nm pt:=rfl;rw[efs];~kS:aA [r,nl,p,nm,pt] H (upd H2 p (.ins a.bu dx a9!)):=(kr.mono up1).trans ch!;~o3:upd H2 p (HO.ins a.bu dx a9!) p=some (.ins a.bu dx a9!):=ae;r! ⟨_,rfl,p,_,dx,_,_,rfl,o3,T.aG,T.bM,rfl,.inr (strOf dv!),rfl,rfl,_,rfl,?_⟩;rw[LD];~fo:Ij (gI f) l T0=(formOf dv!).bind λls=>(pieces (gI f) ls ⟨[],0,[],l+1,off T0⟩).bind λq=>(more (gI f) dv! q).bind λz=>(pM z.rest).bind λr=>(build dv! l z).map λe=>(e,z.next,r):=rfl
 cases hf:formOf dv! with
 | none =>
  rw[hf] at fo;e! bO (q2 _ fo kS)
 | some ls =>
 rw[hf] at fo;simp only[Option.bind_some] at fo;r! bY ?_;r! ⟨_,rfl,p,_,dx,_,_,rfl,o3,T.aG,T.bM,rfl,.inr (strOf dv!),.str (lets ls),rfl,rfl,by rw[LD,hf];rfl,lets ls,rfl,?_⟩;~sm:H r≠none/\H nl≠none/\H p≠none/\H nm≠none/\H pt≠none:=⟨by rw[o0];simp,by rw[R.lst];simp,by rw[op];simp,by rw[on];simp,by rw[ot];simp⟩;~l5:=N7 hf;o!⟨d2,o2⟩:=R2.obj;~Z0:Pt a H (upd H2 p (.ins a.bu dx a9!)) r t nl ps p dx nm pt l d sa sa dv! ⟨[],0,[],l+1,off T0⟩:=by
  r! ⟨⟨j2,[],?_,f2,by simp[hl],trivial⟩,ae,by rw[ai dq!];e! on2,⟨[],by rw[ai dp!];e! ot2,trivial⟩,nd,⟨by show l+1<=60;w!,by simp,by simp⟩,sm⟩;rw[%bI];e! ⟨⟨d2,by rw[ai n2];e! o2⟩,by rw[ai n5];e! R2.lst,R2.le,R2.long,R2.sgn⟩
 ~szl:(lets ls).cps.size=ls.length:=by simp[lets]
 r! QW (λi σ H'=>∃ (v:Option V) (pc:yT),σ=[some (.ref r),some (.ref p),v]/\pieces (gI f) (ls.take i) ⟨[],0,[],l+1,off T0⟩=some pc/\Pt a H H' r t nl ps p dx nm pt l d sa sa dv! pc/\aA [r,nl,p,nm,pt] H H'/\pc.names.length<=i/\pc.parts.length<=i)
  ⟨none,_,rfl,rfl,Z0,kS,%aE _,%aE _⟩ ?_ ?_
 ·rintro i c0 σ H' hc ⟨v,pc,rfl,hp,Z,kk,g1,g2⟩;obtain ⟨c,ec,rfl⟩:∃ c,ls[i]?=some c/\c0=Py c:=by
   ~e:(lets ls).cps[i]?=(ls.map Py)[i]?:=by simp[lets]
   rw[e,%al] at hc;o!⟨c,h1,h2⟩:=%ab hc;e! ⟨c,h1,h2.symm⟩
  ~hi:i < ls.length:=(%ae ec).1;~tk:ls.take (i+1)=ls.take i++[c]:=by rw[%ay,ec];rfl
  ~snoc:pieces (gI f) (ls.take (i+1)) ⟨[],0,[],l+1,off T0⟩=bE (gI f) c pc:=by
   rw[tk,Cq,hp,%ax];show (bE (gI f) c pc).bind some=_;cases bE (gI f) c pc<;>rfl
  ~dead:bE (gI f) c pc=none->Ij (gI f) l T0=none:=λz=>by
   rw[fo];~e:ls=ls.take (i+1)++ls.drop (i+1):=(List.take_append_drop _ _).symm
   conv=>lhs;rw[e]
   rw[Cq,snoc,z];rfl
  o!⟨j,qs,Rj,er,en,al⟩:=Z.rd;o!⟨dj,oj⟩:=Rj.obj;r! ⟨_,rfl,r,dj,_,rfl,oj,rfl,r,t,j,nl,_,[32],rfl,Rj,λH3 u3 e3 R3 f3 k3=>?_,λe3=>q2 H' (dead ?_) kk⟩
  rotate_left
  ·rw[r6,xR,←er,e3];rfl
  ~Z3:=Z.read k3 R3 al en;~eu:iD pc.rest=some u3:=by rw[xR,←er,e3]
  rw[←f3] at Z3;r! ⟨_,rfl,_,rfl,_,rfl,H,r,t,nl,ps,p,dx,nm,pt,l,d,sa,sa,word T0,_,c,rfl,kk.trans (k3.mono up1),Z3,hd,by show pc.names.length<=9;w!,by show pc.parts.length<=9;w!,λH4 pc4 e4 Z4 k4=>?_,λH4 e4 k4=>q2 H4 (dead ?_) k4⟩
  rotate_left
  ·rw[r6,eu,%ax,e4]
  ~gr:=Ur e4;r! ⟨_,pc4,rfl,?_,Z4,k4,?_,?_⟩
  ·rw[snoc,r6,eu,%ax,e4]
  ·have:=gr.1;show pc4.names.length<=i+1;~h:({pc with rest:=u3}:yT).names.length=pc.names.length:=rfl;w!
  ·have:=gr.2;~h:({pc with rest:=u3}:yT).parts.length=pc.parts.length:=rfl;w!
 ·rintro σ H' ⟨v,pc,rfl,hp,Z,kk,g1,g2⟩;rw[szl,%bs] at hp;rw[szl] at g1 g2;rw[hp] at fo;simp only[Option.bind_some] at fo;~last:∀ (H5:Hp) (z:yT),more (gI f) dv! pc=some z->Pt a H H5 r t nl ps p dx nm pt l d sa sa dv! z->aA [r,nl,p,nm,pt] H H5 ->
    (WI (Ti a.da "take" (Jj a) [] E (i7 0) (ye (tC (V.str (strOf [41]))) Gs))) {nx:=λ_ H'=>Q .fK H',rt:=Q} [some (.ref r),some (.ref p),v] H5:=by
   intro H5 z hm Z5 k5;rw[hm] at fo;simp only[Option.bind_some] at fo;o!⟨j,qs,Rj,er,en,al⟩:=Z5.rd;o!⟨dj,oj⟩:=Rj.obj;r! ⟨_,rfl,r,dj,_,rfl,oj,rfl,r,t,j,nl,_,[41],rfl,Rj,λH6 u6 e6 R6 f6 k6=>?_,λe6=>q2 H5 ?_ k5⟩
   rotate_left
   ·rw[fo,Jr,←er,e6];rfl
   o!⟨e,he⟩:=PB (l:=l) hf hp hm;~Z6:=Z5.read k6 R6 al en;rw[Jr,←er,e6,he] at fo;~hz:word T0≠ascii "tick"->z.num=0:=λnt=>by
    ~m1:=Jq hp (Sn hf nt);~m2:z.num=pc.num:=by
     unfold more at hm;split at hm
     ·e! LF hm ag!
     ·cases hm;rfl
    rw[m2,m1]
   ~he6:build dv! l {z with rest:=t.drop (j+([41]:Text).length)}=some e:=by
    rw[←he];rfl
   o!⟨_,en6⟩:=WX Z6 he6 hz;o!⟨j7,q7,R7,er7,en7,al7⟩:=Z6.rd;e! q1 H6 j7 e z.next u6 q7 _ _ _ fo R7 (er7.trans f6.symm) en7 (k5.trans (k6.mono up1)) Z6.obj (λea=>(WX (Z6.ends ea) he6 hz).1) en6 al7
  o!⟨j,qs,Rj,er,en,al⟩:=Z.rd;o!⟨dj,oj⟩:=Rj.obj;~scall:%ad "call"=strOf cM!:=by dk!
  r! ⟨_,rfl,p,_,dx,_,_,rfl,Z.obj,T.aG,T.bM,rfl,rfl,_,rfl,?_⟩;~e1:decide (V.str (strOf dv!)=V.str (Str.ofString "call"))=decide (word T0=ascii "call"):=by rw[decide_eq_decide,V.str.injEq,scall,oR]
  rw[e1];by_cases c1:word T0=ascii "call"
  ·rw[decide_eq_true c1];r! bO ⟨_,rfl,r,dj,_,rfl,oj,rfl,r,t,j,nl,_,[32],rfl,Rj,_,rfl,?_⟩;rw[WZ];by_cases c2:(t.drop j).head?=some 32
   ·rw[decide_eq_true c2];~c2':pc.rest.head?=some 32:=by rw[←er];e! c2
    ~mo:more (gI f) dv! pc=bE (gI f) .E pc:=by unfold more;rw[if_pos ⟨c1,c2'⟩]
    r! bO ⟨_,rfl,r,dj,_,rfl,oj,rfl,r,t,j,nl,_,[32],rfl,Rj,λH3 u3 e3 R3 f3 k3=>?_,λe3=>q2 H' ?_ kk⟩
    rotate_left
    ·rw[fo,mo,r6,xR,←er,e3];rfl
    ~Z3:=Z.read k3 R3 al en;~eu:iD pc.rest=some u3:=by rw[xR,←er,e3]
    rw[←f3] at Z3;~sE:%ad "E"=(⟨#[Py .E]⟩:Str):=by dk!
    rw[sE];r! ⟨_,rfl,_,rfl,H,r,t,nl,ps,p,dx,nm,pt,l,d,sa,sa,word T0,_,.E,rfl,kk.trans (k3.mono up1),Z3,hd,by show pc.names.length<=9;w!,by show pc.parts.length<=9;w!,λH4 pc4 e4 Z4 k4=>?_,λH4 e4 k4=>q2 H4 ?_ k4⟩
    ·e! last H4 pc4 (by rw[mo,r6,eu,%ax,e4]) Z4 k4
    ·rw[fo,mo,r6,eu,%ax,e4];rfl
   ·rw[decide_eq_false c2];r! bY (last H' pc ?_ Z kk);unfold more;rw[n!];rintro ⟨_,y⟩;rw[←er] at y;e! c2 y
  ·rw[decide_eq_false c1];r! bY (bY (last H' pc ?_ Z kk));unfold more;rw[n! λy=>c1 y.1]
end
end Pay
namespace Pay
open PySem L2
open Vaamoa (isName ascii labelOf deepOf nodesOf textOf numberOf valueOf decimal)
t! Zd(t:Text):([40]:Text).isPrefixOf t=decide (t.head?=some 40):=by
 cases t with
 | nil=>rfl
 | cons b r =>
  rw[%bl,%ct,decide_eq_true_eq];constructor
  ·rintro ⟨s,e⟩;cases e;rfl
  ·intro h;cases (%aD h:b=40);e! ⟨r,rfl⟩
t! PD{x:Text}{k:Nat}(h:numberOf x=some k):intText? ap!=some (k:Int)/\x.length<=2:=by
 rw[FY] at h;split at h
 ·rename_i c
  cases h;r! ⟨(Jl ?_ c.1 c.2.1).1,c.1⟩;rintro rfl;e! absurd c.2.2 (by dk!)
 ·cases h
section
variable {P:Program} {w:World} {K:PySem.W.Frag} {mg:Str->Option Value} {base:Heap} {a:Ad}
def N8(a:Ad):Sp:=λvs H Q E=>∃ r t i nl ps p dx nm pt l d sa,vs=[.ref r,.ref p]/\g7 a H r t i nl ps/\ps.length=l+1 /\
 H p=some (.ins a.bu dx bJ!)/\H nm=some aL!/\H pt=some aL!/\[r,nl,p,nm,pt].Nodup /\
 (∀ H' j e n' u x n,single l at!=some (e,n',u)->g7 a H' r t j nl ps->t.drop j=u->n'=ps.length->aA [r,nl,p,nm,pt] H H' ->
  H' p=some (.ins a.bu dx (DB (l:Nat) (d:Nat) (sa:Nat) (sa:Nat) x n nm pt))->(∀ ea:Nat,aY a (λb=>H b=none∨b=p∨b=nm∨b=pt) (upd H' p (.ins a.bu dx (DB (l:Nat) (d:Nat) (sa:Nat) (ea:Nat) x n nm pt))) e d p)->aT d e=[(e,d)]->Q .fK H') /\
 (∀ H',single l at!=none->aA [r,nl,p,nm,pt] H H'->E a2! none H')
t! Js(T:eo K mg a)(Cn:SR P w K mg a):aK P w K mg base (bA P w) 2 a.kj a.ku b1! (N8 a):=by
 ~GW:FB! 1 a.bP a.bQ ["self"] (EJ a):=Dy T;~GN:FB! 1 a.rV a.rW ["word"] Jn:=Jo T Cn;~GM:FB! 1 a.pW a.pX ["word"] Jp:=MA T;r! T.vh.kY zh ab! aa!
 ·o!⟨r,t,i,nl,ps,p,dx,nm,pt,l,d,sa,rfl,_⟩:=h;rfl
 o!⟨r,t,i,nl,ps,p,dx,nm,pt,l,d,sa,rfl,R,hl,op,on,ot,nd,q1,q2⟩:=h;r! ⟨_,af (aE (i:=2) zh.nd rfl al! bC!)
  (ah (cE fq! (ah (bf (pv 1) cN rfl))
   (ah (cE (qo (az GM hr rfl T.FN T.zE.kp T.FL .nil aM au!))
    (af (bf (pv 1) cN rfl) (ah (bf (pv 1) (gL wN rfl T.Jh %cj au!) rfl)))
    (ah (cE (qo (az GN hr rfl T.EC T.AH.kp T.EA .nil aM au!))
     (af (bf (pv 1) cN rfl) (ah (aF (hG %ah %at %as cM as! au!))))
     (ah ax!))))))),?_⟩
 ~nd':=nd;simp only[List.nodup_cons,List.mem_cons,List.not_mem_nil,or_false,not_or] at nd';o!⟨⟨n1,n2,n3,n4⟩,⟨n5,n6,n7⟩,⟨n8,n9⟩,n10,_⟩:=nd';o!⟨d0,o0⟩:=R.obj;r! ⟨_,rfl,r,d0,_,rfl,o0,rfl,r,t,i,nl,ps,rfl,R,λH1 j R1 f1 k1=>?_⟩;~op1:H1 p=_:=k1.keep _ _ op eU!;~on1:H1 nm=_:=k1.keep _ _ on eT!;~ot1:H1 pt=_:=k1.keep _ _ ot eS!;o!⟨d1,o1⟩:=R1.obj;~sg:qm dh!:=((show qm t from R.sgn).drop i).word;~lw:=Dx at!;rw[%aU] at lw;~lng:=R.long;~so:single l at!=if word at!=ascii "nil" then some (.nil l,l+1,off at!) else match numberOf dh! with
  | some k=>some (.num l k,l+1,off at!)
  | none=>if isName dh!=true then some (.var l dh!,l+1,off at!) else none:=rfl
 generalize word at!=x at *;generalize off at!=o at *;~kS:=k1.mono (up1 (r:=r) (nl:=nl) (p:=p) (nm:=nm) (pt:=pt));~rdp:∀ {f:List (Str×V)},g7 a (upd H1 p (.ins a.bu dx f)) r t j nl ps:=⟨⟨d1,by rw[ai n2];e! o1⟩,by rw[ai n5];e! R1.lst,R1.le,R1.long,R1.sgn⟩;~snil:%ad "nil"=strOf dR!:=by dk!
 ~snum:%ad "number"=strOf eM!:=by dk!
 ~snam:%ad "name"=strOf ft!:=by dk!
 rw[snil,snum,snam];r! ⟨_,rfl,rfl,_,rfl,?_⟩;~e1:decide (V.str ap!=V.str (strOf dR!))=decide (x=ascii "nil"):=by rw[decide_eq_decide,V.str.injEq,oR]
 rw[e1];by_cases c1:x=ascii "nil"
 ·rw[decide_eq_true c1];rw[if_pos c1] at so;r! bO ⟨_,rfl,p,_,dx,_,rfl,op1,T.aG,T.bM,by show 8 < 1000;decide,?_⟩;r! q1 _ j (.nil l) _ _ _ _ so rdp f1 hl.symm (kS.trans ch!) ae (λea=>⟨dx,nm,pt,⟨_,_,ae⟩,by rw[ai dq!,ai dq!];e! on1,by rw[ai dp!,ai dp!];e! ot1,.inr aU!,.inr (.inr aU!),.inr (.inr dH!)⟩) rfl
 rw[decide_eq_false c1];rw[n! c1] at so;r! bY ⟨_,rfl,x,rfl,sg,by w!,_,rfl,?_⟩;cases c2:numberOf x with
 | some k =>
  rw[c2] at so;o!⟨en,ln⟩:=PD c2;r! bO ⟨_,rfl,p,_,dx,_,rfl,op1,T.aG,T.bM,by show 8 < 1000;decide,?_⟩;r! ⟨_,rfl,_,_,rfl,en,by rw[bh];w!,_,rfl,p,_,dx,_,rfl,ae,T.aG,T.dY,by show 8 < 1000;decide,?_⟩;rw[aC];r! q1 _ j (.num l k) _ _ _ _ so rdp f1 hl.symm (kS.trans ch!) ae (λea=>⟨dx,nm,pt,⟨_,_,ae⟩,by rw[ai dq!,ai dq!];e! on1,by rw[ai dp!,ai dp!];e! ot1,.inr aU!,.inr (.inr aU!),.inr (.inr dH!)⟩) rfl
 | none =>
  rw[c2] at so;r! bY ⟨_,rfl,x,rfl,sg,by w!,_,rfl,?_⟩;cases c3:isName x with
  | true =>
   rw[c3] at so;r! bO ⟨_,rfl,p,_,dx,_,rfl,op1,T.aG,T.bM,by show 8 < 1000;decide,?_⟩;~on2:upd H1 p (HO.ins a.bu dx (nL "word" (V.str (strOf ft!)) bJ!)) nm=some aL!:=by rw[ai dq!];e! on1
   r! ⟨_,rfl,p,_,dx,_,_,rfl,ae,T.aG,T.aP,rfl,.inl ⟨rfl,_,aX.of on2⟩,_,rfl,nm,_,_,rfl,rfl,on2,by show 0 < sizeLine;decide,?_⟩;r! q1 _ j (.var l x) _ _ _ _ so ⟨⟨d1,by rw[ai n3,ai n2];e! o1⟩,by rw[ai n6,ai n5];e! R1.lst,R1.le,R1.long,R1.sgn⟩ f1 hl.symm ((kS.trans ch!).trans ch!)
    (by rw[ai n8];e! ae) (λea=>⟨dx,nm,pt,⟨_,_,ae⟩,by rw[ai dq!];e! ae,by rw[ai dp!,ai (Ne.symm n10),ai dp!];e! ot1,.inr aU!,.inr (.inr aU!),.inr (.inr dH!)⟩) rfl
  | false =>
   rw[c3] at so;e! bY (q2 H1 so kS)
t! Cr(T:eo K mg a)(Cn:SR P w K mg a)(Dc:WY P w K mg a):∀ f:Nat,aK P w K mg base (bA P w) (3 * f+3) a.eM a.eO ds! (Pz a f):=by
 intro f
 induction f with
 | zero =>
  r! (T.fZ.kY (k:=1) lO ab! aa!).mono (by w!)
  ·o!⟨r,t,i,nl,ps,d,rfl,_⟩:=h;rfl
  o!⟨r,t,i,nl,ps,d,rfl,R,hp,hd,q1,q2⟩:=h;o!⟨t1,g1⟩:=T.wz;o!⟨t2,g2⟩:=T.m9;r! ⟨_,af (cE (PW.pt (Fj (bG WM (pv 1) dK! (cy _)) (BG (bG i8 a5! (aQ (v:=.int 60) rfl g2 ⟨t2,rfl⟩) (cy _)))))
   (ah ax!) bD) Rm,?_⟩
  r! ⟨_,rfl,_,_,rfl,rfl,_,rfl,?_⟩;rw[decide_eq_true (show (9:Int) < (d:Nat) by w!)];e! bO (bO (q2 H rfl (aA.refl _ _)))
 | succ f ih =>
  ~GP:=Kf (f:=f) T Cn (by w!) ih;~GF:=MD (f:=f) T Dc (by w!) GP;~GF':aK P w K mg base (bA P w) (3 * f+5) a.pY a.pZ b1! (Ut a f):=GF.mono (by w!);~GS:aK P w K mg base (bA P w) (3 * f+5) a.kj a.ku b1! (N8 a):=(Js T Cn).mono (by w!);~GV:FB! (3 * f+5) a.fb a.fc aH! (Ji a):=(Hn T).mono (by w!);~GI:FB! (3 * f+4) a.pU a.pV be! (QS a):=(V8 T).mono (by w!);r! (T.fZ.kY (k:=3 * f+5) lO ab! aa!).mono (by w!)
  ·o!⟨r,t,i,nl,ps,d,rfl,_⟩:=h;rfl
  o!⟨r,t,i,nl,ps,d,rfl,R,hp,hd,q1,q2⟩:=h;o!⟨t1,g1⟩:=T.wz;o!⟨t2,g2⟩:=T.m9;r! ⟨_,af (cE (PW.pt (Fj (bG WM (pv 1) dK! (cy _)) (BG (bG i8 a5! (aQ (v:=.int 60) rfl g2 ⟨t2,rfl⟩) (cy _)))))
   (ah ax!) bD)
   (af (aE (i:=2) lO.nd rfl al! (eI T.FE GI hr rfl T.EH T.FD .nil aM (aa a5! (aa (pv 1) eF!))))
   (af (aF (hG %ah %at %as cM ad! au!))
   (af (cE (qo (bH (pv 0) T.aN T.kQ GV hr T.kP .nil aM (aa cN ag)))
    (ah (aF (az GF' hr rfl T.FP T.zF.kp T.FO .nil aB (aa (pv 0) au!))))
    (ah (aF (az GS hr rfl T.Bm T.vh.kp T.Bl .nil aB (aa (pv 0) au!)))))
   (af (bf (pv 2) ad! rfl) (ah gf!))))),?_⟩
  rw[s40];o!⟨d0,o0⟩:=R.obj;r! ⟨_,rfl,_,_,rfl,rfl,_,rfl,?_⟩;rw[decide_eq_false (show ¬ (9:Int) < (d:Nat) by w!)];r! bY ⟨_,rfl,r,_,d0,_,_,rfl,o0,T.aN,T.eE,rfl,nl,_,rfl,.inl (aX.of R.lst),rfl,_,rfl,?_⟩;~e1:decide (V.int (((ps.map V.ref).length:Nat):Int)=V.int 60)=decide (60<=ps.length):=by
   rw[decide_eq_decide,V.int.injEq,%ac];w!
  rw[e1];~rw1:gI (f+1) ps.length at!=if 60<=ps.length then none else if (t.drop i).head?=some 40 then Ij (gI f) ps.length (t.drop i).tail else single ps.length at!:=rfl
  by_cases c60:60<=ps.length
  ·rw[decide_eq_true c60];rw[if_pos c60] at rw1;e! bO (q2 H rw1 (aA.refl _ _))
  rw[decide_eq_false c60];rw[n! c60] at rw1;r! bY ?_;r! ⟨_,rfl,r,_,d0,_,_,rfl,o0,T.aN,T.eE,rfl,nl,_,rfl,.inl (aX.of R.lst),_,rfl,_,rfl,r,_,d0,_,_,rfl,o0,T.aN,T.bx,rfl,λp dx np ndx ndp=>?_⟩;r! ⟨p,dx,_,_,_,rfl,ae,λnm pt hnm hpt hne=>⟨rfl,?_⟩⟩;rw[%ac];~M0:bc H (made H p dx a.bu []):=bF np ndx;o!⟨hnm0,nm1,nm2⟩:=wA (C:=a.bu) (f:=[]) (show made H p dx a.bu [] nm=none from hnm);o!⟨hpt0,pt1,pt2⟩:=wA (C:=a.bu) (f:=[]) (show made H p dx a.bu [] pt=none from hpt);generalize hH2:upd (upd (upd (upd (upd H dx (.own p)) p (.ins a.bu dx [])) nm aL!) pt aL!) p bM!=H2;~S2:bc H H2:=λb o e=>by
   rw[←hH2,ai (aq e np),ai (aq e hpt0),ai (aq e hnm0)];e! M0 b o e
  ~op2:H2 p=some bM!:=by rw[←hH2];e! ae
  ~on2:H2 nm=some aL!:=by rw[←hH2,ai nm1,ai hne];e! ae
  ~ot2:H2 pt=some aL!:=by rw[←hH2,ai pt1];e! ae
  ~ndup:[r,nl,p,nm,pt].Nodup:=by
   simp only[List.nodup_cons,List.mem_cons,List.not_mem_nil,or_false,not_or,not_false_eq_true,and_true,List.nodup_nil];e! ⟨⟨SV o0 R.lst cZ!,aq o0 np,aq o0 hnm0,aq o0 hpt0⟩,⟨aq R.lst np,aq R.lst hnm0,aq R.lst hpt0⟩,⟨Ne.symm nm1,Ne.symm pt1⟩,hne⟩
  ~nd':=ndup;simp only[List.nodup_cons,List.mem_cons,List.not_mem_nil,or_false,not_or] at nd';o!⟨⟨n1,n2,n3,n4⟩,⟨n5,n6,n7⟩,⟨n8,n9⟩,n10,_⟩:=nd';~R2:=R.same S2;~lst2:=R2.lst;r! ⟨_,rfl,r,_,d0,_,_,rfl,S2 _ _ o0,T.aN,T.eE,rfl,.inl ⟨rfl,_,aX.of lst2⟩,_,rfl,nl,_,_,rfl,rfl,lst2,by rw[%ac];e! %ai hp ag!,?_⟩;generalize hH3:upd H2 nl (.lst (ps.map V.ref++[V.ref p]))=H3;~R3:g7 a H3 r t i nl (ps++[p]):=⟨⟨d0,by rw[←hH3,ai n1];e! S2 _ _ o0⟩,by rw[←hH3,ae];simp,R.le,R.long,R.sgn⟩;~op3:H3 p=some bM!:=by rw[←hH3,ai (Ne.symm n5)];e! op2
  ~on3:H3 nm=some aL!:=by rw[←hH3,ai (Ne.symm n6)];e! on2
  ~ot3:H3 pt=some aL!:=by rw[←hH3,ai (Ne.symm n7)];e! ot2
  ~K3:aA [r,nl] H H3:=(aA.of_same S2).trans (by rw[←hH3];e! aA.upd ai!);~back:∀ H',aA [r,nl,p,nm,pt] H3 H'->aA [r,nl] H H':=λH' k=>⟨λb o e n=>k.keep b o (K3.keep b o e n) λz=>by
   simp only[List.mem_cons,List.not_mem_nil,or_false] at z n;rcases z with z | z | z | z | z
   ·e! n (.inl z)
   ·e! n (.inr z)
   ·e! aq e np z
   ·e! aq e hnm0 z
   ·e! aq e hpt0 z,λb o e=>let ⟨o',e'⟩:=K3.live b o e;k.live b o' e'⟩
  ~okw:∀ b,(H3 b=none∨b=p∨b=nm∨b=pt)->H b=none:=λb h=>by
   rcases h with h | rfl | rfl | rfl
   ·e! K3.none h
   ·e! np
   ·e! hnm0
   ·e! hpt0
  o!⟨d3,o3⟩:=R3.obj;~fin:∀ (H4:Hp) (j:Nat) (e:Ex) (n':Nat) (u:Text) (qs:List Addr) (x:Str) (n:Int) (L:List (Ex×Nat)),gI (f+1) ps.length at!=some (e,n',u)->g7 a H4 r t j nl (ps++[p]++qs)->t.drop j=u->n'=(ps++[p]++qs).length->aA [r,nl,p,nm,pt] H3 H4 ->
    H4 p=some (.ins a.bu dx (DB (ps.length:Nat) (d:Nat) (i:Nat) (i:Nat) x n nm pt))->(∀ ea:Nat,aY a (λb=>H3 b=none∨b=p∨b=nm∨b=pt) (upd H4 p (.ins a.bu dx (DB (ps.length:Nat) (d:Nat) (i:Nat) (ea:Nat) x n nm pt))) e d p)->aT d e=(e,d)::L->eP a t (λb=>H3 b=none) H4 qs L ->
    (Vs (YL K (i7 2) (wK K (i7 0) "place") "ends_at") (Rl (i7 2))) {nx:=λ_ H'=>Q .fK H',rt:=Q} [some (.ref r),some (.int (d:Nat)),some (.ref p)] H4:=by
   intro H4 j e n' u qs x n L e4 R4 f4 h4 k4 op4 N4 en4 A4;o!⟨d4,o4⟩:=R4.obj;r! ⟨_,rfl,r,_,d4,_,_,rfl,o4,T.aN,T.bx,rfl,_,rfl,p,_,dx,_,rfl,op4,T.aG,T.gZ,by show 8 < 1000;decide,?_⟩;~efs:nL "ends_at" (V.int (j:Nat)) (DB (ps.length:Nat) (d:Nat) (i:Nat) (i:Nat) x n nm pt)=DB (ps.length:Nat) (d:Nat) (i:Nat) (j:Nat) x n nm pt:=rfl;rw[efs];generalize hH5:upd H4 p (.ins a.bu dx (DB (ps.length:Nat) (d:Nat) (i:Nat) (j:Nat) x n nm pt))=H5;~N5:=(N4 j).turn (ok':=λb=>H b=none) du! okw;rw[hH5] at N5;~hs:=(Ao (f+1) _ _ _ _ _ e4).1;~ej:j=i+(textOf e).length:=by
    ~h1:=congrArg %bR hs;rw[←f4,%aq,%aU,%aU] at h1;~h2:=R.le;~h3:=R4.le;w!
   ~kk:∀ b o,H3 b=none->H4 b=some o->H5 b=some o:=λb o hb e=>by
    rw[←hH5,ai λz=>by rw[z,op3] at hb;cases hb];e! e
   ~K5:aA [r,nl,p,nm,pt] H3 H5:=k4.trans (by rw[←hH5];e! aA.upd ai!);rw[%cD] at R4 h4;r! ⟨_,rfl,q1 H5 j e n' u p ([p]++qs) e4 ⟨⟨d4,by rw[←hH5,ai n2];e! o4⟩,by rw[←hH5,ai n5];e! R4.lst,R4.le,R4.long,R4.sgn⟩ f4 h4 (back H5 K5) N5 ?_⟩;rw[en4];e! ⟨⟨N5,dx,_,_,i,_,_,nm,pt,by rw[←ej,←hH5];e! ae,np,_,hs⟩,A4.turn kk λb h=>K3.none h⟩
  r! ⟨_,rfl,r,d3,_,rfl,o3,rfl,r,t,i,nl,_,[40],rfl,R3,_,rfl,?_⟩;rw[Zd];by_cases c40:(t.drop i).head?=some 40
  ·rw[decide_eq_true c40];rw[if_pos c40] at rw1;r! bO ⟨_,rfl,_,rfl,r,t,i,nl,ps++[p],p,dx,nm,pt,ps.length,d,i,rfl,R3,by simp,by w!,c40,by w!,op3,on3,ot3,ndup,λH4 j e n' u qs x n L e4 R4 f4 h4 k4 op4 N4 en4 A4=>?_,λH4 e4 k4=>q2 H4 (rw1.trans e4) (back H4 k4)⟩;e! fin H4 j e n' u qs x n L (rw1.trans e4) R4 f4 h4 k4 op4 N4 en4 A4
  ·rw[decide_eq_false c40];rw[n! c40] at rw1;r! bY ⟨_,rfl,_,rfl,r,t,i,nl,ps++[p],p,dx,nm,pt,ps.length,d,i,rfl,R3,by simp,op3,on3,ot3,ndup,λH4 j e n' u x n e4 R4 f4 h4 k4 op4 N4 en4=>?_,λH4 e4 k4=>q2 H4 (rw1.trans e4) (back H4 k4)⟩;e! fin H4 j e n' u [] x n [] (rw1.trans e4) (by rw[%bI];e! R4) f4 (by rw[%bI];e! h4) k4 op4 N4 en4 trivial
end
end Pay
namespace Pay
open PySem L2
open Vaamoa (isName ascii distinct Param)
def g8(a:Ad)(ok:Addr->Prop)(H:Hp):List Addr->List Param->Prop
 | [],[]=>True
 | p::ps,q::qs=>DC a H p q/\ok p/\g8 a ok H ps qs
 | _,_=>False
structure mz (a:Ad) (ok:Addr->Prop) (H:Hp) (p:Addr) (f:Vaamoa.Fun):Prop where
 ex:∃ dx pl qs bp,H p=some (.ins a.cZ dx (Sl [.str (strOf f.name),.ref pl,bT f.result,.ref bp]))/\H pl=some (.lst (qs.map V.ref))/\g8 a ok H qs f.params/\aY a ok H f.body 0 bp/\ok p/\ok pl
section
variable {P:Program} {w:World} {K:PySem.W.Frag} {mg:Str->Option Value} {base:Heap} {a:Ad} {ok ok':Addr->Prop} {H H':Hp}
t! g8.turn(k:∀ b o,ok b->H b=some o->H' b=some o)(m:∀ b,ok b->ok' b):∀ {ps:List Addr} {qs:List Param},g8 a ok H ps qs->g8 a ok' H' ps qs
 | [],[],_=>trivial
 | _::_,_::_,h=>let ⟨⟨dx,e⟩,o,r⟩:=h;⟨⟨dx,k _ _ o e⟩,m _ o,g8.turn k m r⟩
 | [],_::_,h=>h.elim
 | _::_,[],h=>h.elim
t! g8.len:∀ {ps:List Addr} {qs:List Param},g8 a ok H ps qs->ps.length=qs.length
 | [],[],_=>rfl
 | _::_,_::_,h=>congrArg (·+1) (g8.len h.2.2)
 | [],_::_,h=>h.elim
 | _::_,[],h=>h.elim
t! g8.at:∀ {ps:List Addr} {qs:List Param} {i:Nat} {p:Addr},g8 a ok H ps qs->ps[i]?=some p->∃ q,qs[i]?=some q/\DC a H p q/\ok p
 | [],[],_,_,_,e=>by simp at e
 | p::_,q::_,0,_,h,e=>by simp at e;subst e;e! ⟨q,rfl,h.1,h.2.1⟩
 | _::_,_::_,i+1,_,h,e=>by
  o!⟨q,e',r⟩:=g8.at (i:=i) h.2.2 eg!;e! ⟨q,by simpa using e',r⟩
 | [],_::_,_,_,h,_=>h.elim
 | _::_,[],_,_,h,_=>h.elim
t! mz.turn{p:Addr}{f:%aQ}(h:mz a ok H p f)(k:∀ b o,ok b->H b=some o->H' b=some o)(m:∀ b,ok b->ok' b):mz a ok' H' p f:=by
 o!⟨dx,pl,qs,bp,h1,h2,h3,h4,h5,h6⟩:=h.ex;e! ⟨dx,pl,qs,bp,k _ _ h5 h1,k _ _ h6 h2,h3.turn k m,h4.turn k m,m _ h5,m _ h6⟩
t! aA.fresh{S F:List Addr}{H H1 H2:Hp}(x:aA S H H1)(y:aA (F++S) H1 H2)(h:∀ b∈F,H b=Option.none):aA S H H2 :=
 ⟨λb o e n=>y.keep b o (x.keep b o e n) λz=>(%bA z).elim (λz=>by have:=h b z;rw[e] at this;cases this) n,λb o e=>let ⟨o',e'⟩:=x.live b o e;y.live b o' e'⟩
t! Uu{a:Ad}{ok:Addr->Prop}{H:Hp}{ps:List Addr}{qs:List Param}{i:Nat}{p:Addr}(h:g8 a ok H ps qs)(e:ps[i]?=some p):∃ x dx k,(qs.map λq=>q.name)[i]?=some x/\H p=some (.ins a.dA dx (Sk [k,.str ap!])):=by
 o!⟨q,e1,⟨dx,e2⟩,_⟩:=h.at e;e! ⟨q.name,dx,_,by rw[%al,e1];rfl,e2⟩
t! kU{α β:Type}{f:α->β}{l:List α}{i:Nat}{x:α}(e:l[i]?=some x):(l.take i).map f++[f x]=(l.take (i+1)).map f:=by
 rw[%ay,e,%bd];rfl
t! zM{σ:St}{H:Hp}{A B:Hp->Prop}(h:A H):HM σ H λb H3=>if b=true then A H3 else B H3:=(bO h:if true=true then A H else B H)
t! zb7:%ad "(fun "=strOf (ascii "(fun "):=by dk!
t! sSO:%ad " ("=strOf (ascii " ("):=by dk!
t! sCS:%ad ") "=strOf (ascii ") "):=by dk!
t! sCN:%ad ")\n"=strOf [41,10]:=by dk!
def W0(a:Ad):Sp:=λvs H Q E=>∃ r t i nl ps,vs=[.ref r]/\g7 a H r t i nl ps/\ps.length<=60 /\
 (∀ H' j f n' u p qs,uK ps.length at!=some (f,n',u)->g7 a H' r t j nl (ps++qs)->t.drop j=u->n'=(ps++qs).length->aA [r,nl] H H' ->
  mz a bm! H' p f->eP a t bm! H' qs (aT 0 f.body)->Q (.ref p) H') /\
 (∀ H',uK ps.length at!=none->aA [r,nl] H H'->E a2! none H')
t! EM(T:eo K mg a)(Cn:SR P w K mg a)(Dc:WY P w K mg a):aK P w K mg base (bA P w) 34 a.fL a.iN a8! (W0 a):=by
 ~GT:aK P w K mg base (bA P w) 33 a.gx a.gy aH! (Jj a):=(Mz T).mono ag!;~GS:FB! 33 a.fb a.fc aH! (Ji a):=(Hn T).mono ag!;~GN:aK P w K mg base (bA P w) 33 a.ji a.jj a8! (MB a):=(xQ T Cn).mono ag!;~GK:aK P w K mg base (bA P w) 33 a.mq a.mr a8! (Pw a):=(DA T).mono ag!;~GP:aK P w K mg base (bA P w) 33 a.gT a.gU a8! (QU a):=(DD T Cn).mono ag!;~GD:aK P w K mg base (bA P w) 33 a.fh a.fi ["names"] (EK K a):=(uy T).mono ag!;~GE:aK P w K mg base (bA P w) 33 a.eM a.eO ds! (Pz a 10):=Cr T Cn Dc 10;~GI:FB! 32 a.iH a.iI a3! (jQ a.cZ 4 Sl):=(N6 T).mono ag!;r! T.qE.kY dM ab! aa!
 ·o!⟨r,t,i,nl,ps,rfl,_⟩:=h;rfl
 o!⟨r,t,i,nl,ps,rfl,R,hp,q1,q2⟩:=h;~fo:uK ps.length at!=(bg (ascii "(fun ") at!).bind λt1=>(ig t1).bind λx=>(bg (ascii " (") x.2).bind λt2=>(wQ t2).bind λqs =>
  if distinct (qs.1.map λq=>q.name)=false then none else (bg (ascii ") ") qs.2).bind λt3=>(mE t3).bind λk=>(bg [32] k.2).bind λt4 =>
   (gI 10 ps.length t4).bind λb=>(bg [41,10] b.2.2).map λt5=>(⟨x.1,qs.1,k.1,b.1⟩,b.2.1,t5):=rfl
 ~TL:∃ tl,MZ (gp (bA P w) P w K mg base ["reader","name","parameters","result","body","parameter"] "read_function" (au iF) a.fL cdv A outer s H E) ((kX iF).drop 5) tl /\
   ∀ (H5:Hp) (j5:Nat) (x:Text) (AX:List Param) (pl:Addr) (ks:List Addr),g7 a H5 r t j5 nl ps->aA [r,nl] H H5->isName x=true->H pl=none->H5 pl=some cU!->g8 a bm! H5 ks AX->AX.length<=2 ->
    (uK ps.length at!=if distinct (AX.map λq=>q.name)=false then none else (bg (ascii ") ") (t.drop j5)).bind λt3=>(mE t3).bind λk=>(bg [32] k.2).bind λt4 =>
     (gI 10 ps.length t4).bind λb=>(bg [41,10] b.2.2).map λt5=>(⟨x,AX,k.1,b.1⟩,b.2.1,t5)) ->
    tl {nx:=λ_ H'=>Q .fK H',rt:=Q} [some (.ref r),some f4!,some (.ref pl),none,none,none] H5:=by
  r! ⟨_,af (aF (az GD hr rfl T.oJ T.jJ.kp T.oI .nil aB (aa (HP (own:=[("parameter",5)]) (te:=wK K (i7 5) "name") (g:=nM 5) (tt:=HM) rfl dM.nd (fR (pv 2)) (i9 rfl) (λ_ _ _ _ _=>cb (i:=5) dM.nd rfl al!) cG! (λ_ _ _ _ _=>ao (pv 5) rfl)) ag)))
  (af ak!
  (af (aE (i:=3) dM.nd rfl al! (az GK hr rfl T.zD T.uk.kp T.zC .nil aB aP!))
  (af ak!
  (af (aE (i:=4) dM.nd rfl al! (az GE hr rfl T.m6 T.fZ.kp T.mZ .nil aB (aa (pv 0) (aa aI ag))))
  (af ak!
  (ah (aH (eI T.yj GI hr rfl T.oQ T.yi .nil aM (aa (pv 1) (aa (pv 2) (aa (pv 3) d2!))))))))))),?_⟩
  intro H5 j5 x AX pl ks R5 K5 nx npl opl AP lp fo;rw[sCS,Zu,sCN];~lk:=AP.len;r! ⟨_,rfl,pl,rfl,⟨_,aX.of opl⟩,λD nD=>?_⟩;~neD:pl≠D:=aq opl nD;r! ra (K:=K) (a:=pl) (xs:=ks.map V.ref) (λn H'=>H' D=some (.lst (((AX.map λq=>q.name).take n).map λy=>V.str bX!))/\bc H5 H') ⟨ae,ay nD _⟩ (λn H' _ h=>aX.of (h.2 _ _ opl)) ?_ ?_
  ·rintro n y H' hy ⟨oD,sm⟩;rw[%al] at hy;o!⟨k,ek,rfl⟩:=%ab hy;o!⟨nm,dx,kd,en,ok⟩:=Uu AP ek;~nk:k≠D:=aq ok nD;~ok':=sm _ _ ok;r! ⟨rfl,zM ?_⟩;r! ⟨_,rfl,k,_,dx,_,_,rfl,ok',T.fe,T.dU,rfl,_,oD,?_,?_,λb o e=>?_⟩
   ·rw[%ac,%aH];e! %ai (%bY _ _) (by rw[%ac];e! %ai lp ag!)
   ·rw[ae,kU en]
   ·rw[ai eB!];e! sm b o e
  ·rintro H6 ⟨oD,sm⟩;~eT:(AX.map λq=>q.name).take (ks.map V.ref).length=AX.map λq=>q.name:=%aC e1!
   rw[eT] at oD;~S6:bc H5 H6:=sm;r! ⟨D,AX.map λq=>q.name,rfl,aX.of oD,by rw[%ac];w!,λdi H7 S7=>?_,λdi H7 S7=>?_⟩
   rotate_left
   ·rw[if_pos di] at fo;e! q2 H7 fo (K5.trans (aA.of_same f0!))
   rw[n! (by rw[di];decide)] at fo;~S57:=S6.trans S7;~R7:=R5.same S57;~K7:aA [r,nl] H H7:=K5.trans (aA.of_same S57);o!⟨d7,o7⟩:=R7.obj;~opl7:=S57 _ _ opl;~AP7:g8 a bm! H7 ks AX:=AP.turn (λb o _ e=>S57 b o e) λ_ h=>h
   ~nr:r≠pl:=aq R.obj.choose_spec npl;~nn:nl≠pl:=aq R.lst npl;r! ⟨_,rfl,r,d7,_,rfl,o7,rfl,r,t,j5,nl,ps,ascii ") ",rfl,R7,λH8 u8 e8 R8 f8 k8=>?_,λe8=>?_⟩
   rotate_left
   ·rw[e8] at fo;e! q2 H7 fo K7
   rw[e8] at fo;simp only[Option.bind_some] at fo;~K8:=K7.trans (k8.mono (show ∀ b∈[r],b∈[r,nl] from λb h=>by simp at h;simp[h]));~out:∀ {b:Addr},H b=none->b∉[r,nl]:=λ{b} h m=>by
    simp only[List.mem_cons,List.not_mem_nil,or_false] at m;rcases m with rfl | rfl
    ·e! absurd h (by rw[R.obj.choose_spec];simp)
    ·e! absurd h (by rw[R.lst];simp)
   ~go:∀ {S:List Addr} {Ha Hb:Hp},aA S Ha Hb->(∀ b∈S,b∈[r,nl])->∀ b o,H b=none->Ha b=some o->Hb b=some o:=λk m b o hb e=>k.keep b o e λz=>out hb (m b z)
   ~m1:∀ b∈[r],b∈[r,nl]:=λb h=>by simp at h;simp[h]
   r! ⟨_,rfl,r,t,_,nl,ps,rfl,R8,λH9 j9 kd u9 e9 R9 f9 k9=>?_,λH9 e9 k9=>?_⟩
   rotate_left
   ·rw[f8,e9] at fo;e! q2 H9 fo (K8.trans (k9.mono m1))
   rw[f8,e9] at fo;simp only[Option.bind_some] at fo;~K9:=K8.trans (k9.mono m1);o!⟨d9,o9⟩:=R9.obj;r! ⟨_,rfl,r,d9,_,rfl,o9,rfl,r,t,j9,nl,ps,[32],rfl,R9,λHA uA eA RA fA kA=>?_,λeA=>?_⟩
   rotate_left
   ·rw[←f9,eA] at fo;e! q2 H9 fo K9
   rw[←f9,eA] at fo;simp only[Option.bind_some] at fo;~KA:=K9.trans (kA.mono m1);r! ⟨_,rfl,r,t,_,nl,ps,0,rfl,RA,hp,rfl,λHB jB e n' uB bp qs eB RB fB hB kB NB AB=>?_,λHB eB kB=>?_⟩
   rotate_left
   ·rw[fA,eB] at fo;e! q2 HB fo (KA.trans kB)
   rw[fA,eB] at fo;simp only[Option.bind_some] at fo;~KB:=KA.trans kB;o!⟨dB,oB⟩:=RB.obj;r! ⟨_,rfl,r,dB,_,rfl,oB,rfl,r,t,jB,nl,_,[41,10],rfl,RB,λHC uC eC RC fC kC=>?_,λeC=>?_⟩
   rotate_left
   ·rw[←fB,eC] at fo;e! q2 HB fo KB
   rw[←fB,eC] at fo;~KC:=KB.trans (kC.mono m1);r! ⟨_,rfl,_,rfl,_,rfl,_,rfl,λp dx np ndx ne=>?_⟩;r! ⟨p,dx,[_,_,_,_],rfl,rfl,ae,rfl,?_⟩;rw[aC];~sm2:bc HC (made HC p dx a.cZ dG!):=bF np ndx;~m2:∀ b∈[r,nl],b∈[r,nl]:=λ_ h=>h
   ~all7:∀ b o,H b=none->H7 b=some o->made HC p dx a.cZ dG! b=some o:=λb o hb e =>
    sm2 b o (go kC m1 b o hb (go kB m2 b o hb (go kA m1 b o hb (go k9 m1 b o hb (go k8 m1 b o hb e)))))
   ~allB:∀ b o,HA b=none->HB b=some o->made HC p dx a.cZ dG! b=some o:=λb o hb e =>
    sm2 b o (go kC m1 b o (KA.none hb) e)
   r! q1 _ _ ⟨x,AX,kd,e⟩ n' uC p qs fo (RC.same sm2) fC.symm hB (KC.same sm2) ⟨dx,pl,ks,bp,AJ,all7 _ _ npl opl7,AP7.turn all7 λ_ h=>h,NB.turn allB λb h=>KA.none h,KC.none np,npl⟩ (AB.turn allB λb h=>KA.none h)
 o!⟨tl,hT,hR⟩:=TL;r! ⟨_,af ak!
  (af (aE (i:=1) dM.nd rfl al! c0!)
  (af ak!
  (af (aE (i:=2) dM.nd rfl al! (cz (aa (az GP hr rfl T.oH T.jI.kp T.oG .nil aB aP!) ag)))
  (af (cE (qo (bH (pv 0) T.aN T.kQ GS hr T.kP .nil aM (aa cN ag)))
   (af ak!
    (ah (aF (hG %ah %at %as cM (pv 2) (aa (az GP hr rfl T.oH T.jI.kp T.oG .nil aB aP!) ag)))))
   bD) hT)))),?_⟩
 rw[zb7,sSO,Zu];o!⟨d0,o0⟩:=R.obj;~m1:∀ b∈[r],b∈[r,nl]:=λb h=>by simp at h;simp[h]
 r! ⟨_,rfl,r,d0,_,rfl,o0,rfl,r,t,i,nl,ps,ascii "(fun ",rfl,R,λH1 u1 e1 R1 f1 k1=>?_,λe1=>?_⟩
 rotate_left
 ·rw[e1] at fo;e! q2 H fo (aA.refl _ _)
 rw[e1] at fo;simp only[Option.bind_some] at fo;~K1:aA [r,nl] H H1:=k1.mono m1;r! ⟨_,rfl,r,t,_,nl,ps,rfl,R1,λH2 j2 x u2 e2 R2 f2 k2=>?_,λH2 e2 k2=>?_⟩
 rotate_left
 ·rw[f1,e2] at fo;e! q2 H2 fo (K1.trans (k2.mono m1))
 o!⟨_,nx⟩:=wU e2;rw[f1,e2] at fo;simp only[Option.bind_some] at fo;~K2:=K1.trans (k2.mono m1);o!⟨d2,o2⟩:=R2.obj;r! ⟨_,rfl,r,d2,_,rfl,o2,rfl,r,t,j2,nl,ps,ascii " (",rfl,R2,λH3 u3 e3 R3 f3 k3=>?_,λe3=>?_⟩
 rotate_left
 ·rw[←f2,e3] at fo;e! q2 H2 fo K2
 rw[←f2,e3] at fo;simp only[Option.bind_some] at fo;~K3:=K2.trans (k3.mono m1);~po:wQ u3=(dH u3).bind λq=>if q.2.head?=some 32 then (dH q.2.tail).map λr=>([q.1,r.1],r.2) else some ([q.1],q.2):=rfl
 rw[po] at fo;r! ⟨_,rfl,r,t,_,nl,ps,rfl,R3,λH4 j4 q4 u4 p4 e4 R4 f4 k4 P4 n4=>?_,λH4 e4 k4=>?_⟩
 rotate_left
 ·rw[f3,e4] at fo;e! q2 H4 fo (K3.trans (k4.mono m1))
 rw[f3,e4] at fo;simp only[Option.bind_some] at fo;~K4:=K3.trans (k4.mono m1);r! ⟨by show 1<=sizeLine;decide,λpl npl=>?_⟩;~npl0:H pl=none:=K4.none npl;~np4:H p4=none:=K3.none n4;~K5:aA [r,nl] H (upd H4 pl ew!):=K4.trans (aA.new npl);~S5:=ay npl ew!;~R5:=R4.same S5;o!⟨d5,o5⟩:=R5.obj;~P5:DC a (upd H4 pl ew!) p4 q4:=let ⟨dx,e⟩:=P4;⟨dx,S5 _ _ e⟩
 r! ⟨_,rfl,r,d5,_,rfl,o5,rfl,r,t,j4,nl,ps,[32],rfl,R5,_,rfl,?_⟩;rw[WZ];by_cases c:(t.drop j4).head?=some 32
 ·rw[decide_eq_true c];rw[←f4,if_pos c] at fo;~et:t.drop j4=32::(t.drop j4).tail:=by
   cases z:t.drop j4 with
   | nil=>rw[z] at c;cases c
   | cons b u =>
    rw[z] at c;cases (%aD c:b=32);rfl
  ~e32:bg [32] (t.drop j4)=some (t.drop j4).tail:=by
   conv=>lhs;rw[et]
   e! gu [32] _
  r! bO ⟨_,rfl,r,d5,_,rfl,o5,rfl,r,t,j4,nl,ps,[32],rfl,R5,λH6 u6 e6 R6 f6 k6=>?_,λe6=>by rw[e32] at e6;cases e6⟩;rw[e32] at e6;cases e6;~nr:pl≠r:=(aq o0 npl0).symm;~nn:pl≠nl:=(aq R.lst npl0).symm;~opl6:H6 pl=some ew!:=k6.keep _ _ ae (by simpa using nr);~K6:=K5.trans (k6.mono m1);rw[f6] at fo;r! ⟨_,rfl,.inl ⟨rfl,_,aX.of opl6⟩,_,rfl,r,t,_,nl,ps,rfl,R6,λH7 j7 q7 u7 p7 e7 R7 f7 k7 P7 n7=>?_,λH7 e7 k7=>?_⟩
  rotate_left
  ·rw[e7] at fo;e! q2 H7 fo (K6.trans (k7.mono m1))
  rw[e7] at fo;~opl7:H7 pl=some ew!:=k7.keep _ _ opl6 (by simpa using nr);r! ⟨pl,_,_,rfl,rfl,opl7,by show 1 < sizeLine;decide,?_⟩;~K7:=K6.trans (k7.mono m1);~K8:aA [r,nl] H c3!:=K7.fresh (F:=[pl]) ch! λb h=>by simp at h;rw[h];e! npl0
  ~np7:H p7=none:=K6.none n7;~ne4:p4≠pl:=λz=>by
   o!⟨dx,e⟩:=P4;rw[z,npl] at e;cases e
  ~ne7:p7≠pl:=λz=>by
   rw[z,opl6] at n7;cases n7
  ~r4:p4≠r:=(aq o0 np4).symm;~P4':DC a c3! p4 q4:=by
   o!⟨dx,e⟩:=P5;e! ⟨dx,by rw[ai ne4];e! k7.keep _ _ (k6.keep _ _ e (by simpa using r4)) (by simpa using r4)⟩
  ~P7':DC a c3! p7 q7:=by
   o!⟨dx,e⟩:=P7;e! ⟨dx,by rw[ai ne7];e! e⟩
  o!⟨d8,o8⟩:=R7.obj;r! hR _ j7 x [q4,q7] pl [p4,p7] ⟨⟨d8,by rw[ai (Ne.symm nr)];e! o8⟩,by rw[ai (Ne.symm nn)];e! R7.lst,R7.le,R7.long,R7.sgn⟩ K8 nx npl0 ae ⟨P4',np4,P7',np7,trivial⟩ ai! ?_;rw[f7];e! fo
 ·rw[decide_eq_false c];rw[←f4,n! c] at fo;e! bY (hR _ j4 x [q4] pl [p4] R5 K5 nx npl0 ae ⟨P5,np4,trivial⟩ ai! fo)
end
end Pay
namespace Pay
open PySem L2
open Vaamoa (isName ascii distinct Param Prog)
def cS(a:Ad)(ok:Addr->Prop)(H:Hp):List Addr->Prog->Prop
 | [],[]=>True
 | p::ps,f::fs=>mz a ok H p f/\cS a ok H ps fs
 | _,_=>False
section
variable {P:Program} {w:World} {K:PySem.W.Frag} {mg:Str->Option Value} {base:Heap} {a:Ad} {ok ok':Addr->Prop} {H H':Hp}
t! cS.turn(k:∀ b o,ok b->H b=some o->H' b=some o)(m:∀ b,ok b->ok' b):∀ {ps:List Addr} {fs:Prog},cS a ok H ps fs->cS a ok' H' ps fs
 | [],[],_=>trivial
 | _::_,_::_,h=>⟨h.1.turn k m,cS.turn k m h.2⟩
 | [],_::_,h=>h.elim
 | _::_,[],h=>h.elim
t! cS.len:∀ {ps:List Addr} {fs:Prog},cS a ok H ps fs->ps.length=fs.length
 | [],[],_=>rfl
 | _::_,_::_,h=>congrArg (·+1) (cS.len h.2)
 | [],_::_,h=>h.elim
 | _::_,[],h=>h.elim
t! cS.app:∀ {ps qs:List Addr} {l m:Prog},cS a ok H ps l->cS a ok H qs m->cS a ok H (ps++qs) (l++m)
 | [],_,[],_,_,h=>h
 | _::_,_,_::_,_,h,k=>⟨h.1,cS.app h.2 k⟩
 | [],_,_::_,_,h,_=>h.elim
 | _::_,_,[],_,h,_=>h.elim
t! cS.at:∀ {ps:List Addr} {fs:Prog} {i:Nat} {p:Addr},cS a ok H ps fs->ps[i]?=some p->∃ f,fs[i]?=some f/\mz a ok H p f
 | [],[],_,_,_,e=>by simp at e
 | p::_,q::_,0,_,h,e=>by simp at e;subst e;e! ⟨q,rfl,h.1⟩
 | _::_,_::_,i+1,_,h,e=>by
  o!⟨q,e',r⟩:=cS.at (i:=i) h.2 eg!;e! ⟨q,by simpa using e',r⟩
 | [],_::_,_,_,h,_=>h.elim
 | _::_,[],_,_,h,_=>h.elim
def cC(p:Prog):List (Ex×Nat):=p.flatMap λf=>aT 0 f.body
t! DE(n:Nat)(t:Text):dX 0 n t=if t=[] then some [] else none:=rfl
t! DF(f n:Nat)(t:Text):dX (f+1) n t=if t=[] then some [] else (uK n t).bind λz=>(dX f z.2.1 z.2.2).map λl=>z.1::l:=rfl
def Uv(a:Ad):Sp:=λvs H Q E=>∃ r t nl,vs=[.ref r]/\g7 a H r t 0 nl [] /\
 (∀ H' j p fl fs qs,C1 t=some p->g7 a H' r t j nl qs->aA [r,nl] H H'->H' fl=some bG!->cS a bm! H' fs p->eP a t bm! H' qs (cC p)->H fl=none->Q gi! H') /\
 (∀ H',C1 t=none->aA [r,nl] H H'->E a2! none H')
t! DG(T:eo K mg a)(Cn:SR P w K mg a)(Dc:WY P w K mg a):aK P w K mg base (bA P w) 35 a.gQ a.gR a8! (Uv a):=by
 ~GA:FB! 34 a.iL a.iM ["self"] (QP a):=(Sf T).mono ag!;~GF:aK P w K mg base (bA P w) 34 a.fL a.iN a8! (W0 a):=EM T Cn Dc;~GD:aK P w K mg base (bA P w) 34 a.fh a.fi ["names"] (EK K a):=(uy T).mono ag!;r! T.oE.kY iZ ab! aa!
 ·o!⟨r,t,nl,rfl,_⟩:=h;rfl
 o!⟨r,t,nl,rfl,R,q1,q2⟩:=h;o!⟨t1,g1⟩:=T.jO;r! ⟨_,af (aE (i:=1) iZ.nd rfl al! (cz ag))
  (af (yK PassesOwn.leaving (yJ (qo (cO (pv 0) T.aN T.yq GA hr T.yp .nil aM)))
   (af (cE (bG i8 fz! (aQ (v:=.int 4) rfl g1 ⟨t1,rfl⟩) (cy _)) (ah ax!) bD)
    (ah (aF (hG %ah %at %as cM (pv 1) (aa (az GF hr rfl T.yt T.qE.kp T.yr .nil aB aP!) ag))))))
  (af (cE (yJ (pJ (pv 1) e9!)) (ah ax!) bD)
  (af (aF (az GD hr rfl T.oJ T.jJ.kp T.oI .nil aB (aa (HP (own:=[("function",2)]) (te:=wK K (i7 2) "name") (g:=nM 2) (tt:=HM) rfl iZ.nd (fR (pv 1)) (i9 rfl) (λ_ _ _ _ _=>cb (i:=2) iZ.nd rfl al!) cG! (λ_ _ _ _ _=>ao (pv 2) rfl)) ag)))
  (ah gg!)))),?_⟩
 r! ⟨%aE _,λfl nfl=>?_⟩;o!⟨d0,o0⟩:=R.obj;~S1:=ay nfl aL!;~ro:C1 t=(dX 4 0 t).bind λp=>if p=[]∨distinct cg!=false then none else some p:=rfl
 ~nr:fl≠r:=(aq o0 nfl).symm;~nn:fl≠nl:=(aq R.lst nfl).symm;~out:∀ {b:Addr},H b=none->b∉[r,nl]:=λ{b} h m=>by
  simp only[List.mem_cons,List.not_mem_nil,or_false] at m;rcases m with rfl | rfl
  ·rw[o0] at h;cases h
  ·rw[R.lst] at h;cases h
 r! ⟨λm σ H'=>∃ (j:Nat) (ps:List Addr) (done:Prog) (fs:List Addr),m=4 - done.length/\σ=[some (.ref r),some gi!,none]/\done.length<=4/\ps.length<=60/\dX 4 0 t=(dX (4 - done.length) ps.length (t.drop j)).map (λl=>done++l) /\
  g7 a H' r t j nl ps/\aA [r,nl] H H'/\H' fl=some bG!/\cS a d9! H' fs done/\eP a t d9! H' ps (cC done),
  ⟨_,0,[],[],[],rfl,rfl,by simp,by simp,?_,R.same S1,aA.of_same S1,ae,trivial,trivial⟩,?_⟩
 ·show dX 4 0 t=(dX 4 0 t).map λl=>l
  cases dX 4 0 t<;>rfl
 rintro m σ H' ⟨j,ps,done,fs,rfl,rfl,hd4,hp,fo,R',kp,ofl,AF,AN⟩;o!⟨dj,oj⟩:=R'.obj;~lf:=AF.len;r! ⟨_,rfl,r,dj,_,rfl,oj,rfl,r,t,j,nl,ps,rfl,R',_,rfl,?_⟩;by_cases ce:t.drop j=[]
 ·rw[decide_eq_true ce];r! bY ?_;~fo':dX 4 0 t=some done:=by
   rw[fo];~e:dX (4 - done.length) ps.length (t.drop j)=some []:=by
    cases h:4 - done.length with
    | zero=>rw[DE,if_pos ce]
    | succ k=>rw[DF,if_pos ce]
   rw[e];simp
  rw[fo',%ax] at ro;r! ⟨_,rfl,_,.inl ⟨_,aX.of ofl,rfl⟩,?_⟩;cases done with
  | nil =>
   have:fs=[]:=%cs lf;subst this;rw[if_pos (Or.inl rfl)] at ro;e! bO (q2 H' ro kp)
  | cons g0 gs =>
  cases fs with
  | nil=>cases lf
  | cons f0 fr =>
  r! bY ?_;r! ⟨_,rfl,fl,rfl,⟨_,aX.of ofl⟩,λD nD=>?_⟩;r! ra (K:=K) (a:=fl) (xs:=(f0::fr).map V.ref) (λn H2=>H2 D=some (.lst ((((g0::gs).map λf=>f.name).take n).map λy=>V.str bX!))/\bc H' H2) ⟨ae,ay nD _⟩ (λn H2 _ h=>aX.of (h.2 _ _ ofl)) ?_ ?_
  ·rintro n y H2 hy ⟨oD,sm⟩;rw[%al] at hy;o!⟨k,ek,rfl⟩:=%ab hy;o!⟨g,eg,G⟩:=AF.at ek;o!⟨dx,pl,qs,bp,ok,_⟩:=G.ex;~en:((g0::gs).map λf=>f.name)[n]?=some g.name:=by rw[%al,eg];rfl
   r! ⟨rfl,zM ?_⟩;r! ⟨_,rfl,k,_,dx,_,_,rfl,sm _ _ ok,T.bw,T.dE,rfl,_,oD,?_,?_,λb o e=>?_⟩
   ·rw[%ac,%aH];e! %ai (%bY _ _) (by rw[%ac];e! %ai hd4 ag!)
   ·rw[ae,kU en]
   ·rw[ai eB!];e! sm b o e
  ·rintro H6 ⟨oD,S6⟩;~eT:((g0::gs).map λf=>f.name).take ((f0::fr).map V.ref).length=(g0::gs).map λf=>f.name:=%aC e1!
   rw[eT] at oD;r! ⟨D,(g0::gs).map λf=>f.name,rfl,aX.of oD,by rw[%ac];w!,λdi H7 S7=>?_,λdi H7 S7=>?_⟩
   ·rw[n!] at ro
    ·~S:=S6.trans S7;r! ⟨_,rfl,q1 H7 j _ fl (f0::fr) ps ro (R'.same S) (kp.trans (aA.of_same S)) (S _ _ ofl) (AF.turn bP! λb h=>h.1) (AN.turn bP! λb h=>h.1) nfl⟩
    ·rintro (z | z)
     ·cases z
     ·rw[di] at z;cases z
   ·rw[if_pos (Or.inr di)] at ro;e! q2 H7 ro (kp.trans (aA.of_same f0!))
 ·rw[decide_eq_false ce];r! bO ?_;r! ⟨fun σ' H2=>∃ (j:Nat) (ps':List Addr) (done':Prog) (fs':List Addr),done'.length=done.length+1/\done.length < 4/\σ'=[some (.ref r),some gi!,none]/\ps'.length<=60/\dX 4 0 t=(dX (4 - done'.length) ps'.length (t.drop j)).map (λl=>done'++l) /\
   g7 a H2 r t j nl ps'/\aA [r,nl] H H2/\H2 fl=some (.lst (fs'.map V.ref))/\cS a d9! H2 fs' done'/\eP a t d9! H2 ps' (cC done'),?_,?_⟩
  ·rintro σ' H2 ⟨j2,ps2,done2,fs2,e1,e2,e3,h⟩;e! ⟨4 - done2.length,by w!,j2,ps2,done2,fs2,rfl,e3,by w!,h⟩
  r! ⟨_,rfl,fl,_,rfl,.inl (aX.of ofl),rfl,_,rfl,?_⟩;~e4:decide (V.int (((fs.map V.ref).length:Nat):Int)=V.int 4)=decide (done.length=4):=by
   rw[decide_eq_decide,V.int.injEq,%ac];w!
  rw[e4];by_cases c4:done.length=4
  ·rw[decide_eq_true c4];r! bO (q2 H' ?_ kp);rw[ro,fo,c4];show ((dX 0 ps.length (t.drop j)).map _).bind _=none;rw[DE,n! ce];rfl
  rw[decide_eq_false c4];r! bY ?_;obtain ⟨k,ek⟩:∃ k,4 - done.length=k+1:=⟨3 - done.length,by w!⟩;rw[ek,DF k,n! ce] at fo;r! ⟨_,rfl,.inl ⟨rfl,_,aX.of ofl⟩,_,rfl,r,t,j,nl,ps,rfl,R',hp,λH2 j2 f n' u p qs e2 R2 f2 h2 k2 F2 A2=>?_,λH2 e2 k2=>?_⟩
  rotate_left
  ·rw[e2] at fo;e! q2 H2 (by rw[ro,fo];rfl) (kp.trans k2)
  rw[e2,%ax] at fo;o!⟨_,_,_,_,n60⟩:=Fw e2;~ofl2:H2 fl=some bG!:=k2.keep _ _ ofl (out nfl);r! ⟨fl,_,_,rfl,rfl,ofl2,by rw[%ac];e! %ai (show fs.length<=4 by w!) ag!,?_⟩;~kk:∀ b o,(H b=none/\b≠fl)->H' b=some o->upd H2 fl (.lst (fs.map V.ref++[V.ref p])) b=some o:=λb o hb e=>by
   rw[ai hb.2];e! k2.keep b o e (out hb.1)
  ~Vm:∀ b,H' b=none->H b=none/\b≠fl:=λb hb=>⟨kp.none hb,λz=>by rw[z,ofl] at hb;cases hb⟩
  ~kn:∀ b o,H' b=none->H2 b=some o->upd H2 fl (.lst (fs.map V.ref++[V.ref p])) b=some o:=λb o hb e=>by
   rw[ai (Vm b hb).2];e! e
  o!⟨d2,o2⟩:=R2.obj;r! ⟨j2,ps++qs,done++[f],fs++[p],by simp,by w!,rfl,by rw[←h2];e! n60,?_,⟨⟨d2,by rw[ai (Ne.symm nr)];e! o2⟩,by rw[ai (Ne.symm nn)];e! R2.lst,R2.le,R2.long,R2.sgn⟩,
   (kp.trans k2).fresh (F:=[fl]) ch! (λb h=>by simp at h;rw[h];e! nfl),by rw[ae];simp,cS.app (AF.turn kk λ_ h=>h) ⟨F2.turn kn Vm,trivial⟩,?_⟩
  ·rw[fo,%aq,%bQ,←h2,f2];~e5:4 - (done.length+1)=k:=by w!
   rw[e5,Option.map_map];congr 1
   funext l
   simp
  ·unfold cC;rw[List.flatMap_append];r! eP.app (AN.turn kk λ_ h=>h) ?_;simp only[List.flatMap_cons,List.flatMap_nil,List.append_nil];e! A2.turn kn Vm
def kn(cs:List Nat):List (Key×V):=cs.map λ(c:Nat)=>dN!
t! PF:∀ (cs:List Nat) (b:Nat),cA (kn cs) (.inl (b:Int))=if b∈cs then some (.str ⟨#[b]⟩) else none
 | [],b=>rfl
 | c::cs,b=>by
  show cA (dN!::kn cs) _=_;by_cases h:c=b
  ·subst h;rw[fS rfl,if_pos %an]
  ·rw[fT (λe=>h (by have:=Sum.inl.inj e;w!)),PF cs b];by_cases m:b∈cs
   ·rw[if_pos m,if_pos (%af _ m)]
   ·rw[n! m,n! λz=>(%ak z).elim (λe=>h e.symm) m]
def OB:List Nat:=(%ad "\n ()-0123456789abcdefghijklmnopqrstuvwxyz").cps.toList
t! So:OB.Nodup:=by dk!
t! V9:OB.length=41:=by dk!
t! Wa:∀ b:UInt8,decide (b.toNat∈OB)=sign b:=iC (by dk!)
t! join_one:∀ (x:Text),TL.Nt [] (x.map λb=>[b.toNat])=codes x
 | []=>rfl
 | [b]=>rfl
 | b::c::r=>by
  show [b.toNat]++([]++TL.Nt [] ((c::r).map λb=>[b.toNat]))=_;rw[join_one (c::r)];rfl
t! PJ(x:Text):Txt.join (%ad "") (x.map λb=>(⟨#[b.toNat]⟩:Str))=strOf x:=by
 r! TL.XR ?_;rw[TL.join_eq,TL.QB,%cu];~e:TL.tl (%ad "")=[]:=by dk!
 rw[e];e! join_one x
def QX(K:%ag)(a:Ad):Sp:=λvs H Q E=>∃ l x,vs=[.ref l]/\aX K H l bt!/\x.length<=2000/\(qm x->∀ H',bc H H'->Q f4! H')/\(¬ qm x->∀ H',bc H H'->E a2! none H')
t! N9(T:eo K mg a):aK P w K mg base (bA P w) 1 a.sU a.sV ["text"] (QX K a):=by
 r! T.Ck.kY pS ab! aa!
 ·o!⟨l,x,rfl,_⟩:=h;rfl
 o!⟨l,x,rfl,sq,lx,q1,q2⟩:=h;o!⟨t1,g1⟩:=T.Hm;~hu:=nN hr;r! ⟨_,af (aE (i:=1) pS.nd rfl al! j3)
  (af (lJ PassesOwn.leaving rfl (OL (aQ (v:=.str (%ad "\n ()-0123456789abcdefghijklmnopqrstuvwxyz")) rfl g1 ⟨t1,rfl⟩)) (cb (i:=2) pS.nd rfl al!)
   (ah (kW hu (pv 1) (aR Nc rfl T.N0 PyProof.Rows.boot_ord au!) (pv 2) rfl)))
  (af (aE (i:=3) pS.nd rfl al! (cz ag))
  (af (lJ PassesOwn.leaving rfl (fR (pv 0)) (cb (i:=4) pS.nd rfl al!)
   (af (cE (jR (D0 hu (pv 4) (pv 1)) rfl) (ah ax!) bD)
    (ah (aF (hG %ah %at %as cM (pv 3) (aa (wL hu (pv 1) (pv 4) ar!) ag))))))
  (ah (aH (VN cN (pv 3))))))),?_⟩
 intro d nd;~S1:=ay nd (.dK []);r! ⟨_,rfl,?_⟩;r! QW (λi σ H'=>∃ v:Option V,σ=[some (.ref l),some (.ref d),v,none,none]/\H' d=some (.dK (kn (OB.take i)))/\bc H H') ⟨none,rfl,ae,S1⟩ ?_ ?_
 ·rintro i c σ H' hc ⟨v,rfl,od,sm⟩;~ec:OB[i]?=some c:=by unfold OB;rw[Array.getElem?_toList];e! hc
  ~hi:i < OB.length:=(%ae ec).1;~nw:cA (kn (OB.take i)) (.inl (c:Int))=none:=by
   rw[PF,n!];intro m;o!⟨j,hj,ej⟩:=%bu m;~e2:=(%ae ec).2;have:=(List.getElem_inj So).mp (ej.trans e2.symm);w!
  r! ⟨_,rfl,_,rfl,_,rfl,_,rfl,rfl,d,_,rfl,AW.k (k:=Sum.inl (c:Int)) od (by unfold kn;rw[List.length_map,List.length_take];e! Nat.lt_of_le_of_lt (Nat.min_le_right _ _) (by rw[V9];decide)),_,rfl,?_,λb o e=>by rw[ai (aq e nd)];e! sm b o e⟩;rw[ae,Nl _ nw];congr 3;e! kU (f:=λc:Nat=>dN!) ec
 ·rintro σ H2 ⟨v,rfl,od,sm⟩;~et:OB.take (Str.ofString "\n ()-0123456789abcdefghijklmnopqrstuvwxyz").cps.size=OB:=List.take_of_length_le (by unfold OB;rw[Array.length_toList];e! Nat.le_refl _);rw[et] at od;r! ⟨%aE _,λg ng=>?_⟩;~S2:=ay ng aL!;~dg:d≠g:=aq od ng;r! ⟨_,rfl,l,rfl,⟨_,S2.seq (sm.seq sq)⟩,pI (K:=K) (a:=l) (xs:=(codes x).map λn=>V.int (n:Nat)) (λi σ H'=>∃ u:Option V,σ=[some (.ref l),some (.ref d),v,some (.ref g),u]/\H' d=some (.dK (kn OB))/\H' g=some (.lst (((x.take i).map λb=>(⟨#[b.toNat]⟩:Str)).map V.str))/\bc H H'/\qm (x.take i))
   ⟨none,rfl,by rw[ai dg];e! od,ae,sm.trans S2,λb hb=>by simp at hb⟩ (λi σ H' _ ⟨_,_,_,_,s5,_⟩=>s5.seq sq) ?_ ?_⟩
  ·rintro i y σ H' hy ⟨u,rfl,od',og,s5,sg⟩;~hy':∃ b,x[i]?=some b/\y=V.int (b.toNat:Nat):=by
    unfold codes at hy;rw[%al,%al] at hy;cases e:x[i]? with
    | none=>rw[e] at hy;cases hy
    | some b=>rw[e] at hy;e! ⟨b,rfl,(Option.some.inj hy).symm⟩
   o!⟨b,eb,rfl⟩:=hy';~hi:i < x.length:=(%ae eb).1;~gv:cA (kn OB) (.inl ((b.toNat:Nat):Int))=if b.toNat∈OB then some (.str ⟨#[b.toNat]⟩) else none:=PF OB b.toNat
   r! ⟨_,rfl,_,rfl,d,_,rfl,nP.k (k:=%cq ((b.toNat:Nat):Int)) od',_,rfl,?_⟩;rw[gv];~sb:=Wa b;by_cases c:b.toNat∈OB
   ·rw[if_pos c];rw[decide_eq_true c] at sb;~gd:nP H' d (V.int ((b.toNat:Nat):Int)) (some (.str ⟨#[b.toNat]⟩)):=by
     ~z:=nP.k (k:=%cq ((b.toNat:Nat):Int)) od';rw[gv,if_pos c] at z;e! z
    r! bY ?_;r! ⟨_,rfl,.inl ⟨rfl,_,aX.of og⟩,_,rfl,_,rfl,d,_,rfl,gd,g,_,_,rfl,rfl,og,?_,?_⟩
    ·rw[%ac,%ac,%aH];e! %ai (show min i x.length<=2000 by w!) ag!
    ·r! ⟨_,rfl,by rw[ai dg];e! od',?_,λc o e=>by rw[ai (aq (sm _ _ e) ng)];e! s5 c o e,?_⟩
     ·rw[ae,%ay,eb];simp
     ·rw[%ay,eb];intro c hc;rcases %bA hc with h | h
      ·e! sg c h
      ·cases List.mem_singleton.mp fc!;e! sb.symm
   ·rw[n! c];rw[decide_eq_false c] at sb;r! bO (q2 ?_ H' s5);intro z;have:=z b (%bg eb);rw[←sb] at this;cases this
  ·rintro σ H3 ⟨u,rfl,od',og,s5,sg⟩;rw[%ac,my,%bs] at og sg;r! ⟨⟨_,rfl⟩,_,rfl,_,g,_,rfl,rfl,.inl (aX.of og),?_,?_⟩
   ·~e0:(%ad "").length=0:=by dk!
    rw[e0,Nat.mul_zero,%cu];have:∀ y:Text,(y.map ((λs:Str=>s.length)∘λb=>(⟨#[b.toNat]⟩:Str))).sum=y.length:=by
     intro y
     induction y with
     | nil=>rfl
     | cons b r ih=>rw[%aM,%co,ih,%aV];show 1+r.length=_;w!
    rw[this];w!
   ·rw[PJ];e! q1 sg H3 s5
end
end Pay
namespace Pay
open PySem L2
open Vaamoa (isName ascii distinct Param Prog kindIn Typed typed needs)
t! Oa{d:Addr}{o:Obj}{kvs:List (Key×V)}{g:TG}{tb:TS}{D:Ends}{σ:St}{H:Hp}(Pv:Nat->St->Hp->Prop)(h0:Pv 0 σ H)(hl:∀ i σ H,Pv i σ H->H d=some (.ql o aQ!))
  (hs:∀ (i:Nat) (k:Key) (v:V) (σ:St) (H:Hp),kvs[i]?=some (k,v)->Pv i σ H->g (kV k) σ H fun σ2 H2=>tb {D with nx:=Pv (i+1),ct:=Pv (i+1),bk:=D.nx} σ2 H2) (hd:∀ σ H,Pv kvs.length σ H->D.nx σ H) :
  ∃ W:Nat->Nat->St->Hp->Prop,ec!/\∀ i m σ H,W i m σ H ->
   ((Y0 d o kvs).stop i H/\D.nx σ H)∨((Y0 d o kvs).go i H/\∃ N:St->Hp->Prop,aK!/\∀ v H',(Y0 d o kvs).Tb i H v H'->g v σ H' fun σ2 H2=>tb {D with nx:=N,ct:=N,bk:=D.nx} σ2 H2):=by
 r! ⟨λi m σ H=>m=kvs.length - i/\i<=kvs.length/\Pv i σ H,⟨kvs.length,by simp,Nat.zero_le _,h0⟩,?_⟩;rintro i m σ H ⟨rfl,hi,p⟩;~q:=hl i σ H p;by_cases hlt:i < kvs.length
 ·r! .inr ⟨⟨q,hlt⟩,Pv (i+1),fun σ' H' p'=>⟨kvs.length - (i+1),by w!,rfl,hlt,p'⟩,λv H' y=>?_⟩;o!⟨rfl,k,v0,hk,rfl⟩:=y;e! hs i k v0 σ _ hk p
 ·~e:i=kvs.length:=by w!
  subst e;e! .inl ⟨⟨q,%am _⟩,hd σ H p⟩
t! Uw{H:Hp}{d:Addr}{u:HO}(h:H d=some u):upd H d u=H:=by
 funext b
 unfold upd;by_cases e:b=d
 ·rw[if_pos e,e,h]
 ·rw[n! e]
def jP(l:List Text):List (Key×V):=l.map λx=>((%aO ap!:Key),V.bl true)
t! ME:∀ (l:List Text) (x:Text),cA (jP l) a4!=if x∈l then some (.bl true) else none
 | [],x=>rfl
 | y::l,x=>by
  show cA (((%aO bX!:Key),V.bl true)::jP l) _=_;by_cases h:y=x
  ·subst h;rw[fS rfl,if_pos %an]
  ·rw[fT (λe=>h (iY e8!)),ME l x];by_cases m:x∈l
   ·rw[if_pos m,if_pos (%af _ m)]
   ·rw[n! m,n! λz=>(%ak z).elim (λe=>h e.symm) m]
t! Ux(l:List Text)(x:Text):putK (jP l) a4! (.bl true)=jP (if x∈l then l else l++[x]):=by
 by_cases m:x∈l
 ·rw[if_pos m];unfold putK;rw[vO,ME,if_pos m];rw[if_pos (show (some (V.bl true)).isSome=true from rfl)];unfold jP;rw[%cu];r! %bZ λy _=>?_
  show (if (%aO bX!:Key)=%aO ap! then _ else _)=_;split<;>rfl
 ·rw[n! m,Nl _ (by rw[ME,n! m])];unfold jP;rw[%bd];rfl
t! Ob:∀ (r l:List Text),r.Nodup->yQ (jP l) (jP r)=jP (%cm l r)
 | [],l,_=>by
  show jP l=_;unfold Vaamoa.either;simp
 | x::r,l,nd=>by
  o!⟨n1,n2⟩:=List.nodup_cons.mp nd;show yQ (putK (jP l) a4! (.bl true)) (jP r)=_;rw[Ux,Ob r _ n2];congr 1;unfold Vaamoa.either;by_cases m:x∈l
  ·rw[if_pos m];rw[List.filter_cons,if_neg (by simp[m])]
  ·rw[if_neg m,List.filter_cons,if_pos (by simp[m]),List.append_assoc];congr 1;show x::_=x::_;congr 1;r! List.filter_congr λy hy=>?_
   have:y≠x:=λe=>n1 (by rw[←e];e! hy)
   simp[this]
structure tO (H:Hp) (u:Addr) (l:List Text):Prop where
 obj:H u=some (.dK (jP l))
 nd:l.Nodup
 YX:l.length<=1000
t! tO.same{H H':Hp}{u:Addr}{l:List Text}(h:tO H u l)(s:bc H H'):tO H' u l:=⟨s _ _ h.obj,h.nd,h.YX⟩
t! xS{l r:List Text}(h:l.Nodup)(k:r.Nodup):(%cm l r).Nodup:=by
 unfold Vaamoa.either;rw[List.nodup_append];r! ⟨h,k.filter _,λx hx y hy e=>?_⟩;subst e;have:=(List.mem_filter.mp hy).2;simp at this;e! this hx
t! tP(l r:List Text):(%cm l r).length<=l.length+r.length:=by
 unfold Vaamoa.either;rw[%aq];e! %bx (%bq _ _) _
t! LG{l r z:List Text}(h:%br l r=some z):z=l++r/\%cm l r=z/\∀ x∈l,x∉r:=by
 unfold Vaamoa.both at h;split at h
 ·cases h
 ·rename_i c
  cases h;~dis:∀ x∈l,x∉r:=λx hx hr=>c (List.any_eq_true.mpr ⟨x,hx,by simpa using hr⟩)
  r! ⟨rfl,?_,dis⟩;unfold Vaamoa.either;congr 1;rw[List.filter_eq_self];intro x hx;have:x∉l:=λz=>dis x z hx
  simp[this]
section
variable {P:Program} {w:World} {K:PySem.W.Frag} {mg:Str->Option Value} {base:Heap} {a:Ad}
def DH:Sp:=λvs H Q _=>∃ u1 u2 l1 l2,vs=[.ref u1,.ref u2]/\tO H u1 l1/\tO H u2 l2/\l1.length+l2.length<=1000/\∀ H' u,bc H H'->tO H' u (%cm l1 l2)->H u=none->Q (.ref u) H'
t! EN(T:eo K mg a):FB! 1 a.sR a.sS aZ! DH:=by
 r! T.zA.ok Lg ab! aa!
 ·o!⟨u1,u2,l1,l2,rfl,_⟩:=h;rfl
 o!⟨u1,u2,l1,l2,rfl,U1,U2,ln,q⟩:=h;r! ⟨_,af (aE (i:=2) Lg.nd rfl al! (gL sk rfl T.zL %bM aP!))
  (af (aF (hG PySem.F.plainAttrs_dict PySem.F.slot_dict_update PySem.F.type_dict_update RI (pv 2) aF!))
  (ah gf!)),?_⟩
 r! ⟨_,rfl,u1,_,rfl,.inl U1.obj,λp np=>?_⟩;~S1:=ay np (.dK (jP l1));~n2:p≠u2:=(aq U2.obj np).symm;~el:∀ l:List Text,(jP l).length=l.length:=λl=>%ac _
 r! ⟨_,rfl,.inr (.inr (.inl ⟨rfl,.inl ⟨_,ae⟩⟩)),_,rfl,p,u2,_,_,rfl,rfl,n2,ae,S1 _ _ U2.obj,by rw[el,el];e! %aj ln ag!,?_⟩;rw[aC,Ob _ _ U2.nd];e! ⟨_,rfl,q _ p (ay np _) ⟨ae,xS U1.nd U2.nd,%aj (tP _ _) ln⟩ np⟩
def EO(a:Ad):Sp:=λvs H Q E=>∃ u1 u2 l1 l2,vs=[.ref u1,.ref u2]/\tO H u1 l1/\tO H u2 l2/\u1≠u2/\l1.length+l2.length<=1000 /\
 (∀ H' u z,%br l1 l2=some z->bc H H'->tO H' u z->H u=none->Q (.ref u) H')/\(∀ H',%br l1 l2=none->aA [u1] H H'->E a2! none H')
t! DI(T:eo K mg a):aK P w K mg base (bA P w) 2 a.f_both a.xl aZ! (EO a):=by
 ~GE:FB! 1 a.sR a.sS aZ! DH:=EN T;r! T.Cb.kY QK ab! aa!
 ·o!⟨u1,u2,l1,l2,rfl,_⟩:=h;rfl
 o!⟨u1,u2,l1,l2,rfl,U1,U2,n12,ln,q1,q2⟩:=h;~hu:=nN hr;r! ⟨_,af (Qz (lJ PassesOwn.leaving rfl (QA (pv 0)) (cb (i:=2) QK.nd rfl al!)
   (ah (cE (jR (XH hu (pv 2) (pv 1)) rfl) (ah ax!) bD))))
  (ah (aH (az GE hr rfl T.Dn T.zA.kp T.Dm .nil aM (aa (pv 0) aF!)))),?_⟩
 r! ⟨u1,_,U1.obj,trivial,λod=>?_⟩;~o2:upd H u1 (HO.ql od (.dK (jP l1))) u2=some (.dK (jP l2)):=by rw[ai (Ne.symm n12)];e! U2.obj
 r! ⟨_,rfl,u1,od,rfl,.inl ⟨_,ae,?_⟩⟩;r! Oa (λi σ H'=>∃ v:Option V,σ=[some (.ref u1),some (.ref u2),v]/\H'=upd H u1 (.ql od (.dK (jP l1)))/\∀ x∈l1.take i,x∉l2) ⟨none,rfl,rfl,λx hx=>by simp at hx⟩ (λi σ H' ⟨_,_,e,_⟩=>by rw[e];e! ae) ?_ ?_
 ·rintro i k v σ H' hk ⟨v0,rfl,rfl,hx⟩;obtain ⟨x,ex,e⟩:∃ x,l1[i]?=some x/\k=.inr (strOf x):=by
   unfold jP at hk;rw[%al] at hk;o!⟨x,e1,e2⟩:=%ab hk;cases e2;e! ⟨x,e1,rfl⟩
  subst e;r! ⟨_,rfl,_,rfl,u2,_,rfl,nP.k (k:=%aO ap!) o2,_,rfl,?_⟩;rw[ME];by_cases c:x∈l2
  ·rw[if_pos c];r! bO (q2 _ ?_ ch!);unfold Vaamoa.both;rw[if_pos (List.any_eq_true.mpr ⟨x,List.mem_of_getElem? ex,by simpa using c⟩)]
  ·rw[n! c];r! bY ⟨_,rfl,rfl,λy hy=>?_⟩;rw[%ay,ex] at hy;rcases %bA hy with h | h
   ·e! hx y h
   ·cases List.mem_singleton.mp fc!;e! c
 ·rintro σ H' ⟨v0,rfl,rfl,hx⟩;~el:(jP l1).length=l1.length:=%ac _;rw[el,%bs] at hx;r! ⟨ae,?_⟩;rw[aC,Uw U1.obj];~hb:%br l1 l2=some (l1++l2):=by
   unfold Vaamoa.both;rw[n!];intro z;o!⟨x,h1,h2⟩:=List.any_eq_true.mp z;e! hx x h1 dZ!
  r! ⟨_,rfl,_,rfl,u1,u2,l1,l2,rfl,U1,U2,ln,λH' u S U nu=>q1 H' u _ hb S ?_ nu⟩;rw[(LG hb).2.1] at U;e! U
def AM(K:%ag):Sp:=λvs H Q _=>∃ u n l ns,vs=[.ref u,.ref n]/\tO H u l/\aX K H n (ns.map λx=>V.str ap!)/\(∀ o u',H n≠some (.ql o u'))/\u≠n /\
 ∀ H' v,bc H H'->tO H' v (%bv ns l)->H v=none->Q (.ref v) H'
t! Cs(T:eo K mg a):FB! 1 a.ou a.ow de! (AM K):=by
 r! T.wo.ok BU ab! aa!
 ·o!⟨u,n,l,ns,rfl,_⟩:=h;rfl
 o!⟨u,n,l,ns,rfl,U,sq,nf,un,q⟩:=h;~hu:=nN hr;r! ⟨_,af (aE (i:=2) BU.nd rfl al! j3)
  (af (Qz (lJ PassesOwn.never rfl (QA (pv 0)) (cb (i:=3) BU.nd rfl al!)
   (ah (cE (bG CU (pv 3) (pv 1) rfl) (ah (kW hu (pv 2) (pv 3) Hy rfl)) bD))))
  (ah gf!)),?_⟩
 intro p np;~S1:=ay np (.dK []);~pu:p≠u:=(aq U.obj np).symm;~U1:=U.same S1;r! ⟨u,_,U1.obj,trivial,λod=>?_⟩;r! ⟨_,rfl,u,od,rfl,.inl ⟨_,ae,?_⟩⟩;~hn:∀ {kvs:List (Key×V)} (H':Hp),H'=upd (upd H p aQ!) u (.ql od (.dK (jP l)))->aX K H' n (ns.map λx=>V.str ap!):=by
  rintro kvs H' rfl;rcases sq with (h | ⟨o,h⟩) | h
  ·r! .inl (.inl ?_);rw[ai (Ne.symm un),ai (aq h np)];e! h
  ·e! absurd h (nf _ _)
  ·e! .inr h
 r! Oa (λi σ H'=>∃ v:Option V,σ=[some (.ref u),some (.ref n),some (.ref p),v]/\H'=upd (upd H p (.dK (jP (Vaamoa.without ns (l.take i))))) u (.ql od (.dK (jP l)))) ⟨none,rfl,rfl⟩ (λi σ H' ⟨_,_,e⟩=>by rw[e];e! ae) ?_ ?_
 ·rintro i k v σ H' hk ⟨v0,rfl,eH⟩;obtain ⟨x,ex,e⟩:∃ x,l[i]?=some x/\k=.inr (strOf x):=by
   unfold jP at hk;rw[%al] at hk;o!⟨x,e1,e2⟩:=%ab hk;cases e2;e! ⟨x,e1,rfl⟩
  subst e;~tk:l.take (i+1)=l.take i++[x]:=by rw[%ay,ex];rfl
  ~hi:i < l.length:=(%ae ex).1;r! ⟨_,rfl,_,rfl,n,_,rfl,.inl (hn H' eH),rfl,?_,_,rfl,?_⟩
  ·rw[%ck];intro v hv;o!⟨y,_,rfl⟩:=%bH hv;rfl
  rw[show kV (Sum.inr ap!:Key)=V.str ap! from rfl,Jm];cases c:ns.contains x with
  | true =>
   r! bY ⟨_,rfl,?_⟩;rw[eH,tk];unfold Vaamoa.without;rw[%bO];simp only[List.filter_cons,c,Bool.not_true,Bool.false_eq_true,if_false,List.filter_nil,List.append_nil]
  | false =>
   ~op:H' p=some (.dK (jP (Vaamoa.without ns (l.take i)))):=by rw[eH,ai pu];e! ae
   ~lw:(jP (%bv ns (l.take i))).length<=1000:=by
    unfold jP;rw[%ac];unfold Vaamoa.without;r! %aj (%bq _ _) (%aj ?_ U.YX);rw[%aH];e! %bY _ _
   r! bO ⟨_,rfl,_,rfl,p,_,rfl,AW.k (k:=%aO ap!) op (%ai lw ag!),_,rfl,?_⟩;~nx:x∉%bv ns (l.take i):=λm=>by
    ~m1:x∈l.take i:=(List.mem_filter.mp m).1;o!⟨j,hj,ej⟩:=%bu m1;~e2:=(%ae ex).2;have:=(List.getElem_inj U.nd).mp (ej.trans e2.symm);w!
   rw[Ux,n! nx,eH,iT (Ne.symm pu),aC,tk];unfold Vaamoa.without;rw[%bO];simp only[List.filter_cons,c,Bool.not_false,if_true,List.filter_nil]
 ·rintro σ H' ⟨v0,rfl,eH⟩;~el:(jP l).length=l.length:=%ac _;rw[el,%bs] at eH;r! ⟨by rw[eH];e! ae,?_⟩;~e3:upd H' u (.dK (jP l))=upd H p (.dK (jP (%bv ns l))):=by
   rw[eH,aC,Uw];rw[ai (Ne.symm pu)];e! U.obj
  rw[e3];r! ⟨_,rfl,q _ p (ay np _) ⟨ae,U.nd.filter _,?_⟩ np⟩;unfold Vaamoa.without;e! %aj (%bq _ _) U.YX
end
end Pay
namespace Pay
open PySem L2
open Vaamoa (isName ascii distinct Param Prog kindIn Typed typed needs)
t! wD{l r z:List Text}(h:%br l r=some z)(nl:l.Nodup)(nr:r.Nodup):z.Nodup/\z.length=l.length+r.length:=by
 o!⟨rfl,_,d⟩:=LG h;r! ⟨List.nodup_append.mpr ⟨nl,nr,λx hx y hy e=>d x hx (by rw[e];e! hy)⟩,%aq⟩
t! pG{k:%aP}{o:Option Typed}{u:List Text}(h:needs k o=some u):∃ t,o=some t/\t.kind=k/\t.uses=u:=by
 o!⟨t,e,h⟩:=%aa h;split at h
 ·rename_i c
  cases h;e! ⟨t,e,c,rfl⟩
 ·cases h
t! gi{ns l:List Text}(h:l.Nodup):(%bv ns l).Nodup/\(%bv ns l).length<=l.length:=⟨h.filter _,%bq _ _⟩
t! bz(e:Ex):aj e=match e with
 | .num _ _=>1
 | .var _ _=>1
 | .nil _=>1
 | .cons _ h t=>aj h+aj t+1
 | .add _ h t=>aj h+aj t+1
 | .sub _ h t=>aj h+aj t+1
 | .ifz _ c a b=>aj c+(aj a+aj b)+1
 | .case _ _ e _ _ c=>aj e+aj c+1
 | .letE _ _ d b=>aj d+aj b+1
 | .call1 _ _ a=>aj a+1
 | .call2 _ _ a b=>aj a+aj b+1
 | .tick _ _ e=>aj e+1
 | .share _ _ _ _ e=>aj e+1:=by
 cases e<;>simp[aj,Vaamoa.nodesOf]
t! Hq{p:Prog}{k1 k2 k:%aP}{x y:Option Typed}{n m:Nat}{t:Typed}(hx:∀ t,x=some t->t.uses.Nodup/\t.uses.length<=n)(hy:∀ t,y=some t->t.uses.Nodup/\t.uses.length<=m)
  (h:((needs k1 x).bind λu=>(needs k2 y).bind λv=>(%br u v).map λw=>(⟨k,w⟩:Typed))=some t):t.uses.Nodup/\t.uses.length<=n+m+1:=by
 o!⟨u,e1,h⟩:=%aa h;o!⟨v,e2,h⟩:=%aa h;o!⟨z,e3,rfl⟩:=%ab h;o!⟨s1,f1,_,rfl⟩:=pG e1;o!⟨s2,f2,_,rfl⟩:=pG e2;o!⟨a1,a2⟩:=hx _ f1;o!⟨b1,b2⟩:=hy _ f2;o!⟨c1,c2⟩:=wD e3 a1 b1;e! ⟨c1,by show z.length<=_;w!⟩
t! ny(p:Prog):∀ (e:Ex) (env:List Param) (t:Typed),typed p env e=some t->t.uses.Nodup/\t.uses.length<=aj e:=by
 intro e
 induction e with
 | num l n =>
  intro env t h;unfold typed at h;split at h
  ·cases h;e! ⟨List.nodup_nil,%aE _⟩
  ·cases h
 | var l x =>
  intro env t h;unfold typed at h;o!⟨k,_,rfl⟩:=%ab h;rw[bz];show (if k=.list then [x] else []).Nodup/\(if k=.list then [x] else []).length<=1;split<;>simp
 | nil l =>
  intro env t h;unfold typed at h;cases h;e! ⟨List.nodup_nil,%aE _⟩
 | cons l x y i1 i2 =>
  intro env t h;unfold typed at h;rw[bz];dsimp only;e! Hq (p:=p) (i1 env) (i2 env) h
 | add l x y i1 i2 =>
  intro env t h;unfold typed at h;rw[bz];dsimp only;e! Hq (p:=p) (i1 env) (i2 env) h
 | sub l x y i1 i2 =>
  intro env t h;unfold typed at h;rw[bz];dsimp only;e! Hq (p:=p) (i1 env) (i2 env) h
 | ifz l c x y i0 i1 i2 =>
  intro env t h;unfold typed at h;rw[bz];dsimp only;o!⟨u,e1,h⟩:=%aa h;o!⟨s,e2,h⟩:=%aa h;o!⟨v,e3,h⟩:=%aa h;o!⟨z,e4,rfl⟩:=%ab h;o!⟨s1,f1,_,rfl⟩:=pG e1;o!⟨s3,f3,_,rfl⟩:=pG e3;o!⟨a1,a2⟩:=i0 _ _ f1;o!⟨b1,b2⟩:=i1 _ _ e2;o!⟨c1,c2⟩:=i2 _ _ f3;o!⟨d1,d2⟩:=wD e4 a1 (xS b1 c1);have:=tP s.uses s3.uses;e! ⟨d1,by show z.length<=_;w!⟩
 | case l x e h t c i1 i2 =>
  intro env t h;unfold typed at h;rw[bz];dsimp only;split at h
  ·cases h
  o!⟨s,e2,h⟩:=%aa h;o!⟨v,e3,h⟩:=%aa h;o!⟨z,e4,rfl⟩:=%ab h;o!⟨s3,f3,_,rfl⟩:=pG e3;o!⟨b1,b2⟩:=i1 _ _ e2;o!⟨c1,c2⟩:=i2 _ _ f3;o!⟨d1,d2⟩:=wD e4 ai! (xS b1 (gi c1).1);r! ⟨d1,?_⟩;show z.length<=_;rw[d2];r! %aj (%bx (tP _ _) _) ?_;r! %aj (%bx (%bx (gi c1).2 _) _) ?_;simp only[List.length_cons,List.length_nil];w!
 | letE l x d b i1 i2 =>
  intro env t h;unfold typed at h;rw[bz];dsimp only;split at h
  ·cases h
  o!⟨s,e2,h⟩:=%aa h;o!⟨r,e3,h⟩:=%aa h;o!⟨z,e4,rfl⟩:=%ab h;o!⟨b1,b2⟩:=i1 _ _ e2;o!⟨c1,c2⟩:=i2 _ _ e3;o!⟨d1,d2⟩:=wD e4 b1 (gi c1).1;r! ⟨d1,?_⟩;show z.length<=_;rw[d2];r! %aj (%bx (gi c1).2 _) ?_;w!
 | call1 l g x i1 =>
  intro env t h;unfold typed at h;rw[bz];dsimp only;o!⟨g',_,h⟩:=%aa h;split at h
  ·o!⟨u,e1,rfl⟩:=%ab h;o!⟨s1,f1,_,rfl⟩:=pG e1;o!⟨a1,a2⟩:=i1 _ _ f1;e! ⟨a1,by show s1.uses.length<=_;w!⟩
  ·cases h
 | call2 l g x y i1 i2 =>
  intro env t h;unfold typed at h;rw[bz];dsimp only;o!⟨g',_,h⟩:=%aa h;split at h
  ·e! Hq (p:=p) (i1 env) (i2 env) h
  ·cases h
 | tick l k e i1 =>
  intro env t h;unfold typed at h;rw[bz];dsimp only;split at h
  ·cases h
  o!⟨a1,a2⟩:=i1 _ _ h;e! ⟨a1,by show t.uses.length<=_;w!⟩
 | share l x y z e i1 =>
  intro env t h;unfold typed at h;rw[bz];dsimp only;split at h
  ·cases h
  o!⟨r,e3,h⟩:=%aa h;o!⟨z',e4,rfl⟩:=%ab h;o!⟨c1,c2⟩:=i1 _ _ e3;o!⟨d1,d2⟩:=wD e4 ai! (gi c1).1;r! ⟨d1,?_⟩;show z'.length<=_;rw[d2];r! %aj (%bx (gi c1).2 _) ?_;simp only[List.length_cons,List.length_nil];w!
structure PK (a:Ad) (ok:Addr->Prop) (H:Hp) (s:Addr) (t:Typed):Prop where
 ex:∃ dx u,H s=some (.ins a.ip dx (wB [bT t.kind,.ref u]))/\tO H u t.uses/\ok u
structure MF (H:Hp) (b:Addr) (env:List Param) (m:Nat):Prop where
 ex:∃ kvs,H b=some aQ!/\kvs.length<=m/\∀ x,cA kvs a4!=(kindIn env x).map bT
t! MF.same{H H':Hp}{b:Addr}{env:List Param}{m:Nat}(h:MF H b env m)(s:bc H H'):MF H' b env m:=let ⟨kvs,e,r⟩:=h.ex;⟨kvs,s _ _ e,r⟩
t! PK.same{a:Ad}{ok:Addr->Prop}{H H':Hp}{s:Addr}{t:Typed}(h:PK a ok H s t)(S:bc H H'):PK a ok H' s t:=let ⟨dx,u,e,U,k⟩:=h.ex;⟨dx,u,S _ _ e,U.same S,k⟩
t! aA.uD{F:List Addr}{H H1 H2:Hp}(x:bc H H1)(y:aA F H1 H2)(h:∀ b∈F,H b=Option.none):bc H H2:=λb o e=>y.keep b o (x b o e) λz=>by
 have:=h b z;rw[e] at this;cases this
t! LH{k j:%aP}:bT k=bT j↔k=j:=by
 cases k<;>cases j<;>simp[bT]
t! xT(k j:%aP):Xt (bT k) (bT j)=true:=by
 cases k<;>cases j<;>rfl
section
variable {P:Program} {w:World} {K:PySem.W.Frag} {mg:Str->Option Value} {base:Heap} {a:Ad}
t! tQ{ok:Addr->Prop}{H:Hp}{s dx u:Addr}{k:%aP}{l:List Text}(U:tO H u l)(o:ok u)(ns:H s=none)(nd:H dx=none):PK a ok (made H s dx a.ip (wB [bT k,.ref u])) s ⟨k,l⟩ :=
 ⟨dx,u,AJ,U.same (bF ns nd),o⟩
def Uy(a:Ad):Sp:=λvs H Q E=>∃ x b env m,vs=[.str ap!,.ref b]/\MF H b env m /\
 (∀ H' s k,kindIn env x=some k->bc H H'->PK a bm! H' s ⟨k,if k=.list then [x] else []⟩->Q (.ref s) H')/\(kindIn env x=none->E a2! none H)
t! Uz(T:eo K mg a):aK P w K mg base (bA P w) 3 a.Li a.Lj bw! (Uy a):=by
 ~GI:FB! 1 a.cJ a.cK aM! cp!:=pF T;r! T.QL.kY X6 ab! aa!
 ·o!⟨x,b,env,m,rfl,_⟩:=h;rfl
 o!⟨x,b,env,m,rfl,B,q1,q2⟩:=h;~hu:=nN hr;o!⟨t1,g1⟩:=T.jo;o!⟨t2,g2⟩:=T.qI;r! ⟨_,af (cE (jR (D0 hu (pv 0) (pv 1)) rfl) (ah ax!) bD)
  (af (cE (bG i8 (wL hu (pv 1) (pv 0) ar!) aJ! (cy _))
   (ah (aH (eI T.dD GI hr rfl T.jY T.dC .nil aM (aa aJ! (aa (VJ (Tz (pv 0) Hy VI) rfl rfl ai! ag!) ag))))) bD)
  (ah (aH (eI T.dD GI hr rfl T.jY T.dC .nil aM (aa aD! (aa j3 ag)))))),?_⟩
 o!⟨kvs,ob,lb,vb⟩:=B.ex;~vx:=vb x;r! ⟨_,rfl,_,rfl,b,_,rfl,nP.k (k:=%aO ap!) ob,_,rfl,?_⟩;rw[vx];cases ek:kindIn env x with
 | none=>e! bO (q2 ek)
 | some k =>
  rw[ek] at vx;r! bY ⟨_,rfl,_,rfl,b,bT k,rfl,?_,xT k .list,_,rfl,?_⟩
  ·have:=nP.k (k:=%aO ap!) ob;rw[vx] at this;e! this
  cases k with
  | list =>
   r! bO λp np=>⟨_,rfl,ae,[(%aO ap!,V.bl true)],rfl,by show 1<=15;decide,λs dx ns ndx ne=>⟨s,dx,[_,_],rfl,rfl,ae,rfl,?_⟩⟩
   rw[aC] at ns ndx;rw[aC,aC];~U:tO (upd H p (.dK (jP [x]))) p [x]:=⟨ae,by simp,by simp⟩;e! q1 _ s .list ek ((ay np _).trans ge!) (tQ (k:=.list) U np ns ndx)
  | num =>
   r! bY λp np s dx ns ndx ne=>⟨s,dx,[_,_],rfl,rfl,ae,rfl,?_⟩
   rw[aC];~U:tO (upd H p (.dK (jP []))) p []:=⟨ae,by simp,by simp⟩;e! q1 _ s .num ek ((ay np _).trans ge!) (tQ (k:=.num) U np ns ndx)
def PL(a:Ad):Sp:=λvs H Q E=>∃ x b env m,vs=[.str ap!,.ref b]/\MF H b env m /\
 (∀ H' u,kindIn env x=some .list->bc H H'->tO H' u [x]->H u=none->Q (.ref u) H')/\(∀ H',kindIn env x≠some .list->bc H H'->E a2! none H')
t! FZ(T:eo K mg a):aK P w K mg base (bA P w) 4 a.oy a.oz bw! (PL a):=by
 ~GU:aK P w K mg base (bA P w) 3 a.Li a.Lj bw! (Uy a):=Uz T;r! T.xB.kY Fy ab! aa!
 ·o!⟨x,b,env,m,rfl,_⟩:=h;rfl
 o!⟨x,b,env,m,rfl,B,q1,q2⟩:=h;o!⟨t2,g2⟩:=T.qI;r! ⟨_,af (aE (i:=2) Fy.nd rfl al! (az GU hr rfl T.Ul T.QL.kp T.Uk .nil aB (aa (pv 0) aF!)))
  (af (cE (bG Kr bE! aJ! (cy _)) (ah ax!) bD)
  (ah (aH bE!))),?_⟩
 r! ⟨_,rfl,_,rfl,x,b,env,m,rfl,B,λH1 s k ek S1 N=>?_,λek=>q2 H (by rw[ek];simp) (λ_ _ h=>h)⟩;o!⟨dx,u,os,U,nu⟩:=N.ex;r! ⟨_,rfl,s,_,dx,_,_,rfl,os,T.ir,T.cW,rfl,xT k .list,_,rfl,?_⟩;cases k with
 | num=>e! bO (q2 H1 (by rw[ek];simp) S1)
 | list=>e! bY ⟨_,rfl,s,_,dx,_,_,rfl,os,T.ir,T.eD,rfl,q1 H1 u ek S1 U nu⟩
end
end Pay
namespace Pay
open PySem L2
open Vaamoa (isName ascii distinct Param Prog kindIn Typed typed needs funAt deepOf)
t! QY{K:%ag}{a b:Addr}{xs ys:List V}(le:ys.length=xs.length){g:TG}{tb:TS}{D:Ends}{σ:St}{H:Hp}(Pv:Nat->St->Hp->Prop)(h0:Pv 0 σ H)(hl:∀ i σ H,Pv i σ H->aX K H a xs/\aX K H b ys)
  (hs:∀ (i:Nat) (x y:V) (T:Addr) (σ:St) (H:Hp),xs[i]?=some x->ys[i]?=some y->Pv i σ H->H T=none->g (.ref T) σ (upd H T fE!) fun σ2 H2=>tb {D with nx:=Pv (i+1),ct:=Pv (i+1),bk:=D.nx} σ2 H2) (hd:∀ σ H,Pv xs.length σ H->D.nx σ H) :
  ∃ W:Nat->Nat->St->Hp->Prop,ec!/\∀ i m σ H,W i m σ H ->
   ((WU K a b).stop i H/\D.nx σ H)∨((WU K a b).go i H/\∃ N:St->Hp->Prop,aK!/\∀ v H',(WU K a b).Tb i H v H'->g v σ H' fun σ2 H2=>tb {D with nx:=N,ct:=N,bk:=D.nx} σ2 H2):=by
 r! ⟨λi m σ H=>m=xs.length - i/\i<=xs.length/\Pv i σ H,⟨xs.length,by simp,Nat.zero_le _,h0⟩,?_⟩;rintro i m σ H ⟨rfl,hi,p⟩;o!⟨qx,qy⟩:=hl i σ H p;by_cases hlt:i < xs.length
 ·~hlt':i < ys.length:=by w!
  r! .inr ⟨⟨xs,ys,xs[i],ys[i],qx,qy,by simp[hlt],by simp[hlt']⟩,Pv (i+1),fun σ' H' p'=>⟨xs.length - (i+1),by w!,rfl,hlt,p'⟩,λv H' y=>?_⟩;o!⟨T,x,y,rfl,nT,rfl,ex,ey⟩:=y;e! hs i x y T σ H (ex xs qx) (ey ys qy) p nT
 ·~e:i=xs.length:=by w!
  subst e;e! .inl ⟨⟨xs,ys,qx,qy,.inl (%am _)⟩,hd σ H p⟩
abbrev rL:Addr->Prop:=λ_=>True
structure UA (a:Ad) (H:Hp) (n:Addr) (p:Prog):Prop where
 ex:∃ kvs,H n=some aQ!/\(∀ x,funAt p x=none->cA kvs a4!=none)/\∀ x g,funAt p x=some g->∃ q,cA kvs a4!=some (.ref q)/\mz a rL H q g/\g.params.length<=2
structure fJ (a:Ad) (f:Nat) (pr:Prog) (H:Hp) (p b n:Addr) (env:List Param) (e:Ex):Prop where
 node:∃ d,aY a rL H e d p
 UB:∃ m,MF H b env m/\m+2 * f<=40
 QZ:UA a H n pr
 good:cf e
 deep:deepOf e<=f
 size:aj e<=60
section
variable {P:Program} {w:World} {K:PySem.W.Frag} {mg:Str->Option Value} {base:Heap} {a:Ad}
t! UA.same{H H':Hp}{n:Addr}{p:Prog}(h:UA a H n p)(S:bc H H'):UA a H' n p:=by
 o!⟨kvs,e,h1,h2⟩:=h.ex;r! ⟨kvs,S _ _ e,h1,λx g hg=>?_⟩;o!⟨q,e1,F,l2⟩:=h2 x g hg;e! ⟨q,e1,F.turn bP! λ_ h=>h,l2⟩
t! fJ.same{f:Nat}{pr:Prog}{H H':Hp}{p b n:Addr}{env:List Param}{e:Ex}(h:fJ a f pr H p b n env e)(S:bc H H'):fJ a f pr H' p b n env e :=
 ⟨let ⟨d,k⟩:=h.node;⟨d,k.turn bP! λ_ h=>h⟩,let ⟨m,B,l⟩:=h.UB;⟨m,B.same S,l⟩,h.QZ.same S,h.good,h.deep,h.size⟩
def yD(a:Ad)(f:Nat):Sp:=λvs H Q E=>∃ pr p b n env e,vs=[.ref p,.ref b,.ref n]/\fJ a f pr H p b n env e /\
 (∀ H' s t,typed pr env e=some t->bc H H'->PK a bm! H' s t->Q (.ref s) H')/\(∀ H',typed pr env e=none->bc H H'->E a2! none H')
def AO(a:Ad)(f:Nat):Sp:=λvs H Q E=>∃ pr k p b n env e,vs=[bT k,.ref p,.ref b,.ref n]/\fJ a f pr H p b n env e /\
 (∀ H' u l,needs k eJ!=some l->bc H H'->tO H' u l->H u=none->Q (.ref u) H')/\(∀ H',needs k eJ!=none->bc H H'->E a2! none H')
t! AQ(T:eo K mg a){f j:Nat}(GS:aK P w K mg base (bA P w) j a.sP a.sQ ac! (yD a f)) :
  aK P w K mg base (bA P w) (j+1) a.mM a.mO aW! (AO a f):=by
 r! T.tw.kY Lf ab! aa!
 ·o!⟨pr,k,p,b,n,env,e,rfl,_⟩:=h;rfl
 o!⟨pr,k,p,b,n,env,e,rfl,I,q1,q2⟩:=h;r! ⟨_,af (aE (i:=4) Lf.nd rfl al! (az GS hr rfl T.FJ T.Dl.kp T.FI .nil aB (aa (pv 1) gm!)))
  (af (cE (bG Kr bL! (pv 0) (cy _)) (ah ax!) bD)
  (ah (aH bL!))),?_⟩
 r! ⟨_,rfl,_,rfl,_,rfl,pr,p,b,n,env,e,rfl,I,λH1 s t et S1 N=>?_,λH1 et S1=>q2 H1 (by rw[et];rfl) S1⟩;o!⟨dx,u,os,U,nu⟩:=N.ex;r! ⟨_,rfl,s,_,dx,_,_,rfl,os,T.ir,T.cW,rfl,_,rfl,xT t.kind k,_,rfl,?_⟩;~en:needs k eJ!=if t.kind=k then some t.uses else none:=by rw[et];rfl
 by_cases c:t.kind=k
 ·rw[if_pos c] at en;rw[decide_eq_true (LH.mpr c)];e! bY ⟨_,rfl,s,_,dx,_,_,rfl,os,T.ir,T.eD,rfl,q1 H1 u _ en S1 U nu⟩
 ·rw[n! c] at en;rw[decide_eq_false λz=>c (LH.mp z)];e! bO (q2 H1 en S1)
def eW(pr:Prog)(env:List Param):List %aP->List Ex->List Text->Option (List Text)
 | [],[],u=>some u
 | k::ks,e::es,u=>(needs k eJ!).bind λv=>(%br u v).bind λz=>eW pr env ks es z
 | _,_,_=>none
t! nz{pr:Prog}{env:List Param}:∀ {ks:List %aP} {es:List Ex} {u:List Text},ks.length≠es.length->eW pr env ks es u=none
 | [],[],_,h=>absurd rfl h
 | [],_::_,_,_=>rfl
 | _::_,[],_,_=>rfl
 | k::ks,e::es,u,h=>by
  show ((needs k eJ!).bind λv=>(%br u v).bind λz=>eW pr env ks es z)=none;have:∀ z,eW pr env ks es z=none:=λz=>nz fc!
  simp[this]
t! DJ(l:List Text):%br [] l=some l:=rfl
def DK(a:Ad)(f:Nat):Sp:=λvs H Q E=>∃ (pr:Prog) (wl p b n:Addr) (env:List Param) (ks:List %aP) (es:List Ex) (l d:Nat) (x:Text) (i:Int) (ns:List Text) (qs:List Addr),vs=[.ref wl,.ref p,.ref b,.ref n] /\
 H wl=some (.lst (ks.map bT))/\eF a rL H p l d x i ns qs/\qs.length=es.length/\es.length<=3/\(∀ (i:Nat) (q:Addr) (e:Ex),qs[i]?=some q->es[i]?=some e->fJ a f pr H q b n env e) /\
 (∀ H' u z,eW pr env ks es []=some z->bc H H'->tO H' u z->H u=none->Q (.ref u) H')/\(∀ H',eW pr env ks es []=none->bc H H'->E a2! none H')
t! MG(T:eo K mg a){f j:Nat}(GS:aK P w K mg base (bA P w) (j+2) a.mM a.mO aW! (AO a f)) :
  aK P w K mg base (bA P w) (j+3) a.hJ a.hU a1! (DK a f):=by
 ~GB:aK P w K mg base (bA P w) (j+2) a.f_both a.xl aZ! (EO a):=(DI T).mono (by w!);r! T.qc.kY mG ab! aa!
 ·o!⟨pr,wl,p,b,n,env,ks,es,l,d,x,i,ns,qs,rfl,_⟩:=h;rfl
 o!⟨pr,wl,p,b,n,env,ks,es,l,d,x,i,ns,qs,rfl,owl,N,lq,l3,I,q1,q2⟩:=h;r! ⟨_,af (cE (bG Kr fy! (aR aJ rfl T.dm %ar eh!) (cy _)) (ah ax!) bD)
  (af (aE (i:=4) mG.nd rfl al! j3)
  (af (lJ PassesOwn.leaving rfl (OO rfl T.Lz (aa (pv 0) eh!)) (OD rfl (vM (cb (i:=5) mG.nd rfl al!) (vM (cb (i:=6) mG.nd rfl al!) L3)))
   (ah (aE (i:=4) mG.nd rfl al! (az GB hr rfl T.Ew T.Cb.kp T.Eu .nil aB (aa (pv 4) (aa (az GS hr rfl T.wm T.tw.kp T.wj .nil aB (aa (pv 5) (aa (pv 6) gm!))) ag))))))
  (ah (aH (pv 4))))),?_⟩
 o!⟨dx,nm,pt,⟨sa,ea,oN⟩,onm,opt,_⟩:=N;r! ⟨_,rfl,wl,_,rfl,.inl (aX.of owl),_,rfl,p,_,dx,_,_,rfl,oN,T.aG,T.aO,rfl,pt,_,rfl,.inl (aX.of opt),rfl,_,rfl,?_⟩;by_cases c:ks.length=es.length
 rotate_left
 ·rw[decide_eq_false dl!];e! bO (q2 H (nz c) (λ_ _ h=>h))
 rw[decide_eq_true dl!];r! bY λu0 nu0=>?_
 ~S0:=ay nu0 (.dK []);r! ⟨_,rfl,_,rfl,p,_,dx,_,_,rfl,S0 _ _ oN,T.aG,T.aO,rfl,wl,pt,_,_,rfl,aX.of (S0 _ _ owl),aX.of (S0 _ _ opt),?_⟩;r! QY (K:=K) (a:=wl) (b:=pt) (xs:=ks.map bT) (ys:=qs.map V.ref) e1!
  (λi σ H'=>∃ (u:Addr) (z:List Text) (v1 v2:Option V),σ=[some (.ref wl),some (.ref p),some (.ref b),some (.ref n),some (.ref u),v1,v2]/\bc H H'/\tO H' u z/\H u=none/\z.length<=60 * i/\i<=3/\eW pr env ks es []=eW pr env (ks.drop i) (es.drop i) z)
  ⟨u0,[],none,none,rfl,S0,⟨ae,by simp,by simp⟩,nu0,by simp,by w!,rfl⟩ (λi σ H' ⟨u,z,v1,v2,_,S,_⟩=>⟨aX.of (S _ _ owl),aX.of (S _ _ opt)⟩) ?_ ?_
 ·rintro i x y Tp σ H' hx hy ⟨u,z,v1,v2,rfl,S,U,nu,lz,i3,pu⟩ nT;rw[%al] at hx hy;o!⟨k,ek,rfl⟩:=%ab hx;o!⟨q,eq,rfl⟩:=%ab hy;~hi:i < es.length:=by rw[←c];e! (%ae ek).1
  ~ee:es[i]?=some es[i]:=by simp[hi]
  ~IS:=I i q _ eq ee;~d1:ks.drop i=k::ks.drop (i+1):=by
   ~hk:i < ks.length:=by w!
   rw[%aT hk];congr 1;have:=(%ae ek).2;e! this
  ~d2:es.drop i=es[i]::es.drop (i+1):=%aT hi;rw[d1,d2] at pu;change _=((needs k (typed pr env es[i])).bind λv=>(%br z v).bind λz'=>eW pr env (ks.drop (i+1)) (es.drop (i+1)) z') at pu;~S1:=S.trans (ay nT (.tup [bT k,.ref q]));~U1:=U.same (ay nT (.tup [bT k,.ref q]));r! ⟨Tp,_,rfl,JQ.of ae,rfl,_,_,rfl,_,_,rfl,rfl,?_⟩;r! ⟨_,rfl,_,rfl,_,rfl,_,rfl,_,rfl,pr,k,q,b,n,env,es[i],rfl,IS.same S1,λH2 u2 v en S2 U2 nu2=>?_,λH2 en S2=>q2 H2 (by rw[pu,en];rfl) f1!⟩;rw[en,%ax] at pu;o!⟨t,et,_,eu⟩:=pG en;~fit:=ny pr _ _ _ et;rw[eu] at fit;~sz:=IS.size;~ne:u≠u2:=aq U1.obj nu2;~S12:=S1.trans S2;r! ⟨u,u2,z,v,rfl,U1.same S2,U2,ne,by w!,λH3 u3 z3 eb S3 U3 nu3=>?_,λH3 eb k3=>?_⟩
  ·rw[eb,%ax] at pu;~lz3:=(wD eb U.nd U2.nd).2;~nn:H u3=none:=by
    cases hh:H u3 with
    | none=>rfl
    | some o =>
     rw[S12 _ _ hh] at nu3;cases nu3
   e! ⟨u3,z3,_,_,rfl,S12.trans S3,U3,nn,by w!,by w!,pu⟩
  ·e! q2 H3 (by rw[pu,eb];rfl) (aA.uD S12 k3 λb' h=>by rw[%aN h];e! nu)
 ·rintro σ H' ⟨u,z,v1,v2,rfl,S,U,nu,lz,i3,pu⟩;~e1:ks.drop (ks.map bT).length=[]:=by rw[%ac];e! List.drop_length
  ~e2:es.drop (ks.map bT).length=[]:=by rw[%ac,c];e! List.drop_length
  rw[e1,e2] at pu;e! ⟨_,rfl,q1 H' u z pu S U nu⟩
def PM(a:Ad):Sp:=λvs H Q E=>∃ (p b:Addr) (k:%aP) (env:List Param) (m l d:Nat) (wd:Text) (i:Int) (x y z:Text) (qs:List Addr),vs=[.ref p,bT k,.ref b]/\eF a rL H p l d wd i [x,y,z] qs/\MF H b env m/\m<=100 /\
 (∀ H' c,y≠z->bc H H'->MF H' c (⟨k,y⟩::⟨.list,z⟩::env) (m+2)->H c=none->Q (.ref c) H')/\(y=z->E a2! none H)
t! zN(k:%aP)(y:Text)(env:List Param)(x:Text):kindIn (⟨k,y⟩::env) x=if y=x then some k else kindIn env x:=by
 unfold kindIn;rw[%by];by_cases c:y=x
 ·simp[c]
 ·rw[n! c,show (y == x)=false from beq_eq_false_iff_ne.mpr c]
t! DL(T:eo K mg a):aK P w K mg base (bA P w) 1 a.eJ a.eK cA! (PM a):=by
 r! T.i4.kY sD ab! aa!
 ·o!⟨p,b,k,env,m,l,d,wd,i,x,y,z,qs,rfl,_⟩:=h;rfl
 o!⟨p,b,k,env,m,l,d,wd,i,x,y,z,qs,rfl,N,B,lm,q1,q2⟩:=h;~hu:=nN hr;o!⟨t2,g2⟩:=T.qI;r! ⟨_,af (cE (bG i8 aR! aR! (cy _)) (ah ax!) bD)
  (af (aE (i:=3) sD.nd rfl al! (gL sk rfl T.zL %bM au!))
  (af (kW hu (pv 3) aR! (pv 1) rfl)
  (af (kW hu (pv 3) aR! aJ! rfl)
  (ah (aH (pv 3)))))),?_⟩
 o!⟨dx,nm,pt,⟨sa,ea,oN⟩,onm,opt,_⟩:=N;o!⟨kvs,ob,lb,vb⟩:=B.ex;r! ⟨_,rfl,p,_,dx,_,_,rfl,oN,T.aG,T.aP,rfl,nm,_,1,_,rfl,rfl,aX.of onm,rfl,?_⟩;r! ⟨_,rfl,p,_,dx,_,_,rfl,oN,T.aG,T.aP,rfl,nm,_,2,_,rfl,rfl,aX.of onm,rfl,rfl,_,rfl,?_⟩;by_cases c:y=z
 ·rw[decide_eq_true (by rw[c])];e! bO (q2 c)
 rw[decide_eq_false λe=>c (iY (V.str.inj e))];r! bY ⟨_,rfl,b,kvs,rfl,.inl ob,λw' nw=>?_⟩;~S1:=ay nw aQ!;~np:p≠w':=aq oN nw;~nn:nm≠w':=aq onm nw;r! ⟨_,rfl,_,rfl,_,rfl,p,_,dx,_,_,rfl,S1 _ _ oN,T.aG,T.aP,rfl,nm,_,1,_,rfl,rfl,aX.of (S1 _ _ onm),rfl,w',_,rfl,AW.k (k:=%aO bX!) ae (%ai (%aj lb lm) ag!),?_⟩;rw[aC];~S2:=ay nw (.dK (putK kvs (.inr bX!) (bT k)));~l2:=cT kvs (%aO bX!:Key) (bT k);~l3:=cT (putK kvs (%aO bX!:Key) (bT k)) (%aO (strOf z):Key) (bT .list);r! ⟨_,rfl,_,rfl,p,_,dx,_,_,rfl,S2 _ _ oN,T.aG,T.aP,rfl,nm,_,2,_,rfl,rfl,aX.of (S2 _ _ onm),rfl,w',_,rfl,AW.k (k:=%aO (strOf z)) ae (%ai (%aj l2 (%bX (%aj lb lm))) ag!),?_⟩;rw[aC];r! ⟨_,rfl,q1 _ w' c (ay nw _) ⟨_,ae,by e! %aj l3 (by w!),λv=>?_⟩ nw⟩;rw[show V.int 1=bT .list from rfl,j1,j1,vb,zN,zN];~inj:∀ {s t:Text},((Sum.inr (strOf s):Key)=Sum.inr fm!)↔s=t:=λ{s t}=>⟨λe=>iY e8!,λe=>by rw[e]⟩
 by_cases c1:v=z
 ·rw[if_pos (inj.mpr c1),n! (λe=>c (e.trans c1)),if_pos c1.symm];rfl
 ·rw[n! (λe=>c1 (inj.mp e))];by_cases c2:v=y
  ·rw[if_pos (inj.mpr c2),if_pos c2.symm];rfl
  ·rw[n! (λe=>c2 (inj.mp e)),n! (λe=>c2 e.symm),n! (λe=>c1 e.symm)]
end
end Pay
namespace Pay
open PySem L2
open Vaamoa (isName ascii distinct Param Prog kindIn Typed typed needs funAt deepOf)
section
variable {P:Program} {w:World} {K:PySem.W.Frag} {mg:Str->Option Value} {base:Heap} {a:Ad}
def lI(a:Ad)(f:Nat)(W:Ex->Prop):Sp:=λvs H Q E=>∃ pr p b n env e,vs=[.ref p,.ref b,.ref n]/\fJ a f pr H p b n env e/\W e /\
 (∀ H' s t,typed pr env e=some t->bc H H'->PK a bm! H' s t->Q (.ref s) H')/\(∀ H',typed pr env e=none->bc H H'->E a2! none H')
t! fJ.part{f:Nat}{pr:Prog}{H:Hp}{p b n q:Addr}{env:List Param}{e e':Ex}{d':Nat}(I:fJ a (f+1) pr H p b n env e)(N:aY a rL H e' d' q)(g:cf e')(dp:deepOf e' < deepOf e)(sz:aj e' < aj e):fJ a f pr H q b n env e' :=
 ⟨⟨_,N⟩,let ⟨m,B,l⟩:=I.UB;⟨m,B,by w!⟩,I.QZ,g,by have:=I.deep;w!,by have:=I.size;w!⟩
t! Bz(T:eo K mg a)(f:Nat):aK P w K mg base (bA P w) 3 a.il a.rq ac! (lI a f λe=>∃ l i,e=.num l i):=by
 ~GI:FB! 1 a.cJ a.cK aM! cp!:=pF T;r! T.rB.kY J6 ab! aa!
 ·o!⟨pr,p,b,n,env,e,rfl,_⟩:=h;rfl
 o!⟨pr,p,b,n,env,e,rfl,I,⟨l,i,rfl⟩,q1,q2⟩:=h;o!⟨t1,g1⟩:=T.jo;r! ⟨_,ah (aH (eI T.dD GI hr rfl T.jY T.dC .nil aM (aa aD! (aa j3 ag)))),?_⟩;intro u nu s dx ns ndx ne;r! ⟨s,dx,[_,_],rfl,rfl,ae,rfl,?_⟩;rw[aC];~U:tO (upd H u (.dK (jP []))) u []:=⟨ae,by simp,by simp⟩;~et:typed pr env (.num l i)=some ⟨.num,[]⟩:=by
  ~g:i<=Vaamoa.NUMBER:=I.good;unfold typed;rw[if_pos g]
 e! q1 _ s _ et ((ay nu _).trans ge!) (tQ (k:=.num) U nu ns ndx)
t! Jt(T:eo K mg a)(f:Nat):aK P w K mg base (bA P w) 3 a.ox a.Av ac! (lI a f λe=>∃ l,e=.nil l):=by
 ~GI:FB! 1 a.cJ a.cK aM! cp!:=pF T;r! T.AE.kY Pc ab! aa!
 ·o!⟨pr,p,b,n,env,e,rfl,_⟩:=h;rfl
 o!⟨pr,p,b,n,env,e,rfl,I,⟨l,rfl⟩,q1,q2⟩:=h;o!⟨t1,g1⟩:=T.qI;r! ⟨_,ah (aH (eI T.dD GI hr rfl T.jY T.dC .nil aM (aa (aQ (v:=.int 1) rfl g1 ⟨t1,rfl⟩) (aa j3 ag)))),?_⟩;intro u nu s dx ns ndx ne;r! ⟨s,dx,[_,_],rfl,rfl,ae,rfl,?_⟩;rw[aC];~U:tO (upd H u (.dK (jP []))) u []:=⟨ae,by simp,by simp⟩;~et:typed pr env (.nil l)=some ⟨.list,[]⟩:=by unfold typed;rfl
 e! q1 _ s _ et ((ay nu _).trans ge!) (tQ (k:=.list) U nu ns ndx)
t! F4(T:eo K mg a)(f:Nat):aK P w K mg base (bA P w) 4 a.lR a.xm ac! (lI a f λe=>∃ l x,e=.var l x):=by
 ~GU:aK P w K mg base (bA P w) 3 a.Li a.Lj bw! (Uy a):=Uz T;r! T.xA.kY NP ab! aa!
 ·o!⟨pr,p,b,n,env,e,rfl,_⟩:=h;rfl
 o!⟨pr,p,b,n,env,e,rfl,I,⟨l,x,rfl⟩,q1,q2⟩:=h;r! ⟨_,ah (aH (az GU hr rfl T.Ul T.QL.kp T.Uk .nil aB (aa aR! aF!))),?_⟩;o!⟨d,dx,nm,pt,⟨sa,ea,oN⟩,onm,opt,_⟩:=I.node;o!⟨m,B,lm⟩:=I.UB;~et:typed pr env (.var l x)=(kindIn env x).map λk=>⟨k,if k=.list then [x] else []⟩:=by unfold typed;rfl
 r! ⟨_,rfl,p,_,dx,_,_,rfl,oN,T.aG,T.aP,rfl,nm,_,0,_,rfl,rfl,aX.of onm,rfl,_,rfl,x,b,env,m,rfl,B,λH' s k ek S N=>?_,λek=>?_⟩
 ·e! q1 H' s _ (by rw[et,ek];rfl) S N
 ·e! q2 H (by rw[et,ek];rfl) (bc.refl _)
t! Oc(T:eo K mg a){f j:Nat}(GS:aK P w K mg base (bA P w) (j+5) a.sP a.sQ ac! (yD a f)) :
  aK P w K mg base (bA P w) (j+6) a.lV a.xq ac! (lI a (f+1) λe=>∃ l k x,e=.tick l k x):=by
 r! T.Cj.kY NR ab! aa!
 ·o!⟨pr,p,b,n,env,e,rfl,_⟩:=h;rfl
 o!⟨pr,p,b,n,env,e,rfl,I,⟨l,k,x,rfl⟩,q1,q2⟩:=h;r! ⟨_,ah (aH (az GS hr rfl T.FJ T.Dl.kp T.FI .nil aB (aa aR! bc!))),?_⟩;o!⟨d,p1,⟨dx,nm,pt,⟨sa,ea,oN⟩,onm,opt,_⟩,N1⟩:=I.node;~gd:k.natAbs<=9/\cf x:=I.good;~et:typed pr env (.tick l k x)=typed pr env x:=by
  ~e:typed pr env (.tick l k x)=if Vaamoa.COST < k.natAbs then none else typed pr env x:=by rw[typed]
  rw[e,n! (show ¬ Vaamoa.COST < k.natAbs from Nat.not_lt.mpr gd.1)]
 r! ⟨_,rfl,p,_,dx,_,_,rfl,oN,T.aG,T.aO,rfl,pt,_,0,_,rfl,rfl,aX.of opt,rfl,_,rfl,_,rfl,pr,p1,b,n,env,x,rfl,I.part N1 gd.2 (by simp[deepOf]) (by rw[bz (.tick l k x)];dsimp only;w!),λH' s t e1 S N=>?_,λH' e1 S=>?_⟩
 ·e! q1 H' s t (by rw[et];e! e1) S N
 ·e! q2 H' (by rw[et];e! e1) S
t! Od(T:eo K mg a){f j:Nat}(GP:aK P w K mg base (bA P w) (j+7) a.hJ a.hU a1! (DK a f)) :
  aK P w K mg base (bA P w) (j+8) a.lS a.xn ac! (lI a (f+1) λe=>∃ l x y,e=.cons l x y):=by
 ~GI:FB! (j+6) a.cJ a.cK aM! cp!:=(pF T).mono (by w!);r! T.Cf.kY NQ ab! aa!
 ·o!⟨pr,p,b,n,env,e,rfl,_⟩:=h;rfl
 o!⟨pr,p,b,n,env,e,rfl,I,⟨l,x,y,rfl⟩,q1,q2⟩:=h;o!⟨t1,g1⟩:=T.jo;o!⟨t2,g2⟩:=T.qI;r! ⟨_,ah (aH (eI T.dD GI hr rfl T.jY T.dC .nil aM (aa aJ! (aa (az GP hr rfl T.uj T.qc.kp T.ui .nil aB
  (aa (cz (aa aD! (aa aJ! ag))) e7!)) ag)))),?_⟩
 o!⟨d,p1,p2,NO,N1,N2⟩:=I.node;~gd:cf x/\cf y:=I.good;~et:typed pr env f8!=(eW pr env [.num,.list] [x,y] []).map λz=>⟨.list,z⟩:=by
  ~e:typed pr env f8!=(needs .num dY!).bind λu=>(needs .list dX!).bind λv=>(Vaamoa.both u v).map λw=>⟨.list,w⟩:=by rw[typed]
  rw[e];simp only[eW,DJ,Option.bind_some];cases needs .num dY!<;>simp;cases needs .list dX!<;>simp
 ~I1:fJ a f pr H p1 b n env x:=I.part N1 gd.1 aT! (by rw[bz f8!];dsimp only;w!);~I2:fJ a f pr H p2 b n env y:=I.part N2 gd.2 aT! (by rw[bz f8!];dsimp only;w!);r! ⟨by show 2<=sizeLine;decide,λwl nwl=>?_⟩;~S1:=ay nwl (.lst [V.int 0,V.int 1]);r! ⟨_,rfl,_,rfl,_,rfl,pr,wl,p,b,n,env,[.num,.list],[x,y],l,d,_,_,_,[p1,p2],rfl,ae,NO.turn dD! (λ_ h=>h),rfl,by simp,λi q e' hq he=>?_,λH' u z ez S U nu=>?_,λH' ez S=>?_⟩
 ·match i,hq,he with
  | 0,hq,he=>cases hq;cases he;e! I1.same S1
  | 1,hq,he=>cases hq;cases he;e! I2.same S1
  | i+2,hq,_=>simp at hq
 ·intro s dx ns ndx ne;r! ⟨s,dx,[_,_],rfl,rfl,ae,rfl,?_⟩;rw[aC];e! q1 _ s _ (by rw[et,ez];rfl) (S1.trans (S.trans ge!)) (tQ (k:=.list) U (S1.free nu) ns ndx)
 ·e! q2 H' (by rw[et,ez];rfl) (S1.trans S)
t! wF(T:eo K mg a){f j:Nat}(GP:aK P w K mg base (bA P w) (j+7) a.hJ a.hU a1! (DK a f)) :
  aK P w K mg base (bA P w) (j+8) a.cq a.ll ac! (lI a (f+1) λe=>∃ l x y,e=.add l x y∨e=.sub l x y):=by
 ~GI:FB! (j+6) a.cJ a.cK aM! cp!:=(pF T).mono (by w!);r! T.lC.kY Ee ab! aa!
 ·o!⟨pr,p,b,n,env,e,rfl,_⟩:=h;rfl
 o!⟨pr,p,b,n,env,e,rfl,I,⟨l,x,y,ee⟩,q1,q2⟩:=h;o!⟨t1,g1⟩:=T.jo;r! ⟨_,ah (aH (eI T.dD GI hr rfl T.jY T.dC .nil aM (aa aD! (aa (az GP hr rfl T.uj T.qc.kp T.ui .nil aB
  (aa (cz (aa aD! (aa aD! ag))) e7!)) ag)))),?_⟩
 ~IN:∃ d p1 p2 wd,eF a rL H p l d wd 0 [] [p1,p2]/\fJ a f pr H p1 b n env x/\fJ a f pr H p2 b n env y:=by
  rcases ee with rfl | rfl
  ·o!⟨d,p1,p2,NO,N1,N2⟩:=I.node;~gd:cf x/\cf y:=I.good;e! ⟨d,p1,p2,_,NO,I.part N1 gd.1 aT! (by rw[bz (.add l x y)];dsimp only;w!),I.part N2 gd.2 aT! (by rw[bz (.add l x y)];dsimp only;w!)⟩
  ·o!⟨d,p1,p2,NO,N1,N2⟩:=I.node;~gd:cf x/\cf y:=I.good;e! ⟨d,p1,p2,_,NO,I.part N1 gd.1 aT! (by rw[bz (.sub l x y)];dsimp only;w!),I.part N2 gd.2 aT! (by rw[bz (.sub l x y)];dsimp only;w!)⟩
 ~et:typed pr env e=(eW pr env [.num,.num] [x,y] []).map λz=>⟨.num,z⟩:=by
  ~e:typed pr env e=(needs .num dY!).bind λu=>(needs .num dX!).bind λv=>(%br u v).map λw=>⟨.num,w⟩:=by
   rcases ee with rfl | rfl<;>rw[typed]
  rw[e];simp only[eW,DJ,Option.bind_some];cases needs .num dY!<;>simp;cases needs .num dX!<;>simp
 o!⟨d,p1,p2,wd,NO,I1,I2⟩:=IN;r! ⟨by show 2<=sizeLine;decide,λwl nwl=>?_⟩;~S1:=ay nwl (.lst [V.int 0,V.int 0]);r! ⟨_,rfl,_,rfl,_,rfl,pr,wl,p,b,n,env,[.num,.num],[x,y],l,d,_,_,_,[p1,p2],rfl,ae,NO.turn dD! (λ_ h=>h),rfl,by simp,λi q e' hq he=>?_,λH' u z ez S U nu=>?_,λH' ez S=>?_⟩
 ·match i,hq,he with
  | 0,hq,he=>cases hq;cases he;e! I1.same S1
  | 1,hq,he=>cases hq;cases he;e! I2.same S1
  | i+2,hq,_=>simp at hq
 ·intro s dx ns ndx ne;r! ⟨s,dx,[_,_],rfl,rfl,ae,rfl,?_⟩;rw[aC];e! q1 _ s _ (by rw[et,ez];rfl) (S1.trans (S.trans ge!)) (tQ (k:=.num) U (S1.free nu) ns ndx)
 ·e! q2 H' (by rw[et,ez];rfl) (S1.trans S)
end
end Pay
namespace Pay
open PySem L2
open Vaamoa (isName ascii distinct Param Prog kindIn Typed typed needs funAt deepOf)
section
variable {P:Program} {w:World} {K:PySem.W.Frag} {mg:Str->Option Value} {base:Heap} {a:Ad}
t! Sq(T:eo K mg a){f j:Nat}(GS:aK P w K mg base (bA P w) (j+5) a.sP a.sQ ac! (yD a f)) :
  aK P w K mg base (bA P w) (j+8) a.sT a.Dh ac! (lI a (f+1) λe=>∃ l c x y,e=.ifz l c x y):=by
 ~GSee:aK P w K mg base (bA P w) (j+7) a.sP a.sQ ac! (yD a f):=GS.mono (by w!);~GA:aK P w K mg base (bA P w) (j+7) a.mM a.mO aW! (AO a f):=(AQ T GS).mono (by w!);~GB:aK P w K mg base (bA P w) (j+7) a.f_both a.xl aZ! (EO a):=(DI T).mono (by w!);~GE:FB! (j+7) a.sR a.sS aZ! DH:=(EN T).mono (by w!);~GI:FB! (j+6) a.cJ a.cK aM! cp!:=(pF T).mono (by w!);r! T.IY.kY Aq ab! aa!
 ·o!⟨pr,p,b,n,env,e,rfl,_⟩:=h;rfl
 o!⟨pr,p,b,n,env,e,rfl,I,⟨l,c,x,y,rfl⟩,q1,q2⟩:=h;o!⟨t1,g1⟩:=T.jo;r! ⟨_,af (aE (i:=3) Aq.nd rfl al! (az GA hr rfl T.wm T.tw.kp T.wj .nil aB (aa aD! (aa aR! bc!))))
  (af (aE (i:=4) Aq.nd rfl al! cm!)
  (af (aE (i:=5) Aq.nd rfl al! (az GA hr rfl T.wm T.tw.kp T.wj .nil aB (aa bL! (aa aR! bc!))))
  (ah (aH (eI T.dD GI hr rfl T.jY T.dC .nil aM (aa bL! (aa (az GB hr rfl T.Ew T.Cb.kp T.Eu .nil aB (aa (pv 3)
   (aa (az GE hr rfl T.Dn T.zA.kp T.Dm .nil aM (aa bL! (aa (pv 5) ag))) ag))) ag))))))),?_⟩
 o!⟨d,p1,p2,p3,⟨dx,nm,pt,⟨sa,ea,oN⟩,onm,opt,_⟩,N1,N2,N3⟩:=I.node;~gd:cf c/\cf x/\cf y:=I.good;~I1:fJ a f pr H p1 b n env c:=I.part N1 gd.1 aT! dm!;~I2:fJ a f pr H p2 b n env x:=I.part N2 gd.2.1 aT! dm!;~I3:fJ a f pr H p3 b n env y:=I.part N3 gd.2.2 aT! dm!;~et:typed pr env (.ifz l c x y)=(needs .num (typed pr env c)).bind λu=>(typed pr env x).bind λs=>(needs s.kind dX!).bind λv=>(Vaamoa.both u (Vaamoa.either s.uses v)).map λw=>⟨s.kind,w⟩:=by rw[typed]
 r! ⟨_,rfl,p,_,dx,_,_,rfl,oN,T.aG,T.aO,rfl,pt,_,0,_,rfl,rfl,aX.of opt,rfl,_,rfl,_,rfl,pr,.num,p1,b,n,env,c,rfl,I1,λH1 u lu e1 S1 U1 nu=>?_,λH1 e1 S1=>q2 H1 (by rw[et,e1];rfl) S1⟩;rw[e1,%ax] at et;r! ⟨_,rfl,p,_,dx,_,_,rfl,S1 _ _ oN,T.aG,T.aO,rfl,pt,_,1,_,rfl,rfl,aX.of (S1 _ _ opt),rfl,_,rfl,_,rfl,pr,p2,b,n,env,x,rfl,I2.same S1,λH2 s2 t2 e2 S2 N2=>?_,λH2 e2 S2=>q2 H2 (by rw[et,e2];rfl) f1!⟩;rw[e2,%ax] at et;~S12:=S1.trans S2;o!⟨dy,v2,os2,V2,nv2⟩:=N2.ex;r! ⟨_,rfl,s2,_,dy,_,_,rfl,os2,T.ir,T.cW,rfl,_,rfl,p,_,dx,_,_,rfl,S12 _ _ oN,T.aG,T.aO,rfl,pt,_,2,_,rfl,rfl,aX.of (S12 _ _ opt),rfl,_,rfl,_,rfl,pr,t2.kind,p3,b,n,env,y,rfl,I3.same S12,λH3 u3 l3 e3 S3 U3 nu3=>?_,λH3 e3 S3=>q2 H3 (by rw[et,e3];rfl) (S12.trans S3)⟩;rw[e3,%ax] at et;~S13:=S12.trans S3;o!⟨s1',f1,_,rfl⟩:=pG e1;o!⟨s3',f3,_,rfl⟩:=pG e3;~z1:=ny pr _ _ _ f1;~z2:=ny pr _ _ _ e2;~z3:=ny pr _ _ _ f3;~sz:=I1.size;~sz2:=I2.size;~sz3:=I3.size;~el:=tP t2.uses s3'.uses;r! ⟨_,rfl,s2,_,dy,_,_,rfl,S3 _ _ os2,T.ir,T.cW,rfl,_,rfl,_,rfl,s2,_,dy,_,_,rfl,S3 _ _ os2,T.ir,T.eD,rfl,_,rfl,v2,u3,t2.uses,s3'.uses,rfl,V2.same S3,U3,by w!,λH4 u4 S4 U4 nu4=>?_⟩;~S34:=S3.trans S4;~U14:=(U1.same S2).same S34;~ne:u≠u4:=aq ((U1.same S2).same S3).obj nu4;r! ⟨u,u4,_,_,rfl,U14,U4,ne,by w!,λH5 u5 z5 eb S5 U5 nu5=>?_,λH5 eb k5=>?_⟩
 ·intro s dz ns ndz nes;r! ⟨s,dz,[_,_],rfl,rfl,ae,rfl,?_⟩;rw[aC];rw[eb] at et;~S15:=S13.trans (S4.trans S5);e! q1 _ s _ et (S15.trans (bF ns ndz)) (tQ (k:=t2.kind) U5 ((S13.trans S4).free nu5) ns ndz)
 ·e! q2 H5 fd! (aA.uD (S13.trans S4) k5 λb' h=>by rw[%aN h];e! nu)
t! PN(T:eo K mg a){f j:Nat}(GS:aK P w K mg base (bA P w) (j+5) a.sP a.sQ ac! (yD a f)) :
  aK P w K mg base (bA P w) (j+8) a.oA a.Aw ac! (lI a (f+1) λe=>∃ l x c y,e=.letE l x c y):=by
 ~GSee:aK P w K mg base (bA P w) (j+7) a.sP a.sQ ac! (yD a f):=GS.mono (by w!);~GB:aK P w K mg base (bA P w) (j+7) a.f_both a.xl aZ! (EO a):=(DI T).mono (by w!);~GW:FB! (j+7) a.ou a.ow de! (AM K):=(Cs T).mono (by w!);~GI:FB! (j+6) a.cJ a.cK aM! cp!:=(pF T).mono (by w!);r! T.Ez.kY xa ab! aa!
 ·o!⟨pr,p,b,n,env,e,rfl,_⟩:=h;rfl
 o!⟨pr,p,b,n,env,e,rfl,I,⟨l,x,c,y,rfl⟩,q1,q2⟩:=h;~hu:=nN hr;r! ⟨_,af (aE (i:=3) xa.nd rfl al! cm!)
  (af (aE (i:=4) xa.nd rfl al! (gL sk rfl T.zL %bM aF!))
  (af (kW hu (pv 4) aR! ca! rfl)
  (af (aE (i:=5) xa.nd rfl al! (az GSee hr rfl T.FJ T.Dl.kp T.FI .nil aB (aa aR! (aa (pv 4) au!))))
  (ah (aH (eI T.dD GI hr rfl T.jY T.dC .nil aM (aa em! (aa (az GB hr rfl T.Ew T.Cb.kp T.Eu .nil aB (aa ca!
   (aa (az GW hr rfl T.AD T.wo.kp T.AA .nil aM (aa em! eF!)) ag))) ag)))))))),?_⟩
 o!⟨d,p1,p2,⟨dx,nm,pt,⟨sa,ea,oN⟩,onm,opt,_⟩,N1,N2⟩:=I.node;~gd:isName x=true/\cf c/\cf y:=I.good;~I1:fJ a f pr H p1 b n env c:=I.part N1 gd.2.1 aT! (by rw[bz go!];dsimp only;w!);~I2:fJ a f pr H p2 b n env y:=I.part N2 gd.2.2 aT! (by rw[bz go!];dsimp only;w!);~et:typed pr env go!=(typed pr env c).bind λs=>(typed pr (⟨s.kind,x⟩::env) y).bind λr=>(%br s.uses (%bv [x] r.uses)).map λw=>⟨r.kind,w⟩:=by
  rw[typed,n! (by rw[gd.1];decide)]
 r! ⟨_,rfl,p,_,dx,_,_,rfl,oN,T.aG,T.aO,rfl,pt,_,0,_,rfl,rfl,aX.of opt,rfl,_,rfl,_,rfl,pr,p1,b,n,env,c,rfl,I1,λH1 s1 t1 e1 S1 N1'=>?_,λH1 e1 S1=>q2 H1 (by rw[et,e1];rfl) S1⟩;rw[e1,%ax] at et;o!⟨dy,v1,os1,V1,nv1⟩:=N1'.ex;o!⟨m,B,lm⟩:=I.UB;o!⟨kvs,ob,lb,vb⟩:=(B.same S1).ex;r! ⟨_,rfl,b,kvs,rfl,.inl ob,λw' nw=>?_⟩;~SA:=ay nw aQ!;~l2:=cT kvs (%aO ap!:Key) (bT t1.kind);r! ⟨_,rfl,s1,_,dy,_,_,rfl,SA _ _ os1,T.ir,T.cW,rfl,_,rfl,_,rfl,p,_,dx,_,_,rfl,SA _ _ (S1 _ _ oN),T.aG,T.aP,rfl,nm,_,0,_,rfl,rfl,aX.of (SA _ _ (S1 _ _ onm)),rfl,w',_,rfl,AW.k (k:=%aO ap!) ae (%ai (%aj lb (by w!:m<=40)) ag!),?_⟩;rw[aC];~SB:=ay nw (.dK eR!);~S1B:=S1.trans SB;~BW:MF (upd H1 w' (.dK eR!)) w' (⟨t1.kind,x⟩::env) (m+1):=by
  r! ⟨_,ae,%aj l2 (by w!),λv=>?_⟩;rw[j1,vb,zN];by_cases c2:v=x
  ·rw[if_pos (by rw[c2]),if_pos c2.symm];rfl
  ·rw[n! (λe=>c2 (iY e8!)),n! (λe=>c2 e.symm)]
 ~J2:=I2.same S1B;~K2:fJ a f pr (upd H1 w' (.dK eR!)) p2 w' n (⟨t1.kind,x⟩::env) y:=⟨J2.node,⟨m+1,BW,by w!⟩,J2.QZ,J2.good,J2.deep,J2.size⟩;r! ⟨_,rfl,p,_,dx,_,_,rfl,S1B _ _ oN,T.aG,T.aO,rfl,pt,_,1,_,rfl,rfl,aX.of (S1B _ _ opt),rfl,_,rfl,_,rfl,pr,p2,w',n,_,y,rfl,K2,λH2 s2 t2 e2 S2 N2'=>?_,λH2 e2 S2=>q2 H2 (by rw[et,e2];rfl) (S1B.trans S2)⟩;rw[e2,%ax] at et;~S12:=S1B.trans S2;o!⟨dz,v2,os2,V2,nv2⟩:=N2'.ex;~z1:=ny pr _ _ _ e1;~z2:=ny pr _ _ _ e2;~sz:=I1.size;~sz2:=I2.size;~V12:=(V1.same SB).same S2;~os12:=S2 _ _ (SB _ _ os1);~wf:=gi (ns:=[x]) z2.1;~nf:∀ (o:Obj) (u':HO),H2 nm≠some (.ql o u'):=λo u' e=>by
  rw[S12 _ _ onm] at e;cases e
 ~nem:v2≠nm:=λe=>by rw[e,S1B _ _ onm] at nv2;cases nv2
 r! ⟨_,rfl,s2,_,dz,_,_,rfl,os2,T.ir,T.cW,rfl,_,rfl,s1,_,dy,_,_,rfl,os12,T.ir,T.eD,rfl,_,rfl,s2,_,dz,_,_,rfl,os2,T.ir,T.eD,rfl,_,rfl,p,_,dx,_,_,rfl,S12 _ _ oN,T.aG,T.aP,rfl,
  v2,nm,t2.uses,[x],rfl,V2,aX.of (S12 _ _ onm),nf,nem,λH3 u3 S3 U3 nu3=>?_⟩
 ~ne:v1≠u3:=aq V12.obj nu3;r! ⟨v1,u3,_,_,rfl,V12.same S3,U3,ne,by w!,λH5 u5 z5 eb S5 U5 nu5=>?_,λH5 eb k5=>?_⟩
 ·intro s dw ns ndw nes;r! ⟨s,dw,[_,_],rfl,rfl,ae,rfl,?_⟩;rw[aC];rw[eb] at et;e! q1 _ s _ et (S12.trans (S3.trans (S5.trans (bF ns ndw)))) (tQ (k:=t2.kind) U5 ((S12.trans S3).free nu5) ns ndw)
 ·e! q2 H5 fd! (aA.uD (S12.trans S3) k5 λb' h=>by rw[%aN h];e! nv1)
t! MH(T:eo K mg a){f j:Nat}(GS:aK P w K mg base (bA P w) (j+5) a.sP a.sQ ac! (yD a f)) :
  aK P w K mg base (bA P w) (j+8) a.jh a.uh ac! (lI a (f+1) λe=>∃ l x y z c,e=.share l x y z c):=by
 ~GSee:aK P w K mg base (bA P w) (j+7) a.sP a.sQ ac! (yD a f):=GS.mono (by w!);~GB:aK P w K mg base (bA P w) (j+7) a.f_both a.xl aZ! (EO a):=(DI T).mono (by w!);~GW:FB! (j+7) a.ou a.ow de! (AM K):=(Cs T).mono (by w!);~GU:aK P w K mg base (bA P w) (j+7) a.oy a.oz bw! (PL a):=(FZ T).mono (by w!);~GP:aK P w K mg base (bA P w) (j+7) a.eJ a.eK cA! (PM a):=(DL T).mono (by w!);~GI:FB! (j+6) a.cJ a.cK aM! cp!:=(pF T).mono (by w!);r! T.zB.kY rf ab! aa!
 ·o!⟨pr,p,b,n,env,e,rfl,_⟩:=h;rfl
 o!⟨pr,p,b,n,env,e,rfl,I,⟨l,x,y,z,c,rfl⟩,q1,q2⟩:=h;o!⟨t2,g2⟩:=T.qI;r! ⟨_,af (aE (i:=3) rf.nd rfl al! (az GU hr rfl T.Ce T.xB.kp T.Cd .nil aB (aa aR! aF!)))
  (af (aE (i:=4) rf.nd rfl al! (az GP hr rfl T.mY T.i4.kp T.mX .nil aB (aa (pv 0) (aa aJ! aF!))))
  (af (aE (i:=5) rf.nd rfl al! (az GSee hr rfl T.FJ T.Dl.kp T.FI .nil aB (aa aR! (aa (pv 4) au!))))
  (ah (aH (eI T.dD GI hr rfl T.jY T.dC .nil aM (aa em! (aa (az GB hr rfl T.Ew T.Cb.kp T.Eu .nil aB (aa (pv 3)
   (aa (az GW hr rfl T.AD T.wo.kp T.AA .nil aM (aa em! (aa (si CT ad! (pd aI) He) ag))) ag))) ag))))))),?_⟩
 o!⟨d,p1,NO,N1⟩:=I.node;o!⟨dx,nm,pt,⟨sa,ea,oN⟩,onm,opt,_⟩:=id NO;~gd:isName x=true/\isName y=true/\isName z=true/\cf c:=I.good;~I1:fJ a f pr H p1 b n env c:=I.part N1 gd.2.2.2 (by simp[deepOf]) (by rw[bz (.share l x y z c)];dsimp only;w!);~et:typed pr env (.share l x y z c)=if kindIn env x≠some .list∨y=z then none else (typed pr (⟨.list,y⟩::⟨.list,z⟩::env) c).bind λr=>(%br [x] (%bv [y,z] r.uses)).map λw=>⟨r.kind,w⟩:=by
  rw[typed];by_cases h1:kindIn env x≠some .list
  ·rw[if_pos (.inl h1),if_pos (.inl h1)]
  by_cases h2:y=z
  ·rw[if_pos (.inr (.inr (.inr h2))),if_pos (.inr h2)]
  rw[n!,n!]
  ·rintro (h | h)
   ·e! h1 h
   ·e! h2 h
  ·rw[gd.2.1,gd.2.2.1];rintro (h | h | h | h)
   ·e! h1 h
   ·cases h
   ·cases h
   ·e! h2 h
 o!⟨m,B,lm⟩:=I.UB;r! ⟨_,rfl,p,_,dx,_,_,rfl,oN,T.aG,T.aP,rfl,nm,_,0,_,rfl,rfl,aX.of onm,rfl,_,rfl,x,b,env,m,rfl,B,λH1 u ek S1 U1 nu=>?_,λH1 ek S1=>q2 H1 (by rw[et,if_pos (.inl ek)]) S1⟩;~S1':∀ b o,rL b->H b=some o->H1 b=some o:=λb o _ e=>S1 b o e
 r! ⟨_,rfl,_,rfl,p,b,.list,env,m,l,d,_,_,x,y,z,_,rfl,NO.turn S1' (λ_ h=>h),B.same S1,by w!,λH2 c2 yz S2 BW nc=>?_,λyz=>q2 H1 (by rw[et,if_pos (.inr yz)]) S1⟩;rw[n! (by rintro (h | h);e! h ek;e! yz h)] at et;~S12:=S1.trans S2;~J2:=I1.same S12;~K2:fJ a f pr H2 p1 c2 n (⟨.list,y⟩::⟨.list,z⟩::env) c:=⟨J2.node,⟨m+2,BW,by w!⟩,J2.QZ,J2.good,J2.deep,J2.size⟩;r! ⟨_,rfl,p,_,dx,_,_,rfl,S12 _ _ oN,T.aG,T.aO,rfl,pt,_,0,_,rfl,rfl,aX.of (S12 _ _ opt),rfl,_,rfl,_,rfl,pr,p1,c2,n,_,c,rfl,K2,λH3 s3 t3 e3 S3 N3=>?_,λH3 e3 S3=>q2 H3 (by rw[et,e3];rfl) (S12.trans S3)⟩;rw[e3,%ax] at et;~S13:=S12.trans S3;o!⟨dz,v3,os3,V3,nv3⟩:=N3.ex;~z3:=ny pr _ _ _ e3;~sz:=I1.size;~wf:=gi (ns:=[y,z]) z3.1;r! ⟨_,rfl,s3,_,dz,_,_,rfl,os3,T.ir,T.cW,rfl,_,rfl,_,rfl,s3,_,dz,_,_,rfl,os3,T.ir,T.eD,rfl,_,rfl,p,_,dx,_,_,rfl,S13 _ _ oN,T.aG,T.aP,rfl,1,rfl,nm,_,rfl,aX.of (S13 _ _ onm),λsl nsl=>?_⟩;~S4:=ay nsl cO!;~nf:∀ (o:Obj) (u':HO),upd H3 sl cO! sl≠some (.ql o u'):=λo u' e=>by
  rw[ae] at e;cases e
 ~nem:v3≠sl:=aq V3.obj nsl;r! ⟨v3,sl,t3.uses,[y,z],rfl,V3.same S4,aX.of ae,nf,nem,λH5 u5 S5 U5 nu5=>?_⟩;~U15:tO H5 u [x]:=(((U1.same S2).same S3).same S4).same S5;~ne:u≠u5:=aq (((U1.same S2).same S3).same S4).obj nu5;~S15:=S13.trans (S4.trans S5);r! ⟨u,u5,_,_,rfl,U15,U5,ne,by show 1+_<=_;w!,λH6 u6 z6 eb S6 U6 nu6=>?_,λH6 eb k6=>?_⟩
 ·intro s dw ns ndw nes;r! ⟨s,dw,[_,_],rfl,rfl,ae,rfl,?_⟩;rw[aC];rw[eb] at et;e! q1 _ s _ et (S15.trans (S6.trans (bF ns ndw))) (tQ (k:=t3.kind) U6 (S15.free nu6) ns ndw)
 ·e! q2 H6 fd! (aA.uD S15 k6 λb' h=>by rw[%aN h];e! nu)
end
end Pay
namespace Pay
open PySem L2
open Vaamoa (isName ascii distinct Param Prog kindIn Typed typed needs funAt deepOf)
section
variable {P:Program} {w:World} {K:PySem.W.Frag} {mg:Str->Option Value} {base:Heap} {a:Ad}
t! Oe(T:eo K mg a){f j:Nat}(GS:aK P w K mg base (bA P w) (j+5) a.sP a.sQ ac! (yD a f)) :
  aK P w K mg base (bA P w) (j+8) a.lT a.xo ac! (lI a (f+1) λe=>∃ l x c y z g,e=.case l x c y z g):=by
 ~GSee:aK P w K mg base (bA P w) (j+7) a.sP a.sQ ac! (yD a f):=GS.mono (by w!);~GA:aK P w K mg base (bA P w) (j+7) a.mM a.mO aW! (AO a f):=(AQ T GS).mono (by w!);~GB:aK P w K mg base (bA P w) (j+7) a.f_both a.xl aZ! (EO a):=(DI T).mono (by w!);~GE:FB! (j+7) a.sR a.sS aZ! DH:=(EN T).mono (by w!);~GW:FB! (j+7) a.ou a.ow de! (AM K):=(Cs T).mono (by w!);~GU:aK P w K mg base (bA P w) (j+7) a.oy a.oz bw! (PL a):=(FZ T).mono (by w!);~GP:aK P w K mg base (bA P w) (j+7) a.eJ a.eK cA! (PM a):=(DL T).mono (by w!);~GI:FB! (j+6) a.cJ a.cK aM! cp!:=(pF T).mono (by w!);r! T.Cg.kY pR ab! aa!
 ·o!⟨pr,p,b,n,env,e,rfl,_⟩:=h;rfl
 o!⟨pr,p,b,n,env,e,rfl,I,⟨l,x,c,y,z,g,rfl⟩,q1,q2⟩:=h;o!⟨t1,g1⟩:=T.jo;r! ⟨_,af (aE (i:=3) pR.nd rfl al! (az GU hr rfl T.Ce T.xB.kp T.Cd .nil aB (aa aR! aF!)))
  (af (aE (i:=4) pR.nd rfl al! cm!)
  (af (aE (i:=5) pR.nd rfl al! (az GP hr rfl T.mY T.i4.kp T.mX .nil aB (aa (pv 0) (aa aD! aF!))))
  (af (aE (i:=6) pR.nd rfl al! (az GA hr rfl T.wm T.tw.kp T.wj .nil aB (aa bL! (aa aR! (aa (pv 5) au!)))))
  (ah (aH (eI T.dD GI hr rfl T.jY T.dC .nil aM (aa bL! (aa (az GB hr rfl T.Ew T.Cb.kp T.Eu .nil aB (aa (pv 3)
   (aa (az GE hr rfl T.Dn T.zA.kp T.Dm .nil aM (aa bL!
    (aa (az GW hr rfl T.AD T.wo.kp T.AA .nil aM (aa (pv 6) (aa (si CT ad! (pd aI) He) ag))) ag))) ag))) ag)))))))),?_⟩
 o!⟨d,p1,p2,NO,N1,N2⟩:=I.node;o!⟨dx,nm,pt,⟨sa,ea,oN⟩,onm,opt,_⟩:=id NO;~gd:isName x=true/\cf c/\isName y=true/\isName z=true/\cf g:=I.good;~I1:fJ a f pr H p1 b n env c:=I.part N1 gd.2.1 aT! (by rw[bz e2!];dsimp only;w!);~I2:fJ a f pr H p2 b n env g:=I.part N2 gd.2.2.2.2 aT! (by rw[bz e2!];dsimp only;w!);~et:typed pr env e2!=if kindIn env x≠some .list∨y=z then none else
   (typed pr env c).bind λs=>(needs s.kind (typed pr (⟨.num,y⟩::⟨.list,z⟩::env) g)).bind λv=>(%br [x] (%cm s.uses (%bv [y,z] v))).map λw=>⟨s.kind,w⟩:=by
  rw[typed];by_cases h1:kindIn env x≠some .list
  ·rw[if_pos (.inl h1),if_pos (.inl h1)]
  by_cases h2:y=z
  ·rw[if_pos (.inr (.inr (.inr h2))),if_pos (.inr h2)]
  rw[n!,n!]
  ·rintro (h | h)
   ·e! h1 h
   ·e! h2 h
  ·rw[gd.2.2.1,gd.2.2.2.1];rintro (h | h | h | h)
   ·e! h1 h
   ·cases h
   ·cases h
   ·e! h2 h
 ~etN:typed pr env c=none->typed pr env e2!=none:=λh=>by
  rw[et,h];split<;>rfl
 o!⟨m,B,lm⟩:=I.UB;r! ⟨_,rfl,p,_,dx,_,_,rfl,oN,T.aG,T.aP,rfl,nm,_,0,_,rfl,rfl,aX.of onm,rfl,_,rfl,x,b,env,m,rfl,B,λH1 u ek S1 U1 nu=>?_,λH1 ek S1=>q2 H1 (by rw[et,if_pos (.inl ek)]) S1⟩;r! ⟨_,rfl,p,_,dx,_,_,rfl,S1 _ _ oN,T.aG,T.aO,rfl,pt,_,0,_,rfl,rfl,aX.of (S1 _ _ opt),rfl,_,rfl,_,rfl,pr,p1,b,n,env,c,rfl,I1.same S1,λH2 s2 t2 e2 S2 N2'=>?_,λH2 e2 S2=>q2 H2 (etN e2) f1!⟩;~S12:=S1.trans S2;~S12':∀ b o,rL b->H b=some o->H2 b=some o:=λb o _ e=>S12 b o e
 o!⟨dy,v2,os2,V2,nv2⟩:=N2'.ex;r! ⟨_,rfl,_,rfl,p,b,.num,env,m,l,d,_,_,x,y,z,_,rfl,NO.turn S12' (λ_ h=>h),B.same S12,by w!,λH3 c3 yz S3 BW nc=>?_,λyz=>q2 H2 (by rw[et,if_pos (.inr yz)]) S12⟩;rw[n! (by rintro (h | h);e! h ek;e! yz h),e2,%ax] at et;~S13:=S12.trans S3;~J2:=I2.same S13;~K2:fJ a f pr H3 p2 c3 n (⟨.num,y⟩::⟨.list,z⟩::env) g:=⟨J2.node,⟨m+2,BW,by w!⟩,J2.QZ,J2.good,J2.deep,J2.size⟩;r! ⟨_,rfl,s2,_,dy,_,_,rfl,S3 _ _ os2,T.ir,T.cW,rfl,_,rfl,p,_,dx,_,_,rfl,S13 _ _ oN,T.aG,T.aO,rfl,pt,_,1,_,rfl,rfl,aX.of (S13 _ _ opt),rfl,_,rfl,_,rfl,pr,t2.kind,p2,c3,n,_,g,rfl,K2,λH4 u4 l4 e4 S4 U4 nu4=>?_,λH4 e4 S4=>q2 H4 (by rw[et,e4];rfl) (S13.trans S4)⟩;rw[e4,%ax] at et;~S14:=S13.trans S4;o!⟨s4',f4,_,rfl⟩:=pG e4;~z2:=ny pr _ _ _ e2;~z4:=ny pr _ _ _ f4;~sz:=I1.size;~sz2:=I2.size;~wf:=gi (ns:=[y,z]) z4.1;~os24:=S4 _ _ (S3 _ _ os2);r! ⟨_,rfl,s2,_,dy,_,_,rfl,os24,T.ir,T.cW,rfl,_,rfl,_,rfl,s2,_,dy,_,_,rfl,os24,T.ir,T.eD,rfl,_,rfl,_,rfl,p,_,dx,_,_,rfl,S14 _ _ oN,T.aG,T.aP,rfl,1,rfl,nm,_,rfl,aX.of (S14 _ _ onm),λsl nsl=>?_⟩;~S5:=ay nsl cO!;~nf:∀ (o:Obj) (u':HO),upd H4 sl cO! sl≠some (.ql o u'):=λo u' e=>by
  rw[ae] at e;cases e
 ~nem:u4≠sl:=aq U4.obj nsl;r! ⟨u4,sl,s4'.uses,[y,z],rfl,U4.same S5,aX.of ae,nf,nem,λH6 u6 S6 U6 nu6=>?_⟩;~V26:=((((V2.same S3).same S4).same S5).same S6);~el:=tP t2.uses (%bv [y,z] s4'.uses);r! ⟨v2,u6,t2.uses,_,rfl,V26,U6,by w!,λH7 u7 S7 U7 nu7=>?_⟩;~S17:=S14.trans (S5.trans f0!);~U16:tO H6 u [x]:=((((U1.same S2).same S3).same S4).same S5).same S6;~ne:u≠u7:=aq U16.obj nu7;r! ⟨u,u7,_,_,rfl,U16.same S7,U7,ne,by show 1+_<=_;w!,λH8 u8 z8 eb S8 U8 nu8=>?_,λH8 eb k8=>?_⟩
 ·intro s dw ns ndw nes;r! ⟨s,dw,[_,_],rfl,rfl,ae,rfl,?_⟩;rw[aC];rw[eb] at et;e! q1 _ s _ et (S17.trans (S8.trans (bF ns ndw))) (tQ (k:=t2.kind) U8 (S17.free nu8) ns ndw)
 ·e! q2 H8 fd! (aA.uD S17 k8 λb' h=>by rw[%aN h];e! nu)
t! kinds_of{ok:Addr->Prop}{H:Hp}{ps:List Addr}{qs:List Param}{i:Nat}{p:Addr}(h:g8 a ok H ps qs)(e:ps[i]?=some p):∃ k dx y,(qs.map λq=>q.kind)[i]?=some k/\H p=some (.ins a.dA dx (Sk [bT k,y])):=by
 o!⟨q,e1,⟨dx,e2⟩,_⟩:=h.at e;e! ⟨q.kind,dx,_,by rw[%al,e1];rfl,e2⟩
t! F7(T:eo K mg a){f j:Nat}(GS:aK P w K mg base (bA P w) (j+7) a.hJ a.hU a1! (DK a f)) :
  aK P w K mg base (bA P w) (j+8) a.lU a.xp ac! (lI a (f+1) λe=>(∃ l g x,e=.call1 l g x)∨∃ l g x y,e=.call2 l g x y):=by
 ~GI:FB! (j+6) a.cJ a.cK aM! cp!:=(pF T).mono (by w!);r! T.xC.kY uf ab! aa!
 ·o!⟨pr,p,b,n,env,e,rfl,_⟩:=h;rfl
 o!⟨pr,p,b,n,env,e,rfl,I,ee,q1,q2⟩:=h;~hu:=nN hr;r! ⟨_,af (cE (jR (D0 hu aR! (pv 2)) rfl) (ah ax!) bD)
  (af (aE (i:=3) uf.nd rfl al! (wL hu (pv 2) aR! ar!))
  (af (HQ (i:=4) (own:=[("parameter",5)]) (te:=wK K (i7 5) "kind") (g:=nM 5) (tt:=HM) rfl uf.nd rfl rfl gw! (fR ca!) (i9 rfl) (λ_ _ _ _ _=>cb (i:=5) uf.nd rfl al!) cG! (λ_ _ _ _ _=>ao (pv 5) rfl))
  (ah (aH (eI T.dD GI hr rfl T.jY T.dC .nil aM (aa ca! (aa (az GS hr rfl T.uj T.qc.kp T.ui .nil aB (aa (pv 4) e7!)) ag))))))),?_⟩
 ~IN:∃ (l d:Nat) (g:Text) (qs:List Addr) (es:List Ex),eF a rL H p l d cM! 0 [g] qs/\qs.length=es.length/\es.length<=3/\(∀ (i:Nat) (q:Addr) (e:Ex),qs[i]?=some q->es[i]?=some e->fJ a f pr H q b n env e) /\
   typed pr env e=(funAt pr g).bind λh=>(eW pr env (h.params.map λq=>q.kind) es []).map λz=>⟨h.result,z⟩:=by
  rcases ee with ⟨l,g,x,rfl⟩ | ⟨l,g,x,y,rfl⟩
  ·o!⟨d,p1,NO,N1⟩:=I.node;~gd:isName g=true/\cf x:=I.good;~I1:fJ a f pr H p1 b n env x:=I.part N1 gd.2 (by simp[deepOf]) (by rw[bz (.call1 l g x)];dsimp only;w!);r! ⟨l,d,g,[p1],[x],NO,rfl,by simp,λi q e' hq he=>?_,?_⟩
   ·match i,hq,he with
    | 0,hq,he=>cases hq;cases he;e! I1
    | i+1,hq,_=>simp at hq
   ·rw[typed];cases funAt pr g with
    | none=>rfl
    | some h =>
     simp only[Option.bind_some]
     match h.params with
     | []=>rfl
     | [q] =>
      simp only[List.map_cons,List.map_nil,eW,DJ,Option.bind_some];cases needs q.kind dY!<;>rfl
     | q::r::t =>
      simp only[List.map_cons];rw[nz ai!];rfl
  ·o!⟨d,p1,p2,NO,N1,N2⟩:=I.node;~gd:isName g=true/\cf x/\cf y:=I.good;~I1:fJ a f pr H p1 b n env x:=I.part N1 gd.2.1 aT! (by rw[bz (.call2 l g x y)];dsimp only;w!);~I2:fJ a f pr H p2 b n env y:=I.part N2 gd.2.2 aT! (by rw[bz (.call2 l g x y)];dsimp only;w!);r! ⟨l,d,g,[p1,p2],[x,y],NO,rfl,by simp,λi q e' hq he=>?_,?_⟩
   ·match i,hq,he with
    | 0,hq,he=>cases hq;cases he;e! I1
    | 1,hq,he=>cases hq;cases he;e! I2
    | i+2,hq,_=>simp at hq
   ·rw[typed];cases funAt pr g with
    | none=>rfl
    | some h =>
     simp only[Option.bind_some]
     match h.params with
     | []=>rfl
     | [q] =>
      simp only[List.map_cons];rw[nz ai!];rfl
     | [q,r] =>
      simp only[List.map_cons,List.map_nil,eW,DJ,Option.bind_some];cases needs q.kind dY!<;>simp;cases needs r.kind dX!<;>simp
     | q::r::t::tt =>
      simp only[List.map_cons];rw[nz ai!];rfl
 o!⟨l,d,g,qs,es,NO,lq,l3,IS,et⟩:=IN;o!⟨dx,nm,pt,⟨sa,ea,oN⟩,onm,opt,_⟩:=id NO;o!⟨kvs,on,h1,h2⟩:=I.QZ.ex;r! ⟨_,rfl,p,_,dx,_,_,rfl,oN,T.aG,T.aP,rfl,nm,_,0,_,rfl,rfl,aX.of onm,rfl,_,rfl,n,_,rfl,nP.k (k:=%aO (strOf g)) on,_,rfl,?_⟩;cases eg:funAt pr g with
 | none =>
  rw[h1 g eg];rw[eg] at et;e! bO (q2 H et (bc.refl _))
 | some hf =>
  rw[eg,%ax] at et;o!⟨q,ev,F,p2⟩:=h2 g hf eg;rw[ev];o!⟨df,pl,ks,bp,oF,opl,AP,_⟩:=F.ex;~gt:=nP.k (k:=%aO (strOf g)) on;rw[ev] at gt;r! bY ⟨_,rfl,_,rfl,p,_,dx,_,_,rfl,oN,T.aG,T.aP,rfl,nm,_,0,_,rfl,rfl,aX.of onm,rfl,n,_,rfl,gt,?_⟩;r! ⟨_,rfl,q,_,df,_,_,rfl,oF,T.bw,T.bb,rfl,pl,rfl,⟨_,aX.of opl⟩,λD nD=>?_⟩;~lk:=AP.len;r! ra (K:=K) (a:=pl) (xs:=ks.map V.ref) (λi H'=>H' D=some (.lst (((hf.params.map λq=>q.kind).take i).map bT))/\bc H H') ⟨ae,ay nD _⟩ (λi H' _ h=>aX.of (h.2 _ _ opl)) ?_ ?_
  ·rintro i y H' hy ⟨oD,sm⟩;rw[%al] at hy;o!⟨k,ek,rfl⟩:=%ab hy;o!⟨kd,dq,yn,en,ok⟩:=kinds_of AP ek;r! ⟨rfl,zM ?_⟩;r! ⟨_,rfl,k,_,dq,_,_,rfl,sm _ _ ok,T.fe,T.cV,rfl,_,oD,?_,?_,λb o e=>?_⟩
   ·rw[%ac,%aH];e! %ai (%bY _ _) (by rw[%ac];e! %ai p2 ag!)
   ·rw[ae,kU en]
   ·rw[ai eB!];e! sm b o e
  ·rintro H6 ⟨oD,S6⟩;~eT:(hf.params.map λq=>q.kind).take (ks.map V.ref).length=hf.params.map λq=>q.kind:=%aC e1!
   rw[eT] at oD;r! ⟨_,rfl,q,_,df,_,_,rfl,S6 _ _ oF,T.bw,T.dc,rfl,_,rfl,_,rfl,_,rfl,_,rfl,pr,D,p,b,n,env,hf.params.map λq=>q.kind,es,l,d,_,_,_,qs,rfl,oD,NO.turn gj! (λ_ h=>h),lq,l3,λi q e' hq he=>(IS i q e' hq he).same S6,λH7 u7 z7 e7 S7 U7 nu7=>?_,λH7 e7 S7=>?_⟩
   ·intro s dw ns ndw nes;r! ⟨s,dw,[_,_],rfl,rfl,ae,rfl,?_⟩;rw[aC];rw[e7] at et;e! q1 _ s _ et (S6.trans (S7.trans (bF ns ndw))) (tQ (k:=hf.result) U7 (S6.free nu7) ns ndw)
   ·e! q2 H7 (by rw[et,e7];rfl) f0!
end
end Pay
namespace Pay
open PySem L2
open Vaamoa (isName ascii distinct Param Prog kindIn Typed typed needs funAt deepOf)
def dt(a:Ad):List (Key×V):=[(.inr (%ad "number"),.ref a.il),(.inr (%ad "name"),.ref a.lR),(.inr (%ad "nil"),.ref a.ox),(.inr gx!,.ref a.lS),
 (.inr (%ad "add"),.ref a.cq),(.inr (%ad "sub"),.ref a.cq),(.inr (%ad "if"),.ref a.sT),(.inr (%ad "case"),.ref a.lT),(.inr (%ad "let"),.ref a.oA),
 (.inr (%ad "call"),.ref a.lU),(.inr fF!,.ref a.lV),(.inr (%ad "share"),.ref a.jh)]
def iA(a:Ad):List (Text×V):=[(ascii "number",.ref a.il),(ascii "name",.ref a.lR),(ascii "nil",.ref a.ox),(ascii "cons",.ref a.lS),(ascii "add",.ref a.cq),(ascii "sub",.ref a.cq),
 (ascii "if",.ref a.sT),(ascii "case",.ref a.lT),(ascii "let",.ref a.oA),(ascii "call",.ref a.lU),(ascii "tick",.ref a.lV),(ascii "share",.ref a.jh)]
t! Ju:%ad "number"=strOf eM!:=by dk!
t! PQ:%ad "name"=strOf ft!:=by dk!
t! UC:%ad "nil"=strOf dR!:=by dk!
t! MI:%ad "cons"=strOf fu!:=by dk!
t! w_add:%ad "add"=strOf fY!:=by dk!
t! w_sub:%ad "sub"=strOf fW!:=by dk!
t! Wb:%ad "if"=strOf gt!:=by dk!
t! PR:%ad "case"=strOf fv!:=by dk!
t! Q0:%ad "let"=strOf fX!:=by dk!
t! MJ:%ad "call"=strOf cM!:=by dk!
t! MK:%ad "tick"=strOf fs!:=by dk!
t! ML:%ad "share"=strOf e5!:=by dk!
t! Ss(a:Ad):dt a=(iA a).map λz=>c5!:=by
 unfold dt iA;rw[Ju,PQ,UC,MI,w_add,w_sub,Wb,PR,Q0,MJ,MK,ML];rfl
t! fQ(a:Ad)(x:Text):cA (dt a) a4!=((iA a).find? λz=>z.1 == x).map λz=>z.2:=by
 rw[Ss];e! AL id _ _
structure Yc (P:Program) (w:World) (K:PySem.W.Frag) (mg:Str->Option Value) (a:Ad):Prop where
 PU:∃ d,mg "SIGHTS"=some (.ref d)/\KD P w K d (dt a)
section
variable {P:Program} {w:World} {K:PySem.W.Frag} {mg:Str->Option Value} {base:Heap} {a:Ad}
t! LI(T:eo K mg a)(Sg:Yc P w K mg a){f k:Nat}(pick:∀ e:Ex,deepOf e<=f->∃ (x:Text) (fx:Addr) (fd:FuncData) (W:Ex->Prop),(∀ H d p,aY a rL H e d p->∃ l i ns qs,eF a rL H p l d x i ns qs) /\
   cA (dt a) a4!=some gh!/\aK P w K mg base (bA P w) k fx fd ac! (lI a f W)/\W e/\%aR K gh!=true/\Binds K fd ac! []) :
  aK P w K mg base (bA P w) (k+1) a.sP a.sQ ac! (yD a f):=by
 r! T.Dl.kY X5 ab! aa!
 ·o!⟨pr,p,b,n,env,e,rfl,_⟩:=h;rfl
 o!⟨pr,p,b,n,env,e,rfl,I,q1,q2⟩:=h;o!⟨sd,gS,kS⟩:=Sg.PU;r! ⟨_,ah (aH (C0 (CX:=bA P w) (Am kS (aQ (v:=.ref sd) rfl gS rfl) ad! ar!) e7!)),?_⟩;o!⟨x,fx,fd,W,hN,hv,F,hW,kp,bd⟩:=pick e I.deep;o!⟨d,N⟩:=I.node;o!⟨l,i,ns,qs,dx,nm,pt,⟨sa,ea,oN⟩,_⟩:=hN H d p N;e! ⟨_,rfl,p,_,dx,_,_,rfl,oN,T.aG,T.bM,rfl,.inr ap!,_,rfl,rfl,hv,fx,fd,_,_,k,E,rfl,F,hr,kp,bd,aB.at _,_,rfl,_,rfl,_,rfl,pr,p,b,n,env,e,rfl,I,hW,q1,q2⟩
t! Yd(T:eo K mg a)(Sg:Yc P w K mg a):∀ f:Nat,aK P w K mg base (bA P w) (4 * f+5) a.sP a.sQ ac! (yD a f):=by
 ~v1:cA (dt a) (.inr (strOf eM!))=some (.ref a.il):=by
  rw[fQ,iA,aw,if_pos rfl]
 ~v2:cA (dt a) (.inr (strOf ft!))=some (.ref a.lR):=by
  rw[fQ,iA];repeat rw[aw,n! (by dk!)]
  rw[aw,if_pos rfl]
 ~v3:cA (dt a) (.inr (strOf dR!))=some (.ref a.ox):=by
  rw[fQ,iA];repeat rw[aw,n! (by dk!)]
  rw[aw,if_pos rfl]
 ~v4:cA (dt a) (.inr (strOf fu!))=some (.ref a.lS):=by
  rw[fQ,iA];repeat rw[aw,n! (by dk!)]
  rw[aw,if_pos rfl]
 ~v5:cA (dt a) (.inr (strOf fY!))=some (.ref a.cq):=by
  rw[fQ,iA];repeat rw[aw,n! (by dk!)]
  rw[aw,if_pos rfl]
 ~v6:cA (dt a) (.inr (strOf fW!))=some (.ref a.cq):=by
  rw[fQ,iA];repeat rw[aw,n! (by dk!)]
  rw[aw,if_pos rfl]
 ~v7:cA (dt a) (.inr (strOf gt!))=some (.ref a.sT):=by
  rw[fQ,iA];repeat rw[aw,n! (by dk!)]
  rw[aw,if_pos rfl]
 ~v8:cA (dt a) (.inr (strOf fv!))=some (.ref a.lT):=by
  rw[fQ,iA];repeat rw[aw,n! (by dk!)]
  rw[aw,if_pos rfl]
 ~v9:cA (dt a) (.inr (strOf fX!))=some (.ref a.oA):=by
  rw[fQ,iA];repeat rw[aw,n! (by dk!)]
  rw[aw,if_pos rfl]
 ~vA:cA (dt a) (.inr (strOf cM!))=some (.ref a.lU):=by
  rw[fQ,iA];repeat rw[aw,n! (by dk!)]
  rw[aw,if_pos rfl]
 ~vB:cA (dt a) (.inr (strOf fs!))=some (.ref a.lV):=by
  rw[fQ,iA];repeat rw[aw,n! (by dk!)]
  rw[aw,if_pos rfl]
 ~vC:cA (dt a) (.inr (strOf e5!))=some (.ref a.jh):=by
  rw[fQ,iA];repeat rw[aw,n! (by dk!)]
  rw[aw,if_pos rfl]
 intro f
 induction f with
 | zero =>
  r! LI (k:=4) T Sg λe de=>?_
  cases e with
  | num l i=>e! ⟨_,_,_,_,λH d p N=>⟨_,_,_,_,N⟩,v1,(Bz T 0).mono (by w!),⟨_,_,rfl⟩,T.rB.kp,T.xy⟩
  | var l x=>e! ⟨_,_,_,_,λH d p N=>⟨_,_,_,_,N⟩,v2,(F4 T 0).mono (by w!),⟨_,_,rfl⟩,T.xA.kp,T.Cc⟩
  | nil l=>e! ⟨_,_,_,_,λH d p N=>⟨_,_,_,_,N⟩,v3,(Jt T 0).mono (by w!),⟨_,rfl⟩,T.AE.kp,T.Ey⟩
  | cons l x y=>simp[deepOf] at de
  | add l x y=>simp[deepOf] at de
  | sub l x y=>simp[deepOf] at de
  | ifz l c x y=>simp[deepOf] at de
  | case l x c y z g=>simp[deepOf] at de
  | letE l x c y=>simp[deepOf] at de
  | call1 l g x=>simp[deepOf] at de
  | call2 l g x y=>simp[deepOf] at de
  | tick l i x=>simp[deepOf] at de
  | share l x y z c=>simp[deepOf] at de
 | succ f ih =>
  ~GA:aK P w K mg base (bA P w) (4 * f+4+2) a.mM a.mO aW! (AO a f):=AQ T ih;~GP:aK P w K mg base (bA P w) (4 * f+7) a.hJ a.hU a1! (DK a f):=MG (j:=4 * f+4) T GA;r! LI (k:=4 * f+8) T Sg λe de=>?_
  cases e with
  | num l i=>e! ⟨_,_,_,_,λH d p N=>⟨_,_,_,_,N⟩,v1,(Bz T _).mono (by w!),⟨_,_,rfl⟩,T.rB.kp,T.xy⟩
  | var l x=>e! ⟨_,_,_,_,λH d p N=>⟨_,_,_,_,N⟩,v2,(F4 T _).mono (by w!),⟨_,_,rfl⟩,T.xA.kp,T.Cc⟩
  | nil l=>e! ⟨_,_,_,_,λH d p N=>⟨_,_,_,_,N⟩,v3,(Jt T _).mono (by w!),⟨_,rfl⟩,T.AE.kp,T.Ey⟩
  | cons l x y=>e! ⟨_,_,_,_,λH d p ⟨_,_,N,_⟩=>⟨_,_,_,_,N⟩,v4,Od T GP,⟨_,_,_,rfl⟩,T.Cf.kp,T.IX⟩
  | add l x y=>e! ⟨_,_,_,_,λH d p ⟨_,_,N,_⟩=>⟨_,_,_,_,N⟩,v5,wF T GP,⟨_,_,_,.inl rfl⟩,T.lC.kp,T.qD⟩
  | sub l x y=>e! ⟨_,_,_,_,λH d p ⟨_,_,N,_⟩=>⟨_,_,_,_,N⟩,v6,wF T GP,⟨_,_,_,.inr rfl⟩,T.lC.kp,T.qD⟩
  | ifz l c x y=>e! ⟨_,_,_,_,λH d p ⟨_,_,_,N,_⟩=>⟨_,_,_,_,N⟩,v7,Sq T ih,⟨_,_,_,_,rfl⟩,T.IY.kp,T.NW⟩
  | case l x c y z g=>e! ⟨_,_,_,_,λH d p ⟨_,_,N,_⟩=>⟨_,_,_,_,N⟩,v8,Oe T ih,⟨_,_,_,_,_,_,rfl⟩,T.Cg.kp,T.IZ⟩
  | letE l x c y=>e! ⟨_,_,_,_,λH d p ⟨_,_,N,_⟩=>⟨_,_,_,_,N⟩,v9,PN T ih,⟨_,_,_,_,rfl⟩,T.Ez.kp,T.Lq⟩
  | call1 l g x=>e! ⟨_,_,_,_,λH d p ⟨_,N,_⟩=>⟨_,_,_,_,N⟩,vA,F7 T GP,.inl ⟨_,_,_,rfl⟩,T.xC.kp,T.Ci⟩
  | call2 l g x y=>e! ⟨_,_,_,_,λH d p ⟨_,_,N,_⟩=>⟨_,_,_,_,N⟩,vA,F7 T GP,.inr ⟨_,_,_,_,rfl⟩,T.xC.kp,T.Ci⟩
  | tick l i x=>e! ⟨_,_,_,_,λH d p ⟨_,N,_⟩=>⟨_,_,_,_,N⟩,vB,(Oc T ih).mono (by w!),⟨_,_,_,rfl⟩,T.Cj.kp,T.I0⟩
  | share l x y z c=>e! ⟨_,_,_,_,λH d p ⟨_,N,_⟩=>⟨_,_,_,_,N⟩,vC,MH T ih,⟨_,_,_,_,_,rfl⟩,T.zB.kp,T.FK⟩
end
end Pay
namespace Pay
open PySem L2
open Vaamoa (isName ascii distinct Param Prog kindIn Typed typed needs funAt deepOf)
t! Jv(l:Prog)(f:%aQ)(x:Text):funAt (l++[f]) x=(funAt l x).or (if f.name=x then some f else none):=by
 unfold funAt;rw[List.find?_append];congr 1;rw[%by];by_cases c:f.name=x
 ·rw[if_pos c,beq_iff_eq.mpr c]
 ·rw[n! c,beq_eq_false_iff_ne.mpr c];rfl
t! PV{l:Prog}{x:Text}(h:∀ f∈l,f.name≠x):funAt l x=none:=by
 unfold funAt;rw[List.find?_eq_none];intro f hf z;e! h f hf (by simpa using z)
t! Su{p:Prog}(nd:distinct cg!=true){i:Nat}{f:%aQ}(e:p[i]?=some f):funAt (p.take i) f.name=none:=by
 r! PV λg hg z=>?_
 o!⟨j,hj,ej⟩:=%bu hg;~n:=rK.mp nd;o!⟨hi,e'⟩:=%ae e;~hj':j < p.length:=by w!
 have:=(List.getElem_inj (xs:=p.map λf=>f.name) (i:=j) (j:=i) (h₀:=by simpa using hj') (h₁:=by simpa using hi) n).mp (by simp[ej,e',z]);w!
t! Of(l:List Param)(q:Param)(x:Text):kindIn (l++[q]) x=(kindIn l x).or (if q.name=x then some q.kind else none):=by
 unfold kindIn;rw[List.find?_append,%by];by_cases c:q.name=x
 ·rw[if_pos c,beq_iff_eq.mpr c];cases l.find? λp=>p.name == x<;>rfl
 ·rw[n! c,beq_eq_false_iff_ne.mpr c];cases l.find? λp=>p.name == x<;>rfl
t! PX{p:List Param}(nd:distinct cg!=true){i:Nat}{f:Param}(e:p[i]?=some f):kindIn (p.take i) f.name=none:=by
 unfold kindIn;rw[Option.map_eq_none_iff,List.find?_eq_none];intro g hg z;o!⟨j,hj,ej⟩:=%bu hg;~n:=rK.mp nd;o!⟨hi,e'⟩:=%ae e;~hj':j < p.length:=by w!
 have:=(List.getElem_inj (xs:=p.map λf=>f.name) (i:=j) (j:=i) (h₀:=by simpa using hj') (h₁:=by simpa using hi) n).mp (by simp[ej,e'];simpa using z);w!
t! LJ{s t:Text}:((Sum.inr (strOf s):Key)=Sum.inr fm!)↔s=t:=⟨λe=>iY e8!,λe=>by rw[e]⟩
section
variable {P:Program} {w:World} {K:PySem.W.Frag} {mg:Str->Option Value} {base:Heap} {a:Ad}
structure Wc (a:Ad) (ok:Addr->Prop) (H:Hp) (n:Addr) (p:Prog):Prop where
 ex:∃ kvs,H n=some aQ!/\(∀ x,funAt p x=none->cA kvs a4!=none)/\∀ x g,funAt p x=some g->∃ q,cA kvs a4!=some (.ref q)/\mz a ok H q g/\g.params.length<=2
t! Wc.any{H:Hp}{n:Addr}{p:Prog}(h:Wc a rL H n p):UA a H n p:=⟨h.ex⟩
def Jw(a:Ad):Sp:=λvs H Q _=>∃ (ok:Addr->Prop) (fl:Addr) (fs:List Addr) (p:Prog),vs=[.ref fl]/\H fl=some bG!/\cS a ok H fs p/\distinct cg!=true/\p.length<=4/\(∀ f∈p,f.params.length<=2) /\
 ∀ H' n,bc H H'->Wc a ok H' n p->H n=none->Q (.ref n) H'
t! Jx(T:eo K mg a):FB! 1 a.rQ a.rR cI! (Jw a):=by
 r! T.Az.ok BM ab! aa!
 ·o!⟨ok,fl,fs,p,rfl,_⟩:=h;rfl
 o!⟨ok,fl,fs,p,rfl,ofl,AF,nd,l4,lp,q⟩:=h;~hu:=nN hr;r! ⟨_,af (aE (i:=1) BM.nd rfl al! j3)
  (af (lJ PassesOwn.never rfl (fR (pv 0)) (cb (i:=2) BM.nd rfl al!) (ah (kW hu (pv 1) bE! (pv 2) rfl)))
  (ah gg!)),?_⟩
 intro n nn;~S0:=ay nn (.dK []);~lf:=AF.len;r! ⟨_,rfl,fl,rfl,⟨_,aX.of (S0 _ _ ofl)⟩,?_⟩;r! pI (K:=K) (a:=fl) (xs:=fs.map V.ref) (λi σ H'=>∃ (v:Option V) (kvs:List (Key×V)),σ=[some gi!,some (.ref n),v]/\H'=upd H n aQ!/\kvs.length<=i/\i<=fs.length /\
   (∀ x,funAt (p.take i) x=none->cA kvs a4!=none)/\∀ x g,funAt (p.take i) x=some g->∃ q,cA kvs a4!=some (.ref q)/\mz a ok H q g/\g.params.length<=2)
  ⟨none,[],rfl,rfl,Nat.le_refl _,Nat.zero_le _,λ_ _=>rfl,λx g e=>by simp[funAt] at e⟩ (λi σ H' _ ⟨_,_,_,e,_⟩=>aX.of (by rw[e];e! ay nn _ _ _ ofl)) ?_ ?_
 ·rintro i y σ H' hy ⟨v,kvs,rfl,rfl,lk,_,h1,h2⟩;rw[%al] at hy;o!⟨k,ek,rfl⟩:=%ab hy;o!⟨f,ef,F⟩:=AF.at ek;o!⟨dx,pl,qs,bp,oF,_⟩:=F.ex;~hi:i < fs.length:=(%ae ek).1;r! ⟨_,rfl,_,rfl,_,rfl,k,_,dx,_,_,rfl,ay nn _ _ _ oF,T.bw,T.dE,rfl,n,_,rfl,AW.k (k:=%aO (strOf f.name)) ae (%ai (%aj lk (by w!:i<=4)) ag!),?_⟩;rw[aC];~tk:p.take (i+1)=p.take i++[f]:=by rw[%ay,ef];rfl
  ~nw:=Su nd ef;r! ⟨_,_,rfl,rfl,%aj (cT _ _ _) (%bX lk),hi,λx hx=>?_,λx g hx=>?_⟩
  ·rw[tk,Jv] at hx;o!⟨x1,x2⟩:=Option.or_eq_none_iff.mp hx;~c:¬ f.name=x:=λc=>by rw[if_pos c] at x2;cases x2
   rw[j1,n! λe=>c (LJ.mp e).symm];e! h1 x x1
  ·rw[tk,Jv] at hx;by_cases c:f.name=x
   ·rw[if_pos c,←c,nw] at hx;cases hx;e! ⟨k,by rw[j1,if_pos (by rw[c])],F,lp f (%bg ef)⟩
   ·rw[n! c,Option.or_none] at hx;o!⟨q',e1,e2⟩:=h2 x g hx;e! ⟨q',by rw[j1,n! λe=>c (LJ.mp e).symm];e! e1,e2⟩
 ·rintro σ H' ⟨v,kvs,rfl,rfl,lk,_,h1,h2⟩;~eT:p.take (fs.map V.ref).length=p:=%aC b9!;rw[eT] at h1 h2;~S:=ay nn aQ!;r! ⟨_,rfl,q _ n S ⟨kvs,ae,h1,λx g hg=>?_⟩ nn⟩;o!⟨q',e1,e2,e3⟩:=h2 x g hg;e! ⟨q',e1,e2.turn bP! λ_ h=>h,e3⟩
t! LK:∀ {p:Prog} {f:%aQ},f∈p->aj f.body<=fV p
 | g::p,f,h=>by
  ~e:fV (g::p)=aj g.body+fV p:=by simp[fV]
  rcases %ak h with rfl | h
  ·w!
  ·have:=LK h;w!
def UD(a:Ad):Sp:=λvs H Q E=>∃ (fl:Addr) (fs:List Addr) (p:Prog),vs=[.ref fl]/\H fl=some bG!/\cS a rL H fs p/\qU p /\
 (∀ H',p.all (uM p)=true->bc H H'->Q .fK H')/\(∀ H',p.all (uM p)=false->bc H H'->E a2! none H')
t! GY(T:eo K mg a)(Sg:Yc P w K mg a):aK P w K mg base (bA P w) 43 a.jf a.jg cI! (UD a):=by
 ~GN:FB! 42 a.rQ a.rR cI! (Jw a):=(Jx T).mono (by w!);~GA:aK P w K mg base (bA P w) 42 a.mM a.mO aW! (AO a 9):=AQ T (Yd T Sg 9);r! T.tu.kY iE ab! aa!
 ·o!⟨fl,fs,p,rfl,_⟩:=h;rfl
 o!⟨fl,fs,p,rfl,ofl,AF,G,q1,q2⟩:=h;~hu:=nN hr;r! ⟨_,af (aE (i:=1) iE.nd rfl al! (az GN hr rfl T.En T.Az.kp T.Em .nil aM aP!))
  (ah (lJ PassesOwn.leaving rfl (fR (pv 0)) (cb (i:=2) iE.nd rfl al!)
   (af (aE (i:=3) iE.nd rfl al! j3)
   (af (lJ PassesOwn.leaving rfl (fR bE!) (cb (i:=4) iE.nd rfl al!) (ah (kW hu (pv 3) bL! bL! rfl)))
   (ah (aF (az GA hr rfl T.wm T.tw.kp T.wj .nil aB (aa bE! (aa bE! (aa (pv 3) aF!)))))))))),?_⟩
 ~lf:=AF.len;r! ⟨_,rfl,rL,fl,fs,p,rfl,ofl,AF,G.dist,G.most,λf hf=>(G.i6 f hf).most,λH1 n S1 N1 nn=>?_⟩;r! ⟨_,rfl,fl,rfl,⟨_,aX.of (S1 _ _ ofl)⟩,?_⟩;r! pI (K:=K) (a:=fl) (xs:=fs.map V.ref) (λi σ H'=>∃ (v1 v2 v3:Option V),σ=[some gi!,some (.ref n),v1,v2,v3]/\bc H1 H'/\(p.take i).all (uM p)=true)
  ⟨none,none,none,rfl,bc.refl _,rfl⟩ (λi σ H' _ ⟨_,_,_,_,S,_⟩=>aX.of (S _ _ (S1 _ _ ofl))) ?_ ?_
 ·rintro i y σ H2 hy ⟨v1,v2,v3,rfl,S2,al⟩;rw[%al] at hy;o!⟨k,ek,rfl⟩:=%ab hy;o!⟨f,ef,F⟩:=AF.at ek;~S12:=S1.trans S2;o!⟨dx,pl,qs,bp,oF,opl,AP,NB,_⟩:=F.ex;~mf:f∈p:=%bg ef;~gf:=G.i6 f mf;~lq:=AP.len;~tk:p.take (i+1)=p.take i++[f]:=by rw[%ay,ef];rfl
  intro b nb;~Sb:=ay nb (.dK []);r! ⟨_,rfl,k,_,dx,_,_,rfl,Sb _ _ (S12 _ _ oF),T.bw,T.bb,rfl,pl,rfl,⟨_,aX.of (Sb _ _ (S12 _ _ opl))⟩,?_⟩;r! pI (K:=K) (a:=pl) (xs:=qs.map V.ref) (λj σ H'=>∃ (v:Option V) (kvs:List (Key×V)),σ=[some gi!,some (.ref n),some (.ref k),some (.ref b),v]/\H'=upd H2 b aQ!/\kvs.length<=j/\j<=qs.length /\
    ∀ x,cA kvs a4!=(kindIn (f.params.take j) x).map bT)
   ⟨v3,[],rfl,rfl,%am _,%aE _,λ_=>rfl⟩ (λj σ H' _ ⟨_,_,_,e,_⟩=>aX.of (by rw[e];e! ay nb _ _ _ (S12 _ _ opl))) ?_ ?_
  ·rintro j y σ H' hy ⟨v,kvs,rfl,rfl,lk,_,h1⟩;rw[%al] at hy;o!⟨q,eq,rfl⟩:=%ab hy;o!⟨pq,epq,⟨dq,oq⟩,_⟩:=AP.at eq;~hj:j < qs.length:=(%ae eq).1;~oq':=ay nb aQ! _ _ (S12 _ _ oq);~gm:=gf.most;r! ⟨_,rfl,q,_,dq,_,_,rfl,oq',T.fe,T.cV,rfl,_,rfl,_,rfl,q,_,dq,_,_,rfl,oq',T.fe,T.dU,rfl,b,_,rfl,AW.k (k:=%aO (strOf pq.name)) ae (%ai (%aj lk (by w!:j<=2)) ag!),?_⟩;rw[aC];~tk2:f.params.take (j+1)=f.params.take j++[pq]:=by rw[%ay,epq];rfl
   r! ⟨_,_,rfl,rfl,%aj (cT _ _ _) (%bX lk),hj,λx=>?_⟩;rw[j1,h1,tk2,Of];by_cases c:pq.name=x
   ·rw[if_pos (by rw[c]),if_pos c,←c,PX gf.dist epq];rfl
   ·rw[n! λe=>c (LJ.mp e).symm,n! c,Option.or_none]
  ·rintro σ H' ⟨v,kvs,rfl,rfl,lk,_,h1⟩;~eT:f.params.take (qs.map V.ref).length=f.params:=%aC b9!;rw[eT] at h1;~SB:=ay nb aQ!;~S2B:=S2.trans SB;~SAll:=S1.trans S2B;~gm:=gf.most;~IS:fJ a 9 p (upd H2 b aQ!) bp b n f.params f.body :=
    ⟨⟨0,NB.turn (λb o _ e=>SAll b o e) λ_ h=>h⟩,⟨2,⟨kvs,ae,by rw[%ac] at lk;w!,h1⟩,by w!⟩,N1.any.same S2B,gf.body,gf.deep,%aj (LK mf) G.size⟩
   ~tf:uM p f=(needs f.result (typed p f.params f.body)).isSome:=by
    unfold uM needs;cases typed p f.params f.body with
    | none=>rfl
    | some t =>
     show (t.kind == f.result)=(if t.kind=f.result then some t.uses else none).isSome;by_cases c:t.kind=f.result
     ·rw[if_pos c];simp[c]
     ·rw[if_neg c];simp[c]
   r! ⟨_,rfl,k,_,dx,_,_,rfl,SAll _ _ oF,T.bw,T.dc,rfl,_,rfl,k,_,dx,_,_,rfl,SAll _ _ oF,T.bw,T.dF,rfl,_,rfl,_,rfl,p,f.result,bp,b,n,f.params,f.body,rfl,IS,λH3 u l e3 S3 U3 nu3=>?_,λH3 e3 S3=>?_⟩
   ·r! ⟨_,_,_,rfl,S2B.trans S3,?_⟩;rw[tk,List.all_append,al];simp[tf,e3]
   ·r! q2 H3 ?_ (SAll.trans S3);rw[e3] at tf;rw[List.all_eq_false];e! ⟨f,mf,by rw[tf];decide⟩
 ·rintro σ H' ⟨v1,v2,v3,rfl,S2,al⟩;~eT:p.take (fs.map V.ref).length=p:=%aC b9!;rw[eT] at al;e! q1 H' al f1!
end
end Pay
namespace Pay
open PySem L2
open Vaamoa (isName ascii distinct Param Prog kindIn Typed typed needs funAt deepOf isSmall isDigit decimal costText textOf inBrackets spaced gluedBy kindText paramText funText progText)
t! qm.app{x y:Text}(h:qm x)(k:qm y):qm (x++y):=λb hb=>(%bA hb).elim (h b) (k b)
t! qm.cons{x:Text}{b:UInt8}(h:sign b=true)(k:qm x):qm (b::x):=λc hc=>(%ak hc).elim gp! (k c)
t! Wd:qm []:=λb hb=>by cases hb
t! gj{x:Text}(h:x.all sign=true):qm x:=λb hb=>%az h b hb
t! LL:∀ {l:List Text},(∀ x∈l,qm x)->qm (gluedBy [32] l)
 | [],_=>Wd
 | [x],h=>h x ai!
 | x::y::l,h=>(h x ai!).app ((gj ag!).app (LL λz hz=>h z (by simp[hz])))
t! cD{l:List Text}(h:∀ x∈l,qm x):qm (inBrackets l):=qm.cons ag! ((LL h).app (gj ag!))
t! PY:∀ b:UInt8,isSmall b=true->sign b=true:=iC (by dk!)
t! iU{x:Text}(h:isName x=true):qm x:=by
 unfold isName at h;simp only[Bool.and_eq_true] at h;e! λb hb=>PY b (%az h.2.2.1 b hb)
t! MM:∀ {n:Nat},n<=99->qm (decimal n):=by
 ~h:∀ i:Fin 100,(decimal i.val).all sign=true:=by dk!
 intro n hn;e! gj (h ⟨n,by w!⟩)
t! UE{k:Int}(h:k.natAbs<=9):qm (costText k):=by
 unfold costText;split
 ·e! qm.cons ag! (MM (by w!))
 ·e! MM (by w!)
t! Og(k:%aP):qm (kindText k):=by cases k<;>exact gj (by dk!)
t! UG:∀ {e:Ex},cf e->qm (textOf e):=by
 intro e;~br:∀ {x:Text} {l:List Text},qm x->(∀ y∈l,qm y)->∀ y∈x::l,qm y:=λ{x l} h k y hy=>(%ak hy).elim gp! (k y)
 ~no:∀ y∈([]:List Text),qm y:=λy hy=>by cases hy
 induction e with
 | num l n=>intro g;e! MM g
 | var l x=>intro g;e! iU g
 | nil l=>intro _;show qm (ascii "nil");e! gj (by dk!)
 | cons l x y i1 i2=>intro g;e! cD dx!
 | add l x y i1 i2=>intro g;e! cD dx!
 | sub l x y i1 i2=>intro g;e! cD dx!
 | ifz l c x y i0 i1 i2=>intro g;e! cD (br cL! (br (i0 g.1) d1!))
 | case l x e h t c i1 i2=>intro g;e! cD (br cL! (br (iU g.1) (br (i1 g.2.1) (br (iU g.2.2.1) (br (iU g.2.2.2.1) (br (i2 g.2.2.2.2) no))))))
 | letE l x e b i1 i2=>intro g;e! cD (br cL! (br (iU g.1) d1!))
 | call1 l f x i1=>intro g;e! cD (br cL! (br (iU g.1) (br (i1 g.2) no)))
 | call2 l f x y i1 i2=>intro g;e! cD (br cL! (br (iU g.1) d1!))
 | tick l k e i1=>intro g;e! cD (br cL! (br (UE g.1) (br (i1 g.2) no)))
 | share l x y z e i1=>intro g;e! cD (br cL! (br (iU g.1) (br (iU g.2.1) (br (iU g.2.2.1) (br (i1 g.2.2.2) no)))))
t! We{f:%aQ}(g:A9 f):qm (funText f):=by
 ~br:∀ {x:Text} {l:List Text},qm x->(∀ y∈l,qm y)->∀ y∈x::l,qm y:=λ{x l} h k y hy=>(%ak hy).elim gp! (k y)
 ~no:∀ y∈([]:List Text),qm y:=λy hy=>by cases hy
 r! (cD (br cL! (br (iU g.name) (br (cD λy hy=>?_) (br (Og _) (br (UG g.body) no)))))).app (gj ag!);o!⟨q,hq,rfl⟩:=%bH hy;e! cD (br (Og _) (br (iU (g.AX q hq)) no))
t! UH{p:Prog}(g:qU p):qm gs!:=λb hb=>by
 o!⟨f,hf,h⟩:=List.mem_flatMap.mp hb;e! We (g.i6 f hf) b h
structure A3 (a:Ad) (ok:Addr->Prop) (H:Hp) (g:Addr) (x:Text) (p:Prog):Prop where
 ex:∃ dx tl fl nl fs ps,H g=some (.ins a.fO dx eu!)/\H tl=some (.lst bt!)/\H fl=some bG!/\H nl=some (.lst (ps.map V.ref)) /\
  cS a ok H fs p/\eP a x ok H ps (cC p)/\ok g/\ok tl/\ok fl/\ok nl
section
variable {P:Program} {w:World} {K:PySem.W.Frag} {mg:Str->Option Value} {base:Heap} {a:Ad}
t! A3.turn{ok ok':Addr->Prop}{H H':Hp}{g:Addr}{x:Text}{p:Prog}(h:A3 a ok H g x p)(k:∀ b o,ok b->H b=some o->H' b=some o)(m:∀ b,ok b->ok' b):A3 a ok' H' g x p:=by
 o!⟨dx,tl,fl,nl,fs,ps,h1,h2,h3,h4,h5,h6,o1,o2,o3,o4⟩:=h.ex;e! ⟨dx,tl,fl,nl,fs,ps,k _ _ o1 h1,k _ _ o2 h2,k _ _ o3 h3,k _ _ o4 h4,h5.turn k m,h6.turn k m,m _ o1,m _ o2,m _ o3,m _ o4⟩
def zO(K:%ag)(a:Ad):Sp:=λvs H Q E=>∃ (l:Addr) (x:Text),vs=[.ref l]/\aX K H l bt!/\x.length<=2000 /\
 (∀ H' g p,pO x=some p->qU p->bc H H'->A3 a bm! H' g x p->Q (.ref g) H')/\(∀ H',pO x=none->bc H H'->E a2! none H')
t! BA(T:eo K mg a)(Cn:SR P w K mg a)(Dc:WY P w K mg a)(Sg:Yc P w K mg a):aK P w K mg base (bA P w) 44 a.jy a.jz ["text"] (zO K a):=by
 ~GS:aK P w K mg base (bA P w) 43 a.sU a.sV ["text"] (QX K a):=(N9 T).mono (by w!);~GR:FB! 42 a.j8 a.kh aH! (LC a):=(Sm T).mono (by w!);~GF:aK P w K mg base (bA P w) 43 a.gQ a.gR a8! (Uv a):=(DG T Cn Dc).mono (by w!);~GL:aK P w K mg base (bA P w) 43 a.jf a.jg cI! (UD a):=GY T Sg;~GI:FB! 42 a.jd a.je bk! (jQ a.fO 3 Uo):=(Px T).mono (by w!);r! T.rD.kY uU ab! aa!
 ·o!⟨l,x,rfl,_⟩:=h;rfl
 o!⟨l,x,rfl,sq,lx,q1,q2⟩:=h;r! ⟨_,af (aE (i:=1) uU.nd rfl al! (eI T.Bi GR hr rfl T.wx T.Bh .nil aM (aa (az GS hr rfl T.Jb T.Ck.kp T.Ja .nil aB aP!) ag)))
  (af (aE (i:=2) uU.nd rfl al! (az GF hr rfl T.wt T.oE.kp T.wq .nil aB aF!))
  (af (aF (az GL hr rfl T.zy T.tu.kp T.zx .nil aB au!))
  (ah (aH (eI T.zr GI hr rfl T.rZ T.zq .nil aM (aa (gL L9 rfl T.My PyProof.Rows.boot_list aP!) (aa (pv 2) eh!))))))),?_⟩
 ~pm:pO x=(C1 x).bind λp=>if p.all (uM p)=true then some p else none:=rfl
 r! ⟨_,rfl,l,x,rfl,sq,lx,λsg H1 S1=>?_,λsg H1 S1=>?_⟩
 rotate_left
 ·r! q2 H1 ?_ S1;cases e:C1 x with
  | none=>rw[pm,e];rfl
  | some p =>
   o!⟨G,e2⟩:=vR.mp e;rw[←e2] at sg;e! absurd (UH G) sg
 intro r dr nr ndr ner;r! ⟨r,dr,strOf x,rfl,ae,λnl nnl=>⟨rfl,?_⟩⟩;~n1:nl≠r:=λe=>by rw[e,ae] at nnl;cases nnl
 ~nd1:nl≠dr:=λe=>by rw[e,ai ner,ae] at nnl;cases nnl
 ~nnl1:H1 nl=none:=by rw[ai n1,ai nd1] at nnl;e! nnl
 generalize hH2:(upd (upd (upd (upd H1 dr (.own r)) r (.ins a.da dr [])) nl aL!) r (.ins a.da dr (X8 ap! 0 nl)))=H2;~S2:bc H1 H2:=λb o e=>by
  rw[←hH2,ai (aq e nr),ai (aq e nnl1),ai (aq e nr),ai (aq e ndr)];e! e
 ~R2:g7 a H2 r x 0 nl []:=⟨⟨dr,by rw[←hH2];e! ae⟩,by rw[←hH2,ai n1];e! ae,%aE _,lx,sg⟩;~S12:=S1.trans S2;~fr:∀ b∈[r,nl],H b=none:=λb hb=>by
  simp only[List.mem_cons,List.not_mem_nil,or_false] at hb;rcases hb with rfl | rfl
  ·e! S1.free nr
  ·e! S1.free nnl1
 r! ⟨_,rfl,r,x,nl,rfl,R2,λH3 j p fl fs qs e3 R3 k3 ofl AF AN nfl=>?_,λH3 e3 k3=>q2 H3 (by rw[pm,e3];rfl) (aA.uD S12 k3 fr)⟩;o!⟨G,_⟩:=vR.mp e3;~S13:=aA.uD S12 k3 fr;rw[e3,%ax] at pm;r! ⟨_,rfl,fl,fs,p,rfl,ofl,AF.turn (λb o _ e=>e) (λ_ _=>trivial),G,λH4 al S4=>?_,λH4 al S4=>q2 H4 (by rw[pm,al];rfl) (S13.trans S4)⟩;rw[if_pos al] at pm;~S14:=S13.trans S4;r! ⟨_,rfl,l,_,rfl,.inl (S14.seq sq),λtl ntl=>?_⟩;~S5:=ay ntl (.lst bt!);o!⟨dr3,or3⟩:=R3.obj;r! ⟨_,rfl,_,rfl,r,_,dr3,_,_,rfl,S5 _ _ (S4 _ _ or3),T.aN,T.eE,rfl,λg dg ng ndg neg=>?_⟩;r! ⟨g,dg,[_,_,_],rfl,rfl,ae,rfl,?_⟩;rw[aC];~S6:bc H3 (made (upd H4 tl (.lst bt!)) g dg a.fO eu!):=S4.trans (S5.trans (bF ng ndg));~S16:=S13.trans S6;~up:∀ b,H2 b=none->H b=none:=λb h=>S12.free h
 r! q1 _ g p pm G S16 ⟨dg,tl,fl,nl,fs,qs,AJ,bF ng ndg _ _ ae,S6 _ _ ofl,S6 _ _ R3.lst,AF.turn gj! up,AN.turn gj! up,(S14.trans S5).free ng,S14.free ntl,up _ nfl,fr nl ai!⟩
end
end Pay
namespace Pay
open PySem L2
open Vaamoa (isName ascii distinct Param Prog)
t! Ye{x:Str}{g:TG}{tt:TT}{te:TE}{vs:List Nat}{σ:St}{H1:Hp}{D:Addr}{Qd:Hp->Prop}(Pv:Nat->Hp->Prop)(h0:Pv 0 (upd H1 D aL!))
  (hs:∀ (i c:Nat) (H:Hp),x.cps[i]?=some c->Pv i H->g (.str ⟨#[c]⟩) eI! H fun σ2 H2=>wipe σ2 vs=wipe σ vs/\tt σ2 H2 λb H3 =>
   if b=true then te σ2 H3 λy H4=>∃ acc,H4 D=some f5!/\acc.length < sizeLine/\Pv (i+1) by! else Pv (i+1) H3) (hd:∀ H,Pv x.cps.size H->Qd H) :
  ∃ W:Nat->Nat->Hp->Prop,df!/\∀ i m H,W i m H ->
   ((WS x).stop i H/\Qd H)∨((WS x).go i H/\∃ Nx:Hp->Prop,bW!/\∀ y H',(WS x).Tb i H y H'->g y eI! H' fun σ2 H2=>wipe σ2 vs=wipe σ vs/\tt σ2 H2 λb H3 =>
    if b=true then te σ2 H3 λy H4=>∃ acc,H4 D=some f5!/\acc.length < sizeLine/\Nx by! else Nx H3):=by
 r! ⟨λi m H=>m=x.cps.size - i/\i<=x.cps.size/\Pv i H,⟨x.cps.size,by simp,Nat.zero_le _,h0⟩,?_⟩;rintro i m H ⟨rfl,hi,p⟩;by_cases hlt:i < x.cps.size
 ·r! .inr ⟨hlt,Pv (i+1),λH' p'=>⟨x.cps.size - (i+1),by w!,rfl,hlt,p'⟩,λv H' y=>?_⟩;o!⟨rfl,c,hc,rfl⟩:=y;e! hs i c _ hc p
 ·~e:i=x.cps.size:=by w!
  subst e;e! .inl ⟨%am _,hd H p⟩
def zP:Text:=ascii "(fun f ((n x)) n x)\n"
t! UI:%ad "(fun f ((n x)) n x)\n"=strOf zP:=by dk!
t! Sv:(pO zP).isSome=true:=by dk!
section
variable {P:Program} {w:World} {K:PySem.W.Frag} {mg:Str->Option Value} {base:Heap} {a:Ad}
def W2(a:Ad):Sp:=λvs H Q _=>vs=[]/\∀ H' g p,pO zP=some p->qU p->bc H H'->A3 a bm! H' g zP p->Q (.ref g) H'
t! Jy(T:eo K mg a)(Cn:SR P w K mg a)(Dc:WY P w K mg a)(Sg:Yc P w K mg a):aK P w K mg base (bA P w) 45 a.kD a.kG [] (W2 a):=by
 ~GP:aK P w K mg base (bA P w) 44 a.jy a.jz ["text"] (zO K a):=BA T Cn Dc Sg;r! T.vi.kY sF ab! aa!
 ·rw[h.1];rfl
 o!⟨rfl,q⟩:=h;o!⟨t1,g1⟩:=T.xO;r! ⟨_,ah (aH (az GP hr rfl T.xG T.rD.kp T.xF .nil aB (aa (HP (own:=[("sign",0)]) (te:=YO (λxs H Q=>∃ x,xs=[.str x]/\x.length=1/\Q (.int (x.cps.getD 0 0:Nat)) H) (ye (i7 0) Gs)) (g:=nM 0) (tt:=HM) rfl sF.nd
  (OL (aQ (v:=.str (%ad "(fun f ((n x)) n x)\n")) rfl g1 ⟨t1,rfl⟩)) (i9 rfl) (λ_ _ _ _ _=>cb (i:=0) sF.nd rfl al!) cG! (λ_ _ _ _ _=>aR Nc rfl T.N0 PyProof.Rows.boot_ord aP!)) ag))),?_⟩
 rw[UI];r! ⟨_,rfl,λD nD=>?_⟩;r! Ye (x:=strOf zP) (λi H'=>H' D=some (.lst (((codes zP).take i).map λn=>V.int (n:Nat)))/\bc H H') ⟨ae,ay nD _⟩ ?_ ?_
 ·rintro i c H' hc ⟨oD,sm⟩;~ec:(codes zP)[i]?=some c:=by rw[←hc];simp[strOf]
  r! ⟨rfl,zM ?_⟩;r! ⟨_,rfl,_,rfl,rfl,_,oD,?_,?_,λb o e=>?_⟩
  ·rw[%ac,%aH];e! %ai (%bY _ _) (by dk!)
  ·rw[ae,←kU ec];rfl
  ·rw[ai eB!];e! sm b o e
 ·rintro H6 ⟨oD,S6⟩;~eT:(codes zP).take (strOf zP).cps.size=codes zP:=%aC (by dk!);rw[eT] at oD;r! ⟨D,zP,rfl,aX.of oD,by dk!,λH7 g p e7 G S7 PA=>?_,λH7 e7 _=>?_⟩
  ·e! q H7 g p e7 G f0! (PA.turn (λb o _ e=>e) λb h=>S6.free h)
  ·have:=Sv;rw[e7] at this;cases this
end
end Pay
namespace Pay
open PySem L2
open Vaamoa (isName ascii distinct Param Prog)
def Hr(c:Addr)(i:Int):List (Str×V):=[("calls",.ref c),("place",.int i)]
structure Ct (a:Ad) (K:PySem.W.Frag) (H:Hp) (f dx c:Addr) (xs:List Int) (i:Nat):Prop where
 obj:H f=some (.ins a.bU dx (Hr c i))
 lst:aX K H c (xs.map V.int)
 le:i<=xs.length
section
variable {P:Program} {w:World} {K:PySem.W.Frag} {mg:Str->Option Value} {base:Heap} {a:Ad}
def LM(us:List V):List (Str×V):=match us with
 | [c]=>[("calls",c),("place",.int 0)]
 | _=>[]
t! Wf(T:eo K mg a):FB! 1 a.p6 a.p8 dV! (jQ a.bU 1 LM):=by
 r! T.FQ.ok Ms ab! aa!
 ·o!⟨x,dx,us,rfl,hl,_⟩:=h;show us.length+1=2;w!
 o!⟨x,dx,us,rfl,hl,hx,q⟩:=h
 match us,hl with
 | [c],_ =>
  r! ⟨_,af bQ! (ah dy!),?_⟩;r! ⟨_,rfl,_,rfl,x,_,dx,_,rfl,hx,T.dS,T.iy,by show 0 < 1000;decide,?_⟩;r! ⟨_,rfl,x,_,dx,_,rfl,ae,T.dS,T.dZ,by show 1 < 1000;decide,?_⟩;rw[aC];e! q
t! aX.UJ{S:List Addr}{H H':Hp}{c:Addr}{xs:List V}(l:aX K H c xs)(k:aA S H H')(hS:∀ b∈S,∃ C dx g,H b=some (.ins C dx g)):aX K H' c xs:=by
 rcases l with (h | ⟨o,h⟩) | h
 ·r! .inl (.inl (k.keep _ _ h λm=>?_));o!⟨C,dx,g,e⟩:=hS _ m;rw[h] at e;cases e
 ·r! .inl (.inr ⟨o,k.keep _ _ h λm=>?_⟩);o!⟨C,dx,g,e⟩:=hS _ m;rw[h] at e;cases e
 ·e! .inr h
t! Ct.move{H:Hp}{f dx c:Addr}{xs:List Int}{i j:Nat}(F:Ct a K H f dx c xs i)(hj:j<=xs.length):Ct a K (upd H f (.ins a.bU dx (Hr c j))) f dx c xs j :=
 ⟨ae,aX.UJ F.lst (aA.upd (S:=[f]) ai!) (λb hb=>by cases List.mem_singleton.mp hb;e! ⟨_,_,_,F.obj⟩),hj⟩
t! Ct.same{H H':Hp}{f dx c:Addr}{xs:List Int}{i:Nat}(F:Ct a K H f dx c xs i)(S:bc H H'):Ct a K H' f dx c xs i:=⟨S _ _ F.obj,S.seq F.lst,F.le⟩
def xU(a:Ad)(K:%ag):Sp:=λvs H Q _=>∃ f dx c xs i n,vs=[.ref f]/\Ct a K H f dx c xs i/\xs[i]?=some n/\Q (.int n) fO!
t! g9(T:eo K mg a):FB! 1 a.bB a.bC ["self"] (xU a K):=by
 r! T.tG.ok qW ab! aa!
 ·o!⟨f,dx,c,xs,i,n,rfl,_⟩:=h;rfl
 o!⟨f,dx,c,xs,i,n,rfl,F,en,q⟩:=h;r! ⟨_,af (aE (i:=1) qW.nd rfl al! (cG aZ ad! ad! ar!))
  (af (rN (pv 0) aI DW) (ah gg!)),?_⟩
 ~o:=F.obj;r! ⟨_,rfl,f,_,dx,_,_,rfl,o,T.dS,T.iy,rfl,_,rfl,f,_,dx,_,_,rfl,o,T.dS,T.dZ,rfl,c,_,(i:Int),.int n,rfl,rfl,F.lst,CS (by rw[%al,en];rfl),?_⟩;r! ⟨_,rfl,f,_,dx,_,_,rfl,o,T.dS,T.dZ,rfl,_,_,rfl,rfl,dx,_,o,by show 2 < 1000;decide,?_⟩;e! ⟨_,rfl,q⟩
def MN(a:Ad)(K:%ag):Sp:=λvs H Q _=>∃ f dx c xs i,∃ k:Nat,vs=[.ref f]/\Ct a K H f dx c xs i/\xs[i]?=some (k:Int)/\i+1+k<=xs.length /\
 ∀ l,H l=none->Q (.ref l) (upd (upd H f (.ins a.bU dx (Hr c (i+1+k:Nat)))) l b2!)
t! F8(T:eo K mg a):FB! 2 a.fM a.fN ["self"] (MN a K):=by
 ~GN:FB! 1 a.bB a.bC ["self"] (xU a K):=g9 T;r! T.yu.ok nW ab! aa!
 ·o!⟨f,dx,c,xs,i,k,rfl,_⟩:=h;rfl
 o!⟨f,dx,c,xs,i,k,rfl,F,en,lk,q⟩:=h;r! ⟨_,af (aE (i:=1) nW.nd rfl al! (cO (pv 0) T.dS T.bS GN hr T.bR .nil aM))
  (af (aE (i:=2) nW.nd rfl al! (si CT ad! (pd ad!) (pd (OC ad! (pv 1)))))
  (af (rN (pv 0) (pv 1) DW) (ah gf!))),?_⟩
 ~o:=F.obj;~hi:i < xs.length:=(%ae en).1;~F1:=F.move (j:=i+1) (by w!);r! ⟨_,rfl,f,dx,_,rfl,o,rfl,f,dx,c,xs,i,k,rfl,F,en,?_⟩;~o1:=F1.obj;r! ⟨_,rfl,f,_,dx,_,_,rfl,o1,T.dS,T.iy,rfl,_,rfl,f,_,dx,_,_,rfl,o1,T.dS,T.dZ,rfl,_,rfl,_,rfl,f,_,dx,_,_,rfl,o1,T.dS,T.dZ,rfl,_,rfl,_,_,rfl,rfl,_,rfl,c,_,rfl,F1.lst,λl nl=>?_⟩;~ne:l≠f:=(aq o1 nl).symm;~o2:∀ u,upd fO! l u f=some aY!:=λu=>by rw[ai (Ne.symm ne)];e! ae
 r! ⟨_,rfl,f,_,dx,_,_,rfl,o2 _,T.dS,T.dZ,rfl,_,rfl,_,_,rfl,rfl,dx,_,o2 _,by show 2 < 1000;decide,?_⟩;r! ⟨_,rfl,?_⟩;rw[iT ne,aC];~ef:nL "place" (V.int (((i+1:Nat):Int)+(k:Int))) (Hr c (i+1:Nat))=Hr c ((i+1+k:Nat):Int):=by
  show ([("calls",_),("place",V.int (((i+1:Nat):Int)+(k:Nat)))]:List (Str×V))=_;rw[←Int.natCast_add];rfl
 ~ec:JU (xs.map V.int) (some ((i+1:Nat):Int)) (some (((i+1:Nat):Int)+(k:Int)))=((xs.drop (i+1)).take k).map V.int:=by
  unfold JU;rw[←Int.natCast_add,HT.t6,HT.t6,%ac,%bP (by w!),%bP (by w!),List.map_take,List.map_drop];congr 1;w!
 rw[ef,ec];rw[ai ne] at nl;e! q l nl
def Hs(a:Ad)(K:%ag):Sp:=λvs H Q _=>∃ f dx c xs i,∃ k m:Nat,vs=[.ref f]/\Ct a K H f dx c xs i/\xs[i]?=some (k:Int)/\xs[i+1+k]?=some (m:Int)/\i+1+k+1+m<=xs.length /\
 ∀ l1 l2 l H',H l1=none->H l2=none->H l=none->aA [f] H H'->Ct a K H' f dx c xs (i+1+k+1+m)->H' l1=some b2!->H' l2=some (.lst (((xs.drop (i+1+k+1)).take m).map V.int))->H' l=some (.lst [.ref l1,.ref l2])->Q (.ref l) H'
t! oS(T:eo K mg a):FB! 3 a.cj a.ck ["self"] (Hs a K):=by
 ~GR:FB! 2 a.fM a.fN ["self"] (MN a K):=F8 T;r! T.qe.ok nO ab! aa!
 ·o!⟨f,dx,c,xs,i,k,m,rfl,_⟩:=h;rfl
 o!⟨f,dx,c,xs,i,k,m,rfl,F,en,em,lk,q⟩:=h;r! ⟨_,af (aE (i:=1) nO.nd rfl al! (cO (pv 0) T.dS T.lE GR hr T.lD .nil aM))
  (ah (aH (cz (aa (pv 1) (aa (cO (pv 0) T.dS T.lE GR hr T.lD .nil aM) ag))))),?_⟩
 ~o:=F.obj;r! ⟨_,rfl,f,dx,_,rfl,o,rfl,f,dx,c,xs,i,k,rfl,F,en,by w!,λl1 n1=>?_⟩;~F1:=(F.move (j:=i+1+k) (by w!)).same (ay (show upd H f _ l1=none by rw[ai (aq o n1).symm];e! n1) b2!);~o1:=F1.obj;~ne1:l1≠f:=(aq o n1).symm;r! ⟨_,rfl,_,rfl,f,dx,_,rfl,o1,rfl,f,dx,c,xs,_,m,rfl,F1,em,lk,λl2 n2=>?_⟩;~ne2:l2≠f:=(aq o1 n2).symm;~n12:l2≠l1:=λz=>by rw[z,ae] at n2;cases n2
 ~n2H:H l2=none:=by rw[ai n12,ai ne2] at n2;e! n2
 ~F2:=F1.move (j:=i+1+k+1+m) (by w!);generalize hH2:upd (upd (upd H f (.ins a.bU dx (Hr c (i+1+k:Nat)))) l1 b2!) f (.ins a.bU dx (Hr c (i+1+k+1+m:Nat)))=H2 at *;~n2':H2 l2=none:=by rw[←hH2,ai ne2];e! n2
 ~S2:=ay n2' (.lst (((xs.drop (i+1+k+1)).take m).map V.int));r! ⟨by show 2<=sizeLine;decide,λl nl=>?_⟩;~nl2:l≠l2:=λz=>by rw[z,ae] at nl;cases nl
 ~nlf:l≠f:=λz=>by rw[z,S2 _ _ F2.obj] at nl;cases nl
 ~nl1:l≠l1:=λz=>by rw[z,ai (Ne.symm n12),←hH2,ai ne1,ae] at nl;cases nl
 ~nlH:H l=none:=by rw[ai nl2,←hH2,ai nlf,ai nl1,ai nlf] at nl;e! nl
 ~S3:=ay nl (.lst [V.ref l1,V.ref l2]);~K2:aA [f] H H2:=by
  rw[←hH2];e! ((aA.upd ai!).trans (aA.new (by rw[ai ne1];e! n1))).trans ch!
 r! q l1 l2 l _ n1 n2H nlH ((K2.same S2).same S3) ((F2.same S2).same S3) (S3 _ _ (S2 _ _ (by rw[←hH2,ai ne1];e! ae))) (S3 _ _ ae) ae
def UK(a:Ad)(K:%ag):Sp:=λvs H Q _=>∃ f dx c xs i,vs=[.ref f]/\Ct a K H f dx c xs i/\Q (.bl (decide (i < xs.length))) H
t! Oh(T:eo K mg a):FB! 1 a.iO a.iP ["self"] (UK a K):=by
 r! T.yw.ok Ej ab! aa!
 ·o!⟨f,dx,c,xs,i,rfl,_⟩:=h;rfl
 o!⟨f,dx,c,xs,i,rfl,F,q⟩:=h;r! ⟨_,ah (aH (Xh (Kq ad! a5!))),?_⟩;~o:=F.obj;r! ⟨_,rfl,f,_,dx,_,_,rfl,o,T.dS,T.dZ,rfl,_,rfl,f,_,dx,_,_,rfl,o,T.dS,T.iy,rfl,c,_,rfl,.inl F.lst,_,_,rfl,rfl,?_⟩;~e:decide ((i:Int) < ((xs.map V.int).length:Nat))=decide (i < xs.length):=by
  rw[decide_eq_decide,%ac];w!
 show Q (V.bl (decide ((i:Int) < ((xs.map V.int).length:Nat)))) H;rw[e];e! q
def ER(a:Ad)(C:Addr)(nth:Addr->Addr->Addr->Addr):Sp:=λvs H Q E=>∃ (g dx tl fl nl:Addr) (fs:List Addr) (n:Int),vs=[.ref g,.int n]/\H g=some (.ins a.fO dx eu!)/\H (nth tl fl nl)=some bG! /\
 (∀ i p,n=((i:Nat):Int)->fs[i]?=some p->Q (.ref p) H)/\((n < 0∨(fs.length:Int)<=n)->E (.ref C) none H)
t! tR(T:eo K mg a):aK P w K mg base (bA P w) 1 a.gz a.gC cf! (ER a a.ba (λ_ f _=>f)):=by
 r! T.kR.kY IL ab! aa!
 ·o!⟨g,dx,tl,fl,nl,fs,n,rfl,_⟩:=h;rfl
 o!⟨g,dx,tl,fl,nl,fs,n,rfl,og,ofl,q1,q2⟩:=h;r! ⟨_,af (cE (PW.pt (Fj (jR (Kq (pv 1) aI)) (BG (jR (WG (pv 1) a5!))))) (ah (bL cI rfl rfl T.eX T.Du)) bD)
  (ah (aH (cG aZ ad! (pv 1) ar!))),?_⟩
 r! ⟨_,rfl,_,_,rfl,rfl,decide (n < 0),rfl,?_⟩;by_cases c1:n < 0
 ·rw[decide_eq_true c1];e! bO (bO (q2 (.inl c1)))
 rw[decide_eq_false c1];r! bY ⟨_,rfl,_,rfl,g,_,dx,_,_,rfl,og,T.bX,T.aV,rfl,fl,_,rfl,.inl (aX.of ofl),_,_,rfl,rfl,decide co!,rfl,?_⟩;~e:decide co!=decide ((fs.length:Int)<=n):=by rw[%ac]
 rw[e];by_cases c2:(fs.length:Int)<=n
 ·rw[decide_eq_true c2];e! bO (q2 (.inr c2))
 rw[decide_eq_false c2];obtain ⟨i,rfl⟩:∃ i:Nat,n=(i:Int):=⟨n.toNat,by w!⟩;~hi:i < fs.length:=by w!
 r! bY ⟨_,rfl,g,_,dx,_,_,rfl,og,T.bX,T.aV,rfl,_,rfl,fl,_,(i:Int),.ref fs[i],rfl,rfl,aX.of ofl,CS (by simp[hi]),q1 i fs[i] rfl (by simp[hi])⟩
t! PZ(T:eo K mg a):aK P w K mg base (bA P w) 1 a.wa a.wb c8! (ER a a.fE (λ_ _ n=>n)):=by
 r! T.EG.kY Pg ab! aa!
 ·o!⟨g,dx,tl,fl,nl,fs,n,rfl,_⟩:=h;rfl
 o!⟨g,dx,tl,fl,nl,fs,n,rfl,og,ofl,q1,q2⟩:=h;r! ⟨_,af (cE (PW.pt (Fj (jR (Kq (pv 1) aI)) (BG (jR (WG (pv 1) a5!))))) (ah (bL cI rfl rfl T.tM T.NY)) bD)
  (ah (aH (cG aZ ad! (pv 1) ar!))),?_⟩
 r! ⟨_,rfl,_,_,rfl,rfl,decide (n < 0),rfl,?_⟩;by_cases c1:n < 0
 ·rw[decide_eq_true c1];e! bO (bO (q2 (.inl c1)))
 rw[decide_eq_false c1];r! bY ⟨_,rfl,_,rfl,g,_,dx,_,_,rfl,og,T.bX,T.cw,rfl,nl,_,rfl,.inl (aX.of ofl),_,_,rfl,rfl,decide co!,rfl,?_⟩;~e:decide co!=decide ((fs.length:Int)<=n):=by rw[%ac]
 rw[e];by_cases c2:(fs.length:Int)<=n
 ·rw[decide_eq_true c2];e! bO (q2 (.inr c2))
 rw[decide_eq_false c2];obtain ⟨i,rfl⟩:∃ i:Nat,n=(i:Int):=⟨n.toNat,by w!⟩;~hi:i < fs.length:=by w!
 r! bY ⟨_,rfl,g,_,dx,_,_,rfl,og,T.bX,T.cw,rfl,_,rfl,nl,_,(i:Int),.ref fs[i],rfl,rfl,aX.of ofl,CS (by simp[hi]),q1 i fs[i] rfl (by simp[hi])⟩
def Oi(z:Ex×Nat):Bool:=match z.1 with
 | .tick _ _ _=>true
 | _=>false
t! Wg{ok:Addr->Prop}{H:Hp}{p:Addr}:∀ {z:Ex×Nat},aY a ok H z.1 z.2 p->∃ l x n ns qs,eF a ok H p l z.2 x n ns qs/\decide (x=ascii "tick")=Oi z:=by
 rintro ⟨e,d⟩ h;cases e with
 | num l n=>e! ⟨_,_,_,_,_,h,(decide_eq_false (by dk!):_=false)⟩
 | var l n=>e! ⟨_,_,_,_,_,h,(decide_eq_false (by dk!):_=false)⟩
 | nil l=>e! ⟨_,_,_,_,_,h,(decide_eq_false (by dk!):_=false)⟩
 | cons l x y=>obtain ⟨_,_,h,_⟩:=h;e! ⟨_,_,_,_,_,h,(decide_eq_false (by dk!):_=false)⟩
 | add l x y=>obtain ⟨_,_,h,_⟩:=h;e! ⟨_,_,_,_,_,h,(decide_eq_false (by dk!):_=false)⟩
 | sub l x y=>obtain ⟨_,_,h,_⟩:=h;e! ⟨_,_,_,_,_,h,(decide_eq_false (by dk!):_=false)⟩
 | ifz l c x y=>obtain ⟨_,_,_,h,_⟩:=h;e! ⟨_,_,_,_,_,h,(decide_eq_false (by dk!):_=false)⟩
 | case l x c y z g=>obtain ⟨_,_,h,_⟩:=h;e! ⟨_,_,_,_,_,h,(decide_eq_false (by dk!):_=false)⟩
 | letE l x c y=>obtain ⟨_,_,h,_⟩:=h;e! ⟨_,_,_,_,_,h,(decide_eq_false (by dk!):_=false)⟩
 | call1 l g x=>obtain ⟨_,h,_⟩:=h;e! ⟨_,_,_,_,_,h,(decide_eq_false (by dk!):_=false)⟩
 | call2 l g x y=>obtain ⟨_,_,h,_⟩:=h;e! ⟨_,_,_,_,_,h,(decide_eq_false (by dk!):_=false)⟩
 | tick l k x=>obtain ⟨_,h,_⟩:=h;e! ⟨_,_,_,_,_,h,(decide_eq_true rfl:_=true)⟩
 | share l x y z c=>obtain ⟨_,h,_⟩:=h;e! ⟨_,_,_,_,_,h,(decide_eq_false (by dk!):_=false)⟩
t! eP.at{t:Text}{ok:Addr->Prop}{H:Hp}:∀ {ps:List Addr} {l:List (Ex×Nat)} {i:Nat} {p:Addr},eP a t ok H ps l->ps[i]?=some p->∃ z,l[i]?=some z/\aY a ok H z.1 z.2 p/\Yx a t ok H z.1 p
 | [],[],_,_,_,e=>by simp at e
 | p::_,q::_,0,_,h,e=>by simp at e;subst e;e! ⟨q,rfl,h.1⟩
 | _::_,_::_,i+1,_,h,e=>by
  o!⟨q,e',r⟩:=eP.at (i:=i) h.2 eg!;e! ⟨q,by simpa using e',r⟩
 | [],_::_,_,_,h,_=>h.elim
 | _::_,[],_,_,h,_=>h.elim
def MO(a:Ad):Sp:=λvs H Q _=>∃ (ok:Addr->Prop) (g:Addr) (x:Text) (p:Prog),vs=[.ref g]/\A3 a ok H g x p/\(cC p).length<=60 /\
 ∀ H' l ks,bc H H'->H l=none->H' l=some cU!->eP a x ok H' ks ((cC p).filter Oi)->Q (.ref l) H'
t! BB(T:eo K mg a):FB! 1 a.jA a.jC ga! (MO a):=by
 r! T.rE.ok uW ab! aa!
 ·o!⟨ok,g,x,p,rfl,_⟩:=h;rfl
 o!⟨ok,g,x,p,rfl,R,l60,q⟩:=h;r! ⟨_,ah (aH (HP (own:=[("node",1)]) (te:=i7 1) (g:=nM 1) (tt:=Nb (Vl Zr (wK K (i7 1) "word") (tC (.str fF!)))) rfl uW.nd (fR ad!) (i9 rfl)
  (λ_ _ _ _ _=>cb (i:=1) uW.nd rfl al!) (λ_ _ _ _ _=>Ma (bG i8 as! cN (cy _))) (λ_ _ _ _ _=>pv 1))),?_⟩
 o!⟨dx,tl,fl,nl,fs,ps,og,otl,ofl,onl,AF,AN,_⟩:=R.ex;r! ⟨_,rfl,g,_,dx,_,_,rfl,og,T.bX,T.cw,rfl,nl,rfl,⟨_,aX.of onl⟩,λD nD=>?_⟩;~lps:=AN.len;r! ra (K:=K) (a:=nl) (xs:=ps.map V.ref) (λi H'=>∃ ks:List Addr,H' D=some cU!/\bc H H'/\eP a x ok H ks (((cC p).take i).filter Oi)/\ks.length<=i/\i<=ps.length) ⟨[],ae,ay nD _,trivial,%am _,%aE _⟩ (λi H' _ ⟨_,_,S,_⟩=>aX.of (S _ _ onl)) ?_ ?_
 ·rintro i y H' hy ⟨ks,oD,S,AK,lk,_⟩;rw[%al] at hy;o!⟨k,ek,rfl⟩:=%ab hy;o!⟨z,ez,NZ,SZ⟩:=AN.at ek;o!⟨l,wd,n,ns,qs,⟨dk,nm,pt,⟨_,_,kY⟩,_⟩,etk⟩:=Wg NZ;~hi:i < ps.length:=(%ae ek).1;~tk:(cC p).take (i+1)=(cC p).take i++[z]:=by rw[%ay,ez];rfl
  r! ⟨rfl,_,rfl,k,_,dk,_,_,rfl,S _ _ kY,T.aG,T.bM,rfl,rfl,_,rfl,?_⟩;~e1:decide (V.str (strOf wd)=V.str fF!)=Oi z:=by
   rw[←etk,decide_eq_decide,MK];e! ⟨λh=>iY (V.str.inj h),λh=>by rw[h]⟩
  rw[e1];cases c:Oi z with
  | true =>
   r! bO ⟨_,rfl,_,oD,?_,ks++[k],?_,λb o e=>?_,?_,?_,hi⟩
   ·rw[%ac];e! %ai (show ks.length<=60 by w!) ag!
   ·rw[ae,%bd];rfl
   ·rw[ai eB!];e! S b o e
   ·rw[tk,%bO,%cI,if_pos c];e! AK.app ⟨⟨NZ,SZ⟩,trivial⟩
   ·rw[%aq];e! %bX lk
  | false =>
   r! bY ⟨ks,oD,S,?_,by w!,hi⟩;rw[tk,%bO,%cI,n! (by rw[c];decide),List.filter_nil,%bI];e! AK
 ·rintro H' ⟨ks,oD,S,AK,_⟩;~eT:(cC p).take (ps.map V.ref).length=cC p:=%aC b9!;rw[eT] at AK;e! q H' D ks S nD oD (AK.turn bP! λ_ h=>h)
end
end Pay
namespace Pay
open PySem L2
open Vaamoa (isName ascii distinct Param Prog valueFor)
def Ze(H:Hp):%aF->V->Prop
 | .num n,v=>v=.int (n:Nat)
 | .list l,v=>∃ p,v=.ref p/\H p=some (.lst (l.map λn=>V.int (n:Nat)))
def inR(z:Int):Bool:=decide (0<=z) && decide (z<=(Vaamoa.NUMBER:Int))
t! F9(k:%aP)(l:List Int):valueFor k l=if l.all inR=false then none else match k,l with
 | .num,[z]=>some (.num z.toNat)
 | .num,_=>none
 | .list,l=>if 12 < l.length then none else some (.list (l.map Int.toNat)):=rfl
section
variable {P:Program} {w:World} {K:PySem.W.Frag} {mg:Str->Option Value} {base:Heap} {a:Ad}
def Ht(a:Ad):Sp:=λvs H Q E=>∃ (k:%aP) (p:Addr) (l:List Int),vs=[bT k,.ref p]/\H p=some (.lst (l.map V.int)) /\
 (∀ v u,valueFor k l=some v->Ze H v u->(∀ q,u=.ref q->q=p)->Q u H)/\(valueFor k l=none->E dA! none H)
t! Oj(T:eo K mg a):aK P w K mg base (bA P w) 1 a.sY a.sZ fi! (Ht a):=by
 r! T.Cm.kY Fz ab! aa!
 ·o!⟨k,p,l,rfl,_⟩:=h;rfl
 o!⟨k,p,l,rfl,op,q1,q2⟩:=h;o!⟨t1,g1⟩:=T.i5;o!⟨t2,g2⟩:=T.lH;o!⟨t3,g3⟩:=T.qI;r! ⟨_,af (lJ PassesOwn.leaving rfl (fR (pv 1)) (cb (i:=2) Fz.nd rfl al!)
   (ah (cE (PW.pt (Fj (jR (Kq (pv 2) aI)) (BG (jR (S9 (pv 2) (aQ (v:=.int 99) rfl g1 ⟨t1,rfl⟩)))))) (ah dQ!) bD)))
  (af (cE (bG i8 (pv 0) (aQ (v:=.int 1) rfl g3 ⟨t3,rfl⟩) (cy _))
   (af (cE (jR (S9 fz! (aQ (v:=.int 12) rfl g2 ⟨t2,rfl⟩))) (ah dQ!) bD)
    (ah gg!)) bD)
  (af (cE (bG Kr fz! aI (cy _)) (ah dQ!) bD)
  (ah (aH (cG aZ (pv 1) aI ar!))))),?_⟩
 ~vf:=F9 k l;r! ⟨_,rfl,p,rfl,⟨_,aX.of op⟩,?_⟩;r! pI (K:=K) (a:=p) (xs:=l.map V.int) (λi σ H'=>∃ v:Option V,σ=[some (bT k),some (.ref p),v]/\H'=H/\(l.take i).all inR=true) ⟨none,rfl,rfl,rfl⟩ (λi σ H' _ ⟨_,_,e,_⟩=>aX.of (by rw[e];e! op)) ?_ ?_
 ·rintro i y σ H' hy ⟨v,rfl,rfl,al⟩;rw[%al] at hy;o!⟨z,ez,rfl⟩:=%ab hy;~tk:l.take (i+1)=l.take i++[z]:=by rw[%ay,ez];rfl
  ~bad:inR z=false->valueFor k l=none:=λh=>by
   rw[vf,if_pos];rw[List.all_eq_false];e! ⟨z,%bg ez,by rw[h];decide⟩
  r! ⟨_,rfl,_,_,rfl,rfl,decide (z < 0),rfl,?_⟩;by_cases c1:z < 0
  ·rw[decide_eq_true c1];e! bO (bO (q2 (bad (by unfold inR;rw[decide_eq_false (by w!)];rfl))))
  rw[decide_eq_false c1];r! bY ⟨_,rfl,_,_,rfl,rfl,decide (99 < z),rfl,?_⟩;by_cases c2:99 < z
  ·rw[decide_eq_true c2];e! bO (q2 (bad (by unfold inR;rw[decide_eq_false (show ¬ z<=(Vaamoa.NUMBER:Int) by unfold Vaamoa.NUMBER;w!)];simp)))
  rw[decide_eq_false c2];r! bY ⟨_,rfl,rfl,?_⟩;rw[tk,List.all_append,al];simp only[List.all_cons,List.all_nil,Bool.and_true,Bool.true_and];unfold inR;rw[decide_eq_true (by w!),decide_eq_true (show z<=(Vaamoa.NUMBER:Int) by unfold Vaamoa.NUMBER;w!)];rfl
 ·rintro σ H' ⟨v,rfl,rfl,al⟩;rw[%ac,%bs] at al;rw[n! (by rw[al];decide)] at vf;~toN:∀ z∈l,((z.toNat:Nat):Int)=z:=λz hz=>by
   have:=%az al z hz;unfold inR at this;simp only[Bool.and_eq_true,decide_eq_true_eq] at this;w!
  r! ⟨_,rfl,xT k .list,_,rfl,?_⟩;cases k with
  | list =>
   ~vf:valueFor .list l=if 12 < l.length then none else some (.list (l.map Int.toNat)):=vf
   r! bO ⟨_,rfl,p,_,rfl,.inl (aX.of op),_,_,rfl,rfl,decide ((12:Int) < ((l.map V.int).length:Nat)),rfl,?_⟩;rw[%ac];by_cases c:12 < l.length
   ·rw[decide_eq_true (by w!)];rw[if_pos c] at vf;e! bO (q2 vf)
   ·rw[decide_eq_false (by w!)];rw[n! c] at vf;r! bY ⟨_,rfl,q1 _ _ vf ⟨p,rfl,?_⟩ (λq e=>by cases e;rfl)⟩;rw[op,%cu];congr 2;r! %bZ λz hz=>?_
    show V.int z=V.int ((z.toNat:Nat):Int);rw[toN z hz]
  | num =>
   r! bY ⟨_,rfl,p,_,rfl,.inl (aX.of op),rfl,_,rfl,?_⟩
   match l,op,vf,toN with
   | [],op,vf,_=>e! bO (q2 vf)
   | [z],op,vf,toN =>
    r! bY ⟨_,rfl,p,_,0,.int z,rfl,rfl,aX.of op,rfl,q1 _ _ vf ?_ (λq e=>by cases e)⟩;show V.int z=V.int ((z.toNat:Nat):Int);rw[toN z ai!]
   | z::z2::r,op,vf,_ =>
    ~e:decide (V.int (((z::z2::r).map V.int).length:Nat)=V.int 1)=false:=decide_eq_false λh=>by
     have:=V.int.inj h;simp at this;w!
    rw[e];e! bO (q2 vf)
end
end Pay
namespace Pay
open PySem L2
open Vaamoa (isName ascii distinct Param Prog funAt typed paidBy peakBy)
def eG{α β:Type}(r:α->β->Prop):List α->List β->Prop
 | [],[]=>True
 | x::xs,y::ys=>r x y/\eG r xs ys
 | _,_=>False
section
variable {α β:Type} {r r':α->β->Prop}
t! eG.imp(h:∀ x y,r x y->r' x y):∀ {xs:List α} {ys:List β},eG r xs ys->eG r' xs ys
 | [],[],_=>trivial
 | _::_,_::_,k=>⟨h _ _ k.1,eG.imp h k.2⟩
 | [],_::_,k=>k.elim
 | _::_,[],k=>k.elim
t! eG.len:∀ {xs:List α} {ys:List β},eG r xs ys->xs.length=ys.length
 | [],[],_=>rfl
 | _::_,_::_,k=>congrArg (·+1) (eG.len k.2)
 | [],_::_,k=>k.elim
 | _::_,[],k=>k.elim
t! eG.app:∀ {xs zs:List α} {ys us:List β},eG r xs ys->eG r zs us->eG r (xs++zs) (ys++us)
 | [],_,[],_,_,h=>h
 | _::_,_,_::_,_,h,k=>⟨h.1,eG.app h.2 k⟩
 | [],_,_::_,_,h,_=>h.elim
 | _::_,_,[],_,h,_=>h.elim
t! eG.at:∀ {xs:List α} {ys:List β} {i:Nat} {x:α},eG r xs ys->xs[i]?=some x->∃ y,ys[i]?=some y/\r x y
 | [],[],_,_,_,e=>by simp at e
 | _::_,y::_,0,_,h,e=>by simp at e;subst e;e! ⟨y,rfl,h.1⟩
 | _::_,_::_,i+1,_,h,e=>by
  o!⟨q,e',k⟩:=eG.at (i:=i) h.2 eg!;e! ⟨q,by simpa using e',k⟩
 | [],_::_,_,_,h,_=>h.elim
 | _::_,[],_,_,h,_=>h.elim
t! eG.Ol{xs:List α}{y:β}{ys:List β}(h:eG r xs (y::ys)):∃ x xs',xs=x::xs'/\r x y/\eG r xs' ys:=by
 match xs,h with
 | x::xs',h=>e! ⟨x,xs',rfl,h.1,h.2⟩
end
structure RA where
 r:Addr
 dx:Addr
 tl:Addr
 gl:Addr
 kl:Addr
 cd:Addr
 nd:Addr
def RA.M(R:RA):List Addr:=[R.r,R.tl,R.gl,R.kl,R.cd]
def RA.ok(R:RA):Addr->Prop:=λb=>b∉R.M
def mC(ok:Addr->Prop)(H:Hp):%aF->V->Prop
 | .num n,v=>v=.int (n:Nat)
 | .list l,v=>∃ p,v=.ref p/\ok p/\H p=some (.lst (l.map λn=>V.int (n:Nat)))
def GZ(ok:Addr->Prop)(H:Hp)(b:Addr)(env:%bw):Prop:=ok b/\∃ kvs,H b=some aQ!/\kvs.length<=env.length /\
 ∀ x z,(env.find? λz=>z.name == x)=some z->∃ v,cA kvs a4!=some v/\mC ok H z.value v
def Om(a:Ad)(ok:Addr->Prop)(H:Hp)(q:Addr)(t:Ap):Prop:=∃ dx nd bd d,H q=some (.ins a.jn dx (Bx [.ref nd,.ref bd,.bl t.back]))/\ok q/\aY a ok H t.e d nd/\GZ ok H bd t.env
def Zv(ok:Addr->Prop)(H:Hp)(q:Addr)(t:%bj):Prop:=H q=some (.tup [.int (t.label:Nat),.int t.cost])/\ok q
section
variable {a:Ad} {ok ok':Addr->Prop} {H H':Hp}
t! mC.turn(k:∀ b o,ok b->H b=some o->H' b=some o)(m:∀ b,ok b->ok' b){x:%aF}{v:V}(h:mC ok H x v):mC ok' H' x v:=by
 cases x with
 | num n=>e! h
 | list l =>
  o!⟨p,e,o,h⟩:=h;e! ⟨p,e,m _ o,k _ _ o h⟩
t! GZ.turn(k:∀ b o,ok b->H b=some o->H' b=some o)(m:∀ b,ok b->ok' b){b:Addr}{env:%bw}(h:GZ ok H b env):GZ ok' H' b env:=by
 o!⟨o,kvs,e,l,v⟩:=h;r! ⟨m _ o,kvs,k _ _ o e,l,λx z hz=>?_⟩;o!⟨u,e1,e2⟩:=v x z hz;e! ⟨u,e1,e2.turn k m⟩
t! Om.turn(k:∀ b o,ok b->H b=some o->H' b=some o)(m:∀ b,ok b->ok' b){q:Addr}{t:Ap}(h:Om a ok H q t):Om a ok' H' q t:=by
 o!⟨dx,nd,bd,d,e,o,N,E⟩:=h;e! ⟨dx,nd,bd,d,k _ _ o e,m _ o,N.turn k m,E.turn k m⟩
t! Zv.turn(k:∀ b o,ok b->H b=some o->H' b=some o)(m:∀ b,ok b->ok' b){q:Addr}{t:%bj}(h:Zv ok H q t):Zv ok' H' q t:=⟨k _ _ h.2 h.1,m _ h.2⟩
t! Wc.turn(k:∀ b o,ok b->H b=some o->H' b=some o)(m:∀ b,ok b->ok' b){n:Addr}{p:Prog}(hn:ok n)(h:Wc a ok H n p):Wc a ok' H' n p:=by
 o!⟨kvs,e,h1,h2⟩:=h.ex;r! ⟨kvs,k _ _ hn e,h1,λx g hg=>?_⟩;o!⟨q,e1,F,l2⟩:=h2 x g hg;e! ⟨q,e1,F.turn k m,l2⟩
end
def ES(nd:Addr)(most steps paid peak:Int)(tl gl kl cd:Addr)(lg:Bool):List (Str×V):=[("named",.ref nd),("allowed",.int most),("tasks",.ref tl),("given",.ref gl),("steps",.int steps),("paid",.int paid),("peak",.int peak),("ticks",.ref kl),("times_called",.ref cd),("is_long",.bl lg)]
def Wh(n:Nat):Option V:=if n=0 then none else some (.int (n:Nat))
structure gG (a:Ad) (R:RA) (p:Prog) (most:Nat) (H:Hp) (s:nI):Prop where
 obj:H R.r=some (.ins a.fD R.dx (ES R.nd most s.acc.steps eK! dJ! R.tl R.gl R.kl R.cd s.long))
 Wi:∃ ts:List Addr,H R.tl=some (.lst fP!)/\eG (Om a R.ok H) ts s.tasks
 Sw:∃ gs:List V,H R.gl=some (.lst gs.reverse)/\eG dg! gs s.given
 SS:∃ ks:List Addr,H R.kl=some cU!/\eG (Zv R.ok H) ks s.acc.ticks
 cls:∃ kvs,H R.cd=some aQ!/\kvs.length<=s.acc.calls.length/\∀ x,cA kvs a4!=Wh (s.acc.calls.countP λy=>y == x)
 QZ:Wc a R.ok H R.nd p
 SU:R.ok R.nd
 Wj:R.M.Nodup
section
variable {P:Program} {w:World} {K:PySem.W.Frag} {mg:Str->Option Value} {base:Heap} {a:Ad} {R:RA} {p:Prog} {most:Nat} {H H':Hp} {s:nI}
t! fG(k:aA R.M H H'):∀ b o,R.ok b->H b=some o->H' b=some o:=λb o hb e=>k.keep b o e hb
t! bK{ok:Addr->Prop}:∀ b,ok b->ok b:=λ_ h=>h
t! gG.ne(Z:gG a R p most H s):(R.r≠R.tl/\R.r≠R.gl/\R.r≠R.kl/\R.r≠R.cd)/\(R.tl≠R.gl/\R.tl≠R.kl/\R.tl≠R.cd)/\(R.gl≠R.kl/\R.gl≠R.cd)/\R.kl≠R.cd:=by
 ~n:=Z.Wj;unfold RA.M at n;simp only[List.nodup_cons,List.mem_cons,List.not_mem_nil,or_false,not_or,not_false_eq_true,and_true,List.nodup_nil] at n;e! n
t! RA.LN:R.r∈R.M:=by simp[RA.M]
t! RA.P6:R.tl∈R.M:=by simp[RA.M]
t! RA.ET:R.gl∈R.M:=by simp[RA.M]
t! RA.UL:R.kl∈R.M:=by simp[RA.M]
t! RA.Yf:R.cd∈R.M:=by simp[RA.M]
t! gG.free(Z:gG a R p most H s){b:Addr}(h:H b=none):R.ok b:=by
 o!⟨ts,h1,_⟩:=Z.Wi;o!⟨gs,h2,_⟩:=Z.Sw;o!⟨ks,h3,_⟩:=Z.SS;o!⟨kvs,h4,_⟩:=Z.cls;intro m;unfold RA.M at m;simp only[List.mem_cons,List.not_mem_nil,or_false] at m;rcases m with rfl | rfl | rfl | rfl | rfl
 ·rw[Z.obj] at h;cases h
 ·rw[h1] at h;cases h
 ·rw[h2] at h;cases h
 ·rw[h3] at h;cases h
 ·rw[h4] at h;cases h
t! gG.same(Z:gG a R p most H s)(S:bc H H'):gG a R p most H' s:=by
 ~k:∀ b o,R.ok b->H b=some o->H' b=some o:=λb o _ e=>S b o e
 o!⟨ts,h1,k1⟩:=Z.Wi;o!⟨gs,h2,k2⟩:=Z.Sw;o!⟨ks,h3,k3⟩:=Z.SS;o!⟨kvs,h4,k4⟩:=Z.cls;e! ⟨S _ _ Z.obj,⟨ts,S _ _ h1,k1.imp λ_ _ h=>h.turn k bK⟩,⟨gs,S _ _ h2,k2.imp λ_ _ h=>h.turn k bK⟩,⟨ks,S _ _ h3,k3.imp λ_ _ h=>h.turn k bK⟩,⟨kvs,S _ _ h4,k4⟩,Z.QZ.turn k bK Z.SU,Z.SU,Z.Wj⟩
t! gG.Zf(Z:gG a R p most H s){ts:List Addr}{tasks:List Ap}(h:eG (Om a R.ok H) ts tasks):gG a R p most (upd H R.tl (.lst fP!)) ⟨tasks,s.given,s.acc,s.long⟩:=by
 o!⟨⟨n1,n2,n3,n4⟩,⟨n5,n6,n7⟩,⟨n8,n9⟩,n10⟩:=Z.ne;~k:=fG (R:=R) (H:=H) (aA.upd RA.P6 (H:=H) (o:=.lst fP!));o!⟨gs,h2,k2⟩:=Z.Sw;o!⟨ks,h3,k3⟩:=Z.SS;o!⟨kvs,h4,k4⟩:=Z.cls;e! ⟨by rw[ai n1];e! Z.obj,⟨ts,ae,h.imp λ_ _ h=>h.turn k bK⟩,⟨gs,by rw[ai (Ne.symm n5)];e! h2,k2.imp λ_ _ h=>h.turn k bK⟩,⟨ks,by rw[ai (Ne.symm n6)];e! h3,k3.imp λ_ _ h=>h.turn k bK⟩,⟨kvs,by rw[ai (Ne.symm n7)];e! h4,k4⟩,Z.QZ.turn k bK Z.SU,Z.SU,Z.Wj⟩
t! gG.setG(Z:gG a R p most H s){gs:List V}{given:List %aF}(h:eG dg! gs given):gG a R p most (upd H R.gl (.lst gs.reverse)) ⟨s.tasks,given,s.acc,s.long⟩:=by
 o!⟨⟨n1,n2,n3,n4⟩,⟨n5,n6,n7⟩,⟨n8,n9⟩,n10⟩:=Z.ne;~k:=fG (R:=R) (H:=H) (aA.upd RA.ET (H:=H) (o:=.lst gs.reverse));o!⟨ts,h1,k1⟩:=Z.Wi;o!⟨ks,h3,k3⟩:=Z.SS;o!⟨kvs,h4,k4⟩:=Z.cls;e! ⟨by rw[ai n2];e! Z.obj,⟨ts,by rw[ai n5];e! h1,k1.imp λ_ _ h=>h.turn k bK⟩,⟨gs,ae,h.imp λ_ _ h=>h.turn k bK⟩,⟨ks,by rw[ai dq!];e! h3,k3.imp λ_ _ h=>h.turn k bK⟩,⟨kvs,by rw[ai dp!];e! h4,k4⟩,Z.QZ.turn k bK Z.SU,Z.SU,Z.Wj⟩
t! gG.Yg(Z:gG a R p most H s)(n:Nat)(lg:Bool):gG a R p most (upd H R.r (.ins a.fD R.dx (ES R.nd most n eK! dJ! R.tl R.gl R.kl R.cd lg))) ⟨s.tasks,s.given,⟨n,s.acc.ticks,s.acc.calls⟩,lg⟩:=by
 o!⟨⟨n1,n2,n3,n4⟩,⟨n5,n6,n7⟩,⟨n8,n9⟩,n10⟩:=Z.ne;~k:=fG (R:=R) (H:=H) (aA.upd RA.LN (H:=H) (o:=.ins a.fD R.dx (ES R.nd most n eK! dJ! R.tl R.gl R.kl R.cd lg)));o!⟨ts,h1,k1⟩:=Z.Wi;o!⟨gs,h2,k2⟩:=Z.Sw;o!⟨ks,h3,k3⟩:=Z.SS;o!⟨kvs,h4,k4⟩:=Z.cls;e! ⟨ae,⟨ts,by rw[ai (Ne.symm n1)];e! h1,k1.imp λ_ _ h=>h.turn k bK⟩,⟨gs,by rw[ai (Ne.symm n2)];e! h2,k2.imp λ_ _ h=>h.turn k bK⟩,⟨ks,by rw[ai (Ne.symm n3)];e! h3,k3.imp λ_ _ h=>h.turn k bK⟩,⟨kvs,by rw[ai (Ne.symm n4)];e! h4,k4⟩,Z.QZ.turn k bK Z.SU,Z.SU,Z.Wj⟩
end
end Pay
namespace Pay
open PySem L2
open Vaamoa (isName ascii distinct Param Prog funAt typed paidBy peakBy peakFrom)
t! Sx(ts:List %bj)(t:%bj):paidBy (ts++[t])=paidBy ts+t.cost:=by
 unfold paidBy;rw[List.foldl_append];rfl
t! BC(t:%bj):∀ (ts:List %bj) (n m:Int),peakFrom n m (ts++[t])=max (peakFrom n m ts) (ts.foldl (λn t=>n+t.cost) n+t.cost)
 | [],n,m=>rfl
 | u::ts,n,m=>BC t ts (n+u.cost) (max m (n+u.cost))
t! Sy(ts:List %bj)(t:%bj):peakBy (ts++[t])=max (peakBy ts) (paidBy ts+t.cost):=BC t ts 0 0
section
variable {P:Program} {w:World} {K:PySem.W.Frag} {mg:Str->Option Value} {base:Heap} {a:Ad}
def oU(a:Ad)(bk:Bool):Sp:=λvs H Q _=>∃ (R:RA) (p:Prog) (most:Nat) (nd bd:Addr) (d:Nat) (e:Ex) (env:%bw) (s:nI),vs=[.ref R.r,.ref nd,.ref bd]/\gG a R p most H s/\aY a R.ok H e d nd/\GZ R.ok H bd env/\s.tasks.length<=9000 /\
 ∀ H',gG a R p most H' ⟨⟨e,env,bk⟩::s.tasks,s.given,s.acc,s.long⟩->aA R.M H H'->Q .fK H'
t! LO{R:RA}{p:Prog}{most:Nat}{nd bd q dq:Addr}{d:Nat}{e:Ex}{env:%bw}{s:nI}{H:Hp}{bk:Bool}{ts:List Addr}{Q:VK}(Z:gG a R p most H s)(N:aY a R.ok H e d nd)(E:GZ R.ok H bd env)(AT:eG (Om a R.ok H) ts s.tasks)
  (nq:H q=none) (ndq:H dq=none) (h:∀ H',gG a R p most H' ⟨⟨e,env,bk⟩::s.tasks,s.given,s.acc,s.long⟩->aA R.M H H'->Q .fK H') :
  Q .fK (upd (made H q dq a.jn eC!) R.tl (.lst (ts.reverse.map V.ref++[V.ref q]))):=by
 ~S:=bF (C:=a.jn) (f:=Bx [.ref nd,.ref bd,.bl bk]) nq ndq;~k:∀ b o,R.ok b->H b=some o->made H q dq a.jn eC! b=some o:=λb o _ e=>S b o e
 ~A2:eG (Om a R.ok (made H q dq a.jn eC!)) (q::ts) (⟨e,env,bk⟩::s.tasks):=⟨⟨dq,nd,bd,d,AJ,Z.free nq,N.turn k bK,E.turn k bK⟩,AT.imp λ_ _ h=>h.turn k bK⟩;~Z2:=(Z.same S).Zf A2;~el:((q::ts).reverse.map V.ref)=ts.reverse.map V.ref++[V.ref q]:=by simp
 rw[el] at Z2;e! h _ Z2 ((aA.of_same S).trans (aA.upd RA.P6))
t! iB(T:eo K mg a):FB! 3 a.bV a.bW aw! di!:=by
 ~GI:FB! 1 a.ml a.mm a7! (jQ a.jn 3 Bx):=QR T;r! T.Be.ok Iv ab! aa!
 ·o!⟨R,p,most,nd,bd,d,e,env,s,rfl,_⟩:=h;rfl
 o!⟨R,p,most,nd,bd,d,e,env,s,rfl,Z,N,B,l9,q⟩:=h;r! ⟨_,ah (aF (hG %ah %at %as cM ad! (aa (eI T.zu GI hr rfl T.Co T.zt .nil aM (aa (pv 1) (aa (pv 2) (aa Hy ag)))) ag))),?_⟩;o!⟨ts,ot,AT⟩:=Z.Wi;~lt:=AT.len;r! ⟨_,rfl,R.r,_,R.dx,_,_,rfl,Z.obj,T.aW,T.ib,rfl,.inl ⟨rfl,_,aX.of ot⟩,_,rfl,_,rfl,λx dx nx ndx ne=>?_⟩;r! ⟨x,dx,[_,_,_],rfl,rfl,ae,rfl,?_⟩;rw[aC];~S:=bF (C:=a.jn) (f:=Bx [.ref nd,.ref bd,.bl false]) nx ndx;r! ⟨R.tl,_,_,rfl,rfl,S _ _ ot,by rw[%ac,%bc,lt];e! %ai l9 ag!,?_⟩;e! LO (bk:=false) Z N B AT nx ndx q
t! yE(T:eo K mg a):FB! 3 a.dO a.dP aw! (oU a true):=by
 ~GI:FB! 1 a.ml a.mm a7! (jQ a.jn 3 Bx):=QR T;r! T.tj.ok AZ ab! aa!
 ·o!⟨R,p,most,nd,bd,d,e,env,s,rfl,_⟩:=h;rfl
 o!⟨R,p,most,nd,bd,d,e,env,s,rfl,Z,N,B,l9,q⟩:=h;r! ⟨_,ah (aF (hG %ah %at %as cM ad! (aa (eI T.zu GI hr rfl T.Co T.zt .nil aM (aa (pv 1) (aa (pv 2) (aa Hy ag)))) ag))),?_⟩;o!⟨ts,ot,AT⟩:=Z.Wi;~lt:=AT.len;r! ⟨_,rfl,R.r,_,R.dx,_,_,rfl,Z.obj,T.aW,T.ib,rfl,.inl ⟨rfl,_,aX.of ot⟩,_,rfl,_,rfl,λx dx nx ndx ne=>?_⟩;r! ⟨x,dx,[_,_,_],rfl,rfl,ae,rfl,?_⟩;rw[aC];~S:=bF (C:=a.jn) (f:=Bx [.ref nd,.ref bd,.bl true]) nx ndx;r! ⟨R.tl,_,_,rfl,rfl,S _ _ ot,by rw[%ac,%bc,lt];e! %ai l9 ag!,?_⟩;e! LO (bk:=true) Z N B AT nx ndx q
def W3(a:Ad):Sp:=λvs H Q _=>∃ (R:RA) (p:Prog) (most:Nat) (nd:Addr) (l d:Nat) (x:Text) (k:Int) (ns:List Text) (qs:List Addr) (s:nI),vs=[.ref R.r,.ref nd]/\gG a R p most H s/\eF a R.ok H nd l d x k ns qs/\s.acc.ticks.length<=9000 /\
 ∀ H',gG a R p most H' ⟨s.tasks,s.given,{s.acc with ticks:=s.acc.ticks++[⟨l,k⟩]},s.long⟩->aA R.M H H'->Q .fK H'
t! Yh(T:eo K mg a):FB! 1 a.vV a.vW ek! (W3 a):=by
 r! T.Lk.ok Pa ab! aa!
 ·o!⟨R,p,most,nd,l,d,x,k,ns,qs,s,rfl,_⟩:=h;rfl
 o!⟨R,p,most,nd,l,d,x,k,ns,qs,s,rfl,Z,N,l9,q⟩:=h;r! ⟨_,af (rN (pv 0) as! DW)
  (af (bf (pv 0) (aR (Ks rfl) rfl T.Ly PyProof.Rows.boot_max (aa ad! eF!)) rfl)
  (ah (aF (hG %ah %at %as cM ad! (aa (Xv (aa as! eh!)) ag))))),?_⟩
 o!⟨dn,nm,pt,⟨sa,ea,oN⟩,onm,opt,kY,ok2,ok3⟩:=N;~rn:nd≠R.r:=λz=>kY (by rw[z];e! RA.LN)
 o!⟨ks,ok,AK⟩:=Z.SS;o!⟨⟨n1,n2,n3,n4⟩,⟨n5,n6,n7⟩,⟨n8,n9⟩,n10⟩:=Z.ne;r! ⟨_,rfl,R.r,_,R.dx,_,_,rfl,Z.obj,T.aW,T.iu,rfl,_,rfl,nd,_,dn,_,_,rfl,oN,T.aG,T.dY,rfl,_,_,rfl,rfl,R.dx,_,Z.obj,by show 10 < 1000;decide,?_⟩;r! ⟨_,rfl,R.r,_,R.dx,_,_,rfl,ae,T.aW,T.iw,rfl,_,rfl,R.r,_,R.dx,_,_,rfl,ae,T.aW,T.iu,rfl,_,_,rfl,?_⟩;r! ⟨_,rfl,R.r,_,R.dx,_,rfl,ae,T.aW,T.iw,by show 10 < 1000;decide,?_⟩;rw[aC];~ef:nL "peak" (V.int (if paidBy s.acc.ticks+k > peakBy s.acc.ticks then paidBy s.acc.ticks+k else peakBy s.acc.ticks)) (nL "paid" (V.int (paidBy s.acc.ticks+k)) (ES R.nd most s.acc.steps eK! dJ! R.tl R.gl R.kl R.cd s.long))=ES R.nd most s.acc.steps (paidBy b7!) (peakBy b7!) R.tl R.gl R.kl R.cd s.long:=by
  rw[Sx,Sy];~em:(if paidBy s.acc.ticks+k > peakBy s.acc.ticks then paidBy s.acc.ticks+k else peakBy s.acc.ticks)=max dJ! (paidBy s.acc.ticks+k):=by
   split<;>w!
  rw[em];rfl
 rw[ef];generalize hH2:upd H R.r (.ins a.fD R.dx (ES R.nd most s.acc.steps (paidBy b7!) (peakBy b7!) R.tl R.gl R.kl R.cd s.long))=H2;~o2:H2 R.r=some (.ins a.fD R.dx (ES R.nd most s.acc.steps (paidBy b7!) (peakBy b7!) R.tl R.gl R.kl R.cd s.long)):=by rw[←hH2];e! ae
 ~ok2:H2 R.kl=some cU!:=by rw[←hH2,ai (Ne.symm n3)];e! ok
 ~oN2:H2 nd=some (.ins a.bu dn (DB l d sa ea ap! k nm pt)):=by rw[←hH2,ai rn];e! oN
 r! ⟨_,rfl,R.r,_,R.dx,_,_,rfl,o2,T.aW,T.ie,rfl,.inl ⟨rfl,_,aX.of ok2⟩,_,rfl,nd,_,dn,_,_,rfl,oN2,T.aG,T.eY,rfl,_,rfl,nd,_,dn,_,_,rfl,oN2,T.aG,T.dY,rfl,by show 2<=sizeLine;decide,λtp ntp=>?_⟩;~lk:=AK.len;~S3:=ay ntp d5!;r! ⟨R.kl,_,_,rfl,rfl,S3 _ _ ok2,by rw[%ac,lk];e! %ai l9 ag!,?_⟩;~K2:aA R.M H H2:=by rw[←hH2];e! aA.upd RA.LN
 ~K3:aA R.M H (upd H2 tp d5!):=K2.same S3;generalize hH3:upd H2 tp d5!=H3 at *;~otp:H3 tp=some d5!:=by rw[←hH3];e! ae
 ~K4:aA R.M H3 (upd H3 R.kl (.lst (ks.map V.ref++[V.ref tp]))):=aA.upd RA.UL;~K14:=K3.trans K4;~k:=fG K14;~ntH:H tp=none:=K2.none ntp;~ktp:R.ok tp:=Z.free ntH;~ep:∀ {b:Addr} {o:HO},H b=some o->b≠R.r->b≠R.kl->upd H3 R.kl (.lst (ks.map V.ref++[V.ref tp])) b=some o:=λ{b o} e n1 n2=>by
  rw[ai n2];e! S3 b o (by rw[←hH2,ai n1];e! e)
 o!⟨ts,h1,k1⟩:=Z.Wi;o!⟨gs,h2,k2⟩:=Z.Sw;o!⟨kvs,h4,k4⟩:=Z.cls;r! q _ ⟨by rw[ai n3];e! S3 _ _ o2,⟨ts,ep h1 (Ne.symm n1) n6,k1.imp λ_ _ h=>h.turn k bK⟩,⟨gs,ep h2 (Ne.symm n2) n8,k2.imp λ_ _ h=>h.turn k bK⟩,⟨ks++[tp],by rw[ae];simp,(AK.imp λ_ _ h=>h.turn k bK).app ⟨⟨?_,ktp⟩,trivial⟩⟩,⟨kvs,ep h4 (Ne.symm n4) (Ne.symm n10),k4⟩,Z.QZ.turn k bK Z.SU,Z.SU,Z.Wj⟩ K14;rw[ai λz=>ktp (by rw[z];e! RA.UL)];e! otp
def UM(a:Ad):Sp:=λvs H Q _=>∃ (R:RA) (p:Prog) (most:Nat) (x:Text) (s:nI),vs=[.ref R.r,.str ap!]/\gG a R p most H s/\s.acc.calls.length<=9000 /\
 ∀ H',gG a R p most H' ⟨s.tasks,s.given,{s.acc with calls:=s.acc.calls++[x]},s.long⟩->aA R.M H H'->Q .fK H'
t! MP(T:eo K mg a):FB! 1 a.iJ a.iK el! (UM a):=by
 r! T.yk.ok D8 ab! aa!
 ·o!⟨R,p,most,x,s,rfl,_⟩:=h;rfl
 o!⟨R,p,most,x,s,rfl,Z,l9,q⟩:=h;~hu:=nN hr;r! ⟨_,ah (kW hu ad! (pv 1) (OC (Np hu ad! (pv 1) aI ⟨rfl,rfl,rfl,rfl⟩) aI) rfl),?_⟩;o!⟨kvs,oc,lc,vc⟩:=Z.cls;~gd:nP H R.cd f4! (cA kvs a4!):=nP.k (k:=%aO ap!) oc;r! ⟨_,rfl,R.r,_,R.dx,_,_,rfl,Z.obj,T.aW,T.cR,rfl,R.cd,rfl,.inl ⟨kvs,.inl oc⟩,_,rfl,_,gd,((s.acc.calls.countP λy=>y == x:Nat):Int),1,?_,rfl,?_⟩
 ·rw[vc];unfold Wh;split
  ·rename_i c
   rw[c];rfl
  ·rfl
 r! ⟨_,rfl,R.r,_,R.dx,_,_,rfl,Z.obj,T.aW,T.cR,rfl,_,rfl,R.cd,_,rfl,AW.k (k:=%aO ap!) oc (%ai (%aj lc l9) ag!),?_⟩;o!⟨⟨n1,n2,n3,n4⟩,⟨n5,n6,n7⟩,⟨n8,n9⟩,n10⟩:=Z.ne;~KK:aA R.M H (upd H R.cd (.dK (putK kvs a4! (V.int (((s.acc.calls.countP λy=>y == x:Nat):Int)+1))))):=aA.upd RA.Yf;~k:=fG KK;o!⟨ts,h1,k1⟩:=Z.Wi;o!⟨gs,h2,k2⟩:=Z.Sw;o!⟨ks,h3,k3⟩:=Z.SS;r! q _ ⟨by rw[ai n4];e! Z.obj,⟨ts,by rw[ai n7];e! h1,k1.imp λ_ _ h=>h.turn k bK⟩,⟨gs,by rw[ai n9];e! h2,k2.imp λ_ _ h=>h.turn k bK⟩,⟨ks,by rw[ai n10];e! h3,k3.imp λ_ _ h=>h.turn k bK⟩,⟨_,ae,?_,λy=>?_⟩,Z.QZ.turn k bK Z.SU,Z.SU,Z.Wj⟩ KK
 ·have:=cT kvs (%aO ap!:Key) (V.int (((s.acc.calls.countP λy=>y == x:Nat):Int)+1));simp only[List.length_append,List.length_singleton];w!
 ·rw[j1,vc];simp only[List.countP_append,List.countP_singleton];by_cases c:y=x
  ·subst c;rw[if_pos rfl];unfold Wh;simp
  ·rw[n! λe=>c (LJ.mp e)];have:(x == y)=false:=beq_eq_false_iff_ne.mpr (Ne.symm c);simp[this]
end
end Pay
namespace Pay
open PySem L2
open Vaamoa (isName ascii distinct Param Prog funAt typed paidBy peakBy kindIn lookup listIn)
def G0(ok:Addr->Prop)(H:Hp)(kvs:List (Key×V))(env:%bw):Prop:=∀ x z,(env.find? λz=>z.name == x)=some z->∃ v,cA kvs a4!=some v/\mC ok H z.value v
t! G0.put{ok:Addr->Prop}{H:Hp}{kvs:List (Key×V)}{env:%bw}(h:G0 ok H kvs env){y:Text}{v:%aF}{u:V}(hv:mC ok H v u):G0 ok H (putK kvs (.inr bX!) u) (⟨y,v⟩::env):=λx z hz=>by
 rw[%by] at hz;rw[j1];by_cases c:y=x
 ·subst c;simp only[beq_self_eq_true] at hz;cases hz;e! ⟨u,by rw[if_pos rfl],hv⟩
 ·have:(y == x)=false:=beq_eq_false_iff_ne.mpr c;simp only[this] at hz;rw[n! λe=>c (LJ.mp e).symm];e! h x z hz
t! G0.swap{ok:Addr->Prop}{H:Hp}{kvs:List (Key×V)}{env:%bw}{y z:Text}{v u:%aF}(ne:y≠z)(h:G0 ok H kvs (⟨z,u⟩::⟨y,v⟩::env)):G0 ok H kvs (⟨y,v⟩::⟨z,u⟩::env):=λx b hb=>by
 r! h x b ?_;rw[←hb];simp only[List.find?_cons];by_cases c:z=x
 ·subst c;have:(y == z)=false:=beq_eq_false_iff_ne.mpr ne;simp[this]
 ·have:(z == x)=false:=beq_eq_false_iff_ne.mpr c;simp[this]
t! G0.turn{ok ok':Addr->Prop}{H H':Hp}(k:∀ b o,ok b->H b=some o->H' b=some o)(m:∀ b,ok b->ok' b){kvs:List (Key×V)}{env:%bw}(h:G0 ok H kvs env):G0 ok' H' kvs env:=λx z hz=>let ⟨v,e1,e2⟩:=h x z hz;⟨v,e1,e2.turn k m⟩
structure Big (s:nI) (env:Vaamoa.Env):Prop where
 tk:s.tasks.length<=8000
 gv:s.given.length<=8000
 ti:s.acc.ticks.length<=8000
 ca:s.acc.calls.length<=8000
 ev:env.length<=8000
section
variable {P:Program} {w:World} {K:PySem.W.Frag} {mg:Str->Option Value} {base:Heap} {a:Ad}
def P8(a:Ad):Sp:=λvs H Q _=>∃ (ok:Addr->Prop) (nd bd:Addr) (l d:Nat) (wd:Text) (i:Int) (x y z:Text) (qs:List Addr) (env:%bw) (v1 v2:%aF) (u1 u2:V),vs=[.ref nd,u1,u2,.ref bd]/\eF a ok H nd l d wd i [x,y,z] qs/\GZ ok H bd env/\mC ok H v1 u1/\mC ok H v2 u2/\env.length<=8000/\y≠z /\
 ∀ H' b,bc H H'->H b=none->(ok b->GZ ok H' b (⟨y,v1⟩::⟨z,v2⟩::env))->Q (.ref b) H'
t! qj(T:eo K mg a):FB! 1 a.du a.dv bv! (P8 a):=by
 r! T.gK.ok pQ ab! aa!
 ·o!⟨ok,nd,bd,l,d,wd,i,x,y,z,qs,env,v1,v2,u1,u2,rfl,_⟩:=h;rfl
 o!⟨ok,nd,bd,l,d,wd,i,x,y,z,qs,env,v1,v2,u1,u2,rfl,N,B,h1,h2,le,ne,q⟩:=h;~hu:=nN hr;r! ⟨_,af (aE (i:=4) pQ.nd rfl al! (gL sk rfl T.zL %bM bZ!))
  (af (kW hu (pv 4) aR! (pv 1) rfl)
  (af (kW hu (pv 4) aR! (pv 2) rfl)
  (ah (aH (pv 4))))),?_⟩
 o!⟨dx,nm,pt,⟨sa,ea,oN⟩,onm,opt,_⟩:=N;o!⟨kb,kvs,ob,lb,vb⟩:=B;r! ⟨_,rfl,bd,kvs,rfl,.inl ob,λb nb=>?_⟩;~S1:=ay nb aQ!;~l2:=cT kvs (%aO bX!:Key) u1;~l3:=cT (putK kvs (%aO bX!:Key) u1) (%aO (strOf z):Key) u2;r! ⟨_,rfl,_,rfl,_,rfl,nd,_,dx,_,_,rfl,S1 _ _ oN,T.aG,T.aP,rfl,nm,_,1,_,rfl,rfl,aX.of (S1 _ _ onm),rfl,b,_,rfl,AW.k (k:=%aO bX!) ae (%ai (%aj lb le) ag!),?_⟩;rw[aC];~S2:=ay nb (.dK (putK kvs (.inr bX!) u1));r! ⟨_,rfl,_,rfl,_,rfl,nd,_,dx,_,_,rfl,S2 _ _ oN,T.aG,T.aP,rfl,nm,_,2,_,rfl,rfl,aX.of (S2 _ _ onm),rfl,b,_,rfl,AW.k (k:=%aO (strOf z)) ae (%ai (%aj l2 (%bX (%aj lb le))) ag!),?_⟩;rw[aC];~S3:=ay nb (.dK (putK (putK kvs (.inr bX!) u1) (.inr (strOf z)) u2));r! ⟨_,rfl,q _ b S3 nb λkb=>⟨kb,_,ae,by simp only[List.length_cons];w!,?_⟩⟩;~V0:G0 ok H kvs env:=vb;e! ((V0.put h1).put h2).swap ne |>.turn (λb o _ e=>S3 b o e) bK
def EU(a:Ad):Sp:=λvs H Q _=>∃ (ok:Addr->Prop) (fp:Addr) (f:%aQ) (vl:Addr) (us:List V) (ws:List %aF),vs=[.ref fp,.ref vl]/\mz a ok H fp f/\H vl=some (.lst us)/\eG (λv x=>mC ok H x v) us ws/\ws.length=f.params.length/\f.params.length<=2 /\
 distinct e4!=true/\∀ H' b,bc H H'->H b=none->(ok b->GZ ok H' b (%ca f ws))->Q (.ref b) H'
t! UN{f:%aQ}{ws:List %aF}{i:Nat}{q:Param}{v:%aF}(h1:f.params[i]?=some q)(h2:ws[i]?=some v):(%ca f ws)[i]?=some ⟨q.name,v⟩:=by
 unfold Vaamoa.bound;rw[%al,show (f.params.zip ws)[i]?=some (q,v) from List.getElem?_zip_eq_some.mpr ⟨h1,h2⟩];rfl
t! SD{f:%aQ}{ws:List %aF}{i:Nat}{q:Param}(nd:distinct e4!=true)(h1:f.params[i]?=some q):((%ca f ws).take i).find? (λz=>z.name == q.name)=none:=by
 rw[List.find?_eq_none];intro b hb z;o!⟨j,hj,ej⟩:=%bu hb;~hj2:j < (%ca f ws).length:=by w!
 ~e1:(Vaamoa.bound f ws)[j]?=some b:=by rw[%aW hj2,ej]
 unfold Vaamoa.bound at e1;rw[%al] at e1;o!⟨pr,e2,e3⟩:=%ab e1;o!⟨e4,_⟩:=List.getElem?_zip_eq_some.mp e2;~n:=rK.mp nd;o!⟨hi,ei⟩:=%ae h1;o!⟨hj',ej'⟩:=%ae e4;have:=(List.getElem_inj (xs:=f.params.map λf=>f.name) (i:=j) (j:=i) (h₀:=by simpa using hj') (h₁:=by simpa using hi) n).mp (by
  simp only[List.getElem_map];rw[ei,ej'];rw[←e3] at z;simpa using z)
 w!
t! Gf(T:eo K mg a):FB! 1 a.nZ a.oa cT! (EU a):=by
 r! T.xr.ok ue ab! aa!
 ·o!⟨ok,fp,f,vl,us,ws,rfl,_⟩:=h;rfl
 o!⟨ok,fp,f,vl,us,ws,rfl,F,ovl,AV,lw,l2,nd,q⟩:=h;~hu:=nN hr;r! ⟨_,af (aE (i:=2) ue.nd rfl al! j3)
  (af (lJ PassesOwn.never rfl (OO rfl T.Lz (aa ad! aF!)) (OD rfl (vM (cb (i:=3) ue.nd rfl al!) (vM (cb (i:=4) ue.nd rfl al!) L3)))
   (ah (kW hu (pv 2) ca! (pv 4) rfl)))
  (ah gf!)),?_⟩
 o!⟨dx,pl,ps,bp,oF,opl,AP,_⟩:=F.ex;~lp:=AP.len;~lv:=AV.len;intro b nb;~S0:=ay nb (.dK []);r! ⟨_,rfl,fp,_,dx,_,_,rfl,S0 _ _ oF,T.bw,T.bb,rfl,_,rfl,pl,vl,_,_,rfl,aX.of (S0 _ _ opl),aX.of (S0 _ _ ovl),?_⟩;~lb:(Vaamoa.bound f ws).length=f.params.length:=by unfold Vaamoa.bound;simp;w!
 r! QY (K:=K) (a:=pl) (b:=vl) (xs:=ps.map V.ref) (ys:=us) b9!
  (λi σ H'=>∃ (kvs:List (Key×V)) (w1 w2:Option V),σ=[some (.ref fp),some (.ref vl),some (.ref b),w1,w2]/\H' b=some aQ!/\bc H H'/\kvs.length<=i/\i<=ps.length/\G0 ok H kvs ((%ca f ws).take i))
  ⟨[],none,none,rfl,ae,S0,Nat.le_refl _,Nat.zero_le _,λx z hz=>by simp at hz⟩ (λi σ H' ⟨_,_,_,_,_,S,_⟩=>⟨aX.of (S _ _ opl),aX.of (S _ _ ovl)⟩) ?_ ?_
 ·rintro i x y Tp σ H' hx hy ⟨kvs,w1,w2,rfl,oB,S,lk,_,EV⟩ nT;rw[%al] at hx;o!⟨pa,ek,rfl⟩:=%ab hx;o!⟨pq,epq,⟨dq,oq⟩,_⟩:=AP.at ek;o!⟨v,ev,hv⟩:=AV.at hy;~hi:i < ps.length:=(%ae ek).1;~S1:=ay nT (.tup [.ref pa,y]);r! ⟨Tp,_,rfl,JQ.of ae,rfl,_,_,rfl,_,_,rfl,rfl,?_⟩;r! ⟨_,rfl,_,rfl,_,rfl,pa,_,dq,_,_,rfl,S1 _ _ (S _ _ oq),T.fe,T.dU,rfl,b,_,rfl,AW.k (k:=%aO (strOf pq.name)) (S1 _ _ oB) (%ai (%aj lk (by w!:i<=2)) ag!),?_⟩;r! ⟨_,_,_,rfl,ae,λc o e=>?_,%aj (cT _ _ _) (%bX lk),hi,λx z hz=>?_⟩
  ·rw[ai (aq e nb)];e! S1 _ _ (S c o e)
  ·rw[%ay,UN epq ev,List.find?_append] at hz;rw[j1];by_cases c:pq.name=x
   ·subst c;rw[SD nd epq] at hz;simp at hz;subst hz;e! ⟨y,by rw[if_pos rfl],hv⟩
   ·rw[n! λe=>c (LJ.mp e).symm];have:(pq.name == x)=false:=beq_eq_false_iff_ne.mpr c;simp[this] at hz;e! EV x z hz
 ·rintro σ H' ⟨kvs,w1,w2,rfl,oB,S,lk,_,EV⟩;~eT:(Vaamoa.bound f ws).take (ps.map V.ref).length=Vaamoa.bound f ws:=%aC b9!;rw[eT] at EV;rw[%ac] at lk;e! ⟨_,rfl,q H' b S nb λkb=>⟨kb,kvs,oB,by w!,EV.turn bP! bK⟩⟩
end
end Pay
namespace Pay
open PySem L2
open Vaamoa (isName ascii distinct Param Prog funAt typed paidBy peakBy kindIn lookup listIn)
t! Wk{K:%ag}{a:Addr}{xs:List V}{g:TG}{tb:TS}{D:Ends}{σ:St}{H:Hp}(Pv:Nat->St->Hp->Prop)(h0:Pv 0 σ H)(hl:∀ i σ H,Pv i σ H->aX K H a xs)
  (hs:∀ (i:Nat) (x:V) (σ:St) (H:Hp),i < xs.length->xs[xs.length - 1 - i]?=some x->Pv i σ H->g x σ H fun σ2 H2=>tb {D with nx:=Pv (i+1),ct:=Pv (i+1),bk:=D.nx} σ2 H2) (hd:∀ σ H,Pv xs.length σ H->D.nx σ H) :
  ∃ W:Nat->Nat->St->Hp->Prop,ec!/\∀ i m σ H,W i m σ H ->
   ((YZ K a xs.length).stop i H/\D.nx σ H)∨((YZ K a xs.length).go i H/\∃ N:St->Hp->Prop,aK!/\∀ v H',(YZ K a xs.length).Tb i H v H'->g v σ H' fun σ2 H2=>tb {D with nx:=N,ct:=N,bk:=D.nx} σ2 H2):=by
 r! ⟨λi m σ H=>m=xs.length - i/\i<=xs.length/\Pv i σ H,⟨xs.length,by simp,Nat.zero_le _,h0⟩,?_⟩;rintro i m σ H ⟨rfl,hi,p⟩;~q:=hl i σ H p;by_cases hlt:i < xs.length
 ·r! .inr ⟨?_,Pv (i+1),fun σ' H' p'=>⟨xs.length - (i+1),by w!,rfl,hlt,p'⟩,λv H' y=>?_⟩
  ·e! ⟨hlt,xs,xs[xs.length - 1 - i],q,by simp[show xs.length - 1 - i < xs.length by w!]⟩
  ·o!⟨rfl,ex⟩:=y;e! hs i v σ _ hlt (ex xs q) p
 ·~e:i=xs.length:=by w!
  subst e;e! .inl ⟨%am _,hd σ H p⟩
section
variable {P:Program} {w:World} {K:PySem.W.Frag} {mg:Str->Option Value} {base:Heap} {a:Ad}
structure Zg (a:Ad) (R:RA) (p:Prog) (most:Nat) (H:Hp) (nd bd:Addr) (d:Nat) (e:Ex) (env:Vaamoa.Env) (t:Vaamoa.Typed) (s:nI):Prop where
 run:gG a R p most H s
 lg:s.long=false
 node:aY a R.ok H e d nd
 P9:GZ R.ok H bd env
 ty:typed p (ja env) e=some t
 big:Big s env
def DM(a:Ad)(W:Ex->Prop):Sp:=λvs H Q _=>∃ (R:RA) (p:Prog) (most:Nat) (nd bd:Addr) (d:Nat) (e:Ex) (env:%bw) (t:Vaamoa.Typed) (s:nI),vs=[.ref R.r,.ref nd,.ref bd]/\Zg a R p most H nd bd d e env t s/\W e /\
 ∀ H',gG a R p most H' (mi s.tasks s.given env s.acc e)->aA R.M H H'->Q .fK H'
t! r8{R:RA}{p:Prog}{most:Nat}{H:Hp}{s:nI}{gs:List V}{v:%aF}{u:V}{Q:Hp->Prop}(Z:gG a R p most H s)(AG:eG dg! gs s.given)(hv:mC R.ok H v u)
  (q:∀ H',gG a R p most H' ⟨s.tasks,v::s.given,s.acc,s.long⟩->aA R.M H H'->Q H'):Q (upd H R.gl (.lst (gs.reverse++[u]))):=by
 ~Z2:=Z.setG (gs:=u::gs) (given:=v::s.given) ⟨hv,AG⟩;rw[List.reverse_cons] at Z2;e! q _ Z2 (aA.upd RA.ET)
t! G1(T:eo K mg a):FB! 1 a.ft a.mL ae! (DM a λe=>∃ l n,e=.num l n):=by
 r! T.tq.ok Gw ab! aa!
 ·o!⟨R,p,most,nd,bd,d,e,env,t,s,rfl,_⟩:=h;rfl
 o!⟨R,p,most,nd,bd,d,e,env,t,s,rfl,I,⟨l,n,rfl⟩,q⟩:=h;r! ⟨_,ah (aF (hG %ah %at %as cM ad! eh!)),?_⟩;~Z:=I.run;o!⟨dx,nm,pt,⟨sa,ea,oN⟩,_⟩:=I.node;o!⟨gs,og,AG⟩:=Z.Sw;~lg:=AG.len;~lb:=I.big.gv;r! ⟨_,rfl,R.r,_,R.dx,_,_,rfl,Z.obj,T.aW,T.bo,rfl,.inl ⟨rfl,_,aX.of og⟩,_,rfl,nd,_,dx,_,_,rfl,oN,T.aG,T.dY,rfl,R.gl,_,_,rfl,rfl,og,by rw[%bc,lg];e! %ai lb ag!,?_⟩;e! r8 (v:=.num n) (Q:=λH'=>Q .fK H') Z AG rfl λH' Z' k'=>q H' (by rw[I.lg] at Z';e! Z') k'
t! MQ(T:eo K mg a):FB! 1 a.mn a.ug ae! (DM a λe=>∃ l,e=.nil l):=by
 r! T.zw.ok Mp ab! aa!
 ·o!⟨R,p,most,nd,bd,d,e,env,t,s,rfl,_⟩:=h;rfl
 o!⟨R,p,most,nd,bd,d,e,env,t,s,rfl,I,⟨l,rfl⟩,q⟩:=h;r! ⟨_,ah (aF (hG %ah %at %as cM ad! (aa (cz ag) ag))),?_⟩;~Z:=I.run;o!⟨gs,og,AG⟩:=Z.Sw;~lg:=AG.len;~lb:=I.big.gv;r! ⟨_,rfl,R.r,_,R.dx,_,_,rfl,Z.obj,T.aW,T.bo,rfl,.inl ⟨rfl,_,aX.of og⟩,%aE _,λl1 nl=>?_⟩;~S:=ay nl aL!;r! ⟨R.gl,_,_,rfl,rfl,S _ _ og,by rw[%bc,lg];e! %ai lb ag!,?_⟩;~k:∀ b o,R.ok b->H b=some o->upd H l1 aL! b=some o:=λb o _ e=>S b o e
 e! r8 (v:=.list []) (Q:=λH'=>Q .fK H') (Z.same S) (AG.imp λ_ _ h=>h.turn k bK) ⟨l1,rfl,Z.free nl,ae⟩ λH' Z' k'=>q H' (by rw[I.lg] at Z';e! Z') ((aA.of_same S).trans k')
t! MR{ok:Addr->Prop}{H:Hp}{bd:Addr}{env:%bw}{x:Text}{k:%aP}(B:GZ ok H bd env)(h:kindIn (ja env) x=some k):∃ u,nP H bd f4! (some u)/\mC ok H dw! u/\cP dw!=k:=by
 o!⟨b,h1,h2,h3⟩:=pP h;o!⟨_,kvs,ob,_,vb⟩:=B;o!⟨u,e1,e2⟩:=vb x b h1;r! ⟨u,?_,by rw[h2];e! e2,by rw[h2];e! h3⟩;rw[←e1];e! nP.k (k:=%aO ap!) ob
t! Kg(T:eo K mg a):FB! 1 a.jv a.rj ae! (DM a λe=>∃ l x,e=.var l x):=by
 r! T.xt.ok J4 ab! aa!
 ·o!⟨R,p,most,nd,bd,d,e,env,t,s,rfl,_⟩:=h;rfl
 o!⟨R,p,most,nd,bd,d,e,env,t,s,rfl,I,⟨l,x,rfl⟩,q⟩:=h;~hu:=nN hr;r! ⟨_,ah (aF (hG %ah %at %as cM ad! (aa fN! ag))),?_⟩;~Z:=I.run;o!⟨dx,nm,pt,⟨sa,ea,oN⟩,onm,_⟩:=I.node;o!⟨gs,og,AG⟩:=Z.Sw;~lg:=AG.len;~lb:=I.big.gv;~ht:=I.ty;unfold typed at ht;o!⟨kx,h1,h2⟩:=%ab ht;o!⟨u,gd,hv,_⟩:=MR I.P9 h1;r! ⟨_,rfl,R.r,_,R.dx,_,_,rfl,Z.obj,T.aW,T.bo,rfl,.inl ⟨rfl,_,aX.of og⟩,_,rfl,_,rfl,nd,_,dx,_,_,rfl,oN,T.aG,T.aP,rfl,nm,_,0,_,rfl,rfl,aX.of onm,rfl,bd,u,rfl,gd,R.gl,_,_,rfl,rfl,og,by rw[%bc,lg];e! %ai lb ag!,?_⟩;e! r8 (Q:=λH'=>Q .fK H') Z AG hv λH' Z' k'=>q H' (by rw[I.lg] at Z';e! Z') k'
def partsOf:Ex->List Ex
 | .cons _ x y=>[x,y]
 | .add _ x y=>[x,y]
 | .sub _ x y=>[x,y]
 | .call1 _ _ x=>[x]
 | .call2 _ _ x y=>[x,y]
 | .ifz _ c x y=>[c,x,y]
 | .letE _ _ x y=>[x,y]
 | .case _ _ x _ _ y=>[x,y]
 | .tick _ _ x=>[x]
 | .share _ _ _ _ x=>[x]
 | _=>[]
def namesOf:Ex->List Text
 | .var _ x=>[x]
 | .call1 _ u _=>[u]
 | .call2 _ u _ _=>[u]
 | .letE _ x _ _=>[x]
 | .case _ x _ h t _=>[x,h,t]
 | .share _ x y z _=>[x,y,z]
 | _=>[]
def wordOf:Ex->Text
 | .num _ _=>ascii "number"
 | .var _ _=>ascii "name"
 | .nil _=>ascii "nil"
 | .cons _ _ _=>ascii "cons"
 | .add _ _ _=>ascii "add"
 | .sub _ _ _=>ascii "sub"
 | .ifz _ _ _ _=>ascii "if"
 | .case _ _ _ _ _ _=>ascii "case"
 | .letE _ _ _ _=>ascii "let"
 | .call1 _ _ _=>ascii "call"
 | .call2 _ _ _ _=>ascii "call"
 | .tick _ _ _=>ascii "tick"
 | .share _ _ _ _ _=>ascii "share"
def numOf:Ex->Int
 | .num _ n=>n
 | .tick _ k _=>k
 | _=>0
t! gH{ok:Addr->Prop}{H:Hp}:∀ {e:Ex} {d:Nat} {p:Addr},aY a ok H e d p->∃ qs,eF a ok H p (Vaamoa.labelOf e) d (wordOf e) (numOf e) (namesOf e) qs/\eG (λq e'=>aY a ok H e' (d+1) q) qs (partsOf e):=by
 intro e d p h;cases e with
 | num l n=>e! ⟨[],h,trivial⟩
 | var l x=>e! ⟨[],h,trivial⟩
 | nil l=>e! ⟨[],h,trivial⟩
 | cons l x y=>obtain ⟨q1,q2,o,h1,h2⟩:=h;e! ⟨[q1,q2],o,h1,h2,trivial⟩
 | add l x y=>obtain ⟨q1,q2,o,h1,h2⟩:=h;e! ⟨[q1,q2],o,h1,h2,trivial⟩
 | sub l x y=>obtain ⟨q1,q2,o,h1,h2⟩:=h;e! ⟨[q1,q2],o,h1,h2,trivial⟩
 | ifz l c x y=>obtain ⟨q1,q2,q3,o,h1,h2,h3⟩:=h;e! ⟨[q1,q2,q3],o,h1,h2,h3,trivial⟩
 | case l x c y z g=>obtain ⟨q1,q2,o,h1,h2⟩:=h;e! ⟨[q1,q2],o,h1,h2,trivial⟩
 | letE l x c y=>obtain ⟨q1,q2,o,h1,h2⟩:=h;e! ⟨[q1,q2],o,h1,h2,trivial⟩
 | call1 l g x=>obtain ⟨q1,o,h1⟩:=h;e! ⟨[q1],o,h1,trivial⟩
 | call2 l g x y=>obtain ⟨q1,q2,o,h1,h2⟩:=h;e! ⟨[q1,q2],o,h1,h2,trivial⟩
 | tick l k x=>obtain ⟨q1,o,h1⟩:=h;e! ⟨[q1],o,h1,trivial⟩
 | share l x y z c=>obtain ⟨q1,o,h1⟩:=h;e! ⟨[q1],o,h1,trivial⟩
def hasParts(e:Ex):Prop:=(∃ l x y,e=.cons l x y)∨(∃ l x y,e=.add l x y)∨(∃ l x y,e=.sub l x y)∨(∃ l u x,e=.call1 l u x)∨∃ l u x y,e=.call2 l u x y
t! SE{e:Ex}(h:hasParts e)(rest:List Ap)(g:List %aF)(env:%bw)(c:Vaamoa.Acc):mi rest g env c e=⟨(partsOf e).map (λx=>dG x env)++KU e env::rest,g,c,false⟩:=by
 rcases h with ⟨l,x,y,rfl⟩ | ⟨l,x,y,rfl⟩ | ⟨l,x,y,rfl⟩ | ⟨l,u,x,rfl⟩ | ⟨l,u,x,y,rfl⟩<;>rfl
t! LP(e:Ex):(partsOf e).length<=3:=by cases e<;>simp[partsOf]
t! jq(T:eo K mg a):FB! 4 a.cp a.pk ae! (DM a hasParts):=by
 ~GB:FB! 3 a.dO a.dP aw! (oU a true):=yE T;~GC:FB! 3 a.bV a.bW aw! di!:=iB T;r! T.gD.ok yZ ab! aa!
 ·o!⟨R,p,most,nd,bd,d,e,env,t,s,rfl,_⟩:=h;rfl
 o!⟨R,p,most,nd,bd,d,e,env,t,s,rfl,I,hp,q⟩:=h;r! ⟨_,af (aF (bH (pv 0) T.aW T.lX GB hr T.lW .nil aM bc!))
  (ah (lJ PassesOwn.never rfl (Nq rfl T.xP eh!) (cb (i:=3) yZ.nd rfl al!)
   (ah (aF (bH (pv 0) T.aW T.cv GC hr T.cu .nil aM (aa (pv 3) au!)))))),?_⟩
 ~Z:=I.run;~lt:=I.big.tk;o!⟨qs,NO,AP⟩:=gH I.node;~lq:=AP.len;~l3:=LP e;r! ⟨_,rfl,R.r,R.dx,_,rfl,Z.obj,rfl,_,rfl,_,rfl,R,p,most,nd,bd,d,e,env,s,rfl,Z,I.node,I.P9,by w!,λH1 Z1 k1=>?_⟩;~NO1:=NO.turn (fG k1) bK;o!⟨dx,nm,pt,⟨sa,ea,oN⟩,onm,opt,_,_,okp⟩:=NO1;r! ⟨_,rfl,nd,_,dx,_,_,rfl,oN,T.aG,T.aO,rfl,pt,_,rfl,aX.of opt,?_⟩;r! Wk (K:=K) (a:=pt) (xs:=qs.map V.ref) (λi σ H'=>∃ v:Option V,σ=[some (.ref R.r),some (.ref nd),some (.ref bd),v]/\aA R.M H1 H'/\gG a R p most H' ⟨((partsOf e).drop ((partsOf e).length - i)).map (λx=>dG x env)++KU e env::s.tasks,s.given,s.acc,s.long⟩)
  ⟨none,rfl,aA.refl _ _,?_⟩ (λi σ H' ⟨_,_,k,_⟩=>aX.of (k.keep _ _ opt okp)) ?_ ?_
 ·rw[Nat.sub_zero,List.drop_length];e! Z1
 ·rintro i x σ H' hi hx ⟨v,rfl,k2,Z2⟩;rw[%ac] at hi hx;rw[%al] at hx;o!⟨qx,ex,rfl⟩:=%ab hx;o!⟨e',ee,N'⟩:=AP.at ex;~k12:=k1.trans k2;r! ⟨_,rfl,R.r,R.dx,_,rfl,Z2.obj,rfl,_,rfl,_,rfl,R,p,most,qx,bd,_,e',env,_,rfl,Z2,N'.turn (fG k12) bK,I.P9.turn (fG k12) bK,?_,λH3 Z3 k3=>?_⟩
  ·simp only[List.length_append,List.length_map,List.length_drop,List.length_cons];w!
  ·r! ⟨_,rfl,k2.trans k3,?_⟩;~ed:(partsOf e).drop ((partsOf e).length - (i+1))=e'::(partsOf e).drop ((partsOf e).length - i):=by
    ~hj:(partsOf e).length - (i+1) < (partsOf e).length:=by w!
    rw[%aT hj];~e1:(partsOf e).length - (i+1)+1=(partsOf e).length - i:=by w!
    rw[e1];congr 1;~e2:qs.length - 1 - i=(partsOf e).length - (i+1):=by w!
    rw[e2] at ee;rw[%aW hj] at ee;e! %aD ee
   rw[ed];e! Z3
 ·rintro σ H' ⟨v,rfl,k2,Z2⟩;rw[%ac,lq,Nat.sub_self,%cy] at Z2;r! q H' ?_ fQ!;rw[SE hp];rw[I.lg] at Z2;e! Z2
end
end Pay
namespace Pay
open PySem L2
open Vaamoa (isName ascii distinct Param Prog funAt typed paidBy peakBy kindIn lookup listIn)
t! Oo{x:V}{xs:List V}:Vx (x::xs) 0=some x:=CS (j:=0) rfl
section
variable {P:Program} {w:World} {K:PySem.W.Frag} {mg:Str->Option Value} {base:Heap} {a:Ad}
def UO(e:Ex):Prop:=(∃ l c x y,e=.ifz l c x y)∨∃ l x d b,e=.letE l x d b
t! qZ(T:eo K mg a):FB! 4 a.cg a.ij ae! (DM a UO):=by
 ~GB:FB! 3 a.dO a.dP aw! (oU a true):=yE T;~GC:FB! 3 a.bV a.bW aw! di!:=iB T;r! T.iq.ok A0 ab! aa!
 ·o!⟨R,p,most,nd,bd,d,e,env,t,s,rfl,_⟩:=h;rfl
 o!⟨R,p,most,nd,bd,d,e,env,t,s,rfl,I,hp,q⟩:=h;r! ⟨_,af (aF (bH (pv 0) T.aW T.lX GB hr T.lW .nil aM bc!))
  (ah aS!),?_⟩
 ~Z:=I.run;~lt:=I.big.tk;o!⟨qs,NO,AP⟩:=gH I.node;obtain ⟨e',es,ee⟩:∃ e' es,partsOf e=e'::es:=by
  rcases hp with ⟨l,c,x,y,rfl⟩ | ⟨l,x,dd,b,rfl⟩
  ·e! ⟨_,_,rfl⟩
  ·e! ⟨_,_,rfl⟩
 rw[ee] at AP;o!⟨q1,qr,rfl,N1,_⟩:=AP.Ol;r! ⟨_,rfl,R.r,R.dx,_,rfl,Z.obj,rfl,_,rfl,_,rfl,R,p,most,nd,bd,d,e,env,s,rfl,Z,I.node,I.P9,by w!,λH1 Z1 k1=>?_⟩;~NO1:=NO.turn (fG k1) bK;o!⟨dx,nm,pt,⟨sa,ea,oN⟩,onm,opt,_,_,okp⟩:=NO1;r! ⟨_,rfl,R.r,R.dx,_,rfl,Z1.obj,rfl,_,rfl,nd,_,dx,_,_,rfl,oN,T.aG,T.aO,rfl,pt,_,0,_,rfl,rfl,aX.of opt,Oo,_,rfl,R,p,most,q1,bd,_,e',env,_,rfl,Z1,N1.turn (fG k1) bK,I.P9.turn (fG k1) bK,by simp only[List.length_cons];w!,λH2 Z2 k2=>?_⟩;r! q H2 ?_ fQ!;rw[I.lg] at Z2;rcases hp with ⟨l,c,x,y,rfl⟩ | ⟨l,x,dd,b,rfl⟩
 ·cases ee;e! Z2
 ·cases ee;e! Z2
t! Kh(T:eo K mg a):FB! 4 a.jx a.rp ae! (DM a λe=>∃ l k x,e=.tick l k x):=by
 ~GP:FB! 3 a.vV a.vW ek! (W3 a):=(Yh T).mono (by w!);~GC:FB! 3 a.bV a.bW aw! di!:=iB T;r! T.xw.ok J5 ab! aa!
 ·o!⟨R,p,most,nd,bd,d,e,env,t,s,rfl,_⟩:=h;rfl
 o!⟨R,p,most,nd,bd,d,e,env,t,s,rfl,I,⟨l,k,x,rfl⟩,q⟩:=h;r! ⟨_,af (aF (bH (pv 0) T.aW T.Lm GP hr T.Ll .nil aM aF!))
  (ah aS!),?_⟩
 ~Z:=I.run;~lt:=I.big.tk;~li:=I.big.ti;o!⟨q1,NO,N1⟩:=I.node;r! ⟨_,rfl,R.r,R.dx,_,rfl,Z.obj,rfl,_,rfl,R,p,most,nd,l,d,_,k,_,_,s,rfl,Z,NO,by w!,λH1 Z1 k1=>?_⟩;~NO1:=NO.turn (fG k1) bK;o!⟨dx,nm,pt,⟨sa,ea,oN⟩,onm,opt,_,_,okp⟩:=NO1;r! ⟨_,rfl,R.r,R.dx,_,rfl,Z1.obj,rfl,_,rfl,nd,_,dx,_,_,rfl,oN,T.aG,T.aO,rfl,pt,_,0,_,rfl,rfl,aX.of opt,rfl,_,rfl,R,p,most,q1,bd,_,x,env,_,rfl,Z1,N1.turn (fG k1) bK,I.P9.turn (fG k1) bK,by dsimp only;w!,λH2 Z2 k2=>?_⟩;r! q H2 ?_ fQ!;rw[I.lg] at Z2;e! Z2
t! Jz(T:eo K mg a):FB! 4 a.iW a.pw ae! (DM a λe=>∃ l x y z c,e=.share l x y z c):=by
 ~GP:FB! 3 a.du a.dv bv! (P8 a):=(qj T).mono (by w!);~GC:FB! 3 a.bV a.bW aw! di!:=iB T;r! T.vg.ok y8 ab! aa!
 ·o!⟨R,p,most,nd,bd,d,e,env,t,s,rfl,_⟩:=h;rfl
 o!⟨R,p,most,nd,bd,d,e,env,t,s,rfl,I,⟨l,x,y,z,c,rfl⟩,q⟩:=h;~hu:=nN hr;r! ⟨_,af (aE (i:=3) y8.nd rfl al! fN!)
  (ah (aF (bH (pv 0) T.aW T.cv GC hr T.cu .nil aM (aa cx! (aa (az GP hr rfl T.jW T.gK.kp T.jV .nil aM (aa (pv 1) (aa (pv 3) (aa (pv 3) au!)))) ag))))),?_⟩
 ~Z:=I.run;~lt:=I.big.tk;o!⟨q1,NO,N1⟩:=I.node;~ht:=I.ty;unfold typed at ht;split at ht
 ·cases ht
 rename_i cc
 ~c1:kindIn (ja env) x=some .list:=%bo λz=>cc (.inl z)
 ~c2:y≠z:=λz=>cc (.inr (.inr (.inr z)))
 o!⟨u,gd,hv,_⟩:=MR I.P9 c1;o!⟨dx,nm,pt,⟨sa,ea,oN⟩,onm,opt,_,_,okp⟩:=id NO;r! ⟨_,rfl,_,rfl,nd,_,dx,_,_,rfl,oN,T.aG,T.aP,rfl,nm,_,0,_,rfl,rfl,aX.of onm,rfl,bd,u,rfl,gd,?_⟩;r! ⟨_,rfl,R.r,R.dx,_,rfl,Z.obj,rfl,_,rfl,nd,_,dx,_,_,rfl,oN,T.aG,T.aO,rfl,pt,_,0,_,rfl,rfl,aX.of opt,rfl,_,rfl,_,rfl,_,rfl,_,rfl,R.ok,nd,bd,l,d,_,_,x,y,z,_,env,lookup env x,lookup env x,u,u,rfl,NO,I.P9,hv,hv,I.big.ev,c2,λH1 b S1 nb EB=>?_⟩;~k1:∀ b o,R.ok b->H b=some o->H1 b=some o:=λb o _ e=>S1 b o e
 r! ⟨R,p,most,q1,b,_,c,_,s,rfl,Z.same S1,N1.turn k1 bK,EB (Z.free nb),by w!,λH2 Z2 k2=>?_⟩;r! q H2 ?_ ((aA.of_same S1).trans k2);rw[I.lg] at Z2;e! Z2
t! Ki(T:eo K mg a):FB! 4 a.jw a.rm ae! (DM a λe=>∃ l x n h t c,e=.case l x n h t c):=by
 ~GP:FB! 3 a.du a.dv bv! (P8 a):=(qj T).mono (by w!);~GC:FB! 3 a.bV a.bW aw! di!:=iB T;r! T.xu.ok Bc ab! aa!
 ·o!⟨R,p,most,nd,bd,d,e,env,t,s,rfl,_⟩:=h;rfl
 o!⟨R,p,most,nd,bd,d,e,env,t,s,rfl,I,⟨l,x,n,y,z,c,rfl⟩,q⟩:=h;~hu:=nN hr;r! ⟨_,af (aE (i:=3) Bc.nd rfl al! fN!)
  (ah (cE (yJ (pJ (pv 3) e9!))
   (ah aS!)
   (ah (aF (bH (pv 0) T.aW T.cv GC hr T.cu .nil aM (aa cx! (aa (az GP hr rfl T.jW T.gK.kp T.jV .nil aM (aa (pv 1) (aa (cG aZ (pv 3) aI ar!) (aa (si CT (pv 3) (pd aI) He) au!)))) ag))))))),?_⟩
 ~Z:=I.run;~lt:=I.big.tk;o!⟨q1,q2,NO,N1,N2⟩:=I.node;~ht:=I.ty;unfold typed at ht;split at ht
 ·cases ht
 rename_i cc
 ~c1:kindIn (ja env) x=some .list:=%bo λz=>cc (.inl z)
 ~c2:y≠z:=λz=>cc (.inr (.inr (.inr z)))
 o!⟨u,gd,hv,kv⟩:=MR I.P9 c1;o!⟨ls,el⟩:=wY kv;rw[el] at hv;o!⟨lp,rfl,okl,olp⟩:=hv;o!⟨dx,nm,pt,⟨sa,ea,oN⟩,onm,opt,_,_,okp⟩:=id NO;r! ⟨_,rfl,_,rfl,nd,_,dx,_,_,rfl,oN,T.aG,T.aP,rfl,nm,_,0,_,rfl,rfl,aX.of onm,rfl,bd,_,rfl,gd,?_⟩;r! ⟨_,rfl,_,.inl ⟨_,aX.of olp,rfl⟩,?_⟩;cases ls with
 | nil =>
  ~eb:mi s.tasks s.given env s.acc (.case l x n y z c)=⟨dG n env::s.tasks,s.given,s.acc,false⟩:=by
   simp only[mi];rw[el];rfl
  r! bO ⟨_,rfl,R.r,R.dx,_,rfl,Z.obj,rfl,_,rfl,nd,_,dx,_,_,rfl,oN,T.aG,T.aO,rfl,pt,_,0,_,rfl,rfl,aX.of opt,rfl,_,rfl,R,p,most,q1,bd,_,n,env,s,rfl,Z,N1,I.P9,by w!,λH2 Z2 k2=>?_⟩;r! q H2 ?_ k2;rw[eb];rw[I.lg] at Z2;e! Z2
 | cons k r =>
  ~eb:mi s.tasks s.given env s.acc (.case l x n y z c)=⟨dG c (⟨y,.num k⟩::⟨z,.list r⟩::env)::s.tasks,s.given,s.acc,false⟩:=by
   simp only[mi];rw[el];rfl
  r! bY ⟨_,rfl,R.r,R.dx,_,rfl,Z.obj,rfl,_,rfl,nd,_,dx,_,_,rfl,oN,T.aG,T.aO,rfl,pt,_,1,_,rfl,rfl,aX.of opt,rfl,_,rfl,_,rfl,lp,_,0,_,rfl,rfl,aX.of olp,Oo,_,rfl,_,rfl,lp,_,rfl,aX.of olp,λl2 nl2=>?_⟩;~ec:JU (((k::r).map λn=>V.int (n:Nat))) (some 1) none=r.map λn=>V.int (n:Nat):=by
   ~e1:HT.qT ((k::r).map λn=>V.int (n:Nat)).length 0 (some 1)=1:=by
    rw[show (1:Int)=((1:Nat):Int) from rfl,HT.t6];simp
   unfold JU;rw[e1,HT.Ng,List.take_of_length_le ai!];rfl
  rw[ec];~S0:=ay nl2 (.lst (r.map λn=>V.int (n:Nat)));~k0:∀ b o,R.ok b->H b=some o->upd H l2 (.lst (r.map λn=>V.int (n:Nat))) b=some o:=λb o _ e=>S0 b o e
  ~Z0:=Z.same S0;r! ⟨_,rfl,R.ok,nd,bd,l,d,_,_,x,y,z,_,env,.num k,.list r,_,_,rfl,NO.turn k0 bK,I.P9.turn k0 bK,rfl,⟨l2,rfl,Z.free nl2,ae⟩,I.big.ev,c2,λH1 b S1 nb EB=>?_⟩;~k1:∀ b o,R.ok b->H b=some o->H1 b=some o:=λb o h e=>S1 b o (k0 b o h e)
  r! ⟨R,p,most,q2,b,_,c,_,s,rfl,Z0.same S1,N2.turn k1 bK,EB (Z0.free nb),by w!,λH2 Z2 k2=>?_⟩;r! q H2 ?_ ((aA.of_same (S0.trans S1)).trans k2);rw[eb];rw[I.lg] at Z2;e! Z2
end
end Pay
namespace Pay
open PySem L2
open Vaamoa (isName ascii distinct Param Prog funAt typed paidBy peakBy kindIn lookup listIn numIn)
t! nA{u:V}{gs:List V}:(u::gs).reverse[(u::gs).reverse.length - 1]?=some u:=by simp
t! nB{u:V}{gs:List V}:(u::gs).reverse.dropLast=gs.reverse:=by simp
structure Zh (a:Ad) (R:RA) (p:Prog) (most:Nat) (H:Hp) (nd bd:Addr) (d:Nat) (e:Ex) (env:Vaamoa.Env) (s:nI):Prop where
 run:gG a R p most H s
 lg:s.long=false
 node:aY a R.ok H e d nd
 P9:GZ R.ok H bd env
 fits:∃ r,Fits p r (KU e env::s.tasks) (s.given.map cP)
 vals:∀ v∈s.given,Iq v
 big:Big s env
 good:qU p
section
variable {P:Program} {w:World} {K:PySem.W.Frag} {mg:Str->Option Value} {base:Heap} {a:Ad}
def JA(a:Ad)(W:Ex->Prop):Sp:=λvs H Q _=>∃ (R:RA) (p:Prog) (most:Nat) (nd bd:Addr) (d:Nat) (e:Ex) (env:%bw) (s z:nI),vs=[.ref R.r,.ref nd,.ref bd]/\Zh a R p most H nd bd d e env s/\W e /\
 ∀ H',gG a R p most H' (fin p s.tasks s.given env s.acc z e)->aA R.M H H'->Q .fK H'
t! Qa{R:RA}{p:Prog}{most:Nat}{H:Hp}{s:nI}(Z:gG a R p most H s){k1 k2:%aP}{ks:List %aP}(h:s.given.map cP=k1::k2::ks):∃ v w r uv uw gr,s.given=w::v::r/\cP w=k1/\cP v=k2/\H R.gl=some (.lst (uw::uv::gr).reverse)/\mC R.ok H w uw/\mC R.ok H v uv/\eG dg! gr r:=by
 o!⟨v',w',r,e,h1,h2,_⟩:=map_two h;o!⟨gs,og,AG⟩:=Z.Sw;rw[e] at AG;o!⟨uw,g1,rfl,hw,AG⟩:=AG.Ol;o!⟨uv,gr,rfl,hv,AG⟩:=AG.Ol;e! ⟨w',v',r,uv,uw,gr,e,h1,h2,og,hw,hv,AG⟩
t! UP{R:RA}{p:Prog}{most:Nat}{H:Hp}{s:nI}(Z:gG a R p most H s){k1:%aP}{ks:List %aP}(h:s.given.map cP=k1::ks):∃ v r uv gr,s.given=v::r/\cP v=k1/\H R.gl=some (.lst (uv::gr).reverse)/\mC R.ok H v uv/\eG dg! gr r:=by
 o!⟨v',r,e,h1,_⟩:=map_one h;o!⟨gs,og,AG⟩:=Z.Sw;rw[e] at AG;o!⟨uw,g1,rfl,hw,AG⟩:=AG.Ol;e! ⟨v',r,uw,g1,e,h1,og,hw,AG⟩
t! AS{R:RA}{H:Hp}{u:HO}:aA R.M H (upd H R.gl u):=aA.upd RA.ET
t! Oq(T:eo K mg a):FB! 1 a.om a.xj ae! (JA a λe=>∃ l x y,e=.cons l x y):=by
 r! T.B9.ok y9 ab! aa!
 ·o!⟨R,p,most,nd,bd,d,e,env,s,z,rfl,_⟩:=h;rfl
 o!⟨R,p,most,nd,bd,d,e,env,s,z,rfl,I,⟨l,x,y,rfl⟩,q⟩:=h;o!⟨t1,g1⟩:=T.m8;r! ⟨_,af (aE (i:=3) y9.nd rfl al! bo!)
  (af (aE (i:=4) y9.nd rfl al! bo!)
  (ah (cE (bG i8 (aR aJ rfl T.dm %ar bZ!) (aQ (v:=.int 40) rfl g1 ⟨t1,rfl⟩) (cy _))
   (ah (bf (pv 0) Hy rfl))
   (ah (aF (hG %ah %at %as cM ad! (aa (yM HJ (cz d2!) (pv 3)) ag))))))),?_⟩
 ~Z:=I.run;o!⟨rk,F⟩:=I.fits;obtain ⟨gs0,hg⟩:∃ gs,s.given.map cP=.list::.num::gs:=by
  generalize s.given.map cP=gk at F;cases F;e! ⟨_,rfl⟩
 o!⟨v,w',r,uv,uw,gr,eg,kw,kv,og,hw,hv,AG⟩:=Qa Z hg;o!⟨ls,rfl⟩:=wY kw;o!⟨n,rfl⟩:=mj kv;o!⟨lp,rfl,okl,olp⟩:=hw;cases (show uv=V.int (n:Nat) from hv);~vls:ls.length<=40:=(I.vals (.list ls) (by rw[eg];simp)).1;~lgv:s.given.length<=8000:=I.big.gv;~lr:gr.length<=8000:=by
  ~h1:=AG.len;rw[eg] at lgv;simp only[List.length_cons] at lgv;w!
 r! ⟨_,rfl,R.r,_,R.dx,_,_,rfl,Z.obj,T.aW,T.bo,rfl,.inl ⟨rfl,_,aX.of og⟩,R.gl,_,_,rfl,rfl,og,nA,?_⟩;rw[nB];~Z1:=Z.setG (gs:=V.int (n:Nat)::gr) (given:=.num n::r) ⟨rfl,AG⟩;~og1:upd H R.gl bs! R.gl=some bs!:=ae;r! ⟨_,rfl,R.r,_,R.dx,_,_,rfl,Z1.obj,T.aW,T.bo,rfl,.inl ⟨rfl,_,aX.of og1⟩,R.gl,_,_,rfl,rfl,og1,nA,?_⟩;rw[nB,aC];~Z2:=Z.setG (gs:=gr) (given:=r) AG;generalize hH2:upd H R.gl bO!=H2 at *;~K2:aA R.M H H2:=by rw[←hH2];e! AS
 ~og2:H2 R.gl=some bO!:=by rw[←hH2];e! ae
 ~ol2:H2 lp=some (.lst (ls.map λn=>V.int (n:Nat))):=K2.keep _ _ olp okl;~AG2:eG c7! gr r:=AG.imp λ_ _ h=>h.turn (fG K2) bK
 r! ⟨_,rfl,lp,_,rfl,.inl (aX.of ol2),rfl,_,rfl,?_⟩;~e40:decide (V.int (((ls.map λn=>V.int (n:Nat)).length:Nat):Int)=V.int 40)=decide (40<=ls.length):=by
  rw[decide_eq_decide,V.int.injEq,%ac];w!
 rw[e40];~ef:fin p s.tasks s.given env s.acc z f8!=if 40<=ls.length then ⟨s.tasks,r,s.acc,true⟩ else ⟨s.tasks,.list (n::ls)::r,s.acc,false⟩:=by
  rw[eg];rfl
 by_cases c:40<=ls.length
 ·rw[decide_eq_true c];rw[if_pos c] at ef;r! bO ⟨_,rfl,R.r,_,R.dx,_,rfl,Z2.obj,T.aW,T.cY,by show 10 < 1000;decide,?_⟩;r! q _ ?_ (K2.trans (aA.upd RA.LN));rw[ef];e! Z2.Yg s.acc.steps true
 ·rw[decide_eq_false c];rw[n! c] at ef;r! bY ⟨_,rfl,R.r,_,R.dx,_,_,rfl,Z2.obj,T.aW,T.bo,rfl,.inl ⟨rfl,_,aX.of og2⟩,_,rfl,by show 1<=sizeLine;decide,λl1 n1=>?_⟩;~S1:=ay n1 (.lst [V.int (n:Nat)]);r! ⟨_,rfl,l1,lp,_,_,rfl,rfl,ae,S1 _ _ ol2,?_,λl2 n2=>?_⟩
  ·rw[%ac];e! %aj (show 1+ls.length<=41 by w!) ag!
  ·~S2:=ay n2 (.lst ([V.int (n:Nat)]++ls.map λn=>V.int (n:Nat)));~S12:=S1.trans S2;r! ⟨R.gl,_,_,rfl,rfl,S12 _ _ og2,by rw[%bc];e! %ai lr ag!,?_⟩;~k12:∀ b o,R.ok b->H2 b=some o->upd (upd H2 l1 (.lst [V.int (n:Nat)])) l2 (.lst ([V.int (n:Nat)]++ls.map λn=>V.int (n:Nat))) b=some o:=λb o _ e=>S12 b o e
   r! r8 (v:=.list (n::ls)) (Q:=λH'=>Q .fK H') (Z2.same S12) (AG2.imp λ_ _ h=>h.turn k12 bK) ⟨l2,rfl,(Z2.same S1).free n2,by rw[ae];rfl⟩ λH' Z' k'=>q H' ?_ ((K2.same S12).trans k')
   rw[ef];rw[I.lg] at Z';e! Z'
t! Qb(T:eo K mg a):FB! 1 a.rS a.Ar ae! (JA a λe=>∃ l x y,e=.add l x y):=by
 r! T.Eo.ok BQ ab! aa!
 ·o!⟨R,p,most,nd,bd,d,e,env,s,z,rfl,_⟩:=h;rfl
 o!⟨R,p,most,nd,bd,d,e,env,s,z,rfl,I,⟨l,x,y,rfl⟩,q⟩:=h;r! ⟨_,af (aE (i:=3) BQ.nd rfl al! bo!)
  (af (aE (i:=4) BQ.nd rfl al! bo!)
  (ah (aF (hG %ah %at %as cM ad! (aa (yM Xs (OC (pv 4) (pv 3)) aI) ag))))),?_⟩
 ~Z:=I.run;o!⟨rk,F⟩:=I.fits;obtain ⟨gs0,hg⟩:∃ gs,s.given.map cP=.num::.num::gs:=by
  generalize s.given.map cP=gk at F;cases F;e! ⟨_,rfl⟩
 o!⟨v,w',r,uv,uw,gr,eg,kw,kv,og,hw,hv,AG⟩:=Qa Z hg;o!⟨m,rfl⟩:=mj kw;o!⟨n,rfl⟩:=mj kv;cases (show uv=V.int (n:Nat) from hv);cases (show uw=V.int (m:Nat) from hw);~lgv:s.given.length<=8000:=I.big.gv;~lr:gr.length<=8000:=by
  ~h1:=AG.len;rw[eg] at lgv;simp only[List.length_cons] at lgv;w!
 r! ⟨_,rfl,R.r,_,R.dx,_,_,rfl,Z.obj,T.aW,T.bo,rfl,.inl ⟨rfl,_,aX.of og⟩,R.gl,_,_,rfl,rfl,og,nA,?_⟩;rw[nB];~Z1:=Z.setG (gs:=V.int (n:Nat)::gr) (given:=.num n::r) ⟨rfl,AG⟩;~og1:upd H R.gl bs! R.gl=some bs!:=ae;r! ⟨_,rfl,R.r,_,R.dx,_,_,rfl,Z1.obj,T.aW,T.bo,rfl,.inl ⟨rfl,_,aX.of og1⟩,R.gl,_,_,rfl,rfl,og1,nA,?_⟩;rw[nB,aC];~Z2:=Z.setG (gs:=gr) (given:=r) AG;generalize hH2:upd H R.gl bO!=H2 at *;~K2:aA R.M H H2:=by rw[←hH2];e! AS
 ~og2:H2 R.gl=some bO!:=by rw[←hH2];e! ae
 ~AG2:eG c7! gr r:=AG.imp λ_ _ h=>h.turn (fG K2) bK
 r! ⟨_,rfl,R.r,_,R.dx,_,_,rfl,Z2.obj,T.aW,T.bo,rfl,.inl ⟨rfl,_,aX.of og2⟩,_,rfl,_,rfl,_,_,rfl,rfl,_,_,rfl,rfl,(by show (0:Int) < 100;decide),R.gl,_,_,rfl,rfl,og2,by rw[%bc];e! %ai lr ag!,?_⟩;r! r8 (v:=.num ((n+m) % 100)) (Q:=λH'=>Q .fK H') Z2 AG2 ?_ λH' Z' k'=>q H' ?_ (K2.trans k')
 ·show V.int (((n:Int)+(m:Int)) % 100)=V.int (((n+m) % 100:Nat):Int);congr 1
 ·rw[eg];rw[I.lg] at Z';e! Z'
t! Qc(T:eo K mg a):FB! 1 a.rT a.As ae! (JA a λe=>∃ l x y,e=.sub l x y):=by
 r! T.Ep.ok BR ab! aa!
 ·o!⟨R,p,most,nd,bd,d,e,env,s,z,rfl,_⟩:=h;rfl
 o!⟨R,p,most,nd,bd,d,e,env,s,z,rfl,I,⟨l,x,y,rfl⟩,q⟩:=h;r! ⟨_,af (aE (i:=3) BR.nd rfl al! bo!)
  (af (aE (i:=4) BR.nd rfl al! bo!)
  (ah (aF (hG %ah %at %as cM ad! (aa (aR (Ks rfl) rfl T.Ly PyProof.Rows.boot_max (aa (yM Td (pv 4) (pv 3)) (aa aI ag))) ag))))),?_⟩
 ~Z:=I.run;o!⟨rk,F⟩:=I.fits;obtain ⟨gs0,hg⟩:∃ gs,s.given.map cP=.num::.num::gs:=by
  generalize s.given.map cP=gk at F;cases F;e! ⟨_,rfl⟩
 o!⟨v,w',r,uv,uw,gr,eg,kw,kv,og,hw,hv,AG⟩:=Qa Z hg;o!⟨m,rfl⟩:=mj kw;o!⟨n,rfl⟩:=mj kv;cases (show uv=V.int (n:Nat) from hv);cases (show uw=V.int (m:Nat) from hw);~lgv:s.given.length<=8000:=I.big.gv;~lr:gr.length<=8000:=by
  ~h1:=AG.len;rw[eg] at lgv;simp only[List.length_cons] at lgv;w!
 r! ⟨_,rfl,R.r,_,R.dx,_,_,rfl,Z.obj,T.aW,T.bo,rfl,.inl ⟨rfl,_,aX.of og⟩,R.gl,_,_,rfl,rfl,og,nA,?_⟩;rw[nB];~Z1:=Z.setG (gs:=V.int (n:Nat)::gr) (given:=.num n::r) ⟨rfl,AG⟩;~og1:upd H R.gl bs! R.gl=some bs!:=ae;r! ⟨_,rfl,R.r,_,R.dx,_,_,rfl,Z1.obj,T.aW,T.bo,rfl,.inl ⟨rfl,_,aX.of og1⟩,R.gl,_,_,rfl,rfl,og1,nA,?_⟩;rw[nB,aC];~Z2:=Z.setG (gs:=gr) (given:=r) AG;generalize hH2:upd H R.gl bO!=H2 at *;~K2:aA R.M H H2:=by rw[←hH2];e! AS
 ~og2:H2 R.gl=some bO!:=by rw[←hH2];e! ae
 ~AG2:eG c7! gr r:=AG.imp λ_ _ h=>h.turn (fG K2) bK
 r! ⟨_,rfl,R.r,_,R.dx,_,_,rfl,Z2.obj,T.aW,T.bo,rfl,.inl ⟨rfl,_,aX.of og2⟩,_,rfl,_,rfl,_,_,rfl,rfl,_,_,rfl,R.gl,_,_,rfl,rfl,og2,by rw[%bc];e! %ai lr ag!,?_⟩;r! r8 (v:=.num (n - m)) (Q:=λH'=>Q .fK H') Z2 AG2 ?_ λH' Z' k'=>q H' ?_ (K2.trans k')
 ·show V.int (if (0:Int) > (n:Int) - (m:Int) then 0 else (n:Int) - (m:Int))=V.int ((n - m:Nat):Int);congr 1;split<;>w!
 ·rw[eg];rw[I.lg] at Z';e! Z'
end
end Pay
namespace Pay
open PySem L2
open Vaamoa (isName ascii distinct Param Prog funAt typed paidBy peakBy kindIn lookup listIn numIn)
section
variable {α β:Type} {r:α->β->Prop}
t! eG.drop:∀ (i:Nat) {xs:List α} {ys:List β},eG r xs ys->eG r (xs.drop i) (ys.drop i)
 | 0,_,_,h=>h
 | i+1,[],[],_=>trivial
 | i+1,_::_,_::_,h=>eG.drop i h.2
 | i+1,[],_::_,h=>h.elim
 | i+1,_::_,[],h=>h.elim
t! eG.take:∀ (i:Nat) {xs:List α} {ys:List β},eG r xs ys->eG r (xs.take i) (ys.take i)
 | 0,_,_,h=>trivial
 | i+1,[],[],_=>trivial
 | i+1,_::_,_::_,h=>⟨h.1,eG.take i h.2⟩
 | i+1,[],_::_,h=>h.elim
 | i+1,_::_,[],h=>h.elim
t! eG.rev:∀ {xs:List α} {ys:List β},eG r xs ys->eG r xs.reverse ys.reverse
 | [],[],_=>trivial
 | x::xs,y::ys,h=>by
  rw[List.reverse_cons,List.reverse_cons];e! (eG.rev h.2).app ⟨h.1,trivial⟩
 | [],_::_,h=>h.elim
 | _::_,[],h=>h.elim
t! Wl{H:Hp}{b:Addr}{o:HO}(h:H b=some o):upd H b o=H:=funext λc=>by
 by_cases e:c=b
 ·rw[e,ae,h]
 ·rw[ai e]
end
section
variable {P:Program} {w:World} {K:PySem.W.Frag} {mg:Str->Option Value} {base:Heap} {a:Ad}
t! SF(T:eo K mg a):FB! 4 a.vX a.Dg ae! (JA a λe=>∃ l c x y,e=.ifz l c x y):=by
 ~GC:FB! 3 a.bV a.bW aw! di!:=iB T;r! T.IW.ok RS ab! aa!
 ·o!⟨R,p,most,nd,bd,d,e,env,s,z,rfl,_⟩:=h;rfl
 o!⟨R,p,most,nd,bd,d,e,env,s,z,rfl,I,⟨l,c,x,y,rfl⟩,q⟩:=h;r! ⟨_,ah (cE (bG i8 bo! aI (cy _))
   (ah aS!)
   (ah aS!)),?_⟩
 ~Z:=I.run;~lt:=I.big.tk;o!⟨rk,F⟩:=I.fits;obtain ⟨gs0,hg⟩:∃ gs,s.given.map cP=.num::gs:=by
  generalize s.given.map cP=gk at F;cases F;e! ⟨_,rfl⟩
 o!⟨v,r,uv,gr,eg,kv,og,hv,AG⟩:=UP Z hg;o!⟨n,rfl⟩:=mj kv;cases (show uv=V.int (n:Nat) from hv);r! ⟨_,rfl,R.r,_,R.dx,_,_,rfl,Z.obj,T.aW,T.bo,rfl,.inl ⟨rfl,_,aX.of og⟩,R.gl,_,_,rfl,rfl,og,nA,rfl,_,rfl,?_⟩;rw[nB];~Z2:=Z.setG (gs:=gr) (given:=r) AG;generalize hH2:upd H R.gl bO!=H2 at *;~K2:aA R.M H H2:=by rw[←hH2];e! AS
 ~k2:=fG K2;o!⟨q1,q2,q3,NO,N1,N2,N3⟩:=I.node;o!⟨dx,nm,pt,⟨sa,ea,oN⟩,onm,opt,_⟩:=NO.turn k2 bK;~e0:decide (V.int (n:Nat)=V.int 0)=decide (n=0):=by
  rw[decide_eq_decide,V.int.injEq];w!
 rw[e0];~ef:fin p s.tasks s.given env s.acc z (.ifz l c x y)=⟨dG (if n=0 then x else y) env::s.tasks,r,s.acc,false⟩:=by
  rw[eg];rfl
 by_cases cn:n=0
 ·rw[decide_eq_true cn];rw[if_pos cn] at ef;r! bO ⟨_,rfl,R.r,R.dx,_,rfl,Z2.obj,rfl,_,rfl,nd,_,dx,_,_,rfl,oN,T.aG,T.aO,rfl,pt,_,1,_,rfl,rfl,aX.of opt,rfl,_,rfl,R,p,most,q2,bd,_,x,env,_,rfl,Z2,N2.turn k2 bK,I.P9.turn k2 bK,by dsimp only;w!,λH3 Z3 k3=>q H3 ?_ (K2.trans k3)⟩;rw[ef];rw[I.lg] at Z3;e! Z3
 ·rw[decide_eq_false cn];rw[n! cn] at ef;r! bY ⟨_,rfl,R.r,R.dx,_,rfl,Z2.obj,rfl,_,rfl,nd,_,dx,_,_,rfl,oN,T.aG,T.aO,rfl,pt,_,2,_,rfl,rfl,aX.of opt,rfl,_,rfl,R,p,most,q3,bd,_,y,env,_,rfl,Z2,N3.turn k2 bK,I.P9.turn k2 bK,by dsimp only;w!,λH3 Z3 k3=>q H3 ?_ (K2.trans k3)⟩;rw[ef];rw[I.lg] at Z3;e! Z3
t! Qe(T:eo K mg a):FB! 4 a.rU a.Au ae! (JA a λe=>∃ l x c y,e=.letE l x c y):=by
 ~GC:FB! 3 a.bV a.bW aw! di!:=iB T;r! T.Es.ok Iz ab! aa!
 ·o!⟨R,p,most,nd,bd,d,e,env,s,z,rfl,_⟩:=h;rfl
 o!⟨R,p,most,nd,bd,d,e,env,s,z,rfl,I,⟨l,x,c,y,rfl⟩,q⟩:=h;~hu:=nN hr;r! ⟨_,af (aE (i:=3) Iz.nd rfl al! (gL sk rfl T.zL %bM au!))
  (af (kW hu (pv 3) cx! bo! rfl)
  (ah (aF (bH (pv 0) T.aW T.cv GC hr T.cu .nil aM (aa cx! bZ!))))),?_⟩
 ~Z:=I.run;~lt:=I.big.tk;~le:=I.big.ev;o!⟨rk,F⟩:=I.fits;obtain ⟨k0,gs0,hg⟩:∃ k0 gs,s.given.map cP=k0::gs:=by
  generalize s.given.map cP=gk at F;cases F;e! ⟨_,_,rfl⟩
 o!⟨v,r,uv,gr,eg,kv,og,hv,AG⟩:=UP Z hg;o!⟨kb,kvs,ob,lb,vb⟩:=I.P9;~ef:fin p s.tasks s.given env s.acc z go!=⟨dG y (⟨x,v⟩::env)::s.tasks,r,s.acc,false⟩:=by
  rw[eg];rfl
 r! ⟨_,rfl,bd,kvs,rfl,.inl ob,λb nb=>?_⟩;~S0:=ay nb aQ!;~okb:=Z.free nb;~Z0:=Z.same S0;~k0':∀ b' o,R.ok b'->H b'=some o->upd H b aQ! b'=some o:=λb' o _ e=>S0 b' o e
 ~og0:=S0 _ _ og;~AG0:eG (λv x=>mC R.ok (upd H b aQ!) x v) gr r:=AG.imp λ_ _ h=>h.turn k0' bK
 r! ⟨_,rfl,R.r,_,R.dx,_,_,rfl,Z0.obj,T.aW,T.bo,rfl,.inl ⟨rfl,_,aX.of og0⟩,R.gl,_,_,rfl,rfl,og0,nA,?_⟩;rw[nB];~Z2:=Z0.setG (gs:=gr) (given:=r) AG0;~ob2:upd (upd H b aQ!) R.gl bO! b=some aQ!:=by rw[ai λe=>okb (by rw[e];e! RA.ET)];e! ae
 ~K02:aA R.M H (upd (upd H b aQ!) R.gl bO!):=(aA.of_same S0).trans AS;generalize hH2:upd (upd H b aQ!) R.gl bO!=H2 at *;~k2:=fG K02;o!⟨q1,q2,NO,N1,N2⟩:=I.node;o!⟨dx,nm,pt,⟨sa,ea,oN⟩,onm,opt,o1,o2,o3⟩:=NO.turn k2 bK;r! ⟨_,rfl,_,rfl,nd,_,dx,_,_,rfl,oN,T.aG,T.aP,rfl,nm,_,0,_,rfl,rfl,aX.of onm,rfl,b,_,rfl,AW.k (k:=%aO ap!) ob2 (%ai (%aj lb le) ag!),?_⟩;~up:∀ b' o,R.ok b'->H b'=some o->upd H2 b cD! b'=some o:=λb' o h e=>by
  rw[ai (aq e nb)];e! k2 b' o h e
 ~nd1:nd≠b:=λe=>by
  have:=NO;o!⟨_,_,_,⟨_,_,h⟩,_⟩:=this;rw[e,nb] at h;cases h
 ~ZZ:gG a R p most (upd H2 b cD!) ⟨s.tasks,r,s.acc,s.long⟩:=by
  ~e1:upd H2 b cD!=upd (upd H b cD!) R.gl bO!:=by
   rw[←hH2,iT (λe=>okb (by rw[←e];e! RA.ET)),aC]
  rw[e1];~S1:=ay nb cD!;e! (Z.same S1).setG (gs:=gr) (given:=r) (AG.imp λ_ _ h=>h.turn (λb' o _ e=>S1 b' o e) bK)
 ~KZ:aA R.M H (upd H2 b cD!):=⟨λb' o e n=>up b' o n e,λb' o e=>by
  by_cases c:b'=b
  ·e! ⟨_,by rw[c];e! ae⟩
  ·rw[ai c];e! K02.live b' o e⟩
 o!⟨dx',nm',pt',⟨sa',ea',oN'⟩,onm',opt',_⟩:=NO.turn up bK;r! ⟨_,rfl,R.r,R.dx,_,rfl,ZZ.obj,rfl,_,rfl,nd,_,dx',_,_,rfl,oN',T.aG,T.aO,rfl,pt',_,1,_,rfl,rfl,aX.of opt',rfl,_,rfl,R,p,most,q2,b,_,y,⟨x,v⟩::env,_,rfl,ZZ,N2.turn up bK,⟨okb,_,ae,?_,?_⟩,by dsimp only;w!,λH3 Z3 k3=>q H3 ?_ (KZ.trans k3)⟩
 ·have:=cT kvs (%aO ap!:Key) uv;simp only[List.length_cons];w!
 ·~V0:G0 R.ok H kvs env:=vb;e! (V0.put hv).turn up bK
 ·rw[ef];rw[I.lg] at Z3;e! Z3
def isCall(e:Ex):Prop:=(∃ l u x,e=.call1 l u x)∨∃ l u x y,e=.call2 l u x y
t! SG{p:Prog}{e:Ex}(hc:isCall e){r:%aP}{env:%bw}{rest:List Ap}{g:List %aF}{c:Vaamoa.Acc}{z:nI}(F:Fits p r (KU e env::rest) (g.map cP)):∃ u f,namesOf e=[u]/\funAt p u=some f/\(partsOf e).length=f.params.length/\(partsOf e).length<=g.length /\
  fin p rest g env c z e=⟨dG f.body (%ca f (g.take (partsOf e).length).reverse)::rest,g.drop (partsOf e).length,{c with calls:=c.calls++[u]},false⟩:=by
 generalize hg:g.map cP=gk at F;rcases hc with ⟨l,u,x,rfl⟩ | ⟨l,u,x,y,rfl⟩
 ·cases F with
  | @call1 _ _ _ _ f q _ gs h1 h2 F =>
   o!⟨v,m,rfl,k1,k3⟩:=map_one hg;r! ⟨u,f,rfl,h1,by rw[h2];rfl,by simp[partsOf],?_⟩;simp only[fin,one,h1];rfl
 ·cases F with
  | @call2 _ _ _ _ _ f q q' _ gs h1 h2 F =>
   o!⟨w',v,m,rfl,k1,k2,k3⟩:=map_two hg;r! ⟨u,f,rfl,h1,by rw[h2];rfl,by simp[partsOf],?_⟩;simp only[fin,two,h1];rfl
t! Gi(T:eo K mg a):FB! 4 a.oo a.xk ae! (JA a isCall):=by
 ~GC:FB! 3 a.bV a.bW aw! di!:=iB T;~GN:FB! 3 a.iJ a.iK el! (UM a):=(MP T).mono (by w!);~GB:FB! 3 a.nZ a.oa cT! (EU a):=(Gf T).mono (by w!);r! T.xx.ok za ab! aa!
 ·o!⟨R,p,most,nd,bd,d,e,env,s,z,rfl,_⟩:=h;rfl
 o!⟨R,p,most,nd,bd,d,e,env,s,z,rfl,I,hc,q⟩:=h;~hu:=nN hr;r! ⟨_,af (aE (i:=3) za.nd rfl al! (wL hu ad! cx! ar!))
  (af (aE (i:=4) za.nd rfl al! (cz ag))
  (af (yK PassesOwn.never (jR (Kq (aR aJ rfl T.dm %ar d2!) (aR aJ rfl T.dm %ar eh!)))
   (ah (aF (hG %ah PySem.F.slot_list_insert PySem.F.type_list_insert OV (pv 4) (aa aI (aa bo! ag))))))
  (af (aF (bH (pv 0) T.aW T.ym GN hr T.yl .nil aM (aa ca! ag)))
  (ah (aF (bH (pv 0) T.aW T.cv GC hr T.cu .nil aM (aa ca! (aa (az GB hr rfl T.B7 T.xr.kp T.B6 .nil aM (aa (pv 3) d2!)) ag)))))))),?_⟩
 ~Z:=I.run;~lt:=I.big.tk;~lca:=I.big.ca;o!⟨rk,F⟩:=I.fits;o!⟨u,f,en,hf,lp,lg,ef⟩:=SG (c:=s.acc) (z:=z) hc F;~l3:=LP e;o!⟨qs,NO,AP⟩:=gH I.node;~lq:=AP.len;rw[en] at NO;o!⟨dx,nm,pt,⟨sa,ea,oN⟩,onm,opt,kY,ok2,ok3⟩:=NO;o!⟨kvs,ok,_,hk⟩:=Z.QZ.ex;o!⟨fp,ev,FA,l2⟩:=hk u f hf;~fn:=BL hf;~fm:=D3 hf;~gd:nP H R.nd (.str (strOf u)) (some (.ref fp)):=by
  rw[←ev];e! nP.k (k:=%aO (strOf u)) ok
 r! ⟨_,rfl,R.r,_,R.dx,_,_,rfl,Z.obj,T.aW,T.qh,rfl,_,rfl,nd,_,dx,_,_,rfl,oN,T.aG,T.aP,rfl,nm,_,0,_,rfl,rfl,aX.of onm,rfl,R.nd,_,rfl,gd,?_⟩;r! ⟨%aE _,λvl nvl=>?_⟩;~S0:=ay nvl aL!;~okv:=Z.free nvl;o!⟨gs,og,AG⟩:=Z.Sw;~lgs:=AG.len;~nvg:vl≠R.gl:=λe=>okv (by rw[e];e! RA.ET)
 ~Wj:∀ i,upd fl! R.gl cb! vl=some bn!:=λi=>by rw[ai nvg];e! ae
 ~ZI:∀ i,gG a R p most (upd fl! R.gl cb!) ⟨s.tasks,s.given.drop i,s.acc,s.long⟩:=λi=>by
  ~S1:=ay nvl bn!;e! (Z.same S1).setG (gs:=gs.drop i) (given:=s.given.drop i) ((AG.drop i).imp λ_ _ h=>h.turn (λb' o _ e=>S1 b' o e) bK)
 ~KI:∀ i,aA R.M H (upd fl! R.gl cb!):=λi=>(aA.of_same (ay nvl _)).trans AS
 r! ⟨λm σ H'=>∃ i,m=(partsOf e).length - i/\i<=(partsOf e).length/\σ=[some (.ref R.r),some (.ref nd),some (.ref bd),some (.ref fp),some (.ref vl)]/\H'=upd fl! R.gl cb!,
  ⟨_,0,rfl,%aE _,rfl,(Wl (S0 _ _ og)).symm⟩,?_⟩
 rintro m σ H' ⟨i,rfl,hi,rfl,eH⟩;~ovl:=Wj i;~og':upd fl! R.gl cb! R.gl=some cb!:=ae;~Z':=ZI i;~k':=KI i;rw[←eH] at ovl og' Z' k';~kk:=fG k';~oN':=kk _ _ kY oN;~opt':=kk _ _ ok3 opt;r! ⟨_,rfl,vl,_,rfl,.inl (aX.of ovl),_,rfl,nd,_,dx,_,_,rfl,oN',T.aG,T.aO,rfl,pt,_,rfl,.inl (aX.of opt'),_,_,rfl,rfl,decide ((((gs.take i).reverse.length:Nat):Int) < ((qs.map V.ref).length:Nat)),rfl,?_⟩;~ed:decide ((((gs.take i).reverse.length:Nat):Int) < ((qs.map V.ref).length:Nat))=decide (i < (partsOf e).length):=by
  rw[decide_eq_decide,%bc,%aH,%ac];w!
 rw[ed];by_cases c:i < (partsOf e).length
 ·rw[decide_eq_true c];r! bO ⟨fun σ' H2=>σ'=[some (.ref R.r),some (.ref nd),some (.ref bd),some (.ref fp),some (.ref vl)]/\H2=upd (upd H vl (.lst (gs.take (i+1)).reverse)) R.gl (.lst (gs.drop (i+1)).reverse),?_,?_⟩
  ·rintro σ' H2 ⟨h1,h2⟩;e! ⟨(partsOf e).length - (i+1),by w!,i+1,rfl,by w!,h1,h2⟩
  ~hig:i < gs.length:=by w!
  ~dg:gs.drop i=gs[i]::gs.drop (i+1):=%aT hig;rw[dg] at og';r! ⟨_,rfl,.inl ⟨rfl,_,aX.of ovl⟩,_,rfl,R.r,_,R.dx,_,_,rfl,Z'.obj,T.aW,T.bo,rfl,.inl ⟨rfl,_,aX.of og'⟩,R.gl,_,_,rfl,rfl,og',nA,?_⟩;rw[nB];~ov2:upd H' R.gl (.lst (gs.drop (i+1)).reverse) vl=some bn!:=by rw[ai nvg];e! ovl
  r! ⟨vl,_,_,rfl,rfl,ov2,?_,rfl,?_⟩
  ·rw[%bc,%aH];e! %ai (show min i gs.length<=3 by w!) ag!
  ·~et:(gs.take (i+1)).reverse=gs[i]::(gs.take i).reverse:=by
    rw[%ay,%aW hig];simp
   rw[et,eH,aC,iT nvg,aC,iT (Ne.symm nvg)]
 ·rw[decide_eq_false c];obtain rfl:i=(partsOf e).length:=by w!
  clear eH;r! bY ?_;o!⟨df,pl,pqs,bp,oF,opl,APar,NB,okf,okpl⟩:=FA.ex;r! ⟨_,rfl,R.r,R.dx,_,rfl,Z'.obj,rfl,_,rfl,fp,_,df,_,_,rfl,kk _ _ okf oF,T.bw,T.dE,rfl,R,p,most,f.name,_,rfl,Z',by dsimp only;w!,λH2 Z2 k2=>?_⟩;~k12:=k'.trans k2;~kk2:=fG k12;~FA2:mz a R.ok H2 fp f:=FA.turn kk2 bK;~ov2:H2 vl=some (.lst (gs.take (partsOf e).length).reverse):=k2.keep _ _ ovl okv;~AV:eG c7! (gs.take (partsOf e).length).reverse (s.given.take (partsOf e).length).reverse:=((AG.imp λ_ _ h=>h.turn kk2 bK).take _).rev;r! ⟨_,rfl,R.r,R.dx,_,rfl,Z2.obj,rfl,_,rfl,fp,_,df,_,_,rfl,kk2 _ _ okf oF,T.bw,T.dF,rfl,_,rfl,_,rfl,R.ok,fp,f,vl,_,_,rfl,FA2,ov2,AV,?_,l2,(I.good.i6 f fm).dist,λH3 b S3 nb EB=>?_⟩
  ·rw[%bc,%aH];w!
  ~k3:∀ b o,R.ok b->H2 b=some o->H3 b=some o:=λb o _ e=>S3 b o e
  r! ⟨R,p,most,bp,b,_,f.body,_,_,rfl,Z2.same S3,(NB.turn kk2 bK).turn k3 bK,EB (Z2.free nb),by dsimp only;w!,λH4 Z4 k4=>q H4 ?_ ((k12.same S3).trans k4)⟩;rw[ef];rw[fn.2] at Z4;rw[I.lg] at Z4;e! Z4
end
end Pay
namespace Pay
open PySem L2
open Vaamoa (isName ascii distinct Param Prog funAt typed paidBy peakBy kindIn lookup listIn numIn)
def zQ(a:Ad):List (Text×V):=[(ascii "number",.ref a.ft),(ascii "name",.ref a.jv),(ascii "nil",.ref a.mn),(ascii "cons",.ref a.cp),(ascii "add",.ref a.cp),(ascii "sub",.ref a.cp),
 (ascii "if",.ref a.cg),(ascii "case",.ref a.jw),(ascii "let",.ref a.cg),(ascii "call",.ref a.cp),(ascii "tick",.ref a.jx),(ascii "share",.ref a.iW)]
def G3(a:Ad):List (Text×V):=[(ascii "cons",.ref a.om),(ascii "add",.ref a.rS),(ascii "sub",.ref a.rT),(ascii "if",.ref a.vX),(ascii "let",.ref a.rU),(ascii "call",.ref a.oo)]
def DN(a:Ad):List (Key×V):=[(.inr (%ad "number"),.ref a.ft),(.inr (%ad "name"),.ref a.jv),(.inr (%ad "nil"),.ref a.mn),(.inr gx!,.ref a.cp),(.inr (%ad "add"),.ref a.cp),(.inr (%ad "sub"),.ref a.cp),
 (.inr (%ad "if"),.ref a.cg),(.inr (%ad "case"),.ref a.jw),(.inr (%ad "let"),.ref a.cg),(.inr (%ad "call"),.ref a.cp),(.inr fF!,.ref a.jx),(.inr (%ad "share"),.ref a.iW)]
def Gj(a:Ad):List (Key×V):=[(.inr gx!,.ref a.om),(.inr (%ad "add"),.ref a.rS),(.inr (%ad "sub"),.ref a.rT),(.inr (%ad "if"),.ref a.vX),(.inr (%ad "let"),.ref a.rU),(.inr (%ad "call"),.ref a.oo)]
t! Yi(a:Ad):DN a=(zQ a).map λz=>c5!:=by
 unfold DN zQ;rw[Ju,PQ,UC,MI,w_add,w_sub,Wb,PR,Q0,MJ,MK,ML];rfl
t! Yj(a:Ad):Gj a=(G3 a).map λz=>c5!:=by
 unfold Gj G3;rw[MI,w_add,w_sub,Wb,Q0,MJ];rfl
t! Q1(a:Ad)(x:Text):cA (DN a) a4!=((zQ a).find? λz=>z.1 == x).map λz=>z.2:=by
 rw[Yi];e! AL id _ _
t! Wm(a:Ad)(x:Text):cA (Gj a) a4!=((G3 a).find? λz=>z.1 == x).map λz=>z.2:=by
 rw[Yj];e! AL id _ _
structure UQ (P:Program) (w:World) (K:PySem.W.Frag) (mg:Str->Option Value) (a:Ad):Prop where
 Cu:∃ d,mg "BEGINNINGS"=some (.ref d)/\KD P w K d (DN a)
 Yk:∃ d,mg "ENDS"=some (.ref d)/\KD P w K d (Gj a)
section
variable {P:Program} {w:World} {K:PySem.W.Frag} {mg:Str->Option Value} {base:Heap} {a:Ad}
t! UR(T:eo K mg a)(e:Ex):∃ (fx:Addr) (fd:FuncData) (W:Ex->Prop),cA (DN a) (.inr cV!)=some gh!/\FB! 4 fx fd ae! (DM a W)/\W e/\%aR K gh!=true/\Binds K fd ae! []:=by
 ~v1:cA (DN a) (.inr (strOf eM!))=some (.ref a.ft):=by
  rw[Q1,zQ,aw,if_pos rfl]
 ~vv:∀ {x:Text} {f:Addr},((zQ a).find? λz=>z.1 == x).map (λz=>z.2)=some (.ref f)->cA (DN a) a4!=some (.ref f):=λh=>by rw[Q1];e! h
 cases e with
 | num l n=>e! ⟨_,_,_,v1,(G1 T).mono (by w!),⟨_,_,rfl⟩,T.tq.kp,T.zv⟩
 | var l x =>
  r! ⟨_,_,_,vv ?_,(Kg T).mono (by w!),⟨_,_,rfl⟩,T.xt.kp,T.Di⟩;rw[wordOf,zQ];repeat rw[aw,n! (by dk!)]
  rw[aw,if_pos rfl]
 | nil l =>
  r! ⟨_,_,_,vv ?_,(MQ T).mono (by w!),⟨_,rfl⟩,T.zw.kp,T.FG⟩;rw[wordOf,zQ];repeat rw[aw,n! (by dk!)]
  rw[aw,if_pos rfl]
 | cons l x y =>
  r! ⟨_,_,_,vv ?_,jq T,.inl ⟨_,_,_,rfl⟩,T.gD.kp,T.iX⟩;rw[wordOf,zQ];repeat rw[aw,n! (by dk!)]
  rw[aw,if_pos rfl]
 | add l x y =>
  r! ⟨_,_,_,vv ?_,jq T,.inr f6!,T.gD.kp,T.iX⟩;rw[wordOf,zQ];repeat rw[aw,n! (by dk!)]
  rw[aw,if_pos rfl]
 | sub l x y =>
  r! ⟨_,_,_,vv ?_,jq T,.inr (.inr f6!),T.gD.kp,T.iX⟩;rw[wordOf,zQ];repeat rw[aw,n! (by dk!)]
  rw[aw,if_pos rfl]
 | ifz l c x y =>
  r! ⟨_,_,_,vv ?_,qZ T,.inl ⟨_,_,_,_,rfl⟩,T.iq.kp,T.lY⟩;rw[wordOf,zQ];repeat rw[aw,n! (by dk!)]
  rw[aw,if_pos rfl]
 | case l x c y z g =>
  r! ⟨_,_,_,vv ?_,Ki T,⟨_,_,_,_,_,_,rfl⟩,T.xu.kp,T.Dj⟩;rw[wordOf,zQ];repeat rw[aw,n! (by dk!)]
  rw[aw,if_pos rfl]
 | letE l x c y =>
  r! ⟨_,_,_,vv ?_,qZ T,.inr ⟨_,_,_,_,rfl⟩,T.iq.kp,T.lY⟩;rw[wordOf,zQ];repeat rw[aw,n! (by dk!)]
  rw[aw,if_pos rfl]
 | call1 l g x =>
  r! ⟨_,_,_,vv ?_,jq T,.inr (.inr (.inr f6!)),T.gD.kp,T.iX⟩;rw[wordOf,zQ];repeat rw[aw,n! (by dk!)]
  rw[aw,if_pos rfl]
 | call2 l g x y =>
  r! ⟨_,_,_,vv ?_,jq T,.inr (.inr (.inr (.inr ⟨_,_,_,_,rfl⟩))),T.gD.kp,T.iX⟩;rw[wordOf,zQ];repeat rw[aw,n! (by dk!)]
  rw[aw,if_pos rfl]
 | tick l i x =>
  r! ⟨_,_,_,vv ?_,Kh T,⟨_,_,_,rfl⟩,T.xw.kp,T.Dk⟩;rw[wordOf,zQ];repeat rw[aw,n! (by dk!)]
  rw[aw,if_pos rfl]
 | share l x y z c =>
  r! ⟨_,_,_,vv ?_,Jz T,⟨_,_,_,_,_,rfl⟩,T.vg.kp,T.Bf⟩;rw[wordOf,zQ];repeat rw[aw,n! (by dk!)]
  rw[aw,if_pos rfl]
t! US(T:eo K mg a){p:Prog}{r:%aP}{e:Ex}{env:%bw}{rest:List Ap}{gs:List %aP}(F:Fits p r (KU e env::rest) gs) :
  ∃ (fx:Addr) (fd:FuncData) (W:Ex->Prop),cA (Gj a) (.inr cV!)=some gh!/\FB! 4 fx fd ae! (JA a W)/\W e/\%aR K gh!=true/\Binds K fd ae! []:=by
 ~vv:∀ {x:Text} {f:Addr},((G3 a).find? λz=>z.1 == x).map (λz=>z.2)=some (.ref f)->cA (Gj a) a4!=some (.ref f):=λh=>by rw[Wm];e! h
 cases F with
 | cons F =>
  r! ⟨_,_,_,vv ?_,(Oq T).mono (by w!),⟨_,_,_,rfl⟩,T.B9.kp,T.IV⟩;show (List.find? (λz=>z.1 == ascii "cons") (G3 a)).map _=_;rw[G3,aw,if_pos rfl]
 | add F =>
  r! ⟨_,_,_,vv ?_,(Qb T).mono (by w!),⟨_,_,_,rfl⟩,T.Eo.kp,T.Ln⟩;rw[wordOf,G3];repeat rw[aw,n! (by dk!)]
  rw[aw,if_pos rfl]
 | sub F =>
  r! ⟨_,_,_,vv ?_,(Qc T).mono (by w!),⟨_,_,_,rfl⟩,T.Ep.kp,T.Lo⟩;rw[wordOf,G3];repeat rw[aw,n! (by dk!)]
  rw[aw,if_pos rfl]
 | ifz h1 h2 h3 F =>
  r! ⟨_,_,_,vv ?_,SF T,⟨_,_,_,_,rfl⟩,T.IW.kp,T.NV⟩;rw[wordOf,G3];repeat rw[aw,n! (by dk!)]
  rw[aw,if_pos rfl]
 | letE h1 F =>
  r! ⟨_,_,_,vv ?_,Qe T,⟨_,_,_,_,rfl⟩,T.Es.kp,T.Lp⟩;rw[wordOf,G3];repeat rw[aw,n! (by dk!)]
  rw[aw,if_pos rfl]
 | call1 h1 h2 F =>
  r! ⟨_,_,_,vv ?_,Gi T,.inl ⟨_,_,_,rfl⟩,T.xx.kp,T.Ca⟩;rw[wordOf,G3];repeat rw[aw,n! (by dk!)]
  rw[aw,if_pos rfl]
 | call2 h1 h2 F =>
  r! ⟨_,_,_,vv ?_,Gi T,.inr ⟨_,_,_,_,rfl⟩,T.xx.kp,T.Ca⟩;rw[wordOf,G3];repeat rw[aw,n! (by dk!)]
  rw[aw,if_pos rfl]
def Zj(a:Ad):Sp:=λvs H Q _=>∃ (R:RA) (p:Prog) (most n:Nat) (rk:%aP) (q:Addr) (t:Ap) (rest:List Ap) (g:List %aF) (c:Vaamoa.Acc),vs=[.ref R.r,.ref q]/\gG a R p most H ⟨rest,g,c,false⟩/\Om a R.ok H q t/\WT p most rk ⟨t::rest,g,c,false⟩/\Sz n ⟨t::rest,g,c,false⟩/\n<=2000/\qU p /\
 ∀ H',gG a R p most H' (gM p most ⟨t::rest,g,c,false⟩)->aA R.M H H'->Q .fK H'
t! Zk(T:eo K mg a)(Mc:UQ P w K mg a):FB! 5 a.Uh a.Ui ey! (Zj a):=by
 r! T.X7.ok Y9 ab! aa!
 ·o!⟨R,p,most,n,rk,qa,t,rest,g,c,rfl,_⟩:=h;rfl
 o!⟨R,p,most,n,rk,qa,t,rest,g,c,rfl,Z,TO,W,S,n2,G,q⟩:=h;o!⟨bd',gB,kB⟩:=Mc.Cu;o!⟨ed',gE,kE⟩:=Mc.Yk;r! ⟨_,ah (cE (pJ as! e9!)
   (ah (aF (C0 (CX:=Yt) (Am kE (aQ (v:=.ref ed') rfl gE rfl) (ao as! rfl) ar!) (aa (pv 0) (aa as! eh!)))))
   (ah (cE (bG i8 ad! ad! (cy _))
    (ah (bf (pv 0) Hy rfl))
    (af (rN (pv 0) aI DW)
     (ah (aF (C0 (CX:=Yt) (Am kB (aQ (v:=.ref bd') rfl gB rfl) (ao as! rfl) ar!) (aa (pv 0) (aa as! eh!))))))))),?_⟩
 o!⟨e,env,bk⟩:=t;o!⟨dq,nd,bd,d,oq,okq,N,EV⟩:=TO;dsimp only at oq N EV;~bgE:env.length<=8000:=%aj (S.ev _ %an) (by w!);~bgT:rest.length<=8000:=by have:=S.tk;simp only[List.length_cons] at this;w!
 ~bgG:g.length<=8000:=%aj S.gv (by w!);~bgK:c.ticks.length<=8000:=%aj S.ti (by w!);~bgC:c.calls.length<=8000:=%aj S.ca (by w!);o!⟨qs,NO,_⟩:=gH N;o!⟨dn,nm,pt,⟨sa,ea,oN⟩,_⟩:=NO;r! ⟨_,rfl,qa,_,dq,_,_,rfl,oq,T.tK,T.gh,rfl,bk,rfl,?_⟩;cases bk with
 | true =>
  o!⟨fx,fd,Wx,hv,FX,hW,kp,bdx⟩:=US (P:=P) (w:=w) (base:=base) T W.fits;r! bO ⟨_,rfl,qa,_,dq,_,_,rfl,oq,T.tK,T.ia,rfl,nd,_,dn,_,_,rfl,oN,T.aG,T.bM,rfl,.inr cV!,_,rfl,rfl,hv,fx,fd,_,_,4,E0,rfl,FX,hr,kp,bdx,aM.at _,_,rfl,_,rfl,qa,_,dq,_,_,rfl,oq,T.tK,T.ia,rfl,_,rfl,qa,_,dq,_,_,rfl,oq,T.tK,T.jN,rfl,?_⟩;e! ⟨R,p,most,nd,bd,d,e,env,_,_,rfl,⟨Z,rfl,N,EV,⟨rk,W.fits⟩,W.vals,⟨bgT,bgG,bgK,bgC,bgE⟩,G⟩,hW,q⟩
 | false =>
  r! bY ⟨_,rfl,R.r,_,R.dx,_,_,rfl,Z.obj,T.aW,T.ic,rfl,_,rfl,R.r,_,R.dx,_,_,rfl,Z.obj,T.aW,T.kT,rfl,rfl,_,rfl,?_⟩;~ws:=W.steps;dsimp only at ws;~e1:decide (V.int (c.steps:Nat)=V.int (most:Nat))=decide (most<=c.steps):=by
   rw[decide_eq_decide,V.int.injEq];w!
  rw[show decide (V.int (((⟨rest,g,c,false⟩:nI).acc.steps:Nat):Int)=V.int (most:Nat))=decide (most<=c.steps) from e1];~em:gM p most ⟨⟨e,env,false⟩::rest,g,c,false⟩=if most<=c.steps then ⟨rest,g,c,true⟩ else mi rest g env {c with steps:=c.steps+1} e:=rfl
  by_cases cc:most<=c.steps
  ·rw[decide_eq_true cc];rw[if_pos cc] at em;r! bO ⟨_,rfl,R.r,_,R.dx,_,rfl,Z.obj,T.aW,T.cY,by show 10 < 1000;decide,?_⟩;r! q _ ?_ (aA.upd RA.LN);rw[em];e! Z.Yg c.steps true
  ·rw[decide_eq_false cc];rw[n! cc] at em;obtain ⟨t,ht⟩:∃ t,typed p (ja env) e=some t:=by
    ~F:=W.fits;generalize (nI.given ⟨⟨e,env,false⟩::rest,g,c,false⟩).map cP=gk at F;cases F with
    | dG h F=>e! ⟨_,h⟩
   o!⟨fx,fd,Wx,hv,FX,hW,kp,bdx⟩:=UR (P:=P) (w:=w) (base:=base) T e;r! bY ⟨_,rfl,R.r,_,R.dx,_,_,rfl,Z.obj,T.aW,T.ic,rfl,_,_,rfl,rfl,R.dx,_,Z.obj,by show 10 < 1000;decide,?_⟩;~Z1:=Z.Yg (c.steps+1) false;~ef:nL "steps" (V.int ((c.steps:Int)+1)) (ES R.nd most (c.steps:Nat) (paidBy c.ticks) (peakBy c.ticks) R.tl R.gl R.kl R.cd false)=ES R.nd most ((c.steps+1:Nat):Int) (paidBy c.ticks) (peakBy c.ticks) R.tl R.gl R.kl R.cd false:=rfl;~K1:aA R.M H (upd H R.r (.ins a.fD R.dx (nL "steps" (V.int ((c.steps:Int)+1)) (ES R.nd most (c.steps:Nat) (paidBy c.ticks) (peakBy c.ticks) R.tl R.gl R.kl R.cd false)))):=aA.upd RA.LN;~k1:=fG K1;~oq1:=k1 _ _ okq oq;o!⟨qs1,NO1,_⟩:=gH (N.turn k1 bK);o!⟨dn1,nm1,pt1,⟨sa1,ea1,oN1⟩,_⟩:=NO1;r! ⟨_,rfl,qa,_,dq,_,_,rfl,oq1,T.tK,T.ia,rfl,nd,_,dn1,_,_,rfl,oN1,T.aG,T.bM,rfl,.inr cV!,_,rfl,rfl,hv,fx,fd,_,_,4,E0,rfl,FX,hr,kp,bdx,aM.at _,_,rfl,_,rfl,qa,_,dq,_,_,rfl,oq1,T.tK,T.ia,rfl,_,rfl,qa,_,dq,_,_,rfl,oq1,T.tK,T.jN,rfl,?_⟩;e! ⟨R,p,most,nd,bd,d,e,env,t,_,rfl,⟨Z1,rfl,N.turn k1 bK,EV.turn k1 bK,ht,⟨bgT,bgG,bgK,bgC,bgE⟩⟩,hW,λH' Z' k'=>q H' (by rw[em];e! Z') (K1.trans k')⟩
end
end Pay
namespace Pay
open PySem L2
open Vaamoa (isName ascii distinct Param Prog funAt typed paidBy peakBy kindIn lookup listIn numIn)
section
variable {a:Ad} {ok ok':Addr->Prop} {H:Hp}
t! eF.live(m:∀ b o,ok b->H b=some o->ok' b){p:Addr}{l d:Nat}{x:Text}{n:Int}{ns:List Text}{qs:List Addr}(h:eF a ok H p l d x n ns qs):eF a ok' H p l d x n ns qs:=by
 o!⟨dx,nm,pt,⟨sa,ea,h1⟩,h2,h3,o1,o2,o3⟩:=h;e! ⟨dx,nm,pt,⟨sa,ea,h1⟩,h2,h3,m _ _ o1 h1,m _ _ o2 h2,m _ _ o3 h3⟩
t! aY.live(m:∀ b o,ok b->H b=some o->ok' b):∀ {e:Ex} {d:Nat} {p:Addr},aY a ok H e d p->aY a ok' H e d p:=by
 intro e
 induction e with
 | num l n=>intro d p h;e! eF.live m h
 | var l x=>intro d p h;e! eF.live m h
 | nil l=>intro d p h;e! eF.live m h
 | cons l x y i1 i2=>rintro d p ⟨q1,q2,o,h1,h2⟩;e! ⟨q1,q2,o.live m,i1 h1,i2 h2⟩
 | add l x y i1 i2=>rintro d p ⟨q1,q2,o,h1,h2⟩;e! ⟨q1,q2,o.live m,i1 h1,i2 h2⟩
 | sub l x y i1 i2=>rintro d p ⟨q1,q2,o,h1,h2⟩;e! ⟨q1,q2,o.live m,i1 h1,i2 h2⟩
 | ifz l c x y i0 i1 i2=>rintro d p ⟨q1,q2,q3,o,h0,h1,h2⟩;e! ⟨q1,q2,q3,o.live m,i0 h0,i1 h1,i2 h2⟩
 | case l x e h t c i1 i2=>rintro d p ⟨q1,q2,o,h1,h2⟩;e! ⟨q1,q2,o.live m,i1 h1,i2 h2⟩
 | letE l x e b i1 i2=>rintro d p ⟨q1,q2,o,h1,h2⟩;e! ⟨q1,q2,o.live m,i1 h1,i2 h2⟩
 | call1 l g x i1=>rintro d p ⟨q1,o,h1⟩;e! ⟨q1,o.live m,i1 h1⟩
 | call2 l g x y i1 i2=>rintro d p ⟨q1,q2,o,h1,h2⟩;e! ⟨q1,q2,o.live m,i1 h1,i2 h2⟩
 | tick l j e i1=>rintro d p ⟨q1,o,h1⟩;e! ⟨q1,o.live m,i1 h1⟩
 | share l x y z e i1=>rintro d p ⟨q1,o,h1⟩;e! ⟨q1,o.live m,i1 h1⟩
t! g8.live(m:∀ b o,ok b->H b=some o->ok' b):∀ {ps:List Addr} {qs:List Param},g8 a ok H ps qs->g8 a ok' H ps qs
 | [],[],_=>trivial
 | _::_,_::_,h=>let ⟨⟨dx,e⟩,o,r⟩:=h;⟨⟨dx,e⟩,m _ _ o e,g8.live m r⟩
 | [],_::_,h=>h.elim
 | _::_,[],h=>h.elim
t! mz.live(m:∀ b o,ok b->H b=some o->ok' b){p:Addr}{f:%aQ}(h:mz a ok H p f):mz a ok' H p f:=by
 o!⟨dx,pl,qs,bp,h1,h2,h3,h4,h5,h6⟩:=h.ex;e! ⟨dx,pl,qs,bp,h1,h2,h3.live m,h4.live m,m _ _ h5 h1,m _ _ h6 h2⟩
t! cS.live(m:∀ b o,ok b->H b=some o->ok' b):∀ {ps:List Addr} {fs:Prog},cS a ok H ps fs->cS a ok' H ps fs
 | [],[],_=>trivial
 | _::_,_::_,h=>⟨h.1.live m,cS.live m h.2⟩
 | [],_::_,h=>h.elim
 | _::_,[],h=>h.elim
end
section
variable {P:Program} {w:World} {K:PySem.W.Frag} {mg:Str->Option Value} {base:Heap} {a:Ad}
def UT(a:Ad):Sp:=λvs H Q _=>∃ (ok:Addr->Prop) (x dx fl:Addr) (fs:List Addr) (p:Prog) (most:Nat),vs=[.ref x,.ref fl,.int (most:Nat)]/\H x=some (.ins a.fD dx [])/\H fl=some bG!/\cS a ok H fs p/\distinct cg!=true/\p.length<=4/\(∀ f∈p,f.params.length<=2) /\
 ∀ H1 nd tl gl kl cd,bc H H1->Wc a ok H1 nd p->H nd=none->H1 tl=none->H1 gl=none->H1 kl=none->H1 cd=none->tl≠gl->tl≠kl->tl≠cd->gl≠kl->gl≠cd->kl≠cd ->
  Q .fK (upd (upd (upd (upd (upd H1 tl aL!) gl aL!) kl aL!) cd (.dK [])) x cE!)
t! Yl(T:eo K mg a):FB! 2 a.sM a.sO bN! (UT a):=by
 ~GN:FB! 1 a.rQ a.rR cI! (Jw a):=Jx T;r! T.IM.ok NN ab! aa!
 ·o!⟨ok,x,dx,fl,fs,p,most,rfl,_⟩:=h;rfl
 o!⟨ok,x,dx,fl,fs,p,most,rfl,hx,ofl,AF,nd,l4,lp,q⟩:=h;r! ⟨_,af (bf (pv 0) (az GN hr rfl T.En T.Az.kp T.Em .nil aM aF!) rfl)
  (af ce!
  (af cB!
  (af cB!
  (af dy!
  (af dy!
  (af dy!
  (af cB!
  (af (bf (pv 0) j3 rfl)
  (ah (bf (pv 0) Hy rfl)))))))))),?_⟩
 r! ⟨_,rfl,ok,fl,fs,p,rfl,ofl,AF,nd,l4,lp,λH1 n S1 N1 nn=>?_⟩;~hx1:=S1 _ _ hx;r! ⟨_,rfl,x,_,dx,_,rfl,hx1,T.aW,T.qh,by show 0 < 1000;decide,?_⟩;r! ⟨_,rfl,_,rfl,x,_,dx,_,rfl,ae,T.aW,T.kT,by show 1 < 1000;decide,?_⟩;rw[aC];r! ⟨%aE _,λtl htl=>?_⟩;~n1:x≠tl:=aq ae htl;rw[ai n1.symm] at htl;r! ⟨_,rfl,x,_,dx,_,rfl,by rw[ai n1];e! ae,T.aW,T.ib,by show 2 < 1000;decide,?_⟩;rw[iT n1,aC];r! ⟨%aE _,λgl hgl=>?_⟩;~n2:x≠gl:=aq ae hgl;rw[ai n2.symm] at hgl;~n3:tl≠gl:=aq ae hgl;rw[ai n3.symm] at hgl;r! ⟨_,rfl,x,_,dx,_,rfl,by rw[ai n2];e! ae,T.aW,T.bo,by show 3 < 1000;decide,?_⟩;rw[iT n2,aC];r! ⟨_,rfl,x,_,dx,_,rfl,ae,T.aW,T.ic,by show 4 < 1000;decide,?_⟩;r! ⟨_,rfl,x,_,dx,_,rfl,ae,T.aW,T.iu,by show 5 < 1000;decide,?_⟩;r! ⟨_,rfl,x,_,dx,_,rfl,ae,T.aW,T.iw,by show 6 < 1000;decide,?_⟩;rw[aC,aC,aC];r! ⟨%aE _,λkl hkl=>?_⟩;~n4:x≠kl:=aq ae hkl;rw[ai n4.symm] at hkl;~n5:gl≠kl:=aq ae hkl;rw[ai n5.symm] at hkl;~n6:tl≠kl:=aq ae hkl;rw[ai n6.symm] at hkl;r! ⟨_,rfl,x,_,dx,_,rfl,by rw[ai n4];e! ae,T.aW,T.ie,by show 7 < 1000;decide,?_⟩;rw[iT n4,aC];intro cd hcd;~n7:x≠cd:=aq ae hcd;rw[ai n7.symm] at hcd;~n8:kl≠cd:=aq ae hcd;rw[ai n8.symm] at hcd;~n9:gl≠cd:=aq ae hcd;rw[ai n9.symm] at hcd;~n10:tl≠cd:=aq ae hcd;rw[ai n10.symm] at hcd;r! ⟨_,rfl,x,_,dx,_,rfl,by rw[ai n7];e! ae,T.aW,T.cR,by show 8 < 1000;decide,?_⟩;rw[iT n7,aC];r! ⟨_,rfl,x,_,dx,_,rfl,ae,T.aW,T.cY,by show 9 < 1000;decide,?_⟩;rw[aC];e! q H1 n tl gl kl cd S1 N1 nn htl hgl hkl hcd n3 n6 n10 n5 n9 n8
def Q2(a:Ad):Sp:=λvs H Q _=>∃ (fl:Addr) (fs:List Addr) (p:Prog) (fp:Addr) (f:%aQ) (vl:Addr) (us:List V) (ws:List %aF) (most:Nat),vs=[.ref fl,.ref fp,.ref vl,.int (most:Nat)]/\H fl=some bG!/\cS a rL H fs p/\qU p/\Ir p/\mz a rL H fp f/\f∈p /\
 H vl=some (.lst us)/\eG (λv x=>mC rL H x v) us ws/\(∀ v∈ws,Iq v)/\ja (%ca f ws)=f.params/\ws.length=f.params.length/\most<=400 /\
 ∀ H' R s,bc H H'->(∀ b∈R.M,H b=none)->gG a R p most H' s->dI p most dP! s->halted s->dI!->(∃ n,Sz n s/\n<=2000)->Q (.ref R.r) H'
t! rev_last{q:Addr}{ts:List Addr}:((q::ts).reverse.map V.ref)[((q::ts).reverse.map V.ref).length - 1]?=some (V.ref q):=by simp
t! UU{q:Addr}{ts:List Addr}:((q::ts).reverse.map V.ref).dropLast=ts.reverse.map V.ref:=by simp
t! SH(T:eo K mg a)(Mc:UQ P w K mg a):FB! 6 a.zm a.zo bh! (Q2 a):=by
 ~GI:FB! 4 a.sM a.sO bN! (UT a):=(Yl T).mono (by w!);~GC:FB! 5 a.bV a.bW aw! di!:=(iB T).mono (by w!);~GB:FB! 5 a.nZ a.oa cT! (EU a):=(Gf T).mono (by w!);~GD:FB! 5 a.Uh a.Ui ey! (Zj a):=Zk T Mc;r! T.IT.ok K0 ab! aa!
 ·o!⟨fl,fs,p,fp,f,vl,us,ws,most,rfl,_⟩:=h;rfl
 o!⟨fl,fs,p,fp,f,vl,us,ws,most,rfl,ofl,AF,G,KP,FA,fm,ovl,AV,vok,tye,lw,m4,q⟩:=h;r! ⟨_,af (aE (i:=4) K0.nd rfl al! (eI T.IQ GI hr rfl T.Lx T.IP .nil aM (aa (pv 0) bZ!)))
  (af (aF (bH (pv 4) T.aW T.cv GC hr T.cu .nil aM (aa as! (aa (az GB hr rfl T.B7 T.xr.kp T.B6 .nil aM bc!) ag))))
  (af (yK PassesOwn.never (PW.pt (LY (pJ bL! e9!) (Hc (yJ (pJ bL! e9!)))))
   (ah (aF (az GD hr rfl T.Zb T.X7.kp T.Za .nil aM (aa (pv 4) (aa (uG %ah %aZ %aY uH bL!) ag))))))
  (ah (aH (pv 4))))),?_⟩
 r! ⟨_,rfl,_,rfl,λr dx nr ndx ne=>?_⟩;~M0:bc H (made H r dx a.fD []):=bF nr ndx;~mlive:∀ b o,rL b->H b=some o->fG! b:=λb o _ e=>by show H b≠none;rw[e];simp
 ~AFL:cS a fG! H fs p:=AF.live mlive;~FAL:mz a fG! H fp f:=FA.live mlive;~AVL:eG (λv x=>mC fG! H x v) us ws:=AV.imp λv x h=>by
  cases x with
  | num n=>e! h
  | list l =>
   o!⟨pp,e1,_,e2⟩:=h;e! ⟨pp,e1,mlive _ _ trivial e2,e2⟩
 r! ⟨λb=>H b≠none,r,dx,fl,fs,p,most,rfl,ae,M0 _ _ ofl,AFL.turn (λb o _ e=>M0 b o e) bK,G.dist,G.most,λf hf=>(G.i6 f hf).most,λH1 nd tl gl kl cd S1 N1 nn htl hgl hkl hcd a1 a2 a3 a4 a5 a6=>⟨rfl,?_⟩⟩;~fresh:∀ {b:Addr},H1 b=none->H b=none/\b≠r:=λ{b} hb=>by
  o!⟨h1,h2,h3⟩:=wA (C:=a.fD) (f:=[]) (S1.free hb);e! ⟨h1,h2⟩
 ~hnd:H nd=none/\nd≠r:=by
  o!⟨h1,h2,h3⟩:=wA (C:=a.fD) (f:=[]) nn;e! ⟨h1,h2⟩
 generalize hH2:upd (upd (upd (upd (upd H1 tl aL!) gl aL!) kl aL!) cd (.dK [])) r cE!=H2;~S2':∀ b o,H1 b=some o->b≠r->H2 b=some o:=λb o e n=>by
  rw[←hH2,ai n,ai (aq e hcd),ai (aq e hkl),ai (aq e hgl),ai (aq e htl)];e! e
 ~S2:bc H H2:=λb o e=>S2' b o (S1 _ _ (M0 _ _ e)) (aq e nr)
 o!⟨kvs,ond,_,_⟩:=id N1.ex;~o2:H2 r=some cE!:=by rw[←hH2];e! ae
 ~otl:H2 tl=some aL!:=by rw[←hH2,ai (fresh htl).2,ai a3,ai a2,ai a1];e! ae
 ~ogl:H2 gl=some aL!:=by rw[←hH2,ai (fresh hgl).2,ai a5,ai a4];e! ae
 ~okl:H2 kl=some aL!:=by rw[←hH2,ai (fresh hkl).2,ai a6];e! ae
 ~ocd:H2 cd=some (.dK []):=by rw[←hH2,ai (fresh hcd).2];e! ae
 let R:RA:=⟨r,dx,tl,gl,kl,cd,nd⟩
 ~Mf:∀ b∈R.M,H b=none:=λb hb=>by
  ~hb:b∈[r,tl,gl,kl,cd]:=hb;simp only[List.mem_cons,List.not_mem_nil,or_false] at hb;rcases hb with rfl | rfl | rfl | rfl | rfl
  ·e! nr
  ·e! (fresh htl).1
  ·e! (fresh hgl).1
  ·e! (fresh hkl).1
  ·e! (fresh hcd).1
 ~lok:∀ b,H b≠none->R.ok b:=λb h m=>h (Mf b m)
 ~ndok:R.ok nd:=λm=>by
  ~m:nd∈[r,tl,gl,kl,cd]:=m;simp only[List.mem_cons,List.not_mem_nil,or_false] at m;rcases m with e | e | e | e | e
  ·e! hnd.2 e
  ·rw[e,htl] at ond;cases ond
  ·rw[e,hgl] at ond;cases ond
  ·rw[e,hkl] at ond;cases ond
  ·rw[e,hcd] at ond;cases ond
 ~N2:Wc a R.ok H2 nd p:=by
  o!⟨kvs,e,h1,h2⟩:=N1.ex;r! ⟨kvs,S2' _ _ e hnd.2,h1,λx g hg=>?_⟩;o!⟨q',e1,F,l2⟩:=h2 x g hg;e! ⟨q',e1,F.turn (λb o hb e=>S2' b o e λz=>hb (by rw[z];e! nr)) lok,l2⟩
 ~nodup:R.M.Nodup:=by
  show [r,tl,gl,kl,cd].Nodup;simp only[List.nodup_cons,List.mem_cons,List.not_mem_nil,or_false,not_or,not_false_eq_true,and_true,List.nodup_nil];e! ⟨⟨(fresh htl).2.symm,(fresh hgl).2.symm,(fresh hkl).2.symm,(fresh hcd).2.symm⟩,⟨a1,a2,a3⟩,⟨a4,a5⟩,a6⟩
 ~Z2:gG a R p most H2 ⟨[],[],Vaamoa.nothing,false⟩:=⟨o2,⟨[],otl,trivial⟩,⟨[],ogl,trivial⟩,⟨[],okl,trivial⟩,⟨[],ocd,%am _,λx=>rfl⟩,N2,ndok,nodup⟩;~FA2:mz a R.ok H2 fp f:=FAL.turn (λb o _ e=>S2 b o e) lok;~AV2:eG c7! us ws:=AVL.imp λ_ _ h=>h.turn (λb o _ e=>S2 b o e) lok
 o!⟨df,pl,pqs,bp,oF,opl,APar,NB,okf,okpl⟩:=FA2.ex;r! ⟨_,rfl,r,dx,_,rfl,o2,rfl,_,rfl,fp,_,df,_,_,rfl,oF,T.bw,T.dF,rfl,_,rfl,_,rfl,R.ok,fp,f,vl,us,ws,rfl,FA2,S2 _ _ ovl,AV2,lw,(G.i6 f fm).most,(G.i6 f fm).dist,λH3 b S3 nb EB=>?_⟩;~k3:∀ b o,R.ok b->H2 b=some o->H3 b=some o:=λb o _ e=>S3 b o e
 r! ⟨R,p,most,bp,b,_,f.body,_,_,rfl,Z2.same S3,NB.turn k3 bK,EB (Z2.free nb),by simp,λH4 Z4 k4=>?_⟩;~K4:aA R.M H2 H4:=(aA.of_same S3).trans k4;~toS:∀ {H5:Hp},aA R.M H2 H5->bc H H5:=λk=>aA.uD S2 k Mf
 ~w0:WT p most f.result dP!:=Uc KP fm tye vok;~z0:Sz 0 dP!:=Ud f ws (by rw[lw];e! (G.i6 f fm).most);r! ⟨λm σ H'=>∃ (s:nI) (n:Nat),m=AY most s/\n+AY most s<=4 * most+2/\Sz n s/\dI!/\dI p most dP! s/\gG a R p most H' s/\aA R.M H2 H'/\σ=[some gi!,some (.ref fp),some (.ref vl),some (.int (most:Nat)),some (.ref r)],
  ⟨_,startM f ws,0,rfl,?_,z0,.inr w0,.refl _,Z4,K4,rfl⟩,?_⟩
 ·show 0+(4 * (most - 0)+1+1)<=_;w!
 rintro m σ H' ⟨s,n,rfl,hn,hz,hw,hst,Z',K',rfl⟩;o!⟨ts,ot,AT⟩:=Z'.Wi;r! ⟨_,rfl,r,_,dx,_,_,rfl,Z'.obj,T.aW,T.ib,rfl,_,.inl ⟨_,aX.of ot,rfl⟩,?_⟩;o!⟨tasks,g,c,lg⟩:=s;dsimp only at AT hw;cases tasks with
 | nil =>
  obtain rfl:ts=[]:=%cs AT.len;e! bY (bY ⟨_,rfl,q H' R _ (toS K') Mf Z' hst aU! hw ⟨n,hz,by w!⟩⟩)
 | cons t rest =>
 cases ts with
 | nil=>e! AT.elim
 | cons t1 tr =>
 ~e1:(!((t1::tr).reverse.map V.ref).isEmpty)=true:=by simp
 rw[e1];r! bO ⟨_,rfl,r,_,dx,_,_,rfl,Z'.obj,T.aW,T.cY,rfl,lg,rfl,?_⟩;cases lg with
 | true=>e! bY ⟨_,rfl,q H' R _ (toS K') Mf Z' hst dH! aU! ⟨n,hz,by w!⟩⟩
 | false =>
 ~nh:¬ halted ⟨t::rest,g,c,false⟩:=ju;~W':WT p most f.result ⟨t::rest,g,c,false⟩:=by
  rcases hw with h | h
  ·cases h
  ·e! h
 ~ms:=RQ W' nh;r! bO ⟨fun σ' H5=>gG a R p most H5 (gM p most ⟨t::rest,g,c,false⟩)/\aA R.M H2 H5/\σ'=[some gi!,some (.ref fp),some (.ref vl),some (.int (most:Nat)),some (.ref r)],?_,?_⟩
 ·rintro σ' H5 ⟨Z5,K5,rfl⟩;e! ⟨_,ms,gM p most ⟨t::rest,g,c,false⟩,n+1,rfl,by w!,V6 hz,V5 KP W' nh,hst.trans (.step nh (.refl _)),Z5,K5,rfl⟩
 r! ⟨_,rfl,_,rfl,r,_,dx,_,_,rfl,Z'.obj,T.aW,T.ib,rfl,.inl ⟨rfl,_,aX.of ot⟩,tl,_,_,rfl,rfl,ot,rev_last,?_⟩;rw[UU];~Z5:=Z'.Zf (ts:=tr) (tasks:=rest) AT.2;~K5:aA R.M H' (upd H' tl (.lst (tr.reverse.map V.ref))):=aA.upd (RA.P6 (R:=R));e! ⟨R,p,most,n,f.result,t1,t,rest,g,c,rfl,Z5,AT.1.turn (fG K5) bK,W',hz,by w!,G,λH6 Z6 k6=>⟨Z6,(K'.trans K5).trans k6,rfl⟩⟩
end
end Pay
namespace Pay
open PySem L2
open Vaamoa (isName ascii distinct Param Prog funAt typed valueFor valuesFor)
t! Ym{K:%ag}{a b:Addr}{xs ys:List V}(le:xs.length<=ys.length){g:TG}{tt:TT}{te:TE}{vs:List Nat}{σ:St}{H1:Hp}{D:Addr}{Qd:Hp->Prop}(Pv:Nat->Hp->Prop)(h0:Pv 0 (upd H1 D aL!))(hl:∀ i H,Pv i H->aX K H a xs/\aX K H b ys)
  (hs:∀ (i:Nat) (x y:V) (T:Addr) (H:Hp),xs[i]?=some x->ys[i]?=some y->Pv i H->H T=none->g (.ref T) eI! (upd H T fE!) fun σ2 H2=>wipe σ2 vs=wipe σ vs/\tt σ2 H2 λb H3 =>
   if b=true then te σ2 H3 λy H4=>∃ acc,H4 D=some f5!/\acc.length < sizeLine/\Pv (i+1) by! else Pv (i+1) H3) (hd:∀ H,Pv xs.length H->Qd H) :
  ∃ W:Nat->Nat->Hp->Prop,df!/\∀ i m H,W i m H ->
   ((WU K a b).stop i H/\Qd H)∨((WU K a b).go i H/\∃ Nx:Hp->Prop,bW!/\∀ y H',(WU K a b).Tb i H y H'->g y eI! H' fun σ2 H2=>wipe σ2 vs=wipe σ vs/\tt σ2 H2 λb H3 =>
    if b=true then te σ2 H3 λy H4=>∃ acc,H4 D=some f5!/\acc.length < sizeLine/\Nx by! else Nx H3):=by
 r! ⟨λi m H=>m=xs.length - i/\i<=xs.length/\Pv i H,⟨xs.length,by simp,Nat.zero_le _,h0⟩,?_⟩;rintro i m H ⟨rfl,hi,p⟩;o!⟨qx,qy⟩:=hl i H p;by_cases hlt:i < xs.length
 ·~hlt':i < ys.length:=by w!
  r! .inr ⟨⟨xs,ys,xs[i],ys[i],qx,qy,by simp[hlt],by simp[hlt']⟩,Pv (i+1),λH' p'=>⟨xs.length - (i+1),by w!,rfl,hlt,p'⟩,λv H' y=>?_⟩;o!⟨T,x,y,rfl,nT,rfl,ex,ey⟩:=y;e! hs i x y T H (ex xs qx) (ey ys qy) p nT
 ·~e:i=xs.length:=by w!
  subst e;e! .inl ⟨⟨xs,ys,qx,qy,.inl (%am _)⟩,hd H p⟩
def DO:List (Param×List Int)->Option (List %aF)
 | []=>some []
 | (q,l)::r=>(valueFor q.kind l).bind λv=>(DO r).map λvs=>v::vs
t! Kj{f:%aQ}{q:Param}(h:f.params=[q])(as bs:List Int):valuesFor f as bs=if bs.isEmpty=false then none else DO eo!:=by
 unfold valuesFor;rw[h];show (if bs.isEmpty=false then none else (valueFor q.kind as).map λv=>[v])=_;by_cases c:bs.isEmpty=false
 ·rw[if_pos c,if_pos c]
 ·rw[n! c,n! c];show (valueFor q.kind as).map (λv=>[v])=(valueFor q.kind as).bind λv=>(some []).map λvs=>v::vs
  cases valueFor q.kind as<;>rfl
t! Kk{f:%aQ}{q r:Param}(h:f.params=[q,r])(as bs:List Int):valuesFor f as bs=DO eo!:=by
 unfold valuesFor;rw[h];show (valueFor q.kind as).bind (λv=>(valueFor r.kind bs).map λw=>[v,w])=(valueFor q.kind as).bind λv=>((valueFor r.kind bs).bind λw=>(some []).map λvs=>w::vs).map λvs=>v::vs
 cases valueFor q.kind as with
 | none=>rfl
 | some v=>cases valueFor r.kind bs<;>rfl
section
variable {P:Program} {w:World} {K:PySem.W.Frag} {mg:Str->Option Value} {base:Heap} {a:Ad}
structure zS (H:Hp) (rl l1 l2:Addr) (as bs:List Int):Prop where
 rl:H rl=some (.lst [.ref l1,.ref l2])
 l1:H l1=some (.lst (as.map V.int))
 l2:H l2=some (.lst (bs.map V.int))
t! zS.same{H H':Hp}{rl l1 l2:Addr}{as bs:List Int}(h:zS H rl l1 l2 as bs)(S:bc H H'):zS H' rl l1 l2 as bs:=⟨S _ _ h.rl,S _ _ h.l1,S _ _ h.l2⟩
def Ot(a:Ad):Sp:=λvs H Q E=>∃ (fp:Addr) (f:%aQ) (rl l1 l2:Addr) (as bs:List Int),vs=[.ref fp,.ref rl]/\mz a rL H fp f/\A9 f/\zS H rl l1 l2 as bs /\
 (∀ H' vl us ws,valuesFor f as bs=some ws->bc H H'->H' vl=some (.lst us)->eG (λv x=>mC rL H' x v) us ws->Q (.ref vl) H')/\(∀ H',valuesFor f as bs=none->bc H H'->E dA! none H')
t! MS(T:eo K mg a):aK P w K mg base (bA P w) 2 a.p9 a.qb dW! (Ot a):=by
 ~GV:aK P w K mg base (bA P w) 1 a.sY a.sZ fi! (Ht a):=Oj T;r! T.zK.kY rh ab! aa!
 ·o!⟨fp,f,rl,l1,l2,as,bs,rfl,_⟩:=h;rfl
 o!⟨fp,f,rl,l1,l2,as,bs,rfl,F,G,R,q1,q2⟩:=h;r! ⟨_,af (cE (PW.pt (LY (bG i8 a5! aI (cy _)) (Hc (pJ (cG aZ (pv 1) aI ar!) e9!))))
   (ah dQ!) bD)
  (ah (aH (X3 (P:=P) (w:=w) (E:=E) (own:=[("parameter",2),("row",3)]) (te:=Qu (Ht a) [] E (ye (wK K (i7 2) "kind") (ye (i7 3) Gs))) (g:=Xl K 2 (M9 (nM 2) (M9 (nM 3) Xk))) (tt:=HM) rfl rh.nd (OO rfl T.Lz (aa ad! aF!)) (i9 rfl)
   (λ_ _ _ _ _=>OD rfl (vM (cb (i:=2) rh.nd rfl al!) (vM (cb (i:=3) rh.nd rfl al!) L3))) cG! X2
   (λ_ _ _ _ _=>az GV hr rfl T.Jg T.Cm.kp T.Jf .nil VT (aa bE! bZ!))))),?_⟩
 o!⟨dx,pl,ps,bp,oF,opl,AP,_⟩:=F.ex;~lp:=AP.len;~g1:=G.least;~g2:=G.most;~rest:valuesFor f as bs=DO eo!->(Rl (XE (Y3 K (ye (wK K (i7 0) "parameters") (ye (i7 1) Gs))) (Xl K 2 (M9 (nM 2) (M9 (nM 3) Xk))) HM (Qu (Ht a) [] E (ye (wK K (i7 2) "kind") (ye (i7 3) Gs))) ([(("parameter":Str),2),("row",3)].map (·.2)))) {nx:=λ_ H'=>Q .fK H',rt:=Q} [some (.ref fp),some (.ref rl),none,none] H:=by
  intro ev;r! ⟨_,rfl,fp,_,dx,_,_,rfl,oF,T.bw,T.bb,rfl,_,rfl,pl,rl,_,_,rfl,aX.of opl,aX.of R.rl,λD nD=>?_⟩;r! Ym (K:=K) (a:=pl) (b:=rl) (xs:=ps.map V.ref) (ys:=[.ref l1,.ref l2]) (by rw[%ac];show ps.length<=2;w!)
   (λi H'=>∃ (us:List V) (ws:List %aF),H' D=some (.lst us)/\bc H H'/\eG (λv x=>mC rL H x v) us ws/\ws.length=i/\i<=ps.length/\valuesFor f as bs=(DO ((f.params.zip [as,bs]).drop i)).map λvs=>ws++vs)
   ⟨[],[],ae,ay nD _,trivial,rfl,%aE _,?_⟩ (λi H' ⟨_,_,_,S,_⟩=>⟨aX.of (S _ _ opl),aX.of (S _ _ R.rl)⟩) ?_ ?_
  ·rw[ev,%cy];cases DO eo!<;>rfl
  ·rintro i x y Tp H' hx hy ⟨us,ws,oD,S,AV,lw,_,vv⟩ nT;rw[%al] at hx;o!⟨pa,ek,rfl⟩:=%ab hx;o!⟨pq,epq,⟨dq,oq⟩,_⟩:=AP.at ek;~hi:i < ps.length:=(%ae ek).1;~S1:=ay nT (.tup [.ref pa,y]);~S01:=S.trans S1;obtain ⟨lr,row,ey,el,er⟩:∃ (lr:Addr) (row:List Int),y=.ref lr/\H lr=some (.lst (row.map V.int))/\[as,bs][i]?=some row:=by
    match i,hy with
    | 0,hy=>cases hy;e! ⟨l1,as,rfl,R.l1,rfl⟩
    | 1,hy=>cases hy;e! ⟨l2,bs,rfl,R.l2,rfl⟩
   subst ey;~ez:(f.params.zip [as,bs])[i]?=some (pq,row):=List.getElem?_zip_eq_some.mpr ⟨epq,er⟩;~hz:i < (f.params.zip [as,bs]).length:=(%ae ez).1;~dz:(f.params.zip [as,bs]).drop i=(pq,row)::(f.params.zip [as,bs]).drop (i+1):=by
    rw[%aT hz,(%ae ez).2]
   rw[dz] at vv;change _=((valueFor pq.kind row).bind λv=>(DO ((f.params.zip [as,bs]).drop (i+1))).map λvs=>v::vs).map λvs=>ws++vs at vv
   r! ⟨Tp,_,rfl,JQ.of ae,rfl,_,_,rfl,_,_,rfl,rfl,rfl,zM ?_⟩;r! ⟨_,rfl,pa,_,dq,_,_,rfl,S01 _ _ oq,T.fe,T.cV,rfl,_,rfl,pq.kind,lr,row,rfl,S01 _ _ el,λv u hv VA pe=>?_,λhv=>?_⟩
   ·rw[hv,%ax] at vv;r! ⟨us,S1 _ _ oD,?_,us++[u],ws++[v],ae,λb o e=>?_,AV.app ⟨?_,trivial⟩,by rw[%aq,%bQ,lw],hi,?_⟩
    ·have:=AV.len;e! %ai (show us.length<=2 by w!) ag!
    ·rw[ai eB!];e! S01 b o e
    ·cases v with
     | num n=>e! VA
     | list l =>
      o!⟨p',rfl,ep⟩:=VA;cases pe p' rfl;r! ⟨_,rfl,trivial,?_⟩;rw[←ep,el];e! (S01 _ _ el).symm
    ·rw[vv,Option.map_map];cases DO ((f.params.zip [as,bs]).drop (i+1))<;>simp
   ·rw[hv] at vv;e! q2 _ vv S01
  ·rintro H' ⟨us,ws,oD,S,AV,lw,_,vv⟩;rw[%ac] at lw vv;~dz:(f.params.zip [as,bs]).drop ps.length=[]:=%ce (by rw[List.length_zip];w!);rw[dz] at vv;r! q1 H' D us ws (by rw[vv];simp[DO]) S oD (AV.imp λ_ _ h=>h.turn bP! bK)
 r! ⟨_,rfl,fp,_,dx,_,_,rfl,oF,T.bw,T.bb,rfl,pl,_,rfl,.inl (aX.of opl),rfl,_,rfl,?_⟩;~e1:decide (V.int (((ps.map V.ref).length:Nat):Int)=V.int 1)=decide (f.params.length=1):=by
  rw[decide_eq_decide,V.int.injEq,%ac];w!
 rw[e1];by_cases c:f.params.length=1
 ·rw[decide_eq_true c];o!⟨pq,epq⟩:=List.length_eq_one_iff.mp c;~v1:=Kj epq as bs;r! bO ⟨_,rfl,rl,_,1,_,rfl,rfl,aX.of R.rl,rfl,_,.inl ⟨_,aX.of R.l2,rfl⟩,?_⟩;cases bs with
  | nil=>e! bY (rest v1)
  | cons z zs=>e! bO (q2 H v1 (bc.refl _))
 ·rw[decide_eq_false c];~c2:f.params.length=2:=by w!
  obtain ⟨q,r,e2⟩:∃ q r,f.params=[q,r]:=by
   match f.params,c2 with
   | [q,r],_=>e! ⟨q,r,rfl⟩
  e! bY (bY (rest (Kk e2 as bs)))
t! zT{k:%aP}{l:List Int}{v:%aF}(h:valueFor k l=some v):cP v=k/\Iq v:=by
 rw[F9] at h;split at h
 ·cases h
 rename_i c
 ~al:l.all inR=true:=by simpa using c
 ~UB:∀ z∈l,z.toNat<=99:=λz hz=>by
  have:=%az al z hz;unfold inR Vaamoa.NUMBER at this;simp only[Bool.and_eq_true,decide_eq_true_eq] at this;w!
 cases k with
 | num =>
  match l,h,UB with
  | [z],h,UB=>cases h;e! ⟨rfl,UB z ai!⟩
 | list =>
  ~h:(if 12 < l.length then none else some (Vaamoa.Value.list (l.map Int.toNat)))=some v:=h;split at h
  ·cases h
  ·cases h;r! ⟨rfl,by rw[%ac];w!,λn hn=>?_⟩;o!⟨z,hz,rfl⟩:=%bH hn;e! UB z hz
t! SI{f:%aQ}{as bs:List Int}{ws:List %aF}(h:valuesFor f as bs=some ws):ws.length=f.params.length/\(∀ v∈ws,Iq v)/\ja (%ca f ws)=f.params:=by
 unfold valuesFor at h;split at h
 ·rename_i q e
  split at h
  ·cases h
  ·o!⟨v,h1,h2⟩:=%ab h;subst h2;o!⟨k1,k2⟩:=zT h1;e! ⟨by rw[e];rfl,λx hx=>by cases %aN hx;e! k2,KW e k1⟩
 ·rename_i q r e
  o!⟨v,h1,h⟩:=%aa h;o!⟨u,h2,h3⟩:=%ab h;subst h3;o!⟨k1,k2⟩:=zT h1;o!⟨k3,k4⟩:=zT h2;r! ⟨by rw[e];rfl,λx hx=>?_,KY e k1 k3⟩;rcases %ak hx with rfl | hx
  ·e! k2
  ·cases %aN hx;e! k4
 ·cases h
structure W4 (a:Ad) (H H':Hp) (r:Addr) (p:Prog) (most:Nat) (f:Vaamoa.Fun) (ws:List Vaamoa.Value):Prop where
 ex:∃ (R:RA) (s:nI),R.r=r/\(∀ b∈R.M,H b=none)/\gG a R p most H' s/\dI p most dP! s/\halted s/\dI!/\∃ n,Sz n s/\n<=2000
def Hu(a:Ad):Sp:=λvs H Q E=>∃ (ok:Addr->Prop) (g:Addr) (x:Text) (p:Prog) (fp:Addr) (f:%aQ) (rl l1 l2:Addr) (as bs:List Int) (most:Nat),vs=[.ref g,.ref fp,.ref rl,.int (most:Nat)]/\A3 a ok H g x p/\qU p/\Ir p/\mz a ok H fp f/\f∈p/\zS H rl l1 l2 as bs/\most<=400 /\
 (∀ H' r ws,valuesFor f as bs=some ws->bc H H'->W4 a H H' r p most f ws->Q (.ref r) H')/\(∀ H',valuesFor f as bs=none->bc H H'->E dA! none H')
t! EW(T:eo K mg a)(Mc:UQ P w K mg a):aK P w K mg base (bA P w) 7 a.sW a.sX aN! (Hu a):=by
 ~GV:aK P w K mg base (bA P w) 6 a.p9 a.qb dW! (Ot a):=(MS T).mono (by w!);~GR:FB! 6 a.zm a.zo bh! (Q2 a):=SH T Mc;r! T.zJ.kY RT ab! aa!
 ·o!⟨ok,g,x,p,fp,f,rl,l1,l2,as,bs,most,rfl,_⟩:=h;rfl
 o!⟨ok,g,x,p,fp,f,rl,l1,l2,as,bs,most,rfl,PA,G,KP,F,fm,R,m4,q1,q2⟩:=h;r! ⟨_,ah (aH (az GR hr rfl T.NT T.IT.kp T.NS .nil aM (aa ad! (aa (pv 1) (aa (az GV hr rfl T.FW T.zK.kp T.FV .nil aB bc!) bZ!))))),?_⟩;o!⟨dx,tl,fl,nl,fs,ps,og,otl,ofl,onl,AF,AN,_⟩:=PA.ex;~AF':cS a rL H fs p:=AF.turn du! λ_ _=>trivial
 ~F':mz a rL H fp f:=F.turn du! λ_ _=>trivial
 r! ⟨_,rfl,g,_,dx,_,_,rfl,og,T.bX,T.aV,rfl,_,rfl,_,rfl,_,rfl,fp,f,rl,l1,l2,as,bs,rfl,F',G.i6 f fm,R,λH1 vl us ws ev S1 ovl AV=>?_,λH1 ev S1=>q2 H1 ev S1⟩;o!⟨lw,vok,tye⟩:=SI ev;r! ⟨_,rfl,fl,fs,p,fp,f,vl,us,ws,most,rfl,S1 _ _ ofl,AF'.turn dD! bK,G,KP,F'.turn dD! bK,fm,ovl,AV,vok,tye,lw,m4,λH2 RR s S2 Mf Z hst hh hw hz=>?_⟩;e! q1 H2 RR.r ws ev f1! ⟨RR,s,rfl,λb hb=>S1.free (Mf b hb),Z,hst,hh,hw,hz⟩
end
end Pay
namespace Pay
open PySem L2
open Vaamoa (isName ascii distinct Param Prog funAt typed valueFor valuesFor)
structure Row (xs:List Int) (i:Nat) (l:List Int) (j:Nat):Prop where
 hd:xs[i]?=some (l.length:Int)
 it:(xs.drop (i+1)).take l.length=l
 nx:j=i+1+l.length
 le:j<=xs.length
def G4(us:List V):List (Str×V):=match us with
 | [p]=>[("program",p)]
 | _=>[]
structure St (a:Ad) (K:PySem.W.Frag) (ok:Addr->Prop) (H:Hp) (h hx g f dx c:Addr) (xs:List Int) (i:Nat) (x:Text) (p:Prog):Prop where
 Ih:H h=some b0!
 pr:A3 a ok H g x p
 fd:Ct a K H f dx c xs i
 ne:h≠f
 pm:pO x=some p
 good:qU p
 len:x.length<=2000
 Vm:∀ b,ok b->b∉[h,f]
 fr:∀ b,H b=none->ok b
t! EX{x:Text}{p:Prog}(h:pO x=some p):Ir p:=λf hf=>by
 unfold pO at h;o!⟨p',h1,h2⟩:=%aa h;split at h2
 ·rename_i c
  cases h2;have:=%az c f hf;unfold uM at this;cases e:typed p f.params f.body with
  | none=>rw[e] at this;cases this
  | some t =>
   rw[e] at this;e! ⟨t,rfl,by simpa using this⟩
 ·cases h2
t! MT{x:Text}{p:Prog}(h:pO x=some p):Vaamoa.progText p=x:=by
 unfold pO at h;o!⟨p',h1,h2⟩:=%aa h;split at h2
 ·cases h2;e! (vR.mp h1).2
 ·cases h2
section
variable {P:Program} {w:World} {K:PySem.W.Frag} {mg:Str->Option Value} {base:Heap} {a:Ad} {ok:Addr->Prop} {H H':Hp} {h hx g f dx c:Addr} {xs:List Int} {i j:Nat} {x:Text} {p:Prog}
t! St.same(Z:St a K ok H h hx g f dx c xs i x p)(S:bc H H'):St a K ok H' h hx g f dx c xs i x p:=⟨S _ _ Z.Ih,Z.pr.turn bP! bK,Z.fd.same S,Z.ne,Z.pm,Z.good,Z.len,Z.Vm,λb h=>Z.fr b (S.free h)⟩
t! St.feed(Z:St a K ok H h hx g f dx c xs i x p)(k:aA [f] H H')(F:Ct a K H' f dx c xs j):St a K ok H' h hx g f dx c xs j x p :=
 ⟨k.keep _ _ Z.Ih (by simpa using Z.ne),Z.pr.turn (λb o hb e=>k.keep b o e λz=>Z.Vm b hb fU!) bK,F,Z.ne,Z.pm,Z.good,Z.len,Z.Vm,λb h=>Z.fr b (k.none h)⟩
def DP(a:Ad)(K:%ag):Sp:=λvs H Q E=>∃ (ok:Addr->Prop) (h hx g f dx c:Addr) (xs:List Int) (i:Nat) (x:Text) (p:Prog) (gn:Int) (as bs:List Int) (i2 j:Nat),vs=[.ref h,.ref f]/\St a K ok H h hx g f dx c xs i x p/\xs[i]?=some gn/\Row xs (i+1) as i2/\Row xs i2 bs j /\
 (∀ H' r u ws,¬ gn < 0->p[gn.toNat]?=some u->valuesFor u as bs=some ws->St a K ok H' h hx g f dx c xs j x p->aA [f] H H'->W4 a H H' r p 400 u ws->Q (.ref r) H') /\
 (∀ H',(gn < 0∨p[gn.toNat]?=none)->St a K ok H' h hx g f dx c xs j x p->aA [f] H H'->E eH! none H') /\
 (∀ H' u,¬ gn < 0->p[gn.toNat]?=some u->valuesFor u as bs=none->St a K ok H' h hx g f dx c xs j x p->aA [f] H H'->E dA! none H')
t! rM(T:eo K mg a)(Mc:UQ P w K mg a):aK P w K mg base (bA P w) 8 a.hX a.hZ ah! (DP a K):=by
 ~GN:FB! 7 a.bB a.bC ["self"] (xU a K):=(g9 T).mono (by w!);~G2:FB! 7 a.cj a.ck ["self"] (Hs a K):=(oS T).mono (by w!);~GF:aK P w K mg base (bA P w) 7 a.gz a.gC cf! f3!:=(tR T).mono (by w!);~GR:aK P w K mg base (bA P w) 7 a.sW a.sX aN! (Hu a):=EW T Mc;r! T.mw.kY rg ab! aa!
 ·o!⟨ok,h,hx,g,f,dx,c,xs,i,x,p,gn,as,bs,i2,j,rfl,_⟩:=h;rfl
 o!⟨ok,h,hx,g,f,dx,c,xs,i,x,p,gn,as,bs,i2,j,rfl,Z,en,R1,R2,q1,q2,q3⟩:=h;o!⟨t1,g1⟩:=T.fP;r! ⟨_,af (aE (i:=2) rg.nd rfl al! aX!)
  (af (aE (i:=3) rg.nd rfl al! dk!)
  (af (aE (i:=4) rg.nd rfl al! cy!)
  (ah (aH (az GR hr rfl T.Dt T.zJ.kp T.Ds .nil aB (aa ad! (aa (pv 4) (aa (pv 3) cX!)))))))),?_⟩
 ~F0:=Z.fd;r! ⟨_,rfl,f,dx,_,rfl,F0.obj,rfl,f,dx,c,xs,i,gn,rfl,F0,en,?_⟩;~hi:i < xs.length:=(%ae en).1;~F1:=F0.move (j:=i+1) (by w!);~K1:aA [f] H fO!:=aA.upd ai!;generalize hH1:upd H f aY!=H1 at *;~e2:i+1+1+as.length=i2:=R1.nx.symm;~r2h:=R2.hd;~r2n:=R2.nx;~r2l:=R2.le;r! ⟨_,rfl,f,dx,_,rfl,F1.obj,rfl,f,dx,c,xs,i+1,as.length,bs.length,rfl,F1,R1.hd,by rw[e2];e! r2h,by w!,λl1 l2 l H2 n1 n2 nl K2 F2 o1 o2 ol=>?_⟩;~ej:i+1+1+as.length+1+bs.length=j:=by w!
 rw[ej] at F2;~K12:=K1.trans K2;~Z2:=Z.feed K12 F2;~RW:zS H2 l l1 l2 as bs:=⟨ol,by rw[o1,R1.it],by rw[o2,e2,R2.it]⟩;o!⟨dp,tl,fl,nl',fs,ps,og,otl,ofl,onl,AF,AN,kY,ok2,ok3,ok4⟩:=Z2.pr.ex;~lf:=AF.len;r! ⟨_,rfl,h,_,hx,_,_,rfl,Z2.Ih,T.dJ,T.aL,rfl,_,rfl,g,dp,tl,fl,nl',fs,gn,rfl,og,ofl,λk fp ek efp=>?_,λho=>?_⟩
 rotate_left
 ·r! q2 H2 ?_ Z2 K12;rcases ho with ho | ho
  ·e! .inl ho
  ·by_cases c0:gn < 0
   ·e! .inl c0
   ·e! .inr (%bS (by w!))
 o!⟨u,eu,FU⟩:=AF.at efp;subst ek;~c0:¬ ((k:Nat):Int) < 0:=by w!
 r! ⟨_,rfl,h,_,hx,_,_,rfl,Z2.Ih,T.dJ,T.aL,rfl,_,rfl,_,rfl,_,g,x,p,fp,u,l,l1,l2,as,bs,400,rfl,Z2.pr,Z2.good,EX Z2.pm,FU,%bg eu,RW,%am _,λH3 r ws ev S3 RA=>?_,λH3 ev S3=>?_⟩
 ·o!⟨R,s',e1,Mf,z1,z2,z3,z4,z5⟩:=RA.ex;e! q1 H3 r u ws c0 (by simpa using eu) ev gu! (K12.same S3) ⟨R,s',e1,λb hb=>K12.none (Mf b hb),z1,z2,z3,z4,z5⟩
 ·e! q3 H3 u c0 (by simpa using eu) ev gu! (K12.same S3)
end
end Pay
namespace Pay
open PySem L2
open Vaamoa (isName ascii distinct Param Prog funAt typed valueFor valuesFor toldValue toldOut paidBy peakBy)
section
variable {P:Program} {w:World} {K:PySem.W.Frag} {mg:Str->Option Value} {base:Heap} {a:Ad}
def r9:Sp:=λvs H Q _=>∃ (l:Addr) (us:List V),vs=[.ref l]/\H l=some (.lst us)/\us.length<=100000/\∀ H' r,bc H H'->H r=none->H' r=some (.lst (V.int (us.length:Nat)::us))->Q (.ref r) H'
t! tS(T:eo K mg a):FB! 1 a.jE a.jF ["row"] r9:=by
 r! T.oM.ok Pf ab! aa!
 ·o!⟨l,us,rfl,_⟩:=h;rfl
 o!⟨l,us,rfl,ol,lu,q⟩:=h;r! ⟨_,ah (aH (yM HJ (cz (aa fy! ag)) (pv 0))),?_⟩;r! ⟨_,rfl,l,_,rfl,.inl (aX.of ol),by show 1<=sizeLine;decide,λl1 n1=>?_⟩;~S1:=ay n1 (.lst [V.int (us.length:Nat)]);r! ⟨_,rfl,l1,l,_,_,rfl,rfl,ae,S1 _ _ ol,?_,λl2 n2=>?_⟩
 ·e! %aj (show 1+us.length<=100001 by w!) ag!
 ·e! q _ l2 (S1.trans (ay n2 _)) (S1.free n2) (by rw[ae];rfl)
def UW:Sp:=λvs H Q _=>∃ (v:%aF) (u:V),vs=[u]/\mC rL H v u/\Iq v/\∀ H' r,bc H H'->H r=none->H' r=some (.lst ((toldValue v).map V.int))->Q (.ref r) H'
t! Kl(T:eo K mg a):FB! 2 a.mT a.mU ["value"] UW:=by
 ~GC:FB! 1 a.jE a.jF ["row"] r9:=tS T;r! T.xN.ok J9 ab! aa!
 ·o!⟨v,u,rfl,_⟩:=h;rfl
 o!⟨v,u,rfl,hv,ok,q⟩:=h;o!⟨t1,g1⟩:=T.jo;o!⟨t2,g2⟩:=T.qI;r! ⟨_,af (cE (qo (aR TY rfl T.rJ PyProof.Rows.boot_isinstance (aa (pv 0) (aa (Vr (v:=.ty "int") rfl T.Jh %cj rfl) ag))))
   (ah (aH (cz (aa aD! (aa aI aP!))))) bD)
  (ah (aH (yM HJ (cz (aa aJ! ag)) (az GC hr rfl T.rY T.oM.kp T.rX .nil aM aP!)))),?_⟩
 cases v with
 | num n =>
  cases (show u=V.int (n:Nat) from hv);r! ⟨_,rfl,_,true,rfl,.inl ⟨rfl,_,rfl⟩,_,rfl,?_⟩;r! bO ⟨_,rfl,by show 3<=sizeLine;decide,λl nl=>q _ l (ay nl _) nl ae⟩
 | list ls =>
  o!⟨lp,rfl,_,ol⟩:=hv;o!⟨o1,o2⟩:=ok;r! ⟨_,rfl,_,false,rfl,.inr ⟨rfl,_,_,rfl,ol⟩,_,rfl,?_⟩;r! bY ⟨by show 1<=sizeLine;decide,λl1 n1=>?_⟩;~S1:=ay n1 (.lst [V.int 1]);r! ⟨_,rfl,lp,_,rfl,S1 _ _ ol,by rw[%ac];w!,λH2 r S2 _ or_=>?_⟩;r! ⟨l1,r,_,_,rfl,rfl,S2 _ _ ae,or_,?_,λl2 n2=>?_⟩
  ·simp only[List.length_cons,List.length_map,List.length_nil];e! %aj (show 1+(ls.length+1)<=42 by w!) ag!
  ·r! q _ l2 ((S1.trans S2).trans (ay n2 _)) ((S1.trans S2).free n2) ?_;rw[ae];congr 2;simp[toldValue,Vaamoa.toldNats,Vaamoa.ints]
def Wn(s:nI):List Int:=(if s.long=true then 1 else 0)::(s.acc.steps:Int)::paidBy s.acc.ticks::peakBy s.acc.ticks::(if s.long=true then [] else (s.given.head?.map toldValue).getD [])
t! Ou{p:Prog}{most:Nat}{f:%aQ}{ws:List %aF}{s:nI}(h:dI p most dP! s)(hs:halted s):Wn s=toldOut (%bB p most f ws):=by
 rcases Ml h hs with ⟨h1,v,h2,h3⟩ | ⟨h1,h2⟩
 ·rw[h3];unfold Wn;rw[h1,h2];rfl
 ·rw[h2];unfold Wn;rw[h1];rfl
t! Ov{p:Prog}{most:Nat}{f:%aQ}{ws:List %aF}{s:nI}(h:dI p most dP! s)(hs:halted s)(hw:s.long=true∨WT p most f.result s):s.long=true∨∃ v,s.given=[v]/\Iq v:=by
 rcases Ml h hs with ⟨h1,v,h2,h3⟩ | ⟨h1,h2⟩
 ·rcases hw with hw | hw
  ·e! .inl hw
  ·e! .inr ⟨v,h2,hw.vals v (by rw[h2];simp)⟩
 ·e! .inl h1
def EY(a:Ad):Sp:=λvs H Q _=>∃ (R:RA) (p:Prog) (most:Nat) (s:nI),vs=[.ref R.r]/\gG a R p most H s/\(s.long=true∨∃ v,s.given=[v]/\Iq v)/\∀ H' l,bc H H'->H l=none->H' l=some (.lst ((Wn s).map V.int))->Q (.ref l) H'
t! BD(T:eo K mg a):FB! 3 a.jG a.jH ["run"] (EY a):=by
 ~GT:FB! 2 a.mT a.mU ["value"] UW:=Kl T;r! T.rF.ok Bd ab! aa!
 ·o!⟨R,p,most,s,rfl,_⟩:=h;rfl
 o!⟨R,p,most,s,rfl,Z,hv,q⟩:=h;r! ⟨_,af (aE (i:=1) Bd.nd rfl al! (cz (aa (HD (pJ ad! e9!) aI aI) (aa ad! (aa ad! eF!)))))
  (af (cE (yJ (pJ ad! e9!))
   (ah (aF (hG %ah %bG %bF Aj (pv 1) (aa (az GT hr rfl T.Dr T.xN.kp T.Dq .nil aM (aa aR! ag)) ag)))) bD)
  (ah gg!)),?_⟩
 o!⟨gs,og,AG⟩:=Z.Sw;o!⟨tasks,g,acc,lg⟩:=s;dsimp only at hv AG;r! ⟨_,rfl,R.r,_,R.dx,_,_,rfl,Z.obj,T.aW,T.cY,rfl,lg,rfl,?_⟩;cases lg with
 | true =>
  r! bO ⟨_,rfl,R.r,_,R.dx,_,_,rfl,Z.obj,T.aW,T.ic,rfl,_,rfl,R.r,_,R.dx,_,_,rfl,Z.obj,T.aW,T.iu,rfl,_,rfl,R.r,_,R.dx,_,_,rfl,Z.obj,T.aW,T.iw,rfl,by show 4<=sizeLine;decide,λl nl=>?_⟩;~S1:=ay nl (.lst [V.int 1,V.int (acc.steps:Nat),V.int (paidBy acc.ticks),V.int (peakBy acc.ticks)]);r! ⟨_,rfl,R.r,_,R.dx,_,_,rfl,S1 _ _ Z.obj,T.aW,T.cY,rfl,true,rfl,?_⟩;e! bY ⟨_,rfl,q _ l S1 nl ae⟩
 | false =>
  r! bY ⟨_,rfl,R.r,_,R.dx,_,_,rfl,Z.obj,T.aW,T.ic,rfl,_,rfl,R.r,_,R.dx,_,_,rfl,Z.obj,T.aW,T.iu,rfl,_,rfl,R.r,_,R.dx,_,_,rfl,Z.obj,T.aW,T.iw,rfl,by show 4<=sizeLine;decide,λl nl=>?_⟩;~S1:=ay nl bb!;r! ⟨_,rfl,R.r,_,R.dx,_,_,rfl,S1 _ _ Z.obj,T.aW,T.cY,rfl,false,rfl,?_⟩;obtain ⟨v,rfl,ok⟩:∃ v,g=[v]/\Iq v:=by
   rcases hv with h | h
   ·cases h
   ·e! h
  o!⟨u,gr,rfl,hu,AG⟩:=AG.Ol;obtain rfl:gr=[]:=%cs AG.len;~ol:upd H l bb! l=some bb!:=ae;r! bO ⟨_,rfl,.inl ⟨rfl,_,aX.of ol⟩,_,rfl,R.r,_,R.dx,_,_,rfl,S1 _ _ Z.obj,T.aW,T.bo,rfl,R.gl,_,0,_,rfl,rfl,aX.of (S1 _ _ og),rfl,v,u,rfl,(hu.turn dD! λ_ _=>trivial),ok,λH2 r S2 _ or_=>?_⟩;~lt:(toldValue v).length<=42:=by
   cases v with
   | num n=>simp[toldValue]
   | list ls =>
    have:=ok.1;simp[toldValue,Vaamoa.toldNats,Vaamoa.ints];w!
  ~neg:∀ b o,H b=some o->b≠l:=λb o e=>aq e nl
  r! ⟨l,r,_,_,rfl,rfl,S2 _ _ ol,or_,?_,?_⟩
  ·rw[%ac];e! %aj (show 4+(toldValue v).length<=46 by w!) ag!
  ·r! ⟨_,rfl,q _ l (λb o e=>?_) nl ?_⟩
   ·rw[ai (neg b o e)];e! S2 _ _ (S1 _ _ e)
   ·rw[ae];rfl
end
end Pay
namespace Pay
open PySem L2
open Vaamoa (isName ascii distinct Param Prog funAt typed valueFor valuesFor toldValue toldOut paidBy peakBy does given tell onRun onFun)
def Args(xs:List Int)(i:Nat):%ch->Nat->Prop
 | .program t,j=>Row xs i (t.map λb=>(b.toNat:Int)) j/\t.length<=2000
 | .show_,j=>j=i
 | .kinds,j=>j=i
 | .run g as bs,j=>∃ i2,xs[i]?=some g/\Row xs (i+1) as i2/\Row xs i2 bs j
 | .ticks g as bs,j=>∃ i2,xs[i]?=some g/\Row xs (i+1) as i2/\Row xs i2 bs j
 | .counts g as bs,j=>∃ i2,xs[i]?=some g/\Row xs (i+1) as i2/\Row xs i2 bs j
 | .calls g as bs,j=>∃ i2,xs[i]?=some g/\Row xs (i+1) as i2/\Row xs i2 bs j
 | .scaled g k as bs,j=>∃ i2,xs[i]?=some g/\xs[i+1]?=some k/\Row xs (i+2) as i2/\Row xs i2 bs j
 | .within g m as bs,j=>∃ i2,xs[i]?=some g/\xs[i+1]?=some m/\Row xs (i+2) as i2/\Row xs i2 bs j
 | .node l,j=>xs[i]?=some l/\j=i+1
 | .size,j=>j=i
def UX(a:Ad):Nat->Addr
 | 1=>a.aD
 | 2=>a.bZ
 | 3=>a.ba
 | 4=>a.fE
 | _=>a.cB
def yF(a:Ad)(K:%ag)(W:%ch->Prop):Sp:=λvs H Q E=>∃ (ok:Addr->Prop) (h hx g f dx c:Addr) (xs:List Int) (i:Nat) (x:Text) (p:Prog) (k:%ch) (j:Nat),vs=[.ref h,.ref f]/\St a K ok H h hx g f dx c xs i x p/\W k/\Args xs i k j/\j<=xs.length /\
 (∀ H' l ans g' x' p',H l=none->does ⟨p⟩ k=.ok (⟨p'⟩,ans)->H' l=some (.lst (ans.map V.int))->St a K ok H' h hx g' f dx c xs j x' p'->aA [h,f] H H'->Q (.ref l) H') /\
 (∀ H' n,does ⟨p⟩ k=.error n->1<=n->n<=5->St a K ok H' h hx g f dx c xs j x p->aA [h,f] H H'->E (.ref (UX a n)) none H')
t! JB(p:Prog):(cC p).length=(Vaamoa.labels p).length:=by
 unfold cC Vaamoa.labels Vaamoa.allNodes;rw[%ac]
 induction p with
 | nil=>rfl
 | cons f r ih =>
  rw[%bn,%bn,%aq,%aq,ih,Cp];rfl
t! k1{h f:Addr}:∀ b∈[f],b∈[h,f]:=λb hb=>by simp at hb;simp[hb]
section
variable {P:Program} {w:World} {K:PySem.W.Frag} {mg:Str->Option Value} {base:Heap} {a:Ad}
t! DQ(T:eo K mg a)(Cn:SR P w K mg a)(Dc:WY P w K mg a)(Sg:Yc P w K mg a):aK P w K mg base (bA P w) 45 a.gX a.jD ah! (yF a K λk=>∃ t,k=.program t):=by
 ~GR:FB! 44 a.fM a.fN ["self"] (MN a K):=(F8 T).mono (by w!);~GP:aK P w K mg base (bA P w) 44 a.jy a.jz ["text"] (zO K a):=BA T Cn Dc Sg;r! T.oK.kY De ab! aa!
 ·o!⟨ok,h,hx,g,f,dx,c,xs,i,x,p,k,j,rfl,_⟩:=h;rfl
 o!⟨ok,h,hx,g,f,dx,c,xs,i,x,p,k,j,rfl,Z,⟨t,rfl⟩,⟨R,lt⟩,lj,q1,q2⟩:=h;r! ⟨_,af (bf (pv 0) (az GP hr rfl T.xG T.rD.kp T.xF .nil aB (aa (cO (pv 1) T.dS T.lE GR hr T.lD .nil aM) ag)) rfl)
  (ah (aH (cz (aa dd! (aa dd! ag))))),?_⟩
 ~F0:=Z.fd;~dd:does ⟨p⟩ (.program t)=given (pO t) 1 λp=>.ok (⟨p⟩,[(p.length:Int),((Vaamoa.labels p).length:Int)]):=by
  show given (Vaamoa.progOf t) 1 _=_;rw[RP]
 ~rn:=R.nx;r! ⟨_,rfl,f,dx,_,rfl,F0.obj,rfl,f,dx,c,xs,i,_,rfl,F0,R.hd,by w!,λl nl=>?_⟩;rw[R.it,←rn];~nlf:l≠f:=(aq F0.obj nl).symm;~F1:=F0.move (j:=j) lj;~nl1:upd H f db! l=none:=by rw[ai nlf];e! nl
 ~S1:=ay nl1 bS!;~K1:aA [f] H (upd (upd H f db!) l bS!):=(aA.upd ai!).same S1;~Z1:=Z.feed K1 (F1.same S1);~ol:upd (upd H f db!) l bS! l=some (.lst ((codes t).map λn=>V.int (n:Nat))):=by
  rw[ae];congr 2;simp[codes]
 generalize hH1:upd (upd H f db!) l bS!=H1 at *;r! ⟨l,t,rfl,aX.of ol,lt,λH2 g' p' em G S2 PA=>?_,λH2 em S2=>?_⟩
 rotate_left
 ·rw[em] at dd;e! q2 H2 1 dd (%am _) (by w!) (Z1.same S2) ((K1.same S2).mono k1)
 rw[em] at dd;~Z2:=Z1.same S2;r! ⟨_,rfl,h,_,hx,_,rfl,Z2.Ih,T.dJ,T.aL,by show 1 < 1000;decide,?_⟩;~ef:nL "program" (V.ref g') (G4 [.ref g])=G4 [.ref g']:=rfl;rw[ef];~K2:aA [h,f] H2 (upd H2 h (.ins a.cU hx (G4 [.ref g']))):=aA.upd ai!;generalize hH3:upd H2 h (.ins a.cU hx (G4 [.ref g']))=H3 at *;~PA3:A3 a ok H3 g' t p':=PA.turn (λb o hb e=>K2.keep b o e (Z1.Vm b (Z1.fr b hb))) Z1.fr;~Z3:St a K ok H3 h hx g' f dx c xs j t p':=by
  r! ⟨by rw[←hH3];e! ae,PA3,?_,Z.ne,em,G,lt,Z.Vm,λb hb=>Z2.fr b (K2.none hb)⟩;~k:aA [h] H2 H3:=by rw[←hH3];e! aA.upd ai!
  e! ⟨k.keep _ _ Z2.fd.obj (by simpa using Ne.symm Z.ne),aX.UJ Z2.fd.lst k (λb hb=>by cases List.mem_singleton.mp hb;e! ⟨_,_,_,Z2.Ih⟩),Z2.fd.le⟩
 o!⟨dp,tl,fl,nl',fs,ps,og,otl,ofl,onl,AF,AN,_⟩:=PA3.ex;~lf:=AF.len;~ln:=AN.len;r! ⟨_,rfl,h,_,hx,_,_,rfl,Z3.Ih,T.dJ,T.aL,rfl,g',_,dp,_,_,rfl,og,T.bX,T.aV,rfl,fl,_,rfl,.inl (aX.of ofl),_,rfl,h,_,hx,_,_,rfl,Z3.Ih,T.dJ,T.aL,rfl,g',_,dp,_,_,rfl,og,T.bX,T.cw,rfl,nl',_,rfl,.inl (aX.of onl),by show 2<=sizeLine;decide,λr nr=>?_⟩;~S4:=ay nr (.lst [V.int (((fs.map V.ref).length:Nat):Int),V.int (((ps.map V.ref).length:Nat):Int)]);r! q1 _ r _ g' t p' ((((K1.same S2).mono k1).trans K2).none nr) dd ?_ (Z3.same S4) ((((K1.same S2).mono k1).trans K2).same S4);rw[ae,%ac,%ac,lf,ln,JB];rfl
t! JC(T:eo K mg a):aK P w K mg base (bA P w) 2 a.kM a.px ah! (yF a K λk=>k=.show_):=by
 ~GC:FB! 1 a.jE a.jF ["row"] r9:=tS T;r! T.vk.kY IJ ab! aa!
 ·o!⟨ok,h,hx,g,f,dx,c,xs,i,x,p,k,j,rfl,_⟩:=h;rfl
 o!⟨ok,h,hx,g,f,dx,c,xs,i,x,p,k,j,rfl,Z,rfl,rfl,lj,q1,q2⟩:=h;r! ⟨_,ah (aH (az GC hr rfl T.rY T.oM.kp T.rX .nil aM (aa (ao ad! rfl) ag))),?_⟩;o!⟨dp,tl,fl,nl',fs,ps,og,otl,ofl,onl,AF,AN,_⟩:=Z.pr.ex;~tp:=MT Z.pm;~lx:=Z.len;r! ⟨_,rfl,h,_,hx,_,_,rfl,Z.Ih,T.dJ,T.aL,rfl,g,_,dp,_,_,rfl,og,T.bX,T.g6,rfl,tl,_,rfl,otl,?_,λH2 r S2 nr or_=>?_⟩
 ·rw[%ac,my];w!
 ·r! q1 H2 r _ g x p nr rfl ?_ (Z.same S2) (aA.of_same S2);rw[or_,tp];congr 2;simp[Vaamoa.toldText,codes]
t! Km(T:eo K mg a)(Mc:UQ P w K mg a):aK P w K mg base (bA P w) 9 a.mS a.rA ah! (yF a K λk=>∃ g as bs,k=.run g as bs):=by
 ~GA:aK P w K mg base (bA P w) 8 a.hX a.hZ ah! (DP a K):=rM T Mc;~GC:FB! 8 a.jG a.jH ["run"] (EY a):=(BD T).mono (by w!);r! T.xJ.kY J8 ab! aa!
 ·o!⟨ok,h,hx,g,f,dx,c,xs,i,x,p,k,j,rfl,_⟩:=h;rfl
 o!⟨ok,h,hx,g,f,dx,c,xs,i,x,p,k,j,rfl,Z,⟨gn,as,bs,rfl⟩,⟨i2,en,R1,R2⟩,lj,q1,q2⟩:=h;r! ⟨_,ah (aH (az GC hr rfl T.xM T.rF.kp T.xK .nil aM (aa bj! ag))),?_⟩;r! ⟨_,rfl,_,rfl,ok,h,hx,g,f,dx,c,xs,i,x,p,gn,as,bs,i2,j,rfl,Z,en,R1,R2,λH1 r u ws c0 eu ev Z1 K1 RA=>?_,λH1 ho Z1 K1=>?_,λH1 u c0 eu ev Z1 K1=>?_⟩
 ·o!⟨R,s',rfl,Mf,z1,z2,z3,z4,z5⟩:=RA.ex;r! ⟨R,p,400,s',rfl,z1,Ov z2 z3 z4,λH2 l S2 nl ol=>?_⟩;rw[Ou z2 z3] at ol;r! q1 H2 l _ g x p (K1.none nl) ?_ ol (Z1.same S2) ((K1.same S2).mono k1);show aB!=_;rw[n! c0,eu];show given c9! 2 _=_;rw[ev];rfl
 ·r! q2 H1 3 ?_ (by w!) (by w!) Z1 dL!;show aB!=_;by_cases cc:gn < 0
  ·rw[if_pos cc]
  ·rw[n! cc];rcases ho with ho | ho
   ·e! absurd ho cc
   ·rw[ho];rfl
 ·r! q2 H1 2 ?_ (by w!) (by w!) Z1 dL!;show aB!=_;rw[n! c0,eu];show given c9! 2 _=_;rw[ev];rfl
end
end Pay
namespace Pay
open PySem L2
open Vaamoa (isName ascii distinct Param Prog funAt typed valueFor valuesFor toldValue toldOut paidBy peakBy does given tell onRun onFun runOf accOf)
t! JD{p:Prog}{gn:Int}{as bs:List Int}{u:%aQ}{ws:List %aF}{F:%aQ->List %aF->%cE}(c0:¬ gn < 0)(eu:p[gn.toNat]?=some u)(ev:valuesFor u as bs=some ws):onRun ⟨p⟩ gn as bs F=F u ws:=by
 show aB!=_;rw[n! c0,eu];show given c9! 2 _=_;rw[ev];rfl
t! MU{p:Prog}{gn:Int}{as bs:List Int}{F:%aQ->List %aF->%cE}(h:gn < 0∨p[gn.toNat]?=none):onRun ⟨p⟩ gn as bs F=.error 3:=by
 show aB!=_;by_cases cc:gn < 0
 ·rw[if_pos cc]
 ·rw[n! cc];rcases h with h | h
  ·e! absurd h cc
  ·rw[h];rfl
t! MV{p:Prog}{gn:Int}{as bs:List Int}{u:%aQ}{F:%aQ->List %aF->%cE}(c0:¬ gn < 0)(eu:p[gn.toNat]?=some u)(ev:valuesFor u as bs=none):onRun ⟨p⟩ gn as bs F=.error 2:=by
 show aB!=_;rw[n! c0,eu];show given c9! 2 _=_;rw[ev];rfl
t! Hv{p:Prog}{most:Nat}{f:%aQ}{ws:List %aF}{s:nI}(h:dI p most dP! s)(hs:halted s):accOf (%bB p most f ws)=s.acc:=by
 rcases Ml h hs with ⟨h1,v,h2,h3⟩ | ⟨h1,h2⟩
 ·rw[h3];rfl
 ·rw[h2];rfl
def Vn(t:%bj):List Int:=[(t.label:Int),t.cost]
section
variable {P:Program} {w:World} {K:PySem.W.Frag} {mg:Str->Option Value} {base:Heap} {a:Ad}
t! G5(T:eo K mg a)(Mc:UQ P w K mg a):aK P w K mg base (bA P w) 9 a.jl a.mV ah! (yF a K λk=>∃ g as bs,k=.ticks g as bs):=by
 ~GA:aK P w K mg base (bA P w) 8 a.hX a.hZ ah! (DP a K):=rM T Mc;r! T.tI.kY kZ ab! aa!
 ·o!⟨ok,h,hx,g,f,dx,c,xs,i,x,p,k,j,rfl,_⟩:=h;rfl
 o!⟨ok,h,hx,g,f,dx,c,xs,i,x,p,k,j,rfl,Z,⟨gn,as,bs,rfl⟩,⟨i2,en,R1,R2⟩,lj,q1,q2⟩:=h;r! ⟨_,af (aE (i:=2) kZ.nd rfl al! bj!)
  (af (aE (i:=3) kZ.nd rfl al! (cz (aa ei! ag)))
  (af (lJ PassesOwn.leaving rfl (fR bE!) (cb (i:=4) kZ.nd rfl al!) (ah (aF (hG %ah %bG %bF OW (pv 3) d2!))))
  (ah (aH (pv 3))))),?_⟩
 r! ⟨_,rfl,_,rfl,ok,h,hx,g,f,dx,c,xs,i,x,p,gn,as,bs,i2,j,rfl,Z,en,R1,R2,λH1 r u ws c0 eu ev Z1 K1 RA=>?_,λH1 ho Z1 K1=>q2 H1 3 (MU ho) (by w!) (by w!) Z1 dL!,λH1 u c0 eu ev Z1 K1=>q2 H1 2 (MV c0 eu ev) (by w!) (by w!) Z1 dL!⟩;o!⟨R,s',rfl,Mf,z1,z2,z3,z4,n5,z5,n2⟩:=RA.ex;~dd:does ⟨p⟩ (.ticks gn as bs)=.ok (⟨p⟩,(s'.acc.ticks.length:Int)::s'.acc.ticks.flatMap Vn):=by
  r! (JD c0 eu ev).trans ?_;show tell ⟨p⟩ (((accOf f9!).ticks.length:Int)::(accOf f9!).ticks.flatMap Vn)=_;rw[Hv z2 z3];rfl
 o!⟨ks,okl,AK⟩:=z1.SS;~lk:=AK.len;~lt:=z5.ti;r! ⟨_,rfl,R.r,_,R.dx,_,_,rfl,z1.obj,T.aW,T.ie,rfl,R.kl,_,rfl,.inl (aX.of okl),by show 1<=sizeLine;decide,λt nt=>?_⟩;~S1:=λu=>ay nt (HO.lst u)
 r! ⟨_,rfl,R.r,_,R.dx,_,_,rfl,S1 _ _ _ z1.obj,T.aW,T.ie,rfl,R.kl,rfl,⟨_,aX.of (S1 _ _ _ okl)⟩,?_⟩;r! pI (K:=K) (a:=R.kl) (xs:=ks.map V.ref) (λi σ H'=>∃ v:Option V,σ=[some (.ref h),some (.ref f),some (.ref R.r),some (.ref t),v]/\H'=upd H1 t bp!/\i<=ks.length)
  ⟨none,rfl,?_,%aE _⟩ (λi σ H' _ ⟨_,_,e,_⟩=>aX.of (by rw[e];e! S1 _ _ _ okl)) ?_ ?_
 ·rw[%ac,lk];rfl
 ·rintro i y σ H' hy ⟨v,rfl,rfl,_⟩;rw[%al] at hy;o!⟨k,ek,rfl⟩:=%ab hy;o!⟨tk,et,htk⟩:=AK.at ek;~hi:i < ks.length:=(%ae ek).1;~ot:upd H1 t bp! t=some bp!:=ae;r! ⟨_,rfl,.inl ⟨rfl,_,aX.of ot⟩,_,rfl,t,k,_,_,rfl,rfl,ot,S1 _ _ _ htk.1,?_,_,rfl,?_,hi⟩
  ·~e2:((s'.acc.ticks.take i).flatMap Vn).length=2 * min i s'.acc.ticks.length:=by
    rw[List.length_flatMap];have:∀ l:List %bj,(l.map λa=>(Vn a).length).sum=2 * l.length:=by
     intro l
     induction l with
     | nil=>rfl
     | cons b r ih=>rw[List.map_cons,List.sum_cons,ih];simp[Vn];w!
    rw[this,%aH]
   rw[%ac,%aV,e2];show 2 * min i s'.acc.ticks.length+1+2<=sizeLine;e! %aj (show 2 * min i s'.acc.ticks.length+1+2<=5000 by w!) ag!
  ·rw[aC,%ay,et];congr 2;simp[Vn]
 ·rintro σ H' ⟨v,rfl,rfl,_⟩;rw[%ac,lk,%bs];~Z2:=Z1.same (S1 (((s'.acc.ticks.length:Int)::s'.acc.ticks.flatMap Vn).map V.int));e! ⟨_,rfl,q1 _ t _ g x p (K1.none nt) dd ae Z2 ((K1.same (S1 _)).mono k1)⟩
t! G6(T:eo K mg a)(Mc:UQ P w K mg a):aK P w K mg base (bA P w) 9 a.jm a.mW ah! (yF a K λk=>∃ g as bs,k=.calls g as bs):=by
 ~GA:aK P w K mg base (bA P w) 8 a.hX a.hZ ah! (DP a K):=rM T Mc;~GC:FB! 8 a.jE a.jF ["row"] r9:=(tS T).mono (by w!);r! T.tJ.kY lh ab! aa!
 ·o!⟨ok,h,hx,g,f,dx,c,xs,i,x,p,k,j,rfl,_⟩:=h;rfl
 o!⟨ok,h,hx,g,f,dx,c,xs,i,x,p,k,j,rfl,Z,⟨gn,as,bs,rfl⟩,⟨i2,en,R1,R2⟩,lj,q1,q2⟩:=h;~hu:=nN hr;r! ⟨_,af (aE (i:=2) lh.nd rfl gv! bj!)
  (ah (aH (az GC hr rfl T.rY T.oM.kp T.rX .nil aM (aa (HP (own:=[("function",3)]) (te:=TB (wK K (i7 2) "times_called") (wK K (i7 3) "name") (tC (.int 0))) (g:=nM 3) (tt:=HM) rfl lh.nd (fR (ao ad! rfl)) (i9 rfl) (λ_ _ _ _ _=>cb (i:=3) lh.nd rfl al!) cG!
   (λ_ _ _ _ _=>Np hu bE! ca! aI ⟨rfl,rfl,rfl,rfl⟩)) ag)))),?_⟩
 r! ⟨_,rfl,_,rfl,ok,h,hx,g,f,dx,c,xs,i,x,p,gn,as,bs,i2,j,rfl,Z,en,R1,R2,λH1 r u ws c0 eu ev Z1 K1 RA=>?_,λH1 ho Z1 K1=>q2 H1 3 (MU ho) (by w!) (by w!) Z1 dL!,λH1 u c0 eu ev Z1 K1=>q2 H1 2 (MV c0 eu ev) (by w!) (by w!) Z1 dL!⟩;o!⟨R,s',rfl,Mf,z1,z2,z3,z4,n5,z5,n2⟩:=RA.ex;~dd:does ⟨p⟩ (.calls gn as bs)=.ok (⟨p⟩,(p.length:Int)::p.map λh=>((s'.acc.calls.countP λx=>x == h.name:Nat):Int)):=by
  r! (JD c0 eu ev).trans ?_;show tell ⟨p⟩ ((p.length:Int)::p.map λh=>(((accOf f9!).calls.countP λx=>x == h.name:Nat):Int))=_;rw[Hv z2 z3];rfl
 o!⟨kvs,oc,lc,vc⟩:=z1.cls;o!⟨dp,tl,fl,nl',fs,ps,og,otl,ofl,onl,AF,AN,_⟩:=Z1.pr.ex;~lf:=AF.len;r! ⟨_,rfl,h,_,hx,_,_,rfl,Z1.Ih,T.dJ,T.aL,rfl,g,_,dp,_,_,rfl,og,T.bX,T.aV,rfl,fl,rfl,⟨_,aX.of ofl⟩,λD nD=>?_⟩;r! ra (K:=K) (a:=fl) (xs:=fs.map V.ref) (λn H'=>H' D=some (.lst (((p.take n).map λh=>((s'.acc.calls.countP λx=>x == h.name:Nat):Int)).map V.int))/\bc H1 H') ⟨ae,ay nD _⟩ (λn H' _ h=>aX.of (h.2 _ _ ofl)) ?_ ?_
 ·rintro n y H' hy ⟨oD,sm⟩;rw[%al] at hy;o!⟨k,ek,rfl⟩:=%ab hy;o!⟨fu,ef,FU⟩:=AF.at ek;o!⟨df,pl,qs,bp,oF,_⟩:=FU.ex;~hn:n < p.length:=(%ae ef).1;~g4:=Z1.good.most;~gd:nP H' R.cd (.str (strOf fu.name)) (cA kvs (.inr (strOf fu.name))):=nP.k (k:=%aO (strOf fu.name)) (sm _ _ oc);r! ⟨rfl,zM ?_⟩;r! ⟨_,rfl,R.r,_,R.dx,_,_,rfl,sm _ _ z1.obj,T.aW,T.cR,rfl,R.cd,rfl,.inl ⟨kvs,.inl (sm _ _ oc)⟩,_,rfl,k,_,df,_,_,rfl,sm _ _ oF,T.bw,T.dE,rfl,_,gd,_,oD,?_,?_,λb o e=>?_⟩
  ·rw[%ac,%ac,%aH];e! %ai (show min n p.length<=4 by w!) ag!
  ·rw[ae,%ay,ef,vc];congr 2;simp only[List.map_append];congr 1;unfold Wh;simp only[Option.toList,List.map_cons,List.map_nil];congr 1;split
   ·rename_i c
    rw[c];rfl
   ·rfl
  ·rw[ai eB!];e! sm b o e
 ·rintro H6 ⟨oD,S6⟩;~eT:p.take (fs.map V.ref).length=p:=%aC b9!;rw[eT] at oD;~g4:=Z1.good.most;r! ⟨D,_,rfl,oD,by rw[%ac,%ac];w!,λH7 r7 S7 n7 o7=>?_⟩;r! q1 H7 r7 _ g x p (K1.none (S6.free n7)) dd ?_ ((Z1.same S6).same S7) (((K1.same S6).same S7).mono k1);rw[o7,%ac,%ac];rfl
end
end Pay
namespace Pay
open PySem L2
open Vaamoa (isName ascii distinct Param Prog funAt typed valueFor valuesFor toldValue toldOut paidBy peakBy does given tell onRun onFun runOf accOf kindNumber labelOf nodesOf tickLabels)
t! LQ(k:%aP):bT k=V.int (kindNumber k):=by cases k<;>rfl
def Vo(g:%aQ):List Int:=(g.params.length:Int)::(g.params.map (λq=>kindNumber q.kind)++[kindNumber g.result])
t! Qg:∀ (e:Ex) (d:Nat),(aT d e).map Prod.fst=nodesOf e:=by
 intro e
 induction e<;>intro d<;>simp_all [aT,nodesOf]
t! Cv(p:Prog):(cC p).map Prod.fst=Vaamoa.allNodes p:=by
 unfold cC Vaamoa.allNodes
 induction p with
 | nil=>rfl
 | cons f r ih=>rw[%bn,%bn,%bd,ih,Qg]
t! BE(p:Prog):tickLabels p=((cC p).filter Oi).map λz=>labelOf z.1:=by
 unfold tickLabels;rw[←Cv];generalize cC p=l
 induction l with
 | nil=>rfl
 | cons z r ih =>
  o!⟨e,d⟩:=z;simp only[List.map_cons,List.filter_cons];~e1:Oi (e,d)=(match e with
   | .tick _ _ _=>true
   | _=>false):=rfl
  rw[e1];split<;>simp_all
t! JE(m:List %bj):paidBy m=(m.map λt=>t.cost).sum:=by
 unfold paidBy;~h:∀ (l:List %bj) (n:Int),l.foldl (λn t=>n+t.cost) n=n+(l.map λt=>t.cost).sum:=by
  intro l
  induction l with
  | nil=>intro n;simp
  | cons t r ih=>intro n;rw[List.foldl_cons,ih,%aM,%co];w!
 rw[h];simp
def W5(ts:List %bj)(l:Nat):List Int:=[(l:Int),((ts.filter λt=>t.label == l).length:Int),paidBy (ts.filter λt=>t.label == l)]
section
variable {P:Program} {w:World} {K:PySem.W.Frag} {mg:Str->Option Value} {base:Heap} {a:Ad}
t! G7(T:eo K mg a):aK P w K mg base (bA P w) 2 a.jk a.mR ah! (yF a K λk=>k=.kinds):=by
 ~GC:FB! 1 a.jE a.jF ["row"] r9:=tS T;r! T.tH.kY iG ab! aa!
 ·o!⟨ok,h,hx,g,f,dx,c,xs,i,x,p,k,j,rfl,_⟩:=h;rfl
 o!⟨ok,h,hx,g,f,dx,c,xs,i,x,p,k,j,rfl,Z,rfl,rfl,lj,q1,q2⟩:=h;r! ⟨_,af (aE (i:=2) iG.nd rfl al! (cz (aa dd! ag)))
  (af (lJ PassesOwn.leaving rfl (fR (ao ad! rfl)) (cb (i:=3) iG.nd rfl al!)
   (af (aF (hG %ah %bG %bF Aj (pv 2) (aa (az GC hr rfl T.rY T.oM.kp T.rX .nil aM (aa (HP (own:=[("parameter",4)]) (te:=wK K (i7 4) "kind") (g:=nM 4) (tt:=HM) rfl iG.nd (fR ca!) (i9 rfl) (λ_ _ _ _ _=>cb (i:=4) iG.nd rfl al!) cG! (λ_ _ _ _ _=>ao (pv 4) rfl)) ag)) ag)))
    (ah (aF (hG %ah %at %as cM (pv 2) (aa ca! ag))))))
  (ah gf!)),?_⟩
 o!⟨dp,tl,fl,nl',fs,ps,og,otl,ofl,onl,AF,AN,_⟩:=Z.pr.ex;~lf:=AF.len;~g4:=Z.good.most;r! ⟨_,rfl,h,_,hx,_,_,rfl,Z.Ih,T.dJ,T.aL,rfl,g,_,dp,_,_,rfl,og,T.bX,T.aV,rfl,fl,_,rfl,.inl (aX.of ofl),by show 1<=sizeLine;decide,λt nt=>?_⟩;~S1:=ay nt (HO.lst [V.int (((fs.map V.ref).length:Nat):Int)]);r! ⟨_,rfl,h,_,hx,_,_,rfl,S1 _ _ Z.Ih,T.dJ,T.aL,rfl,g,_,dp,_,_,rfl,S1 _ _ og,T.bX,T.aV,rfl,fl,rfl,⟨_,aX.of (S1 _ _ ofl)⟩,?_⟩;r! pI (K:=K) (a:=fl) (xs:=fs.map V.ref) (λn σ H'=>∃ v v':Option V,σ=[some (.ref h),some (.ref f),some (.ref t),v,v']/\H' t=some (.lst (((p.length:Int)::(p.take n).flatMap Vo).map V.int))/\bc H H'/\n<=4)
  ⟨none,none,rfl,?_,S1,by w!⟩ (λn σ H' _ ⟨_,_,_,_,S,_⟩=>aX.of (S _ _ ofl)) ?_ ?_
 ·rw[ae,%ac,lf];rfl
 ·rintro n y σ H' hy ⟨v,v',rfl,ot,S,hn4⟩;rw[%al] at hy;o!⟨k,ek,rfl⟩:=%ab hy;o!⟨fu,ef,FU⟩:=AF.at ek;o!⟨df,pl,qs,bp,oF,opl,AP,_⟩:=FU.ex;~lp:=AP.len;~mf:fu∈p:=%bg ef;~gm:=(Z.good.i6 fu mf).most;~hn:n < p.length:=(%ae ef).1;r! ⟨_,rfl,.inl ⟨rfl,_,aX.of ot⟩,_,rfl,k,_,df,_,_,rfl,S _ _ oF,T.bw,T.bb,rfl,pl,rfl,⟨_,aX.of (S _ _ opl)⟩,λD nD=>?_⟩;r! ra (K:=K) (a:=pl) (xs:=qs.map V.ref) (λm H2=>H2 D=some (.lst (((fu.params.take m).map λq=>kindNumber q.kind).map V.int))/\bc H' H2) ⟨ae,ay nD _⟩ (λm H2 _ h=>aX.of (h.2 _ _ (S _ _ opl))) ?_ ?_
  ·rintro m y H2 hy ⟨oD,sm⟩;rw[%al] at hy;o!⟨kq,eq,rfl⟩:=%ab hy;o!⟨pq,epq,⟨dq,oq⟩,_⟩:=AP.at eq;r! ⟨rfl,zM ?_⟩;r! ⟨_,rfl,kq,_,dq,_,_,rfl,sm _ _ (S _ _ oq),T.fe,T.cV,rfl,_,oD,?_,?_,λb o e=>?_⟩
   ·rw[%ac,%ac,%aH];e! %ai (show min m fu.params.length<=2 by w!) ag!
   ·rw[ae,%ay,epq,LQ];congr 2;simp
   ·rw[ai eB!];e! sm b o e
  ·rintro H6 ⟨oD,S6⟩;~eT:fu.params.take (qs.map V.ref).length=fu.params:=%aC b9!;rw[eT] at oD;r! ⟨D,_,rfl,oD,by rw[%ac,%ac];w!,λH7 r7 S7 _ o7=>?_⟩;~ot7:=S7 _ _ (S6 _ _ ot);~S07:=(S.trans S6).trans S7;~szf:∀ l:Prog,(∀ q∈l,q.params.length<=2)->(l.flatMap Vo).length<=4 * l.length:=by
    intro l
    induction l with
    | nil=>intro _;simp
    | cons b r ih =>
     intro hb;have:=hb b ai!;have:=ih λq hq=>hb q (by simp[hq])
     ~e:(Vo b).length=b.params.length+2:=by simp[Vo]
     rw[%bn,%aq,e,%aV];w!
   ~sz:=szf (p.take n) λq hq=>(Z.good.i6 q (List.mem_of_mem_take hq)).most
   rw[%aH] at sz;r! ⟨t,r7,_,_,rfl,rfl,ot7,o7,?_,?_⟩
   ·simp only[List.length_cons,List.length_map];e! %aj (show ((p.take n).flatMap Vo).length+1+(fu.params.length+1)<=100 by w!) ag!
   ·~o8:upd H7 t ay! t=some ay!:=ae;~S8:bc H (upd H7 t ay!):=λb o e=>by
     rw[ai (aq e nt)];e! S07 b o e
    r! ⟨_,rfl,.inl ⟨rfl,_,aX.of o8⟩,_,rfl,k,_,df,_,_,rfl,S8 _ _ oF,T.bw,T.dc,rfl,t,_,_,rfl,rfl,o8,?_,?_⟩
    ·simp only[List.length_cons,List.length_map,List.length_append];e! %ai (show ((p.take n).flatMap Vo).length+1+(fu.params.length+1)<=100 by w!) ag!
    ·r! ⟨_,_,rfl,?_,λb o e=>?_,by w!⟩
     ·rw[ae,%ay,ef,LQ];congr 2;simp[Vo]
     ·rw[ai (aq e nt)];e! S8 b o e
 ·rintro σ H' ⟨v,v',rfl,ot,S,_⟩;rw[%ac,lf,%bs] at ot;e! ⟨_,rfl,q1 _ t _ g x p nt rfl ot (Z.same S) (aA.of_same S)⟩
t! EZ(T:eo K mg a)(Mc:UQ P w K mg a):aK P w K mg base (bA P w) 9 a.iQ a.ly ah! (yF a K λk=>∃ g as bs,k=.counts g as bs):=by
 ~GA:aK P w K mg base (bA P w) 8 a.hX a.hZ ah! (DP a K):=rM T Mc;~GT:FB! 8 a.jA a.jC ga! (MO a):=(BB T).mono (by w!);r! T.qF.kY dN ab! aa!
 ·o!⟨ok,h,hx,g,f,dx,c,xs,i,x,p,k,j,rfl,_⟩:=h;rfl
 o!⟨ok,h,hx,g,f,dx,c,xs,i,x,p,k,j,rfl,Z,⟨gn,as,bs,rfl⟩,⟨i2,en,R1,R2⟩,lj,q1,q2⟩:=h;r! ⟨_,af (aE (i:=2) dN.nd rfl al! bj!)
  (af (aE (i:=3) dN.nd rfl al! (az GT hr rfl T.xI T.rE.kp T.xH .nil aM eF!))
  (af (aE (i:=4) dN.nd rfl al! (cz (aa (aR aJ rfl T.dm %ar bZ!) ag)))
  (af (lJ PassesOwn.leaving rfl (fR (pv 3)) (cb (i:=5) dN.nd rfl gv!)
   (af (HQ (i:=6) (own:=[("tick",7)]) (te:=Vl (Xy K) (i7 7) (tC (.int 1))) (g:=nM 7) (tt:=Nb (Vl Zr (Vl (Xy K) (i7 7) (tC (.int 0))) (wK K (i7 5) "label"))) rfl dN.nd rfl rfl gw! (fR bE!) (i9 rfl) (λ_ _ _ _ _=>cb (i:=7) dN.nd rfl al!) (λ_ _ _ _ _=>Ma (bG i8 (cG Ts (pv 7) aI ar!) em! (cy _))) (λ_ _ _ _ _=>cG Ts (pv 7) aI ar!))
    (ah (aF (hG %ah %bG %bF Aj (pv 4) (aa (cz (aa em! (aa (aR aJ rfl T.dm %ar (aa (pv 6) ag)) (aa (aR (XB rfl) rfl T.QO PyProof.Rows.boot_sum (aa (pv 6) ag)) ag)))) ag))))))
  (ah (aH (pv 4)))))),?_⟩
 r! ⟨_,rfl,_,rfl,ok,h,hx,g,f,dx,c,xs,i,x,p,gn,as,bs,i2,j,rfl,Z,en,R1,R2,λH1 r u ws c0 eu ev Z1 K1 RA=>?_,λH1 ho Z1 K1=>q2 H1 3 (MU ho) (by w!) (by w!) Z1 dL!,λH1 u c0 eu ev Z1 K1=>q2 H1 2 (MV c0 eu ev) (by w!) (by w!) Z1 dL!⟩;o!⟨R,s',rfl,Mf,z1,z2,z3,z4,n5,z5,n2⟩:=RA.ex;~dd:does ⟨p⟩ (.counts gn as bs)=.ok (⟨p⟩,((tickLabels p).length:Int)::(tickLabels p).flatMap es!):=by
  r! (JD c0 eu ev).trans ?_;show tell ⟨p⟩ (((tickLabels p).length:Int)::(tickLabels p).flatMap (W5 (accOf f9!).ticks))=_;rw[Hv z2 z3];rfl
 o!⟨ks,okl,AK⟩:=z1.SS;~lk:=AK.len;~lt:=z5.ti;~l60:(cC p).length<=60:=by
  ~e:(cC p).length=fV p:=by
   unfold cC fV;generalize p=l
   induction l with
   | nil=>rfl
   | cons b r ih=>rw[%bn,%aq,ih,Cp,%aM,%co]
  rw[e];e! Z1.good.size
 r! ⟨_,rfl,h,_,hx,_,_,rfl,Z1.Ih,T.dJ,T.aL,rfl,_,g,x,p,rfl,Z1.pr,l60,λH2 nd ns S2 nnd ond AN=>?_⟩;~ln:=AN.len;~eL:=BE p;~ln2:ns.length=(tickLabels p).length:=by rw[eL,%ac];e! ln
 ~ln3:(tickLabels p).length<=60:=by
  rw[eL,%ac];e! %aj (%bq _ _) l60
 r! ⟨_,rfl,nd,_,rfl,.inl (aX.of ond),by show 1<=sizeLine;decide,λt nt=>?_⟩;~S3:=ay nt (HO.lst [V.int (((ns.map V.ref).length:Nat):Int)]);r! ⟨_,rfl,nd,rfl,⟨_,aX.of (S3 _ _ ond)⟩,?_⟩;r! pI (K:=K) (a:=nd) (xs:=ns.map V.ref) (λn σ H'=>∃ v v' v2:Option V,σ=[some (.ref h),some (.ref f),some (.ref R.r),some (.ref nd),some (.ref t),v,v',v2]/\H' t=some (.lst ((((tickLabels p).length:Int)::((tickLabels p).take n).flatMap es!).map V.int))/\bc H2 H'/\n<=60)
  ⟨none,none,none,rfl,?_,S3,by w!⟩ (λn σ H' _ ⟨_,_,_,_,_,S,_⟩=>aX.of (S _ _ ond)) ?_ ?_
 ·rw[ae,%ac,ln2];rfl
 ·rintro n y σ H' hy ⟨v,v',v2,rfl,ot,S,hn4⟩;rw[%al] at hy;o!⟨k,ek,rfl⟩:=%ab hy;o!⟨zz,ez,NZ,_⟩:=AN.at ek;o!⟨qs,NO,_⟩:=gH NZ;o!⟨dk,nm,pt,⟨sa,ea,oN⟩,_⟩:=NO;~el:(tickLabels p)[n]?=some (labelOf zz.1):=by rw[eL,%al,ez];rfl
  ~hn:n < (tickLabels p).length:=(%ae el).1;~Sr:=S2.trans S;r! ⟨_,rfl,R.r,_,R.dx,_,_,rfl,Sr _ _ z1.obj,T.aW,T.ie,rfl,R.kl,rfl,⟨_,aX.of (Sr _ _ okl)⟩,λD nD=>?_⟩;r! ra (K:=K) (a:=R.kl) (xs:=ks.map V.ref) (λm H3=>H3 D=some (.lst ((((s'.acc.ticks.take m).filter λt=>t.label == labelOf zz.1).map λt=>t.cost).map V.int))/\bc H' H3) ⟨ae,ay nD _⟩ (λm H3 _ h=>aX.of (h.2 _ _ (Sr _ _ okl))) ?_ ?_
  ·rintro m y H3 hy ⟨oD,sm⟩;rw[%al] at hy;o!⟨kt,et,rfl⟩:=%ab hy;o!⟨tk,etk,htk⟩:=AK.at et;~otk:=sm _ _ (Sr _ _ htk.1);~SS:s'.acc.ticks.take (m+1)=s'.acc.ticks.take m++[tk]:=by rw[%ay,etk];rfl
   r! ⟨rfl,_,rfl,kt,_,0,_,rfl,rfl,JQ.of otk,rfl,_,rfl,k,_,dk,_,_,rfl,sm _ _ (S _ _ oN),T.aG,T.eY,rfl,rfl,_,rfl,?_⟩;~e1:decide (V.int (tk.label:Nat)=V.int ((labelOf zz.1:Nat):Int))=(tk.label == labelOf zz.1):=by
    rw[%bl,decide_eq_true_eq,V.int.injEq,beq_iff_eq];w!
   rw[e1];cases c:(tk.label == labelOf zz.1) with
   | true =>
    r! bO ⟨_,rfl,kt,_,1,_,rfl,rfl,JQ.of otk,rfl,_,oD,?_,?_,λb o e=>?_⟩
    ·rw[%ac,%ac];r! %ai (%aj (%bq _ _) (List.length_take_le _ _)) ?_;e! %ai (show m<=2000 by have:=(%ae et).1;w!) ag!
    ·rw[ae,SS,%bO,%cI,if_pos c];congr 2;simp
    ·rw[ai eB!];e! sm b o e
   | false =>
    r! bY ⟨?_,sm⟩;rw[SS,%bO,%cI,n! (by rw[c];decide),List.filter_nil,%bI];e! oD
  ·rintro H6 ⟨oD,S6⟩;~eT:s'.acc.ticks.take (ks.map V.ref).length=s'.acc.ticks:=%aC b9!;rw[eT] at oD;~ot6:=S6 _ _ ot;~oD':H6 D=some (.lst ((((s'.acc.ticks.filter λt=>t.label == labelOf zz.1).map λt=>t.cost)).map V.int)):=oD;r! ⟨_,rfl,.inl ⟨rfl,_,aX.of ot6⟩,_,rfl,k,_,dk,_,_,rfl,S6 _ _ (S _ _ oN),T.aG,T.eY,rfl,_,rfl,D,_,rfl,.inl (aX.of oD'),_,rfl,D,_,rfl,aX.of oD',by show 3<=sizeLine;decide,λl3 n3=>?_⟩;~S7:=ay n3 (HO.lst [V.int ((labelOf zz.1:Nat):Int),V.int ((((((s'.acc.ticks.filter λt=>t.label == labelOf zz.1).map λt=>t.cost)).map V.int).length:Nat):Int),V.int ((s'.acc.ticks.filter λt=>t.label == labelOf zz.1).map λt=>t.cost).sum]);~szf:(((tickLabels p).take n).flatMap es!).length<=180:=by
    have:∀ l:List Nat,(l.flatMap es!).length=3 * l.length:=by
     intro l
     induction l with
     | nil=>rfl
     | cons b r ih=>rw[List.flatMap_cons,List.length_append,ih,List.length_cons];simp[W5];w!
    rw[this,%aH];w!
   r! ⟨t,l3,_,_,rfl,rfl,S7 _ _ ot6,ae,?_,_,_,_,rfl,?_,λb o e=>?_,by w!⟩
   ·simp only[List.length_cons,List.length_map,List.length_nil];e! %aj (show (((tickLabels p).take n).flatMap es!).length+1+(0+1+1+1)<=200 by w!) ag!
   ·rw[ae,%ay,el];congr 2;rw[←JE];simp[W5]
   ·rw[ai (aq e nt)];e! S7 _ _ (S6 _ _ (S b o e))
 ·rintro σ H' ⟨v,v',v2,rfl,ot,S,_⟩;rw[%ac,ln2,%bs] at ot;~Sr:=S2.trans S;e! ⟨_,rfl,q1 _ t _ g x p (K1.none (S2.free nt)) dd ot (Z1.same Sr) ((K1.same Sr).mono k1)⟩
end
end Pay
namespace Pay
open PySem L2
open Vaamoa (isName ascii distinct Param Prog funAt typed valueFor valuesFor toldValue toldOut paidBy peakBy peakFrom does given tell onRun onFun runOf accOf scaled)
t! Ow(k:Nat)(ts:List %bj):paidBy (scaled k ts)=(k:Int) * paidBy ts:=by
 rw[JE,JE];unfold scaled;rw[%cu]
 induction ts with
 | nil=>simp
 | cons t r ih =>
  rw[%aM,%aM,%co,%co,ih,Int.mul_add];rfl
t! yG(k:Nat):∀ (ts:List %bj) (n m:Int),peakFrom ((k:Int) * n) ((k:Int) * m) (scaled k ts)=(k:Int) * peakFrom n m ts
 | [],n,m=>rfl
 | t::r,n,m=>by
  ~e1:(k:Int) * n+(k:Int) * t.cost=(k:Int) * (n+t.cost):=(Int.mul_add _ _ _).symm;~e2:max ((k:Int) * m) ((k:Int) * (n+t.cost))=(k:Int) * max m (n+t.cost):=by
   ~hk:(0:Int)<=(k:Int):=Int.natCast_nonneg k;rcases Int.le_total m (n+t.cost) with h | h
   ·rw[Int.max_eq_right h,Int.max_eq_right (Int.mul_le_mul_of_nonneg_left h hk)]
   ·rw[Int.max_eq_left h,Int.max_eq_left (Int.mul_le_mul_of_nonneg_left h hk)]
  show peakFrom ((k:Int) * n+(k:Int) * t.cost) (max ((k:Int) * m) ((k:Int) * n+(k:Int) * t.cost)) (scaled k r)=_;rw[e1,e2];e! yG k r (n+t.cost) (max m (n+t.cost))
t! Ox(k:Nat)(ts:List %bj):peakBy (scaled k ts)=(k:Int) * peakBy ts:=by
 have:=yG k ts 0 0;rw[Int.mul_zero] at this;e! this
section
variable {P:Program} {w:World} {K:PySem.W.Frag} {mg:Str->Option Value} {base:Heap} {a:Ad}
def UY(a:Ad):Sp:=λvs H Q E=>∃ (n m:Int),vs=[.int n,.int m]/\(¬ (n < 0∨m < n)->Q .fK H)/\((n < 0∨m < n)->E eG! none H)
t! uE(T:eo K mg a):aK P w K mg base (bA P w) 1 a.fj a.fk cj! (UY a):=by
 r! T.jK.kY Df ab! aa!
 ·o!⟨n,m,rfl,_⟩:=h;rfl
 o!⟨n,m,rfl,q1,q2⟩:=h;r! ⟨_,ah (cE (PW.pt (Fj (jR (Kq (pv 0) aI)) (BG (jR (S9 (pv 0) (pv 1)))))) (ah (bL cI rfl rfl T.jL T.Dv)) bD),?_⟩;r! ⟨_,rfl,_,_,rfl,rfl,decide (n < 0),rfl,?_⟩;by_cases c1:n < 0
 ·rw[decide_eq_true c1];e! bO (bO (q2 (.inl c1)))
 rw[decide_eq_false c1];r! bY ⟨_,rfl,_,rfl,_,_,rfl,rfl,decide (m < n),rfl,?_⟩;by_cases c2:m < n
 ·rw[decide_eq_true c2];e! bO (q2 (.inr c2))
 ·rw[decide_eq_false c2];e! bY (q1 λh=>h.elim c1 c2)
t! Q3{p:Prog}{gn:Int}{F:%aQ->%cE}(h:gn < 0∨p[gn.toNat]?=none):onFun ⟨p⟩ gn F=.error 3:=by
 show aB!=_;by_cases cc:gn < 0
 ·rw[if_pos cc]
 ·rw[n! cc];rcases h with h | h
  ·e! absurd h cc
  ·rw[h];rfl
t! Oy{p:Prog}{gn:Int}{u:%aQ}{F:%aQ->%cE}(c0:¬ gn < 0)(eu:p[gn.toNat]?=some u):onFun ⟨p⟩ gn F=F u:=by
 show aB!=_;rw[n! c0,eu];rfl
t! E1(T:eo K mg a)(Mc:UQ P w K mg a):aK P w K mg base (bA P w) 8 a.iR a.lA ah! (yF a K λk=>∃ g n as bs,k=.scaled g n as bs):=by
 ~GN:FB! 7 a.bB a.bC ["self"] (xU a K):=(g9 T).mono (by w!);~G2:FB! 7 a.cj a.ck ["self"] (Hs a K):=(oS T).mono (by w!);~GF:aK P w K mg base (bA P w) 7 a.gz a.gC cf! f3!:=(tR T).mono (by w!);~GO:aK P w K mg base (bA P w) 7 a.fj a.fk cj! (UY a):=(uE T).mono (by w!);~GR:aK P w K mg base (bA P w) 7 a.sW a.sX aN! (Hu a):=EW T Mc;r! T.qG.kY fg ab! aa!
 ·o!⟨ok,h,hx,g,f,dx,c,xs,i,x,p,k,j,rfl,_⟩:=h;rfl
 o!⟨ok,h,hx,g,f,dx,c,xs,i,x,p,k,j,rfl,Z,⟨gn,tn,as,bs,rfl⟩,⟨i2,en,etn,R1,R2⟩,lj,q1,q2⟩:=h;o!⟨t1,g1⟩:=T.fP;o!⟨t2,g2⟩:=T.rG;r! ⟨_,af (aE (i:=2) fg.nd rfl al! aX!)
  (af (aE (i:=3) fg.nd rfl al! aX!)
  (af (aE (i:=4) fg.nd rfl al! dk!)
  (af (aE (i:=5) fg.nd rfl al! cy!)
  (af (aF (az GO hr rfl T.oP T.jK.kp T.oO .nil aB (aa (pv 3) (aa (aQ (v:=.int 9) rfl g2 ⟨t2,rfl⟩) ag))))
  (af (aE (i:=6) fg.nd rfl al! (az GR hr rfl T.Dt T.zJ.kp T.Ds .nil aB (aa ad! (aa (pv 5) (aa (pv 4) cX!)))))
  (ah (aH (cz (aa aI (aa (yM Te (ao (pv 6) rfl) (pv 3)) (aa (yM Te (ao (pv 6) rfl) (pv 3)) ag))))))))))),?_⟩
 ~F0:=Z.fd;r! ⟨_,rfl,f,dx,_,rfl,F0.obj,rfl,f,dx,c,xs,i,gn,rfl,F0,en,?_⟩;~hi:i < xs.length:=(%ae en).1;~hi1:i+1 < xs.length:=(%ae etn).1;~F1:=F0.move (j:=i+1) (by w!);r! ⟨_,rfl,f,dx,_,rfl,F1.obj,rfl,f,dx,c,xs,i+1,tn,rfl,F1,etn,?_⟩;~F2:=F1.move (j:=i+1+1) (by w!);rw[aC] at F2;rw[aC];~K1:aA [f] H (upd H f cR!):=aA.upd ai!;generalize hH1:upd H f cR!=H1 at *;~e2:i+1+1+1+as.length=i2:=R1.nx.symm;~r2h:=R2.hd;~r2n:=R2.nx;~r2l:=R2.le;r! ⟨_,rfl,f,dx,_,rfl,F2.obj,rfl,f,dx,c,xs,i+1+1,as.length,bs.length,rfl,F2,R1.hd,by rw[e2];e! r2h,by w!,λl1 l2 l H2 n1 n2 nl K2 F3 o1 o2 ol=>?_⟩;~ej:i+1+1+1+as.length+1+bs.length=j:=by w!
 rw[ej] at F3;~K12:=K1.trans K2;~Z2:=Z.feed K12 F3;~RW:zS H2 l l1 l2 as bs:=⟨ol,by rw[o1,R1.it],by rw[o2,e2,R2.it]⟩;o!⟨dp,tl,fl,nl',fs,ps,og,otl,ofl,onl,AF,AN,kY,ok2,ok3,ok4⟩:=Z2.pr.ex;~lf:=AF.len;r! ⟨_,rfl,h,_,hx,_,_,rfl,Z2.Ih,T.dJ,T.aL,rfl,_,rfl,g,dp,tl,fl,nl',fs,gn,rfl,og,ofl,λk fp ek efp=>?_,λho=>?_⟩
 rotate_left
 ·r! q2 H2 3 (Q3 ?_) (by w!) (by w!) Z2 (K12.mono k1);rcases ho with ho | ho
  ·e! .inl ho
  ·by_cases c0:gn < 0
   ·e! .inl c0
   ·e! .inr (%bS (by w!))
 o!⟨u,eu,FU⟩:=AF.at efp;subst ek;~c0:¬ ((k:Nat):Int) < 0:=by w!
 ~eu':p[((k:Nat):Int).toNat]?=some u:=by simpa using eu
 ~dd:does ⟨p⟩ (.scaled (k:Nat) tn as bs)=if tn < 0∨(9:Int) < tn then .error 5 else given c9! 2 λvs=>tell ⟨p⟩ [0,paidBy (scaled tn.toNat (accOf (%bB p 400 u vs)).ticks),peakBy (scaled tn.toNat (accOf (%bB p 400 u vs)).ticks)]:=Oy c0 eu'
 r! ⟨_,rfl,tn,9,rfl,λnout=>?_,λout=>?_⟩
 rotate_left
 ·rw[if_pos out] at dd;e! q2 H2 5 dd (by w!) (by w!) Z2 (K12.mono k1)
 rw[n! nout] at dd;r! ⟨_,rfl,h,_,hx,_,_,rfl,Z2.Ih,T.dJ,T.aL,rfl,_,rfl,_,rfl,_,g,x,p,fp,u,l,l1,l2,as,bs,400,rfl,Z2.pr,Z2.good,EX Z2.pm,FU,%bg eu,RW,%am _,λH3 r ws ev S3 RA=>?_,λH3 ev S3=>?_⟩
 ·rw[ev] at dd;o!⟨R,s',rfl,Mf,z1,z2,z3,z4,n5,z5,n2'⟩:=RA.ex;~dd:does ⟨p⟩ (.scaled (k:Nat) tn as bs)=.ok (⟨p⟩,[0,paidBy (scaled tn.toNat s'.acc.ticks),peakBy (scaled tn.toNat s'.acc.ticks)]):=by
   rw[dd,←Hv z2 z3];rfl
  ~tb:-(2 ^ 64) < tn/\tn < 2 ^ 64:=by w!
  r! ⟨_,rfl,R.r,_,R.dx,_,_,rfl,z1.obj,T.aW,T.iu,rfl,_,rfl,_,_,rfl,rfl,.inr tb,_,rfl,R.r,_,R.dx,_,_,rfl,z1.obj,T.aW,T.iw,rfl,_,rfl,_,_,rfl,rfl,.inr tb,by show 3<=sizeLine;decide,λr nr=>?_⟩;~S4:=ay nr (.lst [V.int 0,V.int (paidBy s'.acc.ticks * tn),V.int (peakBy s'.acc.ticks * tn)]);r! q1 _ r _ g x p (K12.none (S3.free nr)) dd ?_ ((Z2.same S3).same S4) (((K12.same S3).same S4).mono k1);rw[ae,Ow,Ox,show ((tn.toNat:Nat):Int)=tn by w!,Int.mul_comm tn,Int.mul_comm tn];rfl
 ·rw[ev] at dd;e! q2 H3 2 dd (by w!) (by w!) gu! ((K12.same S3).mono k1)
t! E2(T:eo K mg a)(Mc:UQ P w K mg a):aK P w K mg base (bA P w) 8 a.iS a.lB ah! (yF a K λk=>∃ g n as bs,k=.within g n as bs):=by
 ~GN:FB! 7 a.bB a.bC ["self"] (xU a K):=(g9 T).mono (by w!);~G2:FB! 7 a.cj a.ck ["self"] (Hs a K):=(oS T).mono (by w!);~GF:aK P w K mg base (bA P w) 7 a.gz a.gC cf! f3!:=(tR T).mono (by w!);~GO:aK P w K mg base (bA P w) 7 a.fj a.fk cj! (UY a):=(uE T).mono (by w!);~GR:aK P w K mg base (bA P w) 7 a.sW a.sX aN! (Hu a):=EW T Mc;~GC:FB! 7 a.jG a.jH ["run"] (EY a):=(BD T).mono (by w!);r! T.qH.kY gN ab! aa!
 ·o!⟨ok,h,hx,g,f,dx,c,xs,i,x,p,k,j,rfl,_⟩:=h;rfl
 o!⟨ok,h,hx,g,f,dx,c,xs,i,x,p,k,j,rfl,Z,⟨gn,tn,as,bs,rfl⟩,⟨i2,en,etn,R1,R2⟩,lj,q1,q2⟩:=h;o!⟨t1,g1⟩:=T.fP;r! ⟨_,af (aE (i:=2) gN.nd rfl al! aX!)
  (af (aE (i:=3) gN.nd rfl al! aX!)
  (af (aE (i:=4) gN.nd rfl al! dk!)
  (af (aE (i:=5) gN.nd rfl al! cy!)
  (af (aF (az GO hr rfl T.oP T.jK.kp T.oO .nil aB (aa (pv 3) cX!)))
  (ah (aH (az GC hr rfl T.xM T.rF.kp T.xK .nil aM (aa (az GR hr rfl T.Dt T.zJ.kp T.Ds .nil aB (aa ad! (aa (pv 5) (aa (pv 4) bZ!)))) ag)))))))),?_⟩
 ~F0:=Z.fd;r! ⟨_,rfl,f,dx,_,rfl,F0.obj,rfl,f,dx,c,xs,i,gn,rfl,F0,en,?_⟩;~hi:i < xs.length:=(%ae en).1;~hi1:i+1 < xs.length:=(%ae etn).1;~F1:=F0.move (j:=i+1) (by w!);r! ⟨_,rfl,f,dx,_,rfl,F1.obj,rfl,f,dx,c,xs,i+1,tn,rfl,F1,etn,?_⟩;~F2:=F1.move (j:=i+1+1) (by w!);rw[aC] at F2;rw[aC];~K1:aA [f] H (upd H f cR!):=aA.upd ai!;generalize hH1:upd H f cR!=H1 at *;~e2:i+1+1+1+as.length=i2:=R1.nx.symm;~r2h:=R2.hd;~r2n:=R2.nx;~r2l:=R2.le;r! ⟨_,rfl,f,dx,_,rfl,F2.obj,rfl,f,dx,c,xs,i+1+1,as.length,bs.length,rfl,F2,R1.hd,by rw[e2];e! r2h,by w!,λl1 l2 l H2 n1 n2 nl K2 F3 o1 o2 ol=>?_⟩;~ej:i+1+1+1+as.length+1+bs.length=j:=by w!
 rw[ej] at F3;~K12:=K1.trans K2;~Z2:=Z.feed K12 F3;~RW:zS H2 l l1 l2 as bs:=⟨ol,by rw[o1,R1.it],by rw[o2,e2,R2.it]⟩;o!⟨dp,tl,fl,nl',fs,ps,og,otl,ofl,onl,AF,AN,kY,ok2,ok3,ok4⟩:=Z2.pr.ex;~lf:=AF.len;r! ⟨_,rfl,h,_,hx,_,_,rfl,Z2.Ih,T.dJ,T.aL,rfl,_,rfl,g,dp,tl,fl,nl',fs,gn,rfl,og,ofl,λk fp ek efp=>?_,λho=>?_⟩
 rotate_left
 ·r! q2 H2 3 (Q3 ?_) (by w!) (by w!) Z2 (K12.mono k1);rcases ho with ho | ho
  ·e! .inl ho
  ·by_cases c0:gn < 0
   ·e! .inl c0
   ·e! .inr (%bS (by w!))
 o!⟨u,eu,FU⟩:=AF.at efp;subst ek;~c0:¬ ((k:Nat):Int) < 0:=by w!
 ~eu':p[((k:Nat):Int).toNat]?=some u:=by simpa using eu
 ~dd:does ⟨p⟩ (.within (k:Nat) tn as bs)=if tn < 0∨(400:Int) < tn then .error 5 else given c9! 2 λvs=>tell ⟨p⟩ (toldOut (%bB p tn.toNat u vs)):=Oy c0 eu'
 r! ⟨_,rfl,tn,400,rfl,λnout=>?_,λout=>?_⟩
 rotate_left
 ·rw[if_pos out] at dd;e! q2 H2 5 dd (by w!) (by w!) Z2 (K12.mono k1)
 rw[n! nout] at dd;obtain ⟨tm,rfl⟩:∃ tm:Nat,tn=(tm:Int):=⟨tn.toNat,by w!⟩;r! ⟨_,rfl,h,_,hx,_,_,rfl,Z2.Ih,T.dJ,T.aL,rfl,_,rfl,_,rfl,_,rfl,_,g,x,p,fp,u,l,l1,l2,as,bs,tm,rfl,Z2.pr,Z2.good,EX Z2.pm,FU,%bg eu,RW,by w!,λH3 r ws ev S3 RA=>?_,λH3 ev S3=>?_⟩
 ·rw[ev] at dd;o!⟨R,s',rfl,Mf,z1,z2,z3,z4,z5⟩:=RA.ex;r! ⟨R,p,tm,s',rfl,z1,Ov z2 z3 z4,λH4 l S4 nl ol=>?_⟩;rw[Ou z2 z3] at ol;e! q1 H4 l _ g x p (K12.none (S3.free nl)) dd ol ((Z2.same S3).same S4) (((K12.same S3).same S4).mono k1)
 ·rw[ev] at dd;e! q2 H3 2 dd (by w!) (by w!) gu! ((K12.same S3).mono k1)
end
end Pay
namespace Pay
open PySem L2
open Vaamoa (isName ascii distinct Param Prog labelOf nodesOf deepOf allNodes labels nodeAt)
t! JF:∀ (L:List Ex) (n i:Nat),L.map labelOf=List.range' n L.length->(L.find? λx=>labelOf x == n+i)=L[i]?
 | [],_,_,_=>by simp
 | e::L,n,i,h=>by
  rw[%aM,%aV,List.range'_succ] at h;o!⟨h1,h2⟩:=List.cons.inj h;rw[%by,h1];cases i with
  | zero=>simp
  | succ i =>
   have:(n == n+(i+1))=false:=beq_eq_false_iff_ne.mpr (by w!);rw[this];~z:=JF L (n+1) i h2;rw[show n+1+i=n+(i+1) by w!] at z;simpa using z
t! Qh{p:Prog}(G:qU p):(allNodes p).map labelOf=List.range' 0 (allNodes p).length:=by
 ~h:=(sv p 0).mp G.VY;~e:(allNodes p).length=fV p:=by
  have:=congrArg %bR h;simpa[labels] using this
 rw[e];e! h
t! E5{p:Prog}(G:qU p)(l:Nat):nodeAt p l=(allNodes p)[l]?:=by
 have:=JF (allNodes p) 0 l (Qh G);rw[Nat.zero_add] at this;e! this
t! UZ{p:Prog}(G:qU p){l:Nat}{e:Ex}(h:(allNodes p)[l]?=some e):labelOf e=l:=by
 rw[←E5 G] at h;have:=List.find?_some h;simpa using this
t! SJ{e:Ex}{n:Nat}(h:jS n e)(l:Nat):((nodesOf e).any λx=>labelOf x == l)=decide (n<=l/\l < n+aj e):=by
 ~hr:=(KR e n).mp h;~e1:((nodesOf e).any λx=>labelOf x == l)=((nodesOf e).map labelOf).any λy=>y == l:=by rw[List.any_map];rfl
 rw[e1,hr,%bl,decide_eq_true_eq,List.any_eq_true];constructor
 ·rintro ⟨y,hy,e⟩;obtain rfl:y=l:=by simpa using e
  have:=List.mem_range'_1.mp hy;e! this
 ·intro h;e! ⟨l,List.mem_range'_1.mpr h,by simp⟩
t! LR{e:Ex}{n:Nat}(h:jS n e):labelOf e=n:=by
 cases e<;>first | exact h | exact h.1
t! Q4:∀ {p:Prog} {n:Nat} {f:%aQ},J1 n p->f∈p->n<=labelOf f.body
 | f::r,n,g,h,m=>by
  rcases %ak m with rfl | m
  ·rw[LR h.1];e! %am _
  ·have:=Q4 h.2 m;w!
t! LS:∀ {p:Prog} {n l:Nat},J1 n p->n<=l->l < n+fV p->(p.filter λf=>decide (labelOf f.body<=l)).length=(p.findIdx λf=>(nodesOf f.body).any λx=>labelOf x == l)+1
 | [],n,l,_,h1,h2=>by simp[fV] at h2;w!
 | f::r,n,l,h,h1,h2=>by
  ~sz:fV (f::r)=aj f.body+fV r:=by simp[fV]
  rw[List.filter_cons,if_pos (by rw[LR h.1];simpa using h1),List.findIdx_cons,SJ h.1];by_cases c:l < n+aj f.body
  ·rw[decide_eq_true ⟨h1,c⟩];~e:r.filter (λf=>decide (labelOf f.body<=l))=[]:=by
    rw[List.filter_eq_nil_iff];intro g hg z;have:=Q4 h.2 hg;~z:labelOf g.body<=l:=by simpa using z
    w!
   rw[%aV,e];rfl
  ·rw[decide_eq_false λz=>c z.2];have:=LS (p:=r) h.2 (by w!:n+aj f.body<=l) (by w!);rw[%aV,this];rfl
t! U0:∀ (e:Ex) (d:Nat) (z:Ex×Nat),z∈aT d e->z.2<=d+deepOf e:=by
 intro e
 induction e with
 | num l n=>intro d z h;simp[aT] at h;simp[h]
 | var l n=>intro d z h;simp[aT] at h;simp[h]
 | nil l=>intro d z h;simp[aT] at h;simp[h]
 | cons l x y i1 i2=>intro d z h;simp only[aT,List.mem_cons,List.mem_append] at h;simp only[deepOf];rcases h with h | h | h;(· rw[h];simp);(· have:=i1 _ _ h;w!);(· have:=i2 _ _ h;w!)
 | add l x y i1 i2=>intro d z h;simp only[aT,List.mem_cons,List.mem_append] at h;simp only[deepOf];rcases h with h | h | h;(· rw[h];simp);(· have:=i1 _ _ h;w!);(· have:=i2 _ _ h;w!)
 | sub l x y i1 i2=>intro d z h;simp only[aT,List.mem_cons,List.mem_append] at h;simp only[deepOf];rcases h with h | h | h;(· rw[h];simp);(· have:=i1 _ _ h;w!);(· have:=i2 _ _ h;w!)
 | ifz l c x y i0 i1 i2=>intro d z h;simp only[aT,List.mem_cons,List.mem_append] at h;simp only[deepOf];rcases h with h | h | h | h;(· rw[h];simp);(· have:=i0 _ _ h;w!);(· have:=i1 _ _ h;w!);(· have:=i2 _ _ h;w!)
 | case l x e h' t c i1 i2=>intro d z h;simp only[aT,List.mem_cons,List.mem_append] at h;simp only[deepOf];rcases h with h | h | h;(· rw[h];simp);(· have:=i1 _ _ h;w!);(· have:=i2 _ _ h;w!)
 | letE l x e b i1 i2=>intro d z h;simp only[aT,List.mem_cons,List.mem_append] at h;simp only[deepOf];rcases h with h | h | h;(· rw[h];simp);(· have:=i1 _ _ h;w!);(· have:=i2 _ _ h;w!)
 | call1 l g x i1=>intro d z h;simp only[aT,List.mem_cons] at h;simp only[deepOf];rcases h with h | h;(· rw[h];simp);(· have:=i1 _ _ h;w!)
 | call2 l g x y i1 i2=>intro d z h;simp only[aT,List.mem_cons,List.mem_append] at h;simp only[deepOf];rcases h with h | h | h;(· rw[h];simp);(· have:=i1 _ _ h;w!);(· have:=i2 _ _ h;w!)
 | tick l k e i1=>intro d z h;simp only[aT,List.mem_cons] at h;simp only[deepOf];rcases h with h | h;(· rw[h];simp);(· have:=i1 _ _ h;w!)
 | share l x y z' e i1=>intro d z h;simp only[aT,List.mem_cons] at h;simp only[deepOf];rcases h with h | h;(· rw[h];simp);(· have:=i1 _ _ h;w!)
t! LU:∀ (e:Ex) (d:Nat),∃ z∈aT d e,z.2=d+deepOf e:=by
 ~two:∀ {d:Nat} {x y:Ex} {z0:Ex×Nat},(∃ z∈aT (d+1) x,z.2=d+1+deepOf x)->(∃ z∈aT (d+1) y,z.2=d+1+deepOf y)->∃ z∈z0::fw!,z.2=d+(max (deepOf x) (deepOf y)+1):=by
  rintro d x y z0 ⟨z1,m1,e1⟩ ⟨z2,m2,e2⟩;rcases Nat.le_total (deepOf x) (deepOf y) with h | h
  ·e! ⟨z2,by simp[m2],by rw[Nat.max_eq_right h];w!⟩
  ·e! ⟨z1,by simp[m1],by rw[Nat.max_eq_left h];w!⟩
 ~one:∀ {d:Nat} {x:Ex} {z0:Ex×Nat},(∃ z∈aT (d+1) x,z.2=d+1+deepOf x)->∃ z∈z0::aT (d+1) x,z.2=d+(deepOf x+1):=by
  rintro d x z0 ⟨z1,m1,e1⟩;e! ⟨z1,by simp[m1],by w!⟩
 intro e
 induction e with
 | num l n=>intro d;e! ⟨_,%cd rfl,rfl⟩
 | var l n=>intro d;e! ⟨_,%cd rfl,rfl⟩
 | nil l=>intro d;e! ⟨_,%cd rfl,rfl⟩
 | cons l x y i1 i2=>intro d;e! two (i1 _) (i2 _)
 | add l x y i1 i2=>intro d;e! two (i1 _) (i2 _)
 | sub l x y i1 i2=>intro d;e! two (i1 _) (i2 _)
 | ifz l c x y i0 i1 i2 =>
  intro d;o!⟨z0,m0,e0⟩:=i0 (d+1);o!⟨z1,m1,e1⟩:=i1 (d+1);o!⟨z2,m2,e2⟩:=i2 (d+1);simp only[aT,deepOf];rcases Nat.le_total (deepOf c) (max (deepOf x) (deepOf y)) with h | h
  ·rcases Nat.le_total (deepOf x) (deepOf y) with h' | h'
   ·e! ⟨z2,by simp[m2],by w!⟩
   ·e! ⟨z1,by simp[m1],by w!⟩
  ·e! ⟨z0,by simp[m0],by w!⟩
 | case l x e h' t c i1 i2=>intro d;e! two (i1 _) (i2 _)
 | letE l x e b i1 i2=>intro d;e! two (i1 _) (i2 _)
 | call1 l g x i1=>intro d;e! one (i1 _)
 | call2 l g x y i1 i2=>intro d;e! two (i1 _) (i2 _)
 | tick l k e i1=>intro d;e! one (i1 _)
 | share l x y z' e i1=>intro d;e! one (i1 _)
t! DR:∀ (l:List Nat) (a:Nat),a<=l.foldl max a/\∀ x∈l,x<=l.foldl max a
 | [],a=>⟨%am _,λx h=>by cases h⟩
 | y::l,a=>by
  o!⟨h1,h2⟩:=DR l (max a y);r! ⟨%aj (Nat.le_max_left a y) h1,λx hx=>?_⟩;rcases %ak hx with rfl | hx
  ·e! %aj (Nat.le_max_right a x) h1
  ·e! h2 x hx
t! BF:∀ (l:List Nat) (a:Nat),l.foldl max a=a∨l.foldl max a∈l
 | [],a=>.inl rfl
 | y::l,a=>by
  rcases BF l (max a y) with h | h
  ·rw[List.foldl_cons,h];rcases Nat.le_total a y with z | z
   ·rw[Nat.max_eq_right z];e! .inr ai!
   ·rw[Nat.max_eq_left z];e! .inl rfl
  ·e! .inr (%af _ h)
t! Qi{p:Prog}(hp:1<=p.length){m:Int}(h1:m∈(cC p).map λz=>((z.2:Nat):Int))(h2:∀ y∈(cC p).map λz=>((z.2:Nat):Int),y<=m):m=(((p.map λf=>deepOf f.body).foldl max 0:Nat):Int):=by
 o!⟨z,hz,rfl⟩:=%bH h1;o!⟨f,hf,hz⟩:=List.mem_flatMap.mp hz;~a1:=U0 f.body 0 z hz;~a2:=(DR (p.map λf=>deepOf f.body) 0).2 (deepOf f.body) (List.mem_map.mpr ⟨f,hf,rfl⟩);~a3:((p.map λf=>deepOf f.body).foldl max 0)<=z.2:=by
  ~key:∀ g∈p,deepOf g.body<=z.2:=λg hg=>by
   o!⟨z',m',e'⟩:=LU g.body 0;have:=h2 _ (List.mem_map.mpr ⟨z',List.mem_flatMap.mpr ⟨g,hg,m'⟩,rfl⟩);w!
  rcases BF (p.map λf=>deepOf f.body) 0 with h | h
  ·w!
  ·o!⟨g,hg,e⟩:=%bH h;rw[←e];e! key g hg
 w!
end Pay
namespace Pay
open PySem L2
open Vaamoa (isName ascii distinct Param Prog labelOf nodesOf deepOf allNodes labels nodeAt nodeNumber textOf toldText does given tell tickLabels)
def Q5:List (Text×V):=[(ascii "number",.int 0),(ascii "name",.int 1),(ascii "nil",.int 2),(ascii "cons",.int 3),(ascii "add",.int 4),(ascii "sub",.int 5),(ascii "if",.int 6),(ascii "case",.int 7),(ascii "let",.int 8),(ascii "tick",.int 11),(ascii "share",.int 12)]
def SK:List (Key×V):=[(.inr (%ad "number"),.int 0),(.inr (%ad "name"),.int 1),(.inr (%ad "nil"),.int 2),(.inr gx!,.int 3),(.inr (%ad "add"),.int 4),(.inr (%ad "sub"),.int 5),(.inr (%ad "if"),.int 6),(.inr (%ad "case"),.int 7),(.inr (%ad "let"),.int 8),(.inr fF!,.int 11),(.inr (%ad "share"),.int 12)]
t! Zl:SK=Q5.map λz=>c5!:=by
 unfold SK Q5;rw[Ju,PQ,UC,MI,w_add,w_sub,Wb,PR,Q0,MK,ML];rfl
t! Yn(x:Text):cA SK a4!=(Q5.find? λz=>z.1 == x).map λz=>z.2:=by
 rw[Zl];e! AL id _ _
structure Fnm (P:Program) (w:World) (K:PySem.W.Frag) (mg:Str->Option Value) (a:Ad):Prop where
 xV:∃ d,mg "FORM_NUMBERS"=some (.ref d)/\KD P w K d SK
t! Wo{e:Ex}(h:wordOf e≠ascii "call"):cA SK (.inr cV!)=some (.int (nodeNumber e)):=by
 rw[Yn];cases e with
 | num l n=>rw[wordOf,Q5,aw,if_pos rfl];rfl
 | var l x =>
  rw[wordOf,Q5]
  repeat rw[aw,n! (by dk!)]
  rw[aw,if_pos rfl];rfl
 | nil l =>
  rw[wordOf,Q5]
  repeat rw[aw,n! (by dk!)]
  rw[aw,if_pos rfl];rfl
 | cons l x y =>
  rw[wordOf,Q5]
  repeat rw[aw,n! (by dk!)]
  rw[aw,if_pos rfl];rfl
 | add l x y =>
  rw[wordOf,Q5]
  repeat rw[aw,n! (by dk!)]
  rw[aw,if_pos rfl];rfl
 | sub l x y =>
  rw[wordOf,Q5]
  repeat rw[aw,n! (by dk!)]
  rw[aw,if_pos rfl];rfl
 | ifz l c x y =>
  rw[wordOf,Q5]
  repeat rw[aw,n! (by dk!)]
  rw[aw,if_pos rfl];rfl
 | case l x c y z g =>
  rw[wordOf,Q5]
  repeat rw[aw,n! (by dk!)]
  rw[aw,if_pos rfl];rfl
 | letE l x c y =>
  rw[wordOf,Q5]
  repeat rw[aw,n! (by dk!)]
  rw[aw,if_pos rfl];rfl
 | call1 l g x=>e! absurd rfl h
 | call2 l g x y=>e! absurd rfl h
 | tick l k x =>
  rw[wordOf,Q5]
  repeat rw[aw,n! (by dk!)]
  rw[aw,if_pos rfl];rfl
 | share l x y z c =>
  rw[wordOf,Q5]
  repeat rw[aw,n! (by dk!)]
  rw[aw,if_pos rfl];rfl
t! SM{e:Ex}(h:wordOf e=ascii "call"):nodeNumber e=if (partsOf e).length=1 then 9 else 10:=by
 cases e with
 | call1 l g x=>rfl
 | call2 l g x y=>rfl
 | num l n=>e! absurd h br!
 | var l x=>e! absurd h br!
 | nil l=>e! absurd h br!
 | cons l x y=>e! absurd h br!
 | add l x y=>e! absurd h br!
 | sub l x y=>e! absurd h br!
 | ifz l c x y=>e! absurd h br!
 | case l x c y z g=>e! absurd h br!
 | letE l x c y=>e! absurd h br!
 | tick l k x=>e! absurd h br!
 | share l x y z c=>e! absurd h br!
section
variable {P:Program} {w:World} {K:PySem.W.Frag} {mg:Str->Option Value} {base:Heap} {a:Ad}
def Q6(a:Ad):Sp:=λvs H Q _=>∃ (ok:Addr->Prop) (nd:Addr) (e:Ex) (d:Nat),vs=[.ref nd]/\aY a ok H e d nd/\Q (.int (nodeNumber e)) H
t! JG(T:eo K mg a)(Fn:Fnm P w K mg a):FB! 1 a.kI a.kJ ["node"] (Q6 a):=by
 r! T.vj.ok IG ab! aa!
 ·o!⟨ok,nd,e,d,rfl,_⟩:=h;rfl
 o!⟨ok,nd,e,d,rfl,N,q⟩:=h;o!⟨fd,gF,kF⟩:=Fn.xV;o!⟨t1,g1⟩:=T.lF;o!⟨t2,g2⟩:=T.lG;r! ⟨_,af (cE (bG i8 ad! cN (cy _))
   (ah (aH (HD (bG i8 a5! aI (cy _)) dK! (aQ (v:=.int 10) rfl g2 ⟨t2,rfl⟩)))) bD)
  (ah (aH (Am kF eN! ad! ar!))),?_⟩
 o!⟨qs,NO,AP⟩:=gH N;~lq:=AP.len;o!⟨dx,nm,pt,⟨sa,ea,oN⟩,onm,opt,_⟩:=NO;r! ⟨_,rfl,nd,_,dx,_,_,rfl,oN,T.aG,T.bM,rfl,rfl,_,rfl,?_⟩;~e1:decide (V.str cV!=V.str (Str.ofString "call"))=decide (wordOf e=ascii "call"):=by rw[decide_eq_decide,V.str.injEq,MJ,oR]
 rw[e1];by_cases c:wordOf e=ascii "call"
 ·rw[decide_eq_true c];r! bO ⟨_,rfl,nd,_,dx,_,_,rfl,oN,T.aG,T.aO,rfl,pt,_,rfl,.inl (aX.of opt),rfl,_,rfl,?_⟩;~e2:decide (V.int (((qs.map V.ref).length:Nat):Int)=V.int 1)=decide ((partsOf e).length=1):=by
   rw[decide_eq_decide,V.int.injEq,%ac];w!
  rw[e2];rw[SM c] at q;by_cases c2:(partsOf e).length=1
  ·rw[decide_eq_true c2];rw[if_pos c2] at q;e! bO q
  ·rw[decide_eq_false c2];rw[n! c2] at q;e! bY q
 ·rw[decide_eq_false c];r! bY ⟨_,rfl,nd,_,dx,_,_,rfl,oN,T.aG,T.bM,rfl,.inr cV!,_,rfl,rfl,Wo c,q⟩
def Oz(a:Ad):Sp:=λvs H Q _=>∃ (ok:Addr->Prop) (g:Addr) (x:Text) (p:Prog) (nd:Addr) (e:Ex),vs=[.ref g,.ref nd]/\A3 a ok H g x p/\Yx a x ok H e nd/\∀ H' l,bc H H'->H' l=some (.lst ((codes (textOf e)).map λn=>V.int (n:Nat)))->Q (.ref l) H'
t! Qj(T:eo K mg a):FB! 1 a.vY a.vZ bl! (Oz a):=by
 r! T.ED.ok Pe ab! aa!
 ·o!⟨ok,g,x,p,nd,e,rfl,_⟩:=h;rfl
 o!⟨ok,g,x,p,nd,e,rfl,PA,SP,q⟩:=h;r! ⟨_,ah (aH (si CT ad! (pd as!) (pd as!))),?_⟩;o!⟨dp,tl,fl,nl,fs,ps,og,otl,ofl,onl,AF,AN,_⟩:=PA.ex;o!⟨dn,l0,d0,sa,wd,n0,nm,pt,oN,_,u,eu⟩:=SP;r! ⟨_,rfl,g,_,dp,_,_,rfl,og,T.bX,T.g6,rfl,_,rfl,nd,_,dn,_,_,rfl,oN,T.aG,T.gY,rfl,_,rfl,_,rfl,nd,_,dn,_,_,rfl,oN,T.aG,T.gZ,rfl,_,rfl,tl,_,rfl,aX.of otl,λl nl=>?_⟩;~lx:sa+(textOf e).length<=x.length∨textOf e=[]:=by
  have:=congrArg %bR eu;rw[%aU,%aq] at this;cases h:textOf e with
  | nil=>e! .inr rfl
  | cons b r =>
   left;rw[h] at this;simp only[List.length_cons] at this ⊢;w!
 ~ec:JU bt! (some ((sa:Nat):Int)) (some (((sa+(textOf e).length:Nat):Int)))=(codes (textOf e)).map λn=>V.int (n:Nat):=by
  unfold JU;rw[HT.t6,HT.t6,%ac,my];rcases lx with lx | lx
  ·rw[show min sa x.length=sa from %bP (by w!),show min (sa+(textOf e).length) x.length=sa+(textOf e).length from %bP lx,show sa+(textOf e).length - sa=(textOf e).length by w!,←List.map_drop,←List.map_take];congr 1;unfold codes;rw[←List.map_drop,←List.map_take,eu,List.take_left]
  ·rw[lx];simp[codes]
 rw[ec];e! q _ l (ay nl _) ae
def U9(a:Ad):Sp:=λvs H Q _=>∃ (ok:Addr->Prop) (g:Addr) (x:Text) (p:Prog) (nd:Addr) (e:Ex) (d:Nat),vs=[.ref g,.ref nd]/\A3 a ok H g x p/\qU p/\aY a ok H e d nd/\labelOf e < fV p /\
 ∀ H',bc H H'->Q (.int ((p.findIdx λf=>(nodesOf f.body).any λx=>labelOf x == labelOf e:Nat):Int)) H'
t! Cw(T:eo K mg a):FB! 1 a.fX a.fY bl! (U9 a):=by
 r! T.m7.ok lP ab! aa!
 ·o!⟨ok,g,x,p,nd,e,d,rfl,_⟩:=h;rfl
 o!⟨ok,g,x,p,nd,e,d,rfl,PA,G,N,ls,q⟩:=h;r! ⟨_,af (HQ (i:=2) (own:=[("function",3)]) (te:=i7 3) (g:=nM 3) (tt:=tB (tLe (wK K (wK K (i7 3) "body") "label") (wK K (i7 1) "label"))) rfl lP.nd rfl rfl gw! (fR ad!) (i9 rfl) (λ_ _ _ _ _=>cb (i:=3) lP.nd rfl al!) (λ_ _ _ _ _=>Ma (jR (YB (ao ca! rfl) as!))) (λ_ _ _ _ _=>pv 3))
  (ah (aH (yM Td (aR aJ rfl T.dm %ar au!) aI))),?_⟩
 o!⟨dp,tl,fl,nl,fs,ps,og,otl,ofl,onl,AF,AN,_⟩:=PA.ex;~lf:=AF.len;~g4:=G.most;o!⟨qs,NO,AP⟩:=gH N;o!⟨dn,nm,pt,⟨sa,ea,oN⟩,onm,opt,_⟩:=NO;r! ⟨_,rfl,g,_,dp,_,_,rfl,og,T.bX,T.aV,rfl,fl,rfl,⟨_,aX.of ofl⟩,λD nD=>?_⟩;r! ra (K:=K) (a:=fl) (xs:=fs.map V.ref) (λm H'=>∃ us:List V,H' D=some (.lst us)/\us.length=((p.take m).filter λf=>decide (labelOf f.body<=labelOf e)).length/\bc H H') ⟨[],ae,rfl,ay nD _⟩ (λm H' _ ⟨_,_,_,S⟩=>aX.of (S _ _ ofl)) ?_ ?_
 ·rintro m y H' hy ⟨us,oD,lu,S⟩;rw[%al] at hy;o!⟨k,ek,rfl⟩:=%ab hy;o!⟨fu,ef,FU⟩:=AF.at ek;o!⟨df,pl,pqs,bp,oF,opl,APr,NB,_⟩:=FU.ex;o!⟨bqs,NOb,_⟩:=gH NB;o!⟨db,nmb,ptb,⟨sab,eab,oB⟩,_⟩:=NOb;~tk:p.take (m+1)=p.take m++[fu]:=by rw[%ay,ef];rfl
  ~us4:us.length<=4:=by
   rw[lu];e! %aj (%bq _ _) (%aj (List.length_take_le _ _) (by have:=(%ae ef).1;w!))
  r! ⟨rfl,_,rfl,k,_,df,_,_,rfl,S _ _ oF,T.bw,T.dF,rfl,bp,_,db,_,_,rfl,S _ _ oB,T.aG,T.eY,rfl,_,rfl,nd,_,dn,_,_,rfl,S _ _ oN,T.aG,T.eY,rfl,_,_,rfl,rfl,decide (((labelOf fu.body:Nat):Int)<=((labelOf e:Nat):Int)),rfl,?_⟩;~e1:decide (((labelOf fu.body:Nat):Int)<=((labelOf e:Nat):Int))=decide (labelOf fu.body<=labelOf e):=by
   rw[decide_eq_decide];w!
  rw[e1];by_cases c:labelOf fu.body<=labelOf e
  ·rw[decide_eq_true c];r! bO ⟨_,rfl,_,oD,%ai us4 ag!,us++[.ref k],ae,?_,λb o e=>?_⟩
   ·rw[tk,List.filter_append,List.filter_cons,if_pos (by simpa using c),List.length_append,List.length_append,lu];rfl
   ·rw[ai eB!];e! S b o e
  ·rw[decide_eq_false c];r! bY ⟨us,oD,?_,S⟩;rw[tk,List.filter_append,List.filter_cons,if_neg (by simpa using c),List.filter_nil,List.append_nil,lu]
 ·rintro H' ⟨us,oD,lu,S⟩;~eT:p.take (fs.map V.ref).length=p:=%aC b9!;rw[eT,LS G.VY (%aE _) (by w!)] at lu;r! ⟨_,rfl,D,_,rfl,.inl (aX.of oD),_,_,rfl,rfl,?_⟩;have:=q H' S;rw[lu];~e2:(((p.findIdx λf=>(nodesOf f.body).any λx=>labelOf x == labelOf e)+1:Nat):Int) - 1=((p.findIdx λf=>(nodesOf f.body).any λx=>labelOf x == labelOf e:Nat):Int):=by w!
  show Q (V.int ((((p.findIdx λf=>(nodesOf f.body).any λx=>labelOf x == labelOf e)+1:Nat):Int) - 1)) H';rw[e2];e! this
t! JH(T:eo K mg a)(Fn:Fnm P w K mg a):aK P w K mg base (bA P w) 3 a.kN a.pz ah! (yF a K λk=>∃ l,k=.node l):=by
 ~GN:FB! 2 a.bB a.bC ["self"] (xU a K):=(g9 T).mono (by w!);~GO:aK P w K mg base (bA P w) 2 a.wa a.wb c8! (ER a a.fE λ_ _ n=>n):=(PZ T).mono (by w!);~GF:FB! 2 a.kI a.kJ ["node"] (Q6 a):=(JG T Fn).mono (by w!);~GC:FB! 2 a.jE a.jF ["row"] r9:=(tS T).mono (by w!);~GT:FB! 2 a.vY a.vZ bl! (Oz a):=(Qj T).mono (by w!);~GU:FB! 2 a.fX a.fY bl! (U9 a):=(Cw T).mono (by w!);r! T.vm.kY sL ab! aa!
 ·o!⟨ok,h,hx,g,f,dx,c,xs,i,x,p,k,j,rfl,_⟩:=h;rfl
 o!⟨ok,h,hx,g,f,dx,c,xs,i,x,p,k,j,rfl,Z,⟨l,rfl⟩,⟨el,rfl⟩,lj,q1,q2⟩:=h;r! ⟨_,af (aE (i:=2) sL.nd rfl al! ad!)
  (af (aE (i:=3) sL.nd rfl al! (az GO hr rfl T.Lw T.EG.kp T.Lv .nil aB (aa (pv 2) (aa aX! ag))))
  (ah (aH (yM HJ (yM HJ (cz (aa (az GF hr rfl T.Bq T.vj.kp T.Bp .nil aM bZ!) ag))
   (az GC hr rfl T.rY T.oM.kp T.rX .nil aM (aa (az GT hr rfl T.Ls T.ED.kp T.Lr .nil aM gm!) ag)))
   (cz (aa (az GU hr rfl T.ur T.m7.kp T.uq .nil aM gm!) ag)))))),?_⟩
 ~F0:=Z.fd;~F1:=F0.move (j:=i+1) lj;r! ⟨_,rfl,h,_,hx,_,_,rfl,Z.Ih,T.dJ,T.aL,rfl,?_⟩;r! ⟨_,rfl,_,rfl,f,dx,_,rfl,F0.obj,rfl,f,dx,c,xs,i,l,rfl,F0,el,?_⟩;~K1:aA [f] H fO!:=aA.upd ai!;~Z1:=Z.feed K1 F1;generalize hH1:upd H f aY!=H1 at *;o!⟨dp,tl,fl,nl',fs,ps,og,otl,ofl,onl,AF,AN,kY,ok2,ok3,ok4⟩:=Z1.pr.ex;~ln:=AN.len;~lall:(cC p).length=(allNodes p).length:=by rw[←Cv,%ac]
 r! ⟨g,dp,tl,fl,nl',ps,l,rfl,og,onl,λk nd ek end_=>?_,λho=>?_⟩
 rotate_left
 ·r! q2 H1 4 ?_ (by w!) (by w!) Z1 dL!;show (if l < 0 then _ else given (nodeAt p l.toNat) 4 _)=_;by_cases c0:l < 0
  ·rw[if_pos c0]
  ·rw[n! c0,E5 Z1.good,%bS (by rcases ho with ho | ho<;>w!)];rfl
 subst ek;o!⟨z,ez,NZ,SZ⟩:=AN.at end_;~ea:(allNodes p)[k]?=some z.1:=by rw[←Cv,%al,ez];rfl
 ~VY:=UZ Z1.good ea;~hk:k < (allNodes p).length:=(%ae ea).1;~sp:(allNodes p).length=fV p:=by
  have:=congrArg %bR ((sv p 0).mp Z1.good.VY);simpa[labels] using this
 ~dd:does ⟨p⟩ (.node (k:Nat))=.ok (⟨p⟩,nodeNumber z.1::(toldText (textOf z.1)++[((p.findIdx λf=>(nodesOf f.body).any λx=>labelOf x == k:Nat):Int)])):=by
  show (if ((k:Nat):Int) < 0 then (.error 4:%cE) else given (nodeAt p ((k:Nat):Int).toNat) 4 _)=_;rw[n! (by w!),Int.toNat_natCast,E5 Z1.good,ea];rfl
 r! ⟨_,rfl,_,nd,z.1,z.2,rfl,NZ,by show 1<=sizeLine;decide,λl1 n1=>?_⟩;~S1:=ay n1 eq!;~tk1:∀ b o,ok b->H1 b=some o->upd H1 l1 eq! b=some o:=λb o _ e=>S1 b o e
 r! ⟨_,rfl,_,rfl,_,g,x,p,nd,z.1,rfl,Z1.pr.turn tk1 bK,SZ.turn tk1 bK,λH2 l2 S2 o2=>?_⟩;~lt:(textOf z.1).length<=2000:=by
  o!⟨dn,l0,d0,sa,wd,n0,nm,pt,oN,_,u,eu⟩:=SZ;~h1:=congrArg %bR eu;~h2:=Z1.len;rw[%aU,%aq] at h1;w!
 r! ⟨l2,_,rfl,o2,by rw[%ac,my];w!,λH3 l3 S3 _ o3=>?_⟩;~S13:=(S1.trans S2).trans S3;~o1:H3 l1=some eq!:=S3 _ _ (S2 _ _ ae);r! ⟨l1,l3,_,_,rfl,rfl,o1,o3,?_,λl4 n4=>?_⟩
 ·simp only[List.length_cons,List.length_map,List.length_nil,my];e! %aj (show 0+1+((textOf z.1).length+1)<=3000 by w!) ag!
 ~S4:=ay n4 (.lst aG!);~S14:=S13.trans S4;~tk4:∀ b o,ok b->H1 b=some o->upd H3 l4 (.lst aG!) b=some o:=λb o _ e=>S14 b o e
 r! ⟨_,rfl,_,rfl,_,g,x,p,nd,z.1,z.2,rfl,Z1.pr.turn tk4 bK,Z1.good,NZ.turn tk4 bK,by rw[VY,←sp];e! hk,λH5 S5=>?_⟩;r! ⟨by show 1<=sizeLine;decide,λl5 n5=>?_⟩;rw[VY];~S6:=ay n5 (.lst [V.int ((p.findIdx λf=>(nodesOf f.body).any λx=>labelOf x == k:Nat):Int)]);r! ⟨l4,l5,_,_,rfl,rfl,S6 _ _ (S5 _ _ ae),ae,?_,λl6 n6=>?_⟩
 ·simp only[List.length_cons,List.length_map,List.length_nil,my,List.length_append];e! %aj (show 0+1+((textOf z.1).length+1)+(0+1)<=3000 by w!) ag!
 ~S17:=((S14.trans S5).trans S6).trans (ay n6 (.lst (aG!++[V.int ((p.findIdx λf=>(nodesOf f.body).any λx=>labelOf x == k:Nat):Int)])));r! q1 _ l6 _ g x p (K1.none (((S14.trans S5).trans S6).free n6)) dd ?_ (Z1.same S17) ((K1.same S17).mono k1);rw[ae];congr 2;simp[toldText,codes]
t! JI(T:eo K mg a):aK P w K mg base (bA P w) 2 a.kO a.pA ah! (yF a K λk=>k=.size):=by
 ~GT:FB! 1 a.jA a.jC ga! (MO a):=BB T;r! T.vn.kY jc ab! aa!
 ·o!⟨ok,h,hx,g,f,dx,c,xs,i,x,p,k,j,rfl,_⟩:=h;rfl
 o!⟨ok,h,hx,g,f,dx,c,xs,i,x,p,k,j,rfl,Z,rfl,rfl,lj,q1,q2⟩:=h;r! ⟨_,af (aE (i:=2) jc.nd rfl al! ad!)
  (af (aE (i:=3) jc.nd rfl al! (aR (XC rfl) rfl T.Ly PyProof.Rows.boot_max (aa (HP (own:=[("node",4)]) (te:=wK K (i7 4) "depth") (g:=nM 4) (tt:=HM) rfl jc.nd (fR bE!) (i9 rfl) (λ_ _ _ _ _=>cb (i:=4) jc.nd rfl al!) cG! (λ_ _ _ _ _=>ao (pv 4) rfl)) ag)))
  (ah (aH (cz (aa ei! (aa ei! (aa (pv 3) (aa (aR aJ rfl T.dm %ar (aa (az GT hr rfl T.xI T.rE.kp T.xH .nil aM au!) ag)) ag)))))))),?_⟩
 o!⟨dp,tl,fl,nl',fs,ps,og,otl,ofl,onl,AF,AN,_⟩:=Z.pr.ex;~lf:=AF.len;~ln:=AN.len;~l60:(cC p).length<=60:=by
  ~e:(cC p).length=fV p:=by
   unfold cC fV;generalize p=l
   induction l with
   | nil=>rfl
   | cons b r ih=>rw[%bn,%aq,ih,Cp,%aM,%co]
  rw[e];e! Z.good.size
 ~lpos:0 < (cC p).length:=by
  have:=Z.good.least;cases p with
  | nil=>simp at this
  | cons b r =>
   unfold cC;rw[%bn,%aq];o!⟨z,hz,_⟩:=LU b.body 0;have:=List.length_pos_of_mem hz;w!
 r! ⟨_,rfl,h,_,hx,_,_,rfl,Z.Ih,T.dJ,T.aL,rfl,?_⟩;r! ⟨_,rfl,g,_,dp,_,_,rfl,og,T.bX,T.cw,rfl,nl',rfl,⟨_,aX.of onl⟩,λD nD=>?_⟩;r! ra (K:=K) (a:=nl') (xs:=ps.map V.ref) (λm H'=>H' D=some (.lst ((((cC p).take m).map λz=>((z.2:Nat):Int)).map V.int))/\bc H H') ⟨ae,ay nD _⟩ (λm H' _ h=>aX.of (h.2 _ _ onl)) ?_ ?_
 ·rintro m y H' hy ⟨oD,sm⟩;rw[%al] at hy;o!⟨k,ek,rfl⟩:=%ab hy;o!⟨z,ez,NZ,_⟩:=AN.at ek;o!⟨qs,NO,_⟩:=gH NZ;o!⟨dn,nm,pt,⟨sa,ea,oN⟩,_⟩:=NO;r! ⟨rfl,zM ?_⟩;r! ⟨_,rfl,k,_,dn,_,_,rfl,sm _ _ oN,T.aG,T.jM,rfl,_,oD,?_,?_,λb o e=>?_⟩
  ·rw[%ac,%ac,%aH];e! %ai (show min m (cC p).length<=60 by w!) ag!
  ·rw[ae,%ay,ez];congr 2;simp
  ·rw[ai eB!];e! sm b o e
 ·rintro H6 ⟨oD,S6⟩;~eT:(cC p).take (ps.map V.ref).length=cC p:=%aC b9!;rw[eT] at oD;r! ⟨D,_,rfl,aX.of oD,by rw[%ac];e! lpos,λm hm hb=>?_⟩;~em:=Qi Z.good.least hm hb;subst em;~tk6:∀ b o,ok b->H b=some o->H6 b=some o:=λb o _ e=>S6 b o e
  r! ⟨_,rfl,g,_,dp,_,_,rfl,S6 _ _ og,T.bX,T.aV,rfl,fl,_,rfl,.inl (aX.of (S6 _ _ ofl)),_,rfl,g,_,dp,_,_,rfl,S6 _ _ og,T.bX,T.cw,rfl,nl',_,rfl,.inl (aX.of (S6 _ _ onl)),_,rfl,_,rfl,_,g,x,p,rfl,Z.pr.turn tk6 bK,l60,λH7 l7 ks S7 n7 o7 A7=>?_⟩;~l7:=A7.len;r! ⟨_,_,rfl,.inl (aX.of o7),by show 4<=sizeLine;decide,λr nr=>?_⟩;~S8:=ay nr (.lst [V.int (((fs.map V.ref).length:Nat):Int),V.int (((ps.map V.ref).length:Nat):Int),V.int (((p.map λf=>deepOf f.body).foldl max 0:Nat):Int),V.int (((ks.map V.ref).length:Nat):Int)]);~S68:=(S6.trans S7).trans S8;r! q1 _ r _ g x p ((S6.trans S7).free nr) rfl ?_ (Z.same S68) (aA.of_same S68);rw[ae,%ac,%ac,%ac,lf,ln,l7,JB];~et:(tickLabels p).length=((cC p).filter Oi).length:=by rw[BE,%ac]
  rw[←et];rfl
end
end Pay
namespace Pay
open PySem L2
open Vaamoa (isName ascii distinct Param Prog does)
def Hw:%ch->Int
 | .program _=>0
 | .show_=>1
 | .kinds=>2
 | .run _ _ _=>3
 | .ticks _ _ _=>4
 | .counts _ _ _=>5
 | .calls _ _ _=>6
 | .scaled _ _ _ _=>7
 | .within _ _ _ _=>8
 | .node _=>9
 | .size=>10
def Q7(a:Ad):List (Key×V):=[(.inl 0,.ref a.gX),(.inl 1,.ref a.kM),(.inl 2,.ref a.jk),(.inl 3,.ref a.mS),(.inl 4,.ref a.jl),(.inl 5,.ref a.iQ),(.inl 6,.ref a.jm),(.inl 7,.ref a.iR),(.inl 8,.ref a.iS),(.inl 9,.ref a.kN),(.inl 10,.ref a.kO)]
structure Anm (P:Program) (w:World) (K:PySem.W.Frag) (mg:Str->Option Value) (a:Ad):Prop where
 MW:∃ d,mg "ANSWERS"=some (.ref d)/\KD P w K d (Q7 a)
structure Exm (K:PySem.W.Frag) (a:Ad):Prop where
 h1:%aI K a2! a2!=some true
 h2:%aI K eH! eH!=some true
 h3:%aI K dA! dA!=some true
 h4:%aI K fg! fg!=some true
 h5:%aI K eG! eG!=some true
 Zw:%aI K eH! a2!=some false
 Zx:%aI K dA! a2!=some false
 Zy:%aI K dA! eH!=some false
 Zz:%aI K fg! a2!=some false
 ZA:%aI K fg! eH!=some false
 ZC:%aI K fg! dA!=some false
 ZD:%aI K eG! a2!=some false
 ZE:%aI K eG! eH!=some false
 ZF:%aI K eG! dA!=some false
 ZG:%aI K eG! fg!=some false
structure Va (P:Program) (w:World) (K:PySem.W.Frag) (mg:Str->Option Value) (a:Ad):Prop where
 T:eo K mg a
 Cn:SR P w K mg a
 Dc:WY P w K mg a
 Sg:Yc P w K mg a
 Mc:UQ P w K mg a
 Fn:Fnm P w K mg a
 An:Anm P w K mg a
 Ex:Exm K a
t! phx{X:Cx}{hs:List ExceptHandler}{C:Addr}{t t':TS}(h:PH X hs C t)(i:∀ D σ H,t' D σ H->t D σ H):PH X hs C t':=λpins σ H1 s1 s D a t0 H' B I F q=>h pins σ H1 s1 s D a t0 H' B I F (i D σ H' q)
t! vo{K:%ag}{c d:Addr}(h:%aI K (.ref d) (.ref d)=some true)(m:%aI K (.ref c) (.ref d)=some false):c≠d:=λe=>by
 rw[e,h] at m;cases m
t! Vb{K:%ag}{a:Ad}(X:Exm K a):∀ n m,1<=n->n<=5->1<=m->m<=5->UX a n=UX a m->n=m:=by
 ~n21:=vo X.h1 X.Zw;~n31:=vo X.h1 X.Zx;~n32:=vo X.h2 X.Zy;~n41:=vo X.h1 X.Zz;~n42:=vo X.h2 X.ZA;~n43:=vo X.h3 X.ZC;~n51:=vo X.h1 X.ZD;~n52:=vo X.h2 X.ZE;~n53:=vo X.h3 X.ZF;~n54:=vo X.h4 X.ZG;intro n m h1 h5 k1 k5 e
 match n,h1,h5,m,k1,k5,e with
 | 1,_,_,1,_,_,_=>rfl
 | 1,_,_,2,_,_,e=>e! absurd e.symm n31
 | 1,_,_,3,_,_,e=>e! absurd e.symm n21
 | 1,_,_,4,_,_,e=>e! absurd e.symm n41
 | 1,_,_,5,_,_,e=>e! absurd e.symm n51
 | 2,_,_,1,_,_,e=>e! absurd e n31
 | 2,_,_,2,_,_,_=>rfl
 | 2,_,_,3,_,_,e=>e! absurd e n32
 | 2,_,_,4,_,_,e=>e! absurd e.symm n43
 | 2,_,_,5,_,_,e=>e! absurd e.symm n53
 | 3,_,_,1,_,_,e=>e! absurd e n21
 | 3,_,_,2,_,_,e=>e! absurd e.symm n32
 | 3,_,_,3,_,_,_=>rfl
 | 3,_,_,4,_,_,e=>e! absurd e.symm n42
 | 3,_,_,5,_,_,e=>e! absurd e.symm n52
 | 4,_,_,1,_,_,e=>e! absurd e n41
 | 4,_,_,2,_,_,e=>e! absurd e n43
 | 4,_,_,3,_,_,e=>e! absurd e n42
 | 4,_,_,4,_,_,_=>rfl
 | 4,_,_,5,_,_,e=>e! absurd e.symm n54
 | 5,_,_,1,_,_,e=>e! absurd e n51
 | 5,_,_,2,_,_,e=>e! absurd e n53
 | 5,_,_,3,_,_,e=>e! absurd e n52
 | 5,_,_,4,_,_,e=>e! absurd e n54
 | 5,_,_,5,_,_,_=>rfl
section
variable {P:Program} {w:World} {K:PySem.W.Frag} {mg:Str->Option Value} {base:Heap} {a:Ad}
t! Vc(Z:Va P w K mg a)(k:%ch):∃ (fx:Addr) (fd:FuncData) (W:%ch->Prop),cA (Q7 a) (.inl (Hw k))=some gh!/\aK P w K mg base (bA P w) 45 fx fd ah! (yF a K W)/\W k/\%aR K gh!=true/\Binds K fd ah! []:=by
 ~T:=Z.T;cases k with
 | program t=>e! ⟨_,_,_,rfl,DQ T Z.Cn Z.Dc Z.Sg,⟨_,rfl⟩,T.oK.kp,T.wu⟩
 | show_=>e! ⟨_,_,_,rfl,(JC T).mono (by w!),rfl,T.vk.kp,T.Bu⟩
 | kinds=>e! ⟨_,_,_,rfl,(G7 T).mono (by w!),rfl,T.tH.kp,T.zG⟩
 | run g as bs=>e! ⟨_,_,_,rfl,(Km T Z.Mc).mono (by w!),⟨_,_,_,rfl⟩,T.xJ.kp,T.Dp⟩
 | ticks g as bs=>e! ⟨_,_,_,rfl,(G5 T Z.Mc).mono (by w!),⟨_,_,_,rfl⟩,T.tI.kp,T.zH⟩
 | counts g as bs=>e! ⟨_,_,_,rfl,(EZ T Z.Mc).mono (by w!),⟨_,_,_,rfl⟩,T.qF.kp,T.yA⟩
 | calls g as bs=>e! ⟨_,_,_,rfl,(G6 T Z.Mc).mono (by w!),⟨_,_,_,rfl⟩,T.tJ.kp,T.zI⟩
 | scaled g n as bs=>e! ⟨_,_,_,rfl,(E1 T Z.Mc).mono (by w!),⟨_,_,_,_,rfl⟩,T.qG.kp,T.yB⟩
 | within g n as bs=>e! ⟨_,_,_,rfl,(E2 T Z.Mc).mono (by w!),⟨_,_,_,_,rfl⟩,T.qH.kp,T.yC⟩
 | node l=>e! ⟨_,_,_,rfl,(JH T Z.Fn).mono (by w!),⟨_,rfl⟩,T.vm.kp,T.Bv⟩
 | size=>e! ⟨_,_,_,rfl,(JI T).mono (by w!),rfl,T.vn.kp,T.Bw⟩
def Zm(a:Ad)(K:%ag):Sp:=λvs H Q _=>∃ (ok:Addr->Prop) (h hx g f dx c:Addr) (xs:List Int) (i:Nat) (x:Text) (p:Prog) (k:%ch) (j:Nat),vs=[.ref h,.ref f]/\St a K ok H h hx g f dx c xs i x p/\xs[i]?=some (Hw k)/\Args xs (i+1) k j/\j<=xs.length /\
 ∀ H' l g' x' p',H l=none->(%cg ⟨p⟩ k).1=⟨p'⟩->H' l=some (.lst ((VaamoaNeutral.encode (%cg ⟨p⟩ k).2).map V.int))->St a K ok H' h hx g' f dx c xs j x' p'->aA [h,f] H H'->Q (.ref l) H'
def Zn(n:Nat):TS:=Rl (YN (ye (tC (.int (-(n:Int)))) Gs))
t! zU(Z:Va P w K mg a):aK P w K mg base (bA P w) 46 a.eU a.eV ah! (Zm a K):=by
 ~T:=Z.T;~X:=Z.Ex;~GN:FB! 45 a.bB a.bC ["self"] (xU a K):=(g9 T).mono (by w!);r! T.jX.kY pT ab! aa!
 ·o!⟨ok,h,hx,g,f,dx,c,xs,i,x,p,k,j,rfl,_⟩:=h;rfl
 o!⟨ok,h,hx,g,f,dx,c,xs,i,x,p,k,j,rfl,Z0,en,AR,lj,q⟩:=h;o!⟨ad,gA,kA⟩:=Z.An.MW;o!⟨t1,g1⟩:=T.rH;o!⟨t2,g2⟩:=T.ux;o!⟨t3,g3⟩:=T.pD;o!⟨t4,g4⟩:=T.AI;o!⟨t5,g5⟩:=T.nv;r! ⟨_,af (aE (i:=2) pT.nd rfl al! aX!)
  (ah (XY (λpins σ D=>ah (aH (C0 (CX:=bA P w) (Am kA (aQ (v:=.ref ad) rfl gA rfl) (pv 2) ar!) (aa (pv 0) aF!)))))),?_⟩
 ~F0:=Z0.fd;r! ⟨_,rfl,f,dx,_,rfl,F0.obj,rfl,f,dx,c,xs,i,_,rfl,F0,en,?_⟩;~hi:i < xs.length:=(%ae en).1;~F1:=F0.move (j:=i+1) (by w!);~K1:aA [f] H fO!:=aA.upd ai!;~Z1:=Z0.feed K1 F1;generalize hH1:upd H f aY!=H1 at *;intro pins;o!⟨fx,fd,W,hv,FX,hW,kp,bd⟩:=Vc (base:=base) Z k;r! ⟨_,rfl,.inl (Hw k),_,rfl,rfl,hv,fx,fd,_,_,45,Y5 (λC=>∃ n,1<=n/\n<=5/\C=UX a n) (λC D σ H=>∃ n,1<=n/\n<=5/\C=UX a n/\Zn n D σ H) _ _,rfl,FX,hr,kp,bd,OU (env:=PyProof.Rows.envOfC "" (au gJ) 0 0 cdv) rfl rfl ?_,_,rfl,_,rfl,ok,h,hx,g,f,dx,c,xs,i+1,x,p,k,j,rfl,Z1,hW,AR,lj,?_,?_⟩
 ·rintro C ⟨n,n1,n5,rfl⟩;r! phx (t:=Zn n) ?_ (λD σ H ⟨m,m1,m5,em,hm⟩=>by rw[Vb X n m n1 n5 m1 m5 em];e! hm)
  match n,n1,n5 with
  | 1,_,_=>e! Ic (D:=a.aD) (C:=a.aD) rfl T.aS X.h1 rfl (λe=>ah (aH (cz (aa (aQ (v:=.int (-1)) rfl g1 ⟨t1,rfl⟩) ag))))
  | 2,_,_=>e! pf (D:=a.aD) (C:=a.bZ) rfl T.aS X.Zx (pf (D:=a.ba) rfl T.eX X.Zy (Ic (D:=a.bZ) rfl T.fF X.h3 rfl (λe=>ah (aH (cz (aa (aQ (v:=.int (-2)) rfl g2 ⟨t2,rfl⟩) ag))))))
  | 3,_,_=>e! pf (D:=a.aD) (C:=a.ba) rfl T.aS X.Zw (Ic (D:=a.ba) rfl T.eX X.h2 rfl (λe=>ah (aH (cz (aa (aQ (v:=.int (-3)) rfl g3 ⟨t3,rfl⟩) ag)))))
  | 4,_,_=>e! pf (D:=a.aD) (C:=a.fE) rfl T.aS X.Zz (pf (D:=a.ba) rfl T.eX X.ZA (pf (D:=a.bZ) rfl T.fF X.ZC (Ic (D:=a.fE) rfl T.tM X.h4 rfl (λe=>ah (aH (cz (aa (aQ (v:=.int (-4)) rfl g4 ⟨t4,rfl⟩) ag)))))))
  | 5,_,_=>e! pf (D:=a.aD) (C:=a.cB) rfl T.aS X.ZD (pf (D:=a.ba) rfl T.eX X.ZE (pf (D:=a.bZ) rfl T.fF X.ZF (pf (D:=a.fE) rfl T.tM X.ZG (Ic (D:=a.cB) rfl T.jL X.h5 rfl (λe=>ah (aH (cz (aa (aQ (v:=.int (-5)) rfl g5 ⟨t5,rfl⟩) ag))))))))
 ·intro H2 l ans g' x' p' nl dd ol Z2 K2;~es:%cg ⟨p⟩ k=(⟨p'⟩,.told ans):=by
   unfold Vaamoa.step;rw[dd]
  e! q H2 l g' x' p' (K1.none nl) (by rw[es]) (by rw[es];e! ol) Z2 ((K1.mono k1).trans K2)
 ·intro H2 n dd n1 n5 Z2 K2;~es:%cg ⟨p⟩ k=(⟨p⟩,.refused n):=by
   unfold Vaamoa.step;rw[dd]
  r! ⟨_,rfl,⟨n,n1,n5,rfl⟩,n,n1,n5,rfl,by show 1<=sizeLine;decide,λl nl=>?_⟩;~S3:=ay nl (.lst [V.int (-(n:Int))]);e! q _ l g x p (((K1.mono k1).trans K2).none nl) (by rw[es]) (by rw[es];e! ae) gu! (((K1.mono k1).trans K2).same S3)
end
end Pay
namespace Pay
open PySem L2
open Vaamoa (isName ascii distinct Param Prog does)
t! Vd(c:List ff!):PyVaamoa.whole c=c:=by
 unfold PyVaamoa.whole;split<;>rfl
t! Qk{xs:List Int}{i:Nat}{x s:List Int}(h:PyFlat.row (xs.drop i)=some (x,s)):Row xs i x (i+1+x.length)/\s=xs.drop (i+1+x.length):=by
 cases e:xs.drop i with
 | nil=>rw[e] at h;cases h
 | cons n r =>
  rw[e] at h;~hi:i < xs.length:=by
   rcases Nat.lt_or_ge i xs.length with z | z
   ·e! z
   ·rw[%ce z] at e;cases e
  ~er:r=xs.drop (i+1):=by
   rw[%aT hi] at e;e! (List.cons.inj e).2.symm
  ~en:xs[i]?=some n:=by
   rw[%aT hi] at e;rw[%aW hi,(List.cons.inj e).1]
  ~h:(if 0<=n/\n.toNat<=r.length then some (r.take n.toNat,r.drop n.toNat) else none)=some (x,s):=h;split at h
  ·rename_i c
   o!⟨c1,c2⟩:=c;cases h;~lx:(r.take n.toNat).length=n.toNat:=by rw[%aH];w!
   ~lr:r.length=xs.length - (i+1):=by rw[er,%aU]
   r! ⟨⟨by rw[lx,en];congr 1;w!,by rw[lx,←er],rfl,by rw[lx];w!⟩,?_⟩;rw[lx,er,%cz]
  ·cases h
t! W6{l:List Int}{a:List ff!}{t:List Int}(h:PyFlat.rows 1 l=some (a,t)):∃ x,a=[x]/\PyFlat.row l=some (x,t):=by
 unfold PyFlat.rows at h;cases e:PyFlat.row l with
 | none=>rw[e] at h;cases h
 | some z =>
  o!⟨x,s⟩:=z;rw[e] at h;cases h;e! ⟨x,rfl,rfl⟩
t! W7{l:List Int}{a:List ff!}{t:List Int}(h:PyFlat.rows 2 l=some (a,t)):∃ x y s,a=[x,y]/\PyFlat.row l=some (x,s)/\PyFlat.row s=some (y,t):=by
 unfold PyFlat.rows at h;cases e:PyFlat.row l with
 | none=>rw[e] at h;cases h
 | some z =>
  o!⟨x,s⟩:=z;rw[e] at h;dsimp only at h;cases e2:PyFlat.rows 1 s with
  | none=>rw[e2] at h;cases h
  | some z2 =>
   o!⟨ys,t2⟩:=z2;rw[e2] at h;cases h;o!⟨y,rfl,e3⟩:=W6 e2;e! ⟨x,y,s,rfl,rfl,e3⟩
t! Ql{t:List Int}(h:NeutralIO.bytes t=true):(t.map λb=>%bb b.toNat).map (λb=>(b.toNat:Int))=t:=by
 unfold NeutralIO.bytes at h;rw[%cu]
 conv=>rhs;rw[←List.map_id t]
 r! %bZ λz hz=>?_
 have:=%az h z hz;simp only[Bool.and_eq_true,decide_eq_true_eq] at this;show (((%bb z.toNat).toNat:Nat):Int)=z;rw[UInt8.toNat_ofNat'];w!
t! call_of{xs:List Int}{i:Nat}{c:List ff!}{t:List Int}(h:PyFlat.call %bL (xs.drop i)=some (c,t))(ask:VaamoaNeutral.asked1 c=true) :
  ∃ k j,VaamoaNeutral.callOf c=some k/\xs[i]?=some (Hw k)/\Args xs (i+1) k j/\t=xs.drop j/\j<=xs.length/\i < j:=by
 cases e:xs.drop i with
 | nil=>rw[e] at h;cases h
 | cons p r =>
  rw[e] at h;~hi:i < xs.length:=by
   rcases Nat.lt_or_ge i xs.length with z | z
   ·e! z
   ·rw[%ce z] at e;cases e
  ~er:r=xs.drop (i+1):=by
   rw[%aT hi] at e;e! (List.cons.inj e).2.symm
  ~en:xs[i]?=some p:=by
   rw[%aT hi] at e;rw[%aW hi,(List.cons.inj e).1]
  dsimp only[PyFlat.call] at h;cases es:%bL p with
  | none=>rw[es] at h;cases h
  | some z =>
   o!⟨n,k⟩:=z;rw[es] at h;dsimp only at h;split at h
   ·cases h
   rename_i ln
   cases ew:PyFlat.rows k (r.drop n) with
   | none=>rw[ew] at h;cases h
   | some z =>
    o!⟨ws,t'⟩:=z;rw[ew] at h;cases h;~num:∀ {m:Nat},m < r.length->∃ g,r[m]?=some g/\xs[i+1+m]?=some g:=λ{m} hm=>by
     r! ⟨r[m],by simp[hm],?_⟩;have:r[m]?=xs[i+1+m]?:=by rw[er,List.getElem?_drop]
     rw[←this];simp[hm]
    ~t1:∀ {g:Int},r[0]?=some g->r.take 1=[g]:=λ{g} hg=>by
     cases r with
     | nil=>simp at hg
     | cons b r=>simp at hg;simp[hg]
    ~t2:∀ {g m:Int},r[0]?=some g->r[1]?=some m->r.take 2=[g,m]:=λ{g m} hg hm=>by
     match r,hg,hm with
     | b::b2::r,hg,hm=>simp at hg hm;simp[hg,hm]
    ~two:∀ {as bs t:List Int} {s:List Int} {m:Nat},PyFlat.row (xs.drop m)=some (as,s)->PyFlat.row s=some (bs,t)->∃ i2 j,Row xs m as i2/\Row xs i2 bs j/\t=xs.drop j/\j<=xs.length/\m < j:=λ{as bs t s m} h1 h2=>by
     o!⟨r1,e1⟩:=Qk h1;rw[e1] at h2;o!⟨r2,e2⟩:=Qk h2;e! ⟨_,_,r1,r2,e2,r2.le,by w!⟩
    ~one_:∀ {g:Int},n=1->k=2->r[0]?=some g->xs[i+1]?=some g->∃ as bs i2 j,ws=[as,bs]/\Row xs (i+1+1) as i2/\Row xs i2 bs j/\t=xs.drop j/\j<=xs.length/\i < j:=λ{g} hn hk h0 h1=>by
     subst hn hk;o!⟨as,bs,s,rfl,e1,e2⟩:=W7 ew;rw[er,%cz] at e1;o!⟨i2,j,z1,z2,z3,z4,z5⟩:=two e1 e2;e! ⟨as,bs,i2,j,rfl,z1,z2,z3,z4,by w!⟩
    ~two_:n=2->k=2->∃ as bs i2 j,ws=[as,bs]/\Row xs (i+1+2) as i2/\Row xs i2 bs j/\t=xs.drop j/\j<=xs.length/\i < j:=λhn hk=>by
     subst hn hk;o!⟨as,bs,s,rfl,e1,e2⟩:=W7 ew;rw[er,%cz] at e1;o!⟨i2,j,z1,z2,z3,z4,z5⟩:=two e1 e2;e! ⟨as,bs,i2,j,rfl,z1,z2,z3,z4,by w!⟩
    ~nil_:n=0->k=0->ws=[]/\t=xs.drop (i+1):=λhn hk=>by
     subst hn hk;cases ew;e! ⟨rfl,by rw[%cy,er]⟩
    unfold PyVaamoa.shape at es;split at es
    ·rename_i ep
     subst ep;cases es;o!⟨x,rfl,e1⟩:=W6 ew;rw[%cy,er] at e1;o!⟨r1,e2⟩:=Qk e1;~ask:((x.all λz=>VaamoaNeutral.natural z 8) && decide (x.length<=2000))=true:=ask;rw[%bm,decide_eq_true_eq] at ask;~hb:NeutralIO.bytes x=true:=by
      unfold NeutralIO.bytes;rw[%ck];intro z hz;have:=%az ask.1 z hz;unfold VaamoaNeutral.natural at this;simp only[Bool.and_eq_true,decide_eq_true_eq] at this ⊢;w!
     r! ⟨.program (x.map λb=>UInt8.ofNat b.toNat),_,?_,en,⟨by rw[Ql hb];e! r1,by rw[%ac];e! ask.2⟩,e2,r1.le,by w!⟩;show (VaamoaNeutral.text? x).map Vaamoa.Call.program=_;unfold VaamoaNeutral.text?;rw[if_pos hb];rfl
    split at es
    ·rename_i ep
     subst ep;cases es;o!⟨rfl,e1⟩:=nil_ rfl rfl;e! ⟨.show_,_,rfl,en,rfl,e1,by w!,by w!⟩
    split at es
    ·rename_i ep
     subst ep;cases es;o!⟨rfl,e1⟩:=nil_ rfl rfl;e! ⟨.kinds,_,rfl,en,rfl,e1,by w!,by w!⟩
    split at es
    ·rename_i ep
     subst ep;cases es;o!⟨g,g0,g1⟩:=num (m:=0) (by w!);o!⟨as,bs,i2,j,rfl,z1,z2,z3,z4,z5⟩:=one_ rfl rfl g0 g1;rw[t1 g0];e! ⟨.run g as bs,j,rfl,en,⟨i2,g1,z1,z2⟩,z3,z4,z5⟩
    split at es
    ·rename_i ep
     subst ep;cases es;o!⟨g,g0,g1⟩:=num (m:=0) (by w!);o!⟨as,bs,i2,j,rfl,z1,z2,z3,z4,z5⟩:=one_ rfl rfl g0 g1;rw[t1 g0];e! ⟨.ticks g as bs,j,rfl,en,⟨i2,g1,z1,z2⟩,z3,z4,z5⟩
    split at es
    ·rename_i ep
     subst ep;cases es;o!⟨g,g0,g1⟩:=num (m:=0) (by w!);o!⟨as,bs,i2,j,rfl,z1,z2,z3,z4,z5⟩:=one_ rfl rfl g0 g1;rw[t1 g0];e! ⟨.counts g as bs,j,rfl,en,⟨i2,g1,z1,z2⟩,z3,z4,z5⟩
    split at es
    ·rename_i ep
     subst ep;cases es;o!⟨g,g0,g1⟩:=num (m:=0) (by w!);o!⟨as,bs,i2,j,rfl,z1,z2,z3,z4,z5⟩:=one_ rfl rfl g0 g1;rw[t1 g0];e! ⟨.calls g as bs,j,rfl,en,⟨i2,g1,z1,z2⟩,z3,z4,z5⟩
    split at es
    ·rename_i ep
     subst ep;cases es;o!⟨g,g0,g1⟩:=num (m:=0) (by w!);o!⟨m,m0,m1⟩:=num (m:=1) (by w!);o!⟨as,bs,i2,j,rfl,z1,z2,z3,z4,z5⟩:=two_ rfl rfl;rw[t2 g0 m0];e! ⟨.scaled g m as bs,j,rfl,en,⟨i2,g1,m1,z1,z2⟩,z3,z4,z5⟩
    split at es
    ·rename_i ep
     subst ep;cases es;o!⟨g,g0,g1⟩:=num (m:=0) (by w!);o!⟨m,m0,m1⟩:=num (m:=1) (by w!);o!⟨as,bs,i2,j,rfl,z1,z2,z3,z4,z5⟩:=two_ rfl rfl;rw[t2 g0 m0];e! ⟨.within g m as bs,j,rfl,en,⟨i2,g1,m1,z1,z2⟩,z3,z4,z5⟩
    split at es
    ·rename_i ep
     subst ep;cases es;o!⟨g,g0,g1⟩:=num (m:=0) (by w!);cases ew;rw[t1 g0];e! ⟨.node g,i+2,rfl,en,⟨g1,rfl⟩,by rw[er,%cz],by have:=(%ae g1).1;w!,by w!⟩
    split at es
    ·rename_i ep
     subst ep;cases es;o!⟨rfl,e1⟩:=nil_ rfl rfl;e! ⟨.size,_,rfl,en,rfl,e1,by w!,by w!⟩
    ·cases es
t! eP.live{a:Ad}{t:Text}{ok ok':Addr->Prop}{H:Hp}(m:∀ b o,ok b->H b=some o->ok' b):∀ {ps:List Addr} {l:List (Ex×Nat)},eP a t ok H ps l->eP a t ok' H ps l
 | [],[],_=>trivial
 | _::_,_::_,h=>⟨⟨h.1.1.live m,let ⟨dx,l,d,sa,x,n,nm,pt,h1,h2,h3⟩:=h.1.2;⟨dx,l,d,sa,x,n,nm,pt,h1,m _ _ h2 h1,h3⟩⟩,eP.live m h.2⟩
 | [],_::_,h=>h.elim
 | _::_,[],h=>h.elim
t! A3.live{a:Ad}{ok ok':Addr->Prop}{H:Hp}{g:Addr}{x:Text}{p:Prog}(m:∀ b o,ok b->H b=some o->ok' b)(h:A3 a ok H g x p):A3 a ok' H g x p:=by
 o!⟨dx,tl,fl,nl,fs,ps,h1,h2,h3,h4,h5,h6,o1,o2,o3,o4⟩:=h.ex;e! ⟨dx,tl,fl,nl,fs,ps,h1,h2,h3,h4,h5.live m,h6.live m,m _ _ o1 h1,m _ _ o2 h2,m _ _ o3 h3,m _ _ o4 h4⟩
t! SN:pO zP=some Vaamoa.start.prog:=by dk!
section
variable {P:Program} {w:World} {K:PySem.W.Frag} {mg:Str->Option Value} {base:Heap} {a:Ad}
t! Ve{X:Cx}:Passes (bA P w) X E0:=λ_ _ _ _ _ _ _ h=>by
 o!⟨_,_,_,_,_,_,_,_,_,_,_,_,_,q⟩:=h;e! %bf q
def Vf(a:Ad):Sp:=λvs H Q _=>∃ (x dx:Addr),vs=[.ref x]/\H x=some (.ins a.cU dx [])/\∀ H' g p,pO zP=some p->qU p->bc H H'->A3 a bm! H' g zP p->Q .fK (upd H' x (.ins a.cU dx (G4 [.ref g])))
t! SO(Z:Va P w K mg a):FB! 46 a.kK a.kL ["self"] (Vf a):=by
 ~T:=Z.T;~GN:aK P w K mg base (bA P w) 45 a.kD a.kG [] (W2 a):=Jy T Z.Cn Z.Dc Z.Sg;r! T.Br.ok II ab! aa!
 ·o!⟨x,dx,rfl,_⟩:=h;rfl
 o!⟨x,dx,rfl,hx,q⟩:=h;r! ⟨_,ah (bf (pv 0) (Tj GN hr rfl T.Bo T.vi.kp T.Bn .nil Ve) rfl),?_⟩;r! ⟨rfl,λH1 g p e1 G S1 PA=>?_⟩;e! ⟨_,rfl,x,_,dx,_,rfl,S1 _ _ hx,T.dJ,T.aL,by show 0 < 1000;decide,q H1 g p e1 G S1 PA⟩
def Vg(a:Ad)(K:%ag):Sp:=λvs H Q _=>∃ (c:Addr) (xs:List Int),vs=[.ref c]/\aX K H c (xs.map V.int)/\PyVaamoa.answers_asked xs=true/\∀ H' l,H' l=some (.lst ((%cF xs).map V.int))->Q (.ref l) H'
t! OA(s:Vaamoa.State)(c:List ff!)(r:List (List ff!)):PyFlat.told (PyFlat.played VaamoaNeutral.step s (c::r))=((VaamoaNeutral.step s c).2.length:Int)::((VaamoaNeutral.step s c).2++PyFlat.told (PyFlat.played VaamoaNeutral.step (VaamoaNeutral.step s c).1 r)):=by
 unfold PyFlat.told;rw[PyFlat.played,%bn];rfl
t! Wq{s:Vaamoa.State}{c:List ff!}{k:%ch}(h:VaamoaNeutral.callOf c=some k):VaamoaNeutral.step s c=((%cg s k).1,VaamoaNeutral.encode (%cg s k).2):=by
 unfold VaamoaNeutral.step;rw[h]
t! Qm(Z:Va P w K mg a):FB! 48 a.Ax a.Ay gb! (Vg a K):=by
 ~T:=Z.T;~GF:FB! 46 a.p6 a.p8 dV! (jQ a.bU 1 LM):=(Wf T).mono (by w!);~GH:FB! 46 a.kK a.kL ["self"] (Vf a):=SO Z;~GM:FB! 47 a.iO a.iP ["self"] (UK a K):=(Oh T).mono (by w!);~GA:aK P w K mg base (bA P w) 47 a.eU a.eV ah! (Zm a K):=(zU Z).mono (by w!);r! T.Lu.ok sG ab! aa!
 ·o!⟨c,xs,rfl,_⟩:=h;rfl
 o!⟨c,xs,rfl,sq,ask,q⟩:=h;r! ⟨_,af (aE (i:=1) sG.nd rfl al! (eI T.FT GF hr rfl T.EI T.FR .nil aM aP!))
  (af (aE (i:=2) sG.nd rfl al! (Tn T.Bt GH hr rfl T.wy T.Bs .nil aM))
  (af (aE (i:=3) sG.nd rfl al! (cz ag))
  (af (yK PassesOwn.never (qo (cO (pv 1) T.dS T.yy GM hr T.yx .nil aM))
   (af (aE (i:=4) sG.nd rfl al! (az GA hr rfl T.qY T.jX.kp T.qX .nil Ve (aa (pv 2) aF!)))
   (af (aF (hG %ah %at %as cM (pv 3) (aa (aR aJ rfl T.dm %ar d2!) ag)))
   (ah (aF (hG %ah %bG %bF Aj (pv 3) d2!))))))
  (ah (aH (pv 3)))))),?_⟩
 unfold PyVaamoa.answers_asked at ask;cases er:PyFlat.calls %bL xs.length xs with
 | none=>rw[er] at ask;cases ask
 | some raw =>
 rw[er] at ask;simp only[Bool.and_eq_true] at ask;o!⟨⟨⟨⟨_,_⟩,_⟩,ask2⟩,ask3⟩:=ask;~wid:raw.map PyVaamoa.whole=raw:=by
  conv=>rhs;rw[←List.map_id raw]
  e! %bZ λc _=>Vd c
 rw[wid] at ask2;~asked:∀ c∈raw,VaamoaNeutral.asked1 c=true:=by
  unfold VaamoaNeutral.asked at ask2;rw[%bm] at ask2;e! λc hc=>%az ask2.1 c hc
 ~ean:%cF xs=PyFlat.told (PyFlat.played VaamoaNeutral.step Vaamoa.start raw):=by
  unfold PyVaamoa.answers PyVaamoa.calls;rw[er];dsimp only;rw[wid];rfl
 ~lan:(%cF xs).length<=10000000:=by
  unfold PyFlat.short at ask3;simpa using ask3
 r! ⟨_,rfl,λf dx nf ndx nef=>?_⟩;r! ⟨f,dx,[_],rfl,rfl,ae,rfl,?_⟩;rw[aC];~S1:bc H ee!:=bF nf ndx;~F1:Ct a K ee! f dx c xs 0:=⟨AJ,S1.seq sq,%aE _⟩;change (Vs _ _) _ _ ee!;generalize hH1:made H f dx a.bU (LM [.ref c])=H1 at *;r! λh hx nh nhx neh=>?_
 r! ⟨h,hx,rfl,ae,λH2 g p ep G S2 PA=>⟨rfl,?_⟩⟩;~hf:h≠f:=(aq F1.obj nh).symm;~S12:bc H1 (made H1 h hx a.cU []):=bF nh nhx;~F2:=(F1.same S12).same S2;~fr:∀ b,made H1 h hx a.cU [] b=none->b∉[h,f]:=λb hb m=>by
  o!⟨m1,m2,m3⟩:=wA (C:=a.cU) (f:=[]) hb;simp only[List.mem_cons,List.not_mem_nil,or_false] at m;rcases m with rfl | rfl
  ·e! m2 rfl
  ·rw[F1.obj] at m1;cases m1
 ~k2:aA [h] H2 (upd H2 h b0!):=aA.upd ai!;~oh:H2 h=some (.ins a.cU hx []):=S2 _ _ ae;~PA3:A3 a (λb=>b∉[h,f]) (upd H2 h b0!) g zP p:=PA.turn (λb o hb e=>k2.keep b o e λz=>fr b hb fU!) fr;~F3:Ct a K (upd H2 h b0!) f dx c xs 0:=⟨k2.keep _ _ F2.obj (by simpa using Ne.symm hf),aX.UJ F2.lst k2 (λb hb=>by cases List.mem_singleton.mp hb;e! ⟨_,_,_,oh⟩),Nat.zero_le _⟩;~hol3:upd H2 h (HO.ins a.cU hx (G4 [.ref g])) h=some b0!:=ae;generalize hH3:upd H2 h b0!=H3 at *;r! ⟨%aE _,λt nt=>?_⟩;~S4:=ay nt aL!;~nth:t≠h:=(aq hol3 nt).symm;~nct:∀ o,H c=some o->c≠t:=λo e=>by
  ~e1:=S1 _ _ e;~e3:H3 c=some o:=k2.keep _ _ (S2 _ _ (S12 _ _ e1)) (by simpa using aq e1 nh);e! aq e3 nt
 ~ntf:t≠f:=(aq F3.obj nt).symm;~Z4:St a K fK! (upd H3 t aL!) h hx g f dx c xs 0 zP p:=by
  r! ⟨S4 _ _ hol3,(PA3.live (ok':=λb=>b∉[h,f]/\b≠t) λb o h1 h2=>⟨h1,aq h2 nt⟩).turn (λb o _ e=>S4 b o e) bK,F3.same S4,hf,ep,G,by dk!,λb hb=>hb.1,λb hb=>⟨λm=>?_,λz=>?_⟩⟩
  ·simp only[List.mem_cons,List.not_mem_nil,or_false] at m;rcases m with rfl | rfl
   ·rw[S4 _ _ hol3] at hb;cases hb
   ·rw[S4 _ _ F3.obj] at hb;cases hb
  ·rw[z,ae] at hb;cases hb
 ~pst:p=Vaamoa.start.prog:=by
  rw[SN] at ep;e! (%aD ep).symm
 r! ⟨λm σ H'=>∃ (i fuel:Nat) (rw_:List (List ff!)) (g x' p':_) (tl:List Int) (v:Option V),m=xs.length - i/\σ=[some (.ref c),some (.ref f),some (.ref h),some (.ref t),v]/\St a K fK! H' h hx g f dx c xs i x' p'/\H' t=some (.lst (tl.map V.int))/\t≠h/\t≠f/\PyFlat.calls %bL fuel (xs.drop i)=some rw_/\(∀ c∈rw_,VaamoaNeutral.asked1 c=true)/\%cF xs=tl++PyFlat.told (PyFlat.played VaamoaNeutral.step ⟨p'⟩ rw_),
  ⟨_,0,xs.length,raw,g,zP,p,[],none,rfl,rfl,Z4,ae,nth,ntf,by rw[%cy];e! er,asked,by rw[ean,pst];rfl⟩,?_⟩
 rintro m σ H' ⟨i,fuel,rw_,g0,x0,p0,tl,v,rfl,rfl,Zi,ot,th,tf,hc,ha,hans⟩;r! ⟨_,rfl,f,dx,_,rfl,Zi.fd.obj,rfl,f,dx,c,xs,i,rfl,Zi.fd,_,rfl,?_⟩;by_cases ci:i < xs.length
 ·rw[decide_eq_true ci];obtain ⟨c1,t1,cs,fu,hcall,hrest,rfl⟩:∃ c1 t1 cs fu,PyFlat.call %bL (xs.drop i)=some (c1,t1)/\PyFlat.calls %bL fu t1=some cs/\rw_=c1::cs:=by
   cases e:xs.drop i with
   | nil =>
    have:=congrArg %bR e;rw[%aU] at this;simp at this;w!
   | cons n r =>
    rw[e] at hc;cases fuel with
    | zero=>cases hc
    | succ fu =>
     unfold PyFlat.calls at hc;cases e2:PyFlat.call %bL (n::r) with
     | none=>rw[e2] at hc;cases hc
     | some z =>
      o!⟨c1,t1⟩:=z;rw[e2] at hc;dsimp only at hc;cases e3:PyFlat.calls %bL fu t1 with
      | none=>rw[e3] at hc;cases hc
      | some cs =>
       rw[e3] at hc;cases hc;e! ⟨c1,t1,cs,fu,rfl,e3,rfl⟩
  o!⟨k,j,hk,hn,hA,rfl,lj,hij⟩:=call_of hcall (ha c1 %an);rw[OA,Wq hk] at hans;dsimp only at hans;generalize hE:VaamoaNeutral.encode (%cg ⟨p0⟩ k).2=ans at *;~la:tl.length+(1+ans.length)<=10000000:=by
   have:=congrArg %bR hans;simp only[List.length_append,List.length_cons] at this;w!
  r! bO ⟨fun σ' H5=>∃ (g':Addr) (x':Text) (p':Prog) (v:Option V),σ'=[some (.ref c),some (.ref f),some (.ref h),some (.ref t),v]/\St a K fK! H5 h hx g' f dx c xs j x' p'/\(%cg ⟨p0⟩ k).1=⟨p'⟩/\H5 t=some (.lst ((tl++((ans.length:Int)::ans)).map V.int)),?_,?_⟩
  ·rintro σ' H5 ⟨g',x',p',v,rfl,Z5,es,o5⟩;r! ⟨xs.length - j,by w!,j,fu,cs,g',x',p',tl++((ans.length:Int)::ans),v,rfl,rfl,Z5,o5,th,tf,hrest,λc hc=>ha c (%af _ hc),?_⟩;rw[hans,es];simp
  ·r! ⟨_,rfl,_,rfl,_,h,hx,g0,f,dx,c,xs,i,x0,p0,k,j,rfl,Zi,hn,hA,lj,λH5 l g' x' p' nl es ol Z5 K5=>?_⟩;rw[hE] at ol;~o5:H5 t=some (.lst (tl.map V.int)):=K5.keep _ _ ot (by simp only[List.mem_cons,List.not_mem_nil,or_false,not_or];e! ⟨th,tf⟩);r! ⟨_,rfl,.inl ⟨rfl,_,aX.of o5⟩,_,rfl,l,_,rfl,.inl (aX.of ol),t,_,_,rfl,rfl,o5,?_,?_⟩
   ·rw[%ac];e! %ai (show tl.length<=10000000 by w!) ag!
   ~nlt:l≠t:=(aq ot nl).symm;~o6:upd H5 t bT! t=some bT!:=ae;~ol6:upd H5 t bT! l=some (.lst (ans.map V.int)):=by rw[ai nlt];e! ol
   r! ⟨_,rfl,.inl ⟨rfl,_,aX.of o6⟩,_,rfl,t,l,_,_,rfl,rfl,o6,ol6,?_,?_⟩
   ·simp only[List.length_append,List.length_map,List.length_cons,List.length_nil];e! %aj (show tl.length+(0+1)+ans.length<=10000000 by w!) ag!
   ·rw[aC];~k:aA [t] H5 (upd H5 t (.lst (tl.map V.int++[V.int (((ans.map V.int).length:Nat):Int)]++ans.map V.int))):=aA.upd ai!;r! ⟨g',x',p',_,rfl,⟨k.keep _ _ Z5.Ih (by simpa using Ne.symm th),Z5.pr.turn (λb o hb e=>k.keep b o e (by simpa using hb.2)) bK,⟨k.keep _ _ Z5.fd.obj (by simpa using Ne.symm tf),?_,Z5.fd.le⟩,Z5.ne,Z5.pm,Z5.good,Z5.len,Z5.Vm,λb hb=>Z5.fr b (k.none hb)⟩,es,?_⟩
    ·rcases sq with (z | ⟨o,z⟩) | z
     ·~ct:=nct _ z;rcases Z5.fd.lst with (y | ⟨o',y⟩) | y
      ·e! .inl (.inl (k.keep _ _ y e0!))
      ·e! .inl (.inr ⟨o',k.keep _ _ y e0!⟩)
      ·e! .inr y
     ·~ct:=nct _ z;rcases Z5.fd.lst with (y | ⟨o',y⟩) | y
      ·e! .inl (.inl (k.keep _ _ y e0!))
      ·e! .inl (.inr ⟨o',k.keep _ _ y e0!⟩)
      ·e! .inr y
     ·e! .inr z
    ·rw[ae];simp
 ·rw[decide_eq_false ci];~ei:i=xs.length:=by have:=Zi.fd.le;w!
  r! bY ⟨_,rfl,q H' t ?_⟩;~e0:xs.drop i=[]:=%ce (by w!);rw[e0] at hc;have:rw_=[]:=by
   cases fuel<;>(cases hc;rfl)
  subst this;rw[hans,ot];simp[PyFlat.played,PyFlat.told]
end
end Pay
namespace Pay
open PySem L2
def aU(K:%ag)(x:Str):Addr:=match %aw K mainGlobals x with
 | some (some (.ref f))=>f
 | _=>0
def q0(K:%ag)(C:Addr)(m:Str):Addr:=match %aS K (.ref C) m with
 | some (some (.ref f))=>f
 | _=>0
def dW(K:%ag)(f:Addr):FuncData:=match K.lookup f with
 | some ⟨_,_,.func fd,_⟩=>fd
 | _=>%bz "" "" (rb rP) (kX rP) (au rP) .none .none .none .none none .none .none
structure KTop (K:PySem.W.Frag) (key x qual:Str) (st:Stmt):Prop where
 ex:∃ (f:Addr) (oc:Value) (od:Option Addr) (kV doc pm:Value) (an:Option Addr) (cdv ct:Value) (osl:Array cr!),%aw K mainGlobals key=some b6! /\
  K.lookup f=some ⟨oc,od,.func aO!,osl⟩/\%bV K cdv qual=true/\%aR K (.ref f)=true
structure KMeth (K:PySem.W.Frag) (c m qual:Str) (st:Stmt):Prop where
 ex:∃ (C f:Addr) (oc:Value) (od:Option Addr) (kV doc pm:Value) (an:Option Addr) (cdv ct:Value) (osl:Array cr!),%aw K mainGlobals c=some ct!/\%aS K (.ref C) m=some b6!/\PySem.W.isFn K (.ref f)=true /\
  K.lookup f=some ⟨oc,od,.func (%bz m qual (rb st) (kX st) (au st) .none kV doc pm an cdv ct),osl⟩/\%bV K cdv qual=true/\%aR K (.ref f)=true
structure KCls (K:PySem.W.Frag) (c:Str):Prop where
 ex:∃ C:Addr,%aw K mainGlobals c=some ct!/\%bW K C Str.empty=true/\%ci K C=true/\%cB K C=true/\%aS K (.ref C) "__setattr__"=some ck!/\PySem.W.makesIn K C=true/\%aR K (.ref C)=true
structure wG (K:PySem.W.Frag) (c x:Str):Prop where
 ex:∃ C:Addr,%aw K mainGlobals c=some ct!/\%aS K (.ref C) x=some none
structure Kn (K:PySem.W.Frag) (c:Str):Prop where
 ex:∃ C:Addr,%aw K mainGlobals c=some ct!/\PySem.W.excIn K C [.type "Exception",.type "BaseException",.type "object"] "Exception.__new__"=true
structure vp (K:PySem.W.Frag) (x:Str) (v:Int):Prop where
 ex:∃ t,%aw K mainGlobals x=some (some (.int v t))
structure SQ (K:PySem.W.Frag) (x v:Str):Prop where
 ex:∃ t,%aw K mainGlobals x=some (some (.str v t))
section
variable {K:PySem.W.Frag}
t! Wr{key x qual:Str}{st:Stmt}{f:Addr}{oc:Value}{od:Option Addr}{kV doc pm:Value}{an:Option Addr}{cdv ct:Value}{osl:Array cr!}(a:%aw K mainGlobals key=some b6!)
  (l:K.lookup f=some ⟨oc,od,.func aO!,osl⟩) (c:%bV K cdv qual=true) (k:%aR K (.ref f)=true):KTop K key x qual st:=⟨_,_,_,_,_,_,_,_,_,_,a,l,c,k⟩
t! Vh{cn m qual:Str}{st:Stmt}{C f:Addr}{oc:Value}{od:Option Addr}{kV doc pm:Value}{an:Option Addr}{cdv ct:Value}{osl:Array cr!}(a:%aw K mainGlobals cn=some ct!)(b:%aS K (.ref C) m=some b6!)(i:PySem.W.isFn K (.ref f)=true)
  (l:K.lookup f=some ⟨oc,od,.func (%bz m qual (rb st) (kX st) (au st) .none kV doc pm an cdv ct),osl⟩) (c:%bV K cdv qual=true) (k:%aR K (.ref f)=true):KMeth K cn m qual st:=⟨_,_,_,_,_,_,_,_,_,_,_,a,b,i,l,c,k⟩
t! Ws{c:Str}{C:Addr}(a:%aw K mainGlobals c=some ct!)(a1:%bW K C Str.empty=true)(a2:%ci K C=true)(a3:%cB K C=true)(a4:%aS K (.ref C) "__setattr__"=some ck!)(a5:PySem.W.makesIn K C=true)(a6:%aR K (.ref C)=true):KCls K c:=⟨_,a,a1,a2,a3,a4,a5,a6⟩
t! Yo{c x:Str}{C:Addr}(a:%aw K mainGlobals c=some ct!)(b:%aS K (.ref C) x=some none):wG K c x:=⟨_,a,b⟩
t! Wt{c:Str}{C:Addr}(a:%aw K mainGlobals c=some ct!)(b:PySem.W.excIn K C [.type "Exception",.type "BaseException",.type "object"] "Exception.__new__"=true):Kn K c:=⟨_,a,b⟩
t! Wu{x:Str}{v:Int}{t:Tok}(a:%aw K mainGlobals x=some (some (.int v t))):vp K x v:=⟨_,a⟩
t! Wv{x v:Str}{t:Tok}(a:%aw K mainGlobals x=some (some (.str v t))):SQ K x v:=⟨_,a⟩
end
section
variable {K:PySem.W.Frag} {h:Heap} {mg:Str->Option Value}
t! nE{x:Str}{f:Addr}(e:%aw K mainGlobals x=some b6!):aU K x=f:=by
 unfold aU;rw[e]
t! Qn{C f:Addr}{m:Str}(e:%aS K (.ref C) m=some b6!):q0 K C m=f:=by
 unfold q0;rw[e]
t! Qo{f:Addr}{oc:Value}{od:Option Addr}{fd:FuncData}{sl:Array cr!}(e:K.lookup f=some ⟨oc,od,.func fd,sl⟩):dW K f=fd:=by
 unfold dW;rw[e]
t! KTop.fn{key x qual:Str}{st:Stmt}(k:KTop K key x qual st):Fun K x qual st (aU K key) (dW K (aU K key)):=by
 o!⟨f,oc,od,kV,doc,pm,an,cdv,ct,osl,e,l,c,kp⟩:=k.ex;rw[nE e,Qo l];e! TN l c kp
t! KTop.cX{key x qual:Str}{st:Stmt}(k:KTop K key x qual st)(X:K.In h)(G:h.Ns mainGlobals mg):mg key=some (.ref (aU K key)):=by
 o!⟨f,oc,od,kV,doc,pm,an,cdv,ct,osl,e,l,c,kp⟩:=k.ex;rw[nE e];e! %cn X G e
t! KMeth.fn{c m qual:Str}{st:Stmt}(k:KMeth K c m qual st):Fun K m qual st (q0 K (aU K c) m) (dW K (q0 K (aU K c) m)):=by
 o!⟨C,f,oc,od,kV,doc,pm,an,cdv,ct,osl,e,e2,i,l,cc,kp⟩:=k.ex;rw[nE e,Qn e2,Qo l];e! TN l cc kp
t! KMeth.G8{c m qual:Str}{st:Stmt}(k:KMeth K c m qual st):Meth K (aU K c) m (q0 K (aU K c) m):=by
 o!⟨C,f,oc,od,kV,doc,pm,an,cdv,ct,osl,e,e2,i,l,cc,kp⟩:=k.ex;rw[nE e,Qn e2];e! ⟨e2,i,kp⟩
t! KCls.cX{c:Str}(k:KCls K c)(X:K.In h)(G:h.Ns mainGlobals mg):mg c=some (.ref (aU K c)):=by
 o!⟨C,e,_⟩:=k.ex;rw[nE e];e! %cn X G e
t! KCls.cls{c:Str}(k:KCls K c):JR K (aU K c):=by
 o!⟨C,e,a1,a2,a3,a4,a5,a6⟩:=k.ex;rw[nE e];e! ⟨a1,a2,a3,a4⟩
t! KMeth.make{c qual:Str}{st:Stmt}(k:KMeth K c "__init__" qual st)(kc:KCls K c):Mk K (aU K c) (q0 K (aU K c) "__init__"):=by
 o!⟨C,f,oc,od,kV,doc,pm,an,cdv,ct,osl,e,e2,i,l,cc,kp⟩:=k.ex;o!⟨C',e',a1,a2,a3,a4,a5,a6⟩:=kc.ex;rw[e] at e';cases e';rw[nE e,Qn e2];e! ⟨a5,e2,i,a6⟩
t! wG.no{c x:Str}(k:wG K c x):bq K (aU K c) x:=by
 o!⟨C,e,n⟩:=k.ex;rw[nE e];e! n
t! Kn.cX{c:Str}(k:Kn K c)(X:K.In h)(G:h.Ns mainGlobals mg):mg c=some (.ref (aU K c)):=by
 o!⟨C,e,_⟩:=k.ex;rw[nE e];e! %cn X G e
t! Kn.cls{c:Str}(k:Kn K c):OS K (aU K c):=by
 o!⟨C,e,q⟩:=k.ex;rw[nE e];e! ⟨_,_,_,_,PySem.F.excBase_Exception,q⟩
t! vp.cX{x:Str}{v:Int}(k:vp K x v)(X:K.In h)(G:h.Ns mainGlobals mg):∃ t,mg x=some (.int v t):=by
 o!⟨t,e⟩:=k.ex;e! ⟨t,%cn X G e⟩
t! SQ.cX{x v:Str}(k:SQ K x v)(X:K.In h)(G:h.Ns mainGlobals mg):∃ t,mg x=some (.str v t):=by
 o!⟨t,e⟩:=k.ex;e! ⟨t,%cn X G e⟩
end
end Pay
macro "kt":tactic=>`(tactic| (refine' Pay.Wr ?ka ?kl ?kc ?kk;(case ka=>k_is);(case kl=>k_is);(case kc=>k_is);(case kk=>k_is)))
macro "km":tactic=>`(tactic| (refine' Pay.Vh ?ka ?kb ?ki ?kl ?kc ?kk;(case ka=>k_is);(case kb=>k_is);(case ki=>k_is);(case kl=>k_is);(case kc=>k_is);(case kk=>k_is)))
macro "kc":tactic=>`(tactic| (refine' Pay.Ws ?ka ?k1 ?k2 ?k3 ?k4 ?k5 ?k6;(case ka=>k_is);(case k1=>k_is);(case k2=>k_is);(case k3=>k_is);(case k4=>k_is);(case k5=>k_is);(case k6=>k_is)))
macro "kn":tactic=>`(tactic| (refine' Pay.Yo ?ka ?kb;(case ka=>k_is);(case kb=>k_is)))
macro "ke":tactic=>`(tactic| (refine' Pay.Wt ?ka ?kb;(case ka=>k_is);(case kb=>kernel_rfl)))
macro "ki":tactic=>`(tactic| (refine' Pay.Wu ?ka;(case ka=>k_is)))
macro "ks":tactic=>`(tactic| (refine' Pay.Wv ?ka;(case ka=>k_is)))
macro "kz":tactic=>`(tactic| k_is)
namespace Pay
open PySem L2
def Ww(K:%ag):Ad:={
 pU:=q0 K (aU K "Node") "__init__"
 pV:=dW K (q0 K (aU K "Node") "__init__")
 gO:=q0 K (aU K "Parameter") "__init__"
 gP:=dW K (q0 K (aU K "Parameter") "__init__")
 iH:=q0 K (aU K "Function") "__init__"
 iI:=dW K (q0 K (aU K "Function") "__init__")
 jd:=q0 K (aU K "Program") "__init__"
 je:=dW K (q0 K (aU K "Program") "__init__")
 rQ:=aU K "by_name"
 rR:=dW K (aU K "by_name")
 ml:=q0 K (aU K "Task") "__init__"
 mm:=dW K (q0 K (aU K "Task") "__init__")
 sM:=q0 K do! "__init__"
 sO:=dW K (q0 K do! "__init__")
 bV:=q0 K do! "come_to"
 bW:=dW K (q0 K do! "come_to")
 dO:=q0 K do! "come_back_to"
 dP:=dW K (q0 K do! "come_back_to")
 vV:=q0 K do! "pay"
 vW:=dW K (q0 K do! "pay")
 iJ:=q0 K do! "note_call"
 iK:=dW K (q0 K do! "note_call")
 zm:=aU K "run_of"
 zo:=dW K (aU K "run_of")
 nZ:=aU K "bound_by"
 oa:=dW K (aU K "bound_by")
 Uh:=aU K "do"
 Ui:=dW K (aU K "do")
 ft:=aU K "begin_number"
 mL:=dW K (aU K "begin_number")
 jv:=aU K "begin_name"
 rj:=dW K (aU K "begin_name")
 mn:=aU K "begin_nil"
 ug:=dW K (aU K "begin_nil")
 cp:=aU K "begin_parts"
 pk:=dW K (aU K "begin_parts")
 cg:=aU K "begin_first_part"
 ij:=dW K (aU K "begin_first_part")
 jw:=aU K "begin_case"
 rm:=dW K (aU K "begin_case")
 iW:=aU K "begin_share"
 pw:=dW K (aU K "begin_share")
 du:=aU K "bind_pair_machine"
 dv:=dW K (aU K "bind_pair_machine")
 jx:=aU K "begin_tick"
 rp:=dW K (aU K "begin_tick")
 om:=aU K "end_cons"
 xj:=dW K (aU K "end_cons")
 rS:=aU K "end_add"
 Ar:=dW K (aU K "end_add")
 rT:=aU K "end_sub"
 As:=dW K (aU K "end_sub")
 vX:=aU K "end_if"
 Dg:=dW K (aU K "end_if")
 rU:=aU K "end_let"
 Au:=dW K (aU K "end_let")
 oo:=aU K "end_call"
 xk:=dW K (aU K "end_call")
 cJ:=q0 K (aU K "Seen") "__init__"
 cK:=dW K (q0 K (aU K "Seen") "__init__")
 jf:=aU K "look_through"
 jg:=dW K (aU K "look_through")
 sP:=aU K "see"
 sQ:=dW K (aU K "see")
 mM:=aU K "see_as"
 mO:=dW K (aU K "see_as")
 hJ:=aU K "see_parts"
 hU:=dW K (aU K "see_parts")
 f_both:=aU K "both"
 xl:=dW K (aU K "both")
 sR:=aU K "either"
 sS:=dW K (aU K "either")
 ou:=aU K "without"
 ow:=dW K (aU K "without")
 il:=aU K "see_number"
 rq:=dW K (aU K "see_number")
 ox:=aU K "see_nil"
 Av:=dW K (aU K "see_nil")
 lR:=aU K "see_name"
 xm:=dW K (aU K "see_name")
 Li:=aU K "use"
 Lj:=dW K (aU K "use")
 oy:=aU K "use_list"
 oz:=dW K (aU K "use_list")
 lS:=aU K "see_cons"
 xn:=dW K (aU K "see_cons")
 cq:=aU K "see_reckoning"
 ll:=dW K (aU K "see_reckoning")
 sT:=aU K "see_if"
 Dh:=dW K (aU K "see_if")
 lT:=aU K "see_case"
 xo:=dW K (aU K "see_case")
 jh:=aU K "see_share"
 uh:=dW K (aU K "see_share")
 eJ:=aU K "bind_pair_kinds"
 eK:=dW K (aU K "bind_pair_kinds")
 oA:=aU K "see_let"
 Aw:=dW K (aU K "see_let")
 lU:=aU K "see_call"
 xp:=dW K (aU K "see_call")
 lV:=aU K "see_tick"
 xq:=dW K (aU K "see_tick")
 j8:=q0 K cu! "__init__"
 kh:=dW K (q0 K cu! "__init__")
 fb:=q0 K cu! "sees"
 fc:=dW K (q0 K cu! "sees")
 gx:=q0 K cu! "take"
 gy:=dW K (q0 K cu! "take")
 bP:=q0 K cu! "take_word"
 bQ:=dW K (q0 K cu! "take_word")
 iL:=q0 K cu! "at_end"
 iM:=dW K (q0 K cu! "at_end")
 sU:=aU K "signs_of"
 sV:=dW K (aU K "signs_of")
 gQ:=aU K "read_functions"
 gR:=dW K (aU K "read_functions")
 fL:=aU K "read_function"
 iN:=dW K (aU K "read_function")
 gT:=aU K "read_parameter"
 gU:=dW K (aU K "read_parameter")
 fh:=aU K "refuse_doubles"
 fi:=dW K (aU K "refuse_doubles")
 mq:=aU K "read_kind"
 mr:=dW K (aU K "read_kind")
 ji:=aU K "read_name"
 jj:=dW K (aU K "read_name")
 rV:=aU K "is_name"
 rW:=dW K (aU K "is_name")
 pW:=aU K "is_number"
 pX:=dW K (aU K "is_number")
 fw:=aU K "read_tick_number"
 fz:=dW K (aU K "read_tick_number")
 eM:=aU K "read_expression"
 eO:=dW K (aU K "read_expression")
 kj:=aU K "read_single"
 ku:=dW K (aU K "read_single")
 pY:=aU K "read_form"
 pZ:=dW K (aU K "read_form")
 mP:=aU K "read_piece"
 mQ:=dW K (aU K "read_piece")
 jy:=aU K "program_of"
 jz:=dW K (aU K "program_of")
 kD:=aU K "new_program"
 kG:=dW K (aU K "new_program")
 jA:=aU K "tick_nodes"
 jC:=dW K (aU K "tick_nodes")
 kI:=aU K "form_number"
 kJ:=dW K (aU K "form_number")
 vY:=aU K "text_of"
 vZ:=dW K (aU K "text_of")
 fX:=aU K "function_number"
 fY:=dW K (aU K "function_number")
 p6:=q0 K cY! "__init__"
 p8:=dW K (q0 K cY! "__init__")
 bB:=q0 K cY! "take_number"
 bC:=dW K (q0 K cY! "take_number")
 fM:=q0 K cY! "take_row"
 fN:=dW K (q0 K cY! "take_row")
 cj:=q0 K cY! "take_two_rows"
 ck:=dW K (q0 K cY! "take_two_rows")
 iO:=q0 K cY! "has_more"
 iP:=dW K (q0 K cY! "has_more")
 kK:=q0 K (aU K "Holder") "__init__"
 kL:=dW K (q0 K (aU K "Holder") "__init__")
 Ax:=aU K "answers"
 Ay:=dW K (aU K "answers")
 eU:=aU K "answer_or_refusal"
 eV:=dW K (aU K "answer_or_refusal")
 gX:=aU K "answer_program"
 jD:=dW K (aU K "answer_program")
 kM:=aU K "answer_show"
 px:=dW K (aU K "answer_show")
 jE:=aU K "counted"
 jF:=dW K (aU K "counted")
 jk:=aU K "answer_kinds"
 mR:=dW K (aU K "answer_kinds")
 mS:=aU K "answer_run"
 rA:=dW K (aU K "answer_run")
 jG:=aU K "account_of"
 jH:=dW K (aU K "account_of")
 mT:=aU K "told_value"
 mU:=dW K (aU K "told_value")
 jl:=aU K "answer_ticks"
 mV:=dW K (aU K "answer_ticks")
 iQ:=aU K "answer_counts"
 ly:=dW K (aU K "answer_counts")
 jm:=aU K "answer_calls"
 mW:=dW K (aU K "answer_calls")
 iR:=aU K "answer_scaled"
 lA:=dW K (aU K "answer_scaled")
 iS:=aU K "answer_within"
 lB:=dW K (aU K "answer_within")
 kN:=aU K "answer_node"
 pz:=dW K (aU K "answer_node")
 kO:=aU K "answer_size"
 pA:=dW K (aU K "answer_size")
 hX:=aU K "asked_run"
 hZ:=dW K (aU K "asked_run")
 sW:=aU K "run_on"
 sX:=dW K (aU K "run_on")
 gz:=aU K "function_of"
 gC:=dW K (aU K "function_of")
 wa:=aU K "node_of"
 wb:=dW K (aU K "node_of")
 fj:=aU K "refuse_outside"
 fk:=dW K (aU K "refuse_outside")
 p9:=aU K "values_of"
 qb:=dW K (aU K "values_of")
 sY:=aU K "value_of"
 sZ:=dW K (aU K "value_of")
 bu:=aU K "Node"
 dA:=aU K "Parameter"
 cZ:=aU K "Function"
 fO:=aU K "Program"
 jn:=aU K "Task"
 fD:=aU K "Run"
 aD:=aU K "NoProgram"
 ba:=aU K "NoFunction"
 bZ:=aU K "NoValues"
 fE:=aU K "NoNode"
 cB:=aU K "OutOfRange"
 ip:=aU K "Seen"
 da:=aU K "Reader"
 bU:=aU K "Feed"
 cU:=aU K "Holder"}
structure KF (P:Program) (w:World) (K:PySem.W.Frag):Prop where
 zV:KMeth K "Node" "__init__" "Node.__init__" yW
 oV:KMeth K "Parameter" "__init__" "Parameter.__init__" nR
 qJ:KMeth K "Function" "__init__" "Function.__init__" qp
 tT:KMeth K "Program" "__init__" "Program.__init__" sx
 E6:KTop K "by_name" "by_name" "by_name" D6
 zW:KMeth K "Task" "__init__" "Task.__init__" yX
 Cy:KMeth K "Run" "__init__" "Run.__init__" BN
 vq:KMeth K "Run" "come_to" "Run.come_to" uN
 l8:KMeth K "Run" "come_back_to" "Run.come_back_to" lK
 E7:KMeth K "Run" "pay" "Run.pay" D7
 qK:KMeth K "Run" "note_call" "Run.note_call" qt
 JJ:KTop K "run_of" "run_of" "run_of" Iw
 Cz:KTop K "bound_by" "bound_by" "bound_by" BO
 Yp:KTop K "do" "do" "do" X4
 tU:KTop K "begin_number" "begin_number" "begin_number" sA
 xW:KTop K "begin_name" "begin_name" "begin_name" wZ
 zX:KTop K "begin_nil" "begin_nil" "begin_nil" yY
 vt:KTop K "begin_parts" "begin_parts" "begin_parts" uO
 ma:KTop K "begin_first_part" "begin_first_part" "begin_first_part" lL
 xX:KTop K "begin_case" "begin_case" "begin_case" w6
 vw:KTop K "begin_share" "begin_share" "begin_share" uP
 jZ:KTop K "bind_pair_machine" "bind_pair" "bind_pair" jT
 xY:KTop K "begin_tick" "begin_tick" "begin_tick" w8
 CA:KTop K "end_cons" "end_cons" "end_cons" BP
 E8:KTop K "end_add" "end_add" "end_add" D9
 E9:KTop K "end_sub" "end_sub" "end_sub" Ea
 JK:KTop K "end_if" "end_if" "end_if" Iy
 Fb:KTop K "end_let" "end_let" "end_let" Eb
 CB:KTop K "end_call" "end_call" "end_call" BS
 zY:KMeth K "Seen" "__init__" "Seen.__init__" zb
 tV:KTop K "look_through" "look_through" "look_through" sC
 Vi:KTop K "see" "see" "see" Ue
 JL:KTop K "see_as" "see_as" "see_as" IA
 zZ:KTop K "see_parts" "see_parts" "see_parts" zc
 Qp:KTop K "both" "both" "both" Pb
 JM:KTop K "either" "either" "either" IB
 Fc:KTop K "without" "without" "without" Ec
 xZ:KTop K "see_number" "see_number" "see_number" w9
 Fd:KTop K "see_nil" "see_nil" "see_nil" Ed
 CD:KTop K "see_name" "see_name" "see_name" BV
 Vj:KTop K "use" "use" "use" Ug
 CF:KTop K "use_list" "use_list" "use_list" BX
 CG:KTop K "see_cons" "see_cons" "see_cons" BY
 qL:KTop K "see_reckoning" "see_reckoning" "see_reckoning" qu
 JN:KTop K "see_if" "see_if" "see_if" IC
 CH:KTop K "see_case" "see_case" "see_case" BZ
 z9:KTop K "see_share" "see_share" "see_share" zd
 nF:KTop K "bind_pair_kinds" "bind_pair" "bind_pair" mH
 Fe:KTop K "see_let" "see_let" "see_let" Ef
 CI:KTop K "see_call" "see_call" "see_call" B0
 CJ:KTop K "see_tick" "see_tick" "see_tick" B3
 vy:KMeth K "Reader" "__init__" "Reader.__init__" uQ
 vz:KMeth K "Reader" "sees" "Reader.sees" uR
 vD:KMeth K "Reader" "take" "Reader.take" uS
 md:KMeth K "Reader" "take_word" "Reader.take_word" lM
 qM:KMeth K "Reader" "at_end" "Reader.at_end" qv
 CK:KTop K "signs_of" "signs_of" "signs_of" B4
 oW:KTop K "read_functions" "read_functions" "read_functions" nS
 qN:KTop K "read_function" "read_function" "read_function" iF
 oX:KTop K "read_parameter" "read_parameter" "read_parameter" nU
 oY:KTop K "refuse_doubles" "refuse_doubles" "refuse_doubles" nV
 Aa:KTop K "read_kind" "read_kind" "read_kind" ze
 Ab:KTop K "read_name" "read_name" "read_name" zf
 Ff:KTop K "is_name" "is_name" "is_name" Eh
 Ac:KTop K "is_number" "is_number" "is_number" zg
 me:KTop K "read_tick_number" "read_tick_number" "read_tick_number" lN
 nG:KTop K "read_expression" "read_expression" "read_expression" mJ
 vE:KTop K "read_single" "read_single" "read_single" uT
 Ae:KTop K "read_form" "read_form" "read_form" zi
 x5:KTop K "read_piece" "read_piece" "read_piece" xb
 x6:KTop K "program_of" "program_of" "program_of" xc
 vF:KTop K "new_program" "new_program" "new_program" uV
 x8:KTop K "tick_nodes" "tick_nodes" "tick_nodes" xf
 vG:KTop K "form_number" "form_number" "form_number" uX
 Fg:KTop K "text_of" "text_of" "text_of" Ei
 nH:KTop K "function_number" "function_number" "function_number" mK
 Af:KMeth K "Feed" "__init__" "Feed.__init__" zj
 mh:KMeth K "Feed" "take_number" "Feed.take_number" lQ
 qO:KMeth K "Feed" "take_row" "Feed.take_row" qw
 jr:KMeth K "Feed" "take_two_rows" "Feed.take_two_rows" jb
 qP:KMeth K "Feed" "has_more" "Feed.has_more" qz
 vH:KMeth K "Holder" "__init__" "Holder.__init__" uY
 wH:KTop K "answers" "answers" "answers" Ek
 j0:KTop K "answer_or_refusal" "answer_or_refusal" "answer_or_refusal" gJ
 oZ:KTop K "answer_program" "answer_program" "answer_program" nX
 vI:KTop K "answer_show" "answer_show" "answer_show" uZ
 Fh:KTop K "counted" "counted" "counted" rP
 tW:KTop K "answer_kinds" "answer_kinds" "answer_kinds" sH
 x9:KTop K "answer_run" "answer_run" "answer_run" xg
 ya:KTop K "account_of" "account_of" "account_of" xh
 yb:KTop K "told_value" "told_value" "told_value" xi
 tX:KTop K "answer_ticks" "answer_ticks" "answer_ticks" sI
 qQ:KTop K "answer_counts" "answer_counts" "answer_counts" qA
 tY:KTop K "answer_calls" "answer_calls" "answer_calls" sJ
 qR:KTop K "answer_scaled" "answer_scaled" "answer_scaled" qB
 qS:KTop K "answer_within" "answer_within" "answer_within" qC
 vJ:KTop K "answer_node" "answer_node" "answer_node" va
 vK:KTop K "answer_size" "answer_size" "answer_size" vd
 Ag:KTop K "asked_run" "asked_run" "asked_run" zk
 JO:KTop K "run_on" "run_on" "run_on" IK
 vL:KTop K "function_of" "function_of" "function_of" ve
 Fi:KTop K "node_of" "node_of" "node_of" El
 pb:KTop K "refuse_outside" "refuse_outside" "refuse_outside" nY
 Ah:KTop K "values_of" "values_of" "values_of" zl
 CL:KTop K "value_of" "value_of" "value_of" B5
 EH:KCls K "Node"
 eY:wG K "Node" "label"
 jM:wG K "Node" "depth"
 gY:wG K "Node" "starts_at"
 gZ:wG K "Node" "ends_at"
 bM:wG K "Node" "word"
 dY:wG K "Node" "number"
 aP:wG K "Node" "names"
 aO:wG K "Node" "parts"
 mx:KCls K "Parameter"
 cV:wG K "Parameter" "kind"
 dU:wG K "Parameter" "name"
 oQ:KCls K "Function"
 dE:wG K "Function" "name"
 bb:wG K "Function" "parameters"
 dc:wG K "Function" "result"
 dF:wG K "Function" "body"
 rZ:KCls K "Program"
 g6:wG K "Program" "text"
 aV:wG K "Program" "functions"
 cw:wG K "Program" "nodes"
 Co:KCls K "Task"
 ia:wG K "Task" "node"
 jN:wG K "Task" "bound"
 gh:wG K "Task" "parts_done"
 Lx:KCls K "Run"
 qh:wG K "Run" "named"
 kT:wG K "Run" "allowed"
 ib:wG K "Run" "tasks"
 bo:wG K "Run" "given"
 ic:wG K "Run" "steps"
 iu:wG K "Run" "paid"
 iw:wG K "Run" "peak"
 ie:wG K "Run" "ticks"
 cR:wG K "Run" "times_called"
 cY:wG K "Run" "is_long"
 aS:Kn K "NoProgram"
 eX:Kn K "NoFunction"
 fF:Kn K "NoValues"
 tM:Kn K "NoNode"
 jL:Kn K "OutOfRange"
 jY:KCls K "Seen"
 cW:wG K "Seen" "kind"
 eD:wG K "Seen" "used"
 wx:KCls K "Reader"
 dh:wG K "Reader" "signs"
 bx:wG K "Reader" "place"
 eE:wG K "Reader" "nodes"
 EI:KCls K "Feed"
 iy:wG K "Feed" "calls"
 dZ:wG K "Feed" "place"
 wy:KCls K "Holder"
 aL:wG K "Holder" "program"
 jo:vp K "NUMBER" (0)
 qI:vp K "LIST" (1)
 m8:vp K "LONGEST_LIST" (40)
 jO:vp K "MOST_FUNCTIONS" (4)
 m9:vp K "MOST_NODES" (60)
 wz:vp K "DEEPEST" (9)
 nj:vp K "LONGEST_NAME" (4)
 lF:vp K "CALL_WITH_ONE" (9)
 lG:vp K "CALL_WITH_TWO" (10)
 rH:vp K "NO_PROGRAM" (-1)
 ux:vp K "NO_VALUES" (-2)
 pD:vp K "NO_FUNCTION" (-3)
 AI:vp K "NO_NODE" (-4)
 nv:vp K "OUT_OF_RANGE" (-5)
 i5:vp K "GREATEST_NUMBER" (99)
 lH:vp K "LONGEST_GIVEN" (12)
 rG:vp K "MOST_TIMES" (9)
 fP:vp K "STEPS_ALLOWED" (400)
 Hm:SQ K "SIGNS" "\n ()-0123456789abcdefghijklmnopqrstuvwxyz"
 uu:SQ K "WORD_ENDS" "\n ()"
 xO:SQ K "NEW_TEXT" "(fun f ((n x)) n x)\n"
 zL:%aw K mainGlobals "dict"=some none
 Jh:%aw K mainGlobals "int"=some none
 rJ:%aw K mainGlobals "isinstance"=some none
 dm:%aw K mainGlobals "len"=some none
 My:%aw K mainGlobals "list"=some none
 Ly:%aw K mainGlobals "max"=some none
 N0:%aw K mainGlobals "ord"=some none
 xP:%aw K mainGlobals "reversed"=some none
 QM:%aw K mainGlobals "set"=some none
 QN:%aw K mainGlobals "str"=some none
 QO:%aw K mainGlobals "sum"=some none
 Lz:%aw K mainGlobals "zip"=some none
section
variable {P:Program} {w:World} {K:PySem.W.Frag} {h:Heap} {mg:Str->Option Value}
t! Yq(X:K.In h)(G:h.Ns mainGlobals mg)(k:KF P w K):eo K mg (Ww K):=by
 ~hd:=G;r! {
  FC:=k.zV.fn
  FD:=(k.zV.fn).binds (ps:=be!) λ_ _ _ _ _ _ us hl=>match us,hl with | [_,_,_,_],_=>rfl
  FE:=k.zV.make k.EH
  wc:=k.oV.fn
  we:=(k.oV.fn).binds (ps:=cH!) λ_ _ _ _ _ _ us hl=>match us,hl with | [_,_,_],_=>rfl
  wg:=k.oV.make k.mx
  yh:=k.qJ.fn
  yi:=(k.qJ.fn).binds (ps:=a3!) λ_ _ _ _ _ _ us hl=>match us,hl with | [_,_,_,_,_],_=>rfl
  yj:=k.qJ.make k.oQ
  zp:=k.tT.fn
  zq:=(k.tT.fn).binds (ps:=bk!) λ_ _ _ _ _ _ us hl=>match us,hl with | [_,_,_,_],_=>rfl
  zr:=k.tT.make k.rZ
  Az:=k.E6.fn
  Em:=(k.E6.fn).binds (ps:=cI!) λ_ _ _ _ _ _ us hl=>match us,hl with | [_],_=>rfl
  En:=k.E6.cX X G
  FF:=k.zW.fn
  zt:=(k.zW.fn).binds (ps:=a7!) λ_ _ _ _ _ _ us hl=>match us,hl with | [_,_,_,_],_=>rfl
  zu:=k.zW.make k.Co
  IM:=k.Cy.fn
  IP:=(k.Cy.fn).binds (ps:=bN!) λ_ _ _ _ _ _ us hl=>match us,hl with | [_,_,_],_=>rfl
  IQ:=k.Cy.make k.Lx
  Be:=k.vq.fn
  cu:=(k.vq.fn).binds (ps:=aw!) λ_ _ _ _ _ _ us hl=>match us,hl with | [_,_,_],_=>rfl
  cv:=k.vq.G8
  tj:=k.l8.fn
  lW:=(k.l8.fn).binds (ps:=aw!) λ_ _ _ _ _ _ us hl=>match us,hl with | [_,_,_],_=>rfl
  lX:=k.l8.G8
  Lk:=k.E7.fn
  Ll:=(k.E7.fn).binds (ps:=ek!) λ_ _ _ _ _ _ us hl=>match us,hl with | [_,_],_=>rfl
  Lm:=k.E7.G8
  yk:=k.qK.fn
  yl:=(k.qK.fn).binds (ps:=el!) λ_ _ _ _ _ _ us hl=>match us,hl with | [_,_],_=>rfl
  ym:=k.qK.G8
  IT:=k.JJ.fn
  NS:=(k.JJ.fn).binds (ps:=bh!) λ_ _ _ _ _ _ us hl=>match us,hl with | [_,_,_,_],_=>rfl
  NT:=k.JJ.cX X G
  xr:=k.Cz.fn
  B6:=(k.Cz.fn).binds (ps:=cT!) λ_ _ _ _ _ _ us hl=>match us,hl with | [_,_],_=>rfl
  B7:=k.Cz.cX X G
  X7:=k.Yp.fn
  Za:=(k.Yp.fn).binds (ps:=ey!) λ_ _ _ _ _ _ us hl=>match us,hl with | [_,_],_=>rfl
  Zb:=k.Yp.cX X G
  tq:=k.tU.fn
  zv:=(k.tU.fn).binds (ps:=ae!) λ_ _ _ _ _ _ us hl=>match us,hl with | [_,_,_],_=>rfl
  IU:=k.tU.cX X G
  xt:=k.xW.fn
  Di:=(k.xW.fn).binds (ps:=ae!) λ_ _ _ _ _ _ us hl=>match us,hl with | [_,_,_],_=>rfl
  Mt:=k.xW.cX X G
  zw:=k.zX.fn
  FG:=(k.zX.fn).binds (ps:=ae!) λ_ _ _ _ _ _ us hl=>match us,hl with | [_,_,_],_=>rfl
  NU:=k.zX.cX X G
  gD:=k.vt.fn
  iX:=(k.vt.fn).binds (ps:=ae!) λ_ _ _ _ _ _ us hl=>match us,hl with | [_,_,_],_=>rfl
  Ka:=k.vt.cX X G
  iq:=k.ma.fn
  lY:=(k.ma.fn).binds (ps:=ae!) λ_ _ _ _ _ _ us hl=>match us,hl with | [_,_,_],_=>rfl
  B8:=k.ma.cX X G
  xu:=k.xX.fn
  Dj:=(k.xX.fn).binds (ps:=ae!) λ_ _ _ _ _ _ us hl=>match us,hl with | [_,_,_],_=>rfl
  Mu:=k.xX.cX X G
  vg:=k.vw.fn
  Bf:=(k.vw.fn).binds (ps:=ae!) λ_ _ _ _ _ _ us hl=>match us,hl with | [_,_,_],_=>rfl
  Kb:=k.vw.cX X G
  gK:=k.jZ.fn
  jV:=(k.jZ.fn).binds (ps:=bv!) λ_ _ _ _ _ _ us hl=>match us,hl with | [_,_,_,_],_=>rfl
  jW:=k.jZ.cX X G
  xw:=k.xY.fn
  Dk:=(k.xY.fn).binds (ps:=ae!) λ_ _ _ _ _ _ us hl=>match us,hl with | [_,_,_],_=>rfl
  Mv:=k.xY.cX X G
  B9:=k.CA.fn
  IV:=(k.CA.fn).binds (ps:=ae!) λ_ _ _ _ _ _ us hl=>match us,hl with | [_,_,_],_=>rfl
  Ph:=k.CA.cX X G
  Eo:=k.E8.fn
  Ln:=(k.E8.fn).binds (ps:=ae!) λ_ _ _ _ _ _ us hl=>match us,hl with | [_,_,_],_=>rfl
  RU:=k.E8.cX X G
  Ep:=k.E9.fn
  Lo:=(k.E9.fn).binds (ps:=ae!) λ_ _ _ _ _ _ us hl=>match us,hl with | [_,_,_],_=>rfl
  RV:=k.E9.cX X G
  IW:=k.JK.fn
  NV:=(k.JK.fn).binds (ps:=ae!) λ_ _ _ _ _ _ us hl=>match us,hl with | [_,_,_],_=>rfl
  Uj:=k.JK.cX X G
  Es:=k.Fb.fn
  Lp:=(k.Fb.fn).binds (ps:=ae!) λ_ _ _ _ _ _ us hl=>match us,hl with | [_,_,_],_=>rfl
  RX:=k.Fb.cX X G
  xx:=k.CB.fn
  Ca:=(k.CB.fn).binds (ps:=ae!) λ_ _ _ _ _ _ us hl=>match us,hl with | [_,_,_],_=>rfl
  Pj:=k.CB.cX X G
  FH:=k.zY.fn
  dC:=(k.zY.fn).binds (ps:=aM!) λ_ _ _ _ _ _ us hl=>match us,hl with | [_,_,_],_=>rfl
  dD:=k.zY.make k.jY
  tu:=k.tV.fn
  zx:=(k.tV.fn).binds (ps:=cI!) λ_ _ _ _ _ _ us hl=>match us,hl with | [_],_=>rfl
  zy:=k.tV.cX X G
  Dl:=k.Vi.fn
  FI:=(k.Vi.fn).binds (ps:=ac!) λ_ _ _ _ _ _ us hl=>match us,hl with | [_,_,_],_=>rfl
  FJ:=k.Vi.cX X G
  tw:=k.JL.fn
  wj:=(k.JL.fn).binds (ps:=aW!) λ_ _ _ _ _ _ us hl=>match us,hl with | [_,_,_,_],_=>rfl
  wm:=k.JL.cX X G
  qc:=k.zZ.fn
  ui:=(k.zZ.fn).binds (ps:=a1!) λ_ _ _ _ _ _ us hl=>match us,hl with | [_,_,_,_],_=>rfl
  uj:=k.zZ.cX X G
  Cb:=k.Qp.fn
  Eu:=(k.Qp.fn).binds (ps:=aZ!) λ_ _ _ _ _ _ us hl=>match us,hl with | [_,_],_=>rfl
  Ew:=k.Qp.cX X G
  zA:=k.JM.fn
  Dm:=(k.JM.fn).binds (ps:=aZ!) λ_ _ _ _ _ _ us hl=>match us,hl with | [_,_],_=>rfl
  Dn:=k.JM.cX X G
  wo:=k.Fc.fn
  AA:=(k.Fc.fn).binds (ps:=de!) λ_ _ _ _ _ _ us hl=>match us,hl with | [_,_],_=>rfl
  AD:=k.Fc.cX X G
  rB:=k.xZ.fn
  xy:=(k.xZ.fn).binds (ps:=ac!) λ_ _ _ _ _ _ us hl=>match us,hl with | [_,_,_],_=>rfl
  Mw:=k.xZ.cX X G
  AE:=k.Fd.fn
  Ey:=(k.Fd.fn).binds (ps:=ac!) λ_ _ _ _ _ _ us hl=>match us,hl with | [_,_,_],_=>rfl
  RY:=k.Fd.cX X G
  xA:=k.CD.fn
  Cc:=(k.CD.fn).binds (ps:=ac!) λ_ _ _ _ _ _ us hl=>match us,hl with | [_,_,_],_=>rfl
  Pk:=k.CD.cX X G
  QL:=k.Vj.fn
  Uk:=(k.Vj.fn).binds (ps:=bw!) λ_ _ _ _ _ _ us hl=>match us,hl with | [_,_],_=>rfl
  Ul:=k.Vj.cX X G
  xB:=k.CF.fn
  Cd:=(k.CF.fn).binds (ps:=bw!) λ_ _ _ _ _ _ us hl=>match us,hl with | [_,_],_=>rfl
  Ce:=k.CF.cX X G
  Cf:=k.CG.fn
  IX:=(k.CG.fn).binds (ps:=ac!) λ_ _ _ _ _ _ us hl=>match us,hl with | [_,_,_],_=>rfl
  Pl:=k.CG.cX X G
  lC:=k.qL.fn
  qD:=(k.qL.fn).binds (ps:=ac!) λ_ _ _ _ _ _ us hl=>match us,hl with | [_,_,_],_=>rfl
  GG:=k.qL.cX X G
  IY:=k.JN.fn
  NW:=(k.JN.fn).binds (ps:=ac!) λ_ _ _ _ _ _ us hl=>match us,hl with | [_,_,_],_=>rfl
  Um:=k.JN.cX X G
  Cg:=k.CH.fn
  IZ:=(k.CH.fn).binds (ps:=ac!) λ_ _ _ _ _ _ us hl=>match us,hl with | [_,_,_],_=>rfl
  Pn:=k.CH.cX X G
  zB:=k.z9.fn
  FK:=(k.z9.fn).binds (ps:=ac!) λ_ _ _ _ _ _ us hl=>match us,hl with | [_,_,_],_=>rfl
  NX:=k.z9.cX X G
  i4:=k.nF.fn
  mX:=(k.nF.fn).binds (ps:=cA!) λ_ _ _ _ _ _ us hl=>match us,hl with | [_,_,_],_=>rfl
  mY:=k.nF.cX X G
  Ez:=k.Fe.fn
  Lq:=(k.Fe.fn).binds (ps:=ac!) λ_ _ _ _ _ _ us hl=>match us,hl with | [_,_,_],_=>rfl
  RZ:=k.Fe.cX X G
  xC:=k.CI.fn
  Ci:=(k.CI.fn).binds (ps:=ac!) λ_ _ _ _ _ _ us hl=>match us,hl with | [_,_,_],_=>rfl
  Po:=k.CI.cX X G
  Cj:=k.CJ.fn
  I0:=(k.CJ.fn).binds (ps:=ac!) λ_ _ _ _ _ _ us hl=>match us,hl with | [_,_,_],_=>rfl
  Pp:=k.CJ.cX X G
  Bg:=k.vy.fn
  Bh:=(k.vy.fn).binds (ps:=aH!) λ_ _ _ _ _ _ us hl=>match us,hl with | [_,_],_=>rfl
  Bi:=k.vy.make k.wx
  Bj:=k.vz.fn
  kP:=(k.vz.fn).binds (ps:=aH!) λ_ _ _ _ _ _ us hl=>match us,hl with | [_,_],_=>rfl
  kQ:=k.vz.G8
  Bk:=k.vD.fn
  bI:=(k.vD.fn).binds (ps:=aH!) λ_ _ _ _ _ _ us hl=>match us,hl with | [_,_],_=>rfl
  bJ:=k.vD.G8
  tD:=k.md.fn
  dQ:=(k.md.fn).binds (ps:=["self"]) λ_ _ _ _ _ _ us hl=>match us,hl with | [_],_=>rfl
  dR:=k.md.G8
  yo:=k.qM.fn
  yp:=(k.qM.fn).binds (ps:=["self"]) λ_ _ _ _ _ _ us hl=>match us,hl with | [_],_=>rfl
  yq:=k.qM.G8
  Ck:=k.CK.fn
  Ja:=(k.CK.fn).binds (ps:=["text"]) λ_ _ _ _ _ _ us hl=>match us,hl with | [_],_=>rfl
  Jb:=k.CK.cX X G
  oE:=k.oW.fn
  wq:=(k.oW.fn).binds (ps:=a8!) λ_ _ _ _ _ _ us hl=>match us,hl with | [_],_=>rfl
  wt:=k.oW.cX X G
  qE:=k.qN.fn
  yr:=(k.qN.fn).binds (ps:=a8!) λ_ _ _ _ _ _ us hl=>match us,hl with | [_],_=>rfl
  yt:=k.qN.cX X G
  jI:=k.oX.fn
  oG:=(k.oX.fn).binds (ps:=a8!) λ_ _ _ _ _ _ us hl=>match us,hl with | [_],_=>rfl
  oH:=k.oX.cX X G
  jJ:=k.oY.fn
  oI:=(k.oY.fn).binds (ps:=["names"]) λ_ _ _ _ _ _ us hl=>match us,hl with | [_],_=>rfl
  oJ:=k.oY.cX X G
  uk:=k.Aa.fn
  zC:=(k.Aa.fn).binds (ps:=a8!) λ_ _ _ _ _ _ us hl=>match us,hl with | [_],_=>rfl
  zD:=k.Aa.cX X G
  qd:=k.Ab.fn
  um:=(k.Ab.fn).binds (ps:=a8!) λ_ _ _ _ _ _ us hl=>match us,hl with | [_],_=>rfl
  uo:=k.Ab.cX X G
  AH:=k.Ff.fn
  EA:=(k.Ff.fn).binds (ps:=["word"]) λ_ _ _ _ _ _ us hl=>match us,hl with | [_],_=>rfl
  EC:=k.Ff.cX X G
  zE:=k.Ac.fn
  FL:=(k.Ac.fn).binds (ps:=["word"]) λ_ _ _ _ _ _ us hl=>match us,hl with | [_],_=>rfl
  FN:=k.Ac.cX X G
  lZ:=k.me.fn
  tE:=(k.me.fn).binds (ps:=a8!) λ_ _ _ _ _ _ us hl=>match us,hl with | [_],_=>rfl
  tF:=k.me.cX X G
  fZ:=k.nG.fn
  mZ:=(k.nG.fn).binds (ps:=ds!) λ_ _ _ _ _ _ us hl=>match us,hl with | [_,_],_=>rfl
  m6:=k.nG.cX X G
  vh:=k.vE.fn
  Bl:=(k.vE.fn).binds (ps:=b1!) λ_ _ _ _ _ _ us hl=>match us,hl with | [_,_],_=>rfl
  Bm:=k.vE.cX X G
  zF:=k.Ae.fn
  FO:=(k.Ae.fn).binds (ps:=b1!) λ_ _ _ _ _ _ us hl=>match us,hl with | [_,_],_=>rfl
  FP:=k.Ae.cX X G
  rC:=k.x5.fn
  xD:=(k.x5.fn).binds (ps:=bU!) λ_ _ _ _ _ _ us hl=>match us,hl with | [_,_,_],_=>rfl
  xE:=k.x5.cX X G
  rD:=k.x6.fn
  xF:=(k.x6.fn).binds (ps:=["text"]) λ_ _ _ _ _ _ us hl=>match us,hl with | [_],_=>rfl
  xG:=k.x6.cX X G
  vi:=k.vF.fn
  Bn:=(k.vF.fn).binds (ps:=[]) λ_ _ _ _ _ _ us hl=>match us,hl with | [],_=>rfl
  Bo:=k.vF.cX X G
  rE:=k.x8.fn
  xH:=(k.x8.fn).binds (ps:=ga!) λ_ _ _ _ _ _ us hl=>match us,hl with | [_],_=>rfl
  xI:=k.x8.cX X G
  vj:=k.vG.fn
  Bp:=(k.vG.fn).binds (ps:=["node"]) λ_ _ _ _ _ _ us hl=>match us,hl with | [_],_=>rfl
  Bq:=k.vG.cX X G
  ED:=k.Fg.fn
  Lr:=(k.Fg.fn).binds (ps:=bl!) λ_ _ _ _ _ _ us hl=>match us,hl with | [_,_],_=>rfl
  Ls:=k.Fg.cX X G
  m7:=k.nH.fn
  uq:=(k.nH.fn).binds (ps:=bl!) λ_ _ _ _ _ _ us hl=>match us,hl with | [_,_],_=>rfl
  ur:=k.nH.cX X G
  FQ:=k.Af.fn
  FR:=(k.Af.fn).binds (ps:=dV!) λ_ _ _ _ _ _ us hl=>match us,hl with | [_,_],_=>rfl
  FT:=k.Af.make k.EI
  tG:=k.mh.fn
  bR:=(k.mh.fn).binds (ps:=["self"]) λ_ _ _ _ _ _ us hl=>match us,hl with | [_],_=>rfl
  bS:=k.mh.G8
  yu:=k.qO.fn
  lD:=(k.qO.fn).binds (ps:=["self"]) λ_ _ _ _ _ _ us hl=>match us,hl with | [_],_=>rfl
  lE:=k.qO.G8
  qe:=k.jr.fn
  gb:=(k.jr.fn).binds (ps:=["self"]) λ_ _ _ _ _ _ us hl=>match us,hl with | [_],_=>rfl
  gc:=k.jr.G8
  yw:=k.qP.fn
  yx:=(k.qP.fn).binds (ps:=["self"]) λ_ _ _ _ _ _ us hl=>match us,hl with | [_],_=>rfl
  yy:=k.qP.G8
  Br:=k.vH.fn
  Bs:=(k.vH.fn).binds (ps:=["self"]) λ_ _ _ _ _ _ us hl=>match us,hl with | [_],_=>rfl
  Bt:=k.vH.make k.wy
  Lu:=k.wH.fn
  R0:=(k.wH.fn).binds (ps:=gb!) λ_ _ _ _ _ _ us hl=>match us,hl with | [_],_=>rfl
  Sa:=k.wH.cX X G
  jX:=k.j0.fn
  qX:=(k.j0.fn).binds (ps:=ah!) λ_ _ _ _ _ _ us hl=>match us,hl with | [_,_],_=>rfl
  qY:=k.j0.cX X G
  oK:=k.oZ.fn
  wu:=(k.oZ.fn).binds (ps:=ah!) λ_ _ _ _ _ _ us hl=>match us,hl with | [_,_],_=>rfl
  EF:=k.oZ.cX X G
  vk:=k.vI.fn
  Bu:=(k.vI.fn).binds (ps:=ah!) λ_ _ _ _ _ _ us hl=>match us,hl with | [_,_],_=>rfl
  Kc:=k.vI.cX X G
  oM:=k.Fh.fn
  rX:=(k.Fh.fn).binds (ps:=["row"]) λ_ _ _ _ _ _ us hl=>match us,hl with | [_],_=>rfl
  rY:=k.Fh.cX X G
  tH:=k.tW.fn
  zG:=(k.tW.fn).binds (ps:=ah!) λ_ _ _ _ _ _ us hl=>match us,hl with | [_,_],_=>rfl
  Jc:=k.tW.cX X G
  xJ:=k.x9.fn
  Dp:=(k.x9.fn).binds (ps:=ah!) λ_ _ _ _ _ _ us hl=>match us,hl with | [_,_],_=>rfl
  Mx:=k.x9.cX X G
  rF:=k.ya.fn
  xK:=(k.ya.fn).binds (ps:=["run"]) λ_ _ _ _ _ _ us hl=>match us,hl with | [_],_=>rfl
  xM:=k.ya.cX X G
  xN:=k.yb.fn
  Dq:=(k.yb.fn).binds (ps:=["value"]) λ_ _ _ _ _ _ us hl=>match us,hl with | [_],_=>rfl
  Dr:=k.yb.cX X G
  tI:=k.tX.fn
  zH:=(k.tX.fn).binds (ps:=ah!) λ_ _ _ _ _ _ us hl=>match us,hl with | [_,_],_=>rfl
  Jd:=k.tX.cX X G
  qF:=k.qQ.fn
  yA:=(k.qQ.fn).binds (ps:=ah!) λ_ _ _ _ _ _ us hl=>match us,hl with | [_,_],_=>rfl
  GJ:=k.qQ.cX X G
  tJ:=k.tY.fn
  zI:=(k.tY.fn).binds (ps:=ah!) λ_ _ _ _ _ _ us hl=>match us,hl with | [_,_],_=>rfl
  Je:=k.tY.cX X G
  qG:=k.qR.fn
  yB:=(k.qR.fn).binds (ps:=ah!) λ_ _ _ _ _ _ us hl=>match us,hl with | [_,_],_=>rfl
  GQ:=k.qR.cX X G
  qH:=k.qS.fn
  yC:=(k.qS.fn).binds (ps:=ah!) λ_ _ _ _ _ _ us hl=>match us,hl with | [_,_],_=>rfl
  GX:=k.qS.cX X G
  vm:=k.vJ.fn
  Bv:=(k.vJ.fn).binds (ps:=ah!) λ_ _ _ _ _ _ us hl=>match us,hl with | [_,_],_=>rfl
  Kd:=k.vJ.cX X G
  vn:=k.vK.fn
  Bw:=(k.vK.fn).binds (ps:=ah!) λ_ _ _ _ _ _ us hl=>match us,hl with | [_,_],_=>rfl
  Ke:=k.vK.cX X G
  mw:=k.Ag.fn
  qf:=(k.Ag.fn).binds (ps:=ah!) λ_ _ _ _ _ _ us hl=>match us,hl with | [_,_],_=>rfl
  qg:=k.Ag.cX X G
  zJ:=k.JO.fn
  Ds:=(k.JO.fn).binds (ps:=aN!) λ_ _ _ _ _ _ us hl=>match us,hl with | [_,_,_,_],_=>rfl
  Dt:=k.JO.cX X G
  kR:=k.vL.fn
  pB:=(k.vL.fn).binds (ps:=cf!) λ_ _ _ _ _ _ us hl=>match us,hl with | [_,_],_=>rfl
  pC:=k.vL.cX X G
  EG:=k.Fi.fn
  Lv:=(k.Fi.fn).binds (ps:=c8!) λ_ _ _ _ _ _ us hl=>match us,hl with | [_,_],_=>rfl
  Lw:=k.Fi.cX X G
  jK:=k.pb.fn
  oO:=(k.pb.fn).binds (ps:=cj!) λ_ _ _ _ _ _ us hl=>match us,hl with | [_,_],_=>rfl
  oP:=k.pb.cX X G
  zK:=k.Ah.fn
  FV:=(k.Ah.fn).binds (ps:=dW!) λ_ _ _ _ _ _ us hl=>match us,hl with | [_,_],_=>rfl
  FW:=k.Ah.cX X G
  Cm:=k.CL.fn
  Jf:=(k.CL.fn).binds (ps:=fi!) λ_ _ _ _ _ _ us hl=>match us,hl with | [_,_],_=>rfl
  Jg:=k.CL.cX X G
  EH:=k.EH.cX X G
  aG:=k.EH.cls
  eY:=k.eY.no
  jM:=k.jM.no
  gY:=k.gY.no
  gZ:=k.gZ.no
  bM:=k.bM.no
  dY:=k.dY.no
  aP:=k.aP.no
  aO:=k.aO.no
  mx:=k.mx.cX X G
  fe:=k.mx.cls
  cV:=k.cV.no
  dU:=k.dU.no
  oQ:=k.oQ.cX X G
  bw:=k.oQ.cls
  dE:=k.dE.no
  bb:=k.bb.no
  dc:=k.dc.no
  dF:=k.dF.no
  rZ:=k.rZ.cX X G
  bX:=k.rZ.cls
  g6:=k.g6.no
  aV:=k.aV.no
  cw:=k.cw.no
  Co:=k.Co.cX X G
  tK:=k.Co.cls
  ia:=k.ia.no
  jN:=k.jN.no
  gh:=k.gh.no
  Lx:=k.Lx.cX X G
  aW:=k.Lx.cls
  qh:=k.qh.no
  kT:=k.kT.no
  ib:=k.ib.no
  bo:=k.bo.no
  ic:=k.ic.no
  iu:=k.iu.no
  iw:=k.iw.no
  ie:=k.ie.no
  cR:=k.cR.no
  cY:=k.cY.no
  aS:=k.aS.cX X G
  bj:=k.aS.cls
  eX:=k.eX.cX X G
  Du:=k.eX.cls
  fF:=k.fF.cX X G
  tL:=k.fF.cls
  tM:=k.tM.cX X G
  NY:=k.tM.cls
  jL:=k.jL.cX X G
  Dv:=k.jL.cls
  jY:=k.jY.cX X G
  ir:=k.jY.cls
  cW:=k.cW.no
  eD:=k.eD.no
  wx:=k.wx.cX X G
  aN:=k.wx.cls
  dh:=k.dh.no
  bx:=k.bx.no
  eE:=k.eE.no
  EI:=k.EI.cX X G
  dS:=k.EI.cls
  iy:=k.iy.no
  dZ:=k.dZ.no
  wy:=k.wy.cX X G
  dJ:=k.wy.cls
  aL:=k.aL.no
  jo:=k.jo.cX X G
  qI:=k.qI.cX X G
  m8:=k.m8.cX X G
  jO:=k.jO.cX X G
  m9:=k.m9.cX X G
  wz:=k.wz.cX X G
  nj:=k.nj.cX X G
  lF:=k.lF.cX X G
  lG:=k.lG.cX X G
  rH:=k.rH.cX X G
  ux:=k.ux.cX X G
  pD:=k.pD.cX X G
  AI:=k.AI.cX X G
  nv:=k.nv.cX X G
  i5:=k.i5.cX X G
  lH:=k.lH.cX X G
  rG:=k.rG.cX X G
  fP:=k.fP.cX X G
  Hm:=k.Hm.cX X G
  uu:=k.uu.cX X G
  xO:=k.xO.cX X G
  zL:=%aX X G k.zL
  Jh:=%aX X G k.Jh
  rJ:=%aX X G k.rJ
  dm:=%aX X G k.dm
  My:=%aX X G k.My
  Ly:=%aX X G k.Ly
  N0:=%aX X G k.N0
  xP:=%aX X G k.xP
  QM:=%aX X G k.QM
  QN:=%aX X G k.QN
  QO:=%aX X G k.QO
  Lz:=%aX X G k.Lz}
end
end Pay
namespace Pay
open PySem L2
inductive JP (w:World):List DictEntry->List (Key×V)->Prop where
 | nil:JP w [] []
 | cons {e:DictEntry} {k:Key} {v:V} {es:List DictEntry} {kvs:List (Key×V)}:CM k e.key=true->e.hash=Yz w k->RelV v e.val->JP w es kvs->JP w (e::es) ((k,v)::kvs)
t! JP.mk{P:Program}{w:World}:∀ {es:List DictEntry} {kvs:List (Key×V)},JP w es kvs->∃ vs:List fA!,KV kvs vs/\PySem.Pairs (bN P w) es vs/\(∀ e∈es,∃ k,(bN P w).is k e.key=true/\e.hash=(bN P w).hash k)/\vs.map (·.1)=kvs.map (·.1)
 | _,_,.nil=>⟨[],.nil,.nil,λe h=>(by cases h),rfl⟩
 | _,_,.cons (e:=e) (k:=k) (v:=v) h1 h2 h3 h4=>by
  o!⟨vs,a1,a2,a3,a4⟩:=JP.mk (P:=P) h4;r! ⟨(k,e.val)::vs,.cons ⟨rfl,h3⟩ a1,.cons h1 rfl a2,λe' he=>?_,by rw[%aM,%aM,a4]⟩;rcases %ak he with rfl | he
  ·e! ⟨k,h1,h2⟩
  ·e! a3 e' he
structure MX (w:World) (K:PySem.W.Frag) (x:Str) (kvs:List (Key×V)):Prop where
 ex:∃ (d:Addr) (es:Array DictEntry) (ep:Nat),%aw K mainGlobals x=some (some (.ref d))/\K.lookup d=some ⟨.type "dict",none,.dict es ep,#[]⟩/\(d == sysModules)=false/\JP w es.toList kvs
t! MX.kd{P:Program}{w:World}{K:%ag}{h:Heap}{mg:Str->Option Value}{x:Str}{kvs:List (Key×V)}(k:MX w K x kvs)(X:K.In h)(G:h.Ns mainGlobals mg)(nd:(kvs.map (·.1)).Nodup):∃ d,mg x=some (.ref d)/\KD P w K d kvs:=by
 o!⟨d,es,ep,e,l,sy,r⟩:=k.ex;o!⟨vs,a1,a2,a3,a4⟩:=JP.mk (P:=P) r;r! ⟨d,PySem.W.mg_of X G e,sy,vs,a1,λh' X'=>⟨_,es,ep,X' _ _ l,⟨rfl,rfl,rfl⟩,rfl,λe he=>a3 e (by simpa using he),a2,by rw[a4];e! nd⟩⟩
structure Wy (K:PySem.W.Frag) (x:Str) (xs:List V):Prop where
 ex:∃ (tp:Addr) (dd:Option Addr) (its:Array Value) (n:Nat) (sl:Array cr!),%aw K mainGlobals x=some (some (.ref tp))/\K.lookup tp=some ⟨.type "tuple",dd,.seq its n,sl⟩/\its.size<=100/\Vals xs its.toList
t! Wy.at_{K:%ag}{h:Heap}{mg:Str->Option Value}{x:Str}{xs:List V}(k:Wy K x xs)(X:K.In h)(G:h.Ns mainGlobals mg):∃ tp,mg x=some (.ref tp)/\∀ H:Hp,JQ K H tp xs:=by
 o!⟨tp,dd,its,n,sl,e,l,z,r⟩:=k.ex;e! ⟨tp,%cn X G e,λH=>.inr ⟨_,its,n,l,rfl,rfl,%aj z ag!,r⟩⟩
structure M4 (K:PySem.W.Frag) (c d:Str) (b:Bool):Prop where
 ex:∃ C D:Addr,%aw K mainGlobals c=some ct!/\%aw K mainGlobals d=some (some (.ref D))/\%aI K (.ref C) (.ref D)=some b
t! M4.at_{K:%ag}{c d:Str}{b:Bool}(k:M4 K c d b):%aI K (.ref (aU K c)) (.ref (aU K d))=some b:=by
 o!⟨C,D,e1,e2,q⟩:=k.ex;rw[nE e1,nE e2];e! q
t! zb9{K:%ag}{x:Str}{f:Addr}(e:%aw K mainGlobals x=some b6!):RelV (V.ref (aU K x)) (.ref f):=by
 rw[nE e];e! rfl
structure KG (w:World) (K:PySem.W.Frag):Prop where
 RESERVED:Wy K "RESERVED" (["fun","nil","cons","add","sub","if","case","let","call","tick"].map λx=>V.str (%ad x))
 Us:MX w K "FORMS" Ho
 PU:MX w K "SIGHTS" (dt (Ww K))
 Cu:MX w K "BEGINNINGS" (DN (Ww K))
 Yk:MX w K "ENDS" (Gj (Ww K))
 xV:MX w K "FORM_NUMBERS" SK
 MW:MX w K "ANSWERS" (Q7 (Ww K))
 h1:M4 K "NoProgram" "NoProgram" true
 h2:M4 K "NoFunction" "NoFunction" true
 h3:M4 K "NoValues" "NoValues" true
 h4:M4 K "NoNode" "NoNode" true
 h5:M4 K "OutOfRange" "OutOfRange" true
 Zw:M4 K "NoFunction" "NoProgram" false
 Zx:M4 K "NoValues" "NoProgram" false
 Zy:M4 K "NoValues" "NoFunction" false
 Zz:M4 K "NoNode" "NoProgram" false
 ZA:M4 K "NoNode" "NoFunction" false
 ZC:M4 K "NoNode" "NoValues" false
 ZD:M4 K "OutOfRange" "NoProgram" false
 ZE:M4 K "OutOfRange" "NoFunction" false
 ZF:M4 K "OutOfRange" "NoValues" false
 ZG:M4 K "OutOfRange" "NoNode" false
t! Wz{w:World}{K:%ag}{x:Str}{kvs:List (Key×V)}{d:Addr}{es:Array DictEntry}{ep:Nat}(a:%aw K mainGlobals x=some (some (.ref d)))(l:K.lookup d=some ⟨.type "dict",none,.dict es ep,#[]⟩)(y:(d == sysModules)=false)(e:JP w es.toList kvs):MX w K x kvs:=⟨_,_,_,a,l,y,e⟩
t! WA{K:%ag}{x:Str}{xs:List V}{tp:Addr}{dd:Option Addr}{its:Array Value}{n:Nat}{sl:Array cr!}(a:%aw K mainGlobals x=some (some (.ref tp)))(l:K.lookup tp=some ⟨.type "tuple",dd,.seq its n,sl⟩)(z:its.size<=100)(v:Vals xs its.toList):Wy K x xs:=⟨_,_,_,_,_,a,l,z,v⟩
t! Yr{K:%ag}{c d:Str}{b:Bool}{C D:Addr}(e1:%aw K mainGlobals c=some ct!)(e2:%aw K mainGlobals d=some (some (.ref D)))(q:%aI K (.ref C) (.ref D)=some b):M4 K c d b:=⟨_,_,e1,e2,q⟩
t! Q8{x:Str}{t:Tok}:RelV (V.str x) (.str x t):=⟨_,rfl⟩
t! WB{x:Int}{t:Tok}:RelV (V.int x) (.int x t):=⟨_,rfl⟩
t! AU{l:List (Key×V)}{ks:List Key}(e:l.map (·.1)=ks)(h:ks.Nodup):(l.map (·.1)).Nodup:=by rw[e];e! h
def WK:List Key:=["number","name","nil","cons","add","sub","if","case","let","call","tick","share"].map λx=>%aO (%ad x)
t! Ys:(["fun","nil","cons","add","sub","if","case","let","call","tick"].map λx=>V.str (%ad x))=Vaamoa.RESERVED.map λx=>V.str ap!:=by dk!
t! WC{P:Program}{w:World}{K:%ag}{h:Heap}{mg:Str->Option Value}(X:K.In h)(G:h.Ns mainGlobals mg)(k:KF P w K)(g:KG w K):Va P w K mg (Ww K) where
 T:=Yq X G k
 Cn:=⟨by rw[←Ys];e! g.RESERVED.at_ X G⟩
 Dc:=⟨g.Us.kd X G (AU rfl (by dk!))⟩
 Sg:=⟨g.PU.kd X G (AU (ks:=WK) rfl (by dk!))⟩
 Mc:=⟨g.Cu.kd X G (AU (ks:=WK) rfl (by dk!)),g.Yk.kd X G (AU (ks:=["cons","add","sub","if","let","call"].map λx=>%aO (%ad x)) rfl (by dk!))⟩
 Fn:=⟨g.xV.kd X G (AU rfl (by dk!))⟩
 An:=⟨g.MW.kd X G (AU (ks:=[0,1,2,3,4,5,6,7,8,9,10].map %cq) rfl (by dk!))⟩
 Ex:=⟨g.h1.at_,g.h2.at_,g.h3.at_,g.h4.at_,g.h5.at_,g.Zw.at_,g.Zx.at_,g.Zy.at_,g.Zz.at_,g.ZA.at_,g.ZC.at_,g.ZD.at_,g.ZE.at_,g.ZF.at_,g.ZG.at_⟩
t! all_mk{P:Program}{w:World}{K:%ag}{h:Heap}{mg:Str->Option Value}{fa:Addr}(X:K.In h)(G:h.Ns mainGlobals mg)(hfa:mg "answers"=some (.ref fa))(k:KF P w K)(g:KG w K) :
  ∃ fd:FuncData,(∀ (s:Shared) (us:List Value),us.length=(gb!:List Str).length->BindsTo s fd ⟨us,[]⟩ ((gb!:List Str).zip us))/\∀ base:Heap,K.In base->base.Ns mainGlobals mg->FB! 48 fa fd gb! (Vg (Ww K) K):=by
 ~Z:=WC X G k g;~e:=hfa.symm.trans (k.wH.cX X G);cases e;o!⟨f,oc,od,kV,doc,pm,an,cdv,ct,osl,e,l,c,kp⟩:=k.wH.ex;r! ⟨dW K (aU K "answers"),λs us hu=>?_,λbase _ _=>Qm Z⟩;rw[nE e,Qo l]
 match us,hu with
 | [_],_=>e! .of_eq rfl
end Pay
macro "kx":tactic=>`(tactic| (refine' Pay.Yr ?ka ?kb ?kc;(case ka=>k_is);(case kb=>k_is);(case kc=>kernel_rfl)))
macro "kent":tactic=>`(tactic| first | exact Pay.Q8 | exact Pay.WB | (refine' Pay.zb9 ?kr;(case kr=>k_is)))
macro "kd":tactic=>`(tactic| ((try dsimp only[Pay.dt,Pay.DN,Pay.Gj,Pay.Q7,Pay.Ww]);refine' Pay.Wz ?ka ?kl ?ky ?ke;(case ka=>k_is);(case kl=>k_is);(case ky=>e! rfl);(case ke=>(repeat' (first | exact Pay.JP.nil | refine' Pay.JP.cons (by e! rfl) (by first | exact rfl | dk!) (by kent) ?_)))))
macro "ktup":tactic=>`(tactic| (refine' Pay.WA ?ka ?kl ?kz ?kv;(case ka=>k_is);(case kl=>k_is);(case kz=>e! Nat.le_of_ble_eq_true rfl);(case kv=>repeat' (first | exact PySem.Paired.nil | refine' PySem.Paired.cons Pay.Q8 ?_))))
open PySem PySem.W PyProof.Rows
set_option maxHeartbeats 0
t! PySem.Challenge.cw_payinglists_s01_answers_holds:PySem.Challenge.rw_payinglists_s01_answers.Holds:=by
 w_on;k_headS;(case hw=>e! ⟨[.list [.int 1]],by dk!,by dk!⟩)
 k_fillS
 r! L2.OR (r:=PySem.Challenge.rw_payinglists_s01_answers) (k:=48) (CX:=L2.Yt) (ps:=gb!) (sp:=λK=>Pay.Vg (Pay.Ww K) K) (by dk!) rfl rfl ⟨rfl,by decide,by decide⟩ (λw h Y=>PySem.W.kIn_of Y) ?F ?S (λ_ _ _ _ z=>z)
 case F =>
  intro w mg fa h Y KX G hmg
  refine' Pay.all_mk KX G hmg ?kf ?kg
  case kf =>
   apply Pay.KF.mk
   all_goals first | kt | km | kc | kn | ke | ki | ks | kz
  case kg =>
   apply Pay.KG.mk
   all_goals first | ktup | kd | kx
 case S =>
  intro K H xs a hO hwi hask hx;cases hx with
  | cons h1 h2 =>
   cases h2;cases h1 with
   | lst hs ha =>
    ~e:=L2.QD a.1 _ ha;subst e;e! ⟨_,a.1,rfl,hs,hask,λH' l hl=>.lst (L2.aX.of hl) (L2.QC _)⟩
