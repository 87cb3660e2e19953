import PyProof.Rows.All
import KE.KDictOf
import KE.KDictSum
import KE.KEqDict
import KE.KFromBytes
import KE.KIsAll
import KE.KRevSl
import KE.KSortTup
import KE.KUnpack
import PySem.Challenge.RW_braemantle_k37_gaps
set_option Elab.async false
set_option linter.all false
set_option maxRecDepth 100000
set_option maxHeartbeats 0
set_option hygiene false
set_option bootstrap.genMatcherCode false
set_option genSizeOf false
set_option genSizeOfSpec false
set_option compiler.extract_closed false
set_option backward.eqns.nonrecursive false
abbrev r_0(p q:Prop):Prop:=p->q
abbrev KA(a:Prop)(r:Prop->Prop)(q:Prop):Prop:=a->r q
abbrev KE{α:Sort _}(r:α->Prop->Prop)(q:Prop):Prop:=∀x,r x q
class Cur(n:Nat)(p:Prop)(r:outParam (Prop->Prop)):Prop where c:∀{q:Prop},r q->p->q
instance{p:Prop}:Cur 0 p (r_0 p):=⟨id⟩
instance{n:Nat}{a b:Prop}{r:Prop->Prop}[i:Cur n b r]:Cur (n+1) (a∧b) (KA a r):=⟨fun f h=>i.c (f h.1) h.2⟩
instance{n:Nat}{α:Sort _}{p:α->Prop}{r:α->Prop->Prop}[i:∀x,Cur n (p x) (r x)]:Cur (n+1) (∃x,p x) (KE r):=⟨fun f ⟨x,h⟩=>(i x).c (f x) h⟩
open Lean in
def r_p:Nat->Syntax->MacroM (TSyntax `rcasesPat)
 |0,_=>Macro.throwUnsupported
 |n+1,x=>do
  if x.isOfKind `Lean.Parser.Term.anonymousCtor then
   let q<-x[1].getSepArgs.mapM fun y=>do let z<-r_p n y;`(Parser.Tactic.rcasesPatLo|$z:rcasesPat)
   `(rcasesPat|⟨$q,*⟩)
  else if x.isIdent then `(rcasesPat|$(⟨x⟩):ident) else if x.isOfKind `Lean.Parser.Term.hole then `(rcasesPat|_) else Macro.throwUnsupported
open Lean in
local macro_rules|`(tactic|let $p:term:=$e)=>do
 if p.raw.isIdent then Macro.throwUnsupported
 let q<-r_p 9 p;`(tactic|obtain $q:rcasesPat:=$e)
open Lean in
def r_k(q:Syntax):Option (NumLit×Array (TSyntax `rintroPat)):=
 let a:=q[1].getSepArgs
 if q.isOfKind `Lean.Parser.Tactic.rcasesPat.tuple&&a.size>1&&a.all (fun x=>x[0][0].getArgs.size==1&&x[1].getArgs.isEmpty) then some (Syntax.mkNumLit (toString (a.size-1)),a.map fun x=>⟨mkNode `Lean.Parser.Tactic.rintroPat.one #[x[0][0][0]]⟩) else none
open Lean in
local macro_rules|`(tactic|rintro $ps*)=>do
 let o<-ps.mapM fun p=>do
  let q:=p.raw[0]
  if q.isOfKind `Lean.Parser.Tactic.rcasesPat.one&&q[0].getId != `rfl then return <-`(tactic|intro $(⟨q[0]⟩):ident)
  let r<-`(tactic|(intro h_;rcases h_ with $(⟨q⟩):rcasesPat))
  match r_k q with
  |some (n,k)=>`(tactic|first|(refine Cur.c (n:=$n) ?_;rintro $k*)|$r:tactic)
  |none=>if p.raw.isOfKind `Lean.Parser.Tactic.rintroPat.one then return r else Macro.throwUnsupported
 `(tactic|($[$o];*))
open Lean in
local macro_rules|`(tactic|obtain $q:rcasesPatMed:=$e:term)=>do
 let q:=q.raw[0][0]
 let r<-`(tactic|rcases $e:term with $(⟨q⟩):rcasesPat)
 match r_k q with
 |some (n,k)=>do
  let c<-if e.raw.isIdent then `(tactic|clear $(⟨e⟩):ident) else `(tactic|skip)
  `(tactic|first|(refine Cur.c (n:=$n) ?_ $e;$c:tactic;rintro $k*)|$r:tactic)
 |none=>return r
local macro_rules|`(tactic|simp! [$xs,*] $[$l:location]?)=>`(tactic|simp only [$xs,*] $[$l]?)
local macro_rules | `(tactic| simp? [$xs,*] $[$l:location]?) => do
  let a ← ("nZ xZ aam nT bh_t bh_f gH aa5 adj ac4 oc_n oc_s ue uC vN xr wq vH KV_a k_E k_Es KB_a acO ada uk t6 wI abA ob_k vh wu abb aaz xD wL vO wO ace acV k_or ac6 yU acy xl aa4 yZ acJ xR acY aaQ xH aad aaA xM acT y4 zv yi acs uX yT ade uJ aaf xx abQ aal aaF yK yE xq yd zp aaS wX aaT yc acW zZ aaH z5 abF zE zV aaZ acX abo k_bi xS ab1 Ko_a vM abE abY ab4 aa3 wV adp yG y7 yy wb zo vk acn vB xw vE za wY tU vw zl wZ yQ abr yD vZ yr x8 ug vS uW xg ze zd adf aae xX yj aaq aap zf zw xp acN yh ab5 aa2 yg xO zi aar z9 wz y6 aaB acd zF ab6 acf aa8 aba abt adg xW aaY yo yP xQ yb x9 zt yv wN x3 wU yY zD wW zc xa acF abp abP abC acE ac7 yJ acL acZ adh tN acA q_or ab9 abT abl acB abu aas abf zm w8 q_bi acG abv acq abB xK zj zC acU y3 aay acz ack abR ac9 aci abO abx aa9 ab7 uD".splitOn " ").toArray.mapM λs => `(Lean.Parser.Tactic.simpLemma| ↓$(Lean.mkIdent s.toName):ident)
  let b ← ("perm pick A4 Option.bind_some Cd BX Bu CW List.lookup_cons List.lookup_nil Nat.reduceBEq List.contains_cons List.contains_nil Hy List.getElem?_nil List.getElem?_cons_zero List.getElem?_cons_succ List.length_cons List.length_nil List.set_cons_zero List.set_cons_succ List.map_cons List.map_nil List.replicate_succ List.replicate_zero List.cons_append List.nil_append Nat.zero_add Nat.reduceAdd Nat.reduceSub Nat.reduceLT Nat.reduceLeDiff Nat.reduceEqDiff Nat.lt_add_left_iff_pos JV Ai bindL if_true if_false ite_true ite_false and_true true_and Option.getD_some iy il aa0 vV wJ vp acx abq abL acw xt sy acS cisN ac3 cin cnin ab8 vU Bool.or_false Bool.or_true Bool.true_or Bool.false_or clt cle cgt cge JF JM items CV CP JS AG lift JR D0 Ga C3 alloc AO j4 Ac ac8 abe aa7 abH acb ac2 AV Du Option.map_some Int.reduceLT Int.reduceLE Int.reduceNeg Int.reduceEq decide_true decide_false Bool.not_true Bool.not_false Bool.and_true Bool.true_and Bool.and_self decide_eq_true_eq eq_self perm pick".splitOn " ").toArray.mapM λs => `(Lean.Parser.Tactic.simpLemma| $(Lean.mkIdent s.toName):ident)
  let a := a ++ b
  `(tactic| simp only [$[$a:simpLemma],*, $xs,*] $[$l]?)
local macro_rules|`(tactic|simp? only [$x:ident])=>`(tactic|(refine ag (by rfl) (by rfl) ?_;simp only [$x:ident]))|`(tactic|simp?)=>`(tactic|simp? [eq_self])
open Lean in
local macro_rules|`($m:declModifiers def $i:declId $s:optDeclSig $v:declVal)=>do
 unless m.raw.getArgs.all (·.isNone) do Macro.throwUnsupported
 let r<-(if (match i.raw[0].getId with|.str _ n=>(n.toList.headD 'A').isLower&&!("dig place kwOk isStar strKeys ownOf freeOf setB mkF endsF lastOf fns ms loose upd frs gNil rNe start sIx ixN atI rPop putK items intsOf keyOf dput dfold neT hkL best insI sortI tupI next bindL pick perm subAt rIxD post tyName allFrom holds wp wpS hk ob plainT tupP small stride ltP dT mid l1".splitOn ).contains n|_=>false) then let z:TSyntax `Lean.Parser.Command.declSig:=⟨mkNode `Lean.Parser.Command.declSig #[s.raw[0],s.raw[1][0]]⟩;`(command|theorem $i:declId $z:declSig $v:declVal) else `(command|noncomputable def $i:declId $s:optDeclSig $v:declVal));return r.raw.rewriteBottomUp (·.setInfo .none)
open Lean in
local macro_rules|`($m:declModifiers abbrev $i:declId $s:optDeclSig $v:declVal)=>do
 unless m.raw.getArgs.all (·.isNone) do Macro.throwUnsupported
 `(command|noncomputable abbrev $i:declId $s:optDeclSig $v:declVal)
open Lean in
local macro_rules|`(fun $xs* => $b)=>do
 let rec h:Nat->Syntax->Bool
  |0,_=>true
  |n+1,x=>x.isOfKind `Lean.Parser.Term.syntheticHole||x.getArgs.any (h n)
 if xs.all (!·.raw.isOfKind `Lean.Parser.Term.anonymousCtor)||h 99 b then Macro.throwUnsupported
 let q<-xs.mapM fun x=>do let z<-r_p 9 x;`(rintroPat|$z:rcasesPat)
 `(by rintro $q*;exact $b)
open Lean in
local macro_rules|`(#[$n:num])=>match n.getNat with|0=>`(PySem.Challenge.rw_braemantle_k37_gaps.prog.main.body)|1=>`(by decide)|2=>`(by rfl)|3=>`(by simp)|_=>Macro.throwUnsupported
local macro_rules|`(())=>`(by omega)
def b_F{P:Prop}(h:false=true):P:=absurd h Bool.false_ne_true
def n_F{α:Type}{a:α}{P:Prop}(h:(none:Option α)=some a):P:=nomatch h
local macro_rules|`(tactic|cases $h:ident)=>`(tactic|first|exact n_F $h|exact b_F $h|cases ($h))
def ZC:=@Bool.and_eq_true
def Yh:=@List.getElem?_eq_some_iff
def YK:=@List.length_map
def YU:=@Option.map_eq_some_iff
def Y7:=@Iff.rfl
def Xa:=@Option.some.injEq
def Xk:=@List.map_cons
def Xn:=@decide_eq_true_eq
def Xq:=@List.length_append
def Xy:=@if_neg
def Xz:=@List.append_assoc
def XN:=@if_pos
def X8:=@List.length_cons
def X9:=@List.getElem?_set_ne
def Wc:=@List.mem_cons
def Wd:=@List.getElem?_map
def Wj:=@List.all_eq_true
def Wl:=@List.size_toArray
def Wt:=@List.getElem?_append_left
def WB:=@List.getElem?_append_right
def WC:=@Bool.not_eq_true'
def WH:=@List.lookup_cons
def WN:=@Bool.false_eq_true
def WQ:=@beq_iff_eq
def WS:=@List.mem_cons_self
def WY:=@Option.some.inj
def W5:=@List.mem_of_getElem?
def W6:=@Option.bind_eq_some_iff
def W8:=@List.contains_iff_mem
def Va:=@List.any_cons
def Vj:=@List.getElem?_eq_getElem
def Vk:=@List.filterMap_cons
def Vq:=@List.length_nil
def Vv:=@Option.map_some
def VE:=@PySem.Heap.get?_update_other
def VF:=@Bool.or_eq_false_iff
def VR:=@List.mem_map
def VW:=@List.mem_append_right
def V6:=@PySem.wpAny_mono
def Ud:=@List.find?_cons
def Uj:=@Array.length_toList
def Uu:=@PySem.mem_of_lookup
def UE:=@List.getElem?_set_self
def UK:=@List.take_of_length_le
def UL:=@Nat.le_succ
def UN:=@List.mem_iff_getElem?
def US:=@PySem.wpAny_holding
def UU:=@PySem.wpAny_newObj_type
def U3:=@if_false
def U8:=@List.getElem?_eq_none_iff
def Tc:=@List.append_nil
def Td:=@List.foldl_cons
def Te:=@List.take_succ
def Ti:=@if_true
def Tp:=@PySem.wpAny_standAt
def Tt:=@List.mem_flatMap
def Tz:=@PySem.sizeLine_eq
def TH:=@Bool.or_eq_true
def TK:=@List.length_take
def TL:=@beq_eq_false_iff_ne
def TX:=@List.flatMap_cons
def T1:=@PySem.Heap.get?_update_self
def T3:=@Option.isSome_iff_exists
def T4:=@List.mem_append_left
def T6:=@List.not_mem_nil
def T7:=@Nat.lt_irrefl
def T8:=@Array.getElem?_eq_some_iff
def T9:=@List.map_map
def Sa:=@decide_eq_false
def Sb:=@congrArg
def Sd:=@List.length_replicate
def Se:=@List.isEmpty_iff
def Sf:=@Nat.zero_add
def Si:=@PySem.wpAny_typeNameOfWhole_keyiter
def Sj:=@PySem.wpAny_truthy_bool
def Sr:=@List.getElem?_replicate
def SD:=@List.nodup_cons
def SE:=@PySem.F.slot_dict_keyiterator_next
def SF:=@List.map_append
def SG:=@PyProof.Rows.callWith_type1
def SH:=@Nat.lt_succ_self
def SN:=@List.mem_filterMap
def SX:=@PySem.Obj.data_mapFields
def S1:=@PySem.wpAny_passesOwn
def S8:=@PySem.Heap.get?_none_of_le
def Ra:=@PySem.wpAny_dictEntries
def Rb:=@PySem.wpAny_typeNameOf_keyiter
def Rc:=@PySem.mem_of_lookup
def Rf:=@PySem.plainObj_wpAny_Assign_Attribute
def Rg:=@List.length_reverse
def Rh:=@List.flatMap_append
def Ri:=@beq_self_eq_true
def Rj:=@List.cons_append
def Rk:=@List.take_length
def Rl:=@Option.bind_some
def Rm:=@Nat.ne_of_gt
def Rn:=@PySem.codeAny_mono
def Ro:=@PySem.wpAny_Call_Name_kw
def Rp:=@PySem.W.cellsFrom_some
def Rq:=@PySem.tupleKind_room_in1
def Rr:=@List.zip_cons_cons
def Rt:=@List.mem_append
def Ru:=@PySem.W.kia_one
def Rv:=@PySem.Obj.isFreed_of_fields
def Rw:=@List.reverse_cons
def Rx:=@PySem.wpAny_loadPart_at
def Ry:=@PySem.Heap.size_push
def Rz:=@PySem.Calls.evalArgs_plain
def RA:=@List.foldl_nil
def RB:=@Nat.mul_le_mul_right
def RE:=@Int.le_refl
def RG:=@List.length_take_le'
def RJ:=@List.map_nil
def RL:=@List.isEmpty_nil
def RM:=@List.getElem_mem
def RN:=@Option.isNone_iff_eq_none
def RP:=@List.drop_eq_getElem_cons
def RQ:=@PySem.Paired.length
def RU:=@List.all_cons
def RW:=@PySem.wpAny_comprehension_free
def RX:=@Bool.eq_iff_iff
def RY:=@List.forIn_cons
def RZ:=@PySem.wpAny_field
def R0:=@PySem.wpAny_callSpecial?_slot
def R1:=@decide_eq_false_iff_not
def R3:=@List.getElem?_cons_succ
def R5:=@List.findIdx?_eq_some_iff_getElem
def R6:=@PySem.Calls.callWith_builtin
def R7:=@PySem.wpAny_setField
def R8:=@List.filter_eq_nil_iff
def R9:=@List.pairwise_map
def R_:=@Option.map_eq_none_iff
def Qa:=@List.drop_eq_nil_of_le
def Qb:=@PyProof.Rows.slot_tuple_getitem
def Qc:=@Array.getElem?_toList
def Qd:=@PySem.F.slot_dict_get
def Qe:=@List.length_filter_le
def Qf:=@PySem.wpAny_call
def Qg:=@List.length_drop
def Qh:=@PySem.wpAny_call_entry
def Qi:=@Option.getD_none
def Qj:=@PySem.F.args_dict_keyiterator_next_1
def Qk:=@Bool.not_eq_true
def Ql:=@List.mem_reverse
def Qm:=@Bool.true_and
def Qn:=@Array.mem_toList_iff
def Qo:=@PySem.F.entry_dict_keyiterator_next
def Qp:=@Option.ite_none_right_eq_some
def Qq:=@or_false
def Qr:=@PySem.codeAny_call_builtin
def Qs:=@List.of_mem_zip
def Qt:=@List.nil_append
def Qu:=@PySem.W.plainGet_of
def Qv:=@PySem.Heap.SameBut.update
def Qw:=@List.mem_map_of_mem
def Qx:=@List.map_congr_left
def Qy:=@Nat.le_of_eq
def Qz:=@Int.le_trans
def QA:=@List.mem_range
def QC:=@PySem.Calls.Name_function_global
def QD:=@PyProof.Rows.assignInOrder_cons
def QE:=@PySem.wpAny_loadPart
def QG:=@PySem.Calls.spliced_cons
def QH:=@List.contains_cons
def QJ:=@List.drop_zero
def QK:=@List.pairwise_cons
def QM:=@PySem.Code.quiet_builtin
def QN:=@Int.emod_lt_of_pos
def QP:=@List.isEmpty_eq_false_iff
def QQ:=@Sum.inr.inj
def QR:=@PySem.Within.cons
def QS:=@Nat.zero_le
def QT:=@Option.isSome_map
def QU:=@Nat.le_of_succ_le
def QV:=@Nat.lt_succ_of_lt
def QW:=@List.nodup_append
def QX:=@PySem.wpAny_attempt
def QY:=@Bool.not_true
def QZ:=@Prod.mk.injEq
def Q0:=@List.take_add
def Q1:=@PySem.wpAny_lookBehind
def Q3:=@PySem.pastItsLine_dict
def Q4:=@PySem.F.args_dict_get_3
def Q5:=@List.length_eq_zero_iff
def Q6:=@PySem.F.plainAttrs_list
def Q7:=@List.any_eq_true
def Q8:=@Int.eq_ofNat_of_zero_le
def Q9:=@Nat.le_of_lt
def Q_:=@PySem.F.entry_dict_get
def Pa:=@List.range_succ_eq_map
def Pb:=@PySem.W.looks_findIn
def Pc:=@Nat.add_comm
def Pd:=@Nat.gcd_comm
def Pe:=@List.mem_filter
def Pf:=@PySem.wpAny_execs_nil
def Pg:=@List.length_set
def Ph:=@PySem.SeqAt.EqAt.same
def Pj:=@PySem.wpAny_dictEpoch
def Pk:=@PySem.wpAny_specialOf
def Pl:=@Int.le_antisymm
def Pm:=@Int.emod_nonneg
def Pn:=@Bool.false_and
def Po:=@List.forIn_nil
def Pp:=@Nat.lt_trans
def Pq:=@Nat.sub_zero
def Pu:=@Nat.succ_mul
def Pw:=@List.any_map
def Px:=@eq_self
def HM:=@PySem.Heap.get?_push_of_some
def HN:=@PySem.Heap.lt_size
def HP:=@Nat.le_trans
def HQ:=@Bool.false_ne_true
def HR:=@Nat.le_refl
def HS:=@List.mem_cons_of_mem
def HU:=@Nat.lt_of_lt_of_le
def HV:=@Nat.ne_of_lt
def HW:=@PySem.Heap.get?_push_size
def HX:=@of_decide_eq_true
abbrev HY:=PySem.W.Frag
def ZB:=@PySem.wpAny_bind
def ZP:=@PySem.wpAny_pure
set_option bootstrap.genMatcherCode false
variable{K:HY}{ρ ZU ch fp:List PySem.Addr}{x name:PySem.Str}{a fI ea:PySem.Addr}{b:Bool}{P prog:PySem.Program}{w:PySem.World}{h h' base:PySem.Heap}{α β:Type}{e tg iter:PySem.Expr}{Z:List (PySem.Addr×PySem.Obj)}{s s':PySem.Shared}{t' i j n m d ep fu hN gN:Nat}{N ps ks:List PySem.Str}{Z9:PySem.Model}{A:PySem.Around}{pos p apos p2 Zt:PySem.Pos}{ZV gens:List PySem.Comprehension}{D:List (List Int×PySem.Addr)}{f:PySem.Value->PySem.Value->PySem.Sem PySem.Value}{st:PyProof.Rows.SortSt}{es elts ts:List PySem.Expr}{pl:PySem.Sem Bool}{body:List PySem.Stmt}{κ:PyProof.Rows.SortKind}{ZY bm YD sub:List PySem.Value}{dx:Option PySem.Addr}{ns:List Int}{kw dd:List (PySem.Str×PySem.Value)}{env:PySem.Env}{mg:PySem.Str->Option PySem.Value}{outer:List PySem.Env}{fd:PySem.FuncData}{kws:List PySem.Keyword}{sc scope:PySem.Scope}{keys:List (Option PySem.Expr)}{a₀:Array PyProof.Rows.Keyed}{rk:PyProof.Rows.Keyed->Nat}{as:List (PySem.Str×Bool)}{gc:PySem.Comprehension}{cells cl:List (PySem.Str×PySem.Addr)}{names:List (PySem.Str×PySem.NameKind)}{Zo:List Nat}{oe:PySem.Obj}{col:Option Bool}{newId:String}{E':PySem.Value->PySem.Shared->Prop}{rs:List (Option (PySem.Scope×List PySem.Stmt))}
namespace Att
end Att
namespace HT
end HT
namespace L2
end L2
namespace ZI
end ZI
namespace PI
end PI
namespace PI
noncomputable section
open PySem
noncomputable section
inductive U where
 |ZR|bl (b:Bool)|int (i:Int)|str (s:Str)|Z1 (xs:List U)|Zs (xs:List U)|ref (n:Nat)|xn (c:Nat) (fs:List U)
inductive Op where|add|sub|mul|fdiv|mod|pow
inductive Cp where|eq|ne|lt|le|gt|ge|Ws|VQ|Ve|X4
inductive Bi where|len|abs|list|mn|mx|Xg|sum|TV|cat|sset|dct|rpr|int
set_option genInjectivity false in
inductive Ty where|VP|VO|UJ|UI|UH|own (c:Nat)
set_option genInjectivity false in
inductive Tg where|nm (i:Nat)|tp (is:List Nat)
set_option genInjectivity false in
inductive E where
 |L (i:Nat)|Z3 (u:U)
 |ZZ (op:Op) (a b:E)|cmp (op:Cp) (a b:E)|chain (op YO:Cp) (a b c:E)
 |and (a b:E)|or (a b:E)|not (a:E)|neg (a:E)
 |Z1 (es:List E)|S (es:List E)
 |idx (a b:E)|WM (a:E) (lo hi:Option E)|rev (a:E)
 |call (f:Nat) (es:List E)
 |fld (a:E) (j:Nat) (cs:List Nat)|make (c f:Nat) (es ks:List E) (pm:List (Nat ⊕ U))|YT (a:E) (j:Nat) (tb:List (Nat×Nat×List (Nat ⊕ U))) (es ks:List E)
 |bi (b:Bi) (es:List E)
 |YC (a:E) (t:Ty)
 |app (o v:E)|ext (o v:E)|pop (o:E)
 |YV (a:E)|Xw (a b:E)|YN (a:E)|W4
 |comp (own:Nat) (fr:List Nat) (gs:List (Tg×E×List E)) (elt:E)
 |VN (ks:List Str) (es:List E)|V_ (o k x:E)|pair (k v:E)|Wr (own:Nat) (fr:List Nat) (gs:List (Tg×E×List E)) (k v:E)
set_option genInjectivity false in
inductive Z5 where
 |ret (e:E)|set (t:Tg) (e:E)|par (i j:Nat) (a b:E)
 |sub (o i e:E)
 |exp (e:E)|Zz (c:E) (a b:List Z5)|V9 (c:E) (b:List Z5)|for (t:Tg) (it:E) (b:List Z5)
 |never|fset (a:E) (j:Nat) (cs:List Nat) (e:E)
 |Zx (b:List Z5)|Wq (c:E) (a b:List Z5)|UG (t:Tg) (it:E) (b:List Z5)|raise (c:Nat) (es:List E)|Vd (b:List Z5) (j:Nat) (hs:List (Nat×Nat×List (Nat ⊕ U)))
structure Fn where
 np:Nat
 ns:Nat
 body:List Z5
end
open PySem PySem.Spec PyProof.Rows L2
section
variable{Vc:List Addr}{H H' X_:Hp}{g:G}
def dig:Nat->Nat->List Nat
 |0,_=>[]
 |f+1,n=>if n=0 then[]else n % 128::dig f (n / 128)
def Bp:Nat:=128 ^ 64
def Au(n:Nat):Str:=⟨(dig 64 n).toArray⟩
end
open PySem PySem.Spec PyProof.Rows L2 PySem.W
def Cs(names:List Str):List Str->Bool
 |[]=>true
 |k::r=>!names.contains k&&Cs (names++[k]) r
def place{a:Type}(ns b kw:List Str)(dd:List (Str×a))(J ws:List a):List a:=(ns++b).filterMap λn=>(ns.zip J++(kw.zip ws++dd)).lookup n
set_option genInjectivity false in
structure KF where
 ns:List Str
 ks:List Str
 dd:List (Str×U)
def BN(F:KF)(a:Nat)(kw:List Str):List (Nat ⊕ U):=place F.ns F.ks kw (F.dd.map λp=>(p.1,.inr p.2)) ((List.range' 0 a).map .inl) ((List.range' a kw.length).map .inl)
def BW(F:KF)(b a:Nat)(kw:List Str):Bool:=decide (a<=F.ns.length)&&kw.all (λk=>F.ns.contains k||F.ks.contains k)&&Cs (F.ns.take a) kw&&(F.ns.take (F.ns.length-b)).all λn=>(F.ns.take a++kw).contains n
def AJ(kws:List Keyword):List Str:=kws.filterMap (·.arg)
def kwOk(kws:List Keyword):Bool:=kws.all (·.arg.isSome)
open PySem PySem.Spec PyProof.Rows L2
set_option genInjectivity false in
structure Tab where
 M:List Str
 cs:List (Str×U)
 bt:List Str
 kf:List (Str×Nat×KF×Nat)
 cl:List (Str×Nat×Nat×KF×Nat)
 mt:List (Str×List (Nat×Nat×KF×Nat))
 fl:List (Str×List Nat)
 ow:List (Str×Nat)
 oq:List Str
 fs:List Str
 xc:List (Str×List Str×List (Str×Bool))
 fx:List Nat
def AU(N:List Str)(x:Str):Option Nat:=N.findIdx? (· == x)
def EE:Operator->Option Op
 |.Add=>some .add|.Sub=>some .sub|.Mult=>some .mul|.FloorDiv=>some .fdiv|.Mod=>some .mod|.Pow=>some .pow|_=>none
def CU:CmpOp->Option Cp
 |.Eq=>some .eq|.NotEq=>some .ne|.Lt=>some .lt|.LtE=>some .le|.Gt=>some .gt|.GtE=>some .ge|.Is=>some .Ws|.IsNot=>some .VQ|.In=>some .Ve|.NotIn=>some .X4
def isStar:Expr->Bool
 |.Starred ..=>true
 |_=>false
def Dc:Expr->Bool
 |.Set ..=>true
 |_=>false
def BV:Expr->Bool
 |.ListComp ..=>true|.SetComp ..=>true|.DictComp ..=>true|_=>false
def strKeys:List (Option Expr)->Option (List Str)
 |[]=>some []
 |some (.Constant (.str s) _ _)::r=>(strKeys r).map (s :: ·)
 |_=>none
def B4:Expr->Bool
 |.Call _ es _ _=>es.isEmpty
 |_=>false
def Cu:Expr->Bool
 |.Tuple ..=>true|_=>false
def Ck:Expr->Bool
 |.Slice ..=>true|_=>false
def Dw(x:Str):Option Ty:=if x = "int" then some .VP else if x = "bool" then some .VO else if x = "str" then some .UJ else if x = "tuple" then some .UI else if x = "list" then some .UH else none
def A8(x:Str):Bool:=!(x==("__debug__" : Str))&&!(x==("__classdict__" : Str))&&!(x==("__name__" : Str))
def Ab{b:Type}:List (Option b)->Option (List b)
 |[]=>some []
 |none::_=>none
 |some a::r=>(Ab r).map (a :: ·)
def C4:E->Bool
 |.YV _=>false|.Xw _ _=>false|.YN _=>false|_=>true
def BZ(b:Bool)(a:Scope)(x:Str):Bool:=a.names.lookup x==some .local||(b&&a.names.lookup x==some .cell)
def Br(b:Bool)(a:Scope)(N:List Str)(x:Str):Option Nat:=if BZ b a x then AU N x else none
def B6(b:Bool)(a:Scope)(N:List Str)(e:Expr):Option Nat:=match e with
 |.Name x _=>Br b a N x
 |_=>none
def Bg(b:Bool)(a:Scope)(N:List Str):Expr->Option Tg
 |.Name x _=>(Br b a N x).map .nm
 |.Tuple ts _ _=>(Ab (ts.map (B6 b a N))).map .tp
 |_=>none
def HZ{a:Type}(c:Bool)(x:Option a):Option a:=match c with
 |true=>x
 |false=>none
def H8(e:Expr):Option Str:=match e with
 |.Name x _=>some x
 |_=>none
def B5(e:Expr):Option (Str×List Expr):=match e with
 |.Call f es kws _=>match kws with
  |[]=>(H8 f).map λn=>(n,es)
  |_::_=>none
 |_=>none
def C0(c:Expr->Option E)(k:E->E)(b:List Expr):Option E:=match b with
 |[]=>none
 |a::b=>match b with
  |[]=>(c a).map k
  |_::_=>none
def Dz(d:Expr->Option E)(k:E->E->E)(c:List Expr):Option E:=match c with
 |[]=>none
 |a::c=>match c with
  |[]=>none
  |b::c=>match c with
   |[]=>(d a).bind λa'=>(d b).map (k a')
   |_::_=>none
def AW{a:Type}(l:List a):Bool:=match l with
 |[]=>true
 |_::_=>false
def Hw(f:Expr->Option E)(a:List Expr):Option E:=match a with
 |[]=>none
 |_::r=>match AW r with
  |true=>C0 f .YV a
  |false=>Dz f .Xw a
def H9(f:Expr->Option E)(e:Expr):Option E:=HZ (!Dc e) ((f e).bind λe'=>HZ (C4 e') (some e'))
def Dm(T:Tab)(a:Scope)(f:Expr->Option E)(e:Expr):Option E:=match B5 e with
 |some c=>if c.1 = "range" then HZ (T.bt.contains c.1&&(a.names.lookup c.1==some .globalImplicit)&&!c.2.any isStar) (Hw f c.2)else H9 f e
 |none=>H9 f e
def B8(T:Tab)(a:Scope)(f:Expr->Option E)(b e:Expr):Option E:=match B5 e with
 |some c=>if c.1 = "enumerate" then HZ (T.bt.contains c.1&&(a.names.lookup c.1==some .globalImplicit)&&!c.2.any isStar&&Cu b) (C0 f .YN c.2)else Dm T a f e
 |none=>Dm T a f e
def Bm(scope a:Scope):Scope:={scope with names:=scope.names.map λ(n,k)=>if(k==.free&&a.kind==.function&&a.names.lookup n==some .cell)then(n,.cell)else(n,k)}
def Hc:Expr->List Str
 |.Name x _=>[x]
 |.Tuple ts _ _=>ts.filterMap fun|.Name x _=>some x|_=>none
 |_=>[]
def ownOf(gs:List Comprehension):List Str:=(gs.map λg=>Hc g.target).flatten
def freeOf(scope:Scope):List Str:=(scope.names.filter λx=>x.2==.free).map (·.1)
def DM(scope a:Scope)(own fr:List Str):Bool:=
 (scope.kind==.function)&&(scope.names.all λx=>x.2 != .local||scope.names.lookup x.1==some .local)&&(scope.names.all λx=>x.2 != .cell||scope.names.lookup x.1==some .cell)&&(scope.names.all λx=>x.2 != .free||a.names.lookup x.1==some .cell)
  && (own.all λx=>scope.names.lookup x==some .local||scope.names.lookup x==some .cell)&&decide ((own++fr).Nodup)&&(fr.all λx=>scope.names.lookup x==some .free)
def DX(T:Tab)(a:Scope)(N:List Str)(f:Expr->Option E):List Comprehension->Option (List (Tg×E×List E))
 |[]=>some []
 |g::r=>HZ (g.is_async==0) ((Bg false a N g.target).bind λt=>(B8 T a f g.target g.iter).bind λit=>(Ab (g.ifs.map f)).bind λcs=>(DX T a N f r).map λr'=>(t,it,cs)::r')
def Bk(f:Str):Nat:=f.cps.toList.foldr (λd n=>d+128*n) 0
def BU(f:Str):Bool:=decide (Au (Bk f)=f)&&decide (Bk f<Bp)
def CH(T:Tab)(c:Scope)(b:Expr->Option E)(f:Str)(a:List Expr)(kws:List Keyword):Option E:=HZ (A8 f&&!a.any isStar&&(c.names.lookup f==some .globalImplicit)&&kwOk kws)
  ((Ab (a.map b)).bind λZL=>(Ab (kws.map λk=>b k.value)).bind λYA=>match T.kf.lookup f with
   |some _=>none
   |none=>(T.cl.lookup f).bind λq=>HZ (BW q.2.2.1 q.2.2.2 (a.length+1) (AJ kws)) (some (.make q.1 q.2.1 ZL YA (BN q.2.2.1 (a.length+1) (AJ kws)))))
def Dj(T:Tab)(b:Expr->Option E)(o':E)(m:Str)(d c:Pos)(a:List Expr)(kws:List Keyword):Option E:=HZ (BU m&&!a.any isStar&&kwOk kws&&decide (a.length+kws.length+1<30)&&(d.endLine==c.line))
  ((Ab (a.map b)).bind λZL=>(Ab (kws.map λk=>b k.value)).bind λYA=>(T.mt.lookup m).bind λl =>
   HZ (l.all (λe=>BW e.2.2.1 e.2.2.2 (a.length+1) (AJ kws))) (some (.YT o' (Bk m) (l.map λe=>(e.1,e.2.1,BN e.2.2.1 (a.length+1) (AJ kws))) ZL YA)))
def Gi(f:Str)(n:Nat)(a:Str->Option Bi):Option Bi:=
 a f
def Ia(f:Str):Option Bi:=
 if f = "len" then some .len else
 if f = "abs" then some .abs else
 if f = "list" then some .list else
 if f = "min" then some .mn else
 if f = "max" then some .mx else
 if f = "sorted" then some .Xg else
 if f = "sum" then some .sum else
 if f = "tuple" then some .TV else
 if f = "dict" then some .dct else
 none
def FY(T:Tab)(a:Scope)(N:List Str)(x:Str):Option E:=HZ (A8 x) ((a.names.lookup x).bind λk=>match k with
 |.local=>(AU N x).map .L
 |.cell=>(AU N x).map .L
 |.free=>(AU N x).map .L
 |.globalImplicit=>(T.cs.lookup x).map .Z3
 |_=>none)
def GK(v:Const):Option E:=match v with
 |.int i=>some (.Z3 (.int i))
 |.bool b=>some (.Z3 (.bl b))
 |.none=>some (.Z3 .ZR)
 |.str s=>some (.Z3 (.str s))
 |_=>none
section
variable(T:Tab)(sc:Scope)(ce:Expr->Option E)
def Ib(o:Operator)(a b:Expr):Option E:=(EE o).bind λo'=>(ce a).bind λa'=>(ce b).map (.ZZ o' a')
def F6(a:Expr)(o:CmpOp)(b:Expr):Option E:=HZ (!Dc b) ((CU o).bind λo'=>(ce a).bind λa'=>(ce b).map (.cmp o' a'))
def FV(a:Expr)(o q:CmpOp)(b c:Expr):Option E:=HZ (!Dc c) ((CU o).bind λo'=>(CU q).bind λd=>(ce a).bind λa'=>(ce b).bind λb'=>(ce c).map (.chain o' d a' b'))
def Gx(a:Expr)(d:List CmpOp)(bs:List Expr):Option E:=match d with
 |[]=>none
 |o::d=>match bs with
  |[]=>none
  |b::bs=>match d with
   |[]=>HZ (AW bs) (F6 ce a o b)
   |q::d=>match bs with
    |[]=>none
    |c::bs=>HZ (AW d&&AW bs) (FV ce a o q b c)
def Gv(o:BoolOp)(c:List Expr)(pos:Pos):Option E:=match c with
 |[]=>none
 |a::c=>match c with
  |[]=>ce a
  |b::ZV=>match o with
   |.And=>(ce a).bind λa'=>(ce (.BoolOp .And (b::ZV) pos)).map (.and a')
   |.Or=>(ce a).bind λa'=>(ce (.BoolOp .Or (b::ZV) pos)).map (.or a')
def Ic(o:UnaryOp)(a:Expr):Option E:=match o with
 |.Not=>(ce a).map .not
 |.USub=>(ce a).map .neg
 |_=>none
def Ie(k:List E->E)(a:List Expr):Option E:=HZ (!a.any isStar) ((Ab (a.map ce)).map k)
def GQ(e:Expr):Bool:=match e with
 |.UnaryOp o a _=>match o with
  |.USub=>match a with
   |.Constant v _ _=>match v with
    |.int i=>i==1
    |_=>false
   |_=>false
  |_=>false
 |_=>false
def EC(a:Option Expr):Option (Option E):=match a with
 |none=>some none
 |some l=>(ce l).map some
def DI{a:Type}(o:Option a):Bool:=match o with
 |none=>true
 |some _=>false
def Ig(a s:Expr):Option E:=match s with
 |.Slice lo hi st _=>match st with
  |none=>(ce a).bind λa'=>(EC ce lo).bind λb=>(EC ce hi).map (.WM a' b)
  |some st=>HZ (DI lo&&DI hi&&GQ st) ((ce a).map .rev)
 |_=>none
def Eh(a s:Expr):Option E:=match Ck s with
 |true=>Ig ce a s
 |false=>(ce a).bind λa'=>(ce s).map (.idx a')
def HH(a t:Expr):Option E:=(H8 t).bind λtn=>(Dw tn).bind λt=>(ce a).bind λa'=>HZ (T.bt.contains tn&&(sc.names.lookup tn==some .globalImplicit)) (some (.YC a' t))
def HC(a t:Expr):Option E:=(H8 t).bind λ_=>HH T sc ce a t
def GX(b:List Expr):Option E:=match b with
 |[]=>none
 |a::b=>match b with
  |[]=>none
  |t::b=>HZ (AW b) (HC T sc ce a t)
def Ih(f:Str)(a:List Expr):Option E:=(Gi f a.length Ia).bind λb=>HZ (!AW a) ((Ab (a.map ce)).map (.bi b))
def Dx(T:Tab)(c:Scope)(b:Expr->Option E)(f:Str)(a:List Expr):Option E:=
 if f = "isinstance" then GX T c b a else
 Ih b f a
def Gy(f:Str)(a:List Expr):Option E:=HZ (A8 f&&!a.any isStar&&(sc.names.lookup f==some .globalImplicit)) (match AU T.M f with
 |some i=>(Ab (a.map ce)).map (.call i)
 |none=>match T.bt.contains f with
  |true=>Dx T sc ce f a
  |false=>CH T sc ce f a [])
def Ii(o':E)(m:Str)(c b:Pos)(a:List Expr):Option E:=
 if m = "append" then C0 ce (.app o') a else
 if m = "extend" then C0 ce (.ext o') a else
 if m = "pop" then(match a with
  |[]=>some (.pop o')
  |_::_=>none)else
 if m = "get" then Dz ce (.V_ o') a else
 Dj T ce o' m c b a []
def Ho(o:Expr)(m:Str)(c b:Pos)(a:List Expr)(kws:List Keyword):Option E:=HZ (!B4 o) ((ce o).bind λo'=>match kws with
 |[]=>HZ (c.endLine==b.line&&!a.any isStar) (Ii T ce o' m c b a)
 |k::kws=>Dj T ce o' m c b a (k::kws))
def Gs(fn:Expr)(a:List Expr)(kws:List Keyword)(b:Pos):Option E:=match fn with
 |.Name f _=>match kws with
  |[]=>Gy T sc ce f a
  |k::kws=>CH T sc ce f a (k::kws)
 |.Attribute o m ap=>Ho T ce o m ap b a kws
 |_=>none
def Ij(o:Expr)(f:Str):Option E:=(T.fl.lookup f).bind λcs=>(ce o).bind λo'=>HZ (BU f&&!B4 o) (some (.fld o' (Bk f) cs))
def Ik(b:Expr->Option E)(a:List (Option Expr))(vs:List Expr):Option E:=match a with
 |[]=>HZ (AW vs) (some .W4)
 |k0::a=>(strKeys (k0::a)).bind λks=>(Ab (vs.map b)).bind λZL=>HZ (ks.length==vs.length&&decide (ks.length<=15)&&decide ks.Nodup) (some (.VN ks ZL))
def En(N:List Str)(b:Expr->Option E)(g:Comprehension)(a:List Comprehension)(scope:Scope):Option (List Nat×List (Tg×E×List E)):=
 HZ (DM scope sc (ownOf (g :: a)) (freeOf scope) && (g.is_async == 0)) ((B8 T sc ce g.target g.iter).bind λZy=>(Bg true scope (ownOf (g :: a)++freeOf scope) g.target).bind λt=>(Ab (g.ifs.map b)).bind λcs =>
  (DX T (Bm scope sc) (ownOf (g::a)++freeOf scope) b a).bind λZD=>(Ab ((freeOf scope).map (AU N))).map λZo=>(Zo,(t,Zy,cs)::ZD))
end
def Al(T:Tab)(c:Scope)(N:List Str):Nat->Expr->Option E
 |0,_=>none
 |n+1,e=>match e with
  |.Name x _=>FY T c N x
  |.Constant v _ _=>GK v
  |.BinOp a o b _=>Ib (Al T c N n) o a b
  |.Compare a os bs _=>Gx (Al T c N n) a os bs
  |.BoolOp o es pos=>Gv (Al T c N n) o es pos
  |.UnaryOp o a _=>Ic (Al T c N n) o a
  |.Tuple es _ _=>Ie (Al T c N n) .Z1 es
  |.List es _=>Ie (Al T c N n) .S es
  |.Subscript a s _=>Eh (Al T c N n) a s
  |.Call fn es kws cp=>Gs T c (Al T c N n) fn es kws cp
  |.Attribute o f _=>Ij T (Al T c N n) o f
  |.Dict keys vs _=>Ik (Al T c N n) keys vs
  |.ListComp elt gs scope _=>match gs with
   |[]=>none
   |g::ZV=>(En T c (Al T c N n) N (Al T (Bm scope c) (ownOf (g::ZV)++freeOf scope) n) g ZV scope).bind λq=>(Al T (Bm scope c) (ownOf (g::ZV)++freeOf scope) n elt).map (.comp (ownOf (g::ZV)).length q.1 q.2)
  |.DictComp h d gs scope _=>match gs with
   |[]=>none
   |g::ZV=>(En T c (Al T c N n) N (Al T (Bm scope c) (ownOf (g::ZV)++freeOf scope) n) g ZV scope).bind λq=>
    (Al T (Bm scope c) (ownOf (g::ZV)++freeOf scope) n h).bind λk'=>(Al T (Bm scope c) (ownOf (g::ZV)++freeOf scope) n d).map (.Wr (ownOf (g::ZV)).length q.1 q.2 k')
  |_=>none
def Cy(c:Scope)(x y:Str)(e d:Pos)(a b:Expr):Bool:=
 (c.names.lookup x==some .local)&&(c.names.lookup y==some .local)&&!(x==y)&&(d.line==e.line)&&!isStar a&&!isStar b&&!(foldedForSure 8 a&&foldedForSure 8 b)&&!(constantsAlone 8 a&&constantsAlone 8 b)
def D9(a:Scope)(x:Str)(b:Pos)(scope:Scope)(p:Pos):Bool:=(a.names.lookup x==some .local)&&(b.line==p.line)&&!(scope.names.any λ(n,k)=>n==x&&(k==.local||k==.cell))
def D1{c:Type}(l:List c):Option (c×c):=match l with
 |[]=>none
 |a::l=>match l with
  |[]=>none
  |b::l=>match l with
   |[]=>some (a,b)
   |_::_=>none
def Il(e:Expr):Option (Str×Pos):=match e with
 |.Name x p=>some (x,p)
 |_=>none
def G6(e:Expr):Option (List Expr×Nat×Pos):=match e with
 |.Tuple es k p=>some (es,k,p)
 |_=>none
def C1(T:Tab)(d:Scope)(N:List Str)(b:Expr->Option E)(c:List Expr)(g:Nat)(f:Pos)(e:Expr):Option Z5:=
 (G6 e).bind λq=>(D1 c).bind λt=>(Il t.1).bind λx=>(Il t.2).bind λy=>(D1 q.1).bind λa=>match Cy d x.1 y.1 x.2 y.2 a.1 a.2 with
  |true=>(AU N x.1).bind λi=>(AU N y.1).bind λj=>(b a.1).bind λa'=>(b a.2).map (.par i j a')
  |false=>HZ (foldedForSure 8 a.1&&foldedForSure 8 a.2) ((Bg true d N (.Tuple c g f)).bind λt=>(b e).map (.set t))
def Im(e:Expr):Option (Scope×Pos):=match e with
 |.ListComp _ gs scope p=>match gs with
  |[]=>none
  |_::_=>some (scope,p)
 |_=>none
def FU(a:Scope)(N:List Str)(c:Expr->Option E)(x:Str)(b:Pos)(e:Expr):Option Z5:=HZ (match Im e with
 |some q=>D9 a x b q.1 q.2
 |none=>!BV e) ((Br true a N x).bind λi=>(c e).map (.set (.nm i)))
def Hn(T:Tab)(a:Expr->Option E)(o:Expr)(f:Str)(e:Expr):Option Z5:=(Il o).bind λ_=>(T.fl.lookup f).bind λcs=>(a o).bind λo'=>(a e).bind λe'=>HZ (BU f) (some (.fset o' (Bk f) cs e'))
def FJ(T:Tab)(b:Scope)(N:List Str)(a:Expr->Option E)(t e:Expr):Option Z5:=match t with
 |.Name x c=>FU b N a x c e
 |.Tuple ts k p=>match Cu e with
  |true=>C1 T b N a ts k p e
  |false=>(Bg true b N (.Tuple ts k p)).bind λt=>(a e).map (.set t)
 |.Subscript o i _=>HZ (!Ck i&&!BV e) ((a o).bind λo'=>(a i).bind λd=>(a e).map (.sub o' d))
 |.Attribute o f _=>Hn T a o f e
 |_=>none
def DT:Expr->Bool
 |.Call (.Attribute _ m _) _ _ _=>m == "update"
 |_=>false
def Bf(T:Tab)(d:Scope)(N:List Str):Nat->Stmt->Option Z5
 |0,_=>none
 |n+1,st=>match st with
  |.Return o _=>match o with
   |none=>none
   |some e=>(Al T d N n e).map .ret
  |.Assign ts e _=>match ts with
   |[]=>none
   |t::r=>HZ (AW r) (FJ T d N (Al T d N n) t e)
  |.Expr e _=>match DT e with
   |true=>some .never
   |false=>HZ (!BV e) ((Al T d N n e).map .exp)
  |.If c a b _=>(Al T d N n c).bind λc'=>(Ab (a.map (Bf T d N n))).bind λa'=>(Ab (b.map (Bf T d N n))).map (.Zz c' a')
  |.While c b o _=>HZ (AW o) ((Al T d N n c).bind λc'=>(Ab (b.map (Bf T d N n))).map (.V9 c'))
  |.For tg it b o _=>HZ (AW o) ((Bg true d N tg).bind λt=>(B8 T d (Al T d N n) tg it).bind λZy=>(Ab (b.map (Bf T d N n))).map (.for t Zy))
  |.Raise _ _ _=>some .never
  |_=>none
open PySem PySem.Spec PySem.Calls PyProof.Rows L2 PySem.W PySem.Builtin PySem.Builtin.ObjectAttr
def DY:List (List Value):=[[.type "ZeroDivisionError",.type "ArithmeticError",.type "Exception",.type "BaseException",.type "object"],[.type "ValueError",.type "Exception",.type "BaseException",.type "object"],[.type "LookupError",.type "Exception",.type "BaseException",.type "object"],[.type "IndexError",.type "LookupError",.type "Exception",.type "BaseException",.type "object"]]
def Ba:List Value->Bool
 |.ref _::r=>Ba r
 |l=>DY.contains l
def CI(K:Frag)(C:Addr):Bool:=(clsIn K C).any λa=>Ba a.mro&&a.mro.contains (.type "object")&&!a.mro.isEmpty
open PySem PySem.Spec PySem.Calls PyProof.Rows L2 PySem.W
section
variable{X:Cx}
abbrev IA:=(Str×Str)×(Pos×Pos×Pos×Pos)
end
open PySem PySem.Spec PyProof.Rows L2 PySem.W
def Dg(f:Str):List Str->Option Nat
 |[]=>none
 |g::r=>match f==g with
  |true=>some 0
  |false=>(Dg f r).map (· + 1)
noncomputable def glob(a:Scope)(x:Str):Bool:=a.names.lookup x==some .globalImplicit
def Ef(a:List Expr):Option (Expr×Expr):=match a with
 |[]=>none
 |y::a=>match a with
  |[]=>none
  |z::a=>match a with
   |[]=>some (y,z)
   |_::_=>none
def Io(e:Expr):Option (Expr×Expr):=match e with
 |.Tuple ts _ _=>Ef ts
 |_=>none
def Ip(c:Scope)(as:List (Str×Bool))(b:Expr):Option (Nat ⊕ U):=match H8 b with
 |some y=>HZ (glob c y) ((as.lookup y).map λb=>.inr (.bl b))
 |none=>(Io b).bind λq=>(H8 q.1).bind λy=>(H8 q.2).bind λz=>HZ (glob c y&&glob c z) ((as.lookup y).bind λa=>(as.lookup z).map λb=>.inr (.bl (a||b)))
def CJ(d:List Str)(b:Scope)(n:Str)(fo:List Str)(as:List (Str×Bool))(e:Expr):Option (Nat ⊕ U):=match e with
 |.Constant c _ _=>match c with
  |.str s=>some (.inr (.str s))
  |_=>none
 |.Attribute o f _=>(H8 o).bind λa=>HZ (decide (a=n)) ((Dg f fo).map .inl)
 |.Call f es ks _=>match ks with
  |[]=>(H8 f).bind λf=>(Ef es).bind λq=>(H8 q.1).bind λa=>HZ (decide (f = "isinstance")&&decide (a=n)&&d.contains f&&glob b f) (Ip b as q.2)
  |_::_=>none
 |_=>none
def Ei(T:Tab)(x:Str):Option Nat:=T.xc.findIdx? (·.1==x)
def Cv{b:Type}(l:List b):Option b:=match l with
 |[]=>none
 |a::r=>HZ (AW r) (some a)
def D2(s:Stmt):Option (List Expr×Expr):=match s with
 |.Assign ts v _=>some (ts,v)
 |_=>none
def El(a:List Stmt):Option (Str×Expr):=(Cv a).bind λs=>(D2 s).bind λq=>(Cv q.1).bind λt=>(H8 t).map λx=>(x,q.2)
def DW(h:ExceptHandler):Option (Str×Str×List Stmt):=match h with
 |.ExceptHandler c n b _=>c.bind λc=>(H8 c).bind λc=>n.map λn=>(c,n,b)
def G3(e:Expr):Option (List Expr):=match e with
 |.Tuple vs _ _=>some vs
 |_=>none
section
variable(T:Tab)(sc:Scope)(N:List Str)(ce:Expr->Option E)(cs:Stmt->Option Z5)
def Iq(c:Str×List Expr):Option Z5:=match c.2 with
 |[]=>none
 |a::es=>HZ (A8 c.1&&glob sc c.1&&!(a::es).any isStar) ((Ei T c.1).bind λk=>(Ab ((a::es).map ce)).map λZL=>.raise k ZL)
def D4(n b:Str)(h:ExceptHandler):Option (Str×Nat×Nat×List (Nat ⊕ U)):=(DW h).bind λh=>(El h.2.2).bind λp=>(G3 p.2).bind λvals=>HZ (decide (h.2.1=n)&&decide (p.1=b)&&A8 h.1&&glob sc h.1) ((Ei T h.1).bind λa=>T.xc[a]?.bind λq=>(Ab (vals.map (CJ T.bt sc n q.2.1 q.2.2))).map λJ=>(h.1,a,q.2.1.length,J))
def C6:List (Str×Nat×Nat×List (Nat ⊕ U))->Bool
 |[]=>true
 |r::rs=>rs.all (λz=>T.xc[z.2.1]?.any λq=>q.2.2.lookup r.1==some false)&&C6 rs
def Ir(b:List Z5)(a:List ExceptHandler):Option Z5:=match a with
 |[]=>none
 |h0::_=>(DW h0).bind λq=>(El q.2.2).bind λp=>HZ (A8 q.2.1&&(sc.names.lookup q.2.1==some .local)) ((Br true sc N p.1).bind λj=>(AU N q.2.1).bind λi=>HZ (!decide (i=j)) ((Ab (a.map (D4 T sc q.2.1 p.1))).bind λrs=>HZ (C6 T rs) (some (.Vd b j (rs.map (·.2))))))
def D3(e:Expr):Option (Expr×Str×Pos):=match e with
 |.Attribute o m ap=>some (o,m,ap)
 |_=>none
def Iu(y:Str)(c:List Expr)(kws:List Keyword):Option E:=match c with
 |[]=>none
 |a::r=>HZ (AW kws&&A8 y&&glob sc y&&!(a::r).any isStar) ((AU T.M y).bind λb=>(Ab ((a::r).map ce)).map λZL=>.call b ZL)
def Iv(y:Str)(a:List Expr)(kws:List Keyword):Option E:=(T.cl.lookup y).bind λq=>HZ (T.fx.contains q.2.1&&A8 y&&!a.any isStar&&glob sc y&&kwOk kws&&BW q.2.2.1 q.2.2.2 (a.length+1) (AJ kws))
 ((Ab (a.map ce)).bind λZL=>(Ab (kws.map λk=>ce k.value)).map λYA=>.make q.1 q.2.1 ZL YA (BN q.2.2.1 (a.length+1) (AJ kws)))
def Iw(q:Expr×Str×Pos)(a:List Expr)(kws:List Keyword)(b:Pos):Option E:=(T.mt.lookup q.2.1).bind λl=>HZ (l.all (λe=>T.fx.contains e.2.1)&&!B4 q.1) ((ce q.1).bind λo'=>Dj T ce o' q.2.1 q.2.2 b a kws)
def C5(e:Expr):Option E:=match e with
 |.Call fn es kws cp=>match H8 fn with
  |some y=>match T.fs.contains y with
   |true=>Iu T sc ce y es kws
   |false=>Iv T sc ce y es kws
  |none=>(D3 fn).bind λq=>Iw T ce q es kws cp
 |_=>none
def Iy(e:Expr):Option Int:=match e with
 |.Constant c _ _=>match c with
  |.int k=>some k
  |_=>none
 |_=>none
def Iz(e:Expr):Option (Expr×Int):=match e with
 |.Subscript v s _=>(Iy s).map λk=>(v,k)
 |_=>none
def Co(e:Expr):Option E:=match Iz e with
 |some q=>(C5 T sc ce q.1).map λv'=>.idx v' (.Z3 (.int q.2))
 |none=>C5 T sc ce e
end
def IB(T:Tab)(a:Scope)(N:List Str)(b:E)(t:Expr):Option Z5:=match H8 t with
 |some x=>(Br true a N x).map λj=>.set (.nm j) b
 |none=>(D3 t).bind λq=>(H8 q.1).bind λx=>(Br true a N x).bind λi=>(T.fl.lookup q.2.1).bind λcs=>HZ (BU q.2.1&&A8 x) (some (.fset (.L i) (Bk q.2.1) cs b))
def Kg(o:Option E)(k:E->Option Z5)(d:Option Z5):Option Z5:=match o with
 |some e'=>k e'
 |none=>d.map λs=>.Zx [s]
def B9(T:Tab)(d:Scope)(N:List Str)(g:Bool):Nat->Stmt->Option Z5
 |0,_=>none
 |m+1,st=>match st with
  |.If c a b _=>(Al T d N m c).bind λc'=>(Ab (a.map (B9 T d N g m))).bind λa'=>(Ab (b.map (B9 T d N g m))).map λb'=>.Wq c' a' b'
  |.Raise e c _=>HZ (g&&DI c) (e.bind λe=>(B5 e).bind (Iq T d (Al T d N m)))
  |.Try b hs o f _=>HZ (AW o&&AW f) ((Ab (b.map (B9 T d N false m))).bind λb'=>Ir T d N b' hs)
  |.For tg it b o _=>HZ (g&&AW o) ((Bg true d N tg).bind λt=>(B8 T d (Al T d N m) tg it).bind λZy=>(Ab (b.map (B9 T d N g m))).map λb'=>.UG t Zy b')
  |.Return v p=>Kg (v.bind (Co T d (Al T d N m))) (λe'=>some (.ret e')) (Bf T d N m (.Return v p))
  |.Expr v p=>Kg (Co T d (Al T d N m) v) (λe'=>some (.exp e')) (Bf T d N m (.Expr v p))
  |.Assign ts v p=>Kg (Co T d (Al T d N m) v) (λe'=>(Cv ts).bind (IB T d N e')) (Bf T d N m (.Assign ts v p))
  |st=>(Bf T d N m st).map λs=>.Zx [s]
open PySem PySem.Spec PyProof.Rows L2
def CA(T:Tab)(x:Str)(a:Scope)(N:List Str)(m:Nat):Stmt->Option Z5:=if T.fs.contains x then B9 T a N true m else Bf T a N m
open PySem PySem.Spec PyProof.Rows L2 PySem.W
def Cb:Nat->List Obj->Frag
 |_,[]=>[]
 |n,o::r=>match o.data with
  |.freed=>Cb (n+1) r
  |_=>(n,o)::Cb (n+1) r
def A1(h:Heap):Frag:=Cb 0 h.objs.toList
set_option genInjectivity false in
structure Inf where
 x:Str
 N:List Str
 ps:List Str
 cm:Option (Str×Str)
 kf:Option (KF×Nat)
def C2(N b:List Str)(a:Scope):Bool:=
 decide (a.kind=.function)&&!a.isCoroutine&&!a.isGenerator&&decide N.Nodup&&decide (N.take b.length=b)&&b.all (λx=>decide (a.names.lookup x=some .local)||decide (a.names.lookup x=some .cell))&&a.names.all λy=>decide (y.2 ≠ .free)
def Dn(a:List Str)(p:Arguments):Bool:=p.posonlyargs.isEmpty&&decide (p.args.map (·.arg)=a)&&p.vararg.isNone&&p.kwonlyargs.isEmpty&&p.kwarg.isNone
def DG:Value->Bool
 |.none=>true
 |_=>false
def EF(u:U)(v:Value):Bool:=match u with
 |.int i=>match v with
  |.int j _=>decide (i=j)
  |_=>false
 |.ZR=>DG v
 |.bl b=>match v with
  |.bool c=>b==c
  |_=>false
 |.str s=>match v with
  |.str t _=>decide (s=t)
  |_=>false
 |_=>false
def CB:List U->List Value->Bool
 |[],[]=>true
 |u::J,v::vs=>EF u v&&CB J vs
 |_,_=>false
def GO(J:List U)(d:Data):Bool:=match d with
 |.seq ZY _=>decide (ZY.size<=1000)&&CB J ZY.toList
 |_=>false
def Er(K:Frag)(J:List U)(v:Value):Bool:=match v with
 |.ref a=>match K.lookup a with
  |some o=>decide (o.cls=.type "tuple")&&GO J o.data
  |none=>false
 |_=>false
def IC(K:Frag)(u:U)(v:Value):Bool:=match u with
 |.xn _ J=>Er K J v
 |_=>false
def DD(K:Frag)(u:U)(v:Value):Bool:=EF u v||IC K u v
def Dl(K:Frag):List U->List Value->Bool
 |[],[]=>true
 |u::J,v::vs=>DD K u v&&Dl K J vs
 |_,_=>false
def Ed(K:Frag):Value->Option (List Value)
 |.none=>some []
 |.ref a=>match K.lookup a with
  |some ⟨_,_,.seq ZY _,_⟩=>some ZY.toList
  |_=>none
 |_=>none
def BO(K:Frag)(v:Value)(n:Str):Option Value:=match v with
 |.ref d=>match nsIn K d n with
  |some (some v)=>some v
  |_=>none
 |_=>none
def ID(K:Frag)(fd:FuncData)(F:KF)(a:Nat):Bool:=fd.params.posonlyargs.isEmpty&&decide (fd.params.args.map (·.arg)=F.ns)&&fd.params.vararg.isNone&&decide (fd.params.kwonlyargs.map (·.arg)=F.ks)&&fd.params.kwarg.isNone&&decide (a<=F.ns.length) &&
 (F.ks.all λn=>(BO K fd.kwdefaults n).isSome)&&decide (F.dd.map (·.1)=F.ns.drop (F.ns.length-a)++F.ks)&&match Ed K fd.defaults with
  |some b=>decide (b.length=a)&&Dl K (F.dd.map (·.2)) (b++F.ks.map λn=>(BO K fd.kwdefaults n).getD .none)
  |none=>false
def IE(K:Frag)(c:Str×U):Bool:=match nsIn K mainGlobals c.1 with
 |some (some val)=>DD K c.2 val
 |_=>false
open PySem PySem.Spec PyProof.Rows L2 PySem.W PySem.Calls
def DQ:List (List Value×String):=[([.type "ZeroDivisionError",.type "ArithmeticError",.type "Exception",.type "BaseException",.type "object"],"ZeroDivisionError.__new__"),([.type "ValueError",.type "Exception",.type "BaseException",.type "object"],"ValueError.__new__"),([.type "LookupError",.type "Exception",.type "BaseException",.type "object"],"LookupError.__new__"),([.type "IndexError",.type "LookupError",.type "Exception",.type "BaseException",.type "object"],"IndexError.__new__")]
def IF:Value->Option Addr
 |.ref a=>some a
 |_=>none
def DR(K:Frag)(C:Addr):Bool:=(findIn K (.ref C) "__getattribute__" == some (some (.builtin "BaseException.__getattribute__")))&&(findIn K (.ref C) "__getattr__" == some none)&&(mroIn K C (.type "BaseException")==some true)&&(findIn K (.ref C) "__class__" == some (some (.builtin "object.__class__"))) &&
 (specialIn K (.builtin "object.__class__") "__get__" == some (some (.builtin "getset_descriptor.__get__")))&&(takesIn K (.builtin "object.__class__")==some true)&&(mroIn K C (.type "object")==some true)&&(clsIn K C).isSome
def IG(K:Frag)(C:Addr)(y:Str)(b:Bool):Bool:=A8 y&&match nsIn K mainGlobals y with
 |some none=>match bootBuiltins y with
  |some (.type T)=>kitOne K (.ref C) (.type T)==some b
  |_=>false
 |some (some (.ref D))=>kitOne K (.ref C) (.ref D)==some b
 |_=>false
def GZ(K:Frag)(C:Addr)(a:List Value):List Value->Bool
 |[]=>false
 |v::bm=>(v==.ref C)&&tailIn K a bm
def IH(K:Frag)(C:Addr)(c:List Value)(b:Addr)(a:ClassData):Bool:=!a.hasDel&&GZ K C c a.mro&&nsOkIn K a.ns&&(nsIn K a.ns "__init__" == some (some (.ref b)))
def DP(K:Frag)(C:Addr)(b:List Value)(newId:String)(a:Addr):Bool:=match K.lookup C with
 |none=>false
 |some o=>(o.cls==.type "type")&&decide (o.slots.size=6)&&(o.slots[4]? == some (some (.builtin newId)))&&(clsIn K C).any (IH K C b a)
def Hl(K:Frag)(C:Addr):Option Addr:=(clsIn K C).bind λa=>match nsIn K a.ns "__init__" with
 |some v=>v.bind IF
 |none=>none
def GF(s:Stmt):Option (Str×IA):=(D2 s).bind λq=>(Cv q.1).bind λt=>match t,q.2 with
 |.Attribute (.Name x b) f a,.Name p p2=>match s with
  |.Assign _ _ pos=>some (x,((f,p),(b,a,p2,pos)))
  |_=>none
 |_,_=>none
def DU(self:Str):List Stmt->Option (List IA)
 |[]=>some []
 |s::r=>(GF s).bind λq=>HZ (decide (q.1=self)) ((DU self r).map (q.2 :: ·))
def II(K:Frag)(a:Addr):Option FuncData:=(K.lookup a).bind λo=>HZ (o.cls==.type "function") (match o.data with
 |.func fd=>some fd
 |_=>none)
def Gj:FuncBody->Option (List Stmt)
 |.stmts b=>some b
 |_=>none
def Gb(K:Frag)(b:Addr)(a:List Str):Bool:=(II K b).any λfd=>(fd.globals==mainGlobals)&&fd.closure.isEmpty&&DG fd.defaults&&(fd.builtins==builtinsNs)&&codeIn K fd.code fd.qualname &&
 (Gj fd.body).any λss=>match fd.params.args.map (·.arg)with
 |[]=>false
 |self::ps=>!ps.isEmpty&&(DU self ss).any λas=>decide (as.map (·.1.1)=a)&&decide (as.map (·.1.2)=ps)&&decide a.Nodup&&decide (a.length<=1000)&&C2 (self::ps) (self::ps) fd.scope&&Dn (self::ps) fd.params&&(self::ps).all A8
def setB(K:Frag)(C:Addr)(f:Str):Bool:=(findIn K (.ref C) "__setattr__" == some (some (.builtin "object.__setattr__")))&&CI K C&&(takerIn K C f==some none)&&hasDictIn K C&&(findIn K (.ref C) f==some none)
def IJ(K:Frag)(C:Addr)(a:List Str):Bool:=match a with
 |[]=>false
 |_::_=>match Hl K C with
  |some fI=>(DQ.any λb=>DP K C b.1 b.2 fI)&&Gb K fI a&&a.all (setB K C)
  |none=>false
def C8(K:Frag)(c:Str×List Str×List (Str×Bool)):Option Addr:=match nsIn K mainGlobals c.1 with
 |some (some (.ref C))=>if IJ K C c.2.1&&DR K C&&c.2.2.all λa=>IG K C a.1 a.2 then some C else none
 |_=>none
open PySem PySem.Spec PyProof.Rows L2 PySem.W
def FZ(x q:Str)(fd:FuncData):Bool:=decide (fd.name=x)&&decide (fd.qualname=q)&&(fd.globals==mainGlobals)&&fd.closure.isEmpty&&(fd.builtins==builtinsNs)
def Ej(K:Frag)(i:Inf)(fd:FuncData):Bool:=match i.kf with
 |none=>Dn i.ps fd.params&&DG fd.defaults
 |some (F,nd)=>decide (i.ps=F.ns++F.ks)&&!i.ps.isEmpty&&ID K fd F nd
def CT(K:Frag)(C:Addr):Bool:=plainGet K C Str.empty&&hasDictIn K C&&plainOver K C&&(findIn K (.ref C) "__setattr__" == some (some (.builtin "object.__setattr__")))
def EA(K:Frag)(i:Inf):Option Addr:=match i.cm with
 |none=>match nsIn K mainGlobals i.x with
  |some (some (.ref a))=>some a
  |_=>none
 |some c=>match nsIn K mainGlobals c.1 with
  |some (some (.ref C))=>match findIn K (.ref C) c.2 with
   |some (some (.ref a))=>if CT K C&&isFn K (.ref a)&&keepIn K (.ref a)&&(!decide (c.2 = "__init__")||(makesIn K C&&keepIn K (.ref C)))then some a else none
   |_=>none
  |_=>none
noncomputable def Inf.nm(i:Inf):Str:=match i.cm with|none=>i.x|some c=>c.2
def BC(K:Frag)(i:Inf):Option (Scope×List Stmt):=match EA K i with
 |some a=>match K.lookup a with
  |some ⟨_,_,.func fd,_⟩=>match fd.body with
   |.stmts b=>if FZ i.nm i.x fd&&C2 i.N i.ps fd.scope&&Ej K i fd&&codeIn K fd.code i.x&&keepIn K (.ref a)then some (fd.scope,b)else none
   |_=>none
  |_=>none
 |none=>none
def mkF(T:Tab)(q:Inf×Option (Scope×List Stmt)):Option Fn:=match q.2 with
 |some r=>(Ab (r.2.map (CA T q.1.x r.1 q.1.N 60))).map λb'=>⟨q.1.ps.length,q.1.N.length,b'⟩
 |none=>none
def IK(K:Frag)(e:Str×List Nat):Bool:=e.2.all λc=>match nsIn K mainGlobals (Au c)with
 |some (some (.ref C))=>CT K C&&(findIn K (.ref C) e.1==some none)
 |_=>false
def IL(K:Frag)(C:Addr):Bool:=(findIn K (.ref C) "__ne__" == some (some (.builtin "object.__ne__")))&&(mroIn K C (.type "object")==some true)&&(clsIn K C).isSome&&(typeIn K (.ref C)==some (.type "type"))&&(findIn K (.ref C) "__class__" == some (some (.builtin "object.__class__"))) &&
 (specialIn K (.builtin "object.__class__") "__get__" == some (some (.builtin "getset_descriptor.__get__")))&&(takesIn K (.builtin "object.__class__")==some true)
def IM(K:Frag)(p:Str×Nat):Bool:=match nsIn K mainGlobals p.1 with
 |some (some (.ref C))=>decide (Au p.2=p.1)&&CT K C&&IL K C
 |_=>false
def DB(is:List Inf):List (Str×Nat×KF×Nat):=is.zipIdx.filterMap λp=>match p.1.cm,p.1.kf with
 |none,some k=>some (p.1.x,p.2,k.1,k.2)
 |_,_=>none
def DF(is:List Inf):List (Str×Nat×Nat×KF×Nat):=is.zipIdx.filterMap λp=>match p.1.cm,p.1.kf with
 |some c,some k=>if c.2 = "__init__" then some (c.1,Bk c.1,p.2,k.1,k.2)else none
 |_,_=>none
def IP(is:List Inf)(m:Str):List (Nat×Nat×KF×Nat):=is.zipIdx.filterMap λp=>match p.1.cm,p.1.kf with
 |some c,some k=>if c.2=m then some (Bk c.1,p.2,k.1,k.2)else none
 |_,_=>none
def De(is:List Inf)(ms:List Str):List (Str×List (Nat×Nat×KF×Nat)):=ms.map λm=>(m,IP is m)
def IQ(T:Tab)(K:Frag):Bool:=T.bt.all (λx=>(nsIn K mainGlobals x).any Option.isNone)&&T.xc.all (λc=>(C8 K c).isSome)
def DE(is:List Inf)(a:List Str):List Nat:=is.zipIdx.filterMap λp=>if a.contains p.1.x then some p.2 else none
open PySem PySem.Spec PyProof.Rows L2 PySem.W PySem.Calls
noncomputable section
def G4(p:Program)(w:World)(N:Nat)(ZH : Shared):Option Shared:=
 match ZH.heap.isNs mainGlobals&&ZH.gens.size==0 with
 |true=>(Fast.tw14082659384304107361 Fast.tw14364793385576792824 p w ZH.heap.objs.size (ZH.heap.nsMap mainGlobals "__annotations__") N ZH (topStub p)).bind λa=>match staticsOk (importedModules p.main.body) ZH.heap a.heap&&namesBound p a.heap&&gensDone a && laidKept ZH.heap a.heap with
   |true=>some a
   |false=>none
 |false=>none
def endsF(p:Program)(w:World)(N:Nat):Option Shared:=
 ((Fast.tw10274390034422433532 Fast.tw14364793385576792824 (opening p) w N (Fast.tw1435165496053646825 (opening p)).1 (Fast.tw1435165496053646825 (opening p)).2).bind (Fast.tw14289696077712309145 p)).bind (G4 p w N)
def lastOf(p:Program):Program:={p with main:={p.main with body:=p.main.body.drop (p.main.body.length-1)}}
def EK(T:Tab)(K:Frag)(is:List Inf):Bool:=IQ T K&&T.cs.all (IE K)&&T.fl.all (IK K)&&is.all (λi=>i.cm.all λc=>BU c.1)&&T.ow.all (IM K)
def Ae(b:List Stmt)(n:Nat):Option (Scope×List Stmt):=match b[n]? with
 |some (.FunctionDef _ _ b _ _ _ sc _ _ _)=>some (sc,b)
 |_=>none
def Bj(b:List Stmt)(n m:Nat):Option (Scope×List Stmt):=match b[n]? with
 |some (.ClassDef _ _ _ b _ _ _ _ _ _ _)=>Ae b m
 |_=>none
end
end
end PI
section
namespace ZI
open PI
def Fw:Fn:=⟨1,1,[(.ret (.and (.YC (.L 0) .VP) (.not (.YC (.L 0) .VO))))]⟩
def Fz:Fn:=⟨2,7,[(.set (.tp [2,3,4]) (.L 0)),(.set (.tp [5,6]) (.L 1)),(.ret (.and (.chain .le .le (.Z3 (.int 0)) (.L 5) (.ZZ .mul (.L 2) (.L 4))) (.chain .le .le (.Z3 (.int 0)) (.L 6) (.ZZ .mul (.L 3) (.L 4)))))]⟩
def Fd:Fn:=⟨2,2,[(.Zz (.not (.call 1 [.L 0,.L 1])) [.never] [])]⟩
def G8:Fn:=⟨1,4,[(.set (.tp [1,2,3]) (.L 0)),(.ret (.comp 2 [2,3] [((.nm 0),(.YV (.ZZ .add (.ZZ .mul (.L 1) (.L 3)) (.Z3 (.int 1)))),[]),((.nm 1),(.YV (.ZZ .add (.ZZ .mul (.L 2) (.L 3)) (.Z3 (.int 1)))),[])] (.Z1 [.L 0,.L 1])))]⟩
def E2:Fn:=⟨3,7,[(.par 3 4 (.ZZ .mul (.L 0) (.L 2)) (.ZZ .mul (.L 1) (.L 2))),(.par 5 6 (.ZZ .add (.L 3) (.L 2)) (.ZZ .add (.L 4) (.L 2))),(.Zz (.cmp .eq (.ZZ .mod (.ZZ .add (.L 0) (.L 1)) (.Z3 (.int 2))) (.Z3 (.int 0))) [(.ret (.S [(.Z1 [.L 3,.L 4,.L 5,.L 6,.L 5,.L 4]),(.Z1 [.L 5,.L 6,.L 3,.L 4,.L 3,.L 6])]))] []),(.ret (.S [(.Z1 [.L 5,.L 4,.L 3,.L 6,.L 5,.L 6]),(.Z1 [.L 3,.L 6,.L 5,.L 4,.L 3,.L 4])]))]⟩
def FP:Fn:=⟨1,4,[(.set (.tp [1,2,3]) (.L 0)),(.ret (.comp 3 [2,3] [((.nm 0),(.YV (.L 1)),[]),((.nm 1),(.YV (.L 3)),[]),((.nm 2),(.call 4 [.L 0,.L 1,.L 4]),[])] (.L 2)))]⟩
def FD:Fn:=⟨1,5,[(.set (.tp [1,2,3,4]) (.WM (.L 0) none (some (.Z3 (.int 4))))),(.Zz (.or (.cmp .eq (.ZZ .mod (.ZZ .add (.L 1) (.L 3)) (.Z3 (.int 2))) (.Z3 (.int 1))) (.cmp .eq (.ZZ .mod (.ZZ .add (.L 2) (.L 4)) (.Z3 (.int 2))) (.Z3 (.int 1)))) [(.ret (.Z3 .ZR))] []),(.ret (.Z1 [(.ZZ .fdiv (.ZZ .add (.L 1) (.L 3)) (.Z3 (.int 2))),(.ZZ .fdiv (.ZZ .add (.L 2) (.L 4)) (.Z3 (.int 2)))]))]⟩
def FE:Fn:=⟨1,10,[(.set (.nm 1) (.call 6 [.L 0])),(.Zz (.cmp .Ws (.L 1) (.Z3 .ZR)) [.never] []),(.set (.tp [2,3]) (.L 1)),(.set (.tp [4,5,6,7,8,9]) (.L 0)),(.ret (.S [(.Z1 [.L 4,.L 5,.L 8,.L 9,.L 2,.L 3]),(.Z1 [.L 8,.L 9,.L 6,.L 7,.L 2,.L 3])]))]⟩
def Gk:Fn:=⟨1,4,[(.set (.nm 1) (.S [])),(.set (.nm 2) (.rev (.L 0))),(.V9 (.L 2) [(.set (.nm 3) (.pop (.L 2))),(.exp (.app (.L 1) (.L 3))),(.Zz (.cmp .VQ (.call 6 [.L 3]) (.Z3 .ZR)) [(.exp (.ext (.L 2) (.rev (.call 7 [.L 3]))))] [])]),(.ret (.L 1))]⟩
def FA:Fn:=⟨1,1,[(.ret (.call 8 [(.call 5 [.L 0])]))]⟩
def FR:Fn:=⟨5,7,[(.set (.tp [5,6]) (.L 4)),(.ret (.ZZ .sub (.ZZ .mul (.ZZ .sub (.L 2) (.L 0)) (.ZZ .sub (.L 6) (.L 1))) (.ZZ .mul (.ZZ .sub (.L 3) (.L 1)) (.ZZ .sub (.L 5) (.L 0)))))]⟩
def Gg:Fn:=⟨1,7,[(.set (.tp [1,2,3,4,5,6]) (.L 0)),(.ret (.Z1 [(.bi .mn [.L 1,.L 3,.L 5]),(.bi .mn [.L 2,.L 4,.L 6]),(.bi .mx [.L 1,.L 3,.L 5]),(.bi .mx [.L 2,.L 4,.L 6])]))]⟩
def FG:Fn:=⟨2,8,[(.set (.tp [2,3,4,5]) (.call 11 [.L 0])),(.set (.tp [6,7]) (.L 1)),(.ret (.and (.chain .le .le (.L 2) (.L 6) (.L 4)) (.chain .le .le (.L 3) (.L 7) (.L 5))))]⟩
def FC:Fn:=⟨2,9,[(.set (.tp [2,3,4,5,6,7]) (.L 0)),(.set (.nm 8) (.S [(.call 10 [.L 2,.L 3,.L 4,.L 5,.L 1]),(.call 10 [.L 4,.L 5,.L 6,.L 7,.L 1]),(.call 10 [.L 6,.L 7,.L 2,.L 3,.L 1])])),(.ret (.and (.call 12 [.L 0,.L 1]) (.or (.cmp .ge (.bi .mn [.L 8]) (.Z3 (.int 0))) (.cmp .le (.bi .mx [.L 8]) (.Z3 (.int 0))))))]⟩
def FL:Fn:=⟨1,5,[(.set (.tp [1,2,3,4]) (.call 11 [.L 0])),(.ret (.comp 2 [4,2,0] [((.nm 0),(.Xw (.L 1) (.ZZ .add (.L 3) (.Z3 (.int 1)))),[]),((.nm 1),(.Xw (.L 3) (.ZZ .add (.L 2) (.Z3 (.int 1)))),[(.call 13 [.L 4,(.Z1 [.L 0,.L 1])])])] (.Z1 [.L 0,.L 1])))]⟩
def FN:Fn:=⟨2,3,[(.Zz (.cmp .eq (.L 1) (.Z3 (.int 0))) [.never] []),(.set (.nm 2) (.call 16 [(.bi .abs [.L 0]),(.bi .abs [.L 1])])),(.Zz (.cmp .lt (.L 1) (.Z3 (.int 0))) [(.set (.nm 2) (.neg (.L 2)))] []),(.ret (.Z1 [(.ZZ .fdiv (.L 0) (.L 2)),(.ZZ .fdiv (.L 1) (.L 2))]))]⟩
def FH:Fn:=⟨2,2,[(.V9 (.cmp .ne (.L 1) (.Z3 (.int 0))) [(.par 0 1 (.L 1) (.ZZ .mod (.L 0) (.L 1)))]),(.ret (.L 0))]⟩
def Hk:Fn:=⟨2,2,[(.ret (.cmp .lt (.ZZ .mul (.idx (.L 0) (.Z3 (.int 0))) (.idx (.L 1) (.Z3 (.int 1)))) (.ZZ .mul (.idx (.L 1) (.Z3 (.int 0))) (.idx (.L 0) (.Z3 (.int 1))))))]⟩
def EY:Fn:=⟨2,2,[(.Zz (.or (.not (.call 0 [.L 1])) (.or (.cmp .lt (.L 1) (.neg (.Z3 (.int 1000)))) (.cmp .gt (.L 1) (.Z3 (.int 1000))))) [.never] [])]⟩
def Ft:Fn:=⟨2,2,[(.Zz (.cmp .ne (.bi .len [.L 0]) (.L 1)) [.never] [])]⟩
def Fs:Fn:=⟨2,10,[(.set (.tp [2,3,4]) (.L 0)),(.exp (.call 19 [.L 1,(.ZZ .add (.ZZ .mul (.L 3) (.L 4)) (.Z3 (.int 1)))])),(.for (.nm 5) (.L 1) [(.exp (.call 19 [.L 5,(.ZZ .add (.ZZ .mul (.L 2) (.L 4)) (.Z3 (.int 1)))]))]),(.set (.nm 6) .W4),(.for (.tp [7,5]) (.YN (.L 1)) [(.for (.tp [8,9]) (.YN (.L 5)) [(.exp (.call 18 [(.Z1 [.L 8,.L 7]),.L 9])),(.sub (.L 6) (.Z1 [.L 8,.L 7]) (.L 9))])]),(.ret (.L 6))]⟩
def FK:Fn:=⟨2,14,[(.set (.tp [2,3,4,5,6,7]) (.L 0)),(.set (.tp [8,9,10]) (.L 1)),(.set (.nm 11) (.ZZ .sub (.ZZ .mul (.ZZ .sub (.L 4) (.L 2)) (.ZZ .sub (.L 7) (.L 3))) (.ZZ .mul (.ZZ .sub (.L 5) (.L 3)) (.ZZ .sub (.L 6) (.L 2))))),(.set (.nm 12) (.ZZ .sub (.ZZ .mul (.ZZ .sub (.L 9) (.L 8)) (.ZZ .sub (.L 7) (.L 3))) (.ZZ .mul (.ZZ .sub (.L 10) (.L 8)) (.ZZ .sub (.L 5) (.L 3))))),(.set (.nm 13) (.ZZ .sub (.ZZ .mul (.ZZ .sub (.L 10) (.L 8)) (.ZZ .sub (.L 4) (.L 2))) (.ZZ .mul (.ZZ .sub (.L 9) (.L 8)) (.ZZ .sub (.L 6) (.L 2))))),(.ret (.Z1 [.L 12,.L 13,(.ZZ .sub (.ZZ .sub (.ZZ .mul (.L 8) (.L 11)) (.ZZ .mul (.L 12) (.L 2))) (.ZZ .mul (.L 13) (.L 3))),.L 11]))]⟩
def ES:Fn:=⟨3,3,[(.Zz (.cmp .Ws (.L 2) (.Z3 .ZR)) [(.fset (.L 0) 509789213455080 [211529932] (.Wr 1 [] [((.nm 0),(.call 3 [.L 1]),[])] (.L 0) (.Z3 (.int 0))))] [(.fset (.L 0) 509789213455080 [211529932] (.call 20 [.L 1,.L 2]))]),(.fset (.L 0) 232289904 [211529932] (.L 1)),(.fset (.L 0) 487627477906021 [211529932] (.Z3 (.int 0))),(.fset (.L 0) 31083624820 [211529932] (.Z3 (.int 0))),(.fset (.L 0) 31083802852 [211529932] .W4),(.fset (.L 0) 213628900 [211529932] (.S [])),(.fset (.L 0) 3500095911797 [211529932] (.S [])),(.fset (.L 0) 243020007 [211529932] (.Wr 1 [] [((.nm 0),(.call 9 [.L 1]),[])] (.L 0) (.Z3 .ZR)))]⟩
def EU:Fn:=⟨2,2,[(.exp (.call 2 [(.fld (.L 0) 232289904 [211529932]),.L 1])),(.ret (.idx (.fld (.L 0) 509789213455080 [211529932]) (.L 1)))]⟩
def Fq:Fn:=⟨1,4,[(.set (.tp [1,2,3]) (.fld (.L 0) 232289904 [211529932])),(.ret (.comp 1 [0,3,1] [((.nm 0),(.YV (.ZZ .add (.ZZ .mul (.L 2) (.L 3)) (.Z3 (.int 1)))),[])] (.comp 1 [1,0] [((.nm 0),(.YV (.ZZ .add (.ZZ .mul (.L 3) (.L 2)) (.Z3 (.int 1)))),[])] (.idx (.fld (.L 1) 509789213455080 [211529932]) (.Z1 [.L 0,.L 2])))))]⟩
def Fc:Fn:=⟨2,2,[(.exp (.call 2 [(.fld (.L 0) 232289904 [211529932]),.L 1])),(.ret (.V_ (.fld (.L 0) 31083802852 [211529932]) (.L 1) (.Z3 (.int 0))))]⟩
def Fb:Fn:=⟨2,2,[(.ret (.cmp .Ve (.L 1) (.fld (.L 0) 243020007 [211529932])))]⟩
def DJ:Fn:=⟨2,2,[(.Wq (.not (.YT (.L 0) 31121471339 [(211529932,26,[.inl 0,.inl 1])] [.L 1] [])) [(.raise 0 [.L 1])] [])]⟩
def E9:Fn:=⟨2,8,[(.exp (.YT (.L 0) 1970067245619097943106220782 [(211529932,27,[.inl 0,.inl 1])] [.L 1] [])),(.set (.tp [2,3,4,5,6,7]) (.L 1)),(.ret (.comp 1 [0] [((.nm 0),(.Z1 [(.Z1 [.L 2,.L 3]),(.Z1 [.L 4,.L 5]),(.Z1 [.L 6,.L 7])]),[])] (.idx (.fld (.L 1) 509789213455080 [211529932]) (.L 0))))]⟩
def Fh:Fn:=⟨2,2,[(.ret (.call 21 [.L 1,(.YT (.L 0) 31089882344 [(211529932,28,[.inl 0,.inl 1])] [.L 1] [])]))]⟩
def DL:Fn:=⟨2,2,[(.exp (.YT (.L 0) 1970067245619097943106220782 [(211529932,27,[.inl 0,.inl 1])] [.L 1] [])),(.Wq (.cmp .Ws (.idx (.fld (.L 0) 243020007 [211529932]) (.L 1)) (.Z3 .ZR)) [(.Zx [(.sub (.fld (.L 0) 243020007 [211529932]) (.L 1) (.YT (.L 0) 56743007633339122 [(211529932,31,[.inl 0,.inl 1])] [.L 1] []))])] []),(.Zx [(.ret (.idx (.fld (.L 0) 243020007 [211529932]) (.L 1)))])]⟩
def ER:Fn:=⟨2,11,[(.set (.tp [2,3,4,5]) (.YT (.L 0) 244872806 [(211529932,29,[.inl 0,.inl 1])] [.L 1] [])),(.set (.tp [6,7]) (.Z1 [(.neg (.Z3 (.int 1))),.Z3 .ZR])),(.for (.tp [8,9]) (.call 14 [.L 1]) [(.set (.nm 10) (.bi .abs [(.ZZ .sub (.ZZ .mul (.idx (.fld (.L 0) 509789213455080 [211529932]) (.Z1 [.L 8,.L 9])) (.L 5)) (.ZZ .add (.ZZ .add (.ZZ .mul (.L 2) (.L 8)) (.ZZ .mul (.L 3) (.L 9))) (.L 4)))])),(.Zz (.cmp .gt (.L 10) (.L 6)) [(.par 6 7 (.L 10) (.Z1 [.L 8,.L 9]))] [])]),(.ret (.Z1 [(.call 15 [.L 6,(.bi .abs [.L 5])]),.L 7]))]⟩
def E8:Fn:=⟨2,5,[(.set (.nm 2) (.idx (.YT (.L 0) 1847527 [(211529932,30,[.inl 0,.inl 1])] [.L 1] []) (.Z3 (.int 0)))),(.UG (.nm 3) (.call 8 [(.S [.L 1])]) [(.set (.nm 4) (.idx (.YT (.L 0) 1847527 [(211529932,30,[.inl 0,.inl 1])] [.L 3] []) (.Z3 (.int 0)))),(.Wq (.call 17 [.L 2,.L 4]) [(.Zx [(.set (.nm 2) (.L 4))])] [])]),(.Zx [(.ret (.L 2))])]⟩
def E6:Fn:=⟨1,1,[(.ret (.and (.YC (.L 0) .VP) (.not (.YC (.L 0) .VO))))]⟩
def Fg:Fn:=⟨2,3,[(.Zz (.cmp .Ws (.L 1) (.Z3 .ZR)) [(.ret (.cmp .Ws (.L 0) (.Z3 .ZR)))] []),(.Zz (.YC (.L 1) .VO) [(.ret (.and (.YC (.L 0) .VO) (.cmp .eq (.L 0) (.L 1))))] []),(.Zz (.YC (.L 1) .VP) [(.ret (.and (.call 33 [.L 0]) (.cmp .eq (.L 0) (.L 1))))] []),(.Zz (.YC (.L 1) .UJ) [(.ret (.and (.YC (.L 0) .UJ) (.cmp .eq (.L 0) (.L 1))))] []),(.Zz (.and (.YC (.L 1) .UI) (.not (.YC (.L 0) .UI))) [(.ret (.Z3 (.bl false)))] []),(.Zz (.and (.YC (.L 1) .UH) (.not (.YC (.L 0) .UH))) [(.ret (.Z3 (.bl false)))] []),(.Zz (.cmp .ne (.bi .len [.L 0]) (.bi .len [.L 1])) [(.ret (.Z3 (.bl false)))] []),(.for (.nm 2) (.YV (.bi .len [.L 1])) [(.Zz (.not (.call 34 [(.idx (.L 0) (.L 2)),(.idx (.L 1) (.L 2))])) [(.ret (.Z3 (.bl false)))] [])]),(.ret (.Z3 (.bl true)))]⟩
def Fu:Fn:=⟨1,1,[(.ret (.S [(.bi .list [(.WM (.L 0) none (some (.Z3 (.int 63))))]),(.Z3 (.int 0)),(.Z3 (.int 7))]))]⟩
def Fp:Fn:=⟨2,5,[(.set (.nm 2) (.idx (.L 0) (.Z3 (.int 0)))),(.set (.nm 3) (.idx (.L 0) (.Z3 (.int 1)))),(.set (.nm 4) (.Z3 (.int 0))),(.Zz (.cmp .gt (.bi .len [.L 2]) (.Z3 (.int 0))) [(.set (.nm 4) (.idx (.L 2) (.ZZ .mod (.L 3) (.bi .len [.L 2]))))] []),(.Zz (.cmp .lt (.L 4) (.Z3 (.int 0))) [(.set (.nm 4) (.ZZ .sub (.Z3 (.int 1)) (.L 4)))] []),(.Zz (.cmp .ge (.L 4) (.ZZ .pow (.Z3 (.int 10)) (.Z3 (.int 18)))) [(.sub (.L 2) (.ZZ .mod (.L 3) (.bi .len [.L 2])) (.ZZ .fdiv (.L 4) (.L 1))),(.ret (.ZZ .mod (.L 4) (.L 1)))] []),(.sub (.L 0) (.Z3 (.int 1)) (.ZZ .add (.L 3) (.Z3 (.int 1)))),(.sub (.L 0) (.Z3 (.int 2)) (.ZZ .mod (.ZZ .add (.ZZ .add (.ZZ .add (.ZZ .mul (.idx (.L 0) (.Z3 (.int 2))) (.Z3 (.int 48271))) (.ZZ .mul (.L 4) (.Z3 (.int 9973)))) (.ZZ .mul (.L 3) (.Z3 (.int 31)))) (.Z3 (.int 11))) (.Z3 (.int 2147483647)))),(.ret (.ZZ .mod (.ZZ .fdiv (.ZZ .mod (.ZZ .mul (.idx (.L 0) (.Z3 (.int 2))) (.Z3 (.int 69621))) (.Z3 (.int 2147483629))) (.Z3 (.int 64))) (.L 1)))]⟩
def Fm:Fn:=⟨1,2,[(.set (.nm 1) (.S [(.Z1 [(.Z3 (.int 1)),(.Z3 (.int 1)),(.Z3 (.int 2))]),(.Z1 [(.Z3 (.int 1)),(.Z3 (.int 1)),(.Z3 (.int 4))]),(.Z1 [(.Z3 (.int 2)),(.Z3 (.int 1)),(.Z3 (.int 2))]),(.Z1 [(.Z3 (.int 1)),(.Z3 (.int 2)),(.Z3 (.int 2))]),(.Z1 [(.Z3 (.int 2)),(.Z3 (.int 2)),(.Z3 (.int 2))]),(.Z1 [(.Z3 (.int 1)),(.Z3 (.int 1)),(.Z3 (.int 4))])])),(.set (.nm 1) (.ZZ .add (.L 1) (.S [(.Z1 [(.Z3 (.int 3)),(.Z3 (.int 1)),(.Z3 (.int 2))]),(.Z1 [(.Z3 (.int 1)),(.Z3 (.int 3)),(.Z3 (.int 2))]),(.Z1 [(.Z3 (.int 2)),(.Z3 (.int 1)),(.Z3 (.int 4))]),(.Z1 [(.Z3 (.int 1)),(.Z3 (.int 2)),(.Z3 (.int 4))]),(.Z1 [(.Z3 (.int 3)),(.Z3 (.int 2)),(.Z3 (.int 2))]),(.Z1 [(.Z3 (.int 1)),(.Z3 (.int 1)),(.Z3 (.int 8))])]))),(.ret (.idx (.L 1) (.call 36 [.L 0,(.Z3 (.int 12))])))]⟩
def EW:Fn:=⟨1,4,[(.set (.nm 1) (.S [])),(.for (.nm 2) (.YV (.ZZ .add (.ZZ .mul (.idx (.L 0) (.Z3 (.int 0))) (.idx (.L 0) (.Z3 (.int 2)))) (.Z3 (.int 1)))) [(.for (.nm 3) (.YV (.ZZ .add (.ZZ .mul (.idx (.L 0) (.Z3 (.int 1))) (.idx (.L 0) (.Z3 (.int 2)))) (.Z3 (.int 1)))) [(.exp (.app (.L 1) (.Z1 [.L 2,.L 3])))])]),(.ret (.L 1))]⟩
def Fv:Fn:=⟨1,3,[(.set (.nm 1) .W4),(.for (.nm 2) (.L 0) [(.sub (.L 1) (.L 2) (.Z3 (.bl true)))]),(.ret (.L 1))]⟩
def E7:Fn:=⟨1,7,[(.set (.nm 1) (.S [])),(.set (.nm 2) (.idx (.L 0) (.Z3 (.int 2)))),(.for (.nm 3) (.YV (.idx (.L 0) (.Z3 (.int 0)))) [(.for (.nm 4) (.YV (.idx (.L 0) (.Z3 (.int 1)))) [(.set (.nm 5) (.ZZ .mul (.L 3) (.L 2))),(.set (.nm 6) (.ZZ .mul (.L 4) (.L 2))),(.Zz (.cmp .eq (.ZZ .mod (.ZZ .add (.L 3) (.L 4)) (.Z3 (.int 2))) (.Z3 (.int 0))) [(.exp (.app (.L 1) (.Z1 [.L 5,.L 6,(.ZZ .add (.L 5) (.L 2)),(.ZZ .add (.L 6) (.L 2)),(.ZZ .add (.L 5) (.L 2)),.L 6]))),(.exp (.app (.L 1) (.Z1 [(.ZZ .add (.L 5) (.L 2)),(.ZZ .add (.L 6) (.L 2)),.L 5,.L 6,.L 5,(.ZZ .add (.L 6) (.L 2))])))] [(.exp (.app (.L 1) (.Z1 [(.ZZ .add (.L 5) (.L 2)),.L 6,.L 5,(.ZZ .add (.L 6) (.L 2)),(.ZZ .add (.L 5) (.L 2)),(.ZZ .add (.L 6) (.L 2))]))),(.exp (.app (.L 1) (.Z1 [.L 5,(.ZZ .add (.L 6) (.L 2)),(.ZZ .add (.L 5) (.L 2)),.L 6,.L 5,.L 6])))])])]),(.ret (.L 1))]⟩
def E1:Fn:=⟨1,1,[(.Zz (.or (.cmp .eq (.ZZ .mod (.ZZ .add (.idx (.L 0) (.Z3 (.int 0))) (.idx (.L 0) (.Z3 (.int 2)))) (.Z3 (.int 2))) (.Z3 (.int 1))) (.cmp .eq (.ZZ .mod (.ZZ .add (.idx (.L 0) (.Z3 (.int 1))) (.idx (.L 0) (.Z3 (.int 3)))) (.Z3 (.int 2))) (.Z3 (.int 1)))) [(.ret (.Z3 .ZR))] []),(.ret (.Z1 [(.ZZ .fdiv (.ZZ .add (.idx (.L 0) (.Z3 (.int 0))) (.idx (.L 0) (.Z3 (.int 2)))) (.Z3 (.int 2))),(.ZZ .fdiv (.ZZ .add (.idx (.L 0) (.Z3 (.int 1))) (.idx (.L 0) (.Z3 (.int 3)))) (.Z3 (.int 2)))]))]⟩
def EV:Fn:=⟨1,4,[(.set (.nm 1) (.call 41 [.L 0])),(.set (.nm 2) (.Z1 [(.idx (.L 0) (.Z3 (.int 0))),(.idx (.L 0) (.Z3 (.int 1))),(.idx (.L 0) (.Z3 (.int 4))),(.idx (.L 0) (.Z3 (.int 5))),(.idx (.L 1) (.Z3 (.int 0))),(.idx (.L 1) (.Z3 (.int 1)))])),(.set (.nm 3) (.Z1 [(.idx (.L 0) (.Z3 (.int 4))),(.idx (.L 0) (.Z3 (.int 5))),(.idx (.L 0) (.Z3 (.int 2))),(.idx (.L 0) (.Z3 (.int 3))),(.idx (.L 1) (.Z3 (.int 0))),(.idx (.L 1) (.Z3 (.int 1)))])),(.ret (.S [.L 2,.L 3]))]⟩
def EX:Fn:=⟨1,4,[(.set (.nm 1) (.S [])),(.set (.nm 2) (.rev (.call 40 [.L 0]))),(.V9 (.cmp .gt (.bi .len [.L 2]) (.Z3 (.int 0))) [(.set (.nm 3) (.pop (.L 2))),(.exp (.app (.L 1) (.L 3))),(.Zz (.cmp .VQ (.call 41 [.L 3]) (.Z3 .ZR)) [(.exp (.ext (.L 2) (.rev (.call 42 [.L 3]))))] [])]),(.ret (.L 1))]⟩
def EO:Fn:=⟨1,1,[(.ret (.S [(.Z1 [(.idx (.L 0) (.Z3 (.int 0))),(.idx (.L 0) (.Z3 (.int 1)))]),(.Z1 [(.idx (.L 0) (.Z3 (.int 2))),(.idx (.L 0) (.Z3 (.int 3)))]),(.Z1 [(.idx (.L 0) (.Z3 (.int 4))),(.idx (.L 0) (.Z3 (.int 5)))])]))]⟩
def E4:Fn:=⟨3,4,[(.set (.nm 3) (.ZZ .mul (.ZZ .sub (.idx (.L 1) (.Z3 (.int 0))) (.idx (.L 0) (.Z3 (.int 0)))) (.ZZ .sub (.idx (.L 2) (.Z3 (.int 1))) (.idx (.L 0) (.Z3 (.int 1)))))),(.ret (.ZZ .sub (.L 3) (.ZZ .mul (.ZZ .sub (.idx (.L 2) (.Z3 (.int 0))) (.idx (.L 0) (.Z3 (.int 0)))) (.ZZ .sub (.idx (.L 1) (.Z3 (.int 1))) (.idx (.L 0) (.Z3 (.int 1)))))))]⟩
def Cj:Fn:=⟨4,11,[(.set (.tp [4,5,6]) (.comp 1 [3] [((.nm 0),(.call 44 [.L 0]),[])] (.Z1 [(.ZZ .mul (.idx (.L 0) (.Z3 (.int 0))) (.L 1)),(.ZZ .mul (.idx (.L 0) (.Z3 (.int 1))) (.L 1))]))),(.set (.nm 7) (.Z1 [.L 1,.L 2])),(.set (.nm 8) (.Z3 (.int 1))),(.Zz (.cmp .lt (.call 45 [.L 4,.L 5,.L 6]) (.Z3 (.int 0))) [(.set (.nm 8) (.ZZ .sub (.Z3 (.int 0)) (.Z3 (.int 1))))] []),(.set (.nm 9) (.ZZ .mul (.L 8) (.call 45 [.L 7,.L 5,.L 6]))),(.set (.nm 10) (.ZZ .mul (.L 8) (.call 45 [.L 4,.L 7,.L 6]))),(.ret (.S [.L 9,.L 10,(.ZZ .mul (.L 8) (.call 45 [.L 4,.L 5,.L 7]))]))]⟩
def EZ:Fn:=⟨2,5,[(.set (.nm 2) (.bi .Xg [(.S [(.idx (.L 0) (.Z3 (.int 0))),(.idx (.L 0) (.Z3 (.int 2))),(.idx (.L 0) (.Z3 (.int 4)))])])),(.set (.nm 3) (.bi .Xg [(.S [(.idx (.L 0) (.Z3 (.int 1))),(.idx (.L 0) (.Z3 (.int 3))),(.idx (.L 0) (.Z3 (.int 5)))])])),(.set (.nm 4) (.and (.chain .le .le (.idx (.L 2) (.Z3 (.int 0))) (.idx (.L 1) (.Z3 (.int 0))) (.idx (.L 2) (.Z3 (.int 2)))) (.chain .le .le (.idx (.L 3) (.Z3 (.int 0))) (.idx (.L 1) (.Z3 (.int 1))) (.idx (.L 3) (.Z3 (.int 2)))))),(.ret (.and (.L 4) (.cmp .ge (.bi .mn [(.call 46 [.L 0,(.idx (.L 1) (.Z3 (.int 0))),(.idx (.L 1) (.Z3 (.int 1))),(.Z3 (.int 1))])]) (.Z3 (.int 0)))))]⟩
def E5:Fn:=⟨1,6,[(.set (.nm 1) (.bi .Xg [(.S [(.idx (.L 0) (.Z3 (.int 0))),(.idx (.L 0) (.Z3 (.int 2))),(.idx (.L 0) (.Z3 (.int 4)))])])),(.set (.nm 2) (.bi .Xg [(.S [(.idx (.L 0) (.Z3 (.int 1))),(.idx (.L 0) (.Z3 (.int 3))),(.idx (.L 0) (.Z3 (.int 5)))])])),(.set (.nm 3) (.S [])),(.for (.nm 4) (.Xw (.idx (.L 1) (.Z3 (.int 0))) (.ZZ .add (.idx (.L 1) (.Z3 (.int 2))) (.Z3 (.int 1)))) [(.for (.nm 5) (.Xw (.idx (.L 2) (.Z3 (.int 0))) (.ZZ .add (.idx (.L 2) (.Z3 (.int 2))) (.Z3 (.int 1)))) [(.Zz (.call 47 [.L 0,(.Z1 [.L 4,.L 5])]) [(.exp (.app (.L 3) (.Z1 [.L 4,.L 5])))] [])])]),(.ret (.L 3))]⟩
def Fy:Fn:=⟨2,5,[(.set (.nm 2) (.bi .abs [.L 0])),(.set (.nm 3) (.bi .abs [.L 1])),(.V9 (.cmp .gt (.L 3) (.Z3 (.int 0))) [(.set (.nm 4) (.ZZ .mod (.L 2) (.L 3))),(.set (.nm 2) (.L 3)),(.set (.nm 3) (.L 4))]),(.Zz (.cmp .lt (.L 1) (.Z3 (.int 0))) [(.set (.nm 2) (.ZZ .sub (.Z3 (.int 0)) (.L 2)))] []),(.ret (.Z1 [(.ZZ .fdiv (.L 0) (.L 2)),(.ZZ .fdiv (.L 1) (.L 2))]))]⟩
def Fx:Fn:=⟨2,10,[(.set (.nm 2) (.call 44 [.L 1])),(.set (.nm 3) (.ZZ .sub (.Z3 (.int 0)) (.Z3 (.int 1)))),(.set (.nm 4) (.Z3 .ZR)),(.set (.nm 5) (.Z3 (.int 1))),(.for (.nm 6) (.call 48 [.L 1]) [(.set (.nm 7) (.call 46 [.L 1,(.idx (.L 6) (.Z3 (.int 0))),(.idx (.L 6) (.Z3 (.int 1))),(.Z3 (.int 1))])),(.set (.nm 5) (.bi .sum [.L 7])),(.set (.nm 8) (.bi .sum [(.comp 1 [0,7,2] [((.nm 0),(.YV (.Z3 (.int 3))),[])] (.ZZ .mul (.idx (.L 2) (.L 0)) (.idx (.L 1) (.idx (.L 3) (.L 0)))))])),(.set (.nm 9) (.bi .abs [(.ZZ .sub (.ZZ .mul (.idx (.L 0) (.L 6)) (.L 5)) (.L 8))])),(.Zz (.cmp .gt (.L 9) (.L 3)) [(.set (.nm 3) (.L 9)),(.set (.nm 4) (.L 6))] [])]),(.ret (.Z1 [(.call 49 [.L 3,.L 5]),.L 4]))]⟩
def Fk:Fn:=⟨2,2,[(.Zz (.cmp .eq (.L 1) (.Z3 (.int 0))) [(.ret (.idx (.S [(.Z3 (.int 0)),(.Z3 (.int 0)),(.Z3 (.int 0)),(.Z3 (.int 0)),(.Z3 (.int 0)),(.Z3 (.int 7)),(.ZZ .sub (.Z3 (.int 0)) (.Z3 (.int 5)))]) (.call 36 [.L 0,(.Z3 (.int 7))])))] []),(.Zz (.cmp .eq (.L 1) (.Z3 (.int 1))) [(.ret (.ZZ .sub (.call 36 [.L 0,(.Z3 (.int 7))]) (.Z3 (.int 3))))] []),(.Zz (.cmp .eq (.L 1) (.Z3 (.int 2))) [(.ret (.ZZ .sub (.call 36 [.L 0,(.Z3 (.int 2001))]) (.Z3 (.int 1000))))] []),(.Zz (.cmp .eq (.L 1) (.Z3 (.int 3))) [(.ret (.ZZ .sub (.ZZ .mul (.call 36 [.L 0,(.Z3 (.int 2))]) (.Z3 (.int 2000))) (.Z3 (.int 1000))))] []),(.ret (.Z3 (.int 0)))]⟩
def ET:Fn:=⟨2,7,[(.set (.nm 2) (.call 36 [.L 0,(.Z3 (.int 6))])),(.set (.nm 3) (.ZZ .sub (.call 36 [.L 0,(.Z3 (.int 41))]) (.Z3 (.int 20)))),(.set (.nm 4) (.ZZ .sub (.call 36 [.L 0,(.Z3 (.int 41))]) (.Z3 (.int 20)))),(.set (.nm 5) .W4),(.for (.nm 6) (.call 38 [.L 1]) [(.sub (.L 5) (.L 6) (.call 51 [.L 0,.L 2])),(.Zz (.cmp .eq (.L 2) (.Z3 (.int 5))) [(.sub (.L 5) (.L 6) (.ZZ .add (.ZZ .add (.ZZ .mul (.L 3) (.idx (.L 6) (.Z3 (.int 0)))) (.ZZ .mul (.L 4) (.idx (.L 6) (.Z3 (.int 1))))) (.idx (.S [(.Z3 (.int 0)),(.Z3 (.int 0)),(.Z3 (.int 0)),(.Z3 (.int 1))]) (.call 36 [.L 0,(.Z3 (.int 4))]))))] [])]),(.ret (.L 5))]⟩
def Fo:Fn:=⟨2,4,[(.set (.nm 2) (.S [])),(.for (.nm 3) (.YV (.ZZ .add (.ZZ .mul (.idx (.L 0) (.Z3 (.int 1))) (.idx (.L 0) (.Z3 (.int 2)))) (.Z3 (.int 1)))) [(.exp (.app (.L 2) (.comp 1 [1,3] [((.nm 0),(.YV (.ZZ .add (.ZZ .mul (.idx (.L 0) (.Z3 (.int 0))) (.idx (.L 0) (.Z3 (.int 2)))) (.Z3 (.int 1)))),[])] (.idx (.L 1) (.Z1 [.L 0,.L 2])))))]),(.ret (.L 2))]⟩
def Ff:Fn:=⟨2,5,[(.set (.nm 2) (.call 40 [.L 1])),(.set (.nm 3) (.idx (.L 2) (.call 36 [.L 0,(.bi .len [.L 2])]))),(.for (.nm 4) (.YV (.call 36 [.L 0,(.Z3 (.int 8))])) [(.Zz (.cmp .VQ (.call 41 [.L 3]) (.Z3 .ZR)) [(.set (.nm 3) (.idx (.call 42 [.L 3]) (.call 36 [.L 0,(.Z3 (.int 2))])))] [])]),(.ret (.L 3))]⟩
def Fe:Fn:=⟨1,3,[(.set (.nm 1) .W4),(.for (.nm 2) (.L 0) [(.sub (.L 1) (.L 2) (.Z3 (.int 0)))]),(.ret (.VN [(PySem.Str.ofString "heights"),(PySem.Str.ofString "edition"),(PySem.Str.ofString "tries"),(PySem.Str.ofString "made"),(PySem.Str.ofString "done"),(PySem.Str.ofString "undone")] [(.bi .dct [.L 0]),(.Z3 (.int 0)),(.Z3 (.int 0)),.L 1,.S [],.S []]))]⟩
def E3:Fn:=⟨3,5,[(.set (.nm 3) (.and (.call 34 [(.YT (.L 0) 243136498 [(211529932,24,[.inl 0])] [] []),(.call 53 [.L 1,(.idx (.L 2) (.Z3 (.str (PySem.Str.ofString "heights"))))])]) (.call 34 [(.fld (.L 0) 232289904 [211529932]),.L 1]))),(.set (.nm 3) (.and (.L 3) (.and (.call 34 [(.fld (.L 0) 487627477906021 [211529932]),(.idx (.L 2) (.Z3 (.str (PySem.Str.ofString "edition"))))]) (.call 34 [(.fld (.L 0) 31083624820 [211529932]),(.idx (.L 2) (.Z3 (.str (PySem.Str.ofString "tries"))))])))),(.for (.nm 4) (.idx (.L 2) (.Z3 (.str (PySem.Str.ofString "made")))) [(.set (.nm 3) (.and (.L 3) (.call 34 [(.YT (.L 0) 27321414899 [(211529932,25,[.inl 0,.inl 1])] [.L 4] []),(.idx (.idx (.L 2) (.Z3 (.str (PySem.Str.ofString "made")))) (.L 4))]))),(.set (.nm 3) (.and (.L 3) (.call 34 [(.YT (.L 0) 4013864678120 [(211529932,23,[.inl 0,.inl 1])] [.L 4] []),(.idx (.idx (.L 2) (.Z3 (.str (PySem.Str.ofString "heights")))) (.L 4))])))]),(.ret (.L 3))]⟩
def DK:Fn:=⟨3,5,[(.Zx [(.set (.nm 3) (.Z3 .ZR))]),(.Vd [(.Wq (.L 2) [(.set (.nm 3) (.YT (.L 0) 27076163554 [(211529932,32,[.inl 0,.inl 1])] [.L 1] []))] [(.set (.nm 3) (.YT (.L 0) 1847527 [(211529932,30,[.inl 0,.inl 1])] [.L 1] []))])] 3 [(0,1,[(.inr (.str (PySem.Str.ofString "refused"))),.inl 0,(.inr (.bl true)),(.inr (.bl false))])]),(.Zx [(.ret (.L 3))])]⟩
def CF:Fn:=⟨1,13,[(.set (.nm 1) (.call 35 [.L 0])),(.set (.nm 2) (.call 37 [.L 1])),(.set (.nm 3) (.call 52 [.L 1,.L 2])),(.set (.nm 4) (.make 211529932 22 [.L 2,(.call 53 [.L 2,.L 3])] [] [.inl 0,.inl 1,.inl 2])),(.set (.nm 5) (.Z3 (.bl true))),(.for (.nm 6) (.YV (.Z3 (.int 8))) [(.set (.nm 7) (.call 54 [.L 1,.L 2])),(.set (.nm 8) (.call 50 [.L 3,.L 7])),(.set (.nm 5) (.and (.L 5) (.call 34 [(.call 57 [.L 4,.L 7,(.Z3 (.bl false))]),.L 8]))),(.set (.nm 5) (.and (.L 5) (.call 34 [(.YT (.L 4) 31121471339 [(211529932,26,[.inl 0,.inl 1])] [.L 7] []),(.Z3 (.bl true))])))]),(.set (.nm 9) (.call 39 [(.call 43 [.L 2])])),(.for (.nm 6) (.YV (.Z3 (.int 3))) [(.set (.nm 10) (.bi .list [(.call 54 [.L 1,.L 2])])),(.set (.nm 11) (.call 36 [.L 1,(.Z3 (.int 6))])),(.set (.nm 12) (.S [(.Z3 (.int 1)),(.ZZ .sub (.Z3 (.int 0)) (.Z3 (.int 1))),(.Z3 (.int 2)),(.idx (.L 2) (.Z3 (.int 2))),(.ZZ .pow (.Z3 (.int 10)) (.Z3 (.int 20)))])),(.sub (.L 10) (.L 11) (.ZZ .add (.idx (.L 10) (.L 11)) (.idx (.L 12) (.call 36 [.L 1,(.Z3 (.int 5))])))),(.Zz (.cmp .eq (.L 6) (.Z3 (.int 2))) [(.set (.nm 10) (.ZZ .add (.WM (.L 10) (some (.Z3 (.int 2))) none) (.WM (.L 10) none (some (.Z3 (.int 2))))))] []),(.set (.nm 7) (.bi .TV [.L 10])),(.set (.nm 8) (.Z1 [(.Z3 (.str (PySem.Str.ofString "refused"))),.L 7,(.Z3 (.bl true)),(.Z3 (.bl false))])),(.set (.nm 5) (.and (.L 5) (.call 34 [(.YT (.L 4) 31121471339 [(211529932,26,[.inl 0,.inl 1])] [.L 7] []),(.cmp .Ve (.L 7) (.L 9))]))),(.Zz (.cmp .X4 (.L 7) (.L 9)) [(.set (.nm 5) (.and (.L 5) (.call 34 [(.call 57 [.L 4,.L 7,(.Z3 (.bl false))]),.L 8]))),(.set (.nm 5) (.and (.L 5) (.call 34 [(.call 57 [.L 4,.L 7,(.Z3 (.bl true))]),.L 8])))] [])]),(.ret (.and (.L 5) (.call 56 [.L 4,.L 2,(.call 55 [.L 3])])))]⟩
def M:List Fn:=[Fw,Fz,Fd,G8,E2,FP,FD,FE,Gk,FA,FR,Gg,FG,FC,FL,FN,FH,Hk,EY,Ft,Fs,FK,ES,EU,Fq,Fc,Fb,DJ,E9,Fh,DL,ER,E8,E6,Fg,Fu,Fp,Fm,EW,Fv,E7,E1,EV,EX,EO,E4,Cj,EZ,E5,Fy,Fx,Fk,ET,Fo,Ff,Fe,E3,DK,CF]
end ZI
end
section
namespace ZI
noncomputable section
open PySem PI L2
def AX:List Inf:=[⟨"is_whole",["thing"],["thing"],none,none⟩,⟨"in_land",["plan","at","wide","deep","side","x","y"],["plan","at"],none,none⟩,⟨"need_place",["plan","at"],["plan","at"],none,none⟩,⟨"places",["plan","wide","deep","side"],["plan"],none,none⟩,⟨"block_roots",["i","j","side","x","y","right","top"],["i","j","side"],none,none⟩,⟨"roots",["plan","wide","deep","side"],["plan"],none,none⟩,⟨"middle",["shape","ax","ay","bx","by"],["shape"],none,none⟩,⟨"halved",["shape","place","x","y","ax","ay","bx","by","cx","cy"],["shape"],none,none⟩,⟨"kin",["starts","told","waiting","shape"],["starts"],none,none⟩,⟨"shapes",["plan"],["plan"],none,none⟩,⟨"turn",["ax","ay","bx","by","at","x","y"],["ax","ay","bx","by","at"],none,none⟩,⟨"box",["shape","ax","ay","bx","by","cx","cy"],["shape"],none,none⟩,⟨"in_box",["shape","at","left","low","right","high","x","y"],["shape","at"],none,none⟩,⟨"covers",["shape","at","ax","ay","bx","by","cx","cy","turns"],["shape","at"],none,none⟩,⟨"under",["shape","left","low","right","high"],["shape"],none,none⟩,⟨"share",["over","under","divisor"],["over","under"],none,none⟩,⟨"common",["one","other"],["one","other"],none,none⟩,⟨"less",["one","other"],["one","other"],none,none⟩,⟨"need_height",["at","high"],["at","high"],none,none⟩,⟨"need_size",["things","size"],["things","size"],none,none⟩,⟨"read_rows",["plan","rows","wide","deep","side","row","heights","y","x","high"],["plan","rows"],none,none⟩,⟨"plane",["shape","highs","ax","ay","bx","by","cx","cy","start","first","second","whole","rise","climb"],["shape","highs"],none,none⟩,⟨"Land.__init__",["self","plan","rows"],["self","plan","rows"],some ("Land","__init__"),some (⟨["self","plan","rows"],[],[("rows",.ZR)]⟩,1)⟩,⟨"Land.height",["self","at"],["self","at"],some ("Land","height"),some (⟨["self","at"],[],[]⟩,0)⟩,⟨"Land.rows",["self","wide","deep","side"],["self"],some ("Land","rows"),some (⟨["self"],[],[]⟩,0)⟩,⟨"Land.since",["self","at"],["self","at"],some ("Land","since"),some (⟨["self","at"],[],[]⟩,0)⟩,⟨"Land.knows",["self","shape"],["self","shape"],some ("Land","knows"),some (⟨["self","shape"],[],[]⟩,0)⟩,⟨"Land.need_triangle",["self","shape"],["self","shape"],some ("Land","need_triangle"),some (⟨["self","shape"],[],[]⟩,0)⟩,⟨"Land.highs",["self","shape","ax","ay","bx","by","cx","cy"],["self","shape"],some ("Land","highs"),some (⟨["self","shape"],[],[]⟩,0)⟩,⟨"Land.flat",["self","shape"],["self","shape"],some ("Land","flat"),some (⟨["self","shape"],[],[]⟩,0)⟩,⟨"Land.gap",["self","shape"],["self","shape"],some ("Land","gap"),some (⟨["self","shape"],[],[]⟩,0)⟩,⟨"Land.reckoned",["self","shape","rise","climb","base","whole","greatest","where","x","y","distance"],["self","shape"],some ("Land","reckoned"),some (⟨["self","shape"],[],[]⟩,0)⟩,⟨"Land.bound",["self","shape","greatest","each","error"],["self","shape"],some ("Land","bound"),some (⟨["self","shape"],[],[]⟩,0)⟩,⟨"_law_whole",["_law_found"],["_law_found"],none,none⟩,⟨"_law_same",["_law_found","_law_due","_law_k"],["_law_found","_law_due"],none,none⟩,⟨"_law_bag",["_law_script"],["_law_script"],none,none⟩,⟨"_law_draw",["_law_bag_here","_law_many","_law_cells","_law_at","_law_cell"],["_law_bag_here","_law_many"],none,none⟩,⟨"_law_plan",["_law_bag_here","_law_menu"],["_law_bag_here"],none,none⟩,⟨"_law_places",["_law_plan_here","_law_found","_law_x","_law_y"],["_law_plan_here"],none,none⟩,⟨"_law_set",["_law_some","_law_found","_law_thing"],["_law_some"],none,none⟩,⟨"_law_roots",["_law_plan_here","_law_found","_law_side","_law_i","_law_j","_law_x","_law_y"],["_law_plan_here"],none,none⟩,⟨"_law_middle",["_law_shape_here"],["_law_shape_here"],none,none⟩,⟨"_law_halves",["_law_shape_here","_law_at","_law_one","_law_two"],["_law_shape_here"],none,none⟩,⟨"_law_shapes",["_law_plan_here","_law_found","_law_todo","_law_shape_here"],["_law_plan_here"],none,none⟩,⟨"_law_corners_of",["_law_shape_here"],["_law_shape_here"],none,none⟩,⟨"_law_cross",["_law_one","_law_two","_law_three","_law_first"],["_law_one","_law_two","_law_three"],none,none⟩,⟨"_law_weigh",["_law_shape_here","_law_x","_law_y","_law_scale","_law_a","_law_b","_law_c","_law_spot","_law_sign","_law_one","_law_two"],["_law_shape_here","_law_x","_law_y","_law_scale"],none,none⟩,⟨"_law_covers",["_law_shape_here","_law_at","_law_wide","_law_tall","_law_inner"],["_law_shape_here","_law_at"],none,none⟩,⟨"_law_under",["_law_shape_here","_law_wide","_law_tall","_law_found","_law_x","_law_y"],["_law_shape_here"],none,none⟩,⟨"_law_low",["_law_gain","_law_base","_law_one","_law_two","_law_rest"],["_law_gain","_law_base"],none,none⟩,⟨"_law_gap",["_law_heights_here","_law_shape_here","_law_tips","_law_best","_law_spot","_law_total","_law_at","_law_parts","_law_plane","_law_away"],["_law_heights_here","_law_shape_here"],none,none⟩,⟨"_law_high",["_law_bag_here","_law_kind"],["_law_bag_here","_law_kind"],none,none⟩,⟨"_law_heights",["_law_bag_here","_law_plan_here","_law_kind","_law_across","_law_along","_law_found","_law_at"],["_law_bag_here","_law_plan_here"],none,none⟩,⟨"_law_rows",["_law_plan_here","_law_heights_here","_law_found","_law_y"],["_law_plan_here","_law_heights_here"],none,none⟩,⟨"_law_shape",["_law_bag_here","_law_plan_here","_law_some","_law_shape_here","_law_turn"],["_law_bag_here","_law_plan_here"],none,none⟩,⟨"_law_model",["_law_heights_here","_law_made","_law_at"],["_law_heights_here"],none,none⟩,⟨"_law_stands",["_law_land","_law_plan_here","_law_model_here","_law_good","_law_at"],["_law_land","_law_plan_here","_law_model_here"],none,none⟩,⟨"_law_told",["_law_land","_law_shape_here","_law_deep","_law_told_here","e"],["_law_land","_law_shape_here","_law_deep"],none,none⟩,⟨"law",["_law_script","_law_bag_here","_law_plan_here","_law_heights_here","_law_land","_law_good","_law_k","_law_shape_here","_law_due","_law_known","_law_numbers","_law_at","_law_more"],["_law_script"],none,none⟩]
def ms:List Str:=["__init__","bound","flat","gap","height","highs","knows","need_triangle","reckoned","rows","since"]
def T:Tab:=⟨(["is_whole","in_land","need_place","places","block_roots","roots","middle","halved","kin","shapes","turn","box","in_box","covers","under","share","common","less","need_height","need_size","read_rows","plane","__debug__","__debug__","__debug__","__debug__","__debug__","__debug__","__debug__","__debug__","__debug__","__debug__","__debug__","_law_whole","_law_same","_law_bag","_law_draw","_law_plan","_law_places","_law_set","_law_roots","_law_middle","_law_halves","_law_shapes","_law_corners_of","_law_cross","_law_weigh","_law_covers","_law_under","_law_low","_law_gap","_law_high","_law_heights","_law_rows","_law_shape","_law_model","_law_stands","_law_told","law"].map Str.ofString),[("HIGH",(.int 1000))],["abs","bool","dict","enumerate","int","isinstance","len","list","max","min","range","sorted","str","sum","tuple"],DB AX,DF AX,De AX ms,[("plan",[211529932]),("edition",[211529932]),("tries",[211529932]),("dates",[211529932]),("done",[211529932]),("undone",[211529932]),("gaps",[211529932]),("heights",[211529932]),("shape",[211529932])],[("Land",211529932)],["_law_land"],["Land.need_triangle","Land.gap","Land.bound","_law_told"],[("NoTriangle",["shape"],[("LookError",true),("LandError",false)])],DE AX ["Land.need_triangle","Land.gap","Land.bound","_law_told"]⟩
def loose:List Str:=(["_wall","LandError","LookError","NoShare","BadSize","BadHeight","NoHalf","NoPlace","NoTriangle","NothingLeft","is_whole","in_land","need_place","places","block_roots","roots","middle","halved","kin","shapes","turn","box","in_box","covers","under","share","common","less","HIGH","need_height","need_size","read_rows","touched","plane","Land","_law_whole","_law_same","_law_bag","_law_draw","_law_plan","_law_places","_law_set","_law_roots","_law_middle","_law_halves","_law_shapes","_law_corners_of","_law_cross","_law_weigh","_law_covers","_law_under","_law_low","_law_gap","_law_high","_law_heights","_law_rows","_law_shape","_law_model","_law_stands","_law_told"].map Str.ofString)
end
end ZI
end
section
open PySem PySem.W PyProof.Rows
noncomputable def ZI.Wp:List (Option (Scope×List Stmt)):=[PI.Ae #[0] 12,PI.Ae #[0] 13,PI.Ae #[0] 14,PI.Ae #[0] 15,PI.Ae #[0] 17,PI.Ae #[0] 18,PI.Ae #[0] 19,PI.Ae #[0] 20,PI.Ae #[0] 21,PI.Ae #[0] 22,PI.Ae #[0] 23,PI.Ae #[0] 24,PI.Ae #[0] 25,PI.Ae #[0] 26,PI.Ae #[0] 27,PI.Ae #[0] 29,PI.Ae #[0] 30,PI.Ae #[0] 31,PI.Ae #[0] 34,PI.Ae #[0] 35,PI.Ae #[0] 36,PI.Ae #[0] 38,PI.Bj #[0] 39 0,PI.Bj #[0] 39 2,PI.Bj #[0] 39 3,PI.Bj #[0] 39 4,PI.Bj #[0] 39 12,PI.Bj #[0] 39 13,PI.Bj #[0] 39 14,PI.Bj #[0] 39 15,PI.Bj #[0] 39 16,PI.Bj #[0] 39 17,PI.Bj #[0] 39 18,PI.Ae #[0] 41,PI.Ae #[0] 42,PI.Ae #[0] 43,PI.Ae #[0] 44,PI.Ae #[0] 45,PI.Ae #[0] 46,PI.Ae #[0] 47,PI.Ae #[0] 48,PI.Ae #[0] 49,PI.Ae #[0] 50,PI.Ae #[0] 51,PI.Ae #[0] 52,PI.Ae #[0] 53,PI.Ae #[0] 54,PI.Ae #[0] 55,PI.Ae #[0] 56,PI.Ae #[0] 57,PI.Ae #[0] 58,PI.Ae #[0] 59,PI.Ae #[0] 60,PI.Ae #[0] 61,PI.Ae #[0] 62,PI.Ae #[0] 63,PI.Ae #[0] 64,PI.Ae #[0] 65,PI.Ae #[0] 66]
def ZI.S3(w:World):(PI.endsF PySem.Challenge.rw_braemantle_k37_gaps.prog w 20000).map (λs=>(Fast.tw4187177175401517315 (PI.lastOf PySem.Challenge.rw_braemantle_k37_gaps.prog) ZI.loose (PySem.importedModules #[0]) (λ_=>true) true s,PI.EK ZI.T (PI.A1 s.heap) ZI.AX))=some (openGood (PI.lastOf PySem.Challenge.rw_braemantle_k37_gaps.prog) ZI.loose,true):=by kernel_rfl
def ZI.chk1(w:World):(PI.endsF PySem.Challenge.rw_braemantle_k37_gaps.prog w 20000).map (λs=>(ZI.AX.take 26).map (PI.BC (PI.A1 s.heap)))=some (ZI.Wp.take 26):=by kernel_rfl
def ZI.chk2(w:World):(PI.endsF PySem.Challenge.rw_braemantle_k37_gaps.prog w 20000).map (λs=>((ZI.AX.drop 26).take 26).map (PI.BC (PI.A1 s.heap)))=some ((ZI.Wp.drop 26).take 26):=by kernel_rfl
def ZI.chk3(w:World):(PI.endsF PySem.Challenge.rw_braemantle_k37_gaps.prog w 20000).map (λs=>((ZI.AX.drop 52).take 7).map (PI.BC (PI.A1 s.heap)))=some ((ZI.Wp.drop 52).take 7):=by kernel_rfl
def ZI.part0:PI.Ab (((ZI.AX.zip ZI.Wp).take 19).map (PI.mkF ZI.T))=some (ZI.M.take 19):=by kernel_rfl
def ZI.part1:PI.Ab ((((ZI.AX.zip ZI.Wp).drop 19).take 13).map (PI.mkF ZI.T))=some ((ZI.M.drop 19).take 13):=by kernel_rfl
def ZI.part2:PI.Ab ((((ZI.AX.zip ZI.Wp).drop 32).take 8).map (PI.mkF ZI.T))=some ((ZI.M.drop 32).take 8):=by kernel_rfl
def ZI.part3:PI.Ab ((((ZI.AX.zip ZI.Wp).drop 40).take 8).map (PI.mkF ZI.T))=some ((ZI.M.drop 40).take 8):=by kernel_rfl
def ZI.part4:PI.Ab ((((ZI.AX.zip ZI.Wp).drop 48).take 8).map (PI.mkF ZI.T))=some ((ZI.M.drop 48).take 8):=by kernel_rfl
def ZI.part5:PI.Ab ((((ZI.AX.zip ZI.Wp).drop 56).take 3).map (PI.mkF ZI.T))=some ((ZI.M.drop 56).take 3):=by kernel_rfl
end
variable{xs J ZW:List PI.U}{u:PI.U}{o' c e' elt Zl Zy:PI.E}{tb hs:List (Nat×Nat×List (Nat ⊕ PI.U))}{op:PI.Op}{O:List (List Int×PI.U)}{pm:List (Nat ⊕ PI.U)}{ZL cs:List PI.E}{is:List PI.Inf}{ZD:List (PI.Tg×PI.E×List PI.E)}{YZ:List PI.Z5}{ce:PySem.Expr->Option PI.E}
namespace L2
open PySem PySem.Spec PyProof.Rows
abbrev Key:=Sum Int Str
def Ca:Key->Value->Bool
 |.inl k,v=>Value.isInt k v
 |.inr x,v=>Value.isStrOf x v
def IS(w:World):Key->Int
 |.inl k=>hashInt k
 |.inr x=>hashStr w x
def aZ:∀{k:Key} {v:Value},Ca k v=true->(∃i t,k=Sum.inl i/\v=Value.int i t)\/(∃x t,k=Sum.inr x/\v=Value.str x t)
 |.inl i,v,h=>by
  let⟨t,e⟩:=Value.isInt_shape (k:=i) (v:=v) h;exact .inl ⟨i,t,rfl,e⟩
 |.inr x,v,h=>by
  let⟨t,e⟩:=Value.isStrOf_shape (x:=x) (v:=v) h;exact .inr ⟨x,t,rfl,e⟩
def rC(i:Int)(t:Tok):Ca (.inl i) (.int i t)=true:=by simp[Ca,Value.isInt]
def rq(x:Str)(t:Tok):Ca (.inr x) (.str x t)=true:=by simp[Ca,Value.isStrOf]
def aau(a b:Int):decide ((Sum.inl a:Key)=Sum.inl b)=(a==b):=by
 by_cases e:a=b
 .subst e;simp
 .have h : ¬ (Sum.inl a:Key)=Sum.inl b:=λq=>e (Sum.inl.inj q)
  rw[Sa h];exact(TL.mpr e).symm
def w5(a b:Str):decide ((Sum.inr a:Key)=Sum.inr b)=decide (a=b):=by
 by_cases e:a=b
 .subst e;simp
 .have h : ¬ (Sum.inr a:Key)=Sum.inr b:=λq=>e (QQ q)
  rw[Sa h,Sa e]
def zH(a:Int)(b:Str):decide ((Sum.inl a:Key)=Sum.inr b)=false:=Sa (λq=>nomatch q)
def yS(a:Str)(b:Int):decide ((Sum.inr a:Key)=Sum.inl b)=false:=Sa (λq=>nomatch q)
def AD(prog:Program)(w:World):PySem.KeyKind prog w Key where
 is:=Ca
 hash:=IS w
 inj:=λv a b ha hb=>by
  rcases aZ ha with⟨i,t,rfl,rfl⟩|⟨x,t,rfl,rfl⟩
  .rcases aZ hb with⟨j,u,rfl,e⟩|⟨y,u,rfl,e⟩
   .injection e with e1 _;rw[e1]
   .exact nomatch e
  .rcases aZ hb with⟨j,u,rfl,e⟩|⟨y,u,rfl,e⟩
   .exact nomatch e
   .injection e with e1 _;rw[e1]
 byValue:=λk v h=>by
  rcases aZ h with⟨i,t,rfl,rfl⟩|⟨x,t,rfl,rfl⟩<;>rfl
 pyHash:=λhv h=>by
  rcases aZ hv with⟨i,t,rfl,rfl⟩|⟨x,t,rfl,rfl⟩
  .exact wpAny_pyHash_int h
  .exact wpAny_pyHash_str h
 eqBool:=λhu hv h=>by
  rcases aZ hu with⟨i,t,rfl,rfl⟩|⟨x,t,rfl,rfl⟩
  .rcases aZ hv with⟨j,u,rfl,rfl⟩|⟨y,u,rfl,rfl⟩
   .rw [aau]at h;exact wpAny_eqBool_int h
   .rw [zH]at h;exact SeqAt.EqAt.int_str i t y u _ _ _ _ h
  .rcases aZ hv with⟨j,u,rfl,rfl⟩|⟨y,u,rfl,rfl⟩
   .rw [yS]at h;exact SeqAt.EqAt.str_int x t j u _ _ _ _ h
   .rw [w5]at h;exact wpAny_eqBool_str h
 «strs»:=λk x t v h=>by
  rcases aZ h with⟨i,u,rfl,e⟩|⟨y,u,rfl,e⟩
  .exact nomatch e
  .injection e with e1 _
   subst e1;cases v<;>rfl
def ph(prog:Program)(w:World)(i:Int)(t:Tok):(AD prog w).is (.inl i) (.int i t)=true:=rC i t
def pz(prog:Program)(w:World)(x:Str)(t:Tok):(AD prog w).is (.inr x) (.str x t)=true:=rq x t
end L2
namespace L2
open PySem PySem.Spec PyProof.Rows
inductive V where
 |ZR|bl (b:Bool)|int (i:Int)|str (x:Str)|Xe (b:Array UInt8)|Vb (b:UInt64)|ref (a:Addr)|ty (n:String)
 deriving DecidableEq
def RelV:V->Value->Prop
 |.ZR,u=>u=Value.none
 |.bl b,u=>u=Value.bool b
 |.int i,u=>∃t,u=Value.int i t
 |.str x,u=>∃t,u=Value.str x t
 |.Xe b,u=>∃t,u=Value.bytes b t
 |.Vb b,u=>∃t,u=Value.float b t
 |.ref a,u=>u=Value.ref a
 |.ty n,u=>u=Value.type n
abbrev ZK:List V->List Value->Prop:=Paired RelV
def ZK.length{xs:List V}{J:List Value}(r:ZK xs J):xs.length=J.length:=RQ r
def ZK.get:∀{xs:List V} {J:List Value} {i:Nat} {x:V},ZK xs J->xs[i]?=some x ->∃u,J[i]?=some u/\RelV x u
 |_,_,_,_,.nil,e=>by simp at e
 |_,_,0,_,.cons r _,e=>by simp at e;subst e;exact⟨_,rfl,r⟩
 |_,_,i+1,x,.cons _ t,e=>by
  let⟨u,h1,h2⟩:=ZK.get (i:=i) (x:=x) t (by simpa using e)
  exact⟨u,by simpa using h1,h2⟩
def ZK.set{x:V}{u:Value}(r:RelV x u):∀{xs:List V} {J:List Value} (i:Nat),ZK xs J->ZK (xs.set i x) (J.set i u)
 |_,_,_,.nil=>.nil
 |_,_,0,.cons _ t=>.cons r t
 |_,_,i+1,.cons q t=>.cons q (ZK.set r i t)
def ZK.append:∀{xs ys:List V} {J ws:List Value},ZK xs J->ZK ys ws->ZK (xs++ys) (J++ws)
 |_,_,_,_,.nil,s=>s
 |_,_,_,_,.cons r t,s=>.cons r (ZK.append t s)
def ZK.take:∀{xs:List V} {J:List Value} (n:Nat),ZK xs J->ZK (xs.take n) (J.take n)
 |_,_,0,_=>.nil
 |_,_,_+1,.nil=>.nil
 |_,_,n+1,.cons r t=>.cons r (ZK.take n t)
def ZK.drop:∀{xs:List V} {J:List Value} (n:Nat),ZK xs J->ZK (xs.drop n) (J.drop n)
 |_,_,0,r=>r
 |_,_,_+1,.nil=>.nil
 |_,_,n+1,.cons _ t=>ZK.drop n t
def RelO:Option V->Option Value->Prop
 |some v,some u=>RelV v u
 |none,none=>True
 |_,_=>False
def KV{a:Type}:List (a×V)->List (a×Value)->Prop:=Paired λ(p:a×V) (q:a×Value)=>p.1=q.1/\RelV p.2 q.2
def IT:Key->V
 |.inl i=>.int i
 |.inr x=>.str x
set_option genInjectivity false in
inductive HO where
 |S (xs:List V)
 |Z1 (xs:List V)
 |dK (O:List (Key×V))|dT (O:List (List Key×V))
 |set (Z5:Int->Bool) (n:Nat)
 |ins (C dx:Addr) (fs:List (Str×V))
 |own (x:Addr)
 |xd (fs:List (Str×V))
 |met (f x:Addr)
 |YS (lo hi:Int)
 |Zw (o:Obj) (u:HO)
 |V8 (ps:Array Value)
 |ext (φ:Heap->Prop)
abbrev Hp:=Addr->Option HO
def upd(H:Hp)(a:Addr)(o:HO):Hp:=λb=>if b=a then some o else H b
def upd_same{H:Hp}{o:HO}:upd H a o a=some o:=by unfold upd;rw[XN rfl]
def aa{H:Hp}{b:Addr}{o:HO}(h:b≠a):upd H a o b=H b:=by unfold upd;rw[Xy h]
def uY{H:Hp}{o u:HO}:upd (upd H a o) a u=upd H a u:=by
 funext b;unfold upd;split<;>rfl
def cJ{H:Hp}{b:Addr}{o u:HO}(h:H a=some o)(h':H b=some u)(d:o≠u):a≠b:=by
 intro e;subst e;rw[h]at h';exact d (WY h')
def aK{H:Hp}{b:Addr}{o:HO}(h:H a=some o)(h':H b=none):a≠b:=by
 intro e;subst e;rw[h]at h';cases h'
section
variable(P:Program)(w:World)
def ObjOk(H:Hp)(h:Heap)(a:Addr):HO->Prop
 |.S xs=>xs.length<=sizeLine /\∃(ZY:List Value) (n:Nat),ZK xs ZY/\h.get? a=some {cls:=.type "list",data:=.seq ZY.toArray n}
 |.Z1 xs=>xs.length<=sizeLine /\∃ZY:List Value,ZK xs ZY/\IsTup h a ZY.toArray
 |.dK O=>O.length<=sizeLine/\(a==sysModules)=false /\∃vs,KV O vs/\h.DictOf (AD P w) a vs
 |.dT O=>O.length<=sizeLine/\(a==sysModules)=false /\∃xs:List (List Key×Addr×Value),
   Paired (λ(p:List Key×V) (q:List Key×Addr×Value)=>p.1=q.1/\H q.2.1=some (.Z1 (p.1.map IT))/\RelV p.2 q.2.2) O xs /\
   ∃o es ep,h.get? a=some o/\o.ExactDict/\o.data=.dict es ep/\es.toList=xs.map (entryOfKey (tupleKind (AD P w)))/\(xs.map (·.1)).Nodup
 |.set Z5 n=>h.SetOf (intKind P w) a Z5 n
 |.ins C dx fs=>H dx=some (.own a)/\fs.length<=1000/\dx≠a/\h.get? a=some (PySem.W.instObj C dx) /\
   ∃mA,h.Ns1 dx mA/\(∀f,RelO (fs.lookup f) (mA f))/\PySem.Within mA (fs.map (·.1))
 |.own _=>∃o,h.get? a=some o
 |.xd fs=>∃mA,h.Ns1 a mA /\∀f,RelO (fs.lookup f) (mA f)
 |.YS lo hi=>∃t u v,h.get? a=some {cls:=.type "range",data:=.fields #[.int lo t,.int hi u,.int 1 v]}
 |.Zw o u=>h.get? a=some o/\ObjOk H h a u
 |.V8 ps=>h.get? a=some {cls:=.none,data:=.fields ps}
 |.met f x=>h.get? a=some (PySem.W.methodObj (.ref f) (.ref x))
 |.ext c=>c h/\(∃o,h.get? a=some o) /\∀h1 h2:Heap,c h1->(∀o,h1.get? a=some o->h2.get? a=some o)->c h2
def HOk(H:Hp)(h:Heap):Prop:=∀a o,H a=some o->ObjOk P w H h a o
end
section
variable{H H':Hp}{o:HO}
def ObjOk.lt(x:ObjOk P w H h a o):a<h.objs.size:=by
 cases o with
 |S xs=>let⟨_,_,_,_,e⟩:=x;exact HN e
 |Z1 xs=>let⟨_,_,_,p⟩:=x;exact p.lt
 |dK O=>let⟨_,_,_,_,o,_,_,e,_⟩:=x;exact HN e
 |dT O=>let⟨_,_,_,_,o,_,_,e,_⟩:=x;exact HN e
 |set Z5 n=>let⟨o,_,_,_,e,_⟩:=x;exact HN e
 |ins C dx fs=>let⟨_,_,_,e,_⟩:=x;exact HN e
 |own y=>let⟨_,e⟩:=x;exact HN e
 |xd fs=>let⟨_,⟨_,_,_,e,_⟩,_⟩:=x;exact HN e
 |YS lo hi=>let⟨_,_,_,e⟩:=x;exact HN e
 |Zw ob u=>let⟨e,_⟩:=x;exact HN e
 |ext b=>let⟨_,⟨_,e⟩,_⟩:=x;exact HN e
 |_=>exact HN (show h.get? a=some _ from x)
def Paired.Tv{d c:Type}{F G:d->c->Prop}:∀{S0 : List d} {SY : List c},Paired F S0 SY -> (∀a b,F a b->G a b)->Paired G S0 SY
 |_,_,.nil,_=>.nil
 |_,_,.cons r t,f=>.cons (f _ _ r) (Paired.Tv t f)
def ObjOk.Yv(x:ObjOk P w H h a o)(k:∀b u,(b=a\/H b=some (.own a))->h.get? b=some u->h'.get? b=some u)
  (j:∀b,H b=some (.own a)->H' b=some (.own a)) (i:∀b xs,H b=some (.Z1 xs)->H' b=some (.Z1 xs)):ObjOk P w H' h' a o:=by
 induction o with
 |S xs=>let⟨z,ZY,n,r,e⟩:=x;exact⟨z,ZY,n,r,k _ _ (.inl rfl) e⟩
 |Z1 xs=>let⟨z,ZY,r,ob,e,c⟩:=x;exact⟨z,ZY,r,ob,k _ _ (.inl rfl) e,c⟩
 |dK O=>let⟨z,y,vs,r,ob,es,ep,e,c⟩:=x;exact⟨z,y,vs,r,ob,es,ep,k _ _ (.inl rfl) e,c⟩
 |dT O=>
  let⟨z,y,xs,r,ob,es,ep,e,c⟩:=x;exact⟨z,y,xs,Paired.Tv r λp q z=>⟨z.1,i _ _ z.2.1,z.2.2⟩,ob,es,ep,k _ _ (.inl rfl) e,c⟩
 |set Z5 n=>let⟨ob,es,ep,t,e,c⟩:=x;exact⟨ob,es,ep,t,k _ _ (.inl rfl) e,c⟩
 |ins C dx fs=>
  let⟨d,z,g,e,mA,⟨od,es,ep,l,c⟩,r⟩:=x;exact⟨j _ d,z,g,k _ _ (.inl rfl) e,mA,⟨od,es,ep,k _ _ (.inr d) l,c⟩,r⟩
 |own y=>let⟨ob,e⟩:=x;exact⟨ob,k _ _ (.inl rfl) e⟩
 |xd fs=>let⟨mA,⟨od,es,ep,e,c⟩,r⟩:=x;exact⟨mA,⟨od,es,ep,k _ _ (.inl rfl) e,c⟩,r⟩
 |YS lo hi=>let⟨t,u,v,e⟩:=x;exact⟨t,u,v,k _ _ (.inl rfl) e⟩
 |Zw ob u ih=>let⟨e,q⟩:=x;exact⟨k _ _ (.inl rfl) e,ih q⟩
 |V8 ps=>
  have e:h.get? a=some {cls:=.none,data:=.fields ps}:=x;show h'.get? a=some {cls:=.none,data:=.fields ps};exact k a _ (.inl rfl) e
 |met f y=>
  have e:h.get? a=some (PySem.W.methodObj (.ref f) (.ref y)):=x;show h'.get? a=some (PySem.W.methodObj (.ref f) (.ref y));exact k a _ (.inl rfl) e
 |ext m=>let⟨p,⟨o,e⟩,st⟩:=x;exact⟨st _ _ p λo q=>k _ _ (.inl rfl) q,⟨o,k _ _ (.inl rfl) e⟩,st⟩
def HOk.lt(x:HOk P w H h)(e:H a=some o):a<h.objs.size:=(x a o e).lt
def HOk.fresh(x:HOk P w H h)(e:h.objs.size<=a):H a=none:=by
 cases q:H a with
 |none=>rfl
 |some u=>exact absurd (HU (x.lt q) e) (T7 _)
def HOk.kept(x:HOk P w H h)(k:∀b u,h.get? b=some u->h'.get? b=some u):HOk P w H h':=λa o e=>
 (x a o e).Yv (λb u _ q=>k b u q) (λ_ q=>q) λ_ _ q=>q
def HOk.laid(x:HOk P w H h)(k:∀b u,h.get? b=some u->h'.get? b=some u)(hp:h.objs.size<=a)(d:ObjOk P w (upd H a o) h' a o):HOk P w (upd H a o) h':=λb u e=>by
 have f:=x.fresh hp;by_cases g:b=a
 .subst g;rw[upd_same]at e;cases e;exact d
 .rw [aa g]at e
  exact(x b u e).Yv (λc v _ q=>k c v q) (λc q=>by rw[aa (aK q f)];exact q) λc xs q=>by rw[aa (aK q f)];exact q
end
def Rd(H:Hp)(a:Addr)(u:HO):Prop:=H a=some u \/∃o,H a=some (.Zw o u)
def Rd.ok{H:Hp}{u:HO}(r:Rd H a u)(x:HOk P w H h):ObjOk P w H h a u:=by
 rcases r with r|⟨o,r⟩
 .exact x a u r
 .obtain ⟨_,q⟩:=x a _ r
  exact q
def Mut:Option HO->Prop
 |some (.S _)=>True
 |some (.dK _)=>True
 |some (.dT _)=>True
 |some (.set _ _)=>True
 |some (.ins _ _ _)=>True
 |some (.ext _)=>True
 |_=>False
section
variable{H:Hp}{x e:Addr}{o':HO}
def HOk.write(n:HOk P w H h)(d:Mut (H x))(l:e=x\/H e=some (.own x))(k:∀b u,b≠e->h.get? b=some u->h'.get? b=some u)(p:∃u,h'.get? e=some u)
  (i:ObjOk P w (upd H x o') h' x o'):HOk P w (upd H x o') h':=λb u q=>by
 have m:∀c y,H c=some (.own y)->c≠x:=λc y r z=>by subst z;rw[r]at d;exact d
 have a:∀c xs,H c=some (.Z1 xs)->c≠x:=λc xs r z=>by subst z;rw[r]at d;exact d
 by_cases f:b=x
 .subst f;rw[upd_same]at q;cases q;exact i
 .rw [aa f]at q
  by_cases g:b=e
  .have j:H b=some (.own x):=by
    rcases l with z|z
    .exact absurd (g.trans z) f
    .rw [g];exact z
   rw[q]at j;cases j;let⟨v,o⟩:=p;exact⟨v,by rw[g];exact o⟩
  .refine (n b u q).Yv (λc v hc r=>k c v ?_ r) (λc r=>by rw[aa (m c b r)];exact r) λc xs r=>by rw[aa (a c xs r)];exact r
   rcases hc with rfl|hc
   .exact g
   .rintro rfl
    rcases l with z|z
    .exact m c b hc z
    .rw [hc]at z;cases z;exact f rfl
end
structure Un(fs ex:List Addr)(H H':Hp)(h h':Heap):Prop where
 keep:∀b o,h.get? b=some o->H b=none->b ∉ fs->b ∉ ex->h'.get? b=some o
 slot:∀b o,h.get? b=some o->H b=none->b∈fs->b ∉ ex ->∃sl,h'.get? b=some {o with slots:=sl}
 free:∀b o,h.get? b=some o->H b=none->b ∉ ex->H' b=none
 there:∀b o,h.get? b=some o->b ∉ ex ->∃o',h'.get? b=some o'
 Xv:∀b xs,H b=some (.Z1 xs)->H' b=some (.Z1 xs)
 XI:∀b o u,H b=some (.Zw o u)->H' b=some (.Zw o u)
 Xu:∀b ps,H b=some (.V8 ps) ->∃more,H' b=some (.V8 (ps++more))
section
variable{fs fs' ex ex':List Addr}{H H1 H2:Hp}{h1 h2:Heap}{x e:Addr}{o:HO}
def Un.any(u:Un fs ex H H1 h h1){b:Addr}{a:Obj}(q:h.get? b=some a)(n:H b=none)(hx:b ∉ ex):∃d,h1.get? b=some {a with slots:=d}:=by
 by_cases c:b∈fs
 .exact u.slot b a q n c hx
 .exact ⟨a.slots,u.keep b a q n c hx⟩
def Un.kept(k:∀b u,h.get? b=some u->h'.get? b=some u):Un fs ex H H h h':=
 ⟨λb ob q _ _ _=>k b ob q,λb ob q _ _ _=>⟨ob.slots,k b ob q⟩,λ_ _ _ n _=>n,λb ob q _=>⟨ob,k b ob q⟩,λ_ _ q=>q,λ_ _ _ q=>q,λ_ ps q=>⟨#[],by rw[q];simp⟩⟩
def Un.refl:Un fs ex H H h h:=Un.kept λ_ _ q=>q
def Un.laid(k:∀b u,h.get? b=some u->h'.get? b=some u)(hp:h.objs.size<=a)(hn:H a=none):Un fs ex H (upd H a o) h h' where
 keep:=λb u q _ _ _=>k b u q
 slot:=λb u q _ _ _=>⟨u.slots,k b u q⟩
 free:=λb u q n _=>by rw[aa (HV (HU (HN q) hp))];exact n
 there:=λb u q _=>⟨u,k b u q⟩
 Xv:=λb xs q=>by rw[aa (aK q hn)];exact q
 XI:=λb u xs q=>by rw[aa (aK q hn)];exact q
 Xu:=λb ps q=>⟨#[],by rw[aa (aK q hn),q];simp⟩
def Un.write(a:Mut (H x))(j:e=x\/H e=some (.own x))(k:∀b u,b≠e->h.get? b=some u->h'.get? b=some u)(t:∃u,h'.get? e=some u):Un fs ex H (upd H x o) h h':=by
 have d:∀b,H b=none->b≠x:=λb n z=>by subst z;rw[n]at a;exact a
 have f:∀b,H b=none->b≠e:=λb n z=>by
  subst z;rcases j with r|r
  .exact d b n r
  .rw [n]at r;cases r
 have c:∀b u,H b=some u -> ¬ Mut (some u)->b≠x:=λb u q nm z=>by subst z;rw[q]at a;exact nm a
 refine ⟨λb u q n _ _=>k b u (f b n) q,λb u q n _ _=>⟨u.slots,k b u (f b n) q⟩,λb u q n _=>by rw [aa (d b n)];exact n,λb u q _ => ?_,
  λb xs q=>by rw[aa (c b _ q λz=>z)];exact q,λb u xs q=>by rw[aa (c b _ q λz=>z)];exact q,λb ps q=>⟨#[],by rw[aa (c b _ q λz=>z),q];simp⟩⟩
 by_cases g:b=e
 .subst g;exact t
 .exact ⟨u,k b u g q⟩
end
def IU(h:Heap)(H:Hp):List Addr:=(List.range h.objs.size).filter λa=>(H a).isSome
def BD(h:Heap)(H:Hp):Heap:=PySem.W.hideAll h (IU h H)
def qy(h:Heap)(H:Hp):(BD h H).objs.size=h.objs.size:=PySem.W.hideAll_size _ _
def si{H:Hp}{b:Addr}{o:Obj}(e:h.get? b=some o)(n:H b=none):(BD h H).get? b=some o:=
 PySem.W.hideAll_get _ e λa=>by
  have q:(H b).isSome=true:=(Pe.mp a).2;rw[n]at q;simp at q
def uA{H:Hp}{b:Addr}{o:Obj}(e:(BD h H).get? b=some o):h.get? b=some o/\H b=none:=by
 have e':h.get? b=some o:=PySem.W.of_hideAll (IU h H) e;refine⟨e',?_⟩;cases q:H b with
 |none=>rfl
 |some x=>
  have a:b∈IU h H:=Pe.mpr ⟨QA.mpr (HN e'),by simp[q]⟩
  have z:(BD h H).get? b=none:=PySem.W.hideAll_none (IU h H) a;rw[z]at e;cases e
end L2
variable{H H':L2.Hp}{v y:L2.V}{vs:List L2.V}{gV:List L2.V->List L2.V->List L2.V}{ZE:List (PySem.Str×L2.V)}{Q2:L2.V->L2.Hp->Prop}
namespace L2
variable{u:Value}{Q:Unit->Shared->Prop}
open PySem PySem.Spec PyProof.Rows
structure Mod(K:HY)(mg:Str->Option Value)(base:Heap):Prop where
 kin:K.In base
 glob:base.Ns mainGlobals mg
 blt:∃mb,base.Ns builtinsNs mb /\∀x:Str,x ≠ "__name__" -> mb x=bootBuiltins x
 nolimit:base.NoLimit
set_option genInjectivity false in
structure Cx where
 prog:Program
 w:World
 K:HY
 mg:Str->Option Value
 base:Heap
 A:Around
 N:List Str
 ZH : Shared
 WL : Hp
 env:Env
 outer:List Env
 stack:List Env
 ex:List Addr
 fn:Str->Bool
 calm:Bool
 pn:List (Addr×Obj)
 xe:Value->Shared->Prop
def frs(l:List Env):List Addr:=l.filterMap (·.frame)
abbrev Cx.fs(X:Cx):List Addr:=frs X.outer
def Vis(a:Scope)(x:Str):Prop:=a.names.lookup x=some .local\/a.names.lookup x=some .cell\/a.names.lookup x=some .free
def Loc(a:Scope)(x:Str):Prop:=a.names.lookup x=some .local\/a.names.lookup x=some .cell
def Look(env:Env)(h:Heap)(m:Str->Option Value)(x:Str)(u:Value):Prop:=
 (env.kindOf x=some .local/\m x=some u)\/((env.kindOf x=some .cell\/env.kindOf x=some .free) /\∃c,env.cells.lookup x=some c/\h.IsCell c (some u))
structure Cx.Ok(X:Cx):Prop where
 mod:Mod X.K X.mg X.base
 kind:X.env.scope.kind=.function
 glob:X.env.globals=mainGlobals
 blt:X.env.builtins=builtinsNs
 above:X.ZH.heap.objs.size<=X.env.locals
 inj:∀x y c,X.env.cells.lookup x=some c->X.env.cells.lookup y=some c->x=y
 has:∀x,(X.env.kindOf x=some .cell\/X.env.kindOf x=some .free) ->∃c,X.env.cells.lookup x=some c
 VM:∀x c,X.fn x=true->X.env.cells.lookup x=some c->X.ZH.heap.objs.size<=c
 hd:X.calm=true->X.A.handled=none
 frames:X.A.frames=some X.stack
 WK:X.stack=X.outer\/(X.stack=X.env::X.outer/\X.env.frame=some X.env.locals)
 exf:∀b∈X.ex,b≠X.env.locals /\∀x c,X.env.cells.lookup x=some c->c≠b
 bs:∀b o,X.base.get? b=some o->X.ZH.heap.get? b=some o/\X.WL b=none
 W2:X.base.objs.size<=X.ZH.heap.objs.size
 Y3:∀b o,X.base.get? b=some o->b ∉ X.ex
 U_:∀b∈X.ex,b ∉ X.fs
 XH:X.ZH.heap.FunFrames X.base X.outer
 Wo:∀b∈X.fs,X.WL b=none
structure Z4(X:Cx)(Z:List (Addr×Obj))(Y:List (Option V))(H:Hp)(s:Shared):Prop where
 ok:X.Ok
 os:s.os=X.ZH.os
 bare:AllBare s.gens
 base:Un X.fs X.ex X.WL H X.ZH.heap s.heap
 loc:∃m,s.heap.Ns X.env.locals m /\∀(i:Nat) (x:Str) (v:V),X.N[i]?=some x->Y[i]?=some (some v)->Vis X.env.scope x ->∃u,RelV v u/\Look X.env s.heap m x u
 cell:∀x c,X.env.cells.lookup x=some c ->∃v,s.heap.IsCell c v
 free:H X.env.locals=none
 Ym:∀x c,X.env.cells.lookup x=some c->H c=none
 pin:∀p∈X.pn++Z,s.heap.get? p.1=some p.2/\H p.1=none/\p.1≠X.env.locals/\p.1 ∉ X.fs /\∀v,p.2.data ≠ .cell v
 ZQ:HOk X.prog X.w H s.heap
 len:Y.length=X.N.length
section
variable{X:Cx}{Y:List (Option V)}
def Cx.Ok.nofr(a:X.Ok){b:Addr}{o:Obj}(e:X.base.get? b=some o):b ∉ X.fs:=λc=>by
 have:=(a.XH.mem c).1;rw[e]at this;cases this
def Z4.bs(I:Z4 X Z Y H s):∀b o,X.base.get? b=some o->s.heap.get? b=some o/\H b=none:=λb o e=>
 ⟨I.base.keep b o (I.ok.bs b o e).1 (I.ok.bs b o e).2 (I.ok.nofr e) (I.ok.Y3 b o e),I.base.free b o (I.ok.bs b o e).1 (I.ok.bs b o e).2 (I.ok.Y3 b o e)⟩
def Z4.bk(I:Z4 X Z Y H s):∀b o,X.base.get? b=some o->s.heap.get? b=some o:=λb o e=>(I.bs b o e).1
def Z4.mod(I:Z4 X Z Y H s):Mod X.K X.mg X.base:=I.ok.mod
def Z4.Zf(I:Z4 X Z Y H s):X.K.In s.heap:=I.ok.mod.kin.keeps I.bk
def Z4.lt(I:Z4 X Z Y H s):X.env.locals<s.heap.objs.size:=let⟨_,a,_⟩:=I.loc;a.lt
def Z4.sz(I:Z4 X Z Y H s):X.ZH.heap.objs.size<=s.heap.objs.size:=HP I.ok.above (Q9 I.lt)
def Z4.nofs(I:Z4 X Z Y H s)(h:s.heap.objs.size<=a):a ∉ X.fs:=λb=>by
 let⟨_,o,ho,_⟩:=I.ok.XH.mem b;exact absurd (HU (HN ho) (HP I.sz h)) (T7 _)
def Z4.W1(I:Z4 X Z Y H s):∀x c,X.env.cells.lookup x=some c->c≠X.env.locals:=λx c e z=>by
 let⟨v,o,ho,a⟩:=I.cell x c e;let⟨m,⟨o',es,ep,b,d,_⟩,_⟩:=I.loc;rw[z,b]at ho;cases ho;rw[d]at a;cases a
def Z4.XH(I:Z4 X Z Y H s):s.heap.FunFrames X.base X.outer:=by
 have all:∀(l:List Env),(∀b∈frs l,b∈X.fs)->X.ZH.heap.FunFrames X.base l->s.heap.FunFrames X.base l:=by
  intro l
  induction l with
  |nil=>intro _ _;trivial
  |cons env r ih=>
   intro hs h;let⟨hk,⟨Z8,o,a,g,ho,i⟩,f⟩:=h;have d:Z8∈X.fs:=hs Z8 (by unfold frs;rw[Vk,a];exact WS)
   let⟨j,e⟩:=I.base.slot Z8 o ho (I.ok.Wo Z8 d) d λz=>I.ok.U_ Z8 z d;exact⟨hk,⟨Z8,_,a,g,e,i⟩,ih (λb c=>hs b (by unfold frs;rw[Vk,a];exact HS _ c)) f⟩
 exact all X.outer (λ_ c=>c) I.ok.XH
def Z4.stack(I:Z4 X Z Y H s):s.heap.FunFrames X.base X.stack:=by
 rcases I.ok.WK with e|⟨e,hf⟩
 .rw [e];exact I.XH
 .rw [e]
  let⟨m,a,_⟩:=I.loc;refine .cons (by rw[I.ok.kind];decide) hf a ?_ I.XH
  exact S8 (HP I.ok.W2 I.ok.above)
def Z4.VL(I:Z4 X Z Y H s):∀b∈frs X.stack,b∈X.env.locals::X.fs:=λb a=>by
 rcases I.ok.WK with e|⟨e,hf⟩
 .rw [e]at a;exact HS _ a
 .rw [e]at a
  unfold frs at a;rw[Vk,hf]at a;exact a
def Z4.TU(I:Z4 X Z Y H s):∀b∈frs X.stack,H b=none:=λb a=>by
 rcases Wc.mp (I.VL b a)with e|a
 .rw [e];exact I.free
 .obtain ⟨_,o,ho,_⟩:=I.ok.XH.mem a
  exact I.base.free b o ho (I.ok.Wo b a) λz=>I.ok.U_ b z a
def Z4.step{g':Array GenState}{d':Drawn}{ch:List Addr}(I:Z4 X Z Y H s)
  (A:∀b∈ch,(b∈X.ex\/X.ZH.heap.objs.size<=b)/\b≠X.env.locals/\(∀x c,X.env.cells.lookup x=some c->c≠b) /\∀p∈X.pn++Z,p.1≠b)
  (keep:∀b o,b≠X.env.locals->b ∉ X.fs->b ∉ ch->s.heap.get? b=some o->H b=none->h'.get? b=some o)
  (slot:∀b o,b≠X.env.locals->b∈X.fs->b ∉ ch->s.heap.get? b=some o->H b=none ->∃C,h'.get? b=some {o with slots:=C}) (free:∀b o,b ∉ ch->s.heap.get? b=some o->H b=none->H' b=none)
  (there:∀b o,b ∉ ch->s.heap.get? b=some o ->∃o',h'.get? b=some o')
  (Xv:∀b xs,H b=some (.Z1 xs)->H' b=some (.Z1 xs)) (XI:∀b o u,H b=some (.Zw o u)->H' b=some (.Zw o u)) (Xu:∀b ps,H b=some (.V8 ps) ->∃t,H' b=some (.V8 (ps++t)))
  (ns:∀m,s.heap.Ns X.env.locals m->h'.Ns X.env.locals m) (O:HOk X.prog X.w H' h') (M:AllBare g') :
  Z4 X Z Y H' {s with heap:=h',gens:=g',drawn:=d',toks:=t'}:=by
 have G:∀b o,X.ZH.heap.get? b=some o->b≠X.env.locals:=λb o e=>HV (HU (HN e) I.ok.above);have g:∀b o,X.ZH.heap.get? b=some o->b ∉ X.ex->b ∉ ch:=λb o e a j=>by
  rcases(A b j).1 with z|z
  .exact a z
  .exact absurd (HU (HN e) z) (T7 _)
 have f:∀x c,X.env.cells.lookup x=some c ->∀v,s.heap.IsCell c v->h'.IsCell c v:=λx c e v ⟨o,ho,hd⟩=>by
  have B:c ∉ ch:=λz=>(A c z).2.2.1 x c e rfl;by_cases hc:c∈X.fs
  .obtain ⟨C,q⟩:=slot c o (I.W1 x c e) hc B ho (I.Ym x c e)
   exact⟨_,q,hd⟩
  .exact ⟨o,keep c o (I.W1 x c e) hc B ho (I.Ym x c e),hd⟩
 refine⟨I.ok,I.os,M,⟨λb o e n j a=>?_,λb o e n j a=>?_,λb o e n a=>?_,λb o e a=>?_,λb xs e=>Xv b xs (I.base.Xv b xs e),λb o xs e=>XI b o xs (I.base.XI b o xs e),λb ps e=>?_⟩,?_,λx c e=>?_,?_,λx c e=>?_,λp F=>?_,O,I.len⟩
 .exact keep b o (G b o e) j (g b o e a) (I.base.keep b o e n j a) (I.base.free b o e n a)
 .obtain ⟨C,h⟩:=I.base.slot b o e n j a
  let⟨P,y⟩:=slot b _ (G b o e) j (g b o e a) h (I.base.free b o e n a);exact⟨P,y⟩
 .obtain ⟨o',h⟩:=I.base.there b o e a
  exact free b o' (g b o e a) h (I.base.free b o e n a)
 .obtain ⟨o',h⟩:=I.base.there b o e a
  exact there b o' (g b o e a) h
 .obtain ⟨m1,h⟩:=I.base.Xu b ps e
  let⟨J,y⟩:=Xu b _ h;exact⟨m1++J,by rw[y,Array.append_assoc]⟩
 .obtain ⟨m,K,L⟩:=I.loc
  refine⟨m,ns m K,λi x v h y N=>?_⟩;let⟨u,r,l⟩:=L i x v h y N;refine⟨u,r,?_⟩;rcases l with l|⟨k,c,e,z⟩
  .exact .inl l
  .exact .inr ⟨k,c,e,f x c e _ z⟩
 .obtain ⟨v,z⟩:=I.cell x c e
  exact⟨v,f x c e v z⟩
 .obtain ⟨m,⟨o,_,_,ho,_⟩,_⟩:=I.loc
  exact free _ o (λz=>(A _ z).2.1 rfl) ho I.free
 .obtain ⟨v,o,ho,hd⟩:=I.cell x c e
  exact free c o (λz=>(A c z).2.2.1 x c e rfl) ho (I.Ym x c e)
 .obtain ⟨e,n,E,D,d⟩:=I.pin p F
  have B:p.1 ∉ ch:=λz=>(A p.1 z).2.2.2 p F rfl;exact⟨keep p.1 p.2 E D B e n,free p.1 p.2 B e n,E,D,d⟩
def Z4.un(I:Z4 X Z Y H s)(u:Un X.fs [] H H' s.heap h')(g:HOk X.prog X.w H' h'):Z4 X Z Y H' {s with heap:=h',toks:=t'}:=by
 let⟨m,⟨o,es,ep,ho,r⟩,_⟩:=id I.loc;let⟨k,f⟩:=u.any ho I.free #[3]
 exact I.step (g':=s.gens) (d':=s.drawn) (ch:=[]) (λ_ z=>nomatch z) (λb o _ a _ e n=>u.keep b o e n a #[3]) (λb o _ a _ e n=>u.slot b o e n a #[3]) (λb o _ e n=>u.free b o e n #[3]) (λb o _ e=>u.there b o e #[3]) u.Xv u.XI u.Xu (λt d=>by
  let⟨o',ZL,j,c,r'⟩:=d;rw[ho]at c;cases c;exact⟨_,ZL,j,f,r'⟩) g I.bare
def Z4.call{g':Array GenState}{d':Drawn}{ch:List Addr}(I:Z4 X Z Y H s)(u:Un (frs X.stack) ch H H' s.heap h')(j:HOk X.prog X.w H' h')(h:AllBare g')
  (f:∀b∈ch,(b∈X.ex\/X.ZH.heap.objs.size<=b)/\b≠X.env.locals/\(∀x c,X.env.cells.lookup x=some c->c≠b) /\∀p∈X.pn++Z,p.1≠b) :
  Z4 X Z Y H' {s with heap:=h',gens:=g',drawn:=d',toks:=t'}:=by
 let⟨m,⟨o,es,ep,ho,r⟩,_⟩:=id I.loc;let⟨l,a⟩:=u.any ho I.free λz=>(f _ z).2.1 rfl
 exact I.step (ch:=ch) f (λb o a i hc e n=>u.keep b o e n (λz=>(Wc.mp (I.VL b z)).elim a i) hc) (λb o _ _ hc e n=>u.any e n hc) (λb o hc e n=>u.free b o e n hc) (λb o hc e=>u.there b o e hc) u.Xv u.XI u.Xu (λq g=>by
  let⟨o',ZL,k,d,r'⟩:=g;rw[ho]at d;cases d;exact⟨_,ZL,k,a,r'⟩) j h
def Z4.turned{it:Addr}(I:Z4 X Z Y H s)(k:∀b o,b≠it->s.heap.get? b=some o->h'.get? b=some o)(f:H it=none)(d:it≠X.env.locals)
  (y:it∈X.ex\/X.ZH.heap.objs.size<=it) (w:∀x c,X.env.cells.lookup x=some c->c≠it) (t:∀p∈X.pn++Z,p.1≠it):Z4 X Z Y H {s with heap:=h',toks:=t'}:=by
 have a:∀b u,H b=some u->b≠it:=λb u e z=>by rw[z,f]at e;cases e
 refine I.step (g':=s.gens) (d':=s.drawn) (ch:=[it]) (λb j=>?_) (λb o _ _ hc e _=>k b o (λz=>hc (by simp[z])) e) (λb o _ _ hc e _=>⟨o.slots,k b o (λz=>hc (by simp[z])) e⟩) (λ_ _ _ _ n=>n)
  (λb o hc e=>⟨o,k b o (λz=>hc (by simp[z])) e⟩) (λ_ _ e=>e) (λ_ _ _ e=>e) (λb ps e=>⟨#[],by rw[e];simp⟩) (λm g=>?_) (λb u e=>?_) I.bare
 .have e:b=it:=by simpa using j
  subst e;exact⟨y,d,w,t⟩
 .obtain ⟨o,es,ep,ho,r⟩:=g
  exact⟨o,es,ep,k _ o (Ne.symm d) ho,r⟩
 .refine (I.ZQ b u e).Yv (λc v hc q=>k c v ?_ q) (λ_ q=>q) λ_ _ q=>q
  rcases hc with z|z
  .rw [z];exact a b u e
  .exact a c _ z
def Z4.tok(I:Z4 X Z Y H s)(t:Nat):Z4 X Z Y H {s with toks:=t}:=I.un (h':=s.heap) (t':=t) Un.refl I.ZQ
def Z4.kept{t':Nat}(I:Z4 X Z Y H s)(k:∀b u,s.heap.get? b=some u->h'.get? b=some u):Z4 X Z Y H {s with heap:=h',toks:=t'}:=I.un (Un.kept k) (I.ZQ.kept k)
def Z4.laid{a:Addr}{o:HO}{t':Nat}(I:Z4 X Z Y H s)(k:∀b u,s.heap.get? b=some u->h'.get? b=some u)(hp:s.heap.objs.size<=a)(c:ObjOk X.prog X.w (upd H a o) h' a o):
  Z4 X Z Y (upd H a o) {s with heap:=h',toks:=t'}:=I.un (Un.laid k hp (I.ZQ.fresh hp)) (I.ZQ.laid k hp c)
def Z4.write{x e:Addr}{o:HO}{t':Nat}(I:Z4 X Z Y H s)(c:Mut (H x))(d:e=x\/H e=some (.own x))(k:∀b u,b≠e->s.heap.get? b=some u->h'.get? b=some u)(f:∃u,h'.get? e=some u)
  (a:ObjOk X.prog X.w (upd H x o) h' x o):Z4 X Z Y (upd H x o) {s with heap:=h',toks:=t'}:=I.un (Un.write c d k f) (I.ZQ.write c d k f a)
def Z4.SW{a:List (Addr×Obj)}(I:Z4 X Z Y H s)(h:∀p∈a,s.heap.get? p.1=some p.2/\H p.1=none/\p.1≠X.env.locals/\p.1 ∉ X.fs /\∀v,p.2.data ≠ .cell v):Z4 X a Y H s:=
 ⟨I.ok,I.os,I.bare,I.base,I.loc,I.cell,I.free,I.Ym,λp b=>(Rt.mp b).elim (λz=>I.pin p (T4 _ z)) (h p),I.ZQ,I.len⟩
def gj(c:N.Nodup)(a:N[i]?=some x)(b:N[j]?=some x):i=j:=by
 let⟨h1,e⟩:=Yh.mp a;let⟨h2,d⟩:=Yh.mp b;exact(List.getElem_inj c).mp (e.trans d.symm)
def jF{E:Value->Shared->Prop}(I:Z4 X Z Y H s)(W:X.N.Nodup)(F:X.N[i]?=some x)(hx:Loc X.env.scope x)(r:RelV v u)
  (h:∀s',Z4 X Z (Y.set i (some v)) H s'->(∃a,Heap.SameBut a s.heap s'.heap/\(a=X.env.locals\/X.env.cells.lookup x=some a))->Q Unit.unit s') (hf:X.fn x=true\/X.env.scope.names.lookup x=some .local:=by first|exact .inl rfl|exact .inr rfl|assumption):wpAny Z9 A (storeName X.env x u) Q E s:=by
 let⟨m,S,V⟩:=id I.loc;have Wn:(X.env.scope.kind==.class||(X.env.scope.kind==.module&&X.env.locals != X.env.globals))=false:=by rw[I.ok.kind];rfl
 have SV:i<Y.length:=by rw[I.len];exact(Yh.mp F).1
 have W1:=I.W1;have f:∀{a:Addr} {h':Heap},(∃o,s.heap.get? a=some o/\H a=none)->Heap.SameBut a s.heap h'->HOk X.prog X.w H h':=λ{a h'} ha hs b ob e=>by
  let⟨_,_,TR⟩:=ha;refine(I.ZQ b ob e).Yv (λc J hc q=>(hs.2 c ?_).trans q) (λ_ q=>q) λ_ _ q=>q;rintro rfl;rcases hc with rfl|hc
  .rw [TR]at e;cases e
  .rw [TR]at hc;cases hc
 rcases hx with hk|hk
 .refine wpAny_storeName_local hk S (λh' Zv hs=>?_) Wn
  let⟨oL,_,_,R,_⟩:=id S;refine h _ ⟨I.ok,I.os,I.bare,⟨λb o e n B hx=>?_,λb o e n B hx=>?_,I.base.free,λb o e hx=>?_,I.base.Xv,I.base.XI,I.base.Xu⟩,⟨_,Zv,λj y v' g l T=>?_⟩,λy c e=>?_,I.free,I.Ym,λp P=>?_,f ⟨oL,R,I.free⟩ hs,by simpa using I.len⟩ ⟨_,hs,.inl rfl⟩
  .exact (hs.2 b (HV (HU (HN e) I.ok.above))).trans (I.base.keep b o e n B hx)
  .obtain ⟨M,g⟩:=I.base.slot b o e n B hx
   exact⟨M,(hs.2 b (HV (HU (HN e) I.ok.above))).trans g⟩
  .obtain ⟨o',g⟩:=I.base.there b o e hx
   exact⟨o',(hs.2 b (HV (HU (HN e) I.ok.above))).trans g⟩
  .by_cases t:j=i
   .subst t
    rw[F]at g;cases g;rw[UE SV]at l;cases l;exact⟨u,r,.inl ⟨hk,by simp⟩⟩
   .rw [X9 (Ne.symm t)]at l
    let⟨L,r',q⟩:=V j y v' g l T;refine⟨L,r',?_⟩;rcases q with⟨k,e⟩|⟨k,c,e,z⟩
    .refine .inl ⟨k,?_⟩
     have:y≠x:=λe=>t (gj W g (e ▸ F));simp[this,e]
    .exact .inr ⟨k,c,e,z.sameBut hs (W1 y c e)⟩
  .obtain ⟨J,z⟩:=I.cell y c e
   exact⟨J,z.sameBut hs (W1 y c e)⟩
  .obtain ⟨e,n,K,O,d⟩:=I.pin p P
   exact⟨(hs.2 p.1 K).trans e,n,K,O,d⟩
 .have U:X.fn x=true:=by
   rcases hf with z|z
   .exact z
   .rw [z]at hk;cases hk
  let⟨c,hc⟩:=I.ok.has x (.inl hk);let⟨J,z⟩:=I.cell x c hc;refine wpAny_storeName_cell I.ok.kind hk hc z (λh' V7 hs=>?_);let⟨KG,D,C⟩:=id z;refine h {s with heap:=h'} ⟨I.ok,I.os,I.bare,⟨λb o e n B hx=>?_,λb o e n B hx=>?_,I.base.free,λb o e hx=>?_,I.base.Xv,I.base.XI,I.base.Xu⟩,⟨m,S.sameBut hs (Ne.symm (W1 x c hc)),λj y v' g l T=>?_⟩,λy c' e=>?_,I.free,I.Ym,λp P=>?_,f ⟨KG,D,I.Ym x c hc⟩ hs,by simpa using I.len⟩ ⟨c,hs,.inr hc⟩
  .exact (hs.2 b (HV (HU (HN e) (I.ok.VM x c U hc)))).trans (I.base.keep b o e n B hx)
  .obtain ⟨M,g⟩:=I.base.slot b o e n B hx
   exact⟨M,(hs.2 b (HV (HU (HN e) (I.ok.VM x c U hc)))).trans g⟩
  .obtain ⟨o',g⟩:=I.base.there b o e hx
   exact⟨o',(hs.2 b (HV (HU (HN e) (I.ok.VM x c U hc)))).trans g⟩
  .by_cases t:j=i
   .subst t
    rw[F]at g;cases g;rw[UE SV]at l;cases l;exact⟨u,r,.inr ⟨.inl hk,c,hc,V7⟩⟩
   .rw [X9 (Ne.symm t)]at l
    let⟨L,r',q⟩:=V j y v' g l T;refine⟨L,r',?_⟩;rcases q with q|⟨k,c',e,z'⟩
    .exact .inl q
    .refine .inr ⟨k,c',e,z'.sameBut hs ?_⟩
     rintro rfl;exact t (gj W g (I.ok.inj _ _ _ e hc ▸ F))
  .by_cases G:c'=c
   .subst G;exact⟨_,V7⟩
   .obtain ⟨w2,z2⟩:=I.cell y c' e
    exact⟨w2,z2.sameBut hs G⟩
  .obtain ⟨e,n,K,O,d⟩:=I.pin p P
   refine⟨(hs.2 p.1 ?_).trans e,n,K,O,d⟩;intro q;rw[q,D]at e;have q':KG=p.2:=WY e;exact d J (by rw[<-q'];exact C)
def cZ{E:Value->Shared->Prop}(I:Z4 X Z Y H s)(c:X.N.Nodup)(a:X.N[i]?=some x)(hx:Loc X.env.scope x)(r:RelV v u)
  (h:∀s',Z4 X Z (Y.set i (some v)) H s'->Q Unit.unit s') (b:X.fn x=true\/X.env.scope.names.lookup x=some .local:=by first|exact .inl rfl|exact .inr rfl|assumption):wpAny Z9 A (storeName X.env x u) Q E s:=
 jF I c a hx r (λs' d _=>h s' d) b
def Z4.TQ{ch:List Addr}(I:Z4 X Z Y H s)(a:s'.os=s.os)(u:Un (frs X.stack) ch H H' s.heap s'.heap)(f:HOk X.prog X.w H' s'.heap)(d:AllBare s'.gens)
  (g:∀b∈ch,(b∈X.ex\/X.ZH.heap.objs.size<=b)/\b≠X.env.locals/\(∀x c,X.env.cells.lookup x=some c->c≠b) /\∀p∈X.pn++Z,p.1≠b):Z4 X Z Y H' s':=by
 let⟨h',g',d',t',o'⟩:=s';have e:o'=s.os:=a;subst e;exact I.call (g':=g') (t':=t') (d':=d') u f d g
end
abbrev XK:=Value->Option Addr->Hp->Prop
abbrev St:=List (Option V)
abbrev VK:=V->Hp->Prop
abbrev TE:=St->Hp->VK->Prop
abbrev TT:=St->Hp->(Bool->Hp->Prop)->Prop
abbrev TA:=St->Hp->(List V->Hp->Prop)->Prop
set_option genInjectivity false in
structure Ends where
 nx:St->Hp->Prop
 rt:VK
 bk:St->Hp->Prop:=λ_ _=>False
 ct:St->Hp->Prop:=λ_ _=>False
abbrev TS:=Ends->St->Hp->Prop
inductive EP(X:Cx)(Z:List (Addr×Obj))(Y:St)(Q:VK)(u:Value)(s':Shared):Prop
 |mk:∀v H',Z4 X Z Y H' s'->RelV v u->Q v H'->EP X Z Y Q u s'
inductive TP(X:Cx)(Z:List (Addr×Obj))(Y:St)(Q:Bool->Hp->Prop)(b:Bool)(s':Shared):Prop
 |mk:∀H',Z4 X Z Y H' s'->Q b H'->TP X Z Y Q b s'
inductive AP(X:Cx)(Z:List (Addr×Obj))(Y:St)(Q:List V->Hp->Prop)(J:List Value)(s':Shared):Prop
 |mk:∀vs H',Z4 X Z Y H' s'->ZK vs J->Q vs H'->AP X Z Y Q J s'
def SP(X:Cx)(Z:List (Addr×Obj))(D:Ends)(f:Flow)(a:Shared):Prop:=
 match f with
 |.next=>∃ZX H',Z4 X Z ZX H' a/\D.nx ZX H'
 |.brk=>∃ZX H',Z4 X Z ZX H' a/\D.bk ZX H'
 |.cont=>∃ZX H',Z4 X Z ZX H' a/\D.ct ZX H'
 |.ret u=>∃v ZX H',Z4 X Z ZX H' a/\RelV v u/\D.rt v H'
def PE(X:Cx)(e:Expr)(t:TE):Prop:=
 ∀(Z:List (Addr×Obj)) (s:Shared) (Y:St) (H:Hp) (Q:VK),Z4 X Z Y H s->t Y H Q->wpAny (model X.prog X.w) X.A (eval e X.env) (EP X Z Y Q) X.xe s
def PT(X:Cx)(e:Expr)(t:TT):Prop:=
 ∀(Z:List (Addr×Obj)) (s:Shared) (Y:St) (H:Hp) (Q:Bool->Hp->Prop),Z4 X Z Y H s->t Y H Q->wpAny (model X.prog X.w) X.A (isTrue e X.env (eval e X.env)) (TP X Z Y Q) X.xe s
def PW(X:Cx)(e:Expr)(t:TT):Prop:=
 ∀(whole:Sem Value) (Z:List (Addr×Obj)) (s:Shared) (Y:St) (H:Hp) (Q:Bool->Hp->Prop),Z4 X Z Y H s->t Y H Q->wpAny (model X.prog X.w) X.A (isTrue e X.env whole) (TP X Z Y Q) X.xe s
def PW.pt{X:Cx}{t:TT}(h:PW X e t):PT X e t:=h _
def PA(X:Cx)(a:List Expr)(t:TA):Prop:=
 ∀(pos:Pos) (Z:List (Addr×Obj)) (s:Shared) (Y:St) (H:Hp) (Q:List V->Hp->Prop),Z4 X Z Y H s->t Y H Q->wpAny (model X.prog X.w) X.A (spliced (backTo pos (starEach a X.env))) (AP X Z Y Q) X.xe s
def PS(X:Cx)(a:Stmt)(t:TS):Prop:=
 ∀(Z:List (Addr×Obj)) (s:Shared) (Y:St) (H:Hp) (D:Ends),Z4 X Z Y H s->t D Y H->wpAny (model X.prog X.w) X.A (exec a X.env) (SP X Z D) X.xe s
def PSs(X:Cx)(a:List Stmt)(t:TS):Prop:=
 ∀(Z:List (Addr×Obj)) (s:Shared) (Y:St) (H:Hp) (D:Ends),Z4 X Z Y H s->t D Y H->wpAny (model X.prog X.w) X.A (execs a X.env) (SP X Z D) X.xe s
def thn{t:Sem α}{Q Q':α->Shared->Prop}{E:Value->Shared->Prop}{s:Shared}(h:wpAny Z9 A t Q E s)(b:∀a s,Q a s->Q' a s):wpAny Z9 A t Q' E s:=V6 h b λ_ _ x=>x
end L2
variable{X:L2.Cx}{ta te:L2.TE}
namespace L2
open PySem PySem.Spec PyProof.Rows
section
def BR(i:Nat):TE:=λY H Q=>∃v,Y[i]?=some (some v)/\Q v H
def IV(v:V):TE:=λ_ H Q=>Q v H
def dk(k:X.N[i]?=some x)(f:Vis X.env.scope x)(b:(x==("__debug__" : Str))=false:=by decide)(n:(x==("__classdict__" : Str))=false:=by decide):PE X (.Name x pos) (BR i):=by
 intro Z s Y H Q I h;let⟨v,e,h⟩:=h;let⟨m,g,j⟩:=I.loc;let⟨u,r,l⟩:=j i x v k e f;have a:EP X Z Y Q u s:=⟨v,H,I,r,h⟩;rcases l with⟨hk,hm⟩|⟨hk,c,hc,d⟩
 .exact wpAny_Name (wpAny_loadName_local I.ok.kind hk g hm a) b
 .rcases hk with hk|hk
  .exact wpAny_Name (wpAny_loadName_cell I.ok.kind hk hc d a) b
  .exact wpAny_Name (wpAny_loadName_free I.ok.kind hk hc d a n) b
def gX{i j pos}:PE X (.Constant (.int i) j pos) (IV (.int i)):=λ_ _ _ H _ I h=>wpAny_Constant_int ⟨.int i,H,I.tok _,⟨_,rfl⟩,h⟩
def acm{b j pos}:PE X (.Constant (.bool b) j pos) (IV (.bl b)):=λ_ _ _ H _ I h=>Constant_bool ⟨.bl b,H,I,rfl,h⟩
def x5{j pos}:PE X (.Constant .none j pos) (IV .ZR):=λ_ _ _ H _ I h=>Constant_none ⟨.ZR,H,I,rfl,h⟩
def hU{x j pos}:PE X (.Constant (.str x) j pos) (IV (.str x)):=λ_ _ _ H _ I h=>Calls.Constant_str ⟨.str x,H,I.tok _,⟨_,rfl⟩,h⟩
def Gl(X:Cx)(x:Str):Prop:=X.env.kindOf x=some .globalImplicit
def bA{E:Value->Shared->Prop}{Y:St}{u:Value}{Q:Value->Shared->Prop}(I:Z4 X Z Y H s)(b:Gl X x)(a:X.mg x=some u)(h:Q u s)
  (c:(x==("__debug__" : Str))=false:=by decide):wpAny (model X.prog X.w) X.A (eval (.Name x pos) X.env) Q E s:=
 QC I.ok.kind b (Calls.loadGlobal_global (by rw[I.ok.glob];exact I.mod.glob.keeps I.bk) a h) c
def cG{E:Value->Shared->Prop}{Y:St}{u:Value}{Q:Value->Shared->Prop}(I:Z4 X Z Y H s)(d:Gl X x)(c:X.mg x=none)(a:bootBuiltins x=some u)(h:Q u s)
  (b:x ≠ "__name__":=by decide) (e:(x==("__debug__" : Str))=false:=by decide):wpAny (model X.prog X.w) X.A (eval (.Name x pos) X.env) Q E s:=by
 let⟨f,h1,h2⟩:=I.mod.blt;exact QC I.ok.kind d (Calls.loadGlobal_builtin (by rw[I.ok.glob];exact I.mod.glob.keeps I.bk) c (by rw[I.ok.blt];exact h1.keeps I.bk) ((h2 x b).trans a) h) e
def lY{u:Value}(b:Gl X x)(a:X.mg x=some u)(r:RelV v u)(c:(x==("__debug__" : Str))=false:=by decide):PE X (.Name x pos) (IV v):=
 λ_ _ _ H _ I h=>bA I b a ⟨v,H,I,r,h⟩ c
def lh{u:Value}(d:Gl X x)(c:X.mg x=none)(a:bootBuiltins x=some u)(r:RelV v u)(b:x ≠ "__name__":=by decide)(e:(x==("__debug__" : Str))=false:=by decide):PE X (.Name x pos) (IV v):=
 λ_ _ _ H _ I h=>cG I d c a ⟨v,H,I,r,h⟩ b e
variable{a b:Expr}{tb:TE}
variable{tA tB':TT}{ZV:List Expr}
def IW(t u:TT):TT:=λY H Q=>t Y H λc H1=>if c=true then u Y H1 Q else Q false H1
def IX(t u:TT):TT:=λY H Q=>t Y H λc H1=>if c=true then Q true H1 else u Y H1 Q
def IY(t:TT):TT:=λY H Q=>t Y H λc H1=>Q (!c) H1
def tP(b:PT X a tA):PW X (.BoolOp .And [a] pos) tA:=by
 intro d Z s Y H Q I h;refine isTrue_and (thn (b Z s Y H Q I h) λc f e=>?_);cases c with
 |true=>exact isTrue_and_nil e
 |false=>exact e
def yq(b:PT X a tA):PW X (.BoolOp .Or [a] pos) tA:=by
 intro d Z s Y H Q I h;refine isTrue_or (thn (b Z s Y H Q I h) λc f e=>?_);cases c with
 |false=>exact isTrue_or_nil e
 |true=>exact e
def x6(j:PT X a tA)(i:PW X (.BoolOp .And (b::ZV) pos) tB'):PW X (.BoolOp .And (a::b::ZV) pos) (IW tA tB'):=by
 intro f Z s Y H Q I h;refine isTrue_and (thn (j Z s Y H _ I h) ?_);rintro c g ⟨H1,e,d⟩;cases c with
 |true=>exact i f Z g Y H1 Q e d
 |false=>exact⟨H1,e,d⟩
def acM(j:PT X a tA)(i:PW X (.BoolOp .Or (b::ZV) pos) tB'):PW X (.BoolOp .Or (a::b::ZV) pos) (IX tA tB'):=by
 intro f Z s Y H Q I h;refine isTrue_or (thn (j Z s Y H _ I h) ?_);rintro c g ⟨H1,e,d⟩;cases c with
 |true=>exact⟨H1,e,d⟩
 |false=>exact i f Z g Y H1 Q e d
def yV(b:PT X a tA):PT X (.UnaryOp .Not a pos) (IY tA):=by
 intro Z s Y H Q I h;exact isTrue_not (thn (b Z s Y H (λc H1=>Q (!c) H1) I h) λ_ _ ⟨H1,d,q⟩=>⟨H1,d,q⟩)
def Hr(a tb:TE):TE:=λY H Q=>a Y H λx H1=>∃c,x=.bl c/\if c=true then tb Y H1 Q else Q (.bl false) H1
def IZ(a tb:TE):TE:=λY H Q=>a Y H λx H1=>∃c,x=.bl c/\if c=true then Q (.bl true) H1 else tb Y H1 Q
def zq{op}{t:TE}(h:PE X a t):PE X (.BoolOp op [a] pos) t:=λZ s Y H Q I b=>BoolOp_one (h Z s Y H Q I b)
def yR(j:PE X a ta)(i:PE X (.BoolOp .And (b::ZV) pos) tb):PE X (.BoolOp .And (a::b::ZV) pos) (Hr ta tb):=by
 intro Z s Y H Q I h;refine BoolOp_and (thn (j Z s Y H _ I h) ?_);rintro v f ⟨x,H1,e,g,d⟩;let⟨c,rfl,d⟩:=d;cases g;refine Sj ?_;cases c with
 |true=>exact i Z f Y H1 Q e d
 |false=>exact⟨.bl false,H1,e,rfl,d⟩
def aco(j:PE X a ta)(i:PE X (.BoolOp .Or (b::ZV) pos) tb):PE X (.BoolOp .Or (a::b::ZV) pos) (IZ ta tb):=by
 intro Z s Y H Q I h;refine BoolOp_or (thn (j Z s Y H _ I h) ?_);rintro v f ⟨x,H1,e,g,d⟩;let⟨c,rfl,d⟩:=d;cases g;refine Sj ?_;cases c with
 |false=>exact i Z f Y H1 Q e d
 |true=>exact⟨.bl true,H1,e,rfl,d⟩
end
end L2
namespace L2
variable{u:Value}{Y:St}
open PySem PySem.Spec PyProof.Rows
def SqL(K:HY)(H:Hp)(a:Addr)(xs:List V):Prop:=
 Rd H a (.S xs) \/
  ∃(o:Obj) (ZY:Array Value) (n:Nat),K.lookup a=some o/\o.cls=.type "list" /\ o.dict=none/\o.data=.seq ZY n/\ZY.size<=sizeLine/\ZK xs ZY.toList
def SqT(K:HY)(H:Hp)(a:Addr)(xs:List V):Prop:=
 Rd H a (.Z1 xs) \/
  ∃(o:Obj) (ZY:Array Value) (n:Nat),K.lookup a=some o/\o.cls=.type "tuple" /\ o.data=.seq ZY n/\ZY.size<=sizeLine/\ZK xs ZY.toList
def Ja:Value->Option V
 |.none=>some .ZR
 |.bool b=>some (.bl b)
 |.int i _=>some (.int i)
 |.str x _=>some (.str x)
 |.bytes b _=>some (.Xe b)
 |.float b _=>some (.Vb b)
 |.ref a=>some (.ref a)
 |.type n=>some (.ty n)
 |_=>none
def RelV.abs{x:V}(r:RelV x u):Ja u=some x:=by
 cases x with
 |ZR=>cases r;rfl
 |bl _=>cases r;rfl
 |ref _=>cases r;rfl
 |ty _=>cases r;rfl
 |_=>let⟨t,rfl⟩:=r;rfl
def RelV.inj{x y:V}{u:Value}(r:RelV x u)(q:RelV y u):x=y:=WY (r.abs.symm.trans q.abs)
def ZK.inj:∀{xs ys:List V} {J:List Value},ZK xs J->ZK ys J->xs=ys
 |_,_,_,.nil,.nil=>rfl
 |_,_,_,.cons r t,.cons r' t'=>by rw[r.inj r',ZK.inj t t']
section
variable{xs ys:List V}
def SqL.of(h:H a=some (.S xs)):SqL K H a xs:=.inl (.inl h)
def SqT.of(h:H a=some (.Z1 xs)):SqT K H a xs:=.inl (.inl h)
def Z4.list(I:Z4 X Z Y H s)(h:SqL X.K H a xs):∃ZY:List Value,ZK xs ZY/\PlainL s.heap a ZY.toArray/\xs.length<=sizeLine:=by
 rcases h with h|⟨o,ZY,n,hk,hc,hd,hs,b,r⟩
 .obtain ⟨z,ZY,n,r,e⟩:=h.ok I.ZQ
  exact⟨ZY,r,⟨_,n,e,rfl,rfl,rfl⟩,z⟩
 .refine ⟨ZY.toList,r,⟨o,n,I.Zf a o hk,hc,hd,by simpa using hs⟩,?_⟩
  have e:=r.length;simp![Uj]at e;lia
def Z4.tuple(I:Z4 X Z Y H s)(h:SqT X.K H a xs):∃ZY:List Value,ZK xs ZY/\IsTup s.heap a ZY.toArray/\xs.length<=sizeLine:=by
 rcases h with h|⟨o,ZY,n,hk,hc,hs,b,r⟩
 .obtain ⟨z,ZY,r,p⟩:=h.ok I.ZQ
  exact⟨ZY,r,p,z⟩
 .refine ⟨ZY.toList,r,⟨o,I.Zf a o hk,hc,n,by simpa using hs⟩,?_⟩
  have e:=r.length;simp![Uj]at e;omega
def Z4.SU(I:Z4 X Z Y H s)(h:SqL X.K H a xs)(h':SqL X.K H a ys):xs=ys:=by
 let⟨ZY,r,⟨o,n,e,_,_,d⟩,_⟩:=I.list h;let⟨b,r',⟨o',g,e',_,_,c⟩,_⟩:=I.list h';rw[e]at e';cases e';rw[d]at c;injection c with f _
 have:ZY=b:=by simpa using Sb Array.toList f
 subst this;exact r.inj r'
def Z4.UD(I:Z4 X Z Y H s)(h:SqT X.K H a xs)(h':SqT X.K H a ys):xs=ys:=by
 let⟨ZY,r,⟨o,e,_,n,d⟩,_⟩:=I.tuple h;let⟨b,r',⟨o',e',_,g,c⟩,_⟩:=I.tuple h';rw[e]at e';cases e';rw[d]at c;injection c with f _
 have:ZY=b:=by simpa using Sb Array.toList f
 subst this;exact r.inj r'
end
abbrev Cx.Ye(X:Cx)(E:Value->Shared->Prop):Cx:={X with xe:=E}
abbrev Cx.Zx(X:Cx):Cx:=X.Ye λ_ _=>False
def Cx.Ok.Ye{X:Cx}(a:X.Ok)(E:Value->Shared->Prop):(X.Ye E).Ok:=
 ⟨a.mod,a.kind,a.glob,a.blt,a.above,a.inj,a.has,a.VM,a.hd,a.frames,a.WK,a.exf,a.bs,a.W2,a.Y3,a.U_,a.XH,a.Wo⟩
def Cx.Ok.X2{E:Value->Shared->Prop}(a:(X.Ye E).Ok):X.Ok:=
 ⟨a.mod,a.kind,a.glob,a.blt,a.above,a.inj,a.has,a.VM,a.hd,a.frames,a.WK,a.exf,a.bs,a.W2,a.Y3,a.U_,a.XH,a.Wo⟩
section
variable{E:Value->Shared->Prop}
def Z4.Ye(I:Z4 X Z Y H s)(E:Value->Shared->Prop):Z4 (X.Ye E) Z Y H s:=⟨I.ok.Ye E,I.os,I.bare,I.base,I.loc,I.cell,I.free,I.Ym,I.pin,I.ZQ,I.len⟩
def Z4.X2(I:Z4 (X.Ye E) Z Y H s):Z4 X Z Y H s:=⟨I.ok.X2,I.os,I.bare,I.base,I.loc,I.cell,I.free,I.Ym,I.pin,I.ZQ,I.len⟩
def SP.X2{D:Ends}{f:Flow}{a:Shared}(h:SP (X.Ye E) Z D f a):SP X Z D f a:=by
 cases f with
 |ret u=>let⟨v,ZX,H',I,r,q⟩:=h;exact⟨v,ZX,H',I.X2,r,q⟩
 |_=>let⟨ZX,H',I,q⟩:=h;exact⟨ZX,H',I.X2,q⟩
def PE.Zx{e:Expr}{t:TE}(h:PE X.Zx e t):PE X e t:=λZ s Y H Q I a=>
 V6 (h Z s Y H Q (I.Ye _) a) (λ_ _ ⟨v,H',b,r,q⟩=>⟨v,H',b.X2,r,q⟩) λ_ _ z=>False.elim z
def PT.Zx{e:Expr}{t:TT}(h:PT X.Zx e t):PT X e t:=λZ s Y H Q I a=>
 V6 (h Z s Y H Q (I.Ye _) a) (λ_ _ ⟨H',b,q⟩=>⟨H',b.X2,q⟩) λ_ _ z=>False.elim z
def PSs.Zx{a:List Stmt}{t:TS}(h:PSs X.Zx a t):PSs X a t:=λZ s Y H D I b=>
 V6 (h Z s Y H D (I.Ye _) b) (λ_ _ q=>q.X2) λ_ _ z=>False.elim z
end
section
variable{st:Stmt}{ZV:List Stmt}{t u:TS}
def HL:TS:=λD Y H=>D.nx Y H
def Jb(t u:TS):TS:=λD Y H=>t {D with nx:=u D} Y H
def eQ:PSs X [] HL:=λ_ _ Y H _ I h=>Pf ⟨Y,H,I,h⟩
def ee(c:PS X st t)(b:PSs X ZV u):PSs X (st::ZV) (Jb t u):=by
 intro Z s Y H D I h;refine wpAny_execs_cons (thn (c Z s Y H {D with nx:=u D} I h) λf a q=>?_)
 cases f with
 |next=>
  let⟨ZX,H',d,q⟩:=q;exact b Z a ZX H' D d q
 |_=>exact q
def Z4.quiet(I:Z4 X Z Y H s):interactive X.env=false:=by simp[interactive,I.ok.kind]
def HE(a:TE):TS:=λD Y H=>a Y H λ_ H1=>D.nx Y H1
def tW(c:PE X e te)(b:swapsWith e none pos.line X.env=pure false:=by rfl):PS X (.Expr e pos) (HE te):=by
 intro Z s Y H D I h;exact wpAny_Expr_any (thn (c Z s Y H _ I h) λv f ⟨x,H1,d,g,a⟩=>⟨Y,H1,d,a⟩) I.quiet b
def Jc(a:TE):TS:=λD Y H=>a Y H D.rt
def yO(c:PE X e te):PS X (.Return (some e) pos) (Jc te):=by
 intro Z s Y H D I h;exact wpAny_Return_some (thn (c Z s Y H _ I h) λv f ⟨x,H1,d,a,b⟩=>⟨x,Y,H1,d,a,b⟩)
def Jd(c:TT)(t u:TS):TS:=λD Y H=>c Y H λb H1=>if b=true then t D Y H1 else u D Y H1
def nO{c:Expr}{a b:List Stmt}{e:TT}(j:PT X c e)(l:PSs X a t)(k:PSs X b u):PS X (.If c a b pos) (Jd e t u):=by
 intro Z s Y H D I h;refine wpAny_If (thn (j Z s Y H _ I h) ?_);rintro d f ⟨H1,i,g⟩;cases d with
 |true=>exact l Z f Y H1 D i g
 |false=>exact k Z f Y H1 D i g
end
abbrev TG:=V->St->Hp->(St->Hp->Prop)->Prop
abbrev Wm:=List V->St->Hp->(St->Hp->Prop)->Prop
def PG(X:Cx)(a:Expr)(t:TG):Prop:=
 ∀(Z:List (Addr×Obj)) (s:Shared) (Y:St) (H:Hp) (v:V) (u:Value) (Q:St->Hp->Prop),Z4 X Z Y H s->RelV v u->t v Y H Q ->
  wpAny (model X.prog X.w) X.A (assign a X.env u) (λ_ s'=>∃ZX H',Z4 X Z ZX H' s'/\Q ZX H') X.xe s
def PGs(X:Cx)(a:List Expr)(t:Wm):Prop:=
 ∀(Z:List (Addr×Obj)) (s:Shared) (Y:St) (H:Hp) (vs:List V) (J:List Value) (Q:St->Hp->Prop),Z4 X Z Y H s->ZK vs J->t vs Y H Q ->
  wpAny (model X.prog X.w) X.A (assignInOrder ((assignEach a X.env).map (·.2)) J) (λ_ s'=>∃ZX H',Z4 X Z ZX H' s'/\Q ZX H') X.xe s
abbrev CY:=V->V->V->Hp->(Hp->Prop)->Prop
def Ci(X:Cx)(t:CY):Prop:=
 ∀(Z:List (Addr×Obj)) (s:Shared) (Y:St) (H:Hp) (o i v:V) (a b u:Value) (Q:Hp->Prop),Z4 X Z Y H s->RelV o a->RelV i b->RelV v u->t o i v H Q ->
  wpAny (model X.prog X.w) X.A (setItem a b u) (λ_ s'=>∃H',Z4 X Z Y H' s'/\Q H') X.xe s
section
def Gf(i:Nat):TG:=λv Y H Q=>Q (Y.set i (some v)) H
def l8(c:X.N.Nodup)(a:X.N[i]?=some x)(hx:Loc X.env.scope x)(b:X.fn x=true\/X.env.scope.names.lookup x=some .local:=by first|exact .inl rfl|exact .inr rfl|assumption):PG X (.Name x pos) (Gf i):=by
 intro Z s Y H v u Q I r h;exact wpAny_assign_Name (cZ I c a hx r (λs' d=>⟨_,H,d,h⟩) b)
def gNil:Wm:=λvs Y H Q=>vs=[]/\Q Y H
def HG(t:TG)(u:Wm):Wm:=λvs Y H Q=>∃v r,vs=v::r/\t v Y H λZX H'=>u r ZX H' Q
def vf:PGs X [] gNil:=by
 intro Z s Y H vs J Q I r h;let⟨e,h⟩:=h;subst e;cases r;exact assignInOrder_nil ⟨Y,H,I,h⟩
def rN{t:TG}{u:Wm}(f:PG X e t)(d:PGs X es u)
  (c:(assignEach (e::es) X.env).map (·.2)=assign e X.env::(assignEach es X.env).map (·.2):=by rfl):PGs X (e::es) (HG t u):=by
 intro Z s Y H vs J Q I r h;let⟨v,k,g,h⟩:=h;subst g;cases r with
 |cons r rr=>
  rw[c];refine QD (thn (f Z s Y H _ _ _ I r h) ?_);rintro _ a ⟨i,H1,j,b⟩;exact d Z a i H1 _ _ Q j rr b
def Je(K:HY)(n:Nat)(t:Wm):TG:=λv Y H Q=>∃a xs,v=.ref a/\SqT K H a xs/\xs.length=n/\t xs Y H Q
def zY{k:Nat}{t:Wm}(m:X.calm=true)(h:PGs X es t)
  (j:(assignEach es X.env).length=n:=by rfl) (q:(assignEach es X.env).findIdx? (·.1)=none:=by rfl):PG X (.Tuple es k pos) (Je X.K n t):=by
 intro Z s Y H v u Q I r c;let⟨a,xs,p,i,l,c⟩:=c;subst p;cases r;let⟨ZY,d,g,x⟩:=I.tuple i;refine assign_Tuple_tuple (I.ok.hd m) g (by simp[j,<-l,d.length]) q λh' f=>?_
 have w:Z4 X Z Y H {s with heap:=h'}:=I.kept (t':=s.toks) λb o e=>f b o (HV (HN e)) e
 exact h Z _ Y H xs _ Q w (by simpa using d) c
def Jf(a b:TE)(t:CY):TG:=λv Y H Q=>a Y H λo H1=>b Y H1 λi H2=>t o i v H2 λH3=>Q Y H3
def aaU{o i:Expr}{to ti:TE}{t:CY}(ho:PE X o to)(hi:PE X i ti)(hs:Ci X t)
  (ha:∀ v,assign (.Subscript o i pos) X.env v=(do
   let ov<-holding [v] (eval o X.env)
   let iv<-holding [v,ov] (eval i X.env)
   standAt pos
   holding [v,ov,iv] (setItem ov iv v)
   release [v,ov,iv] []):=by intro _;rfl):PG X (.Subscript o i pos) (Jf to ti t):=by
 intro Z s Y H v u Q I r h;rw[ha];refine ZB (US (thn (ho Z s Y H _ I h) ?_));rintro ov s1 ⟨x,H1,I1,r1,q1⟩;refine ZB (US (thn (hi Z s1 Y H1 _ I1 q1) ?_));rintro iv s2 ⟨y,H2,I2,r2,q2⟩;refine ZB (Tp (ZB (US (thn (hs Z s2 Y H2 x y v ov iv u _ I2 r1 r2 r q2) ?_))));rintro _ s3 ⟨H3,I3,q3⟩;exact wpAny_release ⟨Y,H3,I3,q3⟩
def GS(a:TE)(g:TG):TS:=λD Y H=>a Y H λx H1=>g x Y H1 D.nx
def mP{g:TG}(j:PE X e te)(i:PG X tg g)(f:swapsWithSole [tg] e pos.line X.env=pure false:=by rfl)(d:swappedStores [tg] e X.env=pure none:=by rfl)
  (h1:(assignEach [tg] X.env).map (·.2)=[assign tg X.env]:=by rfl):PS X (.Assign [tg] e pos) (GS te g):=by
 intro Z s Y H D I h;refine wpAny_Assign_stores (thn (j Z s Y H _ I h) λv a ⟨x,H1,k,b,c⟩=>?_) f d;rw[h1];exact thn (i Z a Y H1 x v _ k b c) λ_ l q=>q
def m7{a:Pos}(k:X.N.Nodup)(f:X.N[i]?=some x)(hx:Loc X.env.scope x)(j:PE X e te)(d:swapsWith e (some (.Name x a)) pos.line X.env=pure false:=by rfl)(g:X.fn x=true\/X.env.scope.names.lookup x=some .local:=by first|exact .inl rfl|exact .inr rfl|assumption):
  PS X (.Assign [.Name x a] e pos) (GS te (Gf i)):=by
 intro Z s Y H D I h;refine wpAny_Assign_Name (thn (j Z s Y H _ I h) λv o ⟨y,H1,m,b,c⟩=>?_) d;exact cZ m k f hx b (λn l=>⟨_,H1,l,c⟩) g
def Jg(i j:Nat)(a:TA):TS:=λD Y H=>a Y H λvs H1=>∃v w,vs=[v,w]/\D.nx ((Y.set i (some v)).set j (some w)) H1
def xE{y:Str}{a b:Expr}{ta:TA}{px py pt:Pos}{kt k2 WJ}(hc:X.calm=true)(hN:X.N.Nodup)(hi:X.N[i]?=some x)(hj:X.N[j]?=some y)(WI:i≠j)
  (hx:X.env.scope.names.lookup x=some .local) (hy:X.env.scope.names.lookup y=some .local) (ha:PA X [a,b] ta)
  (hw:swappedStores [.Tuple [.Name x px,.Name y py] kt pt] (.Tuple [a,b] k2 WJ) X.env=pure (some [x,y]))
  (hs:swapsWithSole [.Tuple [.Name x px,.Name y py] kt pt] (.Tuple [a,b] k2 WJ) pos.line X.env=pure false:=by rfl) :
  PS X (.Assign [.Tuple [.Name x px,.Name y py] kt pt] (.Tuple [a,b] k2 WJ) pos) (Jg i j ta):=by
 intro Z s Y H D I h;rw[exec_Assign_arm];refine ZB (Tp ?_);rw[hs];refine ZB (ZP ?_);rw[Xy #[1]]
 refine ZB (Tuple_ (thn (ha _ Z s Y H _ I h) ?_));rintro J s1 ⟨vs,H1,I1,r1,q1⟩;let⟨v,w,e1,q1⟩:=q1;subst e1;obtain⟨u1,u2,rfl,rv,YH⟩:∃u1 u2,J=[u1,u2]/\RelV v u1/\RelV w u2:=by
  cases r1 with
  |cons p q=>
   cases q with
   |cons p' q'=>
    cases q';exact⟨_,_,rfl,p,p'⟩
 refine UU ?_ (by show 2<=sizeLine;decide)
 have I2:Z4 X Z Y H1 {s1 with heap:=s1.heap.push {cls:=.type "tuple",data:=.seq [u1,u2].toArray}}:=I1.kept (t':=s1.toks) λb o e=>HM _ e
 rw[hw];refine ZB (ZP ?_);show wpAny (model X.prog X.w) X.A (do rule "assign.swapped-stores";let items<-unpackItems (.ref s1.heap.objs.size) 2 none;assignInOrder [λv=>bindName X.env y v,λv=>bindName X.env x v] items.reverse;pure Flow.next) _ _ _
 refine ZB (wpAny_rule (ZB (unpackItems_tuple (items:=#[u1,u2]) (I.ok.hd hc) (IsTup.new s1.heap _) λh' hx'=>?_)));have I3:=I2.kept (h':=h') (t':=s1.toks) λb o e=>hx' b o (HV (HN e)) e;show wpAny _ _ (assignInOrder [λv=>bindName X.env y v,λv=>bindName X.env x v] [u2,u1] >>= λ_=>pure Flow.next) _ _ _;refine ZB (QD (wpAny_bindName (cZ I3 hN hj (.inl hy) YH (λs2 I4=>?_) (.inr hy))));refine QD (wpAny_bindName (cZ I4 hN hi (.inl hx) rv (λs3 I5=>assignInOrder_nil (ZP ?_)) (.inr hx)));rw[List.set_comm _ _ (Ne.symm WI)]at I5;exact⟨_,H1,I5,q1⟩
end
set_option genInjectivity false in
structure It where
 go:Nat->Hp->Prop
 yld:Nat->Hp->V->Hp->Prop
 stop:Nat->Hp->Prop
def AQ(X:Cx)(Z:List (Addr×Obj))(H:Hp)(b:Addr):Prop:=
 H b=none/\b≠X.env.locals/\b ∉ X.fs/\(b∈X.ex\/X.ZH.heap.objs.size<=b)/\(∀x c,X.env.cells.lookup x=some c->c≠b) /\∀p∈X.pn++Z,p.1≠b
def Z4.UC{b:Addr}(I:Z4 X Z Y H s)(a:s.heap.objs.size<=b)(f:H' b=none):AQ X Z H' b:=by
 refine⟨f,Rm (HU I.lt a),I.nofs a,.inr (HP I.sz a),λx c e z=>?_,λp d z=>?_⟩
 .obtain ⟨v,q⟩:=I.cell x c e
  exact absurd (HU q.lt (by rw[z];exact a)) (T7 _)
 .exact absurd (HU (HN (I.pin p d).1) (by rw[z];exact a)) (T7 _)
structure Turn(P:Program)(w:World)(K:HY)(tg:Expr)(Z7:It)(fp:List Addr)(it:Addr)(tn:Nat->Heap->Prop):Prop where
 mem:it∈fp
 obj:∀i h,tn i h ->∀b∈fp,∃o,h.get? b=some o /\∀v,o.data ≠ .cell v
 keep:∀i h h',tn i h->(∀b∈fp,∀o,h.get? b=some o->h'.get? b=some o)->tn i h'
 item:∀(X:Cx),X.prog=P->X.w=w->X.K=K->X.calm=true ->∀(i:Nat) (Z:List (Addr×Obj)) (s:Shared) (Y:St) (H:Hp) (E:Value->Shared->Prop),Z4 X Z Y H s->(∀b∈fp,AQ X Z H b)->tn i s.heap->Z7.go i H ->
  wpAny (model P w) X.A (pyNext (.ref it)) (λr s1 => ∃ u,r=some u /\
   wpAny (model P w) X.A (letOwnedTupleGo tg (.ref it) u) (λ_ s2=>∃x H',Z4 X Z Y H' s2/\RelV x u/\Z7.yld i H x H'/\tn (i+1) s2.heap /\∀b∈fp,H' b=none) E s1) E s
 done:∀(X:Cx),X.prog=P->X.w=w->X.K=K->X.calm=true ->∀(i:Nat) (Z:List (Addr×Obj)) (s:Shared) (Y:St) (H:Hp) (E:Value->Shared->Prop),Z4 X Z Y H s->(∀b∈fp,AQ X Z H b)->tn i s.heap->Z7.stop i H ->
  wpAny (model P w) X.A (pyNext (.ref it)) (λr s1=>r=none/\Z4 X Z Y H s1) E s
 self:∀(A:Around) (i:Nat) (s:Shared) (Q:Value->Shared->Prop) (E:Value->Shared->Prop),tn i s.heap->Q (.ref it) s->wpAny (model P w) A (pyIter (.ref it)) Q E s
abbrev TI:=St->Hp->(It->Hp->Prop)->Prop
def PIE(X:Cx)(Z:List (Addr×Obj))(Y:St)(c:Expr)(R:It->Hp->Prop)(d:Value)(a:Shared):Prop:=
 ∃(it:Addr) (fp:List Addr) (tn:Nat->Heap->Prop) (Z7:It) (H':Hp),d=.ref it/\Z4 X Z Y H' a/\Turn X.prog X.w X.K c Z7 fp it tn/\tn 0 a.heap/\(∀b∈fp,AQ X Z H' b)/\R Z7 H'
def PI(X:Cx)(c a:Expr)(b:TI):Prop:=
 ∀(Z:List (Addr×Obj)) (s:Shared) (Y:St) (H:Hp) (R:It->Hp->Prop),Z4 X Z Y H s->b Y H R ->
  wpAny (model X.prog X.w) X.A (eval a X.env) (λv d=>wpAny (model X.prog X.w) X.A (pyIter v) (PIE X Z Y c R) X.xe d) X.xe s
def ff{E:Value->Shared->Prop}{it:Addr}{o:Obj}{n:String}{vs:Array Value}{Q:Unit->Shared->Prop}(b:s.heap.get? it=some o)(e:o.cls=.type n)(d:o.data=.fields vs)
    (c:["enumerate","zip","dict_itemiterator","dict_reverseitemiterator","odict_iterator","itertools.zip_longest","itertools.pairwise"].contains n=false) (a:Q Unit.unit s):wpAny Z9 A (letOwnedTupleGo tg (.ref it) u) Q E s:=by
  unfold letOwnedTupleGo;cases tg<;>first
    |exact ZP a
    | (cases u <;> first
        |exact ZP a
        | (refine ZB (wpAny_load b ?_)
           rw[e,d];show wpAny Z9 A (if(["enumerate","zip","dict_itemiterator","dict_reverseitemiterator","odict_iterator","itertools.zip_longest","itertools.pairwise"].contains n&&vs[0]? == some (rawInt _))=true then _ else _) Q E s
           rw[Xy (by intro h;rw[c,Pn]at h;cases h)]
           exact ZP a))
def Itl(K:HY)(a:Addr):It:=
 ⟨λi H=>∃xs x,SqL K H a xs/\xs[i]?=some x,λi H x H'=>H'=H /\∀xs,SqL K H a xs->xs[i]?=some x,λi H=>∃xs,SqL K H a xs/\xs.length<=i⟩
def Itt(K:HY)(a:Addr):It:=
 ⟨λi H=>∃xs x,SqT K H a xs/\xs[i]?=some x,λi H x H'=>H'=H /\∀xs,SqT K H a xs->xs[i]?=some x,λi H=>∃xs,SqT K H a xs/\xs.length<=i⟩
def Itr(a:Int)(n:Nat):It:=⟨λi _=>i<n,λi H x H'=>H'=H/\x=.int (a+i),λi _=>n<=i⟩
def qO(a it:Addr):Turn P w K tg (Itl K a) [it] it (λi h=>h.IsListIter it a i) where
 mem:=by simp
 obj:=λi h st b hb=>by
  have e:b=it:=by simpa using hb
  subst e;let⟨o,e,c,d⟩:=st;exact⟨o,e,λv z=>by rw[d]at z;cases z⟩
 keep:=λi h h' st k=>st.at λo e=>k it #[3] o e
 item:=by
  intro X hP hw hK hc i Z s Y H E I hf st hg;subst hP hw hK;let⟨xs,x,hq,hx⟩:=hg;let⟨ZY,rv,p,hz⟩:=I.list hq;let⟨u,hu,ru⟩:=rv.get hx;let⟨f0,f1,f2,f3,f4,f5⟩:=hf it #[3]
  refine wpAny_pyNext_list_item st p.isList (x:=u) (by simpa using hu) λh' Zd sb=>?_
  have I1:Z4 X Z Y H {s with heap:=h'}:=I.turned (t':=s.toks) (λb o hb e=>(sb.2 b hb).trans e) f0 f1 f3 f4 f5
  let⟨o,e,c,d⟩:=id Zd;exact⟨u,rfl,ff (s:={s with heap:=h'}) e c d #[1] ⟨x,H,I1,ru,⟨rfl,λys hy=>by rw[I.SU hy hq];exact hx⟩,Zd,λb hb=>(hf b hb).1⟩⟩
 done:=by
  intro X hP hw hK hc i Z s Y H E I hf st hg;subst hP hw hK;let⟨xs,hq,hx⟩:=hg;let⟨ZY,rv,p,hz⟩:=I.list hq;let⟨f0,f1,f2,f3,f4,f5⟩:=hf it #[3]
  have hl:=rv.length;exact wpAny_pyNext_list_end (I.ok.hd hc) st p.isList (by simp;lia) λh' eb=>⟨rfl,I.turned (t':=s.toks) (λb o hb e=>eb b o hb e) f0 f1 f3 f4 f5⟩
 self:=λ_ _ _ _ _ st h=>wpAny_pyIter_listiter st h
def qh(a it:Addr):Turn P w K tg (Itt K a) [it] it (λi h=>h.IsTupleIter it a i) where
 mem:=by simp
 obj:=λi h st b hb=>by
  have e:b=it:=by simpa using hb
  subst e;let⟨o,e,c,d⟩:=st;exact⟨o,e,λv z=>by rw[d]at z;cases z⟩
 keep:=λi h h' st k=>st.at λo e=>k it #[3] o e
 item:=by
  intro X hP hw hK hc i Z s Y H E I hf st hg;subst hP hw hK;let⟨xs,x,hq,hx⟩:=hg;let⟨ZY,rv,p,hz⟩:=I.tuple hq;let⟨u,hu,ru⟩:=rv.get hx;let⟨f0,f1,f2,f3,f4,f5⟩:=hf it #[3]
  refine wpAny_pyNext_tuple_item st (show s.heap.IsTuple a ZY.toArray from p) (x:=u) (by simpa using hu) λh' Zd sb=>?_
  have I1:Z4 X Z Y H {s with heap:=h'}:=I.turned (t':=s.toks) (λb o hb e=>(sb.2 b hb).trans e) f0 f1 f3 f4 f5
  let⟨o,e,c,d⟩:=id Zd;exact⟨u,rfl,ff (s:={s with heap:=h'}) e c d #[1] ⟨x,H,I1,ru,⟨rfl,λys hy=>by rw[I.UD hy hq];exact hx⟩,Zd,λb hb=>(hf b hb).1⟩⟩
 done:=by
  intro X hP hw hK hc i Z s Y H E I hf st hg;subst hP hw hK;let⟨xs,hq,hx⟩:=hg;let⟨ZY,rv,p,hz⟩:=I.tuple hq;let⟨f0,f1,f2,f3,f4,f5⟩:=hf it #[3]
  have hl:=rv.length;exact wpAny_pyNext_tuple_end (I.ok.hd hc) st (show s.heap.IsTuple a ZY.toArray from p) (by simp;omega) λh' eb=>⟨rfl,I.turned (t':=s.toks) (λb o hb e=>eb b o hb e) f0 f1 f3 f4 f5⟩
 self:=λ_ _ _ _ _ st h=>wpAny_pyIter_tupleiter st h
def pL(it:Addr)(lo:Int)(n:Nat):Turn P w K tg (Itr lo n) [it] it (λi h=>IsRangeIter h it (lo+(i:Nat)*1) ((n:Int)-(i:Nat)) 1) where
 mem:=by simp
 obj:=λi h st b hb=>by
  have e:b=it:=by simpa using hb
  subst e
  exact ⟨_,st,λv z=>by
   have z':Data.fields _=Data.cell v:=z;cases z'⟩
 keep:=λi h h' st k=>k it #[3] _ st
 item:=by
  intro X hP hw hK hc i Z s Y H E I hf st hg;subst hP hw hK;let⟨f0,f1,f2,f3,f4,f5⟩:=hf it #[3]
  have W:=Walks.range (prog:=X.prog) (w:=X.w) (I.ok.hd hc) it lo 1 n;refine W.item i s _ _ hg st λv h' tk hv Zd kk=>?_;let⟨t,rfl⟩:=hv;have I1:Z4 X Z Y H {s with heap:=h',toks:=tk}:=I.turned (λb o hb e=>kk b o (by simpa using hb) e) f0 f1 f3 f4 f5
  refine⟨_,rfl,ff (s:={s with heap:=h',toks:=tk}) (n:="range_iterator") Zd rfl rfl #[1] ⟨.int (lo+i),H,I1,⟨t,?_⟩,⟨rfl,rfl⟩,Zd,λb hb=>(hf b hb).1⟩⟩
  rw[Int.mul_one]
 done:=by
  intro X hP hw hK hc i Z s Y H E I hf st hg;subst hP hw hK;let⟨f0,f1,f2,f3,f4,f5⟩:=hf it #[3]
  exact wpAny_pyNext_range_end (I.ok.hd hc) st (by have:n<=i:=hg;lia) λh' eb=>⟨rfl,I.turned (t':=s.toks) (λb o hb e=>eb b o hb e) f0 f1 f3 f4 f5⟩
 self:=λ_ _ _ _ _ st h=>wpAny_pyIter_rangeiter st h
end L2
namespace L2
open PySem PySem.Spec PyProof.Rows
section
def ky{Y:St}{R:It->Hp->Prop}{E:Value->Shared->Prop}{a c:Int}{t u v:Tok}{tk:Nat}(I:Z4 X Z Y H s)(h1 : -(2 ^ 62)<=a)(j:a<2 ^ 62)(h3 : -(2 ^ 62)<=c)(g:c<2 ^ 62)
  (q:R (Itr a (c-a).toNat) H):wpAny (model X.prog X.w) X.A (pyIter (.ref s.heap.objs.size)) (PIE X Z Y tg R) E {s with heap:=s.heap.push {cls:=.type "range",data:=.fields #[.int a t,.int c u,.int 1 v]},toks:=tk}:=by
 refine wpAny_pyIter_range (IsRange.new ..) (small_one h1 j h3 g) ?_;have d:Z4 X Z Y H {s with heap:=s.heap.push {cls:=.type "range",data:=.fields #[.int a t,.int c u,.int 1 v]},toks:=tk}:=I.kept λb o e=>HM _ e
 refine⟨(s.heap.push {cls:=.type "range",data:=.fields #[.int a t,.int c u,.int 1 v]}).objs.size,[(s.heap.push {cls:=.type "range",data:=.fields #[.int a t,.int c u,.int 1 v]}).objs.size],_,_,H,rfl,
  d.kept (t':=tk) λb o e=>HM _ e,pL _ a (c-a).toNat,?_,λb f=>?_,q⟩
 .have r:a+((0:Nat):Int)*1=a:=by simp
  have k:(((c-a).toNat:Nat):Int)-((0:Nat):Int)=Builtin.Range.rangeSize a c 1:=by rw[rangeSize_one];split<;>lia
  show IsRangeIter _ _ (a+((0:Nat):Int)*1) ((((c-a).toNat:Nat):Int)-((0:Nat):Int)) 1;rw[r,k];exact HW _ rfl
 .have e:b=(s.heap.push {cls:=.type "range",data:=.fields #[.int a t,.int c u,.int 1 v]}).objs.size:=by simpa using f
  subst e;exact d.UC (HR _) (d.ZQ.fresh (HR _))
def HJ(a:TA):TI:=λY H R=>a Y H λvs H1=>∃j:Int,vs=[.int j] /\ -(2 ^ 62)<=j/\j<2 ^ 62/\R (Itr 0 j.toNat) H1
def HI(a:TA):TI:=λY H R=>a Y H λvs H1=>∃i j:Int,vs=[.int i,.int j]/\(-(2 ^ 62)<=i/\i<2 ^ 62 /\ -(2 ^ 62)<=j/\j<2 ^ 62)/\R (Itr i (j-i).toNat) H1
def rG{a:Expr}{c:TA}(k:Gl X "range")(i:X.mg "range" = none)(l:PA X [a] c)(g:starEach [a] X.env=[(false,eval a X.env)]:=by rfl):PI X tg (.Call (.Name "range" p) [a] [] pos) (HJ c):=by
 intro Z s Y H R I h;refine Call_ (cG I k i boot_range (SG (thn (l pos Z s Y H _ I h) λJ n ⟨vs,H1,m,d,b⟩=>?_) g rfl));let⟨j,e,b,f,q⟩:=b;subst e;cases d with
 |cons r rr=>
  cases rr;let⟨t,rfl⟩:=r;exact call_range_1 (ky m (by lia) (by lia) b f (by simpa using q))
def rj{a b:Expr}{d:TA}(u:Gl X "range")(o:X.mg "range" = none)(v:PA X [a,b] d)(n:starEach [a,b] X.env=[(false,eval a X.env),(false,eval b X.env)]:=by rfl)(f:starEach [b] X.env=[(false,eval b X.env)]:=by rfl):
  PI X tg (.Call (.Name "range" p) [a,b] [] pos) (HI d):=by
 intro Z s Y H R I h;refine Call_ (cG I u o boot_range (SG (thn (v pos Z s Y H _ I h) λJ x ⟨vs,H1,w,g,c⟩=>?_) (by rw[n,f]) (by rw[f];rfl)))
 let⟨i,j,e,⟨c,m,l,k⟩,q⟩:=c;subst e;cases g with
 |cons r rr=>
  cases rr with
  |cons r' rr=>
   cases rr;let⟨t,rfl⟩:=r;let⟨t',rfl⟩:=r';exact call_range_2 (ky w c m l k q)
def Jh(b:TI)(g:TG)(tb:TS):TS:=λD Y H=>b Y H λZ7 H1=>∃W:Nat->Nat->St->Hp->Prop,(∃m,W 0 m Y H1) /\∀i m Y H,W i m Y H ->
 (Z7.stop i H/\D.nx Y H)\/(Z7.go i H /\∃N:St->Hp->Prop,(∀ZX H',N ZX H' ->∃a,a<m/\W (i+1) a ZX H') /\∀x H',Z7.yld i H x H'->g x Y H' λc H2=>tb {D with nx:=N,ct:=N,bk:=D.nx} c H2)
def Cr(a:List Addr)(h:Heap):List (Addr×Obj):=a.filterMap λb=>(h.get? b).map λo=>(b,o)
def dF{b:Addr}{o:Obj}(a:b∈fp)(e:h.get? b=some o):(b,o)∈Cr fp h:=SN.mpr ⟨b,a,by rw[e];rfl⟩
def q0{p:Addr×Obj}(hp:p∈Cr fp h):p.1∈fp/\h.get? p.1=some p.2:=by
 let⟨b,a,e⟩:=SN.mp hp;cases q:h.get? b with
 |none=>rw[q]at e;cases e
 |some o=>
  rw[q]at e;have e':(b,o)=p:=WY e;subst e';exact⟨a,q⟩
def Z4.pinned{Y:St}{a:List Addr}(I:Z4 X Z Y H s)(h:∀b∈a,AQ X Z H b)(g:∀b∈a,∃o,s.heap.get? b=some o /\∀v,o.data ≠ .cell v):Z4 X (Z++Cr a s.heap) Y H s:=
 I.SW λp f=>(Rt.mp f).elim (λz=>I.pin p (VW _ z)) λz=>by
  let⟨c,e⟩:=q0 z;let⟨k,j,i,_⟩:=h p.1 c;let⟨o,e',d⟩:=g p.1 c;rw[e]at e';cases e';exact⟨e,k,j,i,d⟩
def Z4.TN{pl:List (Addr×Obj)}{Y:St}(I:Z4 X (Z++pl) Y H s):Z4 X Z Y H s:=I.SW λp a=>I.pin p (VW _ (T4 _ a))
def mX{J:TI}{g:TG}{tb:TS}(hp:PassesOwn (model X.prog X.w) X.A X.env X.xe)(L:X.calm=true)(hi:PI X tg iter J)(hg:PG X tg g)(c:PSs X body tb)
  (hs:∀x,foldedSetIterable iter X.env x=pure x:=by intro _;rfl):PS X (.For tg iter body [] pos) (Jh J g tb):=by
 intro Z s Y H D I h;refine wpAny_For (thn (hi Z s Y H _ I h) λv s1 h1=>thn h1 λU7 s2 h2=>?_) hs;let⟨it,fp,tn,Z7,H2,e,I2,T,Xr,M,W,⟨m0,V⟩,turn⟩:=h2;subst e;have a:∀{H':Hp},(∀b∈fp,H' b=none) ->∀b∈fp,AQ X Z H' b:=λhn b c=>⟨hn b c,(M b c).2⟩;refine codeAny_forLoop_any (λn s'=>∃i ZX H',Z4 X Z ZX H' s'/\tn i s'.heap/\(∀b∈fp,H' b=none)/\W i n ZX H') ?_ m0 ⟨0,Y,H2,I2,Xr,λb c=>(M b c).1,V⟩;rintro n s3 ⟨i,B,H3,O,t,z,U⟩;rcases turn i n B H3 U with⟨stop,qn⟩|⟨go,N,hN,step⟩
 .refine S1 hp (thn (T.done X rfl rfl rfl L i Z s3 B H3 X.xe O (a z) t stop) λr s4 ⟨E,I4⟩=>?_)
  subst E;exact Pf ⟨B,H3,I4,qn⟩
 .refine S1 hp (thn (T.item X rfl rfl rfl L i Z s3 B H3 X.xe O (a z) t go) λr s4 ⟨u,E,h4⟩=>?_)
  subst E;refine S1 hp (thn h4 ?_);rintro _ K ⟨x,P,I5,r5,Q,F,UB⟩;have G:=I5.pinned (a UB) (T.obj _ _ F);refine S1 hp (thn (hg _ K B P x u _ G r5 (step x P Q)) ?_);rintro _ s6 ⟨UA,H6,I6,q6⟩;refine S1 hp (thn (c _ s6 UA H6 _ I6 q6) λf C q=>?_);have j:∀{k:St} {p:Hp},Z4 X (Z++Cr fp K.heap) k p C->N k p ->∃m,m<n /\∃i ZX H',Z4 X Z ZX H' C/\tn i C.heap/\(∀b∈fp,H' b=none)/\W i m ZX H':=λ{k p} l y=>by
   let⟨m',hm,S⟩:=hN k p y;refine⟨m',hm,i+1,k,p,l.TN,T.keep _ _ _ F λb c o e=>(l.pin (b,o) (VW _ (VW _ (dF c e)))).1,λb c=>?_,S⟩;let⟨o,e,d⟩:=T.obj _ _ F b c;exact(l.pin (b,o) (VW _ (VW _ (dF c e)))).2.1
  cases f with
  |brk=>let⟨k,p,l,q⟩:=q;exact⟨k,p,l.TN,q⟩
  |ret v=>let⟨R,k,p,l,r7,q⟩:=q;exact⟨R,k,p,l.TN,r7,q⟩
  |_=>let⟨k,p,l,y⟩:=q;exact j l y
end
end L2
namespace L2
open PySem PySem.Spec PyProof.Rows
abbrev R2:=V->V->Hp->VK->Prop
def OpR(X:Cx)(f:Value->Value->Sem Value)(r:R2):Prop:=
 ∀(Z:List (Addr×Obj)) (s:Shared) (Y:St) (H:Hp) (x y:V) (v u:Value) (Q:VK),Z4 X Z Y H s->RelV x v->RelV y u->r x y H Q ->
  wpAny (model X.prog X.w) X.A (f v u) (EP X Z Y Q) X.xe s
def UnR(X:Cx)(f:Value->Sem Value)(r:V->Hp->VK->Prop):Prop:=
 ∀(Z:List (Addr×Obj)) (s:Shared) (Y:St) (H:Hp) (x:V) (v:Value) (Q:VK),Z4 X Z Y H s->RelV x v->r x H Q ->
  wpAny (model X.prog X.w) X.A (f v) (EP X Z Y Q) X.xe s
def CallR(X:Cx)(f:Value)(r:List V->Hp->VK->Prop):Prop:=
 ∀(Z:List (Addr×Obj)) (s:Shared) (Y:St) (H:Hp) (xs:List V) (J:List Value) (Q:VK),Z4 X Z Y H s->ZK xs J->r xs H Q ->
  wpAny (model X.prog X.w) X.A (call f J) (EP X Z Y Q) X.xe s
def TruR(X:Cx)(r:V->Hp->(Bool->Hp->Prop)->Prop):Prop:=
 ∀(Z:List (Addr×Obj)) (s:Shared) (Y:St) (H:Hp) (x:V) (v:Value) (Q:Bool->Hp->Prop),Z4 X Z Y H s->RelV x v->r x H Q ->
  wpAny (model X.prog X.w) X.A (truthy v) (TP X Z Y Q) X.xe s
def Ji(r:R2)(a tb:TE):TE:=λY H Q=>a Y H λx H1=>tb Y H1 λy H2=>r x y H2 Q
def Jj(r:V->Hp->VK->Prop)(a:TE):TE:=λY H Q=>a Y H λx H1=>r x H1 Q
def Jk(C:Int->Int->Prop)(g:Int->Int->V):R2:=λx y H Q=>∃i j,x=.int i/\y=.int j/\C i j/\Q (g i j) H
def Jl(g:Int->Int->V):R2:=λx y H Q=>∃i j,x=.int i/\y=.int j/\Q (g i j) H
def Jm(g:Int->V):V->Hp->VK->Prop:=λx H Q=>∃i,x=.int i/\Q (g i) H
section
variable{a b c:Expr}{tb tc:TE}
def iF(l:PE X a ta)(k:PE X b tb){Y:St}{R:V->V->Hp->Prop}(I:Z4 X Z Y H s)
  (h:ta Y H λx H1=>tb Y H1 λy H2=>R x y H2) {Q:Value->Shared->Prop} {f:Value->Value->Sem Value}
  (j:∀v u c x y H2,Z4 X Z Y H2 c->RelV x v->RelV y u->R x y H2->wpAny (model X.prog X.w) X.A (f v u) Q X.xe c) :
  wpAny (model X.prog X.w) X.A (eval a X.env) (λv m=>wpAny (model X.prog X.w) X.A (eval b X.env) (λu n=>wpAny (model X.prog X.w) X.A (f v u) Q X.xe n) X.xe m) X.xe s:=by
 refine thn (l Z s Y H _ I h) ?_;rintro v d ⟨x,H1,p,e,i⟩;refine thn (k Z d Y H1 _ p i) ?_;rintro u c ⟨y,H2,o,r2,g⟩;exact j v u c x y H2 o e r2 g
def abw{c:Operator}{r:R2}(g:OpR X (binaryOp c) r)(j:PE X a ta)(i:PE X b tb):PE X (.BinOp a c b pos) (Ji r ta tb):=by
 intro Z s Y H Q I h;exact wpAny_BinOp (iF j i I h λv u d x y H2 k f e q=>g Z d Y H2 x y v u Q k f e q)
def nF{b:UnaryOp}{r:V->Hp->VK->Prop}(f:UnR X (unaryOp b) r)(g:PE X a ta):PE X (.UnaryOp b a pos) (Jj r ta):=by
 intro Z s Y H Q I h;exact UnaryOp_ (thn (g Z s Y H _ I h) λv c ⟨x,H1,i,d,e⟩=>f Z c Y H1 x v Q i d e)
def opI{C:Int->Int->Prop}{g:Int->Int->Int}
  (a:∀(i j:Int) (t u:Tok) (s:Shared) (Q:Value->Shared->Prop) (E:Value->Shared->Prop),C i j->Q (.int (g i j) s.toks) {s with toks:=s.toks+1}->wpAny (model X.prog X.w) X.A (f (.int i t) (.int j u)) Q E s) :
  OpR X f (Jk C λi j=>.int (g i j)):=by
 intro Z s Y H x y v u Q I c b h;let⟨i,j,rfl,rfl,hc,q⟩:=h;let⟨t,rfl⟩:=c;let⟨t',rfl⟩:=b;exact a i j t t' s _ _ hc ⟨.int (g i j),H,I.tok _,⟨_,rfl⟩,q⟩
def og{g:Int->Int->Int}
  (a:∀(i j:Int) (t u:Tok) (s:Shared) (Q:Value->Shared->Prop) (E:Value->Shared->Prop),Q (.int (g i j) s.toks) {s with toks:=s.toks+1}->wpAny (model X.prog X.w) X.A (f (.int i t) (.int j u)) Q E s) :
  OpR X f (Jl λi j=>.int (g i j)):=by
 intro Z s Y H x y v u Q I c b h;let⟨i,j,rfl,rfl,q⟩:=h;let⟨t,rfl⟩:=c;let⟨t',rfl⟩:=b;exact a i j t t' s _ _ ⟨.int (g i j),H,I.tok _,⟨_,rfl⟩,q⟩
def fk{g:Int->Int->Bool}
  (a:∀(i j:Int) (t u:Tok) (s:Shared) (Q:Value->Shared->Prop) (E:Value->Shared->Prop),Q (.bool (g i j)) s->wpAny (model X.prog X.w) X.A (f (.int i t) (.int j u)) Q E s) :
  OpR X f (Jl λi j=>.bl (g i j)):=by
 intro Z s Y H x y v u Q I c b h;let⟨i,j,rfl,rfl,q⟩:=h;let⟨t,rfl⟩:=c;let⟨t',rfl⟩:=b;exact a i j t t' s _ _ ⟨.bl (g i j),H,I,rfl,q⟩
def GJ(i j:Int):Prop:=0<=j/\j<=1000000/\i.natAbs<2 ^ 64
def CMul(i j:Int):Prop:=(-(2 ^ 64)<i/\i<2 ^ 64)\/(-(2 ^ 64)<j/\j<2 ^ 64)
def CMul.ok{i j:Int}(h:CMul i j):IntMulOk i j:=by
 rcases h with⟨h1,h2⟩|⟨h1,h2⟩
 .exact .of_left (intBits_le_64 h1 h2)
 .exact .of_right (intBits_le_64 h1 h2)
def iy:OpR X (binaryOp .Add) (Jl λi j=>.int (i+j)):=og λ_ _ _ _ _ _ _ q=>add_int q
def il:OpR X (binaryOp .Sub) (Jl λi j=>.int (i-j)):=og λ_ _ _ _ _ _ _ q=>sub_int q
def ud:OpR X (binaryOp .Mod) (Jk (λ_ j=>j≠0) λi j=>.int (i.fmod j)):=opI λ_ _ _ _ _ _ _ hc q=>mod_int' hc q
def zk:OpR X (binaryOp .Pow) (Jk GJ λi j=>.int (i ^ j.toNat)):=opI λ_ _ _ _ _ _ _ hc q=>pow_int_small hc.1 hc.2.1 hc.2.2 q
def unI{f:Value->Sem Value}{g:Int->Int}
  (a:∀(i:Int) (t:Tok) (s:Shared) (Q:Value->Shared->Prop) (E:Value->Shared->Prop),Q (.int (g i) s.toks) {s with toks:=s.toks+1}->wpAny (model X.prog X.w) X.A (f (.int i t)) Q E s) :
  UnR X f (Jm λi=>.int (g i)):=by
 intro Z s Y H x v Q I b h;let⟨i,rfl,q⟩:=h;let⟨t,rfl⟩:=b;exact a i t s _ _ ⟨.int (g i),H,I.tok _,⟨_,rfl⟩,q⟩
def nj:UnR X (unaryOp .USub) (Jm λi=>.int (-i)):=unI λ_ _ _ _ _ q=>neg_int q
end
def Jn:V->V->Bool
 |.ZR,.ZR=>true|.ZR,.int _=>true|.int _,.ZR=>true|.ZR,.bl _=>true|.bl _,.ZR=>true|.ZR,.str _=>true|.str _,.ZR=>true
 |.int _,.int _=>true|.bl _,.bl _=>true|.str _,.str _=>true|.Xe _,.Xe _=>true
 |.int _,.str _=>true|.str _,.int _=>true|.bl _,.str _=>true|.str _,.bl _=>true
 |_,_=>false
def rNe:R2:=λx y H Q=>Jn x y=true/\Q (.bl (!decide (x=y))) H
def lZ{i j:Int}:decide (V.int i=V.int j)=(i==j):=by
 rw[RX];simp
def mD{i j:Bool}:decide (V.bl i=V.bl j)=(i==j):=by
 rw[RX];simp
def lV{i j:Str}:decide (V.str i=V.str j)=(i==j):=by
 rw[RX];simp
def uh{i j:Array UInt8}:decide (V.Xe i=V.Xe j)=(i.toList==j.toList):=by
 rw[RX];cases i;cases j;simp
section
variable{a b c:Expr}{tb tc:TE}
def az{Y:St}{Q:VK}{k k':Bool}(I:Z4 X Z Y H s)(q:Q (.bl k) H)(e:k=k'):EP X Z Y Q (.bool k') s:=by
 subst e;exact⟨.bl k,H,I,rfl,q⟩
def ab3:OpR X (compareOp .NotEq) rNe:=by
 intro Z s Y H x y v u Q I c a h;let⟨hs,q⟩:=h;cases x with
 |ZR=>
  cases c;cases y with
  |ZR=>cases a;exact PySem.EqNone.ne_none_none (az I q #[3])
  |bl j=>cases a;exact PySem.EqNone.ne_none_bool (az I q #[3])
  |int j=>let⟨t',rfl⟩:=a;exact PySem.EqNone.ne_none_int (az I q #[3])
  |str j=>let⟨t',rfl⟩:=a;exact PySem.EqNone.ne_none_str (az I q #[3])
  |_=>exact absurd (show false=true from hs) HQ
 |bl i=>
  cases c;cases y with
  |ZR=>cases a;exact PySem.EqNone.ne_bool_none (az I q #[3])
  |bl j=>cases a;exact ne_bool (az I q (Sb not mD))
  |str j=>let⟨t',rfl⟩:=a;exact PySem.EqMixed.ne_bool_str (az I q #[3])
  |_=>exact absurd (show false=true from hs) HQ
 |int i=>
  let⟨t,rfl⟩:=c;cases y with
  |ZR=>cases a;exact PySem.EqNone.ne_int_none (az I q #[3])
  |int j=>let⟨t',rfl⟩:=a;exact ne_int (az I q (Sb not lZ))
  |str j=>let⟨t',rfl⟩:=a;exact PySem.EqMixed.ne_int_str (az I q #[3])
  |_=>exact absurd (show false=true from hs) HQ
 |str i=>
  let⟨t,rfl⟩:=c;cases y with
  |ZR=>cases a;exact PySem.EqNone.ne_str_none (az I q #[3])
  |bl j=>cases a;exact PySem.EqMixed.ne_str_bool (az I q #[3])
  |int j=>let⟨t',rfl⟩:=a;exact PySem.EqMixed.ne_str_int (az I q #[3])
  |str j=>let⟨t',rfl⟩:=a;exact ne_str (az I q (Sb not lV))
  |_=>exact absurd (show false=true from hs) HQ
 |Xe i=>
  let⟨t,rfl⟩:=c;cases y with
  |Xe j=>let⟨t',rfl⟩:=a;exact PySem.W.ne_bytes (az I q (Sb not uh))
  |_=>exact absurd (show false=true from hs) HQ
 |_=>cases y<;>exact absurd (show false=true from hs) HQ
def acg:OpR X (compareOp .Lt) (Jl λi j=>.bl (decide (i<j))):=fk λ_ _ _ _ _ _ _ q=>lt_int q
def adi:OpR X (compareOp .LtE) (Jl λi j=>.bl (decide (i<=j))):=fk λ_ _ _ _ _ _ _ q=>le_int q
def abh:OpR X (compareOp .Gt) (Jl λi j=>.bl (decide (j<i))):=fk λ_ _ _ _ _ _ _ q=>gt_int q
def acp:OpR X (compareOp .GtE) (Jl λi j=>.bl (decide (j<=i))):=fk λ_ _ _ _ _ _ _ q=>ge_int q
def aaK:OpR X (compareOp .Is) (λx y H Q=>y=.ZR/\Q (.bl (decide (x=.ZR))) H):=by
 intro Z s Y H x y v u Q I a b h;let⟨rfl,q⟩:=h;cases b;refine is_none_gen (az I q ?_);cases x<;>first
  |(cases a;rfl)
  |(let⟨t,rfl⟩:=a;rfl)
def vi:OpR X (compareOp .IsNot) (λx y H Q=>y=.ZR/\Q (.bl (!decide (x=.ZR))) H):=by
 intro Z s Y H x y v u Q I a b h;let⟨rfl,q⟩:=h;cases b;refine isnot_none_gen (az I q ?_);cases x<;>first
  |(cases a;rfl)
  |(let⟨t,rfl⟩:=a;rfl)
def vg{c:CmpOp}{r:R2}(g:OpR X (compareOp c) r)(k:PE X a ta)(j:PE X b tb)(i:behindInMarks c b=false):PE X (.Compare a [c] [b] pos) (Ji r ta tb):=by
 intro Z s Y H Q I h;exact wpAny_Compare1 (iF k j I h λv u d x y H2 l f e q=>g Z d Y H2 x y v u Q l f e q) i
def Gd(t:TE):TT:=λY H Q=>t Y H λx H'=>∃k,x=.bl k/\Q k H'
def tY{d:CmpOp}{r:R2}(o:OpR X (compareOp d) r)(t:PE X a ta)(q:PE X b tb)(p:behindInMarks d b=false):PT X (.Compare a [d] [b] pos) (Gd (Ji r ta tb)):=by
 intro Z s Y H Q I h;refine wpAny_isTrue_Compare1 (thn (t Z s Y H _ I h) λv g ⟨x,H1,B,j,n⟩=>thn (q Z g Y H1 _ B n) λu f ⟨y,H2,A,r2,m⟩ =>
  thn (o Z f Y H2 x y v u _ A j r2 m) λc s3 ⟨z,H3,w,i,k,e,l⟩=>?_) p
 subst e;cases i;exact Sj ⟨H3,w,l⟩
def DO(r d:R2)(c tb b:TE):TE:=λY H Q=>c Y H λx H1=>tb Y H1 λy H2=>r x y H2 λz H3=>∃k,z=.bl k /\
 (if k=true then b Y H3 λa e=>d y a e Q else Q (.bl false) H3)
def tm{f g:CmpOp}{r i:R2}(D:OpR X (compareOp f) r)(K:OpR X (compareOp g) i)(J:PE X a ta)(G:PE X b tb)(F:PE X c tc)
  (E:lastMarks [f,g] [b,c]=false:=by with_unfolding_all rfl):PE X (.Compare a [f,g] [b,c] pos) (DO r i ta tb tc):=by
 intro Z s Y H Q I h;refine Compare_chain (thn (J Z s Y H _ I h) λv p ⟨x,H1,N,w,C⟩=>chain_link (thn (G Z p Y H1 _ N C) λu o ⟨y,H2,M,r2,B⟩ =>
  thn (D Z o Y H2 x y v u _ M w r2 B) λd s3 ⟨z,H3,l,t,k,e,j⟩=>?_)) E
 subst e;cases t;refine Sj ?_;cases k with
 |false=>exact ite_ff ⟨.bl false,H3,l,rfl,j⟩
 |true=>exact ite_tt (chain_last (thn (F Z s3 Y H3 _ l j) λn s4 ⟨m,O,L,q,A⟩=>K Z s4 Y O y m u n Q L r2 q A))
def tu{f g:CmpOp}{r i:R2}(G:OpR X (compareOp f) r)(O:OpR X (compareOp g) i)(M:PE X a ta)(L:PE X b tb)(K:PE X c tc)
  (J:lastMarks [f,g] [b,c]=false:=by with_unfolding_all rfl):PT X (.Compare a [f,g] [b,c] pos) (Gd (DO r i ta tb tc)):=by
 intro Z s Y H Q I h;refine isTrue_chain (thn (M Z s Y H _ I h) λv p ⟨x,H1,T,A,E⟩=>test_link (thn (L Z p Y H1 _ T E) λu o ⟨y,H2,S,r2,D⟩ =>
  thn (G Z o Y H2 x y v u _ S A r2 D) λd s3 ⟨z,H3,l,w,k,e,j⟩=>?_)) J
 subst e;cases w;refine Sj ?_;cases k with
 |false=>
  let⟨k',e',F⟩:=j;cases e';exact ite_ff ⟨H3,l,F⟩
 |true=>
  refine ite_tt (test_last (thn (K Z s3 Y H3 _ l j) λn s4 ⟨m,V,R,t,C⟩=>thn (O Z s4 Y V y m u n _ R r2 t C) ?_));rintro d' s5 ⟨W,U,P,q,k2,N,B⟩;subst N;cases q;exact Sj ⟨U,P,B⟩
def DC(K:HY)(x:V)(H:Hp)(k:Bool):Prop:=
 match x with
 |.ZR=>k=false
 |.bl b=>k=b
 |.int i=>k=(i != 0)
 |.str y=>y.length<=sizeLine/\k=((y.length:Int) != 0)
 |.Xe y=>y.size<=sizeLine/\k=((y.size:Int) != 0)
 |.ref p=>(∃xs,SqL K H p xs/\k = !xs.isEmpty)\/(∃xs,SqT K H p xs/\k = !xs.isEmpty) \/∃O,H p=some (.dK O)/\k = !O.isEmpty
 |_=>False
def qu{a:Type}{O:List (a×V)}{vs:List (a×Value)}(r:KV O vs):(!vs.isEmpty) = !O.isEmpty:=by
 cases r<;>rfl
def jf{xs:List V}(r:ZK xs ZY):(!ZY.toArray.isEmpty) = !xs.isEmpty:=by
 cases r<;>simp
def dq:(sizeLine:Nat)<2 ^ 63:=by rw[Tz];decide
def mL:TruR X (λx H Q=>∃k,DC X.K x H k/\Q k H):=by
 intro Z s Y H x v Q I a h;let⟨k,e,q⟩:=h;have g:=dq;have hs:sizeLine=16777216:=Tz;cases x with
 |ZR=>
  cases a;have e':k=false:=e;subst e';exact truthy_none ⟨H,I,q⟩
 |bl b=>
  cases a;have e':k=b:=e;subst e';exact Sj ⟨H,I,q⟩
 |int i=>
  let⟨t,rfl⟩:=a;have e':k=(i != 0):=e;subst e';exact PySem.P.truthy_int ⟨H,I,q⟩
 |str y=>
  let⟨t,rfl⟩:=a;obtain⟨d,e'⟩:y.length<=sizeLine/\k=((y.length:Int) != 0):=e;subst e';exact PySem.P.truthy_str (by lia) ⟨H,I.tok _,q⟩
 |Xe y=>
  let⟨t,rfl⟩:=a;obtain⟨d,e'⟩:y.size<=sizeLine/\k=((y.size:Int) != 0):=e;subst e';exact PySem.W.truthy_bytes (by lia) ⟨H,I.tok _,q⟩
 |ref p=>
  cases a;have e':(∃xs,SqL X.K H p xs/\k = !xs.isEmpty)\/(∃xs,SqT X.K H p xs/\k = !xs.isEmpty) \/∃O,H p=some (.dK O)/\k = !O.isEmpty:=e;rcases e' with⟨xs,hx,e'⟩|⟨xs,hx,e'⟩|⟨O,hx,e'⟩
  .subst e'
   let⟨ZY,r,pl,c⟩:=I.list hx;have hlen:=r.length;exact wpAny_truthy_list pl.isList (by simp![Wl];lia) ⟨H,I.tok _,by rw[jf r];exact q⟩
  .subst e'
   let⟨ZY,r,pl,c⟩:=I.tuple hx;have hlen:=r.length;exact truthy_tuple pl (by simp![Wl];omega) ⟨H,I.tok _,by rw[jf r];exact q⟩
  .subst e'
   obtain⟨c,f,vs,r,m⟩:O.length<=sizeLine/\(p==sysModules)=false /\∃vs,KV O vs/\s.heap.DictOf (AD X.prog X.w) p vs:=I.ZQ p _ hx;have hlen:O.length=vs.length:=RQ r;exact wpAny_truthy_dict f m (by lia) ⟨H,I.tok _,by rw[qu r];exact q⟩
 |_=>exact(show False from e).elim
def s9(ha:PE X a ta)(he:∀whole,isTrue a X.env whole=(do let v<-whole;standAt a.pos;holding [v] (truthy v))):
  PT X a (λY H Q=>ta Y H λx H'=>∃k,DC X.K x H' k/\Q k H'):=by
 intro Z s Y H Q I h;exact isTrue_plain (thn (ha Z s Y H _ I h) λv s1 ⟨x,H1,I1,r1,q1⟩=>mL Z s1 Y H1 x v Q I1 r1 q1) (he _)
def vals1{x:V}{J:List Value}(r:ZK [x] J):∃u,J=[u]/\RelV x u:=by
 cases r with
 |cons a r2=>cases r2;exact⟨_,rfl,a⟩
def vals2{x:V}{J:List Value}(r:ZK [x,y] J):∃u a,J=[u,a]/\RelV x u/\RelV y a:=by
 cases r with
 |cons d r2=>
  cases r2 with
  |cons c b=>cases b;exact⟨_,_,rfl,d,c⟩
def call_abs:CallR X (.builtin "abs") (λxs H Q=>∃i,xs=[.int i]/\Q (.int (if i<0 then -i else i)) H):=by
 intro Z s Y H xs J Q I r h;let⟨i,rfl,q⟩:=h;let⟨u,rfl,t,rfl⟩:=vals1 r;exact call_abs_int λu tk=>⟨.int (if i<0 then -i else i),H,I.tok _,⟨_,rfl⟩,q⟩
def qz(b:X.calm=true):CallR X (.builtin "max") (λxs H Q=>∃i j,xs=[.int i,.int j]/\Q (.int (if j > i then j else i)) H):=by
 intro Z s Y H xs J Q I r h;let⟨i,j,rfl,q⟩:=h;let⟨u,c,rfl,⟨t,rfl⟩,⟨t',rfl⟩⟩:=vals2 r;refine max_two_ints (I.ok.hd b) λh' tk k=>⟨_,H,I.kept k,?_,q⟩;by_cases a:j > i
 .rw [XN a,XN a];exact⟨_,rfl⟩
 .rw [Xy a,Xy a];exact⟨_,rfl⟩
def qK(b:X.calm=true):CallR X (.builtin "min") (λxs H Q=>∃i j,xs=[.int i,.int j]/\Q (.int (if j<i then j else i)) H):=by
 intro Z s Y H xs J Q I r h;let⟨i,j,rfl,q⟩:=h;let⟨u,c,rfl,⟨t,rfl⟩,⟨t',rfl⟩⟩:=vals2 r;refine min_two_ints (I.ok.hd b) λh' tk k=>⟨_,H,I.kept k,?_,q⟩;by_cases a:j<i
 .rw [XN a,XN a];exact⟨_,rfl⟩
 .rw [Xy a,Xy a];exact⟨_,rfl⟩
end
end L2
namespace L2
open PySem PySem.Spec PyProof.Rows
structure VI(h:Heap)(x dx C:Addr)(mA:Str->Option Value):Prop where
 obj:h.get? x=some (PySem.W.instObj C dx)
 ns:h.Ns1 dx mA
 ne:dx≠x
def gh{d:Addr}{c:Str->Option Value}(n:h.Ns1 d c):∃od,h.get? d=some od /\∀name,PySem.W.lookIn name od=some (c name):=by
 let⟨o,es,ep,ho,i,hk,_,g⟩:=n;refine⟨o,ho,λname=>?_⟩;have e:=g name;unfold nsFind findBy at e;rw[<-Array.find?_toList]at e;unfold PySem.W.lookIn;rw[i];dsimp only;split
 .rename_i y q
  rw[q]at e;exact Sb some e
 .rename_i q
  rw[q]at e;have a:es.toList.any (·.refKey)=false:=by
   rw[List.any_eq_false];intro y f;let⟨z,t,b⟩:=hk y (Qn.mp f);simp[DictEntry.refKey,b]
  have a' : ¬ es.toList.any (·.refKey)=true:=by rw[a];exact HQ
  rw[Xy a'];exact Sb some e
def VI.look{x b C:Addr}{a:Str->Option Value}(I:VI h x b C a):∃od,PySem.W.InstAt h x (PySem.W.instObj C b) C (some od) /\∀name,PySem.W.lookIn name od=some (a name):=
 let⟨od,ho,c⟩:=gh I.ns
 ⟨od,⟨I.obj,rfl,rfl,ho⟩,c⟩
section
variable{E:Value->Shared->Prop}{x dx C f:Addr}{mA:Str->Option Value}{v:Value}
def get_map{a:Bool}{Q:Value->Shared->Prop}(X:K.In s.heap)(I:VI s.heap x dx C mA)(f:PySem.W.plainGet K C name=true)(e:PySem.W.hasDictIn K C=true)
  (g:PySem.W.findIn K (.ref C) name=some none) (c:mA name=some v) (b:PySem.W.handedIn v=true) (h:Q v {s with toks:=s.toks+1}) :
  wpAny (model prog w) A (getAttr (.ref x) name a) Q E s:=by
 let⟨od,Z7,d⟩:=I.look;exact PySem.W.get_value X Z7 (Qu f).1 (PySem.W.findObj_own e g rfl (by rw[d,c])) b h
def tL{Q:Value×List Value->Shared->Prop}(X:K.In s.heap)(I:VI s.heap x dx C mA)(a:PySem.W.plainGet K C name=true)
  (e:PySem.W.findIn K (.ref C) name=some (some (.ref f))) (c:PySem.W.isFn K (.ref f)=true) (b:mA name=none) (h:Q (.ref f,[.ref x]) s) :
  wpAny (model prog w) A (getMethod (.ref x) name pl) Q E s:=by
 let⟨od,Z7,d⟩:=I.look;exact PySem.W.method_fn X Z7 (Qu a).1 (Qu a).2 e (WQ.mp c) (by show(PySem.W.lookIn name od).map (·.isSome)=some false;rw[d,b];rfl) h
def vD{ns:List Str}{Q:Unit->Shared->Prop}(X:K.In s.heap)(I:VI s.heap x dx C mA)
  (k:PySem.W.findIn K (.ref C) "__setattr__" = some (some (.builtin "object.__setattr__"))) (hp:PySem.W.plainOver K C=true) (j:PySem.W.takerIn K C name=some none) (o:PySem.W.hasDictIn K C=true)
  (g:PySem.Within mA ns) (hsz:ns.length<=sizeLine)
  (h:∀h',VI h' x dx C (λy=>if y=name then some v else mA y)->Heap.SameBut dx s.heap h'->Q Unit.unit {s with heap:=h',toks:=s.toks+2}) :
  wpAny (model prog w) A (setAttr (.ref x) name v) Q E s:=by
 let⟨od,Z7,H⟩:=I.look;refine PySem.W.set_plain X Z7 k (PySem.W.osa_open (s:={s with toks:=s.toks+1}) (r:=none) X Z7 hp j λb=>?_)
 let⟨J,hc,z⟩:=PySem.W.any_some o;have f:s.heap.get? x=some ⟨.ref C,some dx,.plain,#[]⟩:=I.obj;refine ZB (ZP (ZB (ZB (QE f (ZB (PySem.W.Looks.here (s:={s with toks:=s.toks+1}) (PySem.W.looks_clsIn X hc) ?_))))))
 rw[z];refine ZP (a:=some dx) (ZB (ZP (ZB ?_)));refine wpAny_nsSet1 (s:={s with toks:=s.toks+1}) I.ns λh' d c=>?_
 let⟨G,t,u,D,F,B⟩:=d.count (QR name v g);refine ZB (Q1 D (by rw[F];exact Q3 (HP B (by rw[X8];lia))) ?_)
 exact ZP (h _ ⟨(c.2 _ (Ne.symm I.ne)).trans I.obj,d,I.ne⟩ c)
def sx{R:Result->Shared->Prop}{vs:List Value}(X:K.In s.heap)(a:PySem.W.makesIn K C=true)
  (b:PySem.W.findIn K (.ref C) "__init__" = some (some (.ref f))) (c:PySem.W.typeIn K (.ref f)=some (.type "function"))
  (h:codeAny (model prog w) (A.under (.builtin "type.__call__" ⟨.ref C::vs,kw⟩)) (.call (.ref f) ⟨.ref (s.heap.objs.size+1)::vs,kw⟩) (PySem.W.InitBack (s.heap.objs.size+1) R)
   {s with heap:=(s.heap.push PySem.W.emptyDict).push (PySem.W.instObj C s.heap.objs.size)}) :
  codeAny (model prog w) A (.call (.ref C) ⟨vs,kw⟩) R s:=by
 let⟨e,g,d,t,os⟩:=s;exact PySem.W.make_core (PySem.W.makes_of X a) (PySem.W.looks_findIn X b) (λself=>PySem.W.bind_fn X self c) (.inl rfl) h
end
def AL(f:Str)(v:V):List (Str×V)->List (Str×V)
 |[]=>[(f,v)]
 |(g,x)::r=>if g=f then(g,v)::r else(g,x)::AL f v r
def iX(f g:Str)(v:V):∀fs:List (Str×V),(AL f v fs).lookup g=if g=f then some v else fs.lookup g
 |[]=>by
  show List.lookup g [(f,v)]=_;by_cases h:g=f
  .have a:(g==f)=true:=WQ.mpr h
   simp![List.lookup,a,XN h]
  .have a:(g==f)=false:=TL.mpr h
   simp![List.lookup,a,Xy h]
 |(k,x)::r=>by
  have ih:=iX f g v r;rw[show AL f v ((k,x)::r)=(if k=f then(k,v)::r else(k,x)::AL f v r)from rfl]
  by_cases hk:k=f
  .rw [XN hk]
   by_cases h:g=k
   .have a:(g==k)=true:=WQ.mpr h
    simp![List.lookup,a,XN (h.trans hk)]
   .have a:(g==k)=false:=TL.mpr h
    simp![List.lookup,a,Xy (λe:g=f=>h (e.trans hk.symm))]
  .rw [Xy hk]
   by_cases h:g=k
   .have a:(g==k)=true:=WQ.mpr h
    simp![List.lookup,a,Xy (λe:g=f=>hk (h.symm.trans e))]
   .have a:(g==k)=false:=TL.mpr h
    simp![List.lookup,a];exact ih
def fU(f:Str)(v:V):∀fs:List (Str×V),f∈(AL f v fs).map (·.1) /\∀g,g∈fs.map (·.1)->g∈(AL f v fs).map (·.1)
 |[]=>⟨by simp[AL],λg h=>by simp at h⟩
 |(k,x)::r=>by
  let⟨b,a⟩:=fU f v r;rw[show AL f v ((k,x)::r)=(if k=f then(k,v)::r else(k,x)::AL f v r)from rfl]
  by_cases hk:k=f
  .rw [XN hk]
   subst hk;exact⟨by simp,λg h=>by simpa using h⟩
  .rw [Xy hk]
   refine⟨?_,λg h=>?_⟩
   .rw [Xk]
    exact HS _ b
   .rw [Xk]at h ⊢
    rcases Wc.mp h with e|e
    .exact Wc.mpr (.inl e)
    .exact HS _ (a g e)
def iW(f:Str)(v:V):∀fs:List (Str×V),(AL f v fs).length<=fs.length+1
 |[]=>by simp[AL]
 |(k,x)::r=>by
  have ih:=iW f v r;rw[show AL f v ((k,x)::r)=(if k=f then(k,v)::r else(k,x)::AL f v r)from rfl]
  by_cases hk:k=f
  .rw [XN hk,X8,X8];lia
  .rw [Xy hk,X8,X8];lia
def RelO.some_of{o:Option Value}(r:RelO (some v) o):∃u,o=some u/\RelV v u:=by
 cases o with
 |none=>exact(show False from r).elim
 |some u=>exact⟨u,rfl,r⟩
def RelO.none_of{o:Option Value}(r:RelO none o):o=none:=by
 cases o with
 |none=>rfl
 |some u=>exact(show False from r).elim
def jK{u:Value}(r:RelV v u):PySem.W.handedIn u=true:=by
 cases v with
 |ZR=>cases(show u=Value.none from r);rfl
 |bl b=>cases(show u=Value.bool b from r);rfl
 |int i=>let⟨t,e⟩:=(show∃t,u=Value.int i t from r);cases e;rfl
 |str x=>let⟨t,e⟩:=(show∃t,u=Value.str x t from r);cases e;rfl
 |Xe b=>let⟨t,e⟩:=(show∃t,u=Value.bytes b t from r);cases e;rfl
 |Vb b=>let⟨t,e⟩:=(show∃t,u=Value.float b t from r);cases e;rfl
 |ref a=>cases(show u=Value.ref a from r);rfl
 |ty n=>cases(show u=Value.type n from r);rfl
section
variable{C dx:Addr}{fs fs':List (Str×V)}
def gF(c:HOk P w H h)(e:H a=some (.ins C dx fs)):∃mA,VI h a dx C mA/\(∀f,RelO (fs.lookup f) (mA f))/\PySem.Within mA (fs.map (·.1))/\fs.length<=1000/\H dx=some (.own a):=by
 let⟨d,z,b,ob,mA,n,r,q⟩:=(show ObjOk P w H h a (.ins C dx fs)from c a _ e);exact⟨mA,⟨ob,n,b⟩,r,q,z,d⟩
end
structure Yu(K:HY)(C:Addr):Prop where
 pg:PySem.W.plainGet K C Str.empty=true
 hd:PySem.W.hasDictIn K C=true
 po:PySem.W.plainOver K C=true
 sa:PySem.W.findIn K (.ref C) "__setattr__" = some (some (.builtin "object.__setattr__"))
def Yu.get{C:Addr}(c:Yu K C)(f:Str):PySem.W.plainGet K C f=true:=c.pg
def NoAttr(K:HY)(C:Addr)(f:Str):Prop:=PySem.W.findIn K (.ref C) f=some none
def NoAttr.Sx{C:Addr}{f:Str}(n:NoAttr K C f):PySem.W.takerIn K C f=some none:=by
 unfold PySem.W.takerIn;rw[show PySem.W.findIn K (.ref C) f=some none from n]
 rfl
structure VH(K:HY)(C:Addr)(m:Str)(f:Addr):Prop where
 at_:PySem.W.findIn K (.ref C) m=some (some (.ref f))
 fn:PySem.W.isFn K (.ref f)=true
 kp:PySem.W.keepIn K (.ref f)=true
section
variable{Y:St}{C dx:Addr}{fs:List (Str×V)}{f:Str}{E:Value->Shared->Prop}
def qi{Q:Value->Shared->Prop}(I:Z4 X Z Y H s)(e:H a=some (.ins C dx fs))(c:Yu X.K C)(n:NoAttr X.K C f)(l:fs.lookup f=some v)
  (h:∀u s',Z4 X Z Y H s'->RelV v u->Q u s'):wpAny (model X.prog X.w) A (getAttr (.ref a) f b) Q E s:=by
 let⟨mA,Z6,r,_,_,_⟩:=gF I.ZQ e;let⟨u,g,d⟩:=RelO.some_of (v:=v) (o:=mA f) (by rw[<-l];exact r f)
 exact get_map I.Zf Z6 (c.get f) c.hd n g (jK d) (h u _ (I.tok _) d)
def ql{m:Str}{g:Addr}{Q:Value×List Value->Shared->Prop}(I:Z4 X Z Y H s)(e:H a=some (.ins C dx fs))(c:Yu X.K C)(k:VH X.K C m g)(l:fs.lookup m=none)
  (h:Q (.ref g,[.ref a]) s):wpAny (model X.prog X.w) A (getMethod (.ref a) m pl) Q E s:=by
 let⟨mA,Z6,r,_,_,_⟩:=gF I.ZQ e;have b:mA m=none:=RelO.none_of (by rw[<-l];exact r m)
 exact tL I.Zf Z6 (c.get m) k.at_ k.fn b h
def pX{u:Value}{Q:Unit->Shared->Prop}(I:Z4 X Z Y H s)(e:H a=some (.ins C dx fs))(c:Yu X.K C)(n:NoAttr X.K C f)(p:fs.length<1000)(j:RelV y u)
  (h:∀s',Z4 X Z Y (upd H a (.ins C dx (AL f y fs))) s'->Q Unit.unit s'):wpAny (model X.prog X.w) A (setAttr (.ref a) f u) Q E s:=by
 let⟨mA,Z6,r,i,_,ho⟩:=gF I.ZQ e;have k:(fs.map (·.1)).length<=sizeLine:=by rw[YK,Tz];lia
 refine vD I.Zf Z6 c.sa c.po n.Sx c.hd i k λh' d sb=>h _ ?_;have hd:∃o,h'.get? dx=some o:=let⟨o,_,_,e',_⟩:=d.ns;⟨o,e'⟩
 refine I.write (x:=a) (e:=dx) (by rw[e];exact True.intro) (.inr ho) (λb q m z=>(sb.2 b m).trans z) hd ?_
 refine⟨by rw[aa Z6.ne];exact ho,?_,Z6.ne,d.obj,_,d.ns,λg=>?_,λg l=>?_⟩
 .have:=iW f y fs;lia
 .show RelO ((AL f y fs).lookup g) (if g=f then some u else mA g)
  rw[iX];by_cases q:g=f
  .rw [XN q,XN q];exact j
  .rw [Xy q,Xy q];exact r g
 .by_cases q:g=f
  .rw [q];exact(fU f y fs).1
  .refine (fU f y fs).2 g (i g λz=>l ?_)
   show(if g=f then some u else mA g)=none
   rw[Xy q];exact z
def Z4.made(I:Z4 X Z Y H s):Z4 X Z Y (upd (upd H s.heap.objs.size (.own (s.heap.objs.size+1))) (s.heap.objs.size+1) (.ins C s.heap.objs.size []))
  {s with heap:=(s.heap.push PySem.W.emptyDict).push (PySem.W.instObj C s.heap.objs.size)}:=by
 have d:(s.heap.push PySem.W.emptyDict).get? s.heap.objs.size=some PySem.W.emptyDict:=HW s.heap rfl;have k:((s.heap.push PySem.W.emptyDict).push (PySem.W.instObj C s.heap.objs.size)).get? (s.heap.objs.size+1)=some (PySem.W.instObj C s.heap.objs.size):=by
  have:=HW (s.heap.push PySem.W.emptyDict) (o:=PySem.W.instObj C s.heap.objs.size) rfl;rwa[Ry]at this
 have j:(s.heap.push PySem.W.emptyDict).Ns s.heap.objs.size (λ_=>none):=⟨PySem.W.emptyDict,#[],_,d,rfl,(λe g=>absurd g #[3]),λ_=>rfl⟩
 have r:=I.laid (a:=s.heap.objs.size) (o:=.own (s.heap.objs.size+1)) (h':=s.heap.push PySem.W.emptyDict) (t':=s.toks) (λb u q=>HM _ q) (HR _) ⟨_,d⟩;refine r.laid (a:=s.heap.objs.size+1) (o:=.ins C s.heap.objs.size []) (t':=s.toks) (λb u q=>HM _ q) (Qy (Ry _ _)) ?_;have c:s.heap.objs.size≠s.heap.objs.size+1:=HV (SH _);refine⟨by rw[aa c,upd_same],QS _,c,k,λ_=>none,(Heap.Ns1.of_empty j).at λo q=>HM _ q,λ_=>True.intro,λy f=>absurd rfl f⟩
def ly{f:Str}{Q:Value->Shared->Prop}(a:attributeBase e f env (eval e env)=eval e env)
  (h:wpAny (model prog w) A (eval e env) (λo b=>wpAny (model prog w) A (getAttr o f true) Q E b) E s):wpAny (model prog w) A (eval (.Attribute e f pos) env) Q E s:=
 Attribute_any_ h (by rw[arm_eval_Attribute,a])
end
def Jo(K:HY)(b:TE)(f:Str):TE:=λY H Q=>b Y H λx H1=>∃a C dx fs v,x=.ref a/\H1 a=some (.ins C dx fs)/\Yu K C/\NoAttr K C f/\fs.lookup f=some v/\Q v H1
def Jp(K:HY)(c b:TE)(f:Str):TS:=λD Y H=>b Y H λy H1=>c Y H1 λx H2=>∃a C dx fs,x=.ref a/\H2 a=some (.ins C dx fs)/\Yu K C/\NoAttr K C f/\fs.length<1000 /\
 D.nx Y (upd H2 a (.ins C dx (AL f y fs)))
section
variable{o value:Expr}{f:Str}{pos' tpos:Pos}{tv:TE}
def aai(g:PE X e ta)(i:attributeBase e f X.env (eval e X.env)=eval e X.env):PE X (.Attribute e f pos) (Jo X.K ta f):=by
 intro Z s Y H Q I h;refine ly i (thn (g Z s Y H _ I h) ?_);rintro u p ⟨x,H1,k,b,a,C,dx,fs,v,ex,ea,c,n,l,q⟩;subst ex;obtain rfl:u=Value.ref a:=b;exact qi k ea c n l λm o j d=>⟨v,H1,j,d,q⟩
def zW(m:PE X o ta)(j:PE X value tv)(k:swapsWith value (some (.Attribute o f pos')) pos.line X.env=pure false):PS X (.Assign [.Attribute o f pos'] value pos) (Jp X.K ta tv f):=by
 intro Z s Y H D I h;refine Rf (thn (j Z s Y H _ I h) λu b ⟨y,H1,t,d,q⟩=>thn (m Z b Y H1 _ t q) λi v ⟨x,H2,r,e,a,C,dx,fs,ex,ea,c,n,l,g⟩=>?_) k;subst ex;obtain rfl:i=Value.ref a:=e;exact pX r ea c n l d λs3 p=>⟨Y,_,p,g⟩
end
section
variable{Y:St}{E:Value->Shared->Prop}{Q:Value->Shared->Prop}{c:Value}
inductive WX(K:HY)(H:Hp):V->Value->Prop where
 |ZR:WX K H .ZR (.type "NoneType")
 |bl (x:Bool):WX K H (.bl x) (.type "bool")
 |int (i:Int):WX K H (.int i) (.type "int")
 |str (x:Str):WX K H (.str x) (.type "str")
 |Vb (x:UInt64):WX K H (.Vb x) (.type "float")
 |S {a:Addr} {xs:List V} (e:H a=some (.S xs)):WX K H (.ref a) (.type "list")
 |Zw {a:Addr} {o:Obj} {xs:List V} (e:H a=some (.Zw o (.S xs))):WX K H (.ref a) (.type "list")
 |Z1 {a:Addr} {xs:List V} (e:H a=some (.Z1 xs)):WX K H (.ref a) (.type "tuple")
 |dK {a:Addr} {O:List (Key×V)} (e:H a=some (.dK O)):WX K H (.ref a) (.type "dict")
 |dT {a:Addr} {O:List (List Key×V)} (e:H a=some (.dT O)):WX K H (.ref a) (.type "dict")
 |ins {a C dx:Addr} {fs:List (Str×V)} (e:H a=some (.ins C dx fs)) (cl:Yu K C) (ha:PySem.W.findIn K (.ref C) "__class__" = some (some (.builtin "object.__class__")))
   (hn:PySem.W.specialIn K (.builtin "object.__class__") "__get__" = some (some (.builtin "getset_descriptor.__get__"))) (htk:PySem.W.takesIn K (.builtin "object.__class__")=some true)
   (hm:PySem.W.mroIn K C (.type "object")=some true):WX K H (.ref a) (.ref C)
end
end L2
namespace L2
open PySem PySem.Spec PyProof.Rows
structure Ze(k:Nat)(A:Around):Prop where
 hd:A.handled=none
 dp:A.depth+3*k+5<recursionLimit
 un:A.units+16*k+200<cLine
 gd:A.guards=some []
def Ze.deeper{k:Nat}{A:Around}(r:Ze (k+1) A)(env:Env):Ze k (A.deeper env):=
 ⟨r.hd,by have:=r.dp;show A.depth+1+3*k+5<_;lia,by have:=r.un;show A.units+3+16*k+200<_;lia,r.gd⟩
def pS{C:Addr}{J:List Value}:(A.under (.builtin "type.__call__" ⟨.ref C::J,kw⟩)).depth=A.depth+1:=by
 first|rfl|simp[Around.under,Code.weight,Code.isCreation,Code.isGuard,Code.isCaller,Code.frames,Code.isFrame,guardIds]
def pH{C:Addr}{J:List Value}:(A.under (.builtin "type.__call__" ⟨.ref C::J,kw⟩)).units=A.units+1:=by
 first|rfl|simp[Around.under,Code.cUnits,Code.frames,Code.isFrame]
def Ze.make{k:Nat}(r:Ze (k+1) A)(C:Addr)(J:List Value)(kw:List (Str×Value)):Ze k (A.under (.builtin "type.__call__" ⟨.ref C::J,kw⟩)):=
 ⟨r.hd,by have:=r.dp;rw[pS];lia,by have:=r.un;rw[pH];lia,(show A.guards=_ from r.gd)⟩
def Ze.depth{k:Nat}{A:Around}(r:Ze k A):A.depth<recursionLimit:=by have:=r.dp;lia
def Ze.units{k:Nat}{A:Around}(r:Ze k A):A.units+64<cLine:=by have:=r.un;lia
def EN:TA:=λ_ H Q=>Q [] H
def F1(b:TE)(a:TA):TA:=λY H Q=>b Y H λx H1=>a Y H1 λxs H2=>Q (x::xs) H2
section
variable{t:TA}
def aQ:PA X [] EN:=λ_ _ _ _ H Q I h=>Calls.spliced_nil ⟨[],H,I,.nil,h⟩
def aw(i:PE X e te)(g:PA X es t)(f:starEach (e::es) X.env=(false,eval e X.env)::starEach es X.env:=by rfl):PA X (e::es) (F1 te t):=by
 intro pos Z s Y H Q I h;rw[f];show wpAny _ _ (spliced ((false,eval e X.env)::backTo pos (starEach es X.env))) _ _ s;refine QG (thn (i Z s Y H _ I h) ?_);rintro u a ⟨x,H1,k,b,d⟩;exact thn (g pos Z a Y H1 _ k d) λJ l ⟨xs,H2,j,r2,c⟩=>⟨x::xs,H2,j,.cons b r2,c⟩
def Jq(t:TA):TE:=λY H Q=>t Y H λxs H1=>xs.length<=sizeLine /\∀p,H1 p=none->Q (.ref p) (upd H1 p (.Z1 xs))
def Jr(t:TA):TE:=λY H Q=>t Y H λxs H1=>xs.length<=sizeLine /\∀p,H1 p=none->Q (.ref p) (upd H1 p (.S xs))
def iq{x1}(h:PA X es t):PE X (.Tuple es x1 pos) (Jq t):=by
 intro Z s Y H Q I d;refine wpAny_Tuple_spliced (thn (h pos Z s Y H _ I d) λJ a ⟨xs,H1,c,r,z,q⟩=>⟨by rw[<-r.length];exact z,?_⟩)
 have f:H1 a.heap.objs.size=none:=c.ZQ.fresh (HR _);refine⟨.ref a.heap.objs.size,upd H1 a.heap.objs.size (.Z1 xs),c.laid (t':=a.toks) (λb u e=>HM _ e) (HR _) ?_,rfl,q _ f⟩;exact⟨z,J,r,⟨_,HW _ rfl,rfl,_,rfl⟩⟩
def aaP(h:PA X es t):PE X (.List es pos) (Jr t):=by
 intro Z s Y H Q I d;refine wpAny_List_spliced (thn (h pos Z s Y H _ I d) λJ a ⟨xs,H1,c,r,z,q⟩=>⟨by rw[<-r.length];exact z,?_⟩)
 have f:H1 a.heap.objs.size=none:=c.ZQ.fresh (HR _);refine⟨.ref a.heap.objs.size,upd H1 a.heap.objs.size (.S xs),c.laid (t':=a.toks) (λb u e=>HM _ e) (HR _) ?_,rfl,q _ f⟩;exact⟨z,J,0,r,HW _ rfl⟩
end
abbrev Sp:=List V->Hp->VK->XK->Prop
abbrev X0:=List Env->Hp->Shared->XK->Value->Shared->Prop
structure VG(P:Program)(w:World)(K:HY)(mg:Str->Option Value)(base:Heap)(A:Around)(outer:List Env)(s:Shared)(H:Hp):Prop where
 frames:A.frames=some outer
 mod:Mod K mg base
 bs:∀b o,base.get? b=some o->s.heap.get? b=some o/\H b=none
 W2:base.objs.size<=s.heap.objs.size
 XH:s.heap.FunFrames base outer
 Wo:∀b∈frs outer,H b=none
 ZQ:HOk P w H s.heap
 bare:AllBare s.gens
def CE(outer:List Env)(P:Program)(w:World)(H:Hp)(s:Shared)(Q:VK)(u:Value)(a:Shared):Prop:=
 ∃v H',a.os=s.os/\AllBare a.gens/\Un (frs outer) [] H H' s.heap a.heap/\HOk P w H' a.heap/\RelV v u/\Q v H'
def CR(CX:X0)(outer:List Env)(P:Program)(w:World)(H:Hp)(s:Shared)(Q:VK)(E:XK)(r:Result)(a:Shared):Prop:=
 match r with
 |.ok (.ret u)=>CE outer P w H s Q u a
 |.ok _=>False
 |.error e=>CX outer H s E e a
structure Y2(P:Program)(w:World)(K:HY)(mg:Str->Option Value)(base:Heap)(CX:X0)(k:Nat)(f:Addr)(fd:FuncData)(ps:List Str)(sp:Sp):Prop where
 len:∀vs H Q E,sp vs H Q E->vs.length=ps.length
 run:∀(A:Around) (outer:List Env) (s:Shared) (H:Hp) (args:Args) (J:List Value) (vs:List V) (Q:VK) (E:XK),Ze k A->VG P w K mg base A outer s H->BindsTo s fd args (ps.zip J)->ZK vs J->sp vs H Q E ->
  codeAny (model P w) A (.call (.ref f) args) (CR CX outer P w H s Q E) s
def VG.make(e:VG P w K mg base A outer s H)(C:Addr)(J:List Value)(kw:List (Str×Value)):
  VG P w K mg base (A.under (.builtin "type.__call__" ⟨.ref C::J,kw⟩)) outer s H:=⟨by first|exact e.frames|(simpa[Around.under,Code.envs,Code.isFrame,pushEnvs]using e.frames),e.mod,e.bs,e.W2,e.XH,e.Wo,e.ZQ,e.bare⟩
section
variable{Y:St}
def Z4.TM(I:Z4 X Z Y H s):VG X.prog X.w X.K X.mg X.base X.A X.stack s H:=
 ⟨I.ok.frames,I.ok.mod,I.bs,HP I.ok.W2 I.sz,I.stack,I.TU,I.ZQ,I.bare⟩
def Z4.after{Q:VK}{u:Value}(I:Z4 X Z Y H s)(h:CE X.stack X.prog X.w H s Q u s'):EP X Z Y Q u s':=by
 let⟨v,H',os,a,un,j,r,q⟩:=h;let⟨f,g,d,t,c⟩:=s';obtain rfl:c=s.os:=os;exact⟨v,H',I.call (h':=f) (g':=g) (d':=d) (t':=t) (ch:=[]) un j a (λb z=>absurd z #[3]),r,q⟩
end
def Gh(sp:Sp)(a:List V)(E:XK)(t:TA):TE:=λY H Q=>t Y H λvs H1=>sp (vs++a) H1 Q E
def Binds(K:HY)(fd:FuncData)(a:List Str)(b:List Value):Prop:=
 ∀(s:Shared) (J:List Value),K.In s.heap->(J++b).length=a.length->BindsTo s fd ⟨J,[]⟩ (a.zip (J++b))
def Binds.all(h:∀J:List Value,J.length=ps.length->bindArgs fd ⟨J,[]⟩=pure (ps.zip J)):Binds K fd ps []:=λs J _ a=>by
 rw[Tc]at a ⊢;exact .of_eq (h J a)
def AM(CX:X0)(X:Cx)(E:XK):Prop:=∀(Z:List (Addr×Obj)) (Y:St) (H:Hp) (s:Shared) (e:Value) (s':Shared),Z4 X Z Y H s->CX X.stack H s E e s'->X.xe e s'
section
variable{CX:X0}{k:Nat}{f C:Addr}{sp:Sp}{WG:List V}{ds:List Value}{E:XK}{m:Str}{o:Expr}{t:TA}
def mG{Y:St}{Q:VK}{J:List Value}(F:Y2 X.prog X.w X.K X.mg X.base CX k f fd ps sp)(b:Ze k X.A)(g:Binds X.K fd ps ds)(d:ZK WG ds)(hx:AM CX X E)
  (I:Z4 X Z Y H s) (r:ZK vs J) (h:sp (vs++WG) H Q E):wpAny (model X.prog X.w) X.A (call (.ref f) J) (EP X Z Y Q) X.xe s:=by
 have r2:ZK (vs++WG) (J++ds):=r.append d;have c:(J++ds).length=ps.length:=by rw[<-r2.length];exact F.len _ _ _ _ h
 refine Qf (Rn (F.run X.A X.stack s H ⟨J,[]⟩ (J++ds) (vs++WG) Q E b I.TM (g s J I.Zf c) r2 h) λr s' a=>?_);cases r with
 |error e=>exact hx Z Y H s e s' I a
 |ok fl=>
  cases fl with
  |ret u=>exact I.after a
  |_=>exact False.elim a
def we(F:Y2 X.prog X.w X.K X.mg X.base CX k f fd ps sp)(b:Ze k X.A)(g:Gl X x)(c:X.mg x=some (.ref f))(d:PySem.W.keepIn X.K (.ref f)=true)(l:Binds X.K fd ps ds)(j:ZK WG ds)(hx:AM CX X E)
  (m:PA X (e::es) t) (n:(x==("__debug__" : Str))=false:=by decide) (i:starEach (e::es) X.env=(false,eval e X.env)::starEach es X.env:=by rfl) (o:(backTo pos (starEach es X.env)).any (·.1)=false:=by rfl) :
  PE X (.Call (.Name x p) (e::es) [] pos) (Gh sp WG E t):=by
 intro Z s Y H Q I h;refine Ro (bA I g c ?_ n);refine PySem.W.callWith_K (h₀:=X.base) I.ok.mod.kin d (thn (m pos Z s Y H _ I h) λJ u ⟨vs,H1,a,r,q⟩=>⟨a.Zf,?_⟩) i o;exact mG F b l j hx a r q
def tJ(F:Y2 X.prog X.w X.K X.mg X.base CX k f fd ps sp)(a:Ze k X.A)(d:Gl X x)(b:X.mg x=some (.ref f))(c:PySem.W.keepIn X.K (.ref f)=true)(g:Binds X.K fd ps ds)(e:ZK WG ds)(hx:AM CX X E)
  (i:(x==("__debug__" : Str))=false:=by decide):PE X (.Call (.Name x p) [] [] pos) (Gh sp WG E EN):=by
 intro Z s Y H Q I h;refine Ro (bA I d b ?_ i);exact PySem.W.callWith_K0 I.Zf c (mG (J:=[]) F a g e hx I .nil h)
structure Mk(K:HY)(C f:Addr):Prop where
 makes:PySem.W.makesIn K C=true
 init:PySem.W.findIn K (.ref C) "__init__" = some (some (.ref f))
 fn:PySem.W.isFn K (.ref f)=true
 kp:PySem.W.keepIn K (.ref C)=true
end
def PK(X:Cx)(kws:List Keyword)(t:TA):Prop:=
 ∀(pos:Pos) (Z:List (Addr×Obj)) (s:Shared) (Y:St) (H:Hp) (Q:List V->Hp->Prop),Z4 X Z Y H s->t Y H Q->wpAny (model X.prog X.w) X.A (evalAll ((backToKw pos (keywordEach kws X.env)).map (·.2))) (AP X Z Y Q) X.xe s
section
variable{CX:X0}{k:Nat}{f C:Addr}{sp:Sp}{E:XK}{m:Str}{kpos:Pos}{o:Expr}{t tk:TA}{nm:Option Str}
def xA:PK X [] EN:=λ_ _ _ _ H Q I h=>wpAny_evalAll_nil ⟨[],H,I,.nil,h⟩
def t7(ha:PE X e te)(hr:PK X kws t):PK X (⟨nm,e,kpos⟩::kws) (F1 te t):=by
 intro pos Z s Y H Q I h;show wpAny _ _ (evalAll ((do let v<-eval e X.env;standAt pos;pure v)::(backToKw pos (keywordEach kws X.env)).map (·.2))) _ _ s
 refine wpAny_evalAll_cons (ZB (thn (ha Z s Y H _ I h) λu s1 ⟨x,H1,I1,r1,q1⟩=>ZB (Tp (ZP ?_))));exact thn (hr pos Z s1 Y H1 _ I1 q1) λJ s2 ⟨xs,H2,I2,r2,q2⟩=>⟨x::xs,H2,I2,.cons r1 r2,q2⟩
structure Ux(K:HY)(fd:FuncData)(ps ks:List Str)(g:List Value->List Value->List Value)(gV:List V->List V->List V):Prop where
 to:∀(s:Shared) (J ws:List Value),K.In s.heap->(g J ws).length=ps.length->BindsTo s fd ⟨J,ks.zip ws⟩ (ps.zip (g J ws))
 rel:∀{vs:List V} {J:List Value} {zs:List V} {ws:List Value},ZK vs J->ZK zs ws->ZK (gV vs zs) (g J ws)
variable{g:List Value->List Value->List Value}
def lH{Y:St}{Q:VK}{J ws:List Value}{b:List V}(F:Y2 X.prog X.w X.K X.mg X.base CX k f fd ps sp)(i:Ze k X.A)(c:Ux X.K fd ps ks g gV)(hx:AM CX X E)
  (I:Z4 X Z Y H s) (r:ZK vs J) (d:ZK b ws) (h:sp (gV vs b) H Q E):wpAny (model X.prog X.w) X.A (call (.ref f) J (ks.zip ws)) (EP X Z Y Q) X.xe s:=by
 have r2:=c.rel r d;have j:(g J ws).length=ps.length:=by rw[<-r2.length];exact F.len _ _ _ _ h
 refine Qf (Rn (F.run X.A X.stack s H ⟨J,ks.zip ws⟩ (g J ws) (gV vs b) Q E i I.TM (c.to s J ws I.Zf j) r2 h) λr s' a=>?_);cases r with
 |error e=>exact hx Z Y H s e s' I a
 |ok fl=>
  cases fl with
  |ret u=>exact I.after a
  |_=>exact False.elim a
end
structure Uw(N P:List Str)(sc:Scope):Prop where
 kind:sc.kind=.function
 co:sc.isCoroutine=false
 gen:sc.isGenerator=false
 nd:N.Nodup
 pre:N.take P.length=P
 par:∀x∈P,sc.names.lookup x=some .local\/sc.names.lookup x=some .cell
 Sw:∀y∈sc.names,y.2 ≠ .free
def jU{b:Str->Option NameKind}{x:Str}:∀{a:List (Str×Value)} {m:Str->Option Value},(∀v,(x,v) ∉ a)->bindL b a m x=m x
 |[],_,_=>rfl
 |(n,v)::r,m,h=>by
  unfold bindL;rw[jU λw c=>h w (HS _ c)];split
  .have:x≠n:=by rintro rfl;exact h v WS
   simp[this]
  .rfl
def jS{b:Str->Option NameKind}{x:Str}:∀{a:List (Str×Value)} {m:Str->Option Value},(∀v,(x,v) ∉ a)->bindC b a m x=m x
 |[],_,_=>rfl
 |(n,v)::r,m,h=>by
  unfold bindC;rw[jS λw c=>h w (HS _ c)];split
  .rfl
  .have:x≠n:=by rintro rfl;exact h v WS
   simp[this]
def jz{a:Str->Option NameKind}{x:Str}{v:Value}:∀{P:List Str} {vs:List Value} {i:Nat} {m:Str->Option Value},P.Nodup->P[i]?=some x->vs[i]?=some v->a x=some .local ->
  bindL a (P.zip vs) m x=some v
 |[],_,_,_,_,h,_,_=>by simp at h
 |_::_,[],_,_,_,_,h,_=>by simp at h
 |p::P,w::vs,0,m,nd,h1,h2,hk=>by
  simp at h1 h2;subst h1;subst h2;show bindL a ((p,w)::P.zip vs) m p=_;unfold bindL;rw[jU λv b=>(SD.mp nd).1 (Qs b).1,XN hk];simp
 |p::P,w::vs,i+1,m,nd,h1,h2,hk=>by
  show bindL a ((p,w)::P.zip vs) m x=_;unfold bindL;exact jz (i:=i) (SD.mp nd).2 (by simpa using h1) (by simpa using h2) hk
def jY{a:Str->Option NameKind}{x:Str}{v:Value}:∀{P:List Str} {vs:List Value} {i:Nat} {m:Str->Option Value},P.Nodup->P[i]?=some x->vs[i]?=some v->a x≠some .local ->
  bindC a (P.zip vs) m x=some v
 |[],_,_,_,_,h,_,_=>by simp at h
 |_::_,[],_,_,_,_,h,_=>by simp at h
 |p::P,w::vs,0,m,nd,h1,h2,hk=>by
  simp at h1 h2;subst h1;subst h2;show bindC a ((p,w)::P.zip vs) m p=_;unfold bindC;rw[jS λv b=>(SD.mp nd).1 (Qs b).1,Xy hk];simp
 |p::P,w::vs,i+1,m,nd,h1,h2,hk=>by
  show bindC a ((p,w)::P.zip vs) m x=_;unfold bindC;exact jY (i:=i) (SD.mp nd).2 (by simpa using h1) (by simpa using h2) hk
def start(N:List Str)(vs:List V):St:=vs.map some++List.replicate (N.length-vs.length) none
def BB(CX:X0)(P:Program)(w:World)(K:HY)(mg:Str->Option Value)(base:Heap)(N:List Str)(qual:Str)(scope:Scope)(f:Addr)(cd:Value)(A:Around)(outer:List Env)(s:Shared)(H:Hp)(E:XK):Cx where
 prog:=P
 w:=w
 K:=K
 mg:=mg
 base:=base
 A:=A.deeper (envOfC qual scope s.heap.objs.size f cd)
 N:=N
 ZH:=s
 WL:=H
 env:=envOfC qual scope s.heap.objs.size f cd
 outer:=outer
 stack:=envOfC qual scope s.heap.objs.size f cd::outer
 ex:=[]
 calm:=true
 fn:=λ_=>true
 pn:=[]
 xe:=λe s'=>wpAny (model P w) (A.deeper (envOfC qual scope s.heap.objs.size f cd)) (leaving (envOfC qual scope s.heap.objs.size f cd) e) (λ_ XZ=>CX outer H s E e XZ) (λe' XZ=>CX outer H s E e' XZ) s'
def j8(h:sc.names.lookup x=some .cell):∃c,(cellsFrom n sc.names []).lookup x=some c:=by
 have q:=Rp sc.names n [] (.inl h);exact T3.mp q
def qG{CX:X0}{qual:Str}{f:Addr}{B:Value}{D:Shared}{E:XK}{J:List Value}
  (j:Uw N ps scope) (I:A.handled=none) (d:VG P w K mg base A outer s H) (M:vs.length=ps.length) (r:ZK vs J)
  (x:InCallC s s.heap.objs.size (bindL (envOfC qual scope s.heap.objs.size f B).kindOf (ps.zip J) λ_=>none) (cellsFrom (s.heap.objs.size+1) scope.names []) (bindC (envOfC qual scope s.heap.objs.size f B).kindOf (ps.zip J) λ_=>none) D) :
  Z4 (BB CX P w K mg base N qual scope f B A outer s H E) [] (start N vs) H D:=by
 have Q:ps.length<=N.length:=by have:=Sb List.length j.pre;rw[TK]at this;lia
 let⟨h1,tk,rfl,hk⟩:=x.done;have C:∀b:Addr,b ∉ (BB CX P w K mg base N qual scope f B A outer s H E).ex:=λb z=>absurd (show b∈([]:List Addr)from z) #[3]
 refine ⟨⟨d.mod,j.kind,rfl,rfl,HR _,λy z c h1 h2 => ?_,λy g => ?_,λy c _ h => ?_,λ_=>I,Around.frames_deeper d.frames,.inr ⟨rfl,rfl⟩,λb z=>absurd z (C b),d.bs,d.W2,λb _ _=>C b,λb z=>absurd z (C b),d.XH,d.Wo⟩,
  rfl,d.bare,Un.kept hk,⟨_,x.toInCall.ns,λi y v h1 h2 O=>?_⟩,λy c h=>⟨_,x.cell y c h⟩,d.ZQ.fresh (HR _),λy c h=>?_,λp t=>absurd (show p∈([]:List (Addr×Obj))from t) #[3],d.ZQ.kept hk,?_⟩
 .exact name_of_addr x.apart (Uu h1) (Uu h2)
 .have g:scope.names.lookup y=some .cell\/scope.names.lookup y=some .free:=g
  rcases g with g|g
  .exact j8 g
  .exact absurd rfl (j.Sw _ (Uu g))
 .exact Q9 (x.above y c (Uu h))
 .have hi:i<vs.length:=by
   unfold start at h2;by_cases hi:i<vs.length
   .exact hi
   .rw [WB (by simpa using hi)]at h2
    rw[Sr]at h2;split at h2<;>cases h2
  have L:vs[i]?=some v:=by
   unfold start at h2;rw[Wt (by simpa using hi),Wd]at h2
   cases e:vs[i]? with
   |none=>rw[e]at h2;cases h2
   |some a=>rw[e]at h2;cases h2;rfl
  let⟨u,F,G⟩:=r.get L;have t:ps[i]?=some y:=by
   rw[<-j.pre,List.getElem?_take_of_lt (by lia)];exact h1
  have o:ps.Nodup:=by rw[<-j.pre];exact j.nd.sublist (List.take_sublist _ _)
  refine⟨u,G,?_⟩;rcases j.par y (W5 t)with k|k
  .exact .inl ⟨k,jz o t F k⟩
  .obtain ⟨c,e⟩:=j8 (n:=s.heap.objs.size+1) k
   refine .inr ⟨.inl k,c,e,?_⟩;have q:=x.cell y c e;rw[jY o t F (by show scope.names.lookup y≠_;rw[k];decide)]at q
   exact q
 .exact d.ZQ.fresh (Q9 (x.above y c (Uu h)))
 .unfold start
  show _=N.length;rw[Xq,YK,Sd];lia
def iB{CX:X0}{k:Nat}{f:Addr}{name qual:Str}{a:Arguments}{c:List Stmt}{scope:Scope}{F M j D d ct KG:Value}{G O:Option Addr}
  {YL:Array (Option Value)} {N m:List Str} {sp:Sp} (lk:K.lookup f=some ⟨KG,O,.func (PySem.W.fnOf name qual a c scope F M j D G d ct),YL⟩) (Y8:PySem.W.codeIn K d qual=true) (l:Uw N m scope)
  (len:∀vs H Q E,sp vs H Q E->vs.length=m.length)
  (Sv:∀ (A:Around) (outer:List Env) (s:Shared) (H:Hp) (vs:List V) (Q:VK) (E:XK),Ze k (A.deeper (envOfC qual scope s.heap.objs.size f d))->sp vs H Q E ->
   ∃t,PSs (BB CX P w K mg base N qual scope f d A outer s H E) c t/\t {nx:=λ_ H'=>Q .ZR H',rt:=Q} (start N vs) H) :
  Y2 P w K mg base CX (k+1) f (PySem.W.fnOf name qual a c scope F M j D G d ct) m sp:=by
 refine⟨len,λA outer s H args J vs Q E B i Y r g=>?_⟩;have U:=len _ _ _ _ g;have L:K.In s.heap:=i.mod.kin.keeps λb o e=>(i.bs b o e).1;have z:s.heap.NoLimit:=i.mod.nolimit.keeps λb o e=>(i.bs b o e).1;have Tu:∀y∈m.zip J,scope.names.lookup y.1=some .local\/(scope.names.lookup y.1=some .cell/\((cellsFrom (s.heap.objs.size+1) scope.names []).lookup y.1).isSome=true):=λ⟨n,v⟩ R=>by
  rcases l.par n (Qs R).1 with q|q
  .exact .inl q
  .exact .inr ⟨q,Rp _ _ _ (.inl q)⟩
 refine codeAny_call_function B.depth (L _ _ lk) rfl l.co l.gen rfl (PySem.W.codeRec_of L Y8) (Y _ _ _ _ ?_);refine wpAny_newFunctionEnv_cells l.kind Tu λenv X C x=>?_;subst X;refine⟨z.keeps x.toInCall.keep,codeAny_func ?_⟩;let⟨t,S,T⟩:=Sv A outer s H vs Q E (B.deeper _) g;have I:Z4 (BB CX P w K mg base N qual scope f d A outer s H E) [] (start N vs) H C:=qG l B.hd i U r x;refine V6 (S [] C (start N vs) H _ I T) (λZ s' hs=>?_) λe s' hs=>hs;have h:∀{ZX:St} {H':Hp} {v:V} {u:Value},Z4 (BB CX P w K mg base N qual scope f d A outer s H E) [] ZX H' s'->RelV v u->Q v H'->CE outer P w H s Q u s':=
  λ{ZX H' v u} Z7 p q=>⟨v,H',Z7.os,Z7.bare,Z7.base,Z7.ZQ,p,q⟩
 cases Z with
 |ret u=>
  let⟨v,ZX,H',Z7,p,q⟩:=hs;exact h Z7 p q
 |next=>
  let⟨ZX,H',Z7,q⟩:=hs;exact h (v:=V.ZR) (u:=Value.none) Z7 rfl q
 |brk=>
  let⟨_,_,_,q⟩:=hs;exact False.elim q
 |cont=>
  let⟨_,_,_,q⟩:=hs;exact False.elim q
end L2
variable{CX:L2.X0}
namespace L2
open PySem PySem.Spec PyProof.Rows
section
variable{t:TA}{id T:String}{r:List V->Hp->VK->Prop}
def Js(r:List V->Hp->VK->Prop)(t:TA):TE:=λY H Q=>t Y H λvs H1=>r vs H1 Q
def pe_callB(j:CallR X (.builtin id) r)(i:Gl X x)(g:X.mg x=none)(d:bootBuiltins x=some (.builtin id))(k:PA X (e::es) t)(f:x ≠ "__name__":=by decide)(l:(x==("__debug__" : Str))=false:=by decide)
  (he:starEach (e::es) X.env=(false,eval e X.env)::starEach es X.env:=by rfl) (m:(backTo pos (starEach es X.env)).any (·.1)=false:=by rfl):PE X (.Call (.Name x p) (e::es) [] pos) (Js r t):=by
 intro Z s Y H Q I h;refine Ro (cG I i g d ?_ f l);exact PyProof.Rows.callWith_builtin1 (thn (k pos Z s Y H _ I h) λJ a ⟨vs,H1,n,b,c⟩=>j Z a Y H1 vs J Q n b c) he m
def pe_callTy(j:CallR X (.type T) r)(i:Gl X x)(g:X.mg x=none)(d:bootBuiltins x=some (.type T))(k:PA X (e::es) t)(f:x ≠ "__name__":=by decide)(l:(x==("__debug__" : Str))=false:=by decide)
  (he:starEach (e::es) X.env=(false,eval e X.env)::starEach es X.env:=by rfl) (m:(backTo pos (starEach es X.env)).any (·.1)=false:=by rfl):PE X (.Call (.Name x p) (e::es) [] pos) (Js r t):=by
 intro Z s Y H Q I h;refine Ro (cG I i g d ?_ f l);exact SG (thn (k pos Z s Y H _ I h) λJ a ⟨vs,H1,n,b,c⟩=>j Z a Y H1 vs J Q n b c) he m
end
end L2
namespace HT
open PySem PyProof.Rows
section
variable{E:Value->Shared->Prop}
def sIx(n d:Nat):Option Int->Nat
 |none=>d
 |some v=>if v<0 then(v+(n:Int)).toNat else min v.toNat n
def xP(n d:Nat)(b:d<=n)(o:Option Int):sIx n d o<=n:=by
 cases o with
 |none=>exact b
 |some v=>
  show(if v<0 then(v+(n:Int)).toNat else min v.toNat n)<=n
  by_cases a:v<0
  .rw [XN a];lia
  .rw [Xy a];exact Nat.min_le_right _ _
def lx(v:Int)(n d:Nat):(if v<0 then max (v+(n:Int)) 0 else min v (n:Int))=((sIx n d (some v):Nat):Int):=by
 show(if v<0 then max (v+(n:Int)) 0 else min v (n:Int))=(((if v<0 then(v+(n:Int)).toNat else min v.toNat n):Nat):Int)
 by_cases a:v<0
 .simp only [XN a];lia
 .simp only [Xy a];lia
def pM(a b:Option Int)(n:Nat):Builtin.Slice.sliceAdjust a b 1 (n:Int)=(((sIx n 0 a:Nat):Int),((sIx n n b:Nat):Int)):=by
 have h1 : ¬ ((1:Int)<0):=by lia
 unfold Builtin.Slice.sliceAdjust;simp![h1,U3];refine Prod.ext ?_ ?_
 .cases a with
  |none=>rfl
  |some v=>exact lx v n 0
 .cases b with
  |none=>rfl
  |some v=>exact lx v n n
def qg(i j:Nat):Builtin.Slice.slicePlaces (i:Int) (j:Int) 1=j-i:=by
 unfold Builtin.Slice.slicePlaces;have h1:(1:Int) > 0:=by lia
 simp![h1,Ti,Int.ediv_one];split<;>lia
def jj{v:Value}{o:Option Int}{Q:Option Int->Shared->Prop}(p:IsPart v o)(h:Q o s):wpAny (model prog w) A (Builtin.Slice.slicePartIndex v) Q E s:=by
 cases p with
 |none=>exact slicePart_none h
 |int i t=>exact slicePart_int h
def oj{k:Addr}{f d:Value}{a c:Option Int}{Q:Int×Int×Nat->Shared->Prop}(r:s.heap.IsSliceOf k f d .none)(pl:IsPart f a)(o:IsPart d c)
  (h:Q (((sIx n 0 a:Nat):Int),1,sIx n n c-sIx n 0 a) s):wpAny (model prog w) A (Builtin.Slice.sliceApplied (.ref k) (pure (n:Int))) Q E s:=by
 let⟨os,j,t,g⟩:=id r;unfold Builtin.Slice.sliceApplied Builtin.Slice.sliceFields;refine ZB (ZB (RZ j g (x:=f) rfl (ZB (RZ j g (x:=d) rfl (ZB (RZ j g (x:=.none) rfl (ZP ?_)))))));refine ZB (slicePart_none ?_);show wpAny _ _ (if((1:Int)==0)=true then _ else _) _ _ s
 rw[Xy #[1]]
 refine ZB (jj pl (ZB (jj o (ZB (ZP ?_)))));show wpAny _ _ (match Builtin.Slice.sliceAdjust a c 1 (n:Int)with|(a,c)=>pure (a,(1:Int),Builtin.Slice.slicePlaces a c 1)) _ _ s
 rw[pM a c n];show wpAny _ _ (pure (((sIx n 0 a:Nat):Int),(1:Int),Builtin.Slice.slicePlaces ((sIx n 0 a:Nat):Int) ((sIx n n c:Nat):Int) 1)) _ _ s;rw[qg];exact ZP h
def tj(xs:Array Value)(i k:Nat):((List.range k).filterMap λ(m:Nat)=>xs[((i:Int)+(m:Int)*1).toNat]?).toArray=((xs.toList.drop i).take k).toArray:=by
 have e:(λ(m:Nat)=>xs[((i:Int)+(m:Int)*1).toNat]?)=λm=>xs[i+m]?:=by
  funext m;have:((i:Int)+(m:Int)*1).toNat=i+m:=by lia
  rw[this]
 rw[e];have:=pick_run xs i k;rw[List.filterMap_map]at this;have a:((λx=>xs[x]?) ∘ λx=>i+x)=λm=>xs[i+m]?:=rfl;rw[a]at this;rw[this]
def getItem_tuple_cut{t g:Addr}{items:Array Value}{o k:Value}{a c:Option Int}{Q:Value->Shared->Prop}(d:IsTup s.heap t items)(r:s.heap.IsSliceOf g o k .none)(pl:IsPart o a)(u:IsPart k c)
  (hw : ¬ (sIx items.size 0 a=0/\sIx items.size items.size c=items.size))
  (h:Q (.ref s.heap.objs.size) {s with heap:=s.heap.push {cls:=.type "tuple",data:=.seq ((items.toList.drop (sIx items.size 0 a)).take (sIx items.size items.size c-sIx items.size 0 a)).toArray}})
  (hsz:items.size<=sizeLine):wpAny (model prog w) A (getItem (.ref t) (.ref g)) Q E s:=by
 have f:sizeOk (.seq ((items.toList.drop (sIx items.size 0 a)).take (sIx items.size items.size c-sIx items.size 0 a)).toArray):=by
  show((items.toList.drop (sIx items.size 0 a)).take (sIx items.size items.size c-sIx items.size 0 a)).toArray.size<=sizeLine;rw[Wl,TK,Qg,Uj];omega
 have F:sIx items.size items.size c<=items.size:=xP _ _ (HR _) c;let⟨os,B,z,G⟩:=id r;have j:s.TypeIs (.ref g) "slice":=⟨os,B,z⟩;unfold getItem
 try with_reducible refine US ?_
 first|refine ZB (ZP ?_)|skip
 refine ZB (wpAny_sequenceKey d.typeIs #[1] ?_)
 refine ZB (R0 (name:=Str.ofString "__getitem__") d.typeIs Qb
  (Qh Qb d.typeIs entry_tuple_getitem ?_ (args_tuple_getitem _ _)))
 show wpAny _ _ (Builtin.Tuple.tupleItemsOf (.ref t) >>= _) _ _ s;refine ZB (tupleItemsOf_ d ?_);refine ZB (wpAny_typeOf j ?_);rw[XN #[1]]
 refine ZB (oj r pl u ?_);have y : ¬ ((((sIx items.size 0 a:Nat):Int)==0&&(1:Int)==1&&(sIx items.size items.size c-sIx items.size 0 a)==items.size)=true):=by
  intro q;rw[ZC,ZC]at q;have D:((sIx items.size 0 a:Nat):Int)=0:=eq_of_beq q.1.1;have C:sIx items.size items.size c-sIx items.size 0 a=items.size:=eq_of_beq q.2;exact hw ⟨by lia,by omega⟩
 show wpAny _ _ (if(((sIx items.size 0 a:Nat):Int)==0&&(1:Int)==1&&(sIx items.size items.size c-sIx items.size 0 a)==items.size)=true then _ else _) _ _ s
 rw[Xy y,tj]
 first
  |exact ZB (m:=Builtin.Tuple.tupleExact _) (UU (ZP ⟨_,rfl,ZP h⟩) f)
  |exact ZB (m:=Builtin.Tuple.tupleExact _) (UU (ZB (ZP (ZP ⟨_,rfl,ZP h⟩))) f)
  |exact ZB (ZB (m:=Builtin.Tuple.tupleExact _) (UU (ZP (ZP ⟨_,rfl,ZP h⟩)) f))
  |exact ZB (ZB (m:=Builtin.Tuple.tupleExact _) (UU (ZP ⟨_,rfl,ZP h⟩) f))
end
end HT
namespace L2
open PySem PySem.Spec PyProof.Rows
abbrev TO:=St->Hp->(Option Int->Hp->Prop)->Prop
def PO(X:Cx)(e:Option Expr)(t:TO):Prop:=
 ∀(Z:List (Addr×Obj)) (s:Shared) (Y:St) (H:Hp) (Q:Option Int->Hp->Prop),Z4 X Z Y H s->t Y H Q ->
  wpAny (model X.prog X.w) X.A (evalPart e X.env) (λu s'=>∃o H',Z4 X Z Y H' s'/\IsPart u o/\Q o H') X.xe s
def Ha:TO:=λ_ H Q=>Q none H
def HB(t:TE):TO:=λY H Q=>t Y H λx H1=>∃i,x=.int i/\Q (some i) H1
section
variable{lo hi:Option Expr}{tl th:TO}
def wm:PO X none Ha:=by
 intro Z s Y H Q I h;rw[evalPart_none];exact ZP ⟨none,H,I,.none,h⟩
def u7(h:PE X e te):PO X (some e) (HB te):=by
 intro Z s Y H Q I c;rw[evalPart_some];refine thn (h Z s Y H _ I c) ?_;rintro u f ⟨x,H1,d,a,b⟩;let⟨i,rfl,q⟩:=b;let⟨t,rfl⟩:=a;exact⟨some i,H1,d,.int i t,q⟩
def SlR(X:Cx)(r:V->Option Int->Option Int->Hp->VK->Prop):Prop:=
 ∀(Z:List (Addr×Obj)) (s:Shared) (Y:St) (H:Hp) (x:V) (v b a:Value) (lo hi:Option Int) (c:Addr) (Q:VK),Z4 X Z Y H s->RelV x v->s.heap.IsSliceOf c b a .none->IsPart b lo->IsPart a hi->r x lo hi H Q ->
  ∃T id,typeLookup (.type T) "__getitem__" = pure (some (.builtin id))/\s.TypeIs v T/\wpAny (model X.prog X.w) X.A (getItem v (.ref c)) (EP X Z Y Q) X.xe s
def SlR.or{r e:V->Option Int->Option Int->Hp->VK->Prop}(h:SlR X r)(h':SlR X e):SlR X (λx lo hi H Q=>r x lo hi H Q\/e x lo hi H Q):=by
 intro Z s Y H x v b a lo hi c Q I d hs pl f q;rcases q with q|q
 .exact h Z s Y H x v b a lo hi c Q I d hs pl f q
 .exact h' Z s Y H x v b a lo hi c Q I d hs pl f q
def Jt(r:V->Option Int->Option Int->Hp->VK->Prop)(c:TE)(a b:TO):TE:=λY H Q=>c Y H λx H1=>a Y H1 λl H2=>b Y H2 λu H3=>r x l u H3 Q
def tw{r:V->Option Int->Option Int->Hp->VK->Prop}(z:SlR X r)(D:PE X e te)(B:PO X lo tl)(t:PO X hi th):PE X (.Subscript e (.Slice lo hi none p2) pos) (Jt r te tl th):=by
 intro Z s Y H Q I h;refine Subscript_ (thn (D Z s Y H _ I h) ?_);rintro v f ⟨x,H1,K,g,o⟩;refine wpAny_Slice (thn (B Z f Y H1 _ K o) λc d ⟨l,H2,J,pl,k⟩=>thn (t Z d Y H2 _ J k) ?_);rintro a s3 ⟨u,H3,G,pu,j⟩;rw[evalPart_none];refine ZP ?_;have F:Z4 X Z Y H3 {s3 with heap:=s3.heap.push {cls:=.type "slice",data:=.fields #[c,a,.none]}}:=G.kept (t':=s3.toks) λb ob q=>HM _ q
 let⟨T,id,E,y,C⟩:=z Z {s3 with heap:=s3.heap.push {cls:=.type "slice",data:=.fields #[c,a,.none]}} Y H3 x v c a l u s3.heap.objs.size Q F g (Heap.IsSliceOf.new ..) pl pu j
 show wpAny (model X.prog X.w) X.A (subscriptTail e (.Slice lo hi none p2) v (.ref s3.heap.objs.size)) (EP X Z Y Q) X.xe {s3 with heap:=s3.heap.push {cls:=.type "slice",data:=.fields #[c,a,.none]}}
 exact tail_any (ops:=[.ref s3.heap.objs.size,v]) y E C (by with_unfolding_all rfl)
def BQ(xs:List V)(a b:Option Int):List V:=(xs.drop (HT.sIx xs.length 0 a)).take (HT.sIx xs.length xs.length b-HT.sIx xs.length 0 a)
def i4(xs:List V)(a b:Option Int):(BQ xs a b).length<=xs.length:=by
 unfold BQ;rw[TK,Qg];lia
def Ju(K:HY):V->Option Int->Option Int->Hp->VK->Prop:=λx lo hi H Q=>∃a xs,x=.ref a/\SqT K H a xs /\
 ¬ (HT.sIx xs.length 0 lo=0/\HT.sIx xs.length xs.length hi=xs.length) /\∀p,H p=none->Q (.ref p) (upd H p (.Z1 (BQ xs lo hi)))
def wQ:SlR X (Ju X.K):=by
 intro Z s Y H x v l k lo hi m Q I f hs pl g h;let⟨a,xs,rfl,i,j,q⟩:=h;cases f;let⟨ZY,r,e,d⟩:=I.tuple i;have c:ZY.toArray.size=xs.length:=by rw[Wl];exact r.length.symm
 refine⟨"tuple",_,PyProof.Rows.slot_tuple_getitem.lookup,e.typeIs,?_⟩;refine HT.getItem_tuple_cut e hs pl g (by rw[c];exact j) ?_ (by rw[c];exact d)
 rw[c];refine⟨.ref s.heap.objs.size,_,I.laid (t':=s.toks) (o:=.Z1 (BQ xs lo hi)) (λb ob q=>HM _ q) (HR _) ?_,rfl,q _ (I.ZQ.fresh (HR _))⟩;exact⟨HP (i4 xs lo hi) d,_,(r.drop (HT.sIx xs.length 0 lo)).take (HT.sIx xs.length xs.length hi-HT.sIx xs.length 0 lo),IsTup.new _ _⟩
end
end L2
namespace L2
open PySem PySem.Spec PyProof.Rows
def ixN(n:Nat)(i:Int):Option Nat:=if 0<=i then(if i<n then some i.toNat else none)else if -(n:Int)<=i then some (i+n).toNat else none
def atI{a:Type}(xs:List a)(i:Int):Option a:=(ixN xs.length i).bind λj=>xs[j]?
def lQ{i:Int}(h:ixN n i=some j):seqIndex? i n=some j/\j<n /\ -(n:Int)<=i/\i<n:=by
 unfold ixN at h;by_cases a:0<=i
 .rw [XN a]at h
  by_cases h1:i<n
  .rw [XN h1]at h
   have e:i.toNat=j:=WY h;exact⟨by rw[seqIndex_of a h1,e],by lia,by lia,h1⟩
  .rw [Xy h1]at h;cases h
 .rw [Xy a]at h
  by_cases h1 : -(n:Int)<=i
  .rw [XN h1]at h
   have e:(i+n).toNat=j:=WY h;exact⟨by rw[seqIndex_neg (by lia) h1,e],by lia,h1,by lia⟩
  .rw [Xy h1]at h;cases h
def lG{xs:List α}{i:Int}{v:α}(h:atI xs i=some v):∃j,seqIndex? i xs.length=some j/\xs[j]?=some v/\j<xs.length /\ -(xs.length:Int)<=i/\i<xs.length:=by
 unfold atI at h;cases e:ixN xs.length i with
 |none=>rw[e]at h;cases h
 |some j=>
  rw[e]at h;let⟨h1,h2,b,a⟩:=lQ e;exact⟨j,h1,h,h2,b,a⟩
def DN(b:Expr):Prop:=∀o i,subscripted b false o i=operate [o,i] (getItem o i)
def IxR(X:Cx)(r:R2):Prop:=
 ∀(value slice:Expr) (Z:List (Addr×Obj)) (s:Shared) (Y:St) (H:Hp) (x y:V) (v u:Value) (Q:VK),Z4 X Z Y H s->RelV x v->RelV y u->r x y H Q ->
  subscripted slice false v u=operate [v,u] (getItem v u)->wpAny (model X.prog X.w) X.A (subscriptTail value slice v u) (EP X Z Y Q) X.xe s
def MtR(X:Cx)(a:String)(r:V->List V->Hp->VK->Prop):Prop:=
 ∀(Z:List (Addr×Obj)) (s:Shared) (Y:St) (H:Hp) (x:V) (xs:List V) (v:Value) (J:List Value) (Q:VK),Z4 X Z Y H s->RelV x v->ZK xs J->r x xs H Q ->
  wpAny (model X.prog X.w) X.A (call (.builtin a) (v::J)) (EP X Z Y Q) X.xe s
section
variable{a b:Expr}{tb:TE}
def IxR.or{r c:R2}(h:IxR X r)(h':IxR X c):IxR X (λx y H Q=>r x y H Q\/c x y H Q):=by
 intro value slice Z s Y H x y v u Q I b a q hs;rcases q with q|q
 .exact h value slice Z s Y H x y v u Q I b a q hs
 .exact h' value slice Z s Y H x y v u Q I b a q hs
def abk{r:R2}(g:IxR X r)(j:PE X a ta)(i:PE X b tb)(f:DN b):PE X (.Subscript a b pos) (Ji r ta tb):=by
 intro Z s Y H Q I h;exact Subscript_ (iF j i I h λv u c x y H2 k e d q=>g a b Z c Y H2 x y v u Q k e d q (f _ _))
def Jv(K:HY):R2:=λx y H Q=>∃p xs i v,x=.ref p/\y=.int i/\SqL K H p xs/\atI xs i=some v/\Q v H
def Jw(K:HY):R2:=λx y H Q=>∃p xs i v,x=.ref p/\y=.int i/\SqT K H p xs/\atI xs i=some v/\Q v H
def wH:IxR X (Jv X.K):=by
 intro value slice Z s Y H x y v u Q I f e h hs;let⟨p,xs,i,z,rfl,rfl,g,l,q⟩:=h;cases f;let⟨t,rfl⟩:=e;let⟨ZY,r,pl,A⟩:=I.list g;let⟨j,h1,h2,C,n,m⟩:=lG l;let⟨w,d,o⟩:=r.get h2;have k:=r.length;have B:=dq;have a:EP X Z Y Q w s:=⟨z,H,I,o,q⟩;by_cases c:0<=i
 .have b:i.toNat=j:=by
   rw[seqIndex_of c m]at h1;exact WY h1
  exact item_listR pl.isList c (by lia) (by rw[b];simpa using d) a hs
 .have b:(i+(ZY.toArray.size:Int)).toNat=j:=by
   rw[seqIndex_neg (by lia) n]at h1
   rw[Wl,<-k];exact WY h1
  exact subscriptTail_builtinR (x:=w) pl.isList.typeIs slot_list_getitem.lookup
   (wpAny_getItem_list_neg (Q:=λr s'=>r=w/\EP X Z Y Q r s') pl.isList () (by rw[Wl]<;>lia) (by lia) (by rw[b];simpa using d) ⟨rfl,a⟩) hs
def w9:IxR X (Jw X.K):=by
 intro value slice Z s Y H x y v u Q I c b h hs;let⟨p,xs,i,z,rfl,rfl,d,f,q⟩:=h;cases c;let⟨t,rfl⟩:=b;let⟨ZY,r,pl,l⟩:=I.tuple d;let⟨j,h1,h2,A,o,n⟩:=lG f;let⟨w,g,k⟩:=r.get h2;have e:=r.length;have m:=dq;have a:EP X Z Y Q w s:=⟨z,H,I,k,q⟩;exact subscriptTail_builtinR (x:=w) pl.typeIs slot_tuple_getitem.lookup
  (getItem_tuple (j:=j) (Q:=λr s'=>r=w/\EP X Z Y Q r s') pl (by lia) (by lia) (by rw[Wl,<-e];exact h1) (by simpa using g) ⟨rfl,a⟩) hs
def qq(a:List Value)(n j:Nat)(u:Value):Obj.mapSeq (·.setIfInBounds j u) {cls:=.type "list",data:=.seq a.toArray n}={cls:=.type "list",data:=.seq (a.set j u).toArray n}:=by
 simp[Obj.mapSeq]
def Z4.S{Z:List (Addr×Obj)}{Y:St}{H:Hp}{s:Shared}{p:Addr}{xs:List V}(I:Z4 X Z Y H s)(h:H p=some (.S xs)):
  ∃(ZY:List Value) (n:Nat),ZK xs ZY/\s.heap.get? p=some {cls:=.type "list",data:=.seq ZY.toArray n}/\xs.length<=sizeLine:=by
 let⟨z,ZY,n,r,e⟩:=I.ZQ p _ h;exact⟨ZY,n,r,e,z⟩
def Z4.Ss{Y:St}{p:Addr}{xs a:List V}{its':List Value}{c:Nat}{f:Obj->Obj}(I:Z4 X Z Y H s)(h:H p=some (.S xs))
  (i:s.heap.get? p=some {cls:=.type "list",data:=.seq ZY.toArray n}) (d:f {cls:=.type "list",data:=.seq ZY.toArray n}={cls:=.type "list",data:=.seq its'.toArray c}) (r:ZK a its') (g:a.length<=sizeLine) (t:Nat) :
  Z4 X Z Y (upd H p (.S a)) {s with heap:=s.heap.update p f,toks:=t}:=by
 have e:(s.heap.update p f).get? p=some {cls:=.type "list",data:=.seq its'.toArray c}:=by
  rw[T1 f i (by rw[d]<;>rfl),d]
 refine I.write (x:=p) (e:=p) (by rw[h];trivial) (.inl rfl) (λb u j q=>(VE _ _ (Ne.symm j)).trans q) ⟨_,e⟩ ?_
 exact⟨g,its',c,r,e⟩
def Hu:V->V->V->Hp->(Hp->Prop)->Prop:=λo i v H Q=>∃p xs k j,o=.ref p/\i=.int k/\H p=some (.S xs)/\ixN xs.length k=some j/\Q (upd H p (.S (xs.set j v)))
def set_list:Ci X Hu:=by
 intro Z s Y H o i v y z u Q I l m g h;let⟨p,xs,k,j,rfl,rfl,b,x,q⟩:=h;cases l;let⟨t,rfl⟩:=m;let⟨ZY,n,r,ho,w⟩:=I.S b;let⟨h1,h2,d,c⟩:=lQ x;have a:=r.length;have A:=dq;have f:Z4 X Z Y (upd H p (.S (xs.set j v))) {s with heap:=s.heap.update p (Obj.mapSeq (·.setIfInBounds j u))}:=
  I.Ss b ho (qq ZY n j u) (r.set g j) (by rw[Pg];exact w) s.toks
 by_cases e:0<=k
 .have hk:k.toNat=j:=by
   rw[seqIndex_of e c]at h1;exact WY h1
  exact PySem.W.ki_setAt ho e (by lia) (by rw[Wl,<-a];exact c) (by rw[hk];exact⟨_,f,q⟩)
 .have hk:(k+(ZY.toArray.size:Int)).toNat=j:=by
   rw[seqIndex_neg (by lia) d]at h1
   rw[Wl,<-a];exact WY h1
  exact PySem.W.ki_setBack ho () (by rw[Wl,<-a];exact d) (by lia) (by rw[hk];exact⟨_,f,q⟩)
def oR(a b:Option Int)(n:Nat):(sliceBounds a b none n).1=((HT.sIx n 0 a:Nat):Int)/\(sliceBounds a b none n).2.1=((HT.sIx n n b:Nat):Int)/\(sliceBounds a b none n).2.2=1:=by
 refine⟨?_,?_,rfl⟩
 .cases a with
  |none=>simp[sliceBounds,HT.sIx]
  |some i=>
   simp![sliceBounds,HT.sIx,Qi,show(1:Int) > 0 by decide,Ti]
   by_cases h:i<0
   .simp only [h,Ti]<;>lia
   .simp only [h,U3]<;>lia
 .cases b with
  |none=>simp[sliceBounds,HT.sIx]
  |some i=>
   simp![sliceBounds,HT.sIx,Qi,show(1:Int) > 0 by decide,Ti]
   by_cases h:i<0
   .simp only [h,Ti]<;>omega
   .simp only [h,U3]<;>omega
def oE(a:List Value)(b c:Option Int):slicePick a.toArray b c none=((a.drop (HT.sIx a.length 0 b)).take (HT.sIx a.length a.length c-HT.sIx a.length 0 b)).toArray:=by
 let⟨h1,h2,d⟩:=oR b c a.toArray.size;unfold slicePick;rw[h1,h2,d];simp![sliceRange_one,pick_run,Wl]<;>rfl
def Jx(K:HY):V->Option Int->Option Int->Hp->VK->Prop:=λx lo hi H Q=>∃a xs,x=.ref a/\SqL K H a xs /\∀p,H p=none->Q (.ref p) (upd H p (.S (BQ xs lo hi)))
def t5:SlR X (Jx X.K):=by
 intro Z s Y H x v t k lo hi u Q I d hs pl f h;let⟨a,xs,rfl,j,q⟩:=h;cases d;let⟨ZY,r,c,g⟩:=I.list j;have hlen:=r.length;refine⟨"list",_,slot_list_getitem.lookup,c.isList.typeIs,?_⟩;refine wpAny_getItem_list_slice c.isList hs pl f .none #[3] ?_ (by rw[Wl]<;>lia)
 rw[oE,<-hlen];refine⟨.ref s.heap.objs.size,_,I.laid (t':=s.toks) (o:=.S (BQ xs lo hi)) (λb ob q=>HM _ q) (HR _) ?_,rfl,q _ (I.ZQ.fresh (HR _))⟩;exact⟨HP (i4 xs lo hi) g,_,0,(r.drop (HT.sIx xs.length 0 lo)).take (HT.sIx xs.length xs.length hi-HT.sIx xs.length 0 lo),HW _ rfl⟩
def Dk:V->Bool
 |.ZR=>true
 |.bl _=>true
 |.int _=>true
 |.str _=>true
 |_=>false
def Jy:V->V->Bool
 |.ZR,.ZR=>true
 |.bl a,.bl b=>a==b
 |.bl a,.int b=>(if a then 1 else 0)==b
 |.int a,.bl b=>a==(if b then 1 else 0)
 |.int a,.int b=>a==b
 |.str a,.str b=>a==b
 |_,_=>false
def hZ{x:V}{u v:Value}(d:RelV y u)(c:RelV x v)(f:Dk y=true)(e:Dk x=true):SeqAt.EqAt A s u v (Jy y x):=by
 cases y with
 |ZR=>
  cases d;cases x with
  |ZR=>cases c;exact Ph _
  |bl b=>cases c;exact SeqAt.EqAt.none_bool b
  |int b=>let⟨t,rfl⟩:=c;exact SeqAt.EqAt.none_int b t
  |str b=>let⟨t,rfl⟩:=c;exact SeqAt.EqAt.none_str b t
  |_=>exact absurd (show false=true from e) HQ
 |bl a=>
  cases d;cases x with
  |ZR=>cases c;exact SeqAt.EqAt.bool_none a
  |bl b=>cases c;exact SeqAt.EqAt.bool_bool a b
  |int b=>let⟨t,rfl⟩:=c;exact SeqAt.EqAt.bool_int a b t
  |str b=>let⟨t,rfl⟩:=c;exact SeqAt.EqAt.bool_str a b t
  |_=>exact absurd (show false=true from e) HQ
 |int a=>
  let⟨t',rfl⟩:=d;cases x with
  |ZR=>cases c;exact SeqAt.EqAt.int_none a t'
  |bl b=>cases c;exact SeqAt.EqAt.int_bool a t' b
  |int b=>let⟨t,rfl⟩:=c;exact SeqAt.EqAt.int_int a t' b t
  |str b=>let⟨t,rfl⟩:=c;exact SeqAt.EqAt.int_str a t' b t
  |_=>exact absurd (show false=true from e) HQ
 |str a=>
  let⟨t',rfl⟩:=d;cases x with
  |ZR=>cases c;exact SeqAt.EqAt.str_none a t'
  |bl b=>cases c;exact SeqAt.EqAt.str_bool a t' b
  |int b=>let⟨t,rfl⟩:=c;exact SeqAt.EqAt.str_int a t' b t
  |str b=>let⟨t,rfl⟩:=c;exact SeqAt.EqAt.str_str a t' b t
  |_=>exact absurd (show false=true from e) HQ
 |_=>exact absurd (show false=true from f) HQ
def call_len_seq:CallR X (.builtin "len") (λxs H Q=>∃p ys,xs=[.ref p]/\(SqL X.K H p ys\/SqT X.K H p ys)/\Q (.int ys.length) H):=by
 intro Z s Y H xs J Q I r h;let⟨p,ys,rfl,a,q⟩:=h;let⟨u,rfl,b⟩:=vals1 r;cases b;have d:=dq;rcases a with a|a
 .obtain ⟨ZY,r',pl,c⟩:=I.list a
  have hlen:=r'.length;exact Calls.call_len_list pl.isList (by simp![Wl]<;>lia) ⟨.int ys.length,H,I.tok _,⟨s.toks+1,by rw[Wl,hlen]⟩,q⟩
 .obtain ⟨ZY,r',pl,c⟩:=I.tuple a
  have hlen:=r'.length;exact len_tuple pl (by simp![Wl]<;>omega) ⟨.int ys.length,H,I.tok _,⟨s.toks+1,by rw[Wl,hlen]⟩,q⟩
def CallR.or{f:Value}{r a:List V->Hp->VK->Prop}(h:CallR X f r)(h':CallR X f a):CallR X f (λxs H Q=>r xs H Q\/a xs H Q):=by
 intro Z s Y H xs J Q I rs q;rcases q with q|q
 .exact h Z s Y H xs J Q I rs q
 .exact h' Z s Y H xs J Q I rs q
def call_list_of:CallR X (.type "list") (λxs H Q=>∃p ys,xs=[.ref p]/\(SqL X.K H p ys\/SqT X.K H p ys) /\∀l,H l=none->Q (.ref l) (upd H l (.S ys))):=by
 intro Z s Y H xs J Q I r h;let⟨p,ys,rfl,c,q⟩:=h;let⟨u,rfl,g⟩:=vals1 r;cases g;have d:∀(ZY:List Value),ZK ys ZY->ys.length<=sizeLine ->∀(h':Heap) (c':Nat),(∀b o',s.heap.get? b=some o'->h'.get? b=some o') ->
   h'.get? s.heap.objs.size=some {cls:=.type "list",dict:=none,data:=.seq ZY.toArray c',slots:=#[]}->EP X Z Y Q (.ref s.heap.objs.size) {s with heap:=h'}:=λZY r' a h' c' kp e=>
  ⟨.ref s.heap.objs.size,_,I.laid (t':=s.toks) kp (HR _) (show ObjOk X.prog X.w _ h' _ (.S ys)from⟨a,ZY,c',r',e⟩),rfl,q _ (I.ZQ.fresh (HR _))⟩
 rcases c with c|c
 .obtain ⟨ZY,r',pl,a⟩:=I.list c
  have hlen:=r'.length;let⟨o,ho,hc,n,f⟩:=pl.isList;exact call_list_seq p (.inl rfl) ho hc f (λh' c' kp e=>d ZY r' a h' c' kp e) (by simp![Wl]<;>omega)
 .obtain ⟨ZY,r',pl,a⟩:=I.tuple c
  have hlen:=r'.length;let⟨o,ho,hc,n,f⟩:=pl;exact call_list_seq p (.inr rfl) ho hc f (λh' c' kp e=>d ZY r' a h' c' kp e) (by simp![Wl]<;>omega)
def call_tuple_of:CallR X (.type "tuple") (λxs H Q=>∃p ys,xs=[.ref p]/\((SqL X.K H p ys /\∀l,H l=none->Q (.ref l) (upd H l (.Z1 ys)))\/(SqT X.K H p ys/\Q (.ref p) H))):=by
 intro Z s Y H xs J Q I r h;let⟨p,ys,rfl,h⟩:=h;let⟨u,rfl,f⟩:=vals1 r;cases f;rcases h with⟨a,q⟩|⟨a,q⟩
 .obtain ⟨ZY,r',pl,c⟩:=I.list a
  have hlen:=r'.length;refine call_tuple_list pl.isList (λh' kp=>?_) (by simp![Wl]<;>omega)
  have d:Z4 X Z Y H {s with heap:=h'}:=I.kept (t':=s.toks) kp
  have g:Z4 X Z Y (upd H h'.objs.size (.Z1 ys)) {s with heap:=h'.push {cls:=.type "tuple",data:=.seq ZY.toArray}}:=
   d.laid (t':=s.toks) (λb o e=>HM _ e) (HR _) (show ObjOk X.prog X.w _ _ _ (.Z1 ys)from⟨c,ZY,r',IsTup.new _ _⟩)
  exact⟨.ref h'.objs.size,_,g,rfl,q _ (d.ZQ.fresh (HR _))⟩
 .obtain ⟨ZY,r',pl,c⟩:=I.tuple a
  exact call_tuple_same pl ⟨.ref p,H,I,rfl,q⟩
def Jz(K:HY)(T:String)(x:V)(H:Hp):Prop:=match x with
 |.str _=>T = "str"
 |.int _=>T = "int"
 |.ref p=>(T = "list" /\∃xs,SqL K H p xs)\/(T = "tuple" /\∃o,K.lookup p=some o/\o.cls=.type "tuple" /\ o.dict=none) \/
   (T = "dict" /\ ((∃O,H p=some (.dK O)) \/∃O,H p=some (.dT O)))\/(T = "set" /\∃Z5 n,H p=some (.set Z5 n))
 |_=>False
def nu{Y:St}{T:String}{x:V}{v:Value}(I:Z4 X Z Y H s)(r:RelV x v)(b:Jz X.K T x H):
  s.TypeIs v T /\∀a,v=.ref a ->∃f,s.heap.get? a=some f/\f.dict=none:=by
 cases x with
 |str z=>
  let⟨t,rfl⟩:=r;cases(show T = "str" from b);exact⟨typeIs_str s z t,λ_ e=>nomatch e⟩
 |int i=>
  let⟨t,rfl⟩:=r;cases(show T = "int" from b);exact⟨typeIs_int s i t,λ_ e=>nomatch e⟩
 |ref p=>
  cases r;rcases b with⟨rfl,xs,g⟩|⟨rfl,o,hk,hc,hd⟩|⟨rfl,hk⟩|⟨rfl,Z5,n,hk⟩
  .obtain ⟨ZY,_,pl,_⟩:=I.list g
   refine⟨pl.isList.typeIs,λa e=>?_⟩;cases e;let⟨o,n,e,c,hd,_⟩:=pl;exact⟨o,e,hd⟩
  .refine ⟨⟨o,I.Zf p o hk,hc⟩,λa e=>?_⟩
   cases e;exact⟨o,I.Zf _ o hk,hd⟩
  .have z:∃o,s.heap.get? p=some o/\o.ExactDict:=by
    rcases hk with⟨O,hk⟩|⟨O,hk⟩
    .obtain ⟨_,_,_,_,o,_,_,e,ex,_⟩:=I.ZQ p _ hk
     exact⟨o,e,ex⟩
    .obtain ⟨_,_,_,_,o,_,_,e,ex,_⟩:=I.ZQ p _ hk
     exact⟨o,e,ex⟩
   let⟨o,e,ex⟩:=z;refine⟨⟨o,e,ex.1⟩,λa d=>?_⟩;cases d;exact⟨o,e,ex.2.1⟩
  .obtain ⟨o,_,_,_,e,ex,_⟩:=I.ZQ p _ hk
   refine⟨⟨o,e,ex.1⟩,λa d=>?_⟩;cases d;exact⟨o,e,ex.2.1⟩
 |_=>exact False.elim b
def JA(K:HY)(T:String)(r:V->List V->Hp->VK->Prop)(a:TE):TE:=λY H Q=>a Y H λx H1=>Jz K T x H1/\r x [] H1 Q
def JB(K:HY)(T:String)(r:V->List V->Hp->VK->Prop)(a:TE)(t:TA):TE:=λY H Q=>a Y H λx H1=>Jz K T x H1/\t Y H1 λxs H2=>r x xs H2 Q
variable{o:Expr}{to:TE}{t:TA}{T id:String}{r:V->List V->Hp->VK->Prop}
def aaD(f:PlainAttrs T)(a:Slot T name id)(l:typeOf (.builtin id)=pure (.type "method_descriptor"))(i:MtR X id r)(g:PE X o to)
  (j:attributeBase o name X.env (eval o X.env)=eval o X.env:=by rfl) (k:(apos.endLine==Zt.line)=true:=by rfl):PE X (.Call (.Attribute o name apos) [] [] Zt) (JA X.K T r to):=by
 intro Z s Y H Q I h;refine wpAny_Call_method0_late j k (thn (g Z s Y H _ I h) ?_);rintro v d ⟨x,H1,c,b,ty,e⟩;let⟨h1,h2⟩:=nu c b ty;exact⟨T,id,f,a,l,h1,h2,R6 rfl (PySem.evalArgs_none (i Z d Y H1 x [] v [] Q c b .nil e))⟩
def abW(k:PlainAttrs T)(a:Slot T name id)(w:typeOf (.builtin id)=pure (.type "method_descriptor"))(n:MtR X id r)(m:PE X o to)(p:PA X (e::es) t)
  (q:attributeBase o name X.env (eval o X.env)=eval o X.env:=by rfl)
  (b:((backTo Zt (starEach (e :: es) X.env)).all (λx => !x.1) && (backToKw Zt (keywordEach [] X.env)).all (λx=>x.1.isSome)
   && decide ((e::es).length+([]:List Keyword).length+(if([]:List Keyword).isEmpty then 0 else 1)<30))=true:=by rfl)
  (u:(apos.endLine==Zt.line)=true:=by rfl) (l:starEach (e::es) X.env=(false,eval e X.env)::starEach es X.env:=by rfl) (y:(backTo Zt (starEach es X.env)).any (·.1)=false:=by rfl) :
  PE X (.Call (.Attribute o name apos) (e::es) [] Zt) (JB X.K T r to t):=by
 intro Z s Y H Q I h;refine wpAny_Call_method_late q b u rfl (thn (m Z s Y H _ I h) ?_);rintro v g ⟨x,H1,d,c,ty,j⟩;let⟨h1,h2⟩:=nu d c ty;refine⟨T,id,k,a,w,h1,h2,?_⟩;have hA:=p Zt Z g Y H1 _ d j;rw[l]at hA ⊢;refine R6 (by show(false||(backTo Zt (starEach es X.env)).any (·.1))=false;rw[y]<;>rfl) (Rz ?_)
 exact thn hA λJ f ⟨vs,H2,z,r2,i⟩=>n Z f Y H2 x vs v J Q z c r2 i
end
end L2
namespace L2
open PySem PySem.Spec PyProof.Rows
def MtM(X:Cx)(a:String)(r:V->List V->Hp->VK->Prop):Prop:=
 ∀(Z:List (Addr×Obj)) (s:Shared) (Y:St) (H:Hp) (x:V) (xs:List V) (v:Value) (J:List Value) (Q:VK),Z4 X Z Y H s->RelV x v->ZK xs J->r x xs H Q ->
  wpAny (model X.prog X.w) X.A (call (.builtin a) (v::J)) (EP X Z Y Q) X.xe s
def ZK.one:∀{x:V} {J:List Value},ZK [x] J ->∃u,J=[u]/\RelV x u
 |_,_,.cons r .nil=>⟨_,rfl,r⟩
def ZK.zero:∀{J:List Value},ZK [] J->J=[]
 |_,.nil=>rfl
def ZK.dropLast{xs:List V}{J:List Value}(h:ZK xs J):ZK xs.dropLast J.dropLast:=by
 induction h with
 |nil=>exact .nil
 |cons r t ih=>
  cases t with
  |nil=>exact .nil
  |cons q t'=>exact .cons r ih
def ZK.reverse{xs:List V}{J:List Value}(h:ZK xs J):ZK xs.reverse J.reverse:=by
 induction h with
 |nil=>exact .nil
 |cons r t ih=>rw[Rw,Rw];exact ZK.append ih (.cons r .nil)
def pV(l:List α):l.eraseIdx (l.length-1)=l.dropLast:=by
 induction l with
 |nil=>rfl
 |cons a r ih=>
  cases r with
  |nil=>rfl
  |cons b r=>
   have e:(a::b::r).length-1=((b::r).length-1)+1:=by
    have h1:(a::b::r).length=r.length+2:=rfl;have h2:(b::r).length=r.length+1:=rfl;lia
   rw[e,List.eraseIdx_cons_succ,ih]
   all_goals rfl
section
variable{Y:St}{l b:Addr}{xs ys zs:List V}
def Z4.Ts{its':List Value}{f:Array Value->Array Value}(I:Z4 X Z Y H s)(h:H l=some (.S xs))
  (e:s.heap.get? l=some {cls:=.type "list",data:=.seq ZY.toArray n}) (d:f ZY.toArray=its'.toArray) (b:ZK ys its') (a:ys.length<=sizeLine) :
  Z4 X Z Y (upd H l (.S ys)) {s with heap:=s.heap.update l (Obj.mapSeq f),toks:=t'}:=by
 have q:=PySem.IsL.update e f;rw[d]at q;refine I.write (x:=l) (e:=l) (by rw[h];exact trivial) (.inl rfl) (λb' u g c=>(VE s.heap (Obj.mapSeq f) (Ne.symm g)).trans c) ⟨_,q⟩ ?_
 exact⟨a,its',_,b,q⟩
def Z4.lnew(I:Z4 X Z Y H s)(b:ZK ys ZY)(a:ys.length<=sizeLine):
  Z4 X Z Y (upd H s.heap.objs.size (.S ys)) {s with heap:=s.heap.push {cls:=.type "list",data:=.seq ZY.toArray},toks:=t'}:=
 I.laid (λ_ _ q=>HM _ q) (HR _) ⟨a,ZY,0,b,HW _ rfl⟩
def Z4.fresh(I:Z4 X Z Y H s):H s.heap.objs.size=none:=I.ZQ.fresh (HR _)
def Z4.U6(I:Z4 X Z Y H s)(a:H l=some (.S xs)):xs.length<=sizeLine /\∃(ZY:List Value) (n:Nat),ZK xs ZY/\xs.length=ZY.length/\s.heap.get? l=some {cls:=.type "list",data:=.seq ZY.toArray n}:=by
 let⟨z,ZY,n,r,e⟩:=I.ZQ l _ a;exact⟨z,ZY,n,r,r.length,e⟩
def se(h:n<=sizeLine):Builtin.List.listTooLong n=false:=by
 unfold Builtin.List.listTooLong;exact Sa (by lia)
end
section
def G9:V->List V->Hp->VK->Prop:=λx vs H Q=>∃l xs y,x=.ref l/\vs=[y]/\H l=some (.S xs)/\xs.length<sizeLine/\Q .ZR (upd H l (.S (xs++[y])))
def jv:MtM X "list.append" G9:=by
 intro Z s Y H x vs v J Q I c d h;let⟨l,xs,y,rfl,rfl,a,g,q⟩:=h;cases c;let⟨u,rfl,f⟩:=d.one;let⟨z,ZY,n,r,j,e⟩:=I.U6 a;refine call_meets F.slot_list_append ⟨_,e,rfl⟩ F.entry_list_append (F.args_list_append_2 _ _) (PySem.list_append l ZY.toArray n u (by rw[Wl];lia)) ⟨e,?_⟩
 refine⟨.ZR,_,I.Ts (its':=ZY++[u]) a e #[3] (r.append (.cons f .nil)) ?_,rfl,q⟩
 rw[Xq,List.length_singleton];lia
def Hb:V->List V->Hp->VK->Prop:=λx vs H Q=>∃l b xs zs,x=.ref l/\vs=[.ref b]/\H l=some (.S xs)/\H b=some (.S zs)/\xs.length+zs.length<=sizeLine/\Q .ZR (upd H l (.S (xs++zs)))
def rF:MtM X "list.extend" Hb:=by
 intro Z s Y H x vs v J Q I f g h;let⟨l,b,xs,zs,rfl,rfl,d,t,B,q⟩:=h;cases f;let⟨u,rfl,j⟩:=g.one;cases j;let⟨z,ZY,n,r,C,e⟩:=I.U6 d;let⟨A,a,k,r2,o,w⟩:=I.U6 t;have c:ZY.toArray.size+a.toArray.size<=sizeLine:=by rw[Wl,Wl];lia
 have y : ¬ (!ZY.toArray.isEmpty&&Builtin.List.listTooLong (ZY.toArray.size+a.toArray.size))=true:=by
  rw[se c,Bool.and_false];exact HQ
 refine call_meets F.slot_list_extend ⟨_,e,rfl⟩ F.entry_list_extend (F.args_list_extend_2 _ _)
  (AutoSeq1.list_extend_list_list_0 l ZY.toArray n b a.toArray k y (by rw[Wl];lia) (by lia)) ⟨e,w,?_⟩
 refine⟨.ZR,_,I.Ts (its':=ZY++a) d e #[3] (r.append r2) ?_,rfl,q⟩
 rw[Xq];lia
def rPop:V->List V->Hp->VK->Prop:=λx vs H Q=>∃l xs y,x=.ref l/\vs=[]/\H l=some (.S xs)/\xs[xs.length-1]?=some y/\Q y (upd H l (.S xs.dropLast))
def zT:MtM X "list.pop" rPop:=by
 intro Z s Y H x vs v J Q I c d h;let⟨l,xs,y,rfl,rfl,b,g,q⟩:=h;cases c;have k:=d.zero;subst k;let⟨z,ZY,n,r,j,e⟩:=I.U6 b;let⟨u,i,f⟩:=r.get g;have a:ZY.toArray[ZY.toArray.size-1]?=some u:=by
  show ZY.toArray[ZY.length-1]?=some u;rw[<-Qc,<-j];exact i
 refine call_meets F.slot_list_pop ⟨_,e,rfl⟩ F.entry_list_pop (F.args_list_pop_1 _) (MeetsSeq.list_pop_last l ZY.toArray n u a (by rw[Wl];lia)) ⟨e,?_⟩
 refine⟨y,_,I.Ts (its':=ZY.dropLast) b e ?_ r.dropLast ?_,f,q⟩
 .show ZY.toArray.eraseIdxIfInBounds (ZY.toArray.size-1)=ZY.dropLast.toArray
  rw[Wl,List.eraseIdxIfInBounds_toArray,pV]
 .rw [List.length_dropLast]
  omega
def GP:R2:=λx y H Q=>∃l b xs zs,x=.ref l/\y=.ref b/\H l=some (.S xs)/\H b=some (.S zs)/\xs.length+zs.length<=sizeLine /\∀p,H p=none->Q (.ref p) (upd H p (.S (xs++zs)))
def aaO:OpR X (binaryOp .Add) GP:=by
 intro Z s Y H x y v u Q I d c h;let⟨l,b,xs,zs,rfl,rfl,g,i,o,q⟩:=h;cases d;cases c;let⟨z,ZY,n,r,p,e⟩:=I.U6 g;let⟨k,a,m,r2,f,j⟩:=I.U6 i;refine PySem.P.add_list e j ?_ (by rw[Wl,Wl];omega)
 have ea:ZY.toArray++a.toArray=(ZY++a).toArray:=by simp
 rw[ea];exact⟨.ref _,_,I.lnew (t':=s.toks) (r.append r2) (by rw[Xq];omega),rfl,q _ I.fresh⟩
end
end L2
namespace Att
open PySem PySem.W PySem.Calls PyProof.Rows
def ou{P:Params}:∀(ns:List Int) (vs:List Value),WellAll P h vs (ns.map WData.int)->IntsAre vs ns:=by
 intro ns
 induction ns with
 |nil=>
  intro vs w;rw[RJ]at w;cases w;exact .nil
 |cons n ns ih=>
  intro vs w;rw[Xk]at w;cases w with
  |cons a b=>
   cases a;exact .cons _ _ (ih _ b)
def qZ{l:OpenLaw}(w:l.most=some n){P:Params}{args:List WData}{c:List Value}
  (k:l.row.toRowW.claim.pre args=true) (j:WellAll P h c args) :
  ∃a vs ns,c=[Value.ref a]/\args=[WData.list (ns.map WData.int)]/\h.get? a=some {cls:=.type "list",data:=.seq vs.toArray}/\IntsAre vs ns/\ns.length<=n:=by
 have z:WShape.hasAll [] args [.list .int]=true:=(pre_splitW k).1;have hc:l.pre.holds [] {args:=args}=true:=(pre_splitW k).2;let⟨d,r,rfl,h1,h2⟩:=hasAllW_cons z;obtain rfl:=hasAllW_nil h2;let⟨xs,rfl,y⟩:=hasW_list h1;let⟨ns,rfl⟩:=items_int y;have f:ns.length<=n:=by
  unfold OpenLaw.pre at hc;have g:(WTm.not (.lt (.lit (.int (n:Int))) (.len (.arg 0)))).holds [] {args:=[.list (ns.map .int)]}=true:=by
   have g:=(holds_andW hc).1;rw[w]at g;exact g
  have h5:=condW_of g (w_not (w_lt w_lit (w_len_list (w_arg rfl))));rw[YK]at h5;refine Nat.le_of_not_lt λq=>?_;have u:(n:Int)<((ns.length:Nat):Int):=by omega
  first
   |(rw[decide_eq_true u]at h5;exact absurd h5 #[1])
   |(simp at h5;omega)
 cases j with
 |cons t o=>
  cases o;cases t with
  |list ho A=>exact⟨_,_,ns,rfl,rfl,ho,ou ns _ A,f⟩
def qA(l:OpenLaw)(args:List WData):l.row.toRowW.claim.post args (.bool true) args=true:=
 postW_of (r:=l.row.toRowW) (X:=(true==true))
  (show WShape.has [] (.bool true) .bool=true by first|rfl|decide|simp[WShape.has,WShape.arms,WShape.armsAll])
  (show(WTm.eq .res (.lit (.bool true))).value [] {args:=args,res:=some (.bool true),after:=args}=some (.bool (true==true))from w_eq_bool (w_res rfl) w_lit) rfl
def attach_call{l:OpenLaw}{q:Program}{loose:List Str}{XP:(Str->Option Value)->Heap->Prop}{YP:World->Heap->Prop}{d:DefRec}
  (F:l.most=some n) (A:d.params.defaults=[])
  (call:∀ (w:World) (ZH ZG : Shared) (mg u:Str->Option Value) (k:Addr) (o:Obj) (pm t g:Value) (a:Addr) (vs:List Value) (ns:List Int),
   Ground q loose [] XP w ZH mg u ZG.heap->YP w ZG.heap ->
   ZG.heap.get? k=some o->o.data=.func (docDef d.name d.params d.body d.scope pm t g)->ZG.heap.CodeRec t d.name->mg d.name=some (.ref k) ->
   ZG.heap.get? a=some {cls:=.type "list",data:=.seq vs.toArray}->IntsAre vs ns->ns.length<=n->ZG.gens = #[] ->
   codeAny (model l.prog w) callerA (.call (.ref k) ⟨[.ref a],[]⟩) (λr s'=>r=.ok (.ret (.bool true))/\OldK ZG.heap s'.heap/\s'.os=ZG.os/\AllBare s'.gens) ZG) :
  WalkO q loose XP YP l.row.toRowW d [] (λf vs=>PySem.call f vs):=by
 intro w ZH ZG mg u G O k o pm t g N IT ho K P C z J args vals as Q B D y I;obtain rfl:N=.none:=Dflts.none C A;obtain rfl:IT=.none:=Dflts.noKw C;let⟨a,vs,ns,rfl,rfl,R,c,j⟩:=qZ F Q y;refine enter_call (Rn (call w ZH ZG mg u k o pm t g a vs ns G O ho (fd_plain K) P z R c j J) λr s' E=>?_);let⟨rfl,h2,M,L⟩:=E;exact⟨.inl ⟨.bool true,.bool true,[],rfl,λ_=>rfl,.bool true,qA l _,λ_=>⟨List.Pairwise.nil,λ_ H=>(nomatch H)⟩⟩,h2,M,L⟩
end Att
namespace L2
open PySem PySem.Spec PyProof.Rows
def fV:∀{vs:List Value} {ns:List Int},IntsAre vs ns->ZK (ns.map V.int) vs
 |_,_,.nil=>.nil
 |_,_,.cons n t h=>.cons ⟨t,rfl⟩ (fV h)
def DH(H:Hp):Prop:=∀b,H b=none \/∃o xs,H b=some (.Zw o (.S xs))
def sZ{E:Str->Option Value}{k:Nat}{L:Addr}{x:Str}{sp:Sp}{ZG : Shared}{vs:List Value}
  (X:K.In ZG.heap) (W:ZG.heap.Ns mainGlobals mg) (c:ZG.heap.Ns builtinsNs E) (I:∀x:Str,x ≠ "__name__" -> E x=bootBuiltins x) (A:ZG.heap.NoLimit) (hg:ZG.gens = #[])
  (D:ZG.heap.get? a=some {cls:=.type "list",data:=.seq vs.toArray}) (O:IntsAre vs ns) (N:ns.length<=sizeLine) (hr:Ze k callerA)
  (F:∀base:Heap,K.In base->base.Ns mainGlobals mg->Y2 P w K mg base CX k L fd [x] sp) (Sq:∀(s:Shared) (u:Value),BindsTo s fd ⟨[u],[]⟩ [(x,u)])
  (G:∀H:Hp,DH H->SqL K H a (ns.map V.int)->sp [.ref a] H (λv _=>v=.bl true) λ_ _ _=>False)
  (J:∀H e s',CX [] H ZG (λ_ _ _=>False) e s'->False) :
  codeAny (model P w) callerA (.call (.ref L) ⟨[.ref a],[]⟩) (λr s'=>r=.ok (.ret (.bool true))/\OldK ZG.heap s'.heap/\s'.os=ZG.os/\AllBare s'.gens) ZG:=by
 have M:=fV O;have t:=O.length;have g:∀H:Hp,DH H->SqL K H a (ns.map V.int)->HOk P w H ZG.heap->(∀b,H b≠none->b=a)->(H a≠none->K.lookup a=none) ->
   codeAny (model P w) callerA (.call (.ref L) ⟨[.ref a],[]⟩) (λr s'=>r=.ok (.ret (.bool true))/\OldK ZG.heap s'.heap/\s'.os=ZG.os/\AllBare s'.gens) ZG:=by
  intro H Q hS U R hK;have base_of:∀{b:Addr} {o:Obj},ZG.heap.get? b=some o->H b=none->(BD ZG.heap H).get? b=some o:=λe n=>si e n;have Uv:∀{b:Addr} {o:Obj} {es:Array DictEntry} {ep:Nat},ZG.heap.get? b=some o->o.data=.dict es ep->H b=none:=λ{b o es ep} e d=>by
   cases q:H b with
   |none=>rfl
   |some u=>
    have e':b=a:=R b (by rw[q];simp)
    subst e';rw[D]at e;cases e;have d':Data.seq vs.toArray _=Data.dict es ep:=d;cases d'
  have f:∀{b:Addr} {m:Str->Option Value},ZG.heap.Ns b m->(BD ZG.heap H).Ns b m:=λ{b m} ⟨o,es,ep,e,d,r⟩=>⟨o,es,ep,base_of e (Uv e d),d,r⟩
  have B:K.In (BD ZG.heap H):=λb o e=>base_of (X b o e) (by
   cases q:H b with
   |none=>rfl
   |some u=>
    have e':b=a:=R b (by rw[q];simp)
    subst e'
    rw[hK (by rw[q];simp)]at e;cases e)
  have hM:Mod K mg (BD ZG.heap H):=⟨B,f W,⟨E,f c,I⟩,let⟨mc,h1,h2⟩:=A;⟨mc,f h1,h2⟩⟩
  have e0:VG P w K mg (BD ZG.heap H) callerA [] ZG H:=⟨rfl,hM,λb o e=>uA e,Qy (qy _ _),trivial,λb c=>absurd (show b∈([]:List Addr)from c) #[3],U,.of_eq hg⟩
  refine Rn ((F _ B (f W)).run callerA [] ZG H ⟨[.ref a],[]⟩ [.ref a] [.ref a] _ _ hr e0 (Sq ZG (.ref a)) (.cons rfl .nil) (G H Q hS)) λr s' h=>?_;cases r with
  |error e=>exact(J H e s' h).elim
  |ok fl=>
   cases fl with
   |ret u=>
    let⟨v,H',os,C,un,y,r',q⟩:=h;have Z:v=.bl true:=q;subst Z;obtain rfl:u=Value.bool true:=r';refine⟨rfl,OldK.of_keep λb o e=>?_,os,C⟩;cases q:H b with
    |none=>exact un.keep b o e q (by intro z;exact absurd (show b∈([]:List Addr)from z) #[3]) #[3]
    |some u=>
     rcases Q b with z|⟨ob,xs,z⟩
     .rw [q]at z;cases z
     .have Y:=un.XI b ob _ z
      let⟨T,_⟩:=U b _ z;let⟨e2,_⟩:=y b _ Y;rw[e]at T;cases T;exact e2
   |_=>exact False.elim h
 cases hk:K.lookup a with
 |some o=>
  have e:=X a o hk;rw[D]at e;cases e;refine g (λ_=>none) (λ_=>.inl rfl) (.inr ⟨_,vs.toArray,_,hk,rfl,rfl,rfl,by rw[Wl,t];exact N,by simpa using M⟩) (λb u z=>by have j:(none:Option HO)=some u:=z;cases j) (λb z=>absurd rfl z) λz=>absurd rfl z
 |none=>
  refine g (λb=>if b=a then some (.Zw {cls:=.type "list",data:=.seq vs.toArray} (.S (ns.map V.int)))else none) (λb=>?_) (.inl (.inr ⟨{cls:=.type "list",data:=.seq vs.toArray},XN rfl⟩)) (λb u z=>?_) (λb z=>?_) λ_=>hk
  .by_cases c:b=a
   .exact .inr ⟨_,_,XN c⟩
   .exact .inl (Xy c)
  .by_cases c:b=a
   .have j:=(XN c).symm.trans z
    cases j;subst c;exact⟨D,by rw[YK];exact N,vs,_,M,D⟩
   .have j:=(Xy c).symm.trans z
    cases j
  .by_cases c:b=a
   .exact c
   .exact absurd (Xy c) z
end L2
namespace L2
open PySem PySem.Spec PyProof.Rows
def Cm(s:Stmt):Arguments:=match s with
 |.FunctionDef _ a _ _ _ _ _ _ _ _=>a
 |_=>{posonlyargs:=[],args:=[],vararg:=none,kwonlyargs:=[],kw_defaults:=[],kwarg:=none,defaults:=[]}
def Cn(s:Stmt):List Stmt:=match s with
 |.FunctionDef _ _ b _ _ _ _ _ _ _=>b
 |_=>[]
def A3(s:Stmt):Scope:=match s with
 |.FunctionDef _ _ _ _ _ _ sc _ _ _=>sc
 |_=>{kind:=.function,names:=[],isGenerator:=false,isCoroutine:=false}
abbrev Xb:X0:=λ_ _ _ _ _ _=>False
abbrev E0:XK:=λ_ _ _=>False
def fc:AM Xb X E0:=λ_ _ _ _ _ _ _ h=>h.elim
def be{A B:Prop}(h:B):if false=true then A else B:=by
 rw[Xy HQ];exact h
def bf{A B:Prop}(h:A):if true=true then A else B:=by
 rw[XN rfl];exact h
end L2
namespace L2
open PySem PySem.Spec PyProof.Rows
section
variable{κ:Type}[DecidableEq κ]
def AR(O:List (κ×V))(k:κ):Option V:=(O.find? λa=>decide (a.1=k)).map (·.2)
def putK(O:List (κ×V))(k:κ)(v:V):List (κ×V):=
 if(O.any λa=>decide (a.1=k))=true then O.map (λa=>if a.1=k then(a.1,v)else a)else O++[(k,v)]
def b6{p:κ×V}{r:List (κ×V)}{k:κ}(e:p.1=k):AR (p::r) k=some p.2:=by simp[AR,Ud,e]
def b8{p:κ×V}{r:List (κ×V)}{k:κ}(e : ¬ p.1=k):AR (p::r) k=AR r k:=by simp[AR,Ud,e]
def gv(k:κ):∀O:List (κ×V),(O.any λa=>decide (a.1=k))=(AR O k).isSome
 |[]=>rfl
 |p::r=>by
  rw[Va];by_cases e:p.1=k
  .simp only [b6 e,decide_eq_true e,Bool.true_or,Option.isSome_some]
  .rw [b8 e,Sa e,Bool.false_or];exact gv k r
def dA(O:List (κ×V))(k:κ)(v:V):(putK O k v).length<=O.length+1:=by
 unfold putK;split
 .rw [YK];lia
 .rw [Xq,X8,Vq];lia
def sT{O:List (κ×V)}{k:κ}(v:V)(h:AR O k=none):putK O k v=O++[(k,v)]:=by
 unfold putK;rw[gv,h];exact Xy #[1]
def RelO.Ut{o:Option V}{u:Option Value}(r:RelO o u):o.isSome=u.isSome:=by
 cases o with
 |none=>cases u with
  |none=>rfl
  |some _=>exact(show False from r).elim
 |some _=>cases u with
  |none=>exact(show False from r).elim
  |some _=>rfl
def RelO.getD{o:Option V}{u:Option Value}{d:V}{d':Value}(r:RelO o u)(a:RelV d d'):RelV (o.getD d) (u.getD d'):=by
 cases o with
 |none=>cases u with
  |none=>exact a
  |some _=>exact(show False from r).elim
 |some _=>cases u with
  |none=>exact(show False from r).elim
  |some _=>exact r
def KV.val{O:List (κ×V)}{vs:List (κ×Value)}(r:KV O vs)(k:κ):RelO (AR O k) (valueAt vs k):=by
 unfold KV at r
 induction r with
 |nil=>exact True.intro
 |@cons p q ps JJ h t ih=>
  let⟨h1,h2⟩:=h;by_cases e:p.1=k
  .have e':q.1=k:=h1.symm.trans e
   have b:valueAt (q::JJ) k=some q.2:=by simp[valueAt,Ud,e']
   rw[b6 e,b];exact h2
  .have e' : ¬ q.1=k:=λz=>e (h1.trans z)
   have b:valueAt (q::JJ) k=valueAt JJ k:=by simp[valueAt,Ud,e']
   rw[b8 e,b];exact ih
def KV.any{O:List (κ×V)}{vs:List (κ×Value)}(r:KV O vs)(k:κ):(O.any λa=>decide (a.1=k))=vs.any λa=>decide (a.1=k):=by
 unfold KV at r
 induction r with
 |nil=>rfl
 |cons h t ih=>rw[Va,Va,ih,h.1]
def KV.WW{O:List (κ×V)}{vs:List (κ×Value)}(r:KV O vs)(k:κ){u:Value}(b:RelV y u):
  KV (O.map λa=>if a.1=k then(a.1,y)else a) (vs.map λa=>if a.1=k then(a.1,u)else a):=by
 unfold KV at r ⊢
 induction r with
 |nil=>exact .nil
 |@cons p q ps JJ h t ih=>
  rw[Xk,Xk];refine .cons ?_ ih;let⟨h1,h2⟩:=h;by_cases e:p.1=k
  .rw [XN e,XN (h1.symm.trans e)];exact⟨h1,b⟩
  .rw [Xy e,Xy (λz=>e (h1.trans z))];exact⟨h1,h2⟩
def KV.put{O:List (κ×V)}{vs:List (κ×Value)}(r:KV O vs)(k:κ){u:Value}(a:RelV y u):KV (putK O k y) (stored vs k u):=by
 unfold putK stored;rw[r.any k];by_cases e:(vs.any λb=>decide (b.1=k))=true
 .rw [XN e,XN e];exact r.WW k a
 .rw [Xy e,Xy e];exact Paired.snoc r ⟨rfl,a⟩
def KV.length{O:List (κ×V)}{vs:List (κ×Value)}(r:KV O vs):O.length=vs.length:=RQ r
end
def bU{k:Key}{u:Value}(r:RelV (IT k) u):(AD P w).is k u=true:=by
 cases k with
 |inl i=>let⟨t,e⟩:=(show∃t,u=Value.int i t from r);subst e;exact ph P w i t
 |inr x=>let⟨t,e⟩:=(show∃t,u=Value.str x t from r);subst e;exact pz P w x t
def js{P:Program}{w:World}:∀{ks:List Key} {J:List Value},ZK (ks.map IT) J->ItemsAre (AD P w) ks J
 |[],_,r=>by rw[RJ]at r;cases r;exact .nil
 |k::ks,_,r=>by
  rw[Xk]at r;cases r with
  |cons h t=>exact .cons (bU h) (js t)
abbrev KT(H:Hp):List (List Key×V)->List (List Key×Addr×Value)->Prop:=Paired λp q=>p.1=q.1/\H q.2.1=some (.Z1 (p.1.map IT))/\RelV p.2 q.2.2
def KT.val{O:List (List Key×V)}{xs:List (List Key×Addr×Value)}(r:KT H O xs)(k:List Key):RelO (AR O k) ((atKey xs k).map (·.2)):=by
 induction r with
 |nil=>exact True.intro
 |@cons p q ps JJ h t ih=>
  let⟨h1,_,h2⟩:=h;by_cases e:p.1=k
  .have e':q.1=k:=h1.symm.trans e
   have b:atKey (q::JJ) k=some q.2:=by simp[atKey,Ud,e']
   rw[b6 e,b];exact h2
  .have e' : ¬ q.1=k:=λz=>e (h1.trans z)
   have b:atKey (q::JJ) k=atKey JJ k:=by simp[atKey,Ud,e']
   rw[b8 e,b];exact ih
def KT.WW{O:List (List Key×V)}{xs:List (List Key×Addr×Value)}(r:KT H O xs)(k:List Key){u:Value}(b:RelV y u):
  KT H (O.map λa=>if a.1=k then(a.1,y)else a) (xs.map (putAt k u)):=by
 induction r with
 |nil=>exact .nil
 |@cons p q ps JJ h t ih=>
  rw[Xk,Xk];refine .cons ?_ ih;let⟨h1,h2,c⟩:=h;unfold putAt;by_cases e:p.1=k
  .rw [XN e,XN (h1.symm.trans e)];exact⟨h1,h2,b⟩
  .rw [Xy e,Xy (λz=>e (h1.trans z))];exact⟨h1,h2,c⟩
def KT.put{O:List (List Key×V)}{xs:List (List Key×Addr×Value)}(r:KT H O xs)(k:List Key){b:Addr}{u:Value}(d:H b=some (.Z1 (k.map IT)))(a:RelV y u):
  KT H (putK O k y) (storedH xs k b u):=by
 have e:(O.any λc=>decide (c.1=k))=(atKey xs k).isSome:=by
  rw[gv,(r.val k).Ut,QT]
 unfold putK storedH;rw[e];by_cases q:(atKey xs k).isSome=true
 .rw [XN q,XN q];exact r.WW k a
 .rw [Xy q,Xy q];exact Paired.snoc r ⟨rfl,d,a⟩
def KT.keeps{O:List (List Key×V)}{xs:List (List Key×Addr×Value)}(r:KT H O xs)(a:∀b ys,H b=some (.Z1 ys)->H' b=some (.Z1 ys)):KT H' O xs:=
 Paired.Tv r λ_ _ z=>⟨z.1,a _ _ z.2.1,z.2.2⟩
section
def nQ{u:HO}(ok:HOk P w H h)(e:Rd H a u):ObjOk P w H h a u:=e.ok ok
def bQ{O:List (Key×V)}(b:HOk P w H h)(e:Rd H a (.dK O)):O.length<=sizeLine/\(a==sysModules)=false /\∃vs,KV O vs/\h.DictOf (AD P w) a vs:=
 show ObjOk P w H h a (.dK O)from nQ b e
def nM{O:List (Key×V)}(b:HOk P w H h)(e:H a=some (.dK O)):O.length<=sizeLine/\(a==sysModules)=false /\∃vs,KV O vs/\h.DictOf (AD P w) a vs:=bQ b (.inl e)
def bO{b:List Key}(c:HOk P w H h)(e:H a=some (.Z1 (b.map IT))):(tupleKind (AD P w)).is h b a:=by
 let⟨_,ZY,r,o,h1,h2,n,d⟩:=(show ObjOk P w H h a (.Z1 (b.map IT))from c a _ e);exact⟨o,ZY.toArray,n,h1,h2,d,by simpa using js r⟩
def bS{O:List (List Key×V)}(c:HOk P w H h)(e:Rd H a (.dT O)):O.length<=sizeLine/\(a==sysModules)=false /\
  ∃xs,KT H O xs/\h.DictOfH (tupleKind (AD P w)) a xs:=by
 let⟨z,y,xs,r,o,es,ep,h1,h2,i,g,f⟩:=(show ObjOk P w H h a (.dT O)from nQ c e);refine⟨z,y,xs,r,o,es,ep,h1,h2,i,g,λx b=>?_,f⟩;have all:∀{l:List (List Key×V)} {m:List (List Key×Addr×Value)},KT H l m ->∀x∈m,(tupleKind (AD P w)).is h x.1 x.2.1:=by
  intro l m q
  induction q with
  |nil=>intro x b;exact nomatch b
  |@cons p q ps JJ d t ih=>
   intro x b;rcases Wc.mp b with e|b
   .subst e
    exact bO c (by rw[<-d.1];exact d.2.1)
   .exact ih x b
 exact all r x b
def nC{O:List (List Key×V)}(b:HOk P w H h)(e:H a=some (.dT O)):O.length<=sizeLine/\(a==sysModules)=false /\
  ∃xs,KT H O xs/\h.DictOfH (tupleKind (AD P w)) a xs:=bS b (.inl e)
end
def DGet(H:Hp)(a:Addr)(y:V)(r:Option V):Prop:=
 (∃O k,Rd H a (.dK O)/\y=IT k/\r=AR O k) \/∃O k b,Rd H a (.dT O)/\y=.ref b/\H b=some (.Z1 (k.map IT))/\r=AR O k
def DPut(H:Hp)(a:Addr)(y v:V)(c:Hp):Prop:=
 (∃O k,H a=some (.dK O)/\y=IT k/\O.length<sizeLine/\c=upd H a (.dK (putK O k v))) \/
 ∃O k b,H a=some (.dT O)/\y=.ref b/\H b=some (.Z1 (k.map IT))/\O.length<sizeLine/\c=upd H a (.dT (putK O k v))
def DGet.k{H:Hp}{a:Addr}{O:List (Key×V)}{k:Key}(e:H a=some (.dK O)):DGet H a (IT k) (AR O k):=.inl ⟨O,k,.inl e,rfl,rfl⟩
def DPut.k{H:Hp}{a:Addr}{O:List (Key×V)}{k:Key}{v:V}(e:H a=some (.dK O))(b:O.length<sizeLine):DPut H a (IT k) v (upd H a (.dK (putK O k v))):=.inl ⟨O,k,e,rfl,b,rfl⟩
def DPut.t{b:Addr}{O:List (List Key×V)}{k:List Key}(e:H a=some (.dT O))(d:H b=some (.Z1 (k.map IT)))(c:O.length<sizeLine):
  DPut H a (.ref b) v (upd H a (.dT (putK O k v))):=.inr ⟨O,k,b,e,rfl,d,c,rfl⟩
section
variable{Y:St}{u r:Value}{o:Option V}{E:Value->Shared->Prop}
def Z4.YB(I:Z4 X Z Y H s):sysModules<s.heap.objs.size:=by
 have h:mainGlobals<s.heap.objs.size:=(I.mod.glob.keeps I.bk).lt;exact Pp #[1] h
def qF{Q:Value->Shared->Prop}(q:A.units+1<cLine)(I:Z4 X Z Y H s)(g:DGet H a y (some v))(n:RelV y u)(h:∀d s',Z4 X Z Y H s'->RelV v d->Q d s'):
  wpAny (model X.prog X.w) A (getItem (.ref a) u) Q E s:=by
 rcases g with⟨O,k,e,j,l⟩|⟨O,k,b,e,j,x,l⟩
 .subst j
  let⟨z,t,vs,c,dd⟩:=bQ I.ZQ e;let⟨d,f,m⟩:=RelO.some_of (v:=v) (o:=valueAt vs k) (by rw[l];exact c.val k)
  exact wpAny_getItem_of (bU n) dd.mapOf f (h d _ (I.tok _) m)
 .subst j
  cases(show u=Value.ref b from n);let⟨z,t,xs,c,dd⟩:=bS I.ZQ e;let⟨d,f,m⟩:=RelO.some_of (v:=v) (o:=(atKey xs k).map (·.2)) (by rw[l];exact c.val k)
  let⟨p,r,i⟩:=YU.mp f;refine wpAny_getItem_heap (Rq q) (bO I.ZQ x) dd r ?_;rw[i];exact h d _ (I.tok _) m
def d_in{Q:Value->Shared->Prop}(j:A.units+1<cLine)(I:Z4 X Z Y H s)(g:DGet H a y o)(i:RelV y u)(h:∀s',Z4 X Z Y H s'->Q (.bool o.isSome) s'):
  wpAny (model X.prog X.w) A (compareOp .In u (.ref a)) Q E s:=by
 rcases g with⟨O,k,e,f,l⟩|⟨O,k,b,e,f,m,l⟩
 .subst f
  let⟨z,d,vs,c,dd⟩:=bQ I.ZQ e;refine wpAny_in_of (bU i) d dd.mapOf ?_;rw[<-(c.val k).Ut,<-l];exact h _ (I.tok _)
 .subst f
  cases(show u=Value.ref b from i);let⟨z,d,xs,c,dd⟩:=bS I.ZQ e;refine wpAny_in_heap (Rq j) (bO I.ZQ m) d dd ?_;have q:=(c.val k).Ut;rw[QT]at q;rw[<-q,<-l];exact h _ (I.tok _)
def wx{Q:Value->Shared->Prop}(j:A.units+1<cLine)(I:Z4 X Z Y H s)(g:DGet H a y o)(i:RelV y u)(h:∀s',Z4 X Z Y H s'->Q (.bool (!o.isSome)) s'):
  wpAny (model X.prog X.w) A (compareOp .NotIn u (.ref a)) Q E s:=by
 rcases g with⟨O,k,e,f,l⟩|⟨O,k,b,e,f,m,l⟩
 .subst f
  let⟨z,d,vs,c,dd⟩:=bQ I.ZQ e;refine wpAny_notIn_of (bU i) d dd.mapOf ?_;rw[<-(c.val k).Ut,<-l];exact h _ (I.tok _)
 .subst f
  cases(show u=Value.ref b from i);let⟨z,d,xs,c,dd⟩:=bS I.ZQ e;refine wpAny_notIn_heap (Rq j) (bO I.ZQ m) d dd ?_;have q:=(c.val k).Ut;rw[QT]at q;rw[<-q,<-l];exact h _ (I.tok _)
def eR{c:HO}(I:Z4 X Z Y H s)(f:Mut (H a))(g:Heap.SameBut a s.heap h')(h:∃q,h'.get? a=some q)(d:ObjOk X.prog X.w (upd H a c) h' a c):
  Z4 X Z Y (upd H a c) {s with heap:=h',toks:=t'}:=
 I.write (x:=a) (e:=a) f (.inl rfl) (λb q i z=>(g.2 b i).trans z) h d
def mY{O:List (Key×V)}{vs:List (Key×Value)}(z:O.length<=sizeLine)(c:(a==sysModules)=false)(b:KV O vs)(dd:h'.DictOf (AD P w) a vs):
  ObjOk P w H' h' a (.dK O):=⟨z,c,vs,b,dd⟩
def qv{Q:Unit->Shared->Prop}(D:A.units+1<cLine)(I:Z4 X Z Y H s)(g:DPut H a y v H')(t:RelV y u)(x:RelV v r)(h:∀s',Z4 X Z Y H' s'->Q Unit.unit s'):
  wpAny (model X.prog X.w) A (setItem (.ref a) u r) Q E s:=by
 rcases g with⟨O,k,e,o,l,p⟩|⟨O,k,b,e,o,C,l,p⟩
 .subst o p
  let⟨z,n,vs,d,dd⟩:=nM I.ZQ e;have j:vs.length<=sizeLine:=by rw[<-d.length];exact z
  have m:(putK O k v).length<=sizeLine:=by have:=dA O k v;lia
  refine wpAny_setItem_pairs (hsz:=j) (bU t) dd λh' i hs=>h _ ?_;have F:∃q,h'.get? a=some q:=let⟨q,_,_,f,_⟩:=i;⟨q,f⟩
  exact eR I (by rw[e];exact True.intro) hs F (mY m n (d.put k x) i)
 .subst o p
  cases(show u=Value.ref b from t);let⟨z,n,xs,d,dd⟩:=nC I.ZQ e;have j:xs.length<=sizeLine:=by rw[<-RQ d];exact z
  have m:(putK O k v).length<=sizeLine:=by have:=dA O k v;lia
  refine wpAny_setItem_heap (hsz:=j) (Rq D) (bO I.ZQ C) dd λh' i hs=>h _ ?_;let⟨q,es,ep,f,h2,K,J,_,G⟩:=i;refine eR I (by rw[e];exact True.intro) hs ⟨q,f⟩ ⟨m,n,_,(d.put k C x).keeps λc ys B=>?_,q,es,ep,f,h2,K,J,G⟩
  rw[aa (cJ B e (λz=>nomatch z))];exact B
end
end L2
namespace L2
open PySem PySem.Spec PyProof.Rows
def sv(h:Heap)(a:sysModules<h.objs.size):ObjOk P w H (h.push {cls:=.type "dict",data:=.dict #[]}) h.objs.size (.dK []):=
 ⟨QS _,TL.mpr (Ne.symm (HV a)),[],.nil,Heap.DictOf.new h⟩
def j5(h:Heap)(a:sysModules<h.objs.size):ObjOk P w H (h.push {cls:=.type "dict",data:=.dict #[]}) h.objs.size (.dT []):=
 ⟨QS _,TL.mpr (Ne.symm (HV a)),[],.nil,_,#[],0,HW _ rfl,⟨rfl,rfl,rfl⟩,rfl,rfl,List.nodup_nil⟩
def Hf:TE:=λ_ H Q=>∀p,H p=none->Q (.ref p) (upd H p (.dT []))
section
def sX:PE X (.Dict [] [] pos) Hf:=λZ s Y H Q I h=>
 wpAny_Dict_empty ⟨.ref s.heap.objs.size,_,I.laid (a:=s.heap.objs.size) (o:=.dT []) (t':=s.toks) (λ_ _ q=>HM _ q) (HR _) (j5 s.heap I.YB),rfl,h _ (I.ZQ.fresh (HR _))⟩
end
def C9:List (TE×TE)->St->Hp->(List (V×V)->Hp->Prop)->Prop
 |[],_,H,Q=>Q [] H
 |(tk,tv)::r,Y,H,Q=>tk Y H λx H1=>tv Y H1 λy H2=>C9 r Y H2 λps H3=>Q ((x,y)::ps) H3
abbrev VV:List (V×V)->List (Value×Value)->Prop:=Paired λp q=>RelV p.1 q.1/\RelV p.2 q.2
def PPs(X:Cx)(pos:Pos)(b:List (Option Expr))(a:List Expr)(c:List (TE×TE)):Prop:=
 ∀(Z:List (Addr×Obj)) (s:Shared) (Y:St) (H:Hp) (Q:List (V×V)->Hp->Prop),Z4 X Z Y H s->C9 c Y H Q ->
  wpAny (model X.prog X.w) X.A (evalPairs (pairTrees b a X.env pos)) (λvs s'=>∃ps H',Z4 X Z Y H' s'/\VV ps vs/\Q ps H') X.xe s
def vC:PPs X pos [] [] []:=λZ s Y H Q I h=>pairTrees_nil_walk ⟨[],H,I,.nil,h⟩
def sf{k v:Expr}{b:List (Option Expr)}{vs:List Expr}{tk a:TE}{c:List (TE×TE)}(o:PE X k tk)(m:PE X v a)(n:PPs X pos b vs c):
  PPs X pos (some k::b) (v::vs) ((tk,a)::c):=λZ s Y H Q I h=>
 pairTrees_cons_walk (thn (o Z s Y H _ I h) λu e ⟨x,H1,r,g,l⟩=>thn (m Z e Y H1 _ r l) λt d ⟨y,H2,q,f,j⟩ =>
  thn (n Z d Y H2 _ q j) λws s3 ⟨ps,H3,p,rel,i⟩=>⟨(x,y)::ps,H3,p,.cons ⟨g,f⟩ rel,i⟩)
def BK(O a:List (Key×V)):List (Key×V):=a.foldl (λZW b=>putK ZW b.1 b.2) O
def KV.merge:∀{a:List (Key×V)} {rs:List (Key×Value)} {O:List (Key×V)} {vs:List (Key×Value)},KV a rs->KV O vs->KV (BK O a) (merged vs rs):=by
 intro a rs O vs r;unfold KV at r
 induction r generalizing O vs with
 |nil=>intro q;exact q
 |@cons p q ps JJ h t ih=>
  intro b;have e:KV (putK O p.1 p.2) (stored vs q.1 q.2):=by
   have:=b.put p.1 h.2;rw[<-h.1];exact this
  exact ih e
def iL:∀(a O:List (Key×V)),(BK O a).length<=O.length+a.length
 |[],O=>by show O.length<=O.length+0;lia
 |p::r,O=>by
  have h1:=iL r (putK O p.1 p.2);have h2:=dA O p.1 p.2;show(BK (putK O p.1 p.2) r).length<=_;rw[X8];lia
def jh{P:Program}{w:World}:∀{O:List (Key×V)} {ws:List (Value×Value)},VV (O.map λd=>(IT d.1,d.2)) ws ->∃rs,Carries (AD P w) ws rs/\KV O rs
 |[],_,r=>by rw[RJ]at r;cases r;exact⟨[],True.intro,.nil⟩
 |p::O,_,r=>by
  rw[Xk]at r;cases r with
  |@cons a b as bs h t=>
   let⟨rs,c,q⟩:=jh (P:=P) (w:=w) t;let⟨f,e⟩:=b;exact⟨(p.1,e)::rs,⟨bU h.1,rfl,c⟩,.cons ⟨rfl,h.2⟩ q⟩
def HK(b:List (TE×TE)):TE:=λY H Q=>∀p,H p=none->C9 b Y (upd H p (.dK [])) λps H2=>H2 p=some (.dK []) /\∃O:List (Key×V),ps=O.map (λa=>(IT a.1,a.2))/\O.length<=15/\Q (.ref p) (upd H2 p (.dK (BK [] O)))
def vQ{d:List Expr}{j:List (TE×TE)}(h:PPs X pos keys d j)(G:keys.all (·.isSome)=true)(C:keys.length=d.length)(F:keys≠[])
  (f:keys.length<=15):PE X (.Dict keys d pos) (HK j):=by
 intro Z s Y H Q I q;have B:=I.ZQ.fresh (HR s.heap.objs.size);have J:=I.laid (a:=s.heap.objs.size) (o:=.dK []) (h':=s.heap.push {cls:=.type "dict",data:=.dict #[]}) (t':=s.toks) (λ_ _ q=>HM _ q) (HR _) (sv s.heap I.YB);refine wpAny_Dict_walk (knd:=AD X.prog X.w) G C F f (thn (h Z _ Y _ _ J (q _ B)) ?_);rintro ws K ⟨ps,H2,k,rel,e,O,ep,lk,u⟩;subst ep;let⟨rs,c,rk⟩:=jh (P:=X.prog) (w:=X.w) rel;let⟨z,E,r,t,dd⟩:=nM k.ZQ e;cases t;refine⟨rs,c,dd,λh' g hs=>⟨.ref s.heap.objs.size,_,?_,rfl,u⟩⟩;have y:(BK [] O).length<=sizeLine:=by
  have h1:=iL O [];rw[Vq]at h1;rw[Tz];lia
 have D:∃q,h'.get? s.heap.objs.size=some q:=let⟨q,_,_,A,_⟩:=g;⟨q,A⟩
 exact eR k (by rw[e];exact True.intro) hs D (mY y E (rk.merge .nil) g)
structure M1(X:Cx)(o:Expr)(m:Str)(apos:Pos)(e:Expr)(Zt:Pos):Prop where
 base:attributeBase o m X.env (eval o X.env)=eval o X.env
 few:((backTo Zt (starEach [e] X.env)).all (λx => !x.1) && (backToKw Zt (keywordEach [] X.env)).all (λx=>x.1.isSome)
  && decide (([e]:List Expr).length+([]:List Keyword).length+(if([]:List Keyword).isEmpty then 0 else 1)<30))=true
 line:(apos.endLine==Zt.line)=true
 trees:backTo Zt (starEach [e] X.env)=[(false,eval e X.env)]
structure M2(X:Cx)(o:Expr)(m:Str)(apos:Pos)(e f:Expr)(Zt:Pos):Prop where
 base:attributeBase o m X.env (eval o X.env)=eval o X.env
 few:((backTo Zt (starEach [e,f] X.env)).all (λx => !x.1) && (backToKw Zt (keywordEach [] X.env)).all (λx=>x.1.isSome)
  && decide (([e,f]:List Expr).length+([]:List Keyword).length+(if([]:List Keyword).isEmpty then 0 else 1)<30))=true
 line:(apos.endLine==Zt.line)=true
 trees:backTo Zt (starEach [e,f] X.env)=[(false,eval e X.env),(false,eval f X.env)]
def IsD(H:Hp)(a:Addr):Prop:=(∃O,Rd H a (.dK O)) \/∃O,Rd H a (.dT O)
def ya{Y:St}(I:Z4 X Z Y H s)(d:IsD H a):
  s.TypeIs (.ref a) "dict" /\ (∀b,Value.ref a=.ref b ->∃c,s.heap.get? b=some c/\c.dict=none)/\(a==sysModules)=false:=by
 rcases d with⟨O,e⟩|⟨O,e⟩
 .obtain ⟨_,f,vs,_,dd⟩:=bQ I.ZQ e
  refine⟨dd.typeIs,λb q=>?_,f⟩;cases q;let⟨c,_,_,h1,h2,_⟩:=dd;exact⟨c,h1,h2.2.1⟩
 .obtain ⟨_,f,xs,_,dd⟩:=bS I.ZQ e
  refine⟨dd.typeIs,λb q=>?_,f⟩;cases q;let⟨c,_,_,h1,h2,_⟩:=dd;exact⟨c,h1,h2.2.1⟩
section
variable{Y:St}{d:V}{u r:Value}{o:Option V}{E:Value->Shared->Prop}
def z8{Q:Value->Shared->Prop}(p:A.units+1<cLine)(I:Z4 X Z Y H s)(g:DGet H a y o)(m:RelV y u)(n:RelV d r)(h:∀j s',Z4 X Z Y H s'->RelV (o.getD d) j->Q j s'):
  wpAny (model X.prog X.w) A (call (.builtin "dict.get") [.ref a,u,r]) Q E s:=by
 rcases g with⟨O,k,e,i,l⟩|⟨O,k,b,e,i,q,l⟩
 .subst i
  let⟨z,f,vs,c,dd⟩:=bQ I.ZQ e;refine call_meetsIn Qd dd.typeIs Q_ (Q4 _ _ _) (meets_dict_get_default (AD X.prog X.w) a (bU m) f r) ⟨_,dd.mapOf,h _ _ (I.tok _) ?_⟩;rw[l];exact(c.val k).getD n
 .subst i
  cases(show u=Value.ref b from m);let⟨z,f,xs,c,dd⟩:=bS I.ZQ e;refine call_meetsIn Qd dd.typeIs Q_ (Q4 _ _ _) (meetsH_dict_get_default (tupleKind (AD X.prog X.w)) a b f r) ⟨Rq p,k,xs,bO I.ZQ q,dd,h _ _ (I.tok _) ?_⟩;rw[l];exact(c.val k).getD n
end
def Hi(d b c:TE):TE:=λY H Q=>d Y H λx H1=>∃a,x=.ref a/\IsD H1 a/\b Y H1 λy H2=>c Y H2 λz H3=>∃o,DGet H3 a y o/\Q (o.getD z) H3
section
variable{o f:Expr}{td ty tx:TE}
def rX(r:X.A.units+1<cLine)(t:PE X o td)(w:PE X e ty)(v:PE X f tx)(m:M2 X o "get" apos e f Zt):PE X (.Call (.Attribute o "get" apos) [e,f] [] Zt) (Hi td ty tx):=by
 intro Z s Y H Q I h;refine wpAny_Call_method m.base m.few m.line PySem.F.plainAttrs_dict Qd PySem.F.type_dict_get (thn (t Z s Y H _ I h) ?_);rintro u j ⟨x,H1,b,l,a,ex,d,q⟩;subst ex;obtain rfl:u=Value.ref a:=l;let ⟨c,t2,_⟩:=ya b d;refine ⟨c,t2,?_⟩;rw [m.trees];refine R6 rfl (Rz (QG (thn (w Z j Y H1 _ b q) λJ i ⟨y,H2,E,k,p⟩ =>
  QG (thn (v Z i Y H2 _ E p) λK s3 ⟨z,H3,D,rz,ov,g,n⟩=>Calls.spliced_nil ?_))))
 exact z8 r D g k rz λG s4 C B=>⟨_,H3,C,B,n⟩
end
end L2
namespace PI
noncomputable section
variable{es:Array (Int×Value)}{o:Obj}{lo hi:Nat}
open PySem
open PySem PyProof.Rows
def GR:List Int->List Int->Bool
 |[],[]=>false
 |[],_::_=>true
 |_::_,[]=>false
 |a::r,b::q=>if a=b then GR r q else decide (a<b)
open PySem PyProof.Rows PySem.W
open PySem
noncomputable section
set_option genInjectivity false in
inductive Z6 where
 |S (xs:List U)|ZN (O:List (List Int×U))|Zu (O:List (List Int×U))|dst (O:List (Str×U))|ins (c:Nat) (fs:List (Nat×U))
abbrev G:=List Z6
abbrev Su:=List (Option U)
inductive Out(α:Type) where
 |ok (a:α) (g:G)|exc (c:Nat) (fs:List U) (g:G)|Z0
noncomputable def Out.bind{d b:Type}(o:Out d)(k:d->G->Out b):Out b:=match o with
 |.ok a g=>k a g
 |.exc c fs g=>.exc c fs g
 |.Z0=>.Z0
noncomputable def Out.Y3{b:Type}(o:Out b):Out b:=match o with
 |.ok a g=>.ok a g
 |_=>.Z0
noncomputable def Out.bindB{c b:Type}(o:Out c)(k:c->G->Out b):Out b:=match o with
 |.ok a g=>k a g
 |_=>.Z0
set_option genInjectivity false in
inductive Fl where|nx (Y:Su)|rt (u:U)|bk (Y:Su)|ct (Y:Su)
set_option genInjectivity false in
inductive Iter where|S (id:Nat)|ZN (id:Nat)|YN (id:Nat)|seq (xs:List U)|YS (lo:Int) (n:Nat)
def Aw(x y:U):Option Bool:=match x with
 |.ZR=>match y with
  |.ZR=>some true
  |.bl _=>some false
  |.int _=>some false
  |.str _=>some false
  |_=>none
 |.bl a=>match y with
  |.ZR=>some false
  |.bl b=>some (a==b)
  |.int b=>some ((if a then 1 else 0)==b)
  |.str _=>some false
  |_=>none
 |.int a=>match y with
  |.ZR=>some false
  |.bl b=>some (a==(if b then 1 else 0))
  |.int b=>some (a==b)
  |.str _=>some false
  |_=>none
 |.str a=>match y with
  |.ZR=>some false
  |.bl _=>some false
  |.int _=>some false
  |.str b=>some (a==b)
  |_=>none
 |_=>none
def Ay:List U->List U->Option Bool
 |[],[]=>some true
 |x::xs,y::ys=>match Aw x y with
  |none=>none
  |some b=>match Ay xs ys with
   |none=>none
   |some c=>some (b&&c)
 |_,_=>none
def JC:U->U->Option Bool
 |.Z1 xs,.Z1 ys=>Ay xs ys
 |x,y=>Aw x y
def CN:U->U->Bool
 |.int _,.int _=>true
 |.bl _,.bl _=>true
 |.str _,.str _=>true
 |.ZR,.ZR=>true
 |_,_=>false
def BY:Int:=18446744073709551616
def As:Int:=115792089237316195423570985008687907853269984665640564039457584007913129639936
def JD(a:Op)(i j:Int):Option U:=match a with
 |.add=>some (.int (i+j))
 |.sub=>some (.int (i-j))
 |.mul=>if(decide (-BY<i)&&decide (i<BY))||(decide (-BY<j)&&decide (j<BY))||(decide (-As<i)&&decide (i<As)&&decide (-As<j)&&decide (j<As))then some (.int (i*j))else none
 |.fdiv=>if 0<j then(if j<As then some (.int (i / j))else none)
   else if j=0 then none else if -As<j then some (.int (i.fdiv j))else none
 |.mod=>if 0<j then some (.int (i % j))else if j=0 then none else some (.int (i.fmod j))
 |.pow=>if 0<=j/\j<=1000/\i.natAbs<1000000 then some (.int (i ^ j.toNat))else none
def JE(a:Op)(x y:U):Option U:=match x with
 |.int i=>match y with
  |.int j=>JD a i j
  |_=>none
 |_=>none
def JF:Op->U->U->Option U
 |.add,.int a,.int b=>some (.int (a+b))
 |.sub,.int a,.int b=>some (.int (a-b))
 |_,_,_=>none
def JG(x:U):List U->Option Bool
 |[]=>some false
 |y::ys=>match JC y x with
  |none=>none
  |some b=>match JG x ys with
   |none=>none
   |some c=>some (b||c)
def items(u:U)(g:G):Option (List U):=match u with
 |.Z1 xs=>some xs
 |.Zs xs=>some xs
 |.xn _ xs=>some xs
 |.ref n=>match g[n]? with
  |some (.S xs)=>some xs
  |_=>none
 |_=>none
def AG:U->Bool
 |.ZR=>true
 |_=>false
def intsOf:List U->Option (List Int)
 |[]=>some []
 |.int i::r=>(intsOf r).map (i :: ·)
 |_::_=>none
def keyOf(u:U):Option (List Int):=match u with
 |.Z1 J=>intsOf J
 |_=>none
def Aj(O:List (List Int×U))(k:List Int):Option U:=(O.find? λa=>decide (a.1=k)).map (·.2)
def dput(O:List (List Int×U))(k:List Int)(v:U):List (List Int×U):=
 if(O.any λa=>decide (a.1=k))=true then O.map (λa=>if a.1=k then(a.1,v)else a)else O++[(k,v)]
def Cf(O:List (List Int×U))(x:U):Option (List (List Int×U)):=match x with
 |.Z1 [k,u]=>(keyOf k).map λks=>dput O ks u
 |_=>none
def dfold:List U->List (List Int×U)->Option (List (List Int×U))
 |[],O=>some O
 |x::r,O=>(Cf O x).bind λk=>dfold r k
def A0(O:List (Str×U))(k:Str):Option U:=(O.find? λa=>decide (a.1=k)).map (·.2)
def EI(O:List (Str×U))(k:Str)(v:U):List (Str×U):=
 if(O.any λa=>decide (a.1=k))=true then O.map (λa=>if a.1=k then(a.1,v)else a)else O++[(k,v)]
def JH(y:U)(g:G):Option (List (Str×U)):=match y with
 |.ref n=>match g[n]? with
  |some (.dst O)=>some O
  |_=>none
 |_=>none
def JI(y:U)(g:G):Option (List (List Int×U)):=match y with
 |.ref n=>match g[n]? with
  |some (.ZN O)=>some O
  |some (.Zu O)=>some O
  |_=>none
 |_=>none
def Aq(x y:U)(g:G):Option (Option U):=match JI y g with
 |some O=>(keyOf x).map (Aj O)
 |none=>none
def Bl(x y:U)(g:G):Option (List U×List U):=match x with
 |.ref n=>match y with
  |.ref m=>match g[n]? with
   |some (.S xs)=>match g[m]? with
    |some (.S ys)=>some (xs,ys)
    |_=>none
   |_=>none
  |_=>none
 |_=>none
def JJ(q:U->U->Option Bool):List U->List U->Option Bool
 |[],[]=>some true
 |x::xs,y::ys=>match q x y with
  |none=>none
  |some b=>match JJ q xs ys with
   |none=>none
   |some c=>some (b&&c)
 |_,_=>none
def G0:U->U->Option Bool
 |.Z1 xs,.Z1 ys=>JJ JC xs ys
 |x,y=>Aw x y
def JK(xs a:List U):Option Bool:=if xs.length=a.length then JJ G0 xs a else some false
def neT(x y:U):Option Bool:=match x with
 |.Z1 xs=>match y with
  |.Z1 ys=>(JJ JC xs ys).map (!·)
  |_=>none
 |_=>none
def hkL(k:List Int):Int:=reduceHash (Builtin.Tuple.tupleHashOf (k.map hashInt))
def JL(a:Cp)(x y:U)(g:G):Option Bool:=match a with
 |.eq=>match Bl x y g with
  |some p=>JK p.1 p.2
  |none=>JC x y
 |.ne=>if CN x y then(Aw x y).map (!·)else neT x y
 |.lt=>match x,y with|.int i,.int j=>some (decide (i<j))|_,_=>none
 |.le=>match x,y with|.int i,.int j=>some (decide (i<=j))|_,_=>none
 |.gt=>match x,y with|.int i,.int j=>some (decide (j<i))|_,_=>none
 |.ge=>match x,y with|.int i,.int j=>some (decide (j<=i))|_,_=>none
 |.Ws=>if AG y then some (AG x)else none
 |.VQ=>if AG y then some (!AG x)else none
 |.Ve=>match items y g with|some ys=>JG x ys|none=>(Aq x y g).map Option.isSome
 |.X4=>match items y g with|some ys=>(JG x ys).map (!·)|none=>(Aq x y g).map λo=>!o.isSome
def JM(u:U)(g:G):Option Bool:=match u with
 |.ZR=>some false
 |.bl b=>some b
 |.int i=>some (i != 0)
 |.Z1 xs=>some (!xs.isEmpty)
 |.Zs xs=>some (!xs.isEmpty)
 |.ref n=>match g[n]? with
  |some (.S xs)=>some (!xs.isEmpty)
  |_=>none
 |_=>none
def JN(xs:List U)(i:Int):Option U:=L2.atI xs i
noncomputable def lift{b:Type}(o:Option b)(g:G):Out b:=match o with
 |some a=>.ok a g
 |none=>.Z0
noncomputable def alloc(o:Z6)(g:G):Out U:=.ok (.ref g.length) (g++[o])
def Ac:Nat:=16777000
def Bs(a:Op)(x y:U)(g:G):Out U:=match Bl x y g with
 |some p=>match a with
  |.add=>if p.1.length+p.2.length<=Ac then alloc (.S (p.1++p.2)) g else .Z0
  |_=>.Z0
 |none=>lift (JE a x y) g
def A4(x:U)(g:G):Option (Nat×List (Nat×U)):=match x with
 |.ref n=>match g[n]? with
  |some (.ins c fs)=>some (c,fs)
  |_=>none
 |_=>none
def CW(j:Nat)(u:U):List (Nat×U)->List (Nat×U)
 |[]=>[(j,u)]
 |(i,x)::r=>if i=j then(i,u)::r else(i,x)::CW j u r
def Cd(j:Nat)(a:List Nat)(p:Nat×List (Nat×U)):Option U:=if a.contains p.1 then p.2.lookup j else none
def Bu(x:U)(j:Nat)(a:List Nat)(u:U)(g:G):Option G:=match x with
 |.ref n=>match g[n]? with
  |some (.ins c fs)=>if a.contains c/\fs.length<1000 then some (g.set n (.ins c (CW j u fs)))else none
  |_=>none
 |_=>none
def BX(j:Nat)(tb:List (Nat×Nat×List (Nat ⊕ U)))(p:Nat×List (Nat×U)):Option (Nat×List (Nat ⊕ U)):=match p.2.lookup j with
 |none=>tb.lookup p.1
 |some _=>none
def Du(t:Ty):Option Bool:=match t with|.UH=>some true|_=>some false
def AV(t:Ty)(u:U)(g:G):Option Bool:=match u with
 |.ZR=>some false
 |.bl _=>match t with|.VP=>some true|.VO=>some true|.own _=>none|_=>some false
 |.int _=>match t with|.VP=>some true|.own _=>none|_=>some false
 |.str _=>match t with|.UJ=>some true|.own _=>none|_=>some false
 |.Z1 _=>match t with|.UI=>some true|.own _=>none|_=>some false
 |.ref n=>match g[n]? with
  |some (.S _)=>Du t
  |some (.ins c _)=>match t with|.own c'=>if c=c' then some true else none|_=>none
  |_=>none
 |_=>none
def Bh(xs:List U)(a b:Option Int):List U:=(xs.drop (HT.sIx xs.length 0 a)).take (HT.sIx xs.length xs.length b-HT.sIx xs.length 0 a)
def best(m:Bool)(a:Int)(r:List Int):Int:=r.foldl (λx y=>if m then(if y<x then y else x)else(if y > x then y else x)) a
def insI(a:Int):List Int->List Int
 |[]=>[a]
 |b::r=>if a<=b then a::b::r else b::insI a r
def sortI:List Int->List Int
 |[]=>[]
 |a::r=>insI a (sortI r)
def D0(J:List U)(g:G):Out U:=match J with
 |[u]=>match items u g with
  |some xs=>.ok (.int xs.length) g
  |none=>.Z0
 |_=>.Z0
def Ga(J:List U)(g:G):Out U:=match J with
 |[u]=>match u with
  |.int i=>.ok (.int (if i<0 then -i else i)) g
  |_=>.Z0
 |_=>.Z0
def tupI(k:List Int):U:=.Z1 (k.map .int)
def C3(J:List U)(g:G):Out U:=match J with
 |[u]=>match items u g with
  |some xs=>alloc (.S xs) g
  |none=>.Z0
 |_=>.Z0
def AN(J:List U)(g:G):Option (List Int):=match J with
 |[.ref n]=>match g[n]? with
  |some (.S xs)=>intsOf xs
  |_=>none
 |_=>none
def BS(m:Bool)(J:List U)(g:G):Out U:=match intsOf J with
 |some ns=>match ns with
  |[a,b]=>.ok (.int (best m a [b])) g
  |[a,b,c]=>.ok (.int (best m a [b,c])) g
  |_=>.Z0
 |none=>match AN J g with
  |some ns=>match ns with
   |a::r=>.ok (.int (best m a r)) g
   |[]=>.Z0
  |none=>.Z0
def Di(J:List U)(g:G):Out U:=match AN J g with
 |some ns=>.ok (.int ns.sum) g
 |none=>.Z0
def Ds(J:List U)(g:G):Out U:=match J with
 |[u]=>match u with
  |.Z1 xs=>.ok (.Z1 xs) g
  |.xn c xs=>.ok (.xn c xs) g
  |.ref n=>match g[n]? with
   |some (.S xs)=>.ok (.Z1 xs) g
   |_=>.Z0
  |_=>.Z0
 |_=>.Z0
def F0(g:G):List U->Option (List U)
 |[]=>some []
 |.ref n::r=>match g[n]? with
  |some (.S xs)=>(F0 g r).map (xs ++ ·)
  |_=>none
 |_::_=>none
def Hv(J:List U)(g:G):Out U:=match J with
 |[.ref n,.ref m]=>match g[n]? with
  |some (.S (x::xs))=>match g[m]? with
   |some (.S [])=>match F0 g (x::xs)with
    |some zs=>if zs.length<=Ac then alloc (.S zs) g else .Z0
    |none=>.Z0
   |_=>.Z0
  |_=>.Z0
 |_=>.Z0
def F9:List U->Option (List (List Int))
 |[]=>some []
 |u::r=>match keyOf u with
  |none=>none
  |some k=>match F9 r with
   |none=>none
   |some ks=>some (k::ks)
def Gq(a:List Int):List (List Int)->List (List Int)
 |[]=>[a]
 |b::r=>if a=b then b::r else if GR a b=true then a::b::r else b::Gq a r
def JO:List (List Int)->List (List Int)
 |[]=>[]
 |a::r=>Gq a (JO r)
def JP(c:List (List Int)):Prop:=c.length<=300/\(∀k∈c,k≠[]) /\∀a∈c,∀b∈c,hkL a=hkL b->a=b
def JQ(J:List U)(g:G):Out U:=match F9 J with
 |some ks=>open Classical in if JP ks then alloc (.S ((JO ks).map tupI)) g else .Z0
 |none=>.Z0
def Hm(J:List U)(g:G):Out U:=match J with
 |[u]=>match u with
  |.ref n=>match g[n]? with
   |some (.S xs)=>JQ xs g
   |_=>.Z0
  |_=>.Z0
 |_=>.Z0
def Ce(J:List U)(g:G):Out U:=match AN J g with
 |some ns=>if ns.length<64 then alloc (.S ((sortI ns).map U.int)) g else .Z0
 |none=>.Z0
def Dv(J:List U)(g:G):Out U:=match J with
 |[u]=>match JI u g with
  |some O=>open Classical in if O≠[] /\∀a∈O.map (·.1),∀b∈O.map (·.1),hkL a=hkL b->a=b then alloc (.ZN O) g else .Z0
  |none=>.Z0
 |_=>.Z0
def G5(u:U)(g:G):Option PySem.PyData:=
 none
def HA(J:List U)(g:G):Out U:=match J with
 |[u]=>match G5 u g with
  |some d=>open Classical in if d.showable=true/\d.shown.length<=PySem.sizeLine then .ok (.str d.shown) g else .Z0
  |none=>.Z0
 |_=>.Z0
def Hq(J:List U)(g:G):Out U:=match J with
 |[u]=>match u with
  |.bl b=>.ok (.int (if b then 1 else 0)) g
  |_=>.Z0
 |_=>.Z0
def JR(b:Bi)(J:List U)(g:G):Out U:=match b with
 |.len=>D0 J g
 |.abs=>Ga J g
 |.list=>C3 J g
 |.mn=>BS true J g
 |.mx=>BS false J g
 |.Xg=>Ce J g
 |.sum=>Di J g
 |.TV=>Ds J g
 |.cat=>Hv J g
 |.sset=>Hm J g
 |.dct=>Dv J g
 |.rpr=>HA J g
 |.int=>Hq J g
def JS(x:U)(g:G):Option Nat:=match x with
 |.ref n=>match g[n]? with
  |some (.S _)=>some n
  |_=>none
 |_=>none
def A5(n:Nat)(y:U)(g:G):Out U:=match g[n]? with
 |some (.S xs)=>if xs.length<Ac then .ok .ZR (g.set n (.S (xs++[y])))else .Z0
 |_=>.Z0
def Bx(n:Nat)(y:U)(g:G):Out U:=match JS y g with
 |some m=>match g[n]?,g[m]? with
  |some (.S xs),some (.S ys)=>if xs.length+ys.length<Ac then .ok .ZR (g.set n (.S (xs++ys)))else .Z0
  |_,_=>.Z0
 |none=>.Z0
def Hy(c:Bool)(n:Nat)(g:G):Out U:=match g[n]? with
 |some (.S xs)=>.ok .ZR (g.set n (.S (match c with|true=>[]|false=>xs.reverse)))
 |_=>.Z0
def Bw(n:Nat)(g:G):Out U:=match g[n]? with
 |some (.S xs)=>match xs[xs.length-1]? with
  |some y=>.ok y (g.set n (.S xs.dropLast))
  |none=>.Z0
 |_=>.Z0
def JT(f:E->Su->G->Out U):List E->Su->G->Out (List U)
 |[],_,g=>.ok [] g
 |e::es,Y,g=>(f e Y g).bind λu g=>(JT f es Y g).bind λJ g=>.ok (u::J) g
def JU(f:E->Su->G->Out U):Option E->Su->G->Out (Option Int)
 |none,_,g=>.ok none g
 |some e,Y,g=>(f e Y g).bind λu g=>match u with
  |.int i=>.ok (some i) g
  |_=>.Z0
def next(it:Iter)(i:Nat)(g:G):Option (Option U):=match it with
 |.S id=>match g[id]? with
  |some (.S xs)=>some xs[i]?
  |_=>none
 |.ZN id=>match g[id]? with
  |some (.Zu O)=>some ((O[i]?).map λa=>.Z1 (a.1.map .int))
  |_=>none
 |.YN id=>match g[id]? with
  |some (.S xs)=>some ((xs[i]?).map λu=>.Z1 [.int i,u])
  |_=>none
 |.seq xs=>some xs[i]?
 |.YS lo n=>some (if i<n then some (.int (lo+i))else none)
def bindL:List Nat->List U->Su->Option Su
 |[],[],Y=>some Y
 |i::is,u::J,Y=>if i<Y.length then bindL is J (Y.set i (some u))else none
 |_,_,_=>none
def AO(t:Tg)(Y:Su):Bool:=match t with
 |.nm i=>match Y[i]? with|some none=>true|_=>false
 |.tp is=>is.all λi=>match Y[i]? with|some none=>true|_=>false
def Ai(t:Tg)(u:U)(Y:Su):Option Su:=match t with
 |.nm i=>if i<Y.length then some (Y.set i (some u))else none
 |.tp is=>match u with
  |.Z1 J=>bindL is J Y
  |_=>none
def JV(t:Tg)(u:U)(g:G):U:=match t with
 |.nm _=>u
 |.tp _=>match u with
  |.ref n=>match g[n]? with
   |some (.S xs)=>.Z1 xs
   |_=>u
  |_=>u
def pick(J:List U)(p:Nat ⊕ U):U:=match p with
 |.inl i=>J[i]?.getD .ZR
 |.inr u=>u
def perm(J:List U)(a:List (Nat ⊕ U)):List U:=a.map (pick J)
set_option genInjectivity false in
structure Z8 where
 ev:E->Su->G->Out U
 ts:E->Su->G->Out Bool
 ex:List Z5->Su->G->Out Fl
 wh:E->List Z5->Su->G->Out Fl
 fr:Tg->Iter->Nat->List Z5->Su->G->Out Fl
 cm:Iter->Nat->Tg->List E->List (Tg×E×List E)->E->List U->Su->G->Out (List U)
def JW(r:Z8)(e:E)(Y:Su)(g:G):Out Iter:=match e with
 |.YV a=>(r.ev a Y g).bind λu g=>match u with
  |.int j=>if -1000000<j/\j<1000000 then .ok (.YS 0 j.toNat) g else .Z0
  |_=>.Z0
 |.Xw a b=>(r.ev a Y g).bind λu g=>(r.ev b Y g).bind λw g=>match u,w with
  |.int i,.int j=>if -1000000<i/\i<1000000 /\ -1000000<j/\j<1000000 then .ok (.YS i (j-i).toNat) g else .Z0
  |_,_=>.Z0
 |.YN a=>(r.ev a Y g).bind λu g=>match JS u g with
  |some n=>.ok (.YN n) g
  |none=>.Z0
 |e=>(r.ev e Y g).bind λu g=>match u with
  |.Z1 xs=>.ok (.seq xs) g
  |.xn _ xs=>.ok (.seq xs) g
  |.ref n=>match g[n]? with
   |some (.S _)=>.ok (.S n) g
   |some (.ZN O)=>.ok (.ZN n) (g.set n (.Zu O))
   |some (.Zu _)=>.ok (.ZN n) g
   |_=>.Z0
  |_=>.Z0
def JX(C:Nat->List U->G->Out U)(r:Z8)(e:E)(Y:Su)(g:G):Out U:=match e with
 |.L i=>match Y[i]? with
  |some (some u)=>.ok u g
  |_=>.Z0
 |.Z3 u=>.ok u g
 |.ZZ op a b=>(r.ev a Y g).bind λx g=>(r.ev b Y g).bind λy g=>Bs op x y g
 |.cmp op a b=>(r.ev a Y g).bind λx g=>(r.ev b Y g).bind λy g=>match JL op x y g with
  |some c=>.ok (.bl c) g
  |none=>.Z0
 |.chain op YO a b c=>(r.ev a Y g).bind λx g=>(r.ev b Y g).bind λy g=>match JL op x y g with
  |some true=>(r.ev c Y g).bind λz g=>match JL YO y z g with
   |some c=>.ok (.bl c) g
   |none=>.Z0
  |some false=>.ok (.bl false) g
  |none=>.Z0
 |.and a b=>(r.ev a Y g).bind λx g=>match x with
  |.bl true=>r.ev b Y g
  |.bl false=>.ok (.bl false) g
  |_=>.Z0
 |.or a b=>(r.ev a Y g).bind λx g=>match x with
  |.bl true=>.ok (.bl true) g
  |.bl false=>r.ev b Y g
  |_=>.Z0
 |.not a=>(r.ev a Y g).bind λx g=>match JM x g with
  |some c=>.ok (.bl (!c)) g
  |none=>.Z0
 |.neg a=>(r.ev a Y g).bind λx g=>match x with
  |.int i=>.ok (.int (-i)) g
  |_=>.Z0
 |.Z1 es=>(JT r.ev es Y g).bind λJ g=>if J.length<=Ac then .ok (.Z1 J) g else .Z0
 |.S es=>(JT r.ev es Y g).bind λJ g=>if J.length<=Ac then alloc (.S J) g else .Z0
 |.idx a b=>(r.ev a Y g).bind λx g=>(r.ev b Y g).bind λy g=>match y with
  |.int i=>match items x g with
   |some xs=>lift (JN xs i) g
   |none=>.Z0
  |.Z1 _=>lift ((Aq y x g).bind id) g
  |.str k=>lift ((JH x g).bind λO=>A0 O k) g
  |_=>.Z0
 |.WM a lo hi=>(r.ev a Y g).bind λx g=>(JU r.ev lo Y g).bind λl g=>(JU r.ev hi Y g).bind λh g=>match x with
  |.Z1 xs=>if HT.sIx xs.length 0 l=0/\HT.sIx xs.length xs.length h=xs.length then .Z0 else .ok (.Z1 (Bh xs l h)) g
  |.Zs xs=>alloc (.S (Bh xs l h)) g
  |.ref n=>match g[n]? with
   |some (.S xs)=>alloc (.S (Bh xs l h)) g
   |_=>.Z0
  |_=>.Z0
 |.rev a=>(r.ev a Y g).bind λx g=>match x with
  |.ref n=>match g[n]? with
   |some (.S xs)=>alloc (.S xs.reverse) g
   |_=>.Z0
  |_=>.Z0
 |.call f es=>(JT r.ev es Y g).Y3.bind λJ g=>C f J g
 |.fld a j cs=>(r.ev a Y g).bind λx g=>lift ((A4 x g).bind (Cd j cs)) g
 |.make c f es ks pm=>(JT r.ev es Y g).Y3.bind λJ g=>(JT r.ev ks Y g).Y3.bind λws g=>if J.length=es.length/\ws.length=ks.length then
   (C f (perm (.ref g.length::J++ws) pm) (g++[.ins c []])).bind λu g'=>if AG u then .ok (.ref g.length) g' else .Z0 else .Z0
 |.YT a j tb es ks=>(r.ev a Y g).Y3.bind λx g=>match(A4 x g).bind (BX j tb)with
  |some p=>(JT r.ev es Y g).Y3.bind λJ g=>(JT r.ev ks Y g).Y3.bind λws g=>if J.length=es.length/\ws.length=ks.length then C p.1 (perm (x::J++ws) p.2) g else .Z0
  |none=>.Z0
 |.bi b es=>(JT r.ev es Y g).bind λJ g=>JR b J g
 |.YC a t=>(r.ev a Y g).bind λx g=>match AV t x g with
  |some c=>.ok (.bl c) g
  |none=>.Z0
 |.app o v=>(r.ev o Y g).bind λx g=>match JS x g with
  |some n=>(r.ev v Y g).bind λy g=>A5 n y g
  |none=>.Z0
 |.ext o v=>(r.ev o Y g).bind λx g=>match JS x g with
  |some n=>(r.ev v Y g).bind λy g=>Bx n y g
  |none=>.Z0
 |.pop o=>(r.ev o Y g).bind λx g=>match JS x g with
  |some n=>Bw n g
  |none=>.Z0
 |.YV _=>.Z0
 |.Xw _ _=>.Z0
 |.YN _=>.Z0
 |.W4=>alloc (.ZN []) g
 |.comp own fr gs elt=>match gs with
  |[]=>.Z0
  |(t,it,cs)::ZV=>(JW r it Y g).bind λi g=>
    (r.cm i 0 t cs ZV elt [] (List.replicate own none++fr.map λj=>(Y[j]?).getD none) g).bindB λJ g=>
     if J.length<=Ac then alloc (.S J) g else .Z0
 |.VN ks es=>(JT r.ev es Y g).bind λJ g=>alloc (.dst (ks.zip J)) g
 |.V_ o k x=>(r.ev o Y g).bind λd g=>match JI d g with
  |some _=>(r.ev k Y g).bind λy g=>(r.ev x Y g).bind λz g=>match Aq y d g with
   |some w=>.ok (w.getD z) g
   |none=>.Z0
  |none=>.Z0
 |.pair k v=>(r.ev k Y g).bind λx g=>(r.ev v Y g).bind λy g=>match keyOf x with
  |some _=>.ok (.Z1 [x,y]) g
  |none=>.Z0
 |.Wr own fr gs k v=>match gs with
  |[]=>.Z0
  |(t,it,cs)::ZV=>(JW r it Y g).bind λi g=>
    (r.cm i 0 t cs ZV (.pair k v) [] (List.replicate own none++fr.map λj=>(Y[j]?).getD none) g).bindB λJ g=>match dfold J []with
     |some O=>alloc (.ZN O) g
     |none=>.Z0
def JY(r:Z8)(e:E)(Y:Su)(g:G):Out Bool:=match e with
 |.and a b=>(r.ts a Y g).bind λc g=>if c then r.ts b Y g else .ok false g
 |.or a b=>(r.ts a Y g).bind λc g=>if c then .ok true g else r.ts b Y g
 |.not a=>(r.ts a Y g).bind λc g=>.ok (!c) g
 |e=>(r.ev e Y g).bind λx g=>lift (JM x g) g
def Ew(n:Nat)(k:Int)(u:U)(Y:Su)(g:G):Out Fl:=match g[n]? with
 |some (.S xs)=>match L2.ixN xs.length k with
  |some j=>.ok (.nx Y) (g.set n (.S (xs.set j u)))
  |none=>.Z0
 |_=>.Z0
def Ey(n:Nat)(J:List U)(u:U)(Y:Su)(g:G):Out Fl:=match g[n]? with
 |some (.ZN O)=>match intsOf J with
  |some k=>if O.length<Ac then .ok (.nx Y) (g.set n (.ZN (dput O k u)))else .Z0
  |none=>.Z0
 |_=>.Z0
def GH(n:Nat)(k:Str)(u:U)(Y:Su)(g:G):Out Fl:=match g[n]? with
 |some (.dst O)=>if O.length<Ac then .ok (.nx Y) (g.set n (.dst (EI O k u)))else .Z0
 |_=>.Z0
def subAt(x y u:U)(Y:Su)(g:G):Out Fl:=match x with
 |.ref n=>match y with
  |.int k=>Ew n k u Y g
  |.Z1 J=>Ey n J u Y g
  |.str k=>GH n k u Y g
  |_=>.Z0
 |_=>.Z0
def B0(o:Out Fl)(j:Nat)(a:List (Nat×Nat×List (Nat ⊕ U)))(Y:Su):Out Fl:=match o with
 |.ok f g=>match f with
  |.nx ZX=>.ok (.nx ZX) g
  |_=>.Z0
 |.exc c fs g=>match a.lookup c with
  |some p=>if j<Y.length/\p.2.length<=Ac/\(p.1=0\/fs.length=p.1)then .ok (.nx ((List.replicate Y.length none).set j (some (.Z1 (perm fs p.2))))) g else .Z0
  |none=>.Z0
 |.Z0=>.Z0
def JZ(r:Z8)(s:Z5)(Y:Su)(g:G):Out Fl:=match s with
 |.ret e=>(r.ev e Y g).bind λu g=>.ok (.rt u) g
 |.set t e=>(r.ev e Y g).bind λu g=>match Ai t (JV t u g) Y with
   |some ZX=>.ok (.nx ZX) g
   |none=>.Z0
 |.par i j a b=>(r.ev a Y g).bind λu g=>(r.ev b Y g).bind λw g=>
    if i<Y.length/\j<Y.length then .ok (.nx ((Y.set i (some u)).set j (some w))) g else .Z0
 |.sub o i e=>(r.ev e Y g).bind λu g=>(r.ev o Y g).bind λx g=>(r.ev i Y g).bind λy g=>subAt x y u Y g
 |.exp e=>(r.ev e Y g).bind λ_ g=>.ok (.nx Y) g
 |.Zz c a b=>(r.ts c Y g).bind λk g=>if k then r.ex a Y g else r.ex b Y g
 |.V9 c b=>r.wh c b Y g
 |.for t it b=>(JW r it Y g).bind λi g=>r.fr t i 0 b Y g
 |.never=>.Z0
 |.fset a j cs e=>(r.ev e Y g).bind λu g=>(r.ev a Y g).bind λx g=>match Bu x j cs u g with
  |some g'=>.ok (.nx Y) g'
  |none=>.Z0
 |.Zx b=>(r.ex b Y g).Y3
 |.Wq c a b=>(r.ts c Y g).Y3.bind λk g=>if k then r.ex a Y g else r.ex b Y g
 |.UG t it b=>(JW r it Y g).Y3.bind λi g=>r.fr t i 0 b Y g
 |.raise c es=>(JT r.ev es Y g).Y3.bind λJ g=>if J.length<=Ac then .exc c J g else .Z0
 |.Vd b j hs=>B0 (r.ex b Y g) j hs Y
def J0(r:Z8)(a:List Z5)(Y:Su)(g:G):Out Fl:=match a with
 |[]=>.ok (.nx Y) g
 |s::ZV=>(JZ r s Y g).bind λf g=>match f with
  |.nx ZX=>r.ex ZV ZX g
  |f=>.ok f g
def J1(r:Z8)(c:E)(b:List Z5)(Y:Su)(g:G):Out Fl:=
 (r.ts c Y g).bind λk g=>if k then(r.ex b Y g).bind λf g=>match f with
  |.nx ZX=>r.wh c b ZX g
  |.ct ZX=>r.wh c b ZX g
  |.bk ZX=>.ok (.nx ZX) g
  |.rt u=>.ok (.rt u) g
 else .ok (.nx Y) g
def J3(r:Z8)(t:Tg)(it:Iter)(i:Nat)(b:List Z5)(Y:Su)(g:G):Out Fl:=match next it i g with
 |none=>.Z0
 |some none=>.ok (.nx Y) g
 |some (some u)=>match Ai t u Y with
  |none=>.Z0
  |some a=>(r.ex b a g).bind λf g=>match f with
   |.nx ZX=>r.fr t it (i+1) b ZX g
   |.ct ZX=>r.fr t it (i+1) b ZX g
   |.bk ZX=>.ok (.nx ZX) g
   |.rt u=>.ok (.rt u) g
def AH(f:E->Su->G->Out Bool):List E->Su->G->Out Bool
 |[],_,g=>.ok true g
 |c::cs,Y,g=>(f c Y g).bind λk g=>if k then AH f cs Y g else .ok false g
def J6(r:Z8)(it:Iter)(i:Nat)(t:Tg)(c:List E)(d:List (Tg×E×List E))(a:E)(b:List U)(Y:Su)(g:G):Out (List U):=match next it i g with
 |none=>.Z0
 |some none=>.ok b g
 |some (some u)=>if AO t Y then match Ai t u Y with
  |none=>.Z0
  |some e=>(AH r.ts c e g).bindB λk g=>if k then
    match d with
    |[]=>(r.ev a e g).bindB λv g=>if b.length<Ac then r.cm it (i+1) t c d a (b++[v]) Y g else .Z0
    |(t2,YF,Yk)::h=>(JW r YF e g).bindB λj g=>(r.cm j 0 t2 Yk h a b e g).bindB λf g=>r.cm it (i+1) t c d a f Y g
   else r.cm it (i+1) t c d a b Y g
  else .Z0
def J7(C:Nat->List U->G->Out U):Nat->Z8
 |0=>⟨λ_ _ _=>.Z0,λ_ _ _=>.Z0,λ_ _ _=>.Z0,λ_ _ _ _=>.Z0,λ_ _ _ _ _ _=>.Z0,λ_ _ _ _ _ _ _ _ _=>.Z0⟩
 |n+1=>let r:=J7 C n
  ⟨JX C r,JY r,J0 r,J1 r,J3 r,J6 r⟩
def BA(fu:Nat)(C:Nat->List U->G->Out U)(F:Fn)(J:List U)(g:G):Out U:=
 if J.length=F.np then
  ((J7 C fu).ex F.body (J.map some++List.replicate (F.ns-J.length) none) g).bind λf g=>match f with
   |.rt u=>.ok u g
   |.nx _=>.ok .ZR g
   |_=>.Z0
 else .Z0
def Aa(M:List Fn)(fu:Nat):Nat->Nat->List U->G->Out U
 |0=>λ_ _ _=>.Z0
 |d+1=>λf J g=>match M[f]? with
  |some F=>BA fu (Aa M fu d) F J g
  |none=>.Z0
end
end
end PI
variable{g g' gs:PI.G}{it:PI.Iter}{Q:PI.U->PI.G->Prop}{r:PI.Z8}{C:Nat->List PI.U->PI.G->PI.Out PI.U}{Z2:PI.Su}
namespace L2
open PySem PySem.Spec PyProof.Rows
section
variable{E:Value->Shared->Prop}
def vo{d:Addr}{o:Obj}{f:Array DictEntry}{Q:Value->Shared->Prop}(g:(d==sysModules)=false)(a:s.heap.get? d=some o)(hx:o.ExactDict)(c:o.data=.dict f ep)
  (h:Q (.ref s.heap.objs.size) {s with heap:=s.heap.push {cls:=.type "dict_keyiterator",data:=.fields #[.ref d,.int 0 0,.int f.size 0,.int ep 0]}}):wpAny (model prog w) A (pyIter (.ref d)) Q E s:=by
 have t:s.TypeIs (.ref d) "dict":=⟨o,a,hx.1⟩;refine wpAny_pyIter_slot t F.slot_dict_iter (Qh F.slot_dict_iter t F.entry_dict_iter ?_ (F.args_dict_iter_1 _));unfold Builtin.«dict.__iter__»;refine ZB ?_;unfold Builtin.Dict.dictSlotNone;refine ZB (wpAny_notOrdered_dict t ?_);show wpAny _ _ (pure (Value.ref d)) _ _ s;refine ZP ?_;show wpAny _ _ (Builtin.Dict.showsAll d >>= _) _ _ s;unfold Builtin.Dict.showsAll;rw[g,Xy HQ];refine ZB (ZP (ZB (Ra a c (ZB (Pj a c ?_)))));exact ZB (UU (ZP ⟨_,rfl,"dict_keyiterator",_,⟨_,HW _ rfl,rfl⟩,F.slot_dict_keyiterator_next.lookup,by simpa[rawInt]using h⟩))
def wy{it d:Addr}{g:Obj}{c:Array DictEntry}{e:DictEntry}{Q:Option Value->Shared->Prop}(a:s.heap.IsKeyIter it d i c.size ep)(j:s.heap.get? d=some g)(k:g.data=.dict c ep)(hx:c[i]?=some e)
  (h:∀h',h'.IsKeyIter it d (i+1) c.size ep->Heap.SameBut it s.heap h'->Q (some e.key) {s with heap:=h'}):wpAny (model prog w) A (pyNext (.ref it)) Q E s:=by
 let⟨o,ho,hc,f⟩:=id a;let⟨t,r⟩:=T8.mp hx;unfold pyNext;refine ZB (QX (R0 (name:=Str.ofString "__next__") a.typeIs SE (Qh SE a.typeIs Qo ?_ (Qj _))));refine ZB (ZP ?_);refine ZB ?_;refine ZB ?_
 (first|refine ZB (Si a.typeIs (ZP ?_))|refine ZB (Rb a.typeIs (ZP ?_)))
 refine ZB (wpAny_fieldsOf ho f ?_);rw[show Builtin.Dict_items.ownsTuple "dict_keyiterator" = false from by decide];rw[Xy HQ]
 show wpAny _ _ (if(Value.ref d==Value.none)=true then _ else _) _ _ s;rw[Xy (show ¬ ((Value.ref d==Value.none)=true)from HQ)]
 refine ZB (ZP (ZB (Ra j k ?_)));rw[Xy #[3]];refine ZB (ZP (ZB (Pj j k ?_)));rw[Xy #[3]];refine ZP ?_
 dsimp only;rw[Xy (show ¬ ((i:Int)<0)from by lia),Int.toNat_natCast,hx];refine ZB ?_
 (first|refine ZB (Si a.typeIs (ZP ?_))|refine ZB (Rb a.typeIs (ZP ?_)))
 refine ZB (wpAny_isOneOf_keyiter a.typeIs ?_);show wpAny _ _ (setField (.ref it) 1 (rawInt ((i:Int)+1)) >>= _) _ _ s;refine ZB (R7 ho f #[3] ?_)
 have n:(s.heap.update it (Obj.mapFields (·.setIfInBounds 1 (rawInt ((i:Int)+1))))).IsKeyIter it d (i+1) c.size ep:=⟨_,T1 _ ho (Rv (SX f _)),(Obj.cls_mapFields ..).trans hc,by rw[SX f];simp[rawInt]⟩
 refine ZB (US (ZB (wpAny_isOneOf_keyiter (s:={s with heap:=s.heap.update it (Obj.mapFields (·.setIfInBounds 1 (rawInt ((i:Int)+1))))}) n.typeIs ?_)));show wpAny _ _ (pure e.key) _ _ _
 exact ZP (ZP ⟨_,rfl,ZP (h _ n (Qv ..))⟩)
def wg{it d:Addr}{g:Obj}{f:Array DictEntry}{Q:Option Value->Shared->Prop}(t:A.handled=none)(c:s.heap.IsKeyIter it d i f.size ep)(k:s.heap.get? d=some g)(r:g.data=.dict f ep)(hx:f[i]?=none)
  (h:∀h',Heap.ExtBut it s.heap h'->Q none {s with heap:=h'}):wpAny (model prog w) A (pyNext (.ref it)) Q E s:=by
 let⟨o,ho,hc,j⟩:=id c;unfold pyNext;refine ZB (QX (R0 (name:=Str.ofString "__next__") c.typeIs SE (Qh SE c.typeIs Qo ?_ (Qj _))));refine ZB (ZP ?_);refine ZB ?_;refine ZB ?_
 (first|refine ZB (Si c.typeIs (ZP ?_))|refine ZB (Rb c.typeIs (ZP ?_)))
 refine ZB (wpAny_fieldsOf ho j ?_);rw[show Builtin.Dict_items.ownsTuple "dict_keyiterator" = false from by decide];rw[Xy HQ]
 show wpAny _ _ (if(Value.ref d==Value.none)=true then _ else _) _ _ s;rw[Xy (show ¬ ((Value.ref d==Value.none)=true)from HQ)]
 refine ZB (ZP (ZB (Ra k r ?_)));rw[Xy #[3]];refine ZB (ZP (ZB (Pj k r ?_)));rw[Xy #[3]];refine ZP ?_
 dsimp only;rw[Xy (show ¬ ((i:Int)<0)from by lia),Int.toNat_natCast,hx];refine ZB ?_
 (first|refine ZB (Si c.typeIs (ZP ?_))|refine ZB (Rb c.typeIs (ZP ?_)))
 show wpAny _ _ (setField (.ref it) 0 .none >>= _) _ _ s;refine ZB (R7 ho j #[3] ?_);show wpAny _ _ (newExc (.type "StopIteration") [] >>= _) _ _ _
 refine ZB ?_;delta newExc newTuple;try dsimp only;refine ZB (UU ?_ (by size_fits))
 refine ZB (m:=firstArgMember _ _) (wpAny_of_eq (a:=Value.none) (by first|rfl|(simp![firstArgMember];rfl)) (UU ?_ (by size_fits)));delta raiseNew;try dsimp only
 refine ZB (wpAny_handled ?_);rw[show A.in1.handled=none from t];refine ZB (ZP (wpAny_throw ?_));exact ZB (wpAny_isInstance (T:="StopIteration") (b:=true) ⟨_,HW _ rfl,rfl⟩ isSubtype_stop (ZP (h _ (((Qv ..).extBut.push _).push _))))
end
def Itd(a:Addr)(o:Obj)(O:List (List Key×V)):It:=
 ⟨λi H=>H a=some (.Zw o (.dT O))/\i<O.length,λi H x H'=>H'=H /\∃b k v,x=.ref b/\O[i]?=some (k,v)/\H b=some (.Z1 (k.map IT)),λi H=>H a=some (.Zw o (.dT O))/\O.length<=i⟩
def dtAt{O:List (List Key×V)}(z:ObjOk P w H h a (.dT O)):O.length<=sizeLine/\(a==sysModules)=false /\∃o es ep,h.get? a=some o/\o.ExactDict/\o.data=.dict es ep/\es.size=O.length /\
  ∀(i:Nat) (k:List Key) (v:V),O[i]?=some (k,v) ->∃(b:Addr) (e:DictEntry),es[i]?=some e/\e.key=.ref b/\H b=some (.Z1 (k.map IT)):=by
 let⟨d,hs,xs,c,o,es,ep,ho,m,s,f,_⟩:=z;have r:es.size=xs.length:=by rw[<-Uj,f,YK]
 refine⟨d,hs,o,es,ep,ho,m,s,by rw[r,RQ c],λi k v hk=>?_⟩
 have key:∀{O:List (List Key×V)} {xs:List (List Key×Addr×Value)},Paired (λ(p:List Key×V) (q:List Key×Addr×Value)=>p.1=q.1/\H q.2.1=some (.Z1 (p.1.map IT))/\RelV p.2 q.2.2) O xs ->∀(i:Nat) (k:List Key) (v:V),O[i]?=some (k,v) ->∃q:List Key×Addr×Value,xs[i]?=some q/\H q.2.1=some (.Z1 (k.map IT)):=by
  intro O xs c
  induction c with
  |nil=>intro i k v z;simp at z
  |cons h1 _ ih=>
   intro i k v z;cases i with
   |zero=>simp at z;subst z;exact⟨_,by simp,h1.2.1⟩
   |succ j=>let⟨q,l,g⟩:=ih j k v (by simpa using z);exact⟨q,by simpa using l,g⟩
 let⟨q,n,t⟩:=key c i k v hk;refine⟨q.2.1,entryOfKey (tupleKind (AD P w)) q,?_,rfl,t⟩;rw[<-Qc,f,Wd,n];rfl
def iC{o:Obj}{O:List (List Key×V)}(f:HOk P w H h)(e:H a=some (.Zw o (.dT O))):h.get? a=some o/\o.ExactDict/\(a==sysModules)=false /\∃es ep,o.data=.dict es ep/\es.size=O.length /\
  ∀(i:Nat) (k:List Key) (v:V),O[i]?=some (k,v) ->∃(b:Addr) (c:DictEntry),es[i]?=some c/\c.key=.ref b/\H b=some (.Z1 (k.map IT)):=by
 let⟨ho,z⟩:=f a _ e;let⟨_,hs,o',es,ep,d,r⟩:=dtAt z;rw[ho]at d;cases d;exact⟨ho,r.1,hs,es,ep,r.2⟩
def rE(a it:Addr)(o:Obj)(O:List (List Key×V)):
  Turn P w K tg (Itd a o O) [it] it (λi h=>∃es ep,o.data=.dict es ep/\h.IsKeyIter it a i es.size ep) where
 mem:=by simp
 obj:=λi h st b f=>by
  have e:b=it:=by simpa using f
  let⟨_,_,_,q,U,_,d⟩:=st;subst e;exact⟨q,U,λv z=>by rw[d]at z;cases z⟩
 keep:=λi h h' ⟨es,ep,hd,st⟩ k=>⟨es,ep,hd,st.at λo e=>k it #[3] o e⟩
 item:=by
  intro X y r A hc i Z s Y H E I j ⟨es,ep,hd,st⟩ ⟨J,L⟩;subst y r A;let⟨ho,N,_,ZL,W,g,Q,hk⟩:=iC I.ZQ J;rw[hd]at g;cases g;obtain⟨⟨k,v⟩,M⟩:∃p,O[i]?=some p:=⟨_,Vj L⟩;let⟨b,S,u,t,f⟩:=hk i k v M;let⟨G,F,R,D,C,B⟩:=j it #[3]
  refine wy st ho hd u λh' Zd sb=>?_;have I1:Z4 X Z Y H {s with heap:=h'}:=I.turned (t':=s.toks) (λb o f e=>(sb.2 b f).trans e) G F D C B
  let⟨q,e,c,d⟩:=id Zd;refine⟨S.key,rfl,ff (s:={s with heap:=h'}) e c d #[1] ⟨.ref b,H,I1,?_,⟨rfl,b,k,v,rfl,M,f⟩,⟨es,ep,hd,Zd⟩,λb f=>(j b f).1⟩⟩
  rw[t];rfl
 done:=by
  intro X y r A hc i Z s Y H E I j ⟨es,ep,hd,st⟩ ⟨J,L⟩;subst y r A;let⟨ho,N,_,ZL,W,g,Q,hk⟩:=iC I.ZQ J;rw[hd]at g;cases g;let⟨G,F,R,D,C,B⟩:=j it #[3]
  exact wg (I.ok.hd hc) st ho hd (Array.getElem?_eq_none (by lia)) λh' T=>⟨rfl,I.turned (t':=s.toks) (λb o f e=>T b o f e) G F D C B⟩
 self:=λ_ _ _ _ _ ⟨_,_,_,st⟩ h=>wpAny_pyIter_keyiter st h
def rIxD:R2:=λx y H Q=>∃a v,x=.ref a/\DGet H a y (some v)/\Q v H
def aaN{Y:St}{o:Option V}(I:Z4 X Z Y H s)(g:DGet H a y o):s.TypeIs (.ref a) "dict":=by
 rcases g with⟨O,k,e,q⟩|⟨O,k,b,e,q⟩
 .exact let⟨_,_,_,_,dd⟩:=bQ I.ZQ e;dd.typeIs
 .exact let⟨_,_,_,_,dd⟩:=bS I.ZQ e;dd.typeIs
def vA(f:X.A.units+1<cLine):IxR X rIxD:=by
 intro value slice Z s Y H x y v u Q I d c ⟨a,z,e,g,q⟩ hs;subst e;obtain rfl:v=Value.ref a:=d;have hT:=aaN I g;have b:wpAny (model X.prog X.w) X.A (subscripted slice false (.ref a) u) (λr s3=>wpAny (model X.prog X.w) X.A (letTemporaryGo value (.ref a) r >>= λ_=>pure r) (EP X Z Y Q) X.xe s3) X.xe s:=by
  rw[hs];exact wpAny_operating (qF f I g c λj s3 i h=>ZB (wpAny_letTemporaryGo (ZP ⟨z,H,i,h,q⟩)))
 unfold subscriptTail;refine ZB ?_;rw[getitemInPython_of_ne hT.not_modules];refine ZB (Pk hT PySem.F.slot_dict_getitem.lookup ?_)
 (first|exact ZP (ZB b)|exact ZB (ZP (ZB b))|exact ZB b)
def Z4.freeze{Y:St}{O:List (List Key×V)}(I:Z4 X Z Y H s)(e:H a=some (.dT O)):∃o,Z4 X Z Y (upd H a (.Zw o (.dT O))) s:=by
 let⟨z,hs,xs,d,o,es,ep,ho,f,g,h,nd⟩:=I.ZQ a _ e;refine⟨o,I.write (x:=a) (e:=a) (h':=s.heap) (t':=s.toks) (by rw[e];trivial) (.inl rfl) (λ_ _ _ q=>q) ⟨o,ho⟩ ⟨ho,z,hs,xs,KT.keeps (H:=H) d λc ys b=>?_,o,es,ep,ho,f,g,h,nd⟩⟩
 rw[aa (cJ b e (λz=>nomatch z))];exact b
def nU{Y:St}{o:Obj}{O:List (List Key×V)}{R:It->Hp->Prop}{E:Value->Shared->Prop}(I:Z4 X Z Y H s)(e:H a=some (.Zw o (.dT O)))(q:R (Itd a o O) H):
  wpAny (model X.prog X.w) X.A (pyIter (.ref a)) (PIE X Z Y tg R) E s:=by
 let⟨ho,d,hs,es,ep,c,g,hk⟩:=iC I.ZQ e;refine vo hs ho d c ⟨s.heap.objs.size,[s.heap.objs.size],_,_,H,rfl,I.kept (t':=s.toks) λb o e=>HM _ e,rE a _ o O,⟨es,ep,c,_,HW _ rfl,rfl,rfl⟩,λb f=>?_,q⟩;have e:b=s.heap.objs.size:=by simpa using f
 subst e;exact I.UC (HR _) (I.ZQ.fresh (HR _))
def Ite(K:HY)(a:Addr):It:=
 ⟨λi H=>∃xs x,SqL K H a xs/\xs[i]?=some x,λi H x H'=>∃p v,H p=none/\x=.ref p/\H'=upd H p (.Z1 [.int i,v]) /\∀xs,SqL K H a xs->xs[i]?=some v,λi H=>∃xs,SqL K H a xs/\xs.length<=i⟩
def Z4.So{Y:St}{e it:Addr}(I:Z4 X Z Y H s)(j:∀b o,b≠e->b≠it->s.heap.get? b=some o->h'.get? b=some o)(F:AQ X Z H e)(E:AQ X Z H it)
  (A:∃o,h'.get? e=some o) (y:∃o,h'.get? it=some o) (t:ObjOk X.prog X.w (upd H s.heap.objs.size (.Z1 vs)) h' s.heap.objs.size (.Z1 vs)):Z4 X Z Y (upd H s.heap.objs.size (.Z1 vs)) {s with heap:=h',toks:=t'}:=by
 have fresh:H s.heap.objs.size=none:=I.ZQ.fresh (HR _);have a:∀b o,H b=some o->b≠s.heap.objs.size:=λb o q z=>by subst z;rw[fresh]at q;cases q
 have D:∀b o,H b=some o->b≠e/\b≠it:=λb o q=>⟨λz=>(by subst z;rw[F.1]at q;cases q),λz=>(by subst z;rw[E.1]at q;cases q)⟩
 refine I.TQ (ch:=[e,it]) rfl ⟨λb o q _ _ f=>?_,λb o q _ _ f=>?_,λb o q n _=>?_,λb o q _=>?_,λb xs q=>?_,λb o u q=>?_,λb ps q=>?_⟩ (λb u q=>?_) I.bare λb g=>?_
 .exact j b o (λz=>f (by simp[z])) (λz=>f (by simp[z])) q
 .exact ⟨o.slots,j b o (λz=>f (by simp[z])) (λz=>f (by simp[z])) q⟩
 .rw [aa (HV (HN q))];exact n
 .by_cases C:b=e
  .subst C;exact A
  .by_cases B:b=it
   .subst B;exact y
   .exact ⟨o,j b o C B q⟩
 .rw [aa (a b _ q)];exact q
 .rw [aa (a b _ q)];exact q
 .exact ⟨#[],by rw[aa (a b _ q),Array.append_empty];exact q⟩
 .by_cases z:b=s.heap.objs.size
  .subst z;rw[upd_same]at q;cases q;exact t
  .rw [aa z]at q
   refine(I.ZQ b u q).Yv (λc v hc r=>?_) (λc r=>by rw[aa (a c _ r)];exact r) λc xs r=>by rw[aa (a c _ r)];exact r
   have d:∃o,H c=some o:=by rcases hc with rfl|hc<;>exact⟨_,by assumption⟩
   let⟨o,d⟩:=d;exact j c v (D c o d).1 (D c o d).2 r
 .have k:AQ X Z H b:=by
   rcases Wc.mp g with rfl|g
   .exact F
   .rcases Wc.mp g with rfl|g
    .exact E
    .cases g
  exact⟨k.2.2.2.1,k.2.1,k.2.2.2.2.1,k.2.2.2.2.2⟩
def rA{Q:Nat}{R:Pos}(a e it:Addr)(t:e≠it):
  Turn P w K (.Tuple elts Q R) (Ite K a) [e,it] e (λi h=>(∃c,IsEnum h e it i c)/\h.IsListIter it a i) where
 mem:=by simp
 obj:=λi h st b g=>by
  let⟨⟨c,f⟩,o,hi,_,d⟩:=st;rcases Wc.mp g with rfl|g
  .exact ⟨_,f,λv z=>by cases z⟩
  .obtain rfl:b=it:=by simpa using g
   exact⟨o,hi,λv z=>by rw[d]at z;cases z⟩
 keep:=λi h h' ⟨⟨c,f⟩,hi⟩ k=>⟨⟨c,k e #[3] _ f⟩,hi.at λo q=>k it #[3] o q⟩
 item:=by
  intro X J C L hc i Z s Y H E I r ⟨⟨c,f⟩,hi⟩ ⟨xs,x,A,hx⟩;subst J C L;let⟨ZY,B,p,T⟩:=I.list A;let⟨u,V,S⟩:=B.get hx;have fe:=r e #[3]
  have fi:=r it #[3]
  refine wpAny_pyNext_enum_item f hi p.isList (x:=u) (by simpa using V) t λh' ho VD hT W hk=>⟨_,rfl,?_⟩
  have O:e<s.heap.objs.size:=HN f;have F:it<s.heap.objs.size:=let⟨_,q,_⟩:=hi;HN q
  refine wpAny_letOwnedTupleGo_enum ho λh2 y YY=>?_;have M:Heap.SameBut e h' h2:=YY;have G:h2.get? s.heap.objs.size=some {cls:=.type "tuple",data:=.seq #[.int i s.toks,u]}:=(M.2 _ (Rm O)).trans hT;have j:h2.IsListIter it a (i+1):=VD.at λo q=>(M.2 it (Ne.symm t)).trans q;have D:∀b o,b≠e->b≠it->s.heap.get? b=some o->h2.get? b=some o:=λb o N b2 q=>(M.2 b N).trans (hk b o N b2 q);have I2:Z4 X Z Y (upd H s.heap.objs.size (.Z1 [.int i,x])) {s with heap:=h2,toks:=s.toks+1}:=I.So D fe fi ⟨_,y⟩ (let⟨o,q,_⟩:=j;⟨o,q⟩) ⟨(by show 2<=sizeLine;decide),[.int i s.toks,u],.cons ⟨_,rfl⟩ (.cons S .nil),⟨_,G,rfl,_,rfl⟩⟩
  refine⟨.ref s.heap.objs.size,_,I2,rfl,⟨s.heap.objs.size,x,I.ZQ.fresh (HR _),rfl,rfl,λys U=>by rw[I.SU U A];exact hx⟩,⟨⟨u,by simpa using y⟩,j⟩,λb g=>?_⟩
  have Us:b<s.heap.objs.size:=by
   rcases Wc.mp g with rfl|g
   .exact O
   .obtain rfl:b=it:=by simpa using g
    exact F
  rw[aa (HV Us)];exact(r b g).1
 done:=by
  intro X J C L hc i Z s Y H E I r ⟨⟨c,f⟩,hi⟩ ⟨xs,A,hx⟩;subst J C L;let⟨ZY,B,p,T⟩:=I.list A;let⟨f0,f1,f2,f3,f4,f5⟩:=r it #[3]
  have hl:=B.length;exact wpAny_pyNext_enum_end (I.ok.hd hc) f hi p.isList (by simp;omega) λh' eb=>⟨rfl,I.turned (t':=s.toks) (λb o g e=>eb b o g e) f0 f1 f3 f4 f5⟩
 self:=λ_ _ _ _ _ ⟨⟨_,f⟩,_⟩ h=>wpAny_pyIter_enum f h
def Hx(K:HY)(b:TA):TI:=λY H R=>b Y H λvs H1=>∃a,vs=[.ref a]/\(∃xs,SqL K H1 a xs)/\R (Ite K a) H1
def vL{l:Expr}{g:TA}{t:Pos}{o:Nat}(C:Gl X "enumerate")(B:X.mg "enumerate" = none)(D:PA X [l] g)(z:starEach [l] X.env=[(false,eval l X.env)]):PI X (.Tuple elts o t) (.Call (.Name "enumerate" p) [l] [] pos) (Hx X.K g):=by
 intro Z s Y H R I h;refine Call_ (cG I C B boot_enumerate (SG (thn (D pos Z s Y H _ I h) λJ c ⟨vs,H1,d,u,w⟩=>?_) z rfl));let⟨a,rfl,⟨xs,A⟩,q⟩:=w;cases u with
 |cons r rr=>
  cases rr;cases r;let⟨ZY,F,pl,G⟩:=d.list A;refine call_enumerate_list pl.isList λh' j E y hk=>wpAny_pyIter_enum j ?_;refine⟨c.heap.objs.size+1,[c.heap.objs.size+1,c.heap.objs.size],_,_,H1,rfl,d.kept (t':=c.toks) hk,rA a _ _ #[3],⟨⟨_,j⟩,E⟩,λb f=>?_,q⟩
  have k:c.heap.objs.size<=b:=by
   rcases Wc.mp f with rfl|f
   .exact UL _
   .obtain rfl:b=c.heap.objs.size:=by simpa using f
    exact HR _
  exact d.UC k (d.ZQ.fresh k)
end L2
namespace L2
open PySem PySem.Spec PyProof.Rows
end L2
namespace PI
noncomputable section
variable{xs:List V}{o:HO}{p:Addr}{D:Ends}
open PySem PySem.Spec PyProof.Rows L2
def SqF(K:HY)(H:Hp)(a:Addr)(xs:List V):Prop:=
 (∃o,H a=some (.Zw o (.S xs))) \/
  ∃(o:Obj) (ZY:Array Value) (n:Nat),K.lookup a=some o/\o.cls=.type "list" /\ o.dict=none/\o.data=.seq ZY n/\ZY.size<=sizeLine/\ZK xs ZY.toList
def SqF.sq(h:SqF K H a xs):SqL K H a xs:=by
 rcases h with h|h
 .exact .inl (.inr h)
 .exact .inr h
def SqU(_:HY)(H:Hp)(a:Addr)(xs:List V):Prop:=H a=some (.Z1 xs)
def SqU.sq(h:SqU K H a xs):SqT K H a xs:=.of h
def SqC(K:HY)(a:Addr)(xs:List V):Prop:=
 ∃(o:Obj) (ZY:Array Value) (n:Nat),K.lookup a=some o/\o.cls=.type "tuple" /\ o.data=.seq ZY n/\ZY.size<=sizeLine/\ZK xs ZY.toList
def SqC.sq(h:SqC K a xs):SqT K H a xs:=.inr h
inductive RT(Z5:Addr->List V->Prop)(R:List V->Prop)(v:V):Prop
 |mk (a:Addr) (vs:List V) (e:v=.ref a) (s:Z5 a vs) (r:R vs)
inductive RC{α:Type}(p:α->Prop)(q:List α->Prop)(vs:List α):Prop
 |mk (v:α) (r:List α) (e:vs=v::r) (h:p v) (t:q r)
mutual
def RV(K:HY)(ρ:List Addr)(H:Hp):U->V->Prop
 |.ZR,v=>v=.ZR
 |.bl b,v=>v=.bl b
 |.int i,v=>v=.int i
 |.str s,v=>v=.str s
 |.Z1 J,v=>RT (SqU K H) (RVs K ρ H J) v
 |.Zs J,v=>RT (SqF K H) (RVs K ρ H J) v
 |.ref n,v=>∃a,v=.ref a/\ρ[n]?=some a
 |.xn _ J,v=>RT (SqC K) (RVs K ρ H J) v
def RVs(K:HY)(ρ:List Addr)(H:Hp):List U->List V->Prop
 |[],vs=>vs=[]
 |u::J,vs=>RC (RV K ρ H u) (RVs K ρ H J) vs
end
structure ZM(K:HY)(ρ:List Addr)(H:Hp)(ZU:List Addr)(H':Hp):Prop where
 ext:∀(n:Nat) (a:Addr),ρ[n]?=some a->ZU[n]?=some a
 new:∀(n:Nat) (a:Addr),ZU[n]?=some a->ρ[n]?=some a\/H a=none
 Yc:∀a o,H a=some o->a ∉ ρ->H' a=some o
 live:∀a,H a≠none->H' a≠none
 Z1:∀a xs,SqU K H a xs->SqU K H' a xs
 Zs:∀a xs,SqF K H a xs->SqF K H' a xs
 Zw:∀a o u,H a=some (.Zw o u)->H' a=some (.Zw o u)
section
variable{Vc:List Addr}{X_:Hp}
def ZM.refl:ZM K ρ H ρ H:=⟨λ_ _ h=>h,λ_ _ h=>.inl h,λ_ _ h _=>h,λ_ h=>h,λ_ _ h=>h,λ_ _ h=>h,λ_ _ _ h=>h⟩
def ZM.trans(a:ZM K ρ H ZU H')(b:ZM K ZU H' Vc X_):ZM K ρ H Vc X_ where
 ext:=λn x h=>b.ext n x (a.ext n x h)
 new:=λn x h=>by
  rcases b.new n x h with q|q
  .exact a.new n x q
  .refine .inr ?_
   cases e:H x with
   |none=>rfl
   |some o=>exact absurd q (a.live x (by rw[e];simp))
 Yc:=λx o h hn=>b.Yc x o (a.Yc x o h hn) λhx=>by
  let⟨n,Zv⟩:=UN.mp hx;rcases a.new n x Zv with q|q
  .exact hn (UN.mpr ⟨n,q⟩)
  .rw [q]at h;cases h
 live:=λx h=>b.live x (a.live x h)
 Z1:=λx xs h=>b.Z1 x xs (a.Z1 x xs h)
 Zs:=λx xs h=>b.Zs x xs (a.Zs x xs h)
 Zw:=λx o u h=>b.Zw x o u (a.Zw x o u h)
mutual
def RV.mono(d:∀(n:Nat) (a:Addr),ρ[n]?=some a->ZU[n]?=some a)(b:∀a xs,SqU K H a xs->SqU K H' a xs)(c:∀a xs,SqF K H a xs->SqF K H' a xs):∀(u:U) (v:V),RV K ρ H u v->RV K ZU H' u v
 |.ZR,_,h=>h
 |.bl _,_,h=>h
 |.int _,_,h=>h
 |.str _,_,h=>h
 |.Z1 J,v,h=>by
  let⟨a,vs,e,h1,h2⟩:=h;exact⟨a,vs,e,b _ _ h1,RVs.mono d b c J vs h2⟩
 |.Zs J,v,h=>by
  let⟨a,vs,e,h1,h2⟩:=h;exact⟨a,vs,e,c _ _ h1,RVs.mono d b c J vs h2⟩
 |.ref n,v,h=>by
  let⟨a,e,h1⟩:=h;exact⟨a,e,d _ _ h1⟩
 |.xn _ J,v,h=>by
  let⟨a,vs,e,h1,h2⟩:=h;exact⟨a,vs,e,h1,RVs.mono d b c J vs h2⟩
def RVs.mono(d:∀(n:Nat) (a:Addr),ρ[n]?=some a->ZU[n]?=some a)(b:∀a xs,SqU K H a xs->SqU K H' a xs)(c:∀a xs,SqF K H a xs->SqF K H' a xs):∀(J:List U) (vs:List V),RVs K ρ H J vs->RVs K ZU H' J vs
 |[],_,h=>h
 |u::J,vs,h=>by
  let⟨v,r,e,h1,h2⟩:=h;exact⟨v,r,e,RV.mono d b c u v h1,RVs.mono d b c J r h2⟩
end
def RV.step(s:ZM K ρ H ZU H')(u:U)(v:V)(h:RV K ρ H u v):RV K ZU H' u v:=RV.mono s.ext s.Z1 s.Zs u v h
def RVs.step(s:ZM K ρ H ZU H')(J:List U)(vs:List V)(h:RVs K ρ H J vs):RVs K ZU H' J vs:=RVs.mono s.ext s.Z1 s.Zs J vs h
def RVs.length:∀{J:List U} {vs:List V},RVs K ρ H J vs->J.length=vs.length
 |[],_,h=>by cases h;rfl
 |_::J,_,h=>by
  let⟨v,r,rfl,_,h2⟩:=h;simp[RVs.length h2]
def RVs.get:∀{J:List U} {vs:List V} {i:Nat} {u:U},RVs K ρ H J vs->J[i]?=some u ->∃v,vs[i]?=some v/\RV K ρ H u v
 |[],_,_,_,_,e=>by simp at e
 |x::J,_,0,u,h,e=>by
  let⟨v,r,rfl,h1,_⟩:=h;simp at e;subst e;exact⟨v,by simp,h1⟩
 |x::J,_,i+1,u,h,e=>by
  let⟨v,r,rfl,_,h2⟩:=h;let⟨w,b,a⟩:=RVs.get (i:=i) (u:=u) h2 (by simpa using e)
  exact⟨w,by simpa using b,a⟩
def RVs.none_of(h:RVs K ρ H J vs)(e:J[i]?=none):vs[i]?=none:=by
 have h1:=h.length;have h2:J.length<=i:=U8.mp e;exact U8.mpr (by lia)
def RVs.append:∀{J ws:List U} {vs xs:List V},RVs K ρ H J vs->RVs K ρ H ws xs->RVs K ρ H (J++ws) (vs++xs)
 |[],_,_,_,h,q=>by cases h;exact q
 |u::J,_,_,_,h,q=>by
  let⟨v,r,rfl,h1,h2⟩:=h;exact⟨v,r++_,rfl,h1,RVs.append h2 q⟩
def RVs.one(h:RV K ρ H u v):RVs K ρ H [u] [v]:=⟨v,[],rfl,h,rfl⟩
def RVs.drop:∀{J:List U} {vs:List V} (n:Nat),RVs K ρ H J vs->RVs K ρ H (J.drop n) (vs.drop n)
 |_,_,0,h=>h
 |[],_,_+1,h=>by cases h;rfl
 |u::J,_,n+1,h=>by
  let⟨v,r,rfl,h1,h2⟩:=h;exact RVs.drop n h2
def RVs.take:∀{J:List U} {vs:List V} (n:Nat),RVs K ρ H J vs->RVs K ρ H (J.take n) (vs.take n)
 |_,_,0,h=>by simp[RVs]
 |[],_,_+1,h=>by cases h;rfl
 |u::J,_,n+1,h=>by
  let⟨v,r,rfl,h1,h2⟩:=h;exact⟨v,r.take n,rfl,h1,RVs.take n h2⟩
def RVs.set{u:U}{v:V}(q:RV K ρ H u v):∀{J:List U} {vs:List V} (i:Nat),RVs K ρ H J vs->RVs K ρ H (J.set i u) (vs.set i v)
 |[],_,_,h=>by cases h;rfl
 |x::J,_,0,h=>by
  let⟨w,r,rfl,_,h2⟩:=h;exact⟨v,r,rfl,q,h2⟩
 |x::J,_,i+1,h=>by
  let⟨w,r,rfl,h1,h2⟩:=h;exact⟨w,r.set i v,rfl,h1,RVs.set q i h2⟩
def RVs.reverse:∀{J:List U} {vs:List V},RVs K ρ H J vs->RVs K ρ H J.reverse vs.reverse
 |[],_,h=>by cases h;rfl
 |u::J,_,h=>by
  let⟨v,r,rfl,h1,h2⟩:=h;rw[Rw,Rw];exact RVs.append (RVs.reverse h2) (.one h1)
def RVs.dropLast{J:List U}{vs:List V}(h:RVs K ρ H J vs):RVs K ρ H J.dropLast vs.dropLast:=by
 rw[List.dropLast_eq_take,List.dropLast_eq_take,h.length];exact h.take _
def RD(K:HY)(ρ:List Addr)(H:Hp):List (List Int×U)->List (List Key×V)->Prop
 |[],ws=>ws=[]
 |(k,u)::r,ws=>∃v s,ws=(k.map Sum.inl,v)::s/\RV K ρ H u v/\RD K ρ H r s
def RD.mono(d:∀(n:Nat) (a:Addr),ρ[n]?=some a->ZU[n]?=some a)(b:∀a xs,SqU K H a xs->SqU K H' a xs)(c:∀a xs,SqF K H a xs->SqF K H' a xs):∀(J:List (List Int×U)) (vs:List (List Key×V)),RD K ρ H J vs->RD K ZU H' J vs
 |[],_,h=>h
 |(k,u)::J,vs,h=>by
  let⟨v,r,e,h1,h2⟩:=h;exact⟨v,r,e,RV.mono d b c u v h1,RD.mono d b c J r h2⟩
def RK(K:HY)(ρ:List Addr)(H:Hp):List (Str×U)->List (Key×V)->Prop
 |[],ws=>ws=[]
 |(k,u)::r,ws=>∃v s,ws=(Sum.inr k,v)::s/\RV K ρ H u v/\RK K ρ H r s
def RK.mono(d:∀(n:Nat) (a:Addr),ρ[n]?=some a->ZU[n]?=some a)(b:∀a xs,SqU K H a xs->SqU K H' a xs)(c:∀a xs,SqF K H a xs->SqF K H' a xs):∀(J:List (Str×U)) (vs:List (Key×V)),RK K ρ H J vs->RK K ZU H' J vs
 |[],_,h=>h
 |(k,u)::J,vs,h=>by
  let⟨v,r,e,h1,h2⟩:=h;exact⟨v,r,e,RV.mono d b c u v h1,RK.mono d b c J r h2⟩
def ma:∀(f a b:Nat),a<128 ^ f->b<128 ^ f->dig f a=dig f b->a=b
 |0,a,b,h1,h2,_=>by simp at h1 h2;lia
 |f+1,a,b,h1,h2,e=>by
  rw[Nat.pow_succ]at h1 h2;simp![dig]at e;split at e
  .split at e
   .lia
   .cases e
  .split at e
   .cases e
   .have d:a % 128=b % 128:=(List.cons.inj e).1
    have c:=ma f (a / 128) (b / 128) (by lia) (by lia) (List.cons.inj e).2
    lia
def mZ{a b:Nat}(d:a<Bp)(c:b<Bp)(e:Au a=Au b):a=b:=ma 64 a b d c (by have:=Sb (λs:Str=>s.cps.toList) e;simpa[Au]using this)
def RF(K:HY)(ρ:List Addr)(H:Hp):List (Nat×U)->List (Str×V)->Prop
 |[],ws=>ws=[]
 |(j,u)::r,ws=>∃v s,ws=(Au j,v)::s/\j<Bp/\RV K ρ H u v/\RF K ρ H r s
def RF.mono(d:∀(n:Nat) (a:Addr),ρ[n]?=some a->ZU[n]?=some a)(b:∀a xs,SqU K H a xs->SqU K H' a xs)(c:∀a xs,SqF K H a xs->SqF K H' a xs):∀(J:List (Nat×U)) (vs:List (Str×V)),RF K ρ H J vs->RF K ZU H' J vs
 |[],_,h=>h
 |(k,u)::J,vs,h=>by
  let⟨v,r,e,f,h1,h2⟩:=h;exact⟨v,r,e,f,RV.mono d b c u v h1,RF.mono d b c J r h2⟩
def RF.look{j:Nat}(a:j<Bp):∀{J:List (Nat×U)} {vs:List (Str×V)},RF K ρ H J vs->(J.lookup j=none/\vs.lookup (Au j)=none) \/∃u v,J.lookup j=some u/\vs.lookup (Au j)=some v/\RV K ρ H u v
 |[],_,h=>by cases h;exact .inl ⟨rfl,rfl⟩
 |(i,u)::J,_,h=>by
  let⟨v,r,rfl,b,h1,h2⟩:=h;rw[WH,WH];by_cases e:j=i
  .subst e
   rw[Ri,Ri];exact .inr ⟨u,v,rfl,rfl,h1⟩
  .have d:(j==i)=false:=beq_false_of_ne e
   have c:(Au j==Au i)=false:=beq_false_of_ne λz=>e (mZ a b z);rw[d,c];exact RF.look a h2
def RF.put{j:Nat}{u:U}{v:V}(b:j<Bp)(a:RV K ρ H u v):∀{J:List (Nat×U)} {vs:List (Str×V)},RF K ρ H J vs->RF K ρ H (CW j u J) (AL (Au j) v vs)
 |[],_,h=>by cases h;exact⟨v,[],rfl,b,a,rfl⟩
 |(i,x)::J,_,h=>by
  let⟨w,r,rfl,c,h1,h2⟩:=h;unfold CW AL;by_cases e:i=j
  .subst e
   rw[XN rfl,XN rfl];exact⟨v,r,rfl,c,a,h2⟩
  .rw [Xy e,Xy λz=>e (mZ c b z)]
   exact⟨w,_,rfl,c,h1,RF.put b a h2⟩
def RF.length:∀{J:List (Nat×U)} {vs:List (Str×V)},RF K ρ H J vs->J.length=vs.length
 |[],_,h=>by cases h;rfl
 |(i,x)::J,_,h=>by
  let⟨w,r,rfl,a,h1,h2⟩:=h;simp[RF.length h2]
def RHO(K:HY)(ρ:List Addr)(H:Hp):Z6->HO->Prop
 |.S J,o=>∃vs,o=.S vs/\RVs K ρ H J vs
 |.ZN O,o=>∃ws,o=.dT ws/\RD K ρ H O ws
 |.Zu O,o=>∃ob ws,o=.Zw ob (.dT ws)/\RD K ρ H O ws
 |.dst O,o=>∃ws,o=.dK ws/\RK K ρ H O ws
 |.ins c J,o=>∃C dx vs,o=.ins C dx vs/\PySem.W.nsIn K mainGlobals (Au c)=some (some (.ref C))/\RF K ρ H J vs
def RO(K:HY)(ρ:List Addr)(H:Hp)(a:Addr)(o:Z6):Prop:=∃ho,H a=some ho/\RHO K ρ H o ho
def RHO.mono(f:∀(n:Nat) (a:Addr),ρ[n]?=some a->ZU[n]?=some a)(b:∀a xs,SqU K H a xs->SqU K H' a xs)(d:∀a xs,SqF K H a xs->SqF K H' a xs){o:Z6}{g:HO}(h:RHO K ρ H o g):RHO K ZU H' o g:=by
 cases o with
 |S J=>let⟨vs,e,r⟩:=h;exact⟨vs,e,RVs.mono f b d _ _ r⟩
 |ZN O=>let⟨ws,e,r⟩:=h;exact⟨ws,e,RD.mono f b d _ _ r⟩
 |Zu O=>let⟨ob,ws,e,r⟩:=h;exact⟨ob,ws,e,RD.mono f b d _ _ r⟩
 |dst O=>let⟨ws,e,r⟩:=h;exact⟨ws,e,RK.mono f b d _ _ r⟩
 |ins c J=>let⟨C,dx,vs,e,i,r⟩:=h;exact⟨C,dx,vs,e,i,RF.mono f b d _ _ r⟩
def RHO.step(s:ZM K ρ H ZU H'){o:Z6}{a:HO}(h:RHO K ρ H o a):RHO K ZU H' o a:=h.mono s.ext s.Z1 s.Zs
def RO.step(s:ZM K ρ H ZU H'){a:Addr}{o:Z6}(e:∀b,H a=some b->H' a=some b)(h:RO K ρ H a o):RO K ZU H' a o:=
 let⟨b,c,r⟩:=h;⟨b,e b c,r.step s⟩
structure RH(K:HY)(ρ:List Addr)(H:Hp)(g:G):Prop where
 len:ρ.length=g.length
 inj:∀(i j:Nat) (a:Addr),ρ[i]?=some a->ρ[j]?=some a->i=j
 obj:∀(n:Nat) (a:Addr) (o:Z6),ρ[n]?=some a->g[n]?=some o->RO K ρ H a o
def RH.at(h:RH K ρ H g){o:Z6}(e:g[n]?=some o):∃a,ρ[n]?=some a/\RO K ρ H a o:=by
 have c:n<g.length:=(Yh.mp e).1;have b:n<ρ.length:=by rw[h.len];exact c
 exact⟨ρ[n],Vj b,h.obj n ρ[n] _ (Vj b) e⟩
def RH.S(h:RH K ρ H g){n:Nat}{J:List U}(e:g[n]?=some (.S J)):∃a vs,ρ[n]?=some a/\H a=some (.S vs)/\RVs K ρ H J vs:=by
 let⟨a,h1,ho,h2,vs,rfl,b⟩:=h.at e;exact⟨a,vs,h1,h2,b⟩
def RH.ZN(h:RH K ρ H g){n:Nat}{O:List (List Int×U)}(e:g[n]?=some (.ZN O)):∃a ws,ρ[n]?=some a/\H a=some (.dT ws)/\RD K ρ H O ws:=by
 let⟨a,h1,ho,h2,vs,rfl,b⟩:=h.at e;exact⟨a,vs,h1,h2,b⟩
def RH.Zu(h:RH K ρ H g){n:Nat}{O:List (List Int×U)}(e:g[n]?=some (.Zu O)):∃a b ws,ρ[n]?=some a/\H a=some (.Zw b (.dT ws))/\RD K ρ H O ws:=by
 let⟨a,h1,ho,h2,b,vs,rfl,c⟩:=h.at e;exact⟨a,b,vs,h1,h2,c⟩
def RH.dst(h:RH K ρ H g){n:Nat}{O:List (Str×U)}(e:g[n]?=some (.dst O)):∃a ws,ρ[n]?=some a/\H a=some (.dK ws)/\RK K ρ H O ws:=by
 let⟨a,h1,ho,h2,vs,rfl,b⟩:=h.at e;exact⟨a,vs,h1,h2,b⟩
def RH.ins(h:RH K ρ H g){n c:Nat}{b:List (Nat×U)}(e:g[n]?=some (.ins c b)):∃a C dx vs,ρ[n]?=some a/\H a=some (.ins C dx vs)/\PySem.W.nsIn K mainGlobals (Au c)=some (some (.ref C))/\RF K ρ H b vs:=by
 let⟨a,h1,ho,h2,C,dx,vs,rfl,f,d⟩:=h.at e;exact⟨a,C,dx,vs,h1,h2,f,d⟩
def RH.there(h:RH K ρ H g)(e:ρ[n]?=some a):∃o,H a=some o:=by
 have b:n<ρ.length:=(Yh.mp e).1;have c:n<g.length:=by rw[<-h.len];exact b
 let⟨ho,h1,_⟩:=h.obj n a g[n] e (Vj c);exact⟨ho,h1⟩
def tX(h:SqU K H a xs)(hp:a≠p):SqU K (upd H p o) a xs:=by
 unfold SqU;rw[aa hp];exact h
def tO(h:SqF K H a xs)(hp:a≠p):SqF K (upd H p o) a xs:=by
 rcases h with⟨ob,h⟩|h
 .exact .inl ⟨ob,by rw[aa hp];exact h⟩
 .exact .inr h
def BH:HO->Prop
 |.S _=>True
 |.dT _=>True
 |.dK _=>True
 |.ins _ _ _=>True
 |_=>False
def a9(h:SqU K H a xs)(hp:H p=none \/∃b,H p=some b/\BH b):SqU K (upd H p o) a xs:=
 tX h (by rintro rfl;rcases hp with z|⟨ys,z,m⟩<;>· unfold SqU at h;rw[h]at z;cases z;try exact m)
def ba(h:SqF K H a xs)(hp:H p=none \/∃b,H p=some b/\BH b):SqF K (upd H p o) a xs:=by
 rcases h with⟨ob,h⟩|h
 .exact tO (.inl ⟨ob,h⟩) (by rintro rfl;rcases hp with z|⟨ys,z,m⟩<;>· rw[h]at z;cases z;try exact m)
 .exact .inr h
def ZM.fresh(hp:H p=none):ZM K ρ H ρ (upd H p o) where
 ext:=λ_ _ h=>h
 new:=λ_ _ h=>.inl h
 Yc:=λa u h _=>by rw[aa (aK h hp)];exact h
 live:=λa h=>by
  by_cases e:a=p
  .subst e;rw[upd_same];simp
  .rw [aa e];exact h
 Z1:=λa xs h=>a9 h (.inl hp)
 Zs:=λa xs h=>ba h (.inl hp)
 Zw:=λa ob u h=>by rw[aa (aK h hp)];exact h
def RH.step_fresh(h:RH K ρ H g)(hp:H p=none):RH K ρ (upd H p o) g where
 len:=h.len
 inj:=h.inj
 obj:=λn a ob h1 h2=>(h.obj n a ob h1 h2).step (ZM.fresh hp) λho e=>by rw[aa (aK e hp)];exact e
def ZM.alloc{ho:HO}(hp:H p=none):ZM K ρ H (ρ++[p]) (upd H p ho) where
 ext:=λn a h=>by rw[Wt (Yh.mp h).1];exact h
 new:=λn a h=>by
  by_cases hn:n<ρ.length
  .rw [Wt hn]at h;exact .inl h
  .rw [WB (by lia)]at h
   have:a=p:=by
    cases hk:n-ρ.length with
    |zero=>rw[hk]at h;simpa using h.symm
    |succ k=>rw[hk]at h;simp at h
   subst this;exact .inr hp
 Yc:=λa u h _=>by rw[aa (aK h hp)];exact h
 live:=(ZM.fresh (K:=K) (ρ:=ρ) hp).live
 Z1:=λa xs h=>a9 h (.inl hp)
 Zs:=λa xs h=>ba h (.inl hp)
 Zw:=λa ob u h=>by rw[aa (aK h hp)];exact h
def RH.TJ{ob:Z6}{ho:HO}(h:RH K ρ H g)(hp:H p=none)(r:RHO K ρ H ob ho):RH K (ρ++[p]) (upd H p ho) (g++[ob]) where
 len:=by simp[h.len]
 inj:=λi j a h1 h2=>by
  have key:∀k b,(ρ++[p])[k]?=some b->(k<ρ.length/\ρ[k]?=some b)\/(k=ρ.length/\b=p):=λk b e=>by
   by_cases hk:k<ρ.length
   .rw [Wt hk]at e;exact .inl ⟨hk,e⟩
   .rw [WB ()]at e
    cases hd:k-ρ.length with
    |zero=>rw[hd]at e;exact .inr ⟨by lia,by simpa using e.symm⟩
    |succ m=>rw[hd]at e;simp at e
  have noP:∀k,ρ[k]? ≠ some p:=λk e=>by
   let⟨o,ho⟩:=h.there e;rw[hp]at ho;cases ho
  rcases key i a h1 with⟨_,e1⟩|⟨e1,Zc⟩
  .rcases key j a h2 with⟨_,e2⟩|⟨e2,VC⟩
   .exact h.inj i j a e1 e2
   .subst VC;exact absurd e1 (noP i)
  .rcases key j a h2 with⟨_,e2⟩|⟨e2,VC⟩
   .subst Zc;exact absurd e2 (noP j)
   .lia
 obj:=λn a o h1 h2=>by
  by_cases hn:n<ρ.length
  .rw [Wt hn]at h1
   rw[Wt (by rw[<-h.len];exact hn)]at h2
   exact(h.obj n a o h1 h2).step (ZM.alloc hp) λho e=>by rw[aa (aK e hp)];exact e
  .have hl:=h.len
   rw[WB (by lia)]at h1
   rw[WB (by lia)]at h2
   rw[<-hl]at h2;cases hd:n-ρ.length with
   |zero=>
    rw[hd]at h1 h2;have e1:a=p:=by simpa using h1.symm
    have e2:o=ob:=by simpa using h2.symm
    subst e1;subst e2;exact⟨ho,upd_same,r.step (ZM.alloc hp)⟩
   |succ m=>rw[hd]at h1;simp at h1
def RH.alloc(h:RH K ρ H g)(hp:H p=none)(r:RVs K ρ H J vs):RH K (ρ++[p]) (upd H p (.S vs)) (g++[.S J]):=h.TJ hp ⟨vs,rfl,r⟩
def ZM.XX{x y:HO}(hn:ρ[n]?=some a)(ha:H a=some x)(hm:BH x):ZM K ρ H ρ (upd H a y) where
 ext:=λ_ _ h=>h
 new:=λ_ _ h=>.inl h
 Yc:=λb u h hb=>by
  have:b≠a:=λe=>hb (e ▸ UN.mpr ⟨n,hn⟩);rw[aa this];exact h
 live:=λb h=>by
  by_cases e:b=a
  .subst e;rw[upd_same];simp
  .rw [aa e];exact h
 Z1:=λb zs h=>a9 h (.inr ⟨_,ha,hm⟩)
 Zs:=λb zs h=>ba h (.inr ⟨_,ha,hm⟩)
 Zw:=λb ob u h=>by rw[aa (cJ h ha (by rintro rfl;exact hm))];exact h
def ZM.write{b:List V}(c:ρ[n]?=some a)(d:H a=some (.S xs)):ZM K ρ H ρ (upd H a (.S b)):=ZM.XX c d trivial
def RH.XX{n:Nat}{a:Addr}{x y:HO}{ob:Z6}(h:RH K ρ H g)(hn:ρ[n]?=some a)(ha:H a=some x)(hm:BH x)(r:RHO K ρ H ob y):RH K ρ (upd H a y) (g.set n ob) where
 len:=by simp[h.len]
 inj:=h.inj
 obj:=λm b o h1 h2=>by
  by_cases e:m=n
  .subst e
   rw[hn]at h1;cases h1;rw[UE (by rw[<-h.len];exact(Yh.mp hn).1)]at h2
   cases h2;exact⟨y,upd_same,r.step (ZM.XX hn ha hm)⟩
  .rw [X9 (Ne.symm e)]at h2
   have ne:b≠a:=λz=>e (h.inj m n a (z ▸ h1) hn);exact(h.obj m b o h1 h2).step (ZM.XX hn ha hm) λho e1=>by rw[aa ne];exact e1
def RH.write{b:List V}(h:RH K ρ H g)(c:ρ[n]?=some a)(d:H a=some (.S xs))(r:RVs K ρ H J b):RH K ρ (upd H a (.S b)) (g.set n (.S J)):=h.XX c d trivial ⟨b,rfl,r⟩
structure RS(K:HY)(ρ:List Addr)(H:Hp)(Z2:Su)(Y:L2.St):Prop where
 len:Z2.length=Y.length
 val:∀(i:Nat) (u:U),Z2[i]?=some (some u) ->∃v,Y[i]?=some (some v)/\RV K ρ H u v
def RS.step{a:Su}{Y:L2.St}(h:RS K ρ H a Y)(s:ZM K ρ H ZU H'):RS K ZU H' a Y:=
 ⟨h.len,λi u e=>let⟨v,b,r⟩:=h.val i u e;⟨v,b,RV.step s _ _ r⟩⟩
def RS.set{Z2:Su}{Y:L2.St}{i:Nat}{u:U}{v:V}(h:RS K ρ H Z2 Y)(r:RV K ρ H u v):RS K ρ H (Z2.set i (some u)) (Y.set i (some v)) where
 len:=by simp[h.len]
 val:=λj w e=>by
  by_cases hj:j=i
  .subst hj
   have hl:j<Z2.length:=by
    have:=(Yh.mp e).1;simpa using this
   rw[UE hl]at e;cases e;exact⟨v,by rw[UE (by rw[<-h.len];exact hl)],r⟩
  .rw [X9 (Ne.symm hj)]at e
   let⟨x,e1,e2⟩:=h.val j w e;exact⟨x,by rw[X9 (Ne.symm hj)];exact e1,e2⟩
end
abbrev XQ:=Nat->List V->Hp->Prop
section
variable(K:HY)(W:XQ)
def post{b a:Type}(R:List Addr->Hp->b->a->Prop)(o:Out b)(ρ:List Addr)(H:Hp)(Q:a->Hp->Prop):Prop:=match o with
 |.ok u g=>∀v ZU H',ZM K ρ H ZU H'->RH K ZU H' g->R ZU H' u v->Q v H'
 |.exc c fs g=>∀vs ZU H',ZM K ρ H ZU H'->RH K ZU H' g->RVs K ZU H' fs vs->W c vs H'
 |.Z0=>False
def J8(o:Out Fl)(ρ:List Addr)(H:Hp)(D:Ends):Prop:=match o with
 |.ok (.nx Z2) g=>∀Y ZU H',ZM K ρ H ZU H'->RH K ZU H' g->RS K ZU H' Z2 Y->D.nx Y H'
 |.ok (.bk Z2) g=>∀Y ZU H',ZM K ρ H ZU H'->RH K ZU H' g->RS K ZU H' Z2 Y->D.bk Y H'
 |.ok (.ct Z2) g=>∀Y ZU H',ZM K ρ H ZU H'->RH K ZU H' g->RS K ZU H' Z2 Y->D.ct Y H'
 |.ok (.rt u) g=>∀v ZU H',ZM K ρ H ZU H'->RH K ZU H' g->RV K ZU H' u v->D.rt v H'
 |.exc c fs g=>∀vs ZU H',ZM K ρ H ZU H'->RH K ZU H' g->RVs K ZU H' fs vs->W c vs H'
 |.Z0=>False
abbrev Yj{α:Type}:List Addr->Hp->α->α->Prop:=λ_ _ a b=>a=b
inductive tR{α β:Type}(R:List Addr->Hp->α->β->Prop)(f:Su->G->Out α)(Y:L2.St)(H:Hp)(Q:β->Hp->Prop):Prop
 |mk (Z2:Su) (ρ:List Addr) (g:G) (hs:RS K ρ H Z2 Y) (hg:RH K ρ H g) (p:post K W R (f Z2 g) ρ H Q)
abbrev tE(f:Su->G->Out U):TE:=tR K W (RV K) f
abbrev tT(f:Su->G->Out Bool):TT:=tR K W Yj f
abbrev XW(f:Su->G->Out (List U)):TA:=tR K W (RVs K) f
inductive PB{α β V5 V4:Type}(R:List Addr->Hp->α->β->Prop)(R':List Addr->Hp->V5->V4->Prop)(ρ:List Addr)(H:Hp)(k:α->G->Out V5)(Q:V4->Hp->Prop)(v:β)(H1:Hp):Prop
 |mk (ZS:List Addr) (u:α) (g1:G) (s:ZM K ρ H ZS H1) (h:RH K ZS H1 g1) (r:R ZS H1 u v) (p:post K W R' (k u g1) ZS H1 Q)
inductive PC{α β:Type}(R:List Addr->Hp->α->β->Prop)(ρ:List Addr)(H:Hp)(k:α->G->Out Fl)(D:Ends)(v:β)(H1:Hp):Prop
 |mk (ZS:List Addr) (u:α) (g1:G) (s:ZM K ρ H ZS H1) (h:RH K ZS H1 g1) (r:R ZS H1 u v) (p:J8 K W (k u g1) ZS H1 D)
inductive ZF(f:Su->G->Out Fl)(D:Ends)(Y:L2.St)(H:Hp):Prop
 |mk (Z2:Su) (ρ:List Addr) (g:G) (hs:RS K ρ H Z2 Y) (hg:RH K ρ H g) (p:J8 K W (f Z2 g) ρ H D)
end
section
variable{W:XQ}{V5 V4:Type}{R:List Addr->Hp->α->β->Prop}{R':List Addr->Hp->V5->V4->Prop}
def post.from{o:Out α}{Q:β->Hp->Prop}(h:post K W R o ρ H Q)(s:ZM K ρ H ZU H'):post K W R o ZU H' Q:=by
 cases o with
 |Z0=>exact h
 |_=>exactλv b H2 a=>h v b H2 (s.trans a)
def J8.from{o:Out Fl}(h:J8 K W o ρ H D)(s:ZM K ρ H ZU H'):J8 K W o ZU H' D:=by
 cases o with
 |ok f g=>cases f<;>exactλv b H2 a=>h v b H2 (s.trans a)
 |exc c fs g=>exactλv b H2 a=>h v b H2 (s.trans a)
 |Z0=>exact h
def post.bind{o:Out α}{k:α->G->Out V5}{Q:V4->Hp->Prop}(h:post K W R' (o.bind k) ρ H Q):
  post K W R o ρ H (PB K W R R' ρ H k Q):=by
 cases o with
 |ok u g=>exactλv d H1 a h1 b=>⟨d,u,g,a,h1,b,post.from (o:=k u g) h a⟩
 |_=>exact h
def J8.bind{o:Out α}{k:α->G->Out Fl}{D:Ends}(h:J8 K W (o.bind k) ρ H D):
  post K W R o ρ H (PC K W R ρ H k D):=by
 cases o with
 |ok u g=>exactλv d H1 a h1 b=>⟨d,u,g,a,h1,b,J8.from (o:=k u g) h a⟩
 |_=>exact h
def post.mono{o:Out α}{Q Q':β->Hp->Prop}(h:post K W R o ρ H Q)(q:∀v H1,Q v H1->Q' v H1):post K W R o ρ H Q':=by
 cases o with
 |ok u g=>exactλv d H1 a h1 b=>q _ _ (h v d H1 a h1 b)
 |exc c fs g=>exact h
 |Z0=>exact h
def post.Zh{u:α}{v:β}{Q:β->Hp->Prop}(h:post K W R (.ok u g) ρ H Q)(a:RH K ρ H g)(r:R ρ H u v):Q v H:=h v ρ H .refl a r
def post.lift{o:Option α}{g:G}{Q:β->Hp->Prop}(h:post K W R (lift o g) ρ H Q):∃u,o=some u/\post K W R (.ok u g) ρ H Q:=by
 cases o with
 |none=>exact h.elim
 |some u=>exact⟨u,rfl,h⟩
end
def _root_.L2.PE.imp{t t':TE}(h:PE X e t)(q:∀Y H Q,t' Y H Q->t Y H Q):PE X e t':=λZ s Y H Q I h'=>h Z s Y H Q I (q Y H Q h')
def _root_.L2.PT.imp{t t':TT}(h:PT X e t)(q:∀Y H Q,t' Y H Q->t Y H Q):PT X e t':=λZ s Y H Q I h'=>h Z s Y H Q I (q Y H Q h')
def _root_.L2.PW.imp{t t':TT}(h:PW X e t)(q:∀Y H Q,t' Y H Q->t Y H Q):PW X e t':=λa Z s Y H Q I h'=>h a Z s Y H Q I (q Y H Q h')
def _root_.L2.PA.imp{e:List Expr}{t t':TA}(h:PA X e t)(q:∀Y H Q,t' Y H Q->t Y H Q):PA X e t':=λpos Z s Y H Q I h'=>h pos Z s Y H Q I (q Y H Q h')
variable{W:XQ}{f:Su->G->Out Fl}{w:U}{x:V}{v v':Value}{q:U->U->Option Bool}{n:Str}
def _root_.L2.PS.imp{e:Stmt}{t t':TS}(h:PS X e t)(q:∀D Y H,t' D Y H->t D Y H):PS X e t':=λZ s Y H Q I h'=>h Z s Y H Q I (q Q Y H h')
def _root_.L2.PSs.imp{e:List Stmt}{t t':TS}(h:PSs X e t)(q:∀D Y H,t' D Y H->t D Y H):PSs X e t':=λZ s Y H Q I h'=>h Z s Y H Q I (q Q Y H h')
def _root_.L2.PE.Z0{X:Cx}{e:Expr}{K:HY}{W:XQ}{f:Su->G->Out U}(h:∀Y g,f Y g=.Z0):PE X e (tE K W f):=λZ s Y H Q I ⟨Z2,ρ,g,_,_,p⟩=>by rw[h]at p;exact p.elim
def _root_.L2.PT.Z0{X:Cx}{e:Expr}{K:HY}{W:XQ}{f:Su->G->Out Bool}(h:∀Y g,f Y g=.Z0):PT X e (tT K W f):=λZ s Y H Q I ⟨Z2,ρ,g,_,_,p⟩=>by rw[h]at p;exact p.elim
def _root_.L2.PSs.Z0{X:Cx}{e:List Stmt}{K:HY}{W:XQ}{f:Su->G->Out Fl}(h:∀Y g,f Y g=.Z0):PSs X e (ZF K W f):=λZ s Y H Q I ⟨Z2,ρ,g,_,_,p⟩=>by rw[h]at p;exact p.elim
def _root_.L2.PS.Z0{X:Cx}{e:Stmt}{K:HY}{W:XQ}{f:Su->G->Out Fl}(h:∀Y g,f Y g=.Z0):PS X e (ZF K W f):=λZ s Y H Q I ⟨Z2,ρ,g,_,_,p⟩=>by rw[h]at p;exact p.elim
section
variable{W':XQ}
def qj{o:Out Fl}(h:J8 K W o.Y3 ρ H D):J8 K W' o ρ H D:=by
 cases o with
 |ok a g=>cases a<;>exact h
 |exc _ _ _=>exact h.elim
 |Z0=>exact h
def bV{b d:Type}{R:List Addr->Hp->α->β->Prop}{e:List Addr->Hp->b->d->Prop}{o:Out α}{k:α->G->Out b}{Q:d->Hp->Prop}(h:post K W e (o.Y3.bind k) ρ H Q):
  post K W' R o ρ H (PB K W R e ρ H k Q):=by
 cases o with
 |ok u g=>exactλv i H1 a h1 f=>⟨i,u,g,a,h1,f,post.from (o:=k u g) h a⟩
 |exc c fs g=>exact h.elim
 |Z0=>exact h
def dB{R:List Addr->Hp->α->β->Prop}{o:Out α}{k:α->G->Out Fl}(h:J8 K W (o.Y3.bind k) ρ H D):
  post K W' R o ρ H (PC K W R ρ H k D):=by
 cases o with
 |ok u g=>exactλv d H1 a h1 b=>⟨d,u,g,a,h1,b,J8.from (o:=k u g) h a⟩
 |exc c fs g=>exact h.elim
 |Z0=>exact h
end
section
def RV.flat(c:RV K ρ H u x)(a:RV K ρ H w y)(e:Aw u w=some b):Dk x=true/\Dk y=true/\Jy x y=b:=by
 cases u<;>cases w<;>simp![Aw,Xa,reduceCtorEq]at e<;>(subst e;cases c;cases a;exact⟨rfl,rfl,rfl⟩)
def dS:∀{J ws:List U} {vs:List V} {b:Bool},RVs K ρ H J vs->RVs K ρ H ws vs->Ay J ws=some b->b=true
 |[],[],_,b,_,_,e=>by simpa[Ay]using e.symm
 |[],_::_,_,b,_,_,e=>by simp[Ay]at e
 |_::_,[],_,b,_,_,e=>by simp[Ay]at e
 |u::J,w::ws,_,b,h1,h2,e=>by
  let⟨v,r,rfl,j,i⟩:=h1;let⟨v',r',e',h,g⟩:=h2;cases e';simp![Ay]at e;cases a:Aw u w with
  |none=>simp[a]at e
  |some c=>
   cases f:Ay J ws with
   |none=>simp[a,f]at e
   |some d=>
    simp![a,f,Xa]at e;subst e;rw[dS i g f];have:c=true:=by
     cases u<;>cases w<;>simp![Aw,Xa,reduceCtorEq]at a<;>(subst a;cases j;cases h;try simp)
    simp[this]
def J9:U->Bool
 |.ZR|.bl _|.int _|.str _=>true
 |_=>false
def lg{z:U}(e:Aw u z=some b):J9 u=true:=by
 cases u<;>first|rfl|(cases z<;>cases e)
def abI{a:U}{v:V}(c:RV K ρ H u v)(b:RV K ρ H a v)(e:J9 u=true)(d:J9 a=true):u=a:=by
 cases u<;>first|(cases e;done)|(cases c;cases a<;>first|(cases d;done)|(cases b<;>rfl))
def ml{a z c:U}{v:V}{h:Bool}(f:RV K ρ H u v)(d:RV K ρ H a v)(e:Aw u z=some b)(g:Aw a c=some h):u=a:=abI f d (lg e) (lg g)
def lF:∀{J f zs:List U} {vs:List V} {b b':Bool},RVs K ρ H J vs->RVs K ρ H f vs->Ay J zs=some b->Ay f zs=some b'->J=f
 |[],_,_,_,_,_,h1,h2,_,_=>by
  cases h1;have:=h2.length;simp at this;exact this.symm
 |_::_,_,[],_,_,_,_,_,e,_=>by simp[Ay]at e
 |u::J,[],_,_,_,_,h1,h2,_,_=>by
  let⟨v,r,rfl,_,_⟩:=h1;cases h2
 |u::J,j::f,z::zs,_,b,b',h1,h2,e,e'=>by
  let⟨v,r,rfl,n,m⟩:=h1;let⟨v',r',q,l,k⟩:=h2;cases q;simp![Ay]at e e';cases g:Aw u z with
  |none=>simp[g]at e
  |some c=>
   cases h:Ay J zs with
   |none=>simp[g,h]at e
   |some d=>
    cases a:Aw j z with
    |none=>simp[a]at e'
    |some c'=>
     cases i:Ay f zs with
     |none=>simp[a,i]at e'
     |some d'=>rw[ml n l g a,lF m k h i]
def dX(e:JC u w=some b):(∃J ws,u=.Z1 J/\w=.Z1 ws/\Ay J ws=some b)\/Aw u w=some b:=by
 cases u<;>cases w<;>first|exact .inr e|exact .inl ⟨_,_,rfl,rfl,e⟩
end
section
variable{Y:L2.St}
def vJ(g:RV K ρ H u x)(d:RV K ρ H w y)(f:RelV x v)(c:RelV y v')(e:Aw u w=some b):SeqAt.RcAt A s v v' b:=by
 cases u with
 |ZR=>
  cases g;cases f;cases w<;>simp![Aw,Xa,reduceCtorEq]at e
  .subst e;cases d;cases c;exact SeqAt.RcAt.none_none
  .subst e;cases d;cases c;exact SeqAt.RcAt.none_bool _
  .subst e;cases d;let⟨t',rfl⟩:=c;exact SeqAt.RcAt.none_int _ _
  .subst e;cases d;let⟨t',rfl⟩:=c;exact SeqAt.RcAt.none_str _ _
 |bl a=>
  cases g;cases f;cases w<;>simp![Aw,Xa,reduceCtorEq]at e
  .subst e;cases d;cases c;exact SeqAt.RcAt.bool_none _
  .subst e;cases d;cases c;exact SeqAt.RcAt.bool_bool _ _
  .subst e;cases d;let⟨t',rfl⟩:=c;exact SeqAt.RcAt.bool_int _ _ _
  .subst e;cases d;let⟨t',rfl⟩:=c;exact SeqAt.RcAt.bool_str _ _ _
 |int a=>
  cases g;let⟨t,rfl⟩:=f;cases w<;>simp![Aw,Xa,reduceCtorEq]at e
  .subst e;cases d;cases c;exact SeqAt.RcAt.int_none _ _
  .subst e;cases d;cases c;exact SeqAt.RcAt.int_bool _ _ _
  .subst e;cases d;let⟨t',rfl⟩:=c;exact SeqAt.RcAt.int_int _ _ _ _
  .subst e;cases d;let⟨t',rfl⟩:=c;exact SeqAt.RcAt.int_str _ _ _ _
 |str a=>
  cases g;let⟨t,rfl⟩:=f;cases w<;>simp![Aw,Xa,reduceCtorEq]at e
  .subst e;cases d;cases c;exact SeqAt.RcAt.str_none _ _
  .subst e;cases d;cases c;exact SeqAt.RcAt.str_bool _ _ _
  .subst e;cases d;let⟨t',rfl⟩:=c;exact SeqAt.RcAt.str_int _ _ _ _
  .subst e;cases d;let⟨t',rfl⟩:=c;exact SeqAt.RcAt.str_str _ _ _ _
 |_=>simp[Aw]at e
def jJ{K:HY}{ρ:List Addr}:∀{J ws:List U} {xs ys:List V} {vs o:List Value} {b:Bool},RVs K ρ H J xs->RVs K ρ H ws ys->ZK xs vs->ZK ys o->Ay J ws=some b ->
  ∃e:Nat->Bool,vs.length=o.length/\(∀j (h1:j<vs.length) (h2:j<o.length),SeqAt.EqAt A s vs[j] o[j] (e j))/\(List.range vs.length).all e=b
 |[],[],_,_,_,_,b,h1,h2,g,a,e=>by
  cases h1;cases h2;cases g;cases a;simp![Ay,Xa]at e;subst e;exact⟨λ_=>true,rfl,λj h1=>absurd h1 #[3],rfl⟩
 |[],_::_,_,_,_,_,b,h1,h2,g,a,e=>by simp[Ay]at e
 |_::_,[],_,_,_,_,b,h1,h2,g,a,e=>by simp[Ay]at e
 |u::J,w::ws,_,_,_,_,b,h1,h2,g,a,e=>by
  let⟨x,xs,rfl,M,L⟩:=h1;let⟨y,ys,rfl,I,G⟩:=h2;cases g with
  |cons z g=>
  cases a with
  |cons t a=>
  simp![Ay]at e;cases k:Aw u w with
  |none=>simp[k]at e
  |some c=>
   cases r:Ay J ws with
   |none=>simp[k,r]at e
   |some d=>
    simp![k,r,Xa]at e;subst e;let⟨f,l,B,C⟩:=jJ L G g a r;let⟨E,D,F⟩:=M.flat I k;refine⟨λj=>match j with|0=>c|j+1=>f j,by simp[l],λj h1 h2=>?_,?_⟩
    .cases j with
     |zero=>subst F;exact hZ z t E D
     |succ j=>exact B j (by simpa using h1) (by simpa using h2)
    .subst C
     rw[X8,Pa,RU,List.all_map]
     rfl
def nS(I:Z4 X Z Y H s)(p:A.units<cLine)(i:RV X.K ρ H u x)(h:RV X.K ρ H w y)(g:RelV x v)(d:RelV y v')(e:JC u w=some b):SeqAt.RcAt A s v v' b:=by
 by_cases k:∃J ws,u=.Z1 J/\w=.Z1 ws
 .obtain ⟨J,ws,rfl,rfl⟩:=k
  let⟨a,xs,rfl,h1,h2⟩:=i;let⟨a',ys,rfl,z,t⟩:=h;cases g;cases d;let⟨ZY,n,o,_⟩:=I.tuple h1.sq;let⟨c,m,p2,_⟩:=I.tuple z.sq;let⟨f,l,q,r⟩:=jJ (A:=A.in1) (s:=s) h2 t n m e;have:=SeqAt.RcAt.tuples (A:=A) (s:=s) (l:=a) (b:=a') (items:=ZY.toArray) (items2:=c.toArray) (e:=f) o p2 p (λj h1 h2=>by simpa using q j (by simpa using h1) (by simpa using h2))
  have B:((List.range (min ZY.toArray.size c.toArray.size)).all f&&ZY.toArray.size==c.toArray.size)=b:=by simp[<-l,r]
  rw[B]at this;exact this
 .have e':Aw u w=some b:=by
   cases u<;>cases w<;>first|exact e|exact absurd ⟨_,_,rfl,rfl⟩ k
  exact vJ i h g d e'
def iA(I:Z4 X Z Y H s)(j:A.units<cLine)(g:RV X.K ρ H u x)(f:RV X.K ρ H w y)(d:RelV x v)(c:RelV y v')(e:JC u w=some b):SeqAt.EqAt A s v v' b:=by
 by_cases h:∃J ws,u=.Z1 J/\w=.Z1 ws
 .have rc:=nS I j g f d c e
  let⟨J,ws,rfl,rfl⟩:=h;let⟨a,xs,rfl,h1,h2⟩:=g;let⟨a',ys,rfl,l,k⟩:=f;cases d;cases c;by_cases i:a=a'
  .subst i
   obtain rfl:=I.UD h1.sq l.sq;have:=dS h2 k e;subst this;exact Ph _
  .exact SeqAt.EqAt.of_refs i rc
 .have e':Aw u w=some b:=by
   cases u<;>cases w<;>first|exact e|exact absurd ⟨_,_,rfl,rfl⟩ h
  let⟨n,m,o⟩:=g.flat f e';subst o;exact hZ d c n m
def s8(I:Z4 X Z Y H s)(d:RV X.K ρ H u y)(c:RV X.K ρ H w y)(e:JC u w=some b):b=true:=by
 rcases dX e with⟨J,ws,rfl,rfl,e⟩|e
 .obtain ⟨a,xs,rfl,h,t2⟩:=d
  let⟨a',ys,q,g,f⟩:=c;cases q;obtain rfl:=I.UD h.sq g.sq;exact dS t2 f e
 .have:=dS (b:=b&&true) (RVs.one d) (RVs.one c) (by simp![Ay,e])
  simpa using this
def eF{ρ:List Addr}{q:U->U->Option Bool}(m:∀u w x y v v' b,RV X.K ρ H u x->RV X.K ρ H w y->RelV x v->RelV y v'->q u w=some b->SeqAt.EqAt A s v v' b):∀{J ws:List U} {xs ys:List V} {ZY its':List Value} {b:Bool},RVs X.K ρ H J xs->RVs X.K ρ H ws ys->ZK xs ZY->ZK ys its'->JJ q J ws=some b ->
  ∃f:Nat->Bool,ZY.length=its'.length/\(∀j (h1:j<ZY.length) (h2:j<its'.length),SeqAt.EqAt A s ZY[j] its'[j] (f j))/\(List.range ZY.length).all f=b
 |[],[],_,_,_,_,b,h1,h2,g,a,e=>by
  cases h1;cases h2;cases g;cases a;simp![JJ,Xa]at e;subst e;exact⟨λ_=>true,rfl,λj h=>by simp at h,rfl⟩
 |[],_::_,_,_,_,_,_,_,_,_,_,e=>by simp[JJ]at e
 |_::_,[],_,_,_,_,_,_,_,_,_,e=>by simp[JJ]at e
 |u::J,w::ws,_,_,_,_,b,h1,h2,g,a,e=>by
  let⟨x,xs,rfl,C,B⟩:=h1;let⟨y,ys,rfl,z,t⟩:=h2;cases g with
  |cons o g=>
  cases a with
  |cons n a=>
  simp![JJ]at e;cases i:q u w with
  |none=>simp[i]at e
  |some c=>
   cases k:JJ q J ws with
   |none=>simp[i,k]at e
   |some d=>
    simp![i,k,Xa]at e;subst e;let⟨f,l,p,r⟩:=eF m B t g a k;refine⟨λj=>match j with|0=>c|j+1=>f j,by simp[l],λj h1 h2=>?_,?_⟩
    .cases j with
     |zero=>exact m u w x y _ _ c C z o n i
     |succ j=>exact p j (by simpa using h1) (by simpa using h2)
    .subst r
     rw[X8,Pa,RU,List.all_map]
     rfl
def lL{ρ:List Addr}{q:U->U->Option Bool}(g:∀u w y b,RV X.K ρ H u y->RV X.K ρ H w y->q u w=some b->b=true):∀{J ws:List U} {xs:List V} {b:Bool},RVs X.K ρ H J xs->RVs X.K ρ H ws xs->JJ q J ws=some b->b=true
 |[],[],_,b,_,_,e=>by simpa[JJ]using e.symm
 |[],_::_,_,_,_,_,e=>by simp[JJ]at e
 |_::_,[],_,_,_,_,e=>by simp[JJ]at e
 |u::J,w::ws,_,b,h1,h2,e=>by
  let⟨x,xs,rfl,k,j⟩:=h1;let⟨y,ys,z,i,h⟩:=h2;cases z;simp![JJ]at e;cases a:q u w with
  |none=>simp[a]at e
  |some c=>
   cases f:JJ q J ws with
   |none=>simp[a,f]at e
   |some d=>
    simp![a,f,Xa]at e;rw[<-e,g u w _ c k i a,lL g j h f]
    rfl
def yt(I:Z4 X Z Y H s)(C:A.units+1<cLine)(n:RV X.K ρ H u x)(m:RV X.K ρ H w y)(k:RelV x v)(i:RelV y v')(e:G0 u w=some b):SeqAt.EqAt A s v v' b:=by
 by_cases o:∃J ws,u=.Z1 J/\w=.Z1 ws
 .obtain ⟨J,ws,rfl,rfl⟩:=o
  let⟨a,xs,rfl,h1,h2⟩:=n;let⟨a',ys,rfl,r,q⟩:=m;cases k;cases i;have e:JJ JC J ws=some b:=e;by_cases p:a=a'
  .subst p
   obtain rfl:=I.UD h1.sq r.sq;have:=lL (λu w y b g d h=>s8 I g d h) h2 q e;subst this;exact Ph _
  .refine SeqAt.EqAt.of_refs p ?_
   let⟨ZY,g,B,_⟩:=I.tuple h1.sq;let⟨c,d,p2,_⟩:=I.tuple r.sq;let⟨f,l,D,E⟩:=eF (A:=A.in1) (s:=s) (λu w x y v v' b g d h z t=>iA (A:=A.in1) I C g d h z t) h2 q g d e;have:=SeqAt.RcAt.tuples (A:=A) (s:=s) (l:=a) (b:=a') (items:=ZY.toArray) (items2:=c.toArray) (e:=f) B p2 (by lia) (λj h1 h2=>by simpa using D j (by simpa using h1) (by simpa using h2))
   have M:((List.range (min ZY.toArray.size c.toArray.size)).all f&&ZY.toArray.size==c.toArray.size)=b:=by simp[<-l,E]
   rw[M]at this;exact this
 .have e':Aw u w=some b:=by
   cases u<;>cases w<;>first|exact e|exact absurd ⟨_,_,rfl,rfl⟩ o
  let⟨G,F,L⟩:=n.flat m e';subst L;exact hZ k i G F
end
section
inductive OpX(X:Cx)(f:U->U->G->Option Bool)(x y:V)(H:Hp)(Q:VK):Prop
 |mk (ρ:List Addr) (g:G) (u w:U) (b:Bool) (hg:RH X.K ρ H g) (r1:RV X.K ρ H u x) (r2:RV X.K ρ H w y) (e:f u w g=some b) (q:Q (.bl b) H)
def aaC(h:X.A.units<cLine):OpR X (compareOp .Eq) (OpX X λu w _=>JC u w):=by
 intro Z s Y H x y v u Q I d c ⟨ρ,g,a,w,b,i,f,r2,e,q⟩;exact nS I h f r2 d c e X.prog X.w X.xe _ ⟨.bl b,H,I,rfl,q⟩
def j0{x y:U}{p:List U×List U}(e:Bl x y g=some p):∃n m,x=.ref n/\y=.ref m/\g[n]?=some (.S p.1)/\g[m]?=some (.S p.2):=by
 unfold Bl at e;split at e
 .split at e
  .split at e
   .split at e
    .rename_i h1 _ _ h2
     cases e;exact⟨_,_,rfl,rfl,h1,h2⟩
    .cases e
   .cases e
  .cases e
 .cases e
def yX(J:X.A.units+2<cLine):OpR X (compareOp .Eq) (OpX X λu w g=>(Bl u w g).bind λp=>JK p.1 p.2):=by
 intro Z s Y H x y v u Q I C B ⟨ρ,g,a,w,b,o,D,r2,h,q⟩;let⟨p,h,e⟩:=W6.mp h;let⟨n,m,rfl,rfl,M,g2⟩:=j0 h;let⟨V,vs,P,O,t⟩:=o.S M;let⟨U,ws,N,KQ,r⟩:=o.S g2;let⟨T,rfl,z⟩:=D;rw[P]at z;cases z;let⟨R,rfl,z⟩:=r2;rw[N]at z;cases z;cases C;cases B;let⟨ZY,d,i,_⟩:=I.list (.of O);let⟨k,c,p2,_⟩:=I.list (.of KQ);unfold JK at e;split at e
 case isFalse Zg=>
  cases e;refine SeqAt.eq_list_lengthsAt i.isList p2.isList ?_ (by lia) ⟨.bl false,H,I,rfl,q⟩
  rw[t.length,r.length,d.length,c.length]at Zg;simpa using Zg
 let⟨f,l,K,L⟩:=eF (A:=X.A.in1) (s:=s) (λu w x y v v' b d c G F E=>yt (A:=X.A.in1) I (by exact J) d c G F E) t r d c e
 refine SeqAt.eq_listAt (e:=f) i.isList p2.isList (by simp[l]) (by lia) (λj h1 h2=>by simpa using K j (by simpa using h1) (by simpa using h2)) ?_
 refine⟨.bl b,H,I,?_,q⟩;rw[<-L];simp![Wl]
 rfl
def cY(h:RH K ρ H g)(b:RV K ρ H u x)(e:items u g=some J):∃a vs,x=.ref a/\(SqL K H a vs\/SqT K H a vs)/\RVs K ρ H J vs:=by
 cases u with
 |Z1 xs=>let⟨a,vs,rfl,h1,h2⟩:=b;cases e;exact⟨a,vs,rfl,.inr h1.sq,h2⟩
 |Zs xs=>let⟨a,vs,rfl,h1,h2⟩:=b;cases e;exact⟨a,vs,rfl,.inl h1.sq,h2⟩
 |xn _ xs=>let⟨a,vs,rfl,h1,h2⟩:=b;cases e;exact⟨a,vs,rfl,.inr h1.sq,h2⟩
 |ref n=>
  let⟨a,rfl,c⟩:=b;simp![items]at e;cases eg:g[n]? with
  |none=>simp[eg]at e
  |some o=>
   cases o with
   |S xs=>
    simp![eg,Xa]at e;subst e;let⟨a',vs,h1,h2,d⟩:=h.S eg;rw[c]at h1;cases h1;exact⟨a,vs,rfl,.inl (.of h2),d⟩
   |_=>simp[eg]at e
 |_=>simp[items]at e
def v8{Y:L2.St}{d:U}{c j:Bool}(I:Z4 X Z Y H s)(i:RV X.K ρ H w y)(h:RV X.K ρ H d y)(e:JC w u=some c)(b:JC d u=some j):c=j:=by
 have g:w=d:=by
  rcases dX e with⟨J,zs,rfl,rfl,e⟩|e
  .rcases dX b with⟨n,f,rfl,q,b⟩|b
   .cases q
    let⟨a,vs,rfl,m,t2⟩:=i;let⟨a',o,q,l,k⟩:=h;cases q;obtain rfl:=I.UD m.sq l.sq;rw[lF t2 k e b]
   .cases d<;>simp[Aw]at b
  .rcases dX b with⟨n,f,rfl,rfl,b⟩|b
   .cases w<;>simp[Aw]at e
   .exact ml i h e b
 subst g;rw[e]at b;exact WY b
def jk{a:Type}{e f:a->Bool}:∀{l:List a},(∀z∈l,e z=f z)->l.any e=l.any f
 |[],_=>rfl
 |x::l,h=>by rw[Va,Va,h x WS,jk λz b=>h z (HS _ b)]
def cP{ρ:List Addr}{H:Hp}{Z:List (Addr×Obj)}{Y:L2.St}{s:Shared}{A:Around}{u:U}{x:V}{v:Value}(I:Z4 X Z Y H s)(B:A.units<cLine)(t:RV X.K ρ H u x)(r:RelV x v):
  ∀{J:List U} {vs:List V} {ZY:List Value} {b:Bool},RVs X.K ρ H J vs->ZK vs ZY->JG u J=some b ->
   ∃e:Value->Bool,(∀y∈ZY,SeqAt.EqAt A s y v (e y))/\ZY.any e=b /\∀w y vy c,RV X.K ρ H w y->RelV y vy->vy∈ZY->JC w u=some c->e vy=c
 |[],_,_,b,h,q,e=>by
  cases h;cases q;simp![JG,Xa]at e;subst e;exact⟨λ_=>false,λy m=>by simp at m,rfl,λ_ _ _ _ _ _ n=>by simp at n⟩
 |w::J,_,_,b,h,q,e=>by
  let⟨y,ys,rfl,p,G⟩:=h;cases q with
  |cons k q=>
  rename_i vy ZY;simp![JG]at e;cases g:JC w u with
  |none=>simp[g]at e
  |some c=>
   cases o:JG u J with
   |none=>simp[g,o]at e
   |some d=>
    simp![g,o,Xa]at e;subst e;let⟨f,E,F,hc⟩:=cP I B t r G q o;have m:SeqAt.EqAt A s vy v c:=iA I B p t k r g;have j:∀z∈ZY,(if z=vy then c else f z)=f z:=λz l=>by
     by_cases a:z=vy
     .subst a
      rw[XN rfl];exact(hc w y _ c p k l g).symm
     .rw [Xy a]
    refine⟨λz=>if z=vy then c else f z,λz l=>?_,?_,λD C i c' h1 h2 n e'=>?_⟩
    .by_cases a:z=vy
     .subst a;simpa using m
     .rcases Wc.mp l with h|h
      .exact absurd h a
      .simpa [a]using E z h
    .rw [Va,jk j,F]
     simp
    .by_cases a:i=vy
     .subst a
      obtain rfl:=h2.inj k;simpa using(v8 I p h1 g e')
     .rcases Wc.mp n with h|h
      .exact absurd h a
      .simpa [a]using hc D C i c' h1 h2 h e'
def aaJ(n:X.A.units+1<cLine):OpR X (compareOp .In) (OpX X λu w g=>(items w g).bind (JG u)):=by
 intro Z s Y H x y v u Q I l o ⟨ρ,g,a,w,b,t,m,r2,k,q⟩;let⟨J,k,e⟩:=W6.mp k;let⟨p,vs,rfl,c,rs⟩:=cY t r2 k;cases o;rcases c with c|c
 .obtain ⟨ZY,d,pl,r⟩:=I.list c
  let⟨f,i,j,_⟩:=cP (A:=X.A.in1) I (by exact n) m l rs d e
  exact SeqAt.in_listAt f pl.isList (λw h=>i w (by simpa using h)) ⟨.bl b,H,I,by rw[show ZY.toArray.any f=ZY.any f by simp,j];rfl,q⟩
 .obtain ⟨ZY,d,pl,r⟩:=I.tuple c
  let⟨f,i,j,_⟩:=cP (A:=X.A.in1) I (by exact n) m l rs d e
  exact SeqAt.in_tupleAt f pl (λw h=>i w (by simpa using h)) ⟨.bl b,H,I,by rw[show ZY.toArray.any f=ZY.any f by simp,j];rfl,q⟩
def uK(m:X.A.units+1<cLine):OpR X (compareOp .NotIn) (OpX X λu w g=>(items w g).bind λJ=>(JG u J).map (!·)):=by
 intro Z s Y H x y v u Q I k n ⟨ρ,g,a,w,C,r,l,r2,B,q⟩;let⟨J,t,z⟩:=W6.mp B;let⟨b,e,rfl⟩:=YU.mp z;let⟨p,vs,rfl,c,rs⟩:=cY r r2 t;cases n;rcases c with c|c
 .obtain ⟨ZY,d,pl,o⟩:=I.list c
  let⟨f,i,j,_⟩:=cP (A:=X.A.in1) I (by exact m) l k rs d e
  exact SeqAt.notIn_listAt f pl.isList (λw h=>i w (by simpa using h)) ⟨.bl (!b),H,I,by rw[show ZY.toArray.any f=ZY.any f by simp,j];rfl,q⟩
 .obtain ⟨ZY,d,pl,o⟩:=I.tuple c
  let⟨f,i,j,_⟩:=cP (A:=X.A.in1) I (by exact m) l k rs d e
  exact SeqAt.notIn_tupleAt f pl (λw h=>i w (by simpa using h)) ⟨.bl (!b),H,I,by rw[show ZY.toArray.any f=ZY.any f by simp,j];rfl,q⟩
end
open PySem PySem.Spec PyProof.Rows L2 PySem.W
def dE{c a:Type}{Z9:Model}{h:Heap}{f:c->a->Sem (ForInStep a)}{g:a->c->a}(I:List c->a->Prop)(d:∀x r b,I (x::r) b->Looks Z9 h (f x b) (.yield (g b x))/\I r (g b x)):∀(l:List c) (b:a),I l b->Looks Z9 h (forIn l b f) (l.foldl g b)
 |[],b,_=>by rw[Po];exact .now
 |x::l,b,hi=>by
  rw[RY];exact(d x l b hi).1.andThen (dE I d l _ (d x l b hi).2)
def AZ(b:List (Str×Value))(x:Str×Value):List (Str×Value):=if(b.lookup x.1).isNone=true then b++[x]else b
def bg{a:Type}{n:Str}:∀{b c:List (Str×a)},(b++c).lookup n=match b.lookup n with|some v=>some v|none=>c.lookup n
 |[],c=>rfl
 |(m,v)::b,c=>by
  rw[Rj,WH,WH];cases n==m with
  |true=>rfl
  |false=>exact bg
def iR{b:List (Str×Value)}{x:Str×Value}:(AZ b x).lookup n=(b++[x]).lookup n:=by
 unfold AZ;split
 .rfl
 .rename_i h
  rw[bg];cases e:b.lookup n with
  |some v=>rfl
  |none=>
   let⟨m,v⟩:=x;simp![WH,List.lookup_nil];cases q:n==m with
   |false=>rfl
   |true=>rw[eq_of_beq q]at e;rw[e]at h;exact absurd rfl h
def dD{n:Str}:∀{l b:List (Str×Value)},(l.foldl AZ b).lookup n=(b++l).lookup n
 |[],b=>by simp
 |x::l,b=>by
  rw[Td,dD,bg,iR,<-bg,Xz]
  rfl
def jD{a:Type}{n:Str}:∀{l:List (Str×a)},(l.map (·.1)).contains n=false->l.lookup n=none
 |[],_=>rfl
 |(m,v)::l,h=>by
  rw[Xk,QH,VF]at h;rw[WH,h.1];exact jD h.2
def fJ{a:Type}{n:Str}:∀{l:List (Str×a)},(l.map (·.1)).contains n=true->(l.lookup n).isSome=true
 |[],h=>by cases h
 |(m,v)::l,h=>by
  rw[Xk,QH,TH]at h;rw[WH];cases q:n==m with
  |true=>rfl
  |false=>
   rcases h with h|h
   .rw [q]at h;cases h
   .exact fJ h
def cV{a:Type}:∀{ns:List Str} {J:List a},(ns.zip J).map (·.1)=ns.take J.length
 |[],_=>by simp
 |_::_,[]=>by simp
 |n::ns,u::J=>by simp[cV (ns:=ns) (J:=J)]
def pT{K:Frag}{ns c:List Str}{J:List Value}{kw:List (Str×Value)}{f:Option (Array Value)}{kd:Str->Value}(X:K.In h)
  (M:fd.params.posonlyargs=[]) (L:fd.params.args.map (·.arg)=ns) (I:fd.params.vararg=none) (H:fd.params.kwonlyargs.map (·.arg)=c) (G:fd.params.kwarg=none)
  (F:Looks Z9 h (seqItems? fd.defaults) f) (o:(f.getD #[]).toList.length<=ns.length) (Y:J.length<=ns.length) (T:∀p∈kw,(ns.contains p.1||c.contains p.1)=true) (E:Cs (ns.take J.length) (kw.map (·.1))=true)
  (B:∀n∈ns.take (ns.length-(f.getD #[]).toList.length),(ns.take J.length++kw.map (·.1)).contains n=true)
  (C:∀n∈c,(ns.take J.length++kw.map (·.1)).contains n=false ->∃d,fd.kwdefaults=.ref d/\nsIn K d n=some (some (kd n))) :
  Looks Z9 h (bindArgs fd ⟨J,kw⟩) ((ns++c).filterMap λn=>((ns.zip J++(kw++((ns.drop (ns.length-(f.getD #[]).toList.length)).zip (f.getD #[]).toList++c.map λn=>(n,kd n)))).lookup n).map (n,·)):=by
 unfold bindArgs;simp![M,L,I,H,G,RJ,Qt,Option.isSome_none,WN,U3];have R:∀(l:List (Str×Value)) (b:List (Str×Value)×List (Str×Value)),l.foldl (λb x=>(b.1++[x],b.2)) b=(b.1++l,b.2):=by
  intro l
  induction l with
  |nil=>intro b;simp
  |cons x l ih=>intro b;rw[Td,ih];simp
 refine Looks.andThen (a:=(ns.zip J++kw,[])) ?l1 ?W
 case l1=>
  have:=R kw (ns.zip J,[]);rw[<-this];refine dE (g:=λ(b:List (Str×Value)×List (Str×Value)) x=>(b.1++[x],b.2)) (λr b=>(∀p∈r,(ns.contains p.1||c.contains p.1)=true)/\Cs (b.1.map (·.1)) (r.map (·.1))=true) ?_ kw _ ⟨T,by rw[cV];exact E⟩
  rintro x r b ⟨t,j⟩;rw[Xk,Cs,ZC,WC]at j;refine⟨?_,λp A=>t p (HS _ A),by rw[SF];exact j.2⟩
  rw[XN (t x WS),jD j.1];exact .now
 refine F.andThen ?_;have D : ¬ J.length > ns.length:=by lia
 generalize Z:(f.getD #[]).toList=ds at *;have Q:List.drop (ds.length-ns.length) ds=ds:=by rw[Nat.sub_eq_zero_of_le o,QJ]
 simp![Sa D,Pn,WN,U3,Q];have P:List.filter (λn=>((ns.zip J++kw).lookup n).isNone) (ns.take (ns.length-ds.length))=[]:=by
  rw[R8];intro x y;have:=fJ (l:=ns.zip J++kw) (n:=x) (by rw[SF,cV];exact B x y)
  cases q:(ns.zip J++kw).lookup x with
  |none=>rw[q]at this;cases this
  |some v=>simp
 simp![P,RL,QY,WN,U3];have O:∀(l:List Str) (b:List (Str×Value)×List Str),l.foldl (λ(b:List (Str×Value)×List Str) n=>(AZ b.1 (n,kd n),b.2)) b=((l.map λn=>(n,kd n)).foldl AZ b.1,b.2):=by
  intro l
  induction l with
  |nil=>intro b;rfl
  |cons x l ih=>intro b;rw[Td,ih];rfl
 refine Looks.andThen (a:=List.foldl AZ (ns.zip J++kw) ((ns.drop (ns.length-ds.length)).zip ds)) ?w ?V
 case w=>
  refine dE (g:=AZ) (λ_ _=>True) ?_ _ _ trivial;rintro x r b -;refine⟨?_,trivial⟩;unfold AZ;split
  .exact .now
  .exact .now
 refine Looks.andThen (a:=((c.map λn=>(n,kd n)).foldl AZ (List.foldl AZ (ns.zip J++kw) ((ns.drop (ns.length-ds.length)).zip ds)),[])) ?u ?U
 case u=>
  have:=O c (List.foldl AZ (ns.zip J++kw) ((ns.drop (ns.length-ds.length)).zip ds),[]);rw[<-this];refine dE (g:=λ(b:List (Str×Value)×List Str) n=>(AZ b.1 (n,kd n),b.2)) (λr b=>∀n∈r,(b.1.lookup n).isNone=true ->∃d,fd.kwdefaults=.ref d/\nsIn K d n=some (some (kd n))) ?_ c _ ?_
  .intro x r b q
   refine⟨?_,λn k hi=>?_⟩
   .dsimp only [AZ]
    split
    .rename_i hi
     let⟨d,S,KQ⟩:=q x WS hi;rw[S];exact(looks_nsIn X KQ).andThen .now
    .exact .now
   .refine q n (HS _ k) ?_
    have:=iR (n:=n) (b:=b.1) (x:=(x,kd x));dsimp only at hi;rw[this,bg]at hi;cases e:b.1.lookup n with
    |none=>rfl
    |some v=>rw[e]at hi;cases hi
  .intro n k hi
   refine C n k ?_;dsimp only at hi;rw[dD,bg]at hi;cases e:(ns.zip J++kw).lookup n with
   |some v=>rw[e]at hi;cases hi
   |none=>
    rw[Bool.eq_false_iff];intro z;have:=fJ (l:=ns.zip J++kw) (n:=n) (by rw[SF,cV];exact z)
    rw[e]at this;cases this
 simp![RL,QY,WN,U3];have N:∀n,(List.foldl AZ (List.foldl AZ (ns.zip J++kw) ((ns.drop (ns.length-ds.length)).zip ds)) (c.map λn=>(n,kd n))).lookup n=(ns.zip J++(kw++((ns.drop (ns.length-ds.length)).zip ds++c.map λn=>(n,kd n)))).lookup n:=λn=>by
  rw[dD,bg,dD,<-bg];simp![Xz]
 simp![N];exact .now
inductive F2{α β:Type}(R:α->β->Prop):List α->List β->Prop
 |nil:F2 R [] []
 |cons {a:α} {b:β} {l:List α} {m:List β}:R a b->F2 R l m->F2 R (a::l) (b::m)
section
variable{R:α->β->Prop}
def PR(R:α->β->Prop)(p:Str×α)(q:Str×β):Prop:=p.1=q.1/\R p.2 q.2
def F2.zip{l:List α}{m:List β}(h:F2 R l m):∀ns:List Str,F2 (PR R) (ns.zip l) (ns.zip m):=by
 induction h with
 |nil=>intro ns;cases ns<;>exact .nil
 |cons r _ ih=>
  intro ns;cases ns with
  |nil=>exact .nil
  |cons n ns=>exact .cons ⟨rfl,r⟩ (ih ns)
def F2.append{l b:List α}{m a:List β}(h:F2 R l m)(h':F2 R b a):F2 R (l++b) (m++a):=by
 induction h with
 |nil=>exact h'
 |cons r _ ih=>exact .cons r ih
def F2.lookup{l:List (Str×α)}{m:List (Str×β)}(h:F2 (PR R) l m)(n:Str):(l.lookup n=none/\m.lookup n=none) \/∃a b,l.lookup n=some a/\m.lookup n=some b/\R a b:=by
 induction h with
 |nil=>exact .inl ⟨rfl,rfl⟩
 |@cons a b l m r _ ih=>
  let⟨c,a⟩:=a;let⟨d,b⟩:=b;let⟨e,r⟩:=r;dsimp only at e r;subst e;rw[WH,WH];cases q:n==c with
  |true=>exact .inr ⟨a,b,rfl,rfl,r⟩
  |false=>exact ih
def F2.filterMap{f:Str->Option α}{c:Str->Option β}(h:∀n,(f n=none/\c n=none) \/∃a b,f n=some a/\c n=some b/\R a b):∀ns:List Str,F2 R (ns.filterMap f) (ns.filterMap c)
 |[]=>.nil
 |n::ns=>by
  rw[Vk,Vk];rcases h n with⟨a,b⟩|⟨x,y,a,b,r⟩
  .rw [a,b];exact F2.filterMap h ns
  .rw [a,b];exact .cons r (F2.filterMap h ns)
end
variable{kw:List Str}{f:Value->Value->Sem Value}{v vy:V}{y:U}{Q:Value->Shared->Prop}{w:World}{m:Bool}{a':E}{r2:R2}{YO:Cp}{oo:Obj}
def dR{R:α->β->Prop}{ns:List Str}{dd:List (Str×α)}{c:List (Str×β)}{J ws:List α}{b a:List β}(f:F2 (PR R) dd c)(e:F2 R J b)(d:F2 R ws a):F2 R (place ns ks kw dd J ws) (place ns ks kw c b a):=
 F2.filterMap (λn=>((e.zip ns).append ((d.zip kw).append f)).lookup n) _
def jx{a:Type}{f:Str->Option a}:∀{ps:List Str},(ps.filterMap f).length=ps.length->(ps.filterMap λn=>(f n).map (n,·))=ps.zip (ps.filterMap f)
 |[],_=>rfl
 |n::ps,h=>by
  rw[Vk]at h ⊢;rw[Vk];cases e:f n with
  |none=>
   rw[e]at h;have:=List.length_filterMap_le f ps;simp![X8]at h;lia
  |some v=>
   rw[e]at h;simp![Vv,Rr];rw[jx (by simpa using h)]
def fO{J:List U}:∀{l pre post:List U},J=pre++(l++post)->F2 (λp u=>pick J p=u) ((List.range' pre.length l.length).map Sum.inl) l
 |[],_,_,_=>.nil
 |x::l,pre,post,e=>by
  rw[X8,List.range'_succ,Xk];refine .cons ?_ ?_
  .show J[pre.length]?.getD U.ZR=x
   rw[e,Rj,WB (HR _)];simp
  .have:=fO (l:=l) (pre:=pre++[x]) (post:=post) (J:=J) (by rw[e];simp)
   simpa using this
def jb{F:KF}{c:Nat}{ws:List U}(d:J.length=c)(f:ws.length=kw.length):perm (J++ws) (BN F c kw)=place F.ns F.ks kw F.dd J ws:=by
 have a:∀{l:List (Nat ⊕ U)} {m:List U},F2 (λp u=>pick (J++ws) p=u) l m->l.map (pick (J++ws))=m:=λ{l m} h=>by
  induction h with
  |nil=>rfl
  |cons r _ ih=>rw[Xk,r,ih]
 refine a (dR ?_ ?_ ?_)
 .have:∀l:List (Str×U),F2 (PR λp u=>pick (J++ws) p=u) (l.map λp=>(p.1,Sum.inr p.2)) l:=by
   intro l
   induction l with
   |nil=>exact .nil
   |cons x l ih=>exact .cons ⟨rfl,rfl⟩ ih
  exact this _
 .have:=fO (J:=J++ws) (l:=J) (pre:=[]) (post:=ws) #[3]
  rw[d]at this;exact this
 .have:=fO (J:=J++ws) (l:=ws) (pre:=J) (post:=[]) #[3]
  rw[d,f]at this;exact this
def F2.vals{J:List Value}(h:ZK vs J):F2 RelV vs J:=by
 induction h with
 |nil=>exact .nil
 |cons r _ ih=>exact .cons r ih
def F2.toVals{J:List Value}(h:F2 RelV vs J):ZK vs J:=by
 induction h with
 |nil=>exact .nil
 |cons r _ ih=>exact .cons r ih
def F2.Ur{K:Frag}{ρ:List Addr}{H:Hp}:∀{J:List U} {vs:List V},RVs K ρ H J vs->F2 (RV K ρ H) J vs
 |[],_,h=>by cases h;exact .nil
 |u::J,_,h=>by let⟨v,r,rfl,h1,h2⟩:=h;exact .cons h1 (F2.Ur h2)
def F2.SS{K:Frag}(h:F2 (RV K ρ H) J vs):RVs K ρ H J vs:=by
 induction h with
 |nil=>rfl
 |cons r _ ih=>exact⟨_,_,rfl,r,ih⟩
structure XU(K:Frag)(fd:FuncData)(F:KF)(nd:Nat)(ZE:List (Str×V))(dd:List (Str×Value)):Prop where
 h1:fd.params.posonlyargs=[]
 h2:fd.params.args.map (·.arg)=F.ns
 h3:fd.params.vararg=none
 h4:fd.params.kwonlyargs.map (·.arg)=F.ks
 h5:fd.params.kwarg=none
 ds:∃(Xf:List Value) (kd:Str->Value),(∀(Z9:Model) (h:Heap),K.In h ->∃od:Option (Array Value),(od.getD #[]).toList=Xf/\Looks Z9 h (seqItems? fd.defaults) od)/\Xf.length=nd/\nd<=F.ns.length /\
  (∀n∈F.ks,∃d,fd.kwdefaults=.ref d/\nsIn K d n=some (some (kd n)))/\dd=(F.ns.drop (F.ns.length-nd)).zip Xf++F.ks.map λn=>(n,kd n)
 rel:F2 (PR RelV) ZE dd
 urel:F2 (PR λu v=>∀ρ H,RV K ρ H u v) F.dd ZE
def XU.binds{K:Frag}{F:KF}{h d:Nat}(a:XU K fd F h ZE dd)(i:BW F h d kw=true)(w:F.ns++F.ks≠[]):
  Ux K fd (F.ns++F.ks) kw (λJ ws=>if J.length=d/\ws.length=kw.length then place F.ns F.ks kw dd J ws else[]) (λvs zs=>if vs.length=d/\zs.length=kw.length then place F.ns F.ks kw ZE vs zs else[]):=by
 refine⟨λs J ws X f=>?_,λ{vs J zs ws} g r2=>?_⟩
 .split at f
  .rename_i hc
   let⟨c,j⟩:=hc;rw[XN ⟨c,j⟩];simp![BW,ZC,Xn,Wj]at i;let⟨⟨⟨l,k⟩,s3⟩,s4⟩:=i;let⟨y,kd,Z8,l1,r,o,m⟩:=a.ds;have e:(kw.zip ws).map (·.1)=kw:=by rw[cV,j,Rk]
   intro Z9 A E Q q;let⟨od,Lg,x⟩:=Z8 Z9 s.heap X;have:=pT (Z9:=Z9) (J:=J) (kw:=kw.zip ws) (kd:=kd) X a.h1 a.h2 a.h3 a.h4 a.h5 x (by rw[Lg,l1];exact r) (by rw[c];exact l)
    (λp t=>by have:=k p.1 (by rw[<-e];exact Qw t);simpa using this) (by rw[c,e];exact s3) (λn b=>by rw[Lg,l1]at b;rw[c,e];exact s4 n b) (λn b _=>o n b)
   refine this.here ?_;rw[Lg,l1,<-m];rw[jx (by exact f)]
   exact q
  .exact absurd (Q5.mp f.symm) w
 .have v:=g.length
  have u:=r2.length;rw[v,u];split
  .exact (dR a.rel (.vals g) (.vals r2)).toVals
  .exact .nil
open PySem PySem.Spec PyProof.Rows L2
section
def bL{a b:List Int}:(a.map (Sum.inl:Int->Key)=b.map Sum.inl)↔a=b:=
 ⟨λh=>(List.map_inj_right (λx y e=>Sum.inl.inj e)).mp h,λh=>by rw[h]⟩
def RD.val(k:List Int):∀{O:List (List Int×U)} {ws:List (List Key×V)},RD K ρ H O ws->(AR ws (k.map Sum.inl)).isSome=(Aj O k).isSome
 |[],_,h=>by cases h;rfl
 |(k',u)::r,_,h=>by
  let⟨v,s,rfl,h1,h2⟩:=h;by_cases e:k'=k
  .rw [b6 (bL.mpr e)]
   simp[Aj,Ud,e]
  .rw [b8 (λz=>e (bL.mp z)),RD.val k h2]
   simp[Aj,Ud,e]
def RD.got(k:List Int){u:U}:∀{O:List (List Int×U)} {ws:List (List Key×V)},RD K ρ H O ws->Aj O k=some u ->∃v,AR ws (k.map Sum.inl)=some v/\RV K ρ H u v
 |[],_,h,e=>by cases e
 |(k',a)::r,_,h,e=>by
  let⟨v,s,rfl,h1,h2⟩:=h;by_cases z:k'=k
  .rw [b6 (bL.mpr z)]
   simp[Aj,Ud,z]at e;subst e;exact⟨v,rfl,h1⟩
  .rw [b8 (λy=>z (bL.mp y))]
   exact RD.got k h2 (by simpa[Aj,Ud,z]using e)
def RD.at:∀{O:List (List Int×U)} {ws:List (List Key×V)} {i:Nat} {k:List Int} {u:U},RD K ρ H O ws->O[i]?=some (k,u) ->∃v,ws[i]?=some (k.map Sum.inl,v)/\RV K ρ H u v
 |[],_,_,_,_,_,e=>by simp at e
 |(k',a)::r,_,0,k,u,h,e=>by
  let⟨v,s,rfl,h1,h2⟩:=h;simp at e;let⟨rfl,rfl⟩:=e;exact⟨v,by simp,h1⟩
 |(k',a)::r,_,i+1,k,u,h,e=>by
  let⟨v,s,rfl,h1,h2⟩:=h;let⟨x,c,b⟩:=RD.at (i:=i) h2 (by simpa using e)
  exact⟨x,by simpa using c,b⟩
def RD.any(k:List Int):∀{O:List (List Int×U)} {ws:List (List Key×V)},RD K ρ H O ws->(ws.any λa=>decide (a.1=k.map Sum.inl))=O.any λa=>decide (a.1=k)
 |[],_,h=>by cases h;rfl
 |(k',u)::r,_,h=>by
  let⟨v,s,rfl,h1,h2⟩:=h;rw[Va,Va,RD.any k h2];congr 1;exact decide_eq_decide.mpr bL
def RD.len:∀{O:List (List Int×U)} {ws:List (List Key×V)},RD K ρ H O ws->O.length=ws.length
 |[],_,h=>by cases h;rfl
 |(k',u)::r,_,h=>by
  let⟨v,s,rfl,h1,h2⟩:=h;simp[RD.len h2]
def RD.snoc{k:List Int}{u:U}{v:V}(q:RV K ρ H u v):∀{O:List (List Int×U)} {ws:List (List Key×V)},RD K ρ H O ws->RD K ρ H (O++[(k,u)]) (ws++[(k.map Sum.inl,v)])
 |[],_,h=>by cases h;exact⟨v,[],rfl,q,rfl⟩
 |(k',a)::r,_,h=>by
  let⟨w,s,rfl,h1,h2⟩:=h;exact⟨w,_,rfl,h1,RD.snoc q h2⟩
def RD.WW{k:List Int}{u:U}{v:V}(q:RV K ρ H u v):∀{O:List (List Int×U)} {ws:List (List Key×V)},RD K ρ H O ws ->
  RD K ρ H (O.map λa=>if a.1=k then(a.1,u)else a) (ws.map λa=>if a.1=k.map Sum.inl then(a.1,v)else a)
 |[],_,h=>by cases h;rfl
 |(k',b)::r,_,h=>by
  let⟨w,s,rfl,h1,h2⟩:=h;rw[Xk,Xk];by_cases e:k'=k
  .rw [XN e,XN (bL.mpr e)];exact⟨v,_,rfl,q,RD.WW q h2⟩
  .rw [Xy e,Xy (λz=>e (bL.mp z))];exact⟨w,_,rfl,h1,RD.WW q h2⟩
def RD.put{k:List Int}(q:RV K ρ H u v){ws:List (List Key×V)}(h:RD K ρ H O ws):RD K ρ H (dput O k u) (putK ws (k.map Sum.inl) v):=by
 unfold dput putK;rw[h.any k];split
 .exact h.WW q
 .exact h.snoc q
def RK.len:∀{O:List (Str×U)} {ws:List (Key×V)},RK K ρ H O ws->O.length=ws.length
 |[],_,h=>by cases h;rfl
 |(k',u)::r,_,h=>by
  let⟨v,s,rfl,h1,h2⟩:=h;simp[RK.len h2]
def RK.got(k:Str){u:U}:∀{O:List (Str×U)} {ws:List (Key×V)},RK K ρ H O ws->A0 O k=some u ->∃v,AR ws (Sum.inr k)=some v/\RV K ρ H u v
 |[],_,h,e=>by cases e
 |(k',a)::r,_,h,e=>by
  let⟨v,s,rfl,h1,h2⟩:=h;by_cases z:k'=k
  .rw [b6 (Sb Sum.inr z)]
   simp[A0,Ud,z]at e;subst e;exact⟨v,rfl,h1⟩
  .rw [b8 (λy=>z (QQ y))]
   exact RK.got k h2 (by simpa[A0,Ud,z]using e)
def RK.any(k:Str):∀{O:List (Str×U)} {ws:List (Key×V)},RK K ρ H O ws->(ws.any λa=>decide (a.1=Sum.inr k))=O.any λa=>decide (a.1=k)
 |[],_,h=>by cases h;rfl
 |(k',u)::r,_,h=>by
  let⟨v,s,rfl,h1,h2⟩:=h;rw[Va,Va,RK.any k h2];congr 1;exact decide_eq_decide.mpr ⟨QQ,Sb Sum.inr⟩
def RK.snoc{k:Str}{u:U}{v:V}(q:RV K ρ H u v):∀{O:List (Str×U)} {ws:List (Key×V)},RK K ρ H O ws->RK K ρ H (O++[(k,u)]) (ws++[(Sum.inr k,v)])
 |[],_,h=>by cases h;exact⟨v,[],rfl,q,rfl⟩
 |(k',a)::r,_,h=>by
  let⟨w,s,rfl,h1,h2⟩:=h;exact⟨w,_,rfl,h1,RK.snoc q h2⟩
def RK.WW{k:Str}{u:U}{v:V}(q:RV K ρ H u v):∀{O:List (Str×U)} {ws:List (Key×V)},RK K ρ H O ws ->
  RK K ρ H (O.map λa=>if a.1=k then(a.1,u)else a) (ws.map λa=>if a.1=Sum.inr k then(a.1,v)else a)
 |[],_,h=>by cases h;rfl
 |(k',b)::r,_,h=>by
  let⟨w,s,rfl,h1,h2⟩:=h;rw[Xk,Xk];by_cases e:k'=k
  .rw [XN e,XN (Sb Sum.inr e)];exact⟨v,_,rfl,q,RK.WW q h2⟩
  .rw [Xy e,Xy (λz=>e (QQ z))];exact⟨w,_,rfl,h1,RK.WW q h2⟩
def RK.put{k:Str}(q:RV K ρ H u v){O:List (Str×U)}{ws:List (Key×V)}(h:RK K ρ H O ws):RK K ρ H (EI O k u) (putK ws (Sum.inr k) v):=by
 unfold EI putK;rw[h.any k];split
 .exact h.WW q
 .exact h.snoc q
def aaj{O:List (Str×U)}(f:RH K ρ H g)(d:RV K ρ H y vy)(e:JH y g=some O):∃n a ws,y=.ref n/\g[n]?=some (.dst O)/\ρ[n]?=some a/\vy=.ref a/\H a=some (.dK ws)/\RK K ρ H O ws:=by
 cases y with
 |ref n=>
  simp![JH]at e;cases eg:g[n]? with
  |none=>rw[eg]at e;cases e
  |some ob=>
   cases ob with
   |dst i=>
    rw[eg]at e;cases e;let⟨a,ws,b,h,rk⟩:=f.dst eg;let⟨a',rfl,c⟩:=d;rw[b]at c;cases c;exact⟨n,_,ws,rfl,eg,b,rfl,h,rk⟩
   |_=>rw[eg]at e;cases e
 |_=>cases e
def dU:∀{J:List U} {ns:List Int} {vs:List V},intsOf J=some ns->RVs K ρ H J vs->vs=ns.map V.int
 |[],_,_,e,h=>by cases e;cases h;rfl
 |u::J,ns,vs,e,h=>by
  let⟨v,r,rfl,h1,h2⟩:=h;cases u with
  |int i=>
   simp![intsOf]at e;let⟨m,a,rfl⟩:=YU.mp e;cases h1;rw[dU a h2];rfl
  |_=>cases e
def ja:∀ns:List Int,intsOf (ns.map U.int)=some ns
 |[]=>rfl
 |n::ns=>by simp[intsOf,ja ns]
def iw{x:U}{k:List Int}(e:keyOf x=some k)(r:RV K ρ H x v):∃b,v=.ref b/\H b=some (.Z1 ((k.map Sum.inl).map IT)):=by
 cases x with
 |Z1 J=>
  let⟨a,vs,rfl,h1,h2⟩:=r;refine⟨a,rfl,?_⟩;rw[show H a=some (.Z1 vs)from h1,dU e h2,T9]
  rfl
 |_=>cases e
def my{K:HY}{ρ:List Addr}{H:Hp}:∀{O:List (List Int×U)} {ws:List (List Key×V)},RD K ρ H O ws->ws.map (·.1)=O.map λa=>a.1.map Sum.inl
 |[],ws,h=>by cases h;rfl
 |(k,u)::r,ws,⟨v,s,e,_,h⟩=>by subst e;rw[Xk,Xk,my h]
def mH(h:RH K ρ H g)(i:RV K ρ H y vy)(b:JI y g=some O):∃a ws,vy=.ref a/\Rd H a (.dT ws)/\RD K ρ H O ws:=by
 cases y with
 |ref n=>
  simp![JI]at b;cases eg:g[n]? with
  |none=>rw[eg]at b;cases b
  |some ob=>
   let⟨a',rfl,c⟩:=i;cases ob with
   |ZN j=>
    rw[eg]at b;cases b;let⟨a,ws,e,f,d⟩:=h.ZN eg;rw[e]at c;cases c;exact⟨_,ws,rfl,.inl f,d⟩
   |Zu j=>
    rw[eg]at b;cases b;let⟨a,ob,ws,e,f,d⟩:=h.Zu eg;rw[e]at c;cases c;exact⟨_,ws,rfl,.inr ⟨ob,f⟩,d⟩
   |_=>rw[eg]at b;cases b
 |_=>cases b
def eK{x:U}{f:V}{o:Option U}(l:RH K ρ H g)(j:RV K ρ H x f)(i:RV K ρ H y vy)(e:Aq x y g=some o):∃a c,vy=.ref a/\DGet H a f c/\c.isSome=o.isSome /\∀u,o=some u ->∃v,c=some v/\RV K ρ H u v:=by
 unfold Aq at e;cases d:JI y g with
 |none=>rw[d]at e;cases e
 |some O=>
  rw[d]at e;let⟨k,p,rfl⟩:=YU.mp e;let⟨a,ws,rfl,n,h⟩:=mH l i d;let⟨b,rfl,m⟩:=iw p j;exact⟨a,_,rfl,.inr ⟨ws,_,b,n,rfl,m,rfl⟩,h.val k,λu z=>h.got k z⟩
end
section
def zR(d:X.A.units+1<cLine):OpR X (compareOp .In) (λy x H Q=>∃a o,x=.ref a/\DGet H a y o/\Q (.bl o.isSome) H):=by
 intro Z s Y H y x v u Q I b c ⟨a,o,e,g,q⟩;subst e;obtain rfl:u=Value.ref a:=c;exact d_in d I g b λs3 f=>⟨.bl o.isSome,H,f,rfl,q⟩
def uQ(d:X.A.units+1<cLine):OpR X (compareOp .NotIn) (λy x H Q=>∃a o,x=.ref a/\DGet H a y o/\Q (.bl (!o.isSome)) H):=by
 intro Z s Y H y x v u Q I b c ⟨a,o,e,g,q⟩;subst e;obtain rfl:u=Value.ref a:=c;exact wx d I g b λs3 f=>⟨.bl (!o.isSome),H,f,rfl,q⟩
def mJ{r c:R2}(h:OpR X f r)(h':OpR X f c):OpR X f (λx y H Q=>r x y H Q\/c x y H Q):=λZ s Y H x y v u Q I b a q=>
 q.elim (λq=>h Z s Y H x y v u Q I b a q) λq=>h' Z s Y H x y v u Q I b a q
def abJ{Y:L2.St}{b:Addr}{O:List (List Key×V)}{k:List Key}{r:Value}{E:Value->Shared->Prop}{Q:Unit->Shared->Prop}(m:X.A.units+1<cLine)(I:L2.Z4 X Z Y H s)(e:H a=some (.dT O))(i:H b=some (.Z1 (k.map IT)))(l:O.length<sizeLine)(j:RelV v r)
  (h:∀s',L2.Z4 X Z Y (upd H a (.dT (putK O k v))) s'->Q Unit.unit s'):wpAny (model X.prog X.w) X.A (dictSet a (.ref b) r) Q E s:=by
 let⟨z,n,xs,d,dd⟩:=nC I.ZQ e;refine wpAny_dictSet_heap (hsz:=by rw[<-RQ d];exact z) (by exact Nat.lt_of_succ_lt m) (bO I.ZQ i) dd λh' u hs=>h _ ?_
 let⟨q,es,ep,f,h2,t,p,_,o⟩:=u;refine eR I (by rw[e];exact True.intro) hs ⟨q,f⟩ ⟨by have:=dA O k v;lia,n,_,(d.put k i j).keeps λc ys g=>?_,q,es,ep,f,h2,t,p,o⟩
 rw[aa (cJ g e (λz=>nomatch z))];exact g
def HD:CY:=λo i v H Q=>∃a H',o=.ref a/\DPut H a i v H'/\Q H'
def set_dict(h:X.A.units+1<cLine):Ci X HD:=by
 intro Z s Y H o i v f k u Q I c d b ⟨a,H',e,g,q⟩;subst e;obtain rfl:f=Value.ref a:=c;exact qv h I g d b λs4 j=>⟨H',j,q⟩
def uj{r d:CY}(h:Ci X r)(h':Ci X d):Ci X (λo i v H Q=>r o i v H Q\/d o i v H Q):=λZ s Y H o i v e f u Q I b c a q=>
 q.elim (λq=>h Z s Y H o i v e f u Q I b c a q) λq=>h' Z s Y H o i v e f u Q I b c a q
end
def kZ(m:Bool):∀(r:List Int) (a:Int),best m a r∈a::r
 |[],a=>by simp[best]
 |b::r,a=>by
  have:=kZ m r (if m then(if b<a then b else a)else(if b > a then b else a))
  simp![best,Td]at *;simp![Wc]at this ⊢;rcases this with h|h
  .rw [h];cases m<;>simp![Ti,WN,U3]<;>split<;>simp
  .exact .inr (.inr h)
def kD:∀(r:List Int) (a:Int),∀x∈a::r,best true a r<=x
 |[],a,x,h=>by simp[best]at *;lia
 |b::r,a,x,h=>by
  have ih:=kD r (if b<a then b else a)
  simp![best,Td,Ti]at *;have h0:=ih _ (WS);rcases Wc.mp h with rfl|h
  .exact Qz h0 (by split<;>lia)
  .rcases Wc.mp h with rfl|h
   .exact Qz h0 (by split<;>lia)
   .exact ih x (HS _ h)
def kP:∀(r:List Int) (a:Int),∀x∈a::r,x<=best false a r
 |[],a,x,h=>by simp[best]at *;lia
 |b::r,a,x,h=>by
  have ih:=kP r (if b > a then b else a)
  simp![best,Td,WN,U3]at *;have h0:=ih _ (WS);rcases Wc.mp h with rfl|h
  .exact Qz (by split<;>omega) h0
  .rcases Wc.mp h with rfl|h
   .exact Qz (by split<;>omega) h0
   .exact ih x (HS _ h)
def insI_perm(a:Int):∀r:List Int,(insI a r).Perm (a::r)
 |[]=>.refl _
 |b::r=>by
  simp![insI];split
  .exact .refl _
  .exact ((insI_perm a r).cons b).trans (.swap a b r)
def sortI_perm:∀r:List Int,(sortI r).Perm r
 |[]=>.refl _
 |a::r=>(insI_perm a _).trans ((sortI_perm r).cons a)
def uE{b:Int}(a:Int):∀{r:List Int},b<=a->(∀x∈r,b<=x) ->∀x∈insI a r,b<=x:=λ{r} h h' x hx=>by
 rcases Wc.mp ((insI_perm a r).mem_iff.mp hx)with rfl|z
 .exact h
 .exact h' x z
def ko(a:Int):∀{r:List Int},r.Pairwise (· <= ·)->(insI a r).Pairwise (· <= ·)
 |[],_=>by simp[insI]
 |b::r,h=>by
  let⟨h1,h2⟩:=QK.mp h;simp![insI];split
  .rename_i c
   exact QK.mpr ⟨λx d=>by rcases Wc.mp d with rfl|z;exact c;exact Qz c (h1 x z),h⟩
  .exact QK.mpr ⟨uE a (by lia) h1,ko a h2⟩
def jZ:∀r:List Int,(sortI r).Pairwise (· <= ·)
 |[]=>.nil
 |a::r=>ko a (jZ r)
def qX{a b:List Int}(hp:a.Perm b)(d:a.Pairwise (· <= ·))(c:b.Pairwise (· <= ·)):a=b:=
 hp.eq_of_pairwise (λx y _ _ h1 h2=>Pl h1 h2) d c
def cW:∀{ns:List Int} {J:List Value},ZK (ns.map V.int) J->IntsAre J ns
 |[],J,h=>by cases h;exact .nil
 |n::ns,J,h=>by
  cases h with
  |cons r t=>
   let⟨k,rfl⟩:=r;exact .cons n k (cW t)
def rP:∀{ns:List Int} {J:List Value},IntsAre J ns->ZK (ns.map V.int) J:=λh=>fV h
section
variable{E:Value->Shared->Prop}{l:Addr}{vs:List Value}
def minL(n:A.handled=none)(f:s.heap.IsList l vs.toArray)(g:IntsAre vs ns)(p:0<ns.length)
  (h:∀h' Z9 (t:Tok) tk,(∀b o,s.heap.get? b=some o->h'.get? b=some o)->Z9∈ns->(∀a,a∈ns->Z9<=a)->Q (.int Z9 t) {s with heap:=h',toks:=tk}):wpAny (model prog w) A (call (.builtin "min") [.ref l]) Q E s:=by
 let⟨xs,e⟩:=g.allInts.items;have d:ns=xs.toList.map (·.1):=by rw[<-g.numsOf,<-nums_intItems,<-e]
 have c:0<xs.size:=by have h3:=p;rw[d,YK,Uj]at h3;exact h3
 rw[e]at f;refine min_intList n f c λv h' tk k hk=>?_;let⟨t,rfl⟩:=intItems_at k;let⟨h1,h2⟩:=argBest_lt (numAt xs) (xs.size-1);refine h _ _ t tk hk ?_ λa i=>?_
 .rw [d,numAt_eq];exact getD_mem (by rw[YK,Uj];omega)
 .rw [d]at i
  let⟨j,m,rfl⟩:=mem_getD i;rw[YK,Uj]at m;rw[<-numAt_eq];exact h2 j (by lia)
def maxL(n:A.handled=none)(f:s.heap.IsList l vs.toArray)(g:IntsAre vs ns)(p:0<ns.length)
  (h:∀h' Z9 (t:Tok) tk,(∀b o,s.heap.get? b=some o->h'.get? b=some o)->Z9∈ns->(∀a,a∈ns->a<=Z9)->Q (.int Z9 t) {s with heap:=h',toks:=tk}):wpAny (model prog w) A (call (.builtin "max") [.ref l]) Q E s:=by
 let⟨xs,e⟩:=g.allInts.items;have d:ns=xs.toList.map (·.1):=by rw[<-g.numsOf,<-nums_intItems,<-e]
 have c:0<xs.size:=by have h3:=p;rw[d,YK,Uj]at h3;exact h3
 rw[e]at f;refine max_intList n f c λv h' tk k hk=>?_;let⟨t,rfl⟩:=intItems_at k;let⟨h1,h2⟩:=argBest_gt (numAt xs) (xs.size-1);refine h _ _ t tk hk ?_ λa i=>?_
 .rw [d,numAt_eq];exact getD_mem (by rw[YK,Uj];omega)
 .rw [d]at i
  let⟨j,m,rfl⟩:=mem_getD i;rw[YK,Uj]at m;rw[<-numAt_eq];exact h2 j ()
def sumL(f:A.handled=none)(d:s.heap.IsList l vs.toArray)(c:IntsAre vs ns)
  (h:∀h' tk t,(∀b o,s.heap.get? b=some o->h'.get? b=some o)->Q (.int ns.sum t) {s with heap:=h',toks:=tk}):wpAny (model prog w) A (call (.builtin "sum") [.ref l]) Q E s:=by
 let⟨xs,a⟩:=c.allInts.items;have k:s.heap.IsList l (intItems xs):=a ▸ d;refine sum_intListG f k λh' tk t' hk=>?_;have j:ns=xs.toList.map (·.1):=by
  rw[<-nums_intItems,<-a];exact(show numsOf vs.toArray.toList=ns from c.numsOf).symm
 have g:preSum (numAt xs) xs.size=ns.sum:=by
  rw[preSum_eq,UK #[3],j]
 rw[g];exact h h' tk t' hk
end
section
def Ka(m:Bool):List V->Hp->VK->Prop:=λxs H Q=>(∃i j,xs=[.int i,.int j]/\Q (.int (best m i [j])) H)\/(∃i j k,xs=[.int i,.int j,.int k]/\Q (.int (best m i [j,k])) H) \/
 ∃p i ns,xs=[.ref p]/\H p=some (.S ((i::ns).map V.int))/\Q (.int (best m i ns)) H
def lC{i Z9:Int}(b:Z9∈i::ns)(c:∀a,a∈i::ns->if m then Z9<=a else a<=Z9):Z9=best m i ns:=by
 have a:=c _ (kZ m ns i);cases m with
 |true=>exact Pl (by simpa using a) (kD ns i Z9 b)
 |false=>exact Pl (kP ns i Z9 b) (by simpa using a)
def call_mn(b:X.calm=true):CallR X (.builtin "min") (Ka true):=by
 intro Z s Y H xs J Q I r h;rcases h with⟨i,j,rfl,q⟩|⟨i,j,k,rfl,q⟩|⟨p,i,ns,rfl,hp,q⟩
 .exact qK b Z s Y H _ J Q I r ⟨i,j,rfl,q⟩
 .cases r with
  |cons f r=>
   cases r with
   |cons r2 r=>
    cases r with
    |cons e r=>
     cases r;let⟨t,rfl⟩:=f;let⟨u,rfl⟩:=r2;let⟨x,rfl⟩:=e;refine min_three_ints (I.ok.hd b) λh' tk a=>⟨_,H,I.kept a,?_,q⟩;simp![best,Td,RA,Ti];split<;>split<;>exact⟨_,rfl⟩
 .obtain ⟨u,rfl,c⟩:=vals1 r
  cases c;let⟨ZY,d,pl,g⟩:=I.list (SqL.of hp);exact minL (I.ok.hd b) pl.isList (cW d) (Nat.succ_pos _) λh' Z9 t tk a h1 h2=>⟨.int Z9,H,I.kept a,⟨t,rfl⟩,by rw[lC (m:=true) h1 (by simpa using h2)];exact q⟩
def call_mx(b:X.calm=true):CallR X (.builtin "max") (Ka false):=by
 intro Z s Y H xs J Q I r h;rcases h with⟨i,j,rfl,q⟩|⟨i,j,k,rfl,q⟩|⟨p,i,ns,rfl,hp,q⟩
 .exact qz b Z s Y H _ J Q I r ⟨i,j,rfl,q⟩
 .cases r with
  |cons f r=>
   cases r with
   |cons r2 r=>
    cases r with
    |cons e r=>
     cases r;let⟨t,rfl⟩:=f;let⟨u,rfl⟩:=r2;let⟨x,rfl⟩:=e;refine max_three_ints (I.ok.hd b) λh' tk a=>⟨_,H,I.kept a,?_,q⟩;simp![best,Td,RA,WN,U3];split<;>split<;>exact⟨_,rfl⟩
 .obtain ⟨u,rfl,c⟩:=vals1 r
  cases c;let⟨ZY,d,pl,g⟩:=I.list (SqL.of hp);exact maxL (I.ok.hd b) pl.isList (cW d) (Nat.succ_pos _) λh' Z9 t tk a h1 h2=>⟨.int Z9,H,I.kept a,⟨t,rfl⟩,by rw[lC (m:=false) h1 (by simpa using h2)];exact q⟩
def call_sum(d:X.calm=true):CallR X (.builtin "sum") (λxs H Q=>∃(p:Addr) (ns:List Int),xs=[.ref p]/\H p=some (.S (ns.map V.int))/\Q (.int ns.sum) H):=by
 intro Z s Y H xs J Q I r ⟨p,ns,e,hp,q⟩;subst e;let⟨u,rfl,a⟩:=vals1 r;cases a;let⟨ZY,b,pl,f⟩:=I.list (SqL.of hp);exact sumL (I.ok.hd d) pl.isList (cW b) λh' tk t c=>⟨.int ns.sum,H,I.kept c,⟨t,rfl⟩,q⟩
def sQ:CallR X (.builtin "sorted") (λxs H Q=>∃(p:Addr) (ns:List Int),xs=[.ref p]/\H p=some (.S (ns.map V.int))/\ns.length<64 /\∀l,H l=none->Q (.ref l) (upd H l (.S ((sortI ns).map V.int)))):=by
 intro Z s Y H xs J Q I r ⟨p,ns,e,hp,f,q⟩;subst e;let⟨u,rfl,g⟩:=vals1 r;cases g;let⟨ZY,j,pl,B⟩:=I.list (SqL.of hp);have hi:=cW j;refine sorted_ints pl.isList hi (by rw[hi.length];exact f) λa d A z y=>?_
 let⟨c,o⟩:=sortedAll_at s.heap ZY a;have t:d=sortI ns:=qX (z.trans (sortI_perm ns).symm) y (jZ ns);subst t;have k:H (s.heap.objs.size+1)=none:=I.ZQ.fresh (UL _);refine⟨.ref (s.heap.objs.size+1),_,I.laid (t':=s.toks) (λ_ _=>sortedAll_old) (UL _) (show ObjOk X.prog X.w _ _ _ (.S ((sortI ns).map V.int))from⟨?_,a.toList,c,rP A,?_⟩),rfl,q _ k⟩
 .rw [YK,(sortI_perm ns).length_eq]
  exact HP (Q9 f) #[1]
 .exact o
end
section
def zx(D:X.A.units+2<cLine):OpR X (compareOp .NotEq) (λx y H Q=>∃ρ J ws b,RV X.K ρ H (.Z1 J) x/\RV X.K ρ H (.Z1 ws) y/\JJ JC J ws=some b/\Q (.bl (!b)) H):=by
 intro Z s Y H x y v u Q I i h ⟨ρ,J,ws,b,k,r2,e,q⟩;let⟨a,xs,rfl,h1,h2⟩:=k;let⟨a',ys,rfl,B,z⟩:=r2;cases i;cases h;let⟨ZY,g,p,_⟩:=I.tuple h1.sq;let⟨c,d,p2,_⟩:=I.tuple B.sq;let⟨f,l,r,t⟩:=eF (A:=X.A.in1) (s:=s) (λu w x y v v' b g d o n m=>iA (A:=X.A.in1) I (show X.A.units+1<cLine by lia) g d o n m) h2 z g d e
 refine SeqAt.RcNeAt.tuples (A:=X.A) (s:=s) (l:=a) (b:=a') (items:=ZY.toArray) (items2:=c.toArray) (e:=f) p p2 (by lia) (λj h1 h2=>by simpa using r j (by simpa using h1) (by simpa using h2)) X.prog X.w X.xe _ ⟨.bl (!b),H,I,?_,q⟩
 have C:((List.range (min ZY.toArray.size c.toArray.size)).all f&&ZY.toArray.size==c.toArray.size)=b:=by simp[<-l,t]
 rw[C]
 rfl
end
section
variable{Y:L2.St}
end
section
variable{a b c:Expr}{b' c':E}
def one{R:List Addr->Hp->α->β->Prop}{f:Su->G->Out U}{k:Su->U->G->Out α}{Y:L2.St}{H:Hp}{Q:β->Hp->Prop}
  (hp:tR X.K W R (λZ2 g=>(f Z2 g).bind λx g=>k Z2 x g) Y H Q)
  (a:∀Z2 ρ H g u x,RS X.K ρ H Z2 Y->RH X.K ρ H g->RV X.K ρ H u x->post X.K W R (k Z2 u g) ρ H Q->Q2 x H):tE X.K W f Y H Q2:=by
 let⟨Z2,ρ,g,hs,d,p⟩:=hp;exact⟨Z2,ρ,g,hs,d,(post.bind p).mono λx H1 ⟨e,u,g1,s1,h1,b,c⟩=>a Z2 e H1 g1 u x (hs.step s1) h1 b c⟩
def oneN{W':XQ}{R:List Addr->Hp->α->β->Prop}{f:Su->G->Out U}{k:Su->U->G->Out α}{Y:L2.St}{H:Hp}{Q:β->Hp->Prop}
  (hp:tR X.K W R (λZ2 g=>(f Z2 g).Y3.bind λx g=>k Z2 x g) Y H Q)
  (a:∀Z2 ρ H g u x,RS X.K ρ H Z2 Y->RH X.K ρ H g->RV X.K ρ H u x->post X.K W R (k Z2 u g) ρ H Q->Q2 x H):tE X.K W' f Y H Q2:=by
 let⟨Z2,ρ,g,hs,d,p⟩:=hp;exact⟨Z2,ρ,g,hs,d,(bV p).mono λx H1 ⟨e,u,g1,s1,h1,b,c⟩=>a Z2 e H1 g1 u x (hs.step s1) h1 b c⟩
def two{R:List Addr->Hp->α->β->Prop}{f h:Su->G->Out U}{k:Su->U->U->G->Out α}{Y:L2.St}{H:Hp}{Q:β->Hp->Prop}{b:V->V->Hp->Prop}
  (hp:tR X.K W R (λZ2 g=>(f Z2 g).bind λx g=>(h Z2 g).bind λy g=>k Z2 x y g) Y H Q)
  (a:∀Z2 ρ H g u w x y,RS X.K ρ H Z2 Y->RH X.K ρ H g->RV X.K ρ H u x->RV X.K ρ H w y->post X.K W R (k Z2 u w g) ρ H Q->b x y H) :
  tE X.K W f Y H λx H1=>tE X.K W h Y H1 λy H2=>b x y H2:=by
 let⟨Z2,ρ,g,hs,e,p⟩:=hp;refine⟨Z2,ρ,g,hs,e,(post.bind p).mono λx H1 ⟨j,u,g1,s1,h1,c,d⟩=>?_⟩;refine⟨Z2,j,g1,hs.step s1,h1,(post.bind d).mono λy H2 ⟨i,w,g2,s2,h2,r2,p2⟩=>?_⟩;exact a Z2 i H2 g2 u w x y ((hs.step s1).step s2) h2 (RV.step s2 _ _ c) r2 p2
def m9{x:Str}(d:X.N[i]?=some x)(a:Vis X.env.scope x)(c:(x==("__debug__" : Str))=false)(j:(x==("__classdict__" : Str))=false):PE X (.Name x pos) (tE X.K W (JX C r (.L i))):=by
 refine(dk d a c j).imp ?_;rintro Y H Q ⟨Z2,ρ,g,hs,b,p⟩
 delta JX at p;dsimp only at p
 cases e:Z2[i]? with
 |none=>simp[e]at p;exact p.elim
 |some o=>
  cases o with
  |none=>simp[e]at p;exact p.elim
  |some u=>
   rw[e]at p;let⟨v,h,f⟩:=hs.val i u e;exact⟨v,h,post.Zh p b f⟩
def cv(h:PE X e (IV v))(a:∀ρ H,RV X.K ρ H u v):PE X e (tE X.K W (JX C r (.Z3 u))):=
 h.imp λY H Q ⟨Z2,ρ,g,hs,b,p⟩=>post.Zh (u:=u) p b (a ρ H)
def cz{o:Operator}(k:OpR X (binaryOp o) r2)
  (imp:∀u w z x y ρ (H:Hp) Q,RV X.K ρ H u x->RV X.K ρ H w y->JE op u w=some z->(∀v,RV X.K ρ H z v->Q v H)->r2 x y H Q)
  (c:∀u w x y ρ (H:Hp) g p Q,RH X.K ρ H g->RV X.K ρ H u x->RV X.K ρ H w y->Bl u w g=some p->post X.K W (RV X.K) (Bs op u w g) ρ H Q->r2 x y H Q)
  (m:PE X a (tE X.K W (r.ev a'))) (l:PE X b (tE X.K W (r.ev b'))):PE X (.BinOp a o b pos) (tE X.K W (JX C r (.ZZ op a' b'))):=by
 refine(abw k m l).imp λY H Q j=>two j λZ2 ρ H g u w x y hs f d r2 p=>?_;cases h:Bl u w g with
 |some q=>exact c u w x y ρ H g q Q f d r2 h p
 |none=>
  have p:post X.K W (RV X.K) (Bs op u w g) ρ H Q:=p;unfold Bs at p;rw[h]at p;let⟨z,e,p⟩:=post.lift p;exact imp u w z x y ρ H Q d r2 e λv i=>post.Zh p f i
def dm(h:op ≠ .add)(u w:U)(x y:V)(ρ:List Addr)(H:Hp)(g:G)(q:List U×List U)(Q:VK)(_:RH X.K ρ H g)(_:RV X.K ρ H u x)(_:RV X.K ρ H w y)(a:Bl u w g=some q)(p:post X.K W (RV X.K) (Bs op u w g) ρ H Q):r2 x y H Q:=by
 unfold Bs at p;rw[a]at p;cases op<;>first|exact absurd rfl h|exact p.elim
def ig{r c:R2}(h:OpR X f r)(h':OpR X f c):OpR X f λx y H Q=>r x y H Q\/c x y H Q:=λZ s Y H x y v u Q I b a q=>q.elim (h Z s Y H x y v u Q I b a) (h' Z s Y H x y v u Q I b a)
def zu(u w:U)(x y:V)(ρ:List Addr)(H:Hp)(g:G)(q:List U×List U)(Q:VK)(a:RH X.K ρ H g)(h:RV X.K ρ H u x)(f:RV X.K ρ H w y)(b:Bl u w g=some q)(p:post X.K W (RV X.K) (Bs .add u w g) ρ H Q):GP x y H Q:=by
 unfold Bs at p;rw[b]at p;dsimp only at p;split at p
 .rename_i i
  let⟨n,m,rfl,rfl,j,g2⟩:=j0 b;let⟨A,vs,r,o,d⟩:=a.S j;let⟨t,ws,k,KQ,c⟩:=a.S g2;let⟨v,rfl,z⟩:=h;rw[r]at z;cases z;let⟨s,rfl,z⟩:=f;rw[k]at z;cases z;refine⟨A,t,vs,ws,rfl,rfl,o,KQ,by rw[<-d.length,<-c.length,Tz];unfold Ac at i;lia,λl e=>?_⟩
  exact p (.ref l) _ _ (ZM.alloc e) (a.alloc e (d.append c)) ⟨l,rfl,by rw[<-a.len];simp⟩
 .exact p.elim
def b9{g:Int->Int->Int}{a:Int->Int->Prop}(h:∀u w z,JE op u w=some z ->∃i j,u=.int i/\w=.int j/\z=.int (g i j)/\a i j)(u w z:U)(x y:V)(ρ:List Addr)(H:Hp)(Q:VK)(c:RV K ρ H u x)(b:RV K ρ H w y)
  (e:JE op u w=some z) (q:∀v,RV K ρ H z v->Q v H):Jk a (λi j=>.int (g i j)) x y H Q:=by
 let⟨i,j,rfl,rfl,rfl,hc⟩:=h u w z e;cases c;cases b;exact⟨i,j,rfl,rfl,hc,q _ rfl⟩
def nB{g:Int->Int->V}(h:OpR X f (Jl g)):OpR X f (Jk (λ_ _=>True) g):=λZ s Y H x y v u Q I b a ⟨i,j,d,c,_,q⟩=>h Z s Y H x y v u Q I b a ⟨i,j,d,c,q⟩
def log2_small{n:Nat}(h:n<115792089237316195423570985008687907853269984665640564039457584007913129639936):n.log2<9000:=by
 by_cases a:n=0
 .subst a;decide
 .exact HU ((Nat.log2_lt a).mpr (show n<2 ^ 256 from h)) #[1]
def tQ:OpR X (binaryOp .FloorDiv) (Jk (λi j=>j≠0 /\ -As<j/\j<As) λi j=>.int (i.fdiv j)):=opI λi j _ _ _ _ _ hc q=>
 floordiv_int hc.1 q (.inl (PyProof.noPylong_of_log2 (log2_small (by have:=hc.2;unfold As at this;omega))))
def uf:OpR X (binaryOp .Mult) (Jk (λi j=>CMul i j\/((-As<i/\i<As) /\ -As<j/\j<As)) λi j=>.int (i*j)):=opI λi j _ _ _ _ _ hc q=>by
 rcases hc with hc|⟨⟨h1,h2⟩,h3,h4⟩
 .exact mul_int q hc.ok
 .unfold As at h1 h2 h3 h4
  exact mul_int q (IntMulOk.of_bits (HP (intBits_le (k:=256) (show i.natAbs<115792089237316195423570985008687907853269984665640564039457584007913129639936 by omega)) #[1]) (HP (intBits_le (k:=256) (show j.natAbs<115792089237316195423570985008687907853269984665640564039457584007913129639936 by omega)) #[1]))
def cb{w z:U}(e:JE op u w=some z):∃i j,u=.int i/\w=.int j:=by
 cases u<;>first|(cases op<;>cases e<;>done)|skip
 cases w<;>first|(cases op<;>cases e<;>done)|skip
 exact⟨_,_,rfl,rfl⟩
def rQ{o:Operator}(t:(op=.add/\o = .Add)\/(op=.sub/\o = .Sub)\/(op=.mul/\o = .Mult)\/(op=.fdiv/\o = .FloorDiv)\/(op=.mod/\o = .Mod)\/(op=.pow/\o = .Pow))
  (d:PE X a (tE X.K W (r.ev a'))) (c:PE X b (tE X.K W (r.ev b'))):PE X (.BinOp a o b pos) (tE X.K W (JX C r (.ZZ op a' b'))):=by
 rcases t with⟨rfl,rfl⟩|⟨rfl,rfl⟩|⟨rfl,rfl⟩|⟨rfl,rfl⟩|⟨rfl,rfl⟩|⟨rfl,rfl⟩
 .exact cz (ig (nB iy) aaO) (λu w z x y ρ H Q k r2 e q => .inl (b9 (λu w z e=>by
   let⟨i,j,rfl,rfl⟩:=cb e;cases e;exact⟨_,_,rfl,rfl,rfl,trivial⟩) u w z x y ρ H Q k r2 e q)) (λu w x y ρ H g q Q B k r2 D p=>.inr (zu u w x y ρ H g q Q B k r2 D p)) d c
 .exact cz (nB il) (b9 λu w z e=>by
   let⟨i,j,rfl,rfl⟩:=cb e;cases e
   exact⟨_,_,rfl,rfl,rfl,trivial⟩) (dm #[3]) d c
 .refine cz uf (b9 λu w z e=>?_) (dm #[3]) d c
  let⟨i,j,rfl,rfl⟩:=cb e;simp![JE,JD,Qp,Xa]at e;let⟨h,rfl⟩:=e;refine⟨_,_,rfl,rfl,rfl,?_⟩;rw[TH,TH,ZC,ZC,ZC,ZC,ZC]at h;unfold CMul;rw[show((2:Int) ^ 64)=BY from rfl];rcases h with(⟨h1,h2⟩|⟨h1,h2⟩)|⟨⟨⟨h1,h2⟩,h3⟩,h4⟩
  .exact .inl (.inl ⟨HX h1,HX h2⟩)
  .exact .inl (.inr ⟨HX h1,HX h2⟩)
  .exact .inr ⟨⟨HX h1,HX h2⟩,HX h3,HX h4⟩
 .refine cz tQ (b9 λu w z e=>?_) (dm #[3]) d c
  let⟨i,j,rfl,rfl⟩:=cb e;simp![JE,JD]at e;refine⟨i,j,rfl,rfl,?_⟩;by_cases f:0<j
  .rw [XN f]at e
   have A:i / j=i.fdiv j:=(Int.fdiv_eq_ediv_of_nonneg i (by lia)).symm
   by_cases h1:j<As
   .rw [XN h1]at e
    rw[<-A];exact⟨(WY e).symm,by lia,by unfold As;lia,h1⟩
   .rw [Xy h1]at e;cases e
  .rw [Xy f]at e
   by_cases h1:j=0
   .rw [XN h1]at e;cases e
   .rw [Xy h1]at e
    by_cases h2 : -As<j
    .rw [XN h2]at e
     exact⟨(WY e).symm,h1,h2,by unfold As;omega⟩
    .rw [Xy h2]at e;cases e
 .refine cz ud (b9 λu w z e=>?_) (dm #[3]) d c
  let⟨i,j,rfl,rfl⟩:=cb e;simp![JE,JD]at e;refine⟨i,j,rfl,rfl,?_⟩;by_cases f:0<j
  .rw [XN f]at e
   have A:i % j=i.fmod j:=(Int.fmod_eq_emod_of_nonneg i ()).symm
   rw[<-A];exact⟨(WY e).symm,by omega⟩
  .rw [Xy f]at e
   by_cases h1:j=0
   .rw [XN h1]at e;cases e
   .rw [Xy h1]at e
    exact⟨(WY e).symm,h1⟩
 .exact cz zk (b9 λu w z e=>by
   let⟨i,j,rfl,rfl⟩:=cb e;simp![JE,JD,Qp,Xa]at e;let⟨h,rfl⟩:=e;refine⟨_,_,rfl,rfl,rfl,?_⟩;unfold GJ
   omega) (dm #[3]) d c
def aab(e:PE X a (tE X.K W (r.ev a'))):PE X (.UnaryOp .USub a pos) (tE X.K W (JX C r (.neg a'))):=by
 refine(nF nj e).imp λY H Q c=>one c λZ2 ρ H g u x hs d b p=>?_;cases u<;>simp![]at p<;>first|exact p.elim|skip
 cases b;exact⟨_,rfl,post.Zh p d rfl⟩
def By(X:Cx)(a:Cp)(o:CmpOp):Prop:=∃r2,OpR X (compareOp o) r2 /\∀ρ (H:Hp) g u w x y b Q,RH X.K ρ H g->RV X.K ρ H u x->RV X.K ρ H w y->JL a u w g=some b->Q (V.bl b) H->r2 x y H Q
def dJ{a:Cp}{o:CmpOp}{f:Int->Int->Bool}(d:OpR X (compareOp o) (Jl λi j=>.bl (f i j)))(h:∀u w g b,JL a u w g=some b ->∃i j,u=.int i/\w=.int j/\b=f i j):By X a o:=
 ⟨_,d,λρ H g u w x y b Q k c r2 e q=>by
  let⟨i,j,rfl,rfl,rfl⟩:=h u w g b e;cases c;cases r2;exact⟨i,j,rfl,rfl,q⟩⟩
def fR(h:RV K ρ H u x):AG u=decide (x=.ZR):=by
 cases u with
 |Z1 J=>let⟨a,vs,rfl,_⟩:=h;rfl
 |Zs J=>let⟨a,vs,rfl,_⟩:=h;rfl
 |ref J=>let⟨a,rfl,_⟩:=h;rfl
 |xn _ J=>let⟨a,vs,rfl,_⟩:=h;rfl
 |_=>cases h;rfl
def eU{f:Int->Int->Bool}{w:U}{b:Bool}(e:(match u,w with|.int i,.int j=>some (f i j)|_,_=>none)=some b):∃i j,u=.int i/\w=.int j/\b=f i j:=by
 cases u<;>first|(cases e;done)|skip
 cases w<;>first|(cases e;done)|skip
 exact⟨_,_,rfl,rfl,(WY e).symm⟩
def qb{w:U}(h:CN u w=true):(u=.ZR/\w=.ZR)\/(∃a b,u=.bl a/\w=.bl b)\/(∃a b,u=.int a/\w=.int b) \/∃a b,u=.str a/\w=.str b:=by
 cases u<;>cases w<;>first|(cases h;done)|exact .inl ⟨rfl,rfl⟩|exact .inr (.inl ⟨_,_,rfl,rfl⟩)|exact .inr (.inr (.inl ⟨_,_,rfl,rfl⟩))|exact .inr (.inr (.inr ⟨_,_,rfl,rfl⟩))
def abj(s:X.A.units+2<cLine)(f:Cp)(o:CmpOp)(h:(f=.eq/\o = .Eq)\/(f=.ne/\o = .NotEq)\/(f=.lt/\o = .Lt)\/(f=.le/\o = .LtE)\/(f=.gt/\o = .Gt)\/(f=.ge/\o = .GtE)\/(f=.Ws/\o = .Is)\/(f=.VQ/\o = .IsNot)\/(f=.Ve/\o = .In)\/(f=.X4/\o = .NotIn)):By X f o:=by
 rcases h with⟨rfl,rfl⟩|⟨rfl,rfl⟩|⟨rfl,rfl⟩|⟨rfl,rfl⟩|⟨rfl,rfl⟩|⟨rfl,rfl⟩|⟨rfl,rfl⟩|⟨rfl,rfl⟩|⟨rfl,rfl⟩|⟨rfl,rfl⟩
 .refine ⟨_,ig (aaC (by lia)) (yX s),λρ H g u w x y b Q i d r2 e q=>?_⟩
  simp![JL]at e;cases n:Bl u w g with
  |none=>
   rw[n]at e;exact .inl ⟨ρ,g,u,w,b,i,d,r2,e,q⟩
  |some p=>rw[n]at e;exact .inr ⟨ρ,g,u,w,b,i,d,r2,W6.mpr ⟨p,n,e⟩,q⟩
 .refine ⟨_,ig ab3 (zx s),λρ H g u w x y b Q i d r2 e q=>?_⟩
  cases hs:CN u w with
  |false=>
   simp![JL,hs,WN,U3]at e;cases u<;>first|(cases e;done)|skip
   cases w<;>first|(cases e;done)|skip
   let⟨c,t,rfl⟩:=YU.mp e;exact .inr ⟨ρ,_,_,c,d,r2,t,q⟩
  |true=>
  refine .inl ?_;rcases qb hs with⟨rfl,rfl⟩|⟨a,c,rfl,rfl⟩|⟨a,c,rfl,rfl⟩|⟨a,c,rfl,rfl⟩<;>simp![JL,CN,Ti,Aw,Vv,Xa]at e<;>subst e<;>cases d<;>cases r2<;>refine⟨rfl,?_⟩<;>
   first|exact q|(rw[lZ];exact q)|(rw[mD];exact q)|(rw[lV];exact q)|simpa using q
 .exact dJ acg λu w g b e=>eU e
 .exact dJ adi λu w g b e=>eU e
 .exact dJ abh λu w g b e=>eU e
 .exact dJ acp λu w g b e=>eU e
 .refine ⟨_,aaK,λρ H g u w x y b Q i d r2 e q=>?_⟩
  cases w<;>simp![JL,AG,Ti,WN,U3,Xa,reduceCtorEq]at e
  cases r2;subst e;refine⟨rfl,?_⟩;rw[<-fR d];cases u<;>exact q
 .refine ⟨_,vi,λρ H g u w x y b Q i d r2 e q=>?_⟩
  cases w<;>simp![JL,AG,Ti,WN,U3,Xa,reduceCtorEq]at e
  cases r2;subst e;refine⟨rfl,?_⟩;rw[<-fR d];cases u<;>exact q
 .refine ⟨_,mJ (aaJ (by lia)) (zR ()),λρ H g u w x y b Q i d r2 e q=>?_⟩
  simp![JL]at e;cases j:items w g with
  |none=>
   rw[j]at e;let⟨o,m,rfl⟩:=YU.mp e;let⟨a,k,l,r,es,_⟩:=eK i d r2 m;exact .inr ⟨a,k,l,r,by rw[es];exact q⟩
  |some J=>rw[j]at e;exact .inl ⟨ρ,g,u,w,b,i,d,r2,W6.mpr ⟨J,j,e⟩,q⟩
 .refine ⟨_,mJ (uK ()) (uQ ()),λρ H g u w x y b Q i d r2 e q=>?_⟩
  simp![JL]at e;cases j:items w g with
  |none=>
   rw[j]at e;let⟨o,m,rfl⟩:=YU.mp e;let⟨a,k,l,r,es,_⟩:=eK i d r2 m;exact .inr ⟨a,k,l,r,by rw[es];exact q⟩
  |some J=>
   rw[j]at e;exact .inl ⟨ρ,g,u,w,b,i,d,r2,W6.mpr ⟨J,j,e⟩,q⟩
def yw{c:Cp}{o:CmpOp}(d:By X c o)(j:behindInMarks o b=false)(m:PE X a (tE X.K W (r.ev a')))(l:PE X b (tE X.K W (r.ev b'))):PE X (.Compare a [o] [b] pos) (tE X.K W (JX C r (.cmp c a' b'))):=by
 let⟨r2,d,imp⟩:=d;refine(vg d m l j).imp λY H Q i=>two i λZ2 ρ H g u w x y hs f h r2 p=>?_;cases e:JL c u w g with
 |none=>rw[e]at p;exact p.elim
 |some k=>rw[e]at p;exact imp ρ H g u w x y k Q f h r2 e (post.Zh p f rfl)
def zg{d:Cp}{o:CmpOp}(h:By X d o)(l:behindInMarks o b=false)(n:PE X a (tE X.K W (r.ev a')))(m:PE X b (tE X.K W (r.ev b'))):PT X (.Compare a [o] [b] pos) (tT X.K W (λY g=>(JX C r (.cmp d a' b') Y g).bind λx g=>lift (JM x g) g)):=by
 let⟨r2,h,imp⟩:=h;refine(tY h n m l).imp λY H Q j=>?_;have q:tR X.K W Yj (λZ2 g=>(r.ev a' Z2 g).bind λx g=>(r.ev b' Z2 g).bind λy g=>match JL d x y g with|some c=>Out.ok c g|none=>.Z0) Y H Q:=by
  let⟨Z2,ρ,g,hs,f,p⟩:=j;refine⟨Z2,ρ,g,hs,f,?_⟩;have e:((JX C r (.cmp d a' b') Z2 g).bind λx g=>lift (JM x g) g)=((r.ev a' Z2 g).bind λx g=>(r.ev b' Z2 g).bind λy g=>match JL d x y g with|some c=>Out.ok c g|none=>.Z0):=by
   delta JX;dsimp only
   cases r.ev a' Z2 g with
   |ok x g1=>
    simp![Out.bind];cases r.ev b' Z2 g1 with
    |ok y g2=>simp![Out.bind];cases JL d x y g2<;>rfl
    |_=>rfl
   |_=>rfl
  have p2:=p
  change post X.K W Yj ((JX C r (.cmp d a' b') Z2 g).bind λx g=>lift (JM x g) g) ρ H Q at p2
  rw[e]at p2;exact p2
 refine two q λZ2 ρ H g u w x y hs f i r2 p=>?_;cases e:JL d u w g with
 |none=>rw[e]at p;exact p.elim
 |some k=>rw[e]at p;exact imp ρ H g u w x y k _ f i r2 e ⟨k,rfl,post.Zh p f rfl⟩
end
section
variable{a b c:Expr}{b' c':E}{ZV:List Expr}
def okE{Q:VK}(p:post X.K W (RV X.K) (.ok u g) ρ H Q)(a:RH X.K ρ H g)(r:RV X.K ρ H u v):Q v H:=post.Zh p a r
def jP{c:Cp}{i:R2}
  (d:∀ρ (H:Hp) g u w x y b Q,RH X.K ρ H g->RV X.K ρ H u x->RV X.K ρ H w y->JL c u w g=some b->Q (V.bl b) H->r2 x y H Q)
  (a:∀ρ (H:Hp) g u w x y b Q,RH X.K ρ H g->RV X.K ρ H u x->RV X.K ρ H w y->JL YO u w g=some b->Q (V.bl b) H->i x y H Q) (Y:L2.St) (H:Hp) (Q:VK) (hp:tE X.K W (JX C r (.chain c YO a' b' c')) Y H Q) :
  DO r2 i (tE X.K W (r.ev a')) (tE X.K W (r.ev b')) (tE X.K W (r.ev c')) Y H Q:=by
 refine two hp λZ2 ρ H g u w x y hs f j r2 p=>?_;cases e:JL c u w g with
 |none=>rw[e]at p;exact p.elim
 |some k=>
  refine d ρ H g u w x y k _ f j r2 e ⟨k,rfl,?_⟩;cases k with
  |false=>rw[e]at p;exact be (okE p f rfl)
  |true=>
   rw[e]at p;dsimp only at p;refine bf ?_;refine⟨Z2,ρ,g,hs,f,(post.bind p).mono λv H2 ⟨l,z,g2,s2,h2,rz,p2⟩=>?_⟩;cases h:JL YO w z g2 with
   |none=>rw[h]at p2;exact p2.elim
   |some k2=>rw[h]at p2;exact a l H2 g2 w z y v k2 Q h2 (RV.step s2 _ _ r2) rz h (okE p2 h2 rfl)
def sM{g:Cp}{o o':CmpOp}(e:By X g o)(f:By X YO o')(h:lastMarks [o,o'] [b,c]=false)(k:PE X a (tE X.K W (r.ev a')))(j:PE X b (tE X.K W (r.ev b')))(i:PE X c (tE X.K W (r.ev c'))):
  PE X (.Compare a [o,o'] [b,c] pos) (tE X.K W (JX C r (.chain g YO a' b' c'))):=by
 let⟨r2,e,imp⟩:=e;let⟨l,f,d⟩:=f;exact(tm e f k j i h).imp (jP imp d)
def rS{f:Su->G->Out U}(e:∀Y g u g',f Y g=.ok u g' ->∃c,u=.bl c)(Y:L2.St)(H:Hp)(Q:Bool->Hp->Prop)(hp:tT X.K W (λY g=>(f Y g).bind λx g=>lift (JM x g) g) Y H Q):tE X.K W f Y H (λx H1=>∃c,x=.bl c/\Q c H1):=by
 let⟨Z2,ρ,g,hs,d,p⟩:=hp;refine⟨Z2,ρ,g,hs,d,?_⟩;have hk:=e Z2 g
 change post X.K W Yj ((f Z2 g).bind λx g=>lift (JM x g) g) ρ H Q at p
 revert p hk;cases f Z2 g with
 |ok u g1=>
  intro hk p;let⟨c,rfl⟩:=hk u g1 rfl;intro v h H1 a h1 b;cases b;exact⟨c,rfl,p c h H1 a h1 rfl⟩
 |_=>exactλ_ p=>p
def tq{a:Cp}(Y:Su)(g:G)(u:U)(g':G)(h:JX C r (.chain a YO a' b' c') Y g=.ok u g'):∃c,u=.bl c:=by
 delta JX at h;dsimp only at h
 revert h;cases r.ev a' Y g with
 |ok x g1=>
  simp![Out.bind];cases r.ev b' Y g1 with
  |ok y g2=>
   simp![Out.bind];cases JL a x y g2 with
   |none=>intro h;cases h
   |some k=>
    cases k with
    |false=>intro h;cases h;exact⟨_,rfl⟩
    |true=>
     simp![];cases r.ev c' Y g2 with
     |ok z g3=>
      simp![Out.bind];cases JL YO y z g3 with
      |none=>intro h;cases h
      |some k=>intro h;cases h;exact⟨_,rfl⟩
     |_=>intro h;cases h
  |_=>intro h;cases h
 |_=>intro h;cases h
def su{h:Cp}{o o':CmpOp}(e:By X h o)(f:By X YO o')(j:lastMarks [o,o'] [b,c]=false)(m:PE X a (tE X.K W (r.ev a')))(l:PE X b (tE X.K W (r.ev b')))(k:PE X c (tE X.K W (r.ev c'))):
  PT X (.Compare a [o,o'] [b,c] pos) (tT X.K W (λY g=>(JX C r (.chain h YO a' b' c') Y g).bind λx g=>lift (JM x g) g)):=by
 let⟨r2,e,imp⟩:=e;let⟨n,f,d⟩:=f;exact(tu e f m l k j).imp λY H Q i=>jP imp d Y H _ (rS tq Y H Q i)
def yW(h:PE X a (tE X.K W (r.ev a')))(f:PE X (.BoolOp .And (b::ZV) pos) (tE X.K W (r.ev b'))):PE X (.BoolOp .And (a::b::ZV) pos) (tE X.K W (JX C r (.and a' b'))):=by
 refine(yR h f).imp λY H Q e=>one e λZ2 ρ H g u x hs c d p=>?_;cases u with
 |bl k=>
  cases d;refine⟨k,rfl,?_⟩;cases k with
  |true=>exact bf ⟨Z2,ρ,g,hs,c,p⟩
  |false=>exact be (okE p c rfl)
 |_=>exact p.elim
def abi(h:PE X a (tE X.K W (r.ev a')))(f:PE X (.BoolOp .Or (b::ZV) pos) (tE X.K W (r.ev b'))):PE X (.BoolOp .Or (a::b::ZV) pos) (tE X.K W (JX C r (.or a' b'))):=by
 refine(aco h f).imp λY H Q e=>one e λZ2 ρ H g u x hs c d p=>?_;cases u with
 |bl k=>
  cases d;refine⟨k,rfl,?_⟩;cases k with
  |true=>exact bf (okE p c rfl)
  |false=>exact be ⟨Z2,ρ,g,hs,c,p⟩
 |_=>exact p.elim
def nt{k:Bool}(j:RH X.K ρ H g)(d:RV X.K ρ H u x)(e:JM u g=some k):DC X.K x H k:=by
 have c:∀{J:List U} {vs:List V},RVs X.K ρ H J vs->(!J.isEmpty) = !vs.isEmpty:=λ{J vs} h=>by
  cases J with
  |nil=>cases h;rfl
  |cons u J=>let⟨v,r,rfl,_⟩:=h;rfl
 cases u with
 |str s=>simp[JM]at e
 |Z1 J=>let⟨a,vs,rfl,h1,h2⟩:=d;cases e;exact .inr (.inl ⟨vs,h1.sq,c h2⟩)
 |Zs J=>let⟨a,vs,rfl,h1,h2⟩:=d;cases e;exact .inl ⟨vs,h1.sq,c h2⟩
 |ref n=>
  let⟨a,rfl,f⟩:=d;simp![JM]at e;cases eg:g[n]? with
  |none=>simp[eg]at e
  |some o=>
   cases o with
   |S xs=>
    simp![eg,Xa]at e;subst e;let⟨a',vs,h1,h2,l⟩:=j.S eg;rw[f]at h1;cases h1;exact .inl ⟨vs,.of h2,c l⟩
   |_=>simp[eg]at e
 |xn _ _=>simp[JM]at e
 |_=>cases d;cases e;rfl
def aat(l:PE X a (tE X.K W (r.ev a'))):PE X (.UnaryOp .Not a pos) (tE X.K W (JX C r (.not a'))):=by
 intro Z s Y H Q I j;have m:tE X.K W (r.ev a') Y H (λx H1=>∃k,DC X.K x H1 k/\Q (.bl (!k)) H1):=one j λZ2 ρ H g u x hs d c p=>by
  cases e:JM u g with
  |none=>rw[e]at p;exact p.elim
  |some k=>rw[e]at p;exact⟨k,nt d c e,okE p d rfl⟩
 refine UnaryOp_ (thn (l Z s Y H _ I m) ?_);rintro v f ⟨x,H1,o,c,k,tr,i⟩;exact not_of (thn (mL Z f Y H1 x v (λb H2=>Q (.bl (!b)) H2) o c ⟨k,tr,i⟩) λb q ⟨H2,n,h⟩=>⟨.bl (!b),H2,n,rfl,h⟩)
def sj(ha:PE X a (tE X.K W (r.ev a')))(he:∀whole,isTrue a X.env whole=(do let v<-whole;standAt a.pos;holding [v] (truthy v))):PT X a (tT X.K W (λY g=>(r.ev a' Y g).bind λx g=>lift (JM x g) g)):=by
 refine(s9 ha he).imp λY H Q hp=>one (k:=λ_ x g=>lift (JM x g) g) hp λZ2 ρ H g u x hs hg r1 p=>?_;let⟨k,e,p⟩:=post.lift p;exact⟨k,nt hg r1 e,post.Zh p hg rfl⟩
def yF(f:PT X a (tT X.K W (r.ts a')))(e:PW X (.BoolOp .And (b::ZV) pos) (tT X.K W (r.ts b'))):PW X (.BoolOp .And (a::b::ZV) pos) (tT X.K W (JY r (.and a' b'))):=by
 refine(x6 f e).imp ?_;rintro Y H Q ⟨Z2,ρ,g,hs,d,p⟩;refine⟨Z2,ρ,g,hs,d,(post.bind (R:=Yj) p).mono λk H1 ⟨i,k',g1,s1,h1,h,c⟩=>?_⟩;subst h;cases k' with
 |true=>exact bf ⟨Z2,i,g1,hs.step s1,h1,c⟩
 |false=>exact be (post.Zh c h1 rfl)
def abS(f:PT X a (tT X.K W (r.ts a')))(e:PW X (.BoolOp .Or (b::ZV) pos) (tT X.K W (r.ts b'))):PW X (.BoolOp .Or (a::b::ZV) pos) (tT X.K W (JY r (.or a' b'))):=by
 refine(acM f e).imp ?_;rintro Y H Q ⟨Z2,ρ,g,hs,d,p⟩;refine⟨Z2,ρ,g,hs,d,(post.bind (R:=Yj) p).mono λk H1 ⟨i,k',g1,s1,h1,h,c⟩=>?_⟩;subst h;cases k' with
 |true=>exact bf (post.Zh c h1 rfl)
 |false=>exact be ⟨Z2,i,g1,hs.step s1,h1,c⟩
def zr(d:PT X a (tT X.K W (r.ts a'))):PT X (.UnaryOp .Not a pos) (tT X.K W (JY r (.not a'))):=by
 refine(yV d).imp ?_;rintro Y H Q ⟨Z2,ρ,g,hs,c,p⟩;refine⟨Z2,ρ,g,hs,c,(post.bind (R:=Yj) p).mono λk H1 ⟨f,k',g1,s1,h1,e,b⟩=>?_⟩;subst e;exact post.Zh b h1 rfl
def xN:PA X [] (XW X.K W (JT r.ev [])):=aQ.imp λY H Q ⟨Z2,ρ,g,hs,a,p⟩=>post.Zh (R:=RVs X.K) (u:=[]) p a rfl
def ur(i:PE X a (tE X.K W (r.ev a')))(e:PA X es (XW X.K W (JT r.ev ZL)))(b:starEach (a::es) X.env=(false,eval a X.env)::starEach es X.env):PA X (a::es) (XW X.K W (JT r.ev (a'::ZL))):=by
 refine(aw i e b).imp λY H Q f=>one f λZ2 ρ H g u x b h c p=>?_;refine⟨Z2,ρ,g,b,h,(post.bind p).mono λxs H1 ⟨j,J,g1,s1,h1,rs,d⟩=>?_⟩;exact post.Zh (R:=RVs X.K) d h1 ⟨x,xs,rfl,RV.step s1 _ _ c,rs⟩
def szl(a:RVs X.K ρ H J vs)(h:J.length<=Ac):vs.length<=sizeLine:=by
 rw[<-a.length,Tz];unfold Ac at h;lia
def xb{k:Nat}(h:PA X es (XW X.K W (JT r.ev ZL))):PE X (.Tuple es k pos) (tE X.K W (JX C r (.Z1 ZL))):=by
 refine(iq h).imp ?_;rintro Y H Q ⟨Z2,ρ,g,hs,d,p⟩;refine⟨Z2,ρ,g,hs,d,(post.bind (R:=RVs X.K) p).mono λxs H1 ⟨e,J,g1,s1,h1,rs,a⟩=>?_⟩;by_cases c:J.length<=Ac
 .rw [XN c]at a
  refine⟨szl rs c,λq b=>?_⟩;exact a _ e _ (ZM.fresh b) (h1.step_fresh b) ⟨q,xs,rfl,upd_same,RVs.step (ZM.fresh b) _ _ rs⟩
 .rw [Xy c]at a;exact a.elim
def b7{Q:VK}(p:post X.K W (RV X.K) (alloc (.S J) g) ρ H Q)(b:RH X.K ρ H g)(c:RVs X.K ρ H J xs)(q:Addr)(a:H q=none):Q (.ref q) (upd H q (.S xs)):=by
 refine p (.ref q) (ρ++[q]) _ (ZM.alloc a) (b.alloc a c) ⟨q,rfl,?_⟩;rw[<-b.len];simp
def aak(h:PA X es (XW X.K W (JT r.ev ZL))):PE X (.List es pos) (tE X.K W (JX C r (.S ZL))):=by
 refine(aaP h).imp ?_;rintro Y H Q ⟨Z2,ρ,g,hs,d,p⟩;refine⟨Z2,ρ,g,hs,d,(post.bind (R:=RVs X.K) p).mono λxs H1 ⟨e,J,g1,s1,h1,rs,a⟩=>?_⟩;by_cases b:J.length<=Ac
 .rw [XN b]at a
  exact⟨szl rs b,λq c=>b7 a h1 rs q c⟩
 .rw [Xy b]at a;exact a.elim
def ve{i:Int}(a:RVs X.K ρ H J vs)(e:JN J i=some u):∃v,atI vs i=some v/\RV X.K ρ H u v:=by
 unfold JN atI at e;unfold atI;rw[<-a.length];cases b:ixN J.length i with
 |none=>simp[b]at e
 |some j=>
  rw[b]at e;let⟨v,h1,h2⟩:=a.get (show J[j]?=some u from e);exact⟨v,h1,h2⟩
def nr(B:X.A.units+1<cLine)(m:PE X a (tE X.K W (r.ev a')))(E:PE X b (tE X.K W (r.ev b')))(t:DN b):PE X (.Subscript a b pos) (tE X.K W (JX C r (.idx a' b'))):=by
 refine(abk ((wH.or w9).or (vA B)) m E t).imp λY H Q D=>two D λZ2 ρ H g u w x y t c l r2 p=>?_;cases w with
 |int i=>
  cases r2;cases e:items u g with
  |none=>rw[e]at p;exact p.elim
  |some J=>
   rw[e]at p;dsimp only at p;let⟨z,j,p⟩:=post.lift p;let⟨q,vs,rfl,h,rs⟩:=cY c l e;let⟨v,ev,f⟩:=ve rs j;rcases h with h|h
   .exact .inl (.inl ⟨q,vs,i,v,rfl,rfl,h,ev,okE p c f⟩)
   .exact .inl (.inr ⟨q,vs,i,v,rfl,rfl,h,ev,okE p c f⟩)
 |Z1 J=>
  let⟨z,j,p⟩:=post.lift p;let⟨o,s,d⟩:=W6.mp j;let⟨q,G,rfl,F,_,got⟩:=eK c r2 l s;let⟨v,rfl,f⟩:=got z d;exact .inr ⟨q,v,rfl,F,okE p c f⟩
 |str k=>
  let⟨z,j,p2⟩:=post.lift p;clear p;let⟨O,s,d⟩:=W6.mp j;let⟨n,q,ws,rfl,_,_,rfl,m,rk⟩:=aaj c l s;let⟨v,ev,f⟩:=rk.got k d;cases r2;exact .inr ⟨q,v,rfl,by rw[<-ev];exact DGet.k (k:=Sum.inr k) m,okE p2 c f⟩
 |_=>exact p.elim
def fB{K:HY}{ρ:List Addr}{H:Hp}:∀ns:List Int,RVs K ρ H (ns.map U.int) (ns.map V.int)
 |[]=>rfl
 |n::ns=>⟨.int n,ns.map V.int,rfl,rfl,fB ns⟩
def se_bi{b:Bi}{f:Str}{c:Pos}{a:List V->Hp->VK->Prop}(h:PE X (.Call (.Name f c) (e::es) [] pos) (Js a (XW X.K W (JT r.ev ZL))))
  (imp:∀ρ H g J xs Q,RH X.K ρ H g->RVs X.K ρ H J xs->post X.K W (RV X.K) (JR b J g) ρ H Q->a xs H Q):PE X (.Call (.Name f c) (e::es) [] pos) (tE X.K W (JX C r (.bi b ZL))):=by
 refine h.imp ?_;rintro Y H Q ⟨Z2,ρ,g,hs,i,p⟩;exact⟨Z2,ρ,g,hs,i,(post.bind (R:=RVs X.K) p).mono λxs H1 ⟨j,J,g1,s1,h1,rs,d⟩=>imp j H1 g1 J xs Q h1 rs d⟩
def imp_len(ρ:List Addr)(H:Hp)(g:G)(J:List U)(xs:List V)(Q:VK)(b:RH X.K ρ H g)(a:RVs X.K ρ H J xs)(p:post X.K W (RV X.K) (JR .len J g) ρ H Q):
  ∃p ys,xs=[.ref p]/\(SqL X.K H p ys\/SqT X.K H p ys)/\Q (.int ys.length) H:=by
 match J,a with
 |[u],a=>
  let⟨x,r',rfl,c,e⟩:=a;cases e;simp![JR,D0,C3]at p;cases e:items u g with
  |none=>rw[e]at p;exact p.elim
  |some zs=>
   rw[e]at p;let⟨q,vs,rfl,d,rz⟩:=cY b c e;exact⟨q,vs,rfl,d,by rw[<-rz.length];exact okE p b rfl⟩
 |[],_=>exact p.elim
 |_::_::_,_=>exact p.elim
def imp_abs(ρ:List Addr)(H:Hp)(g:G)(J:List U)(xs:List V)(Q:VK)(c:RH X.K ρ H g)(a:RVs X.K ρ H J xs)(p:post X.K W (RV X.K) (JR .abs J g) ρ H Q):
  ∃i,xs=[.int i]/\Q (.int (if i<0 then -i else i)) H:=by
 match J,a with
 |[u],a=>
  let⟨x,r',rfl,b,e⟩:=a;cases e;cases u with
  |int i=>cases b;exact⟨i,rfl,okE p c rfl⟩
  |_=>exact p.elim
 |[],_=>exact p.elim
 |_::_::_,_=>exact p.elim
def fZ(j:RH X.K ρ H g)(b:RVs X.K ρ H J xs)(e:AN J g=some ns):∃p,xs=[.ref p]/\H p=some (.S (ns.map V.int)):=by
 match J,b with
 |[],_=>cases e
 |_::_::_,_=>unfold AN at e;split at e<;>first|cases e|(rename_i h;cases h)
 |[u],b=>
  let⟨x,r',rfl,f,e'⟩:=b;cases e';cases u with
  |ref n=>
   simp![AN]at e;cases eg:g[n]? with
   |none=>rw[eg]at e;cases e
   |some ob=>
    cases ob with
    |S J=>
     rw[eg]at e;let⟨a,vs,i,k,d⟩:=j.S eg;let⟨a',rfl,c⟩:=f;rw[i]at c;cases c;exact⟨a,rfl,by rw[k,dU e d]⟩
    |_=>rw[eg]at e;cases e
  |_=>cases e
def imp_mm{b:Bi}(j:∀J g,JR b J g=BS m J g)(ρ:List Addr)(H:Hp)(g:G)(J:List U)(xs:List V)(Q:VK)(d:RH X.K ρ H g)(h:RVs X.K ρ H J xs)(p:post X.K W (RV X.K) (JR b J g) ρ H Q):Ka m xs H Q:=by
 rw[j]at p;unfold BS at p;cases e:intsOf J with
 |some ns=>
  have ex:=dU e h;subst ex;rw[e]at p;dsimp only at p
  match ns,p with
  |[a,b],p=>exact .inl ⟨a,b,rfl,okE p d rfl⟩
  |[a,b,c],p=>exact .inr (.inl ⟨a,b,c,rfl,okE p d rfl⟩)
  |[],p=>exact p.elim
  |[_],p=>exact p.elim
  |_::_::_::_::_,p=>exact p.elim
 |none=>
  rw[e]at p;dsimp only at p;cases f:AN J g with
  |none=>rw[f]at p;exact p.elim
  |some ns=>
   rw[f]at p;dsimp only at p;let⟨q,rfl,i⟩:=fZ d h f;cases ns with
   |nil=>exact p.elim
   |cons a r=>exact .inr (.inr ⟨q,a,r,rfl,i,okE p d rfl⟩)
def imp_sum(ρ:List Addr)(H:Hp)(g:G)(J:List U)(xs:List V)(Q:VK)(b:RH X.K ρ H g)(c:RVs X.K ρ H J xs)(p:post X.K W (RV X.K) (JR .sum J g) ρ H Q):
  ∃(p:Addr) (ns:List Int),xs=[.ref p]/\H p=some (.S (ns.map V.int))/\Q (.int ns.sum) H:=by
 simp![JR,Di]at p;cases a:AN J g with
 |none=>rw[a]at p;exact p.elim
 |some ns=>
  rw[a]at p;let⟨q,rfl,d⟩:=fZ b c a;exact⟨q,ns,rfl,d,okE p b rfl⟩
def uL:PE X (.Dict [] [] pos) (tE X.K W (JX C r .W4)):=by
 refine(sX).imp ?_;rintro Y H Q ⟨Z2,ρ,g,hs,b,p⟩ q a;refine p (.ref q) (ρ++[q]) _ (ZM.alloc a) (b.TJ a ⟨[],rfl,rfl⟩) ⟨q,rfl,?_⟩;rw[<-b.len];simp
end
open PySem PySem.Spec PyProof.Rows L2 PySem.W
section
def imp_list(ρ:List Addr)(H:Hp)(g:G)(J:List U)(xs:List V)(Q:VK)(b:RH X.K ρ H g)(a:RVs X.K ρ H J xs)(p:post X.K W (RV X.K) (JR .list J g) ρ H Q):
  (∃p ys,xs=[.ref p]/\(SqL X.K H p ys\/SqT X.K H p ys) /\∀l,H l=none->Q (.ref l) (upd H l (.S ys))):=by
 match J,a with
 |[u],a=>
  let⟨x,r',rfl,c,e⟩:=a;cases e;simp![JR,C3]at p;cases e:items u g with
  |none=>
   rw[e]at p;exact p.elim
  |some zs=>
   rw[e]at p;let⟨q,vs,rfl,d,rz⟩:=cY b c e;exact⟨q,vs,rfl,d,λl f=>b7 p b rz l f⟩
 |[],_=>exact p.elim
 |_::_::_,_=>exact p.elim
def imp_srt(ρ:List Addr)(H:Hp)(g:G)(J:List U)(xs:List V)(Q:VK)(c:RH X.K ρ H g)(d:RVs X.K ρ H J xs)(p:post X.K W (RV X.K) (JR .Xg J g) ρ H Q):
  ∃(p:Addr) (ns:List Int),xs=[.ref p]/\H p=some (.S (ns.map V.int))/\ns.length<64 /\∀l,H l=none->Q (.ref l) (upd H l (.S ((sortI ns).map V.int))):=by
 simp![JR,Ce]at p;cases b:AN J g with
 |none=>rw[b]at p;exact p.elim
 |some ns=>
  rw[b]at p;dsimp only at p;let⟨q,rfl,e⟩:=fZ c d b;by_cases a:ns.length<64
  .rw [XN a]at p
   exact⟨q,ns,rfl,e,a,λl h=>b7 p c (fB _) l h⟩
  .rw [Xy a]at p;exact p.elim
def call_srtX(b:X.calm=true)(a:X.A.units+2<cLine):CallR X (.builtin "sorted") (λxs H Q=>∃(p:Addr) (ns:List Int),xs=[.ref p]/\H p=some (.S (ns.map V.int))/\ns.length<64 /\∀l,H l=none->Q (.ref l) (upd H l (.S ((sortI ns).map V.int)))):=sQ
end
section
variable{E:Value->Shared->Prop}
def tK{id:String}{o:Addr}{es:Array DictEntry}{Q:Array DictEntry->Shared->Prop}(ho:s.heap.get? o=some oo)(hd:oo.data=.dict es ep)
  (hk:∀e∈es,∃b,e.key=.ref b/\s.TypeIs (.ref b) "tuple") (hh:∀e∈es,¬ (es.filter (·.hash==e.hash)).size > 1) (h:Q es s):wpAny (model prog w) A (Builtin.Dict.entriesForEmpty id o) Q E s:=by
 unfold Builtin.Dict.entriesForEmpty;refine ZB (Ra ho hd (ZB ?_));rw [<-Array.forIn_toList];have all:∀ l:List DictEntry,(∀ e∈l,e∈es)->wpAny (model prog w) A (forIn l PUnit.unit λe (_:PUnit)=>(do
   let q<-Builtin.Dict.quietEq e.key
   if(!q)=true then
    if(es.filter (·.hash==e.hash)).size > 1 then(do let _<-(unsupported s!"{id}:keys-of-equal-hash" : Sem PUnit);pure (ForInStep.yield PUnit.unit))else pure (ForInStep.yield PUnit.unit)
   else pure (ForInStep.yield PUnit.unit):Sem (ForInStep PUnit))) (λ_ s'=>wpAny (model prog w) A (pure es) Q E s') E s:=λl=>by
  induction l with
  |nil=>intro _;rw[Po];exact ZP (ZP h)
  |cons e l ih=>
   intro hl;let⟨b,hb,ht⟩:=hk e (hl e (.head _));rw[RY,hb];refine ZB (ZB ?_);show wpAny _ _ (specialOf (.ref b) "__eq__" >>= _) _ _ _;refine ZB (Pk ht F.slot_tuple_eq.lookup (ZP ?_));rw[XN #[1],Xy (hh e (hl e (.head _)))]
   exact ZP (ih λx hx=>hl x (.tail _ hx))
 exact all es.toList λe he=>Qn.mp he
def rn{C:String}{d o:Addr}{k:Obj}{a:Array DictEntry}{j:Nat}{Q:Unit->Shared->Prop}(G:d≠o)(c:(o==sysModules)=false)(y:s.heap.get? d=some k)(B:k.data=.dict #[] j)
  (r:s.heap.get? o=some oo) (u:oo.data=.dict a ep) (t:∀e∈a,∃b,e.key=.ref b/\s.TypeIs (.ref b) "tuple") (D:∀e∈a,¬ (a.filter (·.hash==e.hash)).size > 1) (H:a.size<=sizeLine) (f:0<a.size)
  (h:Q Unit.unit {s with heap:=s.heap.update d (Obj.mapDictKeys λ_=>a)}):wpAny (model prog w) A (Builtin.Dict.mergeDict C d o) Q E s:=by
 have g:(decide (a.size<=8)&&a.all λe=>(keyPart e.key).isSome)=false:=by
  rw[Bool.and_eq_false_iff]
  right
  rw[<-Qk,Array.all_eq_true];intro z;let⟨b,F,_⟩:=t a[0] (Array.getElem_mem f);have:=z 0 f;rw[F]at this;cases this
 unfold Builtin.Dict.mergeDict;rw[Xy (by simpa using G)]
 unfold Builtin.Dict.showsAll;rw[Xy (by rw[c];exact HQ)]
 refine ZB (ZP (ZB (Ra r u ?_)));dsimp only;rw[g,XN #[2]]
 refine ZB (Ra y B ?_);rw[XN #[2]]
 refine ZB (tK r u t D ?_);rw[XN (by simp![WC,Array.isEmpty_eq_false_iff];rintro rfl;exact absurd f (T7 _))]
 exact ZB (wpAny_updateDictKeysTo y B (ZP h) (by lia))
def so{o:Addr}{a:Array DictEntry}(c:(o==sysModules)=false)
  (d:s.heap.get? o=some oo) (hx:oo.ExactDict) (y:oo.data=.dict a ep) (r:∀e∈a,∃b,e.key=.ref b/\s.TypeIs (.ref b) "tuple") (t:∀e∈a,¬ (a.filter (·.hash==e.hash)).size > 1) (k:a.size<=sizeLine) (z:0<a.size)
  (h:Q (.ref s.heap.objs.size) {s with heap:=(s.heap.push {cls:=.type "dict",data:=.dict #[]}).update s.heap.objs.size (Obj.mapDictKeys λ_=>a)}):wpAny (model prog w) A (call (.type "dict") [.ref o]) Q E s:=by
 refine callType_codes (Q₁:=λobj f=>obj=.ref s.heap.objs.size/\f = {s with heap:=s.heap.push {cls:=.type "dict",data:=.dict #[]}}) F.kt_called_dict (F.kt_typeCall_dict_1 _) F.entry_dict_init (kt_code_dict_new _ ⟨rfl,rfl⟩) ?_
 rintro obj f ⟨rfl,rfl⟩;have j:(s.heap.push {cls:=.type "dict",data:=.dict #[]}).get? s.heap.objs.size=some {cls:=.type "dict",data:=.dict #[]}:=HW _ rfl;have tn:({s with heap:=s.heap.push {cls:=.type "dict",data:=.dict #[]}}:Shared).TypeIs (.ref s.heap.objs.size) "dict":=⟨_,j,rfl⟩
 have g:(s.heap.push {cls:=.type "dict",data:=.dict #[]}).get? o=some oo:=HM _ d;have to:({s with heap:=s.heap.push {cls:=.type "dict",data:=.dict #[]}}:Shared).TypeIs (.ref o) "dict":=⟨_,g,hx.1⟩
 refine⟨tn,F.args_dict_init_2 _ _,?_⟩;unfold Builtin.«dict.__init__»;refine ZB ?_;unfold Builtin.Dict.selfAndRest;refine ZB (wpAny_notOrdered_dict tn ?_);show wpAny _ _ (pure (s.heap.objs.size,[Value.ref o])) _ _ _;refine ZP ?_;show wpAny _ _ (Builtin.Dict.updateFrom "dict.__init__" s.heap.objs.size (.ref o) [] .none) _ _ _;unfold Builtin.Dict.updateFrom;refine ZB (wpAny_typeOf to ?_);rw[Xy #[1]]
 refine ZB ?_;unfold Builtin.Dict.merge;refine ZB ?_;unfold Builtin.Dict.readDirectly;refine ZB (wpAny_isInstance to isSubtype_dict_dict ?_);simp![QY,WN,U3];refine ZB (Pk to F.slot_dict_iter.lookup (ZP ?_));simp![Ri,Ti];refine ZB (ZP ?_);refine rn (Rm (HN d)) c j rfl g y (λe u=>?_) t k z ?_
 .obtain ⟨b,D,ob,C,B⟩:=r e u
  exact⟨b,D,ob,HM _ C,B⟩
 .show wpAny _ _ (Builtin.Dict.addKeywords s.heap.objs.size [] >>= _) _ _ _
  exact ZB (ZP (ZP ⟨rfl,h⟩))
end
variable{o:Expr}{ys:List (List Key×Addr×Value)}{n:Nat}{rr:V->List V->Hp->VK->Prop}{Z7:It}{is:List Nat}{p:Pos}
def nV:∀{l:List DictEntry} (_:(l.map (·.hash)).Nodup) (h:Int),(l.filter (·.hash==h)).length<=1
 |[],_,_=>QS _
 |e::l,nd,h=>by
  rw[Xk,SD]at nd;rw[List.filter_cons];split
  .rename_i z
   have:l.filter (·.hash==h)=[]:=R8.mpr λx a y=>nd.1 (by rw[eq_of_beq z,<-eq_of_beq y];exact VR.mpr ⟨x,a,rfl⟩)
   rw[this];exact HR _
  .exact nV nd.2 h
def pJ{l:Addr}{o:HO}(b:H l=none){ws:List (List Key×V)}(a:Paired (λ(p:List Key×V) (q:List Key×Addr×Value)=>p.1=q.1/\H q.2.1=some (.Z1 (p.1.map IT))/\RelV p.2 q.2.2) ws ys):
  Paired (λ(p:List Key×V) (q:List Key×Addr×Value)=>p.1=q.1/\upd H l o q.2.1=some (.Z1 (p.1.map IT))/\RelV p.2 q.2.2) ws ys:=by
 induction a with
 |nil=>exact .nil
 |cons z _ ih=>exact .cons ⟨z.1,by rw[aa (λe=>by have:=z.2.1;rw[e,b]at this;cases this)];exact z.2.1,z.2.2⟩ ih
section
def GU(X:Cx):List V->Hp->VK->Prop:=λxs H Q=>∃(a:Addr) (ws:List (List Key×V)) (ks:List (List Int)),xs=[.ref a]/\Rd H a (.dT ws)/\ws.map (·.1)=ks.map (λk=>k.map Sum.inl)/\ks≠[]/\(∀a∈ks,∀b∈ks,hkL a=hkL b->a=b) /\∀l,H l=none->Q (.ref l) (upd H l (.dT ws))
def call_dct:CallR X (.type "dict") (GU X):=by
 intro Z s Y H xs J Q I r ⟨a,ws,ks,e,t,j,Zg,K,q⟩;subst e;let⟨u,rfl,F⟩:=vals1 r;cases F;let⟨h1,h2,ys,A,o,es,ep,N,M,L,g,d⟩:=(show ObjOk X.prog X.w H s.heap a (.dT ws)from t.ok I.ZQ);have C:ys.map (·.1)=ks.map (λk=>k.map (Sum.inl:Int->Key)):=by
  rw[<-j];clear h1 g d j q t
  induction A with
  |nil=>rfl
  |cons z _ ih=>rw[Xk,Xk,ih,z.1]
 have Z1:∀y∈ys,∃xs,H y.2.1=some (.Z1 xs):=by
  clear h1 g d j q t C
  induction A with
  |nil=>exactλy c=>nomatch c
  |cons z _ ih=>
   intro y c;rcases Wc.mp c with rfl|c
   .exact ⟨_,z.2.1⟩
   .exact ih y c
 have E:es.toList.map (·.hash)=ks.map hkL:=by
  rw[g,T9];have:((λe:DictEntry=>e.hash) ∘ entryOfKey (tupleKind (AD X.prog X.w)))=(λk=>(tupleKind (AD X.prog X.w)).hash k) ∘ (λy:List Key×Addr×Value=>y.1):=rfl;rw[this,<-T9,C,T9];refine Qx λk _=>?_;show reduceHash (Builtin.Tuple.tupleHashOf ((k.map Sum.inl).map (AD X.prog X.w).hash))=reduceHash (Builtin.Tuple.tupleHashOf (k.map hashInt));rw[T9];rfl
 have nd:(es.toList.map (·.hash)).Nodup:=by
  rw[E];rw[C]at d;exact R9.mpr ((R9.mp d).imp_of_mem λ{x y} hx c z e=>z (by rw[K x hx y c e]))
 have G:es.size=ks.length:=by rw[<-Uj,<-YK (f:=(·.hash)),E,YK]
 have R:ks.length=ws.length:=by rw[<-YK (f:=(·.1)) (as:=ws),j,YK]
 have O:0<es.size:=by rw[G];exact List.length_pos_iff.mpr Zg
 have fresh:=I.ZQ.fresh (HR s.heap.objs.size);refine so h2 N M L (λe D=>?_) (λe D=>?_) (by lia) O ?_
 .have:e∈ys.map (entryOfKey (tupleKind (AD X.prog X.w))):=by rw[<-g];exact Qn.mpr D
  let⟨y,c,rfl⟩:=VR.mp this;let⟨zs,B⟩:=Z1 y c;let⟨_,ZY,_,ob,Lg,o2,_⟩:=(show ObjOk X.prog X.w H s.heap y.2.1 (.Z1 zs)from I.ZQ _ _ B);exact⟨y.2.1,rfl,ob,Lg,o2⟩
 .rw [<-Uj,Array.toList_filter]
  exact Nat.not_lt.mpr (nV nd e.hash)
 .have P:(s.heap.push {cls:=.type "dict",data:=.dict #[]}).get? s.heap.objs.size=some {cls:=.type "dict",data:=.dict #[]}:=HW _ rfl
  refine⟨.ref s.heap.objs.size,_,I.laid (t':=s.toks) (o:=.dT ws) (λb ob e=>?_) (HR _) ?_,rfl,q _ fresh⟩
  .exact ((Qv _ _ _).2 b (HV (HN e))).trans (HM _ e)
  .refine ⟨h1,TL.mpr (Ne.symm (HV I.YB)),ys,?_,_,es,_,T1 _ P (Obj.isFreed_of_dict (Obj.data_mapDictKeys rfl _)),Obj.ExactDict.mapDictKeys ⟨rfl,rfl,rfl⟩ _,Obj.data_mapDictKeys rfl _,g,d⟩
   exact pJ fresh A
def imp_dct(ρ:List Addr)(H:Hp)(g:G)(J:List U)(xs:List V)(Q:VK)(d:RH X.K ρ H g)(c:RVs X.K ρ H J xs)(p:post X.K W (RV X.K) (JR .dct J g) ρ H Q):GU X xs H Q:=by
 match J,c with
 |[u],c=>
  let⟨x,r',rfl,j,e⟩:=c;cases e;simp![JR,Dv]at p;cases f:JI u g with
  |none=>rw[f]at p;exact p.elim
  |some O=>
   rw[f]at p;dsimp only at p;by_cases hk:O≠[] /\∀a∈O.map (·.1),∀b∈O.map (·.1),hkL a=hkL b->a=b
   .rw [XN hk]at p
    let⟨a,ws,rfl,i,r2⟩:=mH d j f;refine⟨a,ws,O.map (·.1),rfl,i,by rw[my r2,T9];rfl,by simpa using hk.1,hk.2,λl h=>?_⟩
    refine p (.ref l) (ρ++[l]) _ (ZM.alloc h) (d.TJ h ⟨ws,rfl,r2⟩) ⟨l,rfl,?_⟩;rw[<-d.len];simp
   .rw [Xy hk]at p;exact p.elim
 |[],_=>exact p.elim
 |_::_::_,_=>exact p.elim
end
open PySem PySem.Spec PyProof.Rows L2
section
variable{a b c:Expr}{b' c':E}{lo hi:Option Expr}{lo' VD:Option E}
abbrev CQ(K:HY)(W:XQ)(f:Su->G->Out (Option Int)):TO:=tR K W Yj f
def wD:PO X none (CQ X.K W (JU r.ev none)):=λZ s Y H Q I ⟨Z2,ρ,g,hs,a,p⟩=>wm Z s Y H Q I (post.Zh (R:=Yj) p a rfl)
def vc(h:PE X e (tE X.K W (r.ev e'))):PO X (some e) (CQ X.K W (JU r.ev (some e'))):=λZ s Y H Q I b=>by
 refine u7 h Z s Y H Q I (one (k:=λ_ u g=>match u with|.int i=>Out.ok (some i) g|_=>.Z0) b λZ2 ρ H g u x hs c a p=>?_)
 cases u with
 |int i=>cases a;exact⟨i,rfl,post.Zh (R:=Yj) p c rfl⟩
 |_=>exact p.elim
def gI{l h:Option Int}(a:RVs X.K ρ H J vs):RVs X.K ρ H (Bh J l h) (BQ vs l h):=by
 unfold Bh BQ;rw[a.length];exact(a.drop _).take _
def w6(v:PE X a (tE X.K W (r.ev a')))(m:PO X lo (CQ X.K W (JU r.ev lo')))(s:PO X hi (CQ X.K W (JU r.ev VD))):PE X (.Subscript a (.Slice lo hi none p2) pos) (tE X.K W (JX C r (.WM a' lo' VD))):=by
 refine(tw (t5.or wQ) v m s).imp ?_;rintro Y H Q ⟨Z2,ρ,g,hs,t,p⟩;refine⟨Z2,ρ,g,hs,t,(post.bind p).mono λx H1 ⟨A,u,g1,s1,h1,i,j⟩=>?_⟩;refine⟨Z2,A,g1,hs.step s1,h1,(post.bind (R:=Yj) j).mono λl H2 ⟨z,E,g2,s2,h2,y,p2⟩=>?_⟩;subst y;refine⟨Z2,z,g2,(hs.step s1).step s2,h2,(post.bind (R:=Yj) p2).mono λh H3 ⟨B,h',g3,s3,h3,w,b⟩=>?_⟩;subst w;have d:=RV.step s3 _ _ (RV.step s2 _ _ i);cases u with
 |Z1 J=>
  let⟨q,vs,rfl,c,t2⟩:=d;refine .inr ⟨q,vs,rfl,c.sq,?_⟩;simp![]at b;rw[t2.length]at b;split at b
  .exact b.elim
  .rename_i e
   refine⟨e,λk hk=>?_⟩;exact b _ B _ (ZM.fresh hk) (h3.step_fresh hk) ⟨k,_,rfl,upd_same,RVs.step (ZM.fresh hk) _ _ (gI t2)⟩
 |Zs J=>
  let⟨q,vs,rfl,c,t2⟩:=d;exact .inl ⟨q,vs,rfl,c.sq,λk hk=>b7 b h3 (gI t2) k hk⟩
 |ref n=>
  let⟨q,rfl,e⟩:=d;simp![]at b;cases eg:g3[n]? with
  |none=>rw[eg]at b;exact b.elim
  |some o=>
   cases o with
   |S J=>
    rw[eg]at b;let⟨D,vs,c,t2,f⟩:=h3.S eg;rw[e]at c;cases c;exact .inl ⟨q,vs,rfl,.of t2,λk hk=>b7 b h3 (gI f) k hk⟩
   |_=>rw[eg]at b;exact b.elim
 |_=>exact b.elim
def xG{k:Nat}{M L:Pos}(U:PE X a (tE X.K W (r.ev a'))):PE X (.Subscript a (.Slice none none (some (.UnaryOp .USub (.Constant (.int 1) k M) L)) p2) pos) (tE X.K W (JX C r (.rev a'))):=by
 intro Z s Y H Q I P;have Xm:tE X.K W (r.ev a') Y H (λx H1=>∃q vs,x=.ref q/\H1 q=some (.S vs) /\∀k,H1 k=none->Q (.ref k) (upd H1 k (.S vs.reverse))):=one P λZ2 ρ H g u x hs B d p=>by
  cases u with
  |ref n=>
   let⟨q,rfl,R⟩:=d;simp![]at p;cases eg:g[n]? with
   |none=>rw[eg]at p;exact p.elim
   |some o=>
    cases o with
    |S J=>
     rw[eg]at p;let⟨q',vs,w,t2,E⟩:=B.S eg;rw[R]at w;cases w;exact⟨q,vs,rfl,t2,λk hk=>b7 p B E.reverse k hk⟩
    |_=>rw[eg]at p;exact p.elim
  |_=>exact p.elim
 refine Subscript_ (thn (U Z s Y H _ I Xm) ?_);rintro v F ⟨x,H1,I1,d,G⟩;let⟨q,vs,rfl,O,f⟩:=G;cases d;refine wpAny_Slice ?_;rw[evalPart_none];refine ZP (ZP ?_);rw[evalPart_some];refine thn (nF nj gX Z F Y H1 (λx H2=>x=.int (-1)/\H2=H1) I1 ⟨1,rfl,rfl,rfl⟩) ?_;rintro D c ⟨z,H2,I2,rz,V,eh⟩;subst V;subst eh;let⟨t,rfl⟩:=rz;have j:L2.Z4 X Z Y H2 {c with heap:=c.heap.push {cls:=.type "slice",data:=.fields #[.none,.none,.int (-1) t]}}:=I2.kept (t':=c.toks) λb ob q=>HM _ q
 let⟨ZY,n,y,ho,N⟩:=j.S O;have A:Heap.IsList (c.heap.push {cls:=.type "slice",data:=.fields #[.none,.none,.int (-1) t]}) q ZY.toArray:=⟨_,ho,rfl,n,rfl⟩;have hlen:=y.length;refine tail_any (ops:=[.ref q,.ref c.heap.objs.size]) (T:="list") A.typeIs slot_list_getitem.lookup ?_ (by with_unfolding_all rfl)
 refine wpAny_getItem_list_slice A (Heap.IsSliceOf.new ..) .none .none (.int (-1) t) #[3] ?_ (by rw[Wl];omega)
 rw[PySem.W.krv_pick];have hf:=j.ZQ.fresh (HR _);refine⟨.ref _,_,j.laid (t':=c.toks) (o:=.S vs.reverse) (λb ob q=>HM _ q) (HR _) ?_,rfl,f _ hf⟩;exact⟨by rw[Rg];exact N,ZY.reverse,0,y.reverse,HW _ rfl⟩
def tyName:Ty->String
 |.VP=>"int"|.VO=>"bool"|.UJ=>"str"|.UI=>"tuple"|.UH=>"list"|.own _=>"?"
noncomputable def Ty.isB(t:Ty):Bool:=match t with|.own _=>false|_=>true
def xj{t:Ty}{k:Bool}{Y:L2.St}{v:Value}{Q:VK}(I:L2.Z4 X Z Y H s)(y:RH X.K ρ H g)(f:RV X.K ρ H u x)(d:RelV x v)
  (c:t.isB=true) (e:AV t u g=some k) (q:Q (.bl k) H):wpAny (model X.prog X.w) X.A (call (.builtin "isinstance") [v,.type (tyName t)]) (EP X Z Y Q) X.xe s:=by
 have a:∀tk,EP X Z Y Q (.bool k) {s with toks:=tk}:=λtk=>⟨.bl k,H,I.tok tk,rfl,q⟩
 have j:∀{p:Addr} {J:List U} {vs:List V},SqT X.K H p vs->AV t (.Z1 J) g=some k->wpAny (model X.prog X.w) X.A (call (.builtin "isinstance") [.ref p,.type (tyName t)]) (EP X Z Y Q) X.xe s:=λ{p J vs} h e=>by
  let⟨ZY,_,⟨o,h1,h2,_⟩,_⟩:=I.tuple h;cases t<;>first|(cases c;done)|(simp![AV,Xa,reduceCtorEq]at e;subst e;exact Ru PySem.W.kitx_tuple I.Zf ⟨o,h1,h2⟩ rfl (λz=>nomatch z) a)
 have l:∀{p:Addr} {vs:List V},SqL X.K H p vs->Du t=some k->wpAny (model X.prog X.w) X.A (call (.builtin "isinstance") [.ref p,.type (tyName t)]) (EP X Z Y Q) X.xe s:=λ{p vs} h e=>by
  let⟨ZY,_,⟨o,n,h1,h2,_⟩,_⟩:=I.list h;cases t<;>first|(cases c;done)|(simp![Du,Xa,reduceCtorEq]at e;subst e;exact Ru PySem.W.kitx_list I.Zf ⟨o,h1,h2⟩ rfl (λz=>nomatch z) a)
 cases u with
 |ZR=>cases f;cases d;cases t<;>first|(cases c;done)|(simp![AV,Xa,reduceCtorEq]at e;subst e;exact Ru PySem.W.kitx_none I.Zf True.intro rfl (λz=>nomatch z) a)
 |bl b=>cases f;cases d;cases t<;>first|(cases c;done)|(simp![AV,Xa,reduceCtorEq]at e;subst e;exact Ru PySem.W.kitx_bool I.Zf True.intro rfl (λz=>nomatch z) a)
 |int i=>cases f;let⟨tk,rfl⟩:=d;cases t<;>first|(cases c;done)|(simp![AV,Xa,reduceCtorEq]at e;subst e;exact Ru PySem.W.kitx_int I.Zf True.intro rfl (λz=>nomatch z) a)
 |str z=>cases f;let⟨tk,rfl⟩:=d;cases t<;>first|(cases c;done)|(simp![AV,Xa,reduceCtorEq]at e;subst e;exact Ru PySem.W.kitx_str I.Zf True.intro rfl (λz=>nomatch z) a)
 |Z1 J=>let⟨p,vs,rfl,h1,h2⟩:=f;cases d;exact j h1.sq e
 |Zs J=>simp[AV]at e
 |ref n=>
  let⟨p,rfl,r⟩:=f;cases d;simp![AV]at e;cases eg:g[n]? with
  |none=>rw[eg]at e;dsimp only at e;cases e
  |some o=>
   cases o with
   |S J=>
    rw[eg]at e;let⟨C,vs,m,t2,B⟩:=y.S eg;rw[r]at m;cases m;exact l (.of t2) e
   |ins _ _=>rw[eg]at e;dsimp only at e;cases t<;>first|(cases c;done)|cases e
   |_=>rw[eg]at e;dsimp only at e;cases e
 |xn _ _=>simp[AV]at e
def xv{t:Ty}{c:Str}{A:Pos}(G:t.isB=true)(O:c=Str.ofString (tyName t))(w:Gl X c)(N:X.mg c=none)(M:bootBuiltins c=some (.type (tyName t)))(D:c ≠ "__name__")(L:(c==("__debug__" : Str))=false)
  (d:Gl X "isinstance") (E:X.mg "isinstance" = none) (F:PE X a (tE X.K W (r.ev a'))) (o:∀es,starEach (a::es) X.env=(false,eval a X.env)::starEach es X.env) :
  PE X (.Call (.Name "isinstance" A) [a,.Name c p2] [] pos) (tE X.K W (JX C r (.YC a' t))):=by
 have hc:CallR X (.builtin "isinstance") (λxs H Q=>∃x ρ g u k,xs=[x,.ty (tyName t)]/\RH X.K ρ H g/\RV X.K ρ H u x/\AV t u g=some k/\Q (.bl k) H):=by
  intro Z s Y H xs J Q I rs ⟨x,ρ,g,u,k,e,d,j,f,q⟩;subst e;cases rs with
  |cons z rs=>
   cases rs with
   |cons y rs=>
    cases rs;cases y;exact xj I d j z G f q
 refine(pe_callB hc d E #[2] (aw F (aw (lh (v:=.ty (tyName t)) w N M rfl D L) aQ rfl) (o _)) #[1] #[1] (o _) rfl).imp λY H Q B=>?_
 refine one B λZ2 ρ H g u x o d j p=>?_;cases f:AV t u g with
 |none=>rw[f]at p;exact p.elim
 |some k=>rw[f]at p;exact⟨x,ρ,g,u,k,rfl,d,j,f,okE p d rfl⟩
def bT(e:RH X.K ρ H g)(d:RV X.K ρ H (.ref n) x)(f:g[n]?=some (.S J)):∃q vs,x=.ref q/\ρ[n]?=some q/\H q=some (.S vs)/\RVs X.K ρ H J vs:=by
 let⟨q,rfl,b⟩:=d;let⟨h,vs,a,t2,c⟩:=e.S f;rw[b]at a;cases a;exact⟨q,vs,rfl,b,t2,c⟩
def eN{x:U}(e:JS x g=some n):x=.ref n /\∃J,g[n]?=some (.S J):=by
 cases x<;>simp![JS,reduceCtorEq]at e
 rename_i m;cases eg:g[m]? with
 |none=>simp[eg]at e
 |some o=>
  cases o with
  |S J=>simp![eg,Xa]at e;subst e;exact⟨rfl,J,eg⟩
  |_=>simp[eg]at e
def nA{e:String}{f:Nat->U->G->Out U}(c:Slot "list" name e)(C:typeOf (.builtin e)=pure (.type "method_descriptor"))(i:MtR X e rr)
  (imp:∀ρ H g n q y v Q,RH X.K ρ H g->ρ[n]?=some q->RV X.K ρ H y v->post X.K W (RV X.K) (f n y g) ρ H Q->rr (.ref q) [v] H Q)
  (j:PE X o (tE X.K W (r.ev o'))) (m:PE X a (tE X.K W (r.ev a'))) (A:attributeBase o name X.env (eval o X.env)=eval o X.env) (B:(apos.endLine==Zt.line)=true)
  (b:∀ es,starEach (a :: es) X.env=(false,eval a X.env) :: starEach es X.env):PE X (.Call (.Attribute o name apos) [a] [] Zt) (tE X.K W (λY g=>(r.ev o' Y g).bind λx g=>match JS x g with
  |some n=>(r.ev a' Y g).bind λy g=>f n y g
  |none=>.Z0)):=by
 refine(abW (T:="list") Q6 c C i j (aw m aQ (b _)) A (by rw[b];rfl) B (b _) rfl).imp ?_;rintro Y H Q ⟨Z2,ρ,g,b,l,p⟩
 refine⟨Z2,ρ,g,b,l,(post.bind p).mono λx H1 ⟨z,u,g1,s1,h1,h,d⟩=>?_⟩;cases ea:JS u g1 with
 |none=>rw[ea]at d;exact d.elim
 |some n=>
  rw[ea]at d;dsimp only at d;let⟨rfl,J,s⟩:=eN ea;let⟨q,vs,rfl,k,t2,D⟩:=bT h1 h s;refine⟨.inl ⟨rfl,vs,.of t2⟩,Z2,z,g1,b.step s1,h1,(post.bind d).mono λy H2 ⟨t,w,g2,s2,h2,r2,p2⟩=>?_⟩;exact imp t H2 g2 n q w y Q h2 (s2.ext _ _ k) r2 p2
def cB{q:Addr}(d:RH X.K ρ H g)(c:ρ[n]?=some q)(e:g[n]?=some (.S J)):∃vs,H q=some (.S vs)/\RVs X.K ρ H J vs:=by
 let⟨f,vs,a,t2,b⟩:=d.S e;rw[c]at a;cases a;exact⟨vs,t2,b⟩
def z7(h:PE X o (tE X.K W (r.ev o')))(j:PE X a (tE X.K W (r.ev a')))(k:attributeBase o "append" X.env (eval o X.env)=eval o X.env)(l:(apos.endLine==Zt.line)=true)
  (f:∀es,starEach (a::es) X.env=(false,eval a X.env)::starEach es X.env):PE X (.Call (.Attribute o "append" apos) [a] [] Zt) (tE X.K W (JX C r (.app o' a'))):=by
 refine nA PySem.F.slot_list_append PySem.F.type_list_append jv (λρ H g n q y v Q d b e p=>?_) h j k l f;simp![A5]at p;cases eg:g[n]? with
 |none=>rw[eg]at p;exact p.elim
 |some o=>
  cases o with
  |S J=>
   rw[eg]at p;dsimp only at p;let⟨vs,t2,c⟩:=cB d b eg;split at p
   .rename_i i
    exact⟨q,vs,v,rfl,rfl,t2,by rw[<-c.length,Tz];unfold Ac at i;lia,p _ ρ _ (ZM.write b t2) (d.write b t2 (c.append (.one e))) rfl⟩
   .exact p.elim
  |_=>rw[eg]at p;exact p.elim
def zO(l:PE X o (tE X.K W (r.ev o')))(t:PE X a (tE X.K W (r.ev a')))(u:attributeBase o "extend" X.env (eval o X.env)=eval o X.env)(w:(apos.endLine==Zt.line)=true)
  (k:∀es,starEach (a::es) X.env=(false,eval a X.env)::starEach es X.env):PE X (.Call (.Attribute o "extend" apos) [a] [] Zt) (tE X.K W (JX C r (.ext o' a'))):=by
 refine nA PySem.F.slot_list_extend PySem.F.type_list_extend rF (λρ H g n q y v Q c b i p=>?_) l t u w k;dsimp only[Bx]at p;cases ea:JS y g with
 |none=>rw[ea]at p;exact p.elim
 |some m=>
  rw[ea]at p;dsimp only at p;let⟨rfl,zs,f⟩:=eN ea;let⟨j,ws,rfl,x,h,d⟩:=bT c i f;cases eg:g[n]? with
  |none=>rw[eg]at p;exact p.elim
  |some o=>
   cases o with
   |S J=>
    rw[eg,f]at p;dsimp only at p;let⟨vs,t2,e⟩:=cB c b eg;split at p
    .rename_i s
     exact⟨q,j,vs,ws,rfl,rfl,t2,h,by rw[<-e.length,<-d.length,Tz];unfold Ac at s;lia,p _ ρ _ (ZM.write b t2) (c.write b t2 (e.append d)) rfl⟩
    .exact p.elim
   |_=>rw[eg]at p;exact p.elim
def zM(j:PE X o (tE X.K W (r.ev o')))(k:attributeBase o "pop" X.env (eval o X.env)=eval o X.env)(l:(apos.endLine==Zt.line)=true):
  PE X (.Call (.Attribute o "pop" apos) [] [] Zt) (tE X.K W (JX C r (.pop o'))):=by
 refine(aaD (T:="list") Q6 PySem.F.slot_list_pop PySem.F.type_list_pop zT j k l).imp λY H Q i=>one i λZ2 ρ H g u x hs d h p=>?_;cases ea:JS u g with
 |none=>rw[ea]at p;exact p.elim
 |some n=>
  rw[ea]at p;dsimp only at p;let⟨rfl,J,e⟩:=eN ea;let⟨q,vs,rfl,b,t2,a⟩:=bT d h e;refine⟨.inl ⟨rfl,vs,.of t2⟩,?_⟩;simp![Bw,e]at p;cases c:J[J.length-1]? with
  |none=>rw[c]at p;exact p.elim
  |some y=>
   rw[c]at p;let⟨v,ev,f⟩:=a.get c;exact⟨q,vs,v,rfl,rfl,t2,by rw[<-a.length];exact ev,p _ ρ _ (ZM.write b t2) (d.write b t2 a.dropLast) (RV.step (ZM.write b t2) _ _ f)⟩
def imp_tupl(ρ:List Addr)(H:Hp)(g:G)(J:List U)(xs:List V)(Q:VK)(f:RH X.K ρ H g)(b:RVs X.K ρ H J xs)(p:post X.K W (RV X.K) (JR .TV J g) ρ H Q):
  ∃p ys,xs=[.ref p]/\((SqL X.K H p ys /\∀l,H l=none->Q (.ref l) (upd H l (.Z1 ys)))\/(SqT X.K H p ys/\Q (.ref p) H)):=by
 match J,b with
 |[],b=>exact p.elim
 |_::_::_,b=>exact p.elim
 |[u],b=>
  let⟨x,r',rfl,d,e⟩:=b;cases e;simp![JR,Ds]at p;cases u with
  |Z1 ys=>have h:=d;let⟨a,vs,rfl,h1,h2⟩:=d;exact⟨a,vs,rfl,.inr ⟨h1.sq,post.Zh p f h⟩⟩
  |xn c ys=>have h:=d;let⟨a,vs,rfl,h1,h2⟩:=d;exact⟨a,vs,rfl,.inr ⟨h1.sq,post.Zh p f h⟩⟩
  |ref n=>
   dsimp only at p;cases eg:g[n]? with
   |none=>rw[eg]at p;exact p.elim
   |some o=>
    cases o with
    |S ys=>
     rw[eg]at p;let⟨q,vs,rfl,k,t2,j⟩:=bT f d eg;exact⟨q,vs,rfl,.inl ⟨.of t2,λl i=>p (.ref l) ρ _ (ZM.fresh i) (f.step_fresh i) ⟨l,vs,rfl,upd_same,RVs.step (ZM.fresh i) _ _ j⟩⟩⟩
    |_=>rw[eg]at p;exact p.elim
  |_=>exact p.elim
def aaw(f:RH X.K ρ H g)(i:RV X.K ρ H u x)(e:JI u g=some O):∃a,x=.ref a/\IsD H a:=by
 cases u with
 |ref n=>
  simp![JI]at e;cases eg:g[n]? with
  |none=>rw[eg]at e;cases e
  |some ob=>
   let⟨a',rfl,b⟩:=i;cases ob with
   |ZN j=>let⟨a,ws,c,d,h⟩:=f.ZN eg;rw[c]at b;cases b;exact⟨_,rfl,.inr ⟨ws,.inl d⟩⟩
   |Zu j=>let⟨a,ob,ws,c,d,h⟩:=f.Zu eg;rw[c]at b;cases b;exact⟨_,rfl,.inr ⟨ws,.inr ⟨ob,d⟩⟩⟩
   |_=>rw[eg]at e;cases e
 |_=>cases e
def xu{k x:Expr}{k' i:E}(B:X.A.units+1<cLine)(D:PE X o (tE X.K W (r.ev o')))(F:PE X k (tE X.K W (r.ev k')))(hx:PE X x (tE X.K W (r.ev i)))(M:attributeBase o "get" X.env (eval o X.env)=eval o X.env)(N:(apos.endLine==Zt.line)=true)
  (b:∀es,starEach (k::es) X.env=(false,eval k X.env)::starEach es X.env) (m:∀es,starEach (x::es) X.env=(false,eval x X.env)::starEach es X.env):PE X (.Call (.Attribute o "get" apos) [k,x] [] Zt) (tE X.K W (JX C r (.V_ o' k' i))):=by
 refine(rX B D F hx ⟨M,by rw[b,m];rfl,N,by rw[b,m];rfl⟩).imp ?_;rintro Y H Q ⟨Z2,ρ,g,b,G,p⟩
 refine⟨Z2,ρ,g,b,G,(post.bind p).mono λx H1 ⟨L,u,g1,s1,h1,j,d⟩=>?_⟩;cases h:JI u g1 with
 |none=>rw[h]at d;exact d.elim
 |some O=>
  rw[h]at d;dsimp only at d;let⟨a,rfl,e⟩:=aaw h1 j h;refine⟨a,rfl,e,Z2,L,g1,b.step s1,h1,(post.bind d).mono λy H2 ⟨J,w,g2,s2,h2,r2,p2⟩=>⟨Z2,J,g2,(b.step s1).step s2,h2,(post.bind p2).mono λz H3 ⟨P,q,g3,s3,h3,t,c⟩=>?_⟩⟩;cases f:Aq w u g3 with
  |none=>rw[f]at c;exact c.elim
  |some oo=>
   rw[f]at c;dsimp only at c;let⟨a',l,ea,I,es,got⟩:=eK h3 (RV.step s3 _ _ r2) (RV.step (s2.trans s3) _ _ j) f;cases ea;refine⟨l,I,?_⟩;cases oo with
   |none=>
    cases l with
    |none=>exact okE c h3 t
    |some _=>cases es
   |some n=>
    let⟨v,rfl,s⟩:=got n rfl;exact okE c h3 s
end
section
variable(K:HY)
inductive tG(t:Tg)(v:V)(Y:L2.St)(H:Hp)(Q:L2.St->Hp->Prop):Prop
 |mk (Z2:Su) (ρ:List Addr) (g:G) (u:U) (XG:Su) (hs:RS K ρ H Z2 Y) (hg:RH K ρ H g) (r:RV K ρ H u v) (e:Ai t (JV t u g) Z2=some XG) (q:∀ZX,RS K ρ H XG ZX->Q ZX H)
inductive Uq(is:List Nat)(vs:List V)(Y:L2.St)(H:Hp)(Q:L2.St->Hp->Prop):Prop
 |mk (Z2:Su) (ρ:List Addr) (J:List U) (XG:Su) (hs:RS K ρ H Z2 Y) (r:RVs K ρ H J vs) (e:bindL is J Z2=some XG) (q:∀ZX,RS K ρ H XG ZX->Q ZX H)
def RI(ρ:List Addr)(H:Hp)(i:Iter)(b:It):Prop:=match i with
 |.S n=>∃a,ρ[n]?=some a/\b=Itl K a
 |.ZN n=>∃a o ws,ρ[n]?=some a/\H a=some (.Zw o (.dT ws))/\b=Itd a o ws
 |.YN n=>∃a,ρ[n]?=some a/\b=Ite K a
 |.seq J=>∃a vs,(SqU K H a vs\/SqC K a vs)/\RVs K ρ H J vs/\b=Itt K a
 |.YS lo n=>b=Itr lo n
abbrev tI(W:XQ)(f:Su->G->Out Iter):TI:=tR K W (RI K) f
end
def RI.step{K:HY}{ρ c:List Addr}{H e:Hp}{i:Iter}{d:It}(s:ZM K ρ H c e)(h:RI K ρ H i d):RI K c e i d:=by
 cases i with
 |ZN n=>let⟨a,o,ws,h1,h2,b⟩:=h;exact⟨a,o,ws,s.ext _ _ h1,s.Zw _ _ _ h2,b⟩
 |seq J=>let⟨a,vs,h1,h2,b⟩:=h;exact⟨a,vs,h1.imp_left (s.Z1 _ _),RVs.step s _ _ h2,b⟩
 |YS lo n=>exact h
 |_=>let⟨a,h1,h2⟩:=h;exact⟨a,s.ext _ _ h1,h2⟩
section
variable{a b c:Expr}{b' c':E}{t:Tg}
def gf{t:Tg}{Y a:Su}(h:Ai t u Y=some a):Ai t (JV t u g) Y=some a:=by
 cases t with
 |nm i=>exact h
 |tp is=>
  cases u with
  |ref n=>simp[Ai]at h
  |_=>exact h
def HF(K:HY)(n:Nat)(t:Wm):TG:=λv Y H Q=>∃a xs,v=.ref a/\SqL K H a xs/\xs.length=n/\t xs Y H Q
def wK{k:Nat}{t:Wm}(w:X.calm=true)(h:PGs X es t)
  (p:(assignEach es X.env).length=n) (z:(assignEach es X.env).findIdx? (·.1)=none):PG X (.Tuple es k pos) (HF X.K n t):=by
 intro Z s Y H v u Q I r f;let⟨a,xs,y,l,q,f⟩:=f;subst y;cases r;let⟨ZY,g,⟨o,m,e,A,i,d⟩,C⟩:=I.list l;have x:s.heap.IsList a ZY.toArray:=⟨o,e,A,m,d⟩;rw[assign_Tuple];refine ZB (Tp ?_);unfold unpack;have c:(assignEach es X.env).length=ZY.toArray.size:=by simp[p,<-q,g.length]
 rw[c,z];refine ZB (US (PySem.W.kun_itemsOf (I.ok.hd w) x λh' j=>?_));have B:Z4 X Z Y H {s with heap:=h'}:=I.kept (t':=s.toks) λb o e=>j b o (HV (HN e)) e
 exact h Z _ Y H xs _ Q B (by simpa using g) f
def aa6{x:Str}(d:X.N.Nodup)(b:X.N[i]?=some x)(hx:Loc X.env.scope x)(c:X.fn x=true\/X.env.scope.names.lookup x=some .local):PG X (.Name x pos) (tG X.K (.nm i)):=by
 intro Z s Y H v u Q I a ⟨Z2,ρ,g,w,j,hs,h,f,e,q⟩;refine l8 d b hx c Z s Y H v u Q I a ?_;simp![JV,Ai]at e;split at e
 .cases e;exact q _ (hs.set f)
 .cases e
def sgs_nil:PGs X [] (Uq X.K []):=by
 intro Z s Y H vs J Q I a ⟨Z2,ρ,ws,c,hs,b,e,q⟩;refine vf Z s Y H vs J Q I a ?_;cases ws with
 |nil=>cases b;cases e;exact⟨rfl,q _ hs⟩
 |cons _ _=>cases e
def bLc{i:Nat}{is:List Nat}{u:U}{J:List U}{Y:Su}:bindL (i::is) (u::J) Y=if i<Y.length then bindL is J (Y.set i (some u))else none:=rfl
def rY{x:Str}(g:X.N.Nodup)(d:X.N[i]?=some x)(hx:Loc X.env.scope x)(f:X.fn x=true\/X.env.scope.names.lookup x=some .local)(h:PGs X ts (Uq X.K is)):PGs X (.Name x pos::ts) (Uq X.K (i::is)):=by
 intro Z s Y H vs J Q I b ⟨Z2,ρ,ws,k,hs,j,e,q⟩;refine rN (l8 g d hx f) h rfl Z s Y H vs J Q I b ?_;cases ws with
 |nil=>cases e
 |cons w ws=>
  let⟨v,a,rfl,c,r2⟩:=j;rw[bLc]at e;split at e
  .exact ⟨v,a,rfl,_,ρ,ws,k,hs.set c,r2,e,q⟩
  .cases e
def fW:∀{is:List Nat} {J:List U} {Y ZX:Su},bindL is J Y=some ZX->J.length=is.length
 |[],[],_,_,_=>rfl
 |_::is,_::J,_,_,e=>by
  rw[bLc]at e;split at e
  .simp [fW e]
  .cases e
 |[],_::_,_,_,e=>by cases e
 |_::_,[],_,_,e=>by cases e
def abd{k:Nat}(i:X.calm=true)(h:PGs X ts (Uq X.K is))(f:(assignEach ts X.env).length=is.length)(j:(assignEach ts X.env).findIdx? (·.1)=none):PG X (.Tuple ts k pos) (tG X.K (.tp is)):=by
 intro Z s Y H v u Q I d ⟨Z2,ρ,g,w,c,hs,p,l,e,q⟩;cases w with
 |Z1 J=>
  refine zY i h f j Z s Y H v u Q I d ?_;let⟨a,vs,rfl,h1,h2⟩:=l;have e':bindL is J Z2=some c:=e;exact⟨a,vs,rfl,h1.sq,by rw[<-h2.length];exact fW e',Z2,ρ,J,c,hs,h2,e',q⟩
 |ref n=>
  simp![JV]at e;cases eg:g[n]? with
  |none=>simp[eg,Ai]at e
  |some o=>
   cases o with
   |S xs=>
    refine wK i h f j Z s Y H v u Q I d ?_;let⟨a,vs,m,r,h2⟩:=p.S eg;let⟨a',rfl,b⟩:=l;rw[m]at b;cases b;have e':bindL is xs Z2=some c:=by simpa[eg,Ai]using e
    exact⟨a,vs,rfl,.of r,by rw[<-h2.length];exact fW e',Z2,ρ,xs,c,hs,h2,e',q⟩
   |_=>simp[eg,Ai]at e
 |_=>simp[JV,Ai]at e
def zK{l:Expr}{m:E}(F:PE X l (tE X.K W (r.ev m))):PI X tg l (tI X.K W (λY g=>(r.ev m Y g).bind λu g=>match u with
  |.Z1 xs=>Out.ok (Iter.seq xs) g
  |.xn _ xs=>Out.ok (Iter.seq xs) g
  |.ref n=>match g[n]? with
   |some (.S _)=>.ok (.S n) g
   |some (.ZN O)=>.ok (.ZN n) (g.set n (.Zu O))
   |some (.Zu _)=>.ok (.ZN n) g
   |_=>.Z0
  |_=>.Z0)):=by
 intro Z s Y H R I D;have G:tE X.K W (r.ev m) Y H (λx H1=>(∃a,x=.ref a/\(∃xs,SqL X.K H1 a xs)/\R (Itl X.K a) H1)\/(∃a,x=.ref a/\(∃xs,SqT X.K H1 a xs)/\R (Itt X.K a) H1)\/(∃a ws,x=.ref a/\H1 a=some (.dT ws) /\∀o,R (Itd a o ws) (upd H1 a (.Zw o (.dT ws)))) \/∃a o ws,x=.ref a/\H1 a=some (.Zw o (.dT ws))/\R (Itd a o ws) H1):=by
  refine one (R:=RI X.K) D λZ2 ρ H g u x hs j c p=>?_;cases u with
  |Z1 J=>let⟨a,vs,rfl,h1,h2⟩:=c;exact .inr (.inl ⟨a,rfl,⟨vs,h1.sq⟩,post.Zh (R:=RI X.K) p j ⟨a,vs,.inl h1,h2,rfl⟩⟩)
  |xn _ J=>let⟨a,vs,rfl,h1,h2⟩:=c;exact .inr (.inl ⟨a,rfl,⟨vs,h1.sq⟩,post.Zh (R:=RI X.K) p j ⟨a,vs,.inr h1,h2,rfl⟩⟩)
  |ref n=>
   simp![]at p;cases eg:g[n]? with
   |none=>rw[eg]at p;exact p.elim
   |some o=>
    cases o with
    |S J=>
     rw[eg]at p;let⟨q,vs,rfl,i,t2,M⟩:=bT j c eg;exact .inl ⟨q,rfl,⟨vs,.of t2⟩,post.Zh (R:=RI X.K) p j ⟨q,i,rfl⟩⟩
    |ZN O=>
     rw[eg]at p;dsimp only at p;let⟨q,ws,i,d,y⟩:=j.ZN eg;let⟨B,rfl,k⟩:=c;rw[i]at k;cases k;refine .inr (.inr (.inl ⟨q,ws,rfl,d,λo=>?_⟩));exact p _ ρ _ (ZM.XX i d trivial) (j.XX i d trivial ⟨o,ws,rfl,y⟩) ⟨q,o,ws,i,upd_same,rfl⟩
    |Zu O=>
     rw[eg]at p;let⟨q,o,ws,i,d,y⟩:=j.Zu eg;let⟨B,rfl,k⟩:=c;rw[i]at k;cases k;exact .inr (.inr (.inr ⟨q,o,ws,rfl,d,post.Zh (R:=RI X.K) p j ⟨q,o,ws,i,d,rfl⟩⟩))
    |_=>rw[eg]at p;exact p.elim
  |_=>exact p.elim
 refine thn (F Z s Y H _ I G) ?_;rintro v h ⟨x,H1,f,c,A⟩;rcases A with⟨a,e,⟨xs,t⟩,q⟩|⟨a,e,⟨xs,t⟩,q⟩|⟨a,ws,e,d,q⟩|⟨a,o,ws,e,d,q⟩
 .subst e
  cases c;let⟨ZY,z,p,C⟩:=f.list t;refine wpAny_pyIter_list p.isList ?_;refine⟨h.heap.objs.size,[h.heap.objs.size],_,_,H1,rfl,f.kept (t':=h.toks) λb o e=>HM _ e,qO a _,⟨_,HW _ rfl,rfl,rfl⟩,λb w=>?_,q⟩;have e:b=h.heap.objs.size:=by simpa using w
  subst e;exact f.UC (HR _) (f.ZQ.fresh (HR _))
 .subst e
  cases c;let⟨ZY,z,p,C⟩:=f.tuple t;refine wpAny_pyIter_tuple (show h.heap.IsTuple a ZY.toArray from p) ?_;refine⟨h.heap.objs.size,[h.heap.objs.size],_,_,H1,rfl,f.kept (t':=h.toks) λb o e=>HM _ e,qh a _,⟨_,HW _ rfl,rfl,rfl⟩,λb w=>?_,q⟩;have e:b=h.heap.objs.size:=by simpa using w
  subst e;exact f.UC (HR _) (f.ZQ.fresh (HR _))
 .subst e
  cases c;let⟨o,L⟩:=f.freeze d;exact nU L upd_same (q o)
 .subst e
  cases c;exact nU f d q
def PI.imp{t t':TI}(h:PI X tg iter t)(q:∀Y H Q,t' Y H Q->t Y H Q):PI X tg iter t':=λZ s Y H Q I h'=>h Z s Y H Q I (q Y H Q h')
def yN{e:Pos}{d:Nat}(b:Gl X "enumerate")(j:X.mg "enumerate" = none)(k:PE X a (tE X.K W (r.ev a')))(c:∀es,starEach (a::es) X.env=(false,eval a X.env)::starEach es X.env):
  PI X (.Tuple elts d e) (.Call (.Name "enumerate" p) [a] [] pos) (tI X.K W (JW r (.YN a'))):=by
 refine PI.imp (vL b j (aw k aQ (c _)) (c _)) λY H R h=>one (R:=RI X.K) h λZ2 ρ H g u x c b f p=>?_;cases ea:JS u g with
 |none=>rw[ea]at p;exact p.elim
 |some n=>
  rw[ea]at p;let⟨rfl,J,l⟩:=eN ea;let⟨q,vs,rfl,i,t2,m⟩:=bT b f l;exact⟨q,rfl,⟨vs,.of t2⟩,post.Zh (R:=RI X.K) p b ⟨q,i,rfl⟩⟩
def v5(c:Gl X "range")(f:X.mg "range" = none)(h:PE X a (tE X.K W (r.ev a')))(b:∀es,starEach (a::es) X.env=(false,eval a X.env)::starEach es X.env):
  PI X tg (.Call (.Name "range" p) [a] [] pos) (tI X.K W (JW r (.YV a'))):=by
 refine PI.imp (rG c f (aw h aQ (b _)) (b _)) λY H R e=>one (R:=RI X.K) e λZ2 ρ H g u x b c d p=>?_;cases u with
 |int j=>
  cases d;simp![]at p;split at p
  .rename_i i
   exact⟨j,rfl,by lia,by lia,post.Zh (R:=RI X.K) p c rfl⟩
  .exact p.elim
 |_=>exact p.elim
def uz(d:Gl X "range")(k:X.mg "range" = none)(m:PE X a (tE X.K W (r.ev a')))(l:PE X b (tE X.K W (r.ev b')))(c:∀es,starEach (a::es) X.env=(false,eval a X.env)::starEach es X.env)
  (e:∀es,starEach (b::es) X.env=(false,eval b X.env)::starEach es X.env):PI X tg (.Call (.Name "range" p) [a,b] [] pos) (tI X.K W (JW r (.Xw a' b'))):=by
 refine PI.imp (rj d k (aw m (aw l aQ (e _)) (c _)) (by rw[c,e];rfl) (e _)) λY H R h=>two (R:=RI X.K) h λZ2 ρ H g u w x y c d f r2 p=>?_
 cases u with
 |int i=>
  cases w with
  |int j=>
   cases f;cases r2;simp![]at p;split at p
   .exact ⟨i,j,rfl,by omega,post.Zh (R:=RI X.K) p d rfl⟩
   .exact p.elim
  |_=>exact p.elim
 |_=>cases w<;>exact p.elim
def gJ(d:RH X.K ρ H g)(b:RI X.K ρ H it Z7)(e:next it i g=some none):Z7.stop i H:=by
 cases it with
 |S n=>
  let⟨a,h1,rfl⟩:=b;simp![next]at e;cases eg:g[n]? with
  |none=>simp[eg]at e
  |some o=>
   cases o with
   |S J=>
    simp![eg,Xa]at e;let⟨vs,t2,c⟩:=cB d h1 eg;exact⟨vs,.of t2,U8.mp (c.none_of e)⟩
   |_=>simp[eg]at e
 |ZN n=>
  let⟨a,o,ws,h1,h2,rfl⟩:=b;simp![next]at e;cases eg:g[n]? with
  |none=>simp[eg]at e
  |some ob=>
   cases ob with
   |Zu O=>
    let⟨a',o',k,f,j,l⟩:=d.Zu eg;rw[h1]at f;cases f;rw[h2]at j;cases j;simp![eg,Xa,R_]at e;exact⟨h2,by rw[<-l.len];exact U8.mp e⟩
   |_=>simp[eg]at e
 |YN n=>
  let⟨a,h1,rfl⟩:=b;simp![next]at e;cases eg:g[n]? with
  |none=>simp[eg]at e
  |some o=>
   cases o with
   |S J=>
    simp![eg,Xa,R_]at e;let⟨vs,t2,c⟩:=cB d h1 eg;exact⟨vs,.of t2,U8.mp (c.none_of e)⟩
   |_=>simp[eg]at e
 |seq J=>
  let⟨a,vs,h1,h2,rfl⟩:=b;simp![next,Xa]at e;exact⟨vs,h1.elim SqU.sq SqC.sq,U8.mp (h2.none_of e)⟩
 |YS lo n=>
  cases b;simp![next,Xa]at e;split at e
  .cases e
  .rename_i h;exact Nat.le_of_not_lt h
def iz(l:RH X.K ρ H g)(j:RI X.K ρ H it Z7)(e:next it i g=some (some u)):Z7.go i H /\∀x H',Z7.yld i H x H'->ZM X.K ρ H ρ H'/\RH X.K ρ H' g/\RV X.K ρ H' u x:=by
 have c:∀{x:V} {H':Hp},H'=H->RV X.K ρ H u x->ZM X.K ρ H ρ H'/\RH X.K ρ H' g/\RV X.K ρ H' u x:=λe r=>by subst e;exact⟨.refl,l,r⟩
 cases it with
 |S n=>
  let⟨a,h1,rfl⟩:=j;simp![next]at e;cases eg:g[n]? with
  |none=>simp[eg]at e
  |some o=>
   cases o with
   |S J=>
    simp![eg,Xa]at e;let⟨vs,t2,q⟩:=cB l h1 eg;let⟨v,d,f⟩:=q.get e;refine⟨⟨vs,v,.of t2,d⟩,λx H' ⟨h1,h2⟩=>c h1 ?_⟩;have:=h2 vs (.of t2);rw[d]at this;cases this;exact f
   |_=>simp[eg]at e
 |ZN n=>
  let⟨a,o,ws,h1,h2,rfl⟩:=j;simp![next]at e;cases eg:g[n]? with
  |none=>simp[eg]at e
  |some ob=>
   cases ob with
   |Zu O=>
    let⟨a',o',C,m,B,D⟩:=l.Zu eg;rw[h1]at m;cases m;rw[h2]at B;cases B;simp![eg,Xa]at e;let⟨⟨k,z⟩,t,s⟩:=YU.mp e;let⟨v,d,f⟩:=D.at t;refine⟨⟨h2,(Yh.mp d).1⟩,λx H' ⟨h3,b,k',v',ex,A,y⟩=>c h3 ?_⟩;rw[d]at A;cases A;subst ex;subst s;exact⟨b,k.map V.int,rfl,by rw[T9]at y;exact y,fB k⟩
   |_=>simp[eg]at e
 |YN n=>
  let⟨a,h1,rfl⟩:=j;simp![next]at e;cases eg:g[n]? with
  |none=>simp[eg]at e
  |some o=>
   cases o with
   |S J=>
    simp![eg,Xa]at e;let⟨w,t,s⟩:=YU.mp e;let⟨vs,t2,q⟩:=cB l h1 eg;let⟨v,d,f⟩:=q.get t;refine⟨⟨vs,v,.of t2,d⟩,λx H' ⟨p,v',hp,ex,E,all⟩=>?_⟩;have:=all vs (.of t2);rw[d]at this;cases this;subst ex;subst E;subst s;have sp:ZM X.K ρ H ρ (upd H p (.Z1 [.int i,v])):=ZM.fresh hp;exact⟨sp,l.step_fresh hp,p,[.int i,v],rfl,upd_same,.int i,[v],rfl,rfl,v,[],rfl,RV.step sp _ _ f,rfl⟩
   |_=>simp[eg]at e
 |seq J=>
  let⟨a,vs,h1,h2,rfl⟩:=j;simp![next,Xa]at e;let⟨v,d,f⟩:=h2.get e;have m:SqT X.K H a vs:=h1.elim SqU.sq SqC.sq;refine⟨⟨vs,v,m,d⟩,λx H' ⟨h3,h4⟩=>c h3 ?_⟩;have:=h4 vs m;rw[d]at this;cases this;exact f
 |YS lo n=>
  cases j;simp![next,Xa]at e;split at e
  .rename_i h
   cases e;exact⟨h,λx H' ⟨h1,h2⟩=>c h1 h2⟩
  .cases e
variable{st:Stmt}{ZV:List Stmt}{s':Z5}{ZD:List Z5}
def mw:PSs X [] (ZF X.K W (J0 r [])):=eQ.imp λD Y H ⟨Z2,ρ,g,hs,a,p⟩=>p Y ρ H .refl a hs
def lW(h:PS X st (ZF X.K W (JZ r s')))(b:PSs X ZV (ZF X.K W (r.ex ZD))):PSs X (st::ZV) (ZF X.K W (J0 r (s'::ZD))):=by
 refine(ee h b).imp λD Y H ⟨Z2,ρ,g,hs,e,p⟩=>⟨Z2,ρ,g,hs,e,?_⟩;revert p;simp![J0];cases JZ r s' Z2 g with
 |ok f g1=>
  cases f with
  |nx a=>exactλp k i H2 d b j=>⟨a,i,g1,j,b,J8.from (o:=r.ex ZD a g1) p d⟩
  |_=>exactλp=>p
 |_=>exactλp=>p
def fm{f:Su->G->Out U}{k:Su->U->G->Out Fl}{Y:L2.St}{H:Hp}
  (hp:ZF X.K W (λZ2 g=>(f Z2 g).bind λx g=>k Z2 x g) D Y H)
  (a:∀Z2 ρ H g u x,RS X.K ρ H Z2 Y->RH X.K ρ H g->RV X.K ρ H u x->J8 X.K W (k Z2 u g) ρ H D->Q2 x H):tE X.K W f Y H Q2:=by
 let⟨Z2,ρ,g,hs,d,p⟩:=hp;exact⟨Z2,ρ,g,hs,d,(J8.bind p).mono λx H1 ⟨e,u,g1,s1,h1,b,c⟩=>a Z2 e H1 g1 u x (hs.step s1) h1 b c⟩
def gT(h:PE X e (tE X.K W (r.ev e'))):PS X (.Return (some e) pos) (ZF X.K W (JZ r (.ret e'))):=
 (yO h).imp λD Y H b=>fm b λZ2 ρ H g u x hs c a p=>p x ρ H .refl c a
def nk(h:PE X e (tE X.K W (r.ev e')))(a:swapsWith e none pos.line X.env=pure false):PS X (.Expr e pos) (ZF X.K W (JZ r (.exp e'))):=
 (tW h a).imp λD Y H b=>fm b λZ2 ρ H g u x a c d p=>p _ ρ H .refl c a
def zX{Y:L2.St}(c:RS X.K ρ H Z2 Y)(a:RH X.K ρ H g)(b:RV X.K ρ H u v)(p:J8 X.K W (match Ai t (JV t u g) Z2 with|some ZX=>Out.ok (.nx ZX) g|none=>.Z0) ρ H D):tG X.K t v Y H D.nx:=by
 cases e:Ai t (JV t u g) Z2 with
 |none=>rw[e]at p;exact p.elim
 |some d=>rw[e]at p;exact⟨Z2,ρ,g,u,d,c,a,b,e,λZX f=>p ZX ρ H .refl a f⟩
def ny(h:PE X e (tE X.K W (r.ev e')))(b:PG X tg (tG X.K t))(a:swapsWithSole [tg] e pos.line X.env=pure false)(d:swappedStores [tg] e X.env=pure none)(i:(assignEach [tg] X.env).map (·.2)=[assign tg X.env]):
  PS X (.Assign [tg] e pos) (ZF X.K W (JZ r (.set t e'))):=
 (mP h b a d i).imp λD Y H f=>fm f λZ2 ρ H g u x a b c p=>zX a b c p
def mz{x:Str}{a:Pos}(m:X.N.Nodup)(j:X.N[i]?=some x)(hx:Loc X.env.scope x)(l:X.fn x=true\/X.env.scope.names.lookup x=some .local)(h:PE X e (tE X.K W (r.ev e')))(b:swapsWith e (some (.Name x a)) pos.line X.env=pure false):
  PS X (.Assign [.Name x a] e pos) (ZF X.K W (JZ r (.set (.nm i) e'))):=
 (m7 m j hx h b l).imp λD Y H f=>fm f λZ2 ρ H g u x b k d p=>by
  simp![JV,Ai]at p;by_cases c:i<Z2.length
  .rw [XN c]at p;exact p _ ρ H .refl k (b.set d)
  .rw [Xy c]at p;exact p.elim
def zN{x y:Str}{e d f:Pos}{kt k2 WJ}(s:X.calm=true)(A:X.N.Nodup)(o:X.N[i]?=some x)(n:X.N[j]?=some y)(F:i≠j)
  (hx:X.env.scope.names.lookup x=some .local) (l:X.env.scope.names.lookup y=some .local) (z:PE X a (tE X.K W (r.ev a'))) (t:PE X b (tE X.K W (r.ev b'))) (c:∀es,starEach (a::es) X.env=(false,eval a X.env)::starEach es X.env) (E:∀es,starEach (b::es) X.env=(false,eval b X.env)::starEach es X.env)
  (m:swappedStores [.Tuple [.Name x e,.Name y d] kt f] (.Tuple [a,b] k2 WJ) X.env=pure (some [x,y])) :
  PS X (.Assign [.Tuple [.Name x e,.Name y d] kt f] (.Tuple [a,b] k2 WJ) pos) (ZF X.K W (JZ r (.par i j a' b'))):=by
 refine(xE s A o n F hx l (aw z (aw t aQ (E _)) (c _)) m rfl).imp ?_;rintro D Y H ⟨Z2,ρ,g,hs,q,p⟩;refine⟨Z2,ρ,g,hs,q,(J8.bind p).mono λv H1 ⟨C,u,g1,s1,h1,h,k⟩=>?_⟩;refine⟨Z2,C,g1,hs.step s1,h1,(J8.bind k).mono λw H2 ⟨B,u2,g2,s2,h2,r2,p2⟩=>?_⟩;split at p2
 .exact ⟨v,w,rfl,p2 _ B H2 .refl h2 ((((hs.step s1).step s2).set (RV.step s2 _ _ h)).set r2)⟩
 .exact p2.elim
def zJ{i:Expr}{i':E}{WU:Pos}(hu:X.A.units+1<cLine)(h:PE X e (tE X.K W (r.ev e')))(ho:PE X o (tE X.K W (r.ev o')))(hi:PE X i (tE X.K W (r.ev i')))(hs:swapsWithSole [.Subscript o i WU] e pos.line X.env=pure false)(hw:swappedStores [.Subscript o i WU] e X.env=pure none)
  (ha:∀ v,assign (.Subscript o i WU) X.env v=(do
   let ov<-holding [v] (eval o X.env)
   let iv<-holding [v,ov] (eval i X.env)
   standAt WU
   holding [v,ov,iv] (setItem ov iv v)
   release [v,ov,iv] [])):PS X (.Assign [.Subscript o i WU] e pos) (ZF X.K W (JZ r (.sub o' i' e'))):=by
 refine(mP h (aaU ho hi (uj set_list (set_dict hu)) ha) hs hw rfl).imp ?_;rintro D Y H ⟨Z2,ρ,g,hs,hg,p⟩;refine⟨Z2,ρ,g,hs,hg,(J8.bind p).mono λv H1 ⟨ZS,u,g1,s1,h1,r1,p1⟩=>?_⟩;refine⟨Z2,ZS,g1,hs.step s1,h1,(J8.bind p1).mono λw H2 ⟨Zr,u2,g2,s2,h2,r2,p2⟩=>?_⟩;refine⟨Z2,Zr,g2,(hs.step s1).step s2,h2,(J8.bind p2).mono λz H3 ⟨VB,u3,g3,s3,h3,r3,p3⟩=>?_⟩;cases u2 with
 |ref n=>
  cases u3 with
  |int k=>
   cases r3;simp![subAt,Ew]at p3;cases eg:g3[n]? with
   |none=>rw[eg]at p3;exact p3.elim
   |some ob=>
    cases ob with
    |S J=>
     rw[eg]at p3;dsimp only at p3;let⟨q,vs,rfl,hn,t2,t3⟩:=bT h3 (RV.step s3 _ _ r2) eg;cases ej:ixN J.length k with
     |none=>rw[ej]at p3;exact p3.elim
     |some j=>
      rw[ej]at p3;dsimp only at p3;have rv:=RV.step s3 _ _ (RV.step s2 _ _ r1);exact .inl ⟨q,vs,k,j,rfl,rfl,t2,by rw[<-t3.length];exact ej,p3 _ VB _ (ZM.write hn t2) (h3.write hn t2 (t3.set rv j)) ((((hs.step s1).step s2).step s3).step (ZM.write hn t2))⟩
    |_=>rw[eg]at p3;exact p3.elim
  |Z1 J=>
   simp![subAt,Ey]at p3;cases eg:g3[n]? with
   |none=>rw[eg]at p3;exact p3.elim
   |some ob=>
    cases ob with
    |ZN O=>
     rw[eg]at p3;dsimp only at p3;cases ek:intsOf J with
     |none=>rw[ek]at p3;exact p3.elim
     |some k=>
      rw[ek]at p3;dsimp only at p3;by_cases hl:O.length<Ac
      .rw [XN hl]at p3
       let⟨q,ws,hn,ha,rd⟩:=h3.ZN eg;let⟨q',rfl,Zv⟩:=RV.step s3 _ _ r2;rw[hn]at Zv;cases Zv;let⟨b,rfl,hb⟩:=iw (x:=.Z1 J) (k:=k) ek r3;have rv:=RV.step s3 _ _ (RV.step s2 _ _ r1);refine .inr ⟨q,_,rfl,DPut.t ha hb ?_,p3 _ VB _ (ZM.XX hn ha trivial) (h3.XX hn ha trivial ⟨_,rfl,rd.put rv⟩) ((((hs.step s1).step s2).step s3).step (ZM.XX hn ha trivial))⟩;rw[<-rd.len,Tz];unfold Ac at hl;lia
      .rw [Xy hl]at p3;exact p3.elim
    |_=>rw[eg]at p3;exact p3.elim
  |str k=>
   simp![subAt,GH]at p3;cases eg:g3[n]? with
   |none=>rw[eg]at p3;exact p3.elim
   |some ob=>
    cases ob with
    |dst O=>
     rw[eg]at p3;dsimp only at p3;by_cases hl:O.length<Ac
     .rw [XN hl]at p3
      let⟨q,ws,hn,ha,rk⟩:=h3.dst eg;let⟨q',rfl,Zv⟩:=RV.step s3 _ _ r2;rw[hn]at Zv;cases Zv;cases r3;have rv:=RV.step s3 _ _ (RV.step s2 _ _ r1);refine .inr ⟨q,_,rfl,DPut.k (k:=Sum.inr k) ha ?_,p3 _ VB _ (ZM.XX hn ha trivial) (h3.XX hn ha trivial ⟨_,rfl,rk.put rv⟩) ((((hs.step s1).step s2).step s3).step (ZM.XX hn ha trivial))⟩;rw[<-rk.len,Tz];unfold Ac at hl;lia
     .rw [Xy hl]at p3;exact p3.elim
    |_=>rw[eg]at p3;exact p3.elim
  |_=>exact False.elim p3
 |_=>exact False.elim p3
def ac0{as bs:List Stmt}{d:List Z5}(f:PT X c (tT X.K W (r.ts c')))(i:PSs X as (ZF X.K W (r.ex d)))(h:PSs X bs (ZF X.K W (r.ex YZ))):PS X (.If c as bs pos) (ZF X.K W (JZ r (.Zz c' d YZ))):=by
 refine(nO f i h).imp ?_;rintro D Y H ⟨Z2,ρ,g,hs,e,p⟩;refine⟨Z2,ρ,g,hs,e,(J8.bind (R:=Yj) p).mono λk H1 ⟨b,k',g1,s1,h1,j,a⟩=>?_⟩;subst j;cases k' with
 |true=>exact bf ⟨Z2,b,g1,hs.step s1,h1,a⟩
 |false=>exact be ⟨Z2,b,g1,hs.step s1,h1,a⟩
def iE{o:Out Fl}{k:Su->G->Out Fl}{N:L2.St->Hp->Prop}
  (p:J8 X.K W (o.bind λf g=>match f with|.nx ZX=>k ZX g|.ct ZX=>k ZX g|.bk ZX=>.ok (.nx ZX) g|.rt u=>.ok (.rt u) g) ρ H D)
  (b:∀a d Y ZU H',ZM X.K ρ H ZU H'->RH X.K ZU H' d->RS X.K ZU H' a Y->J8 X.K W (k a d) ZU H' D->N Y H'):J8 X.K W o ρ H {D with nx:=N,ct:=N,bk:=D.nx}:=by
 cases o with
 |ok f g=>
  cases f with
  |nx a=>exactλY ZU H' s h hs=>b a g Y ZU H' s h hs (J8.from (o:=k a g) p s)
  |ct a=>exactλY ZU H' s h hs=>b a g Y ZU H' s h hs (J8.from (o:=k a g) p s)
  |_=>exact p
 |_=>exact p
def aaI{bs:List Stmt}{n:Nat}(hp:PassesOwn (model X.prog X.w) X.A X.env X.xe)(E:∀n,PT X c (tT X.K W ((J7 C n).ts c')))(F:∀n,PSs X bs (ZF X.K W ((J7 C n).ex YZ))):
  PS X (.While c bs [] pos) (ZF X.K W (JZ (J7 C n) (.V9 c' YZ))):=by
 intro Z s Y H D I z;have l:∀m Y H,ZF X.K W ((J7 C m).wh c' YZ) D Y H ->∃j,m=j+1:=λm Y H ⟨Z2,ρ,g,_,_,p⟩=>by
  cases m with
  |zero=>exact p.elim
  |succ j=>exact⟨j,rfl⟩
 refine wpAny_While (codeAny_whileLoop (λn s'=>∃ZX H',L2.Z4 X Z ZX H' s'/\ZF X.K W ((J7 C n).wh c' YZ) D ZX H') ?_ n ⟨Y,H,I,z⟩);rintro n d ⟨a,H1,M,r⟩;let⟨m,rfl⟩:=l n a H1 r;let⟨Z2,ρ,g,hs,B,p⟩:=r;refine S1 hp (thn (E m Z d a H1 (λb H2=>if b=true then ZF X.K W ((J7 C m).ex YZ) {D with nx:=λZX H'=>ZF X.K W ((J7 C m).wh c' YZ) D ZX H',ct:=λZX H'=>ZF X.K W ((J7 C m).wh c' YZ) D ZX H',bk:=D.nx} a H2 else D.nx a H2) M ?_) λb t ⟨H2,y,h⟩=>?_)
 .refine ⟨Z2,ρ,g,hs,B,(J8.bind (R:=Yj) p).mono λk H1 ⟨x,k',g1,d,h1,G,u⟩=>?_⟩
  subst G;cases k' with
  |true=>exact bf ⟨Z2,x,g1,hs.step d,h1,iE (k:=λZX g=>(J7 C m).wh c' YZ ZX g) u λJ g2 Y ZU H' t h2 L p2=>⟨J,ZU,g2,L,h2,p2⟩⟩
  |false=>exact be (u _ x _ .refl h1 (hs.step d))
 .cases b with
  |true=>
   rw[XN rfl]at h;rw[XN rfl];refine S1 hp (thn (F m Z t a H2 _ y h) λf s3 e=>?_);cases f with
   |next=>
    let⟨o,H3,q,i⟩:=e;exact⟨m,SH _,o,H3,q,i⟩
   |cont=>
    let⟨o,H3,q,i⟩:=e;exact⟨m,SH _,o,H3,q,i⟩
   |_=>exact e
  |false=>
   rw[Xy HQ]at h;rw[Xy HQ];exact Pf ⟨a,H2,y,h⟩
end
section
variable{YJ:List Addr}{H0:Hp}{D:Addr}{Lg o2:HO}
def ZM.WA(s:ZM K YJ H0 ρ H)(h0:H0 D=none)(hD:H D=some Lg)(hm:BH Lg):ZM K YJ H0 ρ (upd H D o2) where
 ext:=s.ext
 new:=s.new
 Yc:=λa o h hn=>by rw[aa (aK h h0)];exact s.Yc a o h hn
 live:=λa h=>by
  by_cases e:a=D
  .subst e;rw[upd_same];simp
  .rw [aa e];exact s.live a h
 Z1:=λa xs h=>a9 (s.Z1 a xs h) (.inr ⟨_,hD,hm⟩)
 Zs:=λa xs h=>ba (s.Zs a xs h) (.inr ⟨_,hD,hm⟩)
 Zw:=λa ob u h=>by rw[aa (cJ (s.Zw a ob u h) hD (by rintro rfl;exact hm))];exact s.Zw a ob u h
def RV.WA(b:H D=some Lg)(a:BH Lg)(h:RV K ρ H u v):RV K ρ (upd H D o2) u v:=RV.mono (λ_ _ e=>e) (λ_ _ h=>a9 h (.inr ⟨_,b,a⟩)) (λ_ _ h=>ba h (.inr ⟨_,b,a⟩)) u v h
def RVs.WA(b:H D=some Lg)(a:BH Lg){u:List U}{v:List V}(h:RVs K ρ H u v):RVs K ρ (upd H D o2) u v:=RVs.mono (λ_ _ e=>e) (λ_ _ h=>a9 h (.inr ⟨_,b,a⟩)) (λ_ _ h=>ba h (.inr ⟨_,b,a⟩)) u v h
def RH.WA(h:RH K ρ H g)(hD:H D=some Lg)(hm:BH Lg)(hn:D ∉ ρ):RH K ρ (upd H D o2) g where
 len:=h.len
 inj:=h.inj
 obj:=λn a o h1 h2=>by
  have q:=h.obj n a o h1 h2;have ne:a≠D:=λe=>hn (e ▸ UN.mpr ⟨n,h1⟩);let⟨ho,e,r⟩:=q;exact⟨ho,by rw[aa ne];exact e,r.mono (λ_ _ e=>e) (λ_ _ h=>a9 h (.inr ⟨_,hD,hm⟩)) (λ_ _ h=>ba h (.inr ⟨_,hD,hm⟩))⟩
def RH.named{p:Z6}(h:RH K ρ H g)(x:H D=some Lg)(v:D ∉ ρ)(r:RHO K ρ H p Lg):RH K (ρ++[D]) H (g++[p]):=by
 have t:∀(n:Nat) (a:Addr),ρ[n]?=some a->(ρ++[D])[n]?=some a:=λn a e=>by rw[Wt (Yh.mp e).1];exact e
 have c:∀k b,(ρ++[D])[k]?=some b->(k<ρ.length/\ρ[k]?=some b)\/(k=ρ.length/\b=D):=λk b e=>by
  by_cases hk:k<ρ.length
  .rw [Wt hk]at e;exact .inl ⟨hk,e⟩
  .rw [WB ()]at e
   cases hd:k-ρ.length with
   |zero=>rw[hd]at e;exact .inr ⟨by omega,by simpa using e.symm⟩
   |succ m=>rw[hd]at e;simp at e
 have l:∀k:Nat,ρ[k]? ≠ some D:=λk e=>v (UN.mpr ⟨k,e⟩);refine⟨by simp[h.len],λi j a h1 h2=>?_,λn a o h1 h2=>?_⟩
 .rcases c i a h1 with⟨_,f⟩|⟨f,s⟩
  .rcases c j a h2 with⟨_,d⟩|⟨d,u⟩
   .exact h.inj i j a f d
   .subst u;exact absurd f (l i)
  .rcases c j a h2 with⟨_,d⟩|⟨d,u⟩
   .subst s;exact absurd d (l j)
   .lia
 .rcases c n a h1 with⟨w,f⟩|⟨f,s⟩
  .rw [Wt (by rw[<-h.len];exact w)]at h2
   have q:=h.obj n a o f h2;let⟨ho,e,r'⟩:=q;exact⟨ho,e,r'.mono t (λ_ _ h=>h) (λ_ _ h=>h)⟩
  .subst s
   rw[WB (by rw[<-h.len];lia),<-h.len,f]at h2
   have d:o=p:=by simpa using h2.symm
   subst d;exact⟨_,x,r.mono t (λ_ _ h=>h) (λ_ _ h=>h)⟩
def ZM.named(s:ZM K YJ H0 ρ H)(h0:H0 D=none):ZM K YJ H0 (ρ++[D]) H where
 ext:=λn a h=>by have:=s.ext n a h;rw[Wt (Yh.mp this).1];exact this
 new:=λn a h=>by
  by_cases hk:n<ρ.length
  .rw [Wt hk]at h;exact s.new n a h
  .rw [WB ()]at h
   cases hd:n-ρ.length with
   |zero=>
    rw[hd]at h;have e:a=D:=by simpa using h.symm
    subst e;exact .inr h0
   |succ m=>rw[hd]at h;simp at h
 Yc:=s.Yc
 live:=s.live
 Z1:=s.Z1
 Zs:=s.Zs
 Zw:=s.Zw
def dH(s:ZM K ρ H ZU H')(a:D ∉ ρ)(c:H D=some Lg):D ∉ ZU:=λb=>by
 let⟨n,e⟩:=UN.mp b;rcases s.new n D e with q|q
 .exact a (UN.mpr ⟨n,q⟩)
 .rw [c]at q;cases q
def RS.unbind{t:Tg}{g:Su}{Y:L2.St}(l:AO t Z2=true)(c:Ai t u Z2=some g)(h:RS K ρ H g Y):RS K ρ H Z2 Y:=by
 have one:∀(i:Nat) (w:U) (a:Su),(match a[i]? with|some none=>true|_=>false)=true ->∀(j:Nat) (z:U),a[j]?=some (some z)->(a.set i (some w))[j]?=some (some z):=λi w a hi j z e=>by
  by_cases f:j=i
  .subst f;rw[e]at hi;cases hi
  .rw [X9 (Ne.symm f)];exact e
 cases t with
 |nm i=>
  simp![Ai]at c;split at c
  .cases c
   exact⟨by have:=h.len;simpa using this,λj z e=>h.val j z (one i u Z2 l j z e)⟩
  .cases c
 |tp is=>
  cases u with
  |Z1 J=>
   have o:bindL is J Z2=some g:=c;have all:∀(is:List Nat) (J:List U) (a d:Su),(∀i∈is,∀z,Z2[i]? ≠ some (some z))->(∀(j:Nat) (z:U),Z2[j]?=some (some z)->a[j]?=some (some z))->bindL is J a=some d->d.length=a.length /\∀(j:Nat) (z:U),Z2[j]?=some (some z)->d[j]?=some (some z):=λis=>by
    induction is with
    |nil=>
     intro J a d _ b e;cases J with
     |nil=>cases e;exact⟨rfl,b⟩
     |cons _ _=>cases e
    |cons i is ih=>
     intro J a d hi b e;cases J with
     |nil=>cases e
     |cons w J=>
      rw[bLc]at e;split at e
      .obtain ⟨h1,h2⟩:=ih J _ d (λk hk=>hi k (HS _ hk)) (λj z m=>by
        have f:j≠i:=λq=>hi i WS z (q ▸ m);rw[X9 (Ne.symm f)];exact b j z m) e
       exact⟨by rw[h1];simp,h2⟩
      .cases e
   have hi:∀i∈is,∀z,Z2[i]? ≠ some (some z):=λi n z e=>by
    have:=Wj.mp l i n;rw[e]at this;cases this
   let⟨h1,h2⟩:=all is J Z2 g hi (λ_ _ e=>e) o;exact⟨by rw[<-h1];exact h.len,λj z e=>h.val j z (h2 j z e)⟩
  |_=>simp[Ai]at c
def eC{o:Out α}{k:α->G->Out β}{b:β}(h:o.bindB k=.ok b g'):∃a c,o=.ok a c/\k a c=.ok b g':=by
 cases o with
 |ok a c=>exact⟨a,c,rfl,h⟩
 |_=>cases h
end
section
abbrev Tn(ifs:List Expr)(env:Env):Sem Bool:=forIn ifs true λc r=>if r=true then do let ok<-isTrue c env (eval c env);pure (ForInStep.yield ok)else pure (ForInStep.yield r)
def jq{env:Env}{Z9:Model}{A:Around}{E:Value->Shared->Prop}{Q:Bool->Shared->Prop}{s:Shared}(h:Q false s):∀ifs:List Expr,wpAny Z9 A (forIn ifs false λc r=>if r=true then do let ok<-isTrue c env (eval c env);pure (ForInStep.yield ok)else pure (ForInStep.yield r)) Q E s
 |[]=>ZP h
 |c::cs=>by
  simp![RY,WN,U3];exact ZB (ZP (jq h cs))
def PTs(X:Cx)(a:List Expr)(f:Su->G->Out Bool):Prop:=
 ∀(Z:List (Addr×Obj)) (s:Shared) (Y:L2.St) (H:Hp) (Q:Bool->Hp->Prop),L2.Z4 X Z Y H s->tT X.K Yr f Y H Q->wpAny (model X.prog X.w) X.A (Tn a X.env) (TP X Z Y Q) X.xe s
where Yr:XQ:=λ_ _ _=>False
def wo:PTs X [] (AH r.ts []):=λZ s Y H Q I ⟨Z2,ρ,g,hs,a,p⟩=>ZP ⟨H,I,post.Zh (R:=Yj) p a rfl⟩
def rK{c:Expr}{f:E}{d:List Expr}{a:List E}(j:PT X c (tT X.K PTs.Yr (r.ts f)))(n:PTs X d (AH r.ts a)):PTs X (c::d) (AH r.ts (f::a)):=by
 intro Z s Y H Q I ⟨Z2,ρ,g,hs,i,p⟩;unfold Tn;simp![RY,Ti];refine ZB (ZB (thn (j Z s Y H (λk H1=>if k=true then tT X.K PTs.Yr (AH r.ts a) Y H1 Q else Q false H1) I ⟨Z2,ρ,g,hs,i,(post.bind (R:=Yj) p).mono λk H1 ⟨m,k',g1,s1,h1,l,e⟩=>?_⟩) λk s1 ⟨H1,h,b⟩=>?_))
 .subst l
  cases k' with
  |true=>exact bf ⟨Z2,m,g1,hs.step s1,h1,e⟩
  |false=>exact be (post.Zh (R:=Yj) e h1 rfl)
 .cases k with
  |true=>rw[XN rfl]at b;exact ZP (n Z s1 Y H1 Q h b)
  |false=>rw[Xy HQ]at b;exact ZP (jq ⟨H1,h,b⟩ d)
structure Mon(K:HY)(ρ:List Addr)(H:Hp)(ZU:List Addr)(H':Hp):Prop where
 ext:∀(n:Nat) (a:Addr),ρ[n]?=some a->ZU[n]?=some a
 Z1:∀a xs,SqU K H a xs->SqU K H' a xs
 Zs:∀a xs,SqF K H a xs->SqF K H' a xs
 Zw:∀a o u,H a=some (.Zw o u)->H' a=some (.Zw o u)
def ZM.mon(s:ZM K ρ H ZU H'):Mon K ρ H ZU H':=⟨s.ext,s.Z1,s.Zs,s.Zw⟩
def Mon.trans{d:List Addr}{c:Hp}(a:Mon K ρ H ZU H')(b:Mon K ZU H' d c):Mon K ρ H d c:=⟨λn x h=>b.ext n x (a.ext n x h),λx xs h=>b.Z1 x xs (a.Z1 x xs h),λx xs h=>b.Zs x xs (a.Zs x xs h),λx o u h=>b.Zw x o u (a.Zw x o u h)⟩
def RI.mon{i:Iter}(s:Mon K ρ H ZU H')(h:RI K ρ H i Z7):RI K ZU H' i Z7:=by
 cases i with
 |S n=>let⟨a,h1,h2⟩:=h;exact⟨a,s.ext _ _ h1,h2⟩
 |ZN n=>let⟨a,o,ws,h1,h2,b⟩:=h;exact⟨a,o,ws,s.ext _ _ h1,s.Zw _ _ _ h2,b⟩
 |YN n=>let⟨a,h1,h2⟩:=h;exact⟨a,s.ext _ _ h1,h2⟩
 |seq J=>let⟨a,vs,h1,h2,b⟩:=h;exact⟨a,vs,h1.imp_left (s.Z1 _ _),RVs.mono s.ext s.Z1 s.Zs _ _ h2,b⟩
 |YS lo n=>exact h
def Bt(X:Cx)(C:Nat->List U->G->Out U):List Comprehension->List (Tg×E×List E)->Prop
 |[],[]=>True
 |g::r,(t,Zy,cs)::r'=>g.is_async=0/\PG X g.target (tG X.K t)/\(∀n,PTs X g.ifs (AH (J7 C n).ts cs))/\(∀n,PI X g.target g.iter (tI X.K PTs.Yr (JW (J7 C n) Zy)))/\(∀x,foldedSetIterable g.iter X.env x=pure x)/\Bt X C r r'
 |_,_=>False
set_option genInjectivity false in
inductive CK where|S (elt:Expr)|ZN (k v:Expr)
noncomputable def CK.exp(c:CK)(gens:List Comprehension)(scope:Scope)(pos:Pos):Expr:=match c with
 |.S elt=>.ListComp elt gens scope pos
 |.ZN k v=>.DictComp k v gens scope pos
noncomputable def CK.emit(c:CK)(ZW:Value)(env:Env):Sem Unit:=match c with
 |.S elt=>(do let _<-call (.builtin "list.append") [ZW,<-eval elt env])
 | .ZN k v=>(do
   let kv<-eval k env
   let vv<-holding [kv] (eval v env)
   match ZW with
   |.ref d=>do
    standAt {k.pos with endLine:=v.pos.endLine,endCol:=v.pos.endCol}
    holding [kv,vv] (dictSet d kv vv)
   |_=>unsupported "internal:dictcomp")
noncomputable def CK.new(c:CK):Sem Value:=match c with
 |.S _=>newList []
 |.ZN _ _=>newDict
noncomputable def CK.obj(c:CK):Obj:=match c with
 |.S _=>{cls:=.type "list",dict:=none,data:=.seq ([]:List Value).toArray}
 |.ZN _ _=>{cls:=.type "dict",data:=.dict #[]}
noncomputable def CK.Wi(c:CK):HO:=match c with
 |.S _=>.S []
 |.ZN _ _=>.dT []
noncomputable def CK.ho(K:HY)(ρ:List Addr)(H:Hp)(c:CK)(a:List U)(o:HO):Prop:=match c with
 |.S _=>∃vs,o=.S vs/\RVs K ρ H a vs
 |.ZN _ _=>∃O ws,o=.dT ws/\dfold a []=some O/\RD K ρ H O ws
def CK.ho.mut{c:CK}{o:HO}(h:CK.ho K ρ H c ZW o):BH o:=by
 cases c with
 |S e=>let⟨vs,rfl,_⟩:=h;trivial
 |ZN k v=>let⟨_,ws,rfl,_⟩:=h;trivial
def CK.ho.mono{K:HY}{ρ l:List Addr}{H b:Hp}{c:CK}{j:List U}{o:HO}(h:CK.ho K ρ H c j o)(i:∀(n:Nat) (a:Addr),ρ[n]?=some a->l[n]?=some a)(f:∀a xs,SqU K H a xs->SqU K b a xs)(g:∀a xs,SqF K H a xs->SqF K b a xs):CK.ho K l b c j o:=by
 cases c with
 |S e=>let⟨vs,e,r⟩:=h;exact⟨vs,e,RVs.mono i f g _ _ r⟩
 |ZN k v=>let⟨O,ws,e,d,r⟩:=h;exact⟨O,ws,e,d,RD.mono i f g _ _ r⟩
def CK.ho.step{c:CK}{o:HO}(s:ZM K ρ H ZU H')(h:CK.ho K ρ H c ZW o):CK.ho K ZU H' c ZW o:=h.mono s.ext s.Z1 s.Zs
def CK.ho0{c:CK}:CK.ho K ρ H c [] c.Wi:=by
 cases c with
 |S e=>exact⟨[],rfl,rfl⟩
 |ZN k v=>exact⟨[],[],rfl,rfl,rfl⟩
def CK.Sn{E:Value->Shared->Prop}{c:CK}(h:Q (.ref s.heap.objs.size) {s with heap:=s.heap.push c.obj}):wpAny Z9 A c.new Q E s:=by
 cases c with
 |_=>exact UU h
def CK.Sm(c:CK)(h:Heap)(a:sysModules<h.objs.size):ObjOk P w H (h.push c.obj) h.objs.size c.Wi:=by
 cases c with
 |S e=>exact⟨QS _,[],0,.nil,HW _ rfl⟩
 |ZN k v=>exact j5 h a
inductive RR(X:Cx)(c:CK)(D:Addr)(Z:List (Addr×Obj))(YJ:List Addr)(H0:Hp)(Wh:List Addr)(Hs:Hp)(Z2:Su)(J:List U)(g':G)(r:Result)(s':Shared):Prop
 |mk (f:∃f,r=.ok f) (ZX:L2.St) (H':Hp) (ZU:List Addr) (YE:HO) (I:L2.Z4 X Z ZX H' s') (sp:ZM X.K YJ H0 ZU H') (hg:RH X.K ZU H' g') (hs:RS X.K ZU H' Z2 ZX) (hD:H' D=some YE) (hn:D ∉ ZU) (rv:CK.ho X.K ZU H' c J YE) (mo:Mon X.K Wh Hs ZU H')
def pj{c:CK}{k:Nat}{g:Comprehension}{it ZW:Value}(hk:gens[k]?=some g)(ha:g.is_async=0):
  compTurn (c.exp gens scope pos) k it ZW env=(do
   standAt g.iter.pos
   match<-pyNext it with
   |none=>pure (.done .next)
   |some v=>
    letOwnedTupleGo g.target it v
    assign g.target env v
    let ok<-Tn g.ifs env
    if ok then
     match gens[k+1]? with
     |some g'=>
      let x<-eval g'.iter env
      standAt g'.iter.pos
      let x<-if g'.is_async != 0 then foldedIterable g'.iter x else foldedSetIterable g'.iter env x
      let _<-runOwn (.compStart (c.exp gens scope pos) (k+1) (<- holding [x] (if g'.is_async != 0 then asyncIter x else pyIter x)) ZW env) env
     |none=>c.emit ZW env
    again (.compLoop (c.exp gens scope pos) k it ZW env)):=by
 cases c with
 |_=>unfold compTurn;simp![CK.exp,hk,ha];rfl
end
section
variable{R:Result->Shared->Prop}
def iS{c:CK}{k:Nat}{g:Comprehension}{it ZW:Value}(hk:gens[k]?=some g)(ha:g.is_async=0)
  (h0:codeAny (model prog w) A (.compLoop (c.exp gens scope pos) k it ZW env) R s)
  (h:wpAny (model prog w) A (pyIter it) (λZy s'=>codeAny (model prog w) A (.compLoop (c.exp gens scope pos) k Zy ZW env) R s')
   (notedBy (model prog w) A env λx s'=>R (.error x) s') s) :
  codeAny (model prog w) A (.compStart (c.exp gens scope pos) k it ZW env) R s:=by
 refine codeAny_of_tree ?_;have key:(model prog w).den (.compStart (c.exp gens scope pos) k it ZW env)=(compStart (c.exp gens scope pos) k it ZW env).onRaise (λx=>do noteFrame x env;standAt theWindowsPlace):=by cases c<;>rfl
 have ku:A.under (.compStart (c.exp gens scope pos) k it ZW env)=A:=by cases c<;>rfl
 rw[key,ku];refine wpAny_notedAt ?_;unfold compStart;have hc:(clausesOf (c.exp gens scope pos))[k]?=some g:=by cases c<;>exact hk
 simp![hc,ha,Option.elim];show wpAny _ _ (ask >>= _) _ _ s;refine ZB (wpAny_askSetting (wpAny_ite ?_));split
 .first
   |exact ZB (ZP (ZP (And.intro rfl h0)))
   |exact ZP (And.intro rfl h0)
 .first
   |exact ZB (wpAny_rule (ZB (Tp (ZB (V6 h (λZy s' h'=>ZP (And.intro rfl h')) λ_ _ x=>x)))))
   |(refine ZB (wpAny_rule ?_);show wpAny _ _ (standAt g.iter.pos >>= _) _ _ s;exact ZB (Tp (ZB (V6 h (λZy s' h'=>ZP (And.intro rfl h')) λ_ _ x=>x))))
end
section
def noE{t:Sem α}{Q:α->Shared->Prop}{E:Value->Shared->Prop}(a:X.xe=λ_ _=>False)(h:wpAny (model X.prog X.w) X.A t Q X.xe s):wpAny (model X.prog X.w) X.A t Q E s:=
 V6 h (λ_ _ q=>q) λe s' z=>by rw[a]at z;exact z.elim
def C7(X:Cx)(C:Nat->List U->G->Out U)(c:CK)(f:E):Prop:=
 ∀(n:Nat) (Z:List (Addr×Obj)) (s:Shared) (d:Su) (Y:L2.St) (H:Hp) (ρ:List Addr) (b:G) (ZW:List U) (o:HO) (v:U) (g2:G) (D:Addr),(J7 C n).ev f d b=.ok v g2->ZW.length<Ac->L2.Z4 X Z Y H s->RS X.K ρ H d Y->RH X.K ρ H b->H D=some o->D ∉ ρ->CK.ho X.K ρ H c ZW o ->
  wpAny (model X.prog X.w) X.A (c.emit (.ref D) X.env) (λ_ e=>∃a H1 o2,L2.Z4 X Z Y (upd H1 D o2) e/\ZM X.K ρ H a H1/\RH X.K a H1 g2/\H1 D=some o/\CK.ho X.K a (upd H1 D o2) c (ZW++[v]) o2) X.xe s
def km{b:Expr}(y:∀n,PE X b (tE X.K PTs.Yr ((J7 C n).ev Zl))):C7 X C (.S b) Zl:=by
 intro n Z s t Y H ρ m ZW o v g2 D r j I hs k l i ⟨vs,p,g⟩;subst p;refine ZB (thn (y n Z s Y H (λx H1=>∃a,ZM X.K ρ H a H1/\RH X.K a H1 g2/\RV X.K a H1 v x) I ⟨t,ρ,m,hs,k,by rw[r];exactλv a H1 c h1 d=>⟨a,c,h1,d⟩⟩) ?_);rintro u c ⟨x,H1,A,d,a,e,w,h⟩
 have f:H1 D=some (.S vs):=e.Yc D _ l i;refine ZB (thn (jv Z c Y H1 (.ref D) [x] (.ref D) [u] (λ_ H2=>H2=upd H1 D (.S (vs++[x]))) A rfl (.cons d .nil) ⟨D,vs,x,rfl,rfl,f,by rw[<-g.length,Tz];unfold Ac at j;omega,rfl⟩) ?_);rintro u2 E ⟨B,H2,z,r2,q⟩
 subst q;exact ZP ⟨a,H1,_,z,e,w,f,_,rfl,((RVs.step e _ _ g).append (.one h)).WA f trivial⟩
def jO:∀{xs ys:List U} {k0 O:List (List Int×U)},dfold xs k0=some O->dfold (xs++ys) k0=dfold ys O
 |[],_,_,_,e=>by cases e;rfl
 |x::xs,ys,k0,O,e=>by
  simp![Rj,dfold]at e ⊢;let⟨k1,h1,h2⟩:=W6.mp e;rw[h1];exact jO h2
def sN{k:List Int}:(dput O k u).length<=O.length+1:=by
 unfold dput;split<;>simp
def qV{k1:List (List Int×U)}{x:U}(e:Cf O x=some k1):k1.length<=O.length+1:=by
 unfold Cf at e;split at e
 .obtain ⟨ks,_,rfl⟩:=YU.mp e;exact sN
 .cases e
def jX:∀{xs:List U} {k0 O:List (List Int×U)},dfold xs k0=some O->O.length<=k0.length+xs.length
 |[],_,_,e=>by cases e;simp
 |x::xs,k0,O,e=>by
  simp![dfold]at e;let⟨k1,h1,h2⟩:=W6.mp e;have:=qV h1;have:=jX h2;simp![X8];lia
def rL{G z:Expr}{k' p:E}(T:X.A.units+1<cLine)(W:∀n,PE X G (tE X.K PTs.Yr ((J7 C n).ev k')))(S:∀n,PE X z (tE X.K PTs.Yr ((J7 C n).ev p))):C7 X C (.ZN G z) (.pair k' p):=by
 intro n Z s i Y H ρ t ZW o v g2 D M V I hs hg hD U ⟨O,ws,eo,L,F⟩;subst eo;cases n with
 |zero=>cases M
 |succ n=>
  have a:(((J7 C n).ev k' i t).bind λx g=>((J7 C n).ev p i g).bind λy g=>match keyOf x with|some _=>.ok (.Z1 [x,y]) g|none=>.Z0)=Out.ok v g2:=M
  cases q:(J7 C n).ev k' i t with
  |ok J ga=>
   rw[q]at a;cases ev:(J7 C n).ev p i ga with
   |ok B gb=>
    simp![Out.bind,ev]at a;cases f:keyOf J with
    |none=>rw[f]at a;cases a
    |some R=>
     rw[f]at a;cases a;refine ZB (thn (W n Z s Y H (λx H1=>∃c,ZM X.K ρ H c H1/\RH X.K c H1 ga/\RV X.K c H1 J x) I ⟨i,ρ,t,hs,hg,by rw[q];exactλv c H1 k h1 l=>⟨c,k,h1,l⟩⟩) ?_);rintro u k ⟨x,H1,I1,l,c,N,Yq,Q⟩
     refine ZB (US (thn (S n Z k Y H1 (λx H2=>∃m,ZM X.K c H1 m H2/\RH X.K m H2 g2/\RV X.K m H2 B x) I1 ⟨i,c,ga,hs.step N,Yq,by rw[ev];exactλv c H1 k h1 l=>⟨c,k,h1,l⟩⟩) ?_));rintro w s2 ⟨y,H2,I2,r2,m,j,r,P⟩
     let⟨b,rfl,hb⟩:=iw f (RV.step j _ _ Q);obtain rfl:u=Value.ref b:=l;have sp:=N.trans j;have d:H2 D=some (.dT ws):=sp.Yc D _ hD U;refine ZB (Tp (US (abJ T I2 d hb ?_ r2 λs3 I3=>⟨m,H2,_,I3,sp,r,d,dput O R B,_,rfl,?_,?_⟩)))
     .have:=jX L;rw[<-F.len,Tz];unfold Ac at V;simp at this;lia
     .rw [jO L];simp![dfold,Cf,f,Vv,Rl]
     .exact RD.mono (λ_ _ e=>e) (λ_ _ h=>a9 h (.inr ⟨_,d,trivial⟩)) (λ_ _ h=>ba h (.inr ⟨_,d,trivial⟩)) _ _ ((F.mono sp.ext sp.Z1 sp.Zs).put P)
   |_=>simp![Out.bind,ev]at a;cases a
  |_=>rw[q]at a;cases a
abbrev postC(c:Code)(R:Result->Shared->Prop)(N:Shared->Prop):PySem.Fin->Shared->Prop:=λfin s'=>match fin with|.done f=>R (.ok f) s'|.again c'=>c'=c/\N s'
inductive LpI(X:Cx)(f:Nat->Tg->List E->List (Tg×E×List E)->E->List U->Su->G->Out (List U))(t:Tg)(cs:List E)(ZD:List (Tg×E×List E))(Zl:E)(Z2:Su)(J:List U)(g':G)(Z:List (Addr×Obj))(tn:Nat->Heap->Prop)(fp:List Addr)(Yp:Iter)(Z7:It)(YJ:List Addr)(H0:Hp)(D:Addr)(c:CK)(Wh:List Addr)(Hs:Hp)(s:Shared):Prop
 |mk (i:Nat) (ZW:List U) (vs:HO) (Y:L2.St) (H:Hp) (ρ:List Addr) (g0:G) (eq:f i t cs ZD Zl ZW Z2 g0=.ok J g') (I:L2.Z4 X Z Y H s) (st:tn i s.heap) (hf:∀b∈fp,H b=none) (hs:RS X.K ρ H Z2 Y) (XB:RH X.K ρ H g0) (ri:RI X.K ρ H Yp Z7) (sp:ZM X.K YJ H0 ρ H) (hD:H D=some vs) (hn:D ∉ ρ) (rv:CK.ho X.K ρ H c ZW vs) (mo:Mon X.K Wh Hs ρ H)
def lP(hc:X.calm=true)(Wz:X.xe=λ_ _=>False){c:CK}{Zl:E}{scope:Scope}{pos:Pos}{D:Addr}{k:Nat}{t:Tg}{YJ Wh:List Addr}{H0 Hs:Hp}
  {it:Addr} {fp:List Addr} {tn:Nat->Heap->Prop} {Z7:It} {Yp:Iter} {Z:List (Addr×Obj)} {Z2:Su} {J:List U} {g':G}
  (hk:gens[k]?=some gc) (ha:gc.is_async=0) (hg:PG X gc.target (tG X.K t)) (Wy:∀n,PTs X gc.ifs (AH (J7 C n).ts cs)) (T:Turn X.prog X.w X.K gc.target Z7 fp it tn) (ZJ:∀b∈fp,∀H':Hp,H' b=none->AQ X Z H' b) (h0:H0 D=none)
  (inner:∀ (n:Nat) (X3:List (Addr×Obj)) (s:Shared) (ZT:Su) (Y:L2.St) (H:Hp) (ρ:List Addr) (g1:G) (ZW:List U) (vs:HO) (i:Nat) (N:Shared->Prop) (E:Value->Shared->Prop),
   (match ZD with
    |[]=>((J7 C n).ev Zl ZT g1).bindB λv g=>if ZW.length<Ac then(J7 C n).cm Yp (i+1) t cs ZD Zl (ZW++[v]) Z2 g else .Z0
    |(t2,YF,Yk)::WV=>(JW (J7 C n) YF ZT g1).bindB λj g=>((J7 C n).cm j 0 t2 Yk WV Zl ZW ZT g).bindB λYs g=>(J7 C n).cm Yp (i+1) t cs ZD Zl Ys Z2 g)=.ok J g' ->
   L2.Z4 X X3 Y H s->RS X.K ρ H ZT Y->RH X.K ρ H g1->ZM X.K YJ H0 ρ H->H D=some vs->D ∉ ρ->CK.ho X.K ρ H c ZW vs ->
   (∀s' ZX H' ZU g2 Ys Vz,(J7 C n).cm Yp (i+1) t cs ZD Zl Ys Z2 g2=.ok J g'->L2.Z4 X X3 ZX H' s'->RS X.K ZU H' ZT ZX->RH X.K ZU H' g2->ZM X.K YJ H0 ZU H'->Mon X.K ρ H ZU H'->H' D=some Vz->D ∉ ZU->CK.ho X.K ZU H' c Ys Vz->N s') ->
   wpAny (model X.prog X.w) X.A (match gens[k+1]? with
     | some g'=>(do
      let x<-eval g'.iter X.env
      standAt g'.iter.pos
      if(g'.is_async != 0)=true then do
        let x<-foldedIterable g'.iter x
        let y<-holding [x] (if(g'.is_async != 0)=true then asyncIter x else pyIter x)
        let _<-runOwn (.compStart (c.exp gens scope pos) (k+1) y (.ref D) X.env) X.env
        again (.compLoop (c.exp gens scope pos) k (.ref it) (.ref D) X.env)
       else do
        let x<-foldedSetIterable g'.iter X.env x
        let y<-holding [x] (if(g'.is_async != 0)=true then asyncIter x else pyIter x)
        let _<-runOwn (.compStart (c.exp gens scope pos) (k+1) y (.ref D) X.env) X.env
        again (.compLoop (c.exp gens scope pos) k (.ref it) (.ref D) X.env))
     | none=>(do
      c.emit (.ref D) X.env
      again (.compLoop (c.exp gens scope pos) k (.ref it) (.ref D) X.env))) (postC (.compLoop (c.exp gens scope pos) k (.ref it) (.ref D) X.env) (RR X c D Z YJ H0 Wh Hs Z2 J g') N) E s)
  (n:Nat) (s:Shared) (i:Nat) (ZW:List U) (vs:HO) (Y:L2.St) (H:Hp) (ρ:List Addr) (g0:G) (eq:(J7 C n).cm Yp i t cs ZD Zl ZW Z2 g0=.ok J g') (I:L2.Z4 X Z Y H s) (st:tn i s.heap) (hf:∀b∈fp,H b=none)
  (hs:RS X.K ρ H Z2 Y) (XB:RH X.K ρ H g0) (ri:RI X.K ρ H Yp Z7) (sp:ZM X.K YJ H0 ρ H) (hD:H D=some vs) (hn:D ∉ ρ) (rv:CK.ho X.K ρ H c ZW vs) (mo:Mon X.K Wh Hs ρ H) :
  codeAny (model X.prog X.w) X.A (.compLoop (c.exp gens scope pos) k (.ref it) (.ref D) X.env) (RR X c D Z YJ H0 Wh Hs Z2 J g') s:=by
 refine codeAny_loop (by cases c<;>rfl) (λn s=>LpI X ((J7 C n).cm Yp) t cs ZD Zl Z2 J g' Z tn fp Yp Z7 YJ H0 D c Wh Hs s) ?_ n ⟨i,ZW,vs,Y,H,ρ,g0,eq,I,st,hf,hs,XB,ri,sp,hD,hn,rv,mo⟩
 clear eq I st hf hs XB ri sp hD hn rv mo;rintro n s ⟨i,ZW,vs,Y,H,ρ,g0,eq,I,st,hf,hs,XB,ri,sp,hD,hn,rv,mo⟩;cases n with
 |zero=>cases eq
 |succ n=>
  have W7:J6 (J7 C n) Yp i t cs ZD Zl ZW Z2 g0=.ok J g':=eq;clear eq;simp![J6]at W7;have key:(model X.prog X.w).den (.compLoop (c.exp gens scope pos) k (.ref it) (.ref D) X.env)=(compTurn (c.exp gens scope pos) k (.ref it) (.ref D) X.env).onRaise (λx=>do noteFrame x X.env;theTreesLotGoes x):=by cases c<;>rfl
  have ku:X.A.under (.compLoop (c.exp gens scope pos) k (.ref it) (.ref D) X.env)=X.A:=by cases c<;>rfl
  rw[key,ku];refine wpAny_noted ?_;rw[pj hk ha];refine ZB (Tp (ZB ?_));have stat:∀{H':Hp},(∀b∈fp,H' b=none) ->∀b∈fp,AQ X Z H' b:=λh b hb=>ZJ b hb _ (h b hb);cases en:next Yp i g0 with
  |none=>rw[en]at W7;dsimp only at W7;cases W7
  |some o=>
   cases o with
   |none=>
    rw[en]at W7;dsimp only at W7;cases W7;refine thn (T.done X rfl rfl rfl hc i Z s Y H _ I (stat hf) st (gJ XB ri en)) ?_;rintro r s1 ⟨hr,I1⟩;subst hr;exact ZP ⟨⟨_,rfl⟩,Y,H,ρ,vs,I1,sp,XB,hs,hD,hn,rv,mo⟩
   |some u=>
    rw[en]at W7;dsimp only at W7;let⟨go,yl⟩:=iz XB ri en;refine thn (T.item X rfl rfl rfl hc i Z s Y H _ I (stat hf) st go) ?_;rintro r s1 ⟨u',hr,h4⟩;subst hr;refine ZB (thn h4 ?_);rintro _ s5 ⟨x,H5,I5,r5,y5,VJ,UB⟩;let⟨XA,hgg5,rx⟩:=yl x H5 y5;replace hs:=hs.step XA;replace XB:=hgg5;replace ri:=ri.step XA;replace sp:=sp.trans XA;replace hD:=XA.Yc D _ hD hn;replace rv:=rv.step XA;replace mo:=mo.trans XA.mon;have I5':=I5.pinned (stat UB) (T.obj _ _ VJ);split at W7
    .rename_i TR
     cases eb:Ai t u Z2 with
     |none=>rw[eb]at W7;dsimp only at W7;cases W7
     |some ZT=>
      rw[eb]at W7;dsimp only at W7;let⟨kk,g1,e1,e2⟩:=eC W7;refine ZB (noE Wz (thn (hg _ s5 Y H5 x u' (λZX H'=>H'=H5/\RS X.K ρ H5 ZT ZX) I5' r5 ⟨Z2,ρ,g0,u,ZT,hs,XB,rx,gf eb,λZX h=>⟨rfl,h⟩⟩) ?_));rintro _ s6 ⟨UA,H6,I6,eh,hs6⟩;subst eh;refine ZB (noE Wz (thn (Wy n _ s6 UA H6 (λk' H'=>k'=kk /\∃ZS,ZM X.K ρ H6 ZS H'/\RH X.K ZS H' g1) I6 ⟨ZT,ρ,g0,hs6,XB,by rw[e1];exactλv ZS H1 s1 h1 e=>⟨e.symm,ZS,s1,h1⟩⟩) ?_));rintro k' s7 ⟨H7,I7,ek,ZS,Zj,Yq⟩
      subst ek;have back:∀(s':Shared) (ZX:L2.St) (H':Hp) (ZU:List Addr) (g2:G) (Ys:List U) (Vz:HO),(J7 C n).cm Yp (i+1) t cs ZD Zl Ys Z2 g2=.ok J g'->L2.Z4 X (Z++Cr fp s5.heap) ZX H' s'->RS X.K ZU H' ZT ZX->RH X.K ZU H' g2->ZM X.K YJ H0 ZU H'->Mon X.K ZS H7 ZU H'->H' D=some Vz->D ∉ ZU->CK.ho X.K ZU H' c Ys Vz ->
        ∃m,m<n+1/\LpI X ((J7 C m).cm Yp) t cs ZD Zl Z2 J g' Z tn fp Yp Z7 YJ H0 D c Wh Hs s':=λs' ZX H' ZU g2 Ys Vz q1 q2 q3 q4 q5 q6 q7 q8 q9=>by
       refine⟨n,SH _,i+1,Ys,Vz,ZX,H',ZU,g2,q1,q2.TN,T.keep _ _ _ VJ λb hb o e=>(q2.pin (b,o) (VW _ (VW _ (dF hb e)))).1,λb hb=>?_,RS.unbind TR eb q3,q4,(ri.step Zj).mon q6,q5,q7,q8,q9,(mo.trans Zj.mon).trans q6⟩;let⟨o,e,d⟩:=T.obj _ _ VJ b hb;exact(q2.pin (b,o) (VW _ (VW _ (dF hb e)))).2.1
      have hD7:H7 D=some vs:=Zj.Yc D _ hD hn;have hn7:D ∉ ZS:=dH Zj hn hD;have rv7:=rv.step Zj;cases k' with
      |false=>
       simp![WN,U3]at e2 ⊢;exact ZP ⟨rfl,back s7 UA H7 ZS g1 ZW vs e2 I7 (hs6.step Zj) Yq (sp.trans Zj) ⟨λ_ _ h=>h,λ_ _ h=>h,λ_ _ h=>h,λ_ _ _ h=>h⟩ hD7 hn7 rv7⟩
      |true=>
       simp![Ti]at e2 ⊢;exact inner n _ s7 ZT UA H7 ZS g1 ZW vs i _ _ e2 I7 (hs6.step Zj) Yq (sp.trans Zj) hD7 hn7 rv7 back
    .cases W7
def rp(hc:X.calm=true)(Wz:X.xe=λ_ _=>False){c:CK}(hem:C7 X C c Zl){D:Addr}:
  ∀(ZV:List Comprehension) (ZD:List (Tg×E×List E)) (k:Nat) (gc:Comprehension) (t:Tg) (cs:List E),gens[k]?=some gc->gens.drop (k+1)=ZV->gc.is_async=0->PG X gc.target (tG X.K t) ->
   (∀n,PTs X gc.ifs (AH (J7 C n).ts cs))->Bt X C ZV ZD ->
   ∀(n:Nat) (Z:List (Addr×Obj)) (s:Shared) (it:Addr) (fp:List Addr) (tn:Nat->Heap->Prop) (Z7:It) (Yp:Iter) (i:Nat) (ZW:List U) (vs:HO) (Z2:Su) (Y:L2.St) (H:Hp) (ρ YJ:List Addr) (H0:Hp) (P:G) (J:List U) (g':G),
    Turn X.prog X.w X.K gc.target Z7 fp it tn->(J7 C n).cm Yp i t cs ZD Zl ZW Z2 P=.ok J g'->L2.Z4 X Z Y H s->tn i s.heap->(∀b∈fp,AQ X Z H b)->RS X.K ρ H Z2 Y->RH X.K ρ H P->RI X.K ρ H Yp Z7 ->
    ZM X.K YJ H0 ρ H->H0 D=none->H D=some vs->D ∉ ρ->CK.ho X.K ρ H c ZW vs ->
    codeAny (model X.prog X.w) X.A (.compLoop (c.exp gens scope pos) k (.ref it) (.ref D) X.env) (RR X c D Z YJ H0 ρ H Z2 J g') s:=by
 intro ZV
 induction ZV with
 |nil=>
  intro ZD k gc t cs hk TF ha L Wy u n Z s it fp tn Z7 Yp i ZW vs Z2 Y H ρ YJ H0 P J g' T O I st S hs XB ri sp V y o B;have Up:gens[k+1]?=none:=by
   have:=Sb List.length TF;rw[Qg]at this;exact U8.mpr (by simp at this;omega)
  cases ZD with
  |cons _ _=>exact False.elim u
  |nil=>
   refine lP hc Wz hk ha L Wy T (λb M H' h=>⟨h,(S b M).2⟩) V ?_ n s i ZW vs Y H ρ P O I st (λb M=>(S b M).1) hs XB ri sp y o B ⟨λ_ _ h=>h,λ_ _ h=>h,λ_ _ h=>h,λ_ _ _ h=>h⟩;intro n X3 s ZT Y H ρ g1 ZW vs i N E O I hs L sp y o B a;let⟨v,g2,e1,W⟩:=eC O;rw[Up];split at W
   .rename_i hl
    refine ZB (noE Wz (thn (hem n X3 s ZT Y H ρ g1 ZW vs v g2 D e1 hl I hs L y o B) ?_));rintro _ s2 ⟨g,H1,o2,I2,d,Yq,F,rv2⟩;have U2:D ∉ g:=dH d o y;have hm:=B.mut;refine ZP ⟨rfl,?_⟩;refine a s2 Y _ g g2 (ZW++[v]) o2 W I2 ?_ (Yq.WA F hm U2) ((sp.trans d).WA V F hm) (d.mon.trans ⟨λ_ _ h=>h,λ_ _ h=>a9 h (.inr ⟨_,F,hm⟩),λ_ _ h=>ba h (.inr ⟨_,F,hm⟩),λ_ _ _ h=>by rw[aa (cJ h F (by rintro rfl;exact hm))];exact h⟩) upd_same U2 rv2
    exact⟨hs.len,λj z e=>let⟨w,w1,w2⟩:=(hs.step d).val j z e;⟨w,w1,w2.WA F hm⟩⟩
   .cases W
 |cons gn ZV ih=>
  intro ZD k gc t cs hk TF ha L Wy u n Z s it fp tn Z7 Yp i ZW vs Z2 Y H ρ YJ H0 P J g' T O I st S hs XB ri sp V y o B;have Up:gens[k+1]?=some gn:=by
   have:=Sb (λl=>l[0]?) TF;simpa[List.getElem?_drop]using this
  have Sl:gens.drop (k+1+1)=ZV:=by
   rw[<-List.drop_drop,TF];rfl
  cases ZD with
  |nil=>exact False.elim u
  |cons q2 WV=>
   let⟨t2,YF,Yk⟩:=q2;let⟨a2,pg2,Q,pi2,Sk,R⟩:=u;refine lP hc Wz hk ha L Wy T (λb M H' h=>⟨h,(S b M).2⟩) V ?_ n s i ZW vs Y H ρ P O I st (λb M=>(S b M).1) hs XB ri sp y o B ⟨λ_ _ h=>h,λ_ _ h=>h,λ_ _ h=>h,λ_ _ _ h=>h⟩;intro n X3 s ZT Y H ρ g1 ZW vs i N E O I hs L sp y o B a;let⟨j,g3,e1,W⟩:=eC O;let⟨Ys,g4,e3,e4⟩:=eC W;rw[Up];refine ZB (noE Wz (thn (pi2 n X3 s Y H (λZ7 H1=>∃g,ZM X.K ρ H g H1/\RH X.K g H1 g3/\RI X.K g H1 j Z7) I ⟨ZT,ρ,g1,hs,L,by rw[e1];exactλv g H1 s1 h1 r1=>⟨g,s1,h1,r1⟩⟩) λv s1 h1=>ZB (Tp ?_)))
   rw[a2];rw[Xy #[1]]
   refine ZB (wpAny_of_eq (Sk v) (ZB (US ?_)));rw[Xy #[1]]
   refine noE Wz (thn h1 λU7 s2 h2=>?_);let⟨ita,fp2,tn2,J2,H2,e,I2,T2,Xr,f2,g,d,Yq,Wg⟩:=h2;subst e;have F:H2 D=some vs:=d.Yc D _ y o;have U2:D ∉ g:=dH d o y;have loop:=ih WV (k+1) gn t2 Yk Up Sl a2 pg2 Q R n X3 s2 ita fp2 tn2 J2 j 0 ZW vs ZT Y H2 g YJ H0 g3 Ys g4 T2 e3 I2 Xr f2 (hs.step d) Yq Wg (sp.trans d) V F U2 (B.step d);refine ZB (wpAny_runOwn (Rn (iS Up a2 loop (T2.self _ 0 s2 _ _ Xr loop)) λr s3 hr=>?_));let⟨⟨f,rfl⟩,ZX,H',ZU,YE,I3,sp3,hg3,Vy,hD3,hn3,rv3,mo3⟩:=hr;exact ZP ⟨rfl,a s3 ZX H' ZU g4 Ys YE e4 I3 Vy hg3 sp3 (d.mon.trans mo3) hD3 hn3 rv3⟩
end
variable{x:Str}{c f:Addr}{elt:Expr}{zs:Nat->Array Value}{Wf:XK->XQ}
def Kb(cells:List (Str×Addr)):List (Str×NameKind)->List (Str×Addr)->List (Str×Addr)
 |[],ZW=>ZW
 |(x,k)::r,ZW=>if k==.free then(match cells.lookup x with|some c=>Kb cells r ((x,c)::ZW)|none=>Kb cells r ZW)else Kb cells r ZW
def fG{scope:Scope}(h:∀x∈scope.names,x.2=.free ->∃c,env.cells.lookup x.1=some c):closureFor scope env=pure (Kb env.cells scope.names []):=by
 have all:∀(names:List (Str×NameKind)) (ZW:List (Str×Addr)),(∀x∈names,x.2=.free ->∃c,env.cells.lookup x.1=some c) ->
   (forIn names ZW λ(x:Str×NameKind) (cs:List (Str×Addr))=>match x with|(name,kind)=>if(kind==NameKind.free)=true then do let c<-cellOf env name;pure (ForInStep.yield ((name,c)::cs))else pure (ForInStep.yield cs):Sem (List (Str×Addr)))=pure (Kb env.cells names ZW):=λnames=>by
  induction names with
  |nil=>intro ZW _;rfl
  |cons p r ih=>
   intro ZW hp;let⟨x,k⟩:=p;simp![RY,Kb];by_cases hk:k=.free
   .subst hk
    let⟨c,hc⟩:=hp (x,.free) WS rfl;have hco:cellOf env x=pure c:=by unfold cellOf;simp only at hc;rw[hc]
    simp![Ri,Ti,hco,hc];exact ih _ λy hy=>hp y (HS _ hy)
   .have hb:(k==NameKind.free)=false:=by simpa using hk
    simp![hb,WN,U3];exact ih _ λy hy=>hp y (HS _ hy)
 unfold closureFor;show((forIn scope.names [] λ(x:Str×NameKind) (cs:List (Str×Addr))=>match x with|(name,kind)=>if(kind==NameKind.free)=true then do let c<-cellOf env name;pure (ForInStep.yield ((name,c)::cs))else pure (ForInStep.yield cs):Sem (List (Str×Addr))) >>= λs=>pure s)=_
 rw[all scope.names [] h]
 rfl
def bJ{cells:List (Str×Addr)}:∀(names:List (Str×NameKind)) (ZW:List (Str×Addr)),(∀x c,ZW.lookup x=some c->cells.lookup x=some c) ->∀x c,(Kb cells names ZW).lookup x=some c->cells.lookup x=some c
 |[],_,h=>h
 |(y,k)::r,ZW,h=>by
  unfold Kb;split
  .split
   .rename_i c hc
    refine bJ r _ λx d e=>?_;rw[WH]at e;split at e
    .rename_i a
     cases e;rw[eq_of_beq a];exact hc
    .exact h x d e
   .exact bJ r _ h
  .exact bJ r _ h
def d9{cells:List (Str×Addr)}{x:Str}:∀(names:List (Str×NameKind)) (ZW:List (Str×Addr)),(ZW.lookup x).isSome=true->((Kb cells names ZW).lookup x).isSome=true
 |[],_,h=>h
 |(y,k)::r,ZW,h=>by
  unfold Kb;split
  .split
   .refine d9 r _ ?_
    rw[WH];split
    .rfl
    .exact h
   .exact d9 r _ h
  .exact d9 r _ h
def c9{cells:List (Str×Addr)}{x:Str}{c:Addr}(a:cells.lookup x=some c):∀(names:List (Str×NameKind)) (ZW:List (Str×Addr)),(x,NameKind.free)∈names->((Kb cells names ZW).lookup x).isSome=true
 |(y,k)::r,ZW,h=>by
  unfold Kb;rcases Wc.mp h with e|h
  .cases e
   simp![Ri,Ti,a];exact d9 r _ #[3]
  .split
   .split
    .exact c9 a r _ h
    .exact c9 a r _ h
   .exact c9 a r _ h
def cD:∀(names:List (Str×NameKind)) (n:Nat) (ZW:List (Str×Addr)),cellsFrom n names ZW=cellsFrom n names []++ZW
 |[],_,_=>rfl
 |(x,k)::r,n,ZW=>by
  unfold cellsFrom;split
  .rw [cD r (n+1) ((x,n)::ZW),cD r (n+1) [(x,n)],Xz];rfl
  .exact cD r n ZW
def bD{x:Str}{c:Addr}:∀(names:List (Str×NameKind)) (n:Nat),(x,c)∈cellsFrom n names []->(x,NameKind.cell)∈names/\n<=c
 |[],_,h=>nomatch h
 |(y,k)::r,n,h=>by
  unfold cellsFrom at h;split at h
  .rename_i hk
   rw[cD,Rt]at h;rcases h with h|h
   .exact ⟨.tail _ (bD r _ h).1,QU (bD r _ h).2⟩
   .cases List.mem_singleton.mp h;rw[eq_of_beq hk];exact⟨.head _,HR _⟩
  .exact ⟨.tail _ (bD r _ h).1,(bD r _ h).2⟩
def du(h:(cellsFrom n names cl).lookup x=some c):(cellsFrom n names []).lookup x=some c\/((cellsFrom n names []).lookup x=none/\cl.lookup x=some c):=by
 rw[cD,List.lookup_append]at h;cases e:(cellsFrom n names []).lookup x with
 |some d=>rw[e]at h;exact .inl h
 |none=>rw[e]at h;exact .inr ⟨rfl,h⟩
def zb(h:cl.lookup x=some c)(hx:(x,NameKind.cell) ∉ names):(cellsFrom n names cl).lookup x=some c:=by
 rw[cD,List.lookup_append];cases e:(cellsFrom n names []).lookup x with
 |some d=>exact absurd (bD _ _ (Uu e)).1 hx
 |none=>exact h
def gZ(h:(cellsFrom n names (Kb cells names [])).lookup x=some c):cells.lookup x=some c\/n<=c:=by
 rcases du h with z|⟨_,z⟩
 .exact .inr (bD _ _ (Uu z)).2
 .exact .inl (bJ names [] (λx c h=>by cases h) x c z)
def nJ(h:Heap)(names:List (Str×NameKind))(o:Obj):CellsOk (pushCells (h.push o) names) (h.objs.size+1) (cellsFrom (h.objs.size+1) names []):=by
 have:=cellsFrom_ok names (h.push o) (h.objs.size+1) [] ⟨λ_ _ a=>(nomatch a),List.Pairwise.nil⟩ (by rw[Ry];exact HR _)
 rwa[Ry]at this
def tF{E:Value->Shared->Prop}{d:Addr}{qual:Str}{Q:Env->Shared->Prop}
  (h:Q {scope,locals:=s.heap.objs.size,globals:=d,cells:=cellsFrom (s.heap.objs.size+1) scope.names cl,qual:=qual,func:=none,code:=env.code,frame:=env.frame,builtins:=env.builtins} {s with heap:=pushCells (s.heap.push {cls:=.type "dict",data:=.dict #[]}) scope.names}) :
  wpAny Z9 A (newFunctionEnv scope d cl [] qual none .none (some env)) Q E s:=by
 simp![newFunctionEnv,Option.isSome_some,Ti];refine ZB (wpAny_alloc ?_);refine ZB (wpAny_layCells _ (λname a cells=>by cases c:a==NameKind.cell<;>simp[c]) _ _ _ _ ?_)
 rw[show({s with heap:=s.heap.push {cls:=.type "dict",data:=.dict #[]}}:Shared).heap.objs.size=s.heap.objs.size+1 from Ry ..]
 exact ZB (ZP (ZP h))
def Am(X:Cx)(Z:List (Addr×Obj))(scope:Scope)(a:Shared)(d:Hp)(b:List Addr)(c:List Str):Cx:=
 {X with env:=compEnvC scope (cellsFrom (a.heap.objs.size+1) scope.names (Kb X.env.cells scope.names [])) a.heap.objs.size X.env,N:=c,ZH:=a,WL:=d,outer:=X.stack,stack:=X.stack,ex:=b,fn:=λx=>scope.names.lookup x==some .cell,pn:=X.pn++Z,xe:=λ_ _=>False}
section
variable{s3 s4:Shared}{Y:L2.St}{H3:Hp}{own fr:List Str}
structure We(X:Cx)(scope:Scope)(own fr:List Str)(Zo:List Nat):Prop where
 kind:scope.kind=.function
 names:∀x∈scope.names,x.2=.local->scope.names.lookup x.1=some .local
 cells:∀x∈scope.names,x.2=.cell->scope.names.lookup x.1=some .cell
 frees:∀x∈scope.names,x.2=.free->X.env.kindOf x.1=some .cell
 loc:∀x∈own,scope.names.lookup x=some .local\/scope.names.lookup x=some .cell
 nd:(own++fr).Nodup
 frs:∀x∈fr,scope.names.lookup x=some .free
 ix:Zo.length=fr.length /\∀(j:Nat) (x:Str) (i:Nat),fr[j]?=some x->Zo[j]?=some i->X.N[i]?=some x
def fq{a:Type}{x:Str}{k:a}:∀{l:List (Str×a)},l.lookup x=some k->(x,k)∈l
 |[],h=>by cases h
 |(y,z)::r,h=>by
  rw[WH]at h;split at h
  .rename_i b;cases h;rw[eq_of_beq b];exact WS
  .exact HS _ (fq h)
def dw{env:Env}{x:Str}:∀{names:List (Str×NameKind)},(names.map λ(n,k)=>if(k==NameKind.free&&env.scope.kind==.function&&env.kindOf n==some .cell)then(n,NameKind.cell)else(n,k)).lookup x =
  (names.lookup x).map λk=>if(k==NameKind.free&&env.scope.kind==.function&&env.kindOf x==some .cell)then NameKind.cell else k
 |[]=>rfl
 |(n,k)::r=>by
  have ih:=@dw env x r;rw[Xk,WH (as:=r)];show List.lookup x ((if(k==NameKind.free&&env.scope.kind==.function&&env.kindOf n==some .cell)=true then(n,NameKind.cell)else(n,k))::_)=_
  cases hx:x==n with
  |true=>
   obtain rfl:=eq_of_beq hx;by_cases hc:(k==NameKind.free&&env.scope.kind==.function&&env.kindOf x==some .cell)=true
   .rw [XN hc,WH,hx]
    simp![Vv];rw[XN hc]
   .rw [Xy hc,WH,hx]
    simp![Vv];rw[Xy hc]
  |false=>
   by_cases hc:(k==NameKind.free&&env.scope.kind==.function&&env.kindOf n==some .cell)=true
   .rw [XN hc,WH,hx];exact ih
   .rw [Xy hc,WH,hx];exact ih
def wt(u:We X scope own fr Zo)(I:L2.Z4 X Z Y H3 s3)(j:∀b∈fp,AQ X Z H3 b)(w:∀b∈fp,b<s3.heap.objs.size):(Am X Z scope s3 H3 fp (own++fr)).Ok:=by
 have sub:=bJ (cells:=X.env.cells) scope.names [] (λx c h=>by cases h)
 have C:(Am X Z scope s3 H3 fp (own++fr)).env.scope.kind=.function:=u.kind;have low:∀x c,X.env.cells.lookup x=some c->c<s3.heap.objs.size:=λx c h=>let⟨_,_,ho,_⟩:=I.cell x c h;HN ho
 have A:=nJ s3.heap scope.names {cls:=.type "dict",data:=.dict #[]};refine⟨I.ok.mod,C,I.ok.glob,I.ok.blt,HR _,λx y c h1 h2=>?_,λx d=>?_,λx c h1 h2=>?_,I.ok.hd,I.ok.frames,.inl rfl,λb a=>⟨HV (w b a),λx c h=>?_⟩,λb o e=>I.bs b o e,HP I.ok.W2 I.sz,λb o e a=>?_,λb a t=>?_,I.stack,I.TU⟩
 .have YB:∀{z},(cellsFrom (s3.heap.objs.size+1) scope.names []).lookup z=some c->s3.heap.objs.size<c:=λh=>(bD _ _ (Uu h)).2
  rcases du h1 with z|⟨_,z⟩<;>rcases du h2 with f|⟨_,f⟩
  .exact name_of_addr A.apart (Uu z) (Uu f)
  .exact absurd (Pp (YB z) (low _ _ (sub _ _ f))) (T7 _)
  .exact absurd (Pp (YB f) (low _ _ (sub _ _ z))) (T7 _)
  .exact I.ok.inj x y c (sub x c z) (sub y c f)
 .
  have r:(Am X Z scope s3 H3 fp (own++fr)).env.kindOf x=(scope.names.lookup x).map λk=>if(k==NameKind.free&&X.env.scope.kind==.function&&X.env.kindOf x==some .cell)then NameKind.cell else k:=dw
  rw[r]at d;cases g:scope.names.lookup x with
  |none=>rw[g]at d;rcases d with h|h<;>cases h
  |some k=>
   rw[g]at d;have hm:=fq g;refine T3.mp (Rp _ _ _ ?_);cases k with
   |free=>
    let⟨c,hc⟩:=I.ok.has x (.inl (u.frees _ hm rfl));exact .inr (c9 hc scope.names [] hm)
   |cell=>exact .inl g
   |_=>rcases d with h|h<;>simp at h
 .have B:scope.names.lookup x=some .cell:=eq_of_beq h1
  rcases du h2 with z|⟨z,_⟩
  .exact QU (bD _ _ (Uu z)).2
  .have:=Rp scope.names (s3.heap.objs.size+1) [] (.inl B)
   rw[z]at this;cases this
 .rcases gZ h with z|z
  .exact (j b a).2.2.2.2.1 x c z
  .exact Rm (HU (QV (w b a)) z)
 .rcases (j b a).2.2.2.1 with z|z
  .exact I.ok.Y3 b o e z
  .exact absurd (HU (show b<X.base.objs.size from HN e) (HP I.ok.W2 z)) (T7 _)
 .rcases Wc.mp (I.VL b t)with z|z
  .exact (j b a).2.1 z
  .exact (j b a).2.2.1 z
def getD_none{o:Option (Option α)}{v:α}(h:o.getD none=some v):o=some (some v):=by
 cases o with
 |none=>cases h
 |some w=>cases h;rfl
def r6(f:We X scope own fr Zo)(I:L2.Z4 X Z Y H3 s3)(G:∀b∈fp,AQ X Z H3 b)(L:∀b∈fp,b<s3.heap.objs.size){g:Heap}{tk:Nat}{y:Str->Option Value}(J:g.Ns s3.heap.objs.size y)(kept:∀b o,s3.heap.get? b=some o->g.get? b=some o)(K:∀x c,(x,c)∈cellsFrom (s3.heap.objs.size+1) scope.names [] ->∃v,g.IsCell c v):
  L2.Z4 (Am X Z scope s3 H3 fp (own++fr)) [] (List.replicate own.length none++Zo.map λj=>(Y[j]?).getD none) H3 {s3 with heap:=g,toks:=tk}:=by
 have sub:=bJ (cells:=X.env.cells) scope.names [] (λx c h=>by cases h)
 refine⟨wt f I G L,rfl,I.bare,Un.kept kept,⟨y,J,λi x v H a R=>?_⟩,λx c h=>?_,I.ZQ.fresh (HR _),λx c h=>(gZ h).elim (I.Ym x c) λz=>I.ZQ.fresh (QU z),λp E=>?_,I.ZQ.kept kept,?_⟩
 .
  have s:(own++fr)[i]?=some x:=H;by_cases hi:i<own.length
  .rw [Wt (by simpa using hi),Sr,XN hi]at a
   cases a
  .rw [WB (by simpa using hi),Sd,Wd]at a
   rw[WB (by lia)]at s
   cases r:Zo[i-own.length]? with
   |none=>rw[r]at a;cases a
   |some k=>
    rw[r]at a;have N:=getD_none (WY a);have hN:=f.ix.2 _ x k s r;have w:=f.frs x (W5 s);have hm:=fq w;have t:=f.frees _ hm rfl;let⟨m,Q,F⟩:=I.loc;let⟨u,B,lk⟩:=F k x v hN N (.inr (.inl t));refine⟨u,B,?_⟩;rcases lk with⟨hk,_⟩|⟨_,c,hc,P⟩
    .rw [t]at hk;cases hk
    .have O:(Am X Z scope s3 H3 fp (own++fr)).env.kindOf x=some .cell:=by
      have:=@dw X.env x scope.names;show List.lookup x _=_;refine this.trans ?_;rw[w];have hk:=I.ok.kind;simp[hk,t]
     let⟨c',A⟩:=T3.mp (c9 hc scope.names [] hm);have:=sub x c' A;rw[hc]at this;cases this;let⟨o,ho,l⟩:=P;exact .inr ⟨.inl O,c,zb A (λz=>by have:=f.cells _ z rfl;rw[w]at this;cases this),o,kept c o ho,l⟩
 .rcases du h with z|⟨_,z⟩
  .exact K x c (Uu z)
  .obtain ⟨v,o,ho,l⟩:=I.cell x c (sub x c z)
   exact⟨v,o,kept c o ho,l⟩
 .have M:p∈X.pn++Z:=by
   have:p∈(X.pn++Z)++[]:=E;simpa using this
  let⟨e,n,D,C,d⟩:=I.pin p M;refine⟨kept _ _ e,n,HV (HN e),λz=>?_,d⟩;rcases Wc.mp (I.VL p.1 z)with q|q
  .exact D q
  .exact C q
 .show (List.replicate own.length none++Zo.map λj=>(Y[j]?).getD none).length=(own++fr).length
  simp[f.ix.1]
def uF(h:RS K ρ H Z2 Y):RS K ρ H (List.replicate n none++Zo.map λj=>(Z2[j]?).getD none) (List.replicate n none++Zo.map λj=>(Y[j]?).getD none):=by
 refine⟨by simp,λi u e=>?_⟩
 by_cases hi:i<n
 .rw [Wt (by simpa using hi),Sr,XN hi]at e
  cases e
 .rw [WB (by simpa using hi),Sd,Wd]at e
  rw[WB (by simpa using hi),Sd,Wd]
  cases a:Zo[i-n]? with
  |none=>rw[a]at e;cases e
  |some k=>
   rw[a]at e;let⟨v,c,b⟩:=h.val k u (getD_none (WY e));exact⟨v,by simp[c],b⟩
end
section
variable{own fr:List Str}
def fF(hc:X.calm=true)(Z5:We X scope own fr Zo){t:Tg}{c:CK}{n:Nat}(ha:gc.is_async=0)
  (H:∀ Z s3 H3 fp,PG (Am X Z scope s3 H3 fp (own++fr)) gc.target (tG X.K t)/\(∀ n,PTs (Am X Z scope s3 H3 fp (own++fr)) gc.ifs (AH (J7 C n).ts cs))/\Bt (Am X Z scope s3 H3 fp (own++fr)) C ZV ZD /\
   C7 (Am X Z scope s3 H3 fp (own++fr)) C c Zl)
  {Z:List (Addr×Obj)} {a:Shared} {Y:L2.St} {u:Hp} {I:List Addr} {g1:G} {Z2:Su} {it:Addr} {fp:List Addr} {V:Nat->Heap->Prop} {Z7:It} {iI:Iter} {J:List U} {g2:G} {E:Value->Shared->Prop} {P:Value->Addr->Result->Shared->Prop}
  (I2:L2.Z4 X Z Y u a) (T:Turn X.prog X.w X.K gc.target Z7 fp it V) (Xr:V 0 a.heap) (f2:∀b∈fp,AQ X Z u b) (hs:RS X.K I u Z2 Y) (Yq:RH X.K I u g1) (Wg:RI X.K I u iI Z7)
  (Vx:(J7 C n).cm iI 0 t cs ZD Zl [] (List.replicate own.length none++Zo.map λj=>(Z2[j]?).getD none) g1=.ok J g2)
  (fin:∀ (D S:Addr) (s':Shared) (H':Hp) (ZU:List Addr) (W:HO) (m:Str->Option Value) (f:Flow),L2.Z4 X Z Y H' s'->ZM X.K I u ZU H'->RH X.K ZU H' g2->u D=none->H' D=some W->D ∉ ZU->CK.ho X.K ZU H' c J W->s'.heap.Ns S m->S≠X.env.locals->(∀ x c,X.env.cells.lookup x=some c->c≠S) ->
   (∀(R:Shared) (Yl:L2.St) (X_:Hp) (h':Heap),L2.Z4 X Z Yl X_ R->(∀b,H' b=none->b<s'.heap.objs.size->X_ b=none)->Heap.SameBut S R.heap h'->L2.Z4 X Z Yl X_ {R with heap:=h'})->P (.ref D) S (.ok f) s') :
  wpAny (model X.prog X.w) X.A c.new (λZW Vw => wpAny (model X.prog X.w) X.A (newFunctionEnv scope X.env.globals (Kb X.env.cells scope.names []) [] X.env.qual none .none (some X.env)) (λSR N =>
    codeAny (model X.prog X.w) X.A (.compStart (c.exp (gc::ZV) scope pos) 0 (.ref it) ZW {SR with scope:=relabel scope X.env}) (P ZW SR.locals) N) E Vw) E a:=by
 refine CK.Sn (tF ?_);dsimp only;have Q:=nJ (a.heap.push c.obj) scope.names {cls:=.type "dict",data:=.dict #[]};have SQ:=(Heap.Ns.new (a.heap.push c.obj) (.type "dict")).keeps (pushCells_keeps scope.names _);have kept:∀b o,(a.heap.push c.obj).get? b=some o->(pushCells ((a.heap.push c.obj).push {cls:=.type "dict",data:=.dict #[]}) scope.names).get? b=some o:=λb o e=>pushCells_keeps _ _ b o (HM _ e);generalize pushCells ((a.heap.push c.obj).push {cls:=.type "dict",data:=.dict #[]}) scope.names=XT at Q SQ kept ⊢;have L:u a.heap.objs.size=none:=I2.ZQ.fresh (HR _);have F:L2.Z4 X Z Y (upd u a.heap.objs.size c.Wi) {a with heap:=a.heap.push c.obj}:=I2.laid (t':=a.toks) (λb ob q=>HM _ q) (HR _) (c.Sm _ I2.YB)
 have y:∀b∈fp,b<a.heap.objs.size:=λb d=>let⟨o,e,_⟩:=T.obj _ _ Xr b d;HN e
 have B:∀b∈fp,AQ X Z (upd u a.heap.objs.size c.Wi) b:=λb d=>⟨by rw[aa (HV (y b d))];exact(f2 b d).1,(f2 b d).2⟩
 have hsz:(a.heap.push c.obj).objs.size=a.heap.objs.size+1:=Ry _ _;have YX:∀b∈fp,b<(a.heap.push c.obj).objs.size:=λb d=>by rw[hsz];exact QV (y b d)
 have I4:=r6 (tk:=a.toks) Z5 F B YX SQ kept λx c h=>⟨_,(Q.empty x c h).1⟩;let⟨pg,pts,go,Tj⟩:=H Z {a with heap:=a.heap.push c.obj} (upd u a.heap.objs.size c.Wi) fp
 have Sh:∀b o,a.heap.get? b=some o->XT.get? b=some o:=λb o e=>kept b o (HM _ e);have O:V 0 XT:=T.keep _ _ _ Xr λb _ o e=>Sh b o e;have hn:a.heap.objs.size ∉ I:=λhm=>by
  let⟨k,e⟩:=UN.mp hm;let⟨o,ho⟩:=Yq.there e;rw[L]at ho;cases ho
 have sub:=bJ (cells:=X.env.cells) scope.names [] (λx c h=>by cases h)
 have f4:∀b∈fp,AQ (Am X Z scope {a with heap:=a.heap.push c.obj} (upd u a.heap.objs.size c.Wi) fp (own++fr)) [] (upd u a.heap.objs.size c.Wi) b:=λb d=>by
  refine⟨(B b d).1,HV (YX b d),λz=>?_,.inl d,λx c h=>(gZ h).elim ((B b d).2.2.2.2.1 x c) λz=>Rm (HU (QV (YX b d)) z),λp hp=>(B b d).2.2.2.2.2 p ?_⟩
  .rcases Wc.mp (F.VL b z)with q|q
   .exact (B b d).2.1 q
   .exact (B b d).2.2.1 q
  .have:p∈(X.pn++Z)++[]:=hp
   simpa using this
 have loop:=rp (X:=Am X Z scope {a with heap:=a.heap.push c.obj} (upd u a.heap.objs.size c.Wi) fp (own++fr)) (C:=C) hc rfl Tj (c:=c) (gens:=gc::ZV) (scope:=scope) (pos:=pos) (D:=a.heap.objs.size) ZV ZD 0 gc t cs rfl rfl ha pg pts go n [] _ it fp V Z7 iI 0 [] c.Wi _ _ _ I I u g1 J g2 T Vx I4 O f4 (uF (hs.step (ZM.fresh L))) (Yq.step_fresh L) (Wg.step (ZM.fresh L)) (ZM.fresh L) L upd_same hn CK.ho0
 refine Rn (iS (k:=0) (g:=gc) rfl ha loop (T.self _ 0 _ _ _ O loop)) λr s' hr=>?_;let⟨⟨f,rfl⟩,ZX,H',ZU,W,M,sp5,hg5,hs5,hD5,hn5,rv5,_⟩:=hr;have chk:∀b∈fp,(b∈X.ex\/X.ZH.heap.objs.size<=b)/\b≠X.env.locals/\(∀x c,X.env.cells.lookup x=some c->c≠b) /\∀p∈X.pn++Z,p.1≠b:=λb d=>⟨(B b d).2.2.2.1,(B b d).2.1,(B b d).2.2.2.2.1,(B b d).2.2.2.2.2⟩;have I6:L2.Z4 X Z Y H' s':=F.TQ (ch:=fp) M.os M.base M.ZQ M.bare chk;let⟨m',Vu,_⟩:=M.loc;refine fin a.heap.objs.size _ s' H' ZU W m' f I6 sp5 hg5 L hD5 hn5 rv5 Vu (Rm F.lt) (λx c h=>by let⟨v,o,ho,hd⟩:=F.cell x c h;exact HV (HN ho)) λR Yl X_ h' I7 hH XE=>?_
 have hCn:X_ (a.heap.push c.obj).objs.size=none:=hH _ M.free M.lt;refine I7.turned (t':=R.toks) (it:=(a.heap.push c.obj).objs.size) (λb o d e=>(XE.2 b d).trans e) hCn ?_ (.inr ?_) (λx c h=>?_) λp hp=>?_
 .exact Rm F.lt
 .exact F.sz
 .obtain ⟨v,o,ho,hd⟩:=F.cell x c h
  exact HV (HN ho)
 .exact HV (HN (F.pin p hp).1)
def um(y:X.calm=true)(l:We X scope own fr Zo){t:Tg}{n:Nat}(z:gc.is_async=0)
  (u:PI X gc.target gc.iter (tI X.K PTs.Yr (JW (J7 C n) Zy))) (U:∀x,foldedSetIterable gc.iter X.env x=pure x)
  (k:∀ Z s3 H3 fp,PG (Am X Z scope s3 H3 fp (own++fr)) gc.target (tG X.K t)/\(∀ n,PTs (Am X Z scope s3 H3 fp (own++fr)) gc.ifs (AH (J7 C n).ts cs))/\Bt (Am X Z scope s3 H3 fp (own++fr)) C ZV ZD /\
   ∀n,PE (Am X Z scope s3 H3 fp (own++fr)) elt (tE X.K PTs.Yr ((J7 C n).ev Zl))) :
  PE X (.ListComp elt (gc::ZV) scope pos) (tE X.K PTs.Yr (JX C (J7 C n) (.comp own.length Zo ((t,Zy,cs)::ZD) Zl))):=by
 intro Z s Y H Q I ⟨Z2,ρ,g,hs,w,p⟩;rw[eval_ListComp];let⟨tg,iter,ifs,V⟩:=gc;obtain rfl:V=0:=z;refine RW (use:=none) rfl U (fG λx r hk=>I.ok.has x.1 (.inl (l.frees x r hk))) l.kind l.names ?_;refine thn (u Z s Y H _ I ⟨Z2,ρ,g,hs,w,post.bind p⟩) λv s1 h1=>thn h1 λU7 s2 h2=>?_;let⟨it,fp,tn,Z7,H2,e,I2,T,M,B,ZS,q,A,G,L,O,i⟩:=h2;subst e;revert i;cases P:(J7 C n).cm q 0 t cs ZD Zl [] (List.replicate own.length none++Zo.map λj=>(Z2[j]?).getD none) A with
 |ok J g2=>
  intro i;simp![Out.bindB]at i;split at i
  .refine fF (c:=.S elt) y l rfl (λZ s3 H3 fp=>let⟨a,b,c,d⟩:=k Z s3 H3 fp;⟨a,b,c,km d⟩) I2 T M B (hs.step G) L O P λD Cc s' H' ZU YE m f I' U1 o U0 W F ⟨vs,E,Ul⟩ R _ _ Yv=>?_
   subst E;refine⟨m,R,λh' N=>?_⟩;refine⟨.ref D,H',Yv s' Y H' h' I' (λ_ h _=>h) N,rfl,?_⟩;refine i (.ref D) (ZU++[D]) H' (U1.named U0) (o.named W F ⟨_,rfl,Ul⟩) ⟨D,rfl,?_⟩;rw[<-o.len];simp
  .exact False.elim i
 |_=>intro i;exact False.elim i
def uU(k v gens scope pos):eval (.DictComp k v gens scope pos) env=comprehension (.DictComp k v gens scope pos) scope env (firstIterPos gens pos) newDict (firstAsync gens) (firstIter gens env):=rfl
def sI(G:X.calm=true)(z:X.A.units+1<cLine)(l:We X scope own fr Zo){t:Tg}{r o:Expr}{k' q:E}{n:Nat}(L:gc.is_async=0)
  (B:PI X gc.target gc.iter (tI X.K PTs.Yr (JW (J7 C n) Zy))) (Vt:∀x,foldedSetIterable gc.iter X.env x=pure x)
  (k:∀ Z s3 H3 fp,PG (Am X Z scope s3 H3 fp (own++fr)) gc.target (tG X.K t)/\(∀ n,PTs (Am X Z scope s3 H3 fp (own++fr)) gc.ifs (AH (J7 C n).ts cs))/\Bt (Am X Z scope s3 H3 fp (own++fr)) C ZV ZD /\
   (∀n,PE (Am X Z scope s3 H3 fp (own++fr)) r (tE X.K PTs.Yr ((J7 C n).ev k'))) /\∀n,PE (Am X Z scope s3 H3 fp (own++fr)) o (tE X.K PTs.Yr ((J7 C n).ev q))) :
  PE X (.DictComp r o (gc::ZV) scope pos) (tE X.K PTs.Yr (JX C (J7 C n) (.Wr own.length Zo ((t,Zy,cs)::ZD) k' q))):=by
 intro Z s Y H Q I ⟨Z2,ρ,g,hs,F,p⟩;rw[uU];let⟨tg,iter,ifs,Uo⟩:=gc;obtain rfl:Uo=0:=L;refine RW (use:=none) rfl Vt (fG λx y hk=>I.ok.has x.1 (.inl (l.frees x y hk))) l.kind l.names ?_;refine thn (B Z s Y H _ I ⟨Z2,ρ,g,hs,F,post.bind p⟩) λv s1 h1=>thn h1 λU7 s2 h2=>?_;let⟨it,fp,tn,Z7,H2,e,I2,T,W,N,ZS,w,M,U,V,Wg,i⟩:=h2;subst e;revert i;cases Vx:(J7 C n).cm w 0 t cs ZD (.pair k' q) [] (List.replicate own.length none++Zo.map λj=>(Z2[j]?).getD none) M with
 |ok J g2=>
  intro i;simp![Out.bindB]at i;refine fF (c:=.ZN r o) G l rfl (λZ s3 H3 fp=>let⟨a,b,c,d,e⟩:=k Z s3 H3 fp;⟨a,b,c,rL (X:=Am X Z scope s3 H3 fp (own++fr)) z d e⟩) I2 T W N (hs.step U) V Wg Vx ?_;rintro D Cc s' H' ZU YE m f I' U1 u U0 Um S ⟨O,ws,P,R,Ul⟩ Vu _ _ Yv
  subst P;rw[R]at i;refine⟨m,Vu,λh' XE=>?_⟩;refine⟨.ref D,H',Yv s' Y H' h' I' (λ_ h _=>h) XE,rfl,?_⟩;refine i (.ref D) (ZU++[D]) H' (U1.named U0) (u.named Um S ⟨_,rfl,Ul⟩) ⟨D,rfl,?_⟩;rw[<-u.len];simp
 |_=>intro i;exact False.elim i
def bind_assoc{b:Type}(o:Out α)(k:α->G->Out β)(k':β->G->Out b):(o.bind k).bind k'=o.bind λa g=>(k a g).bind k':=by
 cases o<;>rfl
def qt(hc:X.calm=true)(Z5:We X scope own fr Zo){t:Tg}{WU py:Pos}{n:Nat}{y:Str}(ha:gc.is_async=0)
  (hi:PI X gc.target gc.iter (tI X.K PTs.Yr (JW (J7 C n) Zy))) (Vt:∀x,foldedSetIterable gc.iter X.env x=pure x)
  (inner:∀ Z s3 H3 fp,PG (Am X Z scope s3 H3 fp (own++fr)) gc.target (tG X.K t)/\(∀ n,PTs (Am X Z scope s3 H3 fp (own++fr)) gc.ifs (AH (J7 C n).ts cs))/\Bt (Am X Z scope s3 H3 fp (own++fr)) C ZV ZD /\
   ∀n,PE (Am X Z scope s3 H3 fp (own++fr)) elt (tE X.K PTs.Yr ((J7 C n).ev Zl)))
  (hN:X.N.Nodup) (hiy:X.N[i]?=some y) (hy:X.env.scope.names.lookup y=some .local) (Uk:swapsWith (.ListComp elt (gc::ZV) scope pos) (some (.Name y py)) WU.line X.env=pure true) :
  PS X (.Assign [.Name y py] (.ListComp elt (gc::ZV) scope pos) WU) (ZF X.K PTs.Yr (JZ (J7 C (n+1)) (.set (.nm i) (.comp own.length Zo ((t,Zy,cs)::ZD) Zl)))):=by
 intro Z s Y H Dd I ⟨Z2,ρ,g,hs,hg,p⟩;have p':J8 X.K PTs.Yr ((JW (J7 C n) Zy Z2 g).bind λa g=>(((J7 C n).cm a 0 t cs ZD Zl [] (List.replicate own.length none++Zo.map λj=>(Z2[j]?).getD none) g).bindB λJ g=>if J.length<=Ac then PI.alloc (.S J) g else .Z0).bind λu g=>match Ai (.nm i) u Z2 with|some ZX=>Out.ok (.nx ZX) g|none=>.Z0) ρ H Dd:=by
  have e:JZ (J7 C (n+1)) (.set (.nm i) (.comp own.length Zo ((t,Zy,cs)::ZD) Zl)) Z2 g=_:=rfl;rw[<-bind_assoc];exact p
 rw[exec_Assign_Name_used _ _ _ _ Uk];refine ZB (Tp (ZB ?_));let⟨tg,iter,ifs,Uo⟩:=gc;obtain rfl:Uo=0:=ha;show wpAny _ _ (do let _<-comprehension (.ListComp elt (⟨tg,iter,ifs,0⟩::ZV) scope pos) scope X.env _ (newList []) false (eval iter X.env) (some (assign (.Name y py) X.env))) _ _ s
 refine ZB (thn (RW (use:=some (assign (.Name y py) X.env)) (Q:=λ_ s'=>SP X Z Dd .next s') rfl Vt (fG λx hx hk=>I.ok.has x.1 (.inl (Z5.frees x hx hk))) Z5.kind Z5.names ?_) λ_ s' hq=>ZP (ZP hq));refine thn (hi Z s Y H _ I ⟨Z2,ρ,g,hs,hg,J8.bind p'⟩) λv s1 h1=>thn h1 λU7 s2 h2=>?_;let⟨it,fp,tn,Z7,H2,e,I2,T,Xr,f2,ZS,iI,g1,Zj,Yq,Wg,p1⟩:=h2;subst e;revert p1;cases Vx:(J7 C n).cm iI 0 t cs ZD Zl [] (List.replicate own.length none++Zo.map λj=>(Z2[j]?).getD none) g1 with
 |ok J g2=>
  intro p1;simp![Out.bindB]at p1;split at p1
  .refine fF (c:=.S elt) hc Z5 rfl (λZ s3 H3 fp=>let⟨a,b,c,d⟩:=inner Z s3 H3 fp;⟨a,b,c,km d⟩) I2 T Xr f2 (hs.step Zj) Yq Wg Vx λD Cc s' H' ZU YE m f I' U1 V2 U0 Um Zv ⟨vs,eo,Ul⟩ Vu nl nc Yv=>?_
   subst eo;show wpAny _ _ (assign (.Name y py) X.env (.ref D)) _ _ s';refine wpAny_assign_Name (jF (v:=.ref D) I' hN hiy (.inl hy) rfl (λs3 I3 ⟨a,XE,ha⟩=>?_) (.inr hy));have Zg:Cc≠a:=by
    rcases ha with rfl|ha
    .exact nl
    .exact Ne.symm (nc y a ha)
   refine⟨m,Vu.sameBut XE Zg,λh' Vy=>⟨_,H',Yv s3 _ H' h' I3 (λ_ h _=>h) Vy,?_⟩⟩;simp![PI.alloc,Out.bind,JV,Ai]at p1;by_cases hl:i<Z2.length
   .simp only [hl,Ti]at p1
    refine p1 _ (ZU++[D]) H' (U1.named U0) (V2.named Um Zv ⟨_,rfl,Ul⟩) ((hs.step (Zj.trans (U1.named U0))).set (u:=.ref g2.length) (v:=.ref D) ?_);refine⟨D,rfl,?_⟩;rw[<-V2.len];simp
   .simp only [hl,U3]at p1
    exact False.elim p1
  .exact False.elim p1
 |_=>intro p1;exact False.elim p1
end
section
inductive UZ(X:Cx)(W:XQ)(r:Z8):List (Option Expr)->List Expr->List Str->List E->Prop
 |nil:UZ X W r [] [] [] []
 |cons {k a b ks e es kk e' ZL}:PE X e (tE X.K W (r.ev e'))->UZ X W r ks es kk ZL->UZ X W r (some (.Constant (.str k) a b)::ks) (e::es) (k::kk) (e'::ZL)
def Kc(K:HY)(W:XQ)(r:Z8):List Str->List E->List (TE×TE)
 |k::a,e'::ZL=>(IV (.str k),tE K W (r.ev e'))::Kc K W r a ZL
 |_,_=>[]
def vd(h:UZ X W r keys es ks ZL):PPs X pos keys es (Kc X.K W r ks ZL)/\keys.all (·.isSome)=true/\keys.length=es.length/\ks.length=keys.length/\ZL.length=ks.length:=by
 induction h with
 |nil=>exact⟨vC,rfl,rfl,rfl,rfl⟩
 |cons h1 _ ih=>
  let⟨a,b,c,d,f⟩:=ih;exact⟨sf hU h1 a,by simpa using b,by simp[c],by simp[d],by simp[f]⟩
def jo{K:HY}{Y:L2.St}{c:Su}:∀(ks:List Str) (ZL:List E) (ρ:List Addr) (H:Hp) (g:G) (P:List V->Hp->Prop) (Q:List (V×V)->Hp->Prop),ZL.length=ks.length->RS K ρ H c Y->RH K ρ H g->post K W (RVs K) (JT r.ev ZL c g) ρ H P ->
  (∀vs H2,vs.length=ks.length->P vs H2->Q ((ks.zip vs).map λp=>(V.str p.1,p.2)) H2)->C9 (Kc K W r ks ZL) Y H Q
 |[],[],ρ,H,g,P,Q,_,hs,b,p,q=>q [] H rfl (p.Zh b rfl)
 |k::ks,e'::ZL,ρ,H,g,P,Q,a,hs,b,p,q=>by
  refine⟨c,ρ,g,hs,b,(post.bind p).mono λy H2 ⟨i,u,g1,s1,h1,d,e⟩=>?_⟩;refine jo ks ZL i H2 g1 (λvs H3=>P (y::vs) H3) _ (by simpa using a) (hs.step s1) h1 ((post.bind (R:=RVs K) e).mono λvs H3 ⟨j,J,g2,s2,h2,rs,p2⟩=>p2.Zh h2 ⟨y,vs,rfl,RV.step s2 _ _ d,rs⟩) λvs H3 f h=>?_
  exact q (y::vs) H3 (by simp[f]) h
 |[],_::_,_,_,_,_,_,a,_,_,_,_=>by simp at a
 |_::_,[],_,_,_,_,_,a,_,_,_,_=>by simp at a
def tf{O:List (Key×V)}{k:Key}(h:k ∉ O.map (·.1)):AR O k=none:=by
 unfold AR;rw[R_,List.find?_eq_none];intro p a z;exact h (VR.mpr ⟨p,a,HX z⟩)
def j7:∀(a ZW:List (Key×V)),((ZW++a).map (·.1)).Nodup->BK ZW a=ZW++a
 |[],ZW,_=>by simp[BK]
 |p::r,ZW,h=>by
  have b:p.1 ∉ ZW.map (·.1):=λz=>by
   rw[SF,Xk,QW]at h;exact h.2.2 _ z _ WS rfl
  show BK (putK ZW p.1 p.2) r=_;rw[sT _ (tf b),j7 r _ (by simpa using h)]
  simp
def mi{K:HY}{ρ:List Addr}{H:Hp}:∀(ks:List Str) {J:List U} {vs:List V},RVs K ρ H J vs->RK K ρ H (ks.zip J) ((ks.zip vs).map λp=>(Sum.inr p.1,p.2))
 |[],_,_,_=>by simp[RK]
 |k::ks,[],_,h=>by cases h;simp[RK]
 |k::ks,u::J,_,h=>by
  let⟨v,r,rfl,h1,h2⟩:=h;exact⟨v,_,rfl,h1,mi ks h2⟩
def uv(h:UZ X W r keys es ks ZL)(y:keys≠[])(l:keys.length<=15)(E:ks.Nodup):PE X (.Dict keys es pos) (tE X.K W (JX C r (.VN ks ZL))):=by
 let⟨u,D,x,w,A⟩:=vd (pos:=pos) h;refine(vQ u D x y l).imp ?_;rintro Y H Q ⟨Z2,ρ,g,hs,m,p⟩;intro q j;have d:ZM X.K ρ H ρ (upd H q (.dK [])):=ZM.fresh j;have i:q ∉ ρ:=λz=>by
  let⟨n,e⟩:=UN.mp z;let⟨o,ho⟩:=m.there e;rw[j]at ho;cases ho
 refine jo ks ZL ρ _ g (λvs H2=>H2 q=some (.dK [])/\Q (.ref q) (upd H2 q (.dK ((ks.zip vs).map λp=>(Sum.inr p.1,p.2))))) _ A (hs.step d) (m.step_fresh j) ?_ λvs H2 F ⟨B,t⟩=>⟨B,(ks.zip vs).map (λp=>(Sum.inr p.1,p.2)),?_,?_,?_⟩
 .have f:post X.K W (RV X.K) ((JT r.ev ZL Z2 g).bind λJ g=>PI.alloc (.dst (ks.zip J)) g) ρ H Q:=p
  revert f;cases JT r.ev ZL Z2 g with
  |Z0=>exactλf=>f
  |exc c fs g1=>exactλf vs ZU H' s' h' rs=>f vs ZU H' (d.trans s') h' rs
  |ok J g1=>
   intro f vs ZU H' s' h' rs;have k:H' q=some (.dK []):=s'.Yc q _ upd_same i;have s:q ∉ ZU:=dH s' i upd_same;refine⟨k,f (.ref q) (ZU++[q]) _ (((d.trans s').WA j k trivial).named j) ((h'.WA k trivial s).named upd_same s ⟨_,rfl,mi ks (rs.WA k trivial)⟩) ⟨q,rfl,?_⟩⟩;rw[<-h'.len];simp
 .rw [T9];rfl
 .rw [YK,List.length_zip];lia
 .rw [j7 _ [] ?_,Qt]
  .exact t
  .rw [Qt,T9]
   have e:(ks.zip vs).map ((λv:Key×V=>v.1) ∘ λp=>(Sum.inr p.1,p.2))=ks.map Sum.inr:=by
    have z:(ks.zip vs).map Prod.fst=ks:=by rw[List.map_fst_zip];lia
    conv=>rhs;rw[<-z]
    rw[T9];rfl
   rw[e];exact List.Pairwise.map _ (λa b h z=>h (QQ z)) E
end
abbrev W0:XQ:=PTs.Yr
inductive FrI(X:Cx)(W:XQ)(it:Iter)(Z7:It)(D:Ends)(f:Su->G->Out Fl)(Y:L2.St)(H:Hp):Prop
 |mk (Z2:Su) (ρ:List Addr) (g:G) (hs:RS X.K ρ H Z2 Y) (hg:RH X.K ρ H g) (ri:RI X.K ρ H it Z7) (p:J8 X.K W (f Z2 g) ρ H D)
section
variable{a b c:Expr}{b' c':E}{t:Tg}
def xV{bs:List Stmt}{n:Nat}(hp:PassesOwn (model X.prog X.w) X.A X.env X.xe)(G:X.calm=true)(F:PI X tg iter (tI X.K W (JW (J7 C n) Zy)))(c:PG X tg (tG X.K t))(J:∀n,PSs X bs (ZF X.K W ((J7 C n).ex YZ)))
  (b:∀x,foldedSetIterable iter X.env x=pure x):PS X (.For tg iter bs [] pos) (ZF X.K W (JZ (J7 C n) (.for t Zy YZ))):=by
 have S:PSs X bs (λD Y H=>∃m,ZF X.K W ((J7 C m).ex YZ) D Y H):=λZ s Y H D I ⟨m,h⟩=>J m Z s Y H D I h;refine(mX hp G F c S b).imp ?_;rintro D Y H ⟨Z2,ρ,g,b,c,p⟩;refine⟨Z2,ρ,g,b,c,(J8.bind (R:=RI X.K) p).mono λZ7 H1 ⟨O,it,g1,s1,h1,d,E⟩=>?_⟩;refine⟨λi m Y H=>FrI X W it Z7 D ((J7 C m).fr t it i YZ) Y H,⟨n,Z2,O,g1,b.step s1,h1,d,E⟩,?_⟩;rintro i m Y H ⟨Z2,ρ,g,b,c,d,p⟩;cases m with
 |zero=>exact p.elim
 |succ m=>
  have a:J8 X.K W (J3 (J7 C m) t it i YZ Z2 g) ρ H D:=p;simp![J3]at a;cases e:next it i g with
  |none=>rw[e]at a;exact a.elim
  |some o=>
   cases o with
   |none=>rw[e]at a;exact .inl ⟨gJ c d e,a _ ρ H .refl c b⟩
   |some u=>
    rw[e]at a;dsimp only at a;let⟨M,v⟩:=iz c d e;refine .inr ⟨M,λZX H'=>FrI X W it Z7 D ((J7 C m).fr t it (i+1) YZ) ZX H',λZX H' q=>⟨m,SH _,q⟩,λx H' y=>?_⟩;let⟨j,r,z⟩:=v x H' y;cases f:Ai t u Z2 with
    |none=>rw[f]at a;exact a.elim
    |some l=>
     rw[f]at a;dsimp only at a;refine⟨Z2,ρ,g,u,l,b.step j,r,z,gf f,λU P=>⟨m,l,ρ,g,P,r,?_⟩⟩;exact iE (k:=λZX g=>(J7 C m).fr t it (i+1) YZ ZX g) (J8.from a j) λQ N Y ZU H' s3 L T B=>⟨Q,ZU,N,T,L,(d.step j).step s3,B⟩
inductive UY(K:HY)(Wf:XK->XQ)(M:List Fn)(d i np:Nat)(vs:List V)(H:Hp)(Q:VK)(E:XK):Prop
 |mk (fu:Nat) (ρ:List Addr) (g:G) (J:List U) (hg:RH K ρ H g) (r:RVs K ρ H J vs) (l:J.length=np) (p:post K (Wf E) (RV K) (Aa M fu d i J g) ρ H Q)
abbrev V1(K:HY)(M:List Fn)(d i np:Nat):Sp:=UY K (λ_=>W0) M d i np
def jN{M:List Fn}{np:Nat}{Q:VK}(a:∀F,M[i]?=some F->F.np=np)(p:post K W (RV K) (Aa M fu d i J g) ρ H Q):J.length=np:=by
 cases d with
 |zero=>exact p.elim
 |succ d=>
  simp![Aa]at p;cases e:M[i]? with
  |none=>rw[e]at p;exact p.elim
  |some F=>
   simp![e,BA]at p;split at p
   .rename_i h;rw[h,a F e]
   .exact p.elim
def lX{M:List Fn}{k:Nat}{E0:XK}(F:Y2 X.prog X.w X.K X.mg X.base CX k f fd ps (UY X.K Wf M d i ps.length))(hx:AM CX X E0)(t:∀F,M[i]?=some F->F.np=ps.length)
  (e:Ze k X.A) (b:Gl X x) (h:X.mg x=some (.ref f)) (j:PySem.W.keepIn X.K (.ref f)=true) (l:Binds X.K fd ps []) (q:(x==("__debug__" : Str))=false) (m:PA X (a::es) (XW X.K W0 (JT r.ev ZL)))
  (o:starEach (a::es) X.env=(false,eval a X.env)::starEach es X.env) (s:(backTo pos (starEach es X.env)).any (·.1)=false) :
  PE X (.Call (.Name x p) (a::es) [] pos) (tE X.K (Wf E0) (JX (Aa M fu d) r (.call i ZL))):=by
 refine(we F e b h j l .nil hx m q o s).imp ?_;rintro Y H Q ⟨Z2,ρ,g,hs,b,p⟩;refine⟨Z2,ρ,g,hs,b,(bV (R:=RVs X.K) p).mono λvs H1 ⟨n,J,g1,s1,h1,rs,c⟩=>?_⟩;exact⟨fu,n,g1,J,h1,by rw[Tc];exact rs,jN t c,c⟩
def rW{M:List Fn}{k:Nat}{E0:XK}(F:Y2 X.prog X.w X.K X.mg X.base CX k f fd ps (UY X.K Wf M d i ps.length))(hx:AM CX X E0)(m:∀F,M[i]?=some F->F.np=ps.length)
  (c:Ze k X.A) (a:Gl X x) (e:X.mg x=some (.ref f)) (h:PySem.W.keepIn X.K (.ref f)=true) (j:Binds X.K fd ps []) (l:(x==("__debug__" : Str))=false) :
  PE X (.Call (.Name x p) [] [] pos) (tE X.K (Wf E0) (JX (Aa M fu d) r (.call i []))):=by
 refine(tJ F c a e h j .nil hx l).imp ?_;rintro Y H Q ⟨Z2,ρ,g,hs,a,p⟩;have b:post X.K (Wf E0) (RV X.K) (Aa M fu d i [] g) ρ H Q:=p;exact⟨fu,ρ,g,[],a,rfl,jN m b,b⟩
end
structure Th(K:HY)(C:Addr):Prop where
 ne:PySem.W.findIn K (.ref C) "__ne__" = some (some (.builtin "object.__ne__"))
 ob:PySem.W.mroIn K C (.type "object")=some true
 ci:(PySem.W.clsIn K C).isSome=true
 ty:PySem.W.typeIn K (.ref C)=some (.type "type")
 ca:PySem.W.findIn K (.ref C) "__class__" = some (some (.builtin "object.__class__"))
 sg:PySem.W.specialIn K (.builtin "object.__class__") "__get__" = some (some (.builtin "getset_descriptor.__get__"))
 tk:PySem.W.takesIn K (.builtin "object.__class__")=some true
variable{c l kt:Nat}{a:Expr}{f:Expr->Option E}{g:List Value->List Value->List Value}{m:Str}{Q:VK}{q:List Nat×List (Tg×E×List E)}{cs:List Nat}{ap cp:Pos}{P:Prop}{Zd:Z5}
def ixOf_get(h:AU N x=some i):N[i]?=some x:=by
 let⟨h1,h2,_⟩:=R5.mp h;rw[Vj h1];exact Sb some (eq_of_beq h2)
def aJ(h:H8 e=some x):∃p,e = .Name x p:=by
 cases e with
 |Name y p=>cases h;exact⟨p,rfl⟩
 |_=>cases h
def fP{c:Str×List Expr}(h:B5 e=some c):∃p q,e = .Call (.Name c.1 p) c.2 [] q:=by
 cases e with
 |Call f es kws q=>
  cases kws with
  |nil=>
   let⟨n,a,rfl⟩:=YU.mp h;let⟨p,rfl⟩:=aJ a;exact⟨p,q,rfl⟩
  |cons _ _=>cases h
 |_=>cases h
open PySem PySem.Spec PyProof.Rows L2 PySem.W
def star_ne(h:isStar a=false)(b:List Expr):starEach (a::b) env=(false,eval a env)::starEach b env:=by
 cases a<;>first|rfl|cases h
def br{env:Env}{pos:Pos}:∀{es:List Expr},es.any isStar=false->(backTo pos (starEach es env)).any (·.1)=false
 |[],_=>rfl
 |a::es,h=>by
  rw[Va,VF]at h;rw[star_ne h.1];show(false||(backTo pos (starEach es env)).any (·.1))=false;rw[br h.2]
  rfl
section
def eM{env:Env}:∀{kws:List Keyword},kwOk kws=true->(backToKw pos (keywordEach kws env)).all (·.1.isSome)=true/\(backToKw pos (keywordEach kws env)).filterMap (·.1)=AJ kws/\(backToKw pos (keywordEach kws env)).any (·.1.isNone)=false
 |[],_=>⟨rfl,rfl,rfl⟩
 |⟨nm,e,kp⟩::kws,h=>by
  unfold kwOk at h;rw[RU,ZC]at h;let⟨a,b,c⟩:=eM (env:=env) (kws:=kws) h.2;cases nm with
  |none=>cases h.1
  |some n=>
   refine⟨?_,?_,?_⟩
   .show (true&&_)=true
    rw[Qm];exact a
   .show n::_=n::_
    exact Sb (n :: ·) b
   .show (false||_)=false
    rw[Bool.false_or];exact c
def gW:∀{kws:List Keyword},kwOk kws=true->(AJ kws).length=kws.length
 |[],_=>rfl
 |⟨nm,e,kp⟩::kws,h=>by
  unfold kwOk at h;rw[RU,ZC]at h;cases nm with
  |none=>cases h.1
  |some n=>
   show(AJ kws).length+1=kws.length+1;rw[gW h.2]
def _root_.L2.PK.imp{t t':TA}(h:PK X kws t)(q:∀Y H Q,t' Y H Q->t Y H Q):PK X kws t':=λp Z s Y H Q I a=>h p Z s Y H Q I (q Y H Q a)
def _root_.L2.PK.Zx{kws:List Keyword}{t:TA}(h:PK X.Zx kws t):PK X kws t:=λp Z s Y H Q I a=>
 V6 (h p Z s Y H Q (I.Ye _) a) (λ_ _ ⟨v,H',b,r,q⟩=>⟨v,H',b.X2,r,q⟩) λ_ _ z=>False.elim z
end
section
variable{k:Nat}{f C:Addr}{sp:Sp}{E:XK}{t tk:TA}
def jr{Y:L2.St}{J ws:List Value}{c:List V}(Z9:Mk X.K C f)(F:Y2 X.prog X.w X.K X.mg X.base CX k f fd ps sp)(n:Ze (k+1) X.A)(i:Ux X.K fd ps ks g gV)
  (hx:AM CX X E) (I:Z4 X Z Y H s) (r:ZK vs J) (j:ZK c ws)
  (h:∀x dx,H x=none->H dx=none->dx≠x->sp (gV (.ref x::vs) c) (upd (upd H dx (.own x)) x (.ins C dx [])) (λv H2=>v=.ZR/\Q (.ref x) H2) E) :
  wpAny (model X.prog X.w) X.A (call (.ref C) J (ks.zip ws)) (EP X Z Y Q) X.xe s:=by
 have d:=h (s.heap.objs.size+1) s.heap.objs.size (I.ZQ.fresh (UL _)) (I.ZQ.fresh (HR _)) (HV (SH _));have b:=Z4.made (C:=C) I;have r2:ZK (gV (.ref (s.heap.objs.size+1)::vs) c) (g (.ref (s.heap.objs.size+1)::J) ws):=i.rel (.cons rfl r) j;have o:(g (.ref (s.heap.objs.size+1)::J) ws).length=ps.length:=by rw[<-r2.length];exact F.len _ _ _ _ d
 refine Qf (sx (f:=f) I.Zf Z9.makes Z9.init (WQ.mp Z9.fn) (Rn (F.run _ X.stack _ _ ⟨.ref (s.heap.objs.size+1)::J,ks.zip ws⟩ _ _ _ E (n.make C J (ks.zip ws)) (b.TM.make C J (ks.zip ws)) (i.to _ _ ws b.Zf o) r2 d) λr s' a=>?_));cases r with
 |error e=>exact hx Z Y _ _ e s' b a
 |ok fl=>
  cases fl with
  |ret u=>
   let⟨v,H',q,l,p,m⟩:=b.after a;subst p;exact⟨l,⟨.ref (s.heap.objs.size+1),H',q,rfl,m⟩⟩
  |_=>exact False.elim a
def He(C:Addr)(sp:Sp)(a:List V->List V->List V)(E:XK)(t tk:TA):TE:=λY H Q=>t Y H λvs H1=>tk Y H1 λzs H2=>∀x dx,H2 x=none->H2 dx=none->dx≠x ->
 sp (a (.ref x::vs) zs) (upd (upd H2 dx (.own x)) x (.ins C dx [])) (λv H3=>v=.ZR/\Q (.ref x) H3) E
def qJ(Z9:Mk X.K C f)(F:Y2 X.prog X.w X.K X.mg X.base CX k f fd ps sp)(d:Ze (k+1) X.A)(y:Gl X x)(v:X.mg x=some (.ref C))(i:Ux X.K fd ps ks g gV)(hx:AM CX X E)
  (z:PA X es t) (D:es=[] ->∀Y H Q,t Y H Q->Q [] H) (m:PK X kws tk) (n:(backToKw pos (keywordEach kws X.env)).all (·.1.isSome)=true) (j:(backToKw pos (keywordEach kws X.env)).filterMap (·.1)=ks)
  (B:(x==("__debug__" : Str))=false) (b:es.any isStar=false) (l:(backToKw pos (keywordEach kws X.env)).any (·.1.isNone)=false) :
  PE X (.Call (.Name x p) es kws pos) (He C sp gV E t tk):=by
 intro Z s Y H Q I h;refine Ro (bA I y v ?_ B);cases es with
 |cons e es=>
  rw[Va,VF]at b;refine PySem.W.callWith_KW (h₀:=X.base) I.ok.mod.kin Z9.kp n (thn (z pos Z s Y H _ I h) λJ u ⟨vs,H1,G,r,q⟩=>?_) ?_ (star_ne b.1 _)
  .refine thn (m pos Z u Y H1 _ G q) λws o ⟨zs,H2,a,rz,c⟩=>⟨a.Zf,?_⟩
   rw[j];exact jr Z9 F d i hx a r rz c
  .rw [star_ne b.1]
   show((false||(backTo pos (starEach es X.env)).any (·.1))||_)=false;rw[br b.2,l]
   rfl
 |nil=>
  have q:=D rfl Y H _ h;refine PySem.W.callWith_KW0 (h₀:=X.base) I.ok.mod.kin Z9.kp n ?_ (by show(false||_)=false;rw[l];rfl)
  refine thn (m pos Z s Y H _ I q) λws o ⟨zs,H2,a,rz,c⟩=>⟨a.Zf,?_⟩;rw[j];exact jr Z9 F d i hx a .nil rz c
def Hh(X:Cx)(CX:X0)(k:Nat)(m:Str)(c:List Str)(E:XK)(b:TE)(t tk:TA):TE:=λY H Q=>b Y H λx H1=>∃(a C dx:Addr) (fs:List (Str×V)) (f:Addr) (fd:FuncData) (ps:List Str) (sp:Sp) (g:List Value->List Value->List Value) (gV:List V->List V->List V),
 x=.ref a/\H1 a=some (.ins C dx fs)/\fs.lookup m=none/\Yu X.K C/\VH X.K C m f/\Y2 X.prog X.w X.K X.mg X.base CX k f fd ps sp/\Ux X.K fd ps c g gV/\t Y H1 λvs H2=>tk Y H2 λzs H3=>sp (gV (x::vs) zs) H3 Q E
def qY(he:PE X o ta)(hr:Ze k X.A)(hx:AM CX X E)(ha:PA X es t)(Vs:es=[] ->∀Y H Q,t Y H Q->Q [] H)(Y1:PK X kws tk)(XY:(backToKw pos (keywordEach kws X.env)).all (·.1.isSome)=true)(Yx:(backToKw pos (keywordEach kws X.env)).filterMap (·.1)=ks)
  (ZJ:es.any isStar=false) (YG:(backToKw pos (keywordEach kws X.env)).any (·.1.isNone)=false)
  (ht:eval (.Call (.Attribute o m apos) es kws pos) X.env=(do
   let ov<-eval o X.env
   standAt apos.atName
   let(f,first)<-holding [ov] (getMethod ov m pl)
   callWith pos f first (backTo pos (starEach es X.env)) (backToKw pos (keywordEach kws X.env)))) :
  PE X (.Call (.Attribute o m apos) es kws pos) (Hh X CX k m ks E ta t tk):=by
 intro Z s Y H Q I h;refine PySem.W.methodCall_KW (pl:=pl) (thn (he Z s Y H _ I h) λu s1 hz=>?_) ht;let⟨x,H1,I1,rx,a,C,dx,fs,f,fd,ps,sp,g,gV,ex,ea,l,c,hm,F,hb,q⟩:=hz;subst ex;obtain rfl:u=Value.ref a:=rx;refine ql I1 ea c hm l ?_;cases es with
 |cons e es=>
  rw[Va,VF]at ZJ;refine PySem.W.callWith_KW (first:=[.ref a]) (h₀:=X.base) I.ok.mod.kin hm.kp XY (thn (ha pos Z s1 Y H1 _ I1 q) λJ s2 ⟨vs,H2,I2,r,q2⟩=>?_) ?_ (star_ne ZJ.1 _)
  .refine thn (Y1 pos Z s2 Y H2 _ I2 q2) λws s3 ⟨zs,H3,I3,rz,q3⟩=>⟨I3.Zf,?_⟩
   rw[Yx];exact lH (J:=.ref a::J) (vs:=.ref a::vs) F hr hb hx I3 (.cons rfl r) rz q3
  .rw [star_ne ZJ.1]
   show((false||(backTo pos (starEach es X.env)).any (·.1))||_)=false;rw[br ZJ.2,YG]
   rfl
 |nil=>
  have q:=Vs rfl Y H1 _ q;refine PySem.W.callWith_KW0 (first:=[.ref a]) (h₀:=X.base) I.ok.mod.kin hm.kp XY ?_ (by show(false||_)=false;rw[YG];rfl)
  refine thn (Y1 pos Z s1 Y H1 _ I1 q) λws s3 ⟨zs,H3,I3,rz,q3⟩=>⟨I3.Zf,?_⟩;rw[Yx];exact lH (J:=[.ref a]) (vs:=[.ref a]) F hr hb hx I3 (.cons rfl .nil) rz q3
end
section
variable{M:List Fn}{k nd:Nat}{f:Addr}{F:KF}{YA:List E}
def nv{K:Frag}(a:XU K fd F nd ZE dd)(ρ:List Addr)(H:Hp):F2 (PR (RV K ρ H)) F.dd ZE:=by
 have:=a.urel;revert this;generalize F.dd=l1;generalize ZE=b;intro this
 induction this with
 |nil=>exact .nil
 |cons r _ ih=>exact .cons ⟨r.1,r.2 _ _⟩ ih
def n0{g:G}{np:Nat}{K:Frag}(c:∀a,M[i]?=some a->a.np=np)(p:post K W (RV K) (Aa M fu d i J g) ρ H Q):J.length=np:=by
 cases d with
 |zero=>exact p.elim
 |succ d=>
  simp![Aa]at p;cases e:M[i]? with
  |none=>rw[e]at p;exact p.elim
  |some a=>
   rw[e]at p;simp![BA]at p;split at p
   .rename_i b;rw[b];exact c a e
   .exact p.elim
def jR{x:U}{g:G}{q:Nat×List (Nat×U)}(e:A4 x g=some q):∃n,x=.ref n/\g[n]?=some (.ins q.1 q.2):=by
 unfold A4 at e;split at e
 .split at e
  .rename_i h;cases e;exact⟨_,rfl,h⟩
  .cases e
 .cases e
def lu{C:Addr}(Z9:Mk X.K C f)(W:nsIn X.K mainGlobals (Au c)=some (some (.ref C))){E0:XK}(Z6:Y2 X.prog X.w X.K X.mg X.base CX k f fd (F.ns++F.ks) (UY X.K Wf M d i (F.ns++F.ks).length))(hx:AM CX X E0)(WT:∀G,M[i]?=some G->G.np=(F.ns++F.ks).length)(E:XU X.K fd F nd ZE dd)(Zg:F.ns++F.ks≠[])
  (Xo:BW F nd (ZL.length+1) (AJ kws)=true) (z:kwOk kws=true) (W_:ZL.length=es.length) (UX:YA.length=kws.length) (S:Ze (k+1) X.A) (b:Gl X x) (T:X.mg x=some (.ref C)) (YR:(x==("__debug__" : Str))=false)
  (o:PA X es (XW X.K W0 (JT r.ev ZL))) (n:PK X kws (XW X.K W0 (JT r.ev YA))) (ZJ:es.any isStar=false) :
  PE X (.Call (.Name x p) es kws pos) (tE X.K (Wf E0) (JX (Aa M fu d) r (.make c i ZL YA (BN F (ZL.length+1) (AJ kws))))):=by
 let⟨k1,k2,k3⟩:=eM (pos:=pos) (env:=X.env) z;refine(qJ Z9 Z6 S b T (E.binds Xo Zg) hx o (λe Y H Q ⟨Z2,ρ,g,hs,b,p⟩=>by subst e;cases ZL with|nil=>exact post.Zh (R:=RVs X.K) (u:=[]) p b rfl|cons=>cases W_) n k1 k2 YR ZJ k3).imp ?_;rintro Y H Q ⟨Z2,ρ,g,hs,b,p⟩
 refine⟨Z2,ρ,g,hs,b,(bV (R:=RVs X.K) p).mono λvs H1 ⟨ZS,J,g1,s1,h1,rs,N⟩=>?_⟩;refine⟨Z2,ZS,g1,hs.step s1,h1,(bV (R:=RVs X.K) N).mono λzs H2 ⟨j,ws,g2,s2,h2,rz,p2⟩=>?_⟩;intro a dx o y To;split at p2
 .rename_i hc
  let⟨t,c2⟩:=hc;have B:ws.length=(AJ kws).length:=by rw[c2,UX,gW z]
  have h:(upd H2 dx (.own a)) a=none:=by rw[aa (Ne.symm To)];exact o
  have st:ZM X.K j H2 (j++[a]) (upd (upd H2 dx (.own a)) a (.ins C dx [])):=(ZM.fresh y).trans (ZM.alloc h);have I:RH X.K (j++[a]) (upd (upd H2 dx (.own a)) a (.ins C dx [])) (g2++[.ins c []]):=(h2.step_fresh y).TJ h ⟨C,dx,[],rfl,W,rfl⟩;have D:=RVs.step st _ _ (RVs.step s2 _ _ rs);have l:=RVs.step st _ _ rz;have q:RV X.K (j++[a]) (upd (upd H2 dx (.own a)) a (.ins C dx [])) (.ref g2.length) (.ref a):=⟨a,rfl,by rw[<-h2.len];simp⟩
  have O:(V.ref a::vs).length=ZL.length+1/\zs.length=(AJ kws).length:=⟨by rw[X8,<-D.length,t],by rw[<-rz.length];exact B⟩
  have Z:(U.ref g2.length::J).length=ZL.length+1:=by rw[X8,t]
  rw[show(U.ref g2.length::J++ws)=(U.ref g2.length::J)++ws from rfl,jb (J:=U.ref g2.length::J) Z B]at p2;have s:post X.K (Wf E0) (RV X.K) (Aa M fu d i (place F.ns F.ks (AJ kws) F.dd (U.ref g2.length::J) ws) (g2++[.ins c []])) (j++[a]) (upd (upd H2 dx (.own a)) a (.ins C dx [])) (λv H3=>v=.ZR/\Q (.ref a) H3):=by
   refine(post.bind (R:=RV X.K) (p2.from st)).mono ?_;rintro v H3 ⟨VB,u,g3,s3,h3,L,m⟩;split at m
   .rename_i P
    have e:=fR L;rw[P]at e;exact⟨HX e.symm,post.Zh m h3 (RV.step s3 _ _ q)⟩
   .exact m.elim
  refine⟨fu,_,_,_,I,?_,n0 WT s,s⟩;dsimp only;rw[XN O];exact(dR (nv E _ _) (F2.cons q (.Ur D)) (.Ur l)).SS
 .exact p2.elim
def MtOk(CX:X0)(Wf:XK->XQ)(X:Cx)(M:List Fn)(d k:Nat)(m:Str)(np:Nat)(kw:List Str)(tb:List (Nat×Nat×List (Nat ⊕ U))):Prop:=∀c i pm,tb.lookup c=some (i,pm) ->∃C f fd F nd ZE dd,nsIn X.K mainGlobals (Au c)=some (some (.ref C))/\Yu X.K C/\VH X.K C m f/\XU X.K fd F nd ZE dd/\F.ns++F.ks≠[] /\
 BW F nd (np+1) kw=true/\pm=BN F (np+1) kw/\Y2 X.prog X.w X.K X.mg X.base CX k f fd (F.ns++F.ks) (UY X.K Wf M d i (F.ns++F.ks).length) /\∀a,M[i]?=some a->a.np=(F.ns++F.ks).length
def lj(ho:PE X o (tE X.K W0 (r.ev o')))(hj:j<Bp)(hm:Au j=m){E0:XK}(hx:AM CX X E0)(hM:MtOk CX Wf X M d k m ZL.length (AJ kws) tb)(Y1:kwOk kws=true)(W_:ZL.length=es.length)(UX:YA.length=kws.length)(hr:Ze k X.A)
  (ha:PA X es (XW X.K W0 (JT r.ev ZL))) (hka:PK X kws (XW X.K W0 (JT r.ev YA))) (ZJ:es.any isStar=false)
  (ht:eval (.Call (.Attribute o m apos) es kws pos) X.env=(do
   let ov<-eval o X.env
   standAt apos.atName
   let(f,first)<-holding [ov] (getMethod ov m pl)
   callWith pos f first (backTo pos (starEach es X.env)) (backToKw pos (keywordEach kws X.env)))) :
  PE X (.Call (.Attribute o m apos) es kws pos) (tE X.K (Wf E0) (JX (Aa M fu d) r (.YT o' j tb ZL YA))):=by
 let⟨k1,k2,k3⟩:=eM (pos:=pos) (env:=X.env) Y1;refine(qY ho hr hx ha (λe Y H Q ⟨Z2,ρ,g,hs,hg,p⟩=>by subst e;cases ZL with|nil=>exact post.Zh (R:=RVs X.K) (u:=[]) p hg rfl|cons=>cases W_) hka k1 k2 ZJ k3 ht).imp λY H Q hp=>oneN hp λZ2 ρ H g u x hs hg r1 p=>?_
 cases ei:A4 u g with
 |none=>rw[ei]at p;exact p.elim
 |some q=>
  rw[ei]at p;simp![Rl]at p;let⟨n,rfl,eg⟩:=jR ei;let⟨a,C,dx,fs,c1,c2,c3,c4⟩:=hg.ins eg;let⟨a',rfl,z⟩:=r1;rw[c1]at z;cases z;unfold BX at p;rcases c4.look hj with⟨l1,l2⟩|⟨u,v,l1,_,_⟩
  .rw [l1]at p
   dsimp only at p;cases et:tb.lookup q.1 with
   |none=>rw[et]at p;exact p.elim
   |some ip=>
    let⟨i,pm⟩:=ip;rw[et]at p;dsimp only at p;let⟨C',f,fd,F,nd,ZE,dd,m1,m2,m3,KO,Zg,Xo,rfl,Z6,WT⟩:=hM q.1 i pm et;rw[c3]at m1;cases m1;refine⟨a,C,dx,fs,f,fd,_,_,_,_,rfl,c2,by rw[<-hm];exact l2,m2,m3,Z6,KO.binds Xo Zg,Z2,ρ,g,hs,hg,(bV (R:=RVs X.K) p).mono λvs H1 ⟨ZS,J,g1,s1,h1,rs,p1⟩=>?_⟩
    refine⟨Z2,ZS,g1,hs.step s1,h1,(bV (R:=RVs X.K) p1).mono λzs H2 ⟨Zr,ws,g2,s2,h2,rz,p2⟩=>?_⟩;split at p2
    .rename_i hc
     let⟨c1',Vr⟩:=hc;have Vr:ws.length=(AJ kws).length:=by rw[Vr,UX,gW Y1]
     have Ui:=RVs.step s2 _ _ rs;have rx:RV X.K Zr H2 (.ref n) (.ref a):=⟨a,rfl,s2.ext _ _ (s1.ext _ _ c1)⟩;have hv:(V.ref a::vs).length=ZL.length+1/\zs.length=(AJ kws).length:=⟨by rw[X8,<-Ui.length,c1'],by rw[<-rz.length];exact Vr⟩
     have e1:(U.ref n::J).length=ZL.length+1:=by rw[X8,c1']
     rw[show(U.ref n::J++ws)=(U.ref n::J)++ws from rfl,jb (J:=U.ref n::J) e1 Vr]at p2;refine⟨fu,Zr,g2,_,h2,?_,n0 WT p2,p2⟩
     try dsimp only
     rw[XN hv];exact(dR (nv KO _ _) (F2.cons rx (.Ur Ui)) (.Ur rz)).SS
    .exact p2.elim
  .rw [l1]at p;exact p.elim
def CS(K:Frag)(f:Str)(a:List Nat):Prop:=∀c,a.contains c=true ->∃C,nsIn K mainGlobals (Au c)=some (some (.ref C))/\Yu K C/\NoAttr K C f
def zG(y:PE X e (tE X.K W (r.ev e')))(A:attributeBase e m X.env (eval e X.env)=eval e X.env)(t:j<Bp)(s:Au j=m)(B:CS X.K m cs):PE X (.Attribute e m pos) (tE X.K W (JX C r (.fld e' j cs))):=by
 refine(aai y A).imp λY H Q o=>one o λZ2 ρ H g u x hs d i p=>?_;let⟨w,b,k⟩:=post.lift p;clear p;cases c:A4 u g with
 |none=>rw[c]at b;cases b
 |some q=>
  rw[c]at b;simp![Rl,Cd]at b;split at b
  .rename_i hc
   let⟨n,rfl,D⟩:=jR c;let⟨a,C,dx,fs,J,I,G,F⟩:=d.ins D;let⟨a',rfl,z⟩:=i;rw[J]at z;cases z;let⟨C',f,KQ,E⟩:=B q.1 hc;rw[G]at f;cases f;rcases F.look t with⟨l1,_⟩|⟨u,v,l1,l,h⟩
   .rw [l1]at b;cases b
   .rw [l1]at b;cases b
    exact⟨a,C,dx,fs,v,rfl,I,KQ,E,by rw[<-s];exact l,post.Zh k d h⟩
  .cases b
def lz{d:Pos}(E:PE X o (tE X.K W (r.ev o')))(J:PE X e (tE X.K W (r.ev e')))(f:swapsWith e (some (.Attribute o m d)) pos.line X.env=pure false)(G:j<Bp)(F:Au j=m)(L:CS X.K m cs):PS X (.Assign [.Attribute o m d] e pos) (ZF X.K W (JZ r (.fset o' j cs e'))):=by
 refine(zW E J f).imp ?_;rintro D Y H ⟨Z2,ρ,g,f,I,p⟩;refine⟨Z2,ρ,g,f,I,(J8.bind (R:=RV X.K) p).mono λy H1 ⟨O,u,g1,s1,h1,v,B⟩=>?_⟩;refine⟨Z2,O,g1,f.step s1,h1,(J8.bind (R:=RV X.K) B).mono λx H2 ⟨l,w,g2,s2,h2,A,p2⟩=>?_⟩;have h:=RV.step s2 _ _ v;cases b:Bu w j cs u g2 with
 |none=>rw[b]at p2;exact p2.elim
 |some g'=>
  rw[b]at p2;unfold Bu at b;split at b
  .split at b
   .rename_i n c fs M
    split at b
    .rename_i hc
     cases b;let⟨a,C,dx,fs',k,i,t,s⟩:=h2.ins M;let⟨a',rfl,z⟩:=A;rw[k]at z;cases z;let⟨C',q,KQ,N⟩:=L c hc.1;rw[t]at q;cases q;refine⟨a,C,dx,fs',rfl,i,KQ,N,by rw[<-s.length];exact hc.2,?_⟩
     have st:ZM X.K l H2 l (upd H2 a (.ins C dx (AL m y fs'))):=ZM.XX k i trivial;refine p2 Y l _ st (h2.XX k i trivial ⟨C,dx,_,rfl,t,?_⟩) (((f.step s1).step s2).step st);rw[<-F];exact s.put G h
    .cases b
   .cases b
  .cases b
end
def v7(b:es.any isStar=false)(c:kwOk kws=true)(d:es.length+kws.length+1<30):methodCallForm (es.length+kws.length) (backTo pos (starEach es env)) (backToKw pos (keywordEach kws env))=true:=by
 unfold methodCallForm;let⟨k1,_,_⟩:=eM (pos:=pos) (env:=env) c;have h1:(backTo pos (starEach es env)).all (!·.1)=true:=by
  have:=br (env:=env) (pos:=pos) b;rw[List.any_eq_false]at this;rw[Wj];intro x a;simpa using this x a
 rw[h1,k1,Qm,Qm,Xn];split<;>lia
def jH(hb:∀w,attributeBase o m env w=w)(ZJ:es.any isStar=false)(Y1:kwOk kws=true)(hn:es.length+kws.length+1<30)(YQ:(ap.endLine==cp.line)=true):
  eval (.Call (.Attribute o m ap) es kws cp) env=(do
   let ov<-eval o env
   standAt ap.atName
   let(f,first)<-holding [ov] (getMethod ov m (do return (<- importBound o env).getD true))
   callWith cp f first (backTo cp (starEach es env)) (backToKw cp (keywordEach kws env))):=by
 have hf:=v7 (env:=env) (pos:=cp) ZJ Y1 hn;show (do
  let ov<-attributeBase o m env (eval o env)
  standAt ap.atName
  methodCall o m ap cp env ov (es.length+kws.length) (backTo cp (starEach es env)) (backToKw cp (keywordEach kws env)))=_
 rw[hb];unfold methodCall calleeOf methodCallPos;rw[hf];simp![Ti,YQ,Bool.or_true,pure_bind]
def base_of(h:B4 o=false)(w:Sem Value):attributeBase o m env w=w:=by
 cases o with
 |Call f es ks p=>
  cases es with
  |nil=>cases h
  |cons _ _=>cases f<;>rfl
 |_=>rfl
open PySem PySem.Spec PyProof.Rows L2
structure Zn(T:Tab)(M:List Fn)(d:Nat)(X:Cx)(sc:Scope)(N:List Str):Prop where
 hF:∀(i:Nat) (x:Str),T.M[i]?=some x->(x==("__debug__" : Str))=false ->∃f fd ps,X.mg x=some (.ref f)/\PySem.W.keepIn X.K (.ref f)=true/\Binds X.K fd ps []/\Y2 X.prog X.w X.K X.mg X.base Xb (2*d+2) f fd ps (V1 X.K M d i ps.length) /\∀F,M[i]?=some F->F.np=ps.length
 cs:∀x u,T.cs.lookup x=some u ->∃v val,X.mg x=some val/\RelV v val /\∀ρ H,RV X.K ρ H u v
 bt:∀x∈T.bt,X.mg x=none
 hK:∀(y:Str) (i:Nat) (F:KF) (nd:Nat),T.kf.lookup y=some (i,F,nd) ->∃f fd ZE dd,X.mg y=some (.ref f)/\PySem.W.keepIn X.K (.ref f)=true/\XU X.K fd F nd ZE dd/\F.ns++F.ks≠[]/\Y2 X.prog X.w X.K X.mg X.base Xb (2*d+2) f fd (F.ns++F.ks) (V1 X.K M d i (F.ns++F.ks).length) /\∀F',M[i]?=some F'->F'.np=(F.ns++F.ks).length
 hC:∀(y:Str) (c i:Nat) (F:KF) (nd:Nat),T.cl.lookup y=some (c,i,F,nd) ->∃C f fd ZE dd,X.mg y=some (.ref C)/\Mk X.K C f/\PySem.W.nsIn X.K mainGlobals (Au c)=some (some (.ref C))/\XU X.K fd F nd ZE dd/\F.ns++F.ks≠[]/\Y2 X.prog X.w X.K X.mg X.base Xb (2*d+2) f fd (F.ns++F.ks) (V1 X.K M d i (F.ns++F.ks).length) /\∀F',M[i]?=some F'->F'.np=(F.ns++F.ks).length
 hT:∀(m:Str) (l:List (Nat×Nat×KF×Nat)),T.mt.lookup m=some l ->∀c i F nd,(c,i,F,nd)∈l ->∃C f fd ZE dd,PySem.W.nsIn X.K mainGlobals (Au c)=some (some (.ref C))/\Yu X.K C/\VH X.K C m f/\XU X.K fd F nd ZE dd/\F.ns++F.ks≠[]/\Y2 X.prog X.w X.K X.mg X.base Xb (2*d+2) f fd (F.ns++F.ks) (V1 X.K M d i (F.ns++F.ks).length) /\∀F',M[i]?=some F'->F'.np=(F.ns++F.ks).length
 hA:(∀(f:Str) (cs:List Nat),T.fl.lookup f=some cs->CS X.K f cs) /\∀p∈T.ow,∃C,X.mg p.1=some (.ref C)/\PySem.W.nsIn X.K mainGlobals (Au p.2)=some (some (.ref C))/\Yu X.K C/\Th X.K C
 room:Ze (2*d+3) X.A
 hN:X.N=N
 Zb:X.env.scope=sc
 nd:N.Nodup
 calm:X.calm=true
 xe:X.xe=λ_ _=>False
def FQ:Expr->Bool
 |.BoolOp ..=>true
 |_=>false
def Good(X:Cx)(C:Nat->List U->G->Out U)(e:Expr)(a:E):Prop:=
 (∀n,PE X e (tE X.K W0 ((J7 C n).ev a)))/\(∀n,PT X e (tT X.K W0 ((J7 C n).ts a)))/\(FQ e=true ->∀n,PW X e (tT X.K W0 ((J7 C n).ts a)))
section
variable{T:Tab}{M:List Fn}
def qN{r:α}(h:(none:Option α)=some r):P:=by cases h
def qB{o:Option α}{f:α->Option β}{r:β}(h:o.bind f=some r)(k:∀a,o=some a->f a=some r->P):P:=by
 cases o with
 |none=>cases h
 |some a=>exact k a rfl h
def qM{o:Option α}{f:α->β}{r:β}(h:o.map f=some r)(k:∀a,o=some a->f a=r->P):P:=by
 cases o with
 |none=>cases h
 |some a=>exact k a rfl (WY h)
def qI{c:Bool}{x:Option α}{r:α}(h:HZ c x=some r)(k:c=true->x=some r->P):P:=by
 cases c with
 |false=>cases h
 |true=>exact k rfl h
def qE{c:Prop}[Decidable c]{x y:Option α}{r:α}(h:(if c then x else y)=some r)(k1:c->x=some r->P)(k2:y=some r->P):P:=by
 by_cases hc:c
 .rw [XN hc]at h;exact k1 hc h
 .rw [Xy hc]at h;exact k2 h
def aI{l:List α}(h:AW l=true):l=[]:=by
 cases l with
 |nil=>rfl
 |cons _ _=>cases h
def gK{k:E->E}{r:E}(h:C0 ce k es=some r)(K:∀a a',es=[a]->ce a=some a'->k a'=r->P):P:=by
 cases es with
 |nil=>cases h
 |cons a es=>cases es with
  |nil=>exact qM h λa' h1 h2=>K a a' rfl h1 h2
  |cons _ _=>cases h
def la{k:E->E->E}{r:E}(h:Dz ce k es=some r)(K:∀a b a' b',es=[a,b]->ce a=some a'->ce b=some b'->k a' b'=r->P):P:=by
 cases es with
 |nil=>cases h
 |cons a es=>cases es with
  |nil=>cases h
  |cons b es=>cases es with
   |nil=>exact qB h λa' h1 h=>qM h λb' h2 c=>K a b a' b' rfl h1 h2 c
   |cons _ _=>cases h
def aM(h:(!b)=true):b=false:=by cases b with
 |false=>rfl
 |true=>cases h
def Good.plain(pe:∀n,PE X e (tE X.K W0 (JX C (J7 C n) e')))(he:∀whole,isTrue e X.env whole=(do let v<-whole;standAt e.pos;holding [v] (truthy v)))
  (Wy:∀r Y g,JY r e' Y g=(r.ev e' Y g).bind λx g=>lift (JM x g) g) (hb:FQ e=false):Good X C e e':=by
 have pe':∀n,PE X e (tE X.K W0 ((J7 C n).ev e')):=λn=>by
  cases n with
  |zero=>exact PE.Z0 λ_ _=>rfl
  |succ n=>exact pe n
 refine⟨pe',λn=>?_,λh=>?_⟩
 .cases n with
  |zero=>exact PT.Z0 λ_ _=>rfl
  |succ n=>
   have:((J7 C (n+1)).ts e')=λY g=>((J7 C n).ev e' Y g).bind λx g=>lift (JM x g) g:=by funext Y g;exact Wy _ _ _
   rw[this];exact sj (pe' n) he
 .rw [hb]at h;cases h
def aR{f:Expr->Option E}(c:∀e e',f e=some e'->Good X C e e'):∀{es:List Expr} {ZL:List E},es.any isStar=false->Ab (es.map f)=some ZL ->∀n,PA X es (XW X.K W0 (JT (J7 C n).ev ZL))
 |[],_,_,h=>λn=>by cases h;exact xN
 |a::es,ZL,hs,h=>λn=>by
  rw[Va,VF]at hs;rw[Xk]at h;cases ea:f a with
  |none=>rw[ea]at h;cases h
  |some a'=>
   rw[ea]at h;simp![Ab]at h;cases b:Ab (es.map f)with
   |none=>rw[b]at h;cases h
   |some r'=>
    rw[b]at h;cases h;exact ur ((c a a' ea).1 n) (aR c hs.2 b n) (star_ne hs.1 _)
def dj{f:Expr->Option E}(d:∀e e',f e=some e'->Good X C e e'):∀{kws:List Keyword} {YA:List E},Ab (kws.map λk=>f k.value)=some YA ->∀n,PK X kws (XW X.K W0 (JT (J7 C n).ev YA))
 |[],_,h=>λn=>by cases h;exact xA.imp λY H Q ⟨Z2,ρ,g,hs,b,p⟩=>post.Zh (R:=RVs X.K) (u:=[]) p b rfl
 |⟨nm,a,kp⟩::kws,YA,h=>λn=>by
  rw[Xk]at h;cases ea:f a with
  |none=>rw[ea]at h;cases h
  |some a'=>
   rw[ea]at h;simp![Ab]at h;cases c:Ab (kws.map λk=>f k.value)with
   |none=>rw[c]at h;cases h
   |some r'=>
    rw[c]at h;cases h;refine(t7 ((d a a' ea).1 n) (dj d c n)).imp λY H Q l=>one l λZ2 ρ H g u x hs b i p=>?_;refine⟨Z2,ρ,g,hs,b,(post.bind p).mono λxs H1 ⟨m,J,g1,s1,h1,rs,j⟩=>?_⟩;exact post.Zh (R:=RVs X.K) j h1 ⟨x,xs,rfl,RV.step s1 _ _ i,rs⟩
def uo{o:Operator}{o':Op}(h:EE o=some o'):(o'=.add/\o = .Add)\/(o'=.sub/\o = .Sub)\/(o'=.mul/\o = .Mult)\/(o'=.fdiv/\o = .FloorDiv)\/(o'=.mod/\o = .Mod)\/(o'=.pow/\o = .Pow):=by
 cases o<;>simp![EE,reduceCtorEq,Xa]at h<;>subst h<;>simp
def Zn.UW(a:Zn T M d X sc N):Ze (2*d+2) X.A:=⟨a.room.hd,by have:=a.room.dp;lia,by have:=a.room.un;lia,a.room.gd⟩
def Zn.units(a:Zn T M d X sc N):X.A.units+2<cLine:=by have:=a.room.units;lia
def cu(a:Zn T M d X sc N){o:CmpOp}{o':Cp}(h:CU o=some o'):By X o' o:=by
 refine abj a.units o' o ?_;cases o<;>simp![CU,reduceCtorEq,Xa]at h<;>subst h<;>simp
def k7{b:Expr}{o:CmpOp}(h:Dc b=false):behindInMarks o b=false:=by
 cases b<;>first|rfl|cases h
def Zn.gl(a:Zn T M d X sc N)(h:sc.names.lookup x=some .globalImplicit):Gl X x:=by
 show X.env.scope.names.lookup x=_;rw[a.Zb];exact h
def aG(h:A8 x=true):(x==("__debug__" : Str))=false/\(x==("__classdict__" : Str))=false/\x ≠ "__name__":=by
 unfold A8 at h;simp![ZC,WC]at h;exact⟨h.1.1,h.1.2,λe=>by have:=h.2;rw[e]at this;simp at this⟩
def uM{t:Ty}(h:Dw x=some t):x=Str.ofString (tyName t)/\bootBuiltins x=some (.type (tyName t))/\x ≠ "__name__" /\ (x==("__debug__" : Str))=false:=by
 unfold Dw at h;split at h
 .rename_i e;cases h;subst e;exact⟨rfl,by rfl,by decide,by decide⟩
 split at h
 .rename_i e;cases h;subst e;exact⟨rfl,by rfl,by decide,by decide⟩
 split at h
 .rename_i e;cases h;subst e;exact⟨rfl,by rfl,by decide,by decide⟩
 split at h
 .rename_i e;cases h;subst e;exact⟨rfl,by rfl,by decide,by decide⟩
 split at h
 .rename_i e;cases h;subst e;exact⟨rfl,by rfl,by decide,by decide⟩
 .cases h
def qr{b:Expr}(h:Ck b=false):DN b:=by
 cases b<;>first|exactλ_ _=>rfl|cases h
section
def yB{b:Bi}{f:Str}(c:Ia f=some b)(k:X.calm=true)(u:X.A.units+64<cLine)(t:X.A.guards=some [])(g:Gl X f)(d:X.mg f=none)(j:PA X (a::es) (XW X.K W0 (JT r.ev ZL)))(o:(a::es).any isStar=false):
  PE X (.Call (.Name f p) (a::es) [] pos) (tE X.K W0 (JX C r (.bi b ZL))):=by
 rw[Va,VF]at o;have h1:=star_ne (env:=X.env) o.1 es;have h2:=br (env:=X.env) (pos:=pos) o.2;unfold Ia at c;split at c
 .rename_i e;subst e;cases c;exact se_bi (pe_callB call_len_seq g d PySem.boot_len j #[1] #[1] h1 h2) imp_len
 split at c
 .rename_i e;subst e;cases c;exact se_bi (pe_callB call_abs g d #[2] j #[1] #[1] h1 h2) imp_abs
 split at c
 .rename_i e;subst e;cases c;exact se_bi (pe_callTy call_list_of g d #[2] j #[1] #[1] h1 h2) imp_list
 split at c
 .rename_i e;subst e;cases c;exact se_bi (pe_callB (call_mn k) g d PyProof.Rows.boot_min j #[1] #[1] h1 h2) (imp_mm λ_ _=>rfl)
 split at c
 .rename_i e;subst e;cases c;exact se_bi (pe_callB (call_mx k) g d PyProof.Rows.boot_max j #[1] #[1] h1 h2) (imp_mm λ_ _=>rfl)
 split at c
 .rename_i e;subst e;cases c;exact se_bi (pe_callB (call_srtX k (by lia)) g d #[2] j #[1] #[1] h1 h2) imp_srt
 split at c
 .rename_i e;subst e;cases c;exact se_bi (pe_callB (call_sum k) g d PyProof.Rows.boot_sum j #[1] #[1] h1 h2) imp_sum
 split at c
 .rename_i e;subst e;cases c;exact se_bi (pe_callTy call_tuple_of g d #[2] j #[1] #[1] h1 h2) imp_tupl
 split at c
 .rename_i e;subst e;cases c;exact se_bi (pe_callTy call_dct g d #[2] j #[1] #[1] h1 h2) imp_dct
 cases c
end
def a7{d c:Type}{f:d->Option c}:∀{l:List d} {r:List c},Ab (l.map f)=some r->r.length=l.length
 |[],_,h=>by cases h;rfl
 |a::l,r,h=>by
  rw[Xk]at h;cases e:f a with
  |none=>rw[e]at h;cases h
  |some b=>
   rw[e]at h;let⟨r',g,rfl⟩:=YU.mp h;simp[a7 g]
def cg{f:Str}(h:BU f=true):Au (Bk f)=f/\Bk f<Bp:=by
 unfold BU at h;rw[ZC,Xn,Xn]at h;exact h
def k6(g:Zn T M d X sc N)(r:∀e b,ce e=some b->Good X (Aa M fu d) e b){f:Str}{b:E}(h:CH T sc ce f es kws=some b)(p pos:Pos):Good X (Aa M fu d) (.Call (.Name f p) es kws pos) b:=by
 refine qI h λhc h=>qB h λZL o h=>qB h λYA m h=>?_;simp![ZC,WC,WQ]at hc;let⟨⟨⟨B,l⟩,D⟩,A⟩:=hc;let⟨h1,h2,G⟩:=aG B;have k:=a7 o;cases a:T.kf.lookup f with
 |some q=>
  rw[a]at h;exact qN h
 |none=>
  rw[a]at h;refine qB h λq z h=>qI h λj h=>?_;let⟨c,i,F,nd⟩:=q;cases h;let⟨C,H,fd,ZE,dd,y,x,w,v,u,t,s⟩:=g.hC _ _ _ _ _ z;dsimp only at j ⊢;rw[<-k]at j ⊢;exact .plain (λn=>lu x w t fc s v u j A k (a7 m) g.room (g.gl D) y h1 (aR r l o n) (dj r m n) l) (λ_=>rfl) (λ_ _ _=>rfl) rfl
def fz{i g:Type}{f:Nat×i->Nat×g}(j:∀e,(f e).1=e.1){c:Nat}{b:g}:∀{l:List (Nat×i)},(l.map f).lookup c=some b ->∃a,(c,a)∈l/\b=(f (c,a)).2
 |[],h=>by cases h
 |(d,a)::l,h=>by
  rw[Xk,show f (d,a)=((f (d,a)).1,(f (d,a)).2)from rfl,WH,j]at h;cases q:c==d with
  |true=>
   rw[q]at h;cases h;cases eq_of_beq q;exact⟨a,WS,rfl⟩
  |false=>
   rw[q]at h;let⟨a',h1,h2⟩:=fz j h;exact⟨a',HS _ h1,h2⟩
def j1(j:Zn T M d X sc N)(s:∀e a,ce e=some a->Good X (Aa M fu d) e a)(L:B4 o=false)(B:Good X (Aa M fu d) o o'){a:E}(h:Dj T ce o' m ap cp es kws=some a):Good X (Aa M fu d) (.Call (.Attribute o m ap) es kws cp) a:=by
 refine qI h λhc h=>qB h λZL q h=>qB h λYA p h=>qB h λl D h=>qI h λI h=>?_;simp![ZC,WC,Xn]at hc;let⟨⟨⟨⟨K,b⟩,r⟩,O⟩,H⟩:=hc;let⟨h1,h2⟩:=cg K;cases h;have g:=a7 q;refine .plain (λn=>lj (CX:=Xb) (Wf:=λ_=>W0) (E0:=λ_ _ _=>False) (k:=2*d+2) (B.1 n) h2 h1 fc (λc i pm J=>?_) r g (a7 p) j.UW (aR s b q n) (dj s p n) b (jH (base_of L) b r O H)) (λ_=>rfl) (λ_ _ _=>rfl) rfl;let⟨⟨P,F,nd⟩,t,G⟩:=fz (f:=λe:Nat×Nat×KF×Nat=>(e.1,e.2.1,BN e.2.2.1 (es.length+1) (AJ kws))) (λ_=>rfl) J;cases G;let⟨C,f,fd,ZE,dd,A,z,y,x,w,v,u⟩:=j.hT _ _ D _ _ _ _ t;refine⟨C,f,fd,F,nd,ZE,dd,A,z,y,x,w,?_,by rw[g],v,u⟩
 rw[g];exact Wj.mp I _ t
def i0:∀{keys:List (Option Expr)} {ks:List Str},strKeys keys=some ks->ks.length=keys.length
 |[],_,e=>by cases e;rfl
 |k::r,ks,e=>by
  unfold strKeys at e;split at e
  .rename_i z;cases z
  .rename_i z;cases z
   let⟨m,a,rfl⟩:=YU.mp e;simp[i0 a]
  .cases e
def me{f:Expr->Option E}(g:∀e e',f e=some e'->Good X (Aa M fu d) e e')(n:Nat):∀{keys:List (Option Expr)} {vs:List Expr} {ks:List Str} {ZL:List E},keys.length=vs.length->strKeys keys=some ks->Ab (vs.map f)=some ZL->UZ X W0 (J7 (Aa M fu d) n) keys vs ks ZL
 |[],[],_,_,_,e,a=>by cases e;cases a;exact .nil
 |[],_::_,_,_,b,_,_=>by simp at b
 |_::_,[],_,_,b,_,_=>by simp at b
 |k::r,v::vs,ks,ZL,b,e,a=>by
  unfold strKeys at e;split at e
  .rename_i z;cases z
  .rename_i z;cases z
   let⟨m,i,rfl⟩:=YU.mp e;rw[Xk]at a;cases c:f v with
   |none=>rw[c]at a;cases a
   |some v'=>
    rw[c]at a;let⟨j,h,rfl⟩:=YU.mp (show(Ab (vs.map f)).map (v' :: ·)=some ZL from a);exact .cons ((g _ _ c).1 n) (me g n (by simpa using b) i h)
  .cases e
def cK(h:[a].any isStar=false):isStar a=false:=by simpa using h
def gu(h:BZ b sc x=true):L2.Loc sc x/\(b=false->sc.names.lookup x=some .local):=by
 unfold BZ at h;simp![TH,ZC,WQ]at h;rcases h with h|⟨h1,h2⟩
 .exact ⟨.inl h,λ_=>h⟩
 .exact ⟨.inr h2,λe=>by rw[e]at h1;cases h1⟩
def eD(h:Br b sc N x=some i):N[i]?=some x/\BZ b sc x=true:=by
 unfold Br at h;split at h
 .rename_i a;exact⟨ixOf_get h,a⟩
 .cases h
def d7(h:Br b sc N x=some i):N[i]?=some x/\L2.Loc sc x/\(b=false->sc.names.lookup x=some .local):=⟨(eD h).1,gu (eD h).2⟩
def Zn.SO(a:Zn T M d X sc N)(h:L2.Loc sc x):L2.Loc X.env.scope x:=by rw[a.Zb];exact h
def Zn.fnX(a:Zn T M d X sc N)(c:b=true ->∀x,X.fn x=true){x:Str}(h:b=false->sc.names.lookup x=some .local):X.fn x=true\/X.env.scope.names.lookup x=some .local:=by
 rw[a.Zb];cases b with
 |true=>exact .inl (c rfl x)
 |false=>exact .inr (h rfl)
def Zn.Uh(a:Zn T M d X sc N):X.N.Nodup:=by rw[a.hN];exact a.nd
def Zn.own(a:Zn T M d X sc N):PassesOwn (model X.prog X.w) X.A X.env X.xe:=by rw[a.xe];exact PassesOwn.never
def ju(f:Zn T M d X sc N){c:Scope}(g:∀x,BZ b c x=true->L2.Loc X.env.scope x/\(X.fn x=true\/X.env.scope.names.lookup x=some .local)){t:Tg}(h:Bg b c N tg=some t):PG X tg (tG X.K t):=by
 unfold Bg at h;split at h
 .cases e:Br b c N ‹Str› with
  |none=>rw[e]at h;cases h
  |some i=>
   rw[e]at h;cases h;let⟨h1,h2⟩:=eD e;exact aa6 f.Uh (by rw[f.hN];exact h1) (g _ h2).1 (g _ h2).2
 .rename_i ts k p
  cases e:Ab (ts.map (B6 b c N))with
  |none=>rw[e]at h;cases h
  |some is=>
   rw[e]at h;cases h;have all:∀(ts:List Expr) (is:List Nat),Ab (ts.map (B6 b c N))=some is->PGs X ts (Uq X.K is)/\(assignEach ts X.env).length=is.length/\(assignEach ts X.env).findIdx? (·.1)=none:=λts=>by
    induction ts with
    |nil=>intro is e;cases e;exact⟨sgs_nil,rfl,rfl⟩
    |cons a ts ih=>
     intro is e;rw[Xk]at e;cases ea:B6 b c N a with
     |none=>rw[ea]at e;cases e
     |some i=>
      rw[ea]at e;simp![Ab]at e;cases n:Ab (ts.map (B6 b c N))with
      |none=>rw[n]at e;cases e
      |some m=>
       rw[n]at e;cases e;let⟨l,p2,j⟩:=ih m n;cases a<;>simp![B6,reduceCtorEq]at ea
       let⟨h1,h2⟩:=eD ea;refine⟨rY f.Uh (by rw[f.hN];exact h1) (g _ h2).1 (g _ h2).2 l,?_,?_⟩
       .show (assignEach ts X.env).length+1=_
        rw[p2];rfl
       .show List.findIdx? (·.1) ((false,_)::assignEach ts X.env)=none
        rw[List.findIdx?_cons];simp[j]
   let⟨l,p2,j⟩:=all ts is e;exact abd f.calm l p2 j
 .cases h
def cX(a:Zn T M d X sc N)(c:b=true ->∀x,X.fn x=true){t:Tg}(h:Bg b sc N tg=some t):PG X tg (tG X.K t):=ju a (λ_ z=>⟨a.SO (gu z).1,a.fnX c (gu z).2⟩) h
def uN{a:Shared}{c:Hp}{b:List Str}(h:BZ true scope x=true):L2.Loc (Am X Z scope a c fp b).env.scope x/\((Am X Z scope a c fp b).fn x=true\/(Am X Z scope a c fp b).env.scope.names.lookup x=some .local):=by
 have e:(Am X Z scope a c fp b).env.scope.names.lookup x=_:=dw;simp![BZ,TH,Qm,WQ]at h;rcases h with h|h
 .rw [h]at e;exact⟨.inl e,.inr e⟩
 .rw [h]at e;exact⟨.inr e,.inl (WQ.mpr h)⟩
def vn(h:C4 e'=true):JW r e'=(λY g=>(r.ev e' Y g).bind λu g=>match u with
  |.Z1 xs=>Out.ok (Iter.seq xs) g
  |.xn _ xs=>Out.ok (Iter.seq xs) g
  |.ref n=>match g[n]? with
   |some (.S _)=>.ok (.S n) g
   |some (.ZN O)=>.ok (.ZN n) (g.set n (.Zu O))
   |some (.Zu _)=>.ok (.ZN n) g
   |_=>.Z0
  |_=>.Z0):=by
 cases e'<;>first|rfl|cases h
def kL(j:Zn T M d X sc N)(i:∀e e',f e=some e'->Good X (Aa M fu d) e e'){it:Expr}(h:Dm T sc f it=some Zy):(∀n,PI X tg it (tI X.K W0 (JW (J7 (Aa M fu d) n) Zy))) /\∀x,foldedSetIterable it X.env x=pure x:=by
 have val:H9 f it=some Zy->(∀n,PI X tg it (tI X.K W0 (JW (J7 (Aa M fu d) n) Zy))) /\∀x,foldedSetIterable it X.env x=pure x:=λh=>qI h λhs h=>qB h λe' o h=>qI h λm h=>by
  cases h;have hs:=aM hs;exact⟨λn=>by rw[vn m];exact zK ((i it Zy o).1 n),λx=>by cases it<;>first|rfl|cases hs⟩
 unfold Dm at h;cases hc:B5 it with
 |none=>rw[hc]at h;exact val h
 |some c=>
  rw[hc]at h;refine qE h (λk h=>?_) val;let⟨p,q,rfl⟩:=fP hc;let⟨n,es⟩:=c;have k:n = "range":=k;subst k;refine qI h λhc h=>?_;simp![ZC,WC,WQ]at hc;let⟨⟨h1,h2⟩,g⟩:=hc;have hm:=j.bt _ (W8.mp h1);cases es with
  |nil=>cases h
  |cons a es=>
   cases es with
   |nil=>
    refine qM h λa' l e=>?_;subst e;exact⟨λn=>v5 (j.gl h2) hm ((i _ _ l).1 n) (star_ne (cK g)),λx=>rfl⟩
   |cons b es=>
    refine la (show Dz f .Xw (a::b::es)=some Zy from h) λa b a' b' s l r e=>?_;cases s;subst e;rw[Va,VF]at g;exact⟨λn=>uz (j.gl h2) hm ((i _ _ l).1 n) ((i _ _ r).1 n) (star_ne g.1) (star_ne (cK g.2)),λx=>rfl⟩
def bj(b:Zn T M d X sc N)(j:∀e e',f e=some e'->Good X (Aa M fu d) e e'){it:Expr}(h:B8 T sc f tg it=some Zy):(∀n,PI X tg it (tI X.K W0 (JW (J7 (Aa M fu d) n) Zy))) /\∀x,foldedSetIterable it X.env x=pure x:=by
 unfold B8 at h;cases hc:B5 it with
 |none=>rw[hc]at h;exact kL b j h
 |some c=>
  rw[hc]at h;let⟨n,es⟩:=c;refine qE h (λg h=>?_) (kL b j)
  .obtain ⟨p,q,rfl⟩:=fP hc
   have g:n = "enumerate":=g;subst g;refine qI h λhc h=>gK h λa a' i l e=>?_;simp![ZC,WC,WQ]at hc;let⟨⟨⟨h1,h2⟩,o⟩,m⟩:=hc;have hm:=b.bt _ (W8.mp h1);have i:es=[a]:=i;subst i;subst e;cases tg with
   |Tuple ts k tp=>exact⟨λn=>yN (b.gl h2) hm ((j _ _ l).1 n) (star_ne (cK o)),λx=>rfl⟩
   |_=>cases m
def pY(h:env.scope=sc):relabel scope env=Bm scope sc:=by subst h;rfl
def Zn.comp(a:Zn T M d X sc N){own fr:List Str}(c:(own++fr).Nodup)(Z:List (Addr×Obj))(b:Shared)(f:Hp)(e:List Addr):Zn T M d (Am X Z scope b f e (own++fr)) (Bm scope sc) (own++fr):=
 ⟨a.hF,a.cs,a.bt,a.hK,a.hC,a.hT,a.hA,a.room,rfl,pY a.Zb,c,a.calm,rfl⟩
def gD{f:Expr->Option E}(c:∀e e',f e=some e'->Good X C e e'):∀{es:List Expr} {ZL:List E},Ab (es.map f)=some ZL ->∀n,PTs X es (AH (J7 C n).ts ZL)
 |[],_,h=>λn=>by cases h;exact wo
 |a::es,ZL,h=>λn=>by
  rw[Xk]at h;cases ea:f a with
  |none=>rw[ea]at h;cases h
  |some a'=>
   rw[ea]at h;simp![Ab]at h;cases b:Ab (es.map f)with
   |none=>rw[b]at h;cases h
   |some r'=>
    rw[b]at h;cases h;exact rK ((c a a' ea).2.1 n) (gD c b n)
def kK(c:Zn T M d X sc N){f:Expr->Option E}(i:∀e e',f e=some e'->Good X (Aa M fu d) e e'):∀{gs:List Comprehension} {a:List (Tg×E×List E)},DX T sc N f gs=some a->Bt X (Aa M fu d) gs a
 |[],_,h=>by cases h;trivial
 |g::gs,a,h=>qI h λl h=>qB h λt j h=>qB h λit b h=>qB h λcs m h=>qM h λr' k e=>by
  subst e;exact⟨eq_of_beq l,cX c (λe=>by cases e) j,gD i m,(bj c i b).1,(bj c i b).2,kK c i k⟩
def qR(m:Zn T M d X sc N){own:List Str}(h:DM scope sc own (freeOf scope)=true)(o:Ab ((freeOf scope).map (AU N))=some Zo):We X scope own (freeOf scope) Zo:=by
 unfold DM at h;simp![ZC,WQ,Wj,TH,bne_iff_ne,Xn]at h;let⟨⟨⟨⟨⟨⟨h1,h2⟩,u⟩,t⟩,s⟩,q⟩,p⟩:=h;refine⟨h1,λx a b=>(h2 x a).resolve_left λz=>z b,λx a b=>(u x a).resolve_left λz=>z b,λx a b=>?_,s,q,p,?_⟩
 .show X.env.scope.names.lookup x.1=_
  rw[m.Zb];exact(t x a).resolve_left λz=>z b
 .have all:∀(l:List Str) (r:List Nat),Ab (l.map (AU N))=some r->r.length=l.length /\∀(j:Nat) (x:Str) (i:Nat),l[j]?=some x->r[j]?=some i->N[i]?=some x:=λl=>by
   induction l with
   |nil=>intro r e;cases e;exact⟨rfl,λj x i e=>by simp at e⟩
   |cons y l ih=>
    intro r e;rw[Xk]at e;cases ea:AU N y with
    |none=>rw[ea]at e;cases e
    |some k=>
     rw[ea]at e;simp![Ab]at e;cases c:Ab (l.map (AU N))with
     |none=>rw[c]at e;cases e
     |some r'=>
      rw[c]at e;cases e;let⟨n,p2⟩:=ih r' c;refine⟨by simp[n],λj x i g f=>?_⟩
      cases j with
      |zero=>simp at g f;subst g;subst f;exact ixOf_get ea
      |succ j=>exact p2 j x i (by simpa using g) (by simpa using f)
  rw[m.hN];exact all _ _ o
def rR(a:Zn T M d X sc N)(h:FY T sc N x=some e'):Good X (Aa M fu d) (.Name x pos) e':=by
 refine qI h λg h=>qB h λk hk h=>?_;let⟨h1,h2,o⟩:=aG g;have L:(k=.local\/k=.cell\/k=.free)->(AU N x).map E.L=some e'->Good X (Aa M fu d) (.Name x pos) e':=λm h=>qM h λi j e=>by
  subst e;refine .plain (λn=>m9 (by rw[a.hN];exact ixOf_get j) ?_ h1 h2) (λ_=>rfl) (λ_ _ _=>rfl) rfl
  show X.env.scope.names.lookup x=_\/_;rw[a.Zb];rcases m with rfl|rfl|rfl
  .exact .inl hk
  .exact .inr (.inl hk)
  .exact .inr (.inr hk)
 cases k with
 |«local»=>exact L (.inl rfl) h
 |cell=>exact L (.inr (.inl rfl)) h
 |free=>exact L (.inr (.inr rfl)) h
 |globalImplicit=>
  refine qM h λu l e=>?_;subst e;let⟨v,val,f,c,b⟩:=a.cs x u l;exact .plain (λn=>cv (lY (a.gl hk) f c h1) b) (λ_=>rfl) (λ_ _ _=>rfl) rfl
 |globalExplicit=>exact qN h
def uc{v:Const}{k:Nat}(h:GK v=some e'):Good X C (.Constant v k pos) e':=by
 cases v with
 |int i=>cases h;exact .plain (λn=>cv gX λ_ _=>rfl) (λ_=>rfl) (λ_ _ _=>rfl) rfl
 |bool b=>cases h;exact .plain (λn=>cv acm λ_ _=>rfl) (λ_=>rfl) (λ_ _ _=>rfl) rfl
 |none=>cases h;exact .plain (λn=>cv x5 λ_ _=>rfl) (λ_=>rfl) (λ_ _ _=>rfl) rfl
 |str s=>cases h;exact .plain (λn=>cv hU λ_ _=>rfl) (λ_=>rfl) (λ_ _ _=>rfl) rfl
 |_=>exact qN h
section
variable(ok:Zn T M d X sc N)(ih:∀e e',ce e=some e'->Good X (Aa M fu d) e e')
include ok in
def rT(c:∀e e',ce e=some e'->Good X (Aa M fu d) e e'){b:Expr}{o:CmpOp}(h:F6 ce a o b=some e'):Good X (Aa M fu d) (.Compare a [o] [b] pos) e':=by
 refine qI h λi h=>qB h λo' ho h=>qB h λa' g h=>qM h λb' f e=>?_;subst e;have hm:=k7 (o:=o) (aM i);refine⟨λn=>?_,λn=>?_,λh=>by cases h⟩
 .cases n with
  |zero=>exact PE.Z0 λ_ _=>rfl
  |succ n=>exact yw (C:=Aa M fu d) (cu ok ho) hm ((c _ _ g).1 n) ((c _ _ f).1 n)
 .cases n with
  |zero=>exact PT.Z0 λ_ _=>rfl
  |succ n=>
   cases n with
   |zero=>exact PT.Z0 λ_ _=>rfl
   |succ n=>exact zg (C:=Aa M fu d) (cu ok ho) hm ((c _ _ g).1 n) ((c _ _ f).1 n)
include ok in
def sH(f:∀e e',ce e=some e'->Good X (Aa M fu d) e e'){b c:Expr}{o q:CmpOp}(h:FV ce a o q b c=some e'):Good X (Aa M fu d) (.Compare a [o,q] [b,c] pos) e':=by
 refine qI h λk h=>qB h λo' ho h=>qB h λl g h=>qB h λa' j h=>qB h λb' i h=>qM h λc' hc e=>?_;subst e;have hm:=k7 (o:=q) (aM k);refine⟨λn=>?_,λn=>?_,λh=>by cases h⟩
 .cases n with
  |zero=>exact PE.Z0 λ_ _=>rfl
  |succ n=>exact sM (C:=Aa M fu d) (cu ok ho) (cu ok g) hm ((f _ _ j).1 n) ((f _ _ i).1 n) ((f _ _ hc).1 n)
 .cases n with
  |zero=>exact PT.Z0 λ_ _=>rfl
  |succ n=>
   cases n with
   |zero=>exact PT.Z0 λ_ _=>rfl
   |succ n=>exact su (C:=Aa M fu d) (cu ok ho) (cu ok g) hm ((f _ _ j).1 n) ((f _ _ i).1 n) ((f _ _ hc).1 n)
include ok in
def vt(i:∀e e',ce e=some e'->Good X (Aa M fu d) e e'){f:List CmpOp}{bs:List Expr}(h:Gx ce a f bs=some e'):Good X (Aa M fu d) (.Compare a f bs pos) e':=by
 cases f with
 |nil=>exact qN h
 |cons o f=>cases bs with
  |nil=>exact qN h
  |cons b bs=>cases f with
   |nil=>
    refine qI h λg h2=>?_;cases aI g;exact rT ok i h2
   |cons q f=>cases bs with
    |nil=>exact qN h
    |cons c bs=>
     refine qI h λg h2=>?_;rw[ZC]at g;cases aI g.1;cases aI g.2;exact sH ok i h2
def uS(c:∀e e',ce e=some e'->Good X (Aa M fu d) e e'){o:BoolOp}(h:Gv ce o es pos=some e'):Good X (Aa M fu d) (.BoolOp o es pos) e':=by
 cases es with
 |nil=>exact qN h
 |cons a es=>cases es with
  |nil=>
   let⟨k,g2,l⟩:=c _ _ h;have f:∀n,PW X (.BoolOp o [a] pos) (tT X.K W0 ((J7 (Aa M fu d) n).ts e')):=λn=>by
    cases o with
    |And=>exact tP (g2 n)
    |Or=>exact yq (g2 n)
   exact⟨λn=>zq (k n),λn=>(f n).pt,λ_ n=>f n⟩
  |cons b ZV=>cases o with
   |And=>
    refine qB h λa' i h=>qM h λb' g e=>?_;subst e;have f:∀n,PW X (.BoolOp .And (a::b::ZV) pos) (tT X.K W0 ((J7 (Aa M fu d) n).ts (.and a' b'))):=λn=>by
     cases n with
     |zero=>exactλj Z s Y H Q I ⟨_,_,_,_,_,p⟩=>p.elim
     |succ n=>exact yF ((c _ _ i).2.1 n) ((c _ _ g).2.2 rfl n)
    refine⟨λn=>?_,λn=>(f n).pt,λ_ n=>f n⟩;cases n with
    |zero=>exact PE.Z0 λ_ _=>rfl
    |succ n=>exact yW (C:=Aa M fu d) ((c _ _ i).1 n) ((c _ _ g).1 n)
   |Or=>
    refine qB h λa' i h=>qM h λb' g e=>?_;subst e;have f:∀n,PW X (.BoolOp .Or (a::b::ZV) pos) (tT X.K W0 ((J7 (Aa M fu d) n).ts (.or a' b'))):=λn=>by
     cases n with
     |zero=>exactλj Z s Y H Q I ⟨_,_,_,_,_,p⟩=>p.elim
     |succ n=>exact abS ((c _ _ i).2.1 n) ((c _ _ g).2.2 rfl n)
    refine⟨λn=>?_,λn=>(f n).pt,λ_ n=>f n⟩;cases n with
    |zero=>exact PE.Z0 λ_ _=>rfl
    |succ n=>exact abi (C:=Aa M fu d) ((c _ _ i).1 n) ((c _ _ g).1 n)
def zA(c:∀e e',ce e=some e'->Good X (Aa M fu d) e e'){o:UnaryOp}(h:Ic ce o a=some e'):Good X (Aa M fu d) (.UnaryOp o a pos) e':=by
 cases o with
 |Not=>
  refine qM h λa' b e=>?_;subst e;refine⟨λn=>?_,λn=>?_,λh=>by cases h⟩
  .cases n with
   |zero=>exact PE.Z0 λ_ _=>rfl
   |succ n=>exact aat (C:=Aa M fu d) ((c _ _ b).1 n)
  .cases n with
   |zero=>exact PT.Z0 λ_ _=>rfl
   |succ n=>exact zr ((c _ _ b).2.1 n)
 |USub=>
  refine qM h λa' b e=>?_;subst e;exact .plain (λn=>aab ((c _ _ b).1 n)) (λ_=>rfl) (λ_ _ _=>rfl) rfl
 |_=>exact qN h
def vj(h:GQ e=true):∃k p q,e = .UnaryOp .USub (.Constant (.int 1) k p) q:=by
 cases e with
 |UnaryOp o a q=>cases o with
  |USub=>cases a with
   |Constant v k p=>cases v with
    |int i=>cases eq_of_beq (show(i==1)=true from h);exact⟨k,p,q,rfl⟩
    |_=>cases h
   |_=>cases h
  |_=>cases h
 |_=>cases h
def gE{o:Option α}(h:DI o=true):o=none:=by
 cases o with
 |none=>rfl
 |some _=>cases h
def lT(c:∀e e',ce e=some e'->Good X (Aa M fu d) e e'){a:Option Expr}{b:Option E}(h:EC ce a=some b)(n:Nat):PO X a (CQ X.K W0 (JU (J7 (Aa M fu d) n).ev b)):=by
 cases a with
 |none=>cases h;exact wD
 |some l=>exact qM h λg f e=>by subst e;exact vc ((c _ _ f).1 n)
def wA(l:X.A.units+2<cLine)(b:∀e e',ce e=some e'->Good X (Aa M fu d) e e'){s:Expr}(h:Eh ce a s=some e'):Good X (Aa M fu d) (.Subscript a s pos) e':=by
 unfold Eh at h;cases f:Ck s with
 |true=>
  rw[f]at h;cases s with
  |Slice lo hi st p=>cases st with
   |none=>
    refine qB h λa' c h=>qB h λk g h=>qM h λh' i e=>?_;subst e;exact .plain (λn=>w6 ((b _ _ c).1 n) (lT b g n) (lT b i n)) (λ_=>rfl) (λ_ _ _=>rfl) rfl
   |some st=>
    refine qI h λhc h=>qM h λa' c e=>?_;subst e;rw[ZC,ZC]at hc;cases gE hc.1.1;cases gE hc.1.2;let⟨_,_,_,rfl⟩:=vj hc.2;exact .plain (λn=>xG ((b _ _ c).1 n)) (λ_=>rfl) (λ_ _ _=>rfl) rfl
  |_=>exact qN h
 |false=>
  rw[f]at h;refine qB h λa' c h=>qM h λb' j e=>?_;subst e;exact .plain (λn=>nr () ((b _ _ c).1 n) ((b _ _ j).1 n) (qr f)) (λ_=>rfl) (λ_ _ _=>rfl) rfl
include ok in
def xF(i:∀e e',ce e=some e'->Good X (Aa M fu d) e e'){f:Str}(m:sc.names.lookup f=some .globalImplicit)(j:X.mg f=none)(g:es.any isStar=false)(h:Ih ce f es=some e'):Good X (Aa M fu d) (.Call (.Name f p) es [] pos) e':=by
 refine qB h λb c h=>qI h λl h=>qM h λZL k e=>?_;subst e;cases es with
 |nil=>cases l
 |cons a es=>
  unfold Gi at c;exact .plain (λn=>yB c ok.calm ok.room.units ok.room.gd (ok.gl m) j (aR i g k n) g) (λ_=>rfl) (λ_ _ _=>rfl) rfl
include ok in
def wc(l:∀e e',ce e=some e'->Good X (Aa M fu d) e e')(v:sc.names.lookup ("isinstance" : Str)=some .globalImplicit)(q:X.mg "isinstance" = none)(f:es.any isStar=false)(h:GX T sc ce es=some e'):Good X (Aa M fu d) (.Call (.Name "isinstance" p) es [] pos) e':=by
 cases es with
 |nil=>exact qN h
 |cons a es=>cases es with
  |nil=>exact qN h
  |cons t es=>
   refine qI h λr h1=>qB h1 λg m h2=>?_;cases aI r;refine qB h2 λtn o h=>qB h λty c h=>qB h λa' s h=>qI h λb u=>?_;let⟨p2,rfl⟩:=aJ o;simp![ZC,WQ]at b;cases u;let⟨k,t2,j,i⟩:=uM c;rw[Va,VF]at f;exact .plain (λn=>xv (by unfold Dw at c;revert c;(repeat' split)<;>(intro c;cases c)<;>rfl) k (ok.gl b.2) (ok.bt tn (W8.mp b.1)) t2 j i (ok.gl v) q ((l _ _ s).1 n) (star_ne f.1)) (λ_=>rfl) (λ_ _ _=>rfl) rfl
include ok in
def u4(a:∀e e',ce e=some e'->Good X (Aa M fu d) e e'){f:Str}(g:sc.names.lookup f=some .globalImplicit)(b:X.mg f=none)(c:es.any isStar=false)(h:Dx T sc ce f es=some e'):Good X (Aa M fu d) (.Call (.Name f p) es [] pos) e':=by
 refine qE h (λi h=>by subst i;exact wc ok a g b c h) λh=>?_
 exact xF ok a g b c h
include ok in
def uH(b:∀e e',ce e=some e'->Good X (Aa M fu d) e e'){f:Str}(h:Gy T sc ce f es=some e'):Good X (Aa M fu d) (.Call (.Name f p) es [] pos) e':=by
 refine qI h λhc h=>?_;simp![ZC,WC,WQ]at hc;let⟨⟨t,c⟩,j⟩:=hc;let⟨h1,h2,u⟩:=aG t;cases hi:AU T.M f with
 |some i=>
  rw[hi]at h;refine qM h λZL s e=>?_;subst e;let⟨v,fd,ps,r,q,o,m,l⟩:=ok.hF i f (ixOf_get hi) h1;refine .plain (λn=>?_) (λ_=>rfl) (λ_ _ _=>rfl) rfl;cases es with
  |nil=>cases s;exact rW m fc l ok.UW (ok.gl j) r q o h1
  |cons a es=>
   have k:=c;rw[Va,VF]at k;exact lX m fc l ok.UW (ok.gl j) r q o h1 (aR b c s n) (star_ne k.1 _) (br k.2)
 |none=>
  rw[hi]at h;cases g:T.bt.contains f with
  |true=>
   have h:(match T.bt.contains f with|true=>Dx T sc ce f es|false=>CH T sc ce f es [])=some e':=h
   rw[g]at h;exact u4 ok b j (ok.bt f (W8.mp g)) c h
  |false=>
   have h:(match T.bt.contains f with|true=>Dx T sc ce f es|false=>CH T sc ce f es [])=some e':=h
   rw[g]at h;exact k6 ok b h _ _
include ok in
def aaR(f:∀e e',ce e=some e'->Good X (Aa M fu d) e e')(l:B4 o=false)(g:Good X (Aa M fu d) o o')(p:(ap.endLine==cp.line)=true)(k:es.any isStar=false)(h:Ii T ce o' m ap cp es=some e'):Good X (Aa M fu d) (.Call (.Attribute o m ap) es [] cp) e':=by
 refine qE h (λc h=>?_) λh=>?_
 .subst c
  refine gK h λa a' j i e=>?_;subst j;subst e;exact .plain (λn=>z7 (g.1 n) ((f _ _ i).1 n) (base_of l _) p (star_ne (cK k))) (λ_=>rfl) (λ_ _ _=>rfl) rfl
 refine qE h (λc h=>?_) λh=>?_
 .subst c
  refine gK h λa a' j i e=>?_;subst j;subst e;exact .plain (λn=>zO (g.1 n) ((f _ _ i).1 n) (base_of l _) p (star_ne (cK k))) (λ_=>rfl) (λ_ _ _=>rfl) rfl
 refine qE h (λc q=>?_) λh=>?_
 .subst c
  cases es with
  |nil=>
   cases q;exact .plain (λn=>zM (g.1 n) (base_of l _) p) (λ_=>rfl) (λ_ _ _=>rfl) rfl
  |cons b es=>
   exact qN q
 refine qE h (λc h=>?_) λh=>?_
 .subst c
  refine la h λa b a' b' j i r e=>?_;subst j;subst e;rw[Va,VF]at k;exact .plain (λn=>xu (by have:=ok.units;lia) (g.1 n) ((f _ _ i).1 n) ((f _ _ r).1 n) (base_of l _) p (star_ne k.1) (star_ne (cK k.2))) (λ_=>rfl) (λ_ _ _=>rfl) rfl
 exact j1 ok f l g h
include ok in
def vF(a:∀e e',ce e=some e'->Good X (Aa M fu d) e e'){fn:Expr}(h:Gs T sc ce fn es kws pos=some e'):Good X (Aa M fu d) (.Call fn es kws pos) e':=by
 cases fn with
 |Name f p=>cases kws with
  |nil=>exact uH ok a h
  |cons k kws=>exact k6 ok a h _ _
 |Attribute o m ap=>
  refine qI h λb h=>qB h λo' ho h=>?_;have b:=aM b;cases kws with
  |nil=>
   refine qI h λhc h=>?_;rw[ZC]at hc;exact aaR ok a b (a _ _ ho) hc.1 (aM hc.2) h
  |cons k kws=>exact j1 ok a b (a _ _ ho) h
 |_=>exact qN h
def u5(c:∀e e',ce e=some e'->Good X (Aa M fu d) e e'){vs:List Expr}(h:Ik ce keys vs=some e'):Good X (Aa M fu d) (.Dict keys vs pos) e':=by
 cases keys with
 |nil=>
  refine qI h λf h=>?_;cases aI f;cases h;exact .plain (λn=>uL) (λ_=>rfl) (λ_ _ _=>rfl) rfl
 |cons k0 keys=>
  refine qB h λks b h=>qB h λZL g h=>qI h λhc h=>?_;simp![ZC,WQ,Xn]at hc;cases h;have a:=i0 b;exact .plain (λn=>uv (me c n (by rw[<-a];exact hc.1.1) b g) (λz=>nomatch z) (by rw[<-a];exact hc.1.2) hc.2) (λ_=>rfl) (λ_ _ _=>rfl) rfl
include ok in
def gz(f:∀e e',ce e=some e'->Good X (Aa M fu d) e e'){i:Expr->Option E}{g:Comprehension}
  (a:∀{j:Cx},Zn T M d j (Bm scope sc) (ownOf (g::ZV)++freeOf scope) ->∀e e',i e=some e'->Good j (Aa M fu d) e e') (h:En T sc ce N i g ZV scope=some q) :
  ∃t Zy cs ZD Zo,q=(Zo,(t,Zy,cs)::ZD)/\We X scope (ownOf (g::ZV)) (freeOf scope) Zo/\g.is_async=0/\(∀n,PI X g.target g.iter (tI X.K W0 (JW (J7 (Aa M fu d) n) Zy)))/\(∀x,foldedSetIterable g.iter X.env x=pure x) /\
   ∀Z s3 H3 fp,Zn T M d (Am X Z scope s3 H3 fp (ownOf (g::ZV)++freeOf scope)) (Bm scope sc) (ownOf (g::ZV)++freeOf scope)/\PG (Am X Z scope s3 H3 fp (ownOf (g::ZV)++freeOf scope)) g.target (tG X.K t)/\(∀n,PTs (Am X Z scope s3 H3 fp (ownOf (g::ZV)++freeOf scope)) g.ifs (AH (J7 (Aa M fu d) n).ts cs)) /\
    Bt (Am X Z scope s3 H3 fp (ownOf (g::ZV)++freeOf scope)) (Aa M fu d) ZV ZD:=by
 refine qI h λhc h=>qB h λZy b h=>qB h λt k h=>qB h λcs o h=>qB h λZD m h=>qM h λZo l e=>?_;rw[ZC,WQ]at hc;have Z5:=qR ok hc.1 l;refine⟨t,Zy,cs,ZD,Zo,e.symm,Z5,hc.2,(bj ok f b).1,(bj ok f b).2,λZ s3 H3 fp=>?_⟩;have c:=ok.comp (scope:=scope) Z5.nd Z s3 H3 fp;exact⟨c,ju c (λ_=>uN) k,gD (a c) o,kK c (a c) m⟩
end
def aD:∀(m:Nat) {X:Cx} {sc:Scope} {N:List Str} (ok:Zn T M d X sc N) (e:Expr) (e':E),Al T sc N m e=some e'->Good X (Aa M fu d) e e'
 |0,_,_,_,_,_,_,h=>by cases h
 |m+1,X,sc,N,ok,e,e',h=>by
  have ih:=aD m ok;cases e with
  |Name x p=>exact rR ok h
  |Constant v k p=>exact uc h
  |BinOp a o b p=>
   refine qB h λo' ho h=>qB h λa' i h=>qM h λb' B e=>?_;subst e;exact .plain (λn=>rQ (uo ho) ((ih _ _ i).1 n) ((ih _ _ B).1 n)) (λ_=>rfl) (λ_ _ _=>rfl) rfl
  |Compare a os bs p=>exact vt ok ih h
  |BoolOp o es p=>exact uS ih h
  |UnaryOp o a p=>exact zA ih h
  |Tuple es k p=>
   refine qI h λhs h=>qM h λa' i e=>?_;subst e;exact .plain (λn=>xb (aR ih (aM hs) i n)) (λ_=>rfl) (λ_ _ _=>rfl) rfl
  |List es p=>
   refine qI h λhs h=>qM h λa' i e=>?_;subst e;exact .plain (λn=>aak (aR ih (aM hs) i n)) (λ_=>rfl) (λ_ _ _=>rfl) rfl
  |Subscript a s p=>exact wA ok.units ih h
  |Call fn es kws cp=>exact vF ok ih h
  |Attribute o f p=>
   refine qB h λcs C h=>qB h λo' ho h=>qI h λl h=>?_;cases h;rw[ZC]at l;let⟨y,w⟩:=cg l.1;exact .plain (λn=>zG ((ih _ _ ho).1 n) (base_of (aM l.2) _) w y (ok.hA.1 _ _ C)) (λ_=>rfl) (λ_ _ _=>rfl) rfl
  |Dict keys vs p=>exact u5 ih h
  |ListComp elt gs scope p=>cases gs with
   |nil=>exact qN h
   |cons g ZV=>
    refine qB h λq j h=>qM h λZl A e=>?_;subst e;let⟨t,Zy,cs,ZD,Zo,rfl,Z5,h1,h2,r,c⟩:=gz (fu:=fu) ok ih (λu=>aD m u) j;exact .plain (λn=>um ok.calm Z5 h1 (h2 n) r λZ s3 H3 fp=>⟨(c Z s3 H3 fp).2.1,(c Z s3 H3 fp).2.2.1,(c Z s3 H3 fp).2.2.2,(aD m (c Z s3 H3 fp).1 _ _ A).1⟩) (λ_=>rfl) (λ_ _ _=>rfl) rfl
  |DictComp F D gs scope p=>cases gs with
   |nil=>exact qN h
   |cons g ZV=>
    refine qB h λq j h=>qB h λk' hk h=>qM h λv' z e=>?_;subst e;let⟨t,Zy,cs,ZD,Zo,rfl,Z5,h1,h2,r,c⟩:=gz (fu:=fu) ok ih (λu=>aD m u) j;exact .plain (λn=>sI ok.calm (by have:=ok.units;lia) Z5 h1 (h2 n) r λZ s3 H3 fp=>⟨(c Z s3 H3 fp).2.1,(c Z s3 H3 fp).2.2.1,(c Z s3 H3 fp).2.2.2,(aD m (c Z s3 H3 fp).1 _ _ hk).1,(aD m (c Z s3 H3 fp).1 _ _ z).1⟩) (λ_=>rfl) (λ_ _ _=>rfl) rfl
  |_=>exact qN h
def pd(b:Zn T M d X sc N){m:Nat}{g:Comprehension}(h:Al T sc N (m+1) (.ListComp elt (g::ZV) scope pos)=some e'):
  ∃t Zy cs ZD Zl Zo,e'=.comp (ownOf (g::ZV)).length Zo ((t,Zy,cs)::ZD) Zl/\We X scope (ownOf (g::ZV)) (freeOf scope) Zo/\g.is_async=0/\(∀n,PI X g.target g.iter (tI X.K W0 (JW (J7 (Aa M fu d) n) Zy)))/\(∀x,foldedSetIterable g.iter X.env x=pure x) /\
   ∀Z s3 H3 fp,PG (Am X Z scope s3 H3 fp (ownOf (g::ZV)++freeOf scope)) g.target (tG X.K t)/\(∀n,PTs (Am X Z scope s3 H3 fp (ownOf (g::ZV)++freeOf scope)) g.ifs (AH (J7 (Aa M fu d) n).ts cs)) /\
    Bt (Am X Z scope s3 H3 fp (ownOf (g::ZV)++freeOf scope)) (Aa M fu d) ZV ZD /\∀n,PE (Am X Z scope s3 H3 fp (ownOf (g::ZV)++freeOf scope)) elt (tE X.K W0 ((J7 (Aa M fu d) n).ev Zl)):=by
 refine qB h λq c h=>qM h λZl f e=>?_;let⟨t,Zy,cs,ZD,Zo,rfl,Z5,h1,h2,i,a⟩:=gz (fu:=fu) b (aD m b) (λj=>aD m j) c;exact⟨t,Zy,cs,ZD,Zl,Zo,e.symm,Z5,h1,h2,i,λZ s3 H3 fp=>⟨(a Z s3 H3 fp).2.1,(a Z s3 H3 fp).2.2.1,(a Z s3 H3 fp).2.2.2,(aD m (a Z s3 H3 fp).1 _ _ f).1⟩⟩
end
section
variable{T:Tab}{M:List Fn}
def i8{t:Option Expr}(h:BV e=false):swapsWith e t l env=pure false:=by
 cases e<;>first|rfl|cases h
def oz{t:Expr}(h:BV e=false):swapsWithSole [t] e l env=pure false:=by
 cases e<;>first|rfl|cases h
def iJ{k:Nat}:swapsWithSole [.Tuple ts k p] e l env=pure false:=by
 cases e<;>rfl
def cf{f:Stmt->Option Z5}(c:∀s s',f s=some s' ->∀n,PS X s (ZF X.K W0 (JZ (J7 (Aa M fu d) n) s'))):∀{ss:List Stmt} {b:List Z5},Ab (ss.map f)=some b ->∀n,PSs X ss (ZF X.K W0 ((J7 (Aa M fu d) n).ex b))
 |[],_,h=>λn=>by
  cases h;cases n with
  |zero=>exact PSs.Z0 λ_ _=>rfl
  |succ n=>exact mw (r:=J7 (Aa M fu d) n)
 |s::ss,b,h=>λn=>by
  rw[Xk]at h;cases ea:f s with
  |none=>rw[ea]at h;cases h
  |some s'=>
   rw[ea]at h;simp![Ab]at h;cases a:Ab (ss.map f)with
   |none=>rw[a]at h;cases h
   |some r'=>
    rw[a]at h;cases h;cases n with
    |zero=>exact PSs.Z0 λ_ _=>rfl
    |succ n=>exact lW (c s s' ea n) (cf c a n)
def oV{c f:Pos}{b:Expr}{k2:Nat}(e:foldedForSure 8 a=true)(d:foldedForSure 8 b=true):swappedStores [.Tuple ts kt c] (.Tuple [a,b] k2 f) env=pure none:=by
 have h:[a,b].all (foldedForSure 8)=true:=by simp[e,d]
 delta swappedStores;dsimp only;rw[if_pos h,ite_self,ite_self,ite_self]
def qm{y:Str}{c e g u:Pos}{b:Expr}{k2:Nat}(j:Zn T M d X sc N)(o:X.env.blockKind=.function)(h:Cy sc x y c e a b=true):
  swappedStores [.Tuple [.Name x c,.Name y e] kt g] (.Tuple [a,b] k2 u) X.env=pure (some [x,y]):=by
 unfold Cy at h;simp![ZC,WC,WQ]at h;let⟨⟨⟨⟨⟨⟨⟨h1,h2⟩,t⟩,k⟩,s⟩,r⟩,q⟩,p⟩:=h;have m:X.env.kindOf x=some .local:=by show X.env.scope.names.lookup x=_;rw[j.Zb];exact h1
 have l:X.env.kindOf y=some .local:=by show X.env.scope.names.lookup y=_;rw[j.Zb];exact h2
 have nd:[x,y].eraseDups.length=2:=by
  have : ¬ (y==x)=true:=by intro z;rw[WQ]at z;subst z;simp at t
  simp[List.eraseDups_cons,this]
 have i:∀z,isStar z=false->¬((match z with|.Starred _ _=>true|_=>false)=true):=λz n=>by cases z<;>first|exact HQ|cases n
 have n:∀f:Expr->Option Str,f (.Name x c)=some x->f (.Name y e)=some y->List.filterMap f [.Name x c,.Name y e]=[x,y]:=λf a b=>by rw[List.filterMap_cons_some a,List.filterMap_cons_some b];rfl
 delta swappedStores;dsimp only;rw[n]
 .refine (Xy (by rw[o];exact HQ)).trans ((Xy λz=>?_).trans ((Xy (by rw[nd];exact HQ)).trans ((Xy ?_).trans ((Xy ?_).trans rfl))))
  .obtain ⟨w,f,d⟩:=Q7.mp z
   rcases Wc.mp f with rfl|f
   .exact i _ s d
   .rcases Wc.mp f with rfl|f
    .exact i _ r d
    .cases f
  .simpa using q
  .simpa using p
 .exact XN (by rw[m];exact beq_self_eq_true _)
 .exact XN (by rw[l];exact WQ.mpr k)
def pN{i:Expr}{WU:Pos}(h:Ck i=false)(v:Value):assign (.Subscript o i WU) env v=(do
   let ov<-holding [v] (eval o env)
   let iv<-holding [v,ov] (eval i env)
   standAt WU
   holding [v,ov,iv] (setItem ov iv v)
   release [v,ov,iv] []):=by
 cases i<;>first|rfl|cases h
def kR{l:List α}{p:α×α}(h:D1 l=some p):l=[p.1,p.2]:=by
 cases l with
 |nil=>cases h
 |cons a l=>cases l with
  |nil=>cases h
  |cons b l=>cases l with
   |nil=>cases h;rfl
   |cons _ _=>cases h
def ij{x:Str×Pos}(h:Il e=some x):e = .Name x.1 x.2:=by
 cases e with
 |Name y p=>cases h;rfl
 |_=>cases h
def vz{q:List Expr×Nat×Pos}(h:G6 e=some q):e = .Tuple q.1 q.2.1 q.2.2:=by
 cases e with
 |Tuple es k p=>cases h;rfl
 |_=>cases h
section
variable{cE:Expr->Option E}
def qo(b:Zn T M d X sc N)(z:X.env.blockKind=.function)(C:∀x,X.fn x=true)(g:∀e e',cE e=some e'->Good X (Aa M fu d) e e'){l:Pos}{e:Expr}(h:C1 T sc N cE ts kt l e=some Zd)(n:Nat):PS X (.Assign [.Tuple ts kt l] e pos) (ZF X.K W0 (JZ (J7 (Aa M fu d) n) Zd)):=by
 refine qB h λq w h=>qB h λt c h=>qB h λx v h=>qB h λy u h=>qB h λa B h=>?_;cases vz w;cases kR c;rw[ij v,ij u]at h ⊢;rw[kR B]at h ⊢;cases hp:Cy sc x.1 y.1 x.2 y.2 a.1 a.2 with
 |true=>
  rw[hp]at h;refine qB h λi hi h=>qB h λj o h=>qB h λa' h1 h=>qM h λb' h2 e=>?_;subst e;have k:=hp;unfold Cy at k;simp![ZC,WC,WQ]at k;let⟨⟨⟨⟨⟨⟨⟨s,p2⟩,m⟩,G⟩,r⟩,p⟩,F⟩,E⟩:=k;refine zN b.calm b.Uh (by rw[b.hN];exact ixOf_get hi) (by rw[b.hN];exact ixOf_get o) ?_ (by rw[b.Zb];exact s) (by rw[b.Zb];exact p2) ((g _ _ h1).1 n) ((g _ _ h2).1 n) (star_ne r) (star_ne p) (qm b z hp)
  intro D;subst D;have:=(ixOf_get hi).symm.trans (ixOf_get o);rw[WY this]at m;simp at m
 |false=>
  rw[hp]at h;refine qI h λf h=>qB h λt c h=>qM h λe' A e=>?_;subst e;rw[ZC]at f;exact ny ((g _ _ A).1 n) (cX b (λ_=>C) c) iJ (oV f.1 f.2) rfl
end
def qH(a:Zn T M d X sc N)(u:X.env.blockKind=.function)(w:∀x,X.fn x=true){m:Nat}{x:Str}{c:Pos}(h:FU sc N (Al T sc N m) x c e=some Zd)(n:Nat):PS X (.Assign [.Name x c] e pos) (ZF X.K W0 (JZ (J7 (Aa M fu d) n) Zd)):=by
 refine qI h λhc h=>qB h λi hi h=>qM h λe' j e=>?_;subst e;let⟨h1,h2,B⟩:=d7 hi;have plain:BV e=false->PS X (.Assign [.Name x c] e pos) (ZF X.K W0 (JZ (J7 (Aa M fu d) n) (.set (.nm i) e'))):=λhc=>mz a.Uh (by rw[a.hN];exact h1) (a.SO h2) (.inl (w _)) ((aD m a _ _ j).1 n) (i8 hc)
 cases e with
 |ListComp elt gs scope p=>cases gs with
  |nil=>cases hc
  |cons g ZV=>
   have l:D9 sc x c scope p=true:=hc;cases m with
   |zero=>cases j
   |succ m=>
    let⟨t,Zy,cs,ZD,Zl,Zo,rfl,A,v,y,z,b⟩:=pd a j;unfold D9 at l;rw[ZC,ZC,WQ,WQ]at l;let⟨⟨s,r⟩,q⟩:=l;have o:X.env.scope.names.lookup x=some .local:=by rw[a.Zb];exact s
    have f:X.env.kindOf x=some .local:=o;cases n with
    |zero=>exact PS.Z0 λ_ _=>rfl
    |succ n=>
     refine qt a.calm A v (y n) z b a.Uh (by rw[a.hN];exact h1) o ?_
     show(pure (X.env.blockKind==.function&&X.env.kindOf x==some .local&&c.line==p.line&&!(scope.names.any λ(n,k)=>n==x&&(k==.local||k==.cell))):Sem Bool)=pure true;rw[u,f,r,q];simp
 |_=>exact plain (aM hc)
def pR(b:Zn T M d X sc N)(j:X.env.blockKind=.function)(g:∀x,X.fn x=true){m:Nat}{t:Expr}(h:FJ T sc N (Al T sc N m) t e=some Zd)(n:Nat):PS X (.Assign [t] e pos) (ZF X.K W0 (JZ (J7 (Aa M fu d) n) Zd)):=by
 have a:=aD (fu:=fu) m b;cases t with
 |Name x y=>exact qH b j g h n
 |Tuple ts k p=>
  cases hc:Cu e with
  |true=>
   have h:(match Cu e with|true=>C1 T sc N (Al T sc N m) ts k p e|false=>(Bg true sc N (.Tuple ts k p)).bind λt=>(Al T sc N m e).map (Z5.set t))=some Zd:=h
   rw[hc]at h;exact qo b j g a h n
  |false=>
   have h:(match Cu e with|true=>C1 T sc N (Al T sc N m) ts k p e|false=>(Bg true sc N (.Tuple ts k p)).bind λt=>(Al T sc N m e).map (Z5.set t))=some Zd:=h
   rw[hc]at h;refine qB h λt s h=>qM h λe' c v=>?_;subst v;refine ny ((a _ _ c).1 n) (cX b (λ_=>g) s) iJ ?_ rfl;revert hc;cases e<;>first|exactλ_=>rfl|exactλh2=>nomatch h2
 |Subscript o i p=>
  refine qI h λhc h=>qB h λo' ho h=>qB h λz hi h=>qM h λe' c e=>?_;subst e;rw[ZC]at hc;exact zJ (by have:=b.units;omega) ((a _ _ c).1 n) ((a _ _ ho).1 n) ((a _ _ hi).1 n) (oz (aM hc.2)) rfl (pN (aM hc.1))
 |Attribute o f p=>
  refine qB h λx r h=>qB h λcs w h=>qB h λo' ho h=>qB h λe' c h=>qI h λu h=>?_;cases h;cases ij r;let⟨q,l⟩:=cg u;exact lz ((a _ _ ho).1 n) ((a _ _ c).1 n) (by unfold swapsWith;cases e<;>rfl) l q (b.hA.1 _ _ w)
 |_=>exact qN h
def gm(f:Zn T M d X sc N)(s:X.env.blockKind=.function)(l:∀x,X.fn x=true):∀m st Zd,Bf T sc N m st=some Zd ->∀n,PS X st (ZF X.K W0 (JZ (J7 (Aa M fu d) n) Zd))
 |0,_,_,h=>by cases h
 |m+1,st,Zd,h=>λn=>by
  have ih:=gm f s l m;have g:=aD (fu:=fu) m f;cases st with
  |Return o p=>cases o with
   |none=>exact qN h
   |some e=>exact qM h λa' k e=>by subst e;exact gT ((g _ _ k).1 n)
  |Assign ts e p=>cases ts with
   |nil=>exact qN h
   |cons t r=>
    refine qI h λi h=>?_;cases aI i;exact pR f s l h n
  |Expr e p=>
   have h:(match DT e with|true=>some Z5.never|false=>HZ (!BV e) ((Al T sc N m e).map .exp))=some Zd:=h
   cases q:DT e with
   |true=>rw[q]at h;cases h;exact PS.Z0 λ_ _=>rfl
   |false=>rw[q]at h;exact qI h λhc h=>qM h λa' k e=>by subst e;exact nk ((g _ _ k).1 n) (i8 (aM hc))
  |If c a b p=>exact qB h λc' hc h=>qB h λa' k h=>qM h λb' j e=>by subst e;exact ac0 ((g _ _ hc).2.1 n) (cf ih k n) (cf ih j n)
  |While c b o p=>
   refine qI h λi h=>qB h λc' hc h=>qM h λb' j e=>?_;subst e;cases aI i;exact aaI f.own (λn=>(g _ _ hc).2.1 n) (λn=>cf ih j n)
  |For tg it b o p=>
   refine qI h λi h=>qB h λt u h=>qB h λZy hi h=>qM h λb' j e=>?_;subst e;cases aI i;exact xV f.own f.calm ((bj f g hi).1 n) (cX f (λ_=>l) u) (λn=>cf ih j n) (bj (fu:=fu) f g hi).2
  |Raise a b p=>cases h;exact PS.Z0 λ_ _=>rfl
  |_=>exact qN h
end
open PySem PySem.Spec PyProof.Rows L2 PySem.W
variable{P:Program}{a e C N:Addr}{vs:Array Value}{Q:Unit->Shared->Prop}{hdct ab:Bool}{sn:List Str}{dd:Option Addr}{X7:String}{ZV:List Value}{oI:Obj}{self f:Str}
def _root_.L2.ObjOk.Sg{o:HO}(x:ObjOk P w H h a o):∃u,h.get? a=some u:=by
 cases o with
 |S xs=>let⟨_,_,_,_,e⟩:=x;exact⟨_,e⟩
 |Z1 xs=>let⟨_,_,_,ob,e,_⟩:=x;exact⟨_,e⟩
 |dK O=>let⟨_,_,_,_,o,_,_,e,_⟩:=x;exact⟨_,e⟩
 |dT O=>let⟨_,_,_,_,o,_,_,e,_⟩:=x;exact⟨_,e⟩
 |set Z5 n=>let⟨o,_,_,_,e,_⟩:=x;exact⟨_,e⟩
 |ins C dx fs=>let⟨_,_,_,e,_⟩:=x;exact⟨_,e⟩
 |own y=>exact x
 |xd fs=>let⟨_,⟨_,_,_,e,_⟩,_⟩:=x;exact⟨_,e⟩
 |YS lo hi=>let⟨_,_,_,e⟩:=x;exact⟨_,e⟩
 |Zw ob u=>let⟨e,_⟩:=x;exact⟨_,e⟩
 |ext b=>let⟨_,e,_⟩:=x;exact e
 |_=>exact⟨_,(show h.get? a=some _ from x)⟩
def _root_.L2.HOk.off(x:HOk P w H h)(e:h.get? a=none):H a=none:=by
 cases q:H a with
 |none=>rfl
 |some o=>let⟨u,z⟩:=(x a o q).Sg;rw[e]at z;cases z
def Tr(h:Heap)(e:Addr)(C:Value)(c:Option Addr)(T:Addr)(b:Value):Prop:=
 ∃oe vs a ts,h.get? e=some oe/\oe.cls=C/\oe.dict=c/\oe.data=.fields vs/\vs[1]?=some (.ref T)/\T≠e/\h.get? T=some a/\a.data=.fields ts/\ts[3]?=some b
structure Yn(fr ch:List Addr)(h h':Heap):Prop where
 keep:∀b o,h.get? b=some o->b ∉ fr->b ∉ ch->h'.get? b=some o
 slot:∀b o,h.get? b=some o->b∈fr ->∃sl,h'.get? b=some {o with slots:=sl}
def Yn.trans{fr:List Addr}{f d c:Heap}(a:Yn fr ch f d)(b:Yn fr ch d c):Yn fr ch f c:=by
 refine⟨λx o e n m=>b.keep x o (a.keep x o e n m) n m,λx o e n=>?_⟩;let⟨j,h⟩:=a.slot x o e n;let⟨i,g⟩:=b.slot x _ h n;exact⟨i,g⟩
def Yn.mono{fr ch c:List Addr}(a:Yn fr ch h h')(s:∀b∈ch,b∈c):Yn fr c h h':=⟨λx o e n m=>a.keep x o e n λz=>m (s x z),a.slot⟩
section
variable{E:Value->Shared->Prop}{Z8:Addr}
def kJ{o:Obj}{fr:List Addr}{x:Value}(g:h.get? a=some o)(f:o.data=.fields vs)(d:a∈ch)(c:a ∉ fr):Yn fr ch h (h.update a (Obj.mapFields (·.setIfInBounds i x))):=
 ⟨λb u e _ m=>by
  have z:a≠b:=λz=>m (z ▸ d)
  rw [VE _ _ z];exact e,λb u e n=>⟨u.slots,by
  have z:a≠b:=λz=>c (z ▸ n);rw[VE _ _ z];exact e⟩⟩
def ka{head:Value}{hn:Bool}(Yd:A.frames=some (env::outer))(hl:s.heap.FunFrames base (env::outer))(hf:env.frame=some Z8)
  (he:s.heap.get? e=some oe) (hd:oe.data=.fields vs) (hsz:1<vs.size)
  (h:∀h' T,Yn (frs (env::outer)) [e] s.heap h'->s.heap.get? T=none->Tr h' e oe.cls oe.dict T (rawInt Z8)->Q Unit.unit {s with heap:=h'}) :
  wpAny Z9 A (do let a<-frameOf env;let pl<-entryPlaceOf Z8 hn;let b<-EntryCells.newEntry head a .none (rawInt Z8) .none pl;setField (.ref e) 1 b) Q E s:=by
 have SM:e ∉ frs (env::outer):=λhm=>by
  let⟨_,o,ho,V0⟩:=hl.mem hm;rw[he]at ho;cases ho;exact V0 vs hd
 refine ZB (wpAny_frameOf_fun Yd hl hf λXT TC=>?_);refine ZB (wpAny_entryPlaceOf λpl Y4=>?_);unfold EntryCells.newEntry newFields;refine ZB (UU ?_ (Y4.sizeOk5 _ _ _ _ _));have SK : XT.get? e=some oe:=(TC.2.1 e SM).trans he;generalize hO:({cls:=.type "traceback",dict:=none,data:=.fields ([head,.ref Z8,.none,rawInt Z8,.none]++(if pl.isEmpty then List.replicate 6 Value.none else pl)).toArray}:Obj)=Z6
 have SJ:=HM (h:=XT) Z6 SK;refine R7 SJ hd hsz (h _ XT.objs.size ?_ ?_ ?_)
 .refine ⟨λb o q n m=>?_,λb o q n=>?_⟩
  .have W3:b≠e:=λz=>m (by simp[z])
   rw[VE _ _ (Ne.symm W3)];exact HM _ ((TC.2.1 b n).trans q)
  .have W3:b≠e:=λz=>SM (z ▸ n)
   let⟨sl,Ug⟩:=TC.2.2 b o q;exact⟨sl,by rw[VE _ _ (Ne.symm W3)];exact HM _ Ug⟩
 .exact S8 (Qy TC.1.symm)
 .have VZ:XT.objs.size≠e:=Rm (HN SK)
  have SI:=SX hd (·.setIfInBounds 1 (Value.ref XT.objs.size));refine⟨_,_,Z6,([head,.ref Z8,.none,rawInt Z8,.none]++(if pl.isEmpty then List.replicate 6 Value.none else pl)).toArray,T1 _ SJ (Rv SI),Obj.cls_mapFields _ _,?_,SI,by simp[hsz],VZ,?_,?_,?_⟩
  .obtain ⟨c1,d1,dd1,s1⟩:=oe
   dsimp only at hd;subst hd
   rfl
  .rw [VE _ _ (Ne.symm VZ)]
   exact HW XT (by rw[<-hO];rfl)
  .rw [<-hO]
  .rcases Y4 with rfl|⟨_,_,_,_,_,_,_,rfl⟩<;>simp
def qe(j:A.frames=some (env::outer))(g:s.heap.FunFrames base (env::outer))(a:env.frame=some Z8)
  (c:s.heap.get? e=some oe) (d:oe.data=.fields vs) (f:vs[1]?=some .none)
  (h:∀h' T,Yn (frs (env::outer)) [e] s.heap h'->s.heap.get? T=none->Tr h' e oe.cls oe.dict T (rawInt Z8)->Q Unit.unit {s with heap:=h'}):wpAny Z9 A (noteFrame (.ref e) env) Q E s:=by
 unfold noteFrame;simp![a];refine ZB (RZ c d f ?_);rw[Xy #[1]]
 exact ka j g a c d (T8.mp f).1 h
def k9{C:Value}{T:Addr}(H:A.frames=some (env::outer))(u:s.heap.FunFrames base (env::outer))(w:env.frame=some Z8)(F:Tr s.heap e C dx T .none)
  (h:∀h' f,Yn (frs (env::outer)) [e,T] s.heap h'->s.heap.get? f=none->Tr h' e C dx f (rawInt Z8)->Q Unit.unit {s with heap:=h'}):wpAny Z9 A (noteFrame (.ref e) env) Q E s:=by
 let⟨oe,vs,M,ts,y,rfl,rfl,B,h1,J,a,c,D⟩:=F;have I:T ∉ frs (env::outer):=λG=>by
  let⟨_,o,ho,t⟩:=u.mem G;rw[a]at ho;cases ho;exact t ts c
 unfold noteFrame;simp![w];refine ZB (RZ y B h1 ?_);rw[XN (show(Value.ref T != Value.none)=true from by simp)]
 refine ZB (RZ a c D ?_);rw[Xy (show ¬ ((Value.none==rawInt Z8)=true)from by simp[rawInt])]
 refine ZB (R7 a c (T8.mp D).1 ?_);have L:Yn (frs (env::outer)) [T] s.heap (s.heap.update T (Obj.mapFields (·.setIfInBounds 3 Value.none))):=kJ a c #[3] I
 have k:(s.heap.update T (Obj.mapFields (·.setIfInBounds 3 Value.none))).get? e=some oe:=by rw[VE _ _ J];exact y
 have j:(s.heap.update T (Obj.mapFields (·.setIfInBounds 3 Value.none))).FunFrames base (env::outer):=u.of_keeps λb o r t=>by
  have z:T≠b:=λz=>by rw[<-z,a]at r;cases r;exact t ts c
  exact⟨o,by rw[VE _ _ z];exact r,rfl⟩
 refine ka H j w k B (T8.mp h1).1 λh' f K d g=>h h' f ((L.mono #[3]).trans (K.mono #[3])) ?_ g
 have:T≠f:=λz=>by
  rw[<-z]at d;rw[T1 _ a (Rv (SX c _))]at d;cases d
 rw[VE _ _ this]at d;exact d
def dC{C r:Value}{T:Addr}{fr:List Addr}(t:T ∉ fr)(k:Tr s.heap e C dx T r)
  (h:∀h',Yn fr [T] s.heap h'->Tr h' e C dx T .none->Q Unit.unit {s with heap:=h'}):wpAny Z9 A (setFlight (.ref e) none) Q E s:=by
 let⟨oe,vs,u,ts,f,rfl,rfl,g,h1,j,d,c,o⟩:=k;unfold setFlight;refine ZB (RZ f g h1 ?_);rw[XN (show(Value.ref T != Value.none)=true from by simp)]
 have a:3<ts.size:=(T8.mp o).1;refine R7 d c a (h _ (kJ d c #[3] t) ?_)
 refine⟨oe,vs,_,_,?_,rfl,rfl,g,h1,j,T1 _ d (Rv (SX c _)),SX c _,?_⟩
 .rw [VE _ _ j];exact f
 .simp [a]
def oP(u:A.frames=some (env::outer))(c:s.heap.FunFrames base (env::outer))(k:env.frame=some Z8)
  (r:s.heap.get? e=some oe) (t:oe.data=.fields vs) (f:vs[1]?=some .none)
  (h:∀h' T,Yn (frs (env::outer)) [e,T] s.heap h'->s.heap.get? T=none->Tr h' e oe.cls oe.dict T .none->Q Unit.unit {s with heap:=h'}):wpAny Z9 A (leaving env (.ref e)) Q E s:=by
 unfold leaving;refine ZB (qe u c k r t f λf T z d g=>?_);have w:T ∉ frs (env::outer):=λj=>by
  let⟨_,o,ho,_⟩:=c.mem j;rw[d]at ho;cases ho
 exact dC w g λh2 y a=>h h2 T ((z.mono #[3]).trans (y.mono #[3])) d a
def rH{C:Value}{T:Addr}(r:A.frames=some (env::outer))(f:s.heap.FunFrames base (env::outer))(k:env.frame=some Z8)(d:Tr s.heap e C dx T .none)
  (h:∀h' a,Yn (frs (env::outer)) [e,T,a] s.heap h'->s.heap.get? a=none->Tr h' e C dx a .none->Q Unit.unit {s with heap:=h'}):wpAny Z9 A (leaving env (.ref e)) Q E s:=by
 unfold leaving;refine ZB (k9 r f k d λh1 a w g d=>?_);have t:a ∉ frs (env::outer):=λj=>by
  let⟨_,o,ho,_⟩:=f.mem j;rw[g]at ho;cases ho
 exact dC t d λh2 u c=>h h2 a ((w.mono #[3]).trans (u.mono #[3])) g c
end
open PySem PySem.Spec PySem.Calls PyProof.Rows L2 PySem.W PySem.Builtin PySem.Builtin.ObjectAttr
def a8(self:Value){l:List Value}(h:DY.contains l=true):refuseLoop self "__setattr__" l=pure Unit.unit:=by
 have h:=W8.mp h;unfold DY at h;simp![Wc,T6,Qq]at h;rcases h with rfl|rfl|rfl|rfl<;>kernel_rfl
def jL(self:Value):∀{l:List Value},Ba l=true->refuseLoop self "__setattr__" l=pure Unit.unit
 |.ref C::r,h=>by rw[refuseLoop_ref];exact jL self (by simpa[Ba]using h)
 |[],h=>a8 self (by simpa[Ba]using h)
 |.type T::r,h=>a8 self (by simpa[Ba]using h)
 |.none::r,h=>a8 self (by simpa[Ba]using h)
 |.bool _::r,h=>a8 self (by simpa[Ba]using h)
 |.int _ _::r,h=>a8 self (by simpa[Ba]using h)
 |.float _ _::r,h=>a8 self (by simpa[Ba]using h)
 |.str _ _::r,h=>a8 self (by simpa[Ba]using h)
 |.bytes _ _::r,h=>a8 self (by simpa[Ba]using h)
 |.builtin _::r,h=>a8 self (by simpa[Ba]using h)
section
variable{E:Value->Shared->Prop}{K:Frag}{x:Addr}{ox:Obj}{od:Option Obj}{v:Value}
def jt{tk:Tok}{R:Result->Shared->Prop}(X:K.In s.heap)(I:PySem.W.InstAt s.heap x ox C od)(hp:CI K C=true)(k:takerIn K C name=some none)
  (h:∀ b,wpAny (model prog w) A.in1 (storeInOwnDict (.ref x) (.ref C) (.str name tk) name v b)
   (λi s'=>match i with|.done f=>R (.ok f) s'|.again c'=>c'.quiet=true/\codeAny (model prog w) A c' R s') (λe s'=>R (.error e) s') s) :
  codeAny (model prog w) A (.call (.builtin "object.__setattr__") ⟨[.ref x,.str name tk,v],[]⟩) R s:=by
 have d:=PySem.F.store_object;let⟨o,hc,ho⟩:=any_some hp;simp![ZC,WC]at ho;let⟨⟨h1,h2⟩,j⟩:=ho;have sub:Looks (model prog w) s.heap (isInstance (.ref x) (.type "object")) true:=I.type.andThen (looks_mroIn X (by unfold mroIn;rw[hc,Rl,Xy (by rw[j];decide),h2]))
 refine Qr d.slot.plain d.entry (@check_slot (model prog w) _ _ s "object.__setattr__" "object" "__setattr__" (.ref x) [.str name tk,v] [] _ d.kind d.split sub (d.args (.ref x) (.str name tk) v) ?_);let⟨c,n,g⟩:=W6.mp k;have l:Looks (model prog w) s.heap (mroOf (.ref C)) o.mro:=(looks_clsIn X hc).andThen .now;have p:Looks (model prog w) s.heap (storeTaker? c) none:=by
  cases c with
  |none=>exact .now
  |some a=>
   let⟨b,m,g⟩:=YU.mp g;refine(looks_takesIn X m).andThen ?_;cases b with
   |true=>cases g
   |false=>exact .now
 rw[osa_eq,refuse_eq];refine ZB (ZB (I.type.here (ZB (l.here ?_))));rw[jL _ h1];refine ZP (ZB (I.type.here (ZB ((Pb X n).here (ZB (p.here ?_))))));exact h _
def sR(X:K.In s.heap)(he:s.heap.get? x=some ox)(hc:ox.cls=.ref C)(WR:ox.dict=none)(YG:notCls ox=true)(hs:findIn K (.ref C) "__setattr__" = some (some (.builtin "object.__setattr__")))(hp:CI K C=true)(ht:takerIn K C name=some none)(hh:hasDictIn K C=true)
  (h:∀h' dx,s.heap.get? dx=none->h'.get? x=some {ox with dict:=some dx}->h'.Ns1 dx (λy=>if y=name then some v else none)->(∀b o,b≠x->s.heap.get? b=some o->h'.get? b=some o)->Q Unit.unit {s with heap:=h',toks:=s.toks+2}) :
  wpAny (model prog w) A (setAttr (.ref x) name v) Q E s:=by
 have I:PySem.W.InstAt s.heap x ox C none:=⟨he,hc,YG,by rw[WR];trivial⟩
 refine set_plain X I hs (jt (s:={s with toks:=s.toks+1}) X I hp ht λb=>?_)
 let⟨cd,Y8,Xs⟩:=any_some hh;let⟨KG,odi,VY,YL⟩:=ox;dsimp only at hc WR;subst hc;subst WR;refine ZB (ZP (ZB ?_));show wpAny _ _ (instanceDict x true) _ _ _;unfold instanceDict;refine ZB (QE he ?_);dsimp only;refine ZB ((looks_clsIn X Y8).here (s:={s with toks:=s.toks+1}) ?_)
 rw[Xs];have he1:(s.heap.push {cls:=.type "dict",data:=.dict #[]}).get? x=some ⟨.ref C,none,VY,YL⟩:=HM _ he;have hxs:x≠s.heap.objs.size:=HV (HN he);show wpAny _ _ (match VY with|.cls _=>pure none|_=>_) _ _ _
 have fin:∀{R:Option Addr->Shared->Prop} {E':Value->Shared->Prop},R (some s.heap.objs.size) {s with heap:=(s.heap.push {cls:=.type "dict",data:=.dict #[]}).update x λo=>{cls:=o.cls,dict:=some s.heap.objs.size,data:=o.data,slots:=o.slots},toks:=s.toks+1}->wpAny (model prog w) A.in1 (do
   let d<-PySem.alloc {cls:=.type "dict",data:=.dict #[]}
   update x λo=>{cls:=o.cls,dict:=some d,data:=o.data,slots:=o.slots}
   dictMade (.ref C) x d) R E' {s with toks:=s.toks+1}:=λq=>ZB (wpAny_alloc' (ZB (wpAny_update' he1 (ZP q))))
 have key:∀{Q':Fin->Shared->Prop} {E':Value->Shared->Prop},(∀h',h'.get? x=some ⟨.ref C,some s.heap.objs.size,VY,YL⟩->h'.Ns1 s.heap.objs.size (λy=>if y=name then some v else none)->(∀b o,b≠x->s.heap.get? b=some o->h'.get? b=some o)->Q' (.done (.ret .none)) {s with heap:=h',toks:=s.toks+2}) ->
   wpAny (model prog w) A.in1 (storeInDict s.heap.objs.size (.str name s.toks) name v) Q' E' {s with heap:=(s.heap.push {cls:=.type "dict",data:=.dict #[]}).update x λo=>{cls:=o.cls,dict:=some s.heap.objs.size,data:=o.data,slots:=o.slots},toks:=s.toks+1}:=λ{Q' E'} q=>by
  generalize hh1:((s.heap.push {cls:=.type "dict",data:=.dict #[]}).update x λo=>{cls:=o.cls,dict:=some s.heap.objs.size,data:=o.data,slots:=o.slots})=h1;have hgd:h1.get? s.heap.objs.size=some {cls:=.type "dict",data:=.dict #[]}:=by
   rw[<-hh1];exact(Heap.get?_update_ne _ _ _ _ hxs.symm).trans (Heap.get?_push_at rfl rfl)
  have hgx:h1.get? x=some ⟨.ref C,some s.heap.objs.size,VY,YL⟩:=by
   rw[<-hh1];refine T1 _ he1 ?_;have Yd:=(Heap.get?_some_iff.mp he).2;cases VY<;>first|rfl|exact Yd
  have Wx:h1.Ns s.heap.objs.size (λ_=>none):=⟨_,#[],_,hgd,rfl,λe he=>absurd he #[3],λ_=>rfl⟩
  unfold storeInDict newKeyGuard;refine ZB (ZP (ZB (wpAny_nsSet1 (s:={s with heap:=h1,toks:=s.toks+1}) (Heap.Ns1.of_empty Wx) λh' Zv U4=>?_)))
  let⟨oD,esD,epD,Uz,Uy,Xp⟩:=Zv.count (QR name v PySem.Within.nil);refine ZB (Q1 Uz (by rw[Uy];exact Q3 (HP Xp (by rw[X8,Vq,Tz];lia))) ?_)
  refine ZP (q h' ((U4.2 x hxs).trans hgx) Zv λb o hb e=>?_);refine(U4.2 b (HV (HN e))).trans ?_;rw[<-hh1];exact(Heap.get?_update_ne _ _ _ _ hb).trans (HM _ e)
 cases VY with
 |cls cd'=>cases YG
 |_=>exact fin (key λh' a1 a2 a3=>h h' _ (S8 (HR _)) a1 a2 a3)
def tM{a:Addr}{c:Str->Option Value}{ns:List Str}(X:K.In s.heap)(k:s.heap.get? x=some ox)(f:ox.cls=.ref C)(g:ox.dict=some a)(J:notCls ox=true)(o:s.heap.Ns1 a c)(u:PySem.Within c ns)(hsz:ns.length<sizeLine)
  (B:findIn K (.ref C) "__setattr__" = some (some (.builtin "object.__setattr__"))) (hp:CI K C=true) (z:takerIn K C name=some none) (D:hasDictIn K C=true)
  (h:∀h',h'.Ns1 a (λy=>if y=name then some v else c y)->Heap.SameBut a s.heap h'->Q Unit.unit {s with heap:=h',toks:=s.toks+2}) :
  wpAny (model prog w) A (setAttr (.ref x) name v) Q E s:=by
 let⟨od,ho,_⟩:=gh o;have I:PySem.W.InstAt s.heap x ox C (some od):=⟨k,f,J,by rw[g];exact ho⟩
 refine set_plain X I B (jt (s:={s with toks:=s.toks+1}) X I hp z λb=>?_)
 let⟨S,L,M⟩:=any_some D;let⟨KG,t,U,T⟩:=ox;dsimp only at f g;subst f;subst g;refine ZB (ZP (ZB ?_));show wpAny _ _ (instanceDict x true) _ _ _;unfold instanceDict;refine ZB (QE k ?_);dsimp only;refine ZB ((looks_clsIn X L).here (s:={s with toks:=s.toks+1}) ?_)
 rw[M];have d:∀{j:Fin->Shared->Prop} {E':Value->Shared->Prop},(∀h',h'.Ns1 a (λy=>if y=name then some v else c y)->Heap.SameBut a s.heap h'->j (.done (.ret .none)) {s with heap:=h',toks:=s.toks+2}) ->
   wpAny (model prog w) A.in1 (storeInDict a (.str name s.toks) name v) j E' {s with toks:=s.toks+1}:=λ{j E'} q=>by
  unfold storeInDict newKeyGuard;refine ZB (ZP (ZB (wpAny_nsSet1 (s:={s with toks:=s.toks+1}) o λh' r H=>?_)))
  let⟨R,F,G,O,P,N⟩:=r.count (QR name v u);refine ZB (Q1 O (by rw[P];exact Q3 (HP N (by rw[X8];lia))) ?_)
  exact ZP (q h' r H)
 rw[Xy #[1]]
 exact ZP (d h)
end
open PySem PySem.Spec PySem.Calls PyProof.Rows L2 PySem.W
section
variable{E:Value->Shared->Prop}{g:Array GenState}{d:Drawn}{t:Nat}{os:OsState}
variable{nm q:Str}{bs:List Value}{k0 k1 k2 k3 k5:Option Value}{B:String}
def oy(F:ExcBaseFacts B newId X7 YD)(T:OwnTail h YD bm){mN:Str->Option Value}{Q:Fin->Shared->Prop}
  (c:h.get? C=some (excClassObj nm q C N bs bm hdct sn sub ab col dd k0 k1 k2 k3 k5 newId)) (D:h.Ns N mN) (G:mN "__init__" = some (.ref fI)) (K:h.get? fI=some oI) (J:oI.cls=.type "function")
  (z:∀h' e,Heap.MadeExcOf h h' e (.ref C) ZV->wpAny (model prog w) A (call (.ref fI) (.ref e::ZV)) (λr s'=>r=.none/\Q (.done (.ret (.ref e))) s') E ⟨h',g,d,t,os⟩) (I:ZV.length<=sizeLine) :
  wpAny (model prog w) A (Builtin.«type.__call__» ⟨.ref C::ZV,[]⟩) Q E ⟨h,g,d,t,os⟩:=by
 repeat (first|with_reducible refine Rx c ?_|with_reducible refine wpAny_madeBy_exc c ?_|wp_step)
 refine codeAny_call_builtin_code (QM _ F.quiet) (wpAny_check_new_subT F T c ?_);refine codeAny_exc_new_subT F T c ?_ I;show wpAny _ _ _ _ _ _;have a:∀(b:Addr) (o:Obj),h.get? b=some o->((h.push {cls:=.type "tuple",data:=.seq ZV.toArray}).push {cls:=.ref C,data:=.fields #[.ref h.objs.size,.none,.none,.none,.bool false,.none]}).get? b=some o:=
  λb o e=>HM _ (HM _ e)
 have u:=a _ _ c;have L:=a _ _ K;have M:=D.keeps a;have f:=T.keeps a;have k:((h.push {cls:=.type "tuple",data:=.seq ZV.toArray}).push {cls:=.ref C,data:=.fields #[.ref h.objs.size,.none,.none,.none,.bool false,.none]}).get? (h.objs.size+1)=some
   {cls:=.ref C,data:=.fields #[.ref h.objs.size,.none,.none,.none,.bool false,.none]}:=by heap_get
 have j:(Value.ref C::bm).contains (.ref C)=true:=by simp
 unfold isInstance
 repeat (first|with_reducible refine Rx k ?_|(with_reducible refine wpAny_isSubtype_exc u ?_;rw[j])|wp_step)
 show wpAny _ _ (typeLookup (.ref C) _) _ _ _;refine wpAny_typeLookup_tail u M f F.mroIs F.init.lookup ?_;rw[G];refine US (ZB ?_);unfold bindSpecial;refine ZB (wpAny_typeOf (T:="function") ⟨_,L,J⟩ ?_);rw[XN #[1]]
 refine ZP (ZB (V6 (z _ (h.objs.size+1) ⟨a,S8 (UL _),h.objs.size,k,S8 (HR _),?_⟩) (λr s' y=>?_) λ_ _ x=>x))
 .exact HM _ (Heap.get?_push_at rfl rfl)
 .obtain ⟨rfl,H⟩:=y
  wp_walk
  exact H
def qP(F:ExcBaseFacts B newId X7 YD)(T:OwnTail h YD bm){mN:Str->Option Value}{Q:Value->Shared->Prop}
  (a:h.get? C=some (excClassObj nm q C N bs bm hdct sn sub ab col dd k0 k1 k2 k3 k5 newId)) (c:h.Ns N mN) (i:mN "__init__" = some (.ref fI)) (l:h.get? fI=some oI) (k:oI.cls=.type "function")
  (b:∀h' e,Heap.MadeExcOf h h' e (.ref C) ZV->wpAny (model prog w) (A.under (.builtin "type.__call__" ⟨.ref C::ZV,[]⟩)) (call (.ref fI) (.ref e::ZV)) (λr s'=>r=.none/\Q (.ref e) s') E ⟨h',g,d,t,os⟩) (j:ZV.length<=sizeLine) :
  wpAny (model prog w) A (call (.ref C) ZV) Q E ⟨h,g,d,t,os⟩:=by
 have f1:=tc_lookup;have f2:=tc_bind (.ref C);have m:(⟨h,g,d,t,os⟩:Shared).TypeIs (.ref C) "type":=⟨_,a,rfl⟩;refine Qf (codeAny_of_tree ?_);show wpAny _ _ (callAny (.ref C) _) _ _ _
 repeat (any_goals (first|assumption|with_reducible refine Rx a ?_|wp_step))
 refine⟨rfl,?_⟩;refine codeAny_call_builtin_at (QM _ (by decide +kernel)) entry_typeCall (wpAny_check_type_call_sub a (oy F T a c i l k (λh' e f=>?_) j))
 exact b h' e f
end
section
variable{E:Value->Shared->Prop}
variable{nm q:Str}{bs:List Value}{k0 k1 k2 k3 k5:Option Value}
def pG{x:Sem Value}{Q:Flow->Shared->Prop}(r:bm.contains (.type "BaseException")=true)(j:A.handled=none)
  (h:wpAny Z9 A x (λv a => ∃ e t dx,v=.ref e/\a.heap.get? C=some (excClassObj nm q C N bs bm hdct sn sub ab col dd k0 k1 k2 k3 k5 newId) /\
   a.heap.get? e=some {cls:=.ref C,dict:=dx,data:=.fields #[.ref t,.none,.none,.none,.bool false,.none]}/\E (.ref e) a) E s) :
  wpAny Z9 A (raiseStmt env (some x) none) Q E s:=by
 have c:(Value.ref C::bm).contains (.type "BaseException")=true:=by rw[QH,r,Bool.or_true]
 unfold raiseStmt;refine ZB (V6 h (λv a u=>?_) λ_ _ x=>x);let⟨e,t,dx,rfl,f,k,o⟩:=u;let⟨w,g,d,tk,os⟩:=a
 repeat (first|with_reducible refine Rx k ?_|with_reducible refine Rx f ?_|(with_reducible refine wpAny_isSubtype_exc f ?_;rw[c])|wp_step)
 exact wpAny_raiseNew_none j o
end
section
variable{E:Value->Shared->Prop}
variable{nm q:Str}{bs:List Value}{k0 k1 k2 k3 k5:Option Value}{B:String}
def pZ(F:ExcBaseFacts B newId X7 YD){mN:Str->Option Value}{H:Pos}{args:List Expr}{Q:Flow->Shared->Prop}
  (S:bm.contains (.type "BaseException")=true) (P:A.handled=none) (X:(backTo Zt (starEach args env)).any (·.1)=false) (O:mN "__init__" = some (.ref fI)) (V:oI.cls=.type "function")
  (h:wpAny (model prog w) A (eval (.Name x H) env) (λf J => f=.ref C/\wpAny (model prog w) A (evalArgs (.ref C) true (backTo Zt (starEach args env)) [])
   (λa c => a.kw=[]/\a.pos.length<=sizeLine/\c.heap.get? C=some (excClassObj nm q C N bs bm hdct sn sub ab col dd k0 k1 k2 k3 k5 newId)/\c.heap.Ns N mN/\OwnTail c.heap YD bm/\c.heap.get? fI=some oI /\
    ∀h' e,Heap.MadeExcOf c.heap h' e (.ref C) a.pos->wpAny (model prog w) (A.under (.builtin "type.__call__" ⟨.ref C::a.pos,[]⟩)) (call (.ref fI) (.ref e::a.pos))
     (λr o=>r=.none/\o.heap.get? C=some (excClassObj nm q C N bs bm hdct sn sub ab col dd k0 k1 k2 k3 k5 newId)/\(∃t dx,o.heap.get? e=some {cls:=.ref C,dict:=dx,data:=.fields #[.ref t,.none,.none,.none,.bool false,.none]})/\E (.ref e) o) E {c with heap:=h'}) E J) E s) :
  wpAny (model prog w) A (exec (.Raise (some (.Call (.Name x H) args [] Zt)) none pos) env) Q E s:=by
 rw[arm_exec_Raise];refine ZB (Tp (pG (C:=C) (nm:=nm) (q:=q) (N:=N) (bs:=bs) (bm:=bm) (hdct:=hdct) (sn:=sn) (sub:=sub) (ab:=ab) (col:=col) (dd:=dd) (k0:=k0) (k1:=k1) (k2:=k2) (k3:=k3) (k5:=k5) (newId:=newId) S P (ZB (V6 (wpAny_Call_ofName (V6 h (λf J D=>?_) λ_ _ x=>x)) (λv o j=>ZB (Tp (ZP j))) λ_ _ x=>x))));let⟨rfl,D⟩:=D;unfold callWith;refine ZB (US (V6 D (λa c G=>ZB (Tp ?_)) λ_ _ x=>x));let⟨apos,y⟩:=a;let⟨U,k,I,L,T,W,G⟩:=G;obtain rfl:y=[]:=U;let⟨Y,g,d,tk,os⟩:=c;rw[X];refine ZB (wpAny_keeperOf_exc I ?_);refine ZB (qP F T I L O W V (λh' e M=>?_) k);refine V6 (G h' e M) (λr o ⟨K,u,⟨t,dx,he⟩,R⟩=>⟨K,ZB (US (wpAny_point (ZP ⟨e,t,dx,rfl,u,he,R⟩)))⟩) λ_ _ z=>z
end
abbrev X5(e:Addr)(oe:Obj):HO:=.ext λh=>h.get? e=some oe
def BL(H:Hp)(e:Addr):Hp:=λa=>if a=e then none else H a
def bN(h:a≠e):BL H e a=H a:=by unfold BL;rw[Xy h]
def jW:BL H e e=none:=by unfold BL;rw[XN rfl]
section
variable{Y:L2.St}
def adb(I:L2.Z4 X Z Y H s)(f:s.heap.get? e=some oe)(j:H e=none)(l:X.ZH.heap.get? e=none)(i:e≠X.env.locals)(h:∀x c,X.env.cells.lookup x=some c->c≠e)(hp:∀p∈X.pn++Z,p.1≠e):L2.Z4 X Z Y (upd H e (X5 e oe)) s:=by
 have d:∀b u,H b=some u->b≠e:=λb u q z=>by rw[z,j]at q;cases q
 refine⟨I.ok,I.os,I.bare,⟨I.base.keep,I.base.slot,λb o q n g=>?_,I.base.there,λb xs q=>?_,λb o u q=>?_,λb ps q=>?_⟩,I.loc,I.cell,?_,λx c q=>?_,λp q=>?_,λa o q=>?_,I.len⟩
 .rw [aa (λz=>by rw[z,l]at q;cases q)];exact I.base.free b o q n g
 .have:=I.base.Xv b xs q;rw[aa (d b _ this)];exact this
 .have:=I.base.XI b o u q;rw[aa (d b _ this)];exact this
 .obtain ⟨m,this⟩:=I.base.Xu b ps q;exact⟨m,by rw[aa (d b _ this)];exact this⟩
 .rw [aa (Ne.symm i)];exact I.free
 .rw [aa (h x c q)];exact I.Ym x c q
 .obtain ⟨y,w,v,t,r⟩:=I.pin p q
  exact⟨y,by rw[aa (hp p q)];exact w,v,t,r⟩
 .by_cases z:a=e
  .subst z
   rw[upd_same]at q;cases q;exact⟨f,⟨oe,f⟩,λh1 h2 p k=>k _ p⟩
  .rw [aa z]at q
   exact(I.ZQ a o q).Yv (λ_ _ _ k=>k) (λb k=>by rw[aa (d b _ k)];exact k) λb xs k=>by rw[aa (d b _ k)];exact k
def vK{g:Heap->Prop}(I:L2.Z4 X Z Y H s)(i:H e=some (.ext g)):L2.Z4 X Z Y (BL H e) s:=by
 have sub:∀b,H b=none->BL H e b=none:=λb q=>by
  unfold BL;split
  .rfl
  .exact q
 have f:∀b u,H b=some u->(∀d,u ≠ .ext d)->b≠e:=λb u q k z=>by rw[z,i]at q;cases q;exact k _ rfl
 refine⟨I.ok,I.os,I.bare,⟨I.base.keep,I.base.slot,λb o q n h=>sub b (I.base.free b o q n h),I.base.there,λb xs q=>?_,λb o u q=>?_,λb ps q=>?_⟩,I.loc,I.cell,sub _ I.free,λx c q=>sub _ (I.Ym x c q),λp q=>?_,λa o q=>?_,I.len⟩
 .have:=I.base.Xv b xs q;rw[bN (f b _ this (by intro d z;cases z))];exact this
 .have:=I.base.XI b o u q;rw[bN (f b _ this (by intro d z;cases z))];exact this
 .obtain ⟨m,this⟩:=I.base.Xu b ps q;exact⟨m,by rw[bN (f b _ this (by intro d z;cases z))];exact this⟩
 .obtain ⟨v,t,r,l,j⟩:=I.pin p q
  exact⟨v,sub _ t,r,l,j⟩
 .have z:a≠e:=λz=>by rw[z,jW]at q;cases q
  rw[bN z]at q;exact(I.ZQ a o q).Yv (λ_ _ _ k=>k) (λb k=>by rw[bN (f b _ k (by intro d z;cases z))];exact k) λb xs k=>by rw[bN (f b _ k (by intro d z;cases z))];exact k
end
structure UT(K:Frag)(C:Addr)(f:Str):Prop where
 sa:findIn K (.ref C) "__setattr__" = some (some (.builtin "object.__setattr__"))
 ov:CI K C=true
 tk:takerIn K C f=some none
 hd:hasDictIn K C=true
section
def Hz(C:Addr)(f:Str)(i j:Nat):TS:=λD Y H=>∃e oe v,Y[i]?=some (some (.ref e))/\Y[j]?=some (some v)/\H e=some (X5 e oe)/\oe.cls=.ref C/\oe.dict=none/\notCls oe=true /\
 ∀dx,H dx=none->D.nx Y (upd (upd H dx (.xd [(f,v)])) e (X5 e {oe with dict:=some dx}))
def wj{p:Str}{O U:Pos}(F:UT X.K C f)(W:PE X (.Name self O) (BR i))(V:PE X (.Name p p2) (BR j)):PS X (.Assign [.Attribute (.Name self O) f U] (.Name p p2) pos) (Hz C f i j):=by
 intro Z s Y H D I ⟨e,oe,v,ei,ej,c,hc,WR,YG,q⟩;refine Rf (thn (V Z s Y H (λy H1=>y=v/\H1=H) I ⟨v,ej,rfl,rfl⟩) λu R ⟨y,H1,Q,S,e1,J⟩=>thn (W Z R Y H1 (λy H2=>y=.ref e/\H2=H) (by rw[J]at Q ⊢;exact Q) ⟨_,ei,rfl,J⟩) λov N ⟨x,H2,r,T,e3,e4⟩=>?_) #[2]
 subst e1;subst J;subst e3;subst e4;obtain rfl:ov=Value.ref e:=T;let⟨P,_,_⟩:=(show ObjOk X.prog X.w _ N.heap e (X5 e oe)from r.ZQ e _ c);refine sR r.Zf P hc WR YG F.sa F.ov F.tk F.hd λh' dx A B Yy hk=>?_;have g:=r.ZQ.off A;have Vo:dx≠e:=λz=>by rw[z,P]at A;cases A
 refine⟨Y,_,r.un (h':=h') (t':=N.toks+2) ⟨λb o q n _ _=>?_,λb o q n _ _=>?_,λb o q n _=>?_,λb o q _=>?_,λb xs q=>?_,λb o u q=>?_,λb ps q=>?_⟩ ?_,q dx g⟩
 .exact hk b o (λz=>by rw[z,c]at n;cases n) q
 .exact ⟨o.slots,hk b o (λz=>by rw[z,c]at n;cases n) q⟩
 .rw [aa (λz=>by rw[z,c]at n;cases n),aa (λz=>by rw[z,A]at q;cases q)];exact n
 .by_cases z:b=e
  .subst z;exact⟨_,B⟩
  .exact ⟨o,hk b o z q⟩
 .rw [aa (λz=>by rw[z,c]at q;cases q),aa (λz=>by rw[z,g]at q;cases q)];exact q
 .rw [aa (λz=>by rw[z,c]at q;cases q),aa (λz=>by rw[z,g]at q;cases q)];exact q
 .exact ⟨#[],by rw[aa (λz=>by rw[z,c]at q;cases q),aa (λz=>by rw[z,g]at q;cases q),q];simp⟩
 .intro a o d
  by_cases z:a=e
  .subst z
   rw[upd_same]at d;cases d;exact⟨B,⟨_,B⟩,λh1 h2 p k=>k _ p⟩
  .rw [aa z]at d
   by_cases M:a=dx
   .subst M
    rw[upd_same]at d;cases d;refine⟨_,Yy,λf'=>?_⟩;by_cases G:f'=f
    .subst G;simp[List.lookup];exact S
    .have E:(f'==f)=false:=by simpa using G
     simp[List.lookup,E,G];trivial
   .rw [aa M]at d
    refine(r.ZQ a o d).Yv (λb u t k=>hk b u (λL=>?_) k) (λb k=>?_) λb xs k=>?_
    .rcases t with rfl|t
     .exact z L
     .rw [L,c]at t;cases t
    .rw [aa (λz=>by rw[z,c]at k;cases k),aa (λz=>by rw[z,g]at k;cases k)];exact k
    .rw [aa (λz=>by rw[z,c]at k;cases k),aa (λz=>by rw[z,g]at k;cases k)];exact k
end
section
def Hd(C:Addr)(f:Str)(i j:Nat):TS:=λD Y H=>∃e oe v dx fs,Y[i]?=some (some (.ref e))/\Y[j]?=some (some v)/\H e=some (X5 e oe)/\oe.cls=.ref C/\oe.dict=some dx/\notCls oe=true/\dx≠e/\H dx=some (.xd fs)/\fs.length<=1000/\fs.lookup f=none /\
 D.nx Y (upd H dx (.xd (fs++[(f,v)])))
def i5{a:Type}{f y:Str}{v:a}:∀{fs:List (Str×a)},fs.lookup f=none->(fs++[(f,v)]).lookup y=if y=f then some v else fs.lookup y
 |[],_=>by
  by_cases h:y=f
  .subst h;simp[List.lookup]
  .have:(y==f)=false:=by simpa using h
   simp[List.lookup,this,h]
 |(g,x)::r,e=>by
  have b:(f==g)=false:=by
   cases z:f==g with
   |false=>rfl
   |true=>simp[List.lookup,z]at e
  have e':r.lookup f=none:=by simpa[List.lookup,b]using e
  cases z:y==g with
  |true=>
   have:y≠f:=λq=>by rw[q,b]at z;cases z
   simp[List.lookup,z,this]
  |false=>simp![Rj,List.lookup,z];exact i5 e'
def sh{p:Str}{N T:Pos}(F:UT X.K C f)(hi:PE X (.Name self N) (BR i))(W:PE X (.Name p p2) (BR j)):PS X (.Assign [.Attribute (.Name self N) f T] (.Name p p2) pos) (Hd C f i j):=by
 intro Z s Y H D I ⟨e,oe,v,dx,fs,ei,ej,hH,hc,WR,YG,Zg,L,hlen,Xj,q⟩;refine Rf (thn (W Z s Y H (λy H1=>y=v/\H1=H) I ⟨v,ej,rfl,rfl⟩) λu Q ⟨y,H1,P,R,J,G⟩=>thn (hi Z Q Y H1 (λy H2=>y=.ref e/\H2=H) (by rw[G]at P ⊢;exact P) ⟨_,ei,rfl,G⟩) λov B ⟨x,H2,d,S,e3,e4⟩=>?_) #[2]
 subst J;subst G;subst e3;subst e4;obtain rfl:ov=Value.ref e:=S;let⟨he,_,_⟩:=(show ObjOk X.prog X.w _ B.heap e (X5 e oe)from d.ZQ e _ hH);let⟨mA,ns,c⟩:=(show ObjOk X.prog X.w _ B.heap dx (.xd fs)from d.ZQ dx _ L);have V:PySem.Within mA (fs.map (·.1)):=λy U=>by
  have r:=c y;cases z:fs.lookup y with
  |none=>rw[z]at r;cases hm:mA y with
   |none=>exact absurd hm U
   |some u=>rw[hm]at r;exact r.elim
  |some w=>exact Qw (Rc z)
 refine tM d.Zf he hc WR YG ns V (by rw[YK,Tz];lia) F.sa F.ov F.tk F.hd λh' O A=>?_
 have off:∀b,H2 b≠some (.xd fs)->b≠dx:=λb q z=>q (by rw[z];exact L)
 refine⟨Y,_,d.un (h':=h') (t':=B.toks+2) ⟨λb o q n _ _=>?_,λb o q n _ _=>?_,λb o q n _=>?_,λb o q _=>?_,λb xs q=>?_,λb o u q=>?_,λb ps q=>?_⟩ ?_,q⟩
 .rw [A.2 b (off b (by rw[n];simp))];exact q
 .exact ⟨o.slots,by rw[A.2 b (off b (by rw[n];simp))];exact q⟩
 .rw [aa (off b (by rw[n];simp))];exact n
 .by_cases z:b=dx
  .subst z
   let⟨o',_,_,J,_⟩:=O;exact⟨_,J⟩
  .exact ⟨o,(A.2 b z).trans q⟩
 .rw [aa (off b (by rw[q];simp))];exact q
 .rw [aa (off b (by rw[q];simp))];exact q
 .exact ⟨#[],by rw[aa (off b (by rw[q];simp)),q];simp⟩
 .intro a o g
  by_cases z:a=dx
  .subst z
   rw[upd_same]at g;cases g;refine⟨_,O,λf'=>?_⟩;rw[i5 Xj];by_cases E:f'=f
   .subst E;rw[XN rfl,XN rfl];exact R
   .rw [Xy E,Xy E];exact c f'
  .rw [aa z]at g
   refine(d.ZQ a o g).Yv (λb u t k=>(A.2 b (λM=>?_)).trans k) (λb k=>?_) λb xs k=>?_
   .rcases t with rfl|t
    .exact z M
    .rw [M,L]at t;cases t
   .rw [aa (off b (by rw[k];simp))];exact k
   .rw [aa (off b (by rw[k];simp))];exact k
def Cg(self:Str)(a:IA):Stmt:=.Assign [.Attribute (.Name self a.2.1) a.1.1 a.2.2.1] (.Name a.1.2 a.2.2.2.1) a.2.2.2.2
def Hj(C:Addr)(as:List IA)(k:Nat):TS:=λD Y H=>∃e oe dx fs vs,Y[0]?=some (some (.ref e))/\(∀(j:Nat) (v:V),vs[j]?=some v->Y[k+j]?=some (some v))/\vs.length=as.length/\H e=some (X5 e oe)/\oe.cls=.ref C/\oe.dict=some dx/\notCls oe=true/\dx≠e/\H dx=some (.xd fs)/\fs.length+as.length<=1000/\(fs.map (·.1)++as.map (·.1.1)).Nodup /\
 D.nx Y (upd H dx (.xd (fs++(as.map (·.1.1)).zip vs)))
def je{a:Type}{f:Str}:∀{fs:List (Str×a)},f ∉ fs.map (·.1)->fs.lookup f=none
 |[],_=>rfl
 |(g,x)::r,h=>by
  rw[Xk,Wc,not_or]at h;have:(f==g)=false:=by simpa using h.1
  simp![List.lookup,this];exact je h.2
def y8{o:HO}(h:H a=some o):upd H a o=H:=by
 funext b;by_cases z:b=a
 .rw [z,upd_same,h]
 .rw [aa z]
def jw{self:Str}{C:Addr}(h:∀p,PE X (.Name self p) (BR 0)):∀{as:List IA} {k:Nat},(∀a∈as,UT X.K C a.1.1)->(∀(j:Nat) (a:IA),as[j]?=some a ->∀p,PE X (.Name a.1.2 p) (BR (k+j)))->PSs X (as.map (Cg self)) (Hj C as k)
 |[],k,_,_=>eQ.imp λD Y H ⟨e,oe,dx,fs,vs,_,_,c,_,_,_,_,_,h2,_,_,q⟩=>by
  rw[RJ,List.zip_nil_left,Tc,y8 h2]at q;exact q
 |a::as,k,F,g=>by
  refine(ee (sh (F a WS) (h a.2.1) (g 0 a rfl a.2.2.2.1)) (jw h (as:=as) (k:=k+1) (λb m=>F b (HS _ m)) λj b e p=>by have:=g (j+1) b e p;rwa[Nat.add_assoc,Pc 1 j])).imp ?_;rintro D Y H ⟨e,oe,dx,fs,vs,h0,f,c,i,hc,hd,l,Zg,t,hlen,n,q⟩
  cases vs with
  |nil=>cases c
  |cons v vs=>
   rw[Xk,QW]at n;let⟨r,o,d⟩:=n;rw[X8]at hlen;refine⟨e,oe,v,dx,fs,h0,f 0 v rfl,i,hc,hd,l,Zg,t,by lia,je λm=>d _ m _ WS rfl,?_⟩
   refine⟨e,oe,dx,fs++[(a.1.1,v)],vs,h0,λj w s=>?_,by simpa using c,by rw[aa (Ne.symm Zg)];exact i,hc,hd,l,Zg,upd_same,by rw[Xq];simp;lia,?_,?_⟩
   .have:=f (j+1) w s;rwa[Nat.add_assoc,Pc 1 j]
   .rw [SF,Xz,QW];exact⟨r,o,d⟩
   .rw [uY,Xz];exact q
end
def Hg(C:Addr)(a:List Str):Sp:=λvs H Q _=>∃e oe ws,vs=.ref e::ws/\ws.length=a.length/\H e=some (X5 e oe)/\oe.cls=.ref C/\oe.dict=none/\notCls oe=true /\∀dx,H dx=none->Q .ZR (upd (upd H dx (.xd (a.zip ws))) e (X5 e {oe with dict:=some dx}))
structure TB(K:Frag)(C fI:Addr)(fs:List Str):Prop where
 ex:∃(KG:Value) (od:Option Addr) (name qual self:Str) (a:IA) (as:List IA) (params:Arguments) (scope:Scope) (dV IT doc pm Zk ct:Value) (an:Option Addr) (YL:Array (Option Value)),
  K.lookup fI=some ⟨KG,od,.func (fnOf name qual params ((a::as).map (Cg self)) scope dV IT doc pm an Zk ct),YL⟩/\KG=.type "function" /\ codeIn K Zk qual=true/\Uw (self::(a::as).map (·.1.2)) (self::(a::as).map (·.1.2)) scope /\
  Binds K (fnOf name qual params ((a::as).map (Cg self)) scope dV IT doc pm an Zk ct) (self::(a::as).map (·.1.2)) []/\(∀y∈self::(a::as).map (·.1.2),A8 y=true)/\fs=(a::as).map (·.1.1)/\fs.Nodup/\fs.length<=1000
def ui{K:Frag}{o:List Str}{k:Nat}(F:∀f∈o,UT K C f)(N:TB K C fI o):
  ∃fd ps,Binds K fd ps []/\Y2 P w K mg base Xb (k+1) fI fd ps (Hg C o)/\ps.length=o.length+1 /\∃oI,K.lookup fI=some oI/\oI.cls=.type "function":=by
 let⟨KG,od,name,G,self,a,as,d,scope,dV,IT,T,pm,Zk,ct,an,YL,lk,u,U,Z5,R,ZQ,rfl,V,hlen⟩:=N.ex;refine⟨_,_,R,iB lk U Z5 (λvs H Q E ⟨e,oe,ws,q,g,_⟩=>by rw[q,X8,g];simp) λA outer s H vs Q E Y ⟨e,oe,ws,q,g,I,hc,hd,L,O⟩=>?_,by simp,_,lk,u⟩
 subst q;have nm:∀(X:Cx) (j:Nat) (y:Str),X.N=self::(a::as).map (·.1.2)->X.env.scope=scope->(self::(a::as).map (·.1.2))[j]?=some y ->∀p,PE X (.Name y p) (BR j):=λX j y hN hs t p=>by
  let⟨m1,M,_⟩:=aG (ZQ y (W5 t));refine dk (by rw[hN];exact t) ?_ m1 M
  rw[hs];rcases Z5.par y (W5 t)with z|z
  .exact .inl z
  .exact .inr (.inl z)
 cases ws with
 |nil=>cases g
 |cons v ws=>
 refine⟨_,ee (wj (C:=C) (i:=0) (j:=1) (F _ #[3]) (nm _ 0 _ rfl rfl rfl _) (nm _ 1 _ rfl rfl rfl _)) (jw (λp=>nm _ 0 _ rfl rfl rfl p) (k:=2) (λb m=>F _ (Qw (HS _ m))) λj b e p=>nm _ (2+j) _ rfl rfl (by rw[Pc];simp[e]) p),?_⟩
 refine⟨e,oe,v,rfl,rfl,I,hc,hd,L,λdx B=>?_⟩;have D:dx≠e:=λz=>by rw[z,I]at B;cases B
 have W:ws.length=as.length:=by simpa using g
 refine⟨e,{oe with dict:=some dx},dx,[(a.1.1,v)],ws,rfl,λj w J=>?_,W,upd_same,hc,rfl,L,D,by rw[aa D,upd_same],?_,by simpa using V,?_⟩
 .have Z:=(Yh.mp J).1
  unfold L2.start;rw[Pc,Wt (by simp;lia)]
  simp[J]
 .simp at hlen ⊢;lia
 .have:=O dx B
  have S:upd (upd (upd H dx (.xd [(a.1.1,v)])) e (X5 e {oe with dict:=some dx})) dx (.xd ([(a.1.1,v)]++(as.map (·.1.1)).zip ws))=upd (upd H dx (.xd (((a::as).map (·.1.1)).zip (v::ws)))) e (X5 e {oe with dict:=some dx}):=by
   funext b;by_cases c:b=dx
   .subst c;rw[upd_same,aa D,upd_same];rfl
   .rw [aa c]
    by_cases r:b=e
    .subst r;rw[upd_same,upd_same]
    .rw [aa r,aa r,aa c,aa c]
  rw[S];exact this
section
def qL{j:List Str}{B:String}{a:Expr}{np:Pos}{t:TA}{k:Nat}{W:Addr->List V->Hp->Prop}
  (Z6:∃bm N nm q bs hdct sn sub ab col dd k0 k1 k2 k3 k5 mN,X.base.get? C=some (excClassObj nm q C N bs bm hdct sn sub ab col dd k0 k1 k2 k3 k5 newId)/\X.base.Ns N mN/\mN "__init__" = some (.ref fI)/\OwnTail X.base YD bm) (hm:X.mg x=some (.ref C))
  (FB:ExcBaseFacts B newId X7 YD) (F:∀f∈j,UT X.K C f) (N:TB X.K C fI j) (hr:Ze (k+2) X.A) (hex:X.ex=[]) (ZJ:X.stack=X.env::X.outer) (hc:X.calm=true) (hg:Gl X x) (ha:PA X (a::es) t)
  (hx:∀Z Y H s e oe dx ws,L2.Z4 X Z Y H s->s.heap.get? e=some oe->oe.cls=.ref C->oe.dict=some dx->(∃vs,oe.data=.fields vs/\vs[1]?=some .none)->H e=none->X.ZH.heap.get? e=none->W dx ws H->X.xe (.ref e) s)
  (hd:(x==("__debug__" : Str))=false) (he:starEach (a::es) X.env=(false,eval a X.env)::starEach es X.env) (Y4:(backTo Zt (starEach es X.env)).any (·.1)=false) :
  PS X (.Raise (some (.Call (.Name x np) (a::es) [] Zt)) none pos) (λ_ Y H=>t Y H λvs H1=>vs.length=j.length /\∀e dx,H1 e=none->H1 dx=none->dx≠e->W dx vs (upd H1 dx (.xd (j.zip vs)))):=by
 intro Z s Y H D I h;let⟨bm,N',nm,q,bs,hdct,sn,sub,ab,col,dd,k0,k1,k2,k3,k5,mN,hC,hN,hi,T⟩:=Z6;let⟨fd,ps,hb,FO,S,oI,U,Vp⟩:=ui (P:=X.prog) (w:=X.w) (mg:=X.mg) (base:=X.base) (k:=k) F N;refine pZ (C:=C) (nm:=nm) (q:=q) (N:=N') (bs:=bs) (bm:=bm) (hdct:=hdct) (sn:=sn) (sub:=sub) (ab:=ab) (col:=col) (dd:=dd) (k0:=k0) (k1:=k1) (k2:=k2) (k3:=k3) (k5:=k5)
  FB (mN:=mN) (T.hasType FB.hasBase) (I.ok.hd hc) (by rw[he];show(false||(backTo Zt (starEach es X.env)).any (·.1))=false;rw[Y4];rfl) hi Vp (bA I hg hm ⟨rfl,?_⟩ hd)
 have Ue:=ha Zt Z s Y H _ I h;rw[he]at Ue ⊢;refine Rz (V6 Ue (λJ s2 ⟨ws,H2,d,r,ev,q⟩=>⟨rfl,?_,d.bk _ _ hC,hN.keeps d.bk,T.keeps d.bk,d.Zf _ _ U,λh' e E=>?_⟩) λ_ _ y=>y)
 .have hl1:=(N.ex)
  let⟨_,_,_,_,_,_,_,_,_,_,_,_,_,_,_,_,_,_,_,_,_,_,_,_,_,hlen⟩:=hl1;show J.length<=sizeLine;rw[<-r.length,ev,Tz];lia
 .obtain ⟨M,he3,_,_⟩:=E.there
  have nw:=E.new;have I3:L2.Z4 X Z Y H2 {s2 with heap:=h'}:=d.kept (t':=s2.toks) E.keeps
  have O:X.ZH.heap.get? e=none:=by
   cases q:X.ZH.heap.get? e with
   |none=>rfl
   |some o=>let⟨o',z⟩:=d.base.there e o q (by rw[hex];simp);rw[nw]at z;cases z
  have g:=d.ZQ.off nw;have hL:e≠X.env.locals:=λz=>by let⟨m,⟨o,_,_,ho,_⟩,_⟩:=d.loc;rw[<-z,nw]at ho;cases ho
  have I4:=adb I3 he3 g O hL (λy c ec z=>by let⟨v,o,ho,_⟩:=d.cell y c ec;rw[z,nw]at ho;cases ho) λp hp z=>by let⟨e1,_⟩:=d.pin p hp;rw[z,nw]at e1;cases e1
  have r2:ZK (V.ref e::ws) (Value.ref e::J):=.cons rfl r;have hl:((Value.ref e::J)++[]).length=ps.length:=by
   rw[Tc,<-r2.length,X8,ev,S]
  refine Qf (Rn (FO.run (X.A.under (.builtin "type.__call__" ⟨.ref C::J,[]⟩)) X.stack _ _ ⟨Value.ref e::J,[]⟩ (Value.ref e::J) (V.ref e::ws)
   (λr H3=>r=.ZR /\∃dx,dx≠e/\H2 dx=none/\H3=upd (upd (upd H2 e (X5 e {cls:=.ref C,data:=.fields #[.ref M,.none,.none,.none,.bool false,.none]})) dx (.xd (j.zip ws))) e (X5 e {cls:=.ref C,dict:=some dx,data:=.fields #[.ref M,.none,.none,.none,.bool false,.none]})) E0 (hr.make C J []) (I4.TM.make C J []) (by have:=hb _ (Value.ref e::J) I4.Zf hl;rw[Tc]at this;exact this) r2
   ⟨e,_,ws,rfl,ev,upd_same,rfl,rfl,rfl,λdx G=>?_⟩) λrr s' Q=>?_)
  .have L:dx≠e:=λz=>by rw[z,upd_same]at G;cases G
   rw[aa L]at G;exact⟨rfl,dx,L,G,rfl⟩
  .cases rr with
   |error z=>exact False.elim Q
   |ok j=>
    cases j with
    |ret u=>
     let⟨v',H',I5,rv,ev',dx,L,G,eH⟩:=I4.after Q;subst ev';subst eH;let⟨ho,_,_⟩:=(show ObjOk X.prog X.w _ s'.heap e (X5 e _)from I5.ZQ e _ upd_same);have I6:=vK I5 (e:=e) upd_same;have eqH:BL (upd (upd (upd H2 e (X5 e {cls:=.ref C,data:=.fields #[.ref M,.none,.none,.none,.bool false,.none]})) dx (.xd (j.zip ws))) e (X5 e {cls:=.ref C,dict:=some dx,data:=.fields #[.ref M,.none,.none,.none,.bool false,.none]})) e=upd H2 dx (.xd (j.zip ws)):=by
      funext b;by_cases z:b=e
      .subst z;rw[jW,aa (Ne.symm L)];exact g.symm
      .rw [bN z,aa z]
       by_cases R:b=dx
       .subst R;rw[upd_same,upd_same]
       .rw [aa R,aa R,aa z]
     rw[eqH]at I6;exact⟨rv,I5.bk _ _ hC,⟨M,some dx,ho⟩,hx Z Y _ s' e _ dx ws I6 ho rfl rfl ⟨_,rfl,rfl⟩ (by rw[aa (Ne.symm L)];exact g) O (q e dx g G L)⟩
    |_=>exact False.elim Q
end
open PySem PySem.Spec PyProof.Rows L2
structure Fly(P:Program)(w:World)(outer:List Env)(H0:Hp)(s0:Shared)(e:Addr)(C:Value)(dx:Option Addr)(H:Hp)(s:Shared):Prop where
 os:s.os=s0.os
 bare:AllBare s.gens
 un:Un (frs outer) [] H0 H s0.heap s.heap
 ZQ:HOk P w H s.heap
 free:H e=none
 new:s0.heap.get? e=none
 tr:∃T,Tr s.heap e C dx T .none/\H T=none/\s0.heap.get? T=none
variable{n:Str}{q:Expr×Expr}{c:Value}
def CX1(P:Program)(w:World):X0:=λouter H s E e s'=>∃ea C dx H',e=.ref ea/\Fly P w outer H s ea C dx H' s'/\E C dx H'
section
variable{Y:L2.St}
def ll{ch:List Addr}(I:L2.Z4 X Z Y H s)(g:X.ex=[])(k:Yn (frs X.stack) ch s.heap h')(u:∀b∈ch,X.ZH.heap.get? b=none):Un (frs X.outer) [] X.WL H X.ZH.heap h':=by
 have w:∀b,b∈frs X.stack->b=X.env.locals\/b∈frs X.outer:=λb a=>Wc.mp (I.VL b a);have f:∀b o,X.ZH.heap.get? b=some o->b≠X.env.locals:=λb o e z=>by
  have h1:=HN e;have h2:=I.ok.above;rw[z]at h1;exact absurd (HU h1 h2) (T7 _)
 have B:=I.base;rw[g]at B;have c:∀b:Addr,b ∉ ([]:List Addr):=λb z=>absurd z #[3]
 have j:∀b o,X.ZH.heap.get? b=some o->b ∉ ch:=λb o e z=>by rw[u b z]at e;cases e
 have step:∀b o,s.heap.get? b=some o->b ∉ ch ->∃r,h'.get? b=some {o with slots:=r}:=λb o e hc=>by
  by_cases a:b∈frs X.stack
  .exact k.slot b o e a
  .exact ⟨o.slots,k.keep b o e a hc⟩
 refine⟨λb o e n a _=>?_,λb o e n a _=>?_,λb o e n _=>B.free b o e n (c b),λb o e _=>?_,B.Xv,B.XI,B.Xu⟩
 .refine k.keep b o (B.keep b o e n a (c b)) (λz=>?_) (j b o e)
  rcases w b z with z|z
  .exact f b o e z
  .exact a z
 .obtain ⟨r,q⟩:=B.slot b o e n a (c b)
  let⟨t,d⟩:=step b _ q (j b o e);exact⟨t,d⟩
 .obtain ⟨o',q⟩:=B.there b o e (c b)
  let⟨t,d⟩:=step b _ q (j b o e);exact⟨_,d⟩
def kg{ch:List Addr}(I:L2.Z4 X Z Y H s)(k:Yn (frs X.stack) ch s.heap h')(g:∀b∈ch,H b=none):HOk X.prog X.w H h':=λa o e=>by
 have d:∀b u,H b=some u->b ∉ ch:=λb u q z=>by rw[g b z]at q;cases q
 have f:∀b u,H b=some u->b ∉ frs X.stack:=λb u q z=>by rw[I.TU b z]at q;cases q
 refine(I.ZQ a o e).Yv (λb u c q=>?_) (λ_ q=>q) λ_ _ q=>q;rcases c with rfl|c
 .exact k.keep b u q (f b _ e) (d b _ e)
 .exact k.keep b u q (f b _ c) (d b _ c)
def gG(I:L2.Z4 X Z Y H s)(a:X.stack=X.env::X.outer):X.env.frame=some X.env.locals:=by
 rcases I.ok.WK with z|⟨_,z⟩
 .rw [a]at z;exact absurd (Sb List.length z) #[3]
 .exact z
def leave_new{E0:XK}(I:L2.Z4 X Z Y H s)(c:X.ex=[])(d:X.stack=X.env::X.outer)(l:s.heap.get? e=some oe)(m:oe.data=.fields vs)(n:vs[1]?=some .none)(h:H e=none)(i:X.ZH.heap.get? e=none)(q:E0 oe.cls oe.dict H):
  wpAny (model X.prog X.w) X.A (leaving X.env (.ref e)) (λ_ s'=>CX1 X.prog X.w X.outer X.WL X.ZH E0 (.ref e) s') (λe' s'=>CX1 X.prog X.w X.outer X.WL X.ZH E0 e' s') s:=by
 have hf:=gG I d;have p:s.heap.FunFrames X.base (X.env::X.outer):=by rw[<-d];exact I.stack
 refine oP (by rw[I.ok.frames,d]) p hf l m n λh' T K g k=>?_
 rw[<-d]at K;have a:X.ZH.heap.get? T=none:=by
  cases q:X.ZH.heap.get? T with
  |none=>rfl
  |some o=>let⟨o',z⟩:=I.base.there T o q (by rw[c];simp);rw[g]at z;cases z
 have j:=I.ZQ.off g;refine⟨e,oe.cls,oe.dict,H,rfl,⟨I.os,I.bare,ll I c K λb f=>?_,kg I K λb f=>?_,h,i,T,k,j,a⟩,q⟩
 .have:b=e\/b=T:=by simpa using f
  rcases this with rfl|rfl
  .exact i
  .exact a
 .have:b=e\/b=T:=by simpa using f
  rcases this with rfl|rfl
  .exact h
  .exact j
end
section
def sD{B:String}{Tx : Expr}{j:Pos}{t:TA}{W:Hp->Prop}(d:OwnCls x C bm newId X.mg X.base)(g:ExcBaseFacts B newId X7 bm)(m:X.calm=true)(l:Gl X x)(n:PA X (Tx::es) t)
  (hx:∀Z Y H s h1 e args,L2.Z4 X Z Y H s->Heap.MadeExcOf s.heap h1 e (.ref C) args->W H->X.xe (.ref e) {s with heap:=h1})
  (hd:(x==("__debug__" : Str))=false) (c:starEach (Tx::es) X.env=(false,eval Tx X.env)::starEach es X.env) (o:(backTo Zt (starEach es X.env)).any (·.1)=false) :
  PS X (.Raise (some (.Call (.Name x j) (Tx::es) [] Zt)) none pos) (λ_ Y H=>t Y H λvs H1=>vs.length<=sizeLine/\W H1):=by
 intro Z s Y H D I h;let⟨tl,N,nm,q,bs,hdct,sn,sub,ab,col,dd,k0,k1,k2,k3,k5,mN,hC,hN,b,T⟩:=d.obj;refine wpAny_Raise_call_subT (C:=C) (nm:=nm) (q:=q) (N:=N) (bs:=bs) (bm:=tl) (hdct:=hdct) (sn:=sn) (sub:=sub) (ab:=ab) (col:=col) (dd:=dd) (k0:=k0) (k1:=k1) (k2:=k2) (k3:=k3) (k5:=k5)
  g (mN:=mN) (T.hasType g.hasBase) (I.ok.hd m) (by rw[c];show(false||(backTo Zt (starEach es X.env)).any (·.1))=false;rw[o];rfl) b (bA I l d.bound ⟨rfl,?_⟩ hd)
 have f:=n Zt Z s Y H _ I h;rw[c]at f ⊢;exact Rz (V6 f (λJ i ⟨vs,H2,a,r,z,q⟩=>⟨rfl,by show J.length<=sizeLine;rw[<-r.length];exact z,a.bk _ _ hC,hN.keeps a.bk,T.keeps a.bk,λh' e k=>hx Z Y H2 i h' e J a k q⟩) λ_ _ y=>y)
end
section
variable{Y:L2.St}
def pK{ch:List Addr}(I:L2.Z4 X Z Y H s)(t:X.ex=[])(keep:∀b o,s.heap.get? b=some o->b ∉ frs X.stack->b ∉ ch->h'.get? b=some o)
  (slot:∀b o,s.heap.get? b=some o->b∈frs X.stack ->∃j,h'.get? b=some {o with slots:=j}) (P:X.env.locals∈frs X.stack)
  (w:∀b∈ch,X.ZH.heap.get? b=none/\H b=none/\b ∉ frs X.stack/\(∀x c,X.env.cells.lookup x=some c->c≠b) /\∀p∈X.pn++Z,p.1≠b):L2.Z4 X Z Y H {s with heap:=h'}:=by
 have L:∀b,b∈frs X.stack->b=X.env.locals\/b∈frs X.outer:=λb f=>Wc.mp (I.VL b f);have C:∀b o,X.ZH.heap.get? b=some o->b≠X.env.locals:=λb o e z=>by
  have h1:=HN e;have h2:=I.ok.above;rw[z]at h1;exact absurd (HU h1 h2) (T7 _)
 have B:=I.base;rw[t]at B;have y:∀b:Addr,b ∉ ([]:List Addr):=λb z=>absurd z #[3]
 have any:∀b o,s.heap.get? b=some o->b ∉ ch ->∃j,h'.get? b=some {o with slots:=j}:=λb o e hc=>by
  by_cases f:b∈frs X.stack
  .exact slot b o e f
  .exact ⟨o.slots,keep b o e f hc⟩
 have D:∀b o,X.ZH.heap.get? b=some o->b ∉ ch:=λb o e z=>by rw[(w b z).1]at e;cases e
 have g:∀x c,X.env.cells.lookup x=some c ->∀v,s.heap.IsCell c v->h'.IsCell c v:=λx c e v ⟨o,ho,hd⟩=>by
  let⟨j,q⟩:=any c o ho λz=>(w c z).2.2.2.1 x c e rfl;exact⟨_,q,hd⟩
 refine⟨I.ok,I.os,I.bare,?_,?_,λx c e=>?_,I.free,I.Ym,λp G=>?_,λa o e=>?_,I.len⟩
 .rw [t]
  refine⟨λb o e n f _=>?_,λb o e n f _=>?_,λb o e n _=>B.free b o e n (y b),λb o e _=>?_,B.Xv,B.XI,B.Xu⟩
  .refine keep b o (B.keep b o e n f (y b)) (λz=>?_) (D b o e)
   rcases L b z with z|z
   .exact C b o e z
   .exact f z
  .obtain ⟨j,q⟩:=B.slot b o e n f (y b)
   let⟨J,A⟩:=any b _ q (D b o e);exact⟨J,A⟩
  .obtain ⟨o',q⟩:=B.there b o e (y b)
   let⟨J,A⟩:=any b _ q (D b o e);exact⟨_,A⟩
 .obtain ⟨m,⟨o,es,ep,ho,r⟩,O⟩:=I.loc
  let⟨j,q⟩:=slot _ o ho P;refine⟨m,⟨_,es,ep,q,r⟩,λi x v S R Q=>?_⟩;let⟨u,N,l⟩:=O i x v S R Q;refine⟨u,N,?_⟩;rcases l with l|⟨k,c,e,z⟩
  .exact .inl l
  .exact .inr ⟨k,c,e,g x c e _ z⟩
 .obtain ⟨v,z⟩:=I.cell x c e
  exact⟨v,g x c e v z⟩
 .obtain ⟨e,n,F,E,d⟩:=I.pin p G
  exact⟨keep p.1 p.2 e (λz=>(L _ z).elim F E) λz=>(w _ z).2.2.2.2 p G rfl,n,F,E,d⟩
 .have M:∀b u,H b=some u->b ∉ ch:=λb u q z=>by rw[(w b z).2.1]at q;cases q
  have K:∀b u,H b=some u->b ∉ frs X.stack:=λb u q z=>by rw[I.TU b z]at q;cases q
  refine(I.ZQ a o e).Yv (λb u f q=>?_) (λ_ q=>q) λ_ _ q=>q;rcases f with rfl|f
  .exact keep b u q (K b _ e) (M b _ e)
  .exact keep b u q (K b _ f) (M b _ f)
abbrev BI(X:Cx)(Z:List (Addr×Obj))(ea:Addr)(oe:Obj):Cx:={X with A:=X.A.mark (some (.ref ea)),calm:=false,pn:=X.pn++Z++[(ea,oe)],xe:=λ_ _=>False}
def jA(I:L2.Z4 X Z Y H s)(d:s.heap.get? ea=some oe)(b:H ea=none)(f:ea≠X.env.locals)(c:ea ∉ X.fs)(e:∀v,oe.data ≠ .cell v):L2.Z4 (BI X Z ea oe) [] Y H s:=
 ⟨⟨I.ok.mod,I.ok.kind,I.ok.glob,I.ok.blt,I.ok.above,I.ok.inj,I.ok.has,I.ok.VM,(λz=>by cases z),I.ok.frames,I.ok.WK,I.ok.exf,I.ok.bs,I.ok.W2,I.ok.Y3,I.ok.U_,I.ok.XH,I.ok.Wo⟩,I.os,I.bare,I.base,I.loc,I.cell,I.free,I.Ym,λp a=>by
  rw[Tc]at a;rcases Rt.mp a with z|z
  .exact I.pin p z
  .have:p=(ea,oe):=by simpa using z
   subst this;exact⟨d,b,f,c,e⟩,I.ZQ,I.len⟩
def dZ{b:L2.St}(I:L2.Z4 X Z Y H s)(a:L2.Z4 (BI X Z ea oe) [] b H' s'):L2.Z4 X Z b H' s':=
 ⟨I.ok,a.os,a.bare,a.base,a.loc,a.cell,a.free,a.Ym,λp c=>a.pin p (by rw[Tc];exact T4 _ c),a.ZQ,a.len⟩
def dQ{E:Value->Shared->Prop}(I:L2.Z4 X Z Y H s)(hN:X.N.Nodup)(hi:X.N[i]?=some n)(hk:X.env.scope.names.lookup n=some .local)
  (h:∀s',L2.Z4 X Z (Y.set i none) H s'->Q Unit.unit s'):wpAny Z9 A (do bindName X.env n .none;unbindBehindTheSuite X.env n pos) Q E s:=by
 let⟨m,hn,hl⟩:=id I.loc;have Wn:(X.env.scope.kind==.class||(X.env.scope.kind==.module&&X.env.locals != X.env.globals))=false:=by rw[I.ok.kind];rfl
 have W1:=I.W1;have U9:∀b o,X.ZH.heap.get? b=some o->b≠X.env.locals:=λb o e=>HV (HU (HN e) I.ok.above);refine wpAny_nameGoes_keeps hk hn Wn λh' v Zv hs=>h _ ?_;refine⟨I.ok,I.os,I.bare,⟨λb o e n hb hx=>?_,λb o e n hb hx=>?_,I.base.free,λb o e hx=>?_,I.base.Xv,I.base.XI,I.base.Xu⟩,⟨_,Zv,λj y v' e1 e2 e3=>?_⟩,λy c e=>?_,I.free,I.Ym,λp hp=>?_,λb ob e=>?_,by simpa using I.len⟩
 .exact (hs.2 b (U9 b o e)).trans (I.base.keep b o e n hb hx)
 .obtain ⟨sl,e1⟩:=I.base.slot b o e n hb hx
  exact⟨sl,(hs.2 b (U9 b o e)).trans e1⟩
 .obtain ⟨o',e1⟩:=I.base.there b o e hx
  exact⟨o',(hs.2 b (U9 b o e)).trans e1⟩
 .have hj:j≠i:=λz=>by
   subst z;have hl:j<Y.length:=by have:=(Yh.mp e2).1;simpa using this
   rw[UE hl]at e2;cases e2
  rw[X9 (Ne.symm hj)]at e2;let⟨u',r',q⟩:=hl j y v' e1 e2 e3;refine⟨u',r',?_⟩;rcases q with⟨k,e⟩|⟨k,c,e,z⟩
  .refine .inl ⟨k,?_⟩
   have:y≠n:=λe=>hj (gj hN e1 (e ▸ hi));simp[this,e]
  .exact .inr ⟨k,c,e,z.sameBut hs (W1 y c e)⟩
 .obtain ⟨w',z⟩:=I.cell y c e
  exact⟨w',z.sameBut hs (W1 y c e)⟩
 .obtain ⟨e,n,ne,nf,d⟩:=I.pin p hp
  exact⟨(hs.2 p.1 ne).trans e,n,ne,nf,d⟩
 .refine (I.ZQ b ob e).Yv (λc w' hc q=>(hs.2 c ?_).trans q) (λ_ q=>q) λ_ _ q=>q
  rintro rfl;rcases hc with rfl|hc
  .rw [I.free]at e;cases e
  .rw [I.free]at hc;cases hc
end
section
variable{Y:L2.St}
def DA(base:Heap)(C:Addr):Prop:=∃bm N nm q bs hdct sn sub ab col dd k0 k1 k2 k3 k5 newId,base.get? C=some (excClassObj nm q C N bs bm hdct sn sub ab col dd k0 k1 k2 k3 k5 newId)/\bm.contains (.type "BaseException")=true
def Dq(X:Cx)(C:Addr)(h:ExceptHandler):Prop:=∃y a n b p D,h = .ExceptHandler (some (.Name y a)) n b p/\X.mg y=some (.ref D)/\Gl X y/\(y==("__debug__" : Str))=false/\PySem.W.kitOne X.K (.ref C) (.ref D)=some false/\PySem.W.mroIn X.K D (.type "BaseException")=some true
def sF{E:Value->Shared->Prop}{Q:Bool->Shared->Prop}{D:Addr}(X:K.In s.heap)(b:s.heap.get? ea=some oe)(c:oe.cls=.ref C)(k:PySem.W.kitOne K (.ref C) (.ref D)=some false)(e:PySem.W.mroIn K D (.type "BaseException")=some true)(j:Q false s):
  wpAny (model prog w) A (excMatches (.ref ea) (.ref D)) Q E s:=by
 unfold PySem.W.kitOne at k;split at k
 .cases k
 let⟨i,a,n⟩:=PySem.W.kit_cls (M:=model prog w) X k;let⟨h,g,d,t,os⟩:=s;have f:PySem.W.Looks (model prog w) h (isInstance (.ref D) (.type "tuple")) false:=i.andThen (PySem.W.Looks.of_pure tc_notTuple);have l:PySem.W.Looks (model prog w) h (isExcClass (.ref D)) true:=a.andThen (PySem.W.looks_mroIn X e);have m:PySem.W.Looks (model prog w) h (typeOf (.ref ea)) (.ref C):=c ▸ (PySem.W.Looks.ld b).andThen .now;unfold excMatches;refine ZB (f.at ?_)
 repeat (any_goals (first|assumption|lk|wp_step))
def kB{C a:Addr}{oe:Obj}{d:List ExceptHandler}{Q:Flow->Shared->Prop}{E:Value->Shared->Prop}(c:L2.Z4 (BI X Z a oe) [] Y H s)(e:s.heap.get? a=some oe)(f:oe.cls=.ref C)(h:wpAny (model X.prog X.w) X.A (handleBy (.ref a) X.env d) Q E s):
  ∀{pre:List ExceptHandler},(∀h∈pre,Dq X C h)->wpAny (model X.prog X.w) X.A (handleBy (.ref a) X.env (pre++d)) Q E s
 |[],_=>h
 |p::pre,hp=>by
  let⟨y,o,n,b,ps,D,rfl,g,i,j,k,l⟩:=hp p WS;refine wpAny_handleBy_cons (codeAny_handlers_test (bA c i g ?_ j)) (by intro q;cases q)
  exact sF c.Zf e f k l (kB c e f h λh m=>hp h (HS _ m))
def x4{UR : Stmt}{UQ:List Stmt}{np:Pos}{pre ZV:List ExceptHandler}{Q:Flow->Shared->Prop}{E:Value->Shared->Prop}
  (I:L2.Z4 X Z Y H s) (hex:X.ex=[]) (ZJ:X.stack=X.env::X.outer) (F:Fly X.prog X.w X.stack H s ea (.ref C) dx H' s') (Z6:DA X.base C) (hm:X.mg x=some (.ref C)) (hg:Gl X x)
  (hN:X.N.Nodup) (hi:X.N[i]?=some n) (hk:X.env.scope.names.lookup n=some .local) (hd:(x==("__debug__" : Str))=false) (Xc:∀h∈pre,Dq X C h)
  (k:∀ oe s4,oe.cls=.ref C->oe.dict=dx->(∃ vs,oe.data=.fields vs)->L2.Z4 (BI X Z ea oe) [] (Y.set i (some (.ref ea))) H' s4 ->
   wpAny (model X.prog X.w) (X.A.mark (some (.ref ea))) (execs (UR::UQ) X.env) (λf s5=>wpAny (model X.prog X.w) X.A (do bindName X.env n .none;unbindBehindTheSuite X.env n pos) (λ_ s6=>Q f s6) E s5) (λ_ _=>False) s4) :
  wpAny (model X.prog X.w) X.A (noteFrame (.ref ea) X.env) (λ_ s2=>wpAny (model X.prog X.w) X.A (setFlight (.ref ea) none) (λ_ s3 =>
   wpAny (model X.prog X.w) X.A (handleBy (.ref ea) X.env (pre ++ .ExceptHandler (some (.Name x np)) (some n) (UR::UQ) pos::ZV)) Q E s3) E s2) E s':=by
 have hf:=gG I ZJ;have fin:X.env.locals∈frs X.stack:=by rw[ZJ];unfold frs;rw[Vk,hf];exact WS
 have I1:L2.Z4 X Z Y H' s':=I.TQ F.os F.un F.ZQ F.bare (λb z=>absurd z #[3])
 let⟨T,tr,hHT,hsT⟩:=F.tr;have FF:s'.heap.FunFrames X.base (X.env::X.outer):=by rw[<-ZJ];exact I1.stack
 have old:∀b,s.heap.get? b=none->X.ZH.heap.get? b=none:=λb e=>by
  cases q:X.ZH.heap.get? b with
  |none=>rfl
  |some o=>let⟨o',z⟩:=I.base.there b o q (by rw[hex];simp);rw[e]at z;cases z
 have Vn:∀(b:Addr) (o:Obj) (ws:Array Value),s'.heap.get? b=some o->o.data=.fields ws->b ∉ frs X.stack:=λb o ws e d z=>by
  let⟨_,o',e1,e2⟩:=I1.stack.mem z;rw[e]at e1;cases e1;exact e2 ws d
 have one:∀b o ws,s'.heap.get? b=some o->o.data=.fields ws->s.heap.get? b=none->H' b=none->X.ZH.heap.get? b=none/\H' b=none/\b ∉ frs X.stack/\(∀x c,X.env.cells.lookup x=some c->c≠b) /\∀p∈X.pn++Z,p.1≠b:=λb o ws e d z hz=>by
  refine⟨old b z,hz,Vn b o ws e d,λy c ec q=>?_,λp hp q=>?_⟩
  .obtain ⟨v,o',e1,e2⟩:=I.cell y c ec
   rw[q,z]at e1;cases e1
  .obtain ⟨e1,_⟩:=I.pin p hp
   rw[q,z]at e1;cases e1
 have two:∀b,s'.heap.get? b=none->X.ZH.heap.get? b=none/\H' b=none/\b ∉ frs X.stack/\(∀x c,X.env.cells.lookup x=some c->c≠b) /\∀p∈X.pn++Z,p.1≠b:=λb z=>by
  refine⟨?_,I1.ZQ.off z,λq=>?_,λy c ec q=>?_,λp hp q=>?_⟩
  .cases q:X.ZH.heap.get? b with
   |none=>rfl
   |some o=>let⟨o',z'⟩:=I1.base.there b o q (by rw[hex];simp);rw[z]at z';cases z'
  .obtain ⟨_,o',e1,_⟩:=I1.stack.mem q;rw[z]at e1;cases e1
  .obtain ⟨v,o',e1,e2⟩:=I1.cell y c ec
   rw[q,z]at e1;cases e1
  .obtain ⟨e1,_⟩:=I1.pin p hp
   rw[q,z]at e1;cases e1
 have tr0:=tr;let⟨oe,vs,oT,ts,he,_,_,hd0,_,VZ,hT,Xi,_⟩:=tr0;refine k9 (by rw[I.ok.frames,ZJ]) FF hf tr λh4 T' K4 X6 tr4=>?_
 rw[<-ZJ]at K4;have YM:∀b∈[ea,T,T'],X.ZH.heap.get? b=none/\H' b=none/\b ∉ frs X.stack/\(∀x c,X.env.cells.lookup x=some c->c≠b) /\∀p∈X.pn++Z,p.1≠b:=λb hb=>by
  have hb:b=ea\/b=T\/b=T':=by simpa using hb
  rcases hb with rfl|rfl|rfl
  .exact one _ oe vs he hd0 F.new F.free
  .exact one _ oT ts hT Xi hsT hHT
  .exact two _ X6
 have Ww:T' ∉ frs X.stack:=(YM T' #[3]).2.2.1
 refine dC (fr:=frs X.stack) Ww tr4 λh5 K5 tr5=>?_;have K45:Yn (frs X.stack) [ea,T,T'] s'.heap h5:=(K4.mono #[3]).trans (K5.mono #[3])
 have back:∀h5,Yn (frs X.stack) [ea,T,T'] s'.heap h5->L2.Z4 X Z Y H' {s' with heap:=h5}:=λh5 K=>pK (ch:=[ea,T,T']) I1 hex K.keep K.slot fin YM
 have I5:=back h5 K45;have ne:ea≠X.env.locals/\ea ∉ X.fs:=by
  have z:=(YM ea #[3]).2.2.1
  refine⟨λq=>z (q ▸ fin),λq=>z ?_⟩;rw[ZJ];unfold frs;rw[Vk,hf];exact HS _ q
 let⟨oe5,vs5,_,_,he5,hc5,_,hd5,_⟩:=id tr5;have S5:=jA (oe:=oe5) I5 he5 F.free ne.1 ne.2 (λv q=>by rw[hd5]at q;cases q)
 let⟨bm,N,nm,q,bs,hdct,sn,sub,ab,col,dd,k0,k1,k2,k3,k5,newId,hC,Yt⟩:=Z6;refine kB S5 he5 hc5 (wpAny_handleBy_cons (codeAny_handlers_test (bA S5 hg hm ?_ hd)) (by intro q;cases q)) Xc
 refine wpAny_excMatches_sub_self (I5.bk _ _ hC) he5 hc5 Yt (codeAny_handlers_suite_as ?_);refine dC (fr:=frs X.stack) Ww tr5 λh6 K6 tr6=>?_;have I6:=back h6 (K45.trans (K6.mono #[3]))
 let⟨oe6,vs6,_,_,he6,hc6,hdx6,hd6,_⟩:=id tr6;have S6:=jA (oe:=oe6) I6 he6 F.free ne.1 ne.2 (λv q=>by rw[hd6]at q;cases q)
 refine cZ (X:=BI X Z ea oe6) (v:=.ref ea) S6 hN hi (.inl hk) rfl (λs7 I7=>?_) (.inr hk);exact V6 (k oe6 s7 hc6 hdx6 ⟨_,hd6⟩ I7) (λ_ _ q=>q) λ_ _ z=>z.elim
end
section
abbrev Bv(X:Cx)(pn:List (Addr×Obj))(E':Value->Shared->Prop):Cx:={X with pn:=pn,xe:=E'}
def va{Y:L2.St}(I:L2.Z4 X Z Y H s):L2.Z4 (Bv X (X.pn++Z) E') [] Y H s:=
 ⟨⟨I.ok.mod,I.ok.kind,I.ok.glob,I.ok.blt,I.ok.above,I.ok.inj,I.ok.has,I.ok.VM,I.ok.hd,I.ok.frames,I.ok.WK,I.ok.exf,I.ok.bs,I.ok.W2,I.ok.Y3,I.ok.U_,I.ok.XH,I.ok.Wo⟩,I.os,I.bare,I.base,I.loc,I.cell,I.free,I.Ym,λp a=>I.pin p (by rw[Tc]at a;exact a),I.ZQ,I.len⟩
def dh{d:List (Addr×Obj)}{Y:L2.St}(b:X.Ok)(a:L2.Z4 (Bv X (X.pn++Z) E') d Y H s):L2.Z4 X Z Y H s:=
 ⟨b,a.os,a.bare,a.base,a.loc,a.cell,a.free,a.Ym,λp c=>a.pin p (T4 _ c),a.ZQ,a.len⟩
def Ge(i:Nat)(D:Ends):Ends:={nx:=λY H=>D.nx (Y.set i none) H,rt:=D.rt,bk:=λY H=>D.bk (Y.set i none) H,ct:=λY H=>D.ct (Y.set i none) H}
def Catch(X:Cx)(n:Str)(f:List ExceptHandler)(C:Addr)(d:Addr->Option Addr->TS):Prop:=∃a x e b c pos ZV,f=a ++ .ExceptHandler (some (.Name x e)) (some n) (b::c) pos::ZV/\(∀h∈a,Dq X C h)/\DA X.base C/\X.mg x=some (.ref C)/\Gl X x/\(x==("__debug__" : Str))=false /\
 ∀(ea:Addr) (dx:Option Addr) (oe:Obj) (Z:List (Addr×Obj)),oe.cls=.ref C->oe.dict=dx->(∃vs,oe.data=.fields vs)->PSs (BI X Z ea oe) (b::c) (d ea dx)
def Kd(a:Addr->(Addr->Option Addr->TS)->Prop)(i n:Nat)(tb:XK->TS):TS:=λD Y H=>
 tb (λC' dx H'=>∃C ts,C'=.ref C/\a C ts /\∀(ea:Addr) (ZX:L2.St),H' ea=none->ZX.length=n->ts ea dx (Ge i D) (ZX.set i (some (.ref ea))) H') D Y H
def aaM{A:ExceptHandler}{t:List ExceptHandler}{tb:XK->TS}
  (o:X.ex=[]) (L:X.stack=X.env::X.outer) (l:X.N.Nodup) (k:X.N[i]?=some n) (j:X.env.scope.names.lookup n=some .local)
  (E:∀(E0:XK) (pn:List (Addr×Obj)) (E':Value->Shared->Prop),AM (CX1 X.prog X.w) (Bv X pn E') E0->PSs (Bv X pn E') body (tb E0)) :
  PS X (.Try body (A::t) [] [] pos) (Kd (Catch X n (A::t)) i X.N.length tb):=by
 intro Z s Y H D I h;rw[arm_exec_Try];refine ZB (Tp (wpAny_tryStmt_except ?_));refine V6 (E _ (X.pn++Z) _ ?_ [] s Y H D (va I) h) (λf p q=>?_) (λe p q=>q)
 .rintro T ZX H' S e s' Z7 ⟨ea,C',dx,H2,rfl,F,C,ts,rfl,⟨pre,x,np,U,V,y,ZV,J,O,Z6,hm,B,hd,G⟩,q⟩
  have g:=dh I.ok Z7;rw[J];refine x4 g o L F Z6 hm B l k j hd O λoe s4 P K M Q=>?_;refine V6 (G ea dx oe Z P K M [] s4 _ H2 (Ge i D) Q (q ea ZX F.free g.len)) (λf R z=>?_) λ_ _ z=>z;cases f with
  |ret u=>let⟨v,b,c,a,r,z⟩:=z;exact dQ (dZ g a) l k j λm d=>⟨v,_,_,d,r,z⟩
  |_=>let⟨b,c,a,z⟩:=z;exact dQ (dZ g a) l k j λm d=>⟨_,_,d,z⟩
 .cases f with
  |next=>let⟨b,c,a,z⟩:=q;exact eQ Z p b c D (dh I.ok a) z
  |ret u=>let⟨v,b,c,a,r,z⟩:=q;exact⟨v,b,c,dh I.ok a,r,z⟩
  |_=>let⟨b,c,a,z⟩:=q;exact⟨b,c,dh I.ok a,z⟩
end
open PySem PySem.Spec PySem.Calls PyProof.Rows L2 PySem.W PySem.Builtin PySem.Builtin.ObjectAttr PySem.Builtin.Getset_descriptor
section
variable{E:Value->Shared->Prop}{x:Addr}{ox:Obj}{odo:Option Obj}
def zP{g:Array GenState}{d:Drawn}{t:Nat}{b:OsState}{c:Value}(X:K.In h)(j:Looks Z9 h (typeOf (.ref x)) (.ref C))(a:mroIn K C (.type "BaseException")=some true)(k:Q Unit.unit ⟨h,g,d,t,b⟩):wpAny Z9 A (checkBuiltinCall "BaseException.__getattribute__" ⟨[.ref x,c],[]⟩) Q E ⟨h,g,d,t,b⟩:=by
 have hk:builtinKind "BaseException.__getattribute__" = some .slot:=by decide +kernel
 have e:splitId "BaseException.__getattribute__" = some ("BaseException","__getattribute__"):=by decide +kernel
 have l:=F.args_bexc_ga (.ref x) c;have i:=looks_mroIn (M:=Z9) X a;have f:Looks Z9 h (isInstance (.ref x) (.type "BaseException")) true:=j.andThen i;simp![checkBuiltinCall,hk,e];refine ZB (f.at ?_)
 repeat (any_goals (first|assumption|wp_step))
def lK{g:Array GenState}{d:Drawn}{t:Nat}{j:OsState}{tk:Tok}{f b:Bool}{c:Builtin.ObjectAttr.Found}{Q:Value->Shared->Prop}(X:K.In h)(n:Looks (model prog w) h (typeOf (.ref x)) (.ref C))(m:findIn K (.ref C) "__getattribute__" = some (some (.builtin "BaseException.__getattribute__")))
  (o:findIn K (.ref C) "__getattr__" = some none) (l:mroIn K C (.type "BaseException")=some true) (y:Looks (model prog w) h (Builtin.ObjectAttr.find (.ref x) (.ref C) name) c)
  (i:∀(s:Around) (E':Value->Shared->Prop),match c with|.value v=>wpAny (model prog w) A (handedOut v) Q E ⟨h,g,d,t,j⟩|.bind gg a=>wpAny (model prog w) s (Builtin.ObjectAttr.bindTo gg a (.ref x) (.ref C)) (λe s'=>match e with|.done (.ret v)=>wpAny (model prog w) A (handedOut v) Q E s'|_=>False) E' ⟨h,g,d,t,j⟩|.missing=>False) :
  wpAny (model prog w) A (getAttrBy (.ref x) (.str name tk) f b) Q E ⟨h,g,d,t,j⟩:=by
 have r:=Pb (M:=model prog w) X m;have L2:=Pb (M:=model prog w) X o;have p:=F.excAttr_ValueError.ga.bind (.ref x);have k:(b&&onTheHeap (Value.builtin "BaseException.__getattribute__"))=false:=by cases b<;>rfl
 have q:(Value.builtin "BaseException.__getattribute__" == Value.builtin "object.__getattribute__")=false:=by decide +kernel
 unfold getAttrBy;refine US (ZB (n.at (ZB (r.at ?_))));simp![q,Bool.and_false,WN,U3];unfold getAttrByItsOwn hookBefore;refine ZB ?_;show wpAny _ _ (typeLookup (.ref C) "__getattr__") _ _ _;refine L2.at ?_;refine ZB (QX (US ?_));unfold callGetattribute;simp![k,WN,U3];unfold boundAndCalled;rw[p];refine ZB (ZP ?_);refine Qf (Qr F.excAttr_ValueError.ga.plain F.entry_bexc_ga (zP X n l ?_));unfold Builtin.«object.__getattribute__»
 repeat (any_goals (first|assumption|lk|wp_step))
 have u:=i;cases c with
 |value v=>exact ZP (i A E)
 |bind gg a=>
  refine V6 (i A.in1 (λ_ _=>False)) (λe s' z=>?_) λ_ _ z=>z.elim;rcases e with(_|_|_|_)|_<;>first|exact z|exact z.elim
 |missing=>exact(i A E).elim
def qW{a g:Value}(X:K.In h)(d:findIn K (.ref C) name=some (some a))(c:specialIn K a "__get__" = some (some g))(b:takesIn K a=some true):
  Looks Z9 h (Builtin.ObjectAttr.find (.ref x) (.ref C) name) (.bind g a):=by
 have f:=Pb (M:=Z9) X d;have L2:Looks Z9 h (Builtin.ObjectAttr.getOf (some a)) (some g):=looks_specialIn X c;have e:=looks_takesIn (M:=Z9) X b;refine f.andThen (L2.andThen ?_);exact(show Looks Z9 h (Builtin.ObjectAttr.dataDescriptor? (some a) (some g)) (some (g,a))from e.andThen .now).andThen (Looks.tag .now)
def pW{a:Value}{R:Result->Shared->Prop}(X:K.In s.heap)(hx:s.heap.get? x=some ox)(d:ox.cls=.ref C)(b:mroIn K C (.type "object")=some true)
  (h:R (.ok (.ret (.ref C))) s):codeAny (model prog w) A (.call (.builtin "getset_descriptor.__get__") ⟨[.builtin "object.__class__",.ref x,a],[]⟩) R s:=by
 let⟨c,g,e,t,os⟩:=s;have i:Looks (model prog w) c (typeOf (.ref x)) (.ref C):=d ▸ (Looks.ld hx).andThen .now;have f:=looks_mroIn (M:=model prog w) X b;refine Qr KF.slot_gs.plain KF.entry_gs (KF.slot_gs.check _ _ _ _ _ _ _ _ KF.type_class (KF.args_gs _ _ _) ?_);unfold Builtin.«getset_descriptor.__get__» descrGet;rw[dga_obj];refine ZB (ZP ?_);unfold descrGetter descrCheckInstance descrNameAndClass isInstance;simp![KF.owner_class]
 repeat lk
 refine⟨QM _ (by decide +kernel),codeAny_builtin KF.entry_class ?_⟩
 unfold Builtin.«object.__class__» shownTypeOf
 repeat lk
 exact h
structure Vm(K:HY)(C:Addr):Prop where
 ga:findIn K (.ref C) "__getattribute__" = some (some (.builtin "BaseException.__getattribute__"))
 gt:findIn K (.ref C) "__getattr__" = some none
 mb:mroIn K C (.type "BaseException")=some true
 cl:findIn K (.ref C) "__class__" = some (some (.builtin "object.__class__"))
 gn:specialIn K (.builtin "object.__class__") "__get__" = some (some (.builtin "getset_descriptor.__get__"))
 tk:takesIn K (.builtin "object.__class__")=some true
 mo:mroIn K C (.type "object")=some true
 cs:(clsIn K C).isSome=true
def yI{Q:Option Value->Shared->Prop}(F:Vm K C)(X:K.In s.heap)(hx:s.heap.get? x=some ox)(a:ox.cls=.ref C)
  (h:Q (some (.ref C)) {s with toks:=s.toks+1}):wpAny (model prog w) A (getAttr? (.ref x) "__class__") Q E s:=by
 let⟨b,g,d,t,os⟩:=s;have c:Looks (model prog w) b (typeOf (.ref x)) (.ref C):=a ▸ (Looks.ld hx).andThen .now;unfold getAttr? getAttrBy?;refine ZB (wpAny_mkText (ZB (QX (lK X c F.ga F.gt F.mb (qW X F.cl F.gn F.tk) λe E'=>?_))));show wpAny _ _ (Builtin.ObjectAttr.bindTo _ _ _ _) _ _ _;unfold Builtin.ObjectAttr.bindTo;show wpAny _ _ (holding [.builtin "object.__class__"] (call (.builtin "getset_descriptor.__get__") [.builtin "object.__class__",.ref x,.ref C]) >>= ret) _ _ _;refine ZB (US (Qf (pW X hx a F.mo ?_)));exact ZP (handed_on rfl (ZP h))
def kj(F:Vm K C):KitX K (.ref x) (.ref C) (λh=>∃ox,h.get? x=some ox/\ox.cls=.ref C) where
 ty:=λ_ _ _ ⟨_,hx,hc⟩=>hc ▸ (Looks.ld hx).andThen .now
 it:=λ_ _ X _=>by
  let⟨cdD,Xp⟩:=T3.mp F.cs;unfold clsIn at Xp;split at Xp
  .rename_i c' d' cd' WZ ho
   intro A' Q' E' s' k q;unfold isType loadHead;exact ZB (QE (k _ _ (X _ _ ho)) (ZP q))
  .cases Xp
 ne:=λh tp dd ZY n sl X htp=>by
  let⟨cdD,Xp⟩:=T3.mp F.cs;refine Bool.eq_false_iff.mpr λq=>?_;have e:C=tp:=Value.ref.inj (WQ.mp q);subst e;unfold clsIn at Xp;split at Xp
  .rename_i c' d' cd' WZ ho
   have z:=(X _ _ ho).symm.trans htp;cases z
  .cases Xp
 ca:=λX q k=>q.elim λ_ h=>yI F X h.1 h.2 k
end
open PySem PySem.Spec PyProof.Rows L2 PySem.W
structure Gr(H H':Hp):Prop where
 Uc:∀K ρ,ZM K ρ H ρ H'
 rh:∀K ρ g,RH K ρ H g->RH K ρ H' g
def Gr.refl{H:Hp}:Gr H H:=⟨λ_ _=>.refl,λ_ _ _ h=>h⟩
def Gr.trans{H d c:Hp}(a:Gr H d)(b:Gr d c):Gr H c:=⟨λK ρ=>(a.Uc K ρ).trans (b.Uc K ρ),λK ρ g h=>b.rh K ρ g (a.rh K ρ g h)⟩
def Gr.fresh{H:Hp}{t:Addr}{o:HO}(h:H t=none):Gr H (upd H t o):=⟨λ_ _=>.fresh h,λ_ _ _ k=>k.step_fresh h⟩
def Gr.at(g:Gr H H'){o:HO}(h:H a=some o):H' a=some o:=(g.Uc [] []).Yc a o h #[3]
def XMk(K:HY)(mg:Str->Option Value)(base:Heap)(x:Str)(C:Addr)(a:List Str):Prop:=match a with
 |[]=>∃bm newId B X7,OwnCls x C bm newId mg base/\ExcBaseFacts B newId X7 bm
 |_::_=>∃fI YD newId B X7,(∃bm N nm q bs hdct sn sub ab col dd k0 k1 k2 k3 k5 mN,base.get? C=some (excClassObj nm q C N bs bm hdct sn sub ab col dd k0 k1 k2 k3 k5 newId)/\base.Ns N mN/\mN "__init__" = some (.ref fI)/\OwnTail base YD bm) /\
   ExcBaseFacts B newId X7 YD/\(∀f∈a,UT K C f/\findIn K (.ref C) f=some none)/\TB K C fI a
structure XC(K:HY)(mg:Str->Option Value)(base:Heap)(x:Str)(fo:List Str)(as:List (Str×Bool))(C:Addr):Prop where
 bound:mg x=some (.ref C)
 cls:DA base C
 made:XMk K mg base x C fo
 Ub:Vm K C
 Ua:∀y b,as.lookup y=some b ->∃c v,RelV v c/\(∀u,RelV v u->u=c)/\((bootBuiltins y=some c/\mg y=none/\y ≠ "__name__")\/mg y=some c)/\(y==("__debug__" : Str))=false/\kitOne K (.ref C) c=some b
abbrev XF:=Option (Addr×List (Str×V))
def XFok(H:Hp):XF->Prop
 |none=>True
 |some (dx,fs)=>H dx=some (.xd fs)
def lD{b:Type}{f:Str}:∀{a:List Str} {vs:List b} {k:Nat},Dg f a=some k->a.length=vs.length ->∃v,vs[k]?=some v/\(a.zip vs).lookup f=some v
 |[],_,_,e,_=>by cases e
 |g::r,[],_,_,l=>by cases l
 |g::r,v::vs,k,e,l=>by
  unfold Dg at e;cases z:f==g with
  |true=>rw[z]at e;cases e;exact⟨v,rfl,by simp[List.lookup,z]⟩
  |false=>
   rw[z]at e;let⟨j,c,rfl⟩:=YU.mp e;let⟨w,h1,h2⟩:=lD (vs:=vs) c (by simpa using l)
   exact⟨w,by simpa using h1,by simp![Rr,List.lookup,z];exact h2⟩
def XFok.gr{xf:XF}(g:Gr H H')(h:XFok H xf):XFok H' xf:=by
 cases xf with
 |none=>trivial
 |some p=>exact g.at h
def Ke(i:Nat)(a:Addr)(xf:XF)(v:V):TE:=λY H Q=>Y[i]?=some (some (.ref a))/\XFok H xf /\∀H',Gr H H'->Q v H'
def Kf(i:Nat)(a:Addr)(xf:XF)(vs:List V):TA:=λY H Q=>Y[i]?=some (some (.ref a))/\XFok H xf /\∀H',Gr H H'->Q vs H'
def lB(h:Ef es=some q):es=[q.1,q.2]:=by
 cases es with
 |nil=>exact qN h
 |cons y es=>cases es with
  |nil=>exact qN h
  |cons z es=>cases es with
   |nil=>cases h;rfl
   |cons _ _=>exact qN h
def wB{e:Expr}(h:Io e=some q):∃c p,e = .Tuple [q.1,q.2] c p:=by
 cases e with
 |Tuple ts c p=>exact⟨c,p,by rw[lB h]⟩
 |_=>exact qN h
def XR(K:HY)(ws:List V):Nat ⊕ U->V->Prop
 |.inr u,w=>∀ρ H,RV K ρ H u w
 |.inl k,w=>ws[k]?=some w
def XRs(K:HY)(ws:List V):List (Nat ⊕ U)->List V->Prop
 |[],vs=>vs=[]
 |x::xs,vs=>∃v r,vs=v::r/\XR K ws x v/\XRs K ws xs r
section
variable{fo:List Str}{bt:List Str}{xf:XF}{ws:List V}
def zL(F:Vm X.K C)(hp:(ea,oe)∈X.pn)(g:oe.cls=.ref C)(f:∀u,RelV v u->u=c)(k:kitOne X.K (.ref C) c=some b):CallR X (.builtin "isinstance") (λxs H Q=>xs=[.ref ea,v]/\Q (.bl b) H):=by
 intro Z s Y H xs J Q I rs ⟨e,q⟩;subst e;cases rs with
 |cons d rs=>
  cases rs with
  |cons a rs=>
   cases rs;cases d;cases f _ a;exact kia_one (kj F) I.Zf ⟨oe,(I.pin _ (T4 _ hp)).1,g⟩ k (λz=>nomatch z) λtk=>⟨.bl b,H,I.tok tk,rfl,q⟩
def xh{h:Value}{f:V}{a:Bool}(F:Vm X.K C)(hp:(ea,oe)∈X.pn)(p:oe.cls=.ref C)(n:∀u,RelV v u->u=c)(d:∀u,RelV f u->u=h)(k:kitOne X.K (.ref C) c=some a)(k2:kitOne X.K (.ref C) h=some b):
  CallR X (.builtin "isinstance") (λxs H Q=>∃t,xs=[.ref ea,.ref t]/\H t=some (.Z1 [v,f])/\Q (.bl (a||b)) H):=by
 intro Z s Y H xs J Q I rs ⟨t,e,ht,q⟩;subst e;cases rs with
 |cons j rs=>
  cases rs with
  |cons i rs=>
   cases rs;cases j;cases i;let⟨_,ZY,r,o,h1,h2,m,g⟩:=I.ZQ t _ ht;cases r with
   |cons l r=>
    cases r with
    |cons r2 r=>
     cases r;cases n _ l;cases d _ r2;let⟨KG,od,x,w⟩:=o;dsimp only at h2 g;subst h2;subst g;refine kia_tup (kj F) I.Zf ⟨oe,(I.pin _ (T4 _ hp)).1,p⟩ h1 (b:=a||b) ?_ (λz=>nomatch z) λtk=>⟨.bl (a||b),H,I.tok tk,rfl,q⟩;simp![kitAny,k,k2];cases a<;>cases b<;>rfl
def hJ{y:Str}(d:Gl X y)(r:RelV v c)(h:(bootBuiltins y=some c/\X.mg y=none/\y ≠ "__name__")\/X.mg y=some c)(e:(y==("__debug__" : Str))=false):PE X (.Name y pos) (IV v):=by
 rcases h with⟨a,b,c⟩|h
 .exact lh d b a r c e
 .exact lY d h r e
def vP{d:Addr}{o:List (Str×V)}{E:Pos}(Xj:o.lookup f=some v)(F:Vm X.K C)(O:findIn X.K (.ref C) f=some none)(M:hasDictIn X.K C=true)(hp:(ea,oe)∈X.pn)(R:oe.cls=.ref C)(Zi:oe.dict=some d)(r:∃vs,oe.data=.fields vs)(S:X.N[i]?=some n)(G:Vis X.env.scope n)(P:(n==("__debug__" : Str))=false)(Y8:(n==("__classdict__" : Str))=false):
  PE X (.Attribute (.Name n E) f pos) (Ke i ea (some (d,o)) v):=by
 intro Z s Y H Q I ⟨D,B,A⟩;refine ly #[2] (thn (dk S G P Y8 Z s Y H (λy H1=>y=.ref ea/\H1=H) I ⟨_,D,rfl,rfl⟩) ?_);rintro u g ⟨y,H1,c,z,U,T⟩
 subst U;subst T;obtain rfl:u=Value.ref ea:=z;let⟨mA,ns,j⟩:=(show ObjOk X.prog X.w _ g.heap d (.xd o)from c.ZQ d _ B);let⟨od,WD,L⟩:=gh ns;have a:=j f;rw[Xj]at a;cases hm:mA f with
 |none=>rw[hm]at a;exact a.elim
 |some t=>
  rw[hm]at a;have Z7:PySem.W.InstAt g.heap ea oe C (some od):=⟨(c.pin _ (T4 _ hp)).1,R,by let⟨vs,r⟩:=r;unfold notCls;rw[r],by rw[Zi];exact WD⟩
  have k:findObj X.K C (some od) f=some (.value t):=findObj_own M O rfl (by rw[L,hm])
  let⟨J,g1,d1,t1,Lg⟩:=g;unfold getAttr;refine ZB (wpAny_mkText (lK c.Zf Z7.type F.ga F.gt F.mb (looks_find c.Zf Z7 k) λA' E'=>?_));exact handed_on (jK a) ⟨v,H1,c.tok _,a,A H1 .refl⟩
def sm(F:XC X.K X.mg X.base x fo as C)(hp:(ea,oe)∈X.pn)(P:oe.cls=.ref C)(I:fo≠[]->ws.length=fo.length /\∃dx,oe.dict=some dx/\xf=some (dx,fo.zip ws))(YX:∃vs,oe.data=.fields vs)(Zb:X.env.scope=sc)(Xl:∀y∈bt,X.mg y=none)(S:X.N[i]?=some n)(J:Vis X.env.scope n)(hd:(n==("__debug__" : Str))=false)(Y8:(n==("__classdict__" : Str))=false){e:Expr}{u:Nat ⊕ U}(h:CJ bt sc n fo as e=some u):
  isStar e=false /\∃v,XR X.K ws u v/\PE X e (Ke i ea xf v):=by
 have gl:∀y,glob sc y=true->Gl X y:=λy G=>by
  show X.env.scope.names.lookup y=_;rw[Zb];exact WQ.mp G
 cases e with
 |Constant c k p=>cases c with
  |str s=>cases h;exact⟨rfl,_,λ_ _=>rfl,hU.imp λY H Q ⟨_,_,q⟩=>q H .refl⟩
  |_=>exact qN h
 |Attribute o f p=>
  refine qB h λn' M h=>qI h λd h=>qM h λk hk e=>?_;let⟨p1,rfl⟩:=aJ M;cases HX d;subst e;have Z9:=F.made;cases fo with
  |nil=>cases hk
  |cons f0 fr=>
   let⟨hl,dx,Zi,rfl⟩:=I #[3]
   let⟨v,h1,h2⟩:=lD hk hl.symm;let⟨fI,YD,newId,B,X7,_,_,XS,_⟩:=Z9;have E:f∈f0::fr:=(Qs (Rc h2)).1;exact⟨rfl,v,h1,vP h2 F.Ub (XS f E).2 (XS f E).1.hd hp P Zi YX S J hd Y8⟩
 |Call f es ks p=>cases ks with
  |cons _ _=>exact qN h
  |nil=>
   refine qB h λf' E h=>qB h λq hq h=>qB h λn' M h=>qI h λd A=>?_;let⟨D,j⟩:=q;let⟨pf,rfl⟩:=aJ E;cases lB hq;let⟨pn,rfl⟩:=aJ M;simp![ZC,Xn]at d;let⟨⟨⟨rfl,rfl⟩,c3⟩,c4⟩:=d;unfold Ip at A;cases R:H8 j with
   |some y=>
    rw[R]at A;let⟨py,rfl⟩:=aJ R;refine qI A λc5 h=>qM h λb g e=>?_;subst e;let⟨c,v,r,L,Z,W,V⟩:=F.Ua _ _ g;refine⟨rfl,_,λ_ _=>rfl,(pe_callB (zL F.Ub hp P L V) (gl _ c4) (Xl _ (W8.mp c3)) #[2] (aw (dk S J hd Y8) (aw (hJ (gl _ c5) r Z W) aQ rfl) rfl)).imp λY H Q ⟨D,_,j⟩=>?_⟩
    exact⟨_,D,rfl,j H .refl⟩
   |none=>
    rw[R]at A;refine qB A λw hw h=>qB h λy G h=>qB h λz hz h=>qI h λO h=>qB h λa g h=>qM h λb T e=>?_;subst e;let⟨w1,w2⟩:=w;let⟨_,_,rfl⟩:=wB hw;let⟨_,rfl⟩:=aJ G;let⟨_,rfl⟩:=aJ hz;rw[ZC]at O;let⟨c,v,r,L,Z,W,V⟩:=F.Ua _ _ g;let⟨c',v',r',T_,KQ,d4,d5⟩:=F.Ua _ _ T;refine⟨rfl,_,λ_ _=>rfl,(pe_callB (xh F.Ub hp P L T_ V d5) (gl _ c4) (Xl _ (W8.mp c3)) #[2] (aw (dk S J hd Y8) (aw (iq (aw (hJ (gl _ O.1) r Z W) (aw (hJ (gl _ O.2) r' KQ d4) aQ rfl) rfl)) aQ rfl) rfl)).imp λY H Q ⟨D,_,j⟩=>?_⟩
    exact⟨_,D,by show 2<=sizeLine;decide,λt ht=>⟨t,rfl,upd_same,j _ (.fresh ht)⟩⟩
 |_=>exact qN h
def jV(F:XC X.K X.mg X.base x fo as C)(hp:(ea,oe)∈X.pn)(j:oe.cls=.ref C)(a:fo≠[]->ws.length=fo.length /\∃dx,oe.dict=some dx/\xf=some (dx,fo.zip ws))(o:∃vs,oe.data=.fields vs)(m:X.env.scope=sc)(w:∀y∈bt,X.mg y=none)(k:X.N[i]?=some n)(f:Vis X.env.scope n)(g:(n==("__debug__" : Str))=false)(t:(n==("__classdict__" : Str))=false):∀{es:List Expr} {J:List (Nat ⊕ U)},Ab (es.map (CJ bt sc n fo as))=some J ->
  ∃vs,XRs X.K ws J vs/\PA X es (Kf i ea xf vs)
 |[],J,h=>by cases h;exact⟨[],rfl,λp Z s Y H Q I ⟨_,_,q⟩=>aQ p Z s Y H Q I (q H .refl)⟩
 |e::es,J,h=>by
  rw[Xk]at h;cases b:CJ bt sc n fo as e with
  |none=>rw[b]at h;cases h
  |some u=>
   rw[b]at h;let⟨E,A,rfl⟩:=YU.mp h;let⟨st,v,r,D⟩:=sm F hp j a o m w k f g t b;let⟨vs,rs,B⟩:=jV F hp j a o m w k f g t A;exact⟨v::vs,⟨v,vs,rfl,r,rs⟩,(aw D B (star_ne st es)).imp λY H Q ⟨d,c,z⟩=>⟨d,c,λH1 l=>⟨d,c.gr l,λH2 g2=>z H2 (l.trans g2)⟩⟩⟩
end
abbrev CL:=List (Addr×List Str)
variable{st:Stmt}{e:Expr}{cl:CL}{p9:Pos}{b:List Stmt}{b':List Z5}{N:List Str}{m:Nat}
def XD(fo:List Str)(vs:List V)(b:Hp)(c:Option Addr)(H:Hp):Prop:=match fo with
 |[]=>c=none/\H=b
 |_::_=>∃a,c=some a/\b a=none/\H=upd b a (.xd (fo.zip vs))
def WE(a:CL)(E:XK):XQ:=λc vs H=>∃C fo,a[c]?=some (C,fo)/\(fo=[]\/vs.length=fo.length) /\∀dx H',XD fo vs H dx H'->E (.ref C) dx H'
abbrev Vl(K:HY)(cl:CL)(M:List Fn)(d i np:Nat):Sp:=UY K (WE cl) M d i np
section
def _root_.L2.PA.Zx{a:List Expr}{t:TA}(h:PA X.Zx a t):PA X a t:=λp Z s Y H Q I b=>
 V6 (h p Z s Y H Q (I.Ye _) b) (λ_ _ ⟨v,H',c,r,q⟩=>⟨v,H',c.X2,r,q⟩) λ_ _ z=>False.elim z
def _root_.L2.PS.Zx{a:Stmt}{t:TS}(h:PS X.Zx a t):PS X a t:=λZ s Y H D I b=>
 V6 (h Z s Y H D (I.Ye _) b) (λ_ _ q=>q.X2) λ_ _ z=>False.elim z
def _root_.L2.PS.impI{e:Stmt}{t t':TS}(h:PS X e t)(q:∀Z s D Y H,L2.Z4 X Z Y H s->t' D Y H->t D Y H):PS X e t':=λZ s Y H D I h'=>h Z s Y H D I (q Z s D Y H I h')
def yM{b:Z5}(h:PS X.Zx st (ZF X.K W0 (JZ r b))):∀n C,r=J7 C n->PS X st (ZF X.K W (JZ (J7 C (n+1)) (.Zx [b]))):=by
 intro n C e;refine h.Zx.imp λD Y H ⟨Z2,ρ,g,hs,i,p⟩=>⟨Z2,ρ,g,hs,i,?_⟩;have a:=qj (W':=W0) p;have j:(J7 C (n+1)).ex [b] Z2 g=(JZ r b Z2 g).bind λf g=>match f with|.nx ZX=>r.ex [] ZX g|f=>.ok f g:=by rw[e];rfl
 rw[j]at a;revert a;cases JZ r b Z2 g with
 |ok f g1=>
  cases f with
  |nx d=>
   intro a;cases n with
   |zero=>rw[e]at a;exact a.elim
   |succ n=>rw[e]at a;exact a
  |_=>exactλp=>p
 |_=>exactλp=>p
def yu{c:Expr}{b:E}{as bs:List Stmt}{e:List Z5}(h:PT X c (tT X.K W0 (r.ts b)))(j:PSs X as (ZF X.K W (r.ex e)))(i:PSs X bs (ZF X.K W (r.ex YZ))):PS X (.If c as bs pos) (ZF X.K W (JZ r (.Wq b e YZ))):=by
 refine(nO h j i).imp ?_;rintro D Y H ⟨Z2,ρ,g,hs,f,p⟩;refine⟨Z2,ρ,g,hs,f,(dB (R:=Yj) p).mono λk H1 ⟨d,k',g1,s1,h1,l,a⟩=>?_⟩;subst l;cases k' with
 |true=>exact bf ⟨Z2,d,g1,hs.step s1,h1,a⟩
 |false=>exact be ⟨Z2,d,g1,hs.step s1,h1,a⟩
def rM{fo:List Str}{a:Expr}{np:Pos}{k:Nat}(Q:XC X.K X.mg X.base x fo as C)(hr:Ze (d+2) X.A)(u:X.ex=[])(ZJ:X.stack=X.env::X.outer)(O:X.calm=true)(j:Gl X x)(P:PA X (a::es) (XW X.K W0 (JT r.ev ZL)))
  (h2:∀vs H,W k vs H->fo=[]\/vs.length=fo.length)
  (hx:∀Z Y H s e oe vs H0,L2.Z4 X Z Y H s->s.heap.get? e=some oe->oe.cls=.ref C->(∃fs,oe.data=.fields fs/\fs[1]?=some .none)->H e=none->X.ZH.heap.get? e=none->W k vs H0->XD fo vs H0 oe.dict H->X.xe (.ref e) s)
  (N:(x==("__debug__" : Str))=false) (M:starEach (a::es) X.env=(false,eval a X.env)::starEach es X.env) (S:(backTo Zt (starEach es X.env)).any (·.1)=false) :
  PS X (.Raise (some (.Call (.Name x np) (a::es) [] Zt)) none pos) (ZF X.K W (JZ r (.raise k ZL))):=by
 have Z9:=Q.made;cases fo with
 |nil=>
  let⟨bm,newId,B,X7,G,L⟩:=Z9;refine(sD (W:=λH=>∃vs,W k vs H) G L O j P (λZ Y H s h1 e args I y ⟨vs,q⟩=>?_) N M S).imp λD Y H ⟨Z2,ρ,g,hs,j,p⟩=>?_
  .obtain ⟨t,F,_,_⟩:=y.there
   have E:X.ZH.heap.get? e=none:=by
    cases q:X.ZH.heap.get? e with
    |none=>rfl
    |some o=>let⟨o',z⟩:=I.base.there e o q (by rw[u];simp);rw[y.new]at z;cases z
   exact hx Z Y H _ e _ vs H (I.kept (t':=s.toks) y.keeps) F rfl ⟨_,rfl,rfl⟩ (I.ZQ.off y.new) E q ⟨rfl,rfl⟩
  .refine ⟨Z2,ρ,g,hs,j,(dB (R:=RVs X.K) p).mono λvs H1 ⟨w,J,g1,s1,h1,rs,c⟩=>?_⟩
   have c:J8 X.K W (if J.length<=Ac then .exc k J g1 else .Z0) w H1 D:=c
   split at c
   .rename_i hl
    exact⟨by rw[<-rs.length,Tz];unfold Ac at hl;omega,vs,c vs w H1 .refl h1 rs⟩
   .exact c.elim
 |cons f fr=>
  let⟨fI,YD,newId,B,X7,G,L,XS,IN⟩:=Z9;refine(qL (W:=λdx ws H=>∃H0,H=upd H0 dx (.xd ((f::fr).zip ws))/\H0 dx=none/\W k ws H0) G Q.bound L (λf hf=>(XS f hf).1) IN hr u ZJ O j P (λZ Y H s e oe dx ws I q1 q2 q3 q4 q5 q6 ⟨H0,V,U,T⟩=>hx Z Y H s e oe ws H0 I q1 q2 q4 q5 q6 T ⟨dx,q3,U,V⟩) N M S).imp ?_;rintro D Y H ⟨Z2,ρ,g,hs,j,p⟩;refine⟨Z2,ρ,g,hs,j,(dB (R:=RVs X.K) p).mono λvs H1 ⟨w,J,g1,s1,h1,rs,c⟩=>?_⟩;have c:J8 X.K W (if J.length<=Ac then .exc k J g1 else .Z0) w H1 D:=c
  split at c
  .have q:=c vs w H1 .refl h1 rs
   refine⟨(h2 vs H1 q).resolve_left #[3],λe dx _ Zi _=>⟨H1,rfl,Zi,q⟩⟩
  .exact c.elim
def mr{K:HY}{ρ:List Addr}{H:Hp}:∀{J:List U} {ws:List V} {k:Nat} {v:V},RVs K ρ H J ws->ws[k]?=some v ->∃u,J[k]?=some u/\RV K ρ H u v
 |[],ws,k,v,h,e=>by cases h;cases e
 |u::J,ws,k,v,h,e=>by
  let⟨w,t,rfl,h1,h2⟩:=h;cases k with
  |zero=>cases e;exact⟨u,rfl,h1⟩
  |succ k=>exact mr (J:=J) h2 (by simpa using e)
def gL{K:HY}{ρ:List Addr}{H:Hp}{b:List U}{ws:List V}(h:RVs K ρ H b ws):∀{xs:List (Nat ⊕ U)} {vs:List V},XRs K ws xs vs->RVs K ρ H (perm b xs) vs
 |[],vs,r=>by cases r;rfl
 |.inr u::xs,vs,r=>by
  let⟨v,c,rfl,a,r2⟩:=r;exact⟨v,c,rfl,a _ _,gL h r2⟩
 |.inl k::xs,vs,r=>by
  let⟨v,c,rfl,a,r2⟩:=r;let⟨u,e,d⟩:=mr h a;exact⟨v,c,rfl,by show RV K ρ H (b[k]?.getD .ZR) v;rw[e];exact d,gL h r2⟩
def lI{K:HY}{ws:List V}:∀{xs:List (Nat ⊕ U)} {vs:List V},XRs K ws xs vs->vs.length=xs.length
 |[],vs,h=>by cases h;rfl
 |_::xs,vs,h=>by let⟨v,r,rfl,_,h2⟩:=h;simp[lI h2]
def Tells(X:Cx)(n x:Str)(i:List ExceptHandler)(C:Addr)(fo:List Str)(xs:List (Nat ⊕ U)):Prop:=∃a c g f e d b vals kt ZV bt sc as,i=a ++ .ExceptHandler (some (.Name c g)) (some n) [.Assign [.Name x f] (.Tuple vals kt e) d] b::ZV/\(∀h∈a,Dq X C h)/\XC X.K X.mg X.base c fo as C/\Gl X c/\(c==("__debug__" : Str))=false /\
 X.env.scope=sc/\(∀y∈bt,X.mg y=none)/\Ab (vals.map (CJ bt sc n fo as))=some xs
def vb{h0:ExceptHandler}{hs:List ExceptHandler}
  (T:X.ex=[]) (ZJ:X.stack=X.env::X.outer) (hN:X.N.Nodup) (Q:X.N[i]?=some n) (hj:X.N[j]?=some x) (WI:i≠j) (hk:X.env.scope.names.lookup n=some .local)
  (hx:Loc X.env.scope x) (Yg:∀y,X.fn y=true) (Wx:(n==("__debug__" : Str))=false) (E:(n==("__classdict__" : Str))=false)
  (hc:∀ci p,tb.lookup ci=some p ->∃C fo,cl[ci]?=some (C,fo)/\p.1=fo.length/\Tells X n x (h0::hs) C fo p.2)
  (hb:∀(E0:XK) (pn:List (Addr×Obj)) (E':Value->Shared->Prop),AM (CX1 X.prog X.w) (Bv X pn E') E0->PSs (Bv X pn E') b (ZF X.K (WE cl E0) (r.ex b'))) :
  PS X (.Try b (h0::hs) [] [] p9) (ZF X.K W (JZ r (.Vd b' j tb))):=by
 refine(aaM (tb:=λE0=>ZF X.K (WE cl E0) (r.ex b')) T ZJ hN Q hk hb).impI ?_;rintro Z s D Y H I ⟨Z2,ρ,g,B,hg,p0⟩;refine⟨Z2,ρ,g,B,hg,?_⟩;have p:J8 X.K W (B0 (r.ex b' Z2 g) j tb Z2) ρ H D:=p0;clear p0;show J8 X.K _ (r.ex b' Z2 g) ρ H _;revert p;cases r.ex b' Z2 g with
 |ok f g1=>
  intro p;cases f with
  |nx ZT=>exact p
  |_=>exact p.elim
 |exc c' fs g1=>
  intro p;simp![B0]at p;cases V:tb.lookup c' with
  |none=>rw[V]at p;exact p.elim
  |some q=>
   rw[V]at p;dsimp only at p;split at p
   .rename_i hq
    let⟨O,hz,S⟩:=hq;let⟨C,fo,Yi,V0,M,c,p4,p5,p6,p7,p8,vals,kt,ZV,bt,sc,as,eh,Xc,Z6,R,hd,Zb,Xl,hv⟩:=hc _ _ V;intro ws ZU H' st rh rv;have J:fo=[]\/ws.length=fo.length:=by
     rcases S with z|z
     .exact .inl (Q5.mp (V0.symm.trans z))
     .exact .inr (by rw[<-rv.length,z,V0])
    refine⟨C,fo,Yi,J,λd H1 xd=>⟨C,λea d D Y H=>q.2.length<=Ac/\Y[i]?=some (some (.ref ea)) /\∃xf:XF,XFok H xf/\(fo≠[]->ws.length=fo.length /\∃dx,d=some dx/\xf=some (dx,fo.zip ws)) /\∀vs,XRs X.K ws q.2 vs ->∀H' t,Gr H H'->H' t=none->D.nx (Y.set j (some (.ref t))) (upd H' t (.Z1 vs)),rfl,⟨M,c,p4,_,_,p8,ZV,eh,Xc,Z6.cls,Z6.bound,R,hd,λea d oe Z Wn G J=>?_⟩,λea ZX hea a=>?_⟩⟩
    .intro X3 s Y H D I ⟨O,q1,xf,qf,qx,q2⟩
     let⟨vs,rs,PAv⟩:=jV (X:=BI X Z ea oe) (x:=c) (fo:=fo) (as:=as) (C:=C) (i:=i) (xf:=xf) (ws:=ws) ⟨Z6.bound,Z6.cls,Z6.made,Z6.Ub,Z6.Ua⟩ (VW _ WS) Wn (λz=>by let⟨e0,dx,e1,e2⟩:=qx z;exact⟨e0,dx,G.trans e1,e2⟩) J Zb Xl Q (.inl hk) Wx E hv
     refine ee (m7 (X:=BI X Z ea oe) hN hj hx (iq PAv) #[2] (.inl (Yg x))) eQ X3 s Y H D I ?_
     refine⟨q1,qf,λH' g=>⟨?_,λt A=>q2 vs rs H' t g A⟩⟩;rw[lI rs,Tz];unfold Ac at O;lia
    .obtain ⟨xf,s1,r1,f1,f2⟩:∃xf:XF,ZM X.K ZU H' ZU H1/\RH X.K ZU H1 g1/\XFok H1 xf/\(fo≠[]->ws.length=fo.length /\∃dx,d=some dx/\xf=some (dx,fo.zip ws)):=by
      cases fo with
      |nil=>let⟨rfl,rfl⟩:=xd;exact⟨none,.refl,rh,trivial,λz=>absurd rfl z⟩
      |cons f fr=>let⟨dx,rfl,Zi,rfl⟩:=xd;exact⟨some (dx,(f::fr).zip ws),.fresh Zi,rh.step_fresh Zi,upd_same,λ_=>⟨J.resolve_left #[3],dx,rfl,rfl⟩⟩
     refine⟨hz,by rw[UE (by rw[a];exact(Yh.mp Q).1)],xf,f1,f2,λvs L X_ t gr A=>?_⟩
     have S2:=((st.trans s1).trans (gr.Uc X.K ZU)).trans (.fresh (o:=.Z1 vs) A);refine p _ ZU _ S2 ((gr.rh _ _ _ r1).step_fresh A) ⟨?_,λk u e=>?_⟩
     .simp only [Pg,Sd]
      rw[B.len,a,I.len]
     .have P:j<(List.replicate Z2.length (none:Option U)).length:=by rw[Sd];exact O
      by_cases F:k=j
      .subst F
       rw[UE P]at e;cases e;refine⟨.ref t,?_,t,vs,rfl,upd_same,gL (RVs.step ((s1.trans (gr.Uc X.K ZU)).trans (.fresh A)) _ _ rv) L⟩;rw[X9 WI,UE (by rw[Pg,a];exact(Yh.mp hj).1)]
      .rw [X9 (Ne.symm F),Sr]at e
       split at e<;>cases e
   .exact p.elim
 |Z0=>exactλp=>p
end
open PySem PySem.Spec PyProof.Rows L2
section
variable{Y:L2.St}
def sV{C:Value}{E0:XK}(I:L2.Z4 X Z Y H s)(c:X.ex=[])(g:X.stack=X.env::X.outer)(F:Fly X.prog X.w X.stack H s ea C dx H' s')(q:E0 C dx H'):
  wpAny (model X.prog X.w) X.A (leaving X.env (.ref ea)) (λ_ u=>CX1 X.prog X.w X.outer X.WL X.ZH E0 (.ref ea) u) (λe' u=>CX1 X.prog X.w X.outer X.WL X.ZH E0 e' u) s':=by
 have hf:=gG I g;have d:L2.Z4 X Z Y H' s':=I.TQ F.os F.un F.ZQ F.bare (λb z=>absurd z #[3])
 let⟨T,tr,t,k⟩:=F.tr;have E:s'.heap.FunFrames X.base (X.env::X.outer):=by rw[<-g];exact d.stack
 have a:∀b,s.heap.get? b=none->X.ZH.heap.get? b=none:=λb e=>by
  cases q:X.ZH.heap.get? b with
  |none=>rfl
  |some o=>let⟨o',z⟩:=I.base.there b o q (by rw[c];simp);rw[e]at z;cases z
 refine rH (by rw[I.ok.frames,g]) E hf tr λh' f K y j=>?_
 rw[<-g]at K;have D:X.ZH.heap.get? f=none:=by
  cases q:X.ZH.heap.get? f with
  |none=>rfl
  |some o=>let⟨o',z⟩:=d.base.there f o q (by rw[c];simp);rw[y]at z;cases z
 have B:=d.ZQ.off y;refine⟨ea,C,dx,H',rfl,⟨d.os,d.bare,ll d c K λb r=>?_,kg d K λb r=>?_,F.free,a ea F.new,f,j,B,D⟩,q⟩
 .have:b=ea\/b=T\/b=f:=by simpa using r
  rcases this with rfl|rfl|rfl
  .exact a _ F.new
  .exact a _ k
  .exact D
 .have:b=ea\/b=T\/b=f:=by simpa using r
  rcases this with rfl|rfl|rfl
  .exact F.free
  .exact t
  .exact B
end
def qU{qual:Str}{f:Addr}{b:Value}{H:Hp}{E a:XK}(h:∀C dx H,a C dx H->E C dx H):
  AM (CX1 P w) (BB (CX1 P w) P w K mg base N qual scope f b A outer s H E) a:=by
 rintro Z Y H' s' e c I ⟨ea,C,dx,H2,rfl,F,q⟩;exact sV I rfl rfl F (h C dx H2 q)
open PySem PySem.Spec PyProof.Rows L2 PySem.W
section
variable{t:Tg}
def _root_.L2.PG.Zx{t:TG}(h:PG X.Zx tg t):PG X tg t:=λZ s Y H v u Q I a b=>
 V6 (h Z s Y H v u Q (I.Ye _) a b) (λ_ _ ⟨ZX,H',c,q⟩=>⟨ZX,H',c.X2,q⟩) λ_ _ z=>False.elim z
def xB{a:TI}(h:L2.PI X.Zx tg iter a):L2.PI X tg iter a:=λZ s Y H R I b=>
 V6 (h Z s Y H R (I.Ye _) b) (λ_ _ q=>V6 q (λ_ _ ⟨it,fp,tn,Z7,H',e,c,T,t0,fo,q⟩=>⟨it,fp,tn,Z7,H',e,c.X2,T,t0,fo,q⟩) λ_ _ z=>False.elim z) λ_ _ z=>False.elim z
def wC{C:Nat->List U->G->Out U}{bs:List Stmt}{n:Nat}(hp:PassesOwn (model X.prog X.w) X.A X.env X.xe)(J:X.calm=true)(F:L2.PI X.Zx tg iter (tI X.K W0 (JW (J7 C n) Zy)))(c:PG X tg (tG X.K t))(L:∀n,PSs X bs (ZF X.K W ((J7 C n).ex YZ)))
  (b:∀x,foldedSetIterable iter X.env x=pure x):PS X (.For tg iter bs [] pos) (ZF X.K W (JZ (J7 C n) (.UG t Zy YZ))):=by
 have T:PSs X bs (λD Y H=>∃m,ZF X.K W ((J7 C m).ex YZ) D Y H):=λZ s Y H D I ⟨m,h⟩=>L m Z s Y H D I h;refine(mX hp J (xB F) c T b).imp ?_;rintro D Y H ⟨Z2,ρ,g,b,c,p⟩;refine⟨Z2,ρ,g,b,c,(dB (R:=RI X.K) p).mono λZ7 H1 ⟨P,it,g1,s1,h1,d,E⟩=>?_⟩;refine⟨λi m Y H=>FrI X W it Z7 D ((J7 C m).fr t it i YZ) Y H,⟨n,Z2,P,g1,b.step s1,h1,d,E⟩,?_⟩;rintro i m Y H ⟨Z2,ρ,g,b,c,d,p⟩;cases m with
 |zero=>exact p.elim
 |succ m=>
  have a:J8 X.K W (J3 (J7 C m) t it i YZ Z2 g) ρ H D:=p;simp![J3]at a;cases e:next it i g with
  |none=>rw[e]at a;exact a.elim
  |some o=>
   cases o with
   |none=>rw[e]at a;exact .inl ⟨gJ c d e,a _ ρ H .refl c b⟩
   |some u=>
    rw[e]at a;dsimp only at a;let⟨N,v⟩:=iz c d e;refine .inr ⟨N,λZX H'=>FrI X W it Z7 D ((J7 C m).fr t it (i+1) YZ) ZX H',λZX H' q=>⟨m,SH _,q⟩,λx H' y=>?_⟩;let⟨j,r,z⟩:=v x H' y;cases f:Ai t u Z2 with
    |none=>rw[f]at a;exact a.elim
    |some l=>
     rw[f]at a;dsimp only at a;refine⟨Z2,ρ,g,u,l,b.step j,r,z,gf f,λYl Q=>⟨m,l,ρ,g,Q,r,?_⟩⟩;exact iE (k:=λZX g=>(J7 C m).fr t it (i+1) YZ ZX g) (J8.from a j) λS O Y ZU H' s3 M V B=>⟨S,ZU,O,V,M,(d.step j).step s3,B⟩
end
def j6{T:Tab}{k:Nat}(h:Ei T x=some k):∃fo as,T.xc[k]?=some (x,fo,as):=by
 let⟨h1,h2,_⟩:=R5.mp h;refine⟨T.xc[k].2.1,T.xc[k].2.2,?_⟩;rw[Vj h1,<-eq_of_beq h2]
def eA{l:List α}{a:α}(h:Cv l=some a):l=[a]:=by
 cases l with
 |nil=>exact qN h
 |cons b r=>
  refine qI h λh1 h=>?_;cases aI h1;cases h
  rfl
def kc{s:Stmt}{q:List Expr×Expr}(h:D2 s=some q):∃p,s = .Assign q.1 q.2 p:=by
 cases s with
 |Assign ts v p=>cases h;exact⟨p,rfl⟩
 |_=>exact qN h
def uV{b:List Stmt}{q:Str×Expr}(h:El b=some q):∃p p2,b=[.Assign [.Name q.1 p] q.2 p2]:=by
 refine qB h λs hs h=>qB h λa f h=>qB h λt d h=>qM h λx c e=>?_;let⟨p2,rfl⟩:=kc f;subst e;let⟨p,rfl⟩:=aJ c;rw[eA hs,eA d];exact⟨p,p2,rfl⟩
def sY{h:ExceptHandler}{q:Str×Str×List Stmt}(e:DW h=some q):∃p p2,h = .ExceptHandler (some (.Name q.1 p)) (some q.2.1) q.2.2 p2:=by
 cases h with
 |ExceptHandler c n b p2=>
  refine qB e λc' hc h=>qB h λx a h=>qM h λg d f=>?_;subst hc;subst d;subst f;let⟨p,rfl⟩:=aJ a;exact⟨p,p2,rfl⟩
def vW{vs:List Expr}(h:G3 e=some vs):∃k p,e = .Tuple vs k p:=by
 cases e with
 |Tuple ws k p=>cases h;exact⟨k,p,rfl⟩
 |_=>exact qN h
section
variable(T:Tab)(sc:Scope)(N:List Str)(ce:Expr->Option E)(cs:Stmt->Option Z5)
def kQ{q:Expr×Str×Pos}(h:D3 e=some q):e = .Attribute q.1 q.2.1 q.2.2:=by
 cases e with
 |Attribute o m ap=>cases h;rfl
 |_=>exact qN h
end
def gQ{o:Option E}{k:E->Option Z5}{d:Option Z5}{s:Z5}{P:Prop}(h:Kg o k d=some s)(b:∀e',o=some e'->k e'=some s->P)(a:(d.map λs=>Z5.Zx [s])=some s->P):P:=by
 cases o with
 |some e'=>exact b _ rfl h
 |none=>exact a h
structure Wv(T:Tab)(cl:CL)(M:List Fn)(d:Nat)(X:Cx)(sc:Scope)(N:List Str)(rz:Bool)(W:XQ):Prop where
 ok:Zn T M d X.Zx sc N
 Yi:∀(k:Nat) (x:Str) (fo:List Str) (as:List (Str×Bool)),T.xc[k]?=some (x,fo,as) ->∃C,cl[k]?=some (C,fo)/\XC X.K X.mg X.base x fo as C
 hF1:∀(i:Nat) (x:Str),T.M[i]?=some x->(x==("__debug__" : Str))=false->x∈T.fs ->∃f fd ps,X.mg x=some (.ref f)/\PySem.W.keepIn X.K (.ref f)=true/\Binds X.K fd ps []/\Y2 X.prog X.w X.K X.mg X.base (CX1 X.prog X.w) (2*d+2) f fd ps (Vl X.K cl M d i ps.length) /\∀F,M[i]?=some F->F.np=ps.length
 hx:rz=true ->∀(k:Nat) (C:Addr) (fo:List Str),cl[k]?=some (C,fo) ->∀Z Y H s e oe vs H0,L2.Z4 X Z Y H s->s.heap.get? e=some oe->oe.cls=.ref C->(∃fs,oe.data=.fields fs/\fs[1]?=some .none)->H e=none->X.ZH.heap.get? e=none->W k vs H0->XD fo vs H0 oe.dict H->X.xe (.ref e) s
 WO:rz=true ->∀(k:Nat) (C:Addr) (fo:List Str),cl[k]?=some (C,fo) ->∀vs H,W k vs H->fo=[]\/vs.length=fo.length
 hM1:∀(y:Str) (c i:Nat) (F:KF) (nd:Nat),T.cl.lookup y=some (c,i,F,nd)->i∈T.fx ->∃C f fd ZE dd,X.mg y=some (.ref C)/\Mk X.K C f/\PySem.W.nsIn X.K mainGlobals (Au c)=some (some (.ref C))/\XU X.K fd F nd ZE dd/\F.ns++F.ks≠[]/\Y2 X.prog X.w X.K X.mg X.base (CX1 X.prog X.w) (2*d+2) f fd (F.ns++F.ks) (Vl X.K cl M d i (F.ns++F.ks).length) /\∀F',M[i]?=some F'->F'.np=(F.ns++F.ks).length
 hT1:∀(m:Str) (l:List (Nat×Nat×KF×Nat)),T.mt.lookup m=some l ->∀c i F nd,(c,i,F,nd)∈l->i∈T.fx ->∃C f fd ZE dd,PySem.W.nsIn X.K mainGlobals (Au c)=some (some (.ref C))/\Yu X.K C/\VH X.K C m f/\XU X.K fd F nd ZE dd/\F.ns++F.ks≠[]/\Y2 X.prog X.w X.K X.mg X.base (CX1 X.prog X.w) (2*d+2) f fd (F.ns++F.ks) (Vl X.K cl M d i (F.ns++F.ks).length) /\∀F',M[i]?=some F'->F'.np=(F.ns++F.ks).length
 hp:∃E0,AM (CX1 X.prog X.w) X E0 /\∀c vs H,W c vs H->WE cl E0 c vs H
 own:rz=true->PassesOwn (model X.prog X.w) X.A X.env X.xe
 ex:X.ex=[]
 WK:X.stack=X.env::X.outer
 blk:X.env.blockKind=.function
 fn:∀x,X.fn x=true
section
variable{T:Tab}{M:List Fn}{rz:Bool}
def bH{f:Stmt->Option Z5}(c:∀s s',f s=some s' ->∀n,PS X s (ZF X.K W (JZ (J7 (Aa M fu d) n) s'))):∀{ss:List Stmt} {b:List Z5},Ab (ss.map f)=some b ->∀n,PSs X ss (ZF X.K W ((J7 (Aa M fu d) n).ex b))
 |[],_,h=>λn=>by
  cases h;cases n with
  |zero=>exact PSs.Z0 λ_ _=>rfl
  |succ n=>exact mw (r:=J7 (Aa M fu d) n)
 |s::ss,b,h=>λn=>by
  rw[Xk]at h;cases ea:f s with
  |none=>rw[ea]at h;cases h
  |some s'=>
   rw[ea]at h;simp![Ab]at h;cases a:Ab (ss.map f)with
   |none=>rw[a]at h;cases h
   |some r'=>
    rw[a]at h;cases h;cases n with
    |zero=>exact PSs.Z0 λ_ _=>rfl
    |succ n=>exact lW (c s s' ea n) (bH c a n)
def Wv.glob(ok:Wv T cl M d X sc N rz W){x:Str}(h:glob sc x=true):Gl X x:=by
 show X.env.scope.names.lookup x=_;have:X.env.scope=sc:=ok.ok.Zb;rw[this];exact WQ.mp h
def aah{W':XQ}{H:Hp}{R:List Addr->Hp->α->β->Prop}{o:Out α}{Q:β->Hp->Prop}(b:∀c vs H,W c vs H->W' c vs H)(h:post K W R o ρ H Q):post K W' R o ρ H Q:=by
 cases o with
 |ok a g=>exact h
 |exc c fs g=>exactλvs ZU H' s r v=>b _ _ _ (h vs ZU H' s r v)
 |Z0=>exact h
def wM(ok:Wv T cl M d X sc N rz W)(f:rz=true){c:Str×List Expr}{e:Z5}(h:Iq T sc (Al T sc N m) c=some e)(n:Nat):PS X (.Raise (some (.Call (.Name c.1 p) c.2 [] cp)) none pos) (ZF X.K W (JZ (J7 (Aa M fu d) n) e)):=by
 let⟨x,es⟩:=c;cases es with
 |nil=>exact qN h
 |cons a es=>
  refine qI h λhc h=>qB h λk hk h=>qM h λZL j l=>?_;subst l;simp![ZC,WC]at hc;let⟨⟨q,o⟩,i⟩:=hc;let⟨fo,as,r⟩:=j6 hk;let⟨C,g,Z6⟩:=ok.Yi _ _ _ _ r;have b:=i;rw[Va,VF]at b;exact rM (d:=2*d) Z6 ok.ok.UW ok.ex ok.WK ok.ok.calm (ok.glob o) (aR (aD (fu:=fu) m ok.ok) i j n).Zx (ok.WO f k C fo g) (ok.hx f k C fo g) (aG q).1 (star_ne b.1 _) (br b.2)
def nh{a:Type}{k:Nat}{v:a}:∀{l:List (Nat×a)},l.lookup k=some v->(k,v)∈l
 |[],e=>by cases e
 |(j,w)::r,e=>by
  rw[WH]at e;split at e
  .rename_i z;cases e;rw[eq_of_beq z];exact WS
  .exact HS _ (nh e)
def jQ(ok:Wv T cl M d X sc N rz W){n l:Str}:∀{hs:List ExceptHandler} {rs:List (Str×Nat×Nat×List (Nat ⊕ U))},Ab (hs.map (D4 T sc n l))=some rs->C6 T rs=true ->∀g p,(rs.map (·.2)).lookup g=some p ->∃C fo,cl[g]?=some (C,fo)/\p.1=fo.length/\Tells X n l hs C fo p.2
 |[],rs,h,_,g,p,e=>by cases h;cases e
 |h::t,rs,i,B,g,p,e=>by
  rw[Xk]at i;cases b:D4 T sc n l h with
  |none=>rw[b]at i;cases i
  |some r=>
   rw[b]at i;let⟨rt,h2,rfl⟩:=YU.mp i;refine qB b λq Z b=>qB b λa ha b=>qB b λvals Y b=>qI b λhc b=>qB b λci' v b=>qB b λq' I b=>qM b λJ Xd er=>?_;subst er;let⟨_,_,rfl⟩:=sY Z;simp![ZC,Xn]at hc;let⟨⟨⟨rfl,rfl⟩,G⟩,F⟩:=hc;let⟨_,_,eb⟩:=uV ha;let⟨_,_,ev⟩:=vW Y;let⟨x,V3,H⟩:=j6 v;rw[H]at I;cases I;let⟨D,hD,k⟩:=ok.Yi _ _ _ _ H;simp![C6,ZC]at B;rw[Xk,WH]at e;split at e
   .rename_i z
    cases e;cases eq_of_beq z;exact⟨D,x,hD,rfl,[],q.1,_,_,_,_,_,vals,_,t,T.bt,sc,V3,by rw[eb,ev];rfl,nofun,k,ok.glob F,(aG G).1,ok.ok.Zb,ok.ok.bt,Xd⟩
   .obtain ⟨C,fo,E,hn,s,c,S,R,Q,P,O,vals2,kt,ZV,bt,o,A,et,Xc,Z6,w⟩:=jQ ok h2 B.2 g p e
    refine⟨C,fo,E,hn,_::s,c,S,R,Q,P,O,vals2,kt,ZV,bt,o,A,by rw[et];rfl,λy u=>?_,Z6,w⟩
    rcases Wc.mp u with rfl|u
    .obtain ⟨z,V,W9⟩:=VR.mp (nh e)
     have j:=Wj.mp B.1 z V;rw[W9]at j;cases f:T.xc[g]? with
     |none=>rw[f]at j;cases j
     |some m=>
      rw[f]at j;let⟨C',K,O'⟩:=ok.Yi g m.1 m.2.1 m.2.2 f;rw[E]at K;cases K;let⟨L,v2,_,_,b2,b4,b5⟩:=O'.Ua _ _ (WQ.mp j);have:L=.ref D:=by
       rcases b2 with⟨_,z,_⟩|z
       .rw [k.bound]at z;cases z
       .rw [k.bound]at z;exact(WY z).symm
      subst this;exact⟨q.1,_,_,_,_,D,rfl,k.bound,ok.glob F,(aG G).1,b5,k.Ub.mb⟩
    .exact Xc y u
def xU(ok:Wv T cl M d X sc N rz W){c:List ExceptHandler}{g:Z5}(h:Ir T sc N b' c=some g)
  (n:∀(E0:XK) (pn:List (Addr×Obj)) (E':Value->Shared->Prop),AM (CX1 X.prog X.w) (Bv X pn E') E0->PSs (Bv X pn E') b (ZF X.K (WE cl E0) (r.ex b'))) :
  PS X (.Try b c [] [] p9) (ZF X.K W (JZ r g)):=by
 cases c with
 |nil=>exact qN h
 |cons h0 c=>
  refine qB h λq p h=>qB h λa s h=>qI h λhc h=>qB h λj m h=>qB h λi hi h=>qI h λk h=>qB h λrs f h=>qI h λo e=>?_;cases e;simp![ZC,WQ]at hc;rw[WC,R1]at k;have Zb:X.env.scope=sc:=ok.ok.Zb;have hN:X.N=N:=ok.ok.hN;let⟨l1,l,_⟩:=d7 m;exact vb ok.ex ok.WK (by rw[hN];exact ok.ok.nd) (by rw[hN];exact ixOf_get hi) (by rw[hN];exact l1) k (by rw[Zb];exact hc.2) (by rw[Zb];exact l) ok.fn (aG hc.1).1 (aG hc.1).2.1 (jQ ok f o) n
def jy(ok:Wv T cl M d X sc N rz W)(h:C5 T sc (Al T sc N m) e=some e')(n:Nat):PE X e (tE X.K W ((J7 (Aa M fu d) n).ev e')) /\∀t l,swapsWith e t l X.env=pure false:=by
 have r:=aD (fu:=fu) m ok.ok;let⟨E0,R,hW⟩:=ok.hp;cases e with
 |Call fn es kws cp=>
  refine⟨?_,λt l=>rfl⟩;cases n with
  |zero=>exact PE.Z0 λ_ _=>rfl
  |succ n=>
   refine PE.imp ?_ λY H Q (h:tE X.K W ((J7 (Aa M fu d) (n+1)).ev e') Y H Q)=>(show tE X.K (WE cl E0) (JX (Aa M fu d) (J7 (Aa M fu d) n) e') Y H Q from let⟨Z2,ρ,g,hs,hg,p⟩:=h;⟨Z2,ρ,g,hs,hg,aah hW p⟩)
   have b:=h;simp![C5]at b;cases L:H8 fn with
   |some y=>
    let⟨p,rfl⟩:=aJ L;rw[L]at b;dsimp only at b;cases hf:T.fs.contains y with
    |true=>
     rw[hf]at b;dsimp only at b;cases es with
     |nil=>exact qN b
     |cons a es=>
      refine qI b λhc h=>qB h λfi P h=>qM h λZL o e=>?_;subst e;simp![ZC,WC]at hc;let⟨⟨⟨U,G⟩,E⟩,D⟩:=hc;cases aI U;let⟨f,fd,ps,z,x,v,u,s⟩:=ok.hF1 fi _ (ixOf_get P) (aG G).1 (W8.mp hf);have j:=D;rw[Va,VF]at j;exact lX u R s ok.ok.UW (ok.glob E) z x v (aG G).1 (aR r D o n).Zx (star_ne j.1 _) (br j.2)
    |false=>
     rw[hf]at b;dsimp only at b;refine qB b λq O h=>qI h λhc h=>qB h λZL o h=>qM h λYA B e=>?_;subst e;let⟨c,i,F,nd⟩:=q;simp![ZC,WC]at hc;let⟨⟨⟨⟨⟨U,G⟩,E⟩,D⟩,c5⟩,S⟩:=hc;let⟨C,fa,fd,ZE,dd,z,x,v,u,s,J,I⟩:=ok.hM1 _ _ _ _ _ O (W8.mp U);have A:=a7 o;dsimp only at S ⊢;rw[<-A]at S ⊢;exact lu x v J R I u s S c5 A (a7 B) ok.ok.room (ok.glob D) z (aG G).1 (aR r E o n).Zx (dj r B n).Zx E
   |none=>
    rw[L]at b;dsimp only at b;refine qB b λq O h=>qB h λl A h=>qI h λhc h=>qB h λo' ho h8=>?_;cases kQ O;rw[ZC,WC]at hc;refine qI h8 λV7 h=>qB h λZL o h=>qB h λYA B h=>qB h λl' Wk h=>qI h λXo h=>?_;rw[A]at Wk;cases Wk;simp![ZC,WC,Xn]at V7;let⟨⟨⟨⟨XO,V⟩,Y1⟩,Tf⟩,YQ⟩:=V7;let⟨h1,h2⟩:=cg XO;cases h;have W_:=a7 o;refine lj (CX:=CX1 X.prog X.w) (Wf:=WE cl) (E0:=E0) (k:=2*d+2) (((r _ _ ho).1 n).Zx) h2 h1 R (λc i pm Xj=>?_) Y1 W_ (a7 B) ok.ok.UW (aR r V o n).Zx (dj r B n).Zx V (jH (base_of hc.2) V Y1 Tf YQ);let⟨⟨i',F,nd⟩,Z,hb⟩:=fz (f:=λe:Nat×Nat×KF×Nat=>(e.1,e.2.1,BN e.2.2.1 (es.length+1) (AJ kws))) (λ_=>rfl) Xj;cases hb;let⟨C,f,fd,ZE,dd,z,x,v,u,s,J,I⟩:=ok.hT1 _ _ A _ _ _ _ Z (W8.mp (Wj.mp hc.1 _ Z));refine⟨C,f,fd,F,nd,ZE,dd,z,x,v,u,s,?_,by rw[W_],J,I⟩
    rw[W_];exact Wj.mp Xo _ Z
 |_=>exact qN h
def yC{q:Expr×Int}(h:Iz e=some q):∃a b p,e = .Subscript q.1 (.Constant (.int q.2) a b) p:=by
 cases e with
 |Subscript v s p=>
  refine qM h λk hk e=>?_;subst e;cases s with
  |Constant c a b=>cases c with
   |int k'=>cases hk;exact⟨a,b,p,rfl⟩
   |_=>exact qN hk
  |_=>exact qN hk
 |_=>exact qN h
def bG(ok:Wv T cl M d X sc N rz W)(h:Co T sc (Al T sc N m) e=some e')(n:Nat):PE X e (tE X.K W ((J7 (Aa M fu d) n).ev e')) /\∀t l,swapsWith e t l X.env=pure false:=by
 unfold Co at h;cases c:Iz e with
 |none=>rw[c]at h;exact jy ok h n
 |some q=>
  rw[c]at h;refine qM h λv' f g=>?_;subst g;let⟨a,b,p,rfl⟩:=yC c;refine⟨?_,λt l=>rfl⟩;cases n with
  |zero=>exact PE.Z0 λ_ _=>rfl
  |succ n=>cases n with
   |zero=>exact PE.Z0 λ_ _=>rfl
   |succ n=>exact nr (C:=Aa M fu d) (by have:X.A.units+2<cLine:=ok.ok.units;omega) (jy ok f _).1 (cv (C:=Aa M fu d) (r:=J7 (Aa M fu d) n) gX λ_ _=>rfl) (λ_ _=>rfl)
def dI:∀(m:Nat) {X:Cx} {rz:Bool} {W:XQ} (_:Wv T cl M d X sc N rz W) (st:Stmt) (Zd:Z5),B9 T sc N rz m st=some Zd ->∀n,PS X st (ZF X.K W (JZ (J7 (Aa M fu d) n) Zd))
 |0,_,_,_,_,_,_,h=>by cases h
 |m+1,X,rz,W,ok,st,Zd,h=>λn=>by
  have ih:=dI m ok;have G:=aD (fu:=fu) m ok.ok;have g:∀st:Stmt,((Bf T sc N m st).map λs=>Z5.Zx [s])=some Zd->PS X st (ZF X.K W (JZ (J7 (Aa M fu d) n) Zd)):=λst h=>by
   refine qM h λs' V e=>?_;subst e;cases n with
   |zero=>exact PS.Z0 λ_ _=>rfl
   |succ n=>exact yM (gm ok.ok ok.blk ok.fn m _ _ V n) n _ rfl
  cases st with
  |If c a b p=>
   refine qB h λc' hc h=>qB h λa' R h=>qM h λb' u e=>?_;subst e;exact yu (((G _ _ hc).2.1 n).Zx) (bH ih R n) (bH ih u n)
  |Raise e c p=>
   refine qI h λhc h=>qB h λe' Q h=>qB h λq E l=>?_;rw[ZC]at hc;cases gE hc.2;subst Q;let⟨_,_,rfl⟩:=fP E;exact wM ok hc.1 l n
  |Try b hs o f p=>
   refine qI h λhc h=>qB h λb' u l=>?_;rw[ZC]at hc;cases aI hc.1;cases aI hc.2;refine xU ok l λE0 H E' S=>?_;have y:Wv T cl M d (Bv X H E') sc N false (WE cl E0):={ok with ok:=⟨ok.ok.hF,ok.ok.cs,ok.ok.bt,ok.ok.hK,ok.ok.hC,ok.ok.hT,ok.ok.hA,ok.ok.room,ok.ok.hN,ok.ok.Zb,ok.ok.nd,ok.ok.calm,rfl⟩,hx:=nofun,WO:=nofun,own:=nofun,hp:=⟨E0,S,λ_ _ _ z=>z⟩}
   exact bH (dI m y) u n
  |For tg it b o p=>
   refine qI h λhc h=>qB h λt D h=>qB h λZy hi h=>qM h λb' u e=>?_;rw[ZC]at hc;cases aI hc.2;subst e;exact wC (ok.own hc.1) ok.ok.calm ((bj ok.ok G hi).1 n) (cX ok.ok (λ_=>ok.fn) D).Zx (λn=>bH ih u n) (bj (fu:=fu) ok.ok G hi).2
  |Return v p=>
   refine gQ h (λe' k l=>?_) (g _);let⟨v,rfl,O⟩:=W6.mp k;cases l;cases n with
   |zero=>exact gT (PE.Z0 λ_ _=>rfl)
   |succ n=>exact gT (bG ok O _).1
  |Expr v p=>
   refine gQ h (λe' k l=>?_) (g _);cases l;exact nk (bG ok k n).1 ((bG (fu:=fu) ok k n).2 _ _)
  |Assign ts v p=>
   refine gQ h (λe' k l=>?_) (g _);refine qB l λt D w=>?_;cases eA D;unfold IB at w;cases hx:H8 t with
   |some x=>
    rw[hx]at w;refine qM w λj P e=>?_;subst e;let⟨_,rfl⟩:=aJ hx;let⟨l1,A,_⟩:=d7 P;have Zb:X.env.scope=sc:=ok.ok.Zb;have hN:X.N=N:=ok.ok.hN;exact mz (by rw[hN];exact ok.ok.nd) (by rw[hN];exact l1) (by rw[Zb];exact A) (.inl (ok.fn x)) (bG ok k n).1 ((bG (fu:=fu) ok k n).2 _ _)
   |none=>
    rw[hx]at w;refine qB w λq E h=>qB h λx B h=>qB h λi hi h=>qB h λcs U h=>qI h λF e=>?_;cases e;cases kQ E;let⟨_,hx⟩:=aJ B;rw[ZC]at F;let⟨J,I⟩:=cg F.1;let⟨l1,A,_⟩:=d7 hi;let⟨m1,L,_⟩:=aG F.2;have Zb:X.env.scope=sc:=ok.ok.Zb;have hN:X.N=N:=ok.ok.hN;cases n with
    |zero=>exact PS.Z0 λ_ _=>rfl
    |succ n=>
     refine lz ?_ (bG ok k _).1 ((bG (fu:=fu) ok k 0).2 _ _) I J (ok.ok.hA.1 _ _ U);rw[hx];exact m9 (C:=Aa M fu d) (r:=J7 (Aa M fu d) n) (by rw[hN];exact l1) (by rw[Zb];exact A.elim .inl λz=>.inr (.inl z)) m1 L
  |_=>exact g _ h
end
open PySem PySem.Spec PyProof.Rows L2
set_option genInjectivity false in
structure FI where
 x:Str
 st:Stmt
 N:List Str
 ps:List Str
 cm:Option (Str×Str)
 kf:Option (KF×Nat)
structure Tb(K:HY)(x qual:Str)(st:Stmt)(f:Addr)(fd:FuncData):Prop where
 ex:∃(KG:Value) (od:Option Addr) (dV IT doc pm:Value) (an:Option Addr) (Zk ct:Value) (YL:Array (Option Value)),
  fd=PySem.W.fnOf x qual (Cm st) (Cn st) (A3 st) dV IT doc pm an Zk ct/\K.lookup f=some ⟨KG,od,.func fd,YL⟩/\PySem.W.codeIn K Zk qual=true
 kp:PySem.W.keepIn K (.ref f)=true
noncomputable def FI.nm(fi:FI):Str:=match fi.cm with|none=>fi.x|some c=>c.2
noncomputable def FI.tn(fi:FI):Str:=if fi.cm.isSome||fi.kf.isSome then "__debug__" else fi.x
def FAt(K:HY)(mg:Str->Option Value)(fi:FI)(f:Addr):Prop:=match fi.cm with
 |none=>mg fi.x=some (.ref f)
 |some c=>∃C,mg c.1=some (.ref C)/\PySem.W.nsIn K mainGlobals c.1=some (some (.ref C))/\Yu K C/\VH K C c.2 f/\(c.2 = "__init__" -> Mk K C f)
structure FOk(T:Tab)(K:HY)(mg:Str->Option Value)(fi:FI)(F:Fn):Prop where
 sc:Uw fi.N fi.ps (A3 fi.st)
 np:F.np=fi.ps.length
 ns:F.ns=fi.N.length
 body:∃m,Ab ((Cn fi.st).map (CA T fi.x (A3 fi.st) fi.N m))=some F.body
 obj:∃f fd,FAt K mg fi f/\Tb K fi.nm fi.x fi.st f fd/\(fi.kf=none->Binds K fd fi.ps []) /\∀F nd,fi.kf=some (F,nd)->fi.ps=F.ns++F.ks/\F.ns++F.ks≠[] /\∃ZE dd,XU K fd F nd ZE dd
def AllOk(T:Tab)(K:HY)(mg:Str->Option Value):List FI->List Fn->Prop
 |[],[]=>True
 |fi::r,F::s=>FOk T K mg fi F/\AllOk T K mg r s
 |_,_=>False
section
variable{T:Tab}
def AllOk.get:∀{a:List FI} {M:List Fn} {i:Nat} {fi:FI},AllOk T K mg a M->a[i]?=some fi ->∃F,M[i]?=some F/\FOk T K mg fi F
 |[],_,_,_,_,e=>by simp at e
 |_::_,[],_,_,h,_=>False.elim h
 |_::_,F::_,0,_,h,e=>by simp at e;subst e;exact⟨F,rfl,h.1⟩
 |_::r,_::s,i+1,fi,h,e=>by
  let⟨F,c,b⟩:=AllOk.get (i:=i) (fi:=fi) h.2 (by simpa using e)
  exact⟨F,by simpa using c,b⟩
structure SA(T:Tab)(K:HY)(mg:Str->Option Value)(YW:List FI)(M:List Fn):Prop where
 names:T.M=YW.map FI.tn
 all:AllOk T K mg YW M
 cs:∀x u,T.cs.lookup x=some u ->∃v val,mg x=some val/\RelV v val /\∀ρ H,RV K ρ H u v
 bt:∀x∈T.bt,mg x=none
 kfs:∀(y:Str) (i:Nat) (F:KF) (nd:Nat),T.kf.lookup y=some (i,F,nd) ->∃fi,YW[i]?=some fi/\fi.x=y/\fi.cm=none/\fi.kf=some (F,nd)
 cls:∀(y:Str) (c i:Nat) (F:KF) (nd:Nat),T.cl.lookup y=some (c,i,F,nd)->Au c=y /\∃fi,YW[i]?=some fi/\fi.cm=some (y,("__init__" : Str))/\fi.kf=some (F,nd)
 mts:∀(m:Str) (l:List (Nat×Nat×KF×Nat)),T.mt.lookup m=some l ->∀c i F nd,(c,i,F,nd)∈l ->∃fi,YW[i]?=some fi/\fi.cm=some (Au c,m)/\fi.kf=some (F,nd)
 fls:(∀(f:Str) (cs:List Nat),T.fl.lookup f=some cs->CS K f cs) /\∀p∈T.ow,∃C,mg p.1=some (.ref C)/\PySem.W.nsIn K mainGlobals (Au p.2)=some (some (.ref C))/\Yu K C/\Th K C
 fx:∀j∈T.fx,∀fi,YW[j]?=some fi->fi.x∈T.fs
def j3{vs:List V}{n:Nat}(hn:n=N.length)(h:RVs K ρ H J vs)(hl:J.length<=N.length):RS K ρ H (J.map some++List.replicate (n-J.length) none) (L2.start N vs) where
 len:=by unfold L2.start;simp[h.length,hn]
 val:=λi u e=>by
  subst hn;unfold L2.start;by_cases hi:i<J.length
  .rw [Wt (by simpa using hi),Wd]at e
   rw[Wt (by rw[YK,<-h.length];exact hi),Wd]
   cases eu:J[i]? with
   |none=>rw[eu]at e;cases e
   |some w=>
    rw[eu]at e;cases e;let⟨v,e1,e2⟩:=h.get eu;exact⟨v,by rw[e1];rfl,e2⟩
  .rw [WB (by simpa using hi),Sr]at e
   split at e<;>cases e
def ie(h:env.scope.kind=.function):env.blockKind=.function:=by
 unfold Env.blockKind;rw[h]
 rfl
def lE{o:Out Fl}{Q:VK}(p:post K W (RV K) (o.bind λf g=>match f with|.rt u=>.ok u g|.nx _=>.ok .ZR g|_=>.Z0) ρ H Q):J8 K W o ρ H {nx:=λ_ H'=>Q .ZR H',rt:=Q}:=by
 revert p;cases o with
 |ok fl g1=>
  cases fl with
  |nx a=>exactλp Y ZU H' s h hs=>p .ZR ZU H' s h rfl
  |rt u=>exactλp=>p
  |bk a=>exactλp=>p.elim
  |ct a=>exactλp=>p.elim
 |_=>exactλp=>p
def FW(T:Tab)(a:CL)(K:HY)(mg:Str->Option Value):Prop:=∀(k:Nat) (x:Str) (fo:List Str) (as:List (Str×Bool)),T.xc[k]?=some (x,fo,as) ->∃C,a[k]?=some (C,fo) /\∀base:Heap,K.In base->base.Ns mainGlobals mg->XC K mg base x fo as C
def AF(T:Tab)(a:CL)(P:Program)(w:World)(K:HY)(mg:Str->Option Value)(base:Heap)(M:List Fn)(d i:Nat)(fi:FI)(f:Addr)(fd:FuncData):Prop:=Y2 P w K mg base Xb (2*d+2) f fd fi.ps (V1 K M d i fi.ps.length)/\(fi.x∈T.fs->Y2 P w K mg base (CX1 P w) (2*d+2) f fd fi.ps (Vl K a M d i fi.ps.length))
def mU{cl:CL}{YW:List FI}{M:List Fn}(G:SA T K mg YW M)(xo:FW T cl K mg)(kb:K.In base)(nb:base.Ns mainGlobals mg):∀(d i:Nat) (fi:FI),YW[i]?=some fi ->∀f fd,Tb K fi.nm fi.x fi.st f fd->AF T cl P w K mg base M d i fi f fd
 |0,i,fi,_,f,fd,_=>⟨⟨λvs H Q E ⟨_,ρ,g,J,_,_,_,p⟩=>p.elim,λA outer s H args J vs Q E _ _ _ _ ⟨_,ρ,g,J,_,_,_,p⟩=>p.elim⟩,λ_=>⟨λvs H Q E ⟨_,ρ,g,J,_,_,_,p⟩=>p.elim,λA outer s H args J vs Q E _ _ _ _ ⟨_,ρ,g,J,_,_,_,p⟩=>p.elim⟩⟩
 |d+1,i,fi,hi,f,fd,F=>by
  let⟨Fi,ei,Z6⟩:=G.all.get hi;let⟨m,hb⟩:=Z6.body;have Y4:fi.ps.length<=fi.N.length:=by have:=Sb List.length Z6.sc.pre;rw[TK]at this;lia
  have b:∀j a,YW[j]?=some a ->∃f fd,FAt K mg a f/\PySem.W.keepIn K (.ref f)=true/\(a.kf=none->Binds K fd a.ps [])/\(∀F nd,a.kf=some (F,nd)->a.ps=F.ns++F.ks/\F.ns++F.ks≠[] /\∃ZE dd,XU K fd F nd ZE dd)/\AF T cl P w K mg base M d j a f fd /\∀F,M[j]?=some F->F.np=a.ps.length:=λj a r=>by
   let⟨Fj,ej',Oj⟩:=G.all.get r;let⟨f',t,m1,R,m3,D⟩:=Oj.obj;exact⟨f',t,m1,R.kp,m3,D,mU G xo kb nb d j a r f' t R,λu e=>by rw[ej']at e;cases e;exact Oj.np⟩
  have Sz:∀j x,T.M[j]?=some x->(x==("__debug__" : Str))=false ->∃f fd a,FI.x a=x/\mg x=some (.ref f)/\PySem.W.keepIn K (.ref f)=true/\Binds K fd a.ps []/\AF T cl P w K mg base M d j a f fd /\∀F,M[j]?=some F->F.np=a.ps.length:=λj x o YR=>by
   rw[G.names,Wd]at o;cases r:YW[j]? with
   |none=>rw[r]at o;cases o
   |some a=>
    rw[r]at o;have o:a.tn=x:=by simpa using o
    unfold FI.tn at o;let⟨f',t,m1,R,m3,D,n,L⟩:=b j a r;cases hc:a.cm with
    |some c=>rw[hc]at o;subst o;cases YR
    |none=>
     cases hk:a.kf with
     |some c=>rw[hc,hk]at o;subst o;cases YR
     |none=>
      rw[hc,hk]at o;have o:a.x=x:=o;subst o;have UP:mg a.x=some (.ref f'):=by unfold FAt at m1;rw[hc]at m1;exact m1
      exact⟨f',t,a,rfl,UP,R,m3 hk,n,L⟩
  have okN:∀(CX:X0) v A outer s H E,Ze (2*d+3) (A.deeper (envOfC fi.x (A3 fi.st) s.heap.objs.size f v))->Zn T M d (BB CX P w K mg base fi.N fi.x (A3 fi.st) f v A outer s H E).Zx (A3 fi.st) fi.N:=λCX v A outer s H E S=>by
   refine⟨λj x o YR=>?_,G.cs,G.bt,λy j F nd hy=>?_,λy c j F nd hy=>?_,λmm l O c j F nd Xx=>?_,G.fls,S,rfl,rfl,Z6.sc.nd,rfl,rfl⟩
   .obtain ⟨f',t,a,_,a1,a2,a3,a4,a5⟩:=Sz j x o YR
    have a4:=a4.1;exact⟨f',t,a.ps,a1,a2,a3,a4,a5⟩
   .obtain ⟨a,r,rfl,hc,hk⟩:=G.kfs y j F nd hy
    let⟨f',t,m1,R,m3,D,n,L⟩:=b j a r;have n:=n.1;let⟨B,V,ZE,dd,U⟩:=D F nd hk;have UP:mg a.x=some (.ref f'):=by unfold FAt at m1;rw[hc]at m1;exact m1
    rw[B]at n;exact⟨f',t,ZE,dd,UP,R,U,V,n,λu e=>by rw[L u e,B]⟩
   .obtain ⟨hn,a,r,hc,hk⟩:=G.cls y c j F nd hy
    let⟨f',t,m1,R,m3,D,n,L⟩:=b j a r;have n:=n.1;let⟨B,V,ZE,dd,U⟩:=D F nd hk;unfold FAt at m1;rw[hc]at m1;let⟨C,c1,c2,c3,c4,c5⟩:=m1;rw[B]at n;exact⟨C,f',t,ZE,dd,c1,c5 rfl,by rw[hn];exact c2,U,V,n,λu e=>by rw[L u e,B]⟩
   .obtain ⟨a,r,hc,hk⟩:=G.mts mm l O c j F nd Xx
    let⟨f',t,m1,R,m3,D,n,L⟩:=b j a r;have n:=n.1;let⟨B,V,ZE,dd,U⟩:=D F nd hk;unfold FAt at m1;rw[hc]at m1;let⟨C,c1,c2,c3,c4,c5⟩:=m1;rw[B]at n;exact⟨C,f',t,ZE,dd,c2,c3,c4,U,V,n,λu e=>by rw[L u e,B]⟩
  have okX:∀(CX:X0) (W:XQ) v A outer s H E X,(X=BB CX P w K mg base fi.N fi.x (A3 fi.st) f v A outer s H E\/X=(BB CX P w K mg base fi.N fi.x (A3 fi.st) f v A outer s H E).Zx)->Ze (2*d+3) (A.deeper (envOfC fi.x (A3 fi.st) s.heap.objs.size f v)) ->
    (∀(k:Nat) (C:Addr) (fo:List Str),cl[k]?=some (C,fo) ->∀Z Y H s e oe vs H0,L2.Z4 X Z Y H s->s.heap.get? e=some oe->oe.cls=.ref C->(∃fs,oe.data=.fields fs/\fs[1]?=some .none)->H e=none->X.ZH.heap.get? e=none->W k vs H0->XD fo vs H0 oe.dict H->X.xe (.ref e) s) ->
    (∀(k:Nat) (C:Addr) (fo:List Str),cl[k]?=some (C,fo) ->∀vs H,W k vs H->fo=[]\/vs.length=fo.length)->(∃E0,AM (CX1 P w) X E0 /\∀c vs H,W c vs H->WE cl E0 c vs H)->Wv T cl M d X (A3 fi.st) fi.N true W:=λCX W v A outer s H E X hX S o WO hp=>by
   have Yi:∀(k:Nat) (x:Str) (fo:List Str) (as:List (Str×Bool)),T.xc[k]?=some (x,fo,as) ->∃C,cl[k]?=some (C,fo)/\XC K mg base x fo as C:=λk x fo as h=>let⟨C,h1,h2⟩:=xo k x fo as h;⟨C,h1,h2 base kb nb⟩
   have hF1:∀(i:Nat) (x:Str),T.M[i]?=some x->(x==("__debug__" : Str))=false->x∈T.fs ->∃f fd ps,mg x=some (.ref f)/\PySem.W.keepIn K (.ref f)=true/\Binds K fd ps []/\Y2 P w K mg base (CX1 P w) (2*d+2) f fd ps (Vl K cl M d i ps.length) /\∀F,M[i]?=some F->F.np=ps.length:=λj x h YR h'=>by
    let⟨f',t,a,rfl,a1,a2,a3,a4,a5⟩:=Sz j x h YR;exact⟨f',t,a.ps,a1,a2,a3,a4.2 h',a5⟩
   have hM1:∀(y:Str) (c i:Nat) (F:KF) (nd:Nat),T.cl.lookup y=some (c,i,F,nd)->i∈T.fx ->∃C f fd ZE dd,mg y=some (.ref C)/\Mk K C f/\PySem.W.nsIn K mainGlobals (Au c)=some (some (.ref C))/\XU K fd F nd ZE dd/\F.ns++F.ks≠[]/\Y2 P w K mg base (CX1 P w) (2*d+2) f fd (F.ns++F.ks) (Vl K cl M d i (F.ns++F.ks).length) /\∀u,M[i]?=some u->u.np=(F.ns++F.ks).length:=λy c j F nd hy hj=>by
    let⟨hn,a,r,hc,hk⟩:=G.cls y c j F nd hy;let⟨f',t,m1,R,m3,D,n,L⟩:=b j a r;have n:=n.2 (G.fx j hj a r);let⟨B,V,ZE,dd,U⟩:=D F nd hk;unfold FAt at m1;rw[hc]at m1;let⟨C,c1,c2,c3,c4,c5⟩:=m1;rw[B]at n;exact⟨C,f',t,ZE,dd,c1,c5 rfl,by rw[hn];exact c2,U,V,n,λu e=>by rw[L u e,B]⟩
   have hT1:∀(m:Str) (l:List (Nat×Nat×KF×Nat)),T.mt.lookup m=some l ->∀c i F nd,(c,i,F,nd)∈l->i∈T.fx ->∃C f fd ZE dd,PySem.W.nsIn K mainGlobals (Au c)=some (some (.ref C))/\Yu K C/\VH K C m f/\XU K fd F nd ZE dd/\F.ns++F.ks≠[]/\Y2 P w K mg base (CX1 P w) (2*d+2) f fd (F.ns++F.ks) (Vl K cl M d i (F.ns++F.ks).length) /\∀u,M[i]?=some u->u.np=(F.ns++F.ks).length:=λmm l O c j F nd Xx hj=>by
    let⟨a,r,hc,hk⟩:=G.mts mm l O c j F nd Xx;let⟨f',t,m1,R,m3,D,n,L⟩:=b j a r;have n:=n.2 (G.fx j hj a r);let⟨B,V,ZE,dd,U⟩:=D F nd hk;unfold FAt at m1;rw[hc]at m1;let⟨C,c1,c2,c3,c4,c5⟩:=m1;rw[B]at n;exact⟨C,f',t,ZE,dd,c2,c3,c4,U,V,n,λu e=>by rw[L u e,B]⟩
   rcases hX with rfl|rfl
   .exact ⟨okN CX v A outer s H E S,Yi,hF1,λ_=>o,λ_=>WO,hM1,hT1,hp,λ_=>PassesOwn.leaving,rfl,rfl,ie Z6.sc.kind,λ_=>rfl⟩
   .exact ⟨okN CX v A outer s H E S,Yi,hF1,λ_=>o,λ_=>WO,hM1,hT1,hp,λ_=>PassesOwn.never,rfl,rfl,ie Z6.sc.kind,λ_=>rfl⟩
  have fin0:Y2 P w K mg base Xb (2*(d+1)+2) f fd fi.ps (V1 K M (d+1) i fi.ps.length):=by
   let⟨KG,od,dV,IT,doc,pm,an,v,ct,YL,rfl,lk,Y8⟩:=F.ex;refine iB (k:=2*d+3) lk Y8 Z6.sc (λvs H Q E ⟨_,ρ,g,J,_,rs,O,_⟩=>by rw[<-rs.length];exact O) λA outer s H vs Q E S h=>?_
   let⟨fu,ρ,g,J,hg,rs,O,p⟩:=h;simp![Aa,ei,BA]at p;rw[XN (by rw[O,Z6.np])]at p
   refine⟨ZF K W0 ((J7 (Aa M fu d) fu).ex Fi.body),PSs.Zx ?_,_,ρ,g,j3 Z6.ns rs (by lia),hg,lE p⟩
   unfold CA at hb;split at hb
   .exact bH (dI m (okX Xb W0 v A outer s H E _ (.inr rfl) S (λk C fo _ Z Y H s e oe vs H0 _ _ _ _ _ _ z=>z.elim) (λk C fo _ vs H z=>z.elim) ⟨λ_ _ _=>False,λ_ _ _ _ _ _ _ ⟨_,_,_,_,_,_,z⟩=>z.elim,λ_ _ _ z=>z.elim⟩)) hb fu
   .exact cf (gm (okN Xb v A outer s H E S) (ie Z6.sc.kind) (λ_=>rfl) m) hb fu
  refine⟨fin0,λXx=>?_⟩;let⟨KG,od,dV,IT,doc,pm,an,v,ct,YL,rfl,lk,Y8⟩:=F.ex;refine iB (k:=2*d+3) lk Y8 Z6.sc (λvs H Q E ⟨_,ρ,g,J,_,rs,O,_⟩=>by rw[<-rs.length];exact O) λA outer s H vs Q E S h=>?_
  let⟨fu,ρ,g,J,hg,rs,O,p⟩:=h;simp![Aa,ei,BA]at p;rw[XN (by rw[O,Z6.np])]at p
  refine⟨ZF K (WE cl E) ((J7 (Aa M fu d) fu).ex Fi.body),?_,_,ρ,g,j3 Z6.ns rs (),hg,lE p⟩
  unfold CA at hb;rw[XN (W8.mpr Xx)]at hb;refine bH (dI m (okX (CX1 P w) (WE cl E) v A outer s H E _ (.inl rfl) S (λk C fo hC Z Y H' s' e oe vs H0 I a1 a2 ⟨fs,a3,a4⟩ a5 a6 ⟨C',fo',VX,_,q⟩ xd=>?_) (λk C fo hC vs H ⟨C',fo',VX,q,_⟩=>?_) ⟨E,qU λ_ _ _ z=>z,λ_ _ _ z=>z⟩)) hb fu
  .rw [hC]at VX
   cases VX;refine leave_new I rfl rfl a1 a3 a4 a5 a6 ?_;rw[a2];exact q _ _ xd
  .rw [hC]at VX
   cases VX;exact q
def yz(b:DH H)(h:SqL K H a xs):SqF K H a xs:=by
 rcases h with(h|h)|h
 .rcases b a with z|⟨o,ys,z⟩
  .rw [h]at z;cases z
  .rw [h]at z;cases z
 .exact .inl h
 .exact .inr h
def ki{ρ:List Addr}{H:Hp}:∀ns:List Int,RVs K ρ H (ns.map U.int) (ns.map V.int)
 |[]=>rfl
 |n::ns=>⟨.int n,ns.map V.int,rfl,rfl,ki ns⟩
def z0{M:List Fn}{E:XK}(c:DH H)(b:SqL K H a (ns.map V.int))(h:Aa M fu d i [.Zs (ns.map U.int)] []=.ok (.bl true) g'):
  V1 K M d i 1 [.ref a] H (λv _=>v=.bl true) E:=by
 refine⟨fu,[],[],[.Zs (ns.map U.int)],⟨rfl,λi j a e=>by simp at e,λn a o e=>by simp at e⟩,⟨_,_,rfl,⟨a,_,rfl,yz c b,ki ns⟩,rfl⟩,rfl,?_⟩
 rw[h];exactλv ZU H' _ _ r=>r
end
open PySem PySem.Spec PyProof.Rows L2 PySem.W
variable{v:Value}{is:List Inf}
def kh{b c:Type}{f g:b->Option c}:∀{l:List b},(∀x∈l,f x=g x)->l.filterMap f=l.filterMap g
 |[],_=>rfl
 |a::l,h=>by rw[Vk,Vk,h a (.head _),kh λx d=>h x (.tail _ d)]
def qd:∀{ps:List Str} {J:List α},ps.Nodup->J.length=ps.length->(ps.filterMap λn=>((ps.zip J).lookup n).map (n,·))=ps.zip J:=by
 intro ps
 induction ps with
 |nil=>intro J _ _;cases J<;>rfl
 |cons p ps ih=>
  intro J nd a;cases J with
  |nil=>simp at a
  |cons u J=>
   have c:p ∉ ps:=(SD.mp nd).1;rw[Vk];simp![Rr,WH,Ri,Vv];congr 1;refine(kh λx b=>?_).trans (ih (SD.mp nd).2 (by simpa using a))
   have:(x==p)=false:=by
    rw[TL];rintro rfl;exact c b
   simp![this]
def l7{b:Type}:∀{ps:List Str} {J:List b},J.length=ps.length ->∀x∈ps,((ps.zip J).lookup x).isNone=false
 |[],_,_,x,hx=>by simp at hx
 |p::ps,[],a,_,_=>by simp at a
 |p::ps,u::J,a,x,hx=>by
  simp![Rr,WH];cases e:x==p with
  |true=>rfl
  |false=>
   rcases Wc.mp hx with rfl|h
   .simp at e
   .exact l7 (by simpa using a) x h
def i9{J:List Value}(k:fd.params.posonlyargs=[])(j:fd.params.args.map (·.arg)=ps)(i:fd.params.vararg=none)(h:fd.params.kwonlyargs=[])(g:fd.params.kwarg=none)
  (f:fd.defaults=.none) (b:ps.Nodup) (a:J.length=ps.length):bindArgs fd ⟨J,[]⟩=pure (ps.zip J):=by
 unfold bindArgs;have e:(List.filter (λn=>((ps.zip J).lookup n).isNone) ps)=[]:=by
  rw[R8];intro x c;rw[l7 a x c];decide
 have l:=qd b a;have hs:seqItems? Value.none=pure none:=rfl;have d : ¬ J.length > ps.length:=by lia
 simp![k,j,i,h,g,f,RJ,Qt,Tc,Po,pure_bind,hs,Qi,Vq,Nat.zero_sub,List.drop_nil,Pq,Rk,e,List.drop_length,List.zip_nil_right,RL,QY,WN,U3,Sa d,Pn,l]
def ls{b:Addr}{o:Obj}:∀{l:List Obj} {n:Nat},(Cb n l).lookup b=some o->n<=b/\l[b-n]?=some o/\o.data ≠ .freed
 |[],_,e=>by cases e
 |x::l,n,e=>by
  have ZV:(Cb (n+1) l).lookup b=some o->n<=b/\(x::l)[b-n]?=some o/\o.data ≠ .freed:=λe=>by
   let⟨h1,h2,c⟩:=ls e;let⟨k,rfl⟩:=Nat.exists_eq_add_of_le h1;rw[Nat.add_sub_cancel_left]at h2;refine⟨HP (UL n) h1,?_,c⟩;rw[show n+1+k-n=k+1 by lia,R3]
   exact h2
  unfold Cb at e;split at e
  .exact ZV e
  .rename_i a
   rw[WH]at e;split at e
   .rename_i z
    cases e;have:=eq_of_beq z;subst this;exact⟨HR _,by rw[Nat.sub_self];rfl,a⟩
   .exact ZV e
def wk(h:Heap):(A1 h).In h:=λb o e=>by
 let⟨_,h2,a⟩:=ls e;rw[Pq,Qc]at h2;unfold Heap.get?;rw[h2];split
 .rename_i q;cases q;exact absurd rfl a
 .rfl
def kU(h:C2 N ps sc=true):Uw N ps sc:=by
 simp![C2,ZC,WC,Xn,Wj,TH]at h;let⟨⟨⟨⟨⟨⟨a,b⟩,c⟩,d⟩,e⟩,f⟩,g⟩:=h;exact⟨a,b,c,d,e,f,g⟩
def B2(fd:FuncData)(b:List Stmt):Stmt:=.FunctionDef fd.name fd.params b [] none [] fd.scope none fd.name ⟨0,0,0,0⟩
def gM(h:DG v=true):v=.none:=by cases v<;>first|rfl|cases h
def Kh:U->V
 |.int i=>.int i
 |.bl b=>.bl b
 |.str s=>.str s
 |_=>.ZR
def ng{K:Frag}{a:Value}(h:EF u a=true):RelV (Kh u) a /\∀ρ H,RV K ρ H u (Kh u):=by
 cases u with
 |int i=>cases a with
  |int j _=>cases HX h;exact⟨⟨_,rfl⟩,λ_ _=>rfl⟩
  |_=>cases h
 |ZR=>cases gM h;exact⟨rfl,λ_ _=>rfl⟩
 |bl b=>cases a with
  |bool c=>cases eq_of_beq h;exact⟨rfl,λ_ _=>rfl⟩
  |_=>cases h
 |str s=>cases a with
  |str t _=>cases HX h;exact⟨⟨_,rfl⟩,λ_ _=>rfl⟩
  |_=>cases h
 |_=>cases h
def lU{K:Frag}:∀{J:List U} {e:List Value},CB J e=true->ZK (J.map Kh) e /\∀ρ H,RVs K ρ H J (J.map Kh)
 |[],[],_=>⟨.nil,λ_ _=>rfl⟩
 |[],_::_,h=>by cases h
 |_::_,[],h=>by cases h
 |u::J,v::vs,h=>by
  rw[CB,ZC]at h;let⟨a,b⟩:=ng (K:=K) h.1;let⟨c,d⟩:=lU (K:=K) h.2;exact⟨.cons a c,λρ H=>⟨_,_,rfl,b ρ H,d ρ H⟩⟩
def wd{K:Frag}{f:Value}(h:IC K u f=true):∃v,RelV v f /\∀ρ H,RV K ρ H u v:=by
 cases u with
 |xn c J=>cases f with
  |ref a=>
   have h:Er K J (.ref a)=true:=h;simp![Er]at h;cases ho:K.lookup a with
   |none=>rw[ho]at h;cases h
   |some o=>
    rw[ho]at h;have h:(decide (o.cls=.type "tuple")&&GO J o.data)=true:=h;rw[ZC,Xn]at h;let⟨cl,r,d,k⟩:=o;let⟨h1,h⟩:=h;cases(show cl=.type "tuple" from h1);cases d with
    |seq ZY n=>
     have h:(decide (ZY.size<=1000)&&CB J ZY.toList)=true:=h;rw[ZC,Xn]at h;let⟨j,g⟩:=lU (K:=K) h.2;exact⟨.ref _,rfl,λρ H=>⟨_,_,rfl,⟨_,ZY,n,ho,rfl,rfl,HP h.1 #[1],j⟩,g ρ H⟩⟩
    |_=>cases h
  |_=>cases h
 |_=>cases h
def lR{K:Frag}{c:Value}(e:DD K u c=true):∃v,RelV v c /\∀ρ H,RV K ρ H u v:=by
 unfold DD at e;rw[TH]at e;rcases e with e|e
 .obtain ⟨a,b⟩:=ng (K:=K) e;exact⟨_,a,b⟩
 .exact wd e
def lO{K:Frag}:∀{ns:List Str} {dd:List (Str×U)} {e:List Value},dd.map (·.1)=ns->Dl K (dd.map (·.2)) e=true ->∃ZE,F2 (PR RelV) ZE (ns.zip e)/\F2 (PR λu v=>∀ρ H,RV K ρ H u v) dd ZE
 |_,[],[],h,_=>by subst h;exact⟨[],.nil,.nil⟩
 |_,[],_::_,_,h=>by cases h
 |_,_::_,[],_,h=>by cases h
 |_,(n,u)::dd,v::vs,h,q=>by
  subst h;rw[Xk,Dl,ZC]at q;let⟨w,a,b⟩:=lR q.1;let⟨ZE,c,d⟩:=lO (dd:=dd) rfl q.2;exact⟨(n,w)::ZE,.cons ⟨rfl,a⟩ c,.cons ⟨rfl,b⟩ d⟩
def abZ{K:Frag}{a:List Value}(h:Ed K v=some a)(Z9:Model)(hp:Heap)(X:K.In hp):∃od:Option (Array Value),(od.getD #[]).toList=a/\Looks Z9 hp (seqItems? v) od:=by
 unfold Ed at h;split at h
 .cases h;exact⟨none,rfl,.of_pure rfl⟩
 .split at h
  .rename_i ZY _ _ ho
   cases h;exact⟨some ZY,rfl,λA Q E s k q=>wpAny_seqItems (k _ _ (X _ _ ho)) rfl q⟩
  .cases h
 .cases h
def ab0{K:Frag}{u:Value}(h:BO K v n=some u):∃d,v=.ref d/\nsIn K d n=some (some u):=by
 unfold BO at h;split at h
 .split at h
  .rename_i q;cases h;exact⟨_,rfl,q⟩
  .cases h
 .cases h
def j9{f e:Type}:∀{l d:List f} {m c:List e},l.length=m.length->(l++d).zip (m++c)=l.zip m++d.zip c
 |[],_,[],_,_=>rfl
 |[],_,_::_,_,h=>by simp at h
 |_::_,_,[],_,h=>by simp at h
 |a::l,d,b::m,c,h=>by simp[j9 (l:=l) (m:=m) (by simpa using h)]
def acK{K:Frag}{F:KF}{c:Nat}(h:ID K fd F c=true):∃ZE dd,XU K fd F c ZE dd:=by
 simp![ID,ZC,Xn,Se,RN,Wj]at h;let⟨⟨⟨⟨⟨⟨⟨⟨m,p2⟩,k⟩,j⟩,i⟩,g⟩,f⟩,d⟩,p9⟩:=h;split at p9
 .rename_i s r
  rw[ZC,Xn]at p9;let⟨l1,q⟩:=p9;let⟨ZE,b,p⟩:=lO (K:=K) d q;refine⟨ZE,_,m,p2,k,j,i,⟨s,λn=>(BO K fd.kwdefaults n).getD .none,λZ9 h X=>abZ r Z9 h X,l1,g,λn o=>?_,rfl⟩,?_,p⟩
  .have:=f n o
   cases e:BO K fd.kwdefaults n with
   |none=>rw[e]at this;cases this
   |some u=>exact ab0 (by show _=some (Option.getD _ _);rw[e];rfl)
  .rw [j9 (by rw[Qg,l1];omega)]at b
   have:F.ks.zip (F.ks.map λn=>(BO K fd.kwdefaults n).getD .none)=F.ks.map λn=>(n,(BO K fd.kwdefaults n).getD .none):=by
    generalize F.ks=l
    induction l with
    |nil=>rfl
    |cons a l ih=>simp[ih]
   rw[this]at b;exact b
 .cases p9
def adm{K:Frag}(X:K.In h)(G:h.Ns mainGlobals mg)(e:IE K (x,u)=true):∃v c,mg x=some c/\RelV v c /\∀ρ H,RV K ρ H u v:=by
 unfold IE at e;split at e
 .rename_i c d
  have f:mg x=some c:=mg_of X G d;let⟨v,a,b⟩:=lR e;exact⟨v,c,f,a,b⟩
 .cases e
open PySem PySem.Spec PyProof.Rows L2 PySem.W PySem.Calls
def qS(h:(bm,newId)∈DQ):∃B X7,ExcBaseFacts B newId X7 bm:=by
 unfold DQ at h;simp![Wc,QZ,T6,Qq]at h;rcases h with⟨rfl,rfl⟩|⟨rfl,rfl⟩|⟨rfl,rfl⟩|⟨rfl,rfl⟩
 .exact ⟨_,_,PySem.F.excBase_ZeroDivisionError⟩
 .exact ⟨_,_,PySem.F.excBase_ValueError⟩
 .exact ⟨_,_,PySem.F.excBase_LookupError⟩
 .exact ⟨_,_,PySem.F.excBase_IndexError⟩
def eW{o:Option α}{f:α->Bool}(h:o.any f=true):∃a,o=some a/\f a=true:=by
 cases o with
 |none=>cases h
 |some a=>exact⟨a,rfl,h⟩
def uq{K:Frag}(h:DR K C=true):Vm K C:=by
 simp![DR,ZC,WQ]at h;let⟨⟨⟨⟨⟨⟨⟨a,b⟩,c⟩,d⟩,e⟩,f⟩,g⟩,i⟩:=h;exact⟨a,b,c,d,e,f,g,i⟩
def vm{s:Stmt}{q:Str×IA}(h:GF s=some q):s=Cg q.1 q.2:=by
 refine qB h λb e h=>qB h λt d a=>?_;let⟨pos,rfl⟩:=kc e;let⟨k,j⟩:=b;have c:=eA d;dsimp only at c a;subst c;split at a
 .rename_i x i f g p p2
  cases a
  rfl
 .cases a
def ke{self:Str}:∀{ss:List Stmt} {as:List IA},DU self ss=some as->ss=as.map (Cg self)
 |[],as,h=>by cases h;rfl
 |s::r,as,h=>by
  refine qB h λq a h=>qI h λhc h=>qM h λc b e=>?_;subst e;rw[Xk,vm a,HX hc,ke b]
def sP{K:Frag}{e:ClassData}{o:Obj}(h:clsIn K C=some e)(f:K.lookup C=some o):o.data=.cls e:=by
 unfold clsIn at h;rw[f]at h;let⟨a,b,g,d⟩:=o;cases g with
 |cls c=>cases h;rfl
 |_=>cases h
def vX{K:Frag}{fd:FuncData}(h:II K a=some fd):∃od b,K.lookup a=some ⟨.type "function",od,.func fd,b⟩:=by
 refine qB h λo ho h=>qI h λhc h=>?_;let⟨cl,od,c,b⟩:=o;cases WQ.mp hc;cases c with
 |func d=>cases h;exact⟨od,b,ho⟩
 |_=>exact qN h
def sk{b:FuncBody}{a:List Stmt}(h:Gj b=some a):b=.stmts a:=by
 cases b with
 |stmts b=>cases h;rfl
 |_=>exact qN h
def pO{K:Frag}{N:Addr}(X:K.In h)(G:h.Ns N mg)(e:nsIn K N n=some (some v)):mg n=some v:=by
 let⟨o,es,ep,ho,f,_,a⟩:=G;unfold nsIn at e;split at e
 .rename_i c d ZL i g q
  have:=X _ _ q;rw[ho]at this;cases this;cases f;split at e
  .rename_i j b
   cases e;rw[<-a];unfold nsFind findBy;rw[<-Array.find?_toList,b]
   rfl
  .split at e<;>cases e
 .cases e
def zy:∀{l:List α} {a:α},l.length=6->l[4]?=some a ->∃k0 k1 k2 k3 k5,l=[k0,k1,k2,k3,a,k5]
 |[k0,k1,k2,k3,b,k5],a,_,h=>by cases h;exact⟨k0,k1,k2,k3,k5,rfl⟩
def sJ{K:Frag}(X:K.In h)(q:DP K C YD newId fI=true):
  ∃bm N nm q bs hdct sn sub ab col dd k0 k1 k2 k3 k5 mN,h.get? C=some (excClassObj nm q C N bs bm hdct sn sub ab col dd k0 k1 k2 k3 k5 newId)/\h.Ns N mN/\mN "__init__" = some (.ref fI)/\OwnTail h YD bm:=by
 unfold DP at q;cases ho:K.lookup C with
 |none=>rw[ho]at q;cases q
 |some o=>
  rw[ho]at q;simp![ZC,WQ,Xn]at q;let⟨⟨⟨h1,j⟩,k⟩,hc⟩:=q;let⟨e,r,hc⟩:=eW hc;let⟨cl,dd,m,⟨l⟩⟩:=o;cases h1;let⟨k0,k1,k2,k3,k5,rfl⟩:=zy (by simpa using j) (by simpa using k)
  have d:m=.cls e:=sP r ho;subst d;let⟨nm,bs,a,ns,f,i,sn,sub,ab,col,n⟩:=e;simp![IH,ZC,WC,WQ]at hc;let⟨⟨⟨rfl,c⟩,p⟩,b⟩:=hc;cases a with
  |nil=>cases c
  |cons v bm=>
   simp![GZ,ZC,WQ]at c;let⟨rfl,g⟩:=c;have hN:h.Ns ns (h.nsMap ns):=.of_isNs (isNs_of_in X p);exact⟨bm,ns,nm,f,bs,i,sn,sub,ab,col,dd,k0,k1,k2,k3,k5,_,X _ _ ho,hN,pO X hN b,tail_of_in X g⟩
def qC{K:Frag}{g:List Str}(h:Gb K fI g=true):TB K C fI g:=by
 let⟨fd,e,h⟩:=eW h;let⟨od,D,t⟩:=vX e;simp![ZC,WQ,Se]at h;let⟨⟨⟨⟨⟨x,w⟩,d⟩,v⟩,y⟩,h⟩:=h;have d:=gM d;let⟨ss,hs,h⟩:=eW h;have u:=sk hs;split at h
 .cases h
 rename_i self ps _;rw[ZC,WC,QP]at h;let⟨A,h⟩:=h;let⟨as,c,f⟩:=eW h;have E:=ke c;subst E;simp![ZC,Xn]at f;let⟨⟨⟨⟨⟨⟨rfl,rfl⟩,s⟩,b⟩,z⟩,i⟩,B⟩:=f;have sc:=kU z;simp![Dn,ZC,Xn,Se,RN]at i;let⟨⟨⟨⟨p,o⟩,m⟩,l⟩,k⟩:=i;cases as with
 |nil=>exact absurd rfl A
 |cons a as=>
 have e:fd=fnOf fd.name fd.qualname fd.params ((a::as).map (Cg self)) fd.scope .none fd.kwdefaults fd.doc fd.pyModule fd.annotations fd.code fd.closureTuple:=by
  let⟨n,q,F,N,j,gl,cl,G,kw,H,pm,O,L,I,M⟩:=fd;simp only at *;subst x;subst w;subst d;subst v;subst u
  rfl
 refine⟨.type "function",od,fd.name,fd.qualname,self,a,as,fd.params,fd.scope,.none,fd.kwdefaults,fd.doc,fd.pyModule,fd.code,fd.closureTuple,fd.annotations,D,by rw[<-e];exact t,rfl,y,sc,?_,Wj.mp B,rfl,s,b⟩
 exact .all λJ r=>i9 p o m l k rfl (by have:=sc.nd;exact this) r
def t9{K:Frag}{fo:List Str}(X:K.In h)(G:h.Ns mainGlobals mg)(e:C8 K (x,fo,as)=some C):∀base:Heap,K.In base->base.Ns mainGlobals mg->XC K mg base x fo as C:=by
 intro base c i;unfold C8 at e;split at e
 .rename_i C' h1
  split at e
  .rename_i hc
   cases e;simp![ZC]at hc;let⟨⟨a,E⟩,A⟩:=hc;have mk:DA base C/\XMk K mg base x C fo:=by
    cases fo with
    |nil=>cases a
    |cons f fr=>
     simp![IJ]at a;split at a
     .rename_i fI H
      simp![ZC]at a;let⟨⟨w,KQ⟩,d⟩:=a;let⟨⟨bm,newId⟩,t,p⟩:=Q7.mp w;let⟨B,X7,k⟩:=qS t;have Z6:=sJ c p;refine⟨?_,fI,bm,newId,B,X7,Z6,k,λf s=>?_,qC KQ⟩
      rotate_left
      .have d:=Wj.mp d f s
       simp![setB,ZC,WQ]at d;let⟨⟨⟨⟨n,m⟩,s3⟩,s4⟩,l⟩:=d;exact⟨⟨n,m,s3,s4⟩,l⟩
      let⟨j,N,nm,q,bs,hdct,sn,sub,ab,col,dd,k0,k1,k2,k3,k5,mN,hC,hN,hi,F⟩:=Z6;exact⟨j,N,nm,q,bs,hdct,sn,sub,ab,col,dd,k0,k1,k2,k3,k5,newId,hC,F.hasType k.hasBase⟩
     .cases a
   refine⟨mg_of c i h1,mk.1,mk.2,uq E,λy b r=>?_⟩;have:=Wj.mp A (y,b) (Rc r);simp![IG,ZC]at this;let⟨t2,this⟩:=this;let⟨Lg,o2,o⟩:=aG t2;split at this
   .rename_i g
    split at this
    .rename_i T v
     exact⟨.type T,.ty T,rfl,λu z=>z,.inl ⟨v,mg_none_of c i g,o⟩,Lg,WQ.mp this⟩
    .cases this
   .rename_i D g
    exact⟨.ref D,.ref D,rfl,λu z=>z,.inr (mg_of c i g),Lg,WQ.mp this⟩
   .cases this
  .cases e
 .cases e
open PySem PySem.Spec PyProof.Rows L2 PySem.W
def gY{K:Frag}(h:CT K C=true):Yu K C:=by
 simp![CT,ZC,WQ]at h;let⟨⟨⟨a,b⟩,c⟩,d⟩:=h;exact⟨a,b,c,d⟩
def B7(T:Tab)(K:Frag)(i:Inf):Option Fn:=mkF T (i,BC K i)
def sO{T:Tab}{i:Inf}{o:Option (Scope×List Stmt)}{F:Fn}(h:mkF T (i,o)=some F):∃r,o=some r/\(Ab (r.2.map (CA T i.x r.1 i.N 60))).map (λb'=>(⟨i.ps.length,i.N.length,b'⟩:Fn))=some F:=by
 cases o with
 |none=>cases h
 |some r=>exact⟨r,rfl,h⟩
def md{K:Frag}(X:K.In h)(G:h.Ns mainGlobals mg){i:Inf}{fi:FI}(hx:fi.x=i.x)(k:fi.cm=i.cm)(e:EA K i=some a):FAt K mg fi a:=by
 unfold FAt;rw[k,hx];unfold EA at e;split at e
 .rename_i b
  try rw[b]
  split at e
  .rename_i h1;cases e;exact mg_of X G h1
  .cases e
 .rename_i c b
  try rw[b]
  split at e
  .rename_i C h1
   split at e
   .rename_i a' h2
    split at e
    .rename_i d
     cases e;simp![ZC,TH,WC,R1]at d;let⟨⟨⟨n,f⟩,m⟩,l⟩:=d;refine⟨C,mg_of X G h1,h1,gY n,⟨h2,f,m⟩,λhi=>?_⟩;rcases l with z|⟨j,g⟩
     .exact absurd hi z
     .rw [hi]at h2;exact⟨j,h2,f,g⟩
    .cases e
   .cases e
  .cases e
def Plain(K:Frag)(mg:Str->Option Value)(i:Inf)(fi:FI):Prop:=
 i.kf=none ->
 i.cm=none ->∀f fd,mg fi.x=some (.ref f)->Tb K fi.nm fi.x fi.st f fd ->∀J:List Value,J.length=i.ps.length->bindArgs fd ⟨J,[]⟩=pure (i.ps.zip J)
def tZ{T:Tab}{K:Frag}{i:Inf}{F:Fn}(X:K.In h)(G:h.Ns mainGlobals mg)(e:B7 T K i=some F):
  ∃fi:FI,fi.x=i.x/\fi.ps=i.ps/\fi.cm=i.cm /\
  fi.kf=i.kf /\
  FOk T K mg fi F/\Plain K mg i fi:=by
 unfold B7 at e;let⟨r,c,e⟩:=sO e;unfold BC at c;split at c
 .rename_i a h1
  split at c
  .rename_i KG od fd u h2
   split at c
   .rename_i b E
    split at c
    .rename_i hc
     cases c;simp![ZC]at hc;let⟨⟨⟨⟨s,U⟩,j⟩,S⟩,R⟩:=hc;have sc:=kU U;simp![FZ,ZC,Xn,WQ,Se]at s;let⟨⟨⟨⟨P,KQ⟩,O⟩,M⟩,L⟩:=s;let⟨b',Y,rfl⟩:=YU.mp e;have m:i.ps.Nodup:=by rw[<-sc.pre];exact sc.nd.sublist (List.take_sublist _ _)
     have Z:fd=fnOf i.nm i.x (Cm (B2 fd b)) (Cn (B2 fd b)) (A3 (B2 fd b)) fd.defaults fd.kwdefaults fd.doc fd.pyModule fd.annotations fd.code fd.closureTuple:=by
      let⟨n,q,pa,bo,v,gl,cl,de,kw,dc,pm,V,cd,Q,bu⟩:=fd;simp![B2,Cm,Cn,A3]at *;subst P;subst KQ;subst O;subst M;subst L;subst E
      rfl
     have t:i.kf=none ->∀J:List Value,J.length=i.ps.length->bindArgs fd ⟨J,[]⟩=pure (i.ps.zip J):=λd J k=>by
      unfold Ej at j;rw[d]at j;simp![Dn,ZC,Xn,Se,RN]at j;let⟨⟨⟨⟨⟨B,p2⟩,A⟩,z⟩,y⟩,w⟩:=j;exact i9 B p2 A z y (gM w) m k
     have W:(⟨i.x,B2 fd b,i.N,i.ps,i.cm,i.kf⟩:FI).nm=i.nm:=rfl;refine⟨⟨i.x,B2 fd b,i.N,i.ps,i.cm,i.kf⟩,rfl,rfl,rfl,rfl,⟨sc,rfl,rfl,⟨60,Y⟩,a,fd,md X G rfl rfl h1,⟨⟨KG,od,fd.defaults,fd.kwdefaults,fd.doc,fd.pyModule,fd.annotations,fd.code,fd.closureTuple,u,by rw[W];exact Z,h2,S⟩,R⟩,λd=>.all λJ k=>t d J k,λF nd d=>?_⟩,λd o f Yw l H J k=>?_⟩
     .have d:i.kf=some (F,nd):=d
      unfold Ej at j;rw[d]at j;simp![ZC,Xn,WC,QP]at j;let⟨⟨p,g2⟩,I⟩:=j;exact⟨p,by rw[<-p];exact g2,acK I⟩
     .have g:FAt K mg ⟨i.x,B2 fd b,i.N,i.ps,i.cm,i.kf⟩ a:=md X G rfl rfl h1
      unfold FAt at g;dsimp only at g;rw[o]at g;have l:mg i.x=some (.ref f):=l;rw[show mg i.x=some (.ref a)from g]at l;cases l;let⟨D,C,dV,IT,doc,pm,V,Zk,Q,YL,_,lk,_⟩:=H.ex;rw[h2]at lk;cases lk;exact t d J k
    .cases c
   .cases c
  .cases c
 .cases c
def acr{K:Frag}(h:IK K (f,cs)=true):CS K f cs:=λc hc=>by
 have:=Wj.mp h c (W8.mp hc);dsimp only at this;split at this
 .rename_i C h1
  rw[ZC,WQ]at this;exact⟨C,h1,gY this.1,this.2⟩
 .cases this
def acD{K:Frag}(X:K.In h)(G:h.Ns mainGlobals mg){p:Str×Nat}(e:IM K p=true):∃C,mg p.1=some (.ref C)/\nsIn K mainGlobals (Au p.2)=some (some (.ref C))/\Yu K C/\Th K C:=by
 unfold IM at e;split at e
 .rename_i C a
  simp![ZC,Xn,IL,WQ]at e;let⟨⟨j,i⟩,⟨⟨⟨⟨⟨⟨Lg,o2⟩,g⟩,f⟩,d⟩,c⟩,b⟩⟩:=e;exact⟨C,mg_of X G a,by rw[j];exact a,gY i,⟨Lg,o2,g,f,d,c,b⟩⟩
 .cases e
noncomputable def Inf.tn(i:Inf):Str:=if i.cm.isSome||i.kf.isSome then "__debug__" else i.x
def allFrom(T:Tab)(K:Frag)(is:List Inf):Option (List Fn):=if IQ T K&&T.cs.all (IE K)&&T.fl.all (IK K)&&is.all (λi=>i.cm.all λc=>BU c.1)&&T.ow.all (IM K)then Ab (is.map (B7 T K))else none
def kI{T:Tab}{K:Frag}{h:Heap}{mg:Str->Option Value}(X:K.In h)(G:h.Ns mainGlobals mg):∀{is:List Inf} {M:List Fn},Ab (is.map (B7 T K))=some M ->
  ∃d:List FI,d.map FI.tn=is.map Inf.tn/\AllOk T K mg d M /\∀(j:Nat) (i:Inf),is[j]?=some i ->∃fi,d[j]?=some fi/\fi.x=i.x/\fi.ps=i.ps/\fi.cm=i.cm /\
   fi.kf=i.kf /\
   Plain K mg i fi
 |[],M,e=>by cases e;exact⟨[],rfl,trivial,λj i h=>by simp at h⟩
 |i::is,M,e=>by
  rw[Xk]at e;cases q:B7 T K i with
  |none=>rw[q]at e;cases e
  |some F=>
   rw[q]at e;let⟨r,e',rfl⟩:=YU.mp e;let⟨d,a,b,c⟩:=kI X G e';let⟨fi,l,o,g,f,n,m⟩:=tZ X G q;refine⟨fi::d,by simp[a,FI.tn,Inf.tn,l,g,f],⟨n,b⟩,λj k h=>?_⟩
   cases j with
   |zero=>simp at h;subst h;exact⟨fi,rfl,l,o,g,f,m⟩
   |succ j=>exact c j k (by simpa using h)
def mem_zipIdx'{p:Inf×Nat}(h:p∈is.zipIdx):is[p.2]?=some p.1:=by
 let⟨i,k⟩:=p;have:=List.mem_zipIdx h;simp![Sf,Pq]at this;exact Yh.mpr ⟨by omega,this.2.2.symm⟩
def FT(T:Tab)(is:List Inf)(M:List Fn)(h:Heap):Prop:=∃K:Frag,K.In h/\allFrom T K is=some M
def qT{T:Tab}{ms:List Str}{M:List Fn}{K:Frag}(I:T.M=is.map Inf.tn)(L:T.kf=DB is)(O:T.cl=DF is)(U:T.mt=De is ms)
  (V:T.fx=DE is T.fs)
  (X:K.In h) (e:allFrom T K is=some M) (G:h.Ns mainGlobals mg) :
  ∃B:List FI,SA T K mg B M /\∀(j:Nat) (i:Inf),is[j]?=some i ->∃fi,B[j]?=some fi/\fi.x=i.x/\fi.ps=i.ps/\fi.cm=i.cm /\
   fi.kf=i.kf /\
   Plain K mg i fi:=by
 unfold allFrom at e;split at e
 .rename_i n
  simp![ZC]at n;let⟨⟨⟨⟨n,S⟩,P⟩,R⟩,C⟩:=n;unfold IQ at n;rw[ZC]at n;have n:=n.1;let⟨B,a,b,c⟩:=kI X G e;have nm:∀i∈is,∀cm,i.cm=some cm->Au (Bk cm.1)=cm.1:=λi hi cm hc=>by
   have:=Wj.mp R i hi;rw[hc]at this;exact(cg this).1
  refine⟨B,⟨I.trans a.symm,b,λx u h=>adm X G (Wj.mp S (x,u) (Rc h)),λx H=>?_,λy i F nd s=>?_,λy cc i F nd s=>?_,λm l D cc i F nd Q=>?_,⟨λf cs h=>acr (Wj.mp P (f,cs) (Rc h)),λp g=>acD X G (Wj.mp C p g)⟩,λj E fi t=>?_⟩,c⟩
  .have:=Wj.mp n x H
   cases q:nsIn K mainGlobals x with
   |none=>rw[q]at this;cases this
   |some v=>
    cases v with
    |some v=>rw[q]at this;cases this
    |none=>exact mg_none_of X G q
  .rw [L]at s
   let⟨p,g,d⟩:=SN.mp (Rc s);split at d
   .rename_i k h1 h2
    cases d;let⟨fi,o,A,_,z,w,_⟩:=c _ _ (mem_zipIdx' g);exact⟨fi,o,A,z.trans h1,w.trans h2⟩
   .cases d
  .rw [O]at s
   let⟨p,g,d⟩:=SN.mp (Rc s);split at d
   .rename_i cm k h1 h2
    split at d
    .rename_i hi
     cases d;have r:=mem_zipIdx' g;let⟨fi,o,A,_,z,w,_⟩:=c _ _ r;refine⟨nm _ (W5 r) _ h1,fi,o,?_,w.trans h2⟩;rw[z,h1,<-hi]
    .cases d
   .cases d
  .rw [U]at D
   let⟨W,J,d⟩:=VR.mp (Rc D);cases d;let⟨p,g,d⟩:=SN.mp Q;split at d
   .rename_i cm k h1 h2
    split at d
    .rename_i hi
     cases d;have r:=mem_zipIdx' g;let⟨fi,o,A,_,z,w,_⟩:=c _ _ r;refine⟨fi,o,?_,w.trans h2⟩;rw[z,h1,nm _ (W5 r) _ h1,<-hi]
    .cases d
   .cases d
  .rw [V]at E
   let⟨p,g,d⟩:=SN.mp E;split at d
   .rename_i hc
    cases d;let⟨N,o,A,_⟩:=c _ _ (mem_zipIdx' g);rw[o]at t;cases t;rw[A];exact W8.mp hc
   .cases d
 .cases e
def rO{T:Tab}{M:List Fn}{K:Frag}(X:K.In h)(e:allFrom T K is=some M)(G:h.Ns mainGlobals mg):FW T (T.xc.map λc=>((C8 K c).getD 0,c.2.1)) K mg:=λk x fo as hk=>by
 unfold allFrom at e;split at e
 .rename_i a
  simp![ZC]at a;have a:=a.1.1.1.1;unfold IQ at a;rw[ZC]at a;let⟨C,b⟩:=T3.mp (Wj.mp a.2 (x,fo,as) (W5 hk));refine⟨C,?_,t9 X G b⟩;rw[Wd,hk,Vv,b]
  rfl
 .cases e
def abn{l:OpenLaw}{q:Program}{loose:List Str}{XP:(Str->Option Value)->Heap->Prop}{y:DefRec}{T:Tab}{ms:List Str}{M:List Fn}
  (Q:l.most=some 63) (t:y.params.defaults=[]) (O:Ze (2*d+2) callerA) (XO:T.M=is.map Inf.tn) (R:T.kf=DB is) (Yi:T.cl=DF is) (VA:T.mt=De is ms)
  (T5:T.fx=DE is T.fs)
  (S:is[i]?=some ⟨y.name,N,[x],none,none⟩)
  (Ta:∀ns:List Int,ns.length<=63 ->∃fu g',Aa M fu d i [.Zs (ns.map U.int)] []=.ok (.bl true) g') :
  WalkO q loose XP (λ_ h=>FT T is M h) l.row.toRowW y [] (λf vs=>PySem.call f vs):=by
 refine Att.attach_call Q t λw ZH ZG mg mb E o pm cd doc a vs ns G Z_ ho hd Y8 r Tq j c V=>?_;let⟨K,A,C⟩:=Z_;let⟨YW,PG,W⟩:=qT XO R Yi VA T5 A C G.T.g;let⟨D,F,e2,e3,Z,e6,e4⟩:=W i _ S;let⟨Fi,ei,Z6⟩:=PG.all.get F;let⟨f,fd,m1,B,m3⟩:=Z6.obj;unfold FAt at m1;rw[Z]at m1;have I:mg D.x=some (.ref f):=m1;have m1:=I;rw[e2,r]at m1;cases m1;refine sZ (CX:=Xb) (k:=2*d+2) (x:=x) (fd:=fd) (sp:=V1 K M d i 1) A G.T.g G.T.b G.T.builtins G.T.nolimit V Tq j (HP c #[1]) O (λbase L J=>?_) (λs u=>?_) (λH Y X=>?_) λH e s' z=>z
 .have:=(mU (P:=l.prog) (w:=w) (base:=base) PG (rO A C G.T.g) L J d i D F E fd B).1
  rw[e3]at this;exact this
 .exact .of_eq (e4 rfl rfl E fd I B [u] rfl)
 .obtain ⟨fu,g',e⟩:=Ta ns c
  exact z0 Y X e
open PySem PySem.Spec PyProof.Rows L2 PySem.W PySem.Calls
noncomputable section
def tS(p:Program)(w:World)(N:Nat):openEnds treeTable p w N=endsF p w N:=by
 unfold openEnds fencedOpening topFrom endsF G4;rw[Fast.te10274390034422433532,Fast.te14364793385576792824,Fast.te1435165496053646825,Fast.te14289696077712309145,Fast.te14082659384304107361]
 rfl
def BF(p:Program):DefRec:=match p.main.body.getD (p.main.body.length-1) (.Pass ⟨0,0,0,0⟩)with
 |.FunctionDef n a b _ _ _ sc _ _ ps=>⟨n,a,b,sc,ps⟩
 |_=>⟨"",Cm (.Pass ⟨0,0,0,0⟩),[],A3 (.Pass ⟨0,0,0,0⟩),⟨0,0,0,0⟩⟩
def aaa{c:Type}{o:Option α}{f:α->β}{g:α->c}{a:β}{b:c}(h:o.map (λs=>(f s,g s))=some (a,b)):o.map f=some a:=by
 cases o with
 |none=>cases h
 |some s=>cases h;rfl
def aaE{c:Type}{o:Option α}{f:α->β}{g:α->c}{a:β}{b:c}(h:o.map (λs=>(f s,g s))=some (a,b)):o.map g=some b:=by
 cases o with
 |none=>cases h
 |some s=>cases h;rfl
def lJ{e d:Type}{f:e->Option d}:∀{l m:List e} {a b:List d},Ab (l.map f)=some a->Ab (m.map f)=some b->Ab ((l++m).map f)=some (a++b)
 |[],m,a,b,h1,h2=>by cases h1;exact h2
 |x::l,m,a,b,h1,h2=>by
  rw[Xk]at h1;rw[Rj,Xk];cases hx:f x with
  |none=>rw[hx]at h1;cases h1
  |some y=>
   rw[hx]at h1;cases c:Ab (l.map f)with
   |none=>simp![Ab,c]at h1;cases h1
   |some ys=>
    have ih:=lJ c h2;simp![Ab,c]at h1;simp![Ab,ih];cases h1
    rfl
def cT{f:α->Option β}{l:List α}{m:List β}{k c:Nat}(b:Ab ((l.take k).map f)=some (m.take k))(a:Ab (((l.drop k).take c).map f)=some ((m.drop k).take c)):Ab ((l.take (k+c)).map f)=some (m.take (k+c)):=by
 rw[Q0,Q0];exact lJ b a
def kq{o:Option Shared}{k c:Nat}(a:o.map (λs=>(is.take k).map (BC (A1 s.heap)))=some (rs.take k))(b:o.map (λs=>((is.drop k).take c).map (BC (A1 s.heap)))=some ((rs.drop k).take c)):o.map (λs=>(is.take (k+c)).map (BC (A1 s.heap)))=some (rs.take (k+c)):=by
 cases o with
 |none=>cases a
 |some s=>
  simp![Vv,Xa]at a b ⊢;rw[Q0,Q0,SF,a,b]
def zS{o:Option Shared}{f:Shared->β}{b:β}{T:Tab}{M:List Fn}{k:Nat}(a:o.map (λs=>EK T (A1 s.heap) is)=some true)(d:o.map f=some b)
  (c:o.map (λs=>(is.take k).map (BC (A1 s.heap)))=some (rs.take k)) (h:Ab (((is.zip rs).take k).map (mkF T))=some (M.take k)) (e:is.length<=k) (j:M.length<=k) (g:rs.length<=k):o.map (λs=>(f s,allFrom T (A1 s.heap) is))=some (b,some M):=by
 rw[UK (HP (List.length_zip ▸ Nat.min_le_left _ _) e),UK j]at h;rw[UK e,UK g]at c;cases o with
 |none=>cases a
 |some s=>
  simp![Vv,Xa,QZ]at a d c ⊢;refine⟨d,?_⟩;unfold allFrom;unfold EK at a;rw[XN a,<-h];congr 1;rw[<-c];generalize is=l
  induction l with
  |nil=>rfl
  |cons i l ih=>rw[Xk,Xk,Rr,Xk,ih,B7]
def aan{l:OpenLaw}{T:Tab}{ms:List Str}{M:List Fn}{loose C:List Str}{N:Nat}
  (a:Fast.tw9446332074065402090 l=true)
  (j:∀w,(endsF l.prog w N).map (λs=>(Fast.tw4187177175401517315 (lastOf l.prog) loose (importedModules l.prog.main.body) (λ_=>true) true s,allFrom T (A1 s.heap) is))=some (openGood (lastOf l.prog) loose,some M))
  (t:defOf (lastOf l.prog) l.name=some (BF l.prog,[])) (p:l.prog.theDef l.name=some ((BF l.prog).params,(BF l.prog).body,(BF l.prog).scope)) (o:kwWritten? (BF l.prog).params.kwonlyargs (BF l.prog).params.kw_defaults=some [])
  (n:(BF l.prog).params.defaults=[])
  (ok:(chainsOk (lastOf l.prog)&&opensWell l.prog&&(frees l.row.toRowW&&l.row.within.isEmpty))=true) (m:l.prog.bare) (c:l.row.toRowW.promised)
  (g:l.most=some 63) (f:Ze (2*d+2) callerA) (v:T.M=is.map Inf.tn) (b:T.kf=DB is) (u:T.cl=DF is) (y:T.mt=De is ms)
  (A:T.fx=DE is T.fs)
  (k:is[i]?=some ⟨(BF l.prog).name,C,[x],none,none⟩)
  (z:∀ns:List Int,ns.length<=63 ->∃fu g',Aa M fu d i [.Zs (ns.map U.int)] []=.ok (.bl true) g'):l.Holds:=by
 have sd:l.wellSaid=true:=by rw[Fast.te9446332074065402090];exact a
 refine holds_law sd λB=>?_;refine holds_open (r:=l.row) (q:=lastOf l.prog) (loose:=loose) (Xt:=λ_=>true) (XP:=λ_ _=>True) (Yf:=λs=>allFrom T (A1 s.heap) is) (Ya:=λ_=>some M) (YP:=λ_ h=>FT T is M h) (N:=N) (d:=BF l.prog) (kwd:=[]) ?_
  (λw s e=>⟨A1 s.heap,wk _,e⟩) (λw h h' ⟨K,k1,k2⟩ b=>⟨K,k1.keeps b,k2⟩) (λ_ _=>trivial) (λ_ _ _ _ _=>trivial) t p o (λs _=>recFacts_nil rfl) (by simp[OpenLaw.row]) B ok m c (abn g n f v b u y A k z)
 intro w;have:=j w;rw[<-tS,<-Fast.te4187177175401517315]at this;exact this
end
end
end PI
section
open PySem PySem.W PyProof.Rows
def ZI.all(w:World):(PI.endsF PySem.Challenge.rw_braemantle_k37_gaps.prog w 20000).map (λs=>(Fast.tw4187177175401517315 (PI.lastOf PySem.Challenge.rw_braemantle_k37_gaps.prog) ZI.loose (PySem.importedModules #[0]) (λ_=>true) true s,PI.allFrom ZI.T (PI.A1 s.heap) ZI.AX))=some (openGood (PI.lastOf PySem.Challenge.rw_braemantle_k37_gaps.prog) ZI.loose,some ZI.M):=PI.zS (k:=59) (PI.aaE (ZI.S3 w)) (PI.aaa (ZI.S3 w)) (PI.kq (k:=52) (c:=7) (PI.kq (k:=26) (c:=26) (ZI.chk1 w) (ZI.chk2 w)) (ZI.chk3 w)) (PI.cT (k:=56) (c:=3) (PI.cT (k:=48) (c:=8) (PI.cT (k:=40) (c:=8) (PI.cT (k:=32) (c:=8) (PI.cT (k:=19) (c:=13) (ZI.part0) ZI.part1) ZI.part2) ZI.part3) ZI.part4) ZI.part5) #[1] #[1] #[1]
end
variable{W:PI.XQ}{Wf:L2.XK->PI.XQ}
namespace PI
noncomputable section
variable{a e v:E}{b:List Z5}{Y:Su}{f':E->Su->G->Out U}{ZV:List (Tg×E×List E)}{A B:Prop}{es:List E}
noncomputable def Out.le{a:Type}(o o':Out a):Prop:=o=.Z0\/o=o'
def Out.le.rfl{o:Out α}:o.le o:=.inr (Eq.refl _)
def Out.le.bot{o:Out α}:(Out.Z0:Out α).le o:=.inl (Eq.refl _)
def Out.le.trans{a b c:Out α}(h:a.le b)(k:b.le c):a.le c:=by
 rcases h with rfl|rfl
 .exact .bot
 .exact k
def aq{o o':Out α}{k k':α->G->Out β}(h:o.le o')(b:∀a g,(k a g).le (k' a g)):(o.bind k).le (o'.bind k'):=by
 rcases h with rfl|rfl
 .exact .bot
 .cases o with
  |ok a g=>exact b a g
  |exc c fs g=>exact .rfl
  |Z0=>exact .bot
def bp{o o':Out α}{k k':α->G->Out β}(h:o.le o')(b:∀a g,(k a g).le (k' a g)):(o.bindB k).le (o'.bindB k'):=by
 rcases h with rfl|rfl
 .exact .bot
 .cases o with
  |ok a g=>exact b a g
  |exc c fs g=>exact .rfl
  |Z0=>exact .bot
def aW{o o':Out α}(h:o.le o'):o.Y3.le o'.Y3:=by
 rcases h with rfl|rfl
 .exact .bot
 .exact .rfl
def wa{o o':Out Fl}(h:o.le o'):(B0 o j hs Y).le (B0 o' j hs Y):=by
 rcases h with rfl|rfl
 .exact .bot
 .exact .rfl
abbrev CC:=Nat->List U->G->Out U
structure Z8.le(r r':Z8):Prop where
 ev:∀e Y g,(r.ev e Y g).le (r'.ev e Y g)
 ts:∀e Y g,(r.ts e Y g).le (r'.ts e Y g)
 ex:∀e Y g,(r.ex e Y g).le (r'.ex e Y g)
 wh:∀e b Y g,(r.wh e b Y g).le (r'.wh e b Y g)
 fr:∀t it i b Y g,(r.fr t it i b Y g).le (r'.fr t it i b Y g)
 cm:∀it i t cs ZV elt ZW Y g,(r.cm it i t cs ZV elt ZW Y g).le (r'.cm it i t cs ZV elt ZW Y g)
section
variable{C C':CC}{r':Z8}
def bc{f a:E->Su->G->Out U}(h:∀e Y g,(f e Y g).le (a e Y g)):∀es Y g,(JT f es Y g).le (JT a es Y g)
 |[],_,_=>.rfl
 |e::es,Y,g=>aq (h e Y g) λ_ _=>aq (bc h es _ _) λ_ _=>.rfl
def mv{f:E->Su->G->Out U}(h:∀e Y g,(f e Y g).le (f' e Y g)):∀e Y g,(JU f e Y g).le (JU f' e Y g)
 |none,_,_=>.rfl
 |some e,Y,g=>aq (h e Y g) λ_ _=>.rfl
def eO{f a:E->Su->G->Out Bool}(h:∀e Y g,(f e Y g).le (a e Y g)):∀es Y g,(AH f es Y g).le (AH a es Y g)
 |[],_,_=>.rfl
 |e::es,Y,g=>aq (h e Y g) λk _=>by
  cases k
  .exact .rfl
  .exact eO h es _ _
local macro_rules|`(tactic|sleep 8)=>do
 let a<-("Out.le.rfl Out.le.bot Z8.le.ev Z8.le.ts Z8.le.ex Z8.le.wh Z8.le.fr Z8.le.cm bc mv eO aq bp".splitOn " ").toArray.mapM fun s=>`(tactic|apply $(Lean.mkIdent s.toName))
 `(tactic|(repeat first $[|$a:tactic]*|assumption|intro _|split))
def cw(h:r.le r')(e:E)(Y:Su)(g:G):(JW r e Y g).le (JW r' e Y g):=by
 cases e<;>(delta JW;dsimp only)<;>sleep 8
def gU(b:∀f J g,(C f J g).le (C' f J g))(h:r.le r')(e:E)(Y:Su)(g:G):(JX C r e Y g).le (JX C' r' e Y g):=by
 cases e with
 |call f es=>exact aq (aW (bc h.ev _ _ _)) λJ g=>b f J g
 |make c f es ks pm=>
  refine aq (aW (bc h.ev _ _ _)) λJ g=>aq (aW (bc h.ev _ _ _)) λws g=>?_;split
  .exact aq (b _ _ _) λu g=>.rfl
  .exact .rfl
 |YT a j tb es ks=>
  refine aq (aW (h.ev _ _ _)) λx g=>?_;split
  .refine aq (aW (bc h.ev _ _ _)) λJ g=>aq (aW (bc h.ev _ _ _)) λws g=>?_
   split
   .exact b _ _ _
   .exact .rfl
  .exact .rfl
 |comp own fr gs elt=>
  cases gs with
  |nil=>exact .rfl
  |cons t ZV=>
   let⟨t,it,cs⟩:=t;exact aq (cw h _ _ _) λi g=>bp (h.cm _ _ _ _ _ _ _ _ _) λ_ _=>.rfl
 |Wr own fr gs k v=>
  cases gs with
  |nil=>exact .rfl
  |cons t ZV=>
   let⟨t,it,cs⟩:=t;exact aq (cw h _ _ _) λi g=>bp (h.cm _ _ _ _ _ _ _ _ _) λ_ _=>.rfl
 |V_ o k x=>
  refine aq (h.ev _ _ _) λx g=>?_;split
  .exact aq (h.ev _ _ _) λ_ g=>aq (h.ev _ _ _) λ_ g=>.rfl
  .exact .rfl
 |_=>delta JX;dsimp only;sleep 8
def ik(h:r.le r')(e:E)(Y:Su)(g:G):(JY r e Y g).le (JY r' e Y g):=by
 cases e<;>(delta JY;dsimp only)<;>sleep 8
def mj(h:r.le r')(s:Z5)(Y:Su)(g:G):(JZ r s Y g).le (JZ r' s Y g):=by
 cases s with
 |«for» t it b=>exact aq (cw h _ _ _) λi g=>h.fr _ _ _ _ _ _
 |Zx b=>exact aW (h.ex _ _ _)
 |Wq c a b=>exact aq (aW (h.ts _ _ _)) λk g=>by cases k<;>exact h.ex _ _ _
 |UG t it b=>exact aq (aW (cw h _ _ _)) λi g=>h.fr _ _ _ _ _ _
 |raise c es=>exact aq (aW (bc h.ev _ _ _)) λJ g=>.rfl
 |Vd b j hs=>exact wa (h.ex _ _ _)
 |_=>delta JZ;dsimp only;sleep 8
def hV(h:r.le r')(a:List Z5)(Y:Su)(g:G):(J0 r a Y g).le (J0 r' a Y g):=by
 cases a with
 |nil=>exact .rfl
 |cons s ZV=>exact aq (mj h _ _ _) λf g=>by cases f<;>sleep 8
def ir(h:r.le r')(c:E)(b:List Z5)(Y:Su)(g:G):(J1 r c b Y g).le (J1 r' c b Y g):=by
 unfold J1;sleep 8
def gR(h:r.le r')(t:Tg)(it:Iter)(i:Nat)(b:List Z5)(Y:Su)(g:G):(J3 r t it i b Y g).le (J3 r' t it i b Y g):=by
 unfold J3;sleep 8
def gS(h:r.le r')(it:Iter)(i:Nat)(t:Tg)(c:List E)(b:List (Tg×E×List E))(a:E)(d:List U)(Y:Su)(g:G):(J6 r it i t c b a d Y g).le (J6 r' it i t c b a d Y g):=by
 unfold J6;split
 .sleep 8
 .sleep 8
 .split
  .split
   .sleep 8
   .refine bp (eO h.ts _ _ _) λk g=>?_
    split
    .cases b with
     |nil=>exact bp (h.ev _ _ _) λv g=>by sleep 8
     |cons t b=>
      let⟨t2,YF,Yk⟩:=t;exact bp (cw h _ _ _) λj g=>bp (h.cm _ _ _ _ _ _ _ _ _) λ_ _=>h.cm _ _ _ _ _ _ _ _ _
    .sleep 8
  .sleep 8
def aE(a:∀f J g,(C f J g).le (C' f J g)):∀{m n:Nat},m<=n->(J7 C m).le (J7 C' n)
 |0,n,_=>⟨λ_ _ _=>.bot,λ_ _ _=>.bot,λ_ _ _=>.bot,λ_ _ _ _=>.bot,λ_ _ _ _ _ _=>.bot,λ_ _ _ _ _ _ _ _ _=>.bot⟩
 |m+1,0,h=>absurd h (by lia)
 |m+1,n+1,h=>by
  have ih:=aE a (m:=m) (n:=n) (by lia)
  exact⟨gU a ih,ik ih,hV ih,ir ih,gR ih,gS ih⟩
def v3(a:∀f J g,(C f J g).le (C' f J g))(h:m<=n)(F:Fn)(J:List U)(g:G):(BA m C F J g).le (BA n C' F J g):=by
 unfold BA;split
 .exact aq ((aE a h).ex _ _ _) λf g=>.rfl
 .exact .rfl
def fT{M:List Fn}{m n:Nat}(h:m<=n):∀(d f:Nat) (J:List U) (g:G),(Aa M m d f J g).le (Aa M n d f J g)
 |0,_,_,_=>.rfl
 |d+1,f,J,g=>by
  simp![Aa];split
  .exact v3 (fT h d) h _ _ _
  .exact .rfl
end
abbrev XP:=Nat->List U->G->Prop
def holds{b:Type}(o:Out b)(X:XP)(Q:b->G->Prop):Prop:=match o with
 |.ok a g=>Q a g
 |.exc c fs g=>X c fs g
 |.Z0=>False
def wp{a:Type}(f:Nat->Out a)(X:XP)(Q:a->G->Prop):Prop:=∃n,holds (f n) X Q
def Az{a:Type}(f:Nat->Out a):Prop:=∀m n,m<=n->(f m).le (f n)
section
variable{f f':Nat->Out α}{k k':Nat->α->G->Out β}{X:XP}{Q:α->G->Prop}{R:β->G->Prop}
def eL{o o':Out α}(h:o.le o')(q:holds o X Q):holds o' X Q:=by
 rcases h with rfl|rfl
 .exact q.elim
 .exact q
def fM{o:Out α}{k:α->G->Out β}:holds (o.bind k) X R↔holds o X λa g=>holds (k a g) X R:=by cases o<;>exact Y7
def iU{o:Out α}{k:α->G->Out β}:holds (o.bindB k) X R↔holds o (λ_ _ _=>False) λa g=>holds (k a g) X R:=by cases o<;>exact Y7
def fK{o:Out α}{Q':α->G->Prop}(h:∀a g,Q a g->Q' a g)(q:holds o X Q):holds o X Q':=by
 cases o with
 |ok a g=>exact h a g q
 |_=>exact q
def wp_mono{Q':α->G->Prop}(q:wp f X Q)(h:∀a g,Q a g->Q' a g):wp f X Q':=let⟨n,z⟩:=q;⟨n,fK h z⟩
def af{o:Out α}:wp (λ_=>o) X Q↔holds o X Q:=⟨λ⟨_,h⟩=>h,λh=>⟨0,h⟩⟩
def wp_bind(d:Az f)(b:∀a g,Az λn=>k n a g):wp (λn=>(f n).bind (k n)) X R↔wp f X λa g=>wp (λn=>k n a g) X R:=by
 constructor
 .rintro ⟨n,h⟩
  rw[fM]at h;exact⟨n,fK (λa g q=>⟨n,q⟩) h⟩
 .rintro ⟨n,h⟩
  cases e:f n with
  |ok a g=>
   rw[e]at h;let⟨m,h⟩:=h;refine⟨max n m,?_⟩;rw[fM];have h1:f (max n m)=.ok a g:=by
    rcases d n (max n m) (Nat.le_max_left _ _)with z|z
    .rw [e]at z;cases z
    .rw [<-z,e]
   rw[h1];show holds (k (max n m) a g) X R;exact eL (b a g m (max n m) (Nat.le_max_right _ _)) h
  |exc c fs g=>rw[e]at h;exact⟨n,by rw[fM,e];exact h⟩
  |Z0=>rw[e]at h;exact h.elim
def aB(d:Az f)(b:∀a g,Az λn=>k n a g):wp (λn=>(f n).bindB (k n)) X R↔wp f (λ_ _ _=>False) λa g=>wp (λn=>k n a g) X R:=by
 constructor
 .rintro ⟨n,h⟩
  rw[iU]at h;exact⟨n,fK (λa g q=>⟨n,q⟩) h⟩
 .rintro ⟨n,h⟩
  cases e:f n with
  |ok a g=>
   rw[e]at h;let⟨m,h⟩:=h;refine⟨max n m,?_⟩;rw[iU];have h1:f (max n m)=.ok a g:=by
    rcases d n (max n m) (Nat.le_max_left _ _)with z|z
    .rw [e]at z;cases z
    .rw [<-z,e]
   rw[h1];show holds (k (max n m) a g) X R;exact eL (b a g m (max n m) (Nat.le_max_right _ _)) h
  |_=>rw[e]at h;exact h.elim
def cC(h:∀n,∃m,(f n).le (f' m))(h':∀n,∃m,(f' n).le (f m)):wp f X Q↔wp f' X Q:=
 ⟨λ⟨n,q⟩=>let⟨m,z⟩:=h n;⟨m,eL z q⟩,λ⟨n,q⟩=>let⟨m,z⟩:=h' n;⟨m,eL z q⟩⟩
end
section
variable(M:List Fn)(d:Nat)
abbrev cA(n:Nat):CC:=Aa M n d
abbrev lv(n:Nat):Z8:=J7 (Aa M n d) n
def Ki(f:Nat)(J:List U)(g:G)(X:XP)(Q:U->G->Prop):Prop:=wp (λn=>Aa M n d f J g) X Q
def Kj(e:E)(Y:Su)(g:G)(X:XP)(Q:U->G->Prop):Prop:=wp (λn=>(lv M d n).ev e Y g) X Q
def Kk(e:E)(Y:Su)(g:G)(X:XP)(Q:Bool->G->Prop):Prop:=wp (λn=>(lv M d n).ts e Y g) X Q
def Av(a:List E)(Y:Su)(g:G)(X:XP)(Q:List U->G->Prop):Prop:=wp (λn=>JT (lv M d n).ev a Y g) X Q
def Kl(e:Option E)(Y:Su)(g:G)(X:XP)(Q:Option Int->G->Prop):Prop:=wp (λn=>JU (lv M d n).ev e Y g) X Q
def Km(a:List E)(Y:Su)(g:G)(X:XP)(Q:Bool->G->Prop):Prop:=wp (λn=>AH (lv M d n).ts a Y g) X Q
def Kn(e:E)(Y:Su)(g:G)(X:XP)(Q:Iter->G->Prop):Prop:=wp (λn=>JW (lv M d n) e Y g) X Q
def Kq(s:Z5)(Y:Su)(g:G)(X:XP)(Q:Fl->G->Prop):Prop:=wp (λn=>JZ (lv M d n) s Y g) X Q
def wpS(a:List Z5)(Y:Su)(g:G)(X:XP)(Q:Fl->G->Prop):Prop:=wp (λn=>(lv M d n).ex a Y g) X Q
def Kr(c:E)(b:List Z5)(Y:Su)(g:G)(X:XP)(Q:Fl->G->Prop):Prop:=wp (λn=>(lv M d n).wh c b Y g) X Q
def Ks(t:Tg)(it:Iter)(i:Nat)(b:List Z5)(Y:Su)(g:G)(X:XP)(Q:Fl->G->Prop):Prop:=wp (λn=>(lv M d n).fr t it i b Y g) X Q
def Kt(it:Iter)(i:Nat)(t:Tg)(b:List E)(e:List (Tg×E×List E))(a:E)(c:List U)(Y:Su)(g:G)(X:XP)(Q:List U->G->Prop):Prop:=wp (λn=>(lv M d n).cm it i t b e a c Y g) X Q
end
section
variable{M:List Fn}{X:XP}
def bE(h:m<=n)(f:Nat)(J:List U)(g:G):(cA M d m f J g).le (cA M d n f J g):=fT h d f J g
def aS(h:m<=n):(lv M d m).le (lv M d n):=aE (bE h) h
def mC(f:Nat)(J:List U)(g:G):Az λn=>Aa M n d f J g:=λ_ _ h=>fT h d f J g
def mE(e:E)(Y:Su)(g:G):Az λn=>(lv M d n).ev e Y g:=λ_ _ h=>(aS h).ev _ _ _
def mT(e:E)(Y:Su)(g:G):Az λn=>(lv M d n).ts e Y g:=λ_ _ h=>(aS h).ts _ _ _
def mEs(e:List E)(Y:Su)(g:G):Az λn=>JT (lv M d n).ev e Y g:=λ_ _ h=>bc (aS h).ev _ _ _
def mO(e:Option E)(Y:Su)(g:G):Az λn=>JU (lv M d n).ev e Y g:=λ_ _ h=>mv (aS h).ev _ _ _
def mA(e:List E)(Y:Su)(g:G):Az λn=>AH (lv M d n).ts e Y g:=λ_ _ h=>eO (aS h).ts _ _ _
def mI(e:E)(Y:Su)(g:G):Az λn=>JW (lv M d n) e Y g:=λ_ _ h=>cw (aS h) _ _ _
def m1(e:Z5)(Y:Su)(g:G):Az λn=>JZ (lv M d n) e Y g:=λ_ _ h=>mj (aS h) _ _ _
def mS(e:List Z5)(Y:Su)(g:G):Az λn=>(lv M d n).ex e Y g:=λ_ _ h=>(aS h).ex _ _ _
def mW(e:E)(b:List Z5)(Y:Su)(g:G):Az λn=>(lv M d n).wh e b Y g:=λ_ _ h=>(aS h).wh _ _ _ _
def mF(t:Tg)(it:Iter)(i:Nat)(b:List Z5)(Y:Su)(g:G):Az λn=>(lv M d n).fr t it i b Y g:=λ_ _ h=>(aS h).fr _ _ _ _ _ _
def mM(it:Iter)(i:Nat)(t:Tg)(b:List E)(e:List (Tg×E×List E))(a:E)(c:List U)(Y:Su)(g:G):Az λn=>(lv M d n).cm it i t b e a c Y g:=λ_ _ h=>(aS h).cm _ _ _ _ _ _ _ _ _
def mK(o:Out α):Az λ_=>o:=λ_ _ _=>.rfl
def mB{f:Nat->Out α}{k:Nat->α->G->Out β}(h:Az f)(b:∀a g,Az λn=>k n a g):Az λn=>(f n).bind (k n):=λm n z=>aq (h m n z) λa g=>b a g m n z
def mBB{f:Nat->Out α}{k:Nat->α->G->Out β}(h:Az f)(b:∀a g,Az λn=>k n a g):Az λn=>(f n).bindB (k n):=λm n z=>bp (h m n z) λa g=>b a g m n z
def aj:Kj M d e Y g X Q↔wp (λn=>JX (cA M d n) (lv M d n) e Y g) X Q:=
 cC (λn=>match n with
  |0=>⟨0,.bot⟩
  |n+1=>⟨n+1,gU (C:=cA M d (n+1)) (λ_ _ _=>.rfl) (aE (λ_ _ _=>.rfl) (UL n)) e Y g⟩) λn=>⟨n+1,gU (C:=cA M d n) (C':=cA M d (n+1)) (bE (UL n)) (aE (bE (UL n)) (HR n)) e Y g⟩
def eX{Q:Bool->G->Prop}:Kk M d e Y g X Q↔wp (λn=>JY (lv M d n) e Y g) X Q:=
 cC (λn=>match n with
  |0=>⟨0,.bot⟩
  |n+1=>⟨n+1,ik (aE (λ_ _ _=>.rfl) (UL n)) e Y g⟩) λn=>⟨n+1,ik (aE (bE (UL n)) (HR n)) e Y g⟩
def mq{e:List Z5}{Q:Fl->G->Prop}:wpS M d e Y g X Q↔wp (λn=>J0 (lv M d n) e Y g) X Q:=
 cC (λn=>match n with
  |0=>⟨0,.bot⟩
  |n+1=>⟨n+1,hV (aE (λ_ _ _=>.rfl) (UL n)) e Y g⟩) λn=>⟨n+1,hV (aE (bE (UL n)) (HR n)) e Y g⟩
def xk{Q:Fl->G->Prop}:Kr M d c b Y g X Q↔wp (λn=>J1 (lv M d n) c b Y g) X Q:=
 cC (λn=>match n with
  |0=>⟨0,.bot⟩
  |n+1=>⟨n+1,ir (aE (λ_ _ _=>.rfl) (UL n)) c b Y g⟩) λn=>⟨n+1,ir (aE (bE (UL n)) (HR n)) c b Y g⟩
def xC{t:Tg}{Q:Fl->G->Prop}:Ks M d t it i b Y g X Q↔wp (λn=>J3 (lv M d n) t it i b Y g) X Q:=
 cC (λn=>match n with
  |0=>⟨0,.bot⟩
  |n+1=>⟨n+1,gR (aE (λ_ _ _=>.rfl) (UL n)) t it i b Y g⟩) λn=>⟨n+1,gR (aE (bE (UL n)) (HR n)) t it i b Y g⟩
def aac{t:Tg}{Q:List U->G->Prop}:Kt M d it i t cs ZV elt ZW Y g X Q↔wp (λn=>J6 (lv M d n) it i t cs ZV elt ZW Y g) X Q:=
 cC (λn=>match n with
  |0=>⟨0,.bot⟩
  |n+1=>⟨n+1,gS (aE (λ_ _ _=>.rfl) (UL n)) it i t cs ZV elt ZW Y g⟩) λn=>⟨n+1,gS (aE (bE (UL n)) (HR n)) it i t cs ZV elt ZW Y g⟩
end
local macro_rules|`(tactic|sleep 9)=>do
 let a<-("mE mT mEs mO mA mI mS mC mW mF mM mK mB mBB".splitOn " ").toArray.mapM fun s=>`(tactic|apply $(Lean.mkIdent s.toName))
 `(tactic|(intros;repeat first $[|$a:tactic]*|intro _))
def wp_congr{f:Nat->Out α}{X:XP}{Q Q':α->G->Prop}(h:∀a g,Q a g↔Q' a g):wp f X Q↔wp f X Q':=⟨λq=>wp_mono q λa g=>(h a g).1,λq=>wp_mono q λa g=>(h a g).2⟩
inductive Lk{α:Sort u}(a:α):Type
 |mk:Lk a
@[reducible] def lk{b:Sort u}(a:b):Lk a:=.mk
def Ku{b:Type}(o:Option b){Q:b->Prop}(_:Lk Q):Prop:=match o with
 |some a=>Q a
 |none=>False
def Kv(k:Bool){A B:Prop}(_:Lk A)(_:Lk B):Prop:=match k with
 |true=>A
 |false=>B
def Kw(f:Fl){A:Su->Prop}{B:Fl->Prop}(_:Lk A)(_:Lk B):Prop:=match f with
 |.nx Y=>A Y
 |f=>B f
def Kx(f:Fl){A:Su->Prop}{B:Fl->Prop}(_:Lk A)(_:Lk B):Prop:=match f with
 |.nx Y=>A Y
 |.ct Y=>A Y
 |.bk Y=>B (.nx Y)
 |.rt u=>B (.rt u)
def Ky(f:Fl){Q:U->Prop}(_:Lk Q):Prop:=match f with
 |.rt u=>Q u
 |.nx _=>Q .ZR
 |_=>False
def gH{a:α}{Q:α->Prop}:Ku (some a) (lk Q)=Q a:=propext Y7
def bh_t:Kv true (lk A) (lk B)=A:=propext Y7
def bh_f:Kv false (lk A) (lk B)=B:=propext Y7
def ai{k:Bool}(h:k=true->A)(h':k=false->B):Kv k (lk A) (lk B):=by cases k;exact h' rfl;exact h rfl
def bR{k:Bool}:(if k=true then A else B)↔Kv k (lk A) (lk B):=by cases k<;>simp[Kv]
def aa5{A:Su->Prop}{B:Fl->Prop}:Kx (.nx Y) (lk A) (lk B)=A Y:=propext Y7
def adj{Q:U->Prop}:Ky (.rt u) (lk Q)=Q u:=propext Y7
def aY{o:Option α}{Q:α->Prop}:(∃a,o=some a/\Q a)↔Ku o (lk Q):=by
 cases o with
 |none=>exact⟨λ⟨_,e,_⟩=>(by cases e),λh=>h.elim⟩
 |some a=>exact⟨λ⟨_,e,h⟩=>(by cases e;exact h),λh=>⟨a,rfl,h⟩⟩
def hk{a:Type}(o:Out a)(X:XP){Q:a->G->Prop}(_:Lk Q):Prop:=holds o X Q
def ac4{a:α}{X:XP}{Q:α->G->Prop}:hk (.ok a g) X (lk Q)=Q a g:=propext Y7
section
variable{M:List Fn}{X:XP}
def Kz(M:List Fn)(d f:Nat)(J:List U)(g:G)(X:XP){Q:U->G->Prop}(_:Lk Q):Prop:=Ki M d f J g X Q
def KA(M:List Fn)(d:Nat)(it:Iter)(i:Nat)(t:Tg)(b:List E)(e:List (Tg×E×List E))(a:E)(c:List U)(Y:Su)(g:G)(X:XP){Q:List U->G->Prop}(_:Lk Q):Prop:=Kt M d it i t b e a c Y g X Q
def KC(M:List Fn)(d:Nat)(t:Tg)(it:Iter)(i:Nat)(b:List Z5)(Y:Su)(g:G)(X:XP){Q:Fl->G->Prop}(_:Lk Q):Prop:=Ks M d t it i b Y g X Q
def KD(M:List Fn)(d:Nat)(c:E)(b:List Z5)(Y:Su)(g:G)(X:XP){Q:Fl->G->Prop}(_:Lk Q):Prop:=Kr M d c b Y g X Q
def Bz(x:U)(l h:Option Int)(g:G):Out U:=match x with
  |.Z1 xs=>if HT.sIx xs.length 0 l=0/\HT.sIx xs.length xs.length h=xs.length then .Z0 else .ok (.Z1 (Bh xs l h)) g
  |.Zs xs=>alloc (.S (Bh xs l h)) g
  |.ref n=>match g[n]? with
   |some (.S xs)=>alloc (.S (Bh xs l h)) g
   |_=>.Z0
  |_=>.Z0
def Be(n:Nat):Bool:=@decide (n<=Ac) (Classical.propDecidable _)
def j4(h:n<=16777000):Be n=true:=by unfold Be;exact @decide_eq_true _ (Classical.propDecidable _) h
def jE:Be n=true↔n<=Ac:=by unfold Be;exact @decide_eq_true_iff _ (Classical.propDecidable _)
def CV(x:U)(g:G):Option (List U):=match x with
 |.ref n=>match g[n]? with
  |some (.S xs)=>some xs
  |_=>none
 |_=>none
def pQ{o:Option α}{Q:α->G->Prop}:holds (lift o g) X Q ↔ ∃a,o=some a/\Q a g:=by
 cases o with
 |none=>exact⟨λh=>h.elim,λ⟨_,e,_⟩=>by cases e⟩
 |some a=>exact⟨λh=>⟨a,rfl,h⟩,λ⟨b,e,h⟩=>by cases e;exact h⟩
def di{o:Option α}{Q:α->G->Prop}:holds (lift o g) X Q↔Ku o (lk λa=>Q a g):=by cases o<;>exact Y7
def gC{o:Option Bool}:holds (match o with|some c=>Out.ok (U.bl c) g|none=>.Z0) X Q↔Ku o (lk λc=>Q (.bl c) g):=by cases o<;>exact Y7
def gq{o:Option α}{Q Q':α->Prop}(h:∀a,Q a↔Q' a):Ku o (lk Q)↔Ku o (lk Q'):=by
 cases o with
 |none=>exact Y7
 |some a=>exact h a
def optN{o:Option Nat}{f:Nat->Nat->Out α}{Q:α->G->Prop}:wp (λn=>match o with|some k=>f n k|none=>.Z0) X Q↔Ku o (lk λk=>wp (λn=>f n k) X Q):=by
 cases o with
 |none=>exact af
 |some a=>exact Y7
def nI:holds (if n<=Ac then Out.ok u g' else .Z0) X Q↔Kv (Be n) (lk (Q u g')) (lk False):=by
 rw[<-bR];by_cases h:n<=Ac
 .rw [XN h,XN (jE.mpr h)];exact Y7
 .rw [Xy h,Xy (λz=>h (jE.mp z))];exact Y7
def ob(a:Op)(x y:U)(g:G)(X:XP){Q:U->G->Prop}(_:Lk Q):Prop:=holds (Bs a x y g) X Q
def ob_i{i:Int}{y:U}{X:XP}:ob op (.int i) y g X (lk Q)=Ku (JE op (.int i) y) (lk λz=>Q z g):=propext (by
 unfold ob;refine Iff.trans (?_:_↔holds (lift (JE op (.int i) y) g) X Q) di;exact Y7)
def mR{a:List U}{X:XP}(d:g[n]?=some (.S xs))(c:g[m]?=some (.S a))(b:xs.length+a.length<=Ac)(h:Q (.ref g.length) (g++[.S (xs++a)])):ob .add (.ref n) (.ref m) g X (lk Q):=by
 unfold ob Bs Bl;simp![d,c];rw[XN b];exact h
section
def abm:Kj M d (.L i) Y g X Q↔Ku Y[i]? (lk λo=>Ku o (lk λu=>Q u g)):=by
 rw[aj];delta JX;simp![af];cases Y[i]? with
 |none=>exact Y7
 |some o=>cases o<;>exact Y7
def nY:Kj M d (.Z3 u) Y g X Q↔Q u g:=by rw[aj];delta JX;simp![af];rfl
def nR{b:E}:Kj M d (.ZZ op a b) Y g X Q↔Kj M d a Y g X λx g=>Kj M d b Y g X λy g=>ob op x y g X (lk Q):=by
 rw[aj];delta JX;dsimp only;refine(wp_bind (by sleep 9) (by sleep 9)).trans (wp_congr λ_ _=>?_);refine(wp_bind (by sleep 9) (by sleep 9)).trans (wp_congr λ_ _=>?_);exact af
def adk{b:List Nat}:Kj M d (.fld a j b) Y g X Q↔Kj M d a Y g X λx g=>Ku ((A4 x g).bind (Cd j b)) <| lk λz=>Q z g:=by
 rw[aj];delta JX;dsimp only;refine(wp_bind (by sleep 9) (by sleep 9)).trans (wp_congr λ_ _=>?_);exact af.trans di
abbrev nX:XP:=λ_ _ _=>False
def cR{o:Out α}{k:α->G->Out β}:o.Y3.bind k=o.bindB k:=by cases o<;>rfl
def y9{c f:Nat}{a:List E}:Kj M d (.make c f es a pm) Y g X Q↔Av M d es Y g nX λJ g=>Av M d a Y g nX λws g=>J.length=es.length/\ws.length=a.length/\Kz M d f (perm (.ref g.length::J++ws) pm) (g++[.ins c []]) X (lk λu g'=>AG u=true/\Q (.ref g.length) g'):=by
 rw[aj];delta JX;dsimp only;simp![cR];have e:∀(J ws:List U) (g:G),Az λn=>if J.length=es.length/\ws.length=a.length then(Aa M n d f (perm (.ref g.length::J++ws) pm) (g++[.ins c []])).bind λu g'=>if AG u then Out.ok (U.ref g.length) g' else .Z0 else .Z0:=λJ ws g=>by
  split
  .exact mB (mC _ _ _) λ_ _=>mK _
  .exact mK _
 refine(aB (mEs _ _ _) λJ g=>mBB (mEs _ _ _) λws g=>e J ws g).trans (wp_congr λJ g=>?_);refine(aB (mEs _ _ _) λws g=>e J ws g).trans (wp_congr λws g=>?_);split
 .rename_i h
  refine Iff.trans ((wp_bind (k:=λ_ u g'=>if AG u=true then Out.ok (U.ref (List.length g)) g' else Out.Z0) (mC _ _ _) λ_ _=>mK _).trans (wp_congr λu g'=>af.trans ?_)) ⟨λq=>⟨h.1,h.2,q⟩,λq=>q.2.2⟩
  split
  .rename_i b;exact⟨λq=>⟨b,q⟩,λq=>q.2⟩
  .rename_i b;exact⟨λq=>q.elim,λq=>(b q.1).elim⟩
 .rename_i h;exact⟨λ⟨_,q⟩=>q.elim,λq=>(h ⟨q.1,q.2.1⟩).elim⟩
def zI{b:List E}:Kj M d (.YT a j tb es b) Y g X Q↔Kj M d a Y g nX λx g=>Ku ((A4 x g).bind (BX j tb)) <| lk λp=>Av M d es Y g nX λJ g=>Av M d b Y g nX λws g=>J.length=es.length/\ws.length=b.length/\Kz M d p.1 (perm (x::J++ws) p.2) g X (lk Q):=by
 rw[aj];delta JX;dsimp only;simp![cR];have e:∀(x:U) (p:Nat×List (Nat ⊕ U)) (J ws:List U) (g:G),Az λn=>if J.length=es.length/\ws.length=b.length then Aa M n d p.1 (perm (x::J++ws) p.2) g else .Z0:=λx p J ws g=>by
  split
  .exact mC _ _ _
  .exact mK _
 have c:∀(x:U) (g:G) (o:Option (Nat×List (Nat ⊕ U))),Az λn=>match o with
   |some p=>(JT (lv M d n).ev es Y g).bindB λJ g=>(JT (lv M d n).ev b Y g).bindB λws g=>if J.length=es.length/\ws.length=b.length then Aa M n d p.1 (perm (x::J++ws) p.2) g else .Z0
   |none=>.Z0:=λx g o=>by
  cases o with
  |none=>exact mK _
  |some p=>exact mBB (mEs _ _ _) λJ g=>mBB (mEs _ _ _) λws g=>e x p J ws g
 refine(aB (mE _ _ _) λx g=>c x g _).trans (wp_congr λx g=>?_);cases(A4 x g).bind (BX j tb)with
 |none=>exact af
 |some p=>
  refine(aB (mEs _ _ _) λJ g=>mBB (mEs _ _ _) λws g=>e x p J ws g).trans (wp_congr λJ g=>?_);refine(aB (mEs _ _ _) λws g=>e x p J ws g).trans (wp_congr λws g=>?_);split
  .rename_i h;exact⟨λq=>⟨h.1,h.2,q⟩,λq=>q.2.2⟩
  .rename_i h;exact⟨λ⟨_,q⟩=>q.elim,λq=>(h ⟨q.1,q.2.1⟩).elim⟩
def abc{c:Cp}{b:E}:Kj M d (.cmp c a b) Y g X Q↔Kj M d a Y g X λx g=>Kj M d b Y g X λy g=>Ku (JL c x y g) <| lk λz=>Q (.bl z) g:=by
 rw[aj];delta JX;dsimp only;refine(wp_bind (by sleep 9) (by sleep 9)).trans (wp_congr λ_ _=>?_);refine(wp_bind (by sleep 9) (by sleep 9)).trans (wp_congr λ_ _=>?_);exact af.trans gC
def wG{e f:Cp}{b:E}:Kj M d (.chain e f a b c) Y g X Q↔Kj M d a Y g X λx g=>Kj M d b Y g X λy g=>Ku (JL e x y g) <| lk λz=>Kv z (lk (Kj M d c Y g X λw g=>Ku (JL f y w g) <| lk λz=>Q (.bl z) g)) (lk (Q (.bl false) g)):=by
 rw[aj];delta JX;dsimp only;refine(wp_bind (by sleep 9) (by intro x g;refine mB (mE _ _ _) λy g=>?_;generalize JL e x y g=o;cases o with|none=>exact mK _|some z=>cases z;exact mK _;exact mB (mE _ _ _) λ_ _=>mK _)).trans (wp_congr λx g=>?_)
 refine(wp_bind (by sleep 9) (by intro y g;generalize JL e x y g=o;cases o with|none=>exact mK _|some z=>cases z;exact mK _;exact mB (mE _ _ _) λ_ _=>mK _)).trans (wp_congr λy g=>?_)
 generalize JL e x y g=o;cases o with
 |none=>exact af
 |some z=>
  cases z
  .exact af
  .exact (wp_bind (by sleep 9) (by sleep 9)).trans (wp_congr λ_ _=>af.trans gC)
def aby{b:E}:Kj M d (.and a b) Y g X Q↔Kj M d a Y g X λx g=>Ku (match x with|.bl z=>some z|_=>none) <| lk λz=>Kv z (lk (Kj M d b Y g X Q)) (lk (Q (.bl false) g)):=by
 rw[aj];delta JX;dsimp only;refine(wp_bind (by sleep 9) (by intro x g;cases x with|bl b=>cases b;exact mK _;exact mE _ _ _|_=>exact mK _)).trans (wp_congr λx g=>?_)
 cases x with
 |bl z=>cases z;exact af;exact Y7
 |_=>exact af
def e_or{b:E}:Kj M d (.or a b) Y g X Q↔Kj M d a Y g X λx g=>Ku (match x with|.bl z=>some z|_=>none) <| lk λz=>Kv z (lk (Q (.bl true) g)) (lk (Kj M d b Y g X Q)):=by
 rw[aj];delta JX;dsimp only;refine(wp_bind (by sleep 9) (by intro x g;cases x with|bl b=>cases b;exact mE _ _ _;exact mK _|_=>exact mK _)).trans (wp_congr λx g=>?_)
 cases x with
 |bl z=>cases z;exact Y7;exact af
 |_=>exact af
def adl:Kj M d (.not a) Y g X Q↔Kj M d a Y g X λx g=>Ku (JM x g) <| lk λc=>Q (.bl !c) g:=by
 rw[aj];delta JX;dsimp only;refine(wp_bind (by sleep 9) (by sleep 9)).trans (wp_congr λx g=>af.trans ?_)
 cases JM x g<;>exact Y7
def abU:Kj M d (.neg a) Y g X Q↔Kj M d a Y g X λx g=>Ku (match x with|.int i=>some i|_=>none) <| lk λi=>Q (.int (-i)) g:=by
 rw[aj];delta JX;dsimp only;refine(wp_bind (by sleep 9) (by sleep 9)).trans (wp_congr λx g=>af.trans ?_)
 cases x<;>exact Y7
def nD:Kj M d (.Z1 es) Y g X Q↔Av M d es Y g X λJ g=>Kv (Be J.length) (lk (Q (.Z1 J) g)) (lk False):=by
 rw[aj];delta JX;dsimp only;exact(wp_bind (by sleep 9) (by sleep 9)).trans (wp_congr λx g=>af.trans nI)
def acC:Kj M d (.S es) Y g X Q↔Av M d es Y g X λJ g=>Kv (Be J.length) (lk (Q (.ref g.length) (g++[.S J]))) (lk False):=by
 rw[aj];delta JX;dsimp only;exact(wp_bind (by sleep 9) (by sleep 9)).trans (wp_congr λx g=>af.trans nI)
def nN{b:E}:Kj M d (.idx a b) Y g X Q↔Kj M d a Y g X λx g=>Kj M d b Y g X λy g=>match y with|.Z1 J=>Ku ((Aq (.Z1 J) x g).bind id) <| lk λz=>Q z g|.str k=>Ku ((JH x g).bind λO=>A0 O k) <| lk λz=>Q z g|y=>Ku (match y with|.int i=>some i|_=>none) <| lk λi=>Ku (items x g) <| lk λxs=>Ku (JN xs i) <| lk λz=>Q z g:=by
 rw[aj];delta JX;dsimp only;refine(wp_bind (by sleep 9) (by sleep 9)).trans (wp_congr λx g=>(wp_bind (by sleep 9) (by sleep 9)).trans (wp_congr λy g=>af.trans ?_))
 cases y with
 |int i=>
  show holds (match items x g with|some xs=>lift (JN xs i) g|none=>.Z0) X Q↔Ku (items x g) (lk λxs=>Ku (JN xs i) (lk λz=>Q z g))
  cases items x g with
  |none=>exact Y7
  |some xs=>exact di
 |Z1 J=>exact di
 |str k=>exact di
 |_=>exact Y7
def abK{b c:Option E}:Kj M d (.WM a b c) Y g X Q↔Kj M d a Y g X λx g=>Kl M d b Y g X λl g=>Kl M d c Y g X λh g=>hk (Bz x l h g) X (lk Q):=by
 rw[aj];delta JX;dsimp only;refine(wp_bind (by sleep 9) (by sleep 9)).trans (wp_congr λ_ _=>?_);refine(wp_bind (by sleep 9) (by sleep 9)).trans (wp_congr λ_ _=>?_);refine(wp_bind (by sleep 9) (by sleep 9)).trans (wp_congr λ_ _=>?_);exact af
def abX:Kj M d (.rev a) Y g X Q↔Kj M d a Y g X λx g=>Ku (CV x g) <| lk λxs=>Q (.ref g.length) (g++[.S xs.reverse]):=by
 rw[aj];delta JX;dsimp only;refine(wp_bind (by sleep 9) (by sleep 9)).trans (wp_congr λx g=>af.trans ?_)
 cases x with
 |ref n=>
  dsimp only[CV];cases g[n]? with
  |none=>exact Y7
  |some o=>cases o<;>exact Y7
 |_=>exact Y7
def y2{f:Nat}:Kj M d (.call f es) Y g X Q↔Av M d es Y g nX λJ g=>Kz M d f J g X (lk Q):=by
 rw[aj];delta JX;dsimp only;simp![cR];exact aB (mEs _ _ _) λ_ _=>mC _ _ _
def e_bi{b:Bi}:Kj M d (.bi b es) Y g X Q↔Av M d es Y g X λJ g=>hk (JR b J g) X (lk Q):=by
 rw[aj];delta JX;dsimp only;exact(wp_bind (by sleep 9) (by sleep 9)).trans (wp_congr λx g=>af)
def ye:Kj M d .W4 Y g X Q↔Q (.ref g.length) (g++[.ZN []]):=by
 rw[aj];delta JX;dsimp only;exact af
def acu{t:Ty}:Kj M d (.YC a t) Y g X Q↔Kj M d a Y g X λx g=>Ku (AV t x g) <| lk λc=>Q (.bl c) g:=by
 rw[aj];delta JX;dsimp only;exact(wp_bind (by sleep 9) (by sleep 9)).trans (wp_congr λx g=>af.trans gC)
def mN{o:Option Nat}{f:Nat->Nat->Out α}(h:∀k,Az λn=>f n k):Az λn=>(match o with|some k=>f n k|none=>.Z0:Out α):=by
 cases o with
 |none=>exact mK _
 |some k=>exact h k
def abD{o:E}:Kj M d (.app o v) Y g X Q↔Kj M d o Y g X λx g=>Ku (JS x g) <| lk λk=>Kj M d v Y g X λy g=>hk (A5 k y g) X (lk Q):=by
 rw[aj];delta JX;dsimp only;refine(wp_bind (by sleep 9) (by intro x g;exact mN λk=>mB (mE _ _ _) λ_ _=>mK _)).trans (wp_congr λx g=>optN.trans (gq λk=>?_))
 refine(wp_bind (by sleep 9) (by sleep 9)).trans (wp_congr λ_ _=>?_);exact af
def ac1{o:E}:Kj M d (.ext o v) Y g X Q↔Kj M d o Y g X λx g=>Ku (JS x g) <| lk λk=>Kj M d v Y g X λy g=>hk (Bx k y g) X (lk Q):=by
 rw[aj];delta JX;dsimp only;refine(wp_bind (by sleep 9) (by intro x g;exact mN λk=>mB (mE _ _ _) λ_ _=>mK _)).trans (wp_congr λx g=>optN.trans (gq λk=>?_))
 refine(wp_bind (by sleep 9) (by sleep 9)).trans (wp_congr λ_ _=>?_);exact af
def adn{o:E}:Kj M d (.pop o) Y g X Q↔Kj M d o Y g X λx g=>Ku (JS x g) <| lk λk=>hk (Bw k g) X (lk Q):=by
 rw[aj];delta JX;dsimp only;exact(wp_bind (by sleep 9) (by intro x g;exact mN λk=>mK _)).trans (wp_congr λx g=>optN.trans (gq λk=>af))
def yL{own:Nat}{fr:List Nat}{t:Tg}{it:E}{k:E}:Kj M d (.Wr own fr ((t,it,cs)::ZV) k v) Y g X Q ↔
  Kn M d it Y g X λi g=>KA M d i 0 t cs ZV (.pair k v) [] (List.replicate own none++fr.map λj=>(Y[j]?).getD none) g (λ_ _ _=>False) (lk λJ g=>Ku (dfold J []) <| lk λO=>Q (.ref g.length) (g++[.ZN O])):=by
 rw[aj];delta JX;dsimp only;refine(wp_bind (by sleep 9) (by sleep 9)).trans (wp_congr λx g=>(aB (by sleep 9) (by sleep 9)).trans (wp_congr λJ g=>af.trans ?_))
 cases dfold J []<;>exact Y7
def aao{k:E}:Kj M d (.pair k v) Y g X Q↔Kj M d k Y g X λx g=>Kj M d v Y g X λy g=>Ku (keyOf x) <| lk λ_=>Q (.Z1 [x,y]) g:=by
 rw[aj];delta JX;dsimp only;refine(wp_bind (by sleep 9) (by sleep 9)).trans (wp_congr λx g=>(wp_bind (by sleep 9) (by sleep 9)).trans (wp_congr λy g=>af.trans ?_))
 cases keyOf x<;>exact Y7
def aaX{a:List PySem.Str}:Kj M d (.VN a es) Y g X Q↔Av M d es Y g X λJ g=>Q (.ref g.length) (g++[.dst (a.zip J)]):=by
 rw[aj];delta JX;dsimp only;exact(wp_bind (by sleep 9) (by sleep 9)).trans (wp_congr λx g=>af)
def aca{o k x:E}:Kj M d (.V_ o k x) Y g X Q↔Kj M d o Y g X λy g=>Ku (JI y g) <| lk λ_=>Kj M d k Y g X λz g=>Kj M d x Y g X λw g=>Ku (Aq z y g) <| lk λq=>Q (q.getD w) g:=by
 rw[aj];delta JX;dsimp only;refine(wp_bind (by sleep 9) (by intro x g;cases JI x g with|none=>exact mK _|some _=>exact mB (mE _ _ _) λ_ _=>mB (mE _ _ _) λ_ _=>mK _)).trans (wp_congr λy g=>?_)
 cases JI y g with
 |none=>exact af
 |some O=>
  refine(wp_bind (by sleep 9) (by sleep 9)).trans (wp_congr λz g=>(wp_bind (by sleep 9) (by sleep 9)).trans (wp_congr λw g=>af.trans ?_))
  cases Aq z y g<;>exact Y7
def xy{own:Nat}{fr:List Nat}{t:Tg}{it:E}:Kj M d (.comp own fr ((t,it,cs)::ZV) elt) Y g X Q ↔
  Kn M d it Y g X λi g=>KA M d i 0 t cs ZV elt [] (List.replicate own none++fr.map λj=>(Y[j]?).getD none) g (λ_ _ _=>False) (lk λJ g=>J.length<=Ac/\Q (.ref g.length) (g++[.S J])):=by
 rw[aj];delta JX;dsimp only;refine(wp_bind (by sleep 9) (by sleep 9)).trans (wp_congr λx g=>(aB (by sleep 9) (by sleep 9)).trans (wp_congr λJ g=>af.trans ?_))
 split
 .rename_i h;exact⟨λq=>⟨h,q⟩,λq=>q.2⟩
 .rename_i h;exact⟨λq=>q.elim,λq=>h q.1⟩
end
def aa1{Q:List U->G->Prop}:Av M d [] Y g X Q↔Q [] g:=by unfold Av;simp![JT,af];rfl
def lb{Q:List U->G->Prop}:Av M d (e::es) Y g X Q↔Kj M d e Y g X λu g=>Av M d es Y g X λJ g=>Q (u::J) g:=by
 unfold Av;simp![JT];refine(wp_bind (by sleep 9) (by sleep 9)).trans (wp_congr λ_ _=>?_);refine(wp_bind (by sleep 9) (by sleep 9)).trans (wp_congr λ_ _=>?_);exact af
def aam{Q:Option Int->G->Prop}:Kl M d none Y g X Q↔Q none g:=by unfold Kl;simp![JU,af];rfl
def z6{Q:Option Int->G->Prop}:Kl M d (some e) Y g X Q↔Kj M d e Y g X λu g=>∃i,u=.int i/\Q (some i) g:=by
 unfold Kl;simp![JU];refine(wp_bind (by sleep 9) (by sleep 9)).trans (wp_congr λx g=>af.trans ?_)
 cases x with
 |int a=>exact⟨λh=>⟨a,rfl,h⟩,λ⟨b,e,h⟩=>by cases e;exact h⟩
 |_=>exact⟨λh=>h.elim,λ⟨_,e,_⟩=>by cases e⟩
section
variable{Q:Bool->G->Prop}
def ac5{b:E}:Kk M d (.and a b) Y g X Q↔Kk M d a Y g X λk g=>if k then Kk M d b Y g X Q else Q false g:=by
 rw[eX];delta JY;dsimp only;refine(wp_bind (by sleep 9) (by intro k g;cases k;exact mK _;exact mT _ _ _)).trans (wp_congr λx g=>?_)
 cases x
 .exact af
 .exact Y7
theorem T_or{b:E}:Kk M d (.or a b) Y g X Q↔Kk M d a Y g X λk g=>if k then Q true g else Kk M d b Y g X Q:=by
 rw[eX];delta JY;dsimp only;refine(wp_bind (by sleep 9) (by intro k g;cases k;exact mT _ _ _;exact mK _)).trans (wp_congr λx g=>?_)
 cases x
 .exact Y7
 .exact af
def acj:Kk M d (.not a) Y g X Q↔Kk M d a Y g X λk g=>Q (!k) g:=by
 rw[eX];delta JY;dsimp only;refine(wp_bind (by sleep 9) (by sleep 9)).trans (wp_congr λ_ _=>?_);exact af
def plainT:E->Bool
 |.and _ _=>false|.or _ _=>false|.not _=>false|_=>true
theorem T_e(h:plainT e=true):Kk M d e Y g X Q↔Kj M d e Y g X λx g=>∃c,JM x g=some c/\Q c g:=by
 rw[eX];have:(λn=>JY (lv M d n) e Y g)=λn=>((lv M d n).ev e Y g).bind λx g=>lift (JM x g) g:=by
  funext n;cases e<;>first|rfl|cases h
 rw[this];refine(wp_bind (by sleep 9) (by sleep 9)).trans (wp_congr λ_ _=>?_);exact af.trans pQ
def nT:Km M d [] Y g X Q↔Q true g:=by unfold Km;simp![AH,af];rfl
def yf:Km M d (c::cs) Y g X Q↔Kk M d c Y g X λk g=>if k then Km M d cs Y g X Q else Q false g:=by
 unfold Km;simp![AH];refine(wp_bind (by sleep 9) (by intro k g;cases k;exact mK _;exact mA _ _ _)).trans (wp_congr λx g=>?_)
 cases x
 .exact af
 .exact Y7
end
section
variable{Q:Iter->G->Prop}
def aaL:Kn M d (.YV a) Y g X Q↔Kj M d a Y g X λu g=>∃j,u=.int j/\(-1000000<j/\j<1000000)/\Q (.YS 0 j.toNat) g:=by
 unfold Kn;delta JW;dsimp only;refine(wp_bind (by sleep 9) (by sleep 9)).trans (wp_congr λx g=>af.trans ?_)
 cases x with
 |int a=>
  simp![];split
  .rename_i h;exact⟨λq=>⟨a,rfl,h,q⟩,λ⟨b,e,_,q⟩=>by cases e;exact q⟩
  .rename_i h;exact⟨λq=>q.elim,λ⟨b,e,h',q⟩=>by cases e;exact h h'⟩
 |_=>exact⟨λh=>h.elim,λ⟨_,e,_⟩=>by cases e⟩
def acI:Kn M d (.YN a) Y g X Q↔Kj M d a Y g X λu g=>∃k,JS u g=some k/\Q (.YN k) g:=by
 unfold Kn;delta JW;dsimp only;refine(wp_bind (by sleep 9) (by sleep 9)).trans (wp_congr λx g=>af.trans ?_)
 cases JS x g with
 |none=>exact⟨λh=>h.elim,λ⟨_,e,_⟩=>(by cases e)⟩
 |some k=>exact⟨λq=>⟨k,rfl,q⟩,λ⟨_,e,q⟩=>(by cases e;exact q)⟩
def zB{b:E}:Kn M d (.Xw a b) Y g X Q↔Kj M d a Y g X λu g=>Kj M d b Y g X λw g=>∃i j,u=.int i/\w=.int j/\(-1000000<i/\i<1000000 /\ -1000000<j/\j<1000000)/\Q (.YS i (j-i).toNat) g:=by
 unfold Kn;delta JW;dsimp only;refine(wp_bind (by sleep 9) (by sleep 9)).trans (wp_congr λx g=>(wp_bind (by sleep 9) (by sleep 9)).trans (wp_congr λy g=>af.trans ?_))
 cases x with
 |int a=>
  cases y with
  |int b=>
   simp![];split
   .rename_i h;exact⟨λq=>⟨a,b,rfl,rfl,h,q⟩,λ⟨_,_,e,e',_,q⟩=>by cases e;cases e';exact q⟩
   .rename_i h;exact⟨λq=>q.elim,λ⟨_,_,e,e',h',q⟩=>by cases e;cases e';exact h h'⟩
  |_=>exact⟨λh=>h.elim,λ⟨_,_,_,e,_⟩=>by cases e⟩
 |_=>exact⟨λh=>h.elim,λ⟨_,_,e,_⟩=>by cases e⟩
theorem I_e(h:C4 e=true):Kn M d e Y g X Q ↔ Kj M d e Y g X λu g=>holds (match u with
  |.Z1 xs=>.ok (.seq xs) g
  |.xn _ xs=>.ok (.seq xs) g
  |.ref n=>match g[n]? with
   |some (.S _)=>.ok (.S n) g
   |some (.ZN O)=>.ok (.ZN n) (g.set n (.Zu O))
   |some (.Zu _)=>.ok (.ZN n) g
   |_=>.Z0
  |_=>.Z0) X Q:=by
 unfold Kn;have:(λn=>JW (lv M d n) e Y g)=λn=>((lv M d n).ev e Y g).bind λu g=>match u with
  |.Z1 xs=>.ok (.seq xs) g
  |.xn _ xs=>.ok (.seq xs) g
  |.ref n=>match g[n]? with
   |some (.S _)=>.ok (.S n) g
   |some (.ZN O)=>.ok (.ZN n) (g.set n (.Zu O))
   |some (.Zu _)=>.ok (.ZN n) g
   |_=>.Z0
  |_=>.Z0:=by
  funext n;cases e<;>first|rfl|cases h
 rw[this];refine(wp_bind (by sleep 9) (by sleep 9)).trans (wp_congr λ_ _=>?_);exact af
end
section
variable{Q:Fl->G->Prop}
def nZ:wpS M d [] Y g X Q↔Q (.nx Y) g:=by rw[mq];simp![J0,af];rfl
def xT{s:Z5}{a:List Z5}:wpS M d (s::a) Y g X Q↔Kq M d s Y g X λf g=>match f with|.nx ZX=>wpS M d a ZX g X Q|f=>Q f g:=by
 rw[mq];simp![J0];refine(wp_bind (by exact m1 _ _ _) (by intro f g;cases f;exact mS _ _ _;exact mK _;exact mK _;exact mK _)).trans (wp_congr λx g=>?_)
 cases x<;>first|exact Y7|exact af
def ach:Kq M d (.ret e) Y g X Q↔Kj M d e Y g X λu g=>Q (.rt u) g:=by
 unfold Kq;delta JZ;dsimp only;exact(wp_bind (by sleep 9) (by sleep 9)).trans (wp_congr λx g=>af)
def ado{t:Tg}:Kq M d (.set t e) Y g X Q↔Kj M d e Y g X λu g=>∃ZX,Ai t (JV t u g) Y=some ZX/\Q (.nx ZX) g:=by
 unfold Kq;delta JZ;dsimp only;refine(wp_bind (by sleep 9) (by sleep 9)).trans (wp_congr λx g=>af.trans ?_)
 cases Ai t (JV t x g) Y with
 |none=>exact⟨λh=>h.elim,λ⟨_,e,_⟩=>by cases e⟩
 |some a=>exact⟨λh=>⟨a,rfl,h⟩,λ⟨b,e,h⟩=>by cases e;exact h⟩
def ab2{b:E}:Kq M d (.par i j a b) Y g X Q↔Kj M d a Y g X λu g=>Kj M d b Y g X λw g=>(i<Y.length/\j<Y.length)/\Q (.nx ((Y.set i (some u)).set j (some w))) g:=by
 unfold Kq;delta JZ;dsimp only;refine(wp_bind (by sleep 9) (by sleep 9)).trans (wp_congr λx g=>(wp_bind (by sleep 9) (by sleep 9)).trans (wp_congr λy g=>af.trans ?_))
 split
 .rename_i h;exact⟨λq=>⟨h,q⟩,λq=>q.2⟩
 .rename_i h;exact⟨λq=>q.elim,λq=>h q.1⟩
def xY{c:List Nat}:Kq M d (.fset a j c e) Y g X Q↔Kj M d e Y g X λu g=>Kj M d a Y g X λx g=>∃g',Bu x j c u g=some g'/\Q (.nx Y) g':=by
 unfold Kq;delta JZ;dsimp only;refine(wp_bind (by sleep 9) (by sleep 9)).trans (wp_congr λu g=>(wp_bind (by sleep 9) (by sleep 9)).trans (wp_congr λx g=>af.trans ?_))
 cases Bu x j c u g with
 |none=>exact⟨λh=>h.elim,λ⟨_,e,_⟩=>by cases e⟩
 |some a=>exact⟨λh=>⟨a,rfl,h⟩,λ⟨b,e,h⟩=>by cases e;exact h⟩
def acv{o i:E}:Kq M d (.sub o i e) Y g X Q↔Kj M d e Y g X λu g=>Kj M d o Y g X λx g=>Kj M d i Y g X λy g=>holds (subAt x y u Y g) X Q:=by
 unfold Kq;delta JZ;dsimp only;refine(wp_bind (by sleep 9) (by sleep 9)).trans (wp_congr λ_ _=>?_);refine(wp_bind (by sleep 9) (by sleep 9)).trans (wp_congr λ_ _=>?_);refine(wp_bind (by sleep 9) (by sleep 9)).trans (wp_congr λ_ _=>?_);exact af
def abg:Kq M d (.exp e) Y g X Q↔Kj M d e Y g X λ_ g=>Q (.nx Y) g:=by
 unfold Kq;delta JZ;dsimp only;exact(wp_bind (by sleep 9) (by sleep 9)).trans (wp_congr λx g=>af)
def abz{a:List Z5}:Kq M d (.Zz c a b) Y g X Q↔Kk M d c Y g X λk g=>if k then wpS M d a Y g X Q else wpS M d b Y g X Q:=by
 unfold Kq;delta JZ;dsimp only;refine(wp_bind (by sleep 9) (by intro k g;cases k;exact mS _ _ _;exact mS _ _ _)).trans (wp_congr λx g=>?_)
 cases x<;>exact Y7
def abV{t:Tg}{it:E}:Kq M d (.for t it b) Y g X Q↔Kn M d it Y g X λi g=>Ks M d t i 0 b Y g X Q:=by
 unfold Kq;delta JZ;dsimp only;exact wp_bind (by sleep 9) (by sleep 9)
def aaG:Kr M d c b Y g X Q↔Kk M d c Y g X λk g=>if k then wpS M d b Y g X λf g=>(match f with
  |.nx ZX=>Kr M d c b ZX g X Q
  |.ct ZX=>Kr M d c b ZX g X Q
  |.bk ZX=>Q (.nx ZX) g
  |.rt u=>Q (.rt u) g)else Q (.nx Y) g:=by
 rw[xk];simp![J1];refine(wp_bind (mT _ _ _) λk g=>by cases k;exact mK _;refine mB (mS _ _ _) λf g=>?_;cases f;exact mW _ _ _ _;exact mK _;exact mK _;exact mW _ _ _ _).trans (wp_congr λx g=>?_)
 cases x
 .exact af
 .simp only [Ti]
  refine(wp_bind (by sleep 9) (by intro f g;cases f;exact mW _ _ _ _;exact mK _;exact mK _;exact mW _ _ _ _)).trans (wp_congr λf g=>?_)
  cases f<;>first|exact Y7|exact af
def nz{t:Tg}:Ks M d t it i b Y g X Q ↔ ∃o,next it i g=some o/\match o with
  |none=>Q (.nx Y) g
  |some u=>∃a,Ai t u Y=some a/\wpS M d b a g X λf g=>match f with
   |.nx ZX=>Ks M d t it (i+1) b ZX g X Q
   |.ct ZX=>Ks M d t it (i+1) b ZX g X Q
   |.bk ZX=>Q (.nx ZX) g
   |.rt u=>Q (.rt u) g:=by
 rw[xC];simp![J3];cases next it i g with
 |none=>simp![af];exact⟨λh=>h.elim,λ⟨_,e,_⟩=>by cases e⟩
 |some o=>
  cases o with
  |none=>simp![af];exact⟨λh=>⟨none,rfl,h⟩,λ⟨o,e,h⟩=>by cases e;exact h⟩
  |some u=>
   simp![];cases c:Ai t u Y with
   |none=>simp![af];exact⟨λh=>h.elim,λ⟨_,e,h⟩=>by cases e;let⟨_,e,_⟩:=h;rw[c]at e;cases e⟩
   |some a=>
    simp![];refine(wp_bind (by sleep 9) (by intro f g;cases f;exact mF _ _ _ _ _ _;exact mK _;exact mK _;exact mF _ _ _ _ _ _)).trans ?_
    refine Iff.trans (wp_congr (Q':=λf g=>match f with
       |.nx ZX=>Ks M d t it (i+1) b ZX g X Q
       |.ct ZX=>Ks M d t it (i+1) b ZX g X Q
       |.bk ZX=>Q (.nx ZX) g
       |.rt u=>Q (.rt u) g) λf g=>?_) ?_
    .cases f<;>first|exact Y7|exact af
    exact⟨λh=>⟨some u,rfl,a,c,h⟩,λ⟨o,e,h⟩=>by cases e;let⟨j,e,h⟩:=h;rw[c]at e;cases e;exact h⟩
end
def bC{t:Tg}{Q:List U->G->Prop}:Kt M d it i t cs ZV elt ZW Y g X Q ↔ ∃o,next it i g=some o/\match o with
  |none=>Q ZW g
  |some u=>AO t Y=true /\∃a,Ai t u Y=some a/\Km M d cs a g (λ_ _ _=>False) λk g=>if k then
    match ZV with
    |[]=>Kj M d elt a g (λ_ _ _=>False) λv g=>ZW.length<Ac/\Kt M d it (i+1) t cs ZV elt (ZW++[v]) Y g X Q
    |(t2,YF,Yk)::WV=>Kn M d YF a g (λ_ _ _=>False) λj g=>Kt M d j 0 t2 Yk WV elt ZW a g (λ_ _ _=>False) λw g=>Kt M d it (i+1) t cs ZV elt w Y g X Q
   else Kt M d it (i+1) t cs ZV elt ZW Y g X Q:=by
 rw[aac];simp![J6];cases next it i g with
 |none=>simp![af];exact⟨λh=>h.elim,λ⟨_,e,_⟩=>by cases e⟩
 |some o=>
  cases o with
  |none=>simp![af];exact⟨λh=>⟨none,rfl,h⟩,λ⟨o,e,h⟩=>by cases e;exact h⟩
  |some u=>
   simp![];by_cases r:AO t Y=true
   .simp only [r,Ti]
    cases f:Ai t u Y with
    |none=>simp![af];exact⟨λh=>h.elim,λ⟨_,e,h⟩=>by cases e;let⟨_,_,e,_⟩:=h;rw[f]at e;cases e⟩
    |some a=>
     simp![];refine Iff.trans ?_ ⟨λh=>⟨some u,rfl,trivial,a,f,h⟩,λ⟨o,e,h⟩=>by cases e;let⟨_,y,e,h⟩:=h;rw[f]at e;cases e;exact h⟩
     cases ZV with
     |nil=>
      refine(aB (by sleep 9) (by intro k g;cases k;exact mM _ _ _ _ _ _ _ _ _;refine mBB (mE _ _ _) λv g=>?_;by_cases h:ZW.length<Ac;simp![h,Ti];exact mM _ _ _ _ _ _ _ _ _;simp![h,U3];exact mK _)).trans (wp_congr λk g=>?_)
      cases k
      .exact Y7
      .refine Iff.trans (aB (by sleep 9) (by intro v g;by_cases h:ZW.length<Ac;simp![h,Ti];exact mM _ _ _ _ _ _ _ _ _;simp![h,U3];exact mK _)) (wp_congr λv g=>?_)
       by_cases h:ZW.length<Ac
       .simp only [h,Ti];exact⟨λq=>⟨trivial,q⟩,λq=>q.2⟩
       .simp only [h,U3];exact⟨λ⟨_,q⟩=>q.elim,λq=>q.1.elim⟩
     |cons t2 WV=>
      let⟨t2,YF,Yk⟩:=t2;refine(aB (by sleep 9) (by intro k g;cases k;exact mM _ _ _ _ _ _ _ _ _;exact mBB (mI _ _ _) λ_ _=>mBB (mM _ _ _ _ _ _ _ _ _) λ_ _=>mM _ _ _ _ _ _ _ _ _)).trans (wp_congr λk g=>?_)
      cases k
      .exact Y7
      .refine Iff.trans (aB (by sleep 9) (by sleep 9)) (wp_congr λj g=>?_)
       exact aB (by sleep 9) (by sleep 9)
   .have c:AO t Y=false:=by cases h:AO t Y;rfl;exact absurd h r
    simp![c];exact⟨λ⟨_,h⟩=>h.elim,λ⟨_,e,h⟩=>by cases e;exact absurd h.1 #[3]⟩
def aaW{f:Nat}{F:Fn}(b:M[f]?=some F)(a:J.length=F.np):Ki M (d+1) f J g X Q↔wpS M d F.body (J.map some++List.replicate (F.ns-J.length) none) g X λc g=>match c with
  |.rt u=>Q u g
  |.nx _=>Q .ZR g
  |_=>False:=by
 unfold Ki;simp![Aa,b,BA,a,Ti];refine(wp_bind (f:=λn=>(lv M d n).ex F.body (J.map some++List.replicate (F.ns-F.np) none) g) (mS _ _ _) (by sleep 9)).trans (wp_congr λx g=>af.trans ?_)
 cases x<;>exact Y7
def vI{f:Nat}(h:Ki M d f J g (λ_ _ _=>False) Q):∃fu u g',Aa M fu d f J g=.ok u g'/\Q u g':=by
 let⟨n,h⟩:=h;have h:holds (Aa M n d f J g) (λ_ _ _=>False) Q:=h;revert h;cases e:Aa M n d f J g with
 |ok u g'=>exactλh=>⟨n,u,g',e,h⟩
 |_=>exactλh=>h.elim
end
section
variable{M:List Fn}{X:XP}{ZX:Su}
def xZ{Q:Fl->G->Prop}:Kq M d (.V9 c b) Y g X Q↔KD M d c b Y g X (lk Q):=Y7
def zh{t:Tg}{it:E}{Q:Fl->G->Prop}:Kq M d (.for t it b) Y g X Q↔Kn M d it Y g X λi g=>KC M d t i 0 b Y g X (lk Q):=abV
def yn{Q:Option Int->G->Prop}:Kl M d (some e) Y g X Q↔Kj M d e Y g X λu g=>Ku (match u with|.int i=>some i|_=>none) <| lk λi=>Q (some i) g:=z6.trans (wp_congr λx g=>by
 cases x with
 |int z=>exact⟨λ⟨_,e,h⟩=>(by cases e;exact h),λh=>⟨z,rfl,h⟩⟩
 |_=>exact⟨λ⟨_,e,h⟩=>(by cases e),λh=>h.elim⟩)
section
def vR{b:List Nat}{Q:Fl->G->Prop}:Kq M d (.fset a j b e) Y g X Q↔Kj M d e Y g X λu g=>Kj M d a Y g X λx g=>Ku (Bu x j b u g) <| lk λg'=>Q (.nx Y) g':=by simp![xY,aY]
end
section
variable{Q:Bool->G->Prop}
def abG{b:E}:Kk M d (.and a b) Y g X Q↔Kk M d a Y g X λk g=>Kv k (lk (Kk M d b Y g X Q)) (lk (Q false g)):=ac5.trans (wp_congr λk g=>bR)
def t_or{b:E}:Kk M d (.or a b) Y g X Q↔Kk M d a Y g X λk g=>Kv k (lk (Q true g)) (lk (Kk M d b Y g X Q)):=T_or.trans (wp_congr λk g=>bR)
def t_e(h:plainT e=true):Kk M d e Y g X Q↔Kj M d e Y g X λx g=>Ku (JM x g) <| lk λc=>Q c g:=(T_e h).trans (wp_congr λx g=>aY)
def xi:Km M d (c::cs) Y g X Q↔Kk M d c Y g X λk g=>Kv k (lk (Km M d cs Y g X Q)) (lk (Q false g)):=yf.trans (wp_congr λk g=>bR)
end
section
variable{Q:Iter->G->Prop}
def Ah(j:Int):Bool:=@decide (-1000000<j/\j<1000000) (Classical.propDecidable _)
def ak{j:Int}(h : -1000000<j)(h':j<1000000):Ah j=true:=by unfold Ah;exact @decide_eq_true _ (Classical.propDecidable _) ⟨h,h'⟩
def xI:Kn M d (.YV a) Y g X Q↔Kj M d a Y g X λu g=>Ku (match u with|.int i=>some i|_=>none) <| lk λj=>Kv (Ah j) (lk (Q (.YS 0 j.toNat) g)) (lk False):=aaL.trans (wp_congr λu g=>by
 cases u with
 |int i=>
  show _↔Kv (Ah i) (lk _) (lk _);by_cases h : -1000000<i/\i<1000000
  .rw [show Ah i=true by unfold Ah;exact @decide_eq_true _ (Classical.propDecidable _) h]
   exact⟨λ⟨_,e,_,q⟩=>(by cases e;exact q),λq=>⟨i,rfl,h,q⟩⟩
  .rw [show Ah i=false by unfold Ah;exact @decide_eq_false _ (Classical.propDecidable _) h]
   exact⟨λ⟨_,e,q,_⟩=>(by cases e;exact h q),λq=>q.elim⟩
 |_=>exact⟨λ⟨_,e,h⟩=>(by cases e),λh=>h.elim⟩)
def xJ{b:E}:Kn M d (.Xw a b) Y g X Q↔Kj M d a Y g X λu g=>Kj M d b Y g X λw g=>Ku (match u with|.int i=>some i|_=>none) <| lk λi=>Ku (match w with|.int i=>some i|_=>none) <| lk λj=>Kv (Ah i&&Ah j) (lk (Q (.YS i (j-i).toNat) g)) (lk False):=zB.trans (wp_congr λu g=>wp_congr λw g=>by
 cases u with
 |int i=>
  cases w with
  |int j=>
   show _↔Kv (Ah i&&Ah j) (lk _) (lk _);by_cases h:(Ah i&&Ah j)=true
   .rw [h]
    have h':=h;simp![Ah,ZC,Xn]at h';exact⟨λ⟨_,_,e,e',_,q⟩=>(by cases e;cases e';exact q),λq=>⟨i,j,rfl,rfl,⟨h'.1.1,h'.1.2,h'.2.1,h'.2.2⟩,q⟩⟩
   .rw [Qk]at h
    rw[h];exact⟨λ⟨_,_,e,e',q,_⟩=>by cases e;cases e';simp[Ah,q]at h,λq=>q.elim⟩
  |_=>exact⟨λ⟨_,_,e,e',h⟩=>(by cases e'),λh=>h.elim⟩
 |_=>exact⟨λ⟨_,_,e,h⟩=>(by cases e),λh=>h.elim⟩)
def CP(u:U)(g:G):Option (Iter×G):=match u with
 |.Z1 xs=>some (.seq xs,g)
 |.xn _ xs=>some (.seq xs,g)
 |.ref n=>match g[n]? with
  |some (.S _)=>some (.S n,g)
  |some (.ZN O)=>some (.ZN n,g.set n (.Zu O))
  |some (.Zu _)=>some (.ZN n,g)
  |_=>none
 |_=>none
def i_e(h:C4 e=true):Kn M d e Y g X Q↔Kj M d e Y g X λu g=>Ku (CP u g) <| lk λp=>Q p.1 p.2:=(I_e h).trans (wp_congr λu g=>by
 cases u with
 |ref n=>
  simp![CP];cases g[n]? with
  |none=>exact Y7
  |some o=>cases o<;>exact Y7
 |_=>exact Y7)
def acR:Kn M d (.YN a) Y g X Q↔Kj M d a Y g X λu g=>Ku (JS u g) <| lk λk=>Q (.YN k) g:=by simp![acI,aY]
end
section
variable{Q:Fl->G->Prop}
def hG{s:Z5}{a:List Z5}:wpS M d (s::a) Y g X Q↔Kq M d s Y g X λf g=>Kw f (lk (λZX=>wpS M d a ZX g X Q)) (lk λf=>Q f g):=xT.trans (wp_congr λf g=>by cases f<;>exact Y7)
def yA{t:Tg}:Kq M d (.set t e) Y g X Q↔Kj M d e Y g X λu g=>Ku (Ai t (JV t u g) Y) <| lk λZX=>Q (.nx ZX) g:=ado.trans (wp_congr λx g=>aY)
def w4{b:E}:Kq M d (.par i j a b) Y g X Q↔Kj M d a Y g X λu g=>Kj M d b Y g X λw g=>Kv (decide (i<Y.length)&&decide (j<Y.length)) (lk (Q (.nx ((Y.set i (some u)).set j (some w))) g)) (lk False):=ab2.trans (wp_congr λx g=>wp_congr λy g=>by
 by_cases h:i<Y.length<;>by_cases k:j<Y.length<;>simp[h,k,Kv])
def aag{o i:E}:Kq M d (.sub o i e) Y g X Q↔Kj M d e Y g X λu g=>Kj M d o Y g X λx g=>Kj M d i Y g X λy g=>hk (subAt x y u Y g) X (lk Q):=acv
def wR{a:List Z5}:Kq M d (.Zz c a b) Y g X Q↔Kk M d c Y g X λk g=>Kv k (lk (wpS M d a Y g X Q)) (lk (wpS M d b Y g X Q)):=abz.trans (wp_congr λk g=>bR)
def aaV:Kr M d c b Y g X Q↔Kk M d c Y g X λk g=>Kv k (lk (wpS M d b Y g X λf g=>Kx f (lk (λZX=>Kr M d c b ZX g X Q)) (lk λf=>Q f g))) (lk (Q (.nx Y) g)):=aaG.trans (wp_congr λk g=>bR.trans (by
 cases k
 .exact Y7
 .exact wp_congr λf g=>by cases f<;>exact Y7))
def mh{f:Nat}{F:Fn}{Q:U->G->Prop}(b:M[f]?=some F)(a:J.length=F.np):Ki M (d+1) f J g X Q↔wpS M d F.body (J.map some++List.replicate (F.ns-J.length) none) g X λc g=>Ky c <| lk λu=>Q u g:=(aaW b a).trans (wp_congr λf g=>by cases f<;>exact Y7)
def cI{t:Tg}{it:Iter}{b:List Z5}(J:List U)(a:Nat->Su->G->Prop)
  (c:∀k Y g,a k Y g->next it k g=some J[k]?)
  (j:∀k u Y g,J[k]?=some u->a k Y g->Ku (Ai t u Y) (lk λm=>wpS M d b m g X λf g=>Kx f (lk (λZX=>a (k+1) ZX g)) (lk λf=>Q f g)))
  (l:∀Y g,a J.length Y g->Q (.nx Y) g):∀(n i:Nat) (Y:Su) (g:G),i+n=J.length->a i Y g->Ks M d t it i b Y g X Q
 |0,i,Y,g,e,h=>by
  have e:i=J.length:=by lia
  subst e;rw[nz];exact⟨none,by rw[c _ _ _ h];simp,l _ _ h⟩
 |n+1,i,Y,g,e,h=>by
  have hi:i<J.length:=by lia
  rw[nz];let⟨m,o,w⟩:=aY.2 (j i J[i] Y g (Vj hi) h);refine⟨some J[i],by rw[c _ _ _ h,Vj hi],m,o,wp_mono w λf g q=>?_⟩
  cases f with
  |nx ZX=>exact cI J a c j l n (i+1) ZX g (by lia) q
  |ct ZX=>exact cI J a c j l n (i+1) ZX g () q
  |_=>exact q
def fg(e:Nat->Su->G->Prop)
  (i:∀n Y g,e n Y g->Kk M d c Y g X λk g=>Kv k (lk (wpS M d b Y g X λf g=>Kx f (lk (λZX=>∃m,m<n/\e m ZX g)) (lk λf=>Q f g))) (lk (Q (.nx Y) g))):∀(n:Nat) (Y:Su) (g:G),e n Y g->Kr M d c b Y g X Q:=by
 intro n
 induction n using Nat.strongRecOn with
 |_ n ih=>
  intro Y g h;rw[aaV];refine wp_mono (i n Y g h) λk g q=>?_;cases k
  .exact q
  .refine wp_mono q λf g q=>?_
   cases f with
   |bk ZX=>exact q
   |rt u=>exact q
   |_=>let⟨m,a,q⟩:=q;exact ih m a _ _ q
end
def KG{b:Type}(o:Option b){A:Prop}{Q:b->Prop}(_:Lk A)(_:Lk Q):Prop:=match o with
 |none=>A
 |some a=>Q a
def oc_n{Q:α->Prop}:KG none (lk A) (lk Q)=A:=propext Y7
def oc_s{a:α}{Q:α->Prop}:KG (some a) (lk A) (lk Q)=Q a:=propext Y7
end
variable{X:XP}{f:E->Su->Option U}{b it o:E}{x:U}{y:Option U}{i:Int}{lo hi:Option E}{gs:List (Tg×E×List E)}{z:Bool}
def AY(f:E->Su->Option U):List E->Su->Option (List U)
 |[],_=>some []
 |e::es,Y=>match f e Y with
  |some u=>match AY f es Y with
   |some J=>some (u::J)
   |none=>none
  |none=>none
def BG(x y:Option U):Option U:=match x with
 |some (.int i)=>match y with
  |some (.int j)=>some (.int (i+j))
  |_=>none
 |_=>none
def BP(x y:Option U):Option U:=match x with
 |some (.int i)=>match y with
  |some (.int j)=>some (.int (i-j))
  |_=>none
 |_=>none
def tupP(x:Option (List U)):Option U:=match x with
 |some J=>match Nat.ble J.length 1000 with
  |true=>some (.Z1 J)
  |false=>none
 |none=>none
def KH(x:Option U)(k:Int):Option U:=match x with
 |some (.Z1 xs)=>JN xs k
 |_=>none
def Dy(o:Option (Option U)):Option U:=match o with
 |some o=>o
 |none=>none
def KI:Nat->E->Su->Option U
 |0,_,_=>none
 |n+1,e,Y=>match e with
  |.L i=>Dy Y[i]?
  |.Z3 u=>some u
  |.Z1 es=>tupP (AY (KI n) es Y)
  |.ZZ .add a b=>BG (KI n a Y) (KI n b Y)
  |.ZZ .sub a b=>BP (KI n a Y) (KI n b Y)
  |.idx a (.Z3 (.int k))=>KH (KI n a Y) k
  |_=>none
section
variable{M:List Fn}
def pEs{f:E->Su->Option U}(a:∀e u (Q:U->G->Prop),f e Y=some u->(Kj M d e Y g X Q↔Q u g)):∀(es:List E) (J:List U) (Q:List U->G->Prop),AY f es Y=some J->(Av M d es Y g X Q↔Q J g)
 |[],J,Q,h=>by cases h;exact aa1
 |e::es,J,Q,h=>by
  cases he:f e Y with
  |none=>simp![AY,he]at h;cases h
  |some u=>
   cases hs:AY f es Y with
   |none=>simp![AY,he,hs]at h;cases h
   |some b=>
    simp![AY,he,hs]at h;cases h;exact lb.trans ((a e u _ he).trans (pEs a es b _ hs))
def nL{f:Option U->Option U->Option U}{x:Option U}{u:U}{Q:U->G->Prop}(h:∀u (Q:U->G->Prop),x=some u->(Kj M d a Y g X Q↔Q u g))(e:∀u (Q:U->G->Prop),y=some u->(Kj M d b Y g X Q↔Q u g))(c:f x y=some u)(k:∀u,f x y=some u ->∃i j,x=some (.int i)/\y=some (.int j)/\JE op (.int i) (.int j)=some u):Kj M d (.ZZ op a b) Y g X Q↔Q u g:=by
 let⟨i,j,n,m,l⟩:=k u c;refine nR.trans ((h _ _ n).trans ((e _ _ m).trans ?_));rw[ob_i,l,gH]
def pE:∀(n:Nat) (e:E) (u:U) (Q:U->G->Prop),KI n e Y=some u->(Kj M d e Y g X Q↔Q u g)
 |0,_,_,_,h=>by cases h
 |n+1,e,u,Q,h=>by
  have ih:=pE n;cases e with
  |L i=>
   have h:Dy Y[i]?=some u:=h;refine abm.trans ?_;cases hs:Y[i]? with
   |none=>rw[hs]at h;cases h
   |some o=>rw[hs]at h;have h:o=some u:=h;subst h;exact Y7
  |Z3 v=>cases(show some v=some u from h);exact nY
  |Z1 es=>
   have h:tupP (AY (KI n) es Y)=some u:=h;cases hs:AY (KI n) es Y with
   |none=>rw[hs]at h;cases h
   |some J=>
    rw[hs]at h;simp![tupP]at h;cases c:Nat.ble J.length 1000 with
    |true=>
     rw[c]at h;cases h;refine nD.trans ((pEs (λe u Q h=>ih e u Q h) es J _ hs).trans ?_);rw[j4 (by have:=Nat.le_of_ble_eq_true c;lia),bh_t]
    |false=>rw[c]at h;cases h
  |ZZ op a b=>
   cases op with
   |add=>
    have h:BG (KI n a Y) (KI n b Y)=some u:=h;refine nL (f:=BG) (λu Q h=>ih a u Q h) (λu Q h=>ih b u Q h) h λu h=>?_;unfold BG at h;split at h
    .split at h
     .cases h;exact⟨_,_,‹_›,‹_›,rfl⟩
     .cases h
    .cases h
   |sub=>
    have h:BP (KI n a Y) (KI n b Y)=some u:=h;refine nL (f:=BP) (λu Q h=>ih a u Q h) (λu Q h=>ih b u Q h) h λu h=>?_;unfold BP at h;split at h
    .split at h
     .cases h;exact⟨_,_,‹_›,‹_›,rfl⟩
     .cases h
    .cases h
   |_=>exact nomatch (show none=some u from h)
  |idx a b=>
   cases b with
   |Z3 v=>
    cases v with
    |int k=>
     have h:KH (KI n a Y) k=some u:=h;cases j:KI n a Y with
     |none=>rw[j]at h;cases h
     |some x=>
      rw[j]at h;refine nN.trans ((ih a x _ j).trans (nY.trans ?_));cases x with
      |Z1 xs=>
       have h:JN xs k=some u:=h;show Ku (JN xs k) (lk _)↔_;rw[h,gH]
      |_=>cases h
    |_=>exact nomatch (show none=some u from h)
   |_=>exact nomatch (show none=some u from h)
  |_=>exact nomatch (show none=some u from h)
def KJ(M:List Fn)(d:Nat)(e:E)(Y:Su)(g:G)(X:XP)(Q:U->G->Prop):Prop:=Kj M d e Y g X Q
def KL(M:List Fn)(d:Nat)(a:List E)(Y:Su)(g:G)(X:XP)(Q:List U->G->Prop):Prop:=Av M d a Y g X Q
def p_E:Kj M d e Y g X Q=KG (KI 8 e Y) (lk (KJ M d e Y g X Q)) (lk λu=>Q u g):=propext (by
 cases h:KI 8 e Y with
 |none=>exact Y7
 |some u=>exact pE 8 e u Q h)
def p_Es{Q:List U->G->Prop}:Av M d es Y g X Q=KG (AY (KI 8) es Y) (lk (KL M d es Y g X Q)) (lk λJ=>Q J g):=propext (by
 cases h:AY (KI 8) es Y with
 |none=>exact Y7
 |some J=>exact pEs (λe u Q h=>pE 8 e u Q h) es J Q h)
def uC{own:Nat}{fr:List Nat}{t:Tg}{k:E}:KJ M d (.Wr own fr ((t,it,cs)::ZV) k v) Y g X Q↔Kn M d it Y g X λi g=>KA M d i 0 t cs ZV (.pair k v) [] (List.replicate own none++fr.map λj=>(Y[j]?).getD none) g (λ_ _ _=>False) (lk λJ g=>Ku (dfold J []) <| lk λO=>Q (.ref g.length) (g++[.ZN O])):=yL
def vN{k:E}:KJ M d (.pair k v) Y g X Q↔Kj M d k Y g X λx g=>Kj M d v Y g X λy g=>Ku (keyOf x) <| lk λ_=>Q (.Z1 [x,y]) g:=aao
def xr{k x:E}:KJ M d (.V_ o k x) Y g X Q↔Kj M d o Y g X λy g=>Ku (JI y g) <| lk λ_=>Kj M d k Y g X λz g=>Kj M d x Y g X λw g=>Ku (Aq z y g) <| lk λq=>Q (q.getD w) g:=aca
def ue{own:Nat}{fr:List Nat}{t:Tg}:KJ M d (.comp own fr ((t,it,cs)::ZV) elt) Y g X Q↔Kn M d it Y g X λi g=>KA M d i 0 t cs ZV elt [] (List.replicate own none++fr.map λj=>(Y[j]?).getD none) g (λ_ _ _=>False) (lk λJ g=>J.length<=Ac/\Q (.ref g.length) (g++[.S J])):=xy
def wq{a:List PySem.Str}:KJ M d (.VN a es) Y g X Q↔Av M d es Y g X λJ g=>Q (.ref g.length) (g++[.dst (a.zip J)]):=aaX
def vH:KJ M d .W4 Y g X Q↔Q (.ref g.length) (g++[.ZN []]):=ye
end
section
def acd:AY f [] Y=some []:=rfl
def zF:AY f (e::es) Y=match f e Y with
  |some u=>match AY f es Y with
   |some J=>some (u::J)
   |none=>none
  |none=>none:=rfl
def ab6{i:Nat}:KI (n+1) (.L i) Y=Dy Y[i]?:=rfl
def acf:KI (n+1) (.Z3 u) Y=some u:=rfl
def aa8:KI (n+1) (.Z1 es) Y=tupP (AY (KI n) es Y):=rfl
def aba:KI (n+1) (.ZZ .add a b) Y=BG (KI n a Y) (KI n b Y):=rfl
def abt:KI (n+1) (.ZZ .sub a b) Y=BP (KI n a Y) (KI n b Y):=rfl
def adg{k:Int}:KI (n+1) (.idx a (.Z3 (.int k))) Y=KH (KI n a Y) k:=rfl
def xW{o:Option U}:Dy (some o)=o:=rfl
def aaY{a:U}:tupP (some [a])=some (.Z1 [a]):=rfl
def yo{a b:U}:tupP (some [a,b])=some (.Z1 [a,b]):=rfl
def yP{a b c:U}:tupP (some [a,b,c])=some (.Z1 [a,b,c]):=rfl
def xQ{a b c d:U}:tupP (some [a,b,c,d])=some (.Z1 [a,b,c,d]):=rfl
def yb{a b c d e:U}:tupP (some [a,b,c,d,e])=some (.Z1 [a,b,c,d,e]):=rfl
def x9{a b c d e f:U}:tupP (some [a,b,c,d,e,f])=some (.Z1 [a,b,c,d,e,f]):=rfl
def zt{a b c d e f g:U}:tupP (some [a,b,c,d,e,f,g])=some (.Z1 [a,b,c,d,e,f,g]):=rfl
def yv{a b c d e f g h:U}:tupP (some [a,b,c,d,e,f,g,h])=some (.Z1 [a,b,c,d,e,f,g,h]):=rfl
def wN:tupP none=none:=rfl
def x3{j:Int}:BG (some (.int i)) (some (.int j))=some (.int (i+j)):=rfl
def wU{j:Int}:BP (some (.int i)) (some (.int j))=some (.int (i-j)):=rfl
def yY:BG none y=none:=rfl
def zD:BP none y=none:=rfl
def wW:BG (some (.int i)) none=none:=rfl
def zc:BP (some (.int i)) none=none:=rfl
def xa{i:Nat}:BG (some (.ref i)) y=none:=rfl
def acF{k:Int}:KH (some (.Z1 xs)) k=JN xs k:=rfl
def abp{k:Int}:KH (some (.ref n)) k=none:=rfl
def abP{k:Int}:KH (some (.Zs xs)) k=none:=rfl
def abC{c:Nat}{k:Int}:KH (some (.xn c xs)) k=none:=rfl
def acE{k:Int}:KH none k=none:=rfl
def ac7:KI (n+1) (.ZZ .mul a b) Y=none:=rfl
def yJ:KI (n+1) (.ZZ .fdiv a b) Y=none:=rfl
def acL:KI (n+1) (.ZZ .mod a b) Y=none:=rfl
def acZ:KI (n+1) (.ZZ .pow a b) Y=none:=rfl
def adh{o:Cp}:KI (n+1) (.cmp o a b) Y=none:=rfl
def tN{o q:Cp}:KI (n+1) (.chain o q a b c) Y=none:=rfl
def acA:KI (n+1) (.and a b) Y=none:=rfl
def q_or:KI (n+1) (.or a b) Y=none:=rfl
def ab9:KI (n+1) (.not a) Y=none:=rfl
def abT:KI (n+1) (.neg a) Y=none:=rfl
def abl:KI (n+1) (.S es) Y=none:=rfl
def acB:KI (n+1) (.WM a lo hi) Y=none:=rfl
def abu:KI (n+1) (.rev a) Y=none:=rfl
def aas{f:Nat}:KI (n+1) (.call f es) Y=none:=rfl
def abf{b:List Nat}:KI (n+1) (.fld a j b) Y=none:=rfl
def zm{c f:Nat}{a:List E}:KI (n+1) (.make c f es a pm) Y=none:=rfl
def w8{b:List E}:KI (n+1) (.YT a j tb es b) Y=none:=rfl
def q_bi{b:Bi}:KI (n+1) (.bi b es) Y=none:=rfl
def acG{t:Ty}:KI (n+1) (.YC a t) Y=none:=rfl
def abv:KI (n+1) (.app o v) Y=none:=rfl
def acq:KI (n+1) (.ext o v) Y=none:=rfl
def abB:KI (n+1) (.pop o) Y=none:=rfl
def xK  : KI (n+1) .W4 Y=none:=rfl
def zj{fr:List Nat}:KI (n+1) (.comp m fr gs e) Y=none:=rfl
def zC{a:List PySem.Str}:KI (n+1) (.VN a es) Y=none:=rfl
def acU{k x:E}:KI (n+1) (.V_ o k x) Y=none:=rfl
def y3{k:E}:KI (n+1) (.pair k v) Y=none:=rfl
def aay{fr:List Nat}{k:E}:KI (n+1) (.Wr m fr gs k v) Y=none:=rfl
def acz{i:Nat}:KI (n+1) (.idx a (.L i)) Y=none:=rfl
def ack{f:Nat}:KI (n+1) (.idx a (.call f es)) Y=none:=rfl
def abR:KI (n+1) (.idx a (.Z1 es)) Y=none:=rfl
def ac9{o:Op}:KI (n+1) (.idx a (.ZZ o b c)) Y=none:=rfl
def aci{s:PySem.Str}:KI (n+1) (.idx a (.Z3 (.str s))) Y=none:=rfl
def abO:KI (n+1) (.idx a (.idx b c)) Y=none:=rfl
def abx:KI (n+1) (.idx a (.neg b)) Y=none:=rfl
end
section
variable{M:List Fn}{QF:Fl->G->Prop}{QB:Bool->G->Prop}{QI:Iter->G->Prop}{QL:List U->G->Prop}{QO:Option Int->G->Prop}{cp:Cp}{cq:Cp}{i:Nat}{k:Nat}{f:Nat}{cc:Nat}{cs:List Nat}{ks:List E}{p:Nat×List (Nat ⊕ U)}{y:U}{w:U}{ws:List U}{l:Option Int}{h:Option Int}{t:Tg}{ty:Ty}{n:Int}{s:Z5}{ss:List Z5}{A:List Z5}{B:List Z5}{ao:Op}{st:Su}{bb:Bi}{YF:Iter}{pq:Iter×G}{g2:G}{nn:Nat}{ces:List E}{os:Option U}
def KV{b:Type}(g:G)(Q:b->G->Prop)(a:b):Prop:=Q a g
theorem KV_a{Q:α->G->Prop}{a:α}:KV g Q a=Q a g:=propext Y7
def k_E  : Kj M d e Y g X Q=KG (KI 8 e Y) (lk (KJ M d e Y g X Q)) (lk (KV g Q)):=p_E
def k_Es  : Av M d es Y g X QL=KG (AY (KI 8) es Y) (lk (KL M d es Y g X QL)) (lk (KV g QL)):=p_Es
def KB(g:G)(Q:U->G->Prop)(z:Bool):Prop:=Q (.bl z) g
theorem KB_a  : KB g Q z=(Q (.bl z) g):=propext Y7
def Kl2(u:U)(a:List U->G->Prop)(J:List U)(g:G):Prop:=a (u::J) g
def acO  : Kl2 u QL J g=(QL (u::J) g):=propext Y7
def Kl1(M:List Fn)(d:Nat)(a:List E)(Y:Su)(X:XP)(b:List U->G->Prop)(u:U)(g:G):Prop:=Av M d a Y g X (Kl2 u b)
def ada  : Kl1 M d es Y X QL u g=(Av M d es Y g X (Kl2 u QL)):=propext Y7
def uk  : KL M d (e::es) Y g X QL↔Kj M d e Y g X (Kl1 M d es Y X QL):=lb
def DZ(a:Op)(x:U)(X:XP)(Q:U->G->Prop)(y:U)(g:G):Prop:=ob a x y g X (lk Q)
def t6  : DZ op x X Q y g=(ob op x y g X (lk Q)):=propext Y7
def F8(M:List Fn)(d:Nat)(a:Op)(b:E)(Y:Su)(X:XP)(Q:U->G->Prop)(x:U)(g:G):Prop:=Kj M d b Y g X (DZ a x X Q)
def wI  : F8 M d op b Y X Q x g=(Kj M d b Y g X (DZ op x X Q)):=propext Y7
def abA  : KJ M d (.ZZ op a b) Y g X Q↔Kj M d a Y g X (F8 M d op b Y X Q):=nR
def ob_k{i:Int}{y:U}:ob op (.int i) y g X (lk Q)=Ku (JE op (.int i) y) (lk (KV g Q)):=ob_i
def CM(a:Cp)(x:U)(Q:U->G->Prop)(y:U)(g:G):Prop:=Ku (JL a x y g) (lk (KB g Q))
def vh  : CM cp x Q y g=(Ku (JL cp x y g) (lk (KB g Q))):=propext Y7
def F7(M:List Fn)(d:Nat)(a:Cp)(b:E)(Y:Su)(X:XP)(Q:U->G->Prop)(x:U)(g:G):Prop:=Kj M d b Y g X (CM a x Q)
def wu  : F7 M d cp b Y X Q x g=(Kj M d b Y g X (CM cp x Q)):=propext Y7
def abb  : KJ M d (.cmp cp a b) Y g X Q↔Kj M d a Y g X (F7 M d cp b Y X Q):=abc
def Ep(M:List Fn)(d:Nat)(a:Cp)(y:U)(c:E)(Y:Su)(g:G)(X:XP)(Q:U->G->Prop)(z:Bool):Prop:=Kv z (lk (Kj M d c Y g X (CM a y Q))) (lk (Q (.bl false) g))
def aaz  : Ep M d cq y c Y g X Q z=(Kv z (lk (Kj M d c Y g X (CM cq y Q))) (lk (Q (.bl false) g))):=propext Y7
def Em(M:List Fn)(d:Nat)(b:Cp)(a:Cp)(x:U)(c:E)(Y:Su)(X:XP)(Q:U->G->Prop)(y:U)(g:G):Prop:=Ku (JL b x y g) (lk (Ep M d a y c Y g X Q))
def xD  : Em M d cp cq x c Y X Q y g=(Ku (JL cp x y g) (lk (Ep M d cq y c Y g X Q))):=propext Y7
def GI(M:List Fn)(d:Nat)(e:Cp)(a:Cp)(b:E)(c:E)(Y:Su)(X:XP)(Q:U->G->Prop)(x:U)(g:G):Prop:=Kj M d b Y g X (Em M d e a x c Y X Q)
def wL  : GI M d cp cq b c Y X Q x g=(Kj M d b Y g X (Em M d cp cq x c Y X Q)):=propext Y7
def vO  : KJ M d (.chain cp cq a b c) Y g X Q↔Kj M d a Y g X (GI M d cp cq b c Y X Q):=wG
def Gw(M:List Fn)(d:Nat)(b:E)(Y:Su)(X:XP)(Q:U->G->Prop)(x:U)(g:G):Prop:=Ku (match x with|.bl z=>some z|_=>none) <| lk λz=>Kv z (lk (Kj M d b Y g X Q)) (lk (Q (.bl false) g))
def wO{M:List Fn}:Gw M d b Y X Q (.bl z) g=Kv z (lk (Kj M d b Y g X Q)) (lk (Q (.bl false) g)):=propext Y7
def ace  : KJ M d (.and a b) Y g X Q↔Kj M d a Y g X (Gw M d b Y X Q):=aby
def Kor(M:List Fn)(d:Nat)(b:E)(Y:Su)(X:XP)(Q:U->G->Prop)(x:U)(g:G):Prop:=Ku (match x with|.bl z=>some z|_=>none) <| lk λz=>Kv z (lk (Q (.bl true) g)) (lk (Kj M d b Y g X Q))
def acV{M:List Fn}:Kor M d b Y X Q (.bl z) g=Kv z (lk (Q (.bl true) g)) (lk (Kj M d b Y g X Q)):=propext Y7
def k_or  : KJ M d (.or a b) Y g X Q↔Kj M d a Y g X (Kor M d b Y X Q):=e_or
def Knt(g:G)(Q:U->G->Prop)(z:Bool):Prop:=Q (.bl !z) g
def ac6  : Knt g Q z=(Q (.bl !z) g):=propext Y7
def GC(Q:U->G->Prop)(x:U)(g:G):Prop:=Ku (JM x g) (lk (Knt g Q))
def yU  : GC Q x g=(Ku (JM x g) (lk (Knt g Q))):=propext Y7
def acy  : KJ M d (.not a) Y g X Q↔Kj M d a Y g X (GC Q):=adl
def Kneg(Q:U->G->Prop)(x:U)(g:G):Prop:=Ku (match x with|.int i=>some i|_=>none) <| lk λi=>Q (.int (-i)) g
def xl{i:Int}:Kneg Q (.int i) g=Q (.int (-i)) g:=propext Y7
def aa4  : KJ M d (.neg a) Y g X Q↔Kj M d a Y g X (Kneg Q):=abU
def GN(Q:U->G->Prop)(J:List U)(g:G):Prop:=Kv (Be J.length) (lk (Q (.Z1 J) g)) (lk False)
def yZ  : GN Q J g=(Kv (Be J.length) (lk (Q (.Z1 J) g)) (lk False)):=propext Y7
def acJ  : KJ M d (.Z1 es) Y g X Q↔Av M d es Y g X (GN Q):=nD
def Klst(Q:U->G->Prop)(J:List U)(g:G):Prop:=Kv (Be J.length) (lk (Q (.ref g.length) (g++[.S J]))) (lk False)
def xR  : Klst Q J g=(Kv (Be J.length) (lk (Q (.ref g.length) (g++[.S J]))) (lk False)):=propext Y7
def acY  : KJ M d (.S es) Y g X Q↔Av M d es Y g X (Klst Q):=acC
def Gn(i:Int)(g:G)(Q:U->G->Prop)(xs:List U):Prop:=Ku (JN xs i) (lk (KV g Q))
def aaQ{i:Int}:Gn i g Q xs=Ku (JN xs i) (lk (KV g Q)):=propext Y7
def CO(x:U)(Q:U->G->Prop)(y:U)(g:G):Prop:=match y with|.Z1 J=>Ku ((Aq (.Z1 J) x g).bind id) <| lk λz=>Q z g|.str k=>Ku ((JH x g).bind λO=>A0 O k) <| lk λz=>Q z g|y=>Ku (match y with|.int i=>some i|_=>none) <| lk λi=>Ku (items x g) <| lk λxs=>Ku (JN xs i) <| lk λz=>Q z g
def xH{i:Int}:CO x Q (.int i) g=Ku (items x g) (lk (Gn i g Q)):=propext Y7
def aad:CO x Q (.Z1 J) g=Ku ((Aq (.Z1 J) x g).bind id) (lk (KV g Q)):=propext Y7
def aaA{k:PySem.Str}:CO x Q (.str k) g=Ku ((JH x g).bind λO=>A0 O k) (lk (KV g Q)):=propext Y7
def GL(M:List Fn)(d:Nat)(b:E)(Y:Su)(X:XP)(Q:U->G->Prop)(x:U)(g:G):Prop:=Kj M d b Y g X (CO x Q)
def xM  : GL M d b Y X Q x g=(Kj M d b Y g X (CO x Q)):=propext Y7
def acT  : KJ M d (.idx a b) Y g X Q↔Kj M d a Y g X (GL M d b Y X Q):=nN
def Eb(x:U)(l:Option Int)(X:XP)(Q:U->G->Prop)(h:Option Int)(g:G):Prop:=hk (Bz x l h g) X (lk Q)
def y4  : Eb x l X Q h g=(hk (Bz x l h g) X (lk Q)):=propext Y7
def Eu(M:List Fn)(d:Nat)(x:U)(a:Option E)(Y:Su)(X:XP)(Q:U->G->Prop)(l:Option Int)(g:G):Prop:=Kl M d a Y g X (Eb x l X Q)
def zv  : Eu M d x hi Y X Q l g=(Kl M d hi Y g X (Eb x l X Q)):=propext Y7
def Ksl1(M:List Fn)(d:Nat)(a:Option E)(b:Option E)(Y:Su)(X:XP)(Q:U->G->Prop)(x:U)(g:G):Prop:=Kl M d a Y g X (Eu M d x b Y X Q)
def yi  : Ksl1 M d lo hi Y X Q x g=(Kl M d lo Y g X (Eu M d x hi Y X Q)):=propext Y7
def acs  : KJ M d (.WM a lo hi) Y g X Q↔Kj M d a Y g X (Ksl1 M d lo hi Y X Q):=abK
def DV(g:G)(Q:U->G->Prop)(xs:List U):Prop:=Q (.ref g.length) (g++[.S xs.reverse])
def uX:DV g Q xs=Q (.ref g.length) (g++[.S xs.reverse]):=propext Y7
def Gp(Q:U->G->Prop)(x:U)(g:G):Prop:=Ku (CV x g) (lk (DV g Q))
def yT  : Gp Q x g=(Ku (CV x g) (lk (DV g Q))):=propext Y7
def ade  : KJ M d (.rev a) Y g X Q↔Kj M d a Y g X (Gp Q):=abX
def FX(M:List Fn)(d:Nat)(f:Nat)(X:XP)(Q:U->G->Prop)(J:List U)(g:G):Prop:=Kz M d f J g X (lk Q)
def uJ  : FX M d f X Q J g=(Kz M d f J g X (lk Q)):=propext Y7
def aaf  : KJ M d (.call f es) Y g X Q↔Av M d es Y g nX (FX M d f X Q):=y2
def Gm(j:Nat)(a:List Nat)(Q:U->G->Prop)(x:U)(g:G):Prop:=Ku ((A4 x g).bind (Cd j a)) (lk (KV g Q))
def xx  : Gm j cs Q x g=(Ku ((A4 x g).bind (Cd j cs)) (lk (KV g Q))):=propext Y7
def abQ  : KJ M d (.fld a j cs) Y g X Q↔Kj M d a Y g X (Gm j cs Q):=adk
def Et(a:Nat)(Q:U->G->Prop)(u:U)(g:G):Prop:=AG u=true/\Q (.ref a) g
def aal  : Et nn Q u g=(AG u=true/\Q (.ref nn) g):=propext Y7
def ED(M:List Fn)(d:Nat)(e:Nat)(f:Nat)(J:List U)(c:List E)(b:List E)(a:List (Nat ⊕ U))(X:XP)(Q:U->G->Prop)(ws:List U)(g:G):Prop:=J.length=c.length/\ws.length=b.length/\Kz M d f (perm (.ref g.length::J++ws) a) (g++[.ins e []]) X (lk (Et g.length Q))
def aaF  : ED M d cc f J es ks pm X Q ws g=(J.length=es.length/\ws.length=ks.length/\Kz M d f (perm (.ref g.length::J++ws) pm) (g++[.ins cc []]) X (lk (Et g.length Q))):=propext Y7
def GD(M:List Fn)(d:Nat)(e:Nat)(f:Nat)(c:List E)(a:List E)(b:List (Nat ⊕ U))(Y:Su)(X:XP)(Q:U->G->Prop)(J:List U)(g:G):Prop:=Av M d a Y g nX (ED M d e f J c a b X Q)
def yK  : GD M d cc f es ks pm Y X Q J g=(Av M d ks Y g nX (ED M d cc f J es ks pm X Q)):=propext Y7
def yE  : KJ M d (.make cc f es ks pm) Y g X Q↔Av M d es Y g nX (GD M d cc f es ks pm Y X Q):=y9
def Eo(M:List Fn)(d:Nat)(x:U)(p:Nat×List (Nat ⊕ U))(J:List U)(b:List E)(a:List E)(X:XP)(Q:U->G->Prop)(ws:List U)(g:G):Prop:=J.length=b.length/\ws.length=a.length/\Kz M d p.1 (perm (x::J++ws) p.2) g X (lk Q)
def xq  : Eo M d x p J es ks X Q ws g=(J.length=es.length/\ws.length=ks.length/\Kz M d p.1 (perm (x::J++ws) p.2) g X (lk Q)):=propext Y7
def D8(M:List Fn)(d:Nat)(x:U)(p:Nat×List (Nat ⊕ U))(b:List E)(a:List E)(Y:Su)(X:XP)(Q:U->G->Prop)(J:List U)(g:G):Prop:=Av M d a Y g nX (Eo M d x p J b a X Q)
def yd  : D8 M d x p es ks Y X Q J g=(Av M d ks Y g nX (Eo M d x p J es ks X Q)):=propext Y7
def Ek(M:List Fn)(d:Nat)(x:U)(a:List E)(b:List E)(Y:Su)(g:G)(X:XP)(Q:U->G->Prop)(p:Nat×List (Nat ⊕ U)):Prop:=Av M d a Y g nX (D8 M d x p a b Y X Q)
def zp  : Ek M d x es ks Y g X Q p=(Av M d es Y g nX (D8 M d x p es ks Y X Q)):=propext Y7
def GV(M:List Fn)(d:Nat)(j:Nat)(tb:List (Nat×Nat×List (Nat ⊕ U)))(b:List E)(a:List E)(Y:Su)(X:XP)(Q:U->G->Prop)(x:U)(g:G):Prop:=Ku ((A4 x g).bind (BX j tb)) (lk (Ek M d x b a Y g X Q))
def aaS  : GV M d j tb es ks Y X Q x g=(Ku ((A4 x g).bind (BX j tb)) (lk (Ek M d x es ks Y g X Q))):=propext Y7
def wX  : KJ M d (.YT a j tb es ks) Y g X Q↔Kj M d a Y g nX (GV M d j tb es ks Y X Q):=zI
def Ea(g:G)(X:XP)(Q:U->G->Prop)(k:Nat):Prop:=hk (Bw k g) X (lk Q)
def aaT  : Ea g X Q k=(hk (Bw k g) X (lk Q)):=propext Y7
def Kpp1(X:XP)(Q:U->G->Prop)(x:U)(g:G):Prop:=Ku (JS x g) (lk (Ea g X Q))
def yc  : Kpp1 X Q x g=(Ku (JS x g) (lk (Ea g X Q))):=propext Y7
def acW  : KJ M d (.pop o) Y g X Q↔Kj M d o Y g X (Kpp1 X Q):=adn
def Ex(k:Nat)(X:XP)(Q:U->G->Prop)(y:U)(g:G):Prop:=hk (A5 k y g) X (lk Q)
def zZ  : Ex k X Q y g=(hk (A5 k y g) X (lk Q)):=propext Y7
def Eg(M:List Fn)(d:Nat)(v:E)(Y:Su)(g:G)(X:XP)(Q:U->G->Prop)(k:Nat):Prop:=Kj M d v Y g X (Ex k X Q)
def aaH  : Eg M d v Y g X Q k=(Kj M d v Y g X (Ex k X Q)):=propext Y7
def G2(M:List Fn)(d:Nat)(v:E)(Y:Su)(X:XP)(Q:U->G->Prop)(x:U)(g:G):Prop:=Ku (JS x g) (lk (Eg M d v Y g X Q))
def z5  : G2 M d v Y X Q x g=(Ku (JS x g) (lk (Eg M d v Y g X Q))):=propext Y7
def abF  : KJ M d (.app o v) Y g X Q↔Kj M d o Y g X (G2 M d v Y X Q):=abD
def Ez(k:Nat)(X:XP)(Q:U->G->Prop)(y:U)(g:G):Prop:=hk (Bx k y g) X (lk Q)
def zE  : Ez k X Q y g=(hk (Bx k y g) X (lk Q)):=propext Y7
def D7(M:List Fn)(d:Nat)(v:E)(Y:Su)(g:G)(X:XP)(Q:U->G->Prop)(k:Nat):Prop:=Kj M d v Y g X (Ez k X Q)
def zV  : D7 M d v Y g X Q k=(Kj M d v Y g X (Ez k X Q)):=propext Y7
def Gz(M:List Fn)(d:Nat)(v:E)(Y:Su)(X:XP)(Q:U->G->Prop)(x:U)(g:G):Prop:=Ku (JS x g) (lk (D7 M d v Y g X Q))
def aaZ  : Gz M d v Y X Q x g=(Ku (JS x g) (lk (D7 M d v Y g X Q))):=propext Y7
def acX  : KJ M d (.ext o v) Y g X Q↔Kj M d o Y g X (Gz M d v Y X Q):=ac1
def Kbi(a:Bi)(X:XP)(Q:U->G->Prop)(J:List U)(g:G):Prop:=hk (JR a J g) X (lk Q)
def abo  : Kbi bb X Q J g=(hk (JR bb J g) X (lk Q)):=propext Y7
def k_bi  : KJ M d (.bi bb es) Y g X Q↔Av M d es Y g X (Kbi bb X Q):=e_bi
def GY(a:Ty)(Q:U->G->Prop)(x:U)(g:G):Prop:=Ku (AV a x g) (lk (KB g Q))
def xS  : GY ty Q x g=(Ku (AV ty x g) (lk (KB g Q))):=propext Y7
def ab1  : KJ M d (.YC a ty) Y g X Q↔Kj M d a Y g X (GY ty Q):=acu
def Ko(Q:Option Int->G->Prop)(x:U)(g:G):Prop:=Ku (match x with|.int i=>some i|_=>none) <| lk λi=>Q (some i) g
theorem Ko_a{Q:Option Int->G->Prop}{i:Int}:Ko Q (.int i) g=Q (some i) g:=propext Y7
def vM  : Kl M d (some e) Y g X QO↔Kj M d e Y g X (Ko QO):=yn
def Ktr(a:Bool->G->Prop)(x:U)(g:G):Prop:=Ku (JM x g) (lk (KV g a))
def abE  : Ktr QB x g=(Ku (JM x g) (lk (KV g QB))):=propext Y7
def Kta(M:List Fn)(d:Nat)(b:E)(Y:Su)(X:XP)(a:Bool->G->Prop)(z:Bool)(g:G):Prop:=Kv z (lk (Kk M d b Y g X a)) (lk (a false g))
def abY  : Kta M d b Y X QB z g=(Kv z (lk (Kk M d b Y g X QB)) (lk (QB false g))):=propext Y7
def Kto(M:List Fn)(d:Nat)(b:E)(Y:Su)(X:XP)(a:Bool->G->Prop)(z:Bool)(g:G):Prop:=Kv z (lk (a true g)) (lk (Kk M d b Y g X a))
def ab4  : Kto M d b Y X QB z g=(Kv z (lk (QB true g)) (lk (Kk M d b Y g X QB))):=propext Y7
def Ktn(a:Bool->G->Prop)(z:Bool)(g:G):Prop:=a (!z) g
def aa3  : Ktn QB z g=(QB (!z) g):=propext Y7
def wV  : Kk M d (.and a b) Y g X QB↔Kk M d a Y g X (Kta M d b Y X QB):=abG
def adp  : Kk M d (.or a b) Y g X QB↔Kk M d a Y g X (Kto M d b Y X QB):=t_or
def yG  : Kk M d (.not a) Y g X QB↔Kk M d a Y g X (Ktn QB):=acj
def y7  : Kk M d (.L i) Y g X QB↔Kj M d (.L i) Y g X (Ktr QB):=t_e rfl
def yy  : Kk M d (.cmp cp a b) Y g X QB↔Kj M d (.cmp cp a b) Y g X (Ktr QB):=t_e rfl
def wb  : Kk M d (.call f es) Y g X QB↔Kj M d (.call f es) Y g X (Ktr QB):=t_e rfl
def zo  : Kk M d (.YC a ty) Y g X QB↔Kj M d (.YC a ty) Y g X (Ktr QB):=t_e rfl
def vk  : Kk M d (.YT a j tb es ks) Y g X QB↔Kj M d (.YT a j tb es ks) Y g X (Ktr QB):=t_e rfl
def Kac(M:List Fn)(d:Nat)(b:List E)(Y:Su)(X:XP)(a:Bool->G->Prop)(z:Bool)(g:G):Prop:=Kv z (lk (Km M d b Y g X a)) (lk (a false g))
def acn  : Kac M d es Y X QB z g=(Kv z (lk (Km M d es Y g X QB)) (lk (QB false g))):=propext Y7
def vB  : Km M d (c::es) Y g X QB↔Kk M d c Y g X (Kac M d es Y X QB):=xi
def GW(Q:Iter->G->Prop)(x:U)(g:G):Prop:=Ku (match x with|.int i=>some i|_=>none) <| lk λj=>Kv (Ah j) (lk (Q (.YS 0 j.toNat) g)) (lk False)
def xw{Q:Iter->G->Prop}{j:Int}:GW Q (.int j) g=Kv (Ah j) (lk (Q (.YS 0 j.toNat) g)) (lk False):=propext Y7
def vE  : Kn M d (.YV a) Y g X QI↔Kj M d a Y g X (GW QI):=xI
def EG(u:U)(Q:Iter->G->Prop)(w:U)(g:G):Prop:=Ku (match u with|.int i=>some i|_=>none) <| lk λi=>Ku (match w with|.int i=>some i|_=>none) <| lk λj=>Kv (Ah i&&Ah j) (lk (Q (.YS i (j-i).toNat) g)) (lk False)
def za{Q:Iter->G->Prop}{i j:Int}:EG (.int i) Q (.int j) g=Kv (Ah i&&Ah j) (lk (Q (.YS i (j-i).toNat) g)) (lk False):=propext Y7
def GG(M:List Fn)(d:Nat)(b:E)(Y:Su)(X:XP)(a:Iter->G->Prop)(u:U)(g:G):Prop:=Kj M d b Y g X (EG u a)
def wY  : GG M d b Y X QI u g=(Kj M d b Y g X (EG u QI)):=propext Y7
def tU  : Kn M d (.Xw a b) Y g X QI↔Kj M d a Y g X (GG M d b Y X QI):=xJ
def DS(g:G)(a:Iter->G->Prop)(k:Nat):Prop:=a (.YN k) g
def vw  : DS g QI k=(QI (.YN k) g):=propext Y7
def GB(a:Iter->G->Prop)(u:U)(g:G):Prop:=Ku (JS u g) (lk (DS g a))
def zl  : GB QI u g=(Ku (JS u g) (lk (DS g QI))):=propext Y7
def wZ  : Kn M d (.YN a) Y g X QI↔Kj M d a Y g X (GB QI):=acR
def D5(Q:Iter->G->Prop)(p:Iter×G):Prop:=Q p.1 p.2
def yQ{Q:Iter->G->Prop}{i:Iter}:D5 Q (i,g)=Q i g:=propext Y7
def Kit(a:Iter->G->Prop)(u:U)(g:G):Prop:=Ku (CP u g) (lk (D5 a))
def abr  : Kit QI u g=(Ku (CP u g) (lk (D5 QI))):=propext Y7
def yD  : Kn M d (.L i) Y g X QI↔Kj M d (.L i) Y g X (Kit QI):=i_e rfl
def vZ  : Kn M d (.call f es) Y g X QI↔Kj M d (.call f es) Y g X (Kit QI):=i_e rfl
def yr  : Kn M d (.idx a b) Y g X QI↔Kj M d (.idx a b) Y g X (Kit QI):=i_e rfl
def x8  : Kn M d (.Z1 es) Y g X QI↔Kj M d (.Z1 es) Y g X (Kit QI):=i_e rfl
def EB(M:List Fn)(d:Nat)(a:List Z5)(X:XP)(Q:Fl->G->Prop)(f:Fl)(g:G):Prop:=Kw f (lk (λZX=>wpS M d a ZX g X Q)) (lk λf=>Q f g)
def ug  : EB M d ss X QF (.nx Y) g=(wpS M d ss Y g X QF):=propext Y7
def vS  : EB M d ss X QF (.rt u) g=(QF (.rt u) g):=propext Y7
def uW  : wpS M d (s::ss) Y g X QF↔Kq M d s Y g X (EB M d ss X QF):=hG
def Kret(a:Fl->G->Prop)(u:U)(g:G):Prop:=a (.rt u) g
def xg  : Kret QF u g=(QF (.rt u) g):=propext Y7
def ze  : Kq M d (.ret e) Y g X QF↔Kj M d e Y g X (Kret QF):=ach
def EL(g:G)(b:Fl->G->Prop)(a:Su):Prop:=b (.nx a) g
def zd  : EL g QF st=(QF (.nx st) g):=propext Y7
def Kst(t:Tg)(Y:Su)(a:Fl->G->Prop)(u:U)(g:G):Prop:=Ku (Ai t (JV t u g) Y) (lk (EL g a))
def adf  : Kst t Y QF u g=(Ku (Ai t (JV t u g) Y) (lk (EL g QF))):=propext Y7
def aae  : Kq M d (.set t e) Y g X QF↔Kj M d e Y g X (Kst t Y QF):=yA
def Ec(i:Nat)(j:Nat)(u:U)(Y:Su)(a:Fl->G->Prop)(w:U)(g:G):Prop:=Kv (decide (i<Y.length)&&decide (j<Y.length)) (lk (a (.nx ((Y.set i (some u)).set j (some w))) g)) (lk False)
def xX  : Ec i j u Y QF w g=(Kv (decide (i<Y.length)&&decide (j<Y.length)) (lk (QF (.nx ((Y.set i (some u)).set j (some w))) g)) (lk False)):=propext Y7
def Gu(M:List Fn)(d:Nat)(i:Nat)(j:Nat)(b:E)(Y:Su)(X:XP)(a:Fl->G->Prop)(u:U)(g:G):Prop:=Kj M d b Y g X (Ec i j u Y a)
def yj  : Gu M d i j b Y X QF u g=(Kj M d b Y g X (Ec i j u Y QF)):=propext Y7
def aaq  : Kq M d (.par i j a b) Y g X QF↔Kj M d a Y g X (Gu M d i j b Y X QF):=w4
def EJ(u:U)(x:U)(Y:Su)(X:XP)(a:Fl->G->Prop)(y:U)(g:G):Prop:=hk (subAt x y u Y g) X (lk a)
def aap  : EJ u x Y X QF y g=(hk (subAt x y u Y g) X (lk QF)):=propext Y7
def D6(M:List Fn)(d:Nat)(u:U)(b:E)(Y:Su)(X:XP)(a:Fl->G->Prop)(x:U)(g:G):Prop:=Kj M d b Y g X (EJ u x Y X a)
def zf  : D6 M d u b Y X QF x g=(Kj M d b Y g X (EJ u x Y X QF)):=propext Y7
def G1(M:List Fn)(d:Nat)(o:E)(b:E)(Y:Su)(X:XP)(a:Fl->G->Prop)(u:U)(g:G):Prop:=Kj M d o Y g X (D6 M d u b Y X a)
def zw  : G1 M d o b Y X QF u g=(Kj M d o Y g X (D6 M d u b Y X QF)):=propext Y7
def xp  : Kq M d (.sub o b e) Y g X QF↔Kj M d e Y g X (G1 M d o b Y X QF):=aag
def Kxp(Y:Su)(a:Fl->G->Prop)(u:U)(g:G):Prop:=a (.nx Y) g
def acN  : Kxp Y QF u g=(QF (.nx Y) g):=propext Y7
def yh  : Kq M d (.exp e) Y g X QF↔Kj M d e Y g X (Kxp Y QF):=abg
def Kif(M:List Fn)(d:Nat)(A:List Z5)(B:List Z5)(Y:Su)(X:XP)(a:Fl->G->Prop)(z:Bool)(g:G):Prop:=Kv z (lk (wpS M d A Y g X a)) (lk (wpS M d B Y g X a))
def ab5  : Kif M d A B Y X QF z g=(Kv z (lk (wpS M d A Y g X QF)) (lk (wpS M d B Y g X QF))):=propext Y7
def aa2  : Kq M d (.Zz c A B) Y g X QF↔Kk M d c Y g X (Kif M d A B Y X QF):=wR
def GA(M:List Fn)(d:Nat)(t:Tg)(A:List Z5)(Y:Su)(X:XP)(b:Fl->G->Prop)(a:Iter)(g:G):Prop:=KC M d t a 0 A Y g X (lk b)
def yg  : GA M d t A Y X QF YF g=(KC M d t YF 0 A Y g X (lk QF)):=propext Y7
def xO  : Kq M d (.for t it A) Y g X QF↔Kn M d it Y g X (GA M d t A Y X QF):=zh
def EH(Y:Su)(b:Fl->G->Prop)(a:G):Prop:=b (.nx Y) a
def zi  : EH Y QF g2=(QF (.nx Y) g2):=propext Y7
def EM(u:U)(j:Nat)(a:List Nat)(Y:Su)(b:Fl->G->Prop)(x:U)(g:G):Prop:=Ku (Bu x j a u g) (lk (EH Y b))
def aar  : EM u j cs Y QF x g=(Ku (Bu x j cs u g) (lk (EH Y QF))):=propext Y7
def Kfs1(M:List Fn)(d:Nat)(a:E)(j:Nat)(b:List Nat)(Y:Su)(X:XP)(c:Fl->G->Prop)(u:U)(g:G):Prop:=Kj M d a Y g X (EM u j b Y c)
def z9  : Kfs1 M d a j cs Y X QF u g=(Kj M d a Y g X (EM u j cs Y QF)):=propext Y7
def wz  : Kq M d (.fset a j cs e) Y g X QF↔Kj M d e Y g X (Kfs1 M d a j cs Y X QF):=vR
def Kfn(Q:U->G->Prop)(f:Fl)(g:G):Prop:=Ky f (lk λu=>Q u g)
def y6:Kfn Q (.rt u) g=Q u g:=propext Y7
def aaB:Kfn Q (.nx Y) g=Q .ZR g:=propext Y7
def ag{M:List Fn}{f:Nat}{F:Fn}(b:M[f]?=some F)(a:J.length=F.np)(h:wpS M d F.body (J.map some++List.replicate (F.ns-J.length) none) g X (Kfn Q)):Ki M (d+1) f J g X Q:=(mh b a).2 h
end
section
variable{M:List Fn}{Q:Fl->G->Prop}
def jc{o:Out α}{Q:α->G->Prop}:holds o.Y3 X Q↔holds o nX Q:=by cases o<;>exact Y7
def vG{f:Nat->Out α}{Q:α->G->Prop}:wp (λn=>(f n).Y3) X Q↔wp f nX Q:=⟨λ⟨n,h⟩=>⟨n,jc.1 h⟩,λ⟨n,h⟩=>⟨n,jc.2 h⟩⟩
def aa9{b:List Z5}:Kq M d (.Zx b) Y g X Q↔wpS M d b Y g nX Q:=vG
def ab7{a b:List Z5}:Kq M d (.Wq c a b) Y g X Q↔Kk M d c Y g nX λk g=>Kv k (lk (wpS M d a Y g X Q)) (lk (wpS M d b Y g X Q)):=by
 unfold Kq;delta JZ;dsimp only;simp![cR];refine(aB (mT _ _ _) (by intro k g;cases k;exact mS _ _ _;exact mS _ _ _)).trans (wp_congr λx g=>?_)
 rw[<-bR];cases x<;>exact Y7
def uD{c:Nat}:Kq M d (.raise c es) Y g X Q↔Av M d es Y g nX λJ g=>J.length<=Ac/\X c J g:=by
 unfold Kq;delta JZ;dsimp only;simp![cR];refine(aB (k:=λ_ J g=>if J.length<=Ac then Out.exc c J g else Out.Z0) (mEs _ _ _) (λa g=>mK _)).trans (wp_congr λJ g=>af.trans ?_)
 split
 .rename_i h;exact⟨λq=>⟨h,q⟩,λq=>q.2⟩
 .rename_i h;exact⟨λq=>q.elim,λq=>(h q.1).elim⟩
def pI{o:Out Fl}(q:holds o (λc fs g2=>∃p,hs.lookup c=some p/\j<Y.length/\p.2.length<=Ac/\(p.1=0\/fs.length=p.1)/\Q (.nx ((List.replicate Y.length none).set j (some (.Z1 (perm fs p.2))))) g2) λf g2=>∃ZX,f=.nx ZX/\Q (.nx ZX) g2):holds (B0 o j hs Y) X Q:=by
 cases o with
 |ok f g2=>let⟨ZX,rfl,a⟩:=(show∃ZX,f=.nx ZX/\Q (.nx ZX) g2 from q);exact a
 |exc c fs g2=>
  let⟨p,h1,h2,d,b,q⟩:=(show∃p,hs.lookup c=some p/\j<Y.length/\p.2.length<=Ac/\(p.1=0\/fs.length=p.1)/\Q (.nx ((List.replicate Y.length none).set j (some (.Z1 (perm fs p.2))))) g2 from q);simp![B0,h1];rw[XN ⟨h2,d,b⟩];exact q
 |Z0=>exact q.elim
def ni{b:List Z5}
  (h:wpS M d b Y g (λc fs g2=>∃p,hs.lookup c=some p/\j<Y.length/\p.2.length<=Ac/\(p.1=0\/fs.length=p.1)/\Q (.nx ((List.replicate Y.length none).set j (some (.Z1 (perm fs p.2))))) g2) λf g2=>∃ZX,f=.nx ZX/\Q (.nx ZX) g2) :
  Kq M d (.Vd b j hs) Y g X Q:=by
 let⟨n,q⟩:=h;exact⟨n,pI q⟩
end
variable{y:U}{a b o:Z6}{j at_:Int}{ys:List U}{it Z7:Iter}{Q:List U->G->Prop}{YF:E}{t2:Tg}{Yk:List E}{B gs:G}
def bK{i:Nat}(h:i<xs.length):JN xs (i:Int)=xs[i]?:=by
 unfold JN L2.atI L2.ixN;rw[XN (by lia),XN (by lia)]
 simp
def eT(a:0<=i)(h:i<xs.length):JN xs i=xs[i.toNat]?:=by
 have:=bK (xs:=xs) (i:=i.toNat) (by lia)
 rwa[Int.toNat_of_nonneg a]at this
def ac8:JN (x::xs) 0=some x:=bK (i:=0) #[3]
def abe:JN (x::y::xs) 1=some y:=bK (i:=1) #[3]
def aa7{z:U}:JN (x::y::z::xs) 2=some z:=bK (i:=2) #[3]
def abH{z a:U}:JN (x::y::z::a::xs) 3=some a:=bK (i:=3) #[3]
def acb{z a b:U}:JN (x::y::z::a::b::xs) 4=some b:=bK (i:=4) #[3]
def ac2{z a b c:U}:JN (x::y::z::a::b::c::xs) 5=some c:=bK (i:=5) #[3]
def small(i:Int):Prop:=-BY<i/\i<BY
def av(h : -18446744073709551616<i)(h':i<18446744073709551616):small i:=⟨h,h'⟩
def aT(h:(decide (-18446744073709551616<i)&&decide (i<18446744073709551616))=true):small i:=by simp at h;exact h
section
def iy:JE .add (.int i) (.int j)=some (.int (i+j)):=rfl
def il:JE .sub (.int i) (.int j)=some (.int (i-j)):=rfl
def aa0(h:0<j):JE .mod (.int i) (.int j)=some (.int (i % j)):=by simp![JE,JD,XN h]
def vV(h:0<j)(h':j<As):JE .fdiv (.int i) (.int j)=some (.int (i / j)):=by simp![JE,JD,XN h,XN h']
def wJ(h:small i):JE .mul (.int i) (.int j)=some (.int (i*j)):=by
 let⟨h1,h2⟩:=h;simp[JE,JD,h1,h2]
def vp(h:small j):JE .mul (.int i) (.int j)=some (.int (i*j)):=by
 let⟨h1,h2⟩:=h;simp[JE,JD,h1,h2]
def acx:JL .eq (.int i) (.int j) g=some (decide (i=j)):=by
 simp![JL,JC,Aw];congr 1
def abq{a b:Bool}:JL .eq (.bl a) (.bl b) g=some (a==b):=rfl
def abL{a b:PySem.Str}:JL .eq (.str a) (.str b) g=some (a==b):=rfl
def acw:JL .eq (.Z1 xs) (.Z1 ys) g=Ay xs ys:=rfl
def xt:Ay (.int i::xs) (.int j::ys)=(Ay xs ys).map λc=>decide (i=j)&&c:=by
 simp![Ay,Aw];cases Ay xs ys with
 |none=>rfl
 |some c=>simp![Vv];congr 1
def sy:Ay [] []=some true:=rfl
def acS:JL .ne (.int i) (.int j) g=some (!decide (i=j)):=by simp![JL,CN,Ti,Aw,Vv];congr 1
def cisN:JL .Ws x .ZR g=some (AG x):=rfl
def ac3:JL .VQ x .ZR g=some (!AG x):=rfl
def cin:JL .Ve x y g=match items y g with|some ys=>JG x ys|none=>(Aq x y g).map Option.isSome:=rfl
def cnin:JL .X4 x y g=match items y g with|some ys=>(JG x ys).map (!·)|none=>(Aq x y g).map λo=>!o.isSome:=rfl
def clt:JL .lt (.int i) (.int j) g=some (decide (i<j)):=rfl
def cle:JL .le (.int i) (.int j) g=some (decide (i<=j)):=rfl
def cgt:JL .gt (.int i) (.int j) g=some (decide (j<i)):=rfl
def cge:JL .ge (.int i) (.int j) g=some (decide (j<=i)):=rfl
end
section
variable{M:List Fn}
def dv{it:Iter}{t:Tg}{w:List E}{l:E}{Q:List U->G->Prop}{m:Type}(a:List m)(b:m->U)(c:m->Bool)(e:m->U)(f:G->Prop)
  (p:∀k g,f g->next it k g=some (a.map b)[k]?)
  (s:∀y,y∈a->AO t Y=true/\Ku (Ai t (b y) Y) (lk λr=>∀g,f g->Km M d w r g (λ_ _ _=>False) λk g=>k=c y/\Kv (c y) (lk (Kj M d l r g (λ_ _ _=>False) λv g=>v=e y/\f g)) (lk (f g)))) :
  ∀(n i:Nat) (ZW:List U) (g:G),i+n=a.length->ZW.length+n<Ac->f g->(∀g,f g->Q (ZW++((a.drop i).filter c).map e) g)->Kt M d it i t w [] l ZW Y g X Q
 |0,i,ZW,g,B,_,h,o=>by
  rw[bC];refine⟨none,by rw[p _ _ h];simp;lia,?_⟩
  have:=o g h;rw[Qa ()]at this
  simpa using this
 |n+1,i,ZW,g,B,D,h,o=>by
  have hi:i<a.length:=by lia
  have u:a.drop i=a[i]::a.drop (i+1):=RP hi;let⟨z,C⟩:=s a[i] (RM hi);let⟨r,A,x⟩:=aY.2 C;rw[bC];refine⟨some (b a[i]),by rw[p _ _ h];simp[hi],z,r,A,wp_mono (x g h) λk g q=>?_⟩
  let⟨rfl,q⟩:=q;by_cases hc:c a[i]=true
  .rw [XN hc]
   rw[hc]at q;refine wp_mono q λv g ⟨ev,j⟩=>⟨by lia,?_⟩
   subst ev;refine dv a b c e f p s n (i+1) _ g (by lia) (by simp;lia) j λg j=>?_
   have:=o g j;rw[u,List.filter_cons_of_pos hc]at this;simpa using this
  .rw [Xy hc]
   rw[Qk]at hc;rw[hc]at q;refine dv a b c e f p s n (i+1) _ g () (by lia) q λg j=>?_
   have:=o g j;rw[u,List.filter_cons_of_neg (by simp[hc])]at this
   exact this
def mQ{it J:E}{t u:Tg}{F:Iter}{D I:List E}{p:E}{Q:List U->G->Prop}{m r:Type}(a:List m)(c:m->U)(f:m->List r)(s:r->U)(j:m->r->Bool)(e:m->r->U)(b:G->Prop)(B:Nat)
  (x:∀k g,b g->next F k g=some (a.map c)[k]?)
  (A:∀ y,y∈a->(f y).length<=B/\AO t Y=true/\Ku (Ai t (c y) Y) (lk λl => ∀ g,b g->Km M d D l g (λ_ _ _=>False) λk g=>k=true/\Kn M d J l g (λ_ _ _=>False) λK g=>b g/\(∀ k g,b g->next K k g=some ((f y).map s)[k]?) /\
   ∀z,z∈f y->AO u l=true/\Ku (Ai u (s z) l) (lk λH=>∀g,b g->Km M d I H g (λ_ _ _=>False) λk g=>k=j y z/\Kv (j y z) (lk (Kj M d p H g (λ_ _ _=>False) λv g=>v=e y z/\b g)) (lk (b g))))) :
  ∀(n i:Nat) (ZW:List U) (g:G),i+n=a.length->ZW.length+n*B+B<Ac->b g->(∀g,b g->Q (ZW++(a.drop i).flatMap λy=>((f y).filter (j y)).map (e y)) g)->Kt M d F i t D [(u,J,I)] p ZW Y g X Q
 |0,i,ZW,g,S,_,h,w=>by
  rw[bC];refine⟨none,by rw[x _ _ h];simp;lia,?_⟩
  have:=w g h;rw[Qa ()]at this
  simpa using this
 |n+1,i,ZW,g,S,Z,h,w=>by
  have hi:i<a.length:=by lia
  have O:a.drop i=a[i]::a.drop (i+1):=RP hi;let⟨R,N,W⟩:=A a[i] (RM hi);let⟨l,P,L⟩:=aY.2 W;rw[bC];refine⟨some (c a[i]),by rw[x _ _ h];simp[hi],N,l,P,wp_mono (L g h) λk g q=>?_⟩
  let⟨rfl,q⟩:=q;rw[XN rfl];refine wp_mono q ?_;rintro K g ⟨o,V,T⟩;have C:(n+1)*B=n*B+B:=Pu n B;refine dv (f a[i]) s (j a[i]) (e a[i]) b V T (f a[i]).length 0 ZW g (by lia) (by lia) o λg o=>?_
  refine mQ (it:=it) a c f s j e b B x A n (i+1) _ g (by lia) ?_ o λg o=>?_
  .have:(List.map (e a[i]) (List.filter (j a[i]) (f a[i]))).length<=B:=by
    rw[YK];exact HP (Qe _ _) R
   simp![QJ,Xq];lia
  .have:=w g o
   rw[O,TX]at this;simpa using this
def cH{t:Tg}(f:List α)(a:α->U)(c:α->Bool)(e:α->U)(b:G->Prop)(i:List U)
  (p:(f.filter c).map e=i)
  (m:∀k g,b g->next it k g=some (f.map a)[k]?)
  (j:∀y,y∈f->AO t Y=true/\Ku (Ai t (a y) Y) (lk λh=>∀g,b g->Km M d cs h g (λ_ _ _=>False) λk g=>k=c y/\Kv (c y) (lk (Kj M d elt h g (λ_ _ _=>False) λv g=>v=e y/\b g)) (lk (b g))))
  (n:f.length<16777000) (q:b g) (l:∀g,b g->Q i g):Kt M d it 0 t cs [] elt [] Y g X Q:=
 dv f a c e b m j f.length 0 [] g (Sf _) (by simpa[Ac]using n) q λg o=>by
  have:=l g o;rw[<-p]at this;simpa using this
def aax{t:Tg}(c:List α)(b:α->U)(f:α->List β)(j:β->U)(h:α->β->Bool)(e:α->β->U)(a:G->Prop)(B:Nat)(l:List U)
  (s:(c.flatMap λy=>((f y).filter (h y)).map (e y))=l)
  (p:∀k g,a g->next Z7 k g=some (c.map b)[k]?)
  (n:∀ y,y∈c->(f y).length<=B/\AO t Y=true/\Ku (Ai t (b y) Y) (lk λi => ∀ g,a g->Km M d cs i g (λ_ _ _=>False) λk g=>k=true/\Kn M d YF i g (λ_ _ _=>False) λw g=>a g/\(∀ k g,a g->next w k g=some ((f y).map j)[k]?) /\
   ∀z,z∈f y->AO t2 i=true/\Ku (Ai t2 (j z) i) (lk λm=>∀g,a g->Km M d Yk m g (λ_ _ _=>False) λk g=>k=h y z/\Kv (h y z) (lk (Kj M d elt m g (λ_ _ _=>False) λv g=>v=e y z/\a g)) (lk (a g)))))
  (q:c.length*B+B<16777000) (u:a g) (o:∀g,a g->Q l g):Kt M d Z7 0 t cs [(t2,YF,Yk)] elt [] Y g X Q:=
 mQ (it:=.Z3 .ZR) c b f j h e a B p n c.length 0 [] g (Sf _) (by simpa[Ac]using q) u λg r=>by
  have:=o g r;rw[<-s]at this;simpa using this
def iD{C:E}{t r:Tg}{x:Iter}{w A:List E}{D:List (Tg×E×List E)}{e:E}{Q:List U->G->Prop}{l:Type}(a:List l)(b:l->U)(f:l->List U)(c:G->Prop)(B:Nat)
  (o:∀k g,c g->next x k g=some (a.map b)[k]?) (v:∀y,y∈a->(f y).length<=B)
  (s:∀y,y∈a->AO t Y=true/\Ku (Ai t (b y) Y) (lk λj=>∀g ZW,c g->ZW.length+B<16777000->Km M d w j g (λ_ _ _=>False) λk g=>k=true/\Kn M d C j g (λ_ _ _=>False) λF g=>Kt M d F 0 r A D e ZW j g (λ_ _ _=>False) λz g=>z=ZW++f y/\c g)) :
  ∀(n i:Nat) (ZW:List U) (g:G),i+n=a.length->ZW.length+n*B+B<16777000->c g->(∀g,c g->Q (ZW++(a.drop i).flatMap f) g)->Kt M d x i t w ((r,C,A)::D) e ZW Y g X Q
 |0,i,ZW,g,N,_,h,m=>by
  rw[bC];refine⟨none,by rw[o _ _ h];simp;omega,?_⟩
  have:=m g h;rw[Qa ()]at this
  simpa using this
 |n+1,i,ZW,g,N,P,h,m=>by
  have hi:i<a.length:=by omega
  have J:a.drop i=a[i]::a.drop (i+1):=RP hi;let⟨I,O⟩:=s a[i] (RM hi);let⟨j,K,H⟩:=aY.2 O;have u:(n+1)*B=n*B+B:=Pu n B;have L:=v a[i] (RM hi);rw[bC];refine⟨some (b a[i]),by rw[o _ _ h];simp[hi],I,j,K,wp_mono (H g ZW h (by lia)) λk g q=>?_⟩
  let⟨rfl,q⟩:=q;rw[XN rfl];refine wp_mono q λF g q=>wp_mono q λz g q=>?_;let⟨rfl,p⟩:=q;refine iD a b f c B o v s n (i+1) _ g (by lia) (by simp![Xq];lia) p λg p=>?_
  have:=m g p;rw[J,TX]at this;simpa using this
def yH{t:Tg}(f:List α)(a:α->U)(c:α->Bool)(e:α->U)(b:G->Prop)(h:List U)
  (m:∀k g,b g->next it k g=some (f.map a)[k]?)
  (j:∀y,y∈f->AO t Y=true/\Ku (Ai t (a y) Y) (lk λi=>∀g,b g->Km M d cs i g (λ_ _ _=>False) λk g=>k=c y/\Kv (c y) (lk (Kj M d elt i g (λ_ _ _=>False) λv g=>v=e y/\b g)) (lk (b g))))
  (n:h.length+f.length<16777000) (p:b g) (l:∀g,b g->Q (h++(f.filter c).map e) g):Kt M d it 0 t cs [] elt h Y g X Q:=
 dv f a c e b m j f.length 0 h g (Sf _) (by simpa[Ac]using n) p λg o=>by simpa using l g o
def aA{t:Tg}{b:List Z5}{Q:Fl->G->Prop}(J:List U)(a:Nat->Su->G->Prop)
  (h:∀k Y g,a k Y g->next it k g=some J[k]?) (i:a 0 Y g)
  (c:∀k u Y g,J[k]?=some u->a k Y g->Ku (Ai t u Y) (lk λj=>wpS M d b j g X λf g=>Kx f (lk (λZX=>a (k+1) ZX g)) (lk λf=>Q f g)))
  (e:∀Y g,a J.length Y g->Q (.nx Y) g):Ks M d t it 0 b Y g X Q:=cI J a h c e J.length 0 Y g (Sf _) i
end
def d8{l:List α}:(l.filter λ_=>true)=l:=List.filter_eq_self.mpr #[3]
abbrev A2(g:G)(xs:List U)(Q:U->G->Prop):Prop:=∀gs n,g.length<=n->(g++gs)[n]?=some (.S xs)->Q (.ref n) (g++gs)
inductive Dt where
 |ZR|bl (b:Bool)|int (i:Int)|str (s:PySem.Str)|Z1 (ds:List Dt)|S (ds:List Dt)
mutual
def Rep(g:G):Dt->U->Prop
 |.ZR,u=>u=.ZR
 |.bl b,u=>u=.bl b
 |.int i,u=>u=.int i
 |.str s,u=>u=.str s
 |.Z1 ds,u=>∃J,u=.Z1 J/\Reps g ds J
 |.S ds,u=>∃n J,u=.ref n/\g[n]?=some (.S J)/\Reps g ds J
def Reps(g:G):List Dt->List U->Prop
 |[],J=>J=[]
 |d::ds,J=>∃v vs,J=v::vs/\Rep g d v/\Reps g ds vs
end
noncomputable def Dt.ok:Nat->Dt->Prop
 |0,_=>False
 |n+1,.Z1 ds=>ds.length<1000000 /\∀D∈ds,D.ok n
 |n+1,.S ds=>ds.length<1000000 /\∀D∈ds,D.ok n
 |_+1,_=>True
def Dt.UO{a:List Dt}:Dt.ok (n+1) (.Z1 a)↔a.length<1000000 /\∀D∈a,D.ok n:=by rw[Dt.ok]
def Dt.S_{a:List Dt}:Dt.ok (n+1) (.S a)↔a.length<1000000 /\∀D∈a,D.ok n:=by rw[Dt.ok]
def Reps.length{g:G}:∀{ds:List Dt} {J:List U},Reps g ds J->J.length=ds.length
 |[],_,h=>by cases h;rfl
 |_::ds,_,h=>by let⟨v,vs,rfl,_,h2⟩:=h;simp[Reps.length h2]
def Reps.get{g:G}:∀{ds:List Dt} {J:List U} {i:Nat} {D:Dt},Reps g ds J->ds[i]?=some D ->∃v,J[i]?=some v/\Rep g D v
 |[],_,_,_,_,e=>by simp at e
 |x::ds,_,0,D,h,e=>by
  let⟨v,vs,rfl,h1,_⟩:=h;simp at e;subst e;exact⟨v,by simp,h1⟩
 |x::ds,_,i+1,D,h,e=>by
  let⟨v,vs,rfl,_,h2⟩:=h;let⟨w,b,a⟩:=Reps.get (i:=i) (D:=D) h2 (by simpa using e)
  exact⟨w,by simpa using b,a⟩
structure Plan where
 w:Int
 d:Int
 s:Int
abbrev Pt:=Int×Int
abbrev Zm(P:Plan):U:=.Z1 [.int P.w,.int P.d,.int P.s]
abbrev uP(p:Pt):U:=.Z1 [.int p.1,.int p.2]
structure Plan.ok(P:Plan):Prop where
 w:P.w=1\/P.w=2\/P.w=3
 d:P.d=1\/P.d=2\/P.d=3
 s:P.s=2\/P.s=4\/P.s=8
def Plan.ok.sw{P:Plan}(h:P.ok):small P.w:=by rcases h.w with e|e|e<;>rw[e]<;>exact aT #[1]
def Plan.ok.sd{P:Plan}(h:P.ok):small P.d:=by rcases h.d with e|e|e<;>rw[e]<;>exact aT #[1]
def Plan.ok.ss{P:Plan}(h:P.ok):small P.s:=by rcases h.s with e|e|e<;>rw[e]<;>exact aT #[1]
def Plan.ok.s0{P:Plan}(h:P.ok):0<P.s:=by rcases h.s with e|e|e<;>rw[e]<;>decide
def Plan.ok.sb{P:Plan}(h:P.ok):P.s<As:=by rcases h.s with e|e|e<;>rw[e]<;>decide
def Plan.ok.ws{P:Plan}(h:P.ok):2<=P.w*P.s/\P.w*P.s<=24:=by rcases h.w with e|e|e<;>rcases h.s with f|f|f<;>rw[e,f]<;>decide
def Plan.ok.ds{P:Plan}(h:P.ok):2<=P.d*P.s/\P.d*P.s<=24:=by rcases h.d with e|e|e<;>rcases h.s with f|f|f<;>rw[e,f]<;>decide
def Ax(P:Plan)(p:Pt):Bool:=decide (0<=p.1)&&decide (p.1<=P.w*P.s)&&decide (0<=p.2)&&decide (p.2<=P.d*P.s)
def KN(n:Int):List Int:=(List.range n.toNat).map λ(i:Nat)=>(i:Int)
def ar(n:Int):(KN n).length=n.toNat:=by simp[KN]
def eS{n:Int}:i∈KN n↔0<=i/\i<n:=by
 simp![KN,VR,QA];exact⟨λ⟨k,h,e⟩=>by lia,λ⟨h,k⟩=>⟨i.toNat,by lia,by lia⟩⟩
def aC{k:Nat}:next (.YS 0 j.toNat) k g=some ((KN j).map U.int)[k]?:=by
 simp![next,KN];by_cases h:k<j.toNat
 .simp [h]
 .simp [h]
def bw{k:Nat}(h:g[n]?=some (.S xs)):next (.S n) k g=some xs[k]?:=by
 simp![next,h]
def Ad(P:Plan):List Pt:=(KN (P.w*P.s+1)).flatMap λx=>(KN (P.d*P.s+1)).map λy=>(x,y)
def bF{P:Plan}{p:Pt}:p∈Ad P↔Ax P p=true:=by
 let⟨x,y⟩:=p;simp![Ad,Tt,VR,eS,Ax,ZC,Xn];constructor
 .rintro ⟨a,h1,b,h2,e⟩
  cases e;omega
 .intro h
  exact⟨x,by omega,y,by omega,rfl⟩
def aV{c d:Type}{f:c->List d}{B:Nat}:∀{l:List c},(∀a∈l,(f a).length<=B)->(l.flatMap f).length<=l.length*B
 |[],_=>by simp
 |a::l,h=>by
  rw[TX,Xq,X8,Pu];have h1:=h a #[3]
  have h2:=aV (f:=f) (B:=B) (l:=l) λb g=>h b (by simp[g])
  lia
def fA{P:Plan}(h:P.ok):(Ad P).length<=625:=by
 have h1:=h.ws;have h2:=h.ds;have:=aV (f:=λx=>(KN (P.d*P.s+1)).map λy=>((x,y):Pt)) (B:=25) (l:=KN (P.w*P.s+1)) λa _=>by simp[ar];lia
 have b:(KN (P.w*P.s+1)).length<=25:=by rw[ar];lia
 have c:(KN (P.w*P.s+1)).length*25<=25*25:=RB _ b;unfold Ad;lia
def ae(h:g[n]?=some o):(g++gs)[n]?=some o:=by
 rw[Wt (Yh.mp h).1];exact h
def ah:(g++[o])[g.length]?=some o:=by simp
def eB{Q:U->G->Prop}(h:A2 g xs Q)(a:xs.length<=16777000):xs.length<=16777000/\Q (.ref (g++gs).length) (g++gs++[.S xs]):=by
 refine⟨a,?_⟩;have:=h (gs++[.S xs]) (g++gs).length #[3] (by rw[<-Xz];exact ah)
 rw[<-Xz]at this;exact this
def CZ(xs:List Int)(a b:Option Int):List Int:=(xs.drop (HT.sIx xs.length 0 a)).take (HT.sIx xs.length xs.length b-HT.sIx xs.length 0 a)
def gO(ns:List Int)(l h:Option Int):Bh (ns.map U.int) l h=(CZ ns l h).map U.int:=by
 unfold Bh CZ;rw[YK,<-List.map_drop,<-List.map_take]
abbrev BE(c:Nat)(at_ Wb:Int):Z6:=.S [.ref c,.int at_,.int Wb]
def Bag(g:G):Prop:=∃(xs:List Int) (at_ a:Int),g[1]?=some (.S (xs.map .int))/\g[2]?=some (BE 1 at_ a)
structure Fr(g g':G):Prop where
 Za:Bag g'
 len:g.length<=g'.length
 get:∀(k:Nat) (o:Z6),3<=k->g[k]?=some o->g'[k]?=some o
def Bag.app(h:Bag g):Bag (g++gs):=let⟨xs,a,s,h1,h2⟩:=h;⟨xs,a,s,ae h1,ae h2⟩
def Bag.len(h:Bag g):3<=g.length:=by let⟨xs,a,s,h1,h2⟩:=h;exact(Yh.mp h2).1
def Fr.app{g gs:G}(h:Bag g):Fr g (g++gs):=⟨h.app,by simp,λk o _ e=>ae e⟩
def Fr.refl(h:Bag g):Fr g g:=⟨h,HR _,λk o _ e=>e⟩
def Fr.trans{a b c:G}(h:Fr a b)(k:Fr b c):Fr a c:=⟨k.Za,HP h.len k.len,λi o hi e=>k.get i o hi (h.get i o hi e)⟩
def Dp(xs:List Int)(at_:Int):Int:=if h:0<xs.length then xs.getD (at_ % xs.length).toNat 0 else 0
def hY{xs:List Int}(h:0<xs.length):0<=at_ % (xs.length:Int)/\at_ % (xs.length:Int)<xs.length:=⟨Pm _ (by lia),QN _ (by lia)⟩
def sW{xs:List Int}(h:0<xs.length):JN (xs.map U.int) (at_ % xs.length)=some (.int (Dp xs at_)):=by
 let⟨h1,h2⟩:=hY (at_:=at_) h;rw[eT h1 (by simpa using h2)]
 have:(at_ % (xs.length:Int)).toNat<xs.length:=by lia
 simp[Dp,h,Vj this,List.getD]
def uZ{xs:List Int}(h:0<xs.length):L2.ixN xs.length (at_ % xs.length)=some (at_ % xs.length).toNat:=by
 let⟨h1,h2⟩:=hY (at_:=at_) h;unfold L2.ixN;rw[XN h1,XN h2]
def dW{P:Plan}{p:Pt}(h:0<=p.1/\p.1<=P.w*P.s/\0<=p.2/\p.2<=P.d*P.s):Ax P p=true:=by
 simp![Ax,ZC,Xn];omega
def KP(p:Pt):Dt:=.Z1 [.int p.1,.int p.2]
def au:Rep g (.int i) (.int i):=by simp![Rep]
def eV{i:Bool}:Rep g (.bl i) (.bl i):=by simp![Rep]
def vq:Rep g .ZR .ZR:=by simp![Rep]
def nH{p:Pt}:Rep g (KP p) (uP p):=by
 simp![KP,Rep];refine⟨_,rfl,?_⟩;simp![Reps];exact⟨_,_,rfl,au,_,_,rfl,au,rfl⟩
def kS{b:Type}{g:G}{f:b->Dt}{e:b->U}(h:∀a,Rep g (f a) (e a)):∀l:List b,Reps g (l.map f) (l.map e)
 |[]=>by simp![RJ,Reps]
 |a::l=>by simp![Xk,Reps];exact⟨_,_,rfl,h a,kS h l⟩
def bB:(Dt.int i).ok (n+1):=by simp[Dt.ok]
def fb{i:Bool}:(Dt.bl i).ok (n+1):=by simp[Dt.ok]
def aav:(Dt.ZR).ok (n+1):=by simp[Dt.ok]
def oa{p:Pt}:(KP p).ok (n+2):=by
 unfold KP;rw[Dt.UO];refine⟨by simp,λD h=>?_⟩
 simp at h;rcases h with rfl|rfl<;>exact bB
def kr:JE .pow (.int 10) (.int 18)=some (.int 1000000000000000000):=by simp[JE,JD]
def d0{k:Int}(h:g[n]?=some (.S xs))(b:0<=k)(a:k<xs.length):subAt (.ref n) (.int k) u Y g=.ok (.nx Y) (g.set n (.S (xs.set k.toNat u))):=by
 simp![subAt,Ew,h];unfold L2.ixN;rw[XN b,XN a]
def cS(h:g[n]?=some (.S xs))(a:xs.length<16777000):A5 n y g=.ok .ZR (g.set n (.S (xs++[y]))):=by
 simp![A5,h];rw[XN (by simpa[Ac]using a)]
def fE(a:xs.length<16777000):A5 g.length y (g++[.S xs])=.ok .ZR (g++[.S (xs++[y])]):=by
 rw[cS ah a];simp
def aL{o':Z6}(h:g[n]?=some o):(g.set n o')[n]?=some o':=UE (Yh.mp h).1
def Fr.set1(h:Bag g)(xs:List Int):Fr g (g.set 1 (.S (xs.map U.int))):=by
 let⟨ys,a,s,h1,h2⟩:=h;refine⟨⟨xs,a,s,aL h1,by rw[X9 #[1]];exact h2⟩,by simp,λk o hk e=>by rw[X9 (by lia)];exact e⟩
def Fr.S9(h:Bag g)(d c:Int):Fr g (g.set 2 (BE 1 d c)):=by
 let⟨ys,a,s,h1,h2⟩:=h;refine⟨⟨ys,d,c,by rw[X9 #[1]];exact h1,aL h2⟩,by simp,λk o hk e=>by rw[X9 (by lia)];exact e⟩
def stride(p:Pt):Int:=if p.1 % 4=0/\p.2 % 4=0 then 4 else if p.1 % 2=0/\p.2 % 2=0 then 2 else 1
abbrev Pr:=Pt×Pt
def F5(p:Pt):Prop:=((p.1-stride p) / (2*stride p)+(p.2-stride p) / (2*stride p)) % 2=0
instance(p:Pt):Decidable (F5 p):=by unfold F5;infer_instance
abbrev u2(q:Pr):U:=.Z1 [uP q.1,uP q.2]
def Cz:List Plan:=[1,2,3].flatMap λw=>[1,2,3].flatMap λd=>[2,4,8].map λs=>⟨w,d,s⟩
def cU{P:Plan}(h:P.ok):P∈Cz:=by
 have e:∀{x a b c:Int},x=a\/x=b\/x=c->x∈[a,b,c]:=λh=>by simpa using h
 exact Tt.mpr ⟨P.w,e h.w,Tt.mpr ⟨P.d,e h.d,VR.mpr ⟨P.s,e h.s,rfl⟩⟩⟩
def ab8{k:Int}:JG (.int k) (.int i::xs)=(JG (.int k) xs).map λc=>decide (i=k)||c:=by
 simp![JG,JC,Aw];cases JG (.int k) xs with
 |none=>rfl
 |some c=>simp![Vv];congr 1
def vU:JG x []=some false:=rfl
def KQ(q:Pr):Dt:=.Z1 [KP q.1,KP q.2]
def bM{l:List α}{f:α->U}(b:0<=i)(h:i<l.length):∃a∈l,JN (l.map f) i=some (f a):=by
 have hi:i.toNat<l.length:=by lia
 refine⟨l[i.toNat],RM hi,?_⟩;rw[eT b (by simpa using h)]
 simp[hi]
def ltP(p q:Pt):Prop:=p.1<q.1\/(p.1=q.1/\p.2<q.2)
instance(p q:Pt):Decidable (ltP p q):=by unfold ltP;infer_instance
def rB{p q:Pt}(h:ltP p q)(k:ltP q p):False:=by unfold ltP at h k;lia
def u0{p:Pt}(h:ltP p p):False:=rB h h
def jd(n:Int):(KN n).Pairwise (· < ·):=by
 unfold KN;rw[R9];exact List.Pairwise.imp (λh=>by lia) (List.pairwise_lt_range (n:=n.toNat))
def oA(P:Plan):(Ad P).Pairwise ltP:=by
 unfold Ad;rw[List.pairwise_flatMap];refine⟨λx _=>?_,?_⟩
 .rw [R9]
  exact(jd _).imp λh=>.inr ⟨rfl,h⟩
 .refine (jd _).imp λ{x y} h p hp q a=>?_
  let⟨_,_,rfl⟩:=VR.mp hp;let⟨_,_,rfl⟩:=VR.mp a;exact .inl h
structure ZO where
 ax:Int
 ay:Int
 bx:Int
 bY:Int
 cx:Int
 cy:Int
deriving DecidableEq
abbrev uT(t:ZO):U:=.Z1 [.int t.ax,.int t.ay,.int t.bx,.int t.bY,.int t.cx,.int t.cy]
def KR(o:Option Pt):U:=match o with
 |none=>.ZR
 |some p=>uP p
def Ar(i j s:Int):List ZO:=if(i+j) % 2=0 then[⟨i*s,j*s,i*s+s,j*s+s,i*s+s,j*s⟩,⟨i*s+s,j*s+s,i*s,j*s,i*s,j*s+s⟩]
 else[⟨i*s+s,j*s,i*s,j*s+s,i*s+s,j*s+s⟩,⟨i*s,j*s+s,i*s+s,j*s,i*s,j*s⟩]
def cN(i j s:Int):(Ar i j s).length=2:=by unfold Ar;split<;>rfl
def KS(P:Plan):List ZO:=(KN P.w).flatMap λi=>(KN P.d).flatMap λj=>Ar i j P.s
def Bd(t:ZO):Option Pt:=if(t.ax+t.bx) % 2=1\/(t.ay+t.bY) % 2=1 then none else some ((t.ax+t.bx) / 2,(t.ay+t.bY) / 2)
def Dr(t:ZO)(m:Pt):List ZO:=[⟨t.ax,t.ay,t.cx,t.cy,m.1,m.2⟩,⟨t.cx,t.cy,t.bx,t.bY,m.1,m.2⟩]
def Ak(t:ZO):List ZO:=match Bd t with
 |none=>[]
 |some m=>Dr t m
def cL{t:ZO}{m:Pt}(h:Bd t=some m):Ak t=Dr t m:=by unfold Ak;rw[h]
def iQ{t:ZO}(h:Bd t=none):Ak t=[]:=by unfold Ak;rw[h]
def A6:Nat->ZO->List ZO
 |0,t=>[t]
 |n+1,t=>t::(Ak t).flatMap (A6 n)
def AS:Nat->ZO->Bool
 |0,t=>(Ak t).isEmpty
 |n+1,t=>(Ak t).all (AS n)
def An(t:ZO):List ZO:=A6 7 t
def fH{c d:Type}{f g:c->List d}:∀{l:List c},(∀x∈l,f x=g x)->l.flatMap f=l.flatMap g
 |[],_=>rfl
 |a::l,h=>by rw[TX,TX,h a #[3],fH λx j=>h x (by simp[j])]
def jl:∀(n:Nat) (t:ZO),AS n t=true->A6 (n+1) t=A6 n t
 |0,t,h=>by
  have:Ak t=[]:=Se.mp h;simp[A6,this]
 |n+1,t,h=>by
  have h':=Wj.mp h;show t::(Ak t).flatMap (A6 (n+1))=t::(Ak t).flatMap (A6 n);rw[fH λx a=>jl n x (h' x a)]
def fY:∀(n:Nat) (t:ZO),AS n t=true->AS (n+1) t=true
 |0,t,h=>by
  have:Ak t=[]:=Se.mp h;simp[AS,this]
 |n+1,t,h=>Wj.mpr λx a=>fY n x (Wj.mp h x a)
def fX{t x:ZO}(h:AS 7 t=true)(hx:x∈Ak t):AS 6 x=true:=Wj.mp h x hx
def eE{t:ZO}(h:AS 7 t=true):An t=t::(Ak t).flatMap An:=by
 show t::(Ak t).flatMap (A6 6)=_;rw[fH λx a=>(jl 6 x (fX h a)).symm]
 rfl
def jM(t:ZO):0<(An t).length:=by show 0<(t::_).length;simp
def KU(P:Plan):List ZO:=(KS P).flatMap An
def ji:(Cz.all λP=>(KS P).all (AS 7)&&decide (((KU P).length:Int)=P.w*P.d*(4*P.s*P.s-2))&&decide ((KU P).length<=2286))=true:=by decide +kernel
def fQ{P:Plan}(h:P.ok){t:ZO}(a:t∈KS P):AS 7 t=true:=by
 have:=Wj.mp ji P (cU h);simp![ZC,Wj]at this;exact this.1.1 t a
def cM{P:Plan}(h:P.ok):((KU P).length:Int)=P.w*P.d*(4*P.s*P.s-2)/\(KU P).length<=2286:=by
 have:=Wj.mp ji P (cU h);simp![ZC,Xn]at this;exact⟨this.1.2,this.2⟩
def fN{P:Plan}(h:P.ok):(KS P).length<=18:=by
 have a:∀i,((KN P.d).flatMap λj=>Ar i j P.s).length<=6:=λi=>by
  have:=aV (f:=λj=>Ar i j P.s) (B:=2) (l:=KN P.d) λj _=>Qy (cN i j P.s);have h2:(KN P.d).length<=3:=by rw[ar];rcases h.d with e|e|e<;>rw[e]<;>decide
  lia
 have:=aV (f:=λi=>(KN P.d).flatMap λj=>Ar i j P.s) (B:=6) (l:=KN P.w) λi _=>a i;have h2:(KN P.w).length<=3:=by rw[ar];rcases h.w with e|e|e<;>rw[e]<;>decide
 unfold KS;lia
def jn(h:g[n]?=some (.S (xs++[y]))):Bw n g=.ok y (g.set n (.S xs)):=by
 simp![Bw,h];simp
def jm(h:g[n]?=some (.S xs))(k:g[m]?=some (.S ys))(a:xs.length+ys.length<16777000):Bx n (.ref m) g=.ok .ZR (g.set n (.S (xs++ys))):=by
 simp![Bx,JS,h,k];rw[XN (by simpa[Ac]using a)]
def slc4{t:ZO}:Bz (uT t) none (some 4) g=.ok (.Z1 [.int t.ax,.int t.ay,.int t.bx,.int t.bY]) g:=rfl
def dT(t:ZO):Dt:=.Z1 [.int t.ax,.int t.ay,.int t.bx,.int t.bY,.int t.cx,.int t.cy]
def acP{t:ZO}:Rep g (dT t) (uT t):=by
 simp![dT,Rep];refine⟨_,rfl,?_⟩;simp![Reps];exact⟨_,_,rfl,au,_,_,rfl,au,_,_,rfl,au,_,_,rfl,au,_,_,rfl,au,_,_,rfl,au,rfl⟩
def ok_T{t:ZO}:(dT t).ok (n+2):=by
 unfold dT;rw[Dt.UO];refine⟨by simp,λD h=>?_⟩
 simp at h;rcases h with rfl|rfl|rfl|rfl|rfl|rfl<;>exact bB
def gp{c d:Type}{f:c->List d}:∀{l:List c},(∀x∈l,0<(f x).length)->l.length<=(l.flatMap f).length
 |[],_=>by simp
 |a::l,h=>by
  rw[TX,Xq,X8];have h1:=h a #[3]
  have h2:=gp (l:=l) λx g=>h x (by simp[g])
  lia
def fw{b c:Type}{f:b->List c}:∀{l:List b},(l.reverse.flatMap f).length=(l.flatMap f).length
 |[]=>rfl
 |a::l=>by
  rw[Rw,Rh,Xq,fw,TX,Xq];simp;lia
def l9{l:List α}{a:α}:(l++[a]).isEmpty=false:=by cases l<;>rfl
def eJ:(g++a::(B++b::gs))[g.length]?=some a:=by simp
def bq:(g++a::(B++b::gs))[g.length+1+B.length]?=some b:=by
 rw[WB (by lia),show g.length+1+B.length-g.length=B.length+1 by lia,R3,WB (by lia)]
 simp
def kH{c:Z6}:(g++a::(B++b::gs)).set g.length c=g++c::(B++b::gs):=by simp
def eG{c:Z6}:(g++a::(B++b::gs)).set (g.length+1+B.length) c=g++a::(B++c::gs):=by
 rw[List.set_append_right _ _ (),show g.length+1+B.length-g.length=B.length+1 by omega,List.set_cons_succ,List.set_append_right _ _ ()]
 simp
def cj{c:G}:g++a::(B++b::gs)++c=g++a::(B++b::(gs++c)):=by simp
def c7(i:Int):(if i<0 then -i else i)=(i.natAbs:Int):=by split<;>lia
noncomputable def YB(i:Int):Prop:=-As<i/\i<As
def lN(h:YB i)(k:YB j):JE .mul (.int i) (.int j)=some (.int (i*j)):=by
 let⟨h1,h2⟩:=h;let⟨k1,k2⟩:=k;simp[JE,JD,h1,h2,k1,k2]
def KW(i j:Int):Int:=if 0<j then i / j else i.fdiv j
def eZ(a:j≠0)(h:YB j):JE .fdiv (.int i) (.int j)=some (.int (KW i j)):=by
 let⟨h1,h2⟩:=h;unfold KW;simp![JE,JD];by_cases h:0<j
 .simp [h,h2]
 .simp [h,a,h1]
def Bc(a b:Int):Int:=if b<0 then -(Nat.gcd a.natAbs b.natAbs:Int)else(Nat.gcd a.natAbs b.natAbs:Int)
def Es(a b:Int):Pt:=(KW a (Bc a b),KW b (Bc a b))
def zQ{a b:Int}(c:b≠0):0<Nat.gcd a.natAbs b.natAbs/\Nat.gcd a.natAbs b.natAbs<=b.natAbs:=by
 have h:0<b.natAbs:=by lia
 exact⟨Nat.gcd_pos_of_pos_right _ h,Nat.le_of_dvd h (Nat.gcd_dvd_right _ _)⟩
def lr{a b:Int}(c:b≠0)(h:YB b):Bc a b≠0/\YB (Bc a b):=by
 let⟨h1,h2⟩:=zQ (a:=a) c;let⟨e,d⟩:=h;unfold Bc YB;split<;>lia
def mid(i:Int):Prop:=-10000000000000000000000000000<i/\i<10000000000000000000000000000
def mid.YB{i:Int}(h:mid i):YB i:=by unfold mid at h;unfold PI.YB As;omega
def jT:∀(n:Nat) (t:ZO),t∈A6 n t
 |0,t=>by simp[A6]
 |n+1,t=>by simp[A6]
variable{P:Plan}{v:U}{k':List Int}{a b:Int}{p:Pt}
def jI:∀(n:Nat) (r t x:ZO),AS n r=true->t∈A6 n r->x∈Ak t->x∈A6 n r
 |0,r,t,x,hd,ht,hx=>by
  have b:Ak r=[]:=Se.mp hd;have:t=r:=by simpa[A6]using ht
  subst this;rw[b]at hx;cases hx
 |n+1,r,t,x,hd,ht,hx=>by
  rcases Wc.mp ht with rfl|h
  .exact HS _ (Tt.mpr ⟨x,hx,jT n x⟩)
  .obtain ⟨y,a,c⟩:=Tt.mp h
   exact HS _ (Tt.mpr ⟨y,a,jI n y t x (Wj.mp hd y a) c hx⟩)
def oY(c:P.ok){t x:ZO}(b:t∈KU P)(hx:x∈Ak t):x∈KU P:=by
 let⟨r,a,h⟩:=Tt.mp b;exact Tt.mpr ⟨r,a,jI 7 r t x (fQ c a) h hx⟩
def oZ{t:ZO}(a:t∈KS P):t∈KU P:=Tt.mpr ⟨t,a,jT 7 t⟩
def B3(t:ZO):Bool:=[t.ax,t.ay,t.bx,t.bY,t.cx,t.cy].all λi=>decide (0<=i)&&decide (i<32)
def KY(x y z v:Nat):Bool:=Nat.ble v x||(Nat.ble v y||Nat.ble v z)
def AB(t:ZO):List Int:=[t.ax,t.ay,t.bx,t.bY,t.cx,t.cy]
def eI{t u:ZO}(h:AB t=AB u):t=u:=by
 let⟨a,b,c,d,e,f⟩:=t;let⟨a',b',c',g,e',f'⟩:=u;simpa[AB]using h
def bP{t:ZO}:intsOf [.int t.ax,.int t.ay,.int t.bx,.int t.bY,.int t.cx,.int t.cy]=some (AB t):=rfl
def cQ{k:List Int}:(Aj O k).isSome=O.any λb=>decide (b.1=k):=by
 unfold Aj
 induction O with
 |nil=>rfl
 |cons a r ih=>
  rw[Ud,Va];cases decide (a.1=k)with
  |true=>rfl
  |false=>simpa using ih
def gw{k:List Int}:(dput O k v).length<=O.length+1:=by
 unfold dput;split<;>simp
def sr{k:List Int}:(Aj (dput O k v) k').isSome=(decide (k=k')||(Aj O k').isSome):=by
 rw[cQ,cQ];unfold dput;split
 .rename_i h
  rw[Pw];have e:((λa:List Int×U=>decide (a.1=k')) ∘ λa=>if a.1=k then(a.1,v)else a)=λa=>decide (a.1=k'):=by
   funext a;simp![Function.comp];split<;>rfl
  rw[e];by_cases hk:k=k'
  .subst hk;rw[h];simp
  .simp [hk]
 .rw [List.any_append,Bool.or_comm]
  simp
def bX{k:List Int}(h:g[n]?=some (.ZN O))(b:intsOf J=some k)(a:O.length<16777000):subAt (.ref n) (.Z1 J) u Y g=.ok (.nx Y) (g.set n (.ZN (dput O k u))):=by
 simp![subAt,Ey,h,b];rw[XN (by simpa[Ac]using a)]
def aO{k:List Int}(h:g[n]?=some (.ZN O))(a:intsOf J=some k):Aq (.Z1 J) (.ref n) g=some (Aj O k):=by
 simp![Aq,JI,h,keyOf,a,Vv]
def Ap(a b:Int):List Int:=(List.range (b-a).toNat).map λ(i:Nat)=>a+(i:Int)
def bI(a b:Int):(Ap a b).length=(b-a).toNat:=by simp[Ap]
def gx:i∈Ap a b↔a<=i/\i<b:=by
 simp![Ap,VR,QA];exact⟨λ⟨k,h,e⟩=>by omega,λ⟨h,k⟩=>⟨(i-a).toNat,by lia,by lia⟩⟩
def dY{k:Nat}:next (.YS a (b-a).toNat) k g=some ((Ap a b).map U.int)[k]?:=by
 simp![next,Ap];by_cases h:k<(b-a).toNat
 .simp [h]
 .simp [h]
abbrev Y_(t:ZO):Int:=best true t.ax [t.bx,t.cx]
abbrev Y6(t:ZO):Int:=best true t.ay [t.bY,t.cy]
abbrev Y9(t:ZO):Int:=best false t.ax [t.bx,t.cx]
abbrev Y5(t:ZO):Int:=best false t.ay [t.bY,t.cy]
def Bn(t:ZO)(p:Pt):Bool:=decide (Y_ t<=p.1)&&decide (p.1<=Y9 t)&&(decide (Y6 t<=p.2)&&decide (p.2<=Y5 t))
def Bq(ax ay bx a:Int)(p:Pt):Int:=(bx-ax)*(p.2-ay)-(a-ay)*(p.1-ax)
abbrev XM(t:ZO)(p:Pt):Int:=Bq t.ax t.ay t.bx t.bY p
abbrev Xh(t:ZO)(p:Pt):Int:=Bq t.bx t.bY t.cx t.cy p
abbrev XJ(t:ZO)(p:Pt):Int:=Bq t.cx t.cy t.ax t.ay p
def AE(t:ZO)(p:Pt):Bool:=Bn t p&&(decide (0<=best true (XM t p) [Xh t p,XJ t p])||decide (best false (XM t p) [Xh t p,XJ t p]<=0))
def KZ(t:ZO):List Pt:=(Ap (Y_ t) (Y9 t+1)).flatMap λx=>((Ap (Y6 t) (Y5 t+1)).filter λy=>AE t (x,y)).map λy=>(x,y)
def Ag(a b c:Pt):Int:=(b.1-a.1)*(c.2-a.2)-(c.1-a.1)*(b.2-a.2)
def K0(t:ZO):Pt:=(t.ax,t.ay)
def K3(t:ZO):Pt:=(t.bx,t.bY)
def K8(t:ZO):Pt:=(t.cx,t.cy)
def Ao(t:ZO):Int:=if Ag (K0 t) (K3 t) (K8 t)<0 then -1 else 1
def BJ(t:ZO)(p:Pt):List Int:=[Ao t*Ag p (K3 t) (K8 t),Ao t*Ag (K0 t) p (K8 t),Ao t*Ag (K0 t) (K3 t) p]
def cr3(t:ZO)(p:Pt):Ag (K0 t) (K3 t) p=XM t p:=by simp![Ag,K0,K3,XM,Bq];grind
def cr1(t:ZO)(p:Pt):Ag p (K3 t) (K8 t)=Xh t p:=by simp![Ag,K8,K3,Xh,Bq];grind
def cr2(t:ZO)(p:Pt):Ag (K0 t) p (K8 t)=XJ t p:=by simp![Ag,K8,K0,XJ,Bq];grind
def cr0(t:ZO)(p:Pt):Ag (K0 t) (K3 t) (K8 t)=XM t p+Xh t p+XJ t p:=by simp![Ag,K8,K0,K3,XM,Xh,XJ,Bq];grind
def aP{c x:Int}:x<=best true a [b,c]↔x<=a/\x<=b/\x<=c:=by
 simp![best,Td,RA,Ti];split<;>split<;>omega
def aU{c x:Int}:best false a [b,c]<=x↔a<=x/\b<=x/\c<=x:=by
 simp![best,Td,RA,WN,U3];split<;>split<;>omega
def tz(t:ZO)(p:Pt):decide (0<=best true (Ao t*Ag p (K3 t) (K8 t)) [Ao t*Ag (K0 t) p (K8 t),Ao t*Ag (K0 t) (K3 t) p]) =
  (decide (0<=best true (XM t p) [Xh t p,XJ t p])||decide (best false (XM t p) [Xh t p,XJ t p]<=0)):=by
 rw[RX,TH,Xn,Xn,Xn,aP,aP,aU];unfold Ao;rw[cr0 t p,cr1,cr2,cr3];split<;>omega
def fh(a b c:Int):∃m,sortI [a,b,c]=[best true a [b,c],m,best false a [b,c]]:=by
 simp![sortI,insI,best,Td,RA,Ti,WN,U3];by_cases h1:b<=c
 .by_cases h2:a<=b
  .simp only [XN h1,insI,XN h2]
   exact⟨b,by rw[Xy (by lia : ¬ b<a),Xy (by lia : ¬ c<a)];(repeat' split)<;>simp<;>lia⟩
  .by_cases d:a<=c
   .simp only [XN h1,insI,Xy h2,XN d]
    exact⟨a,by(repeat' split)<;>simp<;>omega⟩
   .simp only [XN h1,insI,Xy h2,Xy d]
    exact⟨c,by(repeat' split)<;>simp<;>omega⟩
 .by_cases h2:a<=c
  .simp only [Xy h1,insI,XN h2]
   exact⟨c,by(repeat' split)<;>simp<;>omega⟩
  .by_cases d:a<=b
   .simp only [Xy h1,insI,Xy h2,XN d]
    exact⟨a,by(repeat' split)<;>simp<;>omega⟩
   .simp only [Xy h1,insI,Xy h2,Xy d]
    exact⟨b,by(repeat' split)<;>simp<;>omega⟩
def K9(t:ZO):Prop:=(-100<=t.ax/\t.ax<=100)/\(-100<=t.ay/\t.ay<=100)/\(-100<=t.bx/\t.bx<=100)/\(-100<=t.bY/\t.bY<=100)/\(-100<=t.cx/\t.cx<=100)/\(-100<=t.cy/\t.cy<=100)
def K9.box{t:ZO}(h:K9 t): -100<=Y_ t/\Y9 t<=100 /\ -100<=Y6 t/\Y5 t<=100:=by
 let⟨a,b,c,d,e,f⟩:=h;refine⟨aP.mpr (by lia),aU.mpr (by lia),aP.mpr (by lia),aU.mpr (by lia)⟩
def A9:Int:=1000000000000000000000000000000000000
def Bb(p:Pt):Prop:=(-A9<=p.1/\p.1<=A9)/\(-A9<=p.2/\p.2<=A9)
def e8(ha : -A9<=a/\a<=A9)(hb : -A9<=b/\b<=A9): -As<a-b/\a-b<As:=by
 unfold A9 at ha hb;unfold As;omega
def K9.pA{t:ZO}(h:K9 t):Bb (K0 t):=by let⟨a,b,c,d,e,f⟩:=h;unfold Bb K0 A9;simp![];lia
def K9.pB{t:ZO}(h:K9 t):Bb (K3 t):=by let⟨a,b,c,d,e,f⟩:=h;unfold Bb K3 A9;simp![];lia
def K9.pC{t:ZO}(h:K9 t):Bb (K8 t):=by let⟨a,b,c,d,e,f⟩:=h;unfold Bb K8 A9;simp![];lia
def jB{t:ZO}(h:K9 t):(KZ t).length<=201*201:=by
 let⟨g,e,d,c⟩:=h.box;have:=aV (f:=λx=>((Ap (Y6 t) (Y5 t+1)).filter λy=>AE t (x,y)).map λy=>((x,y):Pt)) (B:=201) (l:=Ap (Y_ t) (Y9 t+1)) λx _=>by
  rw[YK];have:=Qe (λy=>AE t (x,y)) (Ap (Y6 t) (Y5 t+1));rw[bI]at this;lia
 have a:(Ap (Y_ t) (Y9 t+1)).length<=201:=by rw[bI];lia
 have b:(Ap (Y_ t) (Y9 t+1)).length*201<=201*201:=RB _ a;unfold KZ;lia
def t8:(Cz.all λP=>(KU P).all B3)=true:=by decide +kernel
def fD(h:P.ok){t:ZO}(a:t∈KU P):B3 t=true:=Wj.mp (Wj.mp t8 P (cU h)) t a
def kN{t:ZO}(h:B3 t=true):K9 t:=by
 simp![B3,RU,List.all_nil,Bool.and_true,ZC,Xn]at h;unfold K9;omega
def kG{k k':List Int}{v:U}:∀{O:List (List Int×U)},((O.map λb=>if b.1=k then(b.1,v)else b).find? λb=>decide (b.1=k'))=(O.find? λb=>decide (b.1=k')).map λb=>if b.1=k then(b.1,v)else b
 |[]=>rfl
 |a::r=>by
  have ih:=kG (k:=k) (k':=k') (v:=v) (O:=r);rw[Xk,Ud,Ud];have e:decide ((if a.1=k then(a.1,v)else a).1=k')=decide (a.1=k'):=by split<;>rfl
  rw[e];cases decide (a.1=k')with
  |true=>rfl
  |false=>exact ih
def cO{k:List Int}:Aj (dput O k v) k'=if k=k' then some v else Aj O k':=by
 by_cases h:(O.any λa=>decide (a.1=k))=true
 .unfold dput
  rw[XN h];unfold Aj;rw[kG];have hs:=cQ (O:=O) (k:=k);rw[h]at hs;unfold Aj at hs;cases hf:O.find? (λa=>decide (a.1=k'))with
  |none=>
   by_cases e:k=k'
   .subst e;rw[hf]at hs;simp at hs
   .rw [Xy e];rfl
  |some a=>
   have:=List.find?_some hf;simp![Xn]at this;by_cases e:k=k'
   .subst e;simp[this]
   .have e' : ¬ k'=k:=λz=>e z.symm
    rw[Xy e];simp[this,e']
 .unfold dput
  rw[Xy h];unfold Aj;rw[List.find?_append];by_cases e:k=k'
  .subst e
   have hs:=cQ (O:=O) (k:=k);rw[Qk]at h;rw[h]at hs;have b:O.find? (λa=>decide (a.1=k))=none:=by
    unfold Aj at hs;cases hf:O.find? (λa=>decide (a.1=k))with
    |none=>rfl
    |some a=>rw[hf]at hs;simp at hs
   rw[b];simp
  .rw [Xy e]
   cases hf:O.find? (λa=>decide (a.1=k'))with
   |none=>simp[e]
   |some a=>simp
def rD{k:List Int}(h:(Aj O k).isSome=true):(dput O k v).length=O.length:=by
 rw[cQ]at h;unfold dput;rw[XN h];simp
def Af(p:Pt):List Int:=[p.1,p.2]
def bz{q:Pt}(h:Af p=Af q):p=q:=by
 let⟨a,b⟩:=p;let⟨c,d⟩:=q;simpa[Af]using h
def aH:intsOf [.int a,.int b]=some (Af (a,b)):=rfl
def La{a:Type}(key:a->List Int)(f:a->U)(b:List a):List (List Int×U):=b.map λq=>(key q,f q)
def dn{c:Type}{key:c->List Int}(d:∀a b,key a=key b->a=b){f:c->U}{a:c}:∀{ps:List c},a∈ps->Aj (La key f ps) (key a)=some (f a)
 |[],h=>nomatch h
 |b::r,h=>by
  unfold Aj La;rw[Xk,Ud];by_cases e:key b=key a
  .have:=d _ _ e;subst this;simp
  .have h':a∈r:=by
    rcases Wc.mp h with z|z
    .subst z;exact absurd rfl e
    .exact z
   have ih:=dn d (f:=f) h';unfold Aj La at ih;simp![e,decide_false];exact ih
def kX[DecidableEq α]{key:α->List Int}(g:∀a b,key a=key b->a=b){f:α->U}{a:α}{c:List α}(h:a ∉ c):dput (La key f c) (key a) v=La key (λq=>if q=a then v else f q) (c++[a]):=by
 unfold dput;rw[Xy]
 .unfold La
  rw[SF];congr 1
  .refine Qx λq d=>?_
   show(key q,f q)=(key q,if q=a then v else f q)
   rw[Xy (λe=>h (by rw[<-e];exact d))]
  .simp
 .intro hc
  simp![La,Pw,Q7,Function.comp,Xn]at hc;let⟨q,d,e⟩:=hc;exact h (by rw[<-g _ _ e];exact d)
def rZ[DecidableEq α]{key:α->List Int}(d:∀a b,key a=key b->a=b){f:α->U}{a:α}{c:List α}(h:a∈c):dput (La key f c) (key a) v=La key (λq=>if q=a then v else f q) c:=by
 unfold dput;rw[XN]
 .unfold La
  rw[T9];refine Qx λq g=>?_;simp![Function.comp];by_cases e:q=a
  .subst e;simp
  .rw [Xy (λz=>e (d _ _ z)),Xy e]
 .simp only [La,Pw,Q7,Function.comp,Xn]
  exact⟨a,h,rfl⟩
def jC{f:Type}(key:f->List Int)(e:f->U)(j:∀a,keyOf (e a)=some (key a))(v:U):∀(ts:List f) (O:List (List Int×U)),∃c,dfold (ts.map λt=>.Z1 [e t,v]) O=some c/\c.length<=O.length+ts.length /\∀k,Aj c k=if k∈ts.map key then some v else Aj O k
 |[],O=>⟨O,rfl,by simp,λk=>by simp⟩
 |t::ts,O=>by
  let⟨c,h1,h2,o⟩:=jC key e j v ts (dput O (key t) v);refine⟨c,?_,?_,λk=>?_⟩
  .rw [Xk]
   show(Cf O (.Z1 [e t,v])).bind _=_;simp![Cf,j,Vv,Rl];exact h1
  .have:=gw (O:=O) (k:=key t) (v:=v)
   rw[X8];lia
  .rw [o,cO]
   by_cases d:k∈ts.map key
   .rw [XN d,XN (by rw[Xk];exact HS _ d)]
   .rw [Xy d]
    by_cases g:key t=k
    .subst g;rw[XN rfl,XN #[3]]
    .rw [Xy g,Xy]
     rw[Xk,Wc];exactλz=>z.elim (λz=>g z.symm) d
def Lb(xs:List U):List U:=(List.range xs.length).map λ(i:Nat)=>.Z1 [.int (i:Int),(xs[i]?).getD .ZR]
def gA{k:Nat}:(Lb xs)[k]?=(xs[k]?).map λu=>.Z1 [.int k,u]:=by
 unfold Lb;by_cases h:k<xs.length
 .simp [h]
 .simp [h]
def lS:(Lb xs).length=xs.length:=by simp[Lb]
def kE{a k:Nat}(h:g[a]?=some (.S xs)):next (.YN a) k g=some (Lb xs)[k]?:=by
 simp![next,h,gA]
def j2{b k:Nat}{key:α->List Int}{f:α->U}{a:List α}(h:g[b]?=some (.Zu (La key f a))):next (.ZN b) k g=some (a.map λp=>U.Z1 ((key p).map .int))[k]?:=by
 simp![next,h,La,Wd];cases a[k]?<;>rfl
def rJ{k:List Int}(h:g[n]?=some (.Zu O))(a:intsOf J=some k):Aq (.Z1 J) (.ref n) g=some (Aj O k):=by
 simp![Aq,JI,h,keyOf,a,Vv]
def gi{k:List Int}(h:JI u g=some O)(a:intsOf J=some k):Aq (.Z1 J) u g=some (Aj O k):=by
 simp![Aq,h,keyOf,a,Vv]
def AA(t:ZO):Int:=(t.bx-t.ax)*(t.cy-t.ay)-(t.bY-t.ay)*(t.cx-t.ax)
def CD(t:ZO)(a b c:Int):Int:=(b-a)*(t.cy-t.ay)-(c-a)*(t.bY-t.ay)
def Cq(t:ZO)(a b c:Int):Int:=(c-a)*(t.bx-t.ax)-(b-a)*(t.cx-t.ax)
def Dh(t:ZO)(a b c:Int):Int:=a*AA t-CD t a b c*t.ax-Cq t a b c*t.ay
abbrev Ht:=Pt->Int
abbrev VU(H:Ht)(t:ZO):Int:=CD t (H (K0 t)) (H (K3 t)) (H (K8 t))
abbrev VT(H:Ht)(t:ZO):Int:=Cq t (H (K0 t)) (H (K3 t)) (H (K8 t))
abbrev VS(H:Ht)(t:ZO):Int:=Dh t (H (K0 t)) (H (K3 t)) (H (K8 t))
def B1(H:Ht)(t:ZO)(p:Pt):Int:=H p*AA t-(VU H t*p.1+VT H t*p.2+VS H t)
def Bo(H:Ht)(t:ZO)(p:Pt):Int:=((B1 H t p).natAbs:Int)
def AK(H:Ht)(t:ZO)(a:Int×Option Pt)(p:Pt):Int×Option Pt:=if a.1<Bo H t p then(Bo H t p,some p)else a
def Df(H:Ht)(t:ZO):Int×Option Pt:=(KZ t).foldl (AK H t) (-1,none)
def G7(H:Ht)(t:ZO):Pt:=Es (Df H t).1 ((AA t).natAbs:Int)
abbrev uG(H:Ht)(t:ZO):U:=.Z1 [uP (G7 H t),KR (Df H t).2]
def Gc(a b:Pt):Prop:=a.1*b.2<b.1*a.2
instance{a b:Pt}:Decidable (Gc a b):=by unfold Gc;infer_instance
def jG{t:ZO}:p∈KZ t↔AE t p=true:=by
 let⟨x,y⟩:=p;unfold KZ;simp![Tt,gx,VR,Pe,QZ];constructor
 .rintro ⟨a,d,b,⟨c,hc⟩,rfl,rfl⟩;exact hc
 .intro h
  have c:Bn t (x,y)=true:=by unfold AE at h;exact(Bool.and_eq_true_iff.mp h).1
  simp![Bn,ZC,Xn]at c;exact⟨x,by omega,y,⟨by omega,h⟩,rfl,rfl⟩
def Lc(P:Plan)(t:ZO):Bool:=Ax P (K0 t)&&(Ax P (K3 t)&&Ax P (K8 t))
def Le(t:ZO):Bool:=decide (0<(AA t).natAbs)&&decide ((AA t).natAbs<=1000)
def uB:(Cz.all λP=>(KU P).all λt=>Lc P t&&Le t)=true:=by decide +kernel
def cF(h:P.ok){t:ZO}(a:t∈KU P):Lc P t=true/\0<(AA t).natAbs/\(AA t).natAbs<=1000:=by
 have:=Wj.mp (Wj.mp uB P (cU h)) t a;simpa[Le]using this
def bW:Ax P p=true↔0<=p.1/\p.1<=P.w*P.s/\0<=p.2/\p.2<=P.d*P.s:=by
 simp![Ax,ZC,Xn];lia
def eP{t:ZO}(h:Lc P t=true):Ax P (K0 t)=true/\Ax P (K3 t)=true/\Ax P (K8 t)=true:=by simpa[Lc]using h
def kA{t:ZO}(h:Lc P t=true)(hp:p∈KZ t):Ax P p=true:=by
 let⟨h1,h2,e⟩:=eP h;rw[bW]at *;have f:Bn t p=true:=by have:=jG.mp hp;unfold AE at this;exact(Bool.and_eq_true_iff.mp this).1
 simp![Bn,ZC,Xn]at f;let⟨⟨u,r⟩,q,o⟩:=f;have m1:0<=Y_ t:=(aP (a:=t.ax) (b:=t.bx) (c:=t.cx) (x:=0)).mpr ⟨h1.1,h2.1,e.1⟩;have n:Y9 t<=P.w*P.s:=(aU (a:=t.ax) (b:=t.bx) (c:=t.cx) (x:=P.w*P.s)).mpr ⟨h1.2.1,h2.2.1,e.2.1⟩;have m:0<=Y6 t:=(aP (a:=t.ay) (b:=t.bY) (c:=t.cy) (x:=0)).mpr ⟨h1.2.2.1,h2.2.2.1,e.2.2.1⟩;have l:Y5 t<=P.d*P.s:=(aU (a:=t.ay) (b:=t.bY) (c:=t.cy) (x:=P.d*P.s)).mpr ⟨h1.2.2.2,h2.2.2.2,e.2.2.2⟩;generalize Y_ t=k at *;generalize Y9 t=j at *;generalize Y6 t=i at *;generalize Y5 t=g at *;lia
def qD{t:ZO}:K0 t∈KZ t:=by
 rw[jG];unfold AE Bn;have b:XM t (K0 t)=0:=by simp![XM,Bq,K0];grind
 have a:XJ t (K0 t)=0:=by simp![XJ,Bq,K0];grind
 rw[b,a];simp![ZC,TH,Xn,aP,aU,Y_,Y9,Y6,Y5,best,Td,RA,Ti,WN,U3,K0];omega
def mf{A B:Nat}(d:a.natAbs<=A)(c:b.natAbs<=B):(a*b).natAbs<=A*B:=by
 rw[Int.natAbs_mul];exact Nat.mul_le_mul d c
def yk{t:ZO}(h:B3 t=true):t.ax.natAbs<=31/\t.ay.natAbs<=31/\t.bx.natAbs<=31/\t.bY.natAbs<=31/\t.cx.natAbs<=31/\t.cy.natAbs<=31:=by
 simp![B3,RU,List.all_nil,Bool.and_true,ZC,Xn]at h;omega
def Lf(P:Plan)(H:Ht):Prop:=∀p,Ax P p=true -> -1000<=H p/\H p<=1000
def Lg(ax ay bx c b a:Nat):Bool:=Nat.ble (c*b+bx*ay+ax*a) (bx*a+c*ax+ay*b)
def l1(ax ay bx c b a:Nat):Bool:=Nat.ble (bx*a+c*ax+ay*b) (c*b+bx*ay+ax*a)
def Lh:List (Nat×Nat):=(List.range 9).flatMap λx=>(List.range 9).map λy=>(x,y)
set_option maxRecDepth 1000000 in
def v9:((Lh.map λz=>hkL [(z.1:Int),(z.2:Int)]).Nodup):=by decide +kernel
def nq{i j:Type}{f:i->j}:∀{l:List i},(l.map f).Nodup ->∀{a b:i},a∈l->b∈l->f a=f b->a=b
 |[],_,_,_,h,_,_=>by cases h
 |x::l,d,a,b,g,c,e=>by
  rw[Xk,SD]at d;rcases Wc.mp g with rfl|g
  .rcases Wc.mp c with rfl|c
   .rfl
   .exact absurd (VR.mpr ⟨b,c,e.symm⟩) d.1
  .rcases Wc.mp c with k|c
   .exact absurd (VR.mpr ⟨a,g,by rw[e,k]⟩) d.1
   .exact nq d.2 g c e
def Li(p:Pt):List Int:=[p.1,p.2]
def Lj(z:Nat×Nat):Pt:=((z.1:Int),(z.2:Int))
def sS{x y:Nat}:(x,y)∈Lh↔x<=8/\y<=8:=by
 unfold Lh;simp![Tt,VR,QA,QZ];constructor
 .rintro ⟨a,d,b,c,rfl,rfl⟩;lia
 .intro h;exact⟨x,by lia,y,by lia,rfl,rfl⟩
def uI{q:Pt}(hp:∃z∈Lh,p=Lj z)(c:∃z∈Lh,q=Lj z)(e:hkL (Li p)=hkL (Li q)):p=q:=by
 let⟨z,a,rfl⟩:=hp;let⟨y,b,rfl⟩:=c;rw[nq v9 a b e]
section
variable{M:List Fn}
def nP{it:Iter}{t:Tg}{b:E}{Q:List U->G->Prop}(J:List U)(a:Nat->List U->G->Prop)
  (c:∀k ZW g,a k ZW g->next it k g=some J[k]?)
  (f:∀k u ZW,J[k]?=some u->AO t Y=true/\Ku (Ai t u Y) (lk λe=>∀g,a k ZW g->Kj M d b e g (λ_ _ _=>False) λv g=>a (k+1) (ZW++[v]) g))
  (o:J.length<16777000) (j:∀vs g,a J.length vs g->vs.length=J.length->Q vs g) :
  ∀(n i:Nat) (ZW:List U) (g:G),i+n=J.length->ZW.length=i->a i ZW g->Kt M d it i t [] [] b ZW Y g X Q
 |0,i,ZW,g,s,l,h=>by
  rw[bC];refine⟨none,by rw[c _ _ _ h];simp;lia,?_⟩
  obtain rfl:i=J.length:=by lia
  exact j ZW g h l
 |n+1,i,ZW,g,s,l,h=>by
  have hi:i<J.length:=by lia
  let⟨q,w⟩:=f i J[i] ZW (Vj hi);let⟨e,r,m⟩:=aY.2 w;rw[bC];refine⟨some J[i],by rw[c _ _ _ h];simp[hi],q,e,r,nT.2 ?_⟩
  rw[XN rfl];refine wp_mono (m g h) λv g p=>⟨by simp![Ac];lia,?_⟩
  exact nP J a c f o j n (i+1) _ g (by lia) (by simp;lia) p
theorem M_ix{t:Tg}{g:G}(J:List U)(a:Nat->List U->G->Prop)
  (e:∀k ZW g,a k ZW g->next it k g=some J[k]?)
  (b:∀k u ZW,J[k]?=some u->AO t Y=true/\Ku (Ai t u Y) (lk λi=>∀g,a k ZW g->Kj M d elt i g (λ_ _ _=>False) λv g=>a (k+1) (ZW++[v]) g))
  (f:J.length<16777000) (h:a 0 [] g) (c:∀vs g,a J.length vs g->vs.length=J.length->Q vs g):Kt M d it 0 t [] [] elt [] Y g X Q:=
 nP J a e b f c J.length 0 [] g (Sf _) rfl h
end
def acH(g:P.w*P.s<=8)(f:P.d*P.s<=8){q:Pt}(hp:Ax P p=true)(c:Ax P q=true)(e:hkL (Af p)=hkL (Af q)):p=q:=by
 have at_:∀{p:Pt},Ax P p=true ->∃z∈Lh,p=Lj z:=λ{p} hp=>by
  have:=bW.mp hp;let⟨x,b⟩:=Q8 (show 0<=p.1 by lia)
  let⟨y,a⟩:=Q8 (show 0<=p.2 by lia)
  exact⟨(x,y),sS.mpr (),Prod.ext b a⟩
 exact uI (at_ hp) (at_ c) e
def yx{f:Pt->U}(n:P.w*P.s<=8)(l:P.d*P.s<=8)(o:Ad P≠[])(h:JI (.ref m) g=some (La Af f (Ad P))):Dv [.ref m] g=.ok (.ref g.length) (g++[.ZN (La Af f (Ad P))]):=by
 have r:(La Af f (Ad P)).map (·.1)=(Ad P).map Af:=by unfold La;rw[T9];rfl
 simp![Dv,h];rw[XN]
 .rfl
 .refine ⟨by unfold La;simpa using o,λa i b c e=>?_⟩
  rw[r]at i c;let⟨p,k,rfl⟩:=VR.mp i;let⟨q,j,rfl⟩:=VR.mp c;rw[acH n l (bF.mp k) (bF.mp j) e]
def Ee(P:Plan)(H:Ht)(y:Int):Dt:=.S ((KN (P.w*P.s+1)).map λx=>.int (H (x,y)))
def CG(P:Plan)(H:Ht):Dt:=.S ((KN (P.d*P.s+1)).map (Ee P H))
def u9{H:Ht}(b:P.ok):(CG P H).ok (n+3):=by
 have:=b.ws;have:=b.ds;unfold CG Ee;rw[Dt.S_];refine⟨by rw[YK,ar];omega,λD a=>?_⟩
 let⟨y,_,rfl⟩:=VR.mp a;rw[Dt.S_];refine⟨by rw[YK,ar];lia,λD a=>?_⟩
 let⟨x,_,rfl⟩:=VR.mp a;exact bB
def lM{g:G}:∀{ds:List Dt} {J:List U},J.length=ds.length->(∀(i:Nat) (D:Dt) (u:U),ds[i]?=some D->J[i]?=some u->Rep g D u)->Reps g ds J
 |[],J,h,_=>by
  cases J with
  |nil=>simp![Reps]
  |cons _ _=>cases h
 |D::ds,J,h,k=>by
  cases J with
  |nil=>cases h
  |cons u J=>
   simp![Reps];exact⟨u,J,rfl,k 0 D u rfl rfl,lM (by simpa using h) λi D u h1 h2=>k (i+1) D u (by simpa using h1) (by simpa using h2)⟩
end
end PI
namespace ZI
noncomputable section
variable{Q:Fl->G->Prop}{P:Plan}{p:Pt}{i a:Int}{ts:List ZO}{o:Z6}{v hc mk:Nat}{H:Ht}{R:Nat->Prop}
open PI
section
variable{X:XP}{Q:U->G->Prop}
def pD(h:Q (.bl true) g):Ki M (d+1) 0 [.int i] g X Q:=by
 simp? only[Fw];simp?;exact h
def rm(a:P.ok)(h:Q (.bl (Ax P p)) g):Ki M (d+1) 1 [Zm P,uP p] g X Q:=by
 have h1:=a.ss;simp? only[Fz]
 simp?[*];simp![Ax]at h;refine ai (λk1=>?_) λk1=>by simp?[*];simpa[k1]using h
 simp?[*];refine ai (λk2=>?_) λk2=>?_
 .simp? [*]
  refine ai (λk3=>?_) λk3=>by simp?[*];simpa[k1,k2,k3]using h
  simp?[*];simpa[k1,k2,k3]using h
 .simp? [*];simpa[k1,k2]using h
def iO(a:P.ok)(hp:Ax P p=true)(h:Q .ZR g):Ki M (d+2) 2 [Zm P,uP p] g X Q:=by
 simp? only[Fd]
 simp?;refine rm a ?_;simp?;simp![hp];simp?;exact h
def oK{j s:Int}(a:small s)(h:A2 g ((Ar i j s).map uT) Q):Ki M (d+1) 4 [.int i,.int j,.int s] g X Q:=by
 simp? only[E2]
 simp?[a];unfold Ar at h;refine ai (λk1=>?_) λk1=>?_
 .have k2:(i+j) % 2=0:=by simpa using k1
  simp?[a];rw[XN k2]at h;exact h _ _ (HR _) ah
 .have k2 : ¬ (i+j) % 2=0:=by simpa using k1
  simp?[a];rw[Xy k2]at h;exact h _ _ (HR _) ah
def uR(c:P.ok)(h:A2 g ((KS P).map uT) Q):Ki M (d+2) 5 [Zm P] g X Q:=by
 have y:=c.ss;have E:=fN c;have z:(KN P.w).length<=3:=by rw[ar];rcases c.w with e|e|e<;>rw[e]<;>decide
 have A:(KN P.d).length<=3:=by rw[ar];rcases c.d with e|e|e<;>rw[e]<;>decide
 have r:Ah P.w=true:=by rcases c.w with e|e|e<;>rw[e]<;>exact ak #[1] #[1]
 have r2:Ah P.d=true:=by rcases c.d with e|e|e<;>rw[e]<;>exact ak #[1] #[1]
 have a:∀i,((KN P.d).flatMap λj=>(Ar i j P.s).map uT).length<=6:=λi=>by
  have:=aV (f:=λj=>(Ar i j P.s).map uT) (B:=2) (l:=KN P.d) λj _=>by rw[YK,cN];lia
  lia
 simp? only[FP]
 simp?[r];refine iD (KN P.w) U.int (λi=>(KN P.d).flatMap λj=>(Ar i j P.s).map uT) (λg'=>∃gs,g'=g++gs) 8 (λk g' _=>aC) (λi _=>HP (a i) #[1]) (λi hi=>?_) _ 0 _ _ (Sf _) (by simp![Vq];lia) ⟨[],by simp⟩ ?_
 .simp? [r2]
  rintro g' ZW ⟨gs,rfl⟩ o;refine iD (KN P.d) U.int (λj=>(Ar i j P.s).map uT) (λg'=>∃gs,g'=g++gs) 2 (λk g' _=>aC) (λj _=>by rw[YK,cN];lia) (λj F=>?_) _ 0 _ _ (Sf _) (by lia) ⟨gs,rfl⟩ ?_
  .simp?
   rintro g' ZW ⟨gs,rfl⟩ o;refine oK y λu n D e=>?_;simp?[e];refine yH (Ar i j P.s) uT (λ_=>true) uT (λg'=>g'=g++gs++u) ZW (λk g' e'=>by rw[e',bw e]) (λt C=>?_) (by rw[cN];lia) rfl ?_
   .simp?
    rintro g' rfl;trivial
   .rintro g' rfl
    exact⟨by rw[d8],_,Xz ..⟩
  .rintro g' ⟨gs,rfl⟩
   exact⟨rfl,_,rfl⟩
 .rintro g' ⟨gs,rfl⟩
  have e:([]++List.flatMap (λi=>List.flatMap (λj=>(Ar i j P.s).map uT) (KN P.d)) (List.drop 0 (KN P.w)))=(KS P).map uT:=by
   simp[KS,List.map_flatMap]
  rw[e];exact eB h (by rw[YK];lia)
def kO{t:ZO}(h:Q (KR (Bd t)) g):Ki M (d+1) 6 [uT t] g X Q:=by
 have c:(2:Int)<As:=by decide
 simp? only[FD]
 simp?[slc4];unfold Bd at h;refine ai (λk1=>?_) λk1=>?_
 .have a:(t.ax+t.bx) % 2=1:=by simpa using k1
  rw[XN (.inl a)]at h;simp?;exact h
 .have a : ¬ (t.ax+t.bx) % 2=1:=by simpa using k1
  simp?;refine ai (λk2=>?_) λk2=>?_
  .have b:(t.ay+t.bY) % 2=1:=by simpa using k2
   rw[XN (.inr b)]at h;simp?;exact h
  .have b : ¬ (t.ay+t.bY) % 2=1:=by simpa using k2
   rw[Xy (by lia)]at h
   simp?[c];exact h
def sE{t:ZO}{m:Pt}(a:Bd t=some m)(h:A2 g ((Ak t).map uT) Q):Ki M (d+2) 7 [uT t] g X Q:=by
 rw[cL a]at h;simp? only[FE]
 simp?;refine kO ?_;rw[a];simp?[KR];exact h _ _ (HR _) ah
def abM{a:List ZO}(e:g[n]?=some (.S (a.map uT)))(J:∀t∈a,AS 7 t=true)(I:(a.flatMap An).length<16770000)(h:A2 g ((a.flatMap An).map uT) Q):Ki M (d+3) 8 [.ref n] g X Q:=by
 simp? only[Gk]
 simp?[ae e];obtain⟨B,C⟩:∃B:G,B=[]:=⟨_,rfl⟩;have A:(a.flatMap An).length<16770000:=I;refine fg (λm Y g'=>∃(T W:List ZO) (gs:G) (o:Option U),T++W.reverse.flatMap An=a.flatMap An/\(W.flatMap An).length=m/\(∀t∈W,AS 7 t=true)/\g'=(g ++ .S (T.map uT)::(B ++ .S (W.map uT)::gs))/\Y=[some (.ref n),some (.ref (g).length),some (.ref ((g).length+1+(List.length B))),o]) ?_ (a.reverse.flatMap An).length _ _ ⟨[],a.reverse,[],none,by simp,rfl,λt j=>J t (Ql.mp j),by simp[C],by simp[C]⟩
 rintro m Y g' ⟨T,W,gs,o,hT,hm,u,rfl,rfl⟩;rcases List.eq_nil_or_concat W with R|⟨W',t,rfl⟩
 .subst R
  have P:T=a.flatMap An:=by simpa using hT
  have g2:(g ++ .S (T.map uT)::(B ++ .S []::gs))[(g).length+1+(List.length B)]?=some (.S []):=bq;simp?[g2,RL,Vq,Int.natCast_zero];rw[P];refine h _ _ (HR _) eJ
 .have j:AS 7 t=true:=u t #[3]
  have k:T++([t]++((Ak t).flatMap An++W'.reverse.flatMap An))=a.flatMap An:=by
   rw[<-hT];simp[eE j]
  have H:(W'.flatMap An).length+(1+((Ak t).flatMap An).length)=m:=by
   rw[<-hm];simp![List.concat_eq_append,Rh,TX,List.flatMap_nil,Tc,Xq,eE j,X8];lia
  have z:T.length+1<=(a.flatMap An).length:=by rw[<-k];simp![Xq,X8,Vq];lia
  have y:W'.length<=(a.flatMap An).length:=by
   have O:W'.reverse.length<=(W'.reverse.flatMap An).length:=gp λx _=>jM x;rw[Rg]at O;rw[<-k];simp![Xq,X8,Vq];lia
  have F:(W'.concat t).map uT=W'.map uT++[uT t]:=by simp
  have g2:(g ++ .S (T.map uT)::(B ++ .S (W'.map uT++[uT t])::gs))[(g).length+1+(List.length B)]?=some (.S (W'.map uT++[uT t])):=bq;have D:(g ++ .S (T.map uT)::(B ++ .S (W'.map uT)::gs))[(g).length]?=some (.S (T.map uT)):=eJ;have pop:Bw ((g).length+1+(List.length B)) (g ++ .S (T.map uT)::(B ++ .S (W'.map uT++[uT t])::gs))=.ok (uT t) (g ++ .S (T.map uT)::(B ++ .S (W'.map uT)::gs)):=by
   rw[jn g2,eG]
  have app:A5 (g).length (uT t) (g ++ .S (T.map uT)::(B ++ .S (W'.map uT)::gs))=.ok .ZR (g ++ .S ((T++[t]).map uT)::(B ++ .S (W'.map uT)::gs)):=by
   rw[cS D (by rw[YK];lia),kH];simp
  have L:(g ++ .S ((T++[t]).map uT)::(B ++ .S (W'.map uT)::gs))[(g).length+1+(List.length B)]?=some (.S (W'.map uT)):=bq;have Z:decide ((0:Int)<((W'.map uT).length+1:Nat))=true:=by simp;try omega
  have r:(0:Int)<((W'.map uT).length+1:Nat):=by lia
  rw[F];simp?[g2,l9,Xq,r,pop,D,app];refine kO ?_;cases w:Bd t with
  |none=>
   simp?[KR,AG];exact⟨(W'.flatMap An).length,by lia,T++[t],W',gs,_,by rw[<-k,iQ w];simp,rfl,λx c=>u x (by simp[c]),rfl,rfl⟩
  |some q=>
   simp?[KR,AG,L];refine sE w λf V X1 E=>?_;rw[cj]at E ⊢;simp?[E];rw[cj];have K:(g ++ .S ((T++[t]).map uT)::(B ++ .S (W'.map uT)::(gs++f++[.S ((Ak t).map uT).reverse])))[(g).length+1+(List.length B)]?=some (.S (W'.map uT)):=bq;have N:(g ++ .S ((T++[t]).map uT)::(B ++ .S (W'.map uT)::(gs++f++[.S ((Ak t).map uT).reverse])))[(List.length (g ++ .S ((T++[t]).map uT)::(B ++ .S (W'.map uT)::(gs++f))))]?=some (.S ((Ak t).map uT).reverse):=by
    rw[<-cj];exact ah
   have hh:(Ak t).length<=2:=by rw[cL w];simp[Dr]
   have ext:Bx ((g).length+1+(List.length B)) (.ref (List.length (g ++ .S ((T++[t]).map uT)::(B ++ .S (W'.map uT)::(gs++f))))) (g ++ .S ((T++[t]).map uT)::(B ++ .S (W'.map uT)::(gs++f++[.S ((Ak t).map uT).reverse])))=.ok .ZR (g ++ .S ((T++[t]).map uT)::(B ++ .S ((W'++(Ak t).reverse).map uT)::(gs++f++[.S ((Ak t).map uT).reverse]))):=by
    rw[jm K N (by rw[YK,Rg,YK];lia),eG]
    simp
   simp?[ext];refine⟨((W'++(Ak t).reverse).flatMap An).length,?_,T++[t],W'++(Ak t).reverse,_,_,?_,rfl,λx c=>?_,rfl,rfl⟩
   .rw [Rh,Xq,fw];lia
   .rw [<-k];simp
   .rcases Rt.mp c with c|c
    .exact u x (by simp[c])
    .exact fY 6 x (fX j (Ql.mp c))
def sG(a:P.ok)(h:A2 g ((KU P).map uT) Q):Ki M (d+4) 9 [Zm P] g X Q:=by
 have r:=(cM a).2;simp? only[FA]
 simp?;refine uR a λgs n o e=>?_;simp?;refine abM e (λt f=>fQ a f) (by show(KU P).length<_;lia) λu k j c=>?_
 simp?;rw[Xz]at c ⊢;exact h _ _ (HP #[3] j) c
def ic{ax ay bx a:Int}(c:small (bx-ax))(b:small (a-ay))(h:Q (.int (Bq ax ay bx a p)) g):Ki M (d+1) 10 [.int ax,.int ay,.int bx,.int a,uP p] g X Q:=by
 simp? only[FR]
 simp?[c,b];exact h
def nW{t:ZO}(h:Q (.Z1 [.int (Y_ t),.int (Y6 t),.int (Y9 t),.int (Y5 t)]) g):Ki M (d+1) 11 [uT t] g X Q:=by
 simp? only[Gg]
 simp?[BS,intsOf];exact h
def tB{t:ZO}(h:Q (.bl (Bn t p)) g):Ki M (d+2) 12 [uT t,uP p] g X Q:=by
 simp? only[FG]
 simp?;refine nW ?_;simp?;simp![Bn]at h;refine ai (λk1=>?_) λk1=>by simp?[*];simpa[k1]using h
 simp?[*];refine ai (λk2=>?_) λk2=>?_
 .simp? [*]
  refine ai (λk3=>?_) λk3=>by simp?[*];simpa[k1,k2,k3]using h
  simp?[*];simpa[k1,k2,k3]using h
 .simp? [*];simpa[k1,k2]using h
def r9{t:ZO}(c:K9 t)(h:∀gs,Q (.bl (AE t p)) (g++gs)):Ki M (d+3) 13 [uT t,uP p] g X Q:=by
 let⟨l,k,j,i,f,e⟩:=c;simp? only[FC]
 simp?;refine ic (av () ()) (av () ()) ?_
 simp?;refine ic (av () ()) (av (by lia) ()) ?_
 simp?;refine ic (av () ()) (av () ()) ?_
 simp?;refine tB ?_;unfold AE at h;have a:AN [.ref g.length] (g++[.S [.int (XM t p),.int (Xh t p),.int (XJ t p)]])=some [XM t p,Xh t p,XJ t p]:=by
  simp![AN,ah];rfl
 cases b:Bn t p with
 |false=>
  simp?;rw[b]at h;exact h _
 |true=>
  rw[b]at h;simp![XM,Xh,XJ]at a h;simp?[BS,intsOf,a];refine ai (λk1=>?_) λk1=>?_
  .simp? [*]
   simpa[k1]using h [.S [.int (XM t p),.int (Xh t p),.int (XJ t p)]]
  .simp? [BS,intsOf,a]
   simpa[k1]using h [.S [.int (XM t p),.int (Xh t p),.int (XJ t p)]]
def vT{t:ZO}(b:K9 t)(h:A2 g ((KZ t).map uP) Q):Ki M (d+4) 14 [uT t] g X Q:=by
 let⟨r,q,o,n⟩:=b.box;have m:=jB b;have k1:Y_ t<=100:=by let⟨a,_⟩:=b;have:=(aP (x:=Y_ t)).mp (RE _);lia
 have k2:Y6 t<=100:=by let⟨_,a,_⟩:=b;have:=(aP (x:=Y6 t)).mp (RE _);lia
 have k3 : -100<=Y9 t:=by let⟨a,_⟩:=b;have:=(aU (x:=Y9 t)).mp (RE _);lia
 have i : -100<=Y5 t:=by let⟨_,a,_⟩:=b;have:=(aU (x:=Y5 t)).mp (RE _);lia
 have f:Ah (Y_ t)=true:=ak (by lia) (by lia)
 have r2:Ah (Y9 t+1)=true:=ak (by lia) (by lia)
 have e:Ah (Y6 t)=true:=ak (by lia) (by lia)
 have c:Ah (Y5 t+1)=true:=ak (by lia) (by lia)
 simp? only[FL]
 simp?;refine nW ?_;simp?[f,r2];refine aax (Ap (Y_ t) (Y9 t+1)) U.int (λ_=>Ap (Y6 t) (Y5 t+1)) U.int (λx y=>AE t (x,y)) (λx y=>uP (x,y)) (λg'=>∃gs,g'=g++gs) 201 ((KZ t).map uP) (by simp[KZ,List.map_flatMap,Function.comp_def]) (λk g' _=>dY) (λx l=>⟨by rw[bI];lia,?_⟩) (by rw[bI];lia) ⟨[],by simp⟩ ?_
 .simp? [e,c]
  rintro g' ⟨gs,rfl⟩;refine⟨⟨gs,rfl⟩,λk g' _=>dY,λy j=>?_⟩;rintro g' ⟨gs,rfl⟩;refine r9 (p:=(x,y)) b λs=>?_;simp?;cases hc:AE t (x,y)with
  |_=>simp?;exact⟨_,Xz ..⟩
 .rintro g' ⟨gs,rfl⟩
  refine eB h ?_;rw[YK];lia
def tH{a b:Nat}(h:Q (.int (Nat.gcd a b:Nat)) g):Ki M (d+1) 16 [.int a,.int b] g X Q:=by
 simp? only[FH]
 simp?;refine fg (λm Y g'=>g'=g /\∃x y:Nat,Nat.gcd x y=Nat.gcd a b/\y=m/\Y=[some (.int x),some (.int y)]) ?_ b _ _ ⟨rfl,a,b,rfl,rfl,rfl⟩;rintro m Y g' ⟨rfl,x,y,e,rfl,rfl⟩;simp?[Bool.not_not];refine ai (λk1=>?_) λk1=>?_
 .have c:0<y:=by simp at k1;lia
  have f:(0:Int)<y:=by lia
  simp?[f];refine⟨x % y,Nat.mod_lt _ c,y,x % y,?_,rfl,?_⟩
  .rw [<-e,Pd y,<-Nat.gcd_rec,Pd]
  .simp
 .have c:y=0:=by simp at k1;lia
  subst c;simp?;rw[<-e]at h;simpa using h
def vY{b:Int}(c:b≠0)(j:YB b)(h:Q (uP (Es a b)) g):Ki M (d+2) 15 [.int a,.int b] g X Q:=by
 let⟨i,f⟩:=lr (a:=a) c j;simp? only[FN]
 simp?[c,c7];refine tH ?_;simp?;refine ai (λk1=>?_) λk1=>?_
 .have k2:b<0:=by simpa using k1
  have e:(-(Nat.gcd a.natAbs b.natAbs:Int))=Bc a b:=by unfold Bc;rw[XN k2]
  simp?[e,eZ i f];exact h
 .have k2 : ¬ b<0:=by simpa using k1
  have e:((Nat.gcd a.natAbs b.natAbs:Nat):Int)=Bc a b:=by unfold Bc;rw[Xy k2]
  simp?[e,eZ i f];exact h
def oM(h1 : -1000<=i)(a:i<=1000)(h:Q .ZR g):Ki M (d+2) 18 [u,.int i] g X Q:=by
 simp? only[EY]
 simp?;refine pD ?_;have c:decide (i < -1000)=false:=by simpa using h1
 have b:decide (1000<i)=false:=by simpa using a
 simp?[c,b];exact h
def iY{m:Int}(b:g[n]?=some (.S J))(a:m=J.length)(h:Q .ZR g):Ki M (d+1) 19 [.ref n,.int m] g X Q:=by
 subst a;simp? only[Ft]
 simp?[b];exact h
def RowsAt(g:G)(n:Nat)(P:Plan)(H:Ht):Prop:=∃ms:List Nat,g[n]?=some (.S (ms.map U.ref))/\ms.length=(P.d*P.s+1).toNat /\∀(y m:Nat),ms[y]?=some m->g[m]?=some (.S ((KN (P.w*P.s+1)).map λx=>.int (H (x,(y:Int)))))
def AI(P:Plan)(d a:Int)(b e f g c:Nat):Z6:=.ins 211529932 [(509789213455080,.ref b),(232289904,Zm P),(487627477906021,.int d),(31083624820,.int a),(31083802852,.ref e),(213628900,.ref f),(3500095911797,.ref g),(243020007,.ref c)]
structure Y0(g:G)(v:Nat)(P:Plan)(H:Ht)(hN gN:Nat):Prop where
 ins:∃ed tr dN Zq Zp,g[v]?=some (AI P ed tr hN dN Zq Zp gN)
 Wy:∃hk,g[hN]?=some (.ZN hk) /\∀p,Ax P p=true->Aj hk (Af p)=some (.int (H p))
 gps:∃gk,g[gN]?=some (.ZN gk)/\gk.length<=5000/\(∀t∈KU P,Aj gk (AB t)=some .ZR\/Aj gk (AB t)=some (uG H t)) /\∀t,t ∉ KU P->Aj gk (AB t)=none
 Zg:hN≠gN
structure Kp(n:Nat)(g g':G):Prop where
 len:g.length<=g'.length
 get:∀(k:Nat) (o:Z6),k≠n->g[k]?=some o->g'[k]?=some o
def Kp.refl:Kp n g g:=⟨HR _,λ_ _ _ e=>e⟩
def Kp.app:Kp n g (g++gs):=⟨by simp,λ_ _ _ e=>ae e⟩
def Kp.trans{a b c:G}(h:Kp n a b)(k:Kp n b c):Kp n a c:=⟨HP h.len k.len,λi o hi e=>k.get i o hi (h.get i o hi e)⟩
def Kp.set{n:Nat}{g:G}{o:Z6}:Kp n g (g.set n o):=⟨by simp,λk o' hk e=>by rw[X9 (Ne.symm hk)];exact e⟩
def Y0.app(h:Y0 g v P H hN gN):Y0 (g++gs) v P H hN gN:=by
 let⟨⟨i,a,j,k,l,h1⟩,⟨hk,h2,e⟩,⟨f,d,c⟩,b⟩:=h;exact⟨⟨i,a,j,k,l,ae h1⟩,⟨hk,ae h2,e⟩,⟨f,ae d,c⟩,b⟩
def Y0.kp{k:Nat}(h:Y0 g v P H hN gN)(q:Kp k g g')(k1:k≠v)(k2:k≠hN)(k3:k≠gN):Y0 g' v P H hN gN:=by
 let⟨⟨i,a,j,l,m,h1⟩,⟨hk,h2,e⟩,⟨f,d,c⟩,b⟩:=h;exact⟨⟨i,a,j,l,m,q.get _ _ (Ne.symm k1) h1⟩,⟨hk,q.get _ _ (Ne.symm k2) h2,e⟩,⟨f,q.get _ _ (Ne.symm k3) d,c⟩,b⟩
def Y0.fr(h:Y0 g v P H hN gN)(q:Fr g g')(k1:3<=v)(k2:3<=hN)(k3:3<=gN):Y0 g' v P H hN gN:=by
 let⟨⟨i,a,j,k,l,h1⟩,⟨hk,h2,e⟩,⟨f,d,c⟩,b⟩:=h;exact⟨⟨i,a,j,k,l,q.get _ _ k1 h1⟩,⟨hk,q.get _ _ k2 h2,e⟩,⟨f,q.get _ _ k3 d,c⟩,b⟩
def Y0.lt(h:Y0 g v P H hN gN):v<g.length/\hN<g.length/\gN<g.length/\v≠gN:=by
 let⟨⟨i,b,j,k,l,h1⟩,⟨hk,h2,e⟩,⟨f,a,d⟩,c⟩:=h;refine⟨(Yh.mp h1).1,(Yh.mp h2).1,(Yh.mp a).1,?_⟩;rintro rfl;rw[h1]at a;simp[AI]at a
def Bag.kp{k:Nat}(h:Bag g)(q:Kp k g g')(b:3<=k):Bag g':=by
 let⟨xs,a,s,h1,h2⟩:=h;exact⟨xs,a,s,q.get _ _ () h1,q.get _ _ () h2⟩
def Fr.Tw(h:Fr g g')(f:g.length<=m)(d:3<=m):Fr g (g'.set m o):=by
 let⟨⟨xs,a,s,c,b⟩,l,q⟩:=h;refine⟨⟨xs,a,s,by rw[X9 (by lia)];exact c,by rw[X9 (by lia)];exact b⟩,by simpa using l,λk o' hk e=>?_⟩
 have:k<g.length:=(Yh.mp e).1;rw[X9 (by lia)]
 exact q k o' hk e
def bZ{a:Z6}:(g++a::gs)[g.length]?=some a:=by simp
def kT{a b:Z6}:(g++a::gs).set g.length b=g++b::gs:=by simp
def df{n:Int}{k:Nat}{x:Int}(h:(KN n)[k]?=some x):x=k/\(k:Int)<n:=by
 have hk:k<(KN n).length:=(Yh.mp h).1;rw[ar]at hk;simp![KN,Wd,List.getElem?_range hk,Vv,Xa]at h;lia
def aX(h:JI u g=some O):JI u (g++gs)=some O:=by
 cases u with
 |ref n=>
  simp![JI]at h ⊢;cases e:g[n]? with
  |none=>rw[e]at h;cases h
  |some o=>rw[ae e];rw[e]at h;exact h
 |_=>exact h
def pk(v:P.ok)(F:RowsAt g n P H)(G:Lf P H)(h:∀(O:List (List Int×U)),(∀p,Ax P p=true->Aj O (Af p)=some (.int (H p)))->Q (.ref g.length) (g++[.ZN O])):Ki M (d+3) 20 [Zm P,.ref n] g X Q:=by
 let⟨ms,q,I,C⟩:=F;have s1:=v.ss;have K:=v.ws;have J:=v.ds;simp? only[Fs]
 simp?[s1];refine iY q (by rw[YK];lia) ?_
 simp?[q];refine aA (ms.map U.ref) (λk Y g'=>g=g' /\∃o,Y=[some (Zm P),some (.ref n),some (.int P.w),some (.int P.d),some (.int P.s),o,none,none,none,none]) (λk Y g' a=>by rw[<-a.1];exact bw q) ⟨rfl,_,rfl⟩ (λk u Y g' hk a=>?_) (λY g' a=>?_)
 .obtain ⟨rfl,o,rfl⟩:=a
  simp![Wd,YU]at hk;let⟨m,r,rfl⟩:=hk;simp?[s1];refine iY (C k m r) (by rw[YK,ar];lia) ?_
  simp?;exact⟨_,rfl⟩
 .obtain ⟨rfl,o,rfl⟩:=a
  simp?[ae q];refine aA (Lb (ms.map U.ref)) (λk Y g'=>∃(O:List (List Int×U)) (Lg o2 c b:Option U),g'=g++[.ZN O]/\O.length<=k*25/\(∀p:Pt,0<=p.1->p.1<=P.w*P.s->0<=p.2->p.2<k->Aj O (Af p)=some (.int (H p)))/\Y=[some (Zm P),some (.ref n),some (.int P.w),some (.int P.d),some (.int P.s),Lg,some (.ref g.length),o2,c,b]) (λk Y g' a=>?_) ⟨[],_,_,_,_,rfl,by simp,λp _ _ h1 h2=>by lia,rfl⟩ (λk u Y g' hk a=>?_) (λY g' a=>?_)
  .obtain ⟨O,Lg,o2,c,b,rfl,_⟩:=a
   exact kE (ae q)
  .obtain ⟨O,Lg,o2,c,b,rfl,i,f,rfl⟩:=a
   rw[gA]at hk;simp![Wd,Option.map_map,YU,Function.comp]at hk;let⟨m,r,rfl⟩:=hk;have N:k<ms.length:=(Yh.mp r).1;have B:=C k m r;simp?[ae B];refine aA (Lb ((KN (P.w*P.s+1)).map λx=>.int (H (x,(k:Int))))) (λj Y g'=>∃(O:List (List Int×U)) (c b:Option U),g'=g++[.ZN O]/\O.length<=k*25+j/\(∀p:Pt,0<=p.1->p.1<=P.w*P.s->0<=p.2->(p.2<k\/p.2=k/\p.1<j)->Aj O (Af p)=some (.int (H p)))/\Y=[some (Zm P),some (.ref n),some (.int P.w),some (.int P.d),some (.int P.s),some (.ref m),some (.ref g.length),some (.int k),c,b]) (λj Y g' a=>?_) ⟨O,_,_,rfl,by lia,λp h1 h2 l A=>f p h1 h2 l (by lia),rfl⟩ (λj u Y g' t a=>?_) (λY g' a=>?_)
   .obtain ⟨O,c,b,rfl,_⟩:=a
    exact kE (ae B)
   .obtain ⟨O,c,b,rfl,i,f,rfl⟩:=a
    rw[gA]at t;simp![Wd,Option.map_map,YU,Function.comp]at t;let⟨x,D,rfl⟩:=t;let⟨rfl,L⟩:=df D;have y:=G ((j:Int),(k:Int)) (dW ⟨by lia,by lia,by lia,by lia⟩)
    simp?;refine oM y.1 y.2 ?_;have sb:∀Y,subAt (.ref g.length) (.Z1 [.int (j:Int),.int (k:Int)]) (.int (H ((j:Int),(k:Int)))) Y (g++[.ZN O])=.ok (.nx Y) (g++[.ZN (dput O (Af ((j:Int),(k:Int))) (.int (H ((j:Int),(k:Int)))))]):=λY=>by
     rw[bX ah aH (by lia)]
     simp
    simp?[sb];refine⟨_,_,_,rfl,HP gw (by lia),λp h1 h2 l A=>?_,rfl⟩
    rw[cO];by_cases e:Af ((j:Int),(k:Int))=Af p
    .have:=bz e;subst this;simp
    .rw [Xy e]
     refine f p h1 h2 l ?_;have : ¬ (p.1=j/\p.2=k):=λz=>e (by unfold Af;rw[z.1,z.2])
     lia
   .obtain ⟨O,c,b,rfl,i,f,rfl⟩:=a
    simp?;rw[lS,YK,ar]at i f;exact⟨O,_,_,_,_,rfl,by lia,λp h1 h2 l A=>f p h1 h2 l (by lia),rfl⟩
  .obtain ⟨O,Lg,o2,c,b,rfl,i,f,rfl⟩:=a
   simp?;rw[lS,YK]at i f;refine h O λp E=>?_;have:=bW.mp E;exact f p (by lia) () (by lia) ()
structure SmT(t:ZO):Prop where
 ax:small t.ax
 ay:small t.ay
 bax:small (t.bx-t.ax)
 bay:small (t.bY-t.ay)
 cax:small (t.cx-t.ax)
 cay:small (t.cy-t.ay)
def wF{t:ZO}{b c:Int}(e:g[n]?=some (.S [.int a,.int b,.int c]))(f:small a)(s:SmT t)(h:Q (.Z1 [.int (CD t a b c),.int (Cq t a b c),.int (Dh t a b c),.int (AA t)]) g):Ki M (d+1) 21 [uT t,.ref n] g X Q:=by
 simp? only[FK]
 simp?[e,f,s.ax,s.ay,s.bax,s.bay,s.cax,s.cay];exact h
def Land0(R:Nat->Prop)(g:G)(v:Nat)(P:Plan)(H:Ht):Prop:=∃hN a b c gN hk,g[v]?=some (AI P 0 0 hN a b c gN)/\g[hN]?=some (.ZN hk)/\(∀p,Ax P p=true->Aj hk (Af p)=some (.int (H p)))/\g[a]?=some (.ZN [])/\R v/\R hN/\R a
def Land0.app(h:Land0 R g v P H):Land0 R (g++gs) v P H:=by
 let⟨hN,d,e,f,gN,hk,h1,h2,c,b,a⟩:=h;exact⟨hN,d,e,f,gN,hk,ae h1,ae h2,c,ae b,a⟩
def Land0.fr(h:Land0 R g v P H)(q:Fr g g')(a:∀j,R j->3<=j):Land0 R g' v P H:=by
 let⟨hN,i,k,l,gN,hk,h1,h2,f,e,d,c,b⟩:=h;exact⟨hN,i,k,l,gN,hk,q.get _ _ (a _ d) h1,q.get _ _ (a _ c) h2,f,q.get _ _ (a _ b) e,d,c,b⟩
def Land0.kp{k:Nat}(h:Land0 R g v P H)(q:Kp k g g')(hR : ¬ R k):Land0 R g' v P H:=by
 let⟨hN,m,n,o,gN,hk,h1,h2,l,i,d,c,b⟩:=h;have a:∀{j},R j->j≠k:=λf e=>hR (e ▸ f);exact⟨hN,m,n,o,gN,hk,q.get _ _ (a d) h1,q.get _ _ (a c) h2,l,q.get _ _ (a b) i,d,c,b⟩
def Kp.Tw(h:Kp n g g')(a:g.length<=j):Kp n g (g'.set j o):=⟨by simpa using h.len,λk o' hk e=>by
 have:k<g.length:=(Yh.mp e).1
 rw[X9 (by lia)];exact h.get k o' hk e⟩
def Kp.more(h:Kp n g g'):Kp n g (g'++gs):=h.trans Kp.app
def Ll(P:Plan):Dt:=.Z1 [.int P.w,.int P.d,.int P.s]
def m8:Rep g (Ll P) (Zm P):=by
 simp![Ll,Rep];refine⟨_,rfl,?_⟩;simp![Reps];exact⟨_,_,rfl,au,_,_,rfl,au,_,_,rfl,au,rfl⟩
def acQ:(Ll P).ok (n+2):=by
 unfold Ll;rw[Dt.UO];refine⟨by simp,λD h=>?_⟩
 simp at h;rcases h with rfl|rfl|rfl<;>exact bB
structure Wu(g:G)(n hc mk:Nat):Prop where
 ex:∃O,g[n]?=some (.dst O)/\A0 O (PySem.Str.ofString "heights")=some (.ref hc)/\A0 O (PySem.Str.ofString "edition")=some (.int 0)/\A0 O (PySem.Str.ofString "tries")=some (.int 0)/\A0 O (PySem.Str.ofString "made")=some (.ref mk)
def Wu.look(h:Wu g n hc mk):((JH (.ref n) g).bind λO=>A0 O (PySem.Str.ofString "heights"))=some (.ref hc)/\((JH (.ref n) g).bind λO=>A0 O (PySem.Str.ofString "edition"))=some (.int 0)/\((JH (.ref n) g).bind λO=>A0 O (PySem.Str.ofString "tries"))=some (.int 0)/\((JH (.ref n) g).bind λO=>A0 O (PySem.Str.ofString "made"))=some (.ref mk):=by
 let⟨O,h1,h2⟩:=h.ex;simp![JH,h1,Rl];exact h2
def Wu.app(h:Wu g n hc mk):Wu (g++gs) n hc mk:=by
 let⟨O,h1,h2⟩:=h.ex;exact⟨O,ae h1,h2⟩
def Wu.kp{k:Nat}(h:Wu g n hc mk)(q:Kp k g g')(a:n≠k):Wu g' n hc mk:=by
 let⟨O,h1,h2⟩:=h.ex;exact⟨O,q.get _ _ a h1,h2⟩
def kY(h:RowsAt g n P H):Rep g (CG P H) (.ref n):=by
 let⟨ms,e,d,c⟩:=h;simp![CG,Rep];refine⟨n,_,rfl,e,lM (by rw[YK,YK,ar,d]) λi D u h1 h2=>?_⟩
 simp![Wd,YU]at h1 h2;let⟨y,a,rfl⟩:=h1;let⟨m,b,rfl⟩:=h2;let⟨rfl,_⟩:=df a;simp![Ee,Rep];exact⟨m,_,rfl,c i m b,kS (λ_=>au) _⟩
def RowsAt.app(h:RowsAt g n P H):RowsAt (g++gs) n P H:=by
 let⟨ms,d,c,b⟩:=h;exact⟨ms,ae d,c,λy m a=>ae (b y m a)⟩
def lA(t:ZO):keyOf (uT t)=some (AB t):=rfl
def ot(b:P.ok)(p:RowsAt g n P H)(q:Lf P H)(h:∀(gs:G) (hN gN:Nat),g.length<hN->g.length<gN->Y0 (g++gs) g.length P H hN gN->Land0 (λj=>g.length<=j/\j<(g++gs).length/\j≠gN) (g++gs) g.length P H->Q .ZR (g++gs)):Ki M (d+5) 22 [.ref g.length,Zm P,.ref n] (g++[.ins 211529932 []]) X Q:=by
 have i:RowsAt (g++[.ins 211529932 []]) n P H:=by
  let⟨ms,x,c,w⟩:=p;exact⟨ms,ae x,c,λy m f=>ae (w y m f)⟩
 simp? only[ES]
 simp?;refine pk b i q λhk o=>?_;have l1:(g++[Z6.ins 211529932 []]).length=g.length+1:=by simp
 simp?[bZ,kT,Xz,l1];refine sG b λgs z B c=>?_;simp?[c];refine cH (KU P) uT (λ_=>true) (λt=>.Z1 [uT t,.ZR]) (λg'=>g'=_) ((KU P).map λt=>.Z1 [uT t,.ZR]) (by rw[d8]) (λk g' e=>by rw[e];exact bw c) (λt a=>?_) (by have:=(cM b).2;lia) rfl ?_
 .simp?
  rintro g' rfl;simp?[lA]
 .rintro g' rfl
  let⟨r,v,u,l⟩:=jC AB uT lA .ZR (KU P) [];simp?[v,bZ,kT,Xz];have A:=(cM b).2;refine h _ (g.length+1) _ (by lia) ?_ ⟨⟨_,_,_,_,_,bZ⟩,⟨hk,by simp,o⟩,⟨r,?_,by simp at u;lia,λt a=>.inl ?_,λt a=>?_⟩,?_⟩ ⟨g.length+1,_,_,_,_,hk,bZ,by simp,o,by simp,⟨HR _,by simp,?_⟩,⟨by lia,by simp,?_⟩,⟨by simp,by simp,?_⟩⟩
  .simp only [Xq,X8,Vq];lia
  .simp
  .rw [l,XN (VR.mpr ⟨t,a,rfl⟩)]
  .rw [l,Xy]
   .rfl
   .intro f
    let⟨s,hs,e⟩:=VR.mp f;exact a (by rw[<-eI e];exact hs)
  all_goals simp![Xq,X8,Vq];lia
def oH(a:P.ok)(e:Land0 R g v P H)(hp:Ax P p=true)(h:Q (.int (H p)) g):Ki M (d+3) 23 [.ref v,uP p] g X Q:=by
 let⟨hN,i,j,k,gN,hk,h1,h2,b,f,_⟩:=e;unfold AI at h1;have c:Aq (.Z1 [.int p.1,.int p.2]) (.ref hN) g=some (some (.int (H p))):=by rw[aO h2 aH,b p hp]
 simp? only[EU]
 simp?[h1];refine iO a hp ?_;simp?[h1,c,id];exact h
def pF(b:P.ok)(A:Land0 R g v P H)(h:∀(gs:G) (n:Nat),RowsAt (g++gs) n P H->Q (.ref n) (g++gs)):Ki M (d+1) 24 [.ref v] g X Q:=by
 let⟨hN,C,D,E,gN,hk,h1,h2,r,B,_⟩:=A;unfold AI at h1;have s1:=b.ss;have I:=b.ws;have F:=b.ds;have i:Ah (P.w*P.s+1)=true:=ak (by lia) (by lia)
 have r2:Ah (P.d*P.s+1)=true:=ak (by lia) (by lia)
 simp? only[Fq]
 simp?[h1,s1,r2];refine M_ix ((KN (P.d*P.s+1)).map U.int) (λk ZW g'=>∃(ms:List Nat) (gs:G),g'=g++gs/\ZW=ms.map U.ref/\ms.length=k /\∀(y m:Nat),ms[y]?=some m->g'[m]?=some (.S ((KN (P.w*P.s+1)).map λx=>.int (H (x,(y:Int)))))) (λk ZW g' _=>aC) (λk u ZW f=>?_) (by rw[YK,ar];omega) ⟨[],[],by simp,rfl,rfl,λy m e=>by simp at e⟩ (λvs g' q p=>?_)
 .simp only [Wd,YU]at f
  let⟨y,l,rfl⟩:=f;let⟨rfl,j⟩:=df l;simp?;rintro g' ⟨ms,gs,rfl,rfl,a,hm⟩;simp?[ae h1,s1,i];refine cH (KN (P.w*P.s+1)) U.int (λ_=>true) (λx=>.int (H (x,(k:Int)))) (λg'=>g'=g++gs) ((KN (P.w*P.s+1)).map λx=>.int (H (x,(k:Int)))) (by rw[d8]) (λk g' _=>aC) (λx o=>?_) (by rw[ar];lia) rfl ?_
  .have WO:=eS.mp o
   have z:Aq (.Z1 [.int x,.int (k:Int)]) (.ref hN) (g++gs)=some (some (.int (H (x,(k:Int))))):=by
    rw[aO (ae h2) aH,r (x,(k:Int)) (dW ⟨by lia,by lia,by lia,by lia⟩)]
   simp?;rintro g' rfl;simp?[ae h1,z,id]
  .rintro g' rfl
   refine⟨by rw[YK,ar];lia,?_⟩
   refine⟨ms++[(g++gs).length],gs++[.S ((KN (P.w*P.s+1)).map λx=>.int (H (x,(k:Int))))],by simp,by simp,by simp[a],λy m e=>?_⟩
   rcases Nat.lt_or_ge y ms.length with c|c
   .rw [Wt c]at e
    exact ae (hm y m e)
   .have t:y=ms.length:=by
     have:=(Yh.mp e).1;simp at this;lia
    subst t;rw[a];simp at e;subst e;simp
 .obtain ⟨ms,gs,rfl,rfl,a,hm⟩:=q
  rw[YK,ar]at a;refine⟨by rw[YK];lia,?_⟩
  rw[Xz];refine h _ _ ⟨ms,by rw[<-Xz];exact ah,a,λy m e=>?_⟩
  rw[<-Xz];exact ae (hm y m e)
def oW(c:P.ok)(i:Land0 R g v P H)(hp:Ax P p=true)(h:Q (.int 0) g):Ki M (d+3) 25 [.ref v,uP p] g X Q:=by
 let⟨hN,b,k,l,gN,hk,h1,h2,j,a,_⟩:=i;unfold AI at h1;have e:Aq (.Z1 [.int p.1,.int p.2]) (.ref b) g=some none:=by rw[aO a aH];rfl
 have f:JI (.ref b) g=some []:=by simp![JI,a]
 simp? only[Fc]
 simp?[h1];refine iO c hp ?_;simp?[h1,e,f,Qi];exact h
def dy{t:ZO}(l:Y0 g v P H hN gN)(h:Q (.bl (decide (t∈KU P))) g):Ki M (d+1) 26 [.ref v,uT t] g X Q:=by
 let⟨⟨q,m,r,s,u,h1⟩,⟨hk,h2,p⟩,⟨c,b,o,i,f⟩,n⟩:=l;unfold AI at h1;have k:Aq (uT t) (.ref gN) g=some (Aj c (AB t)):=aO b bP;have j:(Aj c (AB t)).isSome=decide (t∈KU P):=by
  by_cases a:t∈KU P
  .rcases i t a with e|e<;>rw[e]<;>simp[a]
  .rw [f t a];simp[a]
 simp? only[Fb]
 simp?[h1,b,k,j];exact h
def iG{t:ZO}(a:Y0 g v P H hN gN)(b:t∈KU P)(h:Q .ZR g):Ki M (d+2) 27 [.ref v,uT t] g X Q:=by
 let⟨e,c,f,i,j,h1⟩:=a.ins;unfold AI at h1;simp? only[DJ]
 simp?[h1];refine dy a ?_;simp?[b];exact h
def oi{t:ZO}(a:Y0 g v P H hN gN)(b:t ∉ KU P)(h:X 0 [uT t] g):Ki M (d+2) 27 [.ref v,uT t] g X Q:=by
 let⟨e,c,f,i,j,h1⟩:=a.ins;unfold AI at h1;simp? only[DJ]
 simp?[h1];refine dy a ?_;simp?[b];exact h
def oU{t:ZO}(w:P.ok)(c:Y0 g v P H hN gN)(f:t∈KU P)(h:A2 g [.int (H (K0 t)),.int (H (K3 t)),.int (H (K8 t))] Q):Ki M (d+3) 28 [.ref v,uT t] g X Q:=by
 let⟨B,A,C,D,E,h1⟩:=c.ins;let⟨hk,h2,y⟩:=c.Wy;let⟨u,r,o⟩:=eP (cF w f).1;unfold AI at h1;simp? only[E9]
 simp?[h1];refine iG c f ?_;simp?;refine cH [K0 t,K3 t,K8 t] uP (λ_=>true) (λa=>.int (H a)) (λg'=>g'=g) [.int (H (K0 t)),.int (H (K3 t)),.int (H (K8 t))] rfl (λk g' _=>rfl) (λa j=>?_) #[3] rfl ?_
 .have hi:Ax P a=true:=by
   simp![Wc,T6,Qq]at j;rcases j with rfl|rfl|rfl
   .exact u
   .exact r
   .exact o
  have z:Aq (.Z1 [.int a.1,.int a.2]) (.ref hN) g=some (some (.int (H a))):=by rw[aO h2 aH,y a hi]
  simp?;rintro g' rfl;simp?[h1,z,id]
 .rintro g' rfl
  have:=eB (gs:=[]) h #[3]
  rw[Tc]at this;exact this
def sm1(h:a.natAbs<=31):small a:=av () ()
def sm2{b:Int}(h:a.natAbs<=31)(k:b.natAbs<=31):small (a-b):=av () ()
def zU{t:ZO}(h:B3 t=true):SmT t:=by
 let⟨a,b,c,d,e,f⟩:=yk h;exact⟨sm1 a,sm1 b,sm2 c a,sm2 d b,sm2 e a,sm2 f b⟩
def pb{t:ZO}(b:P.ok)(c:Y0 g v P H hN gN)(i:Lf P H)(a:t∈KU P)(h:∀gs,Q (.Z1 [.int (VU H t),.int (VT H t),.int (VS H t),.int (AA t)]) (g++gs)):Ki M (d+4) 29 [.ref v,uT t] g X Q:=by
 let⟨o,j,p,q,r,h1⟩:=c.ins;let⟨f,l,k⟩:=eP (cF b a).1;have hA:=i _ f;unfold AI at h1;simp? only[Fh]
 simp?[h1];refine oU b c a λgs n m e=>?_;simp?;refine wF e (av (by lia) ()) (zU (fD b a)) ?_
 simp?;exact h gs
def om{t:ZO}(a:P.ok)(m:Y0 g v P H hN gN)(r:Lf P H)(c:t∈KU P)(h:∀gs,Q (uG H t) (g++gs)):Ki M (d+5) 31 [.ref v,uT t] g X Q:=by
 let⟨I,F,J,K,L,h1⟩:=m.ins;let⟨hk,h2,A⟩:=m.Wy;have i:=(cF a c).1;have hw:=(cF a c).2;have R:=a.ws;have N:=a.ds;unfold AI at h1;simp? only[ER]
 simp?[h1];refine pb a m r c λgs=>?_;simp?;refine vT (kN (fD a c)) λl n G e=>?_;simp?[e];refine aA ((KZ t).map uP) (λk Y g'=>g'=g++gs++l /\∃(Lg o2 f:Option U),Y=[some (.ref v),some (uT t),some (.int (VU H t)),some (.int (VT H t)),some (.int (VS H t)),some (.int (AA t)),some (.int (((KZ t).take k).foldl (AK H t) (-1,none)).1),some (KR (((KZ t).take k).foldl (AK H t) (-1,none)).2),Lg,o2,f]) (λk Y g' b=>by rw[b.1];exact bw e) ⟨rfl,_,_,_,rfl⟩ (λk u Y g' s b=>?_) (λY g' b=>?_)
 .obtain ⟨rfl,Lg,o2,f,rfl⟩:=b
  simp![Wd,YU]at s;let⟨p,q,rfl⟩:=s;have o:=kA i (W5 q);have O:=bW.mp o;have z:=r p o;have y:small (H p):=av (by lia) (by lia)
  have x:small p.1:=av () ()
  have w:small p.2:=av () ()
  have B:(g++gs++l)[v]?=_:=ae (ae h1);have D:Aq (.Z1 [.int p.1,.int p.2]) (.ref hN) (g++gs++l)=some (some (.int (H p))):=by rw[aO (ae (ae h2)) aH,A p o]
  have E:(if H p*AA t-(VU H t*p.1+VT H t*p.2+VS H t)<0 then -(H p*AA t-(VU H t*p.1+VT H t*p.2+VS H t))else H p*AA t-(VU H t*p.1+VT H t*p.2+VS H t))=Bo H t p:=c7 _
  have C:(KZ t).take (k+1)=(KZ t).take k++[p]:=by rw[Te,q];rfl
  rw[C,List.foldl_append];simp?[B,D,id,y,x,w,E];refine ai (λk1=>?_) λk1=>?_
  .have k2:(((KZ t).take k).foldl (AK H t) (-1,none)).1<Bo H t p:=by simpa using k1
   have j:[p].foldl (AK H t) (((KZ t).take k).foldl (AK H t) (-1,none))=(Bo H t p,some p):=XN k2;rw[j];simp?;exact⟨_,_,_,rfl⟩
  .have k2 : ¬ (((KZ t).take k).foldl (AK H t) (-1,none)).1<Bo H t p:=by simpa using k1
   have j:[p].foldl (AK H t) (((KZ t).take k).foldl (AK H t) (-1,none))=((KZ t).take k).foldl (AK H t) (-1,none):=Xy k2;rw[j];simp?;exact⟨_,_,_,rfl⟩
 .obtain ⟨rfl,Lg,o2,f,rfl⟩:=b
  rw[YK,Rk];simp?[c7];refine vY (by lia) (by unfold YB As;lia) ?_
  simp?;rw[Xz];exact h _
def pU{t:ZO}(u:P.ok)(q:Y0 g v P H hN gN)(w:Lf P H)(c:t∈KU P)(h:∀g',Y0 g' v P H hN gN->Kp gN g g'->Q (uG H t) g'):Ki M (d+6) 30 [.ref v,uT t] g X Q:=by
 have i:=q;let⟨⟨B,A,C,D,E,h1⟩,⟨hk,h2,z⟩,⟨b,k,y,p,x⟩,o⟩:=q;unfold AI at h1;simp? only[DL]
 simp?[h1];refine iG i c ?_;have hs:=p t c;rcases hs with e|e
 .have m:Aq (uT t) (.ref gN) g=some (some .ZR):=by rw[aO k bP,e]
  simp?[h1,m,id];refine om u i w c λgs=>?_;have r:=ae (gs:=gs) h1;have a:=ae (gs:=gs) k;have sb:∀Y,subAt (.ref gN) (uT t) (uG H t) Y (g++gs)=.ok (.nx Y) ((g++gs).set gN (.ZN (dput b (AB t) (uG H t)))):=λY=>bX a bP (by lia)
  have ne:=i.lt.2.2.2;have j:((g++gs).set gN (.ZN (dput b (AB t) (uG H t))))[v]?=(g++gs)[v]?:=X9 (Ne.symm ne);rw[r]at j;have n:((g++gs).set gN (.ZN (dput b (AB t) (uG H t))))[gN]?=some (.ZN (dput b (AB t) (uG H t))):=aL a;have l:Aq (uT t) (.ref gN) ((g++gs).set gN (.ZN (dput b (AB t) (uG H t))))=some (some (uG H t)):=by rw[aO n bP,cO,XN rfl]
  simp?[r,sb,j,l,id];refine h _ ⟨⟨_,_,_,_,_,j⟩,⟨hk,?_,z⟩,⟨_,n,?_,λs hs=>?_,λs hs=>?_⟩,o⟩ (Kp.app.trans Kp.set)
  .rw [X9 (Ne.symm o)];exact ae h2
  .rw [rD (by rw[e];rfl)];exact y
  .rw [cO]
   by_cases f:AB t=AB s
   .have:=eI f;subst this;rw[XN rfl];exact .inr rfl
   .rw [Xy f];exact p s hs
  .rw [cO,Xy (λf=>hs (by rw[<-eI f];exact c))]
   exact x s hs
 .have m:Aq (uT t) (.ref gN) g=some (some (uG H t)):=by rw[aO k bP,e]
  simp?[h1,m,id];exact h g i Kp.refl
def iV{t:ZO}(a:Y0 g v P H hN gN)(b:t ∉ KU P)(h:X 0 [uT t] g):Ki M (d+6) 30 [.ref v,uT t] g X Q:=by
 let⟨e,c,f,i,j,h1⟩:=a.ins;unfold AI at h1;simp? only[DL]
 simp?[h1];exact oi a b h
def oJ{t:ZO}(a:Y0 g v P H hN gN)(b:t ∉ KU P)(h:X 0 [uT t] g):Ki M (d+7) 32 [.ref v,uT t] g X Q:=by
 let⟨e,c,f,i,j,h1⟩:=a.ins;unfold AI at h1;simp? only[E8]
 simp?[h1];exact iV a b h
def oQ(h:Q (.bl true) g):Ki M (d+1) 33 [.int i] g X Q:=by
 simp? only[E6]
 simp?;exact h
def aN(n:Nat):∀(D:Dt) (u v:U) (Q:U->G->Prop),D.ok n->Rep g D u->Rep g D v->Q (.bl true) g->Ki M (d+n+1) 34 [u,v] g X Q:=by
 induction n with
 |zero=>intro D u v Q E;exact E.elim
 |succ n ih=>
  intro D u v Q E r j h;refine(mh (d:=d+(n+1)) #[2] #[2]).2 ?_
  simp![Fg];have list:∀(ds:List Dt) (J vs:List U),(∀D∈ds,D.ok n)->Reps g ds J->Reps g ds vs->items u g=some J->items v g=some vs ->∀O:Fl->G->Prop,(∀Y,O (.nx Y) g)->Ks M (d+(n+1)) (.nm 2) (.YS 0 (vs.length:Int).toNat) 0 [.Zz (.not (.call 34 [.idx (.L 0) (.L 2),.idx (.L 1) (.L 2)])) [.ret (.Z3 (.bl false))] []] [some u,some v,none] g X O:=λds J vs C c f W V O H=>by
   refine cI ((KN (vs.length:Int)).map U.int) (λk Y g'=>g'=g /\∃o,Y=[some u,some v,o]) (λk Y g' _=>aC) (λk w Y g' hk I=>?_) (λY g' I=>by rw[I.1];exact H Y) _ 0 _ _ (Sf _) ⟨rfl,none,rfl⟩
   let⟨rfl,o,rfl⟩:=I;simp![Wd,YU]at hk;let⟨i,hi,rfl⟩:=hk;have VD:=eS.mp (W5 hi);have y:=c.length;have t:=f.length;have K:ds[i.toNat]?=some ds[i.toNat]:=Vj ()
   let⟨a,ea,T⟩:=c.get K;let⟨b,Z,R⟩:=f.get K;have P:JN J i=some a:=by rw[eT VD.1 (by lia),ea]
   have KY:JN vs i=some b:=by rw[eT VD.1 (by lia),Z]
   simp![↓nZ,↓xZ,↓aam,↓nT,↓bh_t,↓bh_f,↓gH,↓aa5,↓adj,↓ac4,↓oc_n,↓oc_s,↓ue,↓uC,↓vN,↓xr,↓wq,↓vH,↓KV_a,↓k_E,↓k_Es,↓KB_a,↓acO,↓ada,↓uk,↓t6,↓wI,↓abA,↓ob_k,↓vh,↓wu,↓abb,↓aaz,↓xD,↓wL,↓vO,↓wO,↓ace,↓acV,↓k_or,↓ac6,↓yU,↓acy,↓xl,↓aa4,↓yZ,↓acJ,↓xR,↓acY,↓aaQ,↓xH,↓aad,↓aaA,↓xM,↓acT,↓y4,↓zv,↓yi,↓acs,↓uX,↓yT,↓ade,↓uJ,↓aaf,↓xx,↓abQ,↓aal,↓aaF,↓yK,↓yE,↓xq,↓yd,↓zp,↓aaS,↓wX,↓aaT,↓yc,↓acW,↓zZ,↓aaH,↓z5,↓abF,↓zE,↓zV,↓aaZ,↓acX,↓abo,↓k_bi,↓xS,↓ab1,↓Ko_a,↓vM,↓abE,↓abY,↓ab4,↓aa3,↓wV,↓adp,↓yG,↓y7,↓yy,↓wb,↓zo,↓vk,↓acn,↓vB,↓xw,↓vE,↓za,↓wY,↓tU,↓vw,↓zl,↓wZ,↓yQ,↓abr,↓yD,↓vZ,↓yr,↓x8,↓ug,↓vS,↓uW,↓xg,↓ze,↓zd,↓adf,↓aae,↓xX,↓yj,↓aaq,↓aap,↓zf,↓zw,↓xp,↓acN,↓yh,↓ab5,↓aa2,↓yg,↓xO,↓zi,↓aar,↓z9,↓wz,↓y6,↓aaB,↓acd,↓zF,↓ab6,↓acf,↓aa8,↓aba,↓abt,↓adg,↓xW,↓aaY,↓yo,↓yP,↓xQ,↓yb,↓x9,↓zt,↓yv,↓wN,↓x3,↓wU,↓yY,↓zD,↓wW,↓zc,↓xa,↓acF,↓abp,↓abP,↓abC,↓acE,↓ac7,↓yJ,↓acL,↓acZ,↓adh,↓tN,↓acA,↓q_or,↓ab9,↓abT,↓abl,↓acB,↓abu,↓aas,↓abf,↓zm,↓w8,↓q_bi,↓acG,↓abv,↓acq,↓abB,↓xK,↓zj,↓zC,↓acU,↓y3,↓aay,↓acz,↓ack,↓abR,↓ac9,↓aci,↓abO,↓abx,↓aa9,↓ab7,↓uD,perm,pick,A4,Rl,Cd,BX,Bu,CW,WH,List.lookup_nil,Nat.reduceBEq,QH,List.contains_nil,Hy,List.getElem?_nil,List.getElem?_cons_zero,R3,X8,Vq,List.set_cons_zero,List.set_cons_succ,Xk,RJ,List.replicate_succ,List.replicate_zero,Rj,Qt,Sf,Nat.reduceAdd,Nat.reduceSub,Nat.reduceLT,Nat.reduceLeDiff,Nat.reduceEqDiff,Nat.lt_add_left_iff_pos,JV,Ai,bindL,Ti,U3,ite_true,ite_false,and_true,true_and,Option.getD_some,iy,il,aa0,vV,wJ,vp,acx,abq,abL,acw,xt,sy,acS,cisN,ac3,cin,cnin,ab8,vU,Bool.or_false,Bool.or_true,Bool.true_or,Bool.false_or,clt,cle,cgt,cge,JF,JM,CV,CP,JS,AG,lift,JR,D0,Ga,C3,alloc,AO,j4,Ac,ac8,abe,aa7,abH,acb,ac2,AV,Du,Vv,Int.reduceLT,Int.reduceLE,Int.reduceNeg,Int.reduceEq,decide_true,decide_false,QY,Bool.not_false,Bool.and_true,Qm,Bool.and_self,Xn,Px,W,V,P,KY];refine ih _ a b _ (C _ (W5 K)) T R ?_;simp?;exact⟨_,rfl⟩
  cases D with
  |ZR=>cases r;cases j;simp?;exact h
  |bl b=>cases r;cases j;simp?;cases b<;>exact h
  |int i=>
   cases r;cases j;simp?;refine oQ (d:=d+n) ?_;simp?;simpa using h
  |str s=>cases r;cases j;simp?;simpa using h
  |Z1 ds=>
   let⟨J,rfl,c⟩:=r;let⟨vs,rfl,f⟩:=j;have y:=c.length;have t:=f.length;let⟨z,C⟩:=Dt.UO.mp E;have N:(J.length:Int)=vs.length:=by lia
   have F:Ah (vs.length:Int)=true:=ak (by lia) (by lia)
   simp?[N,F];refine list ds J vs C c f rfl rfl _ λY=>?_;simp?;exact h
  |S ds=>
   let⟨n1,J,rfl,B,c⟩:=r;let⟨n2,vs,rfl,A,f⟩:=j;have y:=c.length;have t:=f.length;let⟨z,C⟩:=Dt.S_.mp E;have N:(J.length:Int)=vs.length:=by omega
   have F:Ah (vs.length:Int)=true:=ak () ()
   simp?[N,F,B,A];refine list ds J vs C c f (by simp![items,B]) (by simp![items,A]) _ λY=>?_
   simp?;exact h
def qp(ns:List Int)(h:∀zs:List Int,Q (.ref 2) [.S (zs.map U.int),.S (zs.map U.int),BE 1 0 7]):Ki M (d+1) 35 [.Zs (ns.map U.int)] [] X Q:=by
 simp? only[Fu]
 simp?[Bz];have a:Bh (ns.map U.int) none (some 63)=(CZ ns none (some 63)).map U.int:=gO ns _ _;simp?[a,BE];exact h _
def aF{m:Int}(K:Bag g)(f:0<m)(J:m<1000000000000)(h:∀(r:Int) (g':G),0<=r->r<m->Fr g g'->Q (.int r) g'):Ki M (d+1) 36 [.ref 2,.int m] g X Q:=by
 let⟨xs,at_,B,h1,h2⟩:=K;have l1:1<g.length:=(Yh.mp h1).1;have P:2<g.length:=(Yh.mp h2).1;have c:m<As:=by unfold As;lia
 have k:(2147483647:Int)<As:=by decide
 have j:(64:Int)<As:=by decide
 have H:small 48271:=aT #[1]
 have F:small 9973:=aT #[1]
 have s3:small 31:=aT #[1]
 have s4:small 69621:=aT #[1]
 simp? only[Fp]
 simp?[h1,h2,BE];have O:∀a:Int,0<=a -> ¬ 1000000000000000000<=a->wpS M d [(.Zz (.cmp .ge (.L 4) (.ZZ .pow (.Z3 (.int 10)) (.Z3 (.int 18)))) [(.sub (.L 2) (.ZZ .mod (.L 3) (.bi .len [(.L 2)])) (.ZZ .fdiv (.L 4) (.L 1))),(.ret (.ZZ .mod (.L 4) (.L 1)))] []),(.sub (.L 0) (.Z3 (.int 1)) (.ZZ .add (.L 3) (.Z3 (.int 1)))),(.sub (.L 0) (.Z3 (.int 2)) (.ZZ .mod (.ZZ .add (.ZZ .add (.ZZ .add (.ZZ .mul (.idx (.L 0) (.Z3 (.int 2))) (.Z3 (.int 48271))) (.ZZ .mul (.L 4) (.Z3 (.int 9973)))) (.ZZ .mul (.L 3) (.Z3 (.int 31)))) (.Z3 (.int 11))) (.Z3 (.int 2147483647)))),(.ret (.ZZ .mod (.ZZ .fdiv (.ZZ .mod (.ZZ .mul (.idx (.L 0) (.Z3 (.int 2))) (.Z3 (.int 69621))) (.Z3 (.int 2147483629))) (.Z3 (.int 64))) (.L 1)))] [some (.ref 2),some (.int m),some (.ref 1),some (.int at_),some (.int a)] g X λt g=>Ky t (lk λu=>Q u g):=λa y w=>by
  have D:=aL (o':=BE 1 (at_+1) B) h2;have o:=aL (o':=BE 1 (at_+1) ((B*48271+a*9973+at_*31+11) % 2147483647)) D;have N : ¬ a<0:=by lia
  simp?[h1,h2,kr,N,w,d0 h2 (show(0:Int)<=1 by decide) #[3],H,F,s3,s4,f,c,k,j,show(1:Int).toNat=1 from rfl,D]
  simp?[d0 D (show(0:Int)<=2 by decide) #[3],H,F,s3,s4,f,c,k,j,show(2:Int).toNat=2 from rfl,o]
  exact h _ _ (Pm _ (by lia)) (QN _ f) ((Fr.S9 ⟨xs,at_,B,h1,h2⟩ _ _).trans (Fr.S9 (Fr.S9 ⟨xs,at_,B,h1,h2⟩ _ _).Za _ _))
 have A:∀a:Int,0<xs.length->1000000000000000000<=a->wpS M d [(.Zz (.cmp .ge (.L 4) (.ZZ .pow (.Z3 (.int 10)) (.Z3 (.int 18)))) [(.sub (.L 2) (.ZZ .mod (.L 3) (.bi .len [(.L 2)])) (.ZZ .fdiv (.L 4) (.L 1))),(.ret (.ZZ .mod (.L 4) (.L 1)))] []),(.sub (.L 0) (.Z3 (.int 1)) (.ZZ .add (.L 3) (.Z3 (.int 1)))),(.sub (.L 0) (.Z3 (.int 2)) (.ZZ .mod (.ZZ .add (.ZZ .add (.ZZ .add (.ZZ .mul (.idx (.L 0) (.Z3 (.int 2))) (.Z3 (.int 48271))) (.ZZ .mul (.L 4) (.Z3 (.int 9973)))) (.ZZ .mul (.L 3) (.Z3 (.int 31)))) (.Z3 (.int 11))) (.Z3 (.int 2147483647)))),(.ret (.ZZ .mod (.ZZ .fdiv (.ZZ .mod (.ZZ .mul (.idx (.L 0) (.Z3 (.int 2))) (.Z3 (.int 69621))) (.Z3 (.int 2147483629))) (.Z3 (.int 64))) (.L 1)))] [some (.ref 2),some (.int m),some (.ref 1),some (.int at_),some (.int a)] g X λt g=>Ky t (lk λu=>Q u g):=λa y w=>by
  have ce:=uZ (at_:=at_) y;have cl:(0:Int)<xs.length:=by lia
  let⟨m1,I⟩:=hY (at_:=at_) y;simp?[h1,h2,kr,w,YK,cl,f,c,d0 h1 m1 (by simpa using I),<-List.map_set]
  exact h _ _ (Pm _ (by lia)) (QN _ f) (Fr.set1 ⟨xs,at_,B,h1,h2⟩ _)
 have E:∀a:Int,(1000000000000000000<=a->0<xs.length)->0<=a->wpS M d [(.Zz (.cmp .ge (.L 4) (.ZZ .pow (.Z3 (.int 10)) (.Z3 (.int 18)))) [(.sub (.L 2) (.ZZ .mod (.L 3) (.bi .len [(.L 2)])) (.ZZ .fdiv (.L 4) (.L 1))),(.ret (.ZZ .mod (.L 4) (.L 1)))] []),(.sub (.L 0) (.Z3 (.int 1)) (.ZZ .add (.L 3) (.Z3 (.int 1)))),(.sub (.L 0) (.Z3 (.int 2)) (.ZZ .mod (.ZZ .add (.ZZ .add (.ZZ .add (.ZZ .mul (.idx (.L 0) (.Z3 (.int 2))) (.Z3 (.int 48271))) (.ZZ .mul (.L 4) (.Z3 (.int 9973)))) (.ZZ .mul (.L 3) (.Z3 (.int 31)))) (.Z3 (.int 11))) (.Z3 (.int 2147483647)))),(.ret (.ZZ .mod (.ZZ .fdiv (.ZZ .mod (.ZZ .mul (.idx (.L 0) (.Z3 (.int 2))) (.Z3 (.int 69621))) (.Z3 (.int 2147483629))) (.Z3 (.int 64))) (.L 1)))] [some (.ref 2),some (.int m),some (.ref 1),some (.int at_),some (.int a)] g X λt g=>Ky t (lk λu=>Q u g):=λa y w=>by
  by_cases C:1000000000000000000<=a
  .exact A a (y C) C
  .exact O a w C
 refine ai (λk1=>?_) λk1=>?_
 .have k1:0<xs.length:=by simpa using k1
  have cl:(0:Int)<xs.length:=by lia
  simp?[h1,YK,cl,sW k1];refine ai (λk2=>?_) λk2=>?_
  .have z:=E (1-Dp xs at_) (λ_=>k1) (by simp![Xn]at k2;lia)
   simp?[Px]at z ⊢;exact z
  .have z:=E (Dp xs at_) (λ_=>k1) (by simp![R1]at k2;lia)
   simp?[Px]at z ⊢;exact z
 .have z:=E 0 (λz=>absurd z #[1]) #[1]
  simp?[Px]at z ⊢;exact z
def BM:List Plan:=[⟨1,1,2⟩,⟨1,1,4⟩,⟨2,1,2⟩,⟨1,2,2⟩,⟨2,2,2⟩,⟨1,1,4⟩,⟨3,1,2⟩,⟨1,3,2⟩,⟨2,1,4⟩,⟨1,2,4⟩,⟨3,2,2⟩,⟨1,1,8⟩]
def u6(h:P∈BM):P.ok:=by
 simp![BM,Wc,T6,Qq]at h;rcases h with rfl|rfl|rfl|rfl|rfl|rfl|rfl|rfl|rfl|rfl|rfl|rfl<;>exact⟨by simp,by simp,by simp⟩
def oS(a:Bag g)(h:∀(P:Plan) (g':G),P∈BM->Fr g g'->Q (Zm P) g'):Ki M (d+2) 37 [.ref 2] g X Q:=by
 simp? only[Fm]
 simp?;refine mR (ae ah) ah #[1] ?_
 simp?;refine aF a.app.app.app #[1] #[1] λr c y w k=>?_
 have u:=k.get _ _ (by have:=a.len;simp![Xq,X8,Vq];lia) ah
 let⟨P,t,o⟩:=bM (l:=BM) (f:=Zm) y (by exact w)
 have j:c[(g++[Z6.S ((BM.take 6).map Zm)]++[Z6.S ((BM.drop 6).map Zm)]).length]?=some (.S (BM.map Zm)):=u;have fr:Fr g c:=by
  refine Fr.trans ?_ k;rw[Xz,Xz];exact Fr.app a
 revert j;simp![Xq,X8,Vq];intro j;simp?[j,o,Xq];exact h P c t fr
def oG(c:P.ok)(h:A2 g ((Ad P).map uP) Q):Ki M (d+1) 38 [Zm P] g X Q:=by
 have h0:=c.s0;have h1:=c.ss;have hw:=c.ws;have hd:=c.ds;have p:Ah (P.w*P.s+1)=true:=ak () ()
 have r2:Ah (P.d*P.s+1)=true:=ak () ()
 have q:=fA c;simp? only[EW]
 simp?[*];refine cI ((KN (P.w*P.s+1)).map U.int) (λk Y g'=>(∃Lg o2,Y=[some (Zm P),some (.ref g.length),Lg,o2])/\g'=g++[.S ((((KN (P.w*P.s+1)).take k).flatMap λx=>(KN (P.d*P.s+1)).map λy=>((x,y):Pt)).map uP)]) (λk Y g' _=>aC) (λk u Y g' hk b=>?_) (λY g' b=>?_) _ 0 _ _ (Sf _) ⟨⟨none,none,rfl⟩,rfl⟩
 .obtain ⟨⟨Lg,o2,rfl⟩,rfl⟩:=b
  simp![Wd,YU]at hk;let⟨x,n,rfl⟩:=hk;simp?[*];refine cI ((KN (P.d*P.s+1)).map U.int) (λj Y g'=>(∃o2,Y=[some (Zm P),some (.ref g.length),some (.int x),o2])/\g'=g++[.S (((((KN (P.w*P.s+1)).take k).flatMap λx=>(KN (P.d*P.s+1)).map λy=>((x,y):Pt))++(((KN (P.d*P.s+1)).take j).map λy=>((x,y):Pt))).map uP)]) (λk Y g' _=>aC) (λj u Y g' i b=>?_) (λY g' b=>?_) _ 0 _ _ (Sf _) ⟨⟨o2,rfl⟩,by simp⟩
  .obtain ⟨⟨o2,rfl⟩,rfl⟩:=b
   simp![Wd,YU]at i;let⟨y,m,rfl⟩:=i;have t:=List.length_take_le k (KN (P.w*P.s+1));have e:((((KN (P.w*P.s+1)).take k).flatMap λx=>(KN (P.d*P.s+1)).map λy=>((x,y):Pt))++(((KN (P.d*P.s+1)).take j).map λy=>((x,y):Pt))).length<=700:=by
    have a1:=aV (f:=λx=>(KN (P.d*P.s+1)).map λy=>((x,y):Pt)) (B:=25) (l:=(KN (P.w*P.s+1)).take k) λa _=>by simp[ar];lia
    have o:((KN (P.w*P.s+1)).take k).length<=25:=by rw[TK,ar];lia
    have r:=RB 25 o;rw[Xq,YK,TK,ar];lia
   simp?[ah,fE (show(List.map uP ((((KN (P.w*P.s+1)).take k).flatMap λx=>(KN (P.d*P.s+1)).map λy=>((x,y):Pt))++(((KN (P.d*P.s+1)).take j).map λy=>((x,y):Pt)))).length<16777000 by rw[YK];lia)]
   refine⟨⟨_,rfl⟩,?_⟩;rw[Te,m];simp
  .obtain ⟨⟨o2,rfl⟩,rfl⟩:=b
   simp?;refine⟨⟨_,_,rfl⟩,?_⟩;rw[Te,n];simp
 .obtain ⟨⟨Lg,o2,rfl⟩,rfl⟩:=b
  simp?;refine h _ _ (HR _) ?_;simp[Ad]
def qk(f:g[n]?=some (.S (ts.map uT)))(j:ts.length<=5000)
  (h:∀(gs:G) (m:Nat) (O:List (List Int×U)),g.length<=m->(g++gs)[m]?=some (.ZN O)->(∀t,(Aj O (AB t)).isSome=decide (t∈ts))->Q (.ref m) (g++gs)):Ki M (d+1) 39 [.ref n] g X Q:=by
 simp? only[Fv]
 simp?[ae f];refine aA (ts.map uT) (λk Y g'=>∃(O:List (List Int×U)) (o:Option U),g'=g++[.ZN O]/\O.length<=k/\(∀t,(Aj O (AB t)).isSome=decide (t∈ts.take k))/\Y=[some (.ref n),some (.ref g.length),o]) (λk Y g' a=>?_) ⟨[],none,rfl,HR _,λt=>by simp[Aj],rfl⟩ (λk u Y g' hk a=>?_) (λY g' a=>?_)
 .obtain ⟨O,o,rfl,_⟩:=a
  exact bw (ae f)
 .obtain ⟨O,o,rfl,i,b,rfl⟩:=a
  simp![Wd,YU]at hk;let⟨t,c,rfl⟩:=hk;have l:k<ts.length:=(Yh.mp c).1;have sb:∀Y,subAt (.ref g.length) (uT t) (.bl true) Y (g++[.ZN O])=.ok (.nx Y) (g++[.ZN (dput O (AB t) (.bl true))]):=λY=>by
   rw[bX ah bP (by lia)]
   simp
  simp?[sb];refine⟨_,_,rfl,HP gw (by lia),λu=>?_,rfl⟩
  rw[sr,b,Te,c];by_cases e:AB t=AB u
  .have:=eI e;subst this;simp
  .have:u≠t:=λz=>e (by rw[z])
   simp[e,this]
 .obtain ⟨O,o,rfl,i,b,rfl⟩:=a
  simp?;refine h _ _ O (HR _) ah λt=>?_;rw[b];simp
def iN(t:P.ok)(h:A2 g ((KS P).map uT) Q):Ki M (d+1) 40 [Zm P] g X Q:=by
 have G:=t.ss;have J:=fN t;have F:Ah P.w=true:=by rcases t.w with e|e|e<;>rw[e]<;>exact ak #[1] #[1]
 have r2:Ah P.d=true:=by rcases t.d with e|e|e<;>rw[e]<;>exact ak #[1] #[1]
 have I:(KN P.d).length<=3:=by rw[ar];rcases t.d with e|e|e<;>rw[e]<;>decide
 have H:(KN P.w).length<=3:=by rw[ar];rcases t.w with e|e|e<;>rw[e]<;>decide
 have a:∀i k,(((KN P.d).take k).flatMap λj=>Ar i j P.s).length<=6:=λi k=>by
  have:=aV (f:=λj=>Ar i j P.s) (B:=2) (l:=(KN P.d).take k) λj _=>Qy (cN i j P.s);have:=RG k (KN P.d);lia
 have b:∀k,(((KN P.w).take k).flatMap λi=>(KN P.d).flatMap λj=>Ar i j P.s).length<=18:=λk=>by
  have:=aV (f:=λi=>(KN P.d).flatMap λj=>Ar i j P.s) (B:=6) (l:=(KN P.w).take k) λi _=>by have:=a i 100;rwa[UK (by lia)]at this
  have:=RG k (KN P.w);lia
 simp? only[E7]
 simp?[F];refine aA ((KN P.w).map U.int) (λk Y g'=>(∃Lg o2 o c,Y=[some (Zm P),some (.ref g.length),some (.int P.s),Lg,o2,o,c])/\g'=g++[.S ((((KN P.w).take k).flatMap λi=>(KN P.d).flatMap λj=>Ar i j P.s).map uT)]) (λk Y g' _=>aC) ⟨⟨_,_,_,_,rfl⟩,rfl⟩ (λk u Y g' hk r=>?_) (λY g' r=>?_)
 .obtain ⟨⟨Lg,o2,o,c,rfl⟩,rfl⟩:=r
  simp![Wd,YU]at hk;let⟨i,hi,rfl⟩:=hk;simp?[r2];refine aA ((KN P.d).map U.int) (λm Y g'=>(∃o2 o c,Y=[some (Zm P),some (.ref g.length),some (.int P.s),some (.int i),o2,o,c])/\g'=g++[.S (((((KN P.w).take k).flatMap λi=>(KN P.d).flatMap λj=>Ar i j P.s)++(((KN P.d).take m).flatMap λj=>Ar i j P.s)).map uT)]) (λk Y g' _=>aC) ⟨⟨_,_,_,rfl⟩,by simp⟩ (λm u Y g' C r=>?_) (λY g' r=>?_)
  .obtain ⟨⟨o2,o,c,rfl⟩,rfl⟩:=r
   simp![Wd,YU]at C;let⟨j,D,rfl⟩:=C;have K:=b k;have a1:=a i m;have A:((((((KN P.w).take k).flatMap λi=>(KN P.d).flatMap λj=>Ar i j P.s)++(((KN P.d).take m).flatMap λj=>Ar i j P.s)).map uT):List U).length<16777000:=by rw[YK,Xq];lia
   have z:∀x:U,((((((KN P.w).take k).flatMap λi=>(KN P.d).flatMap λj=>Ar i j P.s)++(((KN P.d).take m).flatMap λj=>Ar i j P.s)).map uT)++[x]:List U).length<16777000:=λx=>by rw[Xq,YK,Xq];simp![X8,Vq];lia
   have ea:∀x:U,A5 g.length x (g++[.S (((((KN P.w).take k).flatMap λi=>(KN P.d).flatMap λj=>Ar i j P.s)++(((KN P.d).take m).flatMap λj=>Ar i j P.s)).map uT)])=.ok .ZR (g++[.S ((((((KN P.w).take k).flatMap λi=>(KN P.d).flatMap λj=>Ar i j P.s)++(((KN P.d).take m).flatMap λj=>Ar i j P.s)).map uT)++[x])]):=λx=>fE A;have E:∀x y:U,A5 g.length y (g++[.S ((((((KN P.w).take k).flatMap λi=>(KN P.d).flatMap λj=>Ar i j P.s)++(((KN P.d).take m).flatMap λj=>Ar i j P.s)).map uT)++[x])])=.ok .ZR (g++[.S ((((((KN P.w).take k).flatMap λi=>(KN P.d).flatMap λj=>Ar i j P.s)++(((KN P.d).take m).flatMap λj=>Ar i j P.s)).map uT)++[x]++[y])]):=λx y=>fE (z x);simp?[G];refine ai (λk1=>?_) λk1=>?_
   .have k2:(i+j) % 2=0:=by simpa using k1
    simp?[ah,ea,E];refine⟨⟨_,_,_,rfl⟩,?_⟩;rw[Te,D];simp[Ar,k2]
   .have k2 : ¬ (i+j) % 2=0:=by simpa using k1
    simp?[ah,ea,E];refine⟨⟨_,_,_,rfl⟩,?_⟩;rw[Te,D];simp[Ar,k2]
  .obtain ⟨⟨o2,o,c,rfl⟩,rfl⟩:=r
   simp?;refine⟨⟨_,_,_,_,rfl⟩,?_⟩;rw[Te,hi];simp[UK]
 .obtain ⟨⟨Lg,o2,o,c,rfl⟩,rfl⟩:=r
  simp?;refine h _ _ (HR _) ?_;simp[KS]
def ft{t:ZO}(h:Q (KR (Bd t)) g):Ki M (d+1) 41 [uT t] g X Q:=by
 have c:(2:Int)<As:=by decide
 simp? only[E1]
 simp?;unfold Bd at h;refine ai (λk1=>?_) λk1=>?_
 .have a:(t.ax+t.bx) % 2=1:=by simpa using k1
  rw[XN (.inl a)]at h;simp?;exact h
 .have a : ¬ (t.ax+t.bx) % 2=1:=by simpa using k1
  simp?;refine ai (λk2=>?_) λk2=>?_
  .have b:(t.ay+t.bY) % 2=1:=by simpa using k2
   rw[XN (.inr b)]at h;simp?;exact h
  .have b : ¬ (t.ay+t.bY) % 2=1:=by simpa using k2
   rw[Xy ()]at h
   simp?[c];exact h
def iK{t:ZO}{m:Pt}(a:Bd t=some m)(h:A2 g ((Ak t).map uT) Q):Ki M (d+2) 42 [uT t] g X Q:=by
 rw[cL a]at h;simp? only[EV]
 simp?;refine ft ?_;rw[a];simp?[KR];exact h _ _ (HR _) ah
def oC(w:P.ok)(h:A2 g ((KU P).map uT) Q):Ki M (d+3) 43 [Zm P] g X Q:=by
 have hl:=(cM w).2;have H:∀t∈KS P,AS 7 t=true:=λt f=>fQ w f;simp? only[EX]
 simp?;refine iN w λa n Z e=>?_;simp?[e];have B:((KS P).flatMap An).length<16770000:=(by show(KU P).length<_;omega)
 refine fg (λm Y g'=>∃(T W:List ZO) (gs:G) (o:Option U),T++W.reverse.flatMap An=(KS P).flatMap An/\(W.flatMap An).length=m/\(∀t∈W,AS 7 t=true)/\g'=(g ++ .S (T.map uT)::(a ++ .S (W.map uT)::gs))/\Y=[some (Zm P),some (.ref (g).length),some (.ref ((g).length+1+(List.length a))),o]) ?_ ((KS P).reverse.flatMap An).length _ _ ⟨[],(KS P).reverse,[],none,by simp,rfl,λt f=>H t (Ql.mp f),by simp,by simp;lia⟩
 rintro m Y g' ⟨T,W,gs,o,hT,hm,u,rfl,rfl⟩;rcases List.eq_nil_or_concat W with O|⟨W',t,rfl⟩
 .subst O
  have N:T=(KS P).flatMap An:=by simpa using hT
  have g2:(g ++ .S (T.map uT)::(a ++ .S []::gs))[(g).length+1+(List.length a)]?=some (.S []):=bq;simp?[g2,RL,Vq,Int.natCast_zero];rw[N];refine h _ _ (HR _) eJ
 .have f:AS 7 t=true:=u t #[3]
  have k:T++([t]++((Ak t).flatMap An++W'.reverse.flatMap An))=(KS P).flatMap An:=by
   rw[<-hT];simp[eE f]
  have F:(W'.flatMap An).length+(1+((Ak t).flatMap An).length)=m:=by
   rw[<-hm];simp![List.concat_eq_append,Rh,TX,List.flatMap_nil,Tc,Xq,eE f,X8];lia
  have A:T.length+1<=((KS P).flatMap An).length:=by rw[<-k];simp![Xq,X8,Vq];lia
  have z:W'.length<=((KS P).flatMap An).length:=by
   have L:W'.reverse.length<=(W'.reverse.flatMap An).length:=gp λx _=>jM x;rw[Rg]at L;rw[<-k];simp![Xq,X8,Vq];lia
  have E:(W'.concat t).map uT=W'.map uT++[uT t]:=by simp
  have g2:(g ++ .S (T.map uT)::(a ++ .S (W'.map uT++[uT t])::gs))[(g).length+1+(List.length a)]?=some (.S (W'.map uT++[uT t])):=bq;have C:(g ++ .S (T.map uT)::(a ++ .S (W'.map uT)::gs))[(g).length]?=some (.S (T.map uT)):=eJ;have pop:Bw ((g).length+1+(List.length a)) (g ++ .S (T.map uT)::(a ++ .S (W'.map uT++[uT t])::gs))=.ok (uT t) (g ++ .S (T.map uT)::(a ++ .S (W'.map uT)::gs)):=by
   rw[jn g2,eG]
  have app:A5 (g).length (uT t) (g ++ .S (T.map uT)::(a ++ .S (W'.map uT)::gs))=.ok .ZR (g ++ .S ((T++[t]).map uT)::(a ++ .S (W'.map uT)::gs)):=by
   rw[cS C (by rw[YK];lia),kH];simp
  have J:(g ++ .S ((T++[t]).map uT)::(a ++ .S (W'.map uT)::gs))[(g).length+1+(List.length a)]?=some (.S (W'.map uT)):=bq;have V:decide ((0:Int)<((W'.map uT).length+1:Nat))=true:=by simp;try omega
  have r:(0:Int)<((W'.map uT).length+1:Nat):=by lia
  rw[E];simp?[g2,l9,Xq,r,pop,C,app];refine ft ?_;cases y:Bd t with
  |none=>
   simp?[KR,AG];exact⟨(W'.flatMap An).length,by lia,T++[t],W',gs,_,by rw[<-k,iQ y];simp,rfl,λx c=>u x (by simp[c]),rfl,rfl⟩
  |some q=>
   simp?[KR,AG,J];refine iK y λj R X1 D=>?_;rw[cj]at D ⊢;simp?[D];rw[cj];have I:(g ++ .S ((T++[t]).map uT)::(a ++ .S (W'.map uT)::(gs++j++[.S ((Ak t).map uT).reverse])))[(g).length+1+(List.length a)]?=some (.S (W'.map uT)):=bq;have K:(g ++ .S ((T++[t]).map uT)::(a ++ .S (W'.map uT)::(gs++j++[.S ((Ak t).map uT).reverse])))[(List.length (g ++ .S ((T++[t]).map uT)::(a ++ .S (W'.map uT)::(gs++j))))]?=some (.S ((Ak t).map uT).reverse):=by
    rw[<-cj];exact ah
   have hh:(Ak t).length<=2:=by rw[cL y];simp[Dr]
   have ext:Bx ((g).length+1+(List.length a)) (.ref (List.length (g ++ .S ((T++[t]).map uT)::(a ++ .S (W'.map uT)::(gs++j))))) (g ++ .S ((T++[t]).map uT)::(a ++ .S (W'.map uT)::(gs++j++[.S ((Ak t).map uT).reverse])))=.ok .ZR (g ++ .S ((T++[t]).map uT)::(a ++ .S ((W'++(Ak t).reverse).map uT)::(gs++j++[.S ((Ak t).map uT).reverse]))):=by
    rw[jm I K (by rw[YK,Rg,YK];lia),eG]
    simp
   simp?[ext];refine⟨((W'++(Ak t).reverse).flatMap An).length,?_,T++[t],W'++(Ak t).reverse,_,_,?_,rfl,λx c=>?_,rfl,rfl⟩
   .rw [Rh,Xq,fw];lia
   .rw [<-k];simp
   .rcases Rt.mp c with c|c
    .exact u x (by simp[c])
    .exact fY 6 x (fX f (Ql.mp c))
def iH{t:ZO}(h:A2 g ([K0 t,K3 t,K8 t].map uP) Q):Ki M (d+1) 44 [uT t] g X Q:=by
 simp? only[EO]
 simp?;exact h _ _ (HR _) ah
def dz{a b c:Pt}(e:Bb a)(i:Bb b)(f:Bb c)(h:Q (.int (Ag a b c)) g):Ki M (d+1) 45 [uP a,uP b,uP c] g X Q:=by
 have m1:JE .mul (.int (b.1-a.1)) (.int (c.2-a.2))=some (.int ((b.1-a.1)*(c.2-a.2))):=lN (e8 i.1 e.1) (e8 f.2 e.2);have j:JE .mul (.int (c.1-a.1)) (.int (b.2-a.2))=some (.int ((c.1-a.1)*(b.2-a.2))):=lN (e8 f.1 e.1) (e8 i.2 e.2);simp? only[E4]
 simp?[m1,j];exact h
def iP{t:ZO}(a:K9 t)(hp:Bb p)(h:A2 g ((BJ t p).map U.int) Q):Ki M (d+2) 46 [uT t,.int p.1,.int p.2,.int 1] g X Q:=by
 have o:small 1:=aT #[1]
 simp? only[Cj]
 simp?;refine iH λj w A r=>?_;simp?[r];refine cH [K0 t,K3 t,K8 t] uP (λ_=>true) uP (λg'=>g'=g++j) ([K0 t,K3 t,K8 t].map uP) rfl (λk g' e=>by rw[e,bw r]) (λq y=>?_) #[3] rfl ?_
 .simp? [o]
  rintro g' rfl;simp?[o];simp
 .rintro g' rfl
  refine⟨by simp,?_⟩
  simp?[ah];refine dz a.pA a.pB a.pC ?_;have c:∀s:Int,s=Ao t->wpS M (d+1) (Cj.body.drop 4) [some (uT t),some (.int p.1),some (.int p.2),some (.int 1),some (uP (K0 t)),some (uP (K3 t)),some (uP (K8 t)),some (uP p),some (.int s),none,none] (g++j++[.S ([K0 t,K3 t,K8 t].map uP)]) X λf g=>Ky f (lk λu=>Q u g):=λs hs=>by
   have ss:small s:=by rw[hs];unfold Ao;split<;>exact aT #[1]
   simp![Cj,List.drop_succ_cons,QJ];simp?;refine dz hp a.pB a.pC ?_;simp?[ss];refine dz a.pA hp a.pC ?_;simp?[ss];refine dz a.pA a.pB hp ?_;simp?[ss];subst hs;have z:=(eB (gs:=j++[.S ([K0 t,K3 t,K8 t].map uP)]) h (by simp[BJ])).2
   rw[<-Xz]at z;exact z
  simp![Cj,List.drop_succ_cons,QJ]at c;simp?;refine ai (λk1=>?_) λk1=>?_
  .have z:=c (-1) (by unfold Ao;rw[XN (by simpa using k1)])
   simp?[Px]at z ⊢;exact z
  .have z:=c 1 (by unfold Ao;rw[Xy (by simpa using k1)])
   simp?[Px]at z ⊢;exact z
def oN{t:ZO}(H:K9 t)(hp:Bb p)(h:∀gs,Q (.bl (AE t p)) (g++gs)):Ki M (d+3) 47 [uT t,uP p] g X Q:=by
 let⟨m1,F⟩:=fh t.ax t.bx t.cx;let⟨r,E⟩:=fh t.ay t.bY t.cy;have K:∀(g:G) (a b c:Int),Ce [.ref g.length] (g++[.S [.int a,.int b,.int c]])=.ok (.ref (g++([.S [.int a,.int b,.int c]]:G)).length) (g++[.S [.int a,.int b,.int c]]++[.S ((sortI [a,b,c]).map U.int)]):=λg a b c=>by
  simp![Ce,AN,ah]
  rfl
 simp? only[EZ]
 have D:∀A j B o:Z6,(g++[A]++[j]++[B]++[o])[(g++[A]).length]?=some j:=λA j B o=>ae (ae ah);have C:∀A j B o:Z6,(g++[A]++[j]++[B]++[o])[(g++[A]++[j]++[B]).length]?=some o:=λA j B o=>ah;have s0:small 1:=aT #[1]
 unfold AE Bn at h;have w:∀(g':G),(∃gs,g'=g++gs)->(decide (Y_ t<=p.1)&&decide (p.1<=Y9 t)&&(decide (Y6 t<=p.2)&&decide (p.2<=Y5 t)))=true ->∀f k,g'.length<=k->(g'++f)[k]?=some (.S ((BJ t p).map U.int))->Q (.bl (decide (0<=best true (Ao t*Ag p (K3 t) (K8 t)) [Ao t*Ag (K0 t) p (K8 t),Ao t*Ag (K0 t) (K3 t) p]))) (g'++f):=λg' I J f k _ _=>by
  let⟨gs,rfl⟩:=I;have:=h (gs++f);rw[J,Qm,<-tz,<-Xz]at this;exact this
 simp?[K,F,E,D];refine ai (λk1=>?_) λk1=>?_
 .simp? [D]
  refine ai (λk2=>?_) λk2=>?_
  .simp? [C]
   refine ai (λk3=>?_) λk3=>?_
   .simp? [C]
    refine ai (λu=>?_) λu=>?_
    .simp?
     refine iP H hp λf k L z=>?_;have y:AN [.ref k] (g++[Z6.S [U.int t.ax,U.int t.bx,U.int t.cx]]++[Z6.S [U.int (best true t.ax [t.bx,t.cx]),U.int m1,U.int (best false t.ax [t.bx,t.cx])]]++[Z6.S [U.int t.ay,U.int t.bY,U.int t.cy]]++[Z6.S [U.int (best true t.ay [t.bY,t.cy]),U.int r,U.int (best false t.ay [t.bY,t.cy])]]++f)=some (BJ t p):=by
      simp![AN,z];exact ja _
     simp![BJ]at y;simp?[BS,intsOf,y];exact w _ ⟨_,by rw[Xz,Xz,Xz]⟩ (by simp[k1,k2,k3,u]) f k L z
    .simp?
     have:=h [Z6.S [U.int t.ax,U.int t.bx,U.int t.cx],Z6.S [U.int (best true t.ax [t.bx,t.cx]),U.int m1,U.int (best false t.ax [t.bx,t.cx])],Z6.S [U.int t.ay,U.int t.bY,U.int t.cy],Z6.S [U.int (best true t.ay [t.bY,t.cy]),U.int r,U.int (best false t.ay [t.bY,t.cy])]];simpa[k1,k2,k3,u]using this
   .simp?
    have:=h [Z6.S [U.int t.ax,U.int t.bx,U.int t.cx],Z6.S [U.int (best true t.ax [t.bx,t.cx]),U.int m1,U.int (best false t.ax [t.bx,t.cx])],Z6.S [U.int t.ay,U.int t.bY,U.int t.cy],Z6.S [U.int (best true t.ay [t.bY,t.cy]),U.int r,U.int (best false t.ay [t.bY,t.cy])]];simpa[k1,k2,k3]using this
  .simp?
   have:=h [Z6.S [U.int t.ax,U.int t.bx,U.int t.cx],Z6.S [U.int (best true t.ax [t.bx,t.cx]),U.int m1,U.int (best false t.ax [t.bx,t.cx])],Z6.S [U.int t.ay,U.int t.bY,U.int t.cy],Z6.S [U.int (best true t.ay [t.bY,t.cy]),U.int r,U.int (best false t.ay [t.bY,t.cy])]];simpa[k1,k2]using this
 .simp?
  have:=h [Z6.S [U.int t.ax,U.int t.bx,U.int t.cx],Z6.S [U.int (best true t.ax [t.bx,t.cx]),U.int m1,U.int (best false t.ax [t.bx,t.cx])],Z6.S [U.int t.ay,U.int t.bY,U.int t.cy],Z6.S [U.int (best true t.ay [t.bY,t.cy]),U.int r,U.int (best false t.ay [t.bY,t.cy])]];simpa[k1]using this
def oO{t:ZO}(r:K9 t)(h:A2 g ((KZ t).map uP) Q):Ki M (d+4) 48 [uT t] g X Q:=by
 let⟨b1,b2,b3,b4⟩:=r.box;have hl:=jB r;let⟨m1,R⟩:=fh t.ax t.bx t.cx;let⟨I,P⟩:=fh t.ay t.bY t.cy;have k1:Y_ t<=100:=by let⟨a,_⟩:=r;have:=(aP (x:=Y_ t)).mp (RE _);omega
 have k2:Y6 t<=100:=by let⟨_,a,_⟩:=r;have:=(aP (x:=Y6 t)).mp (RE _);omega
 have k3 : -100<=Y9 t:=by let⟨a,_⟩:=r;have:=(aU (x:=Y9 t)).mp (RE _);omega
 have k4 : -100<=Y5 t:=by let⟨_,a,_⟩:=r;have:=(aU (x:=Y5 t)).mp (RE _);omega
 have r1:Ah (Y_ t)=true:=ak () ()
 have r2:Ah (Y9 t+1)=true:=ak () ()
 have r3:Ah (Y6 t)=true:=ak () ()
 have r4:Ah (Y5 t+1)=true:=ak () ()
 have Xg:∀(g:G) (a b c:Int),Ce [.ref g.length] (g++[.S [.int a,.int b,.int c]])=.ok (.ref (g++([.S [.int a,.int b,.int c]]:G)).length) (g++[.S [.int a,.int b,.int c]]++[.S ((sortI [a,b,c]).map U.int)]):=λg a b c=>by
  simp![Ce,AN,ah]
  rfl
 have e1:∀A C B H D:Z6,(g++[A]++[C]++[B]++[H]++[D])[(g++[A]).length]?=some C:=λA C B H D=>ae (ae (ae ah));have e2:∀A C B H D:Z6,(g++[A]++[C]++[B]++[H]++[D])[(g++[A]++[C]++[B]).length]?=some H:=λA C B H D=>ae ah;simp? only[E5]
 simp?[Xg,R,P,e1,r1,r2];have J:∃gs,g++[Z6.S [U.int t.ax,U.int t.bx,U.int t.cx]]++[Z6.S [U.int (best true t.ax [t.bx,t.cx]),U.int m1,U.int (best false t.ax [t.bx,t.cx])]]++[Z6.S [U.int t.ay,U.int t.bY,U.int t.cy]]++[Z6.S [U.int (best true t.ay [t.bY,t.cy]),U.int I,U.int (best false t.ay [t.bY,t.cy])]]=g++gs:=⟨_,by rw[Xz,Xz,Xz]⟩
 have O:(g++[Z6.S [U.int t.ax,U.int t.bx,U.int t.cx]]++[Z6.S [U.int (best true t.ax [t.bx,t.cx]),U.int m1,U.int (best false t.ax [t.bx,t.cx])]]++[Z6.S [U.int t.ay,U.int t.bY,U.int t.cy]]++[Z6.S [U.int (best true t.ay [t.bY,t.cy]),U.int I,U.int (best false t.ay [t.bY,t.cy])]])[(g++[Z6.S [U.int t.ax,U.int t.bx,U.int t.cx]]++[Z6.S [U.int (best true t.ax [t.bx,t.cx]),U.int m1,U.int (best false t.ax [t.bx,t.cx])]]++[Z6.S [U.int t.ay,U.int t.bY,U.int t.cy]]).length]?=some (.S [.int (Y6 t),.int I,.int (Y5 t)]):=ah;clear e1 e2 Xg R P;generalize(g++[Z6.S [U.int t.ax,U.int t.bx,U.int t.cx]]++[Z6.S [U.int (best true t.ax [t.bx,t.cx]),U.int m1,U.int (best false t.ax [t.bx,t.cx])]]++[Z6.S [U.int t.ay,U.int t.bY,U.int t.cy]]).length=L at O ⊢;generalize g++[Z6.S [U.int t.ax,U.int t.bx,U.int t.cx]]++[Z6.S [U.int (best true t.ax [t.bx,t.cx]),U.int m1,U.int (best false t.ax [t.bx,t.cx])]]++[Z6.S [U.int t.ay,U.int t.bY,U.int t.cy]]++[Z6.S [U.int (best true t.ay [t.bY,t.cy]),U.int I,U.int (best false t.ay [t.bY,t.cy])]]=h0 at J O ⊢;generalize(g++[Z6.S [U.int t.ax,U.int t.bx,U.int t.cx]]).length=T;have Z:∀(o:Z6) (gs:G),(h0++o::gs)[h0.length]?=some o:=λo gs=>by simp
 have st:∀(o o':Z6) (gs:G),(h0++o::gs).set h0.length o'=h0++o'::gs:=λo o' gs=>by simp
 have gy:∀gs:G,(h0++gs)[L]?=some (.S [.int (Y6 t),.int I,.int (Y5 t)]):=λgs=>ae O
 let F:Int->List Pt:=λx=>((Ap (Y6 t) (Y5 t+1)).filter λy=>AE t (x,y)).map λy=>(x,y)
 have fl:∀(x:Int) (m:Nat),((((Ap (Y6 t) (Y5 t+1)).take m).filter λy=>AE t (x,y)).map λy=>((x,y):Pt)).length<=201:=λx m=>by
  rw[YK];have h1:=Qe (λy=>AE t (x,y)) ((Ap (Y6 t) (Y5 t+1)).take m);have h2:=RG m (Ap (Y6 t) (Y5 t+1));rw[bI]at h2;lia
 have al:∀k,(((Ap (Y_ t) (Y9 t+1)).take k).flatMap F).length<=201*201:=λk=>by
  have h1:=aV (f:=F) (B:=201) (l:=(Ap (Y_ t) (Y9 t+1)).take k) λx _=>by have:=fl x 300;rw[UK (by rw[bI];lia)]at this;exact this
  have h2:=RG k (Ap (Y_ t) (Y9 t+1));rw[bI]at h2;have h3:((Ap (Y_ t) (Y9 t+1)).take k).length<=201:=by lia
  have h4:((Ap (Y_ t) (Y9 t+1)).take k).length*201<=201*201:=RB _ h3;lia
 refine aA ((Ap (Y_ t) (Y9 t+1)).map U.int) (λk Y g'=>∃(gs:G) (K j:Option U),g'=h0 ++ .S ((((Ap (Y_ t) (Y9 t+1)).take k).flatMap F).map uP)::gs/\Y=[some (uT t),some (.ref T),some (.ref L),some (.ref h0.length),K,j]) (λk Y g' _=>dY) ⟨[],none,none,by simp,rfl⟩ (λk u Y g' hk w=>?_) (λY g' w=>?_)
 .obtain ⟨gs,K,j,rfl,rfl⟩:=w
  simp![Wd,YU]at hk;let⟨x,V,rfl⟩:=hk;have xm:=gx.mp (W5 V);simp?[gy,r3,r4];refine aA ((Ap (Y6 t) (Y5 t+1)).map U.int) (λm Y g'=>∃(gs:G) (j:Option U),g'=h0 ++ .S ((((Ap (Y_ t) (Y9 t+1)).take k).flatMap F++(((Ap (Y6 t) (Y5 t+1)).take m).filter λy=>AE t (x,y)).map λy=>(x,y)).map uP)::gs/\Y=[some (uT t),some (.ref T),some (.ref L),some (.ref h0.length),some (.int x),j]) (λk Y g' _=>dY) ⟨gs,j,by simp,rfl⟩ (λm u Y g' W w=>?_) (λY g' w=>?_)
  .obtain ⟨gs,j,rfl,rfl⟩:=w
   simp![Wd,YU]at W;let⟨y,N,rfl⟩:=W;have ym:=gx.mp (W5 N);have a1:=al k;have a2:=fl x m;simp?;refine oN (p:=(x,y)) r (by unfold Bb A9;simp![];lia) λE=>?_
   have as:h0 ++ .S ((((Ap (Y_ t) (Y9 t+1)).take k).flatMap F++(((Ap (Y6 t) (Y5 t+1)).take m).filter λy=>AE t (x,y)).map λy=>(x,y)).map uP)::gs++E=h0 ++ .S ((((Ap (Y_ t) (Y9 t+1)).take k).flatMap F++(((Ap (Y6 t) (Y5 t+1)).take m).filter λy=>AE t (x,y)).map λy=>(x,y)).map uP)::(gs++E):=by simp
   rw[as];cases hc:AE t (x,y)with
   |true=>
    have ap:A5 h0.length (uP (x,y)) (h0 ++ .S ((((Ap (Y_ t) (Y9 t+1)).take k).flatMap F++(((Ap (Y6 t) (Y5 t+1)).take m).filter λy=>AE t (x,y)).map λy=>(x,y)).map uP)::(gs++E))=.ok .ZR (h0 ++ .S ((((Ap (Y_ t) (Y9 t+1)).take k).flatMap F++(((Ap (Y6 t) (Y5 t+1)).take m).filter λy=>AE t (x,y)).map λy=>(x,y)).map uP++[uP (x,y)])::(gs++E)):=by
     rw[cS (Z _ _) (by rw[YK,Xq];lia),st]
    simp?[Z,ap];refine⟨gs++E,_,?_,rfl⟩;rw[Te,N];simp[hc]
   |false=>
    simp?;refine⟨gs++E,_,?_,rfl⟩;rw[Te,N];simp[hc]
  .obtain ⟨gs,j,rfl,rfl⟩:=w
   simp?;refine⟨gs,_,_,?_,rfl⟩;rw[Te,V];simp[F,UK]
 .obtain ⟨gs,K,j,rfl,rfl⟩:=w
  simp?;let⟨hs,rfl⟩:=J;have z:=h (hs ++ .S ((KZ t).map uP)::gs) (g++hs).length #[3] (by rw[<-Xz];simp)
  rw[<-Xz]at z;simpa[KZ,F,UK]using z
def pP{b:Int}(n:b≠0)(p:YB b)(h:Q (uP (Es a b)) g):Ki M (d+1) 49 [.int a,.int b] g X Q:=by
 let⟨k,j⟩:=lr (a:=a) n p;simp? only[Fy]
 simp?[c7];refine fg (λm Y g'=>g'=g /\∃(x y:Nat) (o:Option U),Nat.gcd x y=Nat.gcd a.natAbs b.natAbs/\y=m/\Y=[some (.int a),some (.int b),some (.int x),some (.int y),o]) ?_ b.natAbs _ _ ⟨rfl,a.natAbs,b.natAbs,none,rfl,rfl,rfl⟩;rintro m Y g' ⟨rfl,x,y,o,i,rfl,rfl⟩;simp?;refine ai (λk1=>?_) λk1=>?_
 .have c:0<y:=by simp at k1;lia
  have l:(0:Int)<y:=by lia
  simp?[l];refine⟨x % y,Nat.mod_lt _ c,y,x % y,some (.int ((x:Int) % y)),?_,rfl,?_⟩
  .rw [<-i,Pd y,<-Nat.gcd_rec,Pd]
  .simp
 .have c:y=0:=by simp at k1;lia
  subst c;have f:x=Nat.gcd a.natAbs b.natAbs:=by simpa using i
  simp?;refine ai (λk2=>?_) λk2=>?_
  .have k3:b<0:=by simpa using k2
   have e:(0-(x:Int))=Bc a b:=by unfold Bc;rw[XN k3,f];lia
   simp?[e,eZ k j];exact h
  .have k3 : ¬ b<0:=by simpa using k2
   have e:(x:Int)=Bc a b:=by unfold Bc;rw[Xy k3,f]
   simp?[e,eZ k j];exact h
def iZ(t:ZO):Ag (K0 t) (K3 t) (K8 t)=AA t:=by simp![Ag,AA,K0,K3,K8];grind
def rl(t:ZO)(p:Pt):(BJ t p).sum=((AA t).natAbs:Int):=by
 have e:=cr0 t p;have a:=iZ t;rw[e]at a;simp![BJ,List.sum_cons,List.sum_nil,cr1,cr2,cr3];unfold Ao;rw[e];split<;>lia
def rg(H:Ht)(t:ZO)(p:Pt):(H p*((AA t).natAbs:Int)-(Ao t*Ag p (K3 t) (K8 t)*H (K0 t)+(Ao t*Ag (K0 t) p (K8 t)*H (K3 t)+(Ao t*Ag (K0 t) (K3 t) p*H (K8 t)+0)))).natAbs=(B1 H t p).natAbs:=by
 have a:=iZ t;have k:(H p*((AA t).natAbs:Int)-(Ao t*Ag p (K3 t) (K8 t)*H (K0 t)+(Ao t*Ag (K0 t) p (K8 t)*H (K3 t)+(Ao t*Ag (K0 t) (K3 t) p*H (K8 t)+0))))=B1 H t p\/(H p*((AA t).natAbs:Int)-(Ao t*Ag p (K3 t) (K8 t)*H (K0 t)+(Ao t*Ag (K0 t) p (K8 t)*H (K3 t)+(Ao t*Ag (K0 t) (K3 t) p*H (K8 t)+0)))) = -(B1 H t p):=by
  by_cases c:Ag (K0 t) (K3 t) (K8 t)<0
  .right
   have s:Ao t = -1:=XN c;have w:((AA t).natAbs:Int) = -AA t:=by rw[<-a];lia
   rw[s,w];unfold B1 VU VT VS;simp![CD,Cq,Dh,AA,Ag,K0,K3,K8]
   grind
  .left
   have s:Ao t=1:=Xy c;have w:((AA t).natAbs:Int)=AA t:=by rw[<-a];lia
   rw[s,w];unfold B1 VU VT VS;simp![CD,Cq,Dh,AA,Ag,K0,K3,K8]
   grind
 rcases k with k|k
 .rw [k]
 .rw [k,Int.natAbs_neg]
def ran3:KN 3=[0,1,2]:=by decide
def qc{t:ZO}(r:P.ok)(D:t∈KU P)(C:Lf P H)(Z:JI u g=some O)(hk:∀p,Ax P p=true->Aj O (Af p)=some (.int (H p)))(h:∀gs,Q (uG H t) (g++gs)):Ki M (d+5) 50 [u,uT t] g X Q:=by
 have o:=(cF r D).1;let⟨W,V,R⟩:=eP o;have hw:=(cF r D).2;have hn:=kN (fD r D);have hA:=C _ W;have hB:=C _ V;have hC:=C _ R;have sA:small (H (K0 t)):=av (by lia) (by lia)
 have sB:small (H (K3 t)):=av (by lia) (by lia)
 have sC:small (H (K8 t)):=av (by lia) (by lia)
 have Wa:=r.ws;have Yz:=r.ds;have r3:Ah 3=true:=ak #[1] #[1]
 simp? only[Fx]
 simp?;refine iH λf N U2 e1=>?_;simp?;refine oO hn λc n2 X1 e2=>?_;simp?[e2];refine aA ((KZ t).map uP) (λk Y g'=>∃(gs:G) (T:Int) (Lg o2 B A:Option U),g'=g++f++c++gs/\(k≠0->T=((AA t).natAbs:Int))/\Y=[some u,some (uT t),some (.ref N),some (.int (((KZ t).take k).foldl (AK H t) (-1,none)).1),some (KR (((KZ t).take k).foldl (AK H t) (-1,none)).2),some (.int T),Lg,o2,B,A]) (λk Y g' w=>?_) ⟨[],1,_,_,_,_,by simp,λz=>absurd rfl z,rfl⟩ (λk x Y g' Yo w=>?_) (λY g' w=>?_)
 .obtain ⟨gs,T,Lg,o2,B,A,rfl,_⟩:=w
  exact bw (ae e2)
 .obtain ⟨gs,T,Lg,o2,B,A,rfl,E,rfl⟩:=w
  simp![Wd,YU]at Yo;let⟨p,hp,rfl⟩:=Yo;have L:=kA o (W5 hp);have Y4:=bW.mp L;have hHp:=C p L;have z1:small (H p):=av (by lia) (by lia)
  have et:(KZ t).take (k+1)=(KZ t).take k++[p]:=by rw[Te,hp];rfl
  rw[et,List.foldl_append];simp?;refine iP hn (by unfold Bb A9;omega) λy n3 hn3 e3=>?_
  have a:(g++f++c++gs++y)[n3]?=some (.S [.int (Ao t*Ag p (K3 t) (K8 t)),.int (Ao t*Ag (K0 t) p (K8 t)),.int (Ao t*Ag (K0 t) (K3 t) p)]):=e3;have K:(g++f++c++gs++y)[N]?=some (.S [uP (K0 t),uP (K3 t),uP (K8 t)]):=ae (ae (ae e1));have sw:=rl t p;simp![BJ]at sw;have J:∀q,Ax P q=true->Aq (.Z1 [.int q.1,.int q.2]) u (g++f++c++gs++y)=some (some (.int (H q))):=λq hq=>by rw[gi (aX (aX (aX (aX Z)))) aH,hk q hq]
  simp?[Di,AN,a,intsOf,sw,r3];refine cH ([0,1,2]:List Int) U.int (λ_=>true) (λj=>.int (if j=0 then Ao t*Ag p (K3 t) (K8 t)*H (K0 t)else if j=1 then Ao t*Ag (K0 t) p (K8 t)*H (K3 t)else Ao t*Ag (K0 t) (K3 t) p*H (K8 t))) (λg'=>g'=g++f++c++gs++y) [.int (Ao t*Ag p (K3 t) (K8 t)*H (K0 t)),.int (Ao t*Ag (K0 t) p (K8 t)*H (K3 t)),.int (Ao t*Ag (K0 t) (K3 t) p*H (K8 t))] rfl (λk g' _=>by rw[<-ran3];exact aC) (λj hj=>?_) #[3] rfl ?_
  .simp only [Wc,T6,Qq]at hj
   rcases hj with rfl|rfl|rfl
   .simp?
    rintro g' rfl;simp?[a,K,J _ W,id,sA]
   .simp?
    rintro g' rfl;simp?[a,K,J _ V,id,sB]
   .simp?
    rintro g' rfl;simp?[a,K,J _ R,id,sC]
  .rintro g' rfl
   refine⟨by simp,?_⟩
   have I:Aq (.Z1 [.int p.1,.int p.2]) u (g++f++c++gs++y++[Z6.S [.int (Ao t*Ag p (K3 t) (K8 t)*H (K0 t)),.int (Ao t*Ag (K0 t) p (K8 t)*H (K3 t)),.int (Ao t*Ag (K0 t) (K3 t) p*H (K8 t))]])=some (some (.int (H p))):=by rw[gi (aX (aX (aX (aX (aX Z))))) aH,hk p L]
   have da:=rg H t p;simp?[Di,AN,ah,intsOf,List.sum_cons,List.sum_nil,I,id,z1,c7,da];have dd:((B1 H t p).natAbs:Int)=Bo H t p:=rfl;rw[dd];refine ai (λk1=>?_) λk1=>?_
   .have k2:(((KZ t).take k).foldl (AK H t) (-1,none)).1<Bo H t p:=by simpa using k1
    have F:[p].foldl (AK H t) (((KZ t).take k).foldl (AK H t) (-1,none))=(Bo H t p,some p):=XN k2;rw[F];simp?;exact⟨_,_,_,_,_,_,(Xz ..).trans (Xz ..),λ_=>rfl,rfl⟩
   .have k2 : ¬ (((KZ t).take k).foldl (AK H t) (-1,none)).1<Bo H t p:=by simpa using k1
    have F:[p].foldl (AK H t) (((KZ t).take k).foldl (AK H t) (-1,none))=((KZ t).take k).foldl (AK H t) (-1,none):=Xy k2;rw[F];simp?;exact⟨_,_,_,_,_,_,(Xz ..).trans (Xz ..),λ_=>rfl,rfl⟩
 .obtain ⟨gs,T,Lg,o2,B,A,rfl,E,rfl⟩:=w
  have Zg:(KZ t).length≠0:=by
   have:=List.length_pos_of_mem (qD (t:=t));lia
  rw[YK]at E;have X6:=E Zg;subst X6;rw[YK,Rk];simp?;refine pP (by lia) (by unfold YB As;lia) ?_
  simp?;simp![Xz];exact h _
def o9{k:Int}(j:Bag g)(h:∀(v:Int) (g':G),-1000<=v->v<=1000->Fr g g'->Q (.int v) g'):Ki M (d+2) 51 [.ref 2,.int k] g X Q:=by
 simp? only[Fk];simp?
 refine ai (λk1=>?_) λk1=>?_
 .simp?
  refine aF j.app #[1] #[1] λr a t o c=>?_
  have B:a[g.length]?=some (.S (([0,0,0,0,0,7,-5]:List Int).map U.int)):=c.get _ _ (by have:=j.len;lia) ah
  let⟨v,z,A⟩:=bM (l:=([0,0,0,0,0,7,-5]:List Int)) (f:=U.int) t (by exact o)
  have u : -1000<=v/\v<=1000:=by
   simp![Wc,T6,Qq]at z;lia
  have C:JN [U.int 0,U.int 0,U.int 0,U.int 0,U.int 0,U.int 7,U.int (-5)] r=some (.int v):=A;simp?[B,C];exact h v a u.1 u.2 (Fr.trans (Fr.app j) c)
 .simp?
  refine ai (λk2=>?_) λk2=>?_
  .simp?
   refine aF j #[1] #[1] λr a t o c=>?_
   simp?;exact h _ a (by lia) (by lia) c
  .simp?
   refine ai (λk3=>?_) λk3=>?_
   .simp?
    refine aF j #[1] #[1] λr a t o c=>?_
    simp?;exact h _ a (by lia) (by lia) c
   .simp?
    refine ai (λy=>?_) λy=>?_
    .simp?
     refine aF j #[1] #[1] λr a t o c=>?_
     have w:small 2000:=⟨by decide,by decide⟩
     simp?[w];exact h (r*2000-1000) a (by lia) (by lia) c
    .simp?
     exact h 0 g #[1] #[1] (Fr.refl j)
def jg{k:Nat}(h:(Ad P)[k]?=some p):p ∉ (Ad P).take k:=by
 intro c;have hs:=oA P;let⟨hk,e⟩:=Yh.mp h;let⟨j,d,b⟩:=List.mem_iff_getElem.mp c;rw[List.getElem_take]at b;have a:j<k:=by rw[TK]at d;lia
 have:=List.pairwise_iff_getElem.mp hs j k (by lia) hk a
 rw[b,e]at this;exact u0 this
def oB(K:P.ok)(hb:Bag g)(h:∀(H:Ht) (m:Nat) (g':G),Lf P H->Fr g g'->g.length<=m->g'[m]?=some (.ZN (La Af (λp=>.int (H p)) (Ad P)))->Q (.ref m) g'):Ki M (d+3) 52 [.ref 2,Zm P] g X Q:=by
 have hl:=fA K;have Wa:=K.ws;have Yz:=K.ds;simp? only[ET]
 simp?;refine aF hb #[1] #[1] λkd g1 k0 k1 f1=>?_
 simp?;refine aF f1.Za #[1] #[1] λV g2 a0 a1 f2=>?_
 simp?;refine aF f2.Za #[1] #[1] λT j b0 b1 f3=>?_
 have W:Fr g j:=(f1.trans f2).trans f3;have l3:=W.len;have b3:=hb.len;simp?;refine oG K λgs n hn e=>?_;have F4:Fr g (j++[Z6.ZN []]++gs):=(W.trans (Fr.app W.Za)).trans (Fr.app W.Za.app);have Zv:j.length<n:=by simp at hn;lia
 simp?[e];refine aA ((Ad P).map uP) (λk Y g'=>∃(H:Ht) (o:Option U),Fr g g'/\g'[n]?=some (.S ((Ad P).map uP))/\g'[j.length]?=some (.ZN (La Af (λp=>.int (H p)) ((Ad P).take k)))/\(∀p,-1000<=H p/\H p<=1000)/\Y=[some (.ref 2),some (Zm P),some (.int kd),some (.int (V-20)),some (.int (T-20)),some (.ref j.length),o]) (λk Y g' E=>?_) ⟨λ_=>0,none,F4,e,?_,λ_=>(by decide:(-1000:Int)<=0/\(0:Int)<=1000),rfl⟩ (λk u Y g' hk E=>?_) (λY g' E=>?_)
 .obtain ⟨H,o,_,e,_⟩:=E
  exact bw e
 .exact ae (by simp[La])
 .obtain ⟨H,o,fr,el,R,L,rfl⟩:=E
  simp![Wd,YU]at hk;let⟨p,J,rfl⟩:=hk;have Y4:=bW.mp (bF.mp (W5 J));have UX:k<(Ad P).length:=(Yh.mp J).1;have new:=jg J;have et:(Ad P).take (k+1)=(Ad P).take k++[p]:=by rw[Te,J];rfl
  simp?;refine o9 fr.Za λv N v0 v1 f5=>?_;have t:=f5.get _ _ (by lia) R
  have F:=f5.get _ _ (by lia) el
  have ln:(La Af (λp=>U.int (H p)) ((Ad P).take k)).length<16777000:=by simp![La,YK,TK];lia
  have sb:∀Y,subAt (.ref j.length) (.Z1 [.int p.1,.int p.2]) (.int v) Y N=.ok (.nx Y) (N.set j.length (.ZN (La Af (λq=>.int (if q=p then v else H q)) ((Ad P).take (k+1))))):=λY=>by
   rw[bX t aH ln,et,kX (λa b=>bz) new];congr 4;funext q;split<;>rfl
  have UB:=fr.trans f5;have y:Fr g (N.set j.length (.ZN (La Af (λq=>.int (if q=p then v else H q)) ((Ad P).take (k+1))))):=Fr.Tw UB l3 (by lia)
  have H6:∀q,-1000<=(if q=p then v else H q)/\(if q=p then v else H q)<=1000:=λq=>by
   split
   .exact ⟨v0,v1⟩
   .exact L q
  simp?[sb];refine ai (λc5=>?_) λc5=>?_
  .have z1:small (V-20):=av (by lia) (by lia)
   have z2:small (T-20):=av (by lia) (by lia)
   simp?[z1,z2];generalize D:List.set N j.length (Z6.ZN (La Af (λq=>.int (if q=p then v else H q)) ((Ad P).take (k+1))))=g6 at y
   have ed6:g6[j.length]?=some (Z6.ZN (La Af (λq=>.int (if q=p then v else H q)) ((Ad P).take (k+1)))):=by rw[<-D];exact aL t
   have el6:g6[n]?=some (.S ((Ad P).map uP)):=by rw[<-D,X9 (by lia)];exact F
   refine aF y.Za.app #[1] #[1] λr g7 r0 r1 O=>?_
   have e7:g7[g6.length]?=some (.S (([0,0,0,1]:List Int).map U.int)):=O.get _ _ (by have:=y.len;lia) ah
   let⟨w,hw,hu⟩:=bM (l:=([0,0,0,1]:List Int)) (f:=U.int) r0 (by exact r1)
   have hr:0<=w/\w<=1:=by
    simp![Wc,T6,Qq]at hw;lia
   have T_:JN [U.int 0,U.int 0,U.int 0,U.int 1] r=some (.int w):=hu;have I:=O.get _ _ (by lia) (ae (gs:=[.S [.int 0,.int 0,.int 0,.int 1]]) ed6)
   have el7:=O.get _ _ (by lia) (ae (gs:=[.S [.int 0,.int 0,.int 0,.int 1]]) el6)
   have Z:(La Af (λq=>U.int (if q=p then v else H q)) ((Ad P).take (k+1))).length<16777000:=by simp![La,YK,TK];lia
   obtain⟨v',C⟩:∃v',v'=(V-20)*p.1+(T-20)*p.2+w:=⟨_,rfl⟩;have bv : -1000<=v'/\v'<=1000:=by
    have q1:=mf (a:=V-20) (b:=p.1) (A:=20) (B:=24) (by lia) (by lia)
    have q2:=mf (a:=T-20) (b:=p.2) (A:=20) (B:=24) (by lia) (by lia)
    omega
   have z:∀Y,subAt (.ref j.length) (.Z1 [.int p.1,.int p.2]) (.int v') Y g7=.ok (.nx Y) (g7.set j.length (.ZN (La Af (λq=>.int (if q=p then v' else H q)) ((Ad P).take (k+1))))):=λY=>by
    rw[bX I aH Z,rZ (λa b=>bz) (by rw[et];simp)]
    congr 4;funext q;by_cases c:q=p<;>simp[c]
   rw[C]at z;simp?[e7,T_,z];rw[<-C];refine⟨_,_,Fr.Tw ((y.trans (Fr.app y.Za)).trans O) l3 (by lia),?_,aL I,λq=>?_,rfl⟩
   .rw [X9 (by lia)];exact el7
   .split
    .exact bv
    .exact L q
  .simp?
   refine⟨_,_,y,?_,aL t,H6,rfl⟩;rw[X9 ()];exact F
 .obtain ⟨H,o,fr,el,R,L,rfl⟩:=E
  simp?;rw[YK,Rk]at R;exact h H _ g' (λp _=>L p) fr l3 R
def i6(t:P.ok)(F:JI u g=some O)(I:∀p,Ax P p=true->Aj O (Af p)=some (.int (H p)))(h:∀(gs:G) (n:Nat),RowsAt (g++gs) n P H->Q (.ref n) (g++gs)):Ki M (d+1) 53 [Zm P,u] g X Q:=by
 have s1:=t.ss;have V:=t.ws;have T:=t.ds;have B:Ah (P.w*P.s+1)=true:=ak () ()
 have r2:Ah (P.d*P.s+1)=true:=ak () ()
 simp? only[Fo]
 simp?[s1,r2];refine aA ((KN (P.d*P.s+1)).map U.int) (λk Y g'=>∃(ms:List Nat) (gs:G) (o:Option U),g'=g ++ .S (ms.map U.ref)::gs/\ms.length=k/\(∀(y m:Nat),ms[y]?=some m->g.length<m/\g'[m]?=some (.S ((KN (P.w*P.s+1)).map λx=>.int (H (x,(y:Int))))))/\Y=[some (Zm P),some u,some (.ref g.length),o]) (λk Y g' _=>aC) ⟨[],[],_,rfl,rfl,λy m e=>by simp at e,rfl⟩ (λk N Y g' A z=>?_) (λY g' z=>?_)
 .obtain ⟨ms,gs,o,rfl,a,r,rfl⟩:=z
  simp![Wd,YU]at A;let⟨y,D,rfl⟩:=A;let⟨rfl,C⟩:=df D;simp?[bZ,s1,B];refine cH (KN (P.w*P.s+1)) U.int (λ_=>true) (λx=>.int (H (x,(k:Int)))) (λg'=>g'=g ++ .S (ms.map U.ref)::gs) ((KN (P.w*P.s+1)).map λx=>.int (H (x,(k:Int)))) (by rw[d8]) (λk g' _=>aC) (λx E=>?_) (by rw[ar];omega) rfl ?_
  .have WO:=eS.mp E
   have L:Aq (.Z1 [.int x,.int (k:Int)]) u (g ++ .S (ms.map U.ref)::gs)=some (some (.int (H (x,(k:Int))))):=by
    rw[gi (aX F) aH,I (x,(k:Int)) (dW ⟨by omega,by omega,by omega,by lia⟩)]
   simp?;rintro g' rfl;simp?[L,id]
  .rintro g' rfl
   have ap:A5 g.length (.ref (g++Z6.S (ms.map U.ref)::gs).length) (g++Z6.S (ms.map U.ref)::gs++[.S ((KN (P.w*P.s+1)).map λx=>.int (H (x,(k:Int))))])=.ok .ZR (g ++ .S ((ms++[(g++Z6.S (ms.map U.ref)::gs).length]).map U.ref)::(gs++[.S ((KN (P.w*P.s+1)).map λx=>.int (H (x,(k:Int))))])):=by
    rw[cS (xs:=ms.map U.ref) #[3] (by rw[YK];lia)]
    simp
   refine⟨by rw[YK,ar];omega,?_⟩
   simp?[ap];refine⟨_,_,_,rfl,by simp[a],λy m e=>?_,rfl⟩
   rcases Nat.lt_or_ge y ms.length with c|c
   .rw [Wt c]at e
    let⟨m1,f⟩:=r y m e;refine⟨m1,?_⟩;have R:m<(g++Z6.S (ms.map U.ref)::gs).length:=(Yh.mp f).1;rw[WB (by lia)]at f ⊢
    obtain⟨j,J⟩:∃j,m-g.length=j+1:=⟨m-g.length-1,by lia⟩
    rw[J,R3]at f ⊢;exact ae f
   .have K:y=ms.length:=by
     have:=(Yh.mp e).1;simp at this;lia
    subst K;rw[a];simp at e;subst e;refine⟨by lia,?_⟩
    rw[show g++Z6.S ((ms++[(g++Z6.S (ms.map U.ref)::gs).length]).map U.ref)::(gs++[Z6.S ((KN (P.w*P.s+1)).map λx=>.int (H (x,(k:Int))))])=(g++Z6.S ((ms++[(g++Z6.S (ms.map U.ref)::gs).length]).map U.ref)::gs)++[Z6.S ((KN (P.w*P.s+1)).map λx=>.int (H (x,(k:Int))))]by simp]
    rw[WB #[3]]
    simp
 .obtain ⟨ms,gs,o,rfl,a,r,rfl⟩:=z
  simp?;rw[YK,ar]at a;refine h _ _ ⟨ms,bZ,a,λy m e=>(r y m e).2⟩
def qw:(Cz.all λP=>decide (0<(KS P).length))=true:=by decide +kernel
def qQ(h:P.ok):0<(KS P).length:=by
 have:=Wj.mp qw P (cU h);simpa using this
def iT(c:P.ok)(C:Bag g)(h:∀(t:ZO) (g':G),t∈KU P->Fr g g'->Q (uT t) g'):Ki M (d+3) 54 [.ref 2,Zm P] g X Q:=by
 have Z:=fN c;have hp:=qQ c;simp? only[Ff]
 simp?;refine iN c λYI n W e=>?_;simp?[e,YK];refine aF C.app (by lia) (by lia) λr g2 w j F=>?_
 have B:3<=n:=by have:=C.len;lia
 have V:=F.get n _ B e;let⟨J,A,L⟩:=bM (f:=uT) w j;simp?[V,L];refine aF F.Za (by lia) (by lia) λk O k0 k1 R=>?_
 have rk:Ah k=true:=ak (by lia) (by lia)
 have E:Fr g O:=((Fr.app C).trans F).trans R;simp?[rk];refine aA ((KN k).map U.int) (λ_ Y g'=>∃(t:ZO) (o:Option U),t∈KU P/\Fr g g'/\Y=[some (.ref 2),some (Zm P),some (.ref n),some (uT t),o]) (λk Y g' _=>aC) ⟨J,_,oZ A,E,rfl⟩ (λk u Y g' hk D=>?_) (λY g' D=>?_)
 .obtain ⟨t,o,a,fr,rfl⟩:=D
  simp?;refine ft ?_;cases hm:Bd t with
  |none=>
   simp?[KR,AG];exact⟨t,_,a,fr,rfl⟩
  |some m=>
   simp?[KR,AG];refine iK hm λVi K N T=>?_;have h2:(Ak t).length=2:=by rw[cL hm];rfl
   simp?;refine aF fr.Za.app #[1] #[1] λr g5 w j H=>?_
   have S:=H.get K _ (by have:=fr.Za.len;lia) T
   let⟨I,z,y⟩:=bM (f:=uT) (l:=Ak t) w (by rw[h2];exact j)
   simp?[S,y];exact⟨I,_,oY c a z,(fr.trans (Fr.app fr.Za)).trans H,rfl⟩
 .obtain ⟨t,o,a,fr,rfl⟩:=D
  simp?;exact h t g' a fr
def oX(j:P.ok)(t:P.w*P.s<=8/\P.d*P.s<=8)(i:g[m]?=some (.ZN (La Af (λp=>.int (H p)) (Ad P))))
  (h:∀(g':G) (n hc mk:Nat),Kp m g g'->Wu g' n hc mk->g'[hc]?=some (.ZN (La Af (λp=>.int (H p)) (Ad P)))->g'[mk]?=some (.ZN (La Af (λ_=>.int 0) (Ad P)))->g.length<=mk->n≠mk->hc≠mk->Q (.ref n) g'):Ki M (d+1) 55 [.ref m] g X Q:=by
 have B:=fA j;have D:=j.ws;have C:=j.ds;have v:m<g.length:=(Yh.mp i).1;have y:Ad P≠[]:=λe=>by have:(0,0)∈Ad P:=bF.mpr (dW ⟨by decide,by simp only;lia,by decide,by simp only;lia⟩);rw[e]at this;cases this
 simp? only[Fe]
 simp?[ae i];refine aA ((Ad P).map uP) (λk Y g'=>∃o,Kp m g g'/\g'[m]?=some (.Zu (La Af (λp=>.int (H p)) (Ad P)))/\g'[g.length]?=some (.ZN (La Af (λ_=>.int 0) ((Ad P).take k)))/\Y=[some (.ref m),some (.ref g.length),o]) (λk Y g' f=>?_) ⟨none,Kp.app.trans Kp.set,aL (ae i),?_,rfl⟩ (λk u Y g' hk f=>?_) (λY g' f=>?_)
 .obtain ⟨o,_,e,_⟩:=f
  exact j2 e
 .rw [X9 (by lia)];simp[La]
 .obtain ⟨o,kp,l,c,rfl⟩:=f
  simp![Wd,YU]at hk;let⟨p,r,rfl⟩:=hk;have new:=jg r;have z:(Ad P).take (k+1)=(Ad P).take k++[p]:=by rw[Te,r];rfl
  have x:(La Af (λ_=>U.int 0) ((Ad P).take k)).length<16777000:=by simp![La,YK,TK];lia
  have sb:∀Y,subAt (.ref g.length) (.Z1 [.int p.1,.int p.2]) (.int 0) Y g'=.ok (.nx Y) (g'.set g.length (.ZN (La Af (λ_=>.int 0) ((Ad P).take (k+1))))):=λY=>by
   rw[bX c aH x,z,kX (λa b=>bz) new];congr 4;funext q;split<;>rfl
  simp?[sb];refine⟨_,kp.Tw (HR _),?_,aL c,rfl⟩;rw[X9 (by lia)];exact l
 .obtain ⟨o,kp,l,c,rfl⟩:=f
  rw[YK,Rk]at c;have A:JI (.ref m) g'=some (La Af (λp=>.int (H p)) (Ad P)):=by simp![JI,l]
  have gl:g.length<g'.length:=(Yh.mp c).1;simp?[yx t.1 t.2 y A];refine h _ _ g'.length g.length kp.more.more.more.more ⟨_,ah,by rfl,by rfl,by rfl,by rfl⟩ ?_ ?_ (HR _) ?_ (by lia)
  .exact ae (ae (ae ah))
  .exact ae (ae (ae (ae c)))
  .simp only [Xq,X8,Vq];lia
def oF(j:P.ok)(x:Land0 R g v P H)(hR : ¬ R mk)(Z9:Wu g n hc mk)(y:g[hc]?=some (.ZN (La Af (λp=>.int (H p)) (Ad P))))(I:g[mk]?=some (.ZN (La Af (λ_=>.int 0) (Ad P))))(F:n≠mk)(E:hc≠mk)
  (h:∀g':G,Q (.bl true) g'):Ki M (d+6) 56 [.ref v,Zm P,.ref n] g X Q:=by
 let⟨hN,O,S,T,gN,hk,h1,_⟩:=id x;unfold AI at h1;simp? only[E3]
 simp?[h1];refine pF j x λf m1 L=>?_;have M1:=Z9.app (gs:=f);have K:JI (.ref hc) (g++f)=some (La Af (λp=>.int (H p)) (Ad P)):=by simp![JI,ae y]
 simp?[M1.look.1];refine i6 j K (λp r=>dn (key:=Af) (λa b=>bz) (bF.mpr r)) λi N R2=>?_;simp?;refine aN 3 (CG P H) _ _ _ (u9 j) (kY L.app) (kY R2) ?_;have M2:=M1.app (gs:=i);have L2:=(x.app (gs:=f)).app (gs:=i);have w:=ae (gs:=i) (ae (gs:=f) y);have m:=ae (gs:=i) (ae (gs:=f) I);have q:=ae (gs:=i) (ae (gs:=f) h1);generalize g++f++i=g2 at *;simp?[q];refine aN 2 (Ll P) _ _ _ acQ m8 m8 ?_;simp?[q,M2.look.2.1];refine aN 1 (.int 0) _ _ _ bB au au ?_;simp?[q,M2.look.2.2.1];refine aN 1 (.int 0) _ _ _ bB au au ?_;simp?[M2.look.2.2.2,m];refine aA ((Ad P).map uP) (λk Y g'=>Kp mk g2 g'/\g'[mk]?=some (.Zu (La Af (λ_=>.int 0) (Ad P))) /\∃o,Y=[some (.ref v),some (Zm P),some (.ref n),some (.bl true),o]) (λk Y g' l=>j2 l.2.1) ⟨Kp.set,aL m,_,rfl⟩ (λk u Y g' hk l=>?_) (λY g' l=>?_)
 .obtain ⟨kp,s,o,rfl⟩:=l
  simp![Wd,YU]at hk;let⟨p,r,rfl⟩:=hk;have c:=W5 r;have z:=bF.mp c;have C:=L2.kp kp hR;have B:=M2.kp kp F;have A:=kp.get v _ (λe=>by let⟨_,_,_,_,_,_,_,_,_,_,D,_⟩:=L2;exact hR (e ▸ D)) q
  have t:=kp.get hc _ E w;have J:Aq (.Z1 [.int p.1,.int p.2]) (.ref mk) g'=some (some (.int 0)):=by rw[rJ s aH,dn (key:=Af) (λa b=>bz) c]
  have KQ:Aq (.Z1 [.int p.1,.int p.2]) (.ref hc) g'=some (some (.int (H p))):=by rw[aO t aH,dn (key:=Af) (λa b=>bz) c]
  simp?[A];refine oW j C z ?_;simp?[B.look.2.2.2,J,id];refine aN 1 (.int 0) _ _ _ bB au au ?_;simp?[A];refine oH j C z ?_;simp?[B.look.1,KQ,id];refine aN 1 (.int (H p)) _ _ _ bB au au ?_;simp?;exact⟨kp,s,_,rfl⟩
 .obtain ⟨kp,s,o,rfl⟩:=l
  simp?;exact h _
def Lm(o:Option Pt):Dt:=match o with
 |none=>.ZR
 |some p=>KP p
def abN{o:Option Pt}:Rep g (Lm o) (KR o):=by
 cases o with
 |none=>exact vq
 |some p=>exact nH
def Ln(H:Ht)(t:ZO):Dt:=.Z1 [KP (G7 H t),Lm (Df H t).2]
def nK{t:ZO}:Rep g (Ln H t) (uG H t):=by
 simp![Ln,Rep];refine⟨_,rfl,?_⟩;simp![Reps];exact⟨_,_,rfl,nH,_,_,rfl,abN,rfl⟩
def ok_G{t:ZO}:(Ln H t).ok (n+3):=by
 unfold Ln;rw[Dt.UO];refine⟨by simp,λD h=>?_⟩
 simp at h;rcases h with rfl|rfl
 .exact oa
 .cases (Df H t).2 with
  |none=>exact aav
  |some p=>exact oa
def pv{t:ZO}(c:P.ok)(a:Y0 g v P H hN gN)(e:Lf P H)(b:t∈KU P)(h:∀g',Y0 g' v P H hN gN->Kp gN g g'->Q (uG H t) g'):Ki M (d+8) 57 [.ref v,uT t,.bl false] g X Q:=by
 let⟨j,i,k,l,m,h1⟩:=a.ins;unfold AI at h1;simp? only[DK]
 simp?;refine ni ?_;simp?[h1];refine pU (d:=d+1) c a e b λg' f K=>?_;simp?;refine⟨_,rfl,?_⟩;simp?;exact h g' f K
def iM{t:ZO}(a:Y0 g v P H hN gN)(c:t ∉ KU P)(h:Q (.Z1 [.str (PySem.Str.ofString "refused"),uT t,.bl true,.bl false]) g):Ki M (d+8) 57 [.ref v,uT t,.bl b] g X Q:=by
 let⟨f,e,i,j,k,h1⟩:=a.ins;unfold AI at h1;simp? only[DK]
 simp?;refine ni ?_;cases b with
 |false=>
  simp?[h1];refine iV (d:=d+1) a c ⟨_,rfl,by simp,.inr rfl,?_⟩
  simp?;exact h
 |true=>
  simp?[h1];refine oJ (d:=d) a c ⟨_,rfl,by simp,.inr rfl,?_⟩
  simp?;exact h
def sL:JE .pow (.int 10) (.int 20)=some (.int 100000000000000000000):=by simp[JE,JD]
def asDk(h:g[m]?=some (.ZN O)):JI (.ref m) g=some O:=by simp![JI,h]
def uw{xs:List Int}(h:xs.length=6):∃t:ZO,xs.map U.int=[.int t.ax,.int t.ay,.int t.bx,.int t.bY,.int t.cx,.int t.cy]:=by
 match xs,h with
 |[a,b,c,d,e,f],_=>exact⟨⟨a,b,c,d,e,f⟩,rfl⟩
structure Yb(g:G)(v m hN gN:Nat)(P:Plan)(H:Ht):Prop where
 Za:Bag g
 at_:Y0 g v P H hN gN
 l0:Land0 (λj=>3<=j/\j≠gN/\j≠m) g v P H
 ht:g[m]?=some (.ZN (La Af (λp=>.int (H p)) (Ad P)))
 ne:3<=m/\3<=v/\3<=hN/\3<=gN/\m≠gN
def Yb.app{g gs:G}{v m a b:Nat}{H:Ht}(I:Yb g v m a b P H):Yb (g++gs) v m a b P H:=⟨I.Za.app,I.at_.app,I.l0.app,ae I.ht,I.ne⟩
def Yb.fr{g g':G}{v m a b:Nat}{H:Ht}(I:Yb g v m a b P H)(f:Fr g g'):Yb g' v m a b P H:=by
 let⟨i,e,d,c,k⟩:=I.ne;exact⟨f.Za,I.at_.fr f e d c,I.l0.fr f λj h=>h.1,f.get _ _ i I.ht,I.ne⟩
def Yb.gap(I:Yb g v m hN gN P H)(A:Y0 g' v P H hN gN)(K:Kp gN g g'):Yb g' v m hN gN P H:=by
 let⟨e,d,c,b,a⟩:=I.ne;exact⟨Bag.kp I.Za K b,A,I.l0.kp K λh=>h.2.1 rfl,K.get _ _ a I.ht,I.ne⟩
def Lo(t:ZO):Dt:=.Z1 [.str (PySem.Str.ofString "refused"),dT t,.bl true,.bl false]
def eY{t:ZO}:Rep g (Lo t) (.Z1 [.str (PySem.Str.ofString "refused"),uT t,.bl true,.bl false]):=by
 simp![Lo,Rep,Reps];exact⟨_,rfl,_,_,rfl,rfl,_,_,rfl,acP,_,_,rfl,rfl,_,_,rfl,rfl,rfl⟩
def nG{t:ZO}:(Lo t).ok (n+3):=by
 unfold Lo;rw[Dt.UO];refine⟨by simp,λD h=>?_⟩
 simp![Wc,T6,Qq]at h;rcases h with rfl|rfl|rfl|rfl
 .simp [Dt.ok]
 .exact ok_T
 .exact fb
 .exact fb
def mV{c:List Z5}{Q:Fl->G->Prop}(P:Su->G->Prop)(b:∀Y g,P Y g->wpS M d c Y g X Q):∀(a:List Z5) (Y:Su) (g:G),wpS M d a Y g X (λf g=>∃ZX,f=.nx ZX/\P ZX g)->wpS M d (a++c) Y g X Q
 |[],Y,g,h=>by
  rw[nZ]at h;let⟨_,e,h⟩:=h;cases e;exact b _ _ h
 |s::a,Y,g,h=>by
  rw[Rj,hG];rw[hG]at h;refine wp_mono h λf g q=>?_;cases f with
  |nx ZX=>exact mV P b a ZX g q
  |_=>let⟨_,e,_⟩:=q;cases e
def Cw:List Z5:=match(CF.body.drop 7).head? with
 |some (.for _ _ b)=>b
 |_=>[]
def tD{e:Nat}{k:List Int}{q:U}{l s r c a:Option U}{Q:Fl->G->Prop}(I:Yb g v m hN gN P H)(j:g[e]?=some (.ZN O))(z:∀t,(Aj O (AB t)).isSome=decide (t∈KU P))(i:g[n]?=some (.S (k.map U.int)))(x:k.length=6)
  (h:∀u w,Q (.nx [some q,some (.ref 2),some (Zm P),some (.ref m),some (.ref v),some (.bl true),l,some u,some w,some (.ref e),some (.ref n),c,a]) g):wpS M (d+11) (Cw.drop 5) [some q,some (.ref 2),some (Zm P),some (.ref m),some (.ref v),some (.bl true),l,s,r,some (.ref e),some (.ref n),c,a] g X Q:=by
 let⟨t,y⟩:=uw x;rw[y]at i;have bt:Ds [.ref n] g=.ok (uT t) g:=by unfold Ds;simp![i]
 have p:Aq (uT t) (.ref e) g=some (Aj O (AB t)):=aO j bP;have gt:=z t;let⟨B,A,C,D,E,o⟩:=I.at_.ins;unfold AI at o;unfold Cw CF;simp![List.drop,List.head?];simp?[i,bt,o];refine dy I.at_ ?_;simp?[j,p,gt];refine aN (d:=d+9) 1 (.bl (decide (t∈KU P))) _ _ _ fb eV eV ?_;simp?[j,p,gt];by_cases f:t∈KU P
 .simp? [f]
  exact h _ _
 .simp? [f]
  refine iM (d:=d+3) (b:=false) I.at_ f ?_;simp?;refine aN (d:=d+7) 3 (Lo t) _ _ _ nG eY eY ?_;simp?;refine iM (d:=d+3) (b:=true) I.at_ f ?_;simp?;refine aN (d:=d+7) 3 (Lo t) _ _ _ nG eY eY ?_;simp?;exact h _ _
def rV{C k:Nat}{TZ:U}{o7 o8 o10 o11 o12:Option U}{Q:Fl->G->Prop}(hP:P.ok)(I:Yb g v m hN gN P H)(ek:g[C]?=some (.ZN O))(TY:3<=C)
  (h:∀(g':G) (n:Nat) (ys:List Int) u w,Yb g' v m hN gN P H->g'[C]?=some (.ZN O)->g'[n]?=some (.S (ys.map U.int))->ys.length=6->Q (.nx [some TZ,some (.ref 2),some (Zm P),some (.ref m),some (.ref v),some (.bl true),some (.int k),o7,o8,some (.ref C),some (.ref n),some u,some w]) g'):wpS M (d+11) (Cw.take 5) [some TZ,some (.ref 2),some (Zm P),some (.ref m),some (.ref v),some (.bl true),some (.int k),o7,o8,some (.ref C),o10,o11,o12] g X Q:=by
 unfold Cw CF;simp![List.drop,List.head?,List.take];simp?;refine iT hP I.Za λt o ht f8=>?_;have B:=I.fr f8;have L:=f8.get _ _ TY ek;simp?;refine aF B.Za.app #[1] #[1] λa g9 a0 a1 f9=>?_
 have I9:=B.app.fr f9;have ek9:=f9.get _ _ TY (ae L);have D:g9[o.length]?=some (.S ([t.ax,t.ay,t.bx,t.bY,t.cx,t.cy].map U.int)):=f9.get _ _ B.Za.len ah;let⟨x,_,W⟩:=bM (l:=[t.ax,t.ay,t.bx,t.bY,t.cx,t.cy]) (f:=U.int) a0 (by exact a1)
 have W:JN [U.int t.ax,U.int t.ay,U.int t.bx,U.int t.bY,U.int t.cx,U.int t.cy] a=some (.int x):=W;have n9:o.length<g9.length:=(Yh.mp D).1;simp?[sL,ae D,W];refine aF (m:=5) I9.Za.app #[1] #[1] λb r b0 b1 T=>?_
 have A:=I9.app.fr T;have N:=T.get _ _ TY (ae ek9);have S7:=T.get _ _ B.Za.len (ae D);have e12:r[g9.length]?=some (.S ([1,0-1,2,P.s,100000000000000000000].map U.int)):=T.get _ _ I9.Za.len ah;let⟨y,_,uy⟩:=bM (l:=[1,0-1,2,P.s,100000000000000000000]) (f:=U.int) b0 (by exact b1)
 have sb:∀(i:Int) Y,subAt (.ref o.length) (.int a) (.int i) Y r=.ok (.nx Y) (r.set o.length (.S (([t.ax,t.ay,t.bx,t.bY,t.cx,t.cy].set a.toNat i).map U.int))):=λi Y=>by
  rw[d0 S7 a0 (by exact a1),List.map_set]
 have uy':JN [U.int 1,U.int (0-1),U.int 2,U.int P.s,U.int 100000000000000000000] b=some (.int y):=uy;have R:r[g9.length]?=some (.S [U.int 1,U.int (0-1),U.int 2,U.int P.s,U.int 100000000000000000000]):=e12;obtain⟨ys,J⟩:∃ys,ys=[t.ax,t.ay,t.bx,t.bY,t.cx,t.cy].set a.toNat (x+y):=⟨_,rfl⟩;have hl:ys.length=6:=by rw[J];simp
 have bl:=B.Za.len;have neK:o.length≠C:=by have:=(Yh.mp L).1;lia
 have V:Yb (r.set o.length (.S (ys.map U.int))) v m hN gN P H:=by
  have K:Kp o.length r (r.set o.length (.S (ys.map U.int))):=Kp.set;have q:=B.at_.lt;have z:=(Yh.mp B.ht).1;let⟨Vg,dN,Zq,Zp,Vf,hk,h1,h2,h3,Z,⟨h5,h6,h7⟩,⟨h8,h9,h10⟩,⟨h11,Vh,UM⟩⟩:=B.l0;have w1:=(Yh.mp h1).1;have w2:=(Yh.mp h2).1;have w3:=(Yh.mp Z).1;have Z8:Land0 (λj=>(3<=j/\j≠gN/\j≠m)/\j≠o.length) o v P H:=⟨Vg,dN,Zq,Zp,Vf,hk,h1,h2,h3,Z,⟨⟨h5,h6,h7⟩,by lia⟩,⟨⟨h8,h9,h10⟩,by lia⟩,⟨⟨h11,Vh,UM⟩,by lia⟩⟩
  have L10:=((Z8.app.fr f9 λj h=>h.1.1).app.fr T λj h=>h.1.1).kp K λh=>h.2 rfl;let⟨Vg,dN,Zq,Zp,Vf,hk,h1,h2,h3,Z,h5,h6,h7⟩:=L10;exact⟨Bag.kp A.Za K bl,A.at_.kp K (by lia) (by lia) (by lia),⟨Vg,dN,Zq,Zp,Vf,hk,h1,h2,h3,Z,h5.1,h6.1,h7.1⟩,K.get _ _ (by lia) A.ht,A.ne⟩
 have Sy:(r.set o.length (.S (ys.map U.int)))[C]?=some (.ZN O):=by rw[X9 neK];exact N
 have S4:(r.set o.length (.S (ys.map U.int)))[o.length]?=some (.S (ys.map U.int)):=aL S7;simp?[R,uy',S7,sb,W,<-J];generalize r.set o.length (.S (ys.map U.int))=E at *;refine ai (λc=>?_) λc=>?_
 .obtain ⟨zs,F⟩:∃zs,zs=CZ ys (some 2) none:=⟨_,rfl⟩
  obtain⟨ws,Wa⟩:∃ws,ws=CZ ys none (some 2):=⟨_,rfl⟩;have l6:zs.length=4/\ws.length=2:=by
   rw[F,Wa]
   match ys,hl with
   |[_,_,_,_,_,_],_=>exact⟨rfl,rfl⟩
  have s1:Bz (.ref o.length) (some 2) none E=.ok (.ref E.length) (E++[.S (zs.map U.int)]):=by unfold Bz;simp![S4,gO,<-F,alloc]
  have s2:Bz (.ref o.length) none (some 2) (E++[.S (zs.map U.int)])=.ok (.ref (E++[Z6.S (zs.map U.int)]).length) (E++[.S (zs.map U.int)]++[.S (ws.map U.int)]):=by unfold Bz;simp![ae S4,gO,<-Wa,alloc]
  simp?[s1,s2];refine mR (ae ah) ah (by rw[YK,YK,l6.1,l6.2];decide) ?_
  simp?;exact h _ _ (zs++ws) _ _ V.app.app.app (ae (ae (ae Sy))) (by rw[SF];exact ah) (by rw[Xq];lia)
 .simp?
  exact h _ _ ys _ _ V Sy S4 hl
def law_ok(ns:List Int):Ki M (d+12) 58 [.Zs (ns.map U.int)] [] X λu _=>u=.bl true:=by
 simp? only[CF]
 simp?;refine qp ns λzs=>?_;have hb:Bag [.S (zs.map U.int),.S (zs.map U.int),BE 1 0 7]:=⟨zs,0,7,rfl,rfl⟩;revert hb;generalize([.S (zs.map U.int),.S (zs.map U.int),BE 1 0 7]:G)=g0;intro hb;simp?;refine oS hb λP g1 hm f1=>?_;have c:=u6 hm;have h8:P.w*P.s<=8/\P.d*P.s<=8:=by
  simp![BM,Wc,T6,Qq]at hm;rcases hm with rfl|rfl|rfl|rfl|rfl|rfl|rfl|rfl|rfl|rfl|rfl|rfl<;>decide
 simp?;refine oB c f1.Za λH m g2 hH f2 hm1 e2=>?_;have l1:=f1.Za.len;have C:∀p,Ax P p=true->Aj (La Af (λp=>U.int (H p)) (Ad P)) (Af p)=some (.int (H p)):=λp hp=>dn (key:=Af) (λa b=>bz) (bF.mpr hp);have m2:m<g2.length:=(Yh.mp e2).1;have b2:=f2.Za.len;simp?;refine i6 c (asDk e2) C λA n4 R4=>?_;simp?;refine ot c R4 hH λB hN gN n1 n2 LA LZ=>?_;have I0:Yb (g2++A++B) (g2++A).length m hN gN P H:=by
  have l2:(g2++A).length=g2.length+A.length:=Xq;refine⟨f2.Za.app.app,LA,?_,ae (ae e2),by lia⟩
  let⟨Vg,J,N,Q,Vf,hk,h1,h2,h3,E,⟨h5,h6,h7⟩,⟨h8,h9,h10⟩,⟨h11,Vh,UM⟩⟩:=LZ;exact⟨Vg,J,N,Q,Vf,hk,h1,h2,h3,E,⟨by lia,h7,by lia⟩,⟨by lia,h10,by lia⟩,⟨by lia,UM,by lia⟩⟩
 generalize(g2++A).length=v at *;generalize g2++A++B=g3 at *;have r8:Ah 8=true:=ak #[1] #[1]
 have r3:Ah 3=true:=ak #[1] #[1]
 simp?[r8];refine aA ((KN 8).map U.int) (λk Y g=>Yb g v m hN gN P H /\∃Lg o2 f,Y=[some (.Zs (ns.map U.int)),some (.ref 2),some (Zm P),some (.ref m),some (.ref v),some (.bl true),Lg,o2,f,none,none,none,none]) (λk Y g' _=>aC) ⟨I0,_,_,_,rfl⟩ (λk u Y g4 hk r=>?_) (λY g4 r=>?_)
 .obtain ⟨I,Lg,o2,f,rfl⟩:=r
  simp?;refine iT c I.Za λt g5 ht f5=>?_;have I5:=I.fr f5;simp?;refine qc c ht hH (asDk I5.ht) C λy=>?_;have R:=I5.app (gs:=y);simp?;refine pv (d:=d+3) c R.at_ hH ht λF A7 K7=>?_;have o:=R.gap A7 K7;simp?;refine aN (d:=d+7) 3 (Ln H t) _ _ _ ok_G nK nK ?_;let⟨ed,tr,J,N,Q,i7⟩:=o.at_.ins;unfold AI at i7;simp?[i7];refine dy o.at_ ?_;simp?[ht];refine aN (d:=d+9) 1 (.bl true) _ _ _ fb eV eV ?_;simp?;exact⟨o,_,_,_,rfl⟩
 .obtain ⟨I,Lg,o2,f,rfl⟩:=r
  simp?;refine oC c λB n5 _ e5=>?_;simp?;refine qk e5 (by have:=(cM c).2;lia) λy z O hkn ekn U5=>?_
  have R:=(I.app (gs:=B)).app (gs:=y);have TY:3<=z:=HP (I.app (gs:=B)).Za.len hkn;have kng:z≠gN:=by
   have:=(I.app (gs:=B)).at_.lt;lia
  simp?[r3];refine aA ((KN 3).map U.int) (λk Y g=>Yb g v m hN gN P H/\g[z]?=some (.ZN O) /\∃Lg o2 f W V T,Y=[some (.Zs (ns.map U.int)),some (.ref 2),some (Zm P),some (.ref m),some (.ref v),some (.bl true),Lg,o2,f,some (.ref z),W,V,T]) (λk Y g' _=>aC) ⟨R,ekn,_,_,_,_,_,_,rfl⟩ (λk u Y F hk r=>?_) (λY F r=>?_)
  .obtain ⟨o,D,Lg,o2,f,W,V,T,rfl⟩:=r
   simp![Wd,YU]at hk;let⟨x,hx,rfl⟩:=hk;let⟨rfl,WO⟩:=df hx;refine aY.1 ⟨_,rfl,?_⟩;refine mV (λY g=>∃(n:Nat) (ys:List Int) (u w:U),Yb g v m hN gN P H/\g[z]?=some (.ZN O)/\g[n]?=some (.S (ys.map U.int))/\ys.length=6/\Y=[some (.Zs (ns.map U.int)),some (.ref 2),some (Zm P),some (.ref m),some (.ref v),some (.bl true),some (.int k),o2,f,some (.ref z),some (.ref n),some u,some w]) (λY g c=>?_) (Cw.take 5) _ _ (rV c o D TY λg' n ys u w L K a3 a4=>⟨_,rfl,n,ys,u,w,L,K,a3,a4,rfl⟩);let⟨n,ys,u,w,L,K,a3,a4,rfl⟩:=c;refine tD L K U5 a3 a4 λu' w'=>?_;exact⟨L,K,_,_,_,_,_,_,rfl⟩
  .obtain ⟨o,D,Lg,o2,f,W,V,T,rfl⟩:=r
   simp?;refine oX c h8 o.ht λg8 n8 hc mk k8 M8 c8 mk8 lk ne1 Z=>?_;simp?;have L7:Land0 (λj=>j<F.length/\j≠m) F v P H:=by
    let⟨Vg,J,N,Q,Vf,hk,h1,h2,h3,E,h5,h6,h7⟩:=o.l0;exact⟨Vg,J,N,Q,Vf,hk,h1,h2,h3,E,⟨(Yh.mp h1).1,h5.2.2⟩,⟨(Yh.mp h2).1,h6.2.2⟩,⟨(Yh.mp E).1,h7.2.2⟩⟩
   refine oF c (L7.kp k8 λh=>h.2 rfl) (λh=>Nat.not_lt.mpr lk h.1) M8 c8 mk8 ne1 Z λg9=>?_;simp?
end
def run(ns:List Int)(h:ns.length<=63):∃fu g',Aa M fu 40 58 [.Zs (ns.map U.int)] []=.ok (.bl true) g':=by
 let⟨fu,u,g',e,q⟩:=vI (law_ok (d:=28) (X:=λ_ _ _=>False) ns);subst q;exact⟨fu,g',e⟩
end
end ZI
open PySem PySem.W PyProof.Rows
theorem PySem.Challenge.cw_braemantle_k37_gaps_holds : PySem.Challenge.rw_braemantle_k37_gaps.Holds := by
 refine PI.aan (l:=PySem.Challenge.rw_braemantle_k37_gaps) (T:=ZI.T) (ms:=ZI.ms) (is:=ZI.AX) (M:=ZI.M) (loose:=ZI.loose) (d:=40) (i:=58) (N:=20000) (x:="_law_script") (by kernel_rfl) ZI.all (by kernel_rfl) (by kernel_rfl) (by kernel_rfl) (by kernel_rfl) (by kernel_rfl) ⟨rfl,rfl,rfl,rfl,rfl,by decide +kernel⟩ ?hw rfl ⟨rfl,by decide,by decide,rfl⟩ rfl rfl rfl rfl rfl rfl ZI.run
 case hw=>w_witness2
